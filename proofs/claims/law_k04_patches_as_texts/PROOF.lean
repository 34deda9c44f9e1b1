import PyProof.Rows.All
import Wide.All
import OpenK.AllK
import Wide.FinOn
import PySem.Challenge.RW_manyheads_k04_patches_as_texts
import HandS.Words
import HandS.WordsList
import HandS.WordsDict
import HandS.AnyAll
import HandS.Text
import HandS.StrMore
import HandS.IsInst
import HandS.ForMost
import HandS.FStr
import HandS.TupLe
import KE.IntTextLaws
import KE.IntTextText
import PyProof.Rows.StrIntSpec
import HandS.Small
import HandS.Deep
import HandS.TupAny
import HandS.ExcValue
import KE.DataCmp
import KE.SortData
import HandS.Walk
import HandS.Style
import PyProof.Rows.SeqMore
import HandS.Star
import HandS.Flow
import PyProof.StrBlockL
import KE.GoesEnumKw
import KE.GoesMore
import HandS.Dict
import HandS.More
import KE.KxAffix
import KE.GoesEnum
import HandS.EndTab
import KE.KNest
set_option Elab.async false
set_option linter.all false
set_option maxRecDepth 100000
/-! The text of the row: the defs by their places, and their local names. -/
namespace K1
open PySem PySem.Spec PyProof.Rows L2
def topS (i : Nat) : Stmt := PySem.Challenge.pw_manyheads_k04_patches_as_texts.main.body.getD i (.Pass ⟨0, 0, 0, 0⟩)
def clsS (i j : Nat) : Stmt := match topS i with
  | .ClassDef _ _ _ b .. => b.getD j (.Pass ⟨0, 0, 0, 0⟩)
  | _ => .Pass ⟨0, 0, 0, 0⟩
abbrev sBadRow_init : Stmt := clsS 2 0
abbrev sBadPatch_init : Stmt := clsS 3 0
abbrev sWord : Stmt := topS 10
abbrev sHand : Stmt := topS 11
abbrev sIsTriple : Stmt := topS 12
abbrev sName : Stmt := topS 13
abbrev sPut : Stmt := topS 14
abbrev sEnd : Stmt := topS 15
abbrev sNumO : Stmt := topS 16
abbrev sNameO : Stmt := topS 17
abbrev sLineO : Stmt := topS 18
abbrev sNameT : Stmt := topS 19
abbrev sLineT : Stmt := topS 20
abbrev sWordsO : Stmt := topS 21
abbrev sPatch_init : Stmt := clsS 26 0
abbrev sPatch_told : Stmt := clsS 26 1
abbrev sPatchOfParts : Stmt := topS 27
abbrev sPatchWith : Stmt := topS 28
abbrev sCanKnow : Stmt := topS 29
abbrev sManyDeeds : Stmt := topS 30
abbrev sIsDeed : Stmt := topS 31
abbrev sCanPut : Stmt := topS 32
abbrev sManyPut : Stmt := topS 33
abbrev sCanDo : Stmt := topS 34
abbrev sIsText : Stmt := topS 35
abbrev sReadPatches : Stmt := topS 38
abbrev sWordsAt : Stmt := topS 39
abbrev sReadName : Stmt := topS 40
abbrev sReadKnown : Stmt := topS 41
abbrev sReadDeeds : Stmt := topS 42
abbrev sLinesTold : Stmt := topS 43
abbrev sReadTexts : Stmt := topS 44
abbrev sPatchRows : Stmt := topS 46
abbrev sPatchesText : Stmt := topS 47
abbrev sMixed : Stmt := topS 49
abbrev sDraw : Stmt := topS 50
abbrev sDigit : Stmt := topS 51
abbrev sLLines : Stmt := topS 52
abbrev sLKnown : Stmt := topS 53
abbrev sLDeed : Stmt := topS 54
abbrev sLPatch : Stmt := topS 55
abbrev sLHist : Stmt := topS 56
abbrev sLLineWord : Stmt := topS 57
abbrev sLPatchRows : Stmt := topS 58
abbrev sLSigns : Stmt := topS 59
abbrev sLaw : Stmt := topS 60
theorem scBadRow_init : FnScope ["self", "row", "word"] ["self", "row", "word"] (defScope sBadRow_init) := ⟨rfl, rfl, rfl, by decide +kernel, rfl, by decide +kernel, by decide +kernel⟩
theorem scBadPatch_init : FnScope ["self", "deed"] ["self", "deed"] (defScope sBadPatch_init) := ⟨rfl, rfl, rfl, by decide +kernel, rfl, by decide +kernel, by decide +kernel⟩
theorem scWord : FnScope ["thing"] ["thing"] (defScope sWord) := ⟨rfl, rfl, rfl, by decide +kernel, rfl, by decide +kernel, by decide +kernel⟩
theorem scHand : FnScope ["thing"] ["thing"] (defScope sHand) := ⟨rfl, rfl, rfl, by decide +kernel, rfl, by decide +kernel, by decide +kernel⟩
theorem scIsTriple : FnScope ["thing", "hand", "number", "place"] ["thing"] (defScope sIsTriple) := ⟨rfl, rfl, rfl, by decide +kernel, rfl, by decide +kernel, by decide +kernel⟩
theorem scName : FnScope ["thing", "hand", "number"] ["thing"] (defScope sName) := ⟨rfl, rfl, rfl, by decide +kernel, rfl, by decide +kernel, by decide +kernel⟩
theorem scPut : FnScope ["thing", "hand", "number", "place"] ["thing"] (defScope sPut) := ⟨rfl, rfl, rfl, by decide +kernel, rfl, by decide +kernel, by decide +kernel⟩
theorem scEnd : FnScope ["thing"] ["thing"] (defScope sEnd) := ⟨rfl, rfl, rfl, by decide +kernel, rfl, by decide +kernel, by decide +kernel⟩
theorem scNumO : FnScope ["word"] ["word"] (defScope sNumO) := ⟨rfl, rfl, rfl, by decide +kernel, rfl, by decide +kernel, by decide +kernel⟩
theorem scNameO : FnScope ["word", "parts", "name"] ["word"] (defScope sNameO) := ⟨rfl, rfl, rfl, by decide +kernel, rfl, by decide +kernel, by decide +kernel⟩
theorem scLineO : FnScope ["word", "parts", "line"] ["word"] (defScope sLineO) := ⟨rfl, rfl, rfl, by decide +kernel, rfl, by decide +kernel, by decide +kernel⟩
theorem scNameT : FnScope ["name", "hand", "number"] ["name"] (defScope sNameT) := ⟨rfl, rfl, rfl, by decide +kernel, rfl, by decide +kernel, by decide +kernel⟩
theorem scLineT : FnScope ["line", "hand", "number", "place"] ["line"] (defScope sLineT) := ⟨rfl, rfl, rfl, by decide +kernel, rfl, by decide +kernel, by decide +kernel⟩
theorem scWordsO : FnScope ["row", "words"] ["row"] (defScope sWordsO) := ⟨rfl, rfl, rfl, by decide +kernel, rfl, by decide +kernel, by decide +kernel⟩
theorem scPatch_init : FnScope ["self", "name", "knows", "deeds", "good"] ["self", "name", "knows", "deeds"] (defScope sPatch_init) := ⟨rfl, rfl, rfl, by decide +kernel, rfl, by decide +kernel, by decide +kernel⟩
theorem scPatch_told : FnScope ["self"] ["self"] (defScope sPatch_told) := ⟨rfl, rfl, rfl, by decide +kernel, rfl, by decide +kernel, by decide +kernel⟩
theorem scPatchOfParts : FnScope ["name", "knows", "deeds"] ["name", "knows", "deeds"] (defScope sPatchOfParts) := ⟨rfl, rfl, rfl, by decide +kernel, rfl, by decide +kernel, by decide +kernel⟩
theorem scPatchWith : FnScope ["name", "knows", "deeds", "many", "patch"] ["name", "knows", "deeds", "many"] (defScope sPatchWith) := ⟨rfl, rfl, rfl, by decide +kernel, rfl, by decide +kernel, by decide +kernel⟩
theorem scCanKnow : FnScope ["own", "knows", "before", "name"] ["own", "knows"] (defScope sCanKnow) := ⟨rfl, rfl, rfl, by decide +kernel, rfl, by decide +kernel, by decide +kernel⟩
theorem scManyDeeds : FnScope ["things", "at", "thing"] ["things"] (defScope sManyDeeds) := ⟨rfl, rfl, rfl, by decide +kernel, rfl, by decide +kernel, by decide +kernel⟩
theorem scIsDeed : FnScope ["thing"] ["thing"] (defScope sIsDeed) := ⟨rfl, rfl, rfl, by decide +kernel, rfl, by decide +kernel, by decide +kernel⟩
theorem scCanPut : FnScope ["above", "below", "texts", "text"] ["above", "below", "texts"] (defScope sCanPut) := ⟨rfl, rfl, rfl, by decide +kernel, rfl, by decide +kernel, by decide +kernel⟩
theorem scManyPut : FnScope ["name", "deeds", "many", "at", "deed"] ["name", "deeds"] (defScope sManyPut) := ⟨rfl, rfl, rfl, by decide +kernel, rfl, by decide +kernel, by decide +kernel⟩
theorem scCanDo : FnScope ["deed", "own", "many", "one", "other"] ["deed", "own", "many"] (defScope sCanDo) := ⟨rfl, rfl, rfl, by decide +kernel, rfl, by decide +kernel, by decide +kernel⟩
theorem scIsText : FnScope ["thing"] ["thing"] (defScope sIsText) := ⟨rfl, rfl, rfl, by decide +kernel, rfl, by decide +kernel, by decide +kernel⟩
theorem scReadPatches : FnScope ["text", "rows", "told", "lines", "at", "name", "knows", "deeds"] ["text"] (defScope sReadPatches) := ⟨rfl, rfl, rfl, by decide +kernel, rfl, by decide +kernel, by decide +kernel⟩
theorem scWordsAt : FnScope ["rows", "at", "words"] ["rows", "at"] (defScope sWordsAt) := ⟨rfl, rfl, rfl, by decide +kernel, rfl, by decide +kernel, by decide +kernel⟩
theorem scReadName : FnScope ["rows", "at", "words", "name"] ["rows", "at"] (defScope sReadName) := ⟨rfl, rfl, rfl, by decide +kernel, rfl, by decide +kernel, by decide +kernel⟩
theorem scReadKnown : FnScope ["rows", "at", "own", "words", "known", "place", "word", "name"] ["rows", "at", "own"] (defScope sReadKnown) := ⟨rfl, rfl, rfl, by decide +kernel, rfl, by decide +kernel, by decide +kernel⟩
theorem scReadDeeds : FnScope ["rows", "at", "known", "deeds", "words", "lines", "texts"] ["rows", "at", "known"] (defScope sReadDeeds) := ⟨rfl, rfl, rfl, by decide +kernel, rfl, by decide +kernel, by decide +kernel⟩
theorem scLinesTold : FnScope ["words", "at", "known", "many", "lines", "place", "word", "line"] ["words", "at", "known"] (defScope sLinesTold) := ⟨rfl, rfl, rfl, by decide +kernel, rfl, by decide +kernel, by decide +kernel⟩
theorem scReadTexts : FnScope ["rows", "at", "texts", "text"] ["rows", "at"] (defScope sReadTexts) := ⟨rfl, rfl, rfl, by decide +kernel, rfl, by decide +kernel, by decide +kernel⟩
theorem scPatchRows : FnScope ["patch", "hand", "number", "name", "known", "rows", "deed", "line", "lines", "text"] ["patch"] (defScope sPatchRows) := ⟨rfl, rfl, rfl, by decide +kernel, rfl, by decide +kernel, by decide +kernel⟩
theorem scPatchesText : FnScope ["patches", "rows", "patch"] ["patches"] (defScope sPatchesText) := ⟨rfl, rfl, rfl, by decide +kernel, rfl, by decide +kernel, by decide +kernel⟩
theorem scMixed : FnScope ["_law_cell", "_law_k"] ["_law_cell", "_law_k"] (defScope sMixed) := ⟨rfl, rfl, rfl, by decide +kernel, rfl, by decide +kernel, by decide +kernel⟩
theorem scDraw : FnScope ["_law_cell", "_law_k", "_law_first", "_law_more"] ["_law_cell", "_law_k"] (defScope sDraw) := ⟨rfl, rfl, rfl, by decide +kernel, rfl, by decide +kernel, by decide +kernel⟩
theorem scDigit : FnScope ["_law_state", "_law_many", "_law_found"] ["_law_state", "_law_many"] (defScope sDigit) := ⟨rfl, rfl, rfl, by decide +kernel, rfl, by decide +kernel, by decide +kernel⟩
theorem scLLines : FnScope ["_law_history_here", "_law_names", "_law_found", "_law_name", "_law_knows", "_law_deeds", "_law_texts", "_law_deed_here", "_law_k", "_law_text"] ["_law_history_here", "_law_names"] (defScope sLLines) := ⟨rfl, rfl, rfl, by decide +kernel, rfl, by decide +kernel, by decide +kernel⟩
theorem scLKnown : FnScope ["_law_history_here", "_law_knows", "_law_found", "_law_name", "_law_own", "_law_deeds", "_law_one"] ["_law_history_here", "_law_knows"] (defScope sLKnown) := ⟨rfl, rfl, rfl, by decide +kernel, rfl, by decide +kernel, by decide +kernel⟩
theorem scLDeed : FnScope ["_law_state", "_law_goods", "_law_kind", "_law_above", "_law_below", "_law_k", "_law_texts", "_law_one", "_law_line", "_law_others"] ["_law_state", "_law_goods"] (defScope sLDeed) := ⟨rfl, rfl, rfl, by decide +kernel, rfl, by decide +kernel, by decide +kernel⟩
theorem scLPatch : FnScope ["_law_history_here", "_law_state", "_law_hand", "_law_one", "_law_knows", "_law_deeds", "_law_name", "_law_own", "_law_line", "_law_text", "_law_goods", "_law_many", "_law_k", "_law_deed_here", "_law_j"] ["_law_history_here", "_law_state"] (defScope sLPatch) := ⟨rfl, rfl, rfl, by decide +kernel, rfl, by decide +kernel, by decide +kernel⟩
theorem scLHist : FnScope ["_law_script", "_law_most", "_law_history_here", "_law_k", "_law_cell"] ["_law_script", "_law_most"] (defScope sLHist) := ⟨rfl, rfl, rfl, by decide +kernel, rfl, by decide +kernel, by decide +kernel⟩
theorem scLLineWord : FnScope ["_law_line"] ["_law_line"] (defScope sLLineWord) := ⟨rfl, rfl, rfl, by decide +kernel, rfl, by decide +kernel, by decide +kernel⟩
theorem scLPatchRows : FnScope ["_law_name", "_law_knows", "_law_deeds", "_law_one", "_law_known_here", "_law_found", "_law_deed_here", "_law_lines_here", "_law_line", "_law_text"] ["_law_name", "_law_knows", "_law_deeds"] (defScope sLPatchRows) := ⟨rfl, rfl, rfl, by decide +kernel, rfl, by decide +kernel, by decide +kernel⟩
theorem scLSigns : FnScope ["_law_state", "_law_signs_here", "_law_k"] ["_law_state"] (defScope sLSigns) := ⟨rfl, rfl, rfl, by decide +kernel, rfl, by decide +kernel, by decide +kernel⟩
theorem scLaw : FnScope ["_law_script", "_law_history_here", "_law_cells", "_law_k", "_law_cell", "_law_texts", "_law_deeds", "_law_name", "_law_knows", "_law_patches", "_law_rows", "_law_one", "_law_whole", "_law_turn", "_law_read", "_law_patch_here", "_law_own", "_law_told", "_law_found", "_law_alone"] ["_law_script"] (defScope sLaw) := ⟨rfl, rfl, rfl, by decide +kernel, rfl, by decide +kernel, by decide +kernel⟩
end K1
set_option Elab.async false
set_option linter.all false
set_option maxRecDepth 100000
set_option maxHeartbeats 400000
/-! all(t for c in a text), where t reads a name of the module. -/
namespace K1
open PySem PySem.Spec PyProof.Rows L2

/-- a test of one sign, which may read the module's names -/
def SignTest (prog : Program) (w : World) (mg : Str → Option Value) (sc : Scope) (x : Str) (e : Expr) (p : Nat → Bool) : Prop :=
  ∀ (ge : Env) (B : Around) (F : Value → Shared → Prop) (c : Nat) (tk : Tok) (z : Shared) (lm : Str → Option Value),
    ge.scope = sc → ge.globals = mainGlobals → z.heap.Ns mainGlobals mg → z.heap.Ns ge.locals lm → lm x = some (.str ⟨#[c]⟩ tk) →
    wpAny (model prog w) B (eval e ge) (fun r z' => r = .bool (p c) ∧ Keeps z z') F z

/-- c in NAME, NAME a text of the module -/
theorem sign_in {prog : Program} {w : World} {mg : Str → Option Value} {sc : Scope} {x n : Str} {txt : Str} {tt : Tok} {q1 q2 q3 : Pos}
    (fk : sc.kind = .function) (lx : sc.names.lookup x = some .local) (ln : sc.names.lookup n = some .globalImplicit) (vn : mg n = some (.str txt tt))
    (dx : (x == ("__debug__" : Str)) = false) (dn : (n == ("__debug__" : Str)) = false) :
    SignTest prog w mg sc x (.Compare (.Name x q1) [.In] [.Name n q2] q3) (fun c => decide (c ∈ txt.cps.toList)) := by
  intro ge B F c tk z lm es eg hg hl hx
  have k1 : ge.scope.kind = .function := es ▸ fk
  have k2 : ge.kindOf x = some .local := by
    show ge.scope.names.lookup x = some .local
    rw [es]
    exact lx
  have k3 : ge.kindOf n = some .globalImplicit := by
    show ge.scope.names.lookup n = some .globalImplicit
    rw [es]
    exact ln
  refine wpAny_Compare1 ?_
  refine wpAny_Name ?_ dx
  refine wpAny_loadName_local k1 k2 hl hx ?_
  refine Calls.Name_function_global k1 k3 ?_ dn
  refine Calls.loadGlobal_global (mg := mg) (eg ▸ hg) vn ?_
  apply PyProof.Rows.in_str
  exact ⟨congrArg Value.bool (PySem.StrLaws.found_one txt c), GxR.keeps_refl _⟩

section
variable {X : Cx} {pins : List (Addr × Obj)} {σ : L2.St} {H : Hp} {s : Shared}

/-- what is known where the generator's code has been looked up: h3 is the heap s1.heap with the iterator o, the table at P longer -/
structure Mid (X : Cx) (s1 : Shared) (o : Obj) (P : Addr) (ps ps' : Array Value) (h3 : Heap) : Prop where
  ext : Heap.ExtBut P (s1.heap.push o) h3
  size : (s1.heap.push o).objs.size ≤ h3.objs.size
  tab : h3.get? P = some { cls := .none, data := .fields ps' }
  more : ∃ m, ps' = ps ++ m
  ok : TriplesOk ps'.toList

theorem gen_mid {cd P : Addr} {e it : Expr} {x : Str} {px gp : Pos} {sc : Scope} {p : Nat → Bool} {k : Nat} {Q' : Value → Shared → Prop} {a : Str} {H1 : Hp} {s1 : Shared} {o : Obj} {St : Nat → Heap → Prop} {ps ps' : Array Value} {h3 : Heap} {tk : Nat} {code : Value}
    (hr : Room k X.A) (TB : GxR.TabB X.base X.mg cd P) (hel : SignTest X.prog X.w X.mg sc x e p)
    (J : Inv X pins σ H1 s1) (hP : H1 P = some (.tbl ps)) (M : Mid X s1 o P ps ps' h3)
    (wk : ∀ A' : Around, A'.handled = none → Walks X.prog X.w A' s1.heap.objs.size [s1.heap.objs.size] [s1.heap.objs.size] a.cps.size (SignAt a) St) (st : St 0 (s1.heap.push o))
    (hQ : ∀ g s5, GxR.Ready X pins σ H1 P a p g s5 → Q' (.ref g) s5) :
    wpAny (model X.prog X.w) X.A (builtinsFor X.env.globals X.env.builtins) (fun bi s₄ =>
        ∃ I fp wr n₀ Pf St₀ pz F, Value.ref s1.heap.objs.size = .ref I ∧ (∀ A' : Around, A'.handled = none → Walks X.prog X.w A' I fp wr n₀ Pf St₀) ∧ St₀ 0 s₄.heap ∧
          (∀ b ∈ fp, b < s₄.heap.objs.size) ∧ s₄.heap.NoLimit ∧ cStatics ∉ wr ∧
          (∀ href : Heap, (∀ b o, s₄.heap.get? b = some o → href.get? b = some o) →
            QuietGen X.prog X.w (genEnv sc (cloFrom X.env.cells sc.names []) s₄.heap.objs.size code bi X.env) x [] e
              (List.range s₄.heap.objs.size) wr Pf pz F href) ∧
          (∀ a h₅ tk gs, gs.bare = true → s₄.heap.objs.size < a → h₅.objs.size = a + 1 → (∀ b o, s₄.heap.get? b = some o → h₅.get? b = some o) →
            WalksS X.prog X.w X.A.in4 a (a :: s₄.heap.objs.size :: List.range s₄.heap.objs.size) (s₄.heap.objs.size :: wr) (GenOnlyQ s₄.gens.size)
              (passing pz n₀ 0).length (fun j y => ∃ i, (passing pz n₀ 0)[j]? = some i ∧ F i y)
              (GenAt X.prog X.w X.A.in4 a s₄.gens.size s₄.heap.objs.size (List.range s₄.heap.objs.size) wr pz n₀ F) →
            GenAt X.prog X.w X.A.in4 a s₄.gens.size s₄.heap.objs.size (List.range s₄.heap.objs.size) wr pz n₀ F 0
              { s₄ with gens := s₄.gens.push gs, toks := tk, heap := h₅ } →
            Q' (.ref a) { s₄ with gens := s₄.gens.push gs, toks := tk, heap := h₅ })) X.xe { s1 with heap := h3, toks := tk } := by
  have pAt : s1.heap.get? P = some { cls := .none, data := .fields ps } := J.hok P _ hP
  have pLt : P < s1.heap.objs.size := Heap.lt_size pAt
  have up : (s1.heap.push o).objs.size = s1.heap.objs.size + 1 := Heap.size_push ..
  have carry : ∀ b u, b ≠ P → s1.heap.get? b = some u → h3.get? b = some u := by
    intro b u hb e
    exact M.ext b u hb (Heap.get?_push_of_some _ e)
  have lim1 := J.nolimit
  have stP : cStatics ≠ P := by
    rintro rfl
    obtain ⟨_, ⟨o', es, ep, h1, h2, _⟩, _⟩ := lim1
    rw [pAt] at h1
    cases h1
    cases h2
  have stLt : cStatics < s1.heap.objs.size := by
    obtain ⟨_, hns, _⟩ := lim1
    exact hns.lt
  have glob1 : s1.heap.Ns mainGlobals X.mg := J.mod.glob.keeps J.bk
  have glob3 : h3.Ns mainGlobals X.mg := (glob1.push o).extBut M.ext TB.gP
  have gm : X.env.globals = mainGlobals := J.ok.glob
  obtain ⟨bm, ob, e1, e2, _, e4, e5, e6, e7, e8⟩ := TB.bm
  refine wpAny_builtinsFor (m := X.mg) (by rw [gm]; exact glob3) e1 e2 (carry _ _ e4 (J.bk _ _ e5)) e6 e7 e8 ?_
  have newLt : s1.heap.objs.size < h3.objs.size := Nat.lt_of_lt_of_le (by rw [up]; exact Nat.lt_succ_self _) M.size
  refine ⟨_, _, _, _, SignAt a, St, (fun _ => true), (fun i y => ∃ c, a.cps[i]? = some c ∧ y = .bool (p c)), rfl, wk, ?_, ?_, ?_, ?_, ?_, ?_⟩
  · -- the text's iterator stands
    refine (wk X.A hr.hd).frame _ _ _ st ?_
    intro b hb u e
    obtain rfl : b = s1.heap.objs.size := by simpa using hb
    exact M.ext _ u (Nat.ne_of_gt pLt) e
  · intro b hb
    obtain rfl : b = s1.heap.objs.size := by simpa using hb
    exact newLt
  · exact (lim1.push o).extBut M.ext stP
  · intro hb
    have : cStatics = s1.heap.objs.size := by simpa using hb
    exact absurd this (Nat.ne_of_lt stLt)
  · -- the generator's element
    intro href hh
    constructor
    · intro A' E' i v s₂ m₂ _ _ _ _ _
      simp only [List.forIn_nil]
      exact wpAny_pure ⟨rfl, GxR.keeps_refl _⟩
    · intro A' E' i v s₂ m₂ _ hv _ hn hm hk
      obtain ⟨c, u, hc, rfl⟩ := hv
      have g2 : s₂.heap.Ns mainGlobals X.mg := by
        refine glob3.at' fun ob' eo => ?_
        refine hk mainGlobals (List.mem_range.mpr (Heap.lt_size eo)) ?_ ob' (hh _ _ eo)
        intro hb
        have q1 : mainGlobals = s1.heap.objs.size := by simpa using hb
        exact absurd q1 (Nat.ne_of_lt glob1.lt)
      refine wpAny_mono (hel _ A' E' c u s₂ m₂ rfl gm g2 hn hm) ?_ (fun _ _ z => z)
      rintro y s3 ⟨ey, ek⟩
      exact ⟨⟨c, hc, ey⟩, ek⟩
  · -- the generator as it is handed on
    intro g h5 tk5 gs bare hag sz5 keep5 W hat
    simp only [GxR.passing_true, List.length_range] at W
    refine hQ g _ ⟨_, _, _, _, _, W.in4_1, hat, ?_, ?_⟩
    · rintro j y sj Qj Ej ⟨i, hij, c, hc, rfl⟩ hq
      have hi : i = j := by
        obtain ⟨hj, ej⟩ := List.getElem?_eq_some_iff.mp hij
        simpa using ej.symm
      subst hi
      have hc' : a.cps.toList[i]? = some c := by simpa using hc
      have et : GxR.trF p a.cps.toList i = p c := GxR.trF_some hc'
      rw [et] at hq
      exact wpAny_truthy_bool hq
    · intro s' mv
      obtain ⟨m, rfl⟩ := M.more
      have old : ∀ b u, s1.heap.get? b = some u → ¬ b ∈ h3.objs.size :: [s1.heap.objs.size] := by
        intro b u e hb
        have lt := Heap.lt_size e
        have hb' : b = h3.objs.size ∨ b = s1.heap.objs.size := by simpa using hb
        rcases hb' with rfl | rfl
        · exact Nat.lt_irrefl _ (Nat.lt_trans lt newLt)
        · exact Nat.lt_irrefl _ lt
      have nI := GxR.inv_tab (more := m) (h' := s'.heap) (g' := s'.gens) (d' := s'.drawn) (t' := s'.toks) J hP
        (fun b u hb e => mv.heap b u (old b u e) (keep5 b u (carry b u hb e))) (mv.heap P _ (old P _ pAt) (keep5 P _ M.tab))
        (AllBare.movedS (J.bare.push bare) mv)
      rw [GxR.sh_eta s1 s' mv.os] at nI
      exact ⟨_, ⟨⟨_, upd_same, M.ok⟩, fun b hb => upd_ne hb⟩, nI⟩

theorem gen_text {cd P : Addr} {e it : Expr} {x : Str} {px gp : Pos} {sc : Scope} {p : Nat → Bool} {te : TE} {k : Nat} {Q' : Value → Shared → Prop} {R : Str → Hp → Prop}
    (hr : Room k X.A) (TB : GxR.TabB X.base X.mg cd P) (hcode : X.env.code = .ref cd) (S : GxR.GenS X.env sc x) (hi : PE X it te) (hel : SignTest X.prog X.w X.mg sc x e p)
    (hf : ∀ v, genFold it X.env v = pure v) (I : Inv X pins σ H s) (h : te σ H fun v H1 => ∃ a : Str, v = .str a ∧ GxR.TabG H1 P ∧ R a H1)
    (hQ : ∀ a H1 g s5, R a H1 → GxR.Ready X pins σ H1 P a p g s5 → Q' (.ref g) s5) :
    wpAny (model X.prog X.w) X.A (eval (.GeneratorExp e [⟨.Name x px, it, [], 0⟩] sc gp) X.env) Q' X.xe s := by
  have dl := hr.dp
  refine wpAny_GeneratorExp_walksQ hr.hd S.co (closure_ok S.free) S.cell S.dot S.loc S.kind (by omega) ?_ hf
  refine thn (hi.run pins s σ H _ I h) ?_
  rintro u s1 ⟨v, H1, J, ru, a, rfl, ⟨ps, hP, tok⟩, hR⟩
  obtain ⟨t, rfl⟩ := _root_.id ru
  apply wpAny_pyIter_str
  intro o St wk st
  have pAt : s1.heap.get? P = some { cls := .none, data := .fields ps } := J.hok P _ hP
  have pAt2 : (s1.heap.push o).get? P = some { cls := .none, data := .fields ps } := Heap.get?_push_of_some _ pAt
  have cAt : PySem.W.CodeHd (s1.heap.push o) cd P := TB.code.keeps fun b u e => Heap.get?_push_of_some _ (J.bk b u e)
  refine ⟨J.nolimit.push o, ?_⟩
  rcases hca : codeAmong gp ps.toList with _ | cv
  · refine wpAny_genexprCodeX hcode (cAt.code pAt2 tok) (cAt.tab pAt2) hca ?_
    intro c' h' tk hx hge hlt hco _ htab _
    have htr : TriplesOk (ps ++ #[rawInt gp.line, rawInt gp.col, .ref c']).toList := by
      obtain ⟨_, _, _, _, _, _, _, _, _, _, _, _, _, _, _, _, _, _, _, q, _⟩ := hco
      exact q
    exact gen_mid (it := it) (px := px) (gp := gp) hr TB hel J hP ⟨hx, Nat.le_trans hge (Nat.le_of_lt hlt), htab.2, ⟨_, rfl⟩, htr⟩ wk st fun g s5 => hQ a H1 g s5 hR
  · refine wpAny_genexprCode_hit hcode (cAt.code pAt2 tok) hca ?_
    exact gen_mid (it := it) (px := px) (gp := gp) hr TB hel J hP ⟨Heap.ExtBut.refl _ _, Nat.le_refl _, pAt2, ⟨#[], by simp⟩, tok⟩ wk st fun g s5 => hQ a H1 g s5 hR

theorem pe_allT {cd P : Addr} {e it : Expr} {x : Str} {px pa pos gp : Pos} {sc : Scope} {p : Nat → Bool} {te : TE} {k : Nat}
    (hr : Room k X.A) (hg : Gl X "all") (hm : X.mg "all" = none) (TB : GxR.TabB X.base X.mg cd P) (hcode : X.env.code = .ref cd) (S : GxR.GenS X.env sc x) (hi : PE X it te)
    (hel : SignTest X.prog X.w X.mg sc x e p) (hf : ∀ v, genFold it X.env v = pure v) (hb : bootBuiltins "all" = some (.builtin "all") := by decide +kernel)
    (he : starEach [.GeneratorExp e [⟨.Name x px, it, [], 0⟩] sc gp] X.env = (false, eval (.GeneratorExp e [⟨.Name x px, it, [], 0⟩] sc gp) X.env) :: starEach [] X.env := by rfl) :
    PE X (.Call (.Name "all" pa) [.GeneratorExp e [⟨.Name x px, it, [], 0⟩] sc gp] [] pos) (GxR.tAllS P p te) := by
  constructor
  intro pins s σ H Q I h
  apply wpAny_Call_Name_kw
  refine ld_blt I hg hm hb ?_
  refine PyProof.Rows.callWith_builtin1 ?_ he (by rfl)
  rw [he]
  show wpAny _ _ (spliced ((false, eval _ X.env) :: backTo pos (starEach [] X.env))) _ _ s
  apply Calls.spliced_cons
  refine gen_text (R := fun a H1 => ∀ H2, GxR.Tabbed P H1 H2 → Q (.bl (a.cps.toList.all p)) H2) hr TB hcode S hi hel hf I h ?_
  rintro a H1 g s5 hR ⟨fp, wr, G, F, St, W, hst, htr, hI⟩
  apply Calls.spliced_nil
  refine call_all_walkS (W.self 0 _ _ _ hst ⟨g, fp, wr, G, _, F, St, _, rfl, W, hst, htr, ?_⟩)
  intro s' mv
  obtain ⟨H2, hT, J⟩ := hI s' mv
  refine ⟨.bl _, H2, J, rfl, ?_⟩
  rw [GxR.all_signs]
  exact hR H2 hT
end
section
variable {X : Cx}
/-- x is not True, x a flat thing -/
theorem op_isnotB : OpR X (compareOp .IsNot) (fun x y H Q => ∃ b, flatV x = true ∧ y = .bl b ∧ Q (.bl (!decide (x = .bl b))) H) := by
  intro pins s σ H x y v u Q I rx ry h
  obtain ⟨b, fx, rfl, q⟩ := h
  cases (show u = Value.bool b from ry)
  cases x with
  | non =>
    cases (show v = Value.none from rx)
    exact wpAny_isNot_other rfl (fun z => nomatch z) ⟨.bl true, H, I, rfl, by simpa using q⟩
  | bl a =>
    cases (show v = Value.bool a from rx)
    by_cases e : a = b
    · subst e
      exact wpAny_isNot_self rfl ⟨.bl false, H, I, rfl, by simpa using q⟩
    · exact wpAny_isNot_other rfl (fun z => e (Value.bool.inj z)) ⟨.bl true, H, I, rfl, by simpa [e] using q⟩
  | int i =>
    obtain ⟨t, rfl⟩ := rx
    exact wpAny_isNot_other rfl (fun z => nomatch z) ⟨.bl true, H, I, rfl, by simpa using q⟩
  | str z =>
    obtain ⟨t, rfl⟩ := rx
    exact wpAny_isNot_other rfl (fun z => nomatch z) ⟨.bl true, H, I, rfl, by simpa using q⟩
  | _ => cases fx
/-- x is True, x a flat thing -/
theorem op_isB : OpR X (compareOp .Is) (fun x y H Q => ∃ b, flatV x = true ∧ y = .bl b ∧ Q (.bl (decide (x = .bl b))) H) := by
  intro pins s σ H x y v u Q I rx ry h
  obtain ⟨b, fx, rfl, q⟩ := h
  cases (show u = Value.bool b from ry)
  cases x with
  | non =>
    cases (show v = Value.none from rx)
    exact wpAny_is_other rfl (fun z => nomatch z) ⟨.bl false, H, I, rfl, by simpa using q⟩
  | bl a =>
    cases (show v = Value.bool a from rx)
    by_cases e : a = b
    · subst e
      exact wpAny_is_self rfl ⟨.bl true, H, I, rfl, by simpa using q⟩
    · exact wpAny_is_other rfl (fun z => e (Value.bool.inj z)) ⟨.bl false, H, I, rfl, by simpa [e] using q⟩
  | int i =>
    obtain ⟨t, rfl⟩ := rx
    exact wpAny_is_other rfl (fun z => nomatch z) ⟨.bl false, H, I, rfl, by simpa using q⟩
  | str z =>
    obtain ⟨t, rfl⟩ := rx
    exact wpAny_is_other rfl (fun z => nomatch z) ⟨.bl false, H, I, rfl, by simpa using q⟩
  | _ => cases fx
end

section
variable {prog : Program} {w : World} {A : Around} {E : Value → Shared → Prop} {s : Shared}
theorem gives_ge_bi (b : Bool) (a : Int) (t : Tok) : Gives (Builtin.«int.__ge__» ⟨[.bool b, .int a t], []⟩) (.val (.bool (decide (a ≤ if b then (1 : Int) else 0)))) := by
  cases b <;> exact .of_eq rfl
theorem le_int_bool {a : Int} {t : Tok} {b : Bool} {Q : Value → Shared → Prop} (h : Q (.bool (decide (a ≤ if b then (1 : Int) else 0))) s) : wpAny (model prog w) A (compareOp .LtE (.int a t) (.bool b)) Q E s := by
  have hop : compareOp .LtE (.int a t) (.bool b) = richCompare .LtE (.int a t) (.bool b) := by rfl
  rw [hop]
  exact SeqAt.rc_sub_first_or (op := .LtE) (typeIs_int s a t) (Tb := "bool") rfl (by decide) F.sub_bool_int F.slot_bool_ge_refl
    (call_gives F.slot_bool_ge_refl rfl F.entry_int_ge (F.args_int_ge_2 _ _) (gives_ge_bi b a t) ⟨nofun, h⟩) (.inl rfl)
theorem ge_bool_int {a : Bool} {b : Int} {u : Tok} {Q : Value → Shared → Prop} (h : Q (.bool (decide (b ≤ if a then (1 : Int) else 0))) s) : wpAny (model prog w) A (compareOp .GtE (.bool a) (.int b u)) Q E s := by
  have hop : compareOp .GtE (.bool a) (.int b u) = richCompare .GtE (.bool a) (.int b u) := by rfl
  rw [hop]
  exact SeqAt.rc_left_or (op := .GtE) (Ta := "bool") rfl (typeIs_int s b u) (by decide) F.sub_int_bool F.slot_bool_ge
    (call_gives F.slot_bool_ge rfl F.entry_int_ge (F.args_int_ge_2 _ _) (gives_ge_bi a b u) ⟨nofun, h⟩) (.inl rfl)
end
/-- the number of an int or a truth -/
def nmV : V → Option Int
  | .int i => some i
  | .bl b => some (if b then 1 else 0)
  | _ => none
section
variable {X : Cx}
theorem op_leN : OpR X (compareOp .LtE) (fun x y H Q => ∃ i j, x = .int i ∧ nmV y = some j ∧ Q (.bl (decide (i ≤ j))) H) := by
  intro pins s σ H x y v u Q I rx ry h
  obtain ⟨i, j, rfl, e, q⟩ := h
  obtain ⟨t, rfl⟩ := rx
  cases y with
  | int k =>
    obtain ⟨t', rfl⟩ := ry
    cases e
    exact P.le_int ⟨.bl _, H, I, rfl, q⟩
  | bl b =>
    cases (show u = Value.bool b from ry)
    cases e
    exact le_int_bool ⟨.bl _, H, I, rfl, q⟩
  | _ => cases e
theorem op_geN : OpR X (compareOp .GtE) (fun x y H Q => ∃ i j, nmV x = some i ∧ y = .int j ∧ Q (.bl (decide (j ≤ i))) H) := by
  intro pins s σ H x y v u Q I rx ry h
  obtain ⟨i, j, e, rfl, q⟩ := h
  obtain ⟨t, rfl⟩ := ry
  cases x with
  | int k =>
    obtain ⟨t', rfl⟩ := rx
    cases e
    exact P.ge_int ⟨.bl _, H, I, rfl, q⟩
  | bl b =>
    cases (show v = Value.bool b from rx)
    cases e
    exact ge_bool_int ⟨.bl _, H, I, rfl, q⟩
  | _ => cases e
end
end K1
set_option Elab.async false
set_option linter.all false
set_option maxRecDepth 100000
set_option maxHeartbeats 4000000
/-! What the promises speak of: kinds of things, the tables of code, heaps that have grown. -/
namespace K1
open PySem PySem.Spec PyProof.Rows L2

/-! ### kinds of things -/
/-- a thing, its kind, and its items if it is a tuple -/
inductive Th (K : PySem.W.Frag) (H : Hp) : V → String → Option (List V) → Prop
  | non : Th K H .non "NoneType" none
  | bl (b : Bool) : Th K H (.bl b) "bool" none
  | int (i : Int) : Th K H (.int i) "int" none
  | str (x : Str) (h : x.length ≤ sizeLine) : Th K H (.str x) "str" none
  | lst {a : Addr} {xs : List V} (e : SqL K H a xs) : Th K H (.ref a) "list" none
  | tup {a : Addr} {xs : List V} (e : SqT K H a xs) : Th K H (.ref a) "tuple" (some xs)
  | dK {a : Addr} {kvs : List (Key × V)} (e : H a = some (.dK kvs)) : Th K H (.ref a) "dict" none
theorem tyT {K : PySem.W.Frag} {H : Hp} {a : Addr} {xs : List V} (e : SqT K H a xs) : TyX K H (.ref a) (.type "tuple") := by
  rcases e with (e | ⟨o, e⟩) | ⟨o, its, n, e, c, _⟩
  · exact .base (.tup e)
  · exact .fTuple e
  · exact .kTuple e c
theorem tyL {K : PySem.W.Frag} {H : Hp} {a : Addr} {xs : List V} (e : SqL K H a xs) : TyX K H (.ref a) (.type "list") := by
  rcases e with (e | ⟨o, e⟩) | ⟨o, its, n, e, c, _⟩
  · exact .base (.lst e)
  · exact .base (.frz e)
  · exact .kList e c
theorem Th.ty {K : PySem.W.Frag} {H : Hp} {v : V} {n : String} {o : Option (List V)} (h : Th K H v n o) : TyX K H v (.type n) := by
  cases h with
  | non => exact .base .non
  | bl b => exact .base (.bl b)
  | int i => exact .base (.int i)
  | str x _ => exact .base (.str x)
  | lst e => exact tyL e
  | tup e => exact tyT e
  | dK e => exact .base (.dK e)
def isI : V → Bool
  | .int _ => true
  | _ => false
def isB : V → Bool
  | .bl _ => true
  | _ => false
def isS : V → Bool
  | .str _ => true
  | _ => false
theorem Th.kint {K : PySem.W.Frag} {H : Hp} {v : V} {n : String} {o : Option (List V)} (h : Th K H v n o) : kitB n "int" = some (isI v || isB v) := by
  cases h <;> (first | (show kitB _ _ = some true; decide +kernel) | (show kitB _ _ = some false; decide +kernel) | decide +kernel)
theorem Th.kbool {K : PySem.W.Frag} {H : Hp} {v : V} {n : String} {o : Option (List V)} (h : Th K H v n o) : kitB n "bool" = some (isB v) := by
  cases h <;> (first | (show kitB _ _ = some true; decide +kernel) | (show kitB _ _ = some false; decide +kernel) | decide +kernel)
theorem Th.kstr {K : PySem.W.Frag} {H : Hp} {v : V} {n : String} {o : Option (List V)} (h : Th K H v n o) : kitB n "str" = some (isS v) := by
  cases h <;> (first | (show kitB _ _ = some true; decide +kernel) | (show kitB _ _ = some false; decide +kernel) | decide +kernel)
theorem Th.ktup {K : PySem.W.Frag} {H : Hp} {v : V} {n : String} {o : Option (List V)} (h : Th K H v n o) : kitB n "tuple" = some o.isSome := by
  cases h <;> (first | (show kitB _ _ = some true; decide +kernel) | (show kitB _ _ = some false; decide +kernel) | decide +kernel)
theorem Th.klst {K : PySem.W.Frag} {H : Hp} {v : V} {n : String} {o : Option (List V)} (h : Th K H v n o) : kitB n "list" = some (decide (n = "list")) := by
  cases h <;> (first | (show kitB _ _ = some true; decide +kernel) | (show kitB _ _ = some false; decide +kernel) | decide +kernel)
/-- isinstance of a thing and a class, answered -/
theorem isi {K : PySem.W.Frag} {H : Hp} {v : V} {n m : String} {o : Option (List V)} {b : Bool} {Q : VK} (th : Th K H v n o) (k : kitB n m = some b) (q : Q (.bl b) H) : rIsi K [v, .ty m] H Q :=
  ⟨v, .ty m, .type n, .type m, b, rfl, .ty m, th.ty, kit_ty k, q⟩

/-! ### heaps -/
/-- the places of the tables of code objects that may come to be fuller -/
abbrev Tp := List Addr
def TG (T : Tp) (H : Hp) : Prop := ∀ P ∈ T, GxR.TabG H P
/-- H' is H, grown: the tables may be longer, what D tells may be otherwise -/
def Go (T : Tp) (D : Addr → Prop) (H H' : Hp) : Prop := TG T H' ∧ ∀ b o, b ∉ T → ¬ D b → H b = some o → H' b = some o
abbrev D0 : Addr → Prop := fun _ => False
section
variable {T : Tp} {D D' : Addr → Prop} {H H1 H2 : Hp}
theorem Go.rfl' (t : TG T H) : Go T D H H := ⟨t, fun _ _ _ _ e => e⟩
theorem Go.trans (g : Go T D H H1) (g' : Go T D H1 H2) : Go T D H H2 := ⟨g'.1, fun b o h1 h3 e => g'.2 b o h1 h3 (g.2 b o h1 h3 e)⟩
theorem Go.mono (g : Go T D H H1) (h : ∀ b, D b → D' b) : Go T D' H H1 := ⟨g.1, fun b o h1 h3 e => g.2 b o h1 (fun z => h3 (h b z)) e⟩
theorem Go.up (g : Go T D0 H H1) : Go T D H H1 := g.mono fun _ z => z.elim
theorem TabG.ne {P p : Addr} (t : GxR.TabG H P) (h : H p = none) : P ≠ p := by
  obtain ⟨ps, e, _⟩ := t
  exact ne_of_none e h
theorem TG.stay {p : Addr} {o : HO} (t : TG T H) (h1 : p ∉ T) : TG T (upd H p o) := by
  intro P hP
  obtain ⟨ps, e, r⟩ := t P hP
  exact ⟨ps, (upd_ne (fun z => h1 (by rw [← z]; exact hP))).trans e, r⟩
theorem TG.new {p : Addr} {o : HO} (t : TG T H) (h : H p = none) : TG T (upd H p o) := t.stay fun z => TabG.ne (t p z) h rfl
theorem Go.new {p : Addr} {o : HO} (g : Go T D H H1) (h : H1 p = none) : Go T D H (upd H1 p o) := by
  refine ⟨g.1.new h, fun b u h1 h3 e => ?_⟩
  have e1 := g.2 b u h1 h3 e
  rw [upd_ne (ne_of_none e1 h)]
  exact e1
theorem TG.neW {b : Addr} {o : HO} (t : TG T H) (e : H b = some o) (ho : ∀ ps, o ≠ .tbl ps) : b ∉ T := fun z => by
  obtain ⟨ps, e', _⟩ := t b z
  rw [e] at e'
  exact ho ps (Option.some.inj e')
/-- an object of D is changed -/
theorem Go.set {p : Addr} {o u : HO} (g : Go T D H H1) (d : D p) (h : H1 p = some u) (hu : ∀ ps, u ≠ .tbl ps) : Go T D H (upd H1 p o) := by
  refine ⟨g.1.stay (g.1.neW h hu), fun b v h1 h3 e => ?_⟩
  rw [upd_ne (fun z => h3 (by rw [z]; exact d))]
  exact g.2 b v h1 h3 e
/-- a table that is fuller -/
theorem Go.tab {P : Addr} (t : TG T H) (hP : P ∈ T) (x : GxR.Tabbed P H H1) : Go T D H H1 := by
  refine ⟨fun Q hQ => ?_, fun b o h1 _ e => (x.2 b (fun z => h1 (by rw [z]; exact hP))).trans e⟩
  by_cases z : Q = P
  · rw [z]; exact x.1
  · obtain ⟨qs, e, r⟩ := t Q hQ
    exact ⟨qs, (x.2 _ z).trans e, r⟩
theorem Go.at {b : Addr} {o : HO} (g : Go T D H H1) (t : TG T H) (d : ¬ D b) (e : H b = some o) (ho : ∀ ps, o ≠ .tbl ps := by intro ps z; cases z) : H1 b = some o :=
  g.2 b o (t.neW e ho) d e
/-- a free place was free -/
theorem Go.free {b : Addr} (g : Go T D H H1) (t : TG T H) (d : ¬ D b) (h : H1 b = none) : H b = none := by
  cases q : H b with
  | none => rfl
  | some o =>
    have h1 : b ∉ T := fun z => TabG.ne (g.1 b z) h rfl
    rw [g.2 b o h1 d q] at h
    cases h
/-- sequences stand -/
theorem Go.seqT {K : PySem.W.Frag} {a : Addr} {xs : List V} (g : Go T D H H1) (t : TG T H) (d : ∀ o, H a = some o → ¬ D a) (h : SqT K H a xs) : SqT K H1 a xs := by
  rcases h with (h | ⟨o, h⟩) | h
  · exact .inl (.inl (g.at t (d _ h) h))
  · exact .inl (.inr ⟨o, g.at t (d _ h) h⟩)
  · exact .inr h
theorem Go.seqL {K : PySem.W.Frag} {a : Addr} {xs : List V} (g : Go T D H H1) (t : TG T H) (d : ∀ o, H a = some o → ¬ D a) (h : SqL K H a xs) : SqL K H1 a xs := by
  rcases h with (h | ⟨o, h⟩) | h
  · exact .inl (.inl (g.at t (d _ h) h))
  · exact .inl (.inr ⟨o, g.at t (d _ h) h⟩)
  · exact .inr h
theorem Th.go {K : PySem.W.Frag} {v : V} {n : String} {o : Option (List V)} (h : Th K H v n o) (g : Go T D H H1) (t : TG T H) (d : ∀ a, v = .ref a → ¬ D a) : Th K H1 v n o := by
  cases h with
  | non => exact .non
  | bl b => exact .bl b
  | int i => exact .int i
  | str x h => exact .str x h
  | lst e => exact .lst (g.seqL t (fun _ _ => d _ rfl) e)
  | tup e => exact .tup (g.seqT t (fun _ _ => d _ rfl) e)
  | dK e => exact .dK (g.at t (d _ rfl) e)
/-- only a dict is otherwise -/
theorem dOne {d a : Addr} {kvs : List (Key × V)} (e : H d = some (.dK kvs)) {o : HO} (h : H a = some o) (ho : ∀ k, o ≠ .dK k) : ¬ a = d := by
  intro z
  rw [z, e] at h
  exact ho _ (Option.some.inj h).symm
end

/-! ### calls of the module's defs -/
structure Cal (P : Program) (w : World) (K : PySem.W.Frag) (mg : Str → Option Value) (base : Heap) (k : Nat) (x : Str) (ps : List Str) (sp : Sp) : Prop where
  ex : ∃ (f : Addr) (fd : FuncData), FnOk P w K mg base CX0 k f fd ps sp ∧ mg x = some (.ref f) ∧ PySem.W.keepIn K (.ref f) = true ∧ Binds K fd ps []
theorem pe_cal {X : Cx} {k : Nat} {x : Str} {ps : List Str} {sp : Sp} {e : Expr} {es : List Expr} {t : TA} {p pos : Pos} (C : Cal X.prog X.w X.K X.mg X.base k x ps sp) (hr : Room k X.A) (hg : Gl X x) (ha : PA X (e :: es) t)
    (hdb : (x == ("__debug__" : Str)) = false := by decide) (he : starEach (e :: es) X.env = (false, eval e X.env) :: starEach es X.env := by rfl) (hpl : (backTo pos (starEach es X.env)).any (·.1) = false := by rfl) :
    PE X (.Call (.Name x p) (e :: es) [] pos) (tCall sp [] E0 t) := by
  obtain ⟨f, fd, F, hm, hk, hb⟩ := C.ex
  exact pe_call F hr hg hm hk hb .nil pass0 ha hdb he hpl
end K1
set_option Elab.async false
set_option linter.all false
set_option maxRecDepth 100000
set_option maxHeartbeats 4000000
/-! The program's defs: is_whole, is_among, is_word, is_hand, is_name, is_put_line, is_end. -/
namespace K1
open PySem PySem.Spec PyProof.Rows L2

def ltrs : Str := "abcdefghijklmnopqrstuvwxyz"
def figs : Str := "0123456789"
def wordOk (x : Str) : Bool := (decide ((1 : Int) ≤ x.length) && decide ((x.length : Int) ≤ 8)) && x.cps.toList.all (fun c => decide (c ∈ ltrs.cps.toList))
def wordV : V → Bool
  | .str x => wordOk x
  | _ => false
def noHands : List V := [.str "head", .str "foot", .str "none"]
def handV (v : V) : Bool := wordV v && !inV v noHands
def amgV (v : V) (lo hi : Int) : Bool := match v with
  | .int i => decide (lo ≤ i) && decide (i ≤ hi)
  | _ => false
def geOne : V → Bool
  | .int i => decide (1 ≤ i)
  | _ => false
def nameL : Option (List V) → Bool
  | some [p, q] => handV p && amgV q 1 999
  | _ => false
def putL : Option (List V) → Bool
  | some [p, q, r] => (handV p && amgV q 1 999) && geOne r
  | _ => false
def endL : Option (List V) → Bool
  | some [p, q, r] => (decide (p = .str "") && amgV q 0 0) && amgV r 0 1
  | _ => false

/-- the module's names -/
structure Mg (K : PySem.W.Frag) (mg : Str → Option Value) : Prop where
  ins : mg "isinstance" = none
  int_ : mg "int" = none
  bool_ : mg "bool" = none
  str_ : mg "str" = none
  tuple_ : mg "tuple" = none
  list_ : mg "list" = none
  len_ : mg "len" = none
  all_ : mg "all" = none
  range_ : mg "range" = none
  enum_ : mg "enumerate" = none
  sum_ : mg "sum" = none
  mostL : ∃ t, mg "MOST_LETTERS" = some (.int 8 t)
  mostN : ∃ t, mg "MOST_NUMBER" = some (.int 999 t)
  mostF : ∃ t, mg "MOST_FIGURES" = some (.int 6 t)
  hd : ∃ a, mg "HEAD" = some (.ref a) ∧ ∀ H, SqT K H a [.str "", .int 0, .int 0]
  ft : ∃ a, mg "FOOT" = some (.ref a) ∧ ∀ H, SqT K H a [.str "", .int 0, .int 1]

theorem Th.strOf {K : PySem.W.Frag} {H : Hp} {v : V} {n : String} {o : Option (List V)} (h : Th K H v n o) (e : isS v = true) : ∃ x, v = .str x ∧ x.length ≤ sizeLine := by
  cases h with
  | str x h => exact ⟨x, rfl, h⟩
  | _ => cases e
theorem wordV_no {v : V} (e : isS v = false) : wordV v = false := by
  cases v with
  | str x => cases e
  | _ => rfl
theorem intOf {v : V} (e : isI v = true) : ∃ i, v = .int i := by
  cases v with
  | int i => exact ⟨i, rfl⟩
  | _ => cases e
theorem amgV_no {v : V} {lo hi : Int} (e : isI v = false) : amgV v lo hi = false := by
  cases v with
  | int i => cases e
  | _ => rfl

theorem tl_ltrs : ltrs.cps.toList = [97, 98, 99, 100, 101, 102, 103, 104, 105, 106, 107, 108, 109, 110, 111, 112, 113, 114, 115, 116, 117, 118, 119, 120, 121, 122] := by decide +kernel
theorem ltr_iff {c : Nat} : c ∈ ltrs.cps.toList ↔ 97 ≤ c ∧ c ≤ 122 := by
  rw [tl_ltrs]
  simp only [List.mem_cons, List.not_mem_nil, or_false]
  omega
theorem cls_signs : ∀ c, c < 128 → Unicode.isAlpha c = (decide (97 ≤ c ∧ c ≤ 122) || decide (65 ≤ c ∧ c ≤ 90)) ∧ Unicode.isLower c = decide (97 ≤ c ∧ c ≤ 122) ∧ (Unicode.isUpper c || Unicode.isTitle c) = decide (65 ≤ c ∧ c ≤ 90) := by decide +kernel
/-- the program's three questions are one -/
theorem word_eq {x : Str} (h : decide ((x.length : Int) ≤ 8) = true) : wordOk x = (Txt.isascii x && (Txt.isalpha x && Txt.islower x)) := by
  have e0 : wordOk x = (decide ((1 : Int) ≤ x.length) && x.cps.toList.all (fun c => decide (c ∈ ltrs.cps.toList))) := by
    unfold wordOk
    rw [h, Bool.and_true]
  have lx : x.length = x.cps.toList.length := by rw [Array.length_toList]; rfl
  have ea : Txt.isascii x = x.cps.toList.all (fun c => decide (c < 128)) := by unfold Txt.isascii; rw [← Array.all_toList]
  have eb : Txt.isalpha x = (decide (x.length > 0) && x.cps.toList.all Unicode.isAlpha) := by unfold Txt.isalpha; rw [← Array.all_toList]
  have ec : Txt.islower x = (x.cps.toList.any Unicode.isLower && !x.cps.toList.any fun c => Unicode.isUpper c || Unicode.isTitle c) := by unfold Txt.islower; rw [← Array.any_toList, ← Array.any_toList]
  rw [e0, ea, eb, ec, lx]
  generalize x.cps.toList = l
  rw [Bool.eq_iff_iff]
  simp only [Bool.and_eq_true, decide_eq_true_eq, List.all_eq_true, List.any_eq_true, Bool.not_eq_true', List.any_eq_false, ltr_iff]
  constructor
  · rintro ⟨h1, h2⟩
    have a128 : ∀ c ∈ l, c < 128 := fun c hc => by have := h2 c hc; omega
    refine ⟨a128, ⟨by omega, fun c hc => ?_⟩, ?_, fun c hc => ?_⟩
    · rw [(cls_signs c (a128 c hc)).1, decide_eq_true (h2 c hc), Bool.true_or]
    · cases l with
      | nil => simp at h1
      | cons c r => exact ⟨c, by simp, by rw [(cls_signs c (a128 c (by simp))).2.1, decide_eq_true (h2 c (by simp))]⟩
    · rw [(cls_signs c (a128 c hc)).2.2, decide_eq_false (by have := h2 c hc; omega)]
      exact Bool.false_ne_true
  · rintro ⟨a128, ⟨h1, h2⟩, _, h4⟩
    refine ⟨by omega, fun c hc => ?_⟩
    have q1 := h2 c hc
    have q2 := h4 c hc
    rw [(cls_signs c (a128 c hc)).1] at q1
    rw [(cls_signs c (a128 c hc)).2.2] at q2
    simp only [Bool.or_eq_true, decide_eq_true_eq] at q1
    rcases q1 with q1 | q1
    · exact q1
    · exact absurd (decide_eq_true q1) q2

theorem noFree {l : List (Str × NameKind)} {p : Str × NameKind → Prop} (h : (l.all fun y => decide (y.2 ≠ NameKind.free)) = true) : ∀ y ∈ l, y.2 = NameKind.free → p y := fun y hy e =>
  absurd e (of_decide_eq_true (List.all_eq_true.mp h y hy))
section
variable {P : Program} {w : World} {K : PySem.W.Frag} {mg : Str → Option Value} {base : Heap}

/-! ### defs whose code object is known -/
theorem ok_code {x qual : Str} {st : Stmt} {f c : Addr} {oc kV doc pm ct : Value} {od an : Option Addr} {osl : Array (Option Value)} {N ps : List Str} {k : Nat} {sp : Sp}
    (l : K.lookup f = some ⟨oc, od, .func (PySem.W.fnOf x qual (defArgs st) (defBody st) (defScope st) .none kV doc pm an (.ref c) ct), osl⟩) (hc : PySem.W.codeIn K (.ref c) qual = true)
    (S : FnScope N ps (defScope st)) (len : ∀ vs H Q E, sp vs H Q E → vs.length = ps.length)
    (hb : ∀ (A : Around) (outer : List Env) (s : Shared) (H : Hp) (vs : List V) (Q : VK) (E : XK), Room k (A.deeper (envOfC qual (defScope st) s.heap.objs.size f (.ref c))) → sp vs H Q E →
      ∃ t, PSs (cxOf CX0 P w K mg base N qual (defScope st) f (.ref c) A outer s H E).nox (defBody st) t ∧ t { nx := fun _ H' => Q .non H', rt := Q } (start N vs) H) :
    FnOk P w K mg base CX0 (k + 1) f (PySem.W.fnOf x qual (defArgs st) (defBody st) (defScope st) .none kV doc pm an (.ref c) ct) ps sp := by
  refine fn_of l hc S len fun A outer s H vs Q E hr hsp => ?_
  obtain ⟨t, h, q⟩ := hb A outer s H vs Q E hr hsp
  exact ⟨t, h.nox, q⟩

/-! ### is_word -/
def spWord (K : PySem.W.Frag) (T : Tp) : Sp := fun vs H Q _ => ∃ v n o, vs = [v] ∧ Th K H v n o ∧ TG T H ∧ ∀ H', Go T D0 H H' → Q (.bl (wordV v)) H'
theorem ok_word {T : Tp} {f : Addr} {fd : FuncData} {k : Nat} (F : Fun K "is_word" "is_word" sWord f fd) (M : Mg K mg) : FnOk P w K mg base CX0 (k + 1) f fd ["thing"] (spWord K T) := by
  obtain ⟨tk, hL⟩ := M.mostL
  refine F.ok scWord (fun vs H Q E h => ?_) (fun cdv A outer s H vs Q E hr h => ?_)
  · obtain ⟨v, n, o, rfl, _⟩ := h
    rfl
  · obtain ⟨v, n, o, rfl, th, tg, q⟩ := h
    refine ⟨_, pss_cons (ps_if (PW.pt (pw_or (pt_not (pt_val (pe_callB call_isi (by rfl) M.ins boot_isinstance (pa_cons (pv 0) (pa_cons (pe_bltn (v := .ty "str") (by rfl) M.str_ boot_str rfl) pa_nil)))))
        (pw_or1 (pt_cmpR op_gt (pe_callB call_len_str (by rfl) M.len_ PySem.boot_len (pa_cons (pv 0) pa_nil)) (pe_glob (v := .int 8) (by rfl) hL ⟨_, rfl⟩) (nomark _)))))
        (pss_one (ps_ret pe_bl)) pss_nil)
      (pss_one (ps_ret (pe_and (pe_m0 PySem.F.slot_str_isascii PySem.F.type_str_isascii mt_isascii (pv 0)) (pe_and (pe_m0 PySem.F.slot_str_isalpha PySem.F.type_str_isalpha mt_isalpha (pv 0)) (pe_one (pe_m0 PySem.F.slot_str_islower PySem.F.type_str_islower mt_islower (pv 0))))))), ?_⟩
    refine ⟨v, rfl, v, .ty "str", .type n, .type "str", _, rfl, .ty _, th.ty, kit_ty th.kstr, _, rfl, ite2 (fun e => iteT ?_) (fun e => ?_)⟩
    · rw [wordV_no (by simpa using e)] at q
      exact q H (Go.rfl' tg)
    · obtain ⟨x, rfl, hx⟩ := th.strOf (by simpa using e)
      have fin : ∀ b, wordOk x = b → Q (.bl b) H := fun b e => e ▸ q H (Go.rfl' tg)
      refine ⟨.str x, rfl, x, rfl, hx, _, _, rfl, rfl, _, rfl, ite2 (fun e1 => ?_) (fun e1 => ?_)⟩
      · have e2 : decide ((x.length : Int) ≤ 8) = false := decide_eq_false (by have := of_decide_eq_true e1; omega)
        refine fin _ ?_
        show (decide ((1 : Int) ≤ x.length) && decide ((x.length : Int) ≤ 8) && _) = false
        rw [e2, Bool.and_false, Bool.false_and]
      · have e2 : decide ((x.length : Int) ≤ 8) = true := decide_eq_true (by have := of_decide_eq_false (Bool.eq_false_iff.mpr e1); omega)
        have e3 := word_eq e2
        refine ⟨.str x, rfl, ⟨x, rfl⟩, x, rfl, rfl, trivial, _, rfl, ite2 (fun e4 => ⟨.str x, rfl, ⟨x, rfl⟩, x, rfl, rfl, trivial, _, rfl, ite2 (fun e5 => ⟨.str x, rfl, ⟨x, rfl⟩, x, rfl, rfl, trivial, fin _ ?_⟩) (fun e5 => fin _ ?_)⟩) (fun e4 => fin _ ?_)⟩
        · rw [e3, e4, e5, Bool.true_and, Bool.true_and]
        · rw [e3, e4, Bool.eq_false_iff.mpr e5, Bool.true_and, Bool.false_and]
        · rw [e3, Bool.eq_false_iff.mpr e4, Bool.false_and]
end
end K1
set_option Elab.async false
set_option linter.all false
set_option maxRecDepth 100000
set_option maxHeartbeats 400000
/-! The program's defs: is_hand, is_name, is_put_line, is_end. -/
namespace K1
open PySem PySem.Spec PyProof.Rows L2

theorem notnot {b : Bool} (e : ¬ (!b) = true) : b = true := by
  cases b with
  | true => rfl
  | false => exact absurd rfl e
theorem Th.tupOf {K : PySem.W.Frag} {H : Hp} {v : V} {n : String} {o : Option (List V)} (h : Th K H v n o) (e : o.isSome = true) : ∃ a xs, v = .ref a ∧ SqT K H a xs ∧ o = some xs := by
  cases h with
  | tup q => exact ⟨_, _, rfl, q, rfl⟩
  | _ => cases e
theorem noneOf {o : Option (List V)} (e : ¬ (!o.isSome) = false) : o = none := by
  cases o with
  | none => rfl
  | some _ => exact absurd rfl e
theorem nameL_len {xs : List V} (h : ¬ xs.length = 2) : nameL (some xs) = false := by
  match xs with
  | [] => rfl
  | [_] => rfl
  | [_, _] => exact absurd rfl h
  | _ :: _ :: _ :: _ => rfl
theorem putL_len {xs : List V} (h : ¬ xs.length = 3) : putL (some xs) = false := by
  match xs with
  | [] => rfl
  | [_] => rfl
  | [_, _] => rfl
  | [_, _, _] => exact absurd rfl h
  | _ :: _ :: _ :: _ :: _ => rfl
theorem endL_len {xs : List V} (h : ¬ xs.length = 3) : endL (some xs) = false := by
  match xs with
  | [] => rfl
  | [_] => rfl
  | [_, _] => rfl
  | [_, _, _] => exact absurd rfl h
  | _ :: _ :: _ :: _ :: _ => rfl
theorem len2 {xs : List V} (h : xs.length = 2) : ∃ p q, xs = [p, q] := by
  match xs, h with
  | [p, q], _ => exact ⟨p, q, rfl⟩
theorem len3 {xs : List V} (h : xs.length = 3) : ∃ p q r, xs = [p, q, r] := by
  match xs, h with
  | [p, q, r], _ => exact ⟨p, q, r, rfl⟩
theorem strOfV {v : V} (e : isS v = true) : ∃ x, v = .str x := by
  cases v with
  | str x => exact ⟨x, rfl⟩
  | _ => cases e
theorem wordV_str {v : V} (e : wordV v = true) : ∃ x, v = .str x := by
  cases v with
  | str x => exact ⟨x, rfl⟩
  | _ => cases e

/-- an int or a truth -/
theorem numK {r : V} (h : (isI r || isB r) = true) : flatV r = true ∧ ∃ j, nmV r = some j ∧ (r = .bl true ∨ r = .int j ∨ (r = .bl false ∧ j = 0)) := by
  cases r with
  | int i => exact ⟨rfl, i, rfl, .inr (.inl rfl)⟩
  | bl b =>
    cases b with
    | true => exact ⟨rfl, 1, rfl, .inl rfl⟩
    | false => exact ⟨rfl, 0, rfl, .inr (.inr ⟨rfl, rfl⟩)⟩
  | _ => cases h
theorem amgV_num {r : V} {lo hi : Int} (h : ¬ (isI r || isB r) = true) : amgV r lo hi = false := by
  cases r with
  | int i => exact absurd rfl h
  | _ => rfl
theorem geOne_num {r : V} (h : ¬ (isI r || isB r) = true) : geOne r = false := by
  cases r with
  | int i => exact absurd rfl h
  | _ => rfl
theorem isB_num {r : V} (h : decide (r = .bl true) = true) : amgV r 1 999 = false ∧ geOne r = false := by
  rw [of_decide_eq_true h]
  exact ⟨rfl, rfl⟩

section
variable {P : Program} {w : World} {K : PySem.W.Frag} {mg : Str → Option Value} {base : Heap} {T : Tp}

/-! ### is_hand -/
def spHand (K : PySem.W.Frag) (T : Tp) : Sp := fun vs H Q _ => ∃ v n o, vs = [v] ∧ Th K H v n o ∧ TG T H ∧ ∀ H', Go T D0 H H' → Q (.bl (handV v)) H'
theorem ok_hand {f : Addr} {fd : FuncData} {k : Nat} (F : Fun K "is_hand" "is_hand" sHand f fd) (cW : Cal P w K mg base k "is_word" ["thing"] (spWord K T)) : FnOk P w K mg base CX0 (k + 1) f fd ["thing"] (spHand K T) := by
  refine F.ok scHand (fun vs H Q E h => ?_) (fun cdv A outer s H vs Q E hr h => ?_)
  · obtain ⟨v, n, o, rfl, _⟩ := h
    rfl
  · obtain ⟨v, n, o, rfl, th, tg, q⟩ := h
    refine ⟨_, pss_one (ps_ret (pe_and (pe_cal cW hr (by rfl) (pa_cons (pv 0) pa_nil)) (pe_one (pe_cmpR op_notIn_seq (pv 0) (pe_tup (pa_cons pe_str (pa_cons pe_str (pa_cons pe_str pa_nil)))) (by rfl))))), ?_⟩
    refine ⟨v, rfl, v, n, o, rfl, th, tg, fun H1 g1 => ⟨_, rfl, ite2 (fun e => ?_) (fun e => ?_)⟩⟩
    · refine ⟨v, rfl, by show 3 ≤ sizeLine; decide, fun t ht => ⟨t, noHands, rfl, .inr (.inl (.inl upd_same)), ?_, rfl, ?_⟩⟩
      · obtain ⟨x, rfl⟩ := wordV_str e
        rfl
      · have e2 : handV v = !inV v noHands := by
          unfold handV
          rw [e, Bool.true_and]
        have q2 := q (upd H1 t (.tup noHands)) (g1.new ht)
        rw [e2] at q2
        exact q2
    · have e2 : handV v = false := by
        unfold handV
        rw [Bool.eq_false_iff.mpr e, Bool.false_and]
      have q2 := q _ g1
      rw [e2] at q2
      exact q2

/-! ### is_name -/
def ThAll (K : PySem.W.Frag) (H : Hp) (o : Option (List V)) : Prop := ∀ xs, o = some xs → ∀ x ∈ xs, ∃ m o', Th K H x m o'
def spName (K : PySem.W.Frag) (T : Tp) : Sp := fun vs H Q _ => ∃ v n o, vs = [v] ∧ Th K H v n o ∧ ThAll K H o ∧ TG T H ∧ ∀ H', Go T D0 H H' → Q (.bl (nameL (o))) H'
theorem ok_name {f : Addr} {fd : FuncData} {k : Nat} (F : Fun K "is_name" "is_name" sName f fd) (M : Mg K mg) (cH : Cal P w K mg base k "is_hand" ["thing"] (spHand K T)) :
    FnOk P w K mg base CX0 (k + 1) f fd ["thing"] (spName K T) := by
  obtain ⟨tk, hN⟩ := M.mostN
  refine F.ok scName (fun vs H Q E h => ?_) (fun cdv A outer s H vs Q E hr h => ?_)
  · obtain ⟨v, n, o, rfl, _⟩ := h
    rfl
  · obtain ⟨v, n, o, rfl, th, al, tg, q⟩ := h
    refine ⟨_, pss_cons (ps_if (PW.pt (pw_or (pt_not (pt_val (pe_callB call_isi (by rfl) M.ins boot_isinstance (pa_cons (pv 0) (pa_cons (pe_bltn (v := .ty "tuple") (by rfl) M.tuple_ (by decide +kernel) rfl) pa_nil)))))
        (pw_or1 (pt_cmpR op_ne (pe_callB call_len_seq (by rfl) M.len_ PySem.boot_len (pa_cons (pv 0) pa_nil)) pe_int (nomark _)))))
        (pss_one (ps_ret pe_bl)) pss_nil)
      (pss_cons (ps_asg (pv 0) (pg_tup (by rfl) (pgs_cons (pg_name (i := 1) scName.nd rfl (.inl rfl)) (pgs_cons (pg_name (i := 2) scName.nd rfl (.inl rfl)) pgs_nil))))
      (pss_one (ps_ret (pe_and (pe_callB call_isi (by rfl) M.ins boot_isinstance (pa_cons (pv 2) (pa_cons (pe_bltn (v := .ty "int") (by rfl) M.int_ boot_int rfl) pa_nil)))
        (pe_and (pe_cmpR op_isnotB (pv 2) pe_bl (nomark _))
        (pe_and (pe_chain op_leN op_le pe_int (pv 2) (pe_glob (v := .int 999) (by rfl) hN ⟨_, rfl⟩))
          (pe_one (pe_cal cH hr (by rfl) (pa_cons (pv 1) pa_nil))))))))), ?_⟩
    refine ⟨v, rfl, v, .ty "tuple", .type n, .type "tuple", _, rfl, .ty _, th.ty, kit_ty th.ktup, _, rfl, ite2 (fun e => iteT ?_) (fun e => ?_)⟩
    · have e2 : o = none := by
        cases o with
        | none => rfl
        | some _ => cases e
      rw [e2] at q
      exact q H (Go.rfl' tg)
    · obtain ⟨a, xs, rfl, hS, et⟩ := th.tupOf (notnot e)
      rw [et] at q
      refine ⟨.ref a, rfl, a, xs, rfl, .inr hS, rfl, _, rfl, ite2 (fun e1 => ?_) (fun e1 => ?_)⟩
      · have e2 : ¬ xs.length = 2 := by
          intro z
          rw [z] at e1
          exact absurd e1 (by decide)
        rw [nameL_len e2] at q
        exact q H (Go.rfl' tg)
      · have e2 : (xs.length : Int) = 2 := by
          have e3 : decide (V.int (xs.length : Int) = V.int 2) = true := by simpa using e1
          exact V.int.inj (of_decide_eq_true e3)
        obtain ⟨p, r, rfl⟩ := len2 (xs := xs) (by omega)
        obtain ⟨m, m1, tp⟩ := al _ et p (by simp)
        obtain ⟨m', m'1, tr⟩ := al _ et r (by simp)
        have no : amgV r 1 999 = false → Q (.bl false) H := fun e => by
          have q2 := q H (Go.rfl' tg)
          have e4 : nameL (some [p, r]) = false := by
            show (handV p && amgV r 1 999) = _
            rw [e, Bool.and_false]
          rw [e4] at q2
          exact q2
        refine ⟨.ref a, rfl, a, _, rfl, hS, rfl, p, [r], rfl, r, [], rfl, rfl, r, rfl, r, .ty "int", .type m', .type "int", _, rfl, .ty _, tr.ty, kit_ty tr.kint, _, rfl, ite2 (fun e3 => ?_) (fun e3 => ?_)⟩
        · obtain ⟨fl, j, hj, hc⟩ := numK e3
          refine ⟨r, rfl, true, fl, rfl, _, rfl, ite2 (fun e4 => ⟨r, rfl, 1, j, rfl, hj, _, rfl, ite2 (fun e5 => ?_) (fun e5 => ⟨_, rfl, iteF ?_⟩)⟩) (fun e4 => ?_)⟩
          · obtain rfl : r = .int j := by
              rcases hc with rfl | rfl | ⟨rfl, rfl⟩
              · exact absurd e4 (by decide)
              · rfl
              · exact absurd e5 (by decide)
            refine ⟨j, 999, rfl, rfl, _, rfl, ite2 (fun e6 => ⟨p, rfl, p, m, m1, rfl, tp, tg, fun H1 g1 => ?_⟩) (fun e6 => ?_)⟩
            · have q2 := q _ g1
              have e7 : nameL (some [p, .int j]) = handV p := by
                show (handV p && (decide (1 ≤ j) && decide (j ≤ 999))) = _
                rw [e5, e6, Bool.and_true, Bool.and_true]
              rw [e7] at q2
              exact q2
            · have e7 := Bool.eq_false_iff.mpr e6
              refine no ?_
              show (decide (1 ≤ j) && decide (j ≤ 999)) = false
              rw [e7, Bool.and_false]
          · have e7 := Bool.eq_false_iff.mpr e5
            refine no ?_
            rcases hc with rfl | rfl | ⟨rfl, rfl⟩
            · rfl
            · show (decide (1 ≤ j) && decide (j ≤ 999)) = false
              rw [e7, Bool.false_and]
            · rfl
          · refine no (isB_num ?_).1
            cases z : decide (r = V.bl true) with
            | true => rfl
            | false => exact absurd (by rw [z]; rfl) e4
        · exact no (amgV_num e3)

/-! ### is_put_line -/
def spPut (K : PySem.W.Frag) (T : Tp) : Sp := fun vs H Q _ => ∃ v n o, vs = [v] ∧ Th K H v n o ∧ ThAll K H o ∧ TG T H ∧ ∀ H', Go T D0 H H' → Q (.bl (putL (o))) H'
theorem cut2 (p q r : V) : cutV [p, q, r] none (some 2) = [p, q] := rfl
theorem ok_put {f : Addr} {fd : FuncData} {k : Nat} (F : Fun K "is_put_line" "is_put_line" sPut f fd) (M : Mg K mg) (cH : Cal P w K mg base k "is_hand" ["thing"] (spHand K T)) :
    FnOk P w K mg base CX0 (k + 1) f fd ["thing"] (spPut K T) := by
  obtain ⟨tk, hN⟩ := M.mostN
  refine F.ok scPut (fun vs H Q E h => ?_) (fun cdv A outer s H vs Q E hr h => ?_)
  · obtain ⟨v, n, o, rfl, _⟩ := h
    rfl
  · obtain ⟨v, n, o, rfl, th, al, tg, q⟩ := h
    refine ⟨_, pss_cons (ps_if (PW.pt (pw_or (pt_not (pt_val (pe_callB call_isi (by rfl) M.ins boot_isinstance (pa_cons (pv 0) (pa_cons (pe_bltn (v := .ty "tuple") (by rfl) M.tuple_ (by decide +kernel) rfl) pa_nil)))))
        (pw_or1 (pt_cmpR op_ne (pe_callB call_len_seq (by rfl) M.len_ PySem.boot_len (pa_cons (pv 0) pa_nil)) pe_int (nomark _)))))
        (pss_one (ps_ret pe_bl)) pss_nil)
      (pss_cons (ps_asg (pv 0) (pg_tup (by rfl) (pgs_cons (pg_name (i := 1) scPut.nd rfl (.inl rfl)) (pgs_cons (pg_name (i := 2) scPut.nd rfl (.inl rfl)) (pgs_cons (pg_name (i := 3) scPut.nd rfl (.inl rfl)) pgs_nil)))))
      (pss_cons (ps_if (PW.pt (pw_or (pt_not (pt_val (pe_callB call_isi (by rfl) M.ins boot_isinstance (pa_cons (pv 2) (pa_cons (pe_bltn (v := .ty "int") (by rfl) M.int_ boot_int rfl) pa_nil)))))
          (pw_or (pt_not (pt_val (pe_callB call_isi (by rfl) M.ins boot_isinstance (pa_cons (pv 3) (pa_cons (pe_bltn (v := .ty "int") (by rfl) M.int_ boot_int rfl) pa_nil)))))
          (pw_or (pt_cmpR op_isB (pv 2) pe_bl (nomark _)) (pw_or1 (pt_cmpR op_isB (pv 3) pe_bl (nomark _)))))))
        (pss_one (ps_ret pe_bl)) pss_nil)
      (pss_one (ps_ret (pe_and (pe_chain op_leN op_le pe_int (pv 2) (pe_glob (v := .int 999) (by rfl) hN ⟨_, rfl⟩))
        (pe_and (pe_cmpR op_geN (pv 3) pe_int (nomark _))
          (pe_one (pe_cal cH hr (by rfl) (pa_cons (pv 1) pa_nil))))))))), ?_⟩
    refine ⟨v, rfl, v, .ty "tuple", .type n, .type "tuple", _, rfl, .ty _, th.ty, kit_ty th.ktup, _, rfl, ite2 (fun e => iteT ?_) (fun e => ?_)⟩
    · have e2 : o = none := by
        cases o with
        | none => rfl
        | some _ => cases e
      rw [e2] at q
      exact q H (Go.rfl' tg)
    · obtain ⟨a, xs, rfl, hS, et⟩ := th.tupOf (notnot e)
      rw [et] at q
      refine ⟨.ref a, rfl, a, xs, rfl, .inr hS, rfl, _, rfl, ite2 (fun e1 => ?_) (fun e1 => ?_)⟩
      · have e2 : ¬ xs.length = 3 := by
          intro z
          rw [z] at e1
          exact absurd e1 (by decide)
        rw [putL_len e2] at q
        exact q H (Go.rfl' tg)
      · have e2 : (xs.length : Int) = 3 := by
          have e3 : decide (V.int (xs.length : Int) = V.int 3) = true := by simpa using e1
          exact V.int.inj (of_decide_eq_true e3)
        obtain ⟨p, r, l, rfl⟩ := len3 (xs := xs) (by omega)
        obtain ⟨m, m1, tp⟩ := al _ et p (by simp)
        obtain ⟨m', m'1, tr⟩ := al _ et r (by simp)
        obtain ⟨m'', m''1, tl'⟩ := al _ et l (by simp)
        have no : (amgV r 1 999 && geOne l) = false → Q (.bl false) H := fun e => by
          have q2 := q H (Go.rfl' tg)
          have e4 : putL (some [p, r, l]) = false := by
            show ((handV p && amgV r 1 999) && geOne l) = _
            rw [Bool.and_assoc, e, Bool.and_false]
          rw [e4] at q2
          exact q2
        have no1 : amgV r 1 999 = false → Q (.bl false) H := fun e => no (by rw [e, Bool.false_and])
        have no2 : geOne l = false → Q (.bl false) H := fun e => no (by rw [e, Bool.and_false])
        refine ⟨.ref a, rfl, a, _, rfl, hS, rfl, p, [r, l], rfl, r, [l], rfl, l, [], rfl, rfl, r, rfl, r, .ty "int", .type m', .type "int", _, rfl, .ty _, tr.ty, kit_ty tr.kint, _, rfl, ite2 (fun e3 => iteT ?_) (fun e3 => ?_)⟩
        · exact no1 (amgV_num (fun z => by rw [z] at e3; cases e3))
        · obtain ⟨fr, i, hi, hci⟩ := numK (notnot e3)
          refine ⟨l, rfl, l, .ty "int", .type m'', .type "int", _, rfl, .ty _, tl'.ty, kit_ty tl'.kint, _, rfl, ite2 (fun e4 => iteT ?_) (fun e4 => ?_)⟩
          · exact no2 (geOne_num (fun z => by rw [z] at e4; cases e4))
          · obtain ⟨fl, j, hj, hcj⟩ := numK (notnot e4)
            refine ⟨r, rfl, true, fr, rfl, _, rfl, ite2 (fun e5 => iteT (no1 (isB_num e5).1)) (fun e5 => ⟨l, rfl, true, fl, rfl, _, rfl, ite2 (fun e6 => no2 (isB_num e6).2) (fun e6 => ?_)⟩)⟩
            refine ⟨r, rfl, 1, i, rfl, hi, _, rfl, ite2 (fun e7 => ?_) (fun e7 => ⟨_, rfl, iteF ?_⟩)⟩
            · obtain rfl : r = .int i := by
                rcases hci with rfl | rfl | ⟨rfl, rfl⟩
                · exact absurd rfl e5
                · rfl
                · exact absurd e7 (by decide)
              refine ⟨i, 999, rfl, rfl, _, rfl, ite2 (fun e8 => ?_) (fun e8 => ?_)⟩
              · refine ⟨l, rfl, j, 1, hj, rfl, _, rfl, ite2 (fun e9 => ⟨p, rfl, p, m, m1, rfl, tp, tg, fun H1 g1 => ?_⟩) (fun e9 => ?_)⟩
                · obtain rfl : l = .int j := by
                    rcases hcj with rfl | rfl | ⟨rfl, rfl⟩
                    · exact absurd rfl e6
                    · rfl
                    · exact absurd e9 (by decide)
                  have q2 := q _ g1
                  have ea : putL (some [p, .int i, .int j]) = handV p := by
                    show ((handV p && (decide (1 ≤ i) && decide (i ≤ 999))) && decide (1 ≤ j)) = _
                    rw [e7, e8, e9, Bool.and_true, Bool.and_true, Bool.and_true]
                  rw [ea] at q2
                  exact q2
                · have ea := Bool.eq_false_iff.mpr e9
                  refine no2 ?_
                  rcases hcj with rfl | rfl | ⟨rfl, rfl⟩
                  · rfl
                  · exact ea
                  · rfl
              · have ea := Bool.eq_false_iff.mpr e8
                refine no1 ?_
                show (decide (1 ≤ i) && decide (i ≤ 999)) = false
                rw [ea, Bool.and_false]
            · have ea := Bool.eq_false_iff.mpr e7
              refine no1 ?_
              rcases hci with rfl | rfl | ⟨rfl, rfl⟩
              · rfl
              · show (decide (1 ≤ i) && decide (i ≤ 999)) = false
                rw [ea, Bool.false_and]
              · rfl

end
end K1
set_option Elab.async false
set_option linter.all false
set_option maxRecDepth 100000
set_option maxHeartbeats 4000000
/-! Texts: numbers, parts, data of flat things. -/
namespace K1
open PySem PySem.Spec PyProof.Rows L2 TL

/-! ### flat things as data -/
def pd : V → PyData
  | .non => .none
  | .bl b => .bool b
  | .int i => .int i
  | .str x => .str x
  | _ => .none
def okV : V → Bool
  | .non => true
  | .bl _ => true
  | .int _ => true
  | .str x => PyData.strOk x
  | _ => false
theorem pd_dp {K : PySem.W.Frag} {H : Hp} {v : V} (h : okV v = true) : Dp K H v (pd v) := by
  cases v with
  | non => exact .non
  | bl b => exact .bl b
  | int i => exact .int i
  | str x => exact .str x
  | _ => cases h
theorem pd_lay {v : V} (h : okV v = true) : (pd v).canLay0 = true := by
  cases v with
  | str x => exact h
  | _ => first | rfl | cases h
theorem pd_depth (v : V) : (pd v).depth = 0 := by
  cases v <;> rfl
theorem pd_all {K : PySem.W.Frag} {H : Hp} : ∀ {xs : List V}, xs.all okV = true → DpAll K H xs (xs.map pd)
  | [], _ => .nil
  | v :: xs, h => by
    rw [List.all_cons, Bool.and_eq_true] at h
    exact .cons (pd_dp h.1) (pd_all h.2)
theorem pd_layAll : ∀ {xs : List V}, xs.all okV = true → PyData.canLayAll0 (xs.map pd) = true
  | [], _ => rfl
  | v :: xs, h => by
    rw [List.all_cons, Bool.and_eq_true] at h
    show ((pd v).canLay0 && PyData.canLayAll0 (xs.map pd)) = true
    rw [pd_lay h.1, pd_layAll h.2] <;> rfl
theorem pd_depthAll : ∀ (xs : List V), PyData.depthAll (xs.map pd) = 0
  | [] => rfl
  | v :: xs => by
    show max (pd v).depth (PyData.depthAll (xs.map pd)) = 0
    rw [pd_depth, pd_depthAll xs] <;> rfl
theorem sh_flat {v : V} (h : okV v = true) : SeqAt.shaped (pd v) = true := by
  unfold SeqAt.shaped
  rw [pd_lay h, pd_depth] <;> rfl
theorem sh_tup {xs : List V} (h : xs.all okV = true) : SeqAt.shaped (.tuple (xs.map pd)) = true := by
  show (PyData.canLayAll0 (xs.map pd) && decide (PyData.depthAll (xs.map pd) + 1 ≤ 64)) = true
  rw [pd_layAll h, pd_depthAll] <;> rfl
theorem sh_lst {xs : List V} (h : xs.all okV = true) : SeqAt.shaped (.list (xs.map pd)) = true := sh_tup h
theorem dp_tup {K : PySem.W.Frag} {H : Hp} {a : Addr} {xs : List V} (s : SqT K H a xs) (h : xs.all okV = true) : Dp K H (.ref a) (.tuple (xs.map pd)) := .tup s (pd_all h)
theorem dp_lst {K : PySem.W.Frag} {H : Hp} {a : Addr} {xs : List V} (s : SqL K H a xs) (h : xs.all okV = true) : Dp K H (.ref a) (.list (xs.map pd)) := .lst s (pd_all h)
theorem eqv_self {d : PyData} (h : SeqAt.shaped d = true) : PyData.eqv d d = true := SeqAt.eqv_refl d (SeqAt.canLay_of_shaped h)

/-! ### numbers -/
def numT (x : Str) : Option Int := match tl x with
  | [] => none
  | c :: r => if decide ((c :: r).length ≤ 6) && (decide (c ≠ 48) && (c :: r).all (fun c => decide (c ∈ tl figs))) then some ((NumText.digitsVal (c :: r) : Nat) : Int) else none
def numV : V → V
  | .str x => match numT x with
    | some n => .int n
    | none => .non
  | _ => .non
theorem tl_figs : tl figs = [48, 49, 50, 51, 52, 53, 54, 55, 56, 57] := by decide +kernel
theorem fig_iff {c : Nat} : c ∈ tl figs ↔ 48 ≤ c ∧ c ≤ 57 := by
  rw [tl_figs]
  simp only [List.mem_cons, List.not_mem_nil, or_false]
  omega
theorem digits_of {l : List Nat} (h : (l.all fun c => decide (c ∈ tl figs)) = true) : NumText.AllDigits l := by
  intro c hc
  exact fig_iff.mp (of_decide_eq_true (List.all_eq_true.mp h c hc))
/-- a number that is told: its text -/
theorem numT_some {x : Str} {n : Int} (h : numT x = some n) : (Str.ofString (toString n) = x ∧ intText? x = some n) ∧ 1 ≤ n ∧ (n < 1000000 ∧ x.length ≤ 6) := by
  unfold numT at h
  cases e : tl x with
  | nil => rw [e] at h; cases h
  | cons c r =>
    rw [e] at h
    simp only at h
    by_cases q : (decide ((c :: r).length ≤ 6) && (decide (c ≠ 48) && (c :: r).all (fun c => decide (c ∈ tl figs)))) = true
    · rw [if_pos q] at h
      cases h
      rw [Bool.and_eq_true, Bool.and_eq_true] at q
      have q1 : (c :: r).length ≤ 6 := of_decide_eq_true q.1
      have q2 : c ≠ 48 := of_decide_eq_true q.2.1
      have q3 := digits_of q.2.2
      have hc := q3 c (List.mem_cons_self ..)
      have hlen : x.length = (c :: r).length := by rw [len_tl, e]
      have td := NumText.toDigits_digitsVal r.length (c :: r) rfl q3 (.inr ⟨c, r, rfl, by omega⟩)
      have back : Str.ofString (toString (((NumText.digitsVal (c :: r) : Nat) : Nat) : Int)) = x := by
        refine ext_tl ?_
        rw [tl_num]
        unfold numL
        rw [td, e, List.map_map]
        refine (List.map_congr_left fun d hd => ?_).trans (List.map_id _)
        have := q3 d hd
        show (Char.ofNat d).toNat = d
        have v : d.isValidChar := Or.inl (by omega)
        simp [Char.ofNat, v, Char.toNat, Char.ofNatAux]
      refine ⟨⟨back, ?_⟩, ?_, ?_, by omega⟩
      · have := PySem.intText_digits (x := x) (by show NumText.AllDigits (tl x); rw [e]; exact q3) (by show tl x ≠ []; rw [e]; simp) (by omega)
        rw [this]
        show some ((NumText.digitsVal (tl x) : Nat) : Int) = _
        rw [e]
      · have := NumText.digitsVal_pos (c := c) (cs := r) (by omega)
        omega
      · have lt : ∀ (l : List Nat) (a : Nat), NumText.AllDigits l → l.foldl (fun acc c => acc * 10 + (c - 48)) a < (a + 1) * 10 ^ l.length := by
          intro l
          induction l with
          | nil => intro a _; simp
          | cons d l ih =>
            intro a ha
            have hd := ha d (List.mem_cons_self ..)
            have i2 := ih (a * 10 + (d - 48)) (fun z hz => ha z (List.mem_cons_of_mem _ hz))
            rw [List.foldl_cons, List.length_cons, Nat.pow_succ]
            have m : (a * 10 + (d - 48) + 1) * 10 ^ l.length ≤ ((a + 1) * 10) * 10 ^ l.length := Nat.mul_le_mul_right _ (by omega)
            have e9 : (a + 1) * (10 ^ l.length * 10) = ((a + 1) * 10) * 10 ^ l.length := by
              rw [Nat.mul_comm (10 ^ l.length) 10, Nat.mul_assoc]
            omega
        have l1 := lt (c :: r) 0 q3
        have p6 : 10 ^ (c :: r).length ≤ 10 ^ 6 := Nat.pow_le_pow_right (by decide) q1
        have : NumText.digitsVal (c :: r) < 1000000 := by
          show (c :: r).foldl _ 0 < _
          omega
        omega
    · rw [if_neg q] at h
      cases h

/-! ### parts -/
theorem pre_one {s c : Nat} {r : List Nat} : pre [s] (c :: r) = decide (c = s) := by
  show ([c] == [s]) = decide (c = s)
  by_cases h : c = s
  · subst h
    simp
  · rw [decide_eq_false h]
    simpa using h
theorem spl_ne {s : Nat} : ∀ (l acc : List Nat), spl [s] 0 acc l ≠ []
  | [], acc => by rw [spl_nil]; simp
  | c :: r, acc => by
    by_cases h : c = s
    · rw [spl_hit (by rw [pre_one]; exact decide_eq_true h)]
      simp
    · rw [spl_miss (by rw [pre_one]; exact decide_eq_false h)]
      exact spl_ne r _
theorem joinL_cons {S p : List Nat} {L : List (List Nat)} (h : L ≠ []) : joinL S (p :: L) = p ++ (S ++ joinL S L) := by
  cases L with
  | nil => exact absurd rfl h
  | cons q r => rfl
theorem join_spl {s : Nat} : ∀ (l acc : List Nat), joinL [s] (spl [s] 0 acc l) = acc ++ l
  | [], acc => by rw [spl_nil]; show acc = acc ++ []; simp
  | c :: r, acc => by
    by_cases h : c = s
    · rw [spl_hit (by rw [pre_one]; exact decide_eq_true h)]
      show joinL [s] (acc :: spl [s] 0 [] r) = _
      rw [joinL_cons (spl_ne _ _)]
      show acc ++ ([s] ++ joinL [s] (spl [s] 0 [] r)) = _
      rw [join_spl r [], h]
      simp
    · rw [spl_miss (by rw [pre_one]; exact decide_eq_false h), join_spl r (acc ++ [c])]
      simp
theorem joinL_len {S p : List Nat} : ∀ {L : List (List Nat)}, p ∈ L → p.length ≤ (joinL S L).length
  | [], h => by simp at h
  | [q], h => by
    obtain rfl := List.mem_singleton.mp h
    exact Nat.le_refl _
  | q :: q' :: r, h => by
    show p.length ≤ (q ++ (S ++ joinL S (q' :: r))).length
    rw [List.length_append, List.length_append]
    rcases List.mem_cons.mp h with rfl | h
    · omega
    · have := joinL_len (S := S) h
      omega
theorem joinL_mem {S p : List Nat} {c : Nat} (hc : c ∈ p) : ∀ {L : List (List Nat)}, p ∈ L → c ∈ joinL S L
  | [], h => by simp at h
  | [q], h => by
    obtain rfl := List.mem_singleton.mp h
    exact hc
  | q :: q' :: r, h => by
    show c ∈ q ++ (S ++ joinL S (q' :: r))
    rcases List.mem_cons.mp h with rfl | h
    · exact List.mem_append_left _ hc
    · exact List.mem_append_right _ (List.mem_append_right _ (joinL_mem hc h))
/-- one sign as a separator -/
structure Sep (y : Str) (s : Nat) : Prop where
  tl : tl y = [s]
  low : y.cps.all (· < 256) = true
theorem Sep.spl {y : Str} {s : Nat} (h : Sep y s) (x : Str) : (Txt.split x y).map TL.tl = TL.spl [s] 0 [] (TL.tl x) := by
  rw [split_spl x y (by rw [h.tl]; simp) (kind_ok h.low), h.tl]
theorem Sep.join {y : Str} {s : Nat} (h : Sep y s) (x : Str) : joinL [s] ((Txt.split x y).map TL.tl) = TL.tl x := by
  rw [h.spl, join_spl, List.nil_append]
theorem Sep.len {y : Str} {s : Nat} (h : Sep y s) {x p : Str} (hp : p ∈ Txt.split x y) : p.length ≤ x.length := by
  have := joinL_len (S := [s]) (List.mem_map_of_mem (f := TL.tl) hp)
  rw [h.join] at this
  rw [len_tl, len_tl]
  exact this
theorem Sep.mem {y : Str} {s : Nat} (h : Sep y s) {x p : Str} (hp : p ∈ Txt.split x y) {c : Nat} (hc : c ∈ TL.tl p) : c ∈ TL.tl x := by
  have := joinL_mem (S := [s]) hc (List.mem_map_of_mem (f := TL.tl) hp)
  rw [h.join] at this
  exact this
theorem Sep.two {y : Str} {s : Nat} (h : Sep y s) {x a b : Str} (e : Txt.split x y = [a, b]) : a ++ y ++ b = x := by
  refine ext_tl ?_
  rw [← h.join x, e, tl_append, tl_append, h.tl]
  show _ = TL.tl a ++ ([s] ++ TL.tl b)
  rw [List.append_assoc]
theorem Sep.three {y : Str} {s : Nat} (h : Sep y s) {x a b c : Str} (e : Txt.split x y = [a, b, c]) : a ++ y ++ b ++ y ++ c = x := by
  refine ext_tl ?_
  rw [← h.join x, e, tl_append, tl_append, tl_append, tl_append, h.tl]
  show _ = TL.tl a ++ ([s] ++ (TL.tl b ++ ([s] ++ TL.tl c)))
  simp only [List.append_assoc]
theorem sepDot : Sep "." 46 := ⟨by decide +kernel, by decide +kernel⟩
theorem sepBlank : Sep " " 32 := ⟨by decide +kernel, by decide +kernel⟩
end K1
set_option Elab.async false
set_option linter.all false
set_option maxRecDepth 100000
set_option maxHeartbeats 400000
/-! The program's defs: number_of, name_of, line_of, name_text, line_text, words_of. -/
namespace K1
open PySem PySem.Spec PyProof.Rows L2

theorem isS_no {v : V} (e : isS v = false) : numV v = .non := by
  cases v with
  | str x => cases e
  | _ => rfl
theorem zero_txt {c : Nat} : decide (V.str ⟨#[c]⟩ = V.str "0") = decide (c = 48) := by
  have e0 : ("0" : Str) = ⟨#[48]⟩ := by decide +kernel
  rw [e0]
  by_cases h : c = 48
  · subst h
    rw [decide_eq_true rfl, decide_eq_true rfl]
  · rw [decide_eq_false h, decide_eq_false]
    intro z
    injection z with z
    injection z with z
    exact h (by simpa using z)
def nameS (x : Str) : Option (List V) := match Txt.split x "." with
  | [a, b] => if nameL (some [.str a, numV (.str b)]) then some [.str a, numV (.str b)] else none
  | _ => none
def nameV : V → Option (List V)
  | .str x => nameS x
  | _ => none
def lineS (x : Str) : Option (List V) := if x = "head" then some [.str "", .int 0, .int 0] else if x = "foot" then some [.str "", .int 0, .int 1] else match Txt.split x "." with
  | [a, b, c] => if putL (some [.str a, numV (.str b), numV (.str c)]) then some [.str a, numV (.str b), numV (.str c)] else none
  | _ => none
def lineV : V → Option (List V)
  | .str x => lineS x
  | _ => none
def wordsV : V → Option (List Str)
  | .str x => if inV (.str "") ((Txt.split x " ").map V.str) then none else some (Txt.split x " ")
  | _ => none
/-- a text is small -/
def Small (v : V) : Prop := ∀ x, v = .str x → x.length + 2 ≤ 1000000
theorem numV_th {K : PySem.W.Frag} {H : Hp} (v : V) : ∃ m o, Th K H (numV v) m o := by
  cases v with
  | str x =>
    show ∃ m o, Th K H (match numT x with | some n => .int n | none => .non) m o
    cases numT x with
    | none => exact ⟨_, _, .non⟩
    | some n => exact ⟨_, _, .int n⟩
  | _ => exact ⟨_, _, .non⟩
theorem lt_line {n : Nat} (h : n + 2 ≤ 1000000) : n + 2 ≤ sizeLine := Nat.le_trans h (by decide)
theorem le_line {n : Nat} (h : n + 2 ≤ 1000000) : n ≤ sizeLine := Nat.le_trans (Nat.le_add_right n 2) (lt_line h)
theorem atS (ws : List Str) (j : Nat) (h : j < ws.length) : atI (ws.map V.str) ((j : Nat) : Int) = some (.str ws[j]) := atI_nat (by rw [List.getElem?_map, List.getElem?_eq_getElem h]; rfl)

theorem cls_dig : ∀ c, c < 128 → Unicode.isDigit c = decide (48 ≤ c ∧ c ≤ 57) := by decide +kernel
/-- the program's two questions are one -/
theorem dig_eq (x : Str) : (Txt.isdigit x && Txt.isascii x) = (decide (0 < x.length) && (TL.tl x).all fun c => decide (c ∈ TL.tl figs)) := by
  have ea : Txt.isascii x = (TL.tl x).all (fun c => decide (c < 128)) := by unfold Txt.isascii; rw [← Array.all_toList]
  have eb : Txt.isdigit x = (decide (0 < x.length) && (TL.tl x).all Unicode.isDigit) := by unfold Txt.isdigit; rw [← Array.all_toList]
  rw [ea, eb, Bool.and_assoc]
  congr 1
  generalize TL.tl x = l
  rw [Bool.eq_iff_iff]
  simp only [Bool.and_eq_true, decide_eq_true_eq, List.all_eq_true, fig_iff]
  constructor
  · rintro ⟨h1, h2⟩ c hc
    have q := h1 c hc
    rw [cls_dig c (h2 c hc)] at q
    exact of_decide_eq_true q
  · intro h
    have h2 : ∀ c ∈ l, c < 128 := fun c hc => by have := h c hc; omega
    exact ⟨fun c hc => by rw [cls_dig c (h2 c hc)]; exact decide_eq_true (h c hc), h2⟩

section
variable {P : Program} {w : World} {K : PySem.W.Frag} {mg : Str → Option Value} {base : Heap} {T : Tp}

/-! ### number_of -/
def spNumO (K : PySem.W.Frag) (T : Tp) : Sp := fun vs H Q _ => ∃ v n o, vs = [v] ∧ Th K H v n o ∧ TG T H ∧ ∀ H', Go T D0 H H' → Q (numV v) H'
theorem ok_numO {f : Addr} {fd : FuncData} {k : Nat} (F : Fun K "number_of" "number_of" sNumO f fd) (M : Mg K mg) : FnOk P w K mg base CX0 (k + 1) f fd ["word"] (spNumO K T) := by
  obtain ⟨tk, hF⟩ := M.mostF
  refine F.ok scNumO (fun vs H Q E h => ?_) (fun cdv A outer s H vs Q E hr h => ?_)
  · obtain ⟨v, n, o, rfl, _⟩ := h
    rfl
  · obtain ⟨v, n, o, rfl, th, tg, q⟩ := h
    refine ⟨_, pss_cons (ps_if (PW.pt (pw_or (pt_not (pt_val (pe_callB call_isi (by rfl) M.ins boot_isinstance (pa_cons (pv 0) (pa_cons (pe_bltn (v := .ty "str") (by rfl) M.str_ boot_str rfl) pa_nil)))))
        (pw_or (pt_cmpR op_gt (pe_callB call_len_str (by rfl) M.len_ PySem.boot_len (pa_cons (pv 0) pa_nil)) (pe_glob (v := .int 6) (by rfl) hF ⟨_, rfl⟩) (nomark _))
          (pw_or1 (pt_not (pt_val (pe_m0 PySem.F.slot_str_isdigit PySem.F.type_str_isdigit mt_isdigit (pv 0))))))))
        (pss_one (ps_ret pe_non)) pss_nil)
      (pss_cons (ps_if (PW.pt (pw_or (pt_cmpR op_eq (pe_ix ix_str (pv 0) pe_int (fun _ _ => rfl)) pe_str (nomark _))
          (pw_or1 (pt_not (pt_val (pe_m0 PySem.F.slot_str_isascii PySem.F.type_str_isascii mt_isascii (pv 0)))))))
        (pss_one (ps_ret pe_non)) pss_nil)
      (pss_one (ps_ret (pe_callTy call_int_str (by rfl) M.int_ boot_int (pa_cons (pv 0) pa_nil))))), ?_⟩
    refine ⟨v, rfl, v, .ty "str", .type n, .type "str", _, rfl, .ty _, th.ty, kit_ty th.kstr, _, rfl, ite2 (fun e => iteT ?_) (fun e => ?_)⟩
    · rw [isS_no (by simpa using e)] at q
      exact q H (Go.rfl' tg)
    · obtain ⟨x, rfl, hx⟩ := th.strOf (notnot e)
      have fin : ∀ b, numV (.str x) = b → Q b H := fun b e => e ▸ q H (Go.rfl' tg)
      have hl : x.length = (TL.tl x).length := TL.len_tl x
      have none_of : numT x = none → Q .non H := fun e => fin _ (by
        show (match numT x with | some n => V.int n | none => .non) = _
        rw [e])
      have dq := dig_eq x
      have def_ : ∀ c r, TL.tl x = c :: r → numT x = if (decide ((c :: r).length ≤ 6) && (decide (c ≠ 48) && (TL.tl x).all (fun z => decide (z ∈ TL.tl figs)))) = true then some ((NumText.digitsVal (c :: r) : Nat) : Int) else none := fun c r et => by
        unfold numT
        rw [et]
      refine ⟨.str x, rfl, x, rfl, hx, _, _, rfl, rfl, _, rfl, ite2 (fun e1 => iteT (none_of ?_)) (fun e1 => ⟨.str x, rfl, ⟨x, rfl⟩, x, rfl, rfl, trivial, _, rfl, ite2 (fun e2 => none_of ?_) (fun e2 => ?_)⟩)⟩
      · have e2 : (6 : Int) < x.length := of_decide_eq_true e1
        cases et : TL.tl x with
        | nil => unfold numT; rw [et]
        | cons c r =>
          rw [def_ c r et, decide_eq_false (p := (c :: r).length ≤ 6) (by rw [← et, ← hl]; omega), Bool.false_and, if_neg Bool.false_ne_true]
      · have e3 : Txt.isdigit x = false := by simpa using e2
        rw [e3, Bool.false_and] at dq
        cases et : TL.tl x with
        | nil => unfold numT; rw [et]
        | cons c r =>
          have h0 : x.length = r.length + 1 := by rw [hl, et]; rfl
          rw [decide_eq_true (show 0 < x.length by omega), Bool.true_and] at dq
          rw [def_ c r et, ← dq, Bool.and_false, Bool.and_false, if_neg Bool.false_ne_true]
      · have e3 : Txt.isdigit x = true := notnot e2
        rw [e3, Bool.true_and] at dq
        have e4 : ¬ (6 : Int) < x.length := of_decide_eq_false (Bool.eq_false_iff.mpr e1)
        cases et : TL.tl x with
        | nil =>
          have h0 : x.length = 0 := by rw [hl, et]; rfl
          have : Txt.isdigit x = false := by
            unfold Txt.isdigit
            rw [h0]
            rfl
          rw [e3] at this
          cases this
        | cons c r =>
          have h0 : x.length = r.length + 1 := by rw [hl, et]; rfl
          have e5 : (c :: r).length ≤ 6 := by
            show r.length + 1 ≤ 6
            omega
          refine ⟨.str x, rfl, x, 0, c, rfl, rfl, hx, atI_nat (j := 0) (by show (TL.tl x)[0]? = _; rw [et]; rfl), rfl, _, rfl, ?_⟩
          rw [zero_txt]
          refine ite2 (fun e6 => iteT (none_of ?_)) (fun e6 => ⟨.str x, rfl, ⟨x, rfl⟩, x, rfl, rfl, trivial, _, rfl, ite2 (fun e7 => none_of ?_) (fun e7 => ?_)⟩)
          · have e8 : c = 48 := of_decide_eq_true e6
            rw [def_ c r et, decide_eq_false (show ¬ (c ≠ 48) from fun z => z e8), Bool.false_and, Bool.and_false, if_neg Bool.false_ne_true]
          · have e8 : Txt.isascii x = false := by simpa using e7
            rw [e8, decide_eq_true (show 0 < x.length by omega), Bool.true_and] at dq
            rw [def_ c r et, ← dq, Bool.and_false, Bool.and_false, if_neg Bool.false_ne_true]
          · have e8 : Txt.isascii x = true := notnot e7
            rw [e8, decide_eq_true (show 0 < x.length by omega), Bool.true_and] at dq
            have e9 : c ≠ 48 := fun z => e6 (decide_eq_true z)
            have sum : numT x = some ((NumText.digitsVal (c :: r) : Nat) : Int) := by
              rw [def_ c r et, ← dq, decide_eq_true e5, decide_eq_true e9, Bool.true_and, Bool.true_and, if_pos rfl]
            obtain ⟨⟨_, ea⟩, _⟩ := numT_some sum
            refine ⟨.str x, rfl, x, _, rfl, ea, ?_, ?_⟩
            · rw [h0]
              show r.length + 1 ≤ 640
              have : r.length + 1 ≤ 6 := e5
              omega
            · refine fin _ ?_
              show (match numT x with | some n => V.int n | none => .non) = _
              rw [sum]

/-! ### name_of -/
def spNameO (K : PySem.W.Frag) (T : Tp) : Sp := fun vs H Q _ => ∃ v n o, vs = [v] ∧ Th K H v n o ∧ Small v ∧ TG T H ∧ (∀ H', Go T D0 H H' → nameV v = none → Q .non H') ∧ ∀ H' p xs, Go T D0 H H' → nameV v = some xs → SqT K H' p xs → Q (.ref p) H'
theorem ok_nameO {f : Addr} {fd : FuncData} {k : Nat} (F : Fun K "name_of" "name_of" sNameO f fd) (M : Mg K mg) (cN : Cal P w K mg base k "is_name" ["thing"] (spName K T)) (cU : Cal P w K mg base k "number_of" ["word"] (spNumO K T)) :
    FnOk P w K mg base CX0 (k + 1) f fd ["word"] (spNameO K T) := by
  refine F.ok scNameO (fun vs H Q E h => ?_) (fun cdv A outer s H vs Q E hr h => ?_)
  · obtain ⟨v, n, o, rfl, _⟩ := h
    rfl
  · obtain ⟨v, n, o, rfl, th, sm, tg, q0, q1⟩ := h
    refine ⟨_, pss_cons (ps_if (pt_not (pt_val (pe_callB call_isi (by rfl) M.ins boot_isinstance (pa_cons (pv 0) (pa_cons (pe_bltn (v := .ty "str") (by rfl) M.str_ boot_str rfl) pa_nil)))))
        (pss_one (ps_ret pe_non)) pss_nil)
      (pss_cons (ps_set (i := 1) scNameO.nd rfl (.inl rfl) (pe_split (pv 0) pe_str))
      (pss_cons (ps_if (pt_cmpR op_ne (pe_callB call_len_seq (by rfl) M.len_ PySem.boot_len (pa_cons (pv 1) pa_nil)) pe_int (nomark _)) (pss_one (ps_ret pe_non)) pss_nil)
      (pss_cons (ps_set (i := 2) scNameO.nd rfl (.inl rfl) (pe_tup (pa_cons (pe_ix ix_list (pv 1) pe_int (fun _ _ => rfl)) (pa_cons (pe_cal cU hr (by rfl) (pa_cons (pe_ix ix_list (pv 1) pe_int (fun _ _ => rfl)) pa_nil)) pa_nil))))
      (pss_one (ps_ret (pe_ifExp (pt_val (pe_cal cN hr (by rfl) (pa_cons (pv 2) pa_nil))) (pv 2) pe_non)))))), ?_⟩
    refine ⟨v, rfl, v, .ty "str", .type n, .type "str", _, rfl, .ty _, th.ty, kit_ty th.kstr, _, rfl, ite2 (fun e => ?_) (fun e => ?_)⟩
    · refine q0 H (Go.rfl' tg) ?_
      cases v with
      | str x => cases e
      | _ => rfl
    · obtain ⟨x, rfl, hx⟩ := th.strOf (notnot e)
      have hs := sm x rfl
      refine ⟨.str x, rfl, ⟨x, rfl⟩, x, ".", rfl, rfl, by decide +kernel, lt_line hs, fun o ho => ?_⟩
      have gO : Go T D0 H (upd H o (.lst ((Txt.split x ".").map V.str))) := (Go.rfl' tg).new ho
      generalize hH1 : upd H o (.lst ((Txt.split x ".").map V.str)) = H1 at gO ⊢
      have eo : H1 o = some (.lst ((Txt.split x ".").map V.str)) := by rw [← hH1]; exact upd_same
      have hO : SqL K H1 o ((Txt.split x ".").map V.str) := .inl (.inl eo)
      refine ⟨.ref o, rfl, o, _, rfl, .inl hO, rfl, _, rfl, ite2 (fun e1 => q0 _ gO ?_) (fun e1 => ?_)⟩
      · have e2 : ¬ (Txt.split x ".").length = 2 := by
          intro z
          rw [List.length_map, z] at e1
          exact absurd e1 (by decide)
        show nameS x = none
        unfold nameS
        split
        · rename_i a b h
          rw [h] at e2
          exact absurd rfl e2
        · rfl
      · have e3 : (((Txt.split x ".").map V.str).length : Int) = 2 := V.int.inj (of_decide_eq_true (notnot e1))
        rw [List.length_map] at e3
        obtain ⟨a, b, hab⟩ : ∃ a b, Txt.split x "." = [a, b] := by
          match hq : Txt.split x ".", e3 with
          | [a, b], _ => exact ⟨a, b, rfl⟩
          | [], h => simp at h
          | [_], h => simp at h
          | _ :: _ :: _ :: _, h => simp at h; omega
        rw [hab] at eo hO
        have la : a.length ≤ x.length := sepDot.len (by rw [hab]; simp)
        have lb : b.length ≤ x.length := sepDot.len (by rw [hab]; simp)
        refine ⟨.ref o, rfl, o, _, 0, .str a, rfl, rfl, hO, atI_nat (j := 0) rfl, .ref o, rfl, o, _, 1, .str b, rfl, rfl, hO, atI_nat (j := 1) rfl, .str b, "str", none, rfl, .str b (Nat.le_trans lb hx), gO.1, fun H2 g2 => ⟨by show 2 ≤ sizeLine; decide, fun t ht => ?_⟩⟩
        have g02 : Go T D0 H H2 := gO.trans g2
        have gT : Go T D0 H (upd H2 t (.tup [.str a, numV (.str b)])) := g02.new ht
        have al : ThAll K (upd H2 t (.tup [.str a, numV (.str b)])) (some [.str a, numV (.str b)]) := by
          intro ys hy z hz
          skip
          cases hy
          rcases List.mem_cons.mp hz with rfl | hz
          · exact ⟨_, _, .str a (Nat.le_trans la hx)⟩
          · obtain rfl := List.mem_singleton.mp hz
            exact numV_th _
        refine ⟨.ref t, rfl, .ref t, "tuple", _, rfl, .tup (.inl (.inl upd_same)), al, gT.1, fun H3 g3 => ⟨_, rfl, ?_⟩⟩
        skip
        have gE : Go T D0 H H3 := gT.trans g3
        have es : nameS x = if nameL (some [.str a, numV (.str b)]) then some [.str a, numV (.str b)] else none := by
          unfold nameS
          rw [hab]
        refine ite2 (fun e5 => ⟨.ref t, rfl, q1 H3 t _ gE ?_ (g3.seqT gT.1 (fun _ _ z => z) (.inl (.inl upd_same)))⟩) (fun e5 => q0 H3 gE ?_)
        · show nameS x = _
          rw [es, if_pos e5]
        · show nameS x = _
          rw [es, if_neg e5]

/-! ### line_of -/
def spLineO (K : PySem.W.Frag) (T : Tp) : Sp := fun vs H Q _ => ∃ v n o, vs = [v] ∧ Th K H v n o ∧ Small v ∧ TG T H ∧ (∀ H', Go T D0 H H' → lineV v = none → Q .non H') ∧ ∀ H' p xs, Go T D0 H H' → lineV v = some xs → SqT K H' p xs → Q (.ref p) H'
theorem ok_lineO {f : Addr} {fd : FuncData} {k : Nat} (F : Fun K "line_of" "line_of" sLineO f fd) (M : Mg K mg) (cN : Cal P w K mg base k "is_put_line" ["thing"] (spPut K T)) (cU : Cal P w K mg base k "number_of" ["word"] (spNumO K T)) :
    FnOk P w K mg base CX0 (k + 1) f fd ["word"] (spLineO K T) := by
  obtain ⟨aH, mH, sH⟩ := M.hd
  obtain ⟨aF, mF, sF⟩ := M.ft
  refine F.ok scLineO (fun vs H Q E h => ?_) (fun cdv A outer s H vs Q E hr h => ?_)
  · obtain ⟨v, n, o, rfl, _⟩ := h
    rfl
  · obtain ⟨v, n, o, rfl, th, sm, tg, q0, q1⟩ := h
    refine ⟨_, pss_cons (ps_if (pt_not (pt_val (pe_callB call_isi (by rfl) M.ins boot_isinstance (pa_cons (pv 0) (pa_cons (pe_bltn (v := .ty "str") (by rfl) M.str_ boot_str rfl) pa_nil)))))
        (pss_one (ps_ret pe_non)) pss_nil)
      (pss_cons (ps_if (pt_cmpR op_eq (pv 0) pe_str (nomark _)) (pss_one (ps_ret (pe_glob (v := .ref aH) (by rfl) mH rfl))) pss_nil)
      (pss_cons (ps_if (pt_cmpR op_eq (pv 0) pe_str (nomark _)) (pss_one (ps_ret (pe_glob (v := .ref aF) (by rfl) mF rfl))) pss_nil)
      (pss_cons (ps_set (i := 1) scLineO.nd rfl (.inl rfl) (pe_split (pv 0) pe_str))
      (pss_cons (ps_if (pt_cmpR op_ne (pe_callB call_len_seq (by rfl) M.len_ PySem.boot_len (pa_cons (pv 1) pa_nil)) pe_int (nomark _)) (pss_one (ps_ret pe_non)) pss_nil)
      (pss_cons (ps_set (i := 2) scLineO.nd rfl (.inl rfl) (pe_tup (pa_cons (pe_ix ix_list (pv 1) pe_int (fun _ _ => rfl)) (pa_cons (pe_cal cU hr (by rfl) (pa_cons (pe_ix ix_list (pv 1) pe_int (fun _ _ => rfl)) pa_nil)) (pa_cons (pe_cal cU hr (by rfl) (pa_cons (pe_ix ix_list (pv 1) pe_int (fun _ _ => rfl)) pa_nil)) pa_nil)))))
      (pss_one (ps_ret (pe_ifExp (pt_val (pe_cal cN hr (by rfl) (pa_cons (pv 2) pa_nil))) (pv 2) pe_non)))))))), ?_⟩
    refine ⟨v, rfl, v, .ty "str", .type n, .type "str", _, rfl, .ty _, th.ty, kit_ty th.kstr, _, rfl, ite2 (fun e => ?_) (fun e => ?_)⟩
    · refine q0 H (Go.rfl' tg) ?_
      cases v with
      | str x => cases e
      | _ => rfl
    · obtain ⟨x, rfl, hx⟩ := th.strOf (notnot e)
      have hs := sm x rfl
      have g0 : Go T D0 H H := Go.rfl' tg
      refine ⟨.str x, rfl, rfl, _, rfl, ite2 (fun e1 => ?_) (fun e1 => ?_)⟩
      · have e2 : x = "head" := V.str.inj (of_decide_eq_true e1)
        refine q1 H aH _ g0 ?_ (sH H)
        show lineS x = _
        unfold lineS
        rw [if_pos e2]
      have n1 : ¬ x = "head" := fun z => e1 (decide_eq_true (congrArg V.str z))
      refine ⟨.str x, rfl, rfl, _, rfl, ite2 (fun e1 => ?_) (fun e1 => ?_)⟩
      · have e2 : x = "foot" := V.str.inj (of_decide_eq_true e1)
        refine q1 H aF _ g0 ?_ (sF H)
        show lineS x = _
        unfold lineS
        rw [if_neg n1, if_pos e2]
      have n2 : ¬ x = "foot" := fun z => e1 (decide_eq_true (congrArg V.str z))
      refine ⟨.str x, rfl, ⟨x, rfl⟩, x, ".", rfl, rfl, by decide +kernel, lt_line hs, fun o ho => ?_⟩
      have gO : Go T D0 H (upd H o (.lst ((Txt.split x ".").map V.str))) := (Go.rfl' tg).new ho
      generalize hH1 : upd H o (.lst ((Txt.split x ".").map V.str)) = H1 at gO ⊢
      have eo : H1 o = some (.lst ((Txt.split x ".").map V.str)) := by rw [← hH1]; exact upd_same
      have hO : SqL K H1 o ((Txt.split x ".").map V.str) := .inl (.inl eo)
      refine ⟨.ref o, rfl, o, _, rfl, .inl hO, rfl, _, rfl, ite2 (fun e1 => q0 _ gO ?_) (fun e1 => ?_)⟩
      · have e2 : ¬ (Txt.split x ".").length = 3 := by
          intro z
          rw [List.length_map, z] at e1
          exact absurd e1 (by decide)
        show lineS x = none
        unfold lineS
        rw [if_neg n1, if_neg n2]
        split
        · rename_i a b c h
          rw [h] at e2
          exact absurd rfl e2
        · rfl
      · have e3 : (((Txt.split x ".").map V.str).length : Int) = 3 := V.int.inj (of_decide_eq_true (notnot e1))
        rw [List.length_map] at e3
        obtain ⟨a, b, c, hab⟩ : ∃ a b c, Txt.split x "." = [a, b, c] := by
          match hq : Txt.split x ".", e3 with
          | [a, b, c], _ => exact ⟨a, b, c, rfl⟩
          | [], h => simp at h
          | [_], h => simp at h
          | [_, _], h => simp at h
          | _ :: _ :: _ :: _ :: _, h => simp at h; omega
        rw [hab] at eo hO
        have la : a.length ≤ x.length := sepDot.len (by rw [hab]; simp)
        have lb : b.length ≤ x.length := sepDot.len (by rw [hab]; simp)
        have lc : c.length ≤ x.length := sepDot.len (by rw [hab]; simp)
        refine ⟨.ref o, rfl, o, _, 0, .str a, rfl, rfl, hO, atI_nat (j := 0) rfl, .ref o, rfl, o, _, 1, .str b, rfl, rfl, hO, atI_nat (j := 1) rfl, .str b, "str", none, rfl, .str b (Nat.le_trans lb hx), gO.1, fun H2 g2 => ?_⟩
        have hO2 := g2.seqL gO.1 (fun _ _ z => z) hO
        have g02 : Go T D0 H H2 := gO.trans g2
        refine ⟨.ref o, rfl, o, _, 2, .str c, rfl, rfl, hO2, atI_nat (j := 2) rfl, .str c, "str", none, rfl, .str c (Nat.le_trans lc hx), g02.1, fun H2' g2' => ⟨by show 3 ≤ sizeLine; decide, fun t ht => ?_⟩⟩
        have gT : Go T D0 H (upd H2' t (.tup [.str a, numV (.str b), numV (.str c)])) := (g02.trans g2').new ht
        have al : ThAll K (upd H2' t (.tup [.str a, numV (.str b), numV (.str c)])) (some [.str a, numV (.str b), numV (.str c)]) := by
          intro ys hy z hz
          skip
          cases hy
          rcases List.mem_cons.mp hz with rfl | hz
          · exact ⟨_, _, .str a (Nat.le_trans la hx)⟩
          rcases List.mem_cons.mp hz with rfl | hz
          · exact numV_th _
          · obtain rfl := List.mem_singleton.mp hz
            exact numV_th _
        refine ⟨.ref t, rfl, .ref t, "tuple", _, rfl, .tup (.inl (.inl upd_same)), al, gT.1, fun H3 g3 => ⟨_, rfl, ?_⟩⟩
        skip
        have gE : Go T D0 H H3 := gT.trans g3
        have es : lineS x = if putL (some [.str a, numV (.str b), numV (.str c)]) then some [.str a, numV (.str b), numV (.str c)] else none := by
          unfold lineS
          rw [if_neg n1, if_neg n2, hab]
        refine ite2 (fun e5 => ⟨.ref t, rfl, q1 H3 t _ gE ?_ (g3.seqT gT.1 (fun _ _ z => z) (.inl (.inl upd_same)))⟩) (fun e5 => q0 H3 gE ?_)
        · show lineS x = _
          rw [es, if_pos e5]
        · show lineS x = _
          rw [es, if_neg e5]

/-! ### words_of -/
def spWordsO (K : PySem.W.Frag) (T : Tp) : Sp := fun vs H Q _ => ∃ v n o, vs = [v] ∧ Th K H v n o ∧ Small v ∧ TG T H ∧ (∀ H', Go T D0 H H' → wordsV v = none → Q .non H') ∧ ∀ H' p ws, Go T D0 H H' → H p = none → wordsV v = some ws → H' p = some (.lst (ws.map V.str)) → Q (.ref p) H'
theorem ok_wordsO {f : Addr} {fd : FuncData} {k : Nat} (F : Fun K "words_of" "words_of" sWordsO f fd) (M : Mg K mg) : FnOk P w K mg base CX0 (k + 1) f fd ["row"] (spWordsO K T) := by
  refine F.ok scWordsO (fun vs H Q E h => ?_) (fun cdv A outer s H vs Q E hr h => ?_)
  · obtain ⟨v, n, o, rfl, _⟩ := h
    rfl
  · obtain ⟨v, n, o, rfl, th, sm, tg, q0, q1⟩ := h
    refine ⟨_, pss_cons (ps_if (pt_not (pt_val (pe_callB call_isi (by rfl) M.ins boot_isinstance (pa_cons (pv 0) (pa_cons (pe_bltn (v := .ty "str") (by rfl) M.str_ boot_str rfl) pa_nil)))))
        (pss_one (ps_ret pe_non)) pss_nil)
      (pss_cons (ps_set (i := 1) scWordsO.nd rfl (.inl rfl) (pe_split (pv 0) pe_str))
      (pss_one (ps_ret (pe_ifExp (pt_cmpR op_in_seq pe_str (pv 1) (by rfl)) pe_non (pv 1))))), ?_⟩
    refine ⟨v, rfl, v, .ty "str", .type n, .type "str", _, rfl, .ty _, th.ty, kit_ty th.kstr, _, rfl, ite2 (fun e => ?_) (fun e => ?_)⟩
    · refine q0 H (Go.rfl' tg) ?_
      cases v with
      | str x => cases e
      | _ => rfl
    · obtain ⟨x, rfl, hx⟩ := th.strOf (notnot e)
      have hs := sm x rfl
      refine ⟨.str x, rfl, ⟨x, rfl⟩, x, " ", rfl, rfl, by decide +kernel, lt_line hs, fun o ho => ?_⟩
      have gO : Go T D0 H (upd H o (.lst ((Txt.split x " ").map V.str))) := (Go.rfl' tg).new ho
      have allF : ∀ ws : List Str, (ws.map V.str).all flatV = true := fun ws => by
        rw [List.all_map]
        exact List.all_eq_true.mpr fun _ _ => rfl
      refine ⟨.ref o, rfl, o, _, rfl, .inl (.inl (.inl upd_same)), rfl, allF _, _, rfl, ite2 (fun e1 => q0 _ gO ?_) (fun e1 => ⟨.ref o, rfl, q1 _ o _ gO ho ?_ upd_same⟩)⟩
      · show (if inV (.str "") ((Txt.split x " ").map V.str) then none else _) = _
        exact if_pos e1
      · show (if inV (.str "") ((Txt.split x " ").map V.str) then none else _) = _
        exact if_neg e1

/-! ### name_text, line_text -/
theorem len_num {i : Int} (h0 : 0 ≤ i) (h1 : i < 1000000) : (Str.ofString (toString i)).length ≤ 10 := by
  obtain ⟨n, rfl⟩ := Int.eq_ofNat_of_zero_le h0
  rw [TL.len_tl, TL.tl_num]
  unfold TL.numL
  rw [List.length_map]
  exact Nat.le_trans (PyProof.Rows.digits10_le (k := 6) (by omega) (by omega)) (by omega)
theorem log_small {i : Int} (h0 : 0 ≤ i) (h1 : i < 1000000) : i.natAbs.log2 < 1920 := by
  by_cases z : i.natAbs = 0
  · rw [z]
    decide
  · have : i.natAbs.log2 < 20 := (Nat.log2_lt z).mpr (by omega)
    omega
def spNameT (K : PySem.W.Frag) : Sp := fun vs H Q _ => ∃ p a i, vs = [.ref p] ∧ SqT K H p [.str a, .int i] ∧ a.length ≤ 1000000 ∧ 0 ≤ i ∧ i < 1000000 ∧ Q (.str (a ++ "." ++ Str.ofString (toString i))) H
theorem empty_app (a : Str) : Str.empty ++ a = a := TL.ext_tl (by rw [TL.tl_append]; rfl)
theorem ok_nameT {f : Addr} {fd : FuncData} {k : Nat} (F : Fun K "name_text" "name_text" sNameT f fd) : FnOk P w K mg base CX0 (k + 1) f fd ["name"] (spNameT K) := by
  refine F.ok scNameT (fun vs H Q E h => ?_) (fun cdv A outer s H vs Q E hr h => ?_)
  · obtain ⟨p, a, i, rfl, _⟩ := h
    rfl
  · obtain ⟨p, a, i, rfl, hS, ha, h0, h1, q⟩ := h
    refine ⟨_, pss_cons (ps_asg (pv 0) (pg_tup (by rfl) (pgs_cons (pg_name (i := 1) scNameT.nd rfl (.inl rfl)) (pgs_cons (pg_name (i := 2) scNameT.nd rfl (.inl rfl)) pgs_nil))))
      (pss_one (ps_ret (pe_joined (.cons (pe_fmt (pv 1)) (.cons pe_str (.cons (pe_fmt (pv 2)) .nil)))))), ?_⟩
    have hn := len_num h0 h1
    have l1 : (Str.empty ++ a).length ≤ 1000000 := by rw [empty_app]; exact ha
    have big : 2000000 ≤ sizeLine := by decide
    refine ⟨.ref p, rfl, p, _, rfl, hS, rfl, .str a, [.int i], rfl, .int i, [], rfl, rfl, .str a, rfl, .inl ⟨a, rfl, by omega, a, rfl, by omega, ".", rfl, ?_, .int i, rfl, .inr ⟨i, rfl, log_small h0 h1, Str.ofString (toString i), rfl, ?_, ?_⟩⟩⟩
    · rw [empty_app, TL.len_tl, TL.tl_append, List.length_append, ← TL.len_tl]
      have : (TL.tl ".").length = 1 := by decide +kernel
      omega
    · rw [empty_app, TL.len_tl, TL.tl_append, TL.tl_append, List.length_append, List.length_append, ← TL.len_tl, ← TL.len_tl (Str.ofString (toString i))]
      have : (TL.tl ".").length = 1 := by decide +kernel
      omega
    · rw [empty_app]
      exact q

def lineTxt (xs : List V) : Option Str := match xs with
  | [.str a, .int i, .int j] => if xs = [.str "", .int 0, .int 0] then some "head" else if xs = [.str "", .int 0, .int 1] then some "foot" else some (a ++ "." ++ Str.ofString (toString i) ++ "." ++ Str.ofString (toString j))
  | _ => none
def spLineT (K : PySem.W.Frag) : Sp := fun vs H Q _ => ∃ p a i j, vs = [.ref p] ∧ SqT K H p [.str a, .int i, .int j] ∧ PyData.strOk a = true ∧ a.length ≤ 1000000 ∧ 0 ≤ i ∧ i < 1000000 ∧ 0 ≤ j ∧ j < 1000000 ∧
  ∀ z, lineTxt [.str a, .int i, .int j] = some z → Q (.str z) H
theorem eqv_line {a b : Str} {i j k l : Int} : PyData.eqv (.tuple [.str a, .int i, .int j]) (.tuple [.str b, .int k, .int l]) = decide ([V.str a, .int i, .int j] = [.str b, .int k, .int l]) := by
  show (a == b && (i == k && (j == l && true))) = _
  by_cases h : [V.str a, .int i, .int j] = [.str b, .int k, .int l]
  · rw [decide_eq_true h]
    cases h
    simp
  · rw [decide_eq_false h]
    by_cases h1 : a = b
    · by_cases h2 : i = k
      · by_cases h3 : j = l
        · exact absurd (by rw [h1, h2, h3]) h
        · simp [h3]
      · simp [h2]
    · simp [h1]
theorem ok_lineT {f : Addr} {fd : FuncData} {k : Nat} (F : Fun K "line_text" "line_text" sLineT f fd) (M : Mg K mg) : FnOk P w K mg base CX0 (k + 1) f fd ["line"] (spLineT K) := by
  obtain ⟨aH, mH, sH⟩ := M.hd
  obtain ⟨aF, mF, sF⟩ := M.ft
  refine F.ok scLineT (fun vs H Q E h => ?_) (fun cdv A outer s H vs Q E hr h => ?_)
  · obtain ⟨p, a, i, j, rfl, _⟩ := h
    rfl
  · obtain ⟨p, a, i, j, rfl, hS, ok, ha, h0, h1, h2, h3, q⟩ := h
    refine ⟨_, pss_cons (ps_if (pt_cmpR (op_eqD hr.units) (pv 0) (pe_glob (v := .ref aH) (by rfl) mH rfl) (nomark _)) (pss_one (ps_ret pe_str)) pss_nil)
      (pss_cons (ps_if (pt_cmpR (op_eqD hr.units) (pv 0) (pe_glob (v := .ref aF) (by rfl) mF rfl) (nomark _)) (pss_one (ps_ret pe_str)) pss_nil)
      (pss_cons (ps_asg (pv 0) (pg_tup (by rfl) (pgs_cons (pg_name (i := 1) scLineT.nd rfl (.inl rfl)) (pgs_cons (pg_name (i := 2) scLineT.nd rfl (.inl rfl)) (pgs_cons (pg_name (i := 3) scLineT.nd rfl (.inl rfl)) pgs_nil)))))
      (pss_one (ps_ret (pe_joined (.cons (pe_fmt (pv 1)) (.cons pe_str (.cons (pe_fmt (pv 2)) (.cons pe_str (.cons (pe_fmt (pv 3)) .nil)))))))))), ?_⟩
    have okL : [V.str a, .int i, .int j].all okV = true := by
      show (PyData.strOk a && true) = true
      rw [ok] <;> rfl
    have dL : Dp K H (.ref p) (.tuple [.str a, .int i, .int j]) := dp_tup hS okL
    have shL : SeqAt.shaped (.tuple [.str a, .int i, .int j]) = true := sh_tup (xs := [.str a, .int i, .int j]) okL
    refine ⟨.ref p, rfl, _, _, dL, dp_tup (sH H) (by decide +kernel), shL, by decide +kernel, ?_⟩
    show ∃ k, V.bl (PyData.eqv (.tuple [.str a, .int i, .int j]) (.tuple [.str "", .int 0, .int 0])) = .bl k ∧ _
    refine ⟨_, rfl, ?_⟩
    rw [eqv_line]
    refine ite2 (fun e => q _ ?_) (fun e => ?_)
    · show (if [V.str a, .int i, .int j] = [.str "", .int 0, .int 0] then _ else _) = _
      exact if_pos (of_decide_eq_true e)
    have n1 : ¬ [V.str a, .int i, .int j] = [.str "", .int 0, .int 0] := fun z => e (decide_eq_true z)
    refine ⟨.ref p, rfl, _, _, dL, dp_tup (sF H) (by decide +kernel), shL, by decide +kernel, ?_⟩
    show ∃ k, V.bl (PyData.eqv (.tuple [.str a, .int i, .int j]) (.tuple [.str "", .int 0, .int 1])) = .bl k ∧ _
    refine ⟨_, rfl, ?_⟩
    rw [eqv_line]
    refine ite2 (fun e => q _ ?_) (fun e => ?_)
    · show (if [V.str a, .int i, .int j] = [.str "", .int 0, .int 0] then _ else if [V.str a, .int i, .int j] = [.str "", .int 0, .int 1] then _ else _) = _
      rw [if_neg n1, if_pos (of_decide_eq_true e)]
    have n2 : ¬ [V.str a, .int i, .int j] = [.str "", .int 0, .int 1] := fun z => e (decide_eq_true z)
    have hi := len_num h0 h1
    have hj := len_num h2 h3
    have big : 2000000 ≤ sizeLine := by decide
    have dot : (TL.tl ".").length = 1 := by decide +kernel
    have la : (TL.tl a).length ≤ 1000000 := by rw [← TL.len_tl]; exact ha
    have li : (TL.tl (Str.ofString (toString i))).length ≤ 10 := by rw [← TL.len_tl]; exact hi
    have lj : (TL.tl (Str.ofString (toString j))).length ≤ 10 := by rw [← TL.len_tl]; exact hj
    refine ⟨.ref p, rfl, p, _, rfl, hS, rfl, .str a, [.int i, .int j], rfl, .int i, [.int j], rfl, .int j, [], rfl, rfl, .str a, rfl, .inl ⟨a, rfl, by omega, a, rfl, ?_, ".", rfl, ?_, .int i, rfl, .inr ⟨i, rfl, log_small h0 h1, Str.ofString (toString i), rfl, ?_, ".", rfl, ?_, .int j, rfl, .inr ⟨j, rfl, log_small h2 h3, Str.ofString (toString j), rfl, ?_, ?_⟩⟩⟩⟩
    iterate 5
      · rw [empty_app]
        simp only [TL.len_tl, TL.tl_append, List.length_append]
        omega
    · rw [empty_app]
      refine q _ ?_
      show (if [V.str a, .int i, .int j] = [.str "", .int 0, .int 0] then _ else if [V.str a, .int i, .int j] = [.str "", .int 0, .int 1] then _ else _) = _
      rw [if_neg n1, if_neg n2]
end
end K1
set_option Elab.async false
set_option linter.all false
set_option maxRecDepth 100000
set_option maxHeartbeats 4000000
/-! The program's defs: is_triple, is_end. -/
namespace K1
open PySem PySem.Spec PyProof.Rows L2

def triL : Option (List V) → Bool
  | some [p, q, r] => (isI q && isI r) && isS p
  | _ => false
theorem triL_len {xs : List V} (h : ¬ xs.length = 3) : triL (some xs) = false := by
  match xs with
  | [] => rfl
  | [_] => rfl
  | [_, _] => rfl
  | [_, _, _] => exact absurd rfl h
  | _ :: _ :: _ :: _ :: _ => rfl
/-- the texts of a tuple are texts -/
def StAll (o : Option (List V)) : Prop := ∀ xs, o = some xs → ∀ x, V.str x ∈ xs → PyData.strOk x = true
theorem endL_line (a : Str) (i j : Int) : endL (some [V.str a, .int i, .int j]) = (decide ([V.str a, .int i, .int j] = [.str "", .int 0, .int 0]) || decide ([V.str a, .int i, .int j] = [.str "", .int 0, .int 1])) := by
  show ((decide (V.str a = .str "") && (decide (0 ≤ i) && decide (i ≤ 0))) && (decide (0 ≤ j) && decide (j ≤ 1))) = _
  rw [Bool.eq_iff_iff]
  simp only [Bool.and_eq_true, Bool.or_eq_true, decide_eq_true_eq, List.cons.injEq, V.int.injEq, and_true]
  constructor
  · rintro ⟨⟨h1, h2, h3⟩, h4, h5⟩
    by_cases z : j = 0
    · exact .inl ⟨h1, by omega, z⟩
    · exact .inr ⟨h1, by omega, by omega⟩
  · rintro (⟨h1, h2, h3⟩ | ⟨h1, h2, h3⟩)
    · exact ⟨⟨h1, by omega, by omega⟩, by omega, by omega⟩
    · exact ⟨⟨h1, by omega, by omega⟩, by omega, by omega⟩
theorem endL_no {xs : List V} (h : triL (some xs) = false) : endL (some xs) = false := by
  match xs with
  | [] => rfl
  | [_] => rfl
  | [_, _] => rfl
  | _ :: _ :: _ :: _ :: _ => rfl
  | [p, q, r] =>
    have h' : ((isI q && isI r) && isS p) = false := h
    show ((decide (p = .str "") && amgV q 0 0) && amgV r 0 1) = false
    cases e1 : isI q with
    | false => rw [amgV_no e1, Bool.and_false, Bool.false_and]
    | true =>
      cases e2 : isI r with
      | false => rw [amgV_no e2, Bool.and_false]
      | true =>
        rw [e1, e2] at h'
        have e3 : decide (p = .str "") = false := by
          refine decide_eq_false fun z => ?_
          rw [z] at h'
          cases h'
        rw [e3, Bool.false_and, Bool.false_and]
theorem endL_none (h : triL none = false) : endL none = false := rfl

section
variable {P : Program} {w : World} {K : PySem.W.Frag} {mg : Str → Option Value} {base : Heap} {T : Tp}
/-! ### is_triple -/
def spTriple (K : PySem.W.Frag) : Sp := fun vs H Q _ => ∃ v n o, vs = [v] ∧ Th K H v n o ∧ ThAll K H o ∧ Q (.bl (triL (o))) H
theorem flat_b {r : V} (h : isI r = true) (b : Bool) : flatV r = true ∧ decide (r = .bl b) = false := by
  cases r with
  | int i => exact ⟨rfl, decide_eq_false fun z => by cases z⟩
  | _ => cases h
theorem flat_n {r : V} (h : (isI r || isB r) = true) : flatV r = true ∧ (isI r = true ∨ r = .bl true ∨ r = .bl false) := by
  cases r with
  | int i => exact ⟨rfl, .inl rfl⟩
  | bl b => cases b <;> exact ⟨rfl, by simp⟩
  | _ => cases h
theorem ok_triple {f : Addr} {fd : FuncData} {k : Nat} (F : Fun K "is_triple" "is_triple" sIsTriple f fd) (M : Mg K mg) :
    FnOk P w K mg base CX0 (k + 1) f fd ["thing"] (spTriple K) := by
  refine F.ok scIsTriple (fun vs H Q E h => ?_) (fun cdv A outer s H vs Q E hr h => ?_)
  · obtain ⟨v, n, o, rfl, _⟩ := h
    rfl
  · obtain ⟨v, n, o, rfl, th, al, q⟩ := h
    refine ⟨_, pss_cons (ps_if (PW.pt (pw_or (pt_not (pt_val (pe_callB call_isi (by rfl) M.ins boot_isinstance (pa_cons (pv 0) (pa_cons (pe_bltn (v := .ty "tuple") (by rfl) M.tuple_ (by decide +kernel) rfl) pa_nil)))))
        (pw_or1 (pt_cmpR op_ne (pe_callB call_len_seq (by rfl) M.len_ PySem.boot_len (pa_cons (pv 0) pa_nil)) pe_int (nomark _)))))
        (pss_one (ps_ret pe_bl)) pss_nil)
      (pss_cons (ps_asg (pv 0) (pg_tup (by rfl) (pgs_cons (pg_name (i := 1) scIsTriple.nd rfl (.inl rfl)) (pgs_cons (pg_name (i := 2) scIsTriple.nd rfl (.inl rfl)) (pgs_cons (pg_name (i := 3) scIsTriple.nd rfl (.inl rfl)) pgs_nil)))))
      (pss_cons (ps_if (PW.pt (pw_or (pt_not (pt_val (pe_callB call_isi (by rfl) M.ins boot_isinstance (pa_cons (pv 2) (pa_cons (pe_bltn (v := .ty "int") (by rfl) M.int_ boot_int rfl) pa_nil)))))
          (pw_or (pt_not (pt_val (pe_callB call_isi (by rfl) M.ins boot_isinstance (pa_cons (pv 3) (pa_cons (pe_bltn (v := .ty "int") (by rfl) M.int_ boot_int rfl) pa_nil)))))
          (pw_or1 (pt_not (pt_val (pe_callB call_isi (by rfl) M.ins boot_isinstance (pa_cons (pv 1) (pa_cons (pe_bltn (v := .ty "str") (by rfl) M.str_ boot_str rfl) pa_nil)))))))))
        (pss_one (ps_ret pe_bl)) pss_nil)
      (pss_one (ps_ret (pe_and (pe_cmpR op_isnotB (pv 2) pe_bl (nomark _)) (pe_and (pe_cmpR op_isnotB (pv 2) pe_bl (nomark _)) (pe_and (pe_cmpR op_isnotB (pv 3) pe_bl (nomark _)) (pe_one (pe_cmpR op_isnotB (pv 3) pe_bl (nomark _)))))))))), ?_⟩
    refine ⟨v, rfl, v, .ty "tuple", .type n, .type "tuple", _, rfl, .ty _, th.ty, kit_ty th.ktup, _, rfl, ite2 (fun e => iteT ?_) (fun e => ?_)⟩
    · have e2 : o = none := by
        cases o with
        | none => rfl
        | some _ => cases e
      rw [e2] at q
      exact q
    · obtain ⟨a, xs, rfl, hS, et⟩ := th.tupOf (notnot e)
      rw [et] at q
      refine ⟨.ref a, rfl, a, xs, rfl, .inr hS, rfl, _, rfl, ite2 (fun e1 => ?_) (fun e1 => ?_)⟩
      · have e2 : ¬ xs.length = 3 := by
          intro z
          rw [z] at e1
          exact absurd e1 (by decide)
        rw [triL_len e2] at q
        exact q
      · have e2 : (xs.length : Int) = 3 := by
          have e3 : decide (V.int (xs.length : Int) = V.int 3) = true := by simpa using e1
          exact V.int.inj (of_decide_eq_true e3)
        obtain ⟨p, r, l, rfl⟩ := len3 (xs := xs) (by omega)
        obtain ⟨mp, m'p, tp⟩ := al _ et p (by simp)
        obtain ⟨mr, m'r, tr⟩ := al _ et r (by simp)
        obtain ⟨ml, m'l, tl⟩ := al _ et l (by simp)
        have fin : ∀ b, ((isI r && isI l) && isS p) = b → Q (.bl b) H := fun b e => by
          have q2 : Q (.bl ((isI r && isI l) && isS p)) H := q
          rw [e] at q2
          exact q2
        have nI : ∀ {r : V}, ¬ (isI r || isB r) = true → isI r = false := fun {r} h => by
          cases r with
          | int i => exact absurd rfl h
          | _ => rfl
        refine ⟨.ref a, rfl, a, _, rfl, hS, rfl, p, [r, l], rfl, r, [l], rfl, l, [], rfl, rfl, r, rfl, r, .ty "int", .type mr, .type "int", _, rfl, .ty _, tr.ty, kit_ty tr.kint, _, rfl, ite2 (fun e3 => iteT (fin _ ?_)) (fun e3 => ?_)⟩
        · rw [nI (fun z => by rw [z] at e3; cases e3), Bool.false_and, Bool.false_and]
        · obtain ⟨fr, hr'⟩ := flat_n (notnot e3)
          refine ⟨l, rfl, l, .ty "int", .type ml, .type "int", _, rfl, .ty _, tl.ty, kit_ty tl.kint, _, rfl, ite2 (fun e4 => iteT (fin _ ?_)) (fun e4 => ?_)⟩
          · rw [nI (r := l) (fun z => by rw [z] at e4; cases e4), Bool.and_false, Bool.false_and]
          · obtain ⟨fl, hl'⟩ := flat_n (notnot e4)
            refine ⟨p, rfl, p, .ty "str", .type mp, .type "str", _, rfl, .ty _, tp.ty, kit_ty tp.kstr, _, rfl, ite2 (fun e5 => fin _ ?_) (fun e5 => ?_)⟩
            · have e6 : isS p = false := by simpa using e5
              rw [e6, Bool.and_false]
            · have e6 : isS p = true := notnot e5
              refine ⟨r, rfl, true, fr, rfl, _, rfl, ite2 (fun e7 => ⟨r, rfl, false, fr, rfl, _, rfl, ite2 (fun e8 => ⟨l, rfl, true, fl, rfl, _, rfl, ite2 (fun e9 => ⟨l, rfl, false, fl, rfl, ?_⟩) (fun e9 => fin _ ?_)⟩) (fun e8 => fin _ ?_)⟩) (fun e7 => fin _ ?_)⟩
              · have ir : isI r = true := by
                  rcases hr' with h | rfl | rfl
                  · exact h
                  · exact absurd e7 (by decide)
                  · exact absurd e8 (by decide)
                rcases hl' with h | rfl | rfl
                · rw [(flat_b h false).2]
                  exact fin _ (by rw [ir, h, e6] <;> rfl)
                · exact absurd e9 (by decide)
                · exact fin _ (by rw [ir] <;> rfl)
              · rcases hl' with h | rfl | rfl
                · rw [(flat_b h true).2] at e9
                  exact absurd rfl e9
                · show ((isI r && false) && isS p) = false
                  rw [Bool.and_false, Bool.false_and]
                · show ((isI r && false) && isS p) = false
                  rw [Bool.and_false, Bool.false_and]
              · rcases hr' with h | rfl | rfl
                · rw [(flat_b h false).2] at e8
                  exact absurd rfl e8
                · rfl
                · rfl
              · rcases hr' with h | rfl | rfl
                · rw [(flat_b h true).2] at e7
                  exact absurd rfl e7
                · rfl
                · rfl

/-! ### is_end -/
def spEnd (K : PySem.W.Frag) : Sp := fun vs H Q _ => ∃ v n o, vs = [v] ∧ Th K H v n o ∧ ThAll K H o ∧ StAll (o) ∧ Q (.bl (endL (o))) H
theorem ok_end {f : Addr} {fd : FuncData} {k : Nat} (F : Fun K "is_end" "is_end" sEnd f fd) (M : Mg K mg) (cT : Cal P w K mg base k "is_triple" ["thing"] (spTriple K)) :
    FnOk P w K mg base CX0 (k + 1) f fd ["thing"] (spEnd K) := by
  obtain ⟨aH, mH, sH⟩ := M.hd
  obtain ⟨aF, mF, sF⟩ := M.ft
  refine F.ok scEnd (fun vs H Q E h => ?_) (fun cdv A outer s H vs Q E hr h => ?_)
  · obtain ⟨v, n, o, rfl, _⟩ := h
    rfl
  · obtain ⟨v, n, o, rfl, th, al, st, q⟩ := h
    refine ⟨_, pss_one (ps_ret (pe_and (pe_cal cT hr (by rfl) (pa_cons (pv 0) pa_nil)) (pe_one (pe_or (pe_cmpR (op_eqD hr.units) (pv 0) (pe_glob (v := .ref aH) (by rfl) mH rfl) (nomark _)) (pe_one (pe_cmpR (op_eqD hr.units) (pv 0) (pe_glob (v := .ref aF) (by rfl) mF rfl) (nomark _))))))), ?_⟩
    refine ⟨v, rfl, v, n, o, rfl, th, al, _, rfl, ite2 (fun e => ?_) (fun e => ?_)⟩
    · obtain ⟨a, xs, rfl, hS, et⟩ := th.tupOf (by cases o with | none => cases e | some _ => rfl)
      rw [et] at q e st
      have e3 : xs.length = 3 := Classical.byContradiction fun z => by
        rw [triL_len z] at e
        cases e
      obtain ⟨p, r, l, rfl⟩ := len3 e3
      have e' : ((isI r && isI l) && isS p) = true := e
      rw [Bool.and_eq_true, Bool.and_eq_true] at e'
      obtain ⟨i, rfl⟩ := intOf e'.1.1
      obtain ⟨j, rfl⟩ := intOf e'.1.2
      obtain ⟨x, rfl⟩ := strOfV e'.2
      have ok : PyData.strOk x = true := st _ rfl x (by simp)
      have okL : [V.str x, .int i, .int j].all okV = true := by
        show (PyData.strOk x && true) = true
        rw [ok] <;> rfl
      have dL : Dp K H (.ref a) (.tuple [.str x, .int i, .int j]) := dp_tup hS okL
      have shL : SeqAt.shaped (.tuple [.str x, .int i, .int j]) = true := sh_tup (xs := [.str x, .int i, .int j]) okL
      rw [endL_line] at q
      refine ⟨.ref a, rfl, _, _, dL, dp_tup (sH H) (by decide +kernel), shL, by decide +kernel, ?_⟩
      show ∃ k, V.bl (PyData.eqv (.tuple [.str x, .int i, .int j]) (.tuple [.str "", .int 0, .int 0])) = .bl k ∧ _
      refine ⟨_, rfl, ?_⟩
      rw [eqv_line]
      refine ite2 (fun e4 => ?_) (fun e4 => ?_)
      · rw [e4, Bool.true_or] at q
        exact q
      · rw [Bool.eq_false_iff.mpr e4, Bool.false_or] at q
        refine ⟨.ref a, rfl, _, _, dL, dp_tup (sF H) (by decide +kernel), shL, by decide +kernel, ?_⟩
        show Q (.bl (PyData.eqv (.tuple [.str x, .int i, .int j]) (.tuple [.str "", .int 0, .int 1]))) H
        rw [eqv_line]
        exact q
    · have e2 : endL (o) = false := by
        cases z : (o) with
        | none => rfl
        | some xs =>
          rw [z] at e
          exact endL_no (Bool.eq_false_iff.mpr e)
      rw [e2] at q
      exact q
end
end K1
set_option Elab.async false
set_option linter.all false
set_option maxRecDepth 100000
set_option maxHeartbeats 4000000
/-! The law's own defs: numbers mixed, digits drawn. -/
namespace K1
open PySem PySem.Spec PyProof.Rows L2

/-- the drawing state: what is left, and more -/
def stD (a b : Int) : List (Key × V) := [(.inr ("left" : Str), .int a), (.inr ("more" : Str), .int b)]
theorem neLM' : ¬ (("left" : Str) = ("more" : Str)) := by decide +kernel
theorem neML' : ¬ (("more" : Str) = ("left" : Str)) := by decide +kernel
theorem neLM : ¬ (Sum.inr ("left" : Str) : Key) = Sum.inr ("more" : Str) := fun z => neLM' (Sum.inr.inj z)
theorem st_left (a b : Int) : valV (stD a b) (.inr ("left" : Str)) = some (.int a) := valV_pos rfl
theorem st_more (a b : Int) : valV (stD a b) (.inr ("more" : Str)) = some (.int b) := (valV_neg neLM).trans (valV_pos rfl)
theorem st_putL (a b c : Int) : putK (stD a b) (.inr ("left" : Str)) (.int c) = stD c b := by
  simp [putK, stD, neML']
theorem st_putM (a b c : Int) : putK (stD a b) (.inr ("more" : Str)) (.int c) = stD a c := by
  simp [putK, stD, neLM', neML']
theorem st_small {n : Nat} (h : n ≤ 10) : n < sizeLine := Nat.lt_of_le_of_lt h (by decide)

section
variable {P : Program} {w : World} {K : PySem.W.Frag} {mg : Str → Option Value} {base : Heap} {T : Tp}

/-! ### _law_mixed -/
def spMixed : Sp := fun vs H Q _ => ∃ c k : Int, vs = [.int c, .int k] ∧ 0 ≤ k ∧ k ≤ 1000 ∧ ∀ r : Int, 0 ≤ r → r < 2147483647 → Q (.int r) H
theorem ok_mixed {f : Addr} {fd : FuncData} {k : Nat} (F : Fun K "_law_mixed" "_law_mixed" sMixed f fd) : FnOk P w K mg base CX0 (k + 1) f fd ["_law_cell", "_law_k"] spMixed := by
  refine F.ok scMixed (fun vs H Q E h => ?_) (fun cdv A outer s H vs Q E hr h => ?_)
  · obtain ⟨c, k, rfl, _⟩ := h
    rfl
  · obtain ⟨c, j, rfl, h0, h1, q⟩ := h
    refine ⟨_, pss_cons (ps_set (i := 0) scMixed.nd rfl (.inl rfl) (pe_op op_add (pe_op op_add (pe_op op_mod (pv 0) pe_int) (pe_op op_mul pe_int (pv 1))) pe_int))
      (pss_one (ps_ret (pe_op op_mod (pe_op op_mul (pe_op op_mod (pe_op op_mul (pv 0) (pv 0)) pe_int) pe_int) pe_int))), ?_⟩
    have m0 := Int.emod_nonneg c (show (1000000007 : Int) ≠ 0 by decide)
    have m1 := Int.emod_lt_of_pos c (show (0 : Int) < 1000000007 by decide)
    refine ⟨.int c, rfl, c, 1000000007, rfl, rfl, (show (0 : Int) < 1000000007 by decide), .int j, rfl, 7919, j, rfl, rfl, .inl (by decide), _, _, rfl, rfl, _, _, rfl, rfl, ?_⟩
    refine ⟨_, rfl, _, rfl, _, _, rfl, rfl, .inl ⟨by omega, by omega⟩, _, _, rfl, rfl, (show (0 : Int) < 1000000007 by decide), _, _, rfl, rfl, .inr (by decide), _, _, rfl, rfl, (show (0 : Int) < 2147483647 by decide), ?_⟩
    exact q _ (Int.emod_nonneg _ (by decide)) (Int.emod_lt_of_pos _ (by decide))

/-! ### _law_draw -/
def spDraw : Sp := fun vs H Q _ => ∃ c k : Int, vs = [.int c, .int k] ∧ 0 ≤ k ∧ k ≤ 900 ∧ ∀ d a b, 0 ≤ a → 0 ≤ b → H d = none → Q (.ref d) (upd H d (.dK (stD a b)))
theorem ok_draw {f : Addr} {fd : FuncData} {k : Nat} (F : Fun K "_law_draw" "_law_draw" sDraw f fd) (cM : Cal P w K mg base k "_law_mixed" ["_law_cell", "_law_k"] spMixed) : FnOk P w K mg base CX0 (k + 1) f fd ["_law_cell", "_law_k"] spDraw := by
  refine F.ok scDraw (fun vs H Q E h => ?_) (fun cdv A outer s H vs Q E hr h => ?_)
  · obtain ⟨c, k, rfl, _⟩ := h
    rfl
  · obtain ⟨c, j, rfl, h0, h1, q⟩ := h
    refine ⟨_, pss_cons (ps_set (i := 2) scDraw.nd rfl (.inl rfl) (pe_cal cM hr (by rfl) (pa_cons (pv 0) (pa_cons (pv 1) pa_nil))))
      (pss_cons (ps_set (i := 3) scDraw.nd rfl (.inl rfl) (pe_op op_add (pe_op op_add
        (pe_op op_mul (pe_cal cM hr (by rfl) (pa_cons (pv 2) (pa_cons (pe_op op_add (pv 1) pe_int) pa_nil))) (pe_op op_pow pe_int pe_int))
        (pe_op op_mul (pe_cal cM hr (by rfl) (pa_cons (pv 2) (pa_cons (pe_op op_add (pv 1) pe_int) pa_nil))) pe_int)) (pv 2)))
      (pss_one (ps_ret (pe_disp (pps_cons pe_str (pe_ifExp (pt_cmpR op_ge (pv 0) (pe_op op_pow pe_int pe_int) (nomark _)) (pv 0) (pv 3))
        (pps_cons pe_str (pe_ifExp (pt_cmpR op_ge (pv 0) (pe_op op_pow pe_int pe_int) (nomark _)) (pv 3) pe_int) pps_nil)) (by rfl) (by rfl) (fun z => by cases z) (by decide))))), ?_⟩
    refine ⟨.int c, rfl, .int j, rfl, c, j, rfl, h0, by omega, fun r r0 r1 => ?_⟩
    refine ⟨.int r, rfl, .int j, rfl, j, 1, rfl, rfl, r, j + 1, rfl, by omega, by omega, fun r2 a0 a1 => ?_⟩
    refine ⟨2147483647, 2, rfl, rfl, ⟨by decide, by decide, by decide⟩, r2, _, rfl, rfl, .inl (by omega), .int r, rfl, .int j, rfl, j, 2, rfl, rfl, r, j + 2, rfl, by omega, by omega, fun r3 b0 b1 => ?_⟩
    refine ⟨r3, 2147483647, rfl, rfl, .inl (by omega), _, _, rfl, rfl, .int r, rfl, _, r, rfl, rfl, ?_⟩
    have p0 : 0 ≤ r2 * 2147483647 ^ (2 : Int).toNat := Int.mul_nonneg a0 (by decide)
    have p1 : 0 ≤ r3 * 2147483647 := Int.mul_nonneg b0 (by decide)
    have m0 : 0 ≤ r2 * 2147483647 ^ (2 : Int).toNat + r3 * 2147483647 + r := by omega
    intro d hd
    have fin : ∀ a b : Int, 0 ≤ a → 0 ≤ b → (upd H d (.dK [])) d = some (.dK []) ∧ ∃ kvs : List (Key × V), [(V.str "left", V.int a), (V.str "more", V.int b)] = kvs.map (fun kv => (kV kv.1, kv.2)) ∧ kvs.length ≤ 15 ∧ Q (.ref d) (upd (upd H d (.dK [])) d (.dK (mergeK [] kvs))) := by
      intro a b ha hb
      refine ⟨upd_same, stD a b, rfl, by show 2 ≤ 15; decide, ?_⟩
      have e : mergeK [] (stD a b) = stD a b := by
        show putK (putK ([] : List (Key × V)) (Sum.inr ("left" : Str) : Key) (V.int a)) (Sum.inr ("more" : Str) : Key) (V.int b) = _
        rw [putK_new (κ := Key) (V.int a) valV_nil, List.nil_append, putK_new (κ := Key) (V.int b) ((valV_neg neLM).trans valV_nil)] <;> rfl
      rw [e, upd_upd]
      exact q d a b ha hb hd
    have ten : (10 : Int) ^ (18 : Int).toNat = 1000000000000000000 := by decide
    refine ⟨.int c, rfl, 10, 18, rfl, rfl, ⟨by decide, by decide, by decide⟩, c, _, rfl, rfl, _, rfl, ite2 (fun e => ⟨.int c, rfl, .int c, rfl, 10, 18, rfl, rfl, ⟨by decide, by decide, by decide⟩, c, _, rfl, rfl, _, rfl, ?_⟩) (fun e => ⟨_, rfl, .int c, rfl, 10, 18, rfl, rfl, ⟨by decide, by decide, by decide⟩, c, _, rfl, rfl, _, rfl, ?_⟩)⟩
    · have e1 : (10 : Int) ^ (18 : Int).toNat ≤ c := of_decide_eq_true e
      rw [ten] at e1
      exact ite2 (fun e2 => ⟨_, rfl, fin c _ (by omega) m0⟩) (fun e2 => absurd e e2)
    · exact ite2 (fun e2 => absurd e2 e) (fun e2 => fin _ 0 m0 (by omega))

/-! ### _law_digit -/
def spDigit : Sp := fun vs H Q _ => ∃ d a b m, vs = [.ref d, .int m] ∧ H d = some (.dK (stD a b)) ∧ 0 ≤ a ∧ 0 ≤ b ∧ 0 < m ∧ m < 1073741824 ∧
  ∀ r a' b' H', 0 ≤ r → r < m → 0 ≤ a' → 0 ≤ b' → H' d = some (.dK (stD a' b')) → (∀ x o, x ≠ d → H x = some o → H' x = some o) → Q (.int r) H'
theorem ok_digit {f : Addr} {fd : FuncData} {k : Nat} (F : Fun K "_law_digit" "_law_digit" sDigit f fd) : FnOk P w K mg base CX0 (k + 1) f fd ["_law_state", "_law_many"] spDigit := by
  refine F.ok scDigit (fun vs H Q E h => ?_) (fun cdv A outer s H vs Q E hr h => ?_)
  · obtain ⟨d, a, b, m, rfl, _⟩ := h
    rfl
  · obtain ⟨d, a, b, m, rfl, hd, ha, hb, m0, m1, q⟩ := h
    have hu := hu_of hr
    refine ⟨_, pss_cons (ps_if (pt_cmpR op_eq (pe_dget hu (pv 0) pe_str (fun _ _ => rfl)) pe_int (nomark _))
        (pss_one (ps_asg (pe_tup (pa_cons (pe_dget hu (pv 0) pe_str (fun _ _ => rfl)) (pa_cons pe_int pa_nil)))
          (pg_tup (by rfl) (pgs_cons (pg_sub (pv 0) pe_str (set_dict hu)) (pgs_cons (pg_sub (pv 0) pe_str (set_dict hu)) pgs_nil))))) pss_nil)
      (pss_cons (ps_set (i := 2) scDigit.nd rfl (.inl rfl) (pe_op op_mod (pe_dget hu (pv 0) pe_str (fun _ _ => rfl)) (pv 1)))
      (pss_cons (ps_dput hu (pv 0) pe_str (pe_op op_fdivN (pe_dget hu (pv 0) pe_str (fun _ _ => rfl)) (pv 1)) rfl)
      (pss_one (ps_ret (pv 2))))), ?_⟩
    have gl : ∀ {H1 : Hp} {a b : Int}, H1 d = some (.dK (stD a b)) → DGet H1 d (.str "left") (some (.int a)) := fun {H1 a b} e => st_left a b ▸ DGet.k (k := .inr ("left" : Str)) e
    have gm : ∀ {H1 : Hp} {a b : Int}, H1 d = some (.dK (stD a b)) → DGet H1 d (.str "more") (some (.int b)) := fun {H1 a b} e => st_more a b ▸ DGet.k (k := .inr ("more" : Str)) e
    have pl : ∀ {H1 : Hp} {a b c : Int}, H1 d = some (.dK (stD a b)) → DPut H1 d (.str "left") (.int c) (upd H1 d (.dK (stD c b))) := fun {H1 a b c} e => st_putL a b c ▸ DPut.k (k := .inr ("left" : Str)) e (by show 2 < sizeLine; decide)
    have pm : ∀ {H1 : Hp} {a b c : Int}, H1 d = some (.dK (stD a b)) → DPut H1 d (.str "more") (.int c) (upd H1 d (.dK (stD a c))) := fun {H1 a b c} e => st_putM a b c ▸ DPut.k (k := .inr ("more" : Str)) e (by show 2 < sizeLine; decide)
    have dv : ∀ z : Int, 0 ≤ z → 0 ≤ z.fdiv m := fun z hz => by
      rw [Int.fdiv_eq_ediv_of_nonneg z (by omega)]
      exact Int.ediv_nonneg hz (by omega)
    refine ⟨.ref d, rfl, d, .int a, rfl, gl hd, rfl, _, rfl, ite2 (fun e => ?_) (fun e => ?_)⟩
    · refine ⟨.ref d, rfl, d, .int b, rfl, gm hd, by show 2 ≤ sizeLine; decide, fun t ht => ?_⟩
      have nt : d ≠ t := ne_of_none hd ht
      have hd1 : (upd H t (.tup [.int b, .int 0])) d = some (.dK (stD a b)) := (upd_ne nt).trans hd
      refine ⟨t, _, rfl, .inl (.inl upd_same), rfl, .int b, [.int 0], rfl, .ref d, rfl, d, _, rfl, pl hd1, .int 0, [], rfl, .ref d, rfl, d, _, rfl, pm upd_same, rfl, ?_⟩
      rw [upd_upd]
      have hd2 : (upd (upd H t (.tup [.int b, .int 0])) d (.dK (stD b 0))) d = some (.dK (stD b 0)) := upd_same
      refine ⟨.ref d, rfl, d, .int b, rfl, gl hd2, .int m, rfl, b, m, rfl, rfl, m0, .ref d, rfl, d, .int b, rfl, gl hd2, .int m, rfl, b, m, rfl, rfl, ⟨by omega, by omega⟩, .ref d, rfl, d, _, rfl, pl hd2, .int (b % m), rfl, ?_⟩
      refine q _ _ _ _ (Int.emod_nonneg _ (by omega)) (Int.emod_lt_of_pos _ m0) (dv b hb) (Int.le_refl 0) upd_same fun x o hx e => ?_
      rw [upd_ne hx, upd_ne hx, upd_ne (ne_of_none e ht)]
      exact e
    · refine ⟨.ref d, rfl, d, .int a, rfl, gl hd, .int m, rfl, a, m, rfl, rfl, m0, .ref d, rfl, d, .int a, rfl, gl hd, .int m, rfl, a, m, rfl, rfl, ⟨by omega, by omega⟩, .ref d, rfl, d, _, rfl, pl hd, .int (a % m), rfl, ?_⟩
      refine q _ _ _ _ (Int.emod_nonneg _ (by omega)) (Int.emod_lt_of_pos _ m0) (dv a ha) hb upd_same fun x o hx e => ?_
      rw [upd_ne hx]
      exact e
end
end K1
set_option Elab.async false
set_option linter.all false
set_option maxRecDepth 100000
set_option maxHeartbeats 4000000
/-! Data of any depth: kept while the heap grows, cut off from lists that are being filled, compared, sorted. -/
namespace K1
open PySem PySem.Spec PyProof.Rows L2

/-! ### heaps without some places -/
def cut (C : Addr → Bool) (H : Hp) : Hp := fun a => if C a = true then none else H a
abbrev C0 : Addr → Bool := fun _ => false
section
variable {C C' : Addr → Bool} {H H1 : Hp} {p : Addr} {o : HO}
theorem cut0 : cut C0 H = H := by
  funext a
  rfl
theorem cut_out (h : C p = true) : cut C (upd H p o) = cut C H := by
  funext a
  unfold cut
  split
  · rfl
  · rename_i z
    exact upd_ne fun e => z (e ▸ h)
theorem cut_in (h : C p = false) : cut C (upd H p o) = upd (cut C H) p o := by
  funext a
  unfold cut
  by_cases e : a = p
  · subst e
    rw [if_neg (by rw [h]; exact Bool.false_ne_true), upd_same, upd_same]
  · rw [upd_ne e, upd_ne e]
theorem cut_at (h : C p = false) : cut C H p = H p := by
  unfold cut
  rw [if_neg (by rw [h]; exact Bool.false_ne_true)]
theorem cut_some (h : cut C H p = some o) : C p = false ∧ H p = some o := by
  unfold cut at h
  split at h
  · cases h
  · rename_i z
    exact ⟨Bool.eq_false_iff.mpr z, h⟩
theorem cut_none (h : H p = none) : cut C H p = none := by
  unfold cut
  split
  · rfl
  · exact h
end
/-- G's sequences stand in H -/
def Sub (G H : Hp) : Prop := ∀ a o, G a = some o → (∃ xs, o = .lst xs ∨ o = .tup xs ∨ (∃ u, o = .frz u (.lst xs) ∨ o = .frz u (.tup xs))) → H a = some o
section
variable {G H G' : Hp} {C C' : Addr → Bool}
theorem Sub.rfl' : Sub G G := fun _ _ e _ => e
theorem Sub.trans (h : Sub G H) (h' : Sub H G') : Sub G G' := fun a o e k => h' a o (h a o e k) k
theorem Sub.cut : Sub (cut C H) H := fun _ _ e _ => (cut_some e).2
theorem Sub.cuts (h : Sub G H) : Sub (K1.cut C G) (K1.cut C H) := fun a o e k => by
  obtain ⟨e1, e2⟩ := cut_some e
  rw [cut_at e1]
  exact h a o e2 k
theorem Sub.less (hc : ∀ a, C' a = true → C a = true) : Sub (K1.cut C H) (K1.cut C' H) := fun a o e k => by
  obtain ⟨e1, e2⟩ := cut_some e
  rw [cut_at (Bool.eq_false_iff.mpr fun z => by rw [hc a z] at e1; cases e1)]
  exact e2
theorem Sub.new {p : Addr} {o : HO} (h : H p = none) : Sub H (upd H p o) := fun a u e _ => by
  rw [upd_ne (ne_of_none e h)]
  exact e
theorem Sub.go {T : Tp} {D : Addr → Prop} (g : Go T D G H) (t : TG T G) (hd : ∀ a, D a → ∀ xs, G a ≠ some (.lst xs) ∧ G a ≠ some (.tup xs) ∧ ∀ u, G a ≠ some (.frz u (.lst xs)) ∧ G a ≠ some (.frz u (.tup xs))) : Sub G H := fun a o e k => by
  obtain ⟨xs, k⟩ := k
  refine g.at t (fun z => ?_) e ?_
  · have q := hd a z xs
    rcases k with rfl | rfl | ⟨u, rfl | rfl⟩
    · exact q.1 e
    · exact q.2.1 e
    · exact (q.2.2 u).1 e
    · exact (q.2.2 u).2 e
  · rintro ps rfl
    rcases k with k | k | ⟨u, k | k⟩ <;> cases k
theorem Sub.seqT {K : PySem.W.Frag} {a : Addr} {xs : List V} (h : Sub G H) (e : SqT K G a xs) : SqT K H a xs := by
  rcases e with (e | ⟨u, e⟩) | e
  · exact .inl (.inl (h _ _ e ⟨xs, .inr (.inl rfl)⟩))
  · exact .inl (.inr ⟨u, h _ _ e ⟨xs, .inr (.inr ⟨u, .inr rfl⟩)⟩⟩)
  · exact .inr e
theorem Sub.seqL {K : PySem.W.Frag} {a : Addr} {xs : List V} (h : Sub G H) (e : SqL K G a xs) : SqL K H a xs := by
  rcases e with (e | ⟨u, e⟩) | e
  · exact .inl (.inl (h _ _ e ⟨xs, .inl rfl⟩))
  · exact .inl (.inr ⟨u, h _ _ e ⟨xs, .inr (.inr ⟨u, .inl rfl⟩)⟩⟩)
  · exact .inr e
end
end K1
namespace L2
open PySem PySem.Spec PyProof.Rows
mutual
theorem Dp.sub {K : PySem.W.Frag} {G H : Hp} (h : K1.Sub G H) : ∀ (d : PyData) (v : V), Dp K G v d → Dp K H v d
  | .none, _, q => by cases q; exact .non
  | .bool b, _, q => by cases q; exact .bl b
  | .int i, _, q => by cases q; exact .int i
  | .str x, _, q => by cases q; exact .str x
  | .list ds, _, q => by
    cases q with
    | lst e a => exact .lst (h.seqL e) (Dp.subs h ds _ a)
  | .tuple ds, _, q => by
    cases q with
    | tup e a => exact .tup (h.seqT e) (Dp.subs h ds _ a)
  | .dict _, _, q => by cases q
theorem Dp.subs {K : PySem.W.Frag} {G H : Hp} (h : K1.Sub G H) : ∀ (ds : List PyData) (vs : List V), DpAll K G vs ds → DpAll K H vs ds
  | [], _, q => by cases q; exact .nil
  | d :: ds, _, q => by
    cases q with
    | cons a b => exact .cons (Dp.sub h d _ a) (Dp.subs h ds _ b)
end
section
variable {K : PySem.W.Frag} {H : Hp}
theorem DpAll.len : ∀ {vs : List V} {ds : List PyData}, DpAll K H vs ds → vs.length = ds.length
  | _, _, .nil => rfl
  | _, _, .cons _ b => congrArg (· + 1) (DpAll.len b)
theorem DpAll.at : ∀ {vs : List V} {ds : List PyData}, DpAll K H vs ds → ∀ {i : Nat} {d : PyData}, ds[i]? = some d → ∃ v, vs[i]? = some v ∧ Dp K H v d
  | _, _, .nil, _, _, e => by cases e
  | _, _, .cons a b, 0, _, e => by cases e; exact ⟨_, rfl, a⟩
  | _, _, .cons a b, i + 1, _, e => DpAll.at b (i := i) e
theorem DpAll.at' : ∀ {vs : List V} {ds : List PyData}, DpAll K H vs ds → ∀ {i : Nat} {v : V}, vs[i]? = some v → ∃ d, ds[i]? = some d ∧ Dp K H v d
  | _, _, .nil, _, _, e => by cases e
  | _, _, .cons a b, 0, _, e => by cases e; exact ⟨_, rfl, a⟩
  | _, _, .cons a b, i + 1, _, e => DpAll.at' b (i := i) e
theorem DpAll.app : ∀ {vs : List V} {ds : List PyData}, DpAll K H vs ds → ∀ {us : List V} {es : List PyData}, DpAll K H us es → DpAll K H (vs ++ us) (ds ++ es)
  | _, _, .nil, _, _, h => h
  | _, _, .cons a b, _, _, h => .cons a (DpAll.app b h)
theorem DpAll.one {v : V} {d : PyData} (h : Dp K H v d) : DpAll K H [v] [d] := .cons h .nil
theorem DpAll.take : ∀ {vs : List V} {ds : List PyData}, DpAll K H vs ds → ∀ n, DpAll K H (vs.take n) (ds.take n)
  | _, _, .nil, n => by rw [List.take_nil, List.take_nil]; exact .nil
  | _, _, .cons a b, 0 => .nil
  | _, _, .cons a b, n + 1 => .cons a (DpAll.take b n)
theorem DpAll.drop : ∀ {vs : List V} {ds : List PyData}, DpAll K H vs ds → ∀ n, DpAll K H (vs.drop n) (ds.drop n)
  | _, _, .nil, n => by rw [List.drop_nil, List.drop_nil]; exact .nil
  | _, _, .cons a b, 0 => .cons a b
  | _, _, .cons a b, n + 1 => DpAll.drop b n
theorem DpAll.mem : ∀ {vs : List V} {ds : List PyData}, DpAll K H vs ds → ∀ {v : V}, v ∈ vs → ∃ d ∈ ds, Dp K H v d
  | _, _, .cons a b, v, h => by
    rcases List.mem_cons.mp h with rfl | h
    · exact ⟨_, List.mem_cons_self .., a⟩
    · obtain ⟨d, m, q⟩ := DpAll.mem b h
      exact ⟨d, List.mem_cons_of_mem _ m, q⟩
theorem DpAll.rev : ∀ {vs : List V} {ds : List PyData}, DpAll K H vs ds → DpAll K H vs.reverse ds.reverse
  | _, _, .nil => .nil
  | _, _, .cons a b => by
    rw [List.reverse_cons, List.reverse_cons]
    exact (DpAll.rev b).app (.one a)
theorem Dp.tupI {v : V} {ds : List PyData} (h : Dp K H v (.tuple ds)) : ∃ a xs, v = .ref a ∧ SqT K H a xs ∧ DpAll K H xs ds := by
  cases h with
  | tup e a => exact ⟨_, _, rfl, e, a⟩
theorem Dp.lstI {v : V} {ds : List PyData} (h : Dp K H v (.list ds)) : ∃ a xs, v = .ref a ∧ SqL K H a xs ∧ DpAll K H xs ds := by
  cases h with
  | lst e a => exact ⟨_, _, rfl, e, a⟩
theorem Dp.strI {v : V} {x : Str} (h : Dp K H v (.str x)) : v = .str x := by
  cases h
  rfl
theorem Dp.intI {v : V} {i : Int} (h : Dp K H v (.int i)) : v = .int i := by
  cases h
  rfl
theorem DpAll.i1 {vs : List V} {a : PyData} (h : DpAll K H vs [a]) : ∃ x, vs = [x] ∧ Dp K H x a := by
  cases h with
  | cons h1 h2 =>
    cases h2
    exact ⟨_, rfl, h1⟩
theorem DpAll.i2 {vs : List V} {a b : PyData} (h : DpAll K H vs [a, b]) : ∃ x y, vs = [x, y] ∧ Dp K H x a ∧ Dp K H y b := by
  cases h with
  | cons h1 h2 =>
    obtain ⟨y, rfl, q⟩ := h2.i1
    exact ⟨_, _, rfl, h1, q⟩
theorem DpAll.i3 {vs : List V} {a b c : PyData} (h : DpAll K H vs [a, b, c]) : ∃ x y z, vs = [x, y, z] ∧ Dp K H x a ∧ Dp K H y b ∧ Dp K H z c := by
  cases h with
  | cons h1 h2 =>
    obtain ⟨y, z, rfl, q⟩ := h2.i2
    exact ⟨_, _, _, rfl, h1, q⟩
theorem DpAll.i4 {vs : List V} {a b c d : PyData} (h : DpAll K H vs [a, b, c, d]) : ∃ x y z u, vs = [x, y, z, u] ∧ Dp K H x a ∧ Dp K H y b ∧ Dp K H z c ∧ Dp K H u d := by
  cases h with
  | cons h1 h2 =>
    obtain ⟨y, z, u, rfl, q⟩ := h2.i3
    exact ⟨_, _, _, _, rfl, h1, q⟩
end

end L2
namespace K1
open PySem PySem.Spec PyProof.Rows L2
/-! ### order -/
section
variable {X : Cx}
def rLeD (K : PySem.W.Frag) : R2 := fun x y H Q => ∃ d e, Dp K H x d ∧ Dp K H y e ∧ PySem.W.alike d e = true ∧ d ≠ .none ∧ d.depth ≤ 60 ∧ Q (.bl (!PySem.W.dataLt e d)) H
theorem op_leD (hu : X.A.units + 64 < cLine) : OpR X (compareOp .LtE) (rLeD X.K) := by
  intro pins s σ H x y v u Q I rx ry h
  obtain ⟨d, e, hd, he, al, nn, dp, q⟩ := h
  obtain ⟨as, r1⟩ := Dp.reads I d x v hd rx
  obtain ⟨bs, r2⟩ := Dp.reads I e y u he ry
  exact PySem.W.le_data r1 r2 al nn (by have := Nat.min_le_left d.depth e.depth; omega) ⟨.bl _, H, I, rfl, q⟩
/-- sorted(xs), xs a list of data that are alike: a new list -/
def rSortedD (K : PySem.W.Frag) : List V → Hp → VK → Prop := fun vs H Q => ∃ (a : Addr) (ps : List (V × PyData)), vs = [V.ref a] ∧ SqL K H a (ps.map (·.1)) ∧ (∀ p ∈ ps, Dp K H p.1 p.2) ∧ PySem.W.AllAlike (ps.map (·.2)) ∧ PySem.W.Sortable (ps.map (·.2)) ∧
  (∀ p ∈ ps, p.2.depth ≤ 60) ∧ ∀ l, H l = none → Q (.ref l) (upd H l (.lst ((ps.mergeSort (PySem.W.dataLe false (·.2))).map (·.1))))
theorem each_of {R : Value → V × PyData → Prop} : ∀ {ps : List (V × PyData)} {us : List Value}, Vals (ps.map (·.1)) us → (∀ p ∈ ps, ∀ u, RelV p.1 u → R u p) → PySem.W.EachIs R us ps
  | [], _, h, _ => by cases h; exact .nil
  | p :: ps, _, h, q => by
    cases h with
    | cons r rs => exact .cons (q p (List.mem_cons_self ..) _ r) (each_of rs fun p' m => q p' (List.mem_cons_of_mem _ m))
theorem each_vals : ∀ {us : List Value} {ps : List (V × PyData)}, PySem.W.EachIs (fun u p => RelV p.1 u) us ps → Vals (ps.map (·.1)) us
  | _, _, .nil => .nil
  | _, _, .cons a b => .cons a (each_vals b)
theorem cr_sortedD (hu : X.A.units + 64 < cLine) : CallR X (.builtin "sorted") (rSortedD X.K) := by
  intro pins s σ H vs us Q I r h
  obtain ⟨a, ps, rfl, hs, hd, al, so, dp, q⟩ := h
  obtain ⟨its, rv, hl, hz⟩ := I.list hs
  rw [Vals.ref1 r]
  have hz' : ps.length ≤ sizeLine := by rw [List.length_map] at hz; exact hz
  refine PySem.W.sorted_data (β := V × PyData) (enc := (·.2)) (bs := ps) (R := fun u p => RelV p.1 u) hl.isList (each_of rv fun p m u r => r) (each_of rv fun p m u r => Dp.reads I p.2 p.1 u (hd p m) r) al so hz' (fun p m => by have := dp p m; omega) fun out h1 h2 => ?_
  obtain ⟨e, he⟩ := PyProof.Rows.sortedAll_at s.heap its out.toArray
  refine ⟨.ref (s.heap.objs.size + 1), upd H (s.heap.objs.size + 1) (.lst ((ps.mergeSort (PySem.W.dataLe false (·.2))).map (·.1))), I.laid (t' := s.toks) (fun _ _ => PyProof.Rows.sortedAll_old) (Nat.le_succ _) ⟨?_, out, e, each_vals h2, he⟩, rfl, q _ (I.hok.fresh (Nat.le_succ _))⟩
  rw [List.length_map, List.length_mergeSort]
  exact hz'
end
end K1
set_option Elab.async false
set_option linter.all false
set_option maxRecDepth 100000
set_option maxHeartbeats 4000000
/-! Patches as data: names, lines, deeds. -/
namespace K1
open PySem PySem.Spec PyProof.Rows L2

abbrev Nm := Str × Int
abbrev Ln := Str × Int × Int
inductive Deed where
  | put (a b : Ln) (ts : List Str)
  | order (a b : Ln)
  | one (keep : Bool) (a : Ln)
structure Pat where
  name : Nm
  knows : List Nm
  deeds : List Deed
def eN (n : Nm) : PyData := .tuple [.str n.1, .int n.2]
def eL (l : Ln) : PyData := .tuple [.str l.1, .int l.2.1, .int l.2.2]
def kindS (k : Bool) : Str := if k = true then "keep" else "cut"
def eD : Deed → PyData
  | .put a b ts => .tuple [.str "put", eL a, eL b, .tuple (ts.map .str)]
  | .order a b => .tuple [.str "order", eL a, eL b]
  | .one k a => .tuple [.str (kindS k), eL a]
def eP (p : Pat) : PyData := .tuple [eN p.name, .list (p.knows.map eN), .list (p.deeds.map eD)]
def Deed.texts : Deed → List Str
  | .put _ _ ts => ts
  | _ => []
def textsOf (p : Pat) : List Str := p.deeds.flatMap Deed.texts
def lnAt (n : Nm) (k : Nat) : Ln := (n.1, n.2, (k : Int) + 1)
def linesFrom (n : Nm) (ts : List Str) : List (Ln × Str) := (List.range ts.length).map fun k => (lnAt n k, ts.getD k "")
def linesOf (p : Pat) : List (Ln × Str) := linesFrom p.name (textsOf p)
def linesIn (hist : List Pat) (names : List Nm) : List (Ln × Str) := hist.flatMap fun p => if p.name ∈ names then linesOf p else []
def eLT (x : Ln × Str) : PyData := .tuple [eL x.1, .str x.2]
/-- what is known, by the history backwards -/
def knownStep (found : List Nm) (p : Pat) : List Nm := if p.name ∈ found then found ++ p.knows.filter (fun n => decide (n ∉ found)) else found
def knownIn (hist : List Pat) (knows : List Nm) : List Nm := hist.reverse.foldl knownStep knows

def NmOk (n : Nm) : Prop := handV (.str n.1) = true ∧ 1 ≤ n.2 ∧ n.2 ≤ 999
def nmOf (l : Ln) : Nm := (l.1, l.2.1)
def LnOk (l : Ln) : Prop := NmOk (nmOf l) ∧ 1 ≤ l.2.2
def headL : Ln := ("", 0, 0)
def footL : Ln := ("", 0, 1)
def TxOk (t : Str) : Prop := PyData.strOk t = true ∧ t.length ≤ 40 ∧ 10 ∉ TL.tl t
/-- a line that a put may stand at -/
def EdOk (l : Ln) : Prop := LnOk l ∨ l = headL ∨ l = footL
def Deed.ok : Deed → Prop
  | .put a b ts => EdOk a ∧ EdOk b ∧ ∀ t ∈ ts, TxOk t
  | .order a b => LnOk a ∧ LnOk b
  | .one _ a => LnOk a
structure Pat.ok (p : Pat) : Prop where
  name : NmOk p.name
  knows : ∀ n ∈ p.knows, NmOk n
  deeds : ∀ d ∈ p.deeds, d.ok
/-- the sizes of drawn ones -/
structure Pat.small (p : Pat) : Prop where
  knows : p.knows.length ≤ 4
  deeds : p.deeds.length ≤ 3
  texts : ∀ d ∈ p.deeds, d.texts.length ≤ 3

/-- all signs are plain -/
def Asc (x : Str) : Prop := ∀ c ∈ TL.tl x, c < 128
theorem Asc.ok {x : Str} (h : Asc x) : PyData.strOk x = true := by
  show x.cps.all _ = true
  rw [← Array.all_toList]
  refine List.all_eq_true.mpr fun c hc => ?_
  have := h c hc
  exact decide_eq_true (by omega)
theorem handOk {x : Str} (h : handV (.str x) = true) : PyData.strOk x = true ∧ x.length ≤ 8 := by
  have w : wordOk x = true := (Bool.and_eq_true_iff.mp h).1
  have w1 := Bool.and_eq_true_iff.mp w
  have w2 := Bool.and_eq_true_iff.mp w1.1
  refine ⟨Asc.ok fun c hc => ?_, ?_⟩
  · have := of_decide_eq_true (List.all_eq_true.mp w1.2 c hc)
    have e : ltrs.cps.toList.all (fun c => decide (c < 128)) = true := by decide +kernel
    exact of_decide_eq_true (List.all_eq_true.mp e c this)
  · have := of_decide_eq_true w2.2
    omega
theorem eN_eqv (n m : Nm) : PyData.eqv (eN n) (eN m) = decide (n = m) := by
  obtain ⟨a, i⟩ := n
  obtain ⟨b, j⟩ := m
  have e : PyData.eqv (eN (a, i)) (eN (b, j)) = ((a == b) && ((i == j) && true)) := by simp only [eN, PyData.eqv, PyData.eqvAll]
  rw [e]
  by_cases h1 : a = b
  · by_cases h2 : i = j
    · subst h1 h2
      simp
    · simp [h1, h2]
  · simp [h1]
theorem eL_eqv (n m : Ln) : PyData.eqv (eL n) (eL m) = decide (n = m) := by
  obtain ⟨a, i, k⟩ := n
  obtain ⟨b, j, l⟩ := m
  have e : PyData.eqv (eL (a, i, k)) (eL (b, j, l)) = ((a == b) && ((i == j) && ((k == l) && true))) := by simp only [eL, PyData.eqv, PyData.eqvAll]
  rw [e]
  by_cases h1 : a = b
  · by_cases h2 : i = j
    · by_cases h3 : k = l
      · subst h1 h2 h3
        simp
      · simp [h1, h2, h3]
    · simp [h1, h2]
  · simp [h1]
theorem eN_any (n : Nm) (ns : List Nm) : ((ns.map eN).any fun z => PyData.eqv z (eN n)) = decide (n ∈ ns) := by
  induction ns with
  | nil => rfl
  | cons m r ih =>
    rw [List.map_cons, List.any_cons, ih, eN_eqv]
    by_cases h : m = n
    · subst h
      simp
    · have h' : ¬ n = m := fun z => h z.symm
      simp [h, h']
/-! shapes -/
theorem shaped_of {d : PyData} (h : d.canLay0 = true) (h' : d.depth ≤ 64) : SeqAt.shaped d = true := by
  show (d.canLay0 && decide (d.depth ≤ 64)) = true
  rw [Bool.and_eq_true]
  exact ⟨h, decide_eq_true h'⟩
theorem eN_lay {n : Nm} (h : PyData.strOk n.1 = true) : (eN n).canLay0 = true := by
  show PyData.canLay0 (.tuple [.str n.1, .int n.2]) = true
  simp [PyData.canLay0, PyData.canLayAll0, h]
theorem eN_dep (n : Nm) : (eN n).depth = 1 := by simp [eN, PyData.depth, PyData.depthAll]
theorem eL_lay {n : Ln} (h : PyData.strOk n.1 = true) : (eL n).canLay0 = true := by
  show PyData.canLay0 (.tuple [.str n.1, .int n.2.1, .int n.2.2]) = true
  simp [PyData.canLay0, PyData.canLayAll0, h]
theorem eL_dep (n : Ln) : (eL n).depth = 1 := by simp [eL, PyData.depth, PyData.depthAll]
theorem layAll {α : Type} {f : α → PyData} : ∀ {l : List α}, (∀ x ∈ l, (f x).canLay0 = true) → PyData.canLayAll0 (l.map f) = true
  | [], _ => by simp [PyData.canLayAll0]
  | x :: r, h => by
    have h1 := h x (List.mem_cons_self ..)
    have h2 := layAll (l := r) fun y m => h y (List.mem_cons_of_mem _ m)
    simp [PyData.canLayAll0, h1, h2]
theorem depAll {α : Type} {f : α → PyData} {n : Nat} : ∀ {l : List α}, (∀ x ∈ l, (f x).depth ≤ n) → PyData.depthAll (l.map f) ≤ n
  | [], _ => by simp [PyData.depthAll]
  | x :: r, h => by
    have h1 := h x (List.mem_cons_self ..)
    have h2 := depAll (l := r) fun y m => h y (List.mem_cons_of_mem _ m)
    simp only [List.map_cons, PyData.depthAll]
    omega
theorem NmOk.sh {n : Nm} (h : NmOk n) : SeqAt.shaped (eN n) = true := shaped_of (eN_lay (handOk h.1).1) (by rw [eN_dep]; decide)
theorem nms_sh {ns : List Nm} (h : ∀ n ∈ ns, NmOk n) : SeqAt.shaped (.list (ns.map eN)) = true := by
  refine shaped_of ?_ ?_
  · show PyData.canLay0 (.list (ns.map eN)) = true
    simp only [PyData.canLay0]
    exact layAll fun n m => eN_lay (handOk (h n m).1).1
  · have := depAll (f := eN) (n := 1) (l := ns) fun n _ => by rw [eN_dep]; exact Nat.le_refl _
    simp only [PyData.depth]
    omega
theorem EdOk.str {l : Ln} (h : EdOk l) : PyData.strOk l.1 = true := by
  rcases h with h | rfl | rfl
  · exact (handOk h.1.1).1
  · decide +kernel
  · decide +kernel
theorem eL_sh {l : Ln} (h : PyData.strOk l.1 = true) : SeqAt.shaped (eL l) = true := shaped_of (eL_lay h) (by rw [eL_dep]; decide)
theorem linesFrom_len (n : Nm) (ts : List Str) : (linesFrom n ts).length = ts.length := by
  unfold linesFrom
  rw [List.length_map, List.length_range]
theorem textsOf_len {p : Pat} (h : p.small) : (textsOf p).length ≤ 9 := by
  unfold textsOf
  have : ∀ l : List Deed, (∀ d ∈ l, d.texts.length ≤ 3) → (l.flatMap Deed.texts).length ≤ 3 * l.length := by
    intro l
    induction l with
    | nil => intro _; exact Nat.le_refl _
    | cons d r ih =>
      intro h
      rw [List.flatMap_cons, List.length_append, List.length_cons]
      have h1 := h d (List.mem_cons_self ..)
      have h2 := ih fun y m => h y (List.mem_cons_of_mem _ m)
      omega
  have h1 := this p.deeds h.texts
  have h2 := h.deeds
  omega
theorem linesIn_len {names : List Nm} : ∀ {hist : List Pat}, (∀ p ∈ hist, p.small) → (linesIn hist names).length ≤ 9 * hist.length
  | [], _ => Nat.le_refl _
  | p :: r, h => by
    have h1 := textsOf_len (h p (List.mem_cons_self ..))
    have h2 := linesIn_len (names := names) (hist := r) fun y m => h y (List.mem_cons_of_mem _ m)
    have e : linesIn (p :: r) names = (if p.name ∈ names then linesOf p else []) ++ linesIn r names := rfl
    rw [e, List.length_append, List.length_cons]
    have h3 : (if p.name ∈ names then linesOf p else []).length ≤ 9 := by
      split
      · unfold linesOf
        rw [linesFrom_len]
        exact h1
      · exact Nat.zero_le _
    omega
end K1
set_option Elab.async false
set_option linter.all false
set_option maxRecDepth 100000
set_option maxHeartbeats 4000000
/-! The law's defs: lines of patches, what is known. -/
namespace K1
open PySem PySem.Spec PyProof.Rows L2

theorem units65 {k : Nat} {A : Around} (r : Room k A) : A.units + 65 < cLine := by have := r.un; omega
/-- an object that is new since H, written again -/
theorem Go.put {T : Tp} {D : Addr → Prop} {H H1 : Hp} {p : Addr} {o u : HO} (g : Go T D H H1) (n : H p = none) (h : H1 p = some u) (hu : ∀ ps, u ≠ .tbl ps := by intro ps z; cases z) : Go T D H (upd H1 p o) := by
  have ne := g.1.neW h hu
  refine ⟨g.1.stay ne, fun b v h1 h3 e => ?_⟩
  rw [upd_ne (ne_of_none e n)]
  exact g.2 b v h1 h3 e
theorem small_line {n : Nat} (h : n ≤ 10000) : n < sizeLine := Nat.lt_of_le_of_lt h (by decide)
theorem small_le {n : Nat} (h : n ≤ 10000) : n ≤ sizeLine := Nat.le_of_lt (small_line h)
theorem flat_take {α β : Type} {f : α → List β} (l : List α) (j : Nat) : ((l.take j).flatMap f).length ≤ (l.flatMap f).length := by
  have e : l.flatMap f = (l.take j).flatMap f ++ (l.drop j).flatMap f := by rw [← List.flatMap_append, List.take_append_drop]
  rw [e, List.length_append]
  omega
theorem flat_succ {α β : Type} {f : α → List β} {l : List α} {j : Nat} {x : α} (h : l[j]? = some x) : (l.take (j + 1)).flatMap f = (l.take j).flatMap f ++ f x := by
  rw [List.take_add_one, h, List.flatMap_append]
  simp
/-- C and D together -/
def plus (C : Addr → Bool) (D : Addr) : Addr → Bool := fun a => C a || decide (a = D)
theorem plus_D {C : Addr → Bool} {D : Addr} : plus C D D = true := by simp [plus]
theorem plus_le {C : Addr → Bool} {D : Addr} : ∀ a, C a = true → plus C D a = true := fun a h => by simp [plus, h]
theorem plus_no {C : Addr → Bool} {D p : Addr} (h : C p = false) (n : p ≠ D) : plus C D p = false := by simp [plus, h, n]
/-- a history, its patches off C -/
def HistAt (K : PySem.W.Frag) (C : Addr → Bool) (H : Hp) (h : V) (hist : List Pat) : Prop := ∃ a xs, h = .ref a ∧ SqL K H a xs ∧ DpAll K (cut C H) xs (hist.map eP)
structure HistOk (hist : List Pat) : Prop where
  len : hist.length ≤ 100
  each : ∀ p ∈ hist, p.ok ∧ p.small
/-- C's places are taken -/
def Held (C : Addr → Bool) (H : Hp) : Prop := ∀ a, C a = true → H a ≠ none
theorem Held.no {C : Addr → Bool} {H : Hp} {p : Addr} (h : Held C H) (e : H p = none) : C p = false := Bool.eq_false_iff.mpr fun z => h p z e
theorem sub_go {T : Tp} {H H' : Hp} (g : Go T D0 H H') (t : TG T H) : Sub H H' := Sub.go g t fun _ z => z.elim
theorem HistAt.go {K : PySem.W.Frag} {C : Addr → Bool} {T : Tp} {H H' : Hp} {h : V} {hist : List Pat} (x : HistAt K C H h hist) (g : Go T D0 H H') (t : TG T H) : HistAt K C H' h hist := by
  obtain ⟨a, xs, e, s, d⟩ := x
  exact ⟨a, xs, e, g.seqL t (fun _ _ z => z) s, Dp.subs (sub_go g t).cuts _ _ d⟩
theorem dp_cut {K : PySem.W.Frag} {C : Addr → Bool} {H : Hp} {v : V} {d : PyData} (h : Dp K (cut C H) v d) : Dp K H v d := Dp.sub Sub.cut _ _ h
theorem at_map {α : Type} {f : α → PyData} {l : List α} {i : Nat} {x : PyData} (h : (l.map f)[i]? = some x) : ∃ p, l[i]? = some p ∧ x = f p := by
  rw [List.getElem?_map] at h
  cases e : l[i]? with
  | none => rw [e] at h; cases h
  | some p =>
    rw [e] at h
    exact ⟨p, rfl, (Option.some.inj h).symm⟩

section
variable {P : Program} {w : World} {K : PySem.W.Frag} {mg : Str → Option Value} {base : Heap} {T : Tp}

/-! ### _law_lines -/
def spLines (K : PySem.W.Frag) (T : Tp) : Sp := fun vs H Q _ => ∃ (h ns : V) (hist : List Pat) (names : List Nm) (C : Addr → Bool), vs = [h, ns] ∧ HistAt K C H h hist ∧ HistOk hist ∧ Dp K H ns (.list (names.map eN)) ∧ (∀ n ∈ names, NmOk n) ∧ Held C H ∧ TG T H ∧
  ∀ H' p xs, Go T D0 H H' → H p = none → H' p = some (.lst xs) → DpAll K (cut C H') xs ((linesIn hist names).map eLT) → Q (.ref p) H'
theorem strs_of {K : PySem.W.Frag} {H : Hp} : ∀ {us : List V} {ts : List Str}, DpAll K H us (ts.map .str) → us = ts.map V.str
  | _, [], h => by cases h; rfl
  | _, t :: r, h => by
    cases h with
    | cons a b =>
      cases Dp.strI a
      rw [strs_of b]
      rfl
theorem txt_of {d : Deed} : ∀ {K : PySem.W.Frag} {H : Hp} {v : V}, Dp K H v (eD d) → ∃ a k r, v = .ref a ∧ SqT K H a (.str k :: r) ∧ ((k = "put" ∧ ∃ x y t us, r = [x, y, .ref t] ∧ SqT K H t (us.map V.str) ∧ us = d.texts) ∨ (k ≠ "put" ∧ d.texts = [])) := by
  intro K H v h
  cases d with
  | put a b ts =>
    obtain ⟨p, xs, rfl, s, q⟩ := Dp.tupI h
    obtain ⟨x, y, z, u, rfl, q1, q2, q3, q4⟩ := DpAll.i4 q
    cases Dp.strI q1
    obtain ⟨t, us, rfl, s2, q5⟩ := Dp.tupI q4
    refine ⟨p, "put", _, rfl, s, .inl ⟨rfl, y, z, t, ts, rfl, ?_, rfl⟩⟩
    have : us = ts.map V.str := by
      exact strs_of q5
    rw [← this]
    exact s2
  | order a b =>
    obtain ⟨p, xs, rfl, s, q⟩ := Dp.tupI h
    obtain ⟨x, y, z, rfl, q1, q2, q3⟩ := DpAll.i3 q
    cases Dp.strI q1
    exact ⟨p, "order", _, rfl, s, .inr ⟨by decide +kernel, rfl⟩⟩
  | one k a =>
    obtain ⟨p, xs, rfl, s, q⟩ := Dp.tupI h
    obtain ⟨x, y, rfl, q1, q2⟩ := DpAll.i2 q
    cases Dp.strI q1
    exact ⟨p, kindS k, _, rfl, s, .inr ⟨by cases k <;> decide +kernel, rfl⟩⟩
theorem ok_llines {f : Addr} {fd : FuncData} {k : Nat} (F : Fun K "_law_lines" "_law_lines" sLLines f fd) (M : Mg K mg) : FnOk P w K mg base CX0 (k + 1) f fd ["_law_history_here", "_law_names"] (spLines K T) := by
  refine F.ok scLLines (fun vs H Q E h => ?_) (fun cdv A outer s H vs Q E hr h => ?_)
  · obtain ⟨h, ns, hist, names, C, rfl, _⟩ := h
    rfl
  · obtain ⟨hv, nv, hist, names, C, rfl, hh, hok, hn, nok, held, tg, q⟩ := h
    refine ⟨_, pss_cons (ps_set (i := 2) scLLines.nd rfl (.inl rfl) (pe_lst pa_nil))
      (pss_cons (ps_for PassesOwn.never rfl (pi_list (pv 0)) (pg_tup rfl (pgs_cons (pg_name (i := 3) scLLines.nd rfl (.inr rfl)) (pgs_cons (pg_name (i := 4) scLLines.nd rfl (.inl rfl)) (pgs_cons (pg_name (i := 5) scLLines.nd rfl (.inl rfl)) pgs_nil))))
        (pss_cons (ps_set (i := 6) scLLines.nd rfl (.inl rfl) (pe_lst pa_nil))
        (pss_cons (ps_for PassesOwn.never rfl (pi_list (pv 5)) (pg_name (i := 7) scLLines.nd rfl (.inl rfl))
          (pss_one (ps_set (i := 6) scLLines.nd rfl (.inl rfl) (pe_op op_cat (pv 6) (pe_ifExp (pt_cmpR op_eq (pe_ix ix_tup (pv 7) pe_int (fun _ _ => rfl)) pe_str (nomark _))
            (pe_callTy call_list_of (by rfl) M.list_ (by decide +kernel) (pa_cons (pe_ix ix_tup (pv 7) pe_int (fun _ _ => rfl)) pa_nil)) (pe_lst pa_nil))))))
        (pss_one (ps_if (pt_cmpR (op_inD (units65 hr)) (pv 3) (pv 1) (by rfl))
          (pss_one (ps_set (i := 2) scLLines.nd rfl (.inl rfl) (pe_op op_cat (pv 2) (pe_lc (own := [("_law_k", 8), ("_law_text", 9)]) (g := gTup K 2 (gCons (gName 8) (gCons (gName 9) gNil))) (tt := tYes) rfl scLLines.nd (pi_enum (by rfl) M.enum_ (pa_cons (pv 6) pa_nil))
            (blkOk_by (N := ["_law_history_here", "_law_names", "_law_found", "_law_name", "_law_knows", "_law_deeds", "_law_texts", "_law_deed_here", "_law_k", "_law_text"]) (sc := defScope sLLines) (by decide +kernel))
            (fun _ _ _ _ _ => pg_tup rfl (pgs_cons (pg_name (i := 8) scLLines.nd rfl (Or.inl rfl)) (pgs_cons (pg_name (i := 9) scLLines.nd rfl (Or.inl rfl)) pgs_nil)))
            (fun _ _ _ _ _ => pts_nil) (fun _ _ _ _ _ => pe_tup (pa_cons (pe_op (show OpR _ _ (rCatA K) from op_catA) (pv 3) (pe_tup (pa_cons (pe_op op_add (pv 8) pe_int) pa_nil))) (pa_cons (pv 9) pa_nil))))))) pss_nil)))))
      (pss_one (ps_ret (pv 2)))), ?_⟩
    obtain ⟨a, xs, rfl, hS, hD⟩ := hh
    have hlen : xs.length = hist.length := by rw [DpAll.len hD, List.length_map]
    refine ⟨Nat.zero_le _, fun p0 hp0 => ?_⟩
    have g0 : Go T D0 H (upd H p0 (.lst [])) := (Go.rfl' tg).new hp0
    have e0 : (upd H p0 (.lst [])) p0 = some (.lst []) := upd_same
    generalize upd H p0 (.lst []) = H0 at g0 e0 ⊢
    have subC : ∀ {H'}, Go T D0 H H' → Sub (cut C H) (cut C H') := fun g => (sub_go g tg).cuts
    -- the history's turns
    refine ⟨.ref a, rfl, a, rfl, ⟨xs, g0.seqL tg (fun _ _ z => z) hS⟩, ?_⟩
    refine for_list (K := K) (a := a) (xs := xs) (fun i σ H1 => ∃ (p : Addr) (fs : List V) (y3 y4 y5 y6 y7 : Option V), σ = [some (.ref a), some nv, some (.ref p), y3, y4, y5, y6, y7, none, none] ∧ Go T D0 H H1 ∧ H p = none ∧ H1 p = some (.lst fs) ∧
      DpAll K (cut C H1) fs ((linesIn (hist.take i) names).map eLT)) ?_ ?_ ?_ ?_
    · exact ⟨p0, [], _, _, _, _, _, rfl, g0, hp0, e0, .nil⟩
    · rintro i σ H1 hi ⟨_, _, _, _, _, _, _, rfl, g, _⟩
      exact g.seqL tg (fun _ _ z => z) hS
    · rintro i v σ H1 hv ⟨p, fs, y3, y4, y5, y6, y7, rfl, g, hp, ep, hf⟩
      obtain ⟨d, hd, hv'⟩ := DpAll.at' hD hv
      obtain ⟨pat, hpat, rfl⟩ := at_map hd
      have pm := List.mem_of_getElem? hpat
      obtain ⟨pok, psm⟩ := hok.each pat pm
      obtain ⟨av, _, rfl, sv, dv⟩ := Dp.tupI hv'
      obtain ⟨vn, vk, vd, rfl, dn, dk, dd⟩ := DpAll.i3 dv
      obtain ⟨an, _, rfl, sn, dn2⟩ := Dp.tupI dn
      obtain ⟨u1, u2, rfl, du1, du2⟩ := DpAll.i2 dn2
      cases Dp.strI du1
      cases Dp.intI du2
      obtain ⟨ad, dsv, rfl, sd, dds⟩ := Dp.lstI dd
      have dlen : dsv.length = pat.deeds.length := by rw [DpAll.len dds, List.length_map]
      have toH : ∀ {H'}, Go T D0 H H' → Sub (cut C H) H' := fun g => (subC g).trans Sub.cut
      refine ⟨av, _, rfl, (toH g).seqT sv, rfl, _, _, rfl, vk, _, rfl, _, _, rfl, rfl, ?_⟩
      refine ⟨Nat.zero_le _, fun t0 ht0 => ?_⟩
      have g1 : Go T D0 H1 (upd H1 t0 (.lst [])) := (Go.rfl' g.1).new ht0
      have e1 : (upd H1 t0 (.lst [])) t0 = some (.lst []) := upd_same
      generalize upd H1 t0 (.lst []) = H2 at g1 e1 ⊢
      refine ⟨.ref ad, rfl, ad, rfl, ⟨dsv, (toH (g.trans g1)).seqL sd⟩, ?_⟩
      have tlen : (textsOf pat).length ≤ 9 := textsOf_len psm
      refine for_list (K := K) (a := ad) (xs := dsv) (fun j σ H3 => ∃ (t : Addr) (y7 : Option V), σ = [some (.ref a), some nv, some (.ref p), some (.ref an), some vk, some (.ref ad), some (.ref t), y7, none, none] ∧ Go T D0 H1 H3 ∧
        H3 t = some (.lst (((pat.deeds.take j).flatMap Deed.texts).map V.str))) ?_ ?_ ?_ ?_
      · exact ⟨t0, _, rfl, g1, e1⟩
      · rintro j σ H3 hj ⟨_, _, rfl, g3, _⟩
        exact (toH (g.trans g3)).seqL sd
      · rintro j x σ H3 hx ⟨t, y7, rfl, g3, et⟩
        obtain ⟨dd', hdd, hx'⟩ := DpAll.at' dds hx
        obtain ⟨deed, hdeed, rfl⟩ := at_map hdd
        obtain ⟨a', k', r, rfl, s', hcase⟩ := txt_of hx'
        have S' : SqT K H3 a' (.str k' :: r) := (toH (g.trans g3)).seqT s'
        have tle := flat_take (f := Deed.texts) pat.deeds j
        have dle := psm.texts deed (List.mem_of_getElem? hdeed)
        have tl9 : (pat.deeds.flatMap Deed.texts).length ≤ 9 := tlen
        have fin : ∀ (H4 : Hp) (l : Addr), Go T D0 H1 H4 → H4 t = some (.lst (((pat.deeds.take j).flatMap Deed.texts).map V.str)) → H4 l = some (.lst (deed.texts.map V.str)) →
            rCat (.ref t) (.ref l) H4 (fun z H5 => ∃ (t : Addr) (y7 : Option V), [some (.ref a), some nv, some (.ref p), some (.ref an), some vk, some (.ref ad), some z, some (.ref a'), none, none] = [some (.ref a), some nv, some (.ref p), some (.ref an), some vk, some (.ref ad), some (V.ref t), y7, none, none] ∧ Go T D0 H1 H5 ∧
              H5 t = some (.lst (((pat.deeds.take (j + 1)).flatMap Deed.texts).map V.str))) := by
          intro H4 l g4 et4 el4
          refine ⟨t, l, _, _, rfl, rfl, et4, el4, small_le (by rw [List.length_map, List.length_map]; omega), fun q hq => ⟨q, _, rfl, g4.new hq, ?_⟩⟩
          rw [upd_same, flat_succ hdeed, List.map_append]
        refine ⟨.ref t, rfl, .ref a', rfl, a', _, 0, .str k', rfl, rfl, S', atI_nat (j := 0) rfl, rfl, _, rfl, ite2 (fun e => ?_) (fun e => ?_)⟩
        · have ek : k' = "put" := V.str.inj (of_decide_eq_true e)
          rcases hcase with ⟨_, x1, x2, tt, us, rfl, s2, hus⟩ | ⟨z, _⟩
          · refine ⟨.ref a', rfl, a', _, 3, .ref tt, rfl, rfl, S', atI_nat (j := 3) rfl, tt, _, rfl, .inr ((toH (g.trans g3)).seqT s2), fun l hl => ?_⟩
            exact fin _ l (g3.new hl) (by rw [upd_ne (ne_of_none et hl)]; exact et) (by rw [upd_same, hus])
          · exact absurd ek z
        · have ek : ¬ k' = "put" := fun z => e (decide_eq_true (by rw [z]))
          rcases hcase with ⟨z, _⟩ | ⟨_, hus⟩
          · exact absurd z ek
          · refine ⟨Nat.zero_le _, fun l hl => ?_⟩
            exact fin _ l (g3.new hl) (by rw [upd_ne (ne_of_none et hl)]; exact et) (by rw [upd_same, hus]; rfl)
      · rintro σ H3 ⟨t, y7, rfl, g3, et⟩
        rw [dlen, List.take_length] at et
        have g03 := g.trans g3
        have ep3 := g3.at g.1 (fun z => z) ep
        have hf3 : DpAll K (cut C H3) fs ((linesIn (hist.take i) names).map eLT) := Dp.subs (sub_go g3 g.1).cuts _ _ hf
        have step : linesIn (hist.take (i + 1)) names = linesIn (hist.take i) names ++ (if pat.name ∈ names then linesOf pat else []) := flat_succ hpat
        refine ⟨.ref an, rfl, nv, rfl, eN pat.name, names.map eN, Dp.sub (toH g03) _ _ dn, Dp.sub (sub_go g03 tg) _ _ hn, pok.name.sh, nms_sh nok, _, rfl, ite2 (fun e => ?_) (fun e => ?_)⟩
        · rw [eN_any] at e
          rw [if_pos (of_decide_eq_true e)] at step
          have tl9 : (pat.deeds.flatMap Deed.texts).length ≤ 9 := tlen
          have St : SqL K H3 t (((pat.deeds.flatMap Deed.texts)).map V.str) := .inl (.inl et)
          refine ⟨.ref p, rfl, .ref t, rfl, t, _, rfl, St, fun D hD => ?_⟩
          have nDp : p ≠ D := ne_of_none ep3 hD
          have CD : C D = false := held.no (g03.free tg (fun z => z) hD)
          refine lc_it (walk_enum (K := K) (a := t) (xs := (textsOf pat).map V.str)) (fun n H4 => Go T D0 H3 H4 ∧ ∃ acc, H4 D = some (.lst acc) ∧ acc.length = n ∧ DpAll K (cut (plus C D) H4) acc (((List.range n).map fun k => (lnAt pat.name k, (textsOf pat).getD k "")).map eLT)) ?_ ?_ ?_ ?_
          · exact ⟨(Go.rfl' g03.1).new hD, [], upd_same, rfl, .nil⟩
          · rintro n H4 hn ⟨g4, _⟩
            exact g4.seqL g03.1 (fun _ _ z => z) St
          · rintro n x H4 H4' hn ⟨g4, acc, eD, hacc, hda⟩ ⟨T', x', y', rfl, hT, rfl, hx', hy'⟩
            cases hx'
            have hy' : ((textsOf pat).map V.str)[n]? = some y' := hy'
            have hn' : n < (textsOf pat).length := by rw [List.length_map] at hn; exact hn
            have ey : y' = .str ((textsOf pat).getD n "") := by
              rw [List.getElem?_map, List.getElem?_eq_getElem hn'] at hy'
              rw [List.getD_eq_getElem?_getD, List.getElem?_eq_getElem hn']
              exact (Option.some.inj hy').symm
            subst ey
            have nDT : D ≠ T' := ne_of_none eD hT
            have g5 := g4.new (o := .tup [V.int (n : Nat), .str ((textsOf pat).getD n "")]) hT
            have eD5 := (upd_ne (o := .tup [V.int (n : Nat), .str ((textsOf pat).getD n "")]) nDT).trans eD
            have hda5 : DpAll K (cut (plus C D) (upd H4 T' (.tup [V.int (n : Nat), .str ((textsOf pat).getD n "")]))) acc _ := Dp.subs (Sub.new hT).cuts _ _ hda
            refine ⟨T', _, rfl, .inl (.inl upd_same), rfl, _, _, rfl, _, _, rfl, rfl, rfl, ?_⟩
            generalize upd H4 T' (.tup [V.int (n : Nat), .str ((textsOf pat).getD n "")]) = H5 at g5 eD5 hda5 ⊢
            refine ⟨.ref an, rfl, .int (n : Nat), rfl, (n : Nat), 1, rfl, rfl, small_le (by show 1 ≤ 10000; decide), fun t1 ht1 => ?_⟩
            have g6 := g5.new (o := .tup [V.int ((n : Nat) + 1 : Int)]) ht1
            have eD6 := (upd_ne (o := .tup [V.int ((n : Nat) + 1 : Int)]) (ne_of_none eD5 ht1)).trans eD5
            have hda6 : DpAll K (cut (plus C D) (upd H5 t1 (.tup [V.int ((n : Nat) + 1 : Int)]))) acc _ := Dp.subs (Sub.new ht1).cuts _ _ hda5
            have sn6 : SqT K (upd H5 t1 (.tup [V.int ((n : Nat) + 1 : Int)])) an [.str pat.name.1, .int pat.name.2] := (toH (g03.trans g6)).seqT sn
            have e16 : (upd H5 t1 (.tup [V.int ((n : Nat) + 1 : Int)])) t1 = some (.tup [V.int ((n : Nat) + 1 : Int)]) := upd_same
            generalize upd H5 t1 (.tup [V.int ((n : Nat) + 1 : Int)]) = H6 at g6 eD6 hda6 sn6 e16 ⊢
            refine ⟨an, t1, _, _, rfl, rfl, sn6, .inl (.inl e16), small_le (by show 3 ≤ 10000; decide), (fun z => by cases z), (fun _ z => by cases z), fun _ _ t2 ht2 => ?_⟩
            have g7 := g6.new (o := .tup ([V.str pat.name.1, .int pat.name.2] ++ [V.int ((n : Nat) + 1 : Int)])) ht2
            have eD7 := (upd_ne (o := .tup ([V.str pat.name.1, .int pat.name.2] ++ [V.int ((n : Nat) + 1 : Int)])) (ne_of_none eD6 ht2)).trans eD6
            have hda7 : DpAll K (cut (plus C D) (upd H6 t2 (.tup ([V.str pat.name.1, .int pat.name.2] ++ [V.int ((n : Nat) + 1 : Int)])))) acc _ := Dp.subs (Sub.new ht2).cuts _ _ hda6
            have e27 : (upd H6 t2 (.tup ([V.str pat.name.1, .int pat.name.2] ++ [V.int ((n : Nat) + 1 : Int)]))) t2 = some (.tup [V.str pat.name.1, .int pat.name.2, V.int ((n : Nat) + 1 : Int)]) := upd_same
            have nD2 : t2 ≠ D := fun z => ne_of_none eD6 ht2 z.symm
            have C2 : C t2 = false := held.no ((g03.trans g6).free tg (fun z => z) ht2)
            generalize upd H6 t2 (.tup ([V.str pat.name.1, .int pat.name.2] ++ [V.int ((n : Nat) + 1 : Int)])) = H7 at g7 eD7 hda7 e27 ⊢
            refine ⟨.str ((textsOf pat).getD n ""), rfl, small_le (by show 2 ≤ 10000; decide), fun t3 ht3 => ?_⟩
            have nD3 : t3 ≠ D := fun z => ne_of_none eD7 ht3 z.symm
            have C3 : C t3 = false := held.no ((g03.trans g7).free tg (fun z => z) ht3)
            have n23 : t2 ≠ t3 := ne_of_none e27 ht3
            refine ⟨acc, (upd_ne nD3.symm).trans eD7, small_line (by omega), (g7.new ht3).put hD ((upd_ne nD3.symm).trans eD7), acc ++ [.ref t3], upd_same, by rw [List.length_append, hacc]; rfl, ?_⟩
            rw [cut_out plus_D, List.range_succ, List.map_append, List.map_append]
            refine DpAll.app (Dp.subs (Sub.new ht3).cuts _ _ hda7) (.one ?_)
            show Dp K (cut (plus C D) (upd H7 t3 (.tup [V.ref t2, .str ((textsOf pat).getD n "")]))) (.ref t3) (.tuple [eL (lnAt pat.name n), .str ((textsOf pat).getD n "")])
            refine .tup (.inl (.inl ((cut_at (plus_no C3 nD3)).trans upd_same))) (.cons (.tup (.inl (.inl ((cut_at (plus_no C2 nD2)).trans ((upd_ne n23).trans e27)))) (.cons (.str _) (.cons (.int _) (.cons (.int _) .nil)))) (.cons (.str _) .nil))
          · rintro H4 ⟨g4, acc, eD, hacc, hda⟩
            rw [List.length_map] at hacc hda
            have ep4 := g4.at g03.1 (fun z => z) ep3
            have l1 := linesIn_len (names := names) (hist := hist.take i) fun p m => (hok.each p (List.mem_of_mem_take m)).2
            have l2 : (hist.take i).length ≤ 100 := by rw [List.length_take]; have := hok.len; omega
            have l3 : fs.length ≤ 900 := by rw [DpAll.len hf3, List.length_map]; omega
            refine ⟨p, D, fs, acc, rfl, rfl, ep4, eD, small_le (by omega), fun q hq => ?_⟩
            refine ⟨q, fs ++ acc, _, _, _, _, _, rfl, (g03.trans g4).new hq, (g03.trans g4).free tg (fun z => z) hq, upd_same, ?_⟩
            rw [step, List.map_append]
            refine DpAll.app (Dp.subs ((Sub.trans (sub_go g4 g03.1) (Sub.new hq)).cuts) _ _ hf3) (Dp.subs (Sub.trans (Sub.less (H := H4) (plus_le (C := C) (D := D))) (Sub.new hq).cuts) _ _ hda)
        · rw [eN_any] at e
          rw [if_neg (fun z => e (decide_eq_true z)), List.append_nil] at step
          rw [← step] at hf3
          exact ⟨p, fs, _, _, _, _, _, rfl, g03, hp, ep3, hf3⟩
    · rintro σ H1 ⟨p, fs, y3, y4, y5, y6, y7, rfl, g, hp, ep, hf⟩
      rw [hlen, List.take_length] at hf
      exact ⟨.ref p, rfl, q H1 p fs g hp ep hf⟩
end
end K1
set_option Elab.async false
set_option linter.all false
set_option maxRecDepth 100000
set_option maxHeartbeats 4000000
/-! The law's defs: what is known. -/
namespace K1
open PySem PySem.Spec PyProof.Rows L2

theorem knownStep_ok {found : List Nm} {p : Pat} (h : ∀ n ∈ found, NmOk n) (hp : p.ok) : ∀ n ∈ knownStep found p, NmOk n := by
  unfold knownStep
  split
  · intro n hn
    rcases List.mem_append.mp hn with hn | hn
    · exact h n hn
    · exact hp.knows n (List.mem_filter.mp hn).1
  · exact h
theorem knownStep_len {found : List Nm} {p : Pat} (hp : p.small) : (knownStep found p).length ≤ found.length + 4 := by
  unfold knownStep
  split
  · rw [List.length_append]
    have := List.length_filter_le (fun n => decide (n ∉ found)) p.knows
    have := hp.knows
    omega
  · omega
theorem fold_succ {α β : Type} {f : β → α → β} {b : β} {l : List α} {j : Nat} {x : α} (h : l[j]? = some x) : (l.take (j + 1)).foldl f b = f ((l.take j).foldl f b) x := by
  rw [List.take_add_one, h, List.foldl_append]
  rfl
theorem knownIn_ok {hist : List Pat} {knows : List Nm} (hk : ∀ n ∈ knows, NmOk n) : ∀ {l : List Pat}, (∀ p ∈ l, p.ok) → ∀ {found : List Nm}, (∀ n ∈ found, NmOk n) → ∀ n ∈ l.foldl knownStep found, NmOk n
  | [], _, _, h => h
  | p :: r, hl, _, h => knownIn_ok (hist := hist) hk (l := r) (fun q m => hl q (List.mem_cons_of_mem _ m)) (knownStep_ok h (hl p (List.mem_cons_self ..)))
theorem knownIn_len : ∀ {l : List Pat}, (∀ p ∈ l, p.small) → ∀ {found : List Nm}, (l.foldl knownStep found).length ≤ found.length + 4 * l.length
  | [], _, _ => Nat.le_refl _
  | p :: r, hl, found => by
    have h1 := knownIn_len (l := r) (fun q m => hl q (List.mem_cons_of_mem _ m)) (found := knownStep found p)
    have h2 := knownStep_len (found := found) (hl p (List.mem_cons_self ..))
    rw [List.foldl_cons, List.length_cons]
    omega

section
variable {P : Program} {w : World} {K : PySem.W.Frag} {mg : Str → Option Value} {base : Heap} {T : Tp}

/-! ### _law_known -/
def spKnown (K : PySem.W.Frag) (T : Tp) : Sp := fun vs H Q _ => ∃ (h : V) (b : Addr) (ks : List V) (hist : List Pat) (knows : List Nm) (C : Addr → Bool), vs = [h, .ref b] ∧ HistAt K C H h hist ∧ HistOk hist ∧ SqL K H b ks ∧ DpAll K (cut C H) ks (knows.map eN) ∧ (∀ n ∈ knows, NmOk n) ∧ knows.length ≤ 100 ∧ Held C H ∧ TG T H ∧
  ∀ H' p xs, Go T D0 H H' → H p = none → H' p = some (.lst xs) → DpAll K (cut C H') xs ((knownIn hist knows).map eN) → Q (.ref p) H'
theorem ok_lknown {f : Addr} {fd : FuncData} {k : Nat} (F : Fun K "_law_known" "_law_known" sLKnown f fd) (M : Mg K mg) : FnOk P w K mg base CX0 (k + 1) f fd ["_law_history_here", "_law_knows"] (spKnown K T) := by
  refine F.ok scLKnown (fun vs H Q E h => ?_) (fun cdv A outer s H vs Q E hr h => ?_)
  · obtain ⟨h, b, ks, hist, knows, C, rfl, _⟩ := h
    rfl
  · obtain ⟨hv, b, ks, hist, knows, C, rfl, hh, hok, hb, hks, nok, klen, held, tg, q⟩ := h
    refine ⟨_, pss_cons (ps_set (i := 2) scLKnown.nd rfl (.inr rfl) (pe_callTy call_list_of (by rfl) M.list_ (by decide +kernel) (pa_cons (pv 1) pa_nil)))
      (pss_cons (ps_for PassesOwn.never rfl (pi_list (pe_revL (pv 0))) (pg_tup rfl (pgs_cons (pg_name (i := 3) scLKnown.nd rfl (.inl rfl)) (pgs_cons (pg_name (i := 4) scLKnown.nd rfl (.inl rfl)) (pgs_cons (pg_name (i := 5) scLKnown.nd rfl (.inl rfl)) pgs_nil))))
        (pss_one (ps_if (pt_cmpR (op_inD (units65 hr)) (pv 3) (pv 2) (by rfl))
          (pss_one (ps_set (i := 2) scLKnown.nd rfl (.inr rfl) (pe_op op_cat (pv 2) (pe_lc (own := [("_law_one", 6)]) (g := gName 6) rfl scLKnown.nd (pi_list (pv 4))
            (blkOk_by (N := ["_law_history_here", "_law_knows", "_law_found", "_law_name", "_law_own", "_law_deeds", "_law_one"]) (sc := defScope sLKnown) (by decide +kernel))
            (fun _ _ _ _ _ => pg_name (i := 6) scLKnown.nd rfl (Or.inl rfl))
            (fun _ _ _ _ _ => pts_one (pt_cmpR (show OpR _ _ (rNotInD K) from op_notInD (units65 hr)) (pv 6) (pv 2) (by rfl))) (fun _ _ _ _ _ => pv 6))))) pss_nil)))
      (pss_one (ps_ret (pv 2)))), ?_⟩
    obtain ⟨a, xs, rfl, hS, hD⟩ := hh
    have hlen : xs.reverse.length = hist.reverse.length := by rw [List.length_reverse, List.length_reverse, DpAll.len hD, List.length_map]
    refine ⟨.ref b, rfl, b, ks, rfl, .inl hb, fun p0 hp0 => ?_⟩
    have g0 : Go T D0 H (upd H p0 (.lst ks)) := (Go.rfl' tg).new hp0
    have e0 : (upd H p0 (.lst ks)) p0 = some (.lst ks) := upd_same
    generalize upd H p0 (.lst ks) = H0 at g0 e0 ⊢
    have subC : ∀ {H'}, Go T D0 H H' → Sub (cut C H) (cut C H') := fun g => (sub_go g tg).cuts
    have toH : ∀ {H'}, Go T D0 H H' → Sub (cut C H) H' := fun g => (subC g).trans Sub.cut
    refine ⟨.ref a, rfl, a, xs, rfl, g0.seqL tg (fun _ _ z => z) hS, fun r hr' => ?_⟩
    have g1 := g0.new (o := .lst xs.reverse) hr'
    have e1 := (upd_ne (o := .lst xs.reverse) (ne_of_none e0 hr')).trans e0
    have er : (upd H0 r (.lst xs.reverse)) r = some (.lst xs.reverse) := upd_same
    have fr : H r = none := g0.free tg (fun z => z) hr'
    generalize upd H0 r (.lst xs.reverse) = H1 at g1 e1 er ⊢
    refine ⟨r, rfl, ⟨_, .inl (.inl er)⟩, ?_⟩
    have hDr : DpAll K (cut C H) xs.reverse (hist.reverse.map eP) := by
      rw [List.map_reverse]
      exact hD.rev
    refine for_list (K := K) (a := r) (xs := xs.reverse) (fun i σ H2 => ∃ (p : Addr) (fs : List V) (y3 y4 y5 : Option V), σ = [some (.ref a), some (.ref b), some (.ref p), y3, y4, y5, none] ∧ Go T D0 H H2 ∧ H2 r = some (.lst xs.reverse) ∧ H p = none ∧ H2 p = some (.lst fs) ∧
      DpAll K (cut C H2) fs (((hist.reverse.take i).foldl knownStep knows).map eN)) ?_ ?_ ?_ ?_
    · exact ⟨p0, ks, _, _, _, rfl, g1, er, hp0, e1, Dp.subs (subC g1) _ _ hks⟩
    · rintro i σ H2 hi ⟨_, _, _, _, _, rfl, g, er2, _⟩
      exact .inl (.inl er2)
    · rintro i v σ H2 hv ⟨p, fs, y3, y4, y5, rfl, g, er2, hp, ep, hf⟩
      obtain ⟨d, hd, hv'⟩ := DpAll.at' hDr hv
      obtain ⟨pat, hpat, rfl⟩ := at_map hd
      have pm : pat ∈ hist := List.mem_reverse.mp (List.mem_of_getElem? hpat)
      obtain ⟨pok, psm⟩ := hok.each pat pm
      obtain ⟨av, _, rfl, sv, dv⟩ := Dp.tupI hv'
      obtain ⟨vn, vk, vd, rfl, dn, dk, dd⟩ := DpAll.i3 dv
      obtain ⟨ak, kv, rfl, sk, dks⟩ := Dp.lstI dk
      have klen' : kv.length = pat.knows.length := by rw [DpAll.len dks, List.length_map]
      have small' : ∀ p ∈ hist.reverse.take i, p.small := fun p m => (hok.each p (List.mem_reverse.mp (List.mem_of_mem_take m))).2
      have ok' : ∀ p ∈ hist.reverse.take i, p.ok := fun p m => (hok.each p (List.mem_reverse.mp (List.mem_of_mem_take m))).1
      have fok := knownIn_ok (hist := hist) nok (l := hist.reverse.take i) ok' (found := knows) nok
      have flen := knownIn_len (l := hist.reverse.take i) small' (found := knows)
      have l2 : (hist.reverse.take i).length ≤ 100 := by rw [List.length_take, List.length_reverse]; have := hok.len; omega
      have step : (hist.reverse.take (i + 1)).foldl knownStep knows = knownStep ((hist.reverse.take i).foldl knownStep knows) pat := fold_succ hpat
      generalize (hist.reverse.take i).foldl knownStep knows = found at hf fok flen step ⊢
      have l3 : fs.length = found.length := by rw [DpAll.len hf, List.length_map]
      have Lp : Dp K H2 (.ref p) (.list (found.map eN)) := .lst (.inl (.inl ep)) (Dp.subs Sub.cut _ _ hf)
      refine ⟨av, _, rfl, (toH g).seqT sv, rfl, _, _, rfl, _, _, rfl, _, _, rfl, rfl, ?_⟩
      refine ⟨vn, rfl, .ref p, rfl, eN pat.name, found.map eN, Dp.sub (toH g) _ _ dn, Lp, pok.name.sh, nms_sh fok, _, rfl, ite2 (fun e => ?_) (fun e => ?_)⟩
      · rw [eN_any] at e
        rw [show knownStep found pat = found ++ pat.knows.filter (fun n => decide (n ∉ found)) from if_pos (of_decide_eq_true e)] at step
        refine ⟨.ref p, rfl, .ref ak, rfl, ak, rfl, ⟨_, (toH g).seqL sk⟩, fun D hD' => ?_⟩
        have nDp : p ≠ D := ne_of_none ep hD'
        refine lc_list (K := K) (a := ak) (xs := kv) (fun n H3 => Go T D0 H2 H3 ∧ ∃ acc, H3 D = some (.lst acc) ∧ acc.length ≤ n ∧ DpAll K (cut C H2) acc (((pat.knows.take n).filter fun m => decide (m ∉ found)).map eN)) ?_ ?_ ?_ ?_
        · exact ⟨(Go.rfl' g.1).new hD', [], upd_same, Nat.le_refl _, .nil⟩
        · rintro n H3 hn ⟨g3, _⟩
          exact (toH (g.trans g3)).seqL sk
        · rintro n x H3 hx ⟨g3, acc, eD, hacc, hda⟩
          obtain ⟨d', hd', hx'⟩ := DpAll.at' dks hx
          obtain ⟨m, hm, rfl⟩ := at_map hd'
          have mok := pok.knows m (List.mem_of_getElem? hm)
          have Lp3 : Dp K H3 (.ref p) (.list (found.map eN)) := Dp.sub (sub_go g3 g.1) _ _ Lp
          have tk : (pat.knows.take (n + 1)).filter (fun m => decide (m ∉ found)) = (pat.knows.take n).filter (fun m => decide (m ∉ found)) ++ [m].filter (fun m => decide (m ∉ found)) := by
            rw [List.take_add_one, hm, List.filter_append]
            rfl
          have hn : n < kv.length := (List.getElem?_eq_some_iff.mp hx).1
          refine ⟨rfl, x, rfl, .ref p, rfl, eN m, found.map eN, Dp.sub (toH (g.trans g3)) _ _ hx', Lp3, mok.sh, nms_sh fok, _, rfl, ite2 (fun e3 => ?_) (fun e3 => ?_)⟩
          · have n3 : m ∉ found := by
              rw [eN_any] at e3
              intro z
              rw [decide_eq_true z] at e3
              cases e3
            refine ⟨x, rfl, acc, eD, small_line (by have := psm.knows; omega), g3.put hD' eD, acc ++ [x], upd_same, by rw [List.length_append]; show acc.length + 1 ≤ n + 1; omega, ?_⟩
            rw [tk, List.filter_cons_of_pos (by simpa using n3), List.filter_nil, List.map_append]
            exact hda.app (.one (Dp.sub (subC g) _ _ hx'))
          · have n3 : m ∈ found := by
              rw [eN_any] at e3
              have : ¬ (!decide (m ∈ found)) = true := e3
              simpa using this
            refine ⟨g3, acc, eD, by omega, ?_⟩
            rw [tk, List.filter_cons_of_neg (by simpa using n3), List.filter_nil, List.append_nil]
            exact hda
        · rintro H3 ⟨g3, acc, eD, hacc, hda⟩
          rw [klen', List.take_length] at hda
          have ep3 := g3.at g.1 (fun z => z) ep
          refine ⟨p, D, fs, acc, rfl, rfl, ep3, eD, small_le (by have := psm.knows; omega), fun q' hq => ?_⟩
          have g4 := (g.trans g3).new (o := .lst (fs ++ acc)) hq
          refine ⟨q', fs ++ acc, _, _, _, rfl, g4, ?_, (g.trans g3).free tg (fun z => z) hq, upd_same, ?_⟩
          · have er3 := g3.at g.1 (fun z => z) er2
            exact (upd_ne (ne_of_none er3 hq)).trans er3
          · rw [step, List.map_append]
            have s4 : Sub (cut C H2) (cut C (upd H3 q' (.lst (fs ++ acc)))) := ((sub_go g3 g.1).trans (Sub.new hq)).cuts
            exact DpAll.app (Dp.subs s4 _ _ hf) (Dp.subs s4 _ _ hda)
      · rw [eN_any] at e
        rw [show knownStep found pat = found from if_neg (fun z => e (decide_eq_true z))] at step
        refine ⟨p, fs, _, _, _, rfl, g, er2, hp, ep, ?_⟩
        rw [step]
        exact hf
    · rintro σ H2 ⟨p, fs, y3, y4, y5, rfl, g, er2, hp, ep, hf⟩
      rw [hlen, List.take_length] at hf
      exact ⟨.ref p, rfl, q H2 p fs g hp ep hf⟩
end
end K1
set_option Elab.async false
set_option linter.all false
set_option maxRecDepth 100000
set_option maxHeartbeats 4000000
/-! The law's defs: a drawn deed. -/
namespace K1
open PySem PySem.Spec PyProof.Rows L2

theorem Go.dig {T : Tp} {D : Addr → Prop} {H H' : Hp} {d : Addr} {kvs : List (Key × V)} (t : TG T H) (hd : H d = some (.dK kvs)) (sm : ∀ x o, x ≠ d → H x = some o → H' x = some o) (dd : D d) : Go T D H H' := by
  have ne := t.neW hd (by intro ps z; cases z)
  refine ⟨fun P hP => ?_, fun b o _ h3 e => sm b o (fun z => h3 (by rw [z]; exact dd)) e⟩
  obtain ⟨ps, e, r⟩ := t P hP
  exact ⟨ps, sm _ _ (fun z => ne (z ▸ hP)) e, r⟩
theorem Go.drop {T : Tp} {H H' : Hp} {d : Addr} (g : Go T (· = d) H H') (h : H d = none) : Go T D0 H H' :=
  ⟨g.1, fun b o h1 _ e => g.2 b o h1 (ne_of_none e h) e⟩
theorem sub_god {T : Tp} {H H' : Hp} {d : Addr} {kvs : List (Key × V)} (g : Go T (· = d) H H') (t : TG T H) (h : H d = some (.dK kvs)) : Sub H H' := Sub.go g t fun a z xs => by
  subst z
  rw [h]
  refine ⟨fun z => ?_, fun z => ?_, fun u => ⟨fun z => ?_, fun z => ?_⟩⟩ <;> cases z
/-- the drawing state -/
def St (H : Hp) (d : Addr) : Prop := ∃ a b : Int, 0 ≤ a ∧ 0 ≤ b ∧ H d = some (.dK (stD a b))
theorem St.new {H : Hp} {d p : Addr} {o : HO} (s : St H d) (h : H p = none) : St (upd H p o) d := by
  obtain ⟨a, b, h1, h2, e⟩ := s
  exact ⟨a, b, h1, h2, (upd_ne (ne_of_none e h)).trans e⟩
theorem St.put {H : Hp} {d p : Addr} {o u : HO} (s : St H d) (h : H p = some u) (hu : ∀ k, u ≠ .dK k := by intro k z; cases z) : St (upd H p o) d := by
  obtain ⟨a, b, h1, h2, e⟩ := s
  refine ⟨a, b, h1, h2, (upd_ne ?_).trans e⟩
  rintro rfl
  rw [e] at h
  exact hu _ (Option.some.inj h).symm
theorem St.go {T : Tp} {H H' : Hp} {d : Addr} (s : St H d) (g : Go T D0 H H') (t : TG T H) : St H' d := by
  obtain ⟨a, b, h1, h2, e⟩ := s
  exact ⟨a, b, h1, h2, g.at t (fun z => z) e⟩
theorem St.sub {T : Tp} {H H' : Hp} {d : Addr} (s : St H d) (g : Go T (· = d) H H') (t : TG T H) : Sub H H' := by
  obtain ⟨a, b, h1, h2, e⟩ := s
  exact sub_god g t e
theorem St.ne {H : Hp} {d p : Addr} {u : HO} (s : St H d) (h : H p = some u) (hu : ∀ k, u ≠ .dK k := by intro k z; cases z) : ¬ p = d := by
  obtain ⟨a, b, h1, h2, e⟩ := s
  rintro rfl
  rw [e] at h
  exact hu _ (Option.some.inj h).symm
theorem freeD {T : Tp} {H H' : Hp} {d p : Addr} (g : Go T (· = d) H H') (t : TG T H) (s : St H' d) (h : H' p = none) : H p = none := g.free t (by
  rintro rfl
  obtain ⟨a, b, _, _, e⟩ := s
  rw [h] at e
  cases e) h
theorem headL_ne_foot : headL ≠ footL := by
  intro z
  have : (0 : Int) = 1 := congrArg (fun l : Ln => l.2.2) z
  cases this
theorem LnOk.ne_foot {l : Ln} (h : LnOk l) : l ≠ footL := by
  rintro rfl
  have := h.1.1
  revert this
  decide +kernel
/-- a digit drawn: what the def's promise gives, in one word -/
theorem dg {T : Tp} {H : Hp} {d : Addr} {m : Int} {kvs : List (Key × V)} {R : Int → Hp → Prop} (t : TG T H) (e : H d = some (.dK kvs)) (q : ∀ r H', 0 ≤ r → r < m → Go T (· = d) H H' → St H' d → R r H') :
    ∀ r a' b' H', 0 ≤ r → r < m → 0 ≤ a' → 0 ≤ b' → H' d = some (.dK (stD a' b')) → (∀ x o, x ≠ d → H x = some o → H' x = some o) → R r H' :=
  fun r a' b' H' r0 r1 ha hb hd sm => q r H' r0 r1 (Go.dig t e sm rfl) ⟨a', b', ha, hb, hd⟩
/-- the rest of two branches, told once -/
theorem twice {A G : Hp → Prop} {P : Prop} (h : ∀ H2, A H2 → G H2) (use : (∀ H2, A H2 → G H2) → P) : P := use h
theorem atI_int {α : Type} {xs : List α} {j : Int} (h0 : 0 ≤ j) (h1 : j < xs.length) : ∃ x, xs[j.toNat]? = some x ∧ atI xs j = some x := by
  have hj : j.toNat < xs.length := by omega
  refine ⟨xs[j.toNat], List.getElem?_eq_getElem hj, ?_⟩
  have := atI_nat (xs := xs) (j := j.toNat) (List.getElem?_eq_getElem hj)
  rwa [show ((j.toNat : Nat) : Int) = j by omega] at this

def menuT : List Str := ["a", "b", "", "c c"]
/-- a deed drawn out of good lines -/
inductive DeedFrom (goods : List Ln) : Deed → Prop
  | put (a b : Ln) (ts : List Str) (ha : a = headL ∨ a ∈ goods) (hb : b = footL ∨ b ∈ goods) (ne : a ≠ b) (h0 : 1 ≤ ts.length) (h1 : ts.length ≤ 3) (ht : ∀ t ∈ ts, t ∈ menuT) : DeedFrom goods (.put a b ts)
  | order (a b : Ln) (ha : a ∈ goods) (hb : b ∈ goods) (ne : a ≠ b) : DeedFrom goods (.order a b)
  | one (k : Bool) (a : Ln) (ha : a ∈ goods) : DeedFrom goods (.one k a)

section
variable {P : Program} {w : World} {K : PySem.W.Frag} {mg : Str → Option Value} {base : Heap} {T : Tp}

def spDeed (K : PySem.W.Frag) (T : Tp) : Sp := fun vs H Q _ => ∃ (d l : Addr) (gs : List V) (goods : List Ln) (C : Addr → Bool), vs = [.ref d, .ref l] ∧ St H d ∧ H l = some (.lst gs) ∧ DpAll K (cut C H) gs (goods.map eL) ∧ (∀ g ∈ goods, LnOk g) ∧ goods.length ≤ 5000 ∧ Held C H ∧ TG T H ∧
  ∀ H' v deed, Go T (· = d) H H' → St H' d → Dp K (cut C H') v (eD deed) → DeedFrom goods deed → Q v H'
theorem ok_ldeed {f : Addr} {fd : FuncData} {k : Nat} (F : Fun K "_law_deed" "_law_deed" sLDeed f fd) (M : Mg K mg) (cD : Cal P w K mg base k "_law_digit" ["_law_state", "_law_many"] spDigit) : FnOk P w K mg base CX0 (k + 1) f fd ["_law_state", "_law_goods"] (spDeed K T) := by
  refine F.ok scLDeed (fun vs H Q E h => ?_) (fun cdv A outer s H vs Q E hr h => ?_)
  · obtain ⟨d, l, gs, goods, C, rfl, _⟩ := h
    rfl
  · obtain ⟨d, l, gs, goods, C, rfl, st, hl, hgs, gok, glen, held, tg, q⟩ := h
    refine ⟨_, (pss_cons (ps_set (i := 2) scLDeed.nd rfl (.inl rfl) (pe_cal cD hr (by rfl) (pa_cons (pv 0) (pa_cons pe_int pa_nil))))
      (pss_cons (ps_if (PW.pt (pw_or (pt_cmpR op_lt (pv 2) pe_int (nomark _)) (pw_or1 (pt_cmpR (op_eqD hr.units) (pv 1) (pe_lst pa_nil) (nomark _)))))
      (pss_cons (ps_set (i := 3) scLDeed.nd rfl (.inl rfl) (pe_ix ix_list (pe_op op_cat (pe_lst (pa_cons (pe_tup (pa_cons pe_str (pa_cons pe_int (pa_cons pe_int pa_nil)))) pa_nil)) (pv 1)) (pe_cal cD hr (by rfl) (pa_cons (pv 0) (pa_cons (pe_op op_add (pe_callB call_len_seq (by rfl) M.len_ PySem.boot_len (pa_cons (pv 1) pa_nil)) pe_int) pa_nil))) (fun _ _ => rfl)))
      (pss_cons (ps_set (i := 4) scLDeed.nd rfl (.inl rfl) (pe_ix ix_list (pe_op op_cat (pv 1) (pe_lst (pa_cons (pe_tup (pa_cons pe_str (pa_cons pe_int (pa_cons pe_int pa_nil)))) pa_nil))) (pe_cal cD hr (by rfl) (pa_cons (pv 0) (pa_cons (pe_op op_add (pe_callB call_len_seq (by rfl) M.len_ PySem.boot_len (pa_cons (pv 1) pa_nil)) pe_int) pa_nil))) (fun _ _ => rfl)))
      (pss_cons (ps_set (i := 6) scLDeed.nd rfl (.inl rfl) (pe_callTy call_tuple_of (by rfl) M.tuple_ (by decide +kernel) (pa_cons (pe_lc (own := [("_law_k", 5)]) (g := gName 5) (tt := tYes) rfl scLDeed.nd (pi_range1 (by rfl) M.range_ (pa_cons (pe_op op_add pe_int (pe_cal cD hr (by rfl) (pa_cons (pv 0) (pa_cons pe_int pa_nil)))) pa_nil)) (blkOk_by (N := ["_law_state", "_law_goods", "_law_kind", "_law_above", "_law_below", "_law_k", "_law_texts", "_law_one", "_law_line", "_law_others"]) (sc := defScope sLDeed) (by decide +kernel)) (fun _ _ _ _ _ => (pg_name (i := 5) scLDeed.nd rfl (Or.inl rfl))) (fun _ _ _ _ _ => pts_nil) (fun _ _ _ _ _ => (pe_ix (show IxR _ (rIxL K) from ix_list) (pe_lst (pa_cons pe_str (pa_cons pe_str (pa_cons pe_str (pa_cons pe_str pa_nil))))) (pe_cal cD hr (by rfl) (pa_cons (pv 0) (pa_cons pe_int pa_nil))) (fun _ _ => rfl)))) pa_nil)))
      (pss_one (ps_ret (pe_tup (pa_cons pe_str (pa_cons (pv 3) (pa_cons (pe_ifExp (pt_cmpR (op_neD hr.units) (pv 4) (pv 3) (nomark _)) (pv 4) (pe_tup (pa_cons pe_str (pa_cons pe_int (pa_cons pe_int pa_nil))))) (pa_cons (pv 6) pa_nil))))))))))
      pss_nil)
      (pss_cons (ps_set (i := 7) scLDeed.nd rfl (.inr rfl) (pe_ix ix_list (pv 1) (pe_cal cD hr (by rfl) (pa_cons (pv 0) (pa_cons (pe_callB call_len_seq (by rfl) M.len_ PySem.boot_len (pa_cons (pv 1) pa_nil)) pa_nil))) (fun _ _ => rfl)))
      (pss_cons (ps_setLc (i := 9) (own := [("_law_line", 8)]) (g := gName 8) rfl scLDeed.nd rfl rfl (sw_true rfl rfl rfl (by decide +kernel)) (pi_list (pv 1)) (blkOk_by (N := ["_law_state", "_law_goods", "_law_kind", "_law_above", "_law_below", "_law_k", "_law_texts", "_law_one", "_law_line", "_law_others"]) (sc := defScope sLDeed) (by decide +kernel)) (fun _ _ _ _ _ => (pg_name (i := 8) scLDeed.nd rfl (Or.inl rfl))) (fun _ _ _ _ _ => (pts_one (pt_cmpR (show OpR _ _ (rNeD K) from op_neD hr.units) (pv 8) (pv 7) (nomark _)))) (fun _ _ _ _ _ => (pv 8)))
      (pss_cons (ps_if (PW.pt (pw_and (pt_cmpR op_eq (pv 2) pe_int (nomark _)) (pw_and1 (pt_cmpR (op_neD hr.units) (pv 9) (pe_lst pa_nil) (nomark _)))))
      (pss_one (ps_ret (pe_tup (pa_cons pe_str (pa_cons (pv 7) (pa_cons (pe_ix ix_list (pv 9) (pe_cal cD hr (by rfl) (pa_cons (pv 0) (pa_cons (pe_callB call_len_seq (by rfl) M.len_ PySem.boot_len (pa_cons (pv 9) pa_nil)) pa_nil))) (fun _ _ => rfl)) pa_nil))))))
      pss_nil)
      (pss_one (ps_ret (pe_tup (pa_cons (pe_ix ix_list (pe_lst (pa_cons pe_str (pa_cons pe_str pa_nil))) (pe_op op_mod (pv 2) pe_int) (fun _ _ => rfl)) (pa_cons (pv 7) pa_nil)))))))))), ?_⟩
    have toG : ∀ {H'}, Go T (· = d) H H' → Sub H H' := fun g => st.sub g tg
    have goL : ∀ {H'}, Go T (· = d) H H' → H' l = some (.lst gs) := fun g => g.at tg (st.ne hl) hl
    have gsl : gs.length = goods.length := by rw [DpAll.len hgs, List.length_map]
    have gdp : ∀ {H'}, Go T (· = d) H H' → DpAll K (cut C H') gs (goods.map eL) := fun g => Dp.subs (toG g).cuts _ _ hgs
    have gsh : SeqAt.shaped (.list (goods.map eL)) = true := by
      refine shaped_of ?_ ?_
      · simp only [PyData.canLay0]
        exact layAll fun n m => eL_lay (handOk (gok n m).1.1).1
      · have := depAll (f := eL) (n := 1) (l := goods) fun n _ => by rw [eL_dep]; exact Nat.le_refl _
        simp only [PyData.depth]
        omega
    have gD : ∀ {H'}, Go T (· = d) H H' → Dp K H' (.ref l) (.list (goods.map eL)) := fun g => .lst (.inl (.inl (goL g))) (Dp.subs Sub.cut _ _ (gdp g))
    have nilsh : SeqAt.shaped (.list []) = true := rfl
    have nil_eqv : PyData.eqv (.list (goods.map eL)) (.list []) = goods.isEmpty := by
      cases goods with
      | nil => rfl
      | cons x r => simp [PyData.eqv, PyData.eqvAll]
    obtain ⟨a0, b0, p0, p1, ed⟩ := _root_.id st
    refine ⟨.ref d, rfl, d, a0, b0, 5, rfl, ed, p0, p1, by decide, by decide, dg tg ed fun kd H1 k0 k1 g1 s1 => ?_⟩
    refine twice (A := fun H2 => Go T (· = d) H H2 ∧ St H2 d) ?put (fun put => ⟨.int kd, rfl, kd, 2, rfl, rfl, _, rfl, ite2 (fun e => iteT (put H1 ⟨g1, s1⟩)) (fun e => ⟨.ref l, rfl, Nat.zero_le _, fun t ht => ?_⟩)⟩)
    case put =>
      rintro H2 ⟨g2, s2⟩
      have sm3 : 3 ≤ sizeLine := small_le (by decide)
      have sm1 : 1 ≤ sizeLine := small_le (by decide)
      have glen' : gs.length ≤ 5000 := by omega
      -- above
      refine ⟨sm3, fun th hth => ⟨sm1, fun p hp => ⟨.ref l, rfl, p, l, _, gs, rfl, rfl, upd_same, ?el, small_le (by show 1 + gs.length ≤ 10000; omega), fun z hz => ?_⟩⟩⟩
      case el => exact goL ((g2.new hth).new hp)
      have g3 := ((g2.new hth).new hp).new (o := .lst ([V.ref th] ++ gs)) hz
      have s3 := ((s2.new hth).new hp).new (o := .lst ([V.ref th] ++ gs)) hz
      have n1 : th ≠ p := ne_of_none upd_same hp
      have eth : (upd (upd (upd H2 th (.tup [V.str "", .int 0, .int 0])) p (.lst [V.ref th])) z (.lst ([V.ref th] ++ gs))) th = some (.tup [V.str "", .int 0, .int 0]) := by
        rw [upd_ne (ne_of_none ((upd_ne n1).trans upd_same) hz), upd_ne n1, upd_same]
      have ez : (upd (upd (upd H2 th (.tup [V.str "", .int 0, .int 0])) p (.lst [V.ref th])) z (.lst ([V.ref th] ++ gs))) z = some (.lst (V.ref th :: gs)) := upd_same
      have Cth : C th = false := held.no (freeD g2 tg s2 hth)
      generalize upd (upd (upd H2 th (.tup [V.str "", .int 0, .int 0])) p (.lst [V.ref th])) z (.lst ([V.ref th] ++ gs)) = H3 at g3 s3 eth ez ⊢
      have d3 : DpAll K (cut C H3) (V.ref th :: gs) ((headL :: goods).map eL) := .cons (.tup (.inl (.inl ((cut_at Cth).trans eth))) (.cons (.str _) (.cons (.int _) (.cons (.int _) .nil)))) (gdp g3)
      obtain ⟨a3, b3, p3, q3, ed3⟩ := _root_.id s3
      refine ⟨.ref d, rfl, .ref l, rfl, l, gs, rfl, .inl (.inl (.inl (goL g3))), _, 1, rfl, rfl, d, a3, b3, (gs.length : Int) + 1, rfl, ed3, p3, q3, by omega, by omega, dg g3.1 ed3 fun ra H4 ra0 ra1 g34 s4 => ?_⟩
      obtain ⟨xa, hxa, hata⟩ := atI_int (xs := V.ref th :: gs) (j := ra) ra0 (by rw [List.length_cons]; omega)
      obtain ⟨da, hda, dpa⟩ := DpAll.at' d3 hxa
      obtain ⟨la, hla, rfl⟩ := at_map hda
      have memA : la = headL ∨ la ∈ goods := List.mem_cons.mp (List.mem_of_getElem? hla)
      have g4 := g3.trans g34
      have dpa4 := Dp.sub (s3.sub g34 g3.1).cuts _ _ dpa
      have ez4 := g34.at g3.1 (s3.ne ez) ez
      refine ⟨z, _, ra, xa, rfl, rfl, .inl (.inl ez4), hata, ?_⟩
      -- below
      refine ⟨.ref l, rfl, sm3, fun tf htf => ⟨sm1, fun p' hp' => ⟨l, p', gs, _, rfl, rfl, ?el, upd_same, small_le (by show gs.length + 1 ≤ 10000; omega), fun z' hz' => ?_⟩⟩⟩
      case el => exact goL ((g4.new htf).new hp')
      have g5 := ((g4.new htf).new hp').new (o := .lst (gs ++ [V.ref tf])) hz'
      have s5 := ((s4.new htf).new hp').new (o := .lst (gs ++ [V.ref tf])) hz'
      have n5 : tf ≠ p' := ne_of_none upd_same hp'
      have etf : (upd (upd (upd H4 tf (.tup [V.str "", .int 0, .int 1])) p' (.lst [V.ref tf])) z' (.lst (gs ++ [V.ref tf]))) tf = some (.tup [V.str "", .int 0, .int 1]) := by
        rw [upd_ne (ne_of_none ((upd_ne n5).trans upd_same) hz'), upd_ne n5, upd_same]
      have ez' : (upd (upd (upd H4 tf (.tup [V.str "", .int 0, .int 1])) p' (.lst [V.ref tf])) z' (.lst (gs ++ [V.ref tf]))) z' = some (.lst (gs ++ [V.ref tf])) := upd_same
      have Ctf : C tf = false := held.no (freeD g4 tg s4 htf)
      have dpa5 := Dp.sub ((Sub.new htf).trans ((Sub.new hp').trans (Sub.new (o := .lst (gs ++ [V.ref tf])) hz'))).cuts _ _ dpa4
      generalize upd (upd (upd H4 tf (.tup [V.str "", .int 0, .int 1])) p' (.lst [V.ref tf])) z' (.lst (gs ++ [V.ref tf])) = H5 at g5 s5 etf ez' dpa5 ⊢
      have d5 : DpAll K (cut C H5) (gs ++ [V.ref tf]) ((goods ++ [footL]).map eL) := by
        rw [List.map_append]
        exact (gdp g5).app (.one (.tup (.inl (.inl ((cut_at Ctf).trans etf))) (.cons (.str _) (.cons (.int _) (.cons (.int _) .nil)))))
      obtain ⟨a5, b5, p5, q5, ed5⟩ := _root_.id s5
      refine ⟨.ref d, rfl, .ref l, rfl, l, gs, rfl, .inl (.inl (.inl (goL g5))), _, 1, rfl, rfl, d, a5, b5, (gs.length : Int) + 1, rfl, ed5, p5, q5, by omega, by omega, dg g5.1 ed5 fun rb H6 rb0 rb1 g56 s6 => ?_⟩
      obtain ⟨xb, hxb, hatb⟩ := atI_int (xs := gs ++ [V.ref tf]) (j := rb) rb0 (by rw [List.length_append]; show rb < ((gs.length + 1 : Nat) : Int); omega)
      obtain ⟨db, hdb, dpb⟩ := DpAll.at' d5 hxb
      obtain ⟨lb, hlb, rfl⟩ := at_map hdb
      have memB : lb = footL ∨ lb ∈ goods := by
        rcases List.mem_append.mp (List.mem_of_getElem? hlb) with h | h
        · exact .inr h
        · exact .inl (List.mem_singleton.mp h)
      have g6 := g5.trans g56
      have dpa6 := Dp.sub (s5.sub g56 g5.1).cuts _ _ dpa5
      have dpb6 := Dp.sub (s5.sub g56 g5.1).cuts _ _ dpb
      have ez6 := g56.at g5.1 (s5.ne ez') ez'
      refine ⟨z', _, rb, xb, rfl, rfl, .inl (.inl ez6), hatb, ?_⟩
      -- texts
      obtain ⟨a6, b6, p6, q6, ed6⟩ := _root_.id s6
      refine ⟨.ref d, rfl, d, a6, b6, 3, rfl, ed6, p6, q6, by decide, by decide, dg g6.1 ed6 fun rt H7 rt0 rt1 g67 s7 => ?_⟩
      have g7 := g6.trans g67
      have dpa7 := Dp.sub (s6.sub g67 g6.1).cuts _ _ dpa6
      have dpb7 := Dp.sub (s6.sub g67 g6.1).cuts _ _ dpb6
      refine ⟨1, rt, rfl, rfl, 1 + rt, rfl, by omega, by omega, fun D hD => ?_⟩
      refine lc_range (lo := 0) (n := (1 + rt).toNat) (fun i H8 => ∃ ts : List Str, Go T (· = d) H7 H8 ∧ St H8 d ∧ H8 D = some (.lst (ts.map V.str)) ∧ ts.length = i ∧ ∀ t ∈ ts, t ∈ menuT) ?_ ?_ ?_
      · exact ⟨[], (Go.rfl' g7.1).new hD, s7.new hD, upd_same, rfl, by simp⟩
      · rintro i H8 hi ⟨ts, g8, s8, eD, hts, hmt⟩
        refine ⟨rfl, small_le (by decide), fun m hm => ?_⟩
        have g9 := g8.new (o := .lst [V.str "a", .str "b", .str "", .str "c c"]) hm
        have s9 := s8.new (o := .lst [V.str "a", .str "b", .str "", .str "c c"]) hm
        have eD9 := (upd_ne (o := .lst [V.str "a", .str "b", .str "", .str "c c"]) (ne_of_none eD hm)).trans eD
        have em : (upd H8 m (.lst [V.str "a", .str "b", .str "", .str "c c"])) m = some (.lst (menuT.map V.str)) := upd_same
        generalize upd H8 m (.lst [V.str "a", .str "b", .str "", .str "c c"]) = H9 at g9 s9 eD9 em ⊢
        obtain ⟨a9, b9, p9, q9, ed9⟩ := _root_.id s9
        refine ⟨.ref d, rfl, d, a9, b9, 4, rfl, ed9, p9, q9, by decide, by decide, dg g9.1 ed9 fun rm H10 rm0 rm1 g910 s10 => ?_⟩
        obtain ⟨t, ht, hatm⟩ := atI_int (xs := menuT) (j := rm) rm0 rm1
        have hatv : atI (menuT.map V.str) rm = some (.str t) := by
          have := atI_nat (xs := menuT.map V.str) (j := rm.toNat) (v := .str t) (by rw [List.getElem?_map, ht]; rfl)
          rwa [show ((rm.toNat : Nat) : Int) = rm by omega] at this
        have eD10 := g910.at g9.1 (s9.ne eD9) eD9
        refine ⟨m, _, rm, .str t, rfl, rfl, .inl (.inl (g910.at g9.1 (s9.ne em) em)), hatv, ts.map V.str, eD10, small_line (by rw [List.length_map, hts]; omega), ?_⟩
        refine ⟨ts ++ [t], (g9.trans g910).put hD eD10, s10.put eD10, by rw [upd_same, List.map_append]; rfl, by rw [List.length_append, hts]; rfl, fun u hu => ?_⟩
        rcases List.mem_append.mp hu with h | h
        · exact hmt u h
        · rw [List.mem_singleton.mp h]
          exact List.mem_of_getElem? ht
      · rintro H8 ⟨ts, g8, s8, eD, hts, hmt⟩
        have g08 := g7.trans g8
        have dpa8 := Dp.sub (s7.sub g8 g7.1).cuts _ _ dpa7
        have dpb8 := Dp.sub (s7.sub g8 g7.1).cuts _ _ dpb7
        refine ⟨D, _, rfl, .inl ⟨.inl (.inl eD), fun tt htt => ?_⟩⟩
        have g9 := g08.new (o := .tup (ts.map V.str)) htt
        have s9 := s8.new (o := .tup (ts.map V.str)) htt
        have ett : (upd H8 tt (.tup (ts.map V.str))) tt = some (.tup (ts.map V.str)) := upd_same
        have Ctt : C tt = false := held.no (freeD g08 tg s8 htt)
        have dpa9 := Dp.sub (Sub.new (o := .tup (ts.map V.str)) htt).cuts _ _ dpa8
        have dpb9 := Dp.sub (Sub.new (o := .tup (ts.map V.str)) htt).cuts _ _ dpb8
        generalize upd H8 tt (.tup (ts.map V.str)) = H9 at g9 s9 ett dpa9 dpb9 ⊢
        have dstrs : ∀ {H'} (ts : List Str), DpAll K H' (ts.map V.str) (ts.map PyData.str) := by
          intro H' ts
          induction ts with
          | nil => exact .nil
          | cons t r ih => exact .cons (.str t) ih
        have fin : ∀ H' xc lc, Go T (· = d) H H' → St H' d → H' tt = some (.tup (ts.map V.str)) → Dp K (cut C H') xa (eL la) → Dp K (cut C H') xc (eL lc) → (lc = footL ∨ lc ∈ goods) → la ≠ lc → ∀ v, H' v = none → Q (.ref v) (upd H' v (.tup [V.str "put", xa, xc, .ref tt])) := by
          intro H' xc lc g' s' et' dpa' dpc' hc hne v hv
          have Cv : C v = false := held.no (freeD g' tg s' hv)
          have nv : tt ≠ v := ne_of_none et' hv
          refine q _ _ (.put la lc ts) (g'.new hv) (s'.new hv) ?_ (.put la lc ts memA hc hne (by omega) (by omega) hmt)
          refine .tup (xs := [V.str "put", xa, xc, .ref tt]) (.inl (.inl ((cut_at Cv).trans upd_same))) (.cons (.str _) (.cons (Dp.sub (Sub.new hv).cuts _ _ dpa') (.cons (Dp.sub (Sub.new hv).cuts _ _ dpc') (.one (.tup (.inl (.inl ((cut_at Ctt).trans ((upd_ne nv).trans et')))) (dstrs ts))))))
        have strA : PyData.strOk la.1 = true := by
          rcases memA with rfl | h
          · decide +kernel
          · exact (handOk (gok la h).1.1).1
        have strB : PyData.strOk lb.1 = true := by
          rcases memB with rfl | h
          · decide +kernel
          · exact (handOk (gok lb h).1.1).1
        have neF : la ≠ footL := by
          rcases memA with rfl | h
          · exact headL_ne_foot
          · exact (gok la h).ne_foot
        refine ⟨xa, rfl, xb, rfl, xa, rfl, eL lb, eL la, dp_cut dpb9, dp_cut dpa9, eL_sh strB, eL_sh strA, _, rfl, ?_⟩
        rw [eL_eqv]
        refine ite2 (fun e => ?_) (fun e => ?_)
        · have ne : ¬ lb = la := by simpa using e
          exact ⟨xb, rfl, .ref tt, rfl, small_le (by show 4 ≤ 10000; decide), fin H9 xb lb g9 s9 ett dpa9 dpb9 memB (fun z => ne z.symm)⟩
        · refine ⟨sm3, fun tf2 htf2 => ⟨.ref tt, rfl, small_le (by show 4 ≤ 10000; decide), ?_⟩⟩
          have C2 : C tf2 = false := held.no (freeD g9 tg s9 htf2)
          exact fin _ (.ref tf2) footL (g9.new htf2) (s9.new htf2) ((upd_ne (ne_of_none ett htf2)).trans ett) (Dp.sub (Sub.new htf2).cuts _ _ dpa9)
            (.tup (xs := [V.str "", .int 0, .int 1]) (.inl (.inl ((cut_at C2).trans upd_same))) (.cons (.str _) (.cons (.int _) (.cons (.int _) .nil)))) (.inl rfl) neF
    have g2 : Go T (· = d) H (upd H1 t (.lst [])) := g1.new ht
    have s2 : St (upd H1 t (.lst [])) d := s1.new ht
    refine ⟨_, _, gD g2, .lst (xs := []) (.inl (.inl upd_same)) .nil, gsh, nilsh, _, rfl, ?_⟩
    rw [nil_eqv]
    refine ite2 (fun e2 => put _ ⟨g2, s2⟩) (fun e2 => ?_)
    generalize upd H1 t (.lst []) = H2 at g2 s2 ⊢
    have gpos : 0 < gs.length := by
      rw [gsl]
      cases goods with
      | nil => exact absurd rfl e2
      | cons x r => exact Nat.succ_pos _
    have kd2 : 2 ≤ kd := by
      have : ¬ kd < 2 := of_decide_eq_false (Bool.eq_false_iff.mpr e)
      omega
    -- one
    obtain ⟨a2, b2, p2, q2, ed2⟩ := _root_.id s2
    refine ⟨.ref l, rfl, .ref d, rfl, .ref l, rfl, l, gs, rfl, .inl (.inl (.inl (goL g2))), d, a2, b2, (gs.length : Int), rfl, ed2, p2, q2, by omega, by omega, dg g2.1 ed2 fun r1 H3 r10 r11 g23 s3 => ?_⟩
    obtain ⟨x1, hx1, hat1⟩ := atI_int (xs := gs) (j := r1) r10 r11
    have g3 := g2.trans g23
    obtain ⟨d1, hd1, dp1⟩ := DpAll.at' (gdp g3) hx1
    obtain ⟨l1, hl1, rfl⟩ := at_map hd1
    have m1 : l1 ∈ goods := List.mem_of_getElem? hl1
    have str1 : PyData.strOk l1.1 = true := (handOk (gok l1 m1).1.1).1
    refine ⟨l, gs, r1, x1, rfl, rfl, .inl (.inl (goL g3)), hat1, ?_⟩
    -- others
    refine ⟨.ref l, rfl, l, rfl, ⟨gs, .inl (.inl (goL g3))⟩, fun D hD => ?_⟩
    have dl1 : ∀ {H4}, Go T D0 H3 H4 → Dp K (cut C H4) x1 (eL l1) := fun g4 => Dp.sub (sub_go g4 g3.1).cuts _ _ dp1
    refine lc_list (K := K) (a := l) (xs := gs) (fun i H4 => Go T D0 H3 H4 ∧ ∃ acc, H4 D = some (.lst acc) ∧ acc.length ≤ i ∧ DpAll K (cut C H3) acc (((goods.take i).filter fun m => decide (m ≠ l1)).map eL)) ?_ ?_ ?_ ?_
    · exact ⟨(Go.rfl' g3.1).new hD, [], upd_same, Nat.le_refl _, .nil⟩
    · rintro i H4 hi ⟨g4, _⟩
      exact g4.seqL g3.1 (fun _ _ z => z) (.inl (.inl (goL g3)))
    · rintro i x H4 hx ⟨g4, acc, eD, hacc, hda⟩
      obtain ⟨d', hd', hx'⟩ := DpAll.at' (gdp g3) hx
      obtain ⟨m, hm, rfl⟩ := at_map hd'
      have mm := List.mem_of_getElem? hm
      have hi : i < gs.length := (List.getElem?_eq_some_iff.mp hx).1
      have tk : (goods.take (i + 1)).filter (fun m => decide (m ≠ l1)) = (goods.take i).filter (fun m => decide (m ≠ l1)) ++ [m].filter (fun m => decide (m ≠ l1)) := by
        rw [List.take_add_one, hm, List.filter_append]
        rfl
      refine ⟨rfl, x, rfl, x1, rfl, eL m, eL l1, dp_cut (Dp.sub (sub_go g4 g3.1).cuts _ _ hx'), dp_cut (dl1 g4), eL_sh (handOk (gok m mm).1.1).1, eL_sh str1, _, rfl, ?_⟩
      rw [eL_eqv]
      refine ite2 (fun e3 => ?_) (fun e3 => ?_)
      · have n3 : m ≠ l1 := by simpa using e3
        refine ⟨x, rfl, acc, eD, small_line (by omega), g4.put hD eD, acc ++ [x], upd_same, by rw [List.length_append]; show acc.length + 1 ≤ i + 1; omega, ?_⟩
        rw [tk, List.filter_cons_of_pos (by simpa using n3), List.filter_nil, List.map_append]
        exact hda.app (.one hx')
      · have n3 : m = l1 := by simpa using e3
        refine ⟨g4, acc, eD, by omega, ?_⟩
        rw [tk, List.filter_cons_of_neg (by simpa using n3), List.filter_nil, List.append_nil]
        exact hda
    · rintro H4 ⟨g4, acc, eD, hacc, hda⟩
      rw [gsl, List.take_length] at hda
      have g04 : Go T (· = d) H H4 := g3.trans g4.up
      have s4 : St H4 d := s3.go g4 g3.1
      refine twice (A := fun H5 => Go T D0 H4 H5) ?rest (fun rest => ⟨.int kd, rfl, rfl, _, rfl, ite2 (fun e4 => ⟨.ref D, rfl, Nat.zero_le _, fun t2 ht2 => ?_⟩) (fun e4 => iteF (rest H4 (Go.rfl' g4.1)))⟩)
      case rest =>
        intro H5 g5
        refine ⟨small_le (by decide), fun m hm => ?_⟩
        have g6 := g5.new (o := .lst [V.str "cut", .str "keep"]) hm
        have em : (upd H5 m (.lst [V.str "cut", .str "keep"])) m = some (.lst [V.str "cut", .str "keep"]) := upd_same
        generalize upd H5 m (.lst [V.str "cut", .str "keep"]) = H6 at g6 em ⊢
        have two : ∃ k : Bool, atI [V.str "cut", V.str "keep"] (kd % 2) = some (.str (kindS k)) := by
          have h0 := Int.emod_nonneg kd (show (2 : Int) ≠ 0 by decide)
          have h1 := Int.emod_lt_of_pos kd (show (0 : Int) < 2 by decide)
          rcases (show kd % 2 = 0 ∨ kd % 2 = 1 by omega) with h | h
          · rw [h]
            exact ⟨false, rfl⟩
          · rw [h]
            exact ⟨true, rfl⟩
        obtain ⟨kb, hkb⟩ := two
        refine ⟨.int kd, rfl, kd, 2, rfl, rfl, (show (0 : Int) < 2 by decide), m, _, kd % 2, _, rfl, rfl, .inl (.inl em), hkb, x1, rfl, small_le (by show 2 ≤ 10000; decide), fun v hv => ?_⟩
        have g06 := g04.trans g6.up
        have s6 := s4.go g6 g4.1
        have Cv : C v = false := held.no (freeD g06 tg s6 hv)
        refine q _ _ (.one kb l1) (g06.new hv) (s6.new hv) ?_ (.one kb l1 m1)
        exact .tup (xs := [V.str (kindS kb), x1]) (.inl (.inl ((cut_at Cv).trans upd_same))) (.cons (.str _) (.one (Dp.sub (Sub.new hv).cuts _ _ (dl1 (g4.trans g6)))))
      have g5 : Go T D0 H4 (upd H4 t2 (.lst [])) := (Go.rfl' g4.1).new ht2
      have eD5 := (upd_ne (o := .lst []) (ne_of_none eD ht2)).trans eD
      have osub : ∀ x ∈ (goods.filter fun m => decide (m ≠ l1)), x ∈ goods ∧ x ≠ l1 := fun x hx => by
        have h := List.mem_filter.mp hx
        exact ⟨h.1, of_decide_eq_true h.2⟩
      generalize (goods.filter fun m => decide (m ≠ l1)) = others at hda osub
      have osh : SeqAt.shaped (.list (others.map eL)) = true := by
        refine shaped_of ?_ ?_
        · simp only [PyData.canLay0]
          exact layAll fun n m => eL_lay (handOk (gok n (osub n m).1).1.1).1
        · have := depAll (f := eL) (n := 1) (l := others) fun n _ => by rw [eL_dep]; exact Nat.le_refl _
          simp only [PyData.depth]
          omega
      have nil_eqv2 : PyData.eqv (.list (others.map eL)) (.list []) = others.isEmpty := by
        cases others with
        | nil => rfl
        | cons x r => simp [PyData.eqv, PyData.eqvAll]
      have hda5 : ∀ {H5}, Go T D0 H4 H5 → DpAll K (cut C H5) acc (others.map eL) := fun g => Dp.subs (sub_go (g4.trans g) g3.1).cuts _ _ hda
      refine ⟨_, _, .lst (.inl (.inl eD5)) (Dp.subs Sub.cut _ _ (hda5 g5)), .lst (xs := []) (.inl (.inl upd_same)) .nil, osh, nilsh, _, rfl, ?_⟩
      rw [nil_eqv2]
      refine ite2 (fun e5 => ?_) (fun e5 => rest _ g5)
      have olen : acc.length = others.length := by rw [DpAll.len hda, List.length_map]
      have opos : 0 < acc.length := by
        rw [olen]
        cases others with
        | nil => cases e5
        | cons x r => exact Nat.succ_pos _
      have g05 := g04.trans g5.up
      have s5 := s4.go g5 g4.1
      have aL : acc.length ≤ 5000 := by omega
      generalize upd H4 t2 (.lst []) = H5 at g5 eD5 g05 s5 ⊢
      obtain ⟨a5, b5, p5, q5, ed5⟩ := _root_.id s5
      refine ⟨x1, rfl, .ref D, rfl, .ref d, rfl, .ref D, rfl, D, acc, rfl, .inl (.inl (.inl eD5)), d, a5, b5, (acc.length : Int), rfl, ed5, p5, q5, by omega, by omega, dg g5.1 ed5 fun r2 H6 r20 r21 g56 s6 => ?_⟩
      obtain ⟨x2, hx2, hat2⟩ := atI_int (xs := acc) (j := r2) r20 r21
      obtain ⟨d2, hd2, dp2⟩ := DpAll.at' (hda5 g5) hx2
      obtain ⟨l2, hl2, rfl⟩ := at_map hd2
      have m2 := osub l2 (List.mem_of_getElem? hl2)
      have g06 := g05.trans g56
      have dl6 := Dp.sub (s5.sub g56 g5.1).cuts _ _ (dl1 (g4.trans g5))
      have dp6 := Dp.sub (s5.sub g56 g5.1).cuts _ _ dp2
      refine ⟨D, acc, r2, x2, rfl, rfl, .inl (.inl (g56.at g5.1 (s5.ne eD5) eD5)), hat2, small_le (by show 3 ≤ 10000; decide), fun v hv => ?_⟩
      have Cv : C v = false := held.no (freeD g06 tg s6 hv)
      refine q _ _ (.order l1 l2) (g06.new hv) (s6.new hv) ?_ (.order l1 l2 m1 m2.1 m2.2.symm)
      exact .tup (xs := [V.str "order", x1, x2]) (.inl (.inl ((cut_at Cv).trans upd_same))) (.cons (.str _) (.cons (Dp.sub (Sub.new hv).cuts _ _ dl6) (.one (Dp.sub (Sub.new hv).cuts _ _ dp6))))
end
end K1
set_option Elab.async false
set_option linter.all false
set_option maxRecDepth 100000
set_option maxHeartbeats 4000000
/-! Histories drawn: what is true of them. -/
namespace K1
open PySem PySem.Spec PyProof.Rows L2

abbrev nmLt (a b : Nm) : Bool := PySem.W.dataLt (eN a) (eN b)
def countH (hist : List Pat) (h : Str) : Nat := hist.countP fun p => decide (p.name.1 = h)
def ownLines (n : Nm) (many : Nat) : List Ln := (List.range many).map (lnAt n)
def goodsAt (hist : List Pat) (p : Pat) (many : Nat) : List Ln := (linesIn hist (knownIn hist p.knows)).map (·.1) ++ ownLines p.name many
def manyAt (deeds : List Deed) (i : Nat) : Nat := ((deeds.take i).flatMap Deed.texts).length
structure PatFrom (hands : List Str) (hist : List Pat) (p : Pat) : Prop where
  hand : p.name.1 ∈ hands
  num : p.name.2 = 1 + (countH hist p.name.1 : Nat)
  asc : p.knows.Pairwise fun a b => nmLt a b = true
  there : ∀ n ∈ p.knows, ∃ q ∈ hist, q.name = n
  four : p.knows.length ≤ 4
  least : 1 ≤ p.deeds.length
  three : p.deeds.length ≤ 3
  deeds : ∀ i d, p.deeds[i]? = some d → DeedFrom (goodsAt hist p (manyAt p.deeds i)) d
def HistFrom (hands : List Str) (hist : List Pat) : Prop := ∀ i p, hist[i]? = some p → PatFrom hands (hist.take i) p
def HandsOk (hands : List Str) : Prop := ∀ h ∈ hands, handV (.str h) = true

/-! order of names -/
theorem eN_alike (a b : Nm) : PySem.W.alike (eN a) (eN b) = true := by simp [eN, PySem.W.alike, PySem.W.alikeAll]
theorem nm_toks {a b : Nm} (h : PySem.W.keyToks (eN a) = PySem.W.keyToks (eN b)) : a = b := by
  obtain ⟨x, i⟩ := a
  obtain ⟨y, j⟩ := b
  simp [eN, PySem.W.keyToks, PySem.W.keyToksAll] at h
  obtain ⟨h1, h2⟩ := h
  rw [h2]
  congr 1
  exact PySem.W.str_of_cps (by rw [h1])
theorem nmLt_total {a b : Nm} (h1 : nmLt a b = false) (h2 : nmLt b a = false) : a = b := nm_toks (PyProof.Rows.lex_total (O := PyProof.Rows.itemOrd) _ _ h1 h2)
theorem nmLt_irr (a : Nm) : nmLt a a = false := PyProof.Rows.lex_irrefl (O := PyProof.Rows.itemOrd) _
theorem nmLt_trans {a b c : Nm} (h1 : nmLt a b = true) (h2 : nmLt b c = true) : nmLt a c = true := PyProof.Rows.lex_trans (O := PyProof.Rows.itemOrd) _ _ _ h1 h2

/-! lines -/
theorem linesIn_mem {hist : List Pat} {names : List Nm} {x : Ln × Str} (h : x ∈ linesIn hist names) : ∃ p ∈ hist, p.name ∈ names ∧ x ∈ linesOf p := by
  unfold linesIn at h
  obtain ⟨p, hp, hx⟩ := List.mem_flatMap.mp h
  split at hx
  · rename_i hn
    exact ⟨p, hp, hn, hx⟩
  · cases hx
theorem linesOf_mem {p : Pat} {x : Ln × Str} (h : x ∈ linesOf p) : ∃ k, k < (textsOf p).length ∧ x = (lnAt p.name k, (textsOf p).getD k "") := by
  unfold linesOf linesFrom at h
  obtain ⟨k, hk, rfl⟩ := List.mem_map.mp h
  exact ⟨k, List.mem_range.mp hk, rfl⟩
theorem lnAt_ok {n : Nm} (h : NmOk n) (k : Nat) : LnOk (lnAt n k) := ⟨h, by show (1 : Int) ≤ (k : Int) + 1; omega⟩
theorem goods_ok {hist : List Pat} {p : Pat} {many : Nat} (h : ∀ q ∈ hist, NmOk q.name) (hp : NmOk p.name) : ∀ g ∈ goodsAt hist p many, LnOk g := by
  intro g hg
  rcases List.mem_append.mp hg with hg | hg
  · obtain ⟨x, hx, rfl⟩ := List.mem_map.mp hg
    obtain ⟨q, hq, _, hx⟩ := linesIn_mem hx
    obtain ⟨k, _, rfl⟩ := linesOf_mem hx
    exact lnAt_ok (h q hq) k
  · obtain ⟨k, _, rfl⟩ := List.mem_map.mp hg
    exact lnAt_ok hp k
theorem menu_ok {t : Str} (h : t ∈ menuT) : TxOk t := by
  have e : menuT.all (fun t => (PyData.strOk t && decide (t.length ≤ 40)) && !decide (10 ∈ TL.tl t)) = true := by decide +kernel
  have := List.all_eq_true.mp e t h
  rw [Bool.and_eq_true, Bool.and_eq_true] at this
  exact ⟨this.1.1, of_decide_eq_true this.1.2, by simpa using this.2⟩
theorem DeedFrom.ok {goods : List Ln} {d : Deed} (h : DeedFrom goods d) (g : ∀ l ∈ goods, LnOk l) : d.ok ∧ d.texts.length ≤ 3 := by
  cases h with
  | put a b ts ha hb ne h0 h1 ht =>
    refine ⟨⟨?_, ?_, fun t m => menu_ok (ht t m)⟩, h1⟩
    · rcases ha with rfl | ha
      · exact .inr (.inl rfl)
      · exact .inl (g a ha)
    · rcases hb with rfl | hb
      · exact .inr (.inr rfl)
      · exact .inl (g b hb)
  | order a b ha hb ne => exact ⟨⟨g a ha, g b hb⟩, Nat.zero_le _⟩
  | one k a ha => exact ⟨g a ha, Nat.zero_le _⟩
theorem PatFrom.nm {hands : List Str} {hist : List Pat} {p : Pat} (h : PatFrom hands hist p) (ho : HandsOk hands) (hl : hist.length ≤ 200) : NmOk p.name := by
  have c : countH hist p.name.1 ≤ hist.length := List.countP_le_length
  have := h.num
  exact ⟨ho _ h.hand, by omega, by omega⟩
theorem PatFrom.ok {hands : List Str} {hist : List Pat} {p : Pat} (h : PatFrom hands hist p) (ho : HandsOk hands) (hl : hist.length ≤ 200) (hn : ∀ q ∈ hist, NmOk q.name) : p.ok ∧ p.small := by
  have nm := h.nm ho hl
  have dd : ∀ d ∈ p.deeds, d.ok ∧ d.texts.length ≤ 3 := fun d hd => by
    obtain ⟨i, hi⟩ := List.mem_iff_getElem?.mp hd
    exact (h.deeds i d hi).ok (goods_ok hn nm)
  refine ⟨⟨nm, fun n m => ?_, fun d m => (dd d m).1⟩, ⟨h.four, h.three, fun d m => (dd d m).2⟩⟩
  obtain ⟨q, hq, rfl⟩ := h.there n m
  exact hn q hq
theorem HistFrom.nms {hands : List Str} {hist : List Pat} (h : HistFrom hands hist) (ho : HandsOk hands) (hl : hist.length ≤ 200) : ∀ q ∈ hist, NmOk q.name := by
  intro q hq
  obtain ⟨i, hi⟩ := List.mem_iff_getElem?.mp hq
  exact (h i q hi).nm ho (by rw [List.length_take]; omega)
theorem HistFrom.ok {hands : List Str} {hist : List Pat} (h : HistFrom hands hist) (ho : HandsOk hands) (hl : hist.length ≤ 100) : HistOk hist := by
  refine ⟨hl, fun q hq => ?_⟩
  obtain ⟨i, hi⟩ := List.mem_iff_getElem?.mp hq
  exact (h i q hi).ok ho (by rw [List.length_take]; omega) fun r hr => h.nms ho (by omega) r (List.mem_of_mem_take hr)
theorem HistFrom.snoc {hands : List Str} {hist : List Pat} {p : Pat} (h : HistFrom hands hist) (hp : PatFrom hands hist p) : HistFrom hands (hist ++ [p]) := by
  intro i q hi
  rcases Nat.lt_trichotomy i hist.length with hlt | heq | hgt
  · rw [List.getElem?_append_left hlt] at hi
    rw [List.take_append_of_le_length (Nat.le_of_lt hlt)]
    exact h i q hi
  · subst heq
    have e : q = p := by
      rw [List.getElem?_append_right (Nat.le_refl _), Nat.sub_self] at hi
      exact (Option.some.inj hi).symm
    subst e
    rw [List.take_left]
    exact hp
  · rw [List.getElem?_eq_none (by rw [List.length_append]; show hist.length + 1 ≤ i; omega)] at hi
    cases hi
/-- the names of a history differ -/
theorem HistFrom.nodup {hands : List Str} {hist : List Pat} (h : HistFrom hands hist) : (hist.map (·.name)).Nodup := by
  refine List.pairwise_iff_getElem.mpr fun i j hi hj hij e => ?_
  rw [List.length_map] at hi hj
  have e' : hist[i].name = hist[j].name := by simpa using e
  have h1 := (h i _ (List.getElem?_eq_getElem hi)).num
  have h2 := (h j _ (List.getElem?_eq_getElem hj)).num
  have c : countH (hist.take i) hist[i].name.1 + 1 ≤ countH (hist.take j) hist[i].name.1 := by
    have s : hist.take j = hist.take (i + 1) ++ (hist.drop (i + 1)).take (j - (i + 1)) := by
      conv => lhs; rw [show j = (i + 1) + (j - (i + 1)) by omega, List.take_add]
    have t : hist.take (i + 1) = hist.take i ++ [hist[i]] := by
      rw [List.take_add_one, List.getElem?_eq_getElem hi]
      rfl
    unfold countH
    have one : List.countP (fun p : Pat => decide (p.name.1 = hist[i].name.1)) [hist[i]] = 1 := by simp
    rw [s, List.countP_append, t, List.countP_append, one]
    omega
  rw [← e'] at h2
  omega
/-- a name to come is not there -/
theorem PatFrom.fresh {hands : List Str} {hist : List Pat} {p : Pat} (h : HistFrom hands hist) (hp : PatFrom hands hist p) : ∀ q ∈ hist, q.name ≠ p.name := by
  have n := (h.snoc hp).nodup
  rw [List.map_append, List.nodup_append] at n
  intro q hq z
  exact n.2.2 q.name (List.mem_map.mpr ⟨q, hq, rfl⟩) p.name (by simp) z

/-! names sorted -/
theorem leN_total : PySem.W.TotalLe fun (a b : V × Nm) => PySem.W.dataLe false (fun x : V × Nm => eN x.2) a b := PySem.W.sortLe_total _ _ _
theorem sorted_asc {qs : List (V × Nm)} (nd : (qs.map (·.2)).Nodup) : ((qs.mergeSort (PySem.W.dataLe false fun x : V × Nm => eN x.2)).map (·.2)).Pairwise fun a b => nmLt a b = true := by
  have T := leN_total
  have s := List.pairwise_mergeSort (le := PySem.W.dataLe false fun x : V × Nm => eN x.2) (fun a b c h1 h2 => T.trans a b c h1 h2) (fun a b => Bool.or_eq_true_iff.mpr (T.total a b)) qs
  have n2 : ((qs.mergeSort (PySem.W.dataLe false fun x : V × Nm => eN x.2)).map (·.2)).Nodup := ((List.mergeSort_perm qs _).map _).nodup_iff.mpr nd
  rw [List.pairwise_map]
  have n3 := List.pairwise_map.mp n2
  refine List.Pairwise.imp₂ ?_ s n3
  intro a b h1 h2
  have h1' : nmLt b.2 a.2 = false := by
    have : (!nmLt b.2 a.2) = true := h1
    simpa using this
  cases h3 : nmLt a.2 b.2 with
  | true => rfl
  | false => exact absurd (nmLt_total h3 h1') h2
end K1
set_option Elab.async false
set_option linter.all false
set_option maxRecDepth 100000
set_option maxHeartbeats 4000000
/-! The law's defs: a drawn patch. -/
namespace K1
open PySem PySem.Spec PyProof.Rows L2

section
variable {P : Program} {w : World} {K : PySem.W.Frag} {mg : Str → Option Value} {base : Heap} {T : Tp}

theorem Held.god {C : Addr → Bool} {T : Tp} {H H' : Hp} {d : Addr} (h : Held C H) (g : Go T (· = d) H H') (t : TG T H) (s : St H' d) : Held C H' := by
  intro a ha z
  exact h a ha (freeD g t s z)
theorem Held.go {C : Addr → Bool} {T : Tp} {H H' : Hp} (h : Held C H) (g : Go T D0 H H') (t : TG T H) : Held C H' := fun a ha z => h a ha (g.free t (fun z => z) z)
theorem Held.plus {C : Addr → Bool} {H : Hp} {p : Addr} {o : HO} (h : Held C H) (e : H p = some o) : Held (plus C p) H := by
  intro a ha z
  unfold K1.plus at ha
  rcases Bool.or_eq_true_iff.mp ha with h1 | h1
  · exact h a h1 z
  · rw [of_decide_eq_true h1, e] at z
    cases z
theorem Sub.plus {C : Addr → Bool} {H : Hp} {p : Addr} {o : HO} (h : H p = none) : Sub (K1.cut C H) (K1.cut (K1.plus C p) (upd H p o)) := by
  intro a u e k
  obtain ⟨e1, e2⟩ := cut_some e
  have n := ne_of_none e2 h
  rw [cut_at (plus_no e1 n), upd_ne n]
  exact e2
def menuH : List Str := ["b", "knows", "put"]
theorem menuH_ok : HandsOk menuH := by
  have e : menuH.all (fun h => handV (.str h)) = true := by decide +kernel
  exact fun h m => List.all_eq_true.mp e h m
def spPatch (K : PySem.W.Frag) (T : Tp) : Sp := fun vs H Q _ => ∃ (h : V) (d : Addr) (hist : List Pat) (C : Addr → Bool), vs = [h, .ref d] ∧ St H d ∧ HistAt K C H h hist ∧ HistFrom menuH hist ∧ hist.length ≤ 100 ∧ Held C H ∧ TG T H ∧
  ∀ H' v p, Go T (· = d) H H' → St H' d → Dp K (cut C H') v (eP p) → PatFrom menuH hist p → Q v H'
theorem ok_lpatch {f : Addr} {fd : FuncData} {k : Nat} (F : Fun K "_law_patch" "_law_patch" sLPatch f fd) (M : Mg K mg) (hs : mg "sorted" = none) (cD : Cal P w K mg base k "_law_digit" ["_law_state", "_law_many"] spDigit)
    (cL : Cal P w K mg base k "_law_lines" ["_law_history_here", "_law_names"] (spLines K T)) (cK : Cal P w K mg base k "_law_known" ["_law_history_here", "_law_knows"] (spKnown K T)) (cDe : Cal P w K mg base k "_law_deed" ["_law_state", "_law_goods"] (spDeed K T)) :
    FnOk P w K mg base CX0 (k + 1) f fd ["_law_history_here", "_law_state"] (spPatch K T) := by
  refine F.ok scLPatch (fun vs H Q E h => ?_) (fun cdv A outer s H vs Q E hr h => ?_)
  · obtain ⟨h, d, hist, C, rfl, _⟩ := h
    rfl
  · obtain ⟨hv, d, hist, C, rfl, st, hh, hfr, hlen, held, tg, q⟩ := h
    refine ⟨_, (pss_cons (ps_set (i := 2) scLPatch.nd rfl (.inr rfl) (pe_ix ix_list (pe_lst (pa_cons pe_str (pa_cons pe_str (pa_cons pe_str pa_nil)))) (pe_cal cD hr (by rfl) (pa_cons (pv 1) (pa_cons pe_int pa_nil))) (fun _ _ => rfl)))
      (pss_cons (ps_set (i := 6) scLPatch.nd rfl (.inr rfl) (pe_tup (pa_cons (pv 2) (pa_cons (pe_op op_add pe_int (pe_callB call_len_seq (by rfl) M.len_ PySem.boot_len (pa_cons (pe_lc (own := [("_law_one", 3), ("_law_knows", 4), ("_law_deeds", 5)]) (g := (gTup K 3 (gCons (gName 3) (gCons (gName 4) (gCons (gName 5) gNil))))) rfl scLPatch.nd (pi_list (pv 0)) (blkOk_by (N := ["_law_history_here", "_law_state", "_law_hand", "_law_one", "_law_knows", "_law_deeds", "_law_name", "_law_own", "_law_line", "_law_text", "_law_goods", "_law_many", "_law_k", "_law_deed_here", "_law_j"]) (sc := defScope sLPatch) (by decide +kernel)) (fun _ _ _ _ _ => (pg_tup rfl (pgs_cons (pg_name (i := 3) scLPatch.nd rfl (Or.inl rfl)) (pgs_cons (pg_name (i := 4) scLPatch.nd rfl (Or.inl rfl)) (pgs_cons (pg_name (i := 5) scLPatch.nd rfl (Or.inl rfl)) pgs_nil))))) (fun _ _ _ _ _ => (pts_one (pt_cmpR op_eq (pe_ix (show IxR _ (rIxT K) from ix_tup) (pv 3) pe_int (fun _ _ => rfl)) (pv 2) (nomark _)))) (fun _ _ _ _ _ => (pv 3))) pa_nil))) pa_nil))))
      (pss_cons (ps_set (i := 4) scLPatch.nd rfl (.inl rfl) (pe_callB (cr_sortedD hr.units) (by rfl) hs (by decide +kernel) (pa_cons (pe_lc (own := [("_law_one", 3), ("_law_own", 7), ("_law_deeds", 5)]) (g := (gTup K 3 (gCons (gName 3) (gCons (gName 7) (gCons (gName 5) gNil))))) rfl scLPatch.nd (pi_list (pe_slice sl_list (pv 0) (po_some (pe_un un_neg pe_int)) po_none)) (blkOk_by (N := ["_law_history_here", "_law_state", "_law_hand", "_law_one", "_law_knows", "_law_deeds", "_law_name", "_law_own", "_law_line", "_law_text", "_law_goods", "_law_many", "_law_k", "_law_deed_here", "_law_j"]) (sc := defScope sLPatch) (by decide +kernel)) (fun _ _ _ _ _ => (pg_tup rfl (pgs_cons (pg_name (i := 3) scLPatch.nd rfl (Or.inl rfl)) (pgs_cons (pg_name (i := 7) scLPatch.nd rfl (Or.inl rfl)) (pgs_cons (pg_name (i := 5) scLPatch.nd rfl (Or.inl rfl)) pgs_nil))))) (fun _ _ _ _ _ => (pts_one (pt_cmpR op_eq (pe_cal cD hr (by rfl) (pa_cons (pv 1) (pa_cons pe_int pa_nil))) pe_int (nomark _)))) (fun _ _ _ _ _ => (pv 3))) pa_nil)))
      (pss_cons (ps_setLc (i := 10) (own := [("_law_line", 8), ("_law_text", 9)]) (g := (gTup K 2 (gCons (gName 8) (gCons (gName 9) gNil)))) (tt := tYes) rfl scLPatch.nd rfl rfl (sw_true rfl rfl rfl (by decide +kernel)) (pi_list (pe_cal cL hr (by rfl) (pa_cons (pv 0) (pa_cons (pe_cal cK hr (by rfl) (pa_cons (pv 0) (pa_cons (pv 4) pa_nil))) pa_nil)))) (blkOk_by (N := ["_law_history_here", "_law_state", "_law_hand", "_law_one", "_law_knows", "_law_deeds", "_law_name", "_law_own", "_law_line", "_law_text", "_law_goods", "_law_many", "_law_k", "_law_deed_here", "_law_j"]) (sc := defScope sLPatch) (by decide +kernel)) (fun _ _ _ _ _ => (pg_tup rfl (pgs_cons (pg_name (i := 8) scLPatch.nd rfl (Or.inl rfl)) (pgs_cons (pg_name (i := 9) scLPatch.nd rfl (Or.inl rfl)) pgs_nil)))) (fun _ _ _ _ _ => pts_nil) (fun _ _ _ _ _ => (pv 8)))
      (pss_cons (ps_set (i := 5) scLPatch.nd rfl (.inl rfl) (pe_lst pa_nil))
      (pss_cons (ps_set (i := 11) scLPatch.nd rfl (.inr rfl) pe_int)
      (pss_cons (ps_for PassesOwn.never rfl (pi_range1 (by rfl) M.range_ (pa_cons (pe_op op_add pe_int (pe_cal cD hr (by rfl) (pa_cons (pv 1) (pa_cons pe_int pa_nil)))) pa_nil)) (pg_name (i := 12) scLPatch.nd rfl (.inl rfl))
      (pss_cons (ps_set (i := 13) scLPatch.nd rfl (.inl rfl) (pe_cal cDe hr (by rfl) (pa_cons (pv 1) (pa_cons (pv 10) pa_nil))))
      (pss_cons (ps_if (pt_cmpR op_eq (pe_ix ix_tup (pv 13) pe_int (fun _ _ => rfl)) pe_str (nomark _))
      (pss_cons (ps_set (i := 10) scLPatch.nd rfl (.inl rfl) (pe_op op_cat (pv 10) (pe_lc (own := [("_law_j", 14)]) (g := gName 14) (tt := tYes) rfl scLPatch.nd (pi_range1 (by rfl) M.range_ (pa_cons (pe_callB call_len_seq (by rfl) M.len_ PySem.boot_len (pa_cons (pe_ix ix_tup (pv 13) pe_int (fun _ _ => rfl)) pa_nil)) pa_nil)) (blkOk_by (N := ["_law_history_here", "_law_state", "_law_hand", "_law_one", "_law_knows", "_law_deeds", "_law_name", "_law_own", "_law_line", "_law_text", "_law_goods", "_law_many", "_law_k", "_law_deed_here", "_law_j"]) (sc := defScope sLPatch) (by decide +kernel)) (fun _ _ _ _ _ => (pg_name (i := 14) scLPatch.nd rfl (Or.inl rfl))) (fun _ _ _ _ _ => pts_nil) (fun _ _ _ _ _ => (pe_op (show OpR _ _ (rCatA K) from op_catA) (pv 6) (pe_tup (pa_cons (pe_op op_add (pe_op op_add (pv 11) (pv 14)) pe_int) pa_nil)))))))
      (pss_one (ps_set (i := 11) scLPatch.nd rfl (.inr rfl) (pe_op op_add (pv 11) (pe_callB call_len_seq (by rfl) M.len_ PySem.boot_len (pa_cons (pe_ix ix_tup (pv 13) pe_int (fun _ _ => rfl)) pa_nil))))))
      pss_nil)
      (pss_one (ps_expr (pe_bm PySem.F.plainAttrs_list PySem.F.slot_list_append PySem.F.type_list_append mt_append (pv 5) (pa_cons (pv 13) pa_nil)))))))
      (pss_one (ps_ret (pe_tup (pa_cons (pv 6) (pa_cons (pv 4) (pa_cons (pv 5) pa_nil))))))))))))), ?_⟩
    have toG : ∀ {H'}, Go T (· = d) H H' → Sub H H' := fun g => st.sub g tg
    obtain ⟨a, xs, rfl, hS, hD⟩ := hh
    have hok := hfr.ok menuH_ok hlen
    have xlen : xs.length = hist.length := by rw [DpAll.len hD, List.length_map]
    have toC : ∀ {H'}, Go T (· = d) H H' → Sub (cut C H) (cut C H') := fun g => (toG g).cuts
    have toH : ∀ {H'}, Go T (· = d) H H' → Sub (cut C H) H' := fun g => (toC g).trans Sub.cut
    have hist' : ∀ {H'}, Go T (· = d) H H' → HistAt K C H' (.ref a) hist := fun g => ⟨a, xs, rfl, (toG g).seqL hS, Dp.subs (toC g) _ _ hD⟩
    have sm3 : 3 ≤ sizeLine := small_le (by decide)
    have sm2 : 2 ≤ sizeLine := small_le (by decide)
    -- the hand
    refine ⟨sm3, fun m hm => ?_⟩
    have g1 : Go T (· = d) H (upd H m (.lst [V.str "b", .str "knows", .str "put"])) := (Go.rfl' tg).new hm
    have s1 : St (upd H m (.lst [V.str "b", .str "knows", .str "put"])) d := st.new hm
    have em : (upd H m (.lst [V.str "b", .str "knows", .str "put"])) m = some (.lst (menuH.map V.str)) := upd_same
    generalize upd H m (.lst [V.str "b", .str "knows", .str "put"]) = H1 at g1 s1 em ⊢
    obtain ⟨a1, b1, p1, q1, ed1⟩ := _root_.id s1
    refine ⟨.ref d, rfl, d, a1, b1, 3, rfl, ed1, p1, q1, by decide, by decide, dg g1.1 ed1 fun rh H2 rh0 rh1 g12 s2 => ?_⟩
    obtain ⟨hand, hhand, hath⟩ := atI_int (xs := menuH) (j := rh) rh0 rh1
    have hathv : atI (menuH.map V.str) rh = some (.str hand) := by
      have := atI_nat (xs := menuH.map V.str) (j := rh.toNat) (v := .str hand) (by rw [List.getElem?_map, hhand]; rfl)
      rwa [show ((rh.toNat : Nat) : Int) = rh by omega] at this
    have hmem : hand ∈ menuH := List.mem_of_getElem? hhand
    have g2 := g1.trans g12
    refine ⟨m, _, rh, .str hand, rfl, rfl, .inl (.inl (g12.at g1.1 (s1.ne em) em)), hathv, ?_⟩
    -- the name
    refine ⟨.str hand, rfl, .ref a, rfl, a, rfl, ⟨xs, (toG g2).seqL hS⟩, fun D hD' => ?_⟩
    refine lc_list (K := K) (a := a) (xs := xs) (fun i H3 => Go T D0 H2 H3 ∧ ∃ acc, H3 D = some (.lst acc) ∧ acc.length = countH (hist.take i) hand) ?_ ?_ ?_ ?_
    · exact ⟨(Go.rfl' g2.1).new hD', [], upd_same, rfl⟩
    · rintro i H3 hi ⟨g3, _⟩
      exact (toG (g2.trans g3.up)).seqL hS
    · rintro i v H3 hv ⟨g3, acc, eD, hacc⟩
      obtain ⟨d', hd', hv'⟩ := DpAll.at' hD hv
      obtain ⟨pat, hpat, rfl⟩ := at_map hd'
      obtain ⟨av, _, rfl, sv, dv⟩ := Dp.tupI hv'
      obtain ⟨vn, vk, vd, rfl, dn, dk, dd⟩ := DpAll.i3 dv
      obtain ⟨an, _, rfl, sn, dn2⟩ := Dp.tupI dn
      obtain ⟨u1, u2, rfl, du1, du2⟩ := DpAll.i2 dn2
      cases Dp.strI du1
      cases Dp.intI du2
      have gg := g2.trans g3.up
      have cs : countH (hist.take (i + 1)) hand = countH (hist.take i) hand + countH [pat] hand := by
        unfold countH
        rw [List.take_add_one, hpat, List.countP_append]
        rfl
      have cl : countH (hist.take i) hand ≤ 100 := Nat.le_trans List.countP_le_length (by rw [List.length_take]; omega)
      refine ⟨av, _, rfl, (toH gg).seqT sv, rfl, _, _, rfl, _, _, rfl, _, _, rfl, rfl, rfl, ?_⟩
      refine ⟨.ref an, rfl, an, _, 0, .str pat.name.1, rfl, rfl, (toH gg).seqT sn, atI_nat (j := 0) rfl, .str hand, rfl, rfl, _, rfl, ite2 (fun e => ?_) (fun e => ?_)⟩
      · have e' : pat.name.1 = hand := V.str.inj (of_decide_eq_true e)
        refine ⟨.ref an, rfl, acc, eD, small_line (by omega), g3.put hD' eD, acc ++ [.ref an], upd_same, ?_⟩
        rw [List.length_append, hacc, cs]
        unfold countH
        simp [e']
      · have e' : ¬ pat.name.1 = hand := fun z => e (decide_eq_true (by rw [z]))
        refine ⟨g3, acc, eD, ?_⟩
        rw [hacc, cs]
        unfold countH
        simp [e']
    · rintro H3 ⟨g3, acc, eD, hacc⟩
      rw [xlen, List.take_length] at hacc
      refine ⟨D, acc, rfl, .inl (.inl (.inl eD)), 1, _, rfl, rfl, sm2, fun nm hnm => ?_⟩
      have g23 : Go T (· = d) H H3 := g2.trans g3.up
      have s3 := s2.go g3 g2.1
      have Cnm : C nm = false := held.no (freeD g23 tg s3 hnm)
      rw [hacc]
      have g4 := g23.new (o := .tup [V.str hand, .int (1 + (countH hist hand : Nat))]) hnm
      have s4 := s3.new (o := .tup [V.str hand, .int (1 + (countH hist hand : Nat))]) hnm
      have enm : (upd H3 nm (.tup [V.str hand, .int (1 + (countH hist hand : Nat))])) nm = some (.tup [V.str hand, .int (1 + (countH hist hand : Nat))]) := upd_same
      generalize upd H3 nm (.tup [V.str hand, .int (1 + (countH hist hand : Nat))]) = H4 at g4 s4 enm ⊢
      -- what is known directly
      have cut4 : cutV xs (some (-4)) none = xs.drop (xs.length - 4) := by
        have e1 : HT.sIx xs.length 0 (some (-4)) = xs.length - 4 := by
          show (if (-4 : Int) < 0 then ((-4 : Int) + (xs.length : Int)).toNat else min (-4 : Int).toNat xs.length) = _
          rw [if_pos (by decide)]
          omega
        unfold cutV
        rw [e1, HT.sIx_none]
        exact List.take_of_length_le (by rw [List.length_drop]; omega)
      refine ⟨.ref a, rfl, (4 : Int), rfl, (-4 : Int), rfl, a, xs, rfl, (toG g4).seqL hS, fun s hs' => ?_⟩
      rw [cut4]
      have g5 := g4.new (o := .lst (xs.drop (xs.length - 4))) hs'
      have s5 := s4.new (o := .lst (xs.drop (xs.length - 4))) hs'
      have enm5 := (upd_ne (o := .lst (xs.drop (xs.length - 4))) (ne_of_none enm hs')).trans enm
      have es : (upd H4 s (.lst (xs.drop (xs.length - 4)))) s = some (.lst (xs.drop (xs.length - 4))) := upd_same
      generalize upd H4 s (.lst (xs.drop (xs.length - 4))) = H5 at g5 s5 enm5 es ⊢
      refine ⟨s, rfl, ⟨_, .inl (.inl es)⟩, fun D2 hD2 => ?_⟩
      have dT : DpAll K (cut C H) (xs.drop (xs.length - 4)) ((hist.drop (xs.length - 4)).map eP) := by
        rw [List.map_drop]
        exact hD.drop _
      refine lc_list (K := K) (a := s) (xs := xs.drop (xs.length - 4)) (fun i H6 => ∃ qs : List (V × Nm), Go T (· = d) H5 H6 ∧ St H6 d ∧ H6 D2 = some (.lst (qs.map (·.1))) ∧ (∀ x ∈ qs, Dp K (cut C H) x.1 (eN x.2)) ∧ (qs.map (·.2)).Sublist (((hist.drop (xs.length - 4)).take i).map (·.name)) ∧ qs.length ≤ i) ?_ ?_ ?_ ?_
      · exact ⟨[], (Go.rfl' g5.1).new hD2, s5.new hD2, upd_same, (fun x hx => by cases hx), .slnil, Nat.le_refl _⟩
      · rintro i H6 hi ⟨qs, g6, s6, _⟩
        exact .inl (.inl (g6.at g5.1 (s5.ne es) es))
      · rintro i v H6 hv ⟨qs, g6, s6, eD, hqs, hsub, hql⟩
        obtain ⟨d', hd', hv'⟩ := DpAll.at' dT hv
        obtain ⟨pat, hpat, rfl⟩ := at_map hd'
        obtain ⟨av, _, rfl, sv, dv⟩ := Dp.tupI hv'
        obtain ⟨vn, vk, vd, rfl, dn, dk, dd⟩ := DpAll.i3 dv
        have hi : i < (xs.drop (xs.length - 4)).length := (List.getElem?_eq_some_iff.mp hv).1
        rw [List.length_drop] at hi
        have ts : ((hist.drop (xs.length - 4)).take (i + 1)).map (·.name) = ((hist.drop (xs.length - 4)).take i).map (·.name) ++ [pat.name] := by
          rw [List.take_add_one, hpat, List.map_append]
          rfl
        obtain ⟨a6, b6, p6, q6, ed6⟩ := _root_.id s6
        refine ⟨av, _, rfl, (toH (g5.trans g6)).seqT sv, rfl, _, _, rfl, _, _, rfl, _, _, rfl, rfl, rfl, ?_⟩
        refine ⟨.ref d, rfl, d, a6, b6, 2, rfl, ed6, p6, q6, by decide, by decide, dg g6.1 ed6 fun rz H7 rz0 rz1 g67 s7 => ?_⟩
        have eD7 := g67.at g6.1 (s6.ne eD) eD
        refine ⟨rfl, _, rfl, ite2 (fun e => ?_) (fun e => ?_)⟩
        · refine ⟨vn, rfl, qs.map (·.1), eD7, small_line (by rw [List.length_map]; omega), qs ++ [(vn, pat.name)], (g6.trans g67).put hD2 eD7, s7.put eD7, by rw [upd_same, List.map_append]; rfl, fun x hx => ?_, ?_, by rw [List.length_append]; show qs.length + 1 ≤ i + 1; omega⟩
          · rcases List.mem_append.mp hx with h | h
            · exact hqs x h
            · rw [List.mem_singleton.mp h]
              exact dn
          · rw [ts, List.map_append]
            exact List.Sublist.append hsub (List.Sublist.refl _)
        · refine ⟨qs, g6.trans g67, s7, eD7, hqs, ?_, by omega⟩
          rw [ts]
          exact hsub.trans (List.sublist_append_left _ _)
      · rintro H6 ⟨qs, g6, s6, eD, hqs, hsub, hql⟩
        have hsub' : (qs.map (·.2)).Sublist (hist.map (·.name)) := by
          refine hsub.trans ?_
          exact List.Sublist.map _ ((List.take_sublist _ _).trans (List.drop_sublist _ _))
        have hq4 : qs.length ≤ 4 := by
          rw [List.length_drop] at hql
          omega
        clear hsub hql
        have nd : (qs.map (·.2)).Nodup := hfr.nodup.sublist hsub'
        have asc := sorted_asc nd
        have mp : ∀ x, x ∈ qs.mergeSort (PySem.W.dataLe false fun x : V × Nm => eN x.2) ↔ x ∈ qs := fun x => (List.mergeSort_perm qs _).mem_iff
        have ml : (qs.mergeSort (PySem.W.dataLe false fun x : V × Nm => eN x.2)).length = qs.length := (List.mergeSort_perm qs _).length_eq
        have mm : ((qs.map fun x => (x.1, eN x.2)).mergeSort (PySem.W.dataLe false (·.2))).map (·.1) = (qs.mergeSort (PySem.W.dataLe false fun x : V × Nm => eN x.2)).map (·.1) := by
          rw [← List.map_mergeSort (r := PySem.W.dataLe false fun x : V × Nm => eN x.2) (s := PySem.W.dataLe false (·.2)) (f := fun x : V × Nm => (x.1, eN x.2)) (l := qs) (fun a _ b _ => rfl), List.map_map]
          rfl
        refine ⟨D2, qs.map (fun x => (x.1, eN x.2)), rfl, .inl (.inl (by rw [List.map_map]; exact eD)), ?_, ?_, ?_, ?_, fun l hl => ?_⟩
        · intro p hp
          obtain ⟨x, hx, rfl⟩ := List.mem_map.mp hp
          exact Dp.sub (toH (g5.trans g6)) _ _ (hqs x hx)
        · rw [List.map_map]
          exact PySem.W.AllAlike.of (enc := fun x : V × Nm => eN x.2) fun a b => eN_alike _ _
        · rw [List.map_map]
          exact PySem.W.Sortable.tuples (enc := fun x : V × Nm => eN x.2) fun b => ⟨_, _, rfl⟩
        · intro p hp
          obtain ⟨x, hx, rfl⟩ := List.mem_map.mp hp
          rw [show ((x.1, eN x.2) : V × PyData).2 = eN x.2 from rfl, eN_dep]
          decide
        rw [mm]
        generalize hsq : qs.mergeSort (PySem.W.dataLe false fun x : V × Nm => eN x.2) = sq at asc mp ml ⊢
        have g07 := (g5.trans g6).new (o := .lst (sq.map (·.1))) hl
        have s7 := s6.new (o := .lst (sq.map (·.1))) hl
        have enm7 := (upd_ne (o := .lst (sq.map (·.1))) (ne_of_none (g6.at g5.1 (s5.ne enm5) enm5) hl)).trans (g6.at g5.1 (s5.ne enm5) enm5)
        have el : (upd H6 l (.lst (sq.map (·.1)))) l = some (.lst (sq.map (·.1))) := upd_same
        have Cl : C l = false := held.no (freeD (g5.trans g6) tg s6 hl)
        generalize upd H6 l (.lst (sq.map (·.1))) = H7 at g07 s7 enm7 el ⊢
        have dsq : ∀ (l : List (V × Nm)), (∀ x ∈ l, x ∈ qs) → DpAll K (cut C H) (l.map (·.1)) ((l.map (·.2)).map eN) := by
          intro l
          induction l with
          | nil => intro _; exact .nil
          | cons x r ih => exact fun h => .cons (hqs x (h x (List.mem_cons_self ..))) (ih fun y m => h y (List.mem_cons_of_mem _ m))
        have dks := dsq sq fun x hx => (mp x).mp hx
        have kn : ∀ n ∈ sq.map (·.2), ∃ q ∈ hist, q.name = n := by
          intro n hn
          obtain ⟨x, hx, rfl⟩ := List.mem_map.mp hn
          have h2 : x.2 ∈ qs.map (·.2) := List.mem_map.mpr ⟨x, (mp x).mp hx, rfl⟩
          obtain ⟨q, hq, e⟩ := List.mem_map.mp (hsub'.subset h2)
          exact ⟨q, hq, e⟩
        have kl : (sq.map (·.2)).length ≤ 4 := by rw [List.length_map, ml]; exact hq4
        generalize sq.map (·.2) = knows at asc dks kn kl
        generalize sq.map (·.1) = ks at el dks ⊢
        clear mm dsq mp ml nd hsub' hqs eD
        have nmok := hfr.nms menuH_ok (by omega)
        have knok : ∀ n ∈ knows, NmOk n := fun n hn => by
          obtain ⟨q, hq, rfl⟩ := kn n hn
          exact nmok q hq
        have nmOwn : NmOk (hand, 1 + (countH hist hand : Nat)) := by
          have c : countH hist hand ≤ hist.length := List.countP_le_length
          exact ⟨menuH_ok _ hmem, by show (1 : Int) ≤ 1 + (countH hist hand : Nat); omega, by show 1 + ((countH hist hand : Nat) : Int) ≤ 999; omega⟩
        -- the good lines
        refine ⟨.ref a, rfl, .ref a, rfl, .ref l, rfl, .ref a, l, ks, hist, knows, C, rfl, hist' g07, hok, .inl (.inl el), Dp.subs (toC g07) _ _ dks, knok, by omega, held.god g07 tg s7, g07.1, fun H8 p8 xs8 g78 _ e8 d8 => ?_⟩
        have g08 := g07.trans g78.up
        have s8 := s7.go g78 g07.1
        have knok2 := knownIn_ok (hist := hist) knok (l := hist.reverse) (fun p m => (hok.each p (List.mem_reverse.mp m)).1) (found := knows) knok
        refine ⟨.ref a, .ref p8, hist, knownIn hist knows, C, rfl, hist' g08, hok, .lst (.inl (.inl e8)) (Dp.subs Sub.cut _ _ d8), knok2, held.god g08 tg s8, g08.1, fun H9 p9 xs9 g89 _ e9 d9 => ?_⟩
        have g09 := g08.trans g89.up
        have s9 := s8.go g89 g08.1
        have llen := linesIn_len (names := knownIn hist knows) (hist := hist) fun p m => (hok.each p m).2
        refine ⟨p9, rfl, ⟨_, .inl (.inl e9)⟩, fun D3 hD3 => ?_⟩
        have enm9 := g89.at g08.1 (fun z => z) (g78.at g07.1 (fun z => z) enm7)
        have el9 := g89.at g08.1 (fun z => z) (g78.at g07.1 (fun z => z) el)
        refine lc_list (K := K) (a := p9) (xs := xs9) (fun i H10 => Go T D0 H9 H10 ∧ ∃ acc, H10 D3 = some (.lst acc) ∧ acc.length = i ∧ DpAll K (cut C H9) acc (((linesIn hist (knownIn hist knows)).take i).map fun x => eL x.1)) ?_ ?_ ?_ ?_
        · exact ⟨(Go.rfl' g09.1).new hD3, [], upd_same, rfl, .nil⟩
        · rintro i H10 hi ⟨g10, _⟩
          exact .inl (.inl (g10.at g09.1 (fun z => z) e9))
        · rintro i v H10 hv ⟨g10, acc, eD, hacc, hda⟩
          obtain ⟨d', hd', hv'⟩ := DpAll.at' d9 hv
          obtain ⟨x, hx, rfl⟩ := at_map hd'
          obtain ⟨ax, _, rfl, sx, dx⟩ := Dp.tupI hv'
          obtain ⟨x1, x2, rfl, dx1, dx2⟩ := DpAll.i2 dx
          have hi : i < xs9.length := (List.getElem?_eq_some_iff.mp hv).1
          have l9 : xs9.length ≤ 900 := by rw [DpAll.len d9, List.length_map]; omega
          refine ⟨ax, _, rfl, ((sub_go g10 g09.1).seqT (Sub.cut.seqT sx)), rfl, _, _, rfl, _, _, rfl, rfl, rfl, ?_⟩
          refine ⟨x1, rfl, acc, eD, small_line (by omega), g10.put hD3 eD, acc ++ [x1], upd_same, by rw [List.length_append, hacc]; rfl, ?_⟩
          rw [List.take_add_one, hx, List.map_append]
          exact hda.app (.one dx1)
        · rintro H10 ⟨g10, gs0, eD, hgl, hgs⟩
          have l9 : xs9.length = (linesIn hist (knownIn hist knows)).length := by rw [DpAll.len d9, List.length_map]
          rw [l9, List.take_length] at hgs
          have g010 := g09.trans g10.up
          have s10 := s9.go g10 g09.1
          have enm10 := g10.at g09.1 (fun z => z) enm9
          have el10 := g10.at g09.1 (fun z => z) el9
          -- the deeds
          refine ⟨Nat.zero_le _, fun de hde => ?_⟩
          have Cde : C de = false := held.no (freeD g010 tg s10 hde)
          have g11 := g010.new (o := .lst []) hde
          have s11 := s10.new (o := .lst []) hde
          have enm11 := (upd_ne (o := .lst []) (ne_of_none enm10 hde)).trans enm10
          have el11 := (upd_ne (o := .lst []) (ne_of_none el10 hde)).trans el10
          have eg11 := (upd_ne (o := .lst []) (ne_of_none eD hde)).trans eD
          have ede : (upd H10 de (.lst [])) de = some (.lst []) := upd_same
          have hgs11 : DpAll K (cut (plus C de) (upd H10 de (.lst []))) gs0 ((goodsAt hist ⟨(hand, 1 + (countH hist hand : Nat)), knows, []⟩ 0).map eL) := by
            have e : (goodsAt hist ⟨(hand, 1 + (countH hist hand : Nat)), knows, []⟩ 0).map eL = (linesIn hist (knownIn hist knows)).map fun x => eL x.1 := by
              unfold goodsAt ownLines
              rw [List.range_zero, List.map_nil, List.append_nil, List.map_map]
              rfl
            rw [e]
            exact Dp.subs ((sub_go g10 g09.1).cuts.trans (Sub.plus hde)) _ _ hgs
          have held11 : Held (plus C de) (upd H10 de (.lst [])) := (held.god g11 tg s11).plus ede
          generalize upd H10 de (.lst []) = H11 at g11 s11 enm11 el11 eg11 ede hgs11 held11 ⊢
          obtain ⟨a11, b11, p11, q11, ed11⟩ := _root_.id s11
          refine ⟨.ref d, rfl, d, a11, b11, 3, rfl, ed11, p11, q11, by decide, by decide, dg g11.1 ed11 fun rd H12 rd0 rd1 g1112 s12 => ?_⟩
          refine ⟨1, rd, rfl, rfl, 1 + rd, rfl, by omega, by omega, ?_⟩
          have hfree : H de = none := freeD g010 tg s10 hde
          have nle : l ≠ de := ne_of_none el10 hde
          have nge : D3 ≠ de := ne_of_none eD hde
          have g012 := g11.trans g1112
          have en12 := g1112.at g11.1 (s11.ne enm11) enm11
          have el12 := g1112.at g11.1 (s11.ne el11) el11
          have eg12 := g1112.at g11.1 (s11.ne eg11) eg11
          have ed12 := g1112.at g11.1 (s11.ne ede) ede
          have hgs12 := Dp.subs (s11.sub g1112 g11.1).cuts _ _ hgs11
          generalize hown : ((hand, 1 + (countH hist hand : Nat)) : Nm) = own at nmOwn hgs12
          have enm12 : H12 nm = some (.tup [V.str own.1, .int own.2]) := by rw [← hown]; exact en12
          refine for_range (lo := 0) (n := (1 + rd).toNat) (fun i σ H13 => ∃ (gl : Addr) (gs dv : List V) (deeds : List Deed) (many : Nat) (y12 y13 : Option V),
            σ = [some (.ref a), some (.ref d), some (.str hand), none, some (.ref l), some (.ref de), some (.ref nm), none, none, none, some (.ref gl), some (.int (many : Nat)), y12, y13, none] ∧ Go T (· = d) H H13 ∧ St H13 d ∧ H13 nm = some (.tup [V.str own.1, .int own.2]) ∧ H13 l = some (.lst ks) ∧
            gl ≠ de ∧ H13 gl = some (.lst gs) ∧ DpAll K (cut (plus C de) H13) gs ((goodsAt hist ⟨own, knows, []⟩ many).map eL) ∧ H13 de = some (.lst dv) ∧ DpAll K (cut (plus C de) H13) dv (deeds.map K1.eD) ∧ deeds.length = i ∧ many = (deeds.flatMap Deed.texts).length ∧ many ≤ 3 * i ∧
            ∀ j dd, deeds[j]? = some dd → DeedFrom (goodsAt hist ⟨own, knows, []⟩ (manyAt deeds j)) dd) ?_ ?_ ?_
          · exact ⟨D3, gs0, [], [], 0, none, none, rfl, g012, s12, enm12, el12, nge, eg12, hgs12, ed12, .nil, rfl, rfl, Nat.zero_le _, fun j dd h => by cases h⟩
          · rintro i σ H13 hi ⟨gl, gs, dv, deeds, many, y12, y13, rfl, g13, s13, en, el', ng, eg, hgs', ed, hdv, hdl, hmany, hml, hdf⟩
            have gok := goods_ok (p := ⟨own, knows, []⟩) (many := many) nmok nmOwn
            have gl5 : (goodsAt hist ⟨own, knows, []⟩ many).length ≤ 5000 := by
              unfold goodsAt ownLines
              rw [List.length_append, List.length_map, List.length_map, List.length_range]
              show (linesIn hist (knownIn hist knows)).length + many ≤ 5000
              omega
            refine ⟨.ref d, rfl, .ref gl, rfl, d, gl, gs, goodsAt hist ⟨own, knows, []⟩ many, plus C de, rfl, s13, eg, hgs', gok, gl5, (held.god g13 tg s13).plus ed, g13.1, fun H14 v deed g1314 s14 dpv hfrom => ?_⟩
            have dok := hfrom.ok gok
            have g14 := g13.trans g1314
            have en14 := g1314.at g13.1 (s13.ne en) en
            have el14 := g1314.at g13.1 (s13.ne el') el'
            have eg14 := g1314.at g13.1 (s13.ne eg) eg
            have ed14 := g1314.at g13.1 (s13.ne ed) ed
            have hgs14 := Dp.subs (s13.sub g1314 g13.1).cuts _ _ hgs'
            have hdv14 := Dp.subs (s13.sub g1314 g13.1).cuts _ _ hdv
            obtain ⟨a', k', r, rfl, S', hcase⟩ := txt_of dpv
            have dvl : dv.length = deeds.length := by rw [DpAll.len hdv, List.length_map]
            have fin : ∀ (H15 : Hp) (gl' : Addr) (gs' : List V) (m' : Int) (y12 : Option V), Go T D0 H14 H15 → gl' ≠ de → H15 gl' = some (.lst gs') → DpAll K (cut (plus C de) H15) gs' ((goodsAt hist ⟨own, knows, []⟩ (many + deed.texts.length)).map eL) → m' = ((many + deed.texts.length : Nat) : Int) →
              ∃ (gl : Addr) (gs dv' : List V) (deeds : List Deed) (many : Nat) (y12' y13 : Option V),
              [some (.ref a), some (.ref d), some (.str hand), none, some (.ref l), some (.ref de), some (.ref nm), none, none, none, some (.ref gl'), some (.int m'), y12, some (.ref a'), none] = [some (.ref a), some (.ref d), some (.str hand), none, some (.ref l), some (.ref de), some (.ref nm), none, none, none, some (V.ref gl), some (.int (many : Nat)), y12', y13, none] ∧
              Go T (· = d) H (upd H15 de (.lst (dv ++ [.ref a']))) ∧ St (upd H15 de (.lst (dv ++ [.ref a']))) d ∧ (upd H15 de (.lst (dv ++ [.ref a']))) nm = some (.tup [V.str own.1, .int own.2]) ∧ (upd H15 de (.lst (dv ++ [.ref a']))) l = some (.lst ks) ∧
              gl ≠ de ∧ (upd H15 de (.lst (dv ++ [.ref a']))) gl = some (.lst gs) ∧ DpAll K (cut (plus C de) (upd H15 de (.lst (dv ++ [.ref a'])))) gs ((goodsAt hist ⟨own, knows, []⟩ many).map eL) ∧ (upd H15 de (.lst (dv ++ [.ref a']))) de = some (.lst dv') ∧ DpAll K (cut (plus C de) (upd H15 de (.lst (dv ++ [.ref a'])))) dv' (deeds.map K1.eD) ∧ deeds.length = i + 1 ∧ many = (deeds.flatMap Deed.texts).length ∧ many ≤ 3 * (i + 1) ∧
              ∀ j dd, deeds[j]? = some dd → DeedFrom (goodsAt hist ⟨own, knows, []⟩ (manyAt deeds j)) dd := by
              intro H15 gl' gs' m' y12 g15 ng' eg' hgs'' hm'
              subst hm'
              have ed15 := g15.at g14.1 (fun z => z) ed14
              have en15 := g15.at g14.1 (fun z => z) en14
              have el15 := g15.at g14.1 (fun z => z) el14
              have nn : nm ≠ de := ne_of en15 ed15 (by intro z; cases z)
              refine ⟨gl', gs', dv ++ [.ref a'], deeds ++ [deed], many + deed.texts.length, _, _, rfl, (g14.trans g15.up).put hfree ed15, (s14.go g15 g14.1).put ed15, (upd_ne nn).trans en15, (upd_ne nle).trans el15, ng', (upd_ne ng').trans eg', ?_, upd_same, ?_, by rw [List.length_append, hdl]; rfl, ?_, by have := dok.2; omega, ?_⟩
              · rw [cut_out plus_D]
                exact hgs''
              · rw [cut_out plus_D, List.map_append]
                exact (Dp.subs (sub_go g15 g14.1).cuts _ _ hdv14).app (.one (Dp.sub (sub_go g15 g14.1).cuts _ _ dpv))
              · rw [List.flatMap_append, List.length_append, hmany]
                simp
              · intro j dd hj
                rcases Nat.lt_trichotomy j deeds.length with hlt | heq | hgt
                · rw [List.getElem?_append_left hlt] at hj
                  have e : manyAt (deeds ++ [deed]) j = manyAt deeds j := by
                    unfold manyAt
                    rw [List.take_append_of_le_length (Nat.le_of_lt hlt)]
                  rw [e]
                  exact hdf j dd hj
                · subst heq
                  have e1 : dd = deed := by
                    rw [List.getElem?_append_right (Nat.le_refl _), Nat.sub_self] at hj
                    exact (Option.some.inj hj).symm
                  have e : manyAt (deeds ++ [deed]) deeds.length = many := by
                    unfold manyAt
                    rw [List.take_left, hmany]
                  rw [e1, e]
                  exact hfrom
                · rw [List.getElem?_eq_none (by rw [List.length_append]; show deeds.length + 1 ≤ j; omega)] at hj
                  cases hj
            have SH : SqT K H14 a' (.str k' :: r) := Sub.cut.seqT S'
            refine ⟨.ref a', rfl, a', _, 0, .str k', rfl, rfl, SH, atI_nat (j := 0) rfl, rfl, _, rfl, ite2 (fun e => ?_) (fun e => ?_)⟩
            · have ek : k' = "put" := V.str.inj (of_decide_eq_true e)
              rcases hcase with ⟨_, x1, x2, t, us, rfl, s2', hus⟩ | ⟨z, _⟩
              · have St2 : SqT K H14 t (us.map V.str) := Sub.cut.seqT s2'
                have ul : us.length ≤ 3 := by rw [hus]; exact dok.2
                refine ⟨.ref gl, rfl, .ref a', rfl, a', _, 3, .ref t, rfl, rfl, SH, atI_nat (j := 3) rfl, t, _, rfl, .inr St2, _, rfl, by omega, by rw [List.length_map]; omega, fun D4 hD4 => ?_⟩
                have nD4 : de ≠ D4 := ne_of_none ed14 hD4
                have CD4 : plus C de D4 = false := plus_no (held.no (freeD g14 tg s14 hD4)) nD4.symm
                have un : (((us.map V.str).length : Nat) : Int).toNat = us.length := by rw [List.length_map]; omega
                have heldde : Held (plus C de) H14 := (held.god g14 tg s14).plus ed14
                refine lc_range (lo := 0) (n := (((us.map V.str).length : Nat) : Int).toNat) (fun j H16 => Go T D0 H14 H16 ∧ ∃ acc, H16 D4 = some (.lst acc) ∧ acc.length = j ∧ DpAll K (cut (plus (plus C de) D4) H16) acc (((List.range j).map fun x => lnAt own (many + x)).map eL)) ?_ ?_ ?_
                · exact ⟨(Go.rfl' g14.1).new hD4, [], upd_same, rfl, .nil⟩
                · rintro j H16 hj ⟨g16, acc, eD4, hacc, hda⟩
                  rw [un] at hj
                  have en16 := g16.at g14.1 (fun z => z) en14
                  refine ⟨rfl, .ref nm, rfl, .int (many : Nat), rfl, .int (0 + (j : Nat)), rfl, (many : Nat), 0 + (j : Nat), rfl, rfl, ((many : Nat) : Int) + (0 + (j : Nat)), 1, rfl, rfl, small_le (by show 1 ≤ 10000; decide), fun t1 ht1 => ?_⟩
                  have g17 := g16.new (o := .tup [V.int (((many : Nat) : Int) + (0 + (j : Nat)) + 1)]) ht1
                  have en17 := (upd_ne (o := .tup [V.int (((many : Nat) : Int) + (0 + (j : Nat)) + 1)]) (ne_of_none en16 ht1)).trans en16
                  have eD17 := (upd_ne (o := .tup [V.int (((many : Nat) : Int) + (0 + (j : Nat)) + 1)]) (ne_of_none eD4 ht1)).trans eD4
                  have e17 : (upd H16 t1 (.tup [V.int (((many : Nat) : Int) + (0 + (j : Nat)) + 1)])) t1 = some (.tup [V.int (((many + j : Nat) : Int) + 1)]) := by rw [upd_same, show ((many : Nat) : Int) + (0 + (j : Nat)) + 1 = ((many + j : Nat) : Int) + 1 by omega]
                  have hda17 : DpAll K (cut (plus (plus C de) D4) (upd H16 t1 (.tup [V.int (((many : Nat) : Int) + (0 + (j : Nat)) + 1)]))) acc _ := Dp.subs (Sub.new ht1).cuts _ _ hda
                  generalize upd H16 t1 (.tup [V.int (((many : Nat) : Int) + (0 + (j : Nat)) + 1)]) = H17 at g17 en17 eD17 e17 hda17 ⊢
                  refine ⟨nm, t1, _, _, rfl, rfl, .inl (.inl en17), .inl (.inl e17), small_le (by show 3 ≤ 10000; decide), (fun z => by cases z), (fun _ z => by cases z), fun _ _ t2 ht2 => ?_⟩
                  have n2 : t2 ≠ D4 := fun z => ne_of_none eD17 ht2 z.symm
                  have C2 : plus C de t2 = false := heldde.no (g17.free g14.1 (fun z => z) ht2)
                  have eD18 := (upd_ne (o := .tup ([V.str own.1, .int own.2] ++ [V.int (((many + j : Nat) : Int) + 1)])) n2.symm).trans eD17
                  refine ⟨acc, eD18, small_line (by omega), (g17.new ht2).put hD4 eD18, acc ++ [.ref t2], upd_same, by rw [List.length_append, hacc]; rfl, ?_⟩
                  rw [cut_out plus_D, List.range_succ, List.map_append, List.map_append]
                  refine DpAll.app (Dp.subs (Sub.new ht2).cuts _ _ hda17) (.one ?_)
                  show Dp K (cut (plus (plus C de) D4) (upd H17 t2 (.tup [V.str own.1, .int own.2, V.int (((many + j : Nat) : Int) + 1)]))) (.ref t2) (.tuple [.str own.1, .int own.2, .int (((many + j : Nat) : Int) + 1)])
                  exact .tup (.inl (.inl ((cut_at (plus_no C2 n2)).trans upd_same))) (.cons (.str _) (.cons (.int _) (.cons (.int _) .nil)))
                · rintro H16 ⟨g16, acc, eD4, hacc, hda⟩
                  rw [un] at hacc hda
                  have eg16 := g16.at g14.1 (fun z => z) eg14
                  have ed16 := g16.at g14.1 (fun z => z) ed14
                  have gsl : gs.length ≤ 5000 := by rw [DpAll.len hgs', List.length_map]; exact gl5
                  refine ⟨gl, D4, gs, acc, rfl, rfl, eg16, eD4, small_le (by omega), fun q4 hq4 => ?_⟩
                  have g18 := g16.new (o := .lst (gs ++ acc)) hq4
                  have S18 : SqT K (upd H16 q4 (.lst (gs ++ acc))) a' [.str k', x1, x2, .ref t] := g18.seqT g14.1 (fun _ _ z => z) SH
                  have T18 : SqT K (upd H16 q4 (.lst (gs ++ acc))) t (us.map V.str) := g18.seqT g14.1 (fun _ _ z => z) St2
                  have ed18 := (upd_ne (o := .lst (gs ++ acc)) (ne_of_none ed16 hq4)).trans ed16
                  have n18 : q4 ≠ de := fun z => ne_of_none ed16 hq4 z.symm
                  have hg18 : DpAll K (cut (plus C de) (upd H16 q4 (.lst (gs ++ acc)))) (gs ++ acc) ((goodsAt hist ⟨own, knows, []⟩ (many + deed.texts.length)).map eL) := by
                    have e1 : goodsAt hist ⟨own, knows, []⟩ (many + deed.texts.length) = goodsAt hist ⟨own, knows, []⟩ many ++ (List.range us.length).map fun x => lnAt own (many + x) := by
                      unfold goodsAt ownLines
                      rw [List.range_add, List.map_append, List.append_assoc, List.map_map, hus]
                      rfl
                    rw [e1, List.map_append]
                    refine DpAll.app (Dp.subs ((sub_go g16 g14.1).trans (Sub.new hq4)).cuts _ _ hgs14) (Dp.subs ((Sub.less (H := H16) (plus_le (C := plus C de) (D := D4))).trans (Sub.new hq4).cuts) _ _ hda)
                  have e18 : (upd H16 q4 (.lst (gs ++ acc))) q4 = some (.lst (gs ++ acc)) := upd_same
                  generalize upd H16 q4 (.lst (gs ++ acc)) = H18 at g18 S18 T18 ed18 hg18 e18 ⊢
                  refine ⟨.int (many : Nat), rfl, .ref a', rfl, a', _, 3, .ref t, rfl, rfl, S18, atI_nat (j := 3) rfl, t, _, rfl, .inr T18, (many : Nat), _, rfl, rfl, ?_⟩
                  refine ⟨.ref de, rfl, .inl ⟨rfl, _, .inl (.inl ed18)⟩, .ref a', rfl, de, dv, .ref a', rfl, rfl, ed18, small_line (by omega), ?_⟩
                  refine fin H18 q4 (gs ++ acc) _ _ g18 n18 e18 hg18 ?_
                  rw [List.length_map, hus]
                  omega
              · exact absurd ek z
            · have ek : ¬ k' = "put" := fun z => e (decide_eq_true (by rw [z]))
              rcases hcase with ⟨z, _⟩ | ⟨_, hus⟩
              · exact absurd z ek
              · refine ⟨.ref de, rfl, .inl ⟨rfl, _, .inl (.inl ed14)⟩, .ref a', rfl, de, dv, .ref a', rfl, rfl, ed14, small_line (by omega), ?_⟩
                refine fin H14 gl gs _ _ (Go.rfl' g14.1) ng eg14 ?_ ?_
                · rw [hus]
                  exact hgs14
                · rw [hus]
                  rfl
          · rintro σ H13 ⟨gl, gs, dv, deeds, many, y12, y13, rfl, g13, s13, en, el', ng, eg, hgs', ed, hdv, hdl, hmany, hml, hdf⟩
            refine ⟨.ref nm, rfl, .ref l, rfl, .ref de, rfl, sm3, fun v hv => ?_⟩
            have Cv : C v = false := held.no (freeD g13 tg s13 hv)
            have sv := (Sub.new (o := .tup [V.ref nm, .ref l, .ref de]) hv)
            refine q _ _ ⟨own, knows, deeds⟩ (g13.new hv) (s13.new hv) ?_ ?_
            · refine .tup (xs := [V.ref nm, .ref l, .ref de]) (.inl (.inl ((cut_at Cv).trans upd_same))) (.cons ?_ (.cons ?_ (.one ?_)))
              · exact Dp.sub sv.cuts _ _ (.tup (.inl (.inl ((cut_at Cnm).trans en))) (.cons (.str _) (.cons (.int _) .nil)))
              · exact Dp.sub sv.cuts _ _ (.lst (.inl (.inl ((cut_at Cl).trans el'))) (Dp.subs (toC g13) _ _ dks))
              · exact Dp.sub sv.cuts _ _ (.lst (.inl (.inl ((cut_at Cde).trans ed))) (Dp.subs (Sub.less (plus_le (C := C) (D := de))) _ _ hdv))
            · refine ⟨by rw [← hown]; exact hmem, by rw [← hown], asc, kn, kl, by show 1 ≤ deeds.length; omega, by show deeds.length ≤ 3; omega, hdf⟩
end
end K1
set_option Elab.async false
set_option linter.all false
set_option maxRecDepth 100000
set_option maxHeartbeats 4000000
/-! The law's defs: a drawn history. -/
namespace K1
open PySem PySem.Spec PyProof.Rows L2

/-- list + list, either of any standing -/
def rCatS (K : PySem.W.Frag) : R2 := fun x y H Q => ∃ l b xs zs, x = .ref l ∧ y = .ref b ∧ SqL K H l xs ∧ SqL K H b zs ∧ xs.length + zs.length ≤ sizeLine ∧ ∀ p, H p = none → Q (.ref p) (upd H p (.lst (xs ++ zs)))
theorem op_catS {X : Cx} : OpR X (binaryOp .Add) (rCatS X.K) := by
  intro pins s σ H x y v u Q I rx ry h
  obtain ⟨l, b, xs, zs, rfl, rfl, hH, hB, hz, q⟩ := h
  cases rx
  cases ry
  obtain ⟨its, r, ⟨⟨cls, dd, data, sl⟩, n, ho, hc, hdn, hdt⟩, hl⟩ := I.list hH
  obtain ⟨its2, r2, ⟨⟨cls2, dd2, data2, sl2⟩, n2, ho2, hc2, hdn2, hdt2⟩, hl2⟩ := I.list hB
  simp only at hc hdt hc2 hdt2
  subst hc hdt hc2 hdt2
  have l1 := r.length
  have l2 := r2.length
  refine concat_meets ⟨_, ho, rfl⟩ ⟨_, ho2, rfl⟩ noFill_list_add seq_list_add PySem.F.slot_list_add PySem.F.entry_list_add (PySem.F.args_list_add_2 _ _) (PyProof.Rows.list_addW l b its.toArray its2.toArray n n2 dd dd2 sl sl2 (by rw [List.size_toArray, List.size_toArray]; omega)) ⟨ho, ho2, ?_⟩
  have ea : its.toArray ++ its2.toArray = (its ++ its2).toArray := by simp
  rw [ea]
  exact ⟨.ref _, _, I.lnew (t' := s.toks) (r.append r2) (by rw [List.length_append]; omega), rfl, q _ I.fresh⟩

section
variable {P : Program} {w : World} {K : PySem.W.Frag} {mg : Str → Option Value} {base : Heap} {T : Tp}

def spHist (K : PySem.W.Frag) (T : Tp) : Sp := fun vs H Q _ => ∃ (a : Addr) (ns : List Int) (m : Nat), vs = [.ref a, .int (m : Nat)] ∧ SqL K H a (ns.map V.int) ∧ ns.length ≤ 63 ∧ m ≤ 64 ∧ TG T H ∧
  ∀ H' p xs hist, Go T D0 H H' → H p = none → H' p = some (.lst xs) → DpAll K (cut (plus C0 p) H') xs (hist.map eP) → HistFrom menuH hist → hist.length = min m (ns.length + 1) → Q (.ref p) H'
theorem ok_lhist {f : Addr} {fd : FuncData} {k : Nat} (F : Fun K "_law_history" "_law_history" sLHist f fd) (M : Mg K mg) (cDr : Cal P w K mg base k "_law_draw" ["_law_cell", "_law_k"] spDraw)
    (cP : Cal P w K mg base k "_law_patch" ["_law_history_here", "_law_state"] (spPatch K T)) : FnOk P w K mg base CX0 (k + 1) f fd ["_law_script", "_law_most"] (spHist K T) := by
  refine F.ok scLHist (fun vs H Q E h => ?_) (fun cdv A outer s H vs Q E hr h => ?_)
  · obtain ⟨a, ns, m, rfl, _⟩ := h
    rfl
  · obtain ⟨a, ns, m, rfl, hS, nl, ml, tg, q⟩ := h
    refine ⟨_, (pss_cons (ps_set (i := 2) scLHist.nd rfl (.inl rfl) (pe_lst pa_nil))
      (pss_cons (ps_for PassesOwn.never rfl (pi_enum (by rfl) M.enum_ (pa_cons (pe_slice sl_list (pe_op op_catS (pv 0) (pe_lst (pa_cons (pe_callB (cr_sum rfl) (by rfl) M.sum_ (by decide +kernel) (pa_cons (pv 0) pa_nil)) pa_nil))) po_none (po_some (pv 1))) pa_nil)) (pg_tup rfl (pgs_cons (pg_name (i := 3) scLHist.nd rfl (.inl rfl)) (pgs_cons (pg_name (i := 4) scLHist.nd rfl (.inl rfl)) pgs_nil)))
      (pss_one (ps_expr (pe_bm PySem.F.plainAttrs_list PySem.F.slot_list_append PySem.F.type_list_append mt_append (pv 2) (pa_cons (pe_cal cP hr (by rfl) (pa_cons (pv 2) (pa_cons (pe_cal cDr hr (by rfl) (pa_cons (pv 4) (pa_cons (pe_op op_add pe_int (pv 3)) pa_nil))) pa_nil))) pa_nil)))))
      (pss_one (ps_ret (pv 2))))), ?_⟩
    refine ⟨Nat.zero_le _, fun p hp => ?_⟩
    have g1 : Go T D0 H (upd H p (.lst [])) := (Go.rfl' tg).new hp
    have e1 : (upd H p (.lst [])) p = some (.lst []) := upd_same
    generalize upd H p (.lst []) = H1 at g1 e1 ⊢
    have S1 := g1.seqL tg (fun _ _ z => z) hS
    refine ⟨.ref a, rfl, .ref a, rfl, a, ns, rfl, S1, small_le (by show 1 ≤ 10000; decide), fun b hb => ?_⟩
    have g2 := g1.new (o := .lst [V.int ns.sum]) hb
    have e2 := (upd_ne (o := .lst [V.int ns.sum]) (ne_of_none e1 hb)).trans e1
    have eb : (upd H1 b (.lst [V.int ns.sum])) b = some (.lst [V.int ns.sum]) := upd_same
    generalize upd H1 b (.lst [V.int ns.sum]) = H2 at g2 e2 eb ⊢
    refine ⟨a, b, _, _, rfl, rfl, g2.seqL tg (fun _ _ z => z) hS, .inl (.inl eb), small_le (by rw [List.length_map]; show ns.length + 1 ≤ 10000; omega), fun z hz => ?_⟩
    have g3 := g2.new (o := .lst (ns.map V.int ++ [V.int ns.sum])) hz
    have e3 := (upd_ne (o := .lst (ns.map V.int ++ [V.int ns.sum])) (ne_of_none e2 hz)).trans e2
    have ez : (upd H2 z (.lst (ns.map V.int ++ [V.int ns.sum]))) z = some (.lst ((ns ++ [ns.sum]).map V.int)) := by rw [upd_same, List.map_append]; rfl
    generalize upd H2 z (.lst (ns.map V.int ++ [V.int ns.sum])) = H3 at g3 e3 ez ⊢
    refine ⟨.int (m : Nat), rfl, (m : Nat), rfl, z, _, rfl, .inl (.inl ez), fun z2 hz2 => ?_⟩
    have ct : cutV ((ns ++ [ns.sum]).map V.int) none (some ((m : Nat) : Int)) = ((ns ++ [ns.sum]).take m).map V.int := by
      unfold cutV
      rw [HT.sIx_none, HT.sIx_nat, List.drop_zero, Nat.sub_zero, List.map_take]
      by_cases h : m ≤ ((ns ++ [ns.sum]).map V.int).length
      · rw [Nat.min_eq_left h]
      · rw [Nat.min_eq_right (by omega), List.take_of_length_le (Nat.le_refl _), List.take_of_length_le (by omega)]
    rw [ct]
    generalize hzs : (ns ++ [ns.sum]).take m = zs
    have zlen : zs.length = min m (ns.length + 1) := by rw [← hzs, List.length_take, List.length_append]; rfl
    have g4 := g3.new (o := .lst (zs.map V.int)) hz2
    have e4 := (upd_ne (o := .lst (zs.map V.int)) (ne_of_none e3 hz2)).trans e3
    have ez2 : (upd H3 z2 (.lst (zs.map V.int))) z2 = some (.lst (zs.map V.int)) := upd_same
    have nzp : z2 ≠ p := fun q => ne_of_none e3 hz2 q.symm
    generalize upd H3 z2 (.lst (zs.map V.int)) = H4 at g4 e4 ez2 ⊢
    refine ⟨z2, _, rfl, .inl (.inl ez2), ?_⟩
    refine for_it (walk_enum (K := K) (a := z2) (xs := zs.map V.int)) (fun i σ H5 => ∃ (xs : List V) (hist : List Pat) (y3 y4 : Option V), σ = [some (.ref a), some (.int (m : Nat)), some (.ref p), y3, y4] ∧ Go T D0 H H5 ∧ H5 z2 = some (.lst (zs.map V.int)) ∧ H5 p = some (.lst xs) ∧
      DpAll K (cut (plus C0 p) H5) xs (hist.map eP) ∧ HistFrom menuH hist ∧ hist.length = i) ?_ ?_ ?_ ?_
    · exact ⟨[], [], _, _, rfl, g4, ez2, e4, .nil, (fun i p h => by cases h), rfl⟩
    · rintro i σ H5 hi ⟨xs, hist, y3, y4, rfl, g5, ez5, _⟩
      exact .inl (.inl ez5)
    · rintro i v σ H5 H5' hi ⟨xs, hist, y3, y4, rfl, g5, ez5, ep5, hd5, hf, hl⟩ ⟨T', x', y', rfl, hT, rfl, hx', hy'⟩
      cases hx'
      have hy' : (zs.map V.int)[i]? = some y' := hy'
      have hi' : i < zs.length := by rw [List.length_map] at hi; exact hi
      rw [List.getElem?_map, List.getElem?_eq_getElem hi'] at hy'
      cases hy'
      have i64 : i ≤ 64 := by omega
      have g6 := g5.new (o := .tup [V.int (i : Nat), .int zs[i]]) hT
      have ez6 := (upd_ne (o := .tup [V.int (i : Nat), .int zs[i]]) (ne_of_none ez5 hT)).trans ez5
      have ep6 := (upd_ne (o := .tup [V.int (i : Nat), .int zs[i]]) (ne_of_none ep5 hT)).trans ep5
      have hd6 := Dp.subs (Sub.new (o := .tup [V.int (i : Nat), .int zs[i]]) hT).cuts _ _ hd5
      refine ⟨T', _, rfl, .inl (.inl upd_same), rfl, _, _, rfl, _, _, rfl, rfl, ?_⟩
      generalize upd H5 T' (.tup [V.int (i : Nat), .int zs[i]]) = H6 at g6 ez6 ep6 hd6 ⊢
      refine ⟨.ref p, rfl, .inl ⟨rfl, _, .inl (.inl ep6)⟩, .ref p, rfl, .int zs[i], rfl, .int (i : Nat), rfl, 10, (i : Nat), rfl, rfl, zs[i], 10 + ((i : Nat) : Int), rfl, by omega, by omega, fun dd ra rb ha hb hdd => ?_⟩
      have g7 : Go T (· = dd) H (upd H6 dd (.dK (stD ra rb))) := (g6.new hdd).up
      have ez7 := (upd_ne (o := .dK (stD ra rb)) (ne_of_none ez6 hdd)).trans ez6
      have ep7 := (upd_ne (o := .dK (stD ra rb)) (ne_of_none ep6 hdd)).trans ep6
      have hd7 := Dp.subs (Sub.new (o := .dK (stD ra rb)) hdd).cuts _ _ hd6
      have s7 : St (upd H6 dd (.dK (stD ra rb))) dd := ⟨ra, rb, ha, hb, upd_same⟩
      have fd : H dd = none := g6.free tg (fun z => z) hdd
      generalize upd H6 dd (.dK (stD ra rb)) = H7 at g7 ez7 ep7 hd7 s7 ⊢
      have held7 : Held (plus C0 p) H7 := Held.plus (fun a ha => by cases ha) ep7
      refine ⟨.ref p, dd, hist, plus C0 p, rfl, s7, ⟨p, xs, rfl, .inl (.inl ep7), hd7⟩, hf, by omega, held7, g7.1, fun H8 v pat g8 s8 dp hpat => ?_⟩
      have ez8 := g8.at g7.1 (s7.ne ez7) ez7
      have ep8 := g8.at g7.1 (s7.ne ep7) ep7
      have hd8 := Dp.subs (s7.sub g8 g7.1).cuts _ _ hd7
      have xl : xs.length = hist.length := by rw [DpAll.len hd8, List.length_map]
      have g08 : Go T D0 H H8 := (g7.trans g8).drop fd
      refine ⟨p, xs, v, rfl, rfl, ep8, small_line (by omega), xs ++ [v], hist ++ [pat], _, _, rfl, g08.put hp ep8, (upd_ne nzp).trans ez8, upd_same, ?_, hf.snoc hpat, by rw [List.length_append, hl]; rfl⟩
      rw [cut_out plus_D, List.map_append]
      exact hd8.app (.one dp)
    · rintro σ H5 ⟨xs, hist, y3, y4, rfl, g5, ez5, ep5, hd5, hf, hl⟩
      rw [List.length_map] at hl
      exact ⟨.ref p, rfl, q H5 p xs hist g5 hp ep5 hd5 hf (hl.trans zlen)⟩
end
end K1
set_option Elab.async false
set_option linter.all false
set_option maxRecDepth 100000
set_option maxHeartbeats 4000000
/-! The law's defs: rows of patches. -/
namespace K1
open PySem PySem.Spec PyProof.Rows L2

abbrev num (i : Int) : Str := Str.ofString (toString i)
def nmTxt (n : Nm) : Str := n.1 ++ "." ++ num n.2
def lnTxt (l : Ln) : Str := if l = headL then "head" else if l = footL then "foot" else l.1 ++ "." ++ num l.2.1 ++ "." ++ num l.2.2
def Deed.kind : Deed → Str
  | .put _ _ _ => "put"
  | .order _ _ => "order"
  | .one k _ => kindS k
def Deed.lines : Deed → List Ln
  | .put a b _ => [a, b]
  | .order a b => [a, b]
  | .one _ a => [a]
def deedRows (d : Deed) : List Str := Txt.join " " (d.kind :: d.lines.map lnTxt) :: d.texts.map fun t => "+" ++ t
def knownWords (ns : List Nm) : List Str := if ns = [] then ["none"] else ns.map nmTxt
def rowsOf (p : Pat) : List Str := ("patch " ++ p.name.1 ++ " " ++ num p.name.2) :: Txt.join " " ("knows" :: knownWords p.knows) :: p.deeds.flatMap deedRows
theorem twice2 {A G : Addr → Hp → Prop} {P : Prop} (h : ∀ z H2, A z H2 → G z H2) (use : (∀ z H2, A z H2 → G z H2) → P) : P := use h
theorem len_app (a b : Str) : (a ++ b).length = a.length + b.length := by rw [TL.len_tl, TL.tl_append, List.length_append, ← TL.len_tl, ← TL.len_tl]
theorem asc_num {i : Int} (h0 : 0 ≤ i) : Asc (Str.ofString (toString i)) := by
  obtain ⟨n, rfl⟩ := Int.eq_ofNat_of_zero_le h0
  intro c hc
  rw [TL.tl_num] at hc
  have := TL.numL_digits n c hc
  omega
theorem asc_app {a b : Str} (h : Asc a) (h' : Asc b) : Asc (a ++ b) := by
  intro c hc
  rw [TL.tl_append] at hc
  rcases List.mem_append.mp hc with h1 | h1
  · exact h c h1
  · exact h' c h1
theorem asc_dot : Asc "." := by
  have e : (TL.tl ("." : Str)).all (fun c => decide (c < 128)) = true := by decide +kernel
  exact fun c hc => of_decide_eq_true (List.all_eq_true.mp e c hc)
theorem hand_asc {x : Str} (h : handV (.str x) = true) : Asc x := by
  have w : wordOk x = true := (Bool.and_eq_true_iff.mp h).1
  have w1 := Bool.and_eq_true_iff.mp w
  intro c hc
  have := of_decide_eq_true (List.all_eq_true.mp w1.2 c hc)
  have e : ltrs.cps.toList.all (fun c => decide (c < 128)) = true := by decide +kernel
  exact of_decide_eq_true (List.all_eq_true.mp e c this)
theorem nmTxt_ok {n : Nm} (h : NmOk n) : PyData.strOk (nmTxt n) = true :=
  Asc.ok (asc_app (asc_app (hand_asc h.1) asc_dot) (asc_num (Int.le_trans (by decide) h.2.1)))
theorem sum_le {c : Nat} : ∀ {l : List Str}, (∀ x ∈ l, x.length ≤ c) → (l.map (·.length)).sum ≤ c * l.length
  | [], _ => Nat.zero_le _
  | x :: r, h => by
    have h1 := h x (List.mem_cons_self ..)
    have h2 := sum_le (l := r) fun y m => h y (List.mem_cons_of_mem _ m)
    rw [List.map_cons, List.sum_cons, List.length_cons, Nat.mul_add, Nat.mul_one]
    omega
theorem lnTxt_len {l : Ln} (h : EdOk l) (s : l.2.2 < 1000000) : (lnTxt l).length ≤ 30 := by
  have dot : ("." : Str).length = 1 := by decide +kernel
  rcases h with h | rfl | rfl
  · unfold lnTxt
    have h8 : l.1.length ≤ 8 := (handOk h.1.1).2
    have n1 := len_num (i := l.2.1) (by have := h.1.2.1; exact Int.le_trans (by decide) this) (by have := h.1.2.2; exact Int.lt_of_le_of_lt this (by decide))
    have n2 := len_num (i := l.2.2) (by have := h.2; omega) s
    split
    · decide +kernel
    · split
      · decide +kernel
      · show (l.1 ++ "." ++ Str.ofString (toString l.2.1) ++ "." ++ Str.ofString (toString l.2.2) : Str).length ≤ 30
        simp only [len_app, dot]
        omega
  · decide +kernel
  · decide +kernel
theorem kind_len (d : Deed) : d.kind.length ≤ 5 := by
  cases d with
  | put => show ("put" : Str).length ≤ 5; decide +kernel
  | order => show ("order" : Str).length ≤ 5; decide +kernel
  | one k => show (kindS k).length ≤ 5; cases k <;> decide +kernel
theorem lines_len : ∀ d : Deed, d.lines.length ≤ 2
  | .put _ _ _ => Nat.le_refl 2
  | .order _ _ => Nat.le_refl 2
  | .one _ _ => Nat.le_succ 1
theorem kindS_put (k : Bool) : kindS k ≠ "put" := by cases k <;> decide +kernel
theorem kindS_order (k : Bool) : kindS k ≠ "order" := by cases k <;> decide +kernel
theorem deed_ed {d : Deed} (h : d.ok) : ∀ l ∈ d.lines, EdOk l := by
  cases d with
  | put a b ts =>
    intro l hl
    simp only [Deed.lines, List.mem_cons, List.not_mem_nil, or_false] at hl
    rcases hl with rfl | rfl
    · exact h.1
    · exact h.2.1
  | order a b =>
    intro l hl
    simp only [Deed.lines, List.mem_cons, List.not_mem_nil, or_false] at hl
    rcases hl with rfl | rfl
    · exact .inl h.1
    · exact .inl h.2
  | one k a =>
    intro l hl
    simp only [Deed.lines, List.mem_cons, List.not_mem_nil, or_false] at hl
    rw [hl]
    exact .inl h
theorem deed_tx {d : Deed} (h : d.ok) : ∀ t ∈ d.texts, TxOk t := by
  cases d with
  | put a b ts => exact h.2.2
  | order a b => intro t ht; cases ht
  | one k a => intro t ht; cases ht
theorem deed_parts {K : PySem.W.Frag} {H : Hp} {v : V} : ∀ {d : Deed}, Dp K H v (eD d) → ∃ a lvs tl, v = .ref a ∧ SqT K H a (.str d.kind :: (lvs ++ tl)) ∧ DpAll K H lvs (d.lines.map eL) ∧
    ((d.kind = "put" ∧ lvs.length = 2 ∧ ∃ t, tl = [.ref t] ∧ SqT K H t (d.texts.map V.str)) ∨ (d.kind = "order" ∧ lvs.length = 2 ∧ tl = [] ∧ d.texts = []) ∨ (d.kind ≠ "put" ∧ d.kind ≠ "order" ∧ lvs.length = 1 ∧ tl = [] ∧ d.texts = []))
  | .put a b ts, h => by
    obtain ⟨p, xs, rfl, s, q⟩ := Dp.tupI h
    obtain ⟨x, y, z, u, rfl, q1, q2, q3, q4⟩ := DpAll.i4 q
    cases Dp.strI q1
    obtain ⟨t, us, rfl, s2, q5⟩ := Dp.tupI q4
    rw [strs_of q5] at s2
    exact ⟨p, [y, z], [.ref t], rfl, s, .cons q2 (.one q3), .inl ⟨rfl, rfl, t, rfl, s2⟩⟩
  | .order a b, h => by
    obtain ⟨p, xs, rfl, s, q⟩ := Dp.tupI h
    obtain ⟨x, y, z, rfl, q1, q2, q3⟩ := DpAll.i3 q
    cases Dp.strI q1
    exact ⟨p, [y, z], [], rfl, s, .cons q2 (.one q3), .inr (.inl ⟨rfl, rfl, rfl, rfl⟩)⟩
  | .one k a, h => by
    obtain ⟨p, xs, rfl, s, q⟩ := Dp.tupI h
    obtain ⟨x, y, rfl, q1, q2⟩ := DpAll.i2 q
    cases Dp.strI q1
    exact ⟨p, [y], [], rfl, s, .one q2, .inr (.inr ⟨kindS_put k, kindS_order k, rfl, rfl, rfl⟩)⟩
theorem deedRows_len (d : Deed) : (deedRows d).length = 1 + d.texts.length := by
  unfold deedRows
  rw [List.length_cons, List.length_map]
  omega
theorem rows_len (ds : List Deed) : (ds.flatMap deedRows).length = ds.length + (ds.flatMap Deed.texts).length := by
  induction ds with
  | nil => rfl
  | cons d r ih =>
    rw [List.flatMap_cons, List.flatMap_cons, List.length_append, List.length_append, ih, deedRows_len, List.length_cons]
    omega
/-- a line whose place is small -/
def EdS (l : Ln) : Prop := EdOk l ∧ l.2.2 < 1000000

section
variable {P : Program} {w : World} {K : PySem.W.Frag} {mg : Str → Option Value} {base : Heap} {T : Tp}

def spLineW (K : PySem.W.Frag) (T : Tp) : Sp := fun vs H Q _ => ∃ v l, vs = [v] ∧ Dp K H v (eL l) ∧ EdS l ∧ TG T H ∧ ∀ H', Go T D0 H H' → Q (.str (lnTxt l)) H'
theorem ok_llinew {f : Addr} {fd : FuncData} {k : Nat} (F : Fun K "_law_line_word" "_law_line_word" sLLineWord f fd) (M : Mg K mg) : FnOk P w K mg base CX0 (k + 1) f fd ["_law_line"] (spLineW K T) := by
  refine F.ok scLLineWord (fun vs H Q E h => ?_) (fun cdv A outer s H vs Q E hr h => ?_)
  · obtain ⟨v, l, rfl, _⟩ := h
    rfl
  · obtain ⟨v, l, rfl, dp, es, tg, q⟩ := h
    refine ⟨_, (pss_cons (ps_if (pt_cmpR op_eq (pe_ix ix_tup (pv 0) pe_int (fun _ _ => rfl)) pe_str (nomark _))
      (pss_one (ps_ret (pe_ix ix_list (pe_lst (pa_cons pe_str (pa_cons pe_str pa_nil))) (pe_ix ix_tup (pv 0) pe_int (fun _ _ => rfl)) (fun _ _ => rfl))))
      pss_nil)
      (pss_one (ps_ret (pe_op op_add_str (pe_op op_add_str (pe_op op_add_str (pe_op op_add_str (pe_ix ix_tup (pv 0) pe_int (fun _ _ => rfl)) pe_str) (pe_callTy call_str_int (by rfl) M.str_ boot_str (pa_cons (pe_ix ix_tup (pv 0) pe_int (fun _ _ => rfl)) pa_nil))) pe_str) (pe_callTy call_str_int (by rfl) M.str_ boot_str (pa_cons (pe_ix ix_tup (pv 0) pe_int (fun _ _ => rfl)) pa_nil)))))), ?_⟩
    obtain ⟨a, _, rfl, S, d3⟩ := Dp.tupI dp
    obtain ⟨x, y, z, rfl, d1, d2, d4⟩ := DpAll.i3 d3
    cases Dp.strI d1
    cases Dp.intI d2
    cases Dp.intI d4
    have low : ∀ {l : Ln}, LnOk l → l.1 ≠ "" := fun h z => by
      have : handV (.str (nmOf _).1) = true := h.1.1
      unfold nmOf at this
      rw [z] at this
      revert this
      decide +kernel
    obtain ⟨eo, sm⟩ := es
    refine ⟨.ref a, rfl, a, _, 0, .str l.1, rfl, rfl, S, atI_nat (j := 0) rfl, rfl, _, rfl, ite2 (fun e => ?_) (fun e => ?_)⟩
    · have e' : l.1 = "" := V.str.inj (of_decide_eq_true e)
      refine ⟨small_le (by decide), fun m hm => ⟨.ref a, rfl, a, _, 2, .int l.2.2, rfl, rfl, (Sub.new hm).seqT S, atI_nat (j := 2) rfl, ?_⟩⟩
      have em : (upd H m (.lst [V.str "head", .str "foot"])) m = some (.lst [V.str "head", .str "foot"]) := upd_same
      rcases eo with h | rfl | rfl
      · exact absurd e' (low h)
      · refine ⟨m, _, 0, .str "head", rfl, rfl, .inl (.inl em), atI_nat (j := 0) rfl, ?_⟩
        have q2 := q _ ((Go.rfl' tg).new (o := .lst [V.str "head", .str "foot"]) hm)
        rw [show lnTxt headL = "head" from if_pos rfl] at q2
        exact q2
      · refine ⟨m, _, 1, .str "foot", rfl, rfl, .inl (.inl em), atI_nat (j := 1) rfl, ?_⟩
        have q2 := q _ ((Go.rfl' tg).new (o := .lst [V.str "head", .str "foot"]) hm)
        rw [show lnTxt footL = "foot" from (if_neg (fun z => headL_ne_foot z.symm)).trans (if_pos rfl)] at q2
        exact q2
    · have e' : ¬ l.1 = "" := fun z => e (decide_eq_true (by rw [z]))
      have ok : LnOk l := by
        rcases eo with h | rfl | rfl
        · exact h
        · exact absurd rfl e'
        · exact absurd rfl e'
      have e2 : lnTxt l = l.1 ++ "." ++ num l.2.1 ++ "." ++ num l.2.2 := by
        unfold lnTxt
        rw [if_neg (fun z => e' (by rw [z]; rfl)), if_neg (fun z => e' (by rw [z]; rfl))]
      have q := q H (Go.rfl' tg)
      rw [e2] at q
      have hl : l.1.length ≤ 8 := (handOk ok.1.1).2
      have hn := len_num (i := l.2.1) (by have := ok.1.2.1; exact Int.le_trans (by decide) this) (by have := ok.1.2.2; exact Int.lt_of_le_of_lt this (by decide))
      have hm := len_num (i := l.2.2) (by have := ok.2; omega) sm
      have dot : ("." : Str).length = 1 := by decide +kernel
      have lapp : ∀ a b : Str, (a ++ b).length = a.length + b.length := fun a b => by rw [TL.len_tl, TL.tl_append, List.length_append, ← TL.len_tl, ← TL.len_tl]
      refine ⟨.ref a, rfl, a, _, 0, .str l.1, rfl, rfl, S, atI_nat (j := 0) rfl, l.1, ".", rfl, rfl, small_le (by rw [dot]; omega), ?_⟩
      refine ⟨.ref a, rfl, a, _, 1, .int l.2.1, rfl, rfl, S, atI_nat (j := 1) rfl, l.2.1, rfl, log_small (by have := ok.1.2.1; exact Int.le_trans (by decide) this) (by have := ok.1.2.2; exact Int.lt_of_le_of_lt this (by decide)), ?_⟩
      refine ⟨_, _, rfl, rfl, small_le (by simp only [lapp, dot]; omega), _, _, rfl, rfl, small_le (by simp only [lapp, dot]; omega), ?_⟩
      refine ⟨.ref a, rfl, a, _, 2, .int l.2.2, rfl, rfl, S, atI_nat (j := 2) rfl, l.2.2, rfl, log_small (by have := ok.2; omega) sm, ?_⟩
      exact ⟨_, _, rfl, rfl, small_le (by simp only [lapp, dot]; omega), q⟩

def spRows (K : PySem.W.Frag) (T : Tp) : Sp := fun vs H Q _ => ∃ (n kv dv : V) (p : Pat), vs = [n, kv, dv] ∧ Dp K H n (eN p.name) ∧ Dp K H kv (.list (p.knows.map eN)) ∧ Dp K H dv (.list (p.deeds.map eD)) ∧ p.ok ∧ (∀ d ∈ p.deeds, ∀ l ∈ d.lines, l.2.2 < 1000000) ∧ p.knows.length ≤ 1000 ∧ (textsOf p).length ≤ 1000 ∧ p.deeds.length ≤ 1000 ∧ TG T H ∧
  ∀ H' l, Go T D0 H H' → H l = none → H' l = some (.lst ((rowsOf p).map V.str)) → Q (.ref l) H'
theorem ok_lrows {f : Addr} {fd : FuncData} {k : Nat} (F : Fun K "_law_patch_rows" "_law_patch_rows" sLPatchRows f fd) (M : Mg K mg) (cW : Cal P w K mg base k "_law_line_word" ["_law_line"] (spLineW K T)) :
    FnOk P w K mg base CX0 (k + 1) f fd ["_law_name", "_law_knows", "_law_deeds"] (spRows K T) := by
  refine F.ok scLPatchRows (fun vs H Q E h => ?_) (fun cdv A outer s H vs Q E hr h => ?_)
  · obtain ⟨n, kv, dv, p, rfl, _⟩ := h
    rfl
  · obtain ⟨n, kv, dv, p, rfl, dn, dk, dd, pok, psm, l1, l2, l3, tg, q⟩ := h
    refine ⟨_, (pss_cons (ps_setLc (i := 4) (own := [("_law_one", 3)]) (g := gName 3) (tt := tYes) rfl scLPatchRows.nd rfl rfl (sw_true rfl rfl rfl (by decide +kernel)) (pi_list (pv 1)) (blkOk_by (N := ["_law_name", "_law_knows", "_law_deeds", "_law_one", "_law_known_here", "_law_found", "_law_deed_here", "_law_lines_here", "_law_line", "_law_text"]) (sc := defScope sLPatchRows) (by decide +kernel)) (fun _ _ _ _ _ => (pg_name (i := 3) scLPatchRows.nd rfl (Or.inl rfl))) (fun _ _ _ _ _ => pts_nil) (fun _ _ _ _ _ => (pe_op op_add_str (pe_op op_add_str (pe_ix (show IxR _ (rIxT K) from ix_tup) (pv 3) pe_int (fun _ _ => rfl)) pe_str) (pe_callTy call_str_int (by rfl) M.str_ boot_str (pa_cons (pe_ix (show IxR _ (rIxT K) from ix_tup) (pv 3) pe_int (fun _ _ => rfl)) pa_nil)))))
      (pss_cons (ps_set (i := 5) scLPatchRows.nd rfl (.inl rfl) (pe_lst (pa_cons (pe_op op_add_str (pe_op op_add_str (pe_op op_add_str pe_str (pe_ix ix_tup (pv 0) pe_int (fun _ _ => rfl))) pe_str) (pe_callTy call_str_int (by rfl) M.str_ boot_str (pa_cons (pe_ix ix_tup (pv 0) pe_int (fun _ _ => rfl)) pa_nil))) (pa_cons (pe_join pe_str (pe_op op_cat (pe_lst (pa_cons pe_str pa_nil)) (pe_ifExp (pt_cmpR (op_neD hr.units) (pv 4) (pe_lst pa_nil) (nomark _)) (pv 4) (pe_lst (pa_cons pe_str pa_nil))))) pa_nil))))
      (pss_cons (ps_for PassesOwn.never rfl (pi_list (pv 2)) (pg_name (i := 6) scLPatchRows.nd rfl (.inl rfl))
      (pss_cons (ps_set (i := 7) scLPatchRows.nd rfl (.inl rfl) (pe_ifExp (pt_cmpR op_in_seq (pe_ix ix_tup (pv 6) pe_int (fun _ _ => rfl)) (pe_tup (pa_cons pe_str (pa_cons pe_str pa_nil))) (by rfl)) (pe_slice sl_tupA (pv 6) (po_some pe_int) (po_some pe_int)) (pe_slice sl_tupA (pv 6) (po_some pe_int) po_none)))
      (pss_cons (ps_expr (pe_bm PySem.F.plainAttrs_list PySem.F.slot_list_append PySem.F.type_list_append mt_append (pv 5) (pa_cons (pe_join pe_str (pe_op op_cat (pe_lst (pa_cons (pe_ix ix_tup (pv 6) pe_int (fun _ _ => rfl)) pa_nil)) (pe_lc (own := [("_law_line", 8)]) (g := gName 8) (tt := tYes) rfl scLPatchRows.nd (pi_tup (pv 7)) (blkOk_by (N := ["_law_name", "_law_knows", "_law_deeds", "_law_one", "_law_known_here", "_law_found", "_law_deed_here", "_law_lines_here", "_law_line", "_law_text"]) (sc := defScope sLPatchRows) (by decide +kernel)) (fun _ _ _ _ _ => (pg_name (i := 8) scLPatchRows.nd rfl (Or.inl rfl))) (fun _ _ _ _ _ => pts_nil) (fun _ _ _ _ _ => (pe_cal cW hr (by rfl) (pa_cons (pv 8) pa_nil)))))) pa_nil)))
      (pss_one (ps_set (i := 5) scLPatchRows.nd rfl (.inl rfl) (pe_op op_cat (pv 5) (pe_ifExp (pt_cmpR op_eq (pe_ix ix_tup (pv 6) pe_int (fun _ _ => rfl)) pe_str (nomark _)) (pe_lc (own := [("_law_text", 9)]) (g := gName 9) (tt := tYes) rfl scLPatchRows.nd (pi_tup (pe_ix ix_tup (pv 6) pe_int (fun _ _ => rfl))) (blkOk_by (N := ["_law_name", "_law_knows", "_law_deeds", "_law_one", "_law_known_here", "_law_found", "_law_deed_here", "_law_lines_here", "_law_line", "_law_text"]) (sc := defScope sLPatchRows) (by decide +kernel)) (fun _ _ _ _ _ => (pg_name (i := 9) scLPatchRows.nd rfl (Or.inl rfl))) (fun _ _ _ _ _ => pts_nil) (fun _ _ _ _ _ => (pe_op op_add_str pe_str (pv 9)))) (pe_lst pa_nil))))))))
      (pss_one (ps_ret (pv 5)))))), ?_⟩
    have toH : ∀ {H'}, Go T D0 H H' → Sub H H' := fun g => sub_go g tg
    obtain ⟨an, _, rfl, Sn, d3⟩ := Dp.tupI dn
    obtain ⟨x, y, rfl, d1, d2⟩ := DpAll.i2 d3
    cases Dp.strI d1
    cases Dp.intI d2
    obtain ⟨ak, kvs, rfl, Sk, dks⟩ := Dp.lstI dk
    obtain ⟨ad, dvs, rfl, Sd, dds⟩ := Dp.lstI dd
    have klen : kvs.length = p.knows.length := by rw [DpAll.len dks, List.length_map]
    have dlen : dvs.length = p.deeds.length := by rw [DpAll.len dds, List.length_map]
    have numOf : ∀ {n : Nm}, NmOk n → n.2.natAbs.log2 < 1920 ∧ (Str.ofString (toString n.2)).length ≤ 10 ∧ n.1.length ≤ 8 := fun h =>
      ⟨log_small (Int.le_trans (by decide) h.2.1) (Int.lt_of_le_of_lt h.2.2 (by decide)), len_num (Int.le_trans (by decide) h.2.1) (Int.lt_of_le_of_lt h.2.2 (by decide)), (handOk h.1).2⟩
    have dot : ("." : Str).length = 1 := by decide +kernel
    have nmLen : ∀ {n : Nm}, NmOk n → (nmTxt n).length ≤ 19 := fun h => by
      have := numOf h
      show (_ ++ "." ++ Str.ofString (toString _) : Str).length ≤ 19
      simp only [len_app, dot]
      omega
    refine ⟨.ref ak, rfl, ak, rfl, ⟨kvs, Sk⟩, fun D hD => ?_⟩
    refine lc_list (K := K) (a := ak) (xs := kvs) (fun i H1 => Go T D0 H H1 ∧ H1 D = some (.lst (((p.knows.take i).map nmTxt).map V.str))) ?_ ?_ ?_ ?_
    · exact ⟨(Go.rfl' tg).new hD, upd_same⟩
    · rintro i H1 hi ⟨g1, _⟩
      exact (toH g1).seqL Sk
    · rintro i v H1 hv ⟨g1, eD⟩
      obtain ⟨d', hd', hv'⟩ := DpAll.at' dks hv
      obtain ⟨n, hn, rfl⟩ := at_map hd'
      have nok := pok.knows n (List.mem_of_getElem? hn)
      obtain ⟨b1, b2, b3⟩ := numOf nok
      obtain ⟨a, _, rfl, S, d3⟩ := Dp.tupI hv'
      obtain ⟨x, y, rfl, d1, d2⟩ := DpAll.i2 d3
      cases Dp.strI d1
      cases Dp.intI d2
      have S1 := (toH g1).seqT S
      have hi : i < kvs.length := (List.getElem?_eq_some_iff.mp hv).1
      refine ⟨rfl, .ref a, rfl, a, _, 0, .str n.1, rfl, rfl, S1, atI_nat (j := 0) rfl, n.1, ".", rfl, rfl, small_le (by simp only [dot]; omega), ?_⟩
      refine ⟨.ref a, rfl, a, _, 1, .int n.2, rfl, rfl, S1, atI_nat (j := 1) rfl, n.2, rfl, b1, _, _, rfl, rfl, small_le (by simp only [len_app, dot]; omega), ?_⟩
      refine ⟨_, eD, small_line (by rw [List.length_map, List.length_map, List.length_take]; omega), g1.put hD eD, ?_⟩
      rw [upd_same, List.take_add_one, hn, List.map_append, List.map_append]
      rfl
    · rintro H1 ⟨g1, eD⟩
      rw [klen, List.take_length] at eD
      obtain ⟨b1, b2, b3⟩ := numOf pok.name
      have S1 := (toH g1).seqT Sn
      have pl : ("patch " : Str).length = 6 := by decide +kernel
      have bl : (" " : Str).length = 1 := by decide +kernel
      refine ⟨.ref an, rfl, an, _, 0, .str p.name.1, rfl, rfl, S1, atI_nat (j := 0) rfl, "patch ", p.name.1, rfl, rfl, small_le (by simp only [pl]; omega), _, " ", rfl, rfl, small_le (by simp only [len_app, pl, bl]; omega), ?_⟩
      refine ⟨.ref an, rfl, an, _, 1, .int p.name.2, rfl, rfl, S1, atI_nat (j := 1) rfl, p.name.2, rfl, b1, _, _, rfl, rfl, small_le (by simp only [len_app, pl, bl]; omega), ?_⟩
      apply twice2 (A := fun z H2 => Go T D0 H H2 ∧ H2 z = some (.lst ((("knows" :: knownWords p.knows : List Str)).map V.str)))
      case use =>
        intro rest
        have kOk : ((p.knows.map nmTxt).map V.str).all okV = true := by
          rw [List.all_map, List.all_map]
          refine List.all_eq_true.mpr fun n hn => ?_
          exact nmTxt_ok (pok.knows n hn)
        refine ⟨⟨" ", rfl⟩, small_le (by decide), fun b1 hb1 => ?_⟩
        have g2 := g1.new (o := .lst [V.str "knows"]) hb1
        have eD2 := (upd_ne (o := .lst [V.str "knows"]) (ne_of_none eD hb1)).trans eD
        have eb1 : (upd H1 b1 (.lst [V.str "knows"])) b1 = some (.lst [V.str "knows"]) := upd_same
        generalize upd H1 b1 (.lst [V.str "knows"]) = H2 at g2 eD2 eb1 ⊢
        refine ⟨.ref D, rfl, Nat.zero_le _, fun b2 hb2 => ?_⟩
        have g3 := g2.new (o := .lst []) hb2
        have eD3 := (upd_ne (o := .lst []) (ne_of_none eD2 hb2)).trans eD2
        have eb13 := (upd_ne (o := .lst []) (ne_of_none eb1 hb2)).trans eb1
        have eb2 : (upd H2 b2 (.lst [])) b2 = some (.lst []) := upd_same
        generalize upd H2 b2 (.lst []) = H3 at g3 eD3 eb13 eb2 ⊢
        refine ⟨_, _, dp_lst (.inl (.inl eD3)) kOk, .lst (xs := []) (.inl (.inl eb2)) .nil, sh_lst kOk, rfl, _, rfl, ?_⟩
        have ne : (!PyData.eqv (.list (((p.knows.map nmTxt).map V.str).map pd)) (.list [])) = decide (p.knows ≠ []) := by
          cases p.knows with
          | nil => rfl
          | cons x r => simp [PyData.eqv, PyData.eqvAll]
        rw [ne]
        have kn : ((p.knows.map nmTxt).map V.str).length ≤ 1000 := by rw [List.length_map, List.length_map]; exact l1
        refine ite2 (fun e => ?_) (fun e => ?_)
        · have hne : p.knows ≠ [] := of_decide_eq_true e
          refine ⟨.ref D, rfl, b1, D, _, _, rfl, rfl, eb13, eD3, small_le (by show 1 + _ ≤ 10000; omega), fun z hz => ?_⟩
          have g4 := g3.new (o := .lst ([V.str "knows"] ++ (p.knows.map nmTxt).map V.str)) hz
          have ez : (upd H3 z (.lst ([V.str "knows"] ++ (p.knows.map nmTxt).map V.str))) z = some (.lst ((("knows" :: knownWords p.knows : List Str)).map V.str)) := by
            rw [upd_same]
            unfold knownWords
            rw [if_neg hne]
            rfl
          generalize upd H3 z (.lst ([V.str "knows"] ++ (p.knows.map nmTxt).map V.str)) = H4 at g4 ez ⊢
          exact rest z H4 ⟨g4, ez⟩
        · have heq : p.knows = [] := by simpa using e
          refine ⟨small_le (by decide), fun b3 hb3 => ?_⟩
          have g4 := g3.new (o := .lst [V.str "none"]) hb3
          have eb14 := (upd_ne (o := .lst [V.str "none"]) (ne_of_none eb13 hb3)).trans eb13
          have eb3 : (upd H3 b3 (.lst [V.str "none"])) b3 = some (.lst [V.str "none"]) := upd_same
          generalize upd H3 b3 (.lst [V.str "none"]) = H4 at g4 eb14 eb3 ⊢
          refine ⟨b1, b3, _, _, rfl, rfl, eb14, eb3, small_le (by decide), fun z hz => ?_⟩
          have g5 := g4.new (o := .lst ([V.str "knows"] ++ [V.str "none"])) hz
          have ez : (upd H4 z (.lst ([V.str "knows"] ++ [V.str "none"]))) z = some (.lst ((("knows" :: knownWords p.knows : List Str)).map V.str)) := by
            rw [upd_same]
            unfold knownWords
            rw [if_pos heq]
            rfl
          generalize upd H4 z (.lst ([V.str "knows"] ++ [V.str "none"])) = H5 at g5 ez ⊢
          exact rest z H5 ⟨g5, ez⟩
      case h =>
        rintro z H2 ⟨g2, ez⟩
        refine ⟨" ", z, _, rfl, rfl, .inl (.inl (.inl ez)), ?_, ?_⟩
        · have k19 : ∀ x ∈ ("knows" :: knownWords p.knows : List Str), x.length ≤ 19 := by
            intro x hx
            rcases List.mem_cons.mp hx with rfl | hx
            · decide +kernel
            · unfold knownWords at hx
              split at hx
              · rw [List.mem_singleton.mp hx]
                decide +kernel
              · obtain ⟨n, hn, rfl⟩ := List.mem_map.mp hx
                exact nmLen (pok.knows n hn)
          have kc : ("knows" :: knownWords p.knows : List Str).length ≤ 1002 := by
            unfold knownWords
            split
            · decide
            · rw [List.length_cons, List.length_map]
              omega
          have := sum_le k19
          rw [bl]
          omega
        refine ⟨small_le (by show 2 ≤ 10000; decide), fun fd hfd => ?_⟩
        generalize hh2 : ([("patch " ++ p.name.1 ++ " " ++ Str.ofString (toString p.name.2) : Str), Txt.join " " ("knows" :: knownWords p.knows)] : List Str) = h2
        have g3 := g2.new (o := .lst (h2.map V.str)) hfd
        have efd : (upd H2 fd (.lst (h2.map V.str))) fd = some (.lst (h2.map V.str)) := upd_same
        have ffd : H fd = none := g2.free tg (fun z => z) hfd
        have hl2 : h2.length = 2 := by rw [← hh2]; rfl
        have eh : upd H2 fd (.lst [V.str ("patch " ++ p.name.1 ++ " " ++ Str.ofString (toString p.name.2)), .str (Txt.join " " ("knows" :: knownWords p.knows))]) = upd H2 fd (.lst (h2.map V.str)) := by rw [← hh2]; rfl
        refine ⟨.ref ad, rfl, ad, rfl, ⟨dvs, ?_⟩, ?_⟩
        · exact (toH ((g2.new (o := .lst [V.str ("patch " ++ p.name.1 ++ " " ++ Str.ofString (toString p.name.2)), .str (Txt.join " " ("knows" :: knownWords p.knows))]) hfd))).seqL Sd
        refine for_list (K := K) (a := ad) (xs := dvs) (fun i σ H3 => ∃ (f : Addr) (y6 y7 : Option V), σ = [some (.ref an), some (.ref ak), some (.ref ad), none, some (.ref D), some (.ref f), y6, y7, none, none] ∧ Go T D0 H H3 ∧ H f = none ∧ H3 f = some (.lst ((h2 ++ (p.deeds.take i).flatMap deedRows).map V.str))) ?_ ?_ ?_ ?_
        · refine ⟨fd, _, _, rfl, ?_, ffd, ?_⟩
          · exact eh ▸ g3
          · rw [List.take_zero, List.flatMap_nil, List.append_nil]
            exact eh ▸ efd
        · rintro i σ H3 hi ⟨f, y6, y7, rfl, g3, _⟩
          exact (toH g3).seqL Sd
        · rintro i v σ H3 hv ⟨f, y6, y7, rfl, g3, hf, ef⟩
          obtain ⟨d', hd', hv'⟩ := DpAll.at' dds hv
          obtain ⟨d, hd, rfl⟩ := at_map hd'
          have dm := List.mem_of_getElem? hd
          have dok := pok.deeds d dm
          have ded := deed_ed dok
          have dtx := deed_tx dok
          have dsm := psm d dm
          obtain ⟨a, lvs, tl, rfl, S, dl, hcase⟩ := deed_parts hv'
          have S3 := (toH g3).seqT S
          have lvl : lvs.length = d.lines.length := by rw [DpAll.len dl, List.length_map]
          have tlen : d.texts.length ≤ 1000 := by
            have e : ((p.deeds.take (i + 1)).flatMap Deed.texts).length ≤ (textsOf p).length := flat_take _ _
            rw [flat_succ hd, List.length_append] at e
            omega
          have rl : ((p.deeds.take i).flatMap deedRows).length ≤ 2000 := by
            rw [rows_len, List.length_take]
            have e : ((p.deeds.take i).flatMap Deed.texts).length ≤ (textsOf p).length := flat_take _ _
            omega
          have step : (p.deeds.take (i + 1)).flatMap deedRows = (p.deeds.take i).flatMap deedRows ++ deedRows d := flat_succ hd
          generalize (p.deeds.take i).flatMap deedRows = done at ef rl step ⊢
          refine ⟨.ref a, rfl, a, _, 0, .str d.kind, rfl, rfl, S3, atI_nat (j := 0) rfl, small_le (by decide), fun t ht => ?_⟩
          have g4 := g3.new (o := .tup [V.str "put", .str "order"]) ht
          have ef4 := (upd_ne (o := .tup [V.str "put", .str "order"]) (ne_of_none ef ht)).trans ef
          have et : (upd H3 t (.tup [V.str "put", .str "order"])) t = some (.tup [V.str "put", .str "order"]) := upd_same
          generalize upd H3 t (.tup [V.str "put", .str "order"]) = H4 at g4 ef4 et ⊢
          have S4 := (toH g4).seqT S
          refine ⟨t, _, rfl, .inr (.inl (.inl et)), rfl, rfl, _, rfl, ?_⟩
          apply twice2 (A := fun z H5 => Go T D0 H H5 ∧ H5 f = some (.lst ((h2 ++ done).map V.str)) ∧ H5 z = some (.tup lvs))
          case use =>
            intro rest2
            have fin : ∀ (l : Addr), H4 l = none → ∀ ws, ws = lvs → Go T D0 H (upd H4 l (.tup ws)) ∧ (upd H4 l (.tup ws)) f = some (.lst ((h2 ++ done).map V.str)) ∧ (upd H4 l (.tup ws)) l = some (.tup lvs) := by
              rintro l hl ws rfl
              exact ⟨g4.new hl, (upd_ne (ne_of_none ef4 hl)).trans ef4, upd_same⟩
            refine ite2 (fun e => ?_) (fun e => ?_)
            · refine ⟨.ref a, rfl, 1, rfl, 3, rfl, a, _, rfl, S4, fun z => ?_, fun _ l hl => ?_⟩
              · have z1 : HT.sIx (V.str d.kind :: (lvs ++ tl)).length 0 (some 1) = 1 := by
                  rw [show HT.sIx _ 0 (some (1 : Int)) = min 1 _ from HT.sIx_nat _ 0 1, List.length_cons]
                  omega
                have := z.1
                rw [z1] at this
                cases this
              · have ew : cutV (V.str d.kind :: (lvs ++ tl)) (some 1) (some 3) = lvs := by
                  rcases hcase with ⟨_, h2', t', rfl, _⟩ | ⟨_, h2', rfl, _⟩ | ⟨n1, n2, _⟩
                  · obtain ⟨x, y, rfl⟩ := len2 h2'
                    rfl
                  · obtain ⟨x, y, rfl⟩ := len2 h2'
                    rfl
                  · exact absurd e (by simp [inV, eqV, n1, n2, n1.symm, n2.symm])
                have f2 := fin l hl _ ew
                generalize upd H4 l (.tup (cutV (V.str d.kind :: (lvs ++ tl)) (some 1) (some 3))) = H5 at f2 ⊢
                exact rest2 l H5 f2
            · refine ⟨.ref a, rfl, 1, rfl, a, _, rfl, S4, fun z => ?_, fun _ l hl => ?_⟩
              · have z1 : HT.sIx (V.str d.kind :: (lvs ++ tl)).length 0 (some 1) = 1 := by
                  rw [show HT.sIx _ 0 (some (1 : Int)) = min 1 _ from HT.sIx_nat _ 0 1, List.length_cons]
                  omega
                have := z.1
                rw [z1] at this
                cases this
              · have ew : cutV (V.str d.kind :: (lvs ++ tl)) (some 1) none = lvs := by
                  rcases hcase with ⟨n1, _⟩ | ⟨n1, _⟩ | ⟨n1, n2, h1', rfl, _⟩
                  · exact absurd (by simp [inV, eqV, n1]) e
                  · exact absurd (by simp [inV, eqV, n1]) e
                  · obtain ⟨x, rfl⟩ : ∃ x, lvs = [x] := by
                      match lvs, h1' with
                      | [x], _ => exact ⟨x, rfl⟩
                    rfl
                have f2 := fin l hl _ ew
                generalize upd H4 l (.tup (cutV (V.str d.kind :: (lvs ++ tl)) (some 1) none)) = H5 at f2 ⊢
                exact rest2 l H5 f2
          case h =>
            rintro z H5 ⟨g5, ef5, ez⟩
            have S5 := (toH g5).seqT S
            refine ⟨.ref f, rfl, .inl ⟨rfl, _, .inl (.inl ef5)⟩, ⟨" ", rfl⟩, .ref a, rfl, a, _, 0, .str d.kind, rfl, rfl, S5, atI_nat (j := 0) rfl, small_le (by show 1 ≤ 10000; decide), fun b hb => ?_⟩
            have g6 := g5.new (o := .lst [V.str d.kind]) hb
            have ef6 := (upd_ne (o := .lst [V.str d.kind]) (ne_of_none ef5 hb)).trans ef5
            have ez6 := (upd_ne (o := .lst [V.str d.kind]) (ne_of_none ez hb)).trans ez
            have eb : (upd H5 b (.lst [V.str d.kind])) b = some (.lst [V.str d.kind]) := upd_same
            generalize upd H5 b (.lst [V.str d.kind]) = H6 at g6 ef6 ez6 eb ⊢
            refine ⟨.ref z, rfl, z, rfl, ⟨_, .inl (.inl ez6)⟩, fun D2 hD2 => ?_⟩
            refine lc_tup (K := K) (a := z) (xs := lvs) (fun j H7 => Go T D0 H6 H7 ∧ H7 D2 = some (.lst (((d.lines.take j).map lnTxt).map V.str))) ?_ ?_ ?_ ?_
            · exact ⟨(Go.rfl' g6.1).new hD2, upd_same⟩
            · rintro j H7 hj ⟨g7, _⟩
              exact .inl (.inl (g7.at g6.1 (fun z => z) ez6))
            · rintro j x H7 hx ⟨g7, eD2⟩
              obtain ⟨d'', hd'', hx'⟩ := DpAll.at' dl hx
              obtain ⟨l, hl, rfl⟩ := at_map hd''
              have lm := List.mem_of_getElem? hl
              refine ⟨rfl, x, rfl, x, l, rfl, Dp.sub (toH (g6.trans g7)) _ _ hx', ⟨ded l lm, dsm l lm⟩, g7.1, fun H8 g8 => ?_⟩
              have eD8 := g8.at g7.1 (fun z => z) eD2
              have l2 : d.lines.length ≤ 2 := lines_len d
              refine ⟨_, eD8, small_line (by rw [List.length_map, List.length_map, List.length_take]; omega), (g7.trans g8).put hD2 eD8, ?_⟩
              rw [upd_same, List.take_add_one, hl, List.map_append, List.map_append]
              rfl
            · rintro H7 ⟨g7, eD2⟩
              rw [lvl, List.take_length] at eD2
              have ef7 := g7.at g6.1 (fun z => z) ef6
              have eb7 := g7.at g6.1 (fun z => z) eb
              have l2 : d.lines.length ≤ 2 := lines_len d
              refine ⟨b, D2, _, _, rfl, rfl, eb7, eD2, small_le (by rw [List.length_map, List.length_map]; show 1 + _ ≤ 10000; omega), fun z2 hz2 => ?_⟩
              have g8 := (g6.trans g7).new (o := .lst ([V.str d.kind] ++ (d.lines.map lnTxt).map V.str)) hz2
              have ef8 := (upd_ne (o := .lst ([V.str d.kind] ++ (d.lines.map lnTxt).map V.str)) (ne_of_none ef7 hz2)).trans ef7
              have ez8 : (upd H7 z2 (.lst ([V.str d.kind] ++ (d.lines.map lnTxt).map V.str))) z2 = some (.lst ((d.kind :: d.lines.map lnTxt).map V.str)) := upd_same
              generalize upd H7 z2 (.lst ([V.str d.kind] ++ (d.lines.map lnTxt).map V.str)) = H8 at g8 ef8 ez8 ⊢
              refine ⟨" ", z2, _, rfl, rfl, .inl (.inl (.inl ez8)), ?_, ?_⟩
              · have k30 : ∀ x ∈ (d.kind :: d.lines.map lnTxt), x.length ≤ 30 := by
                  intro x hx
                  rcases List.mem_cons.mp hx with rfl | hx
                  · have := kind_len d
                    omega
                  · obtain ⟨l, hl, rfl⟩ := List.mem_map.mp hx
                    exact lnTxt_len (ded l hl) (dsm l hl)
                have := sum_le k30
                have kc : (d.kind :: d.lines.map lnTxt).length ≤ 3 := by rw [List.length_cons, List.length_map]; omega
                rw [bl]
                omega
              have fl : ((h2 ++ done).map V.str).length ≤ 2002 := by rw [List.length_map, List.length_append]; omega
              refine ⟨f, _, _, rfl, rfl, ef8, small_line (by omega), ?_⟩
              have g9 := g8.put (o := .lst ((h2 ++ done).map V.str ++ [V.str (Txt.join " " (d.kind :: d.lines.map lnTxt))])) hf ef8
              have ef9 : (upd H8 f (.lst ((h2 ++ done).map V.str ++ [V.str (Txt.join " " (d.kind :: d.lines.map lnTxt))]))) f = some (.lst ((h2 ++ done ++ [Txt.join " " (d.kind :: d.lines.map lnTxt)]).map V.str)) := by
                rw [upd_same, List.map_append (l₁ := h2 ++ done)]
                rfl
              generalize upd H8 f (.lst ((h2 ++ done).map V.str ++ [V.str (Txt.join " " (d.kind :: d.lines.map lnTxt))])) = H9 at g9 ef9 ⊢
              have S9 := (toH g9).seqT S
              have fin : ∀ (H10 : Hp) (q' : Addr), Go T D0 H H10 → H10 q' = none → H10 f = some (.lst ((h2 ++ done ++ [Txt.join " " (d.kind :: d.lines.map lnTxt)]).map V.str)) → ∀ ws : List V, ws = (d.texts.map fun t => ("+" ++ t : Str)).map V.str →
                ∃ (f' : Addr) (y6 y7 : Option V), [some (.ref an), some (.ref ak), some (.ref ad), none, some (.ref D), some (.ref q'), some (.ref a), some (.ref z), none, none] = [some (.ref an), some (.ref ak), some (.ref ad), none, some (.ref D), some (V.ref f'), y6, y7, none, none] ∧ Go T D0 H (upd H10 q' (.lst ((h2 ++ done ++ [Txt.join " " (d.kind :: d.lines.map lnTxt)]).map V.str ++ ws))) ∧ H f' = none ∧
                  (upd H10 q' (.lst ((h2 ++ done ++ [Txt.join " " (d.kind :: d.lines.map lnTxt)]).map V.str ++ ws))) f' = some (.lst ((h2 ++ (p.deeds.take (i + 1)).flatMap deedRows).map V.str)) := by
                rintro H10 q' g10 hq' ef10 ws rfl
                refine ⟨q', _, _, rfl, g10.new hq', g10.free tg (fun z => z) hq', ?_⟩
                rw [upd_same, step, ← List.map_append]
                unfold deedRows
                simp
              have fl2 : ((h2 ++ done ++ [Txt.join " " (d.kind :: d.lines.map lnTxt)]).map V.str).length ≤ 2003 := by rw [List.length_map, List.length_append, List.length_append]; show h2.length + done.length + 1 ≤ 2003; omega
              refine ⟨.ref f, rfl, .ref a, rfl, a, _, 0, .str d.kind, rfl, rfl, S9, atI_nat (j := 0) rfl, rfl, _, rfl, ite2 (fun e => ?_) (fun e => ?_)⟩
              · have ek : d.kind = "put" := V.str.inj (of_decide_eq_true e)
                rcases hcase with ⟨_, h2', t', rfl, st⟩ | ⟨n1, _⟩ | ⟨n1, _⟩
                · obtain ⟨x, y, rfl⟩ := len2 h2'
                  have st9 := (toH g9).seqT st
                  refine ⟨.ref a, rfl, a, _, 3, .ref t', rfl, rfl, S9, atI_nat (j := 3) rfl, t', rfl, ⟨_, st9⟩, fun D3 hD3 => ?_⟩
                  refine lc_tup (K := K) (a := t') (xs := d.texts.map V.str) (fun j H10 => Go T D0 H9 H10 ∧ H10 D3 = some (.lst (((d.texts.take j).map fun t => ("+" ++ t : Str)).map V.str))) ?_ ?_ ?_ ?_
                  · exact ⟨(Go.rfl' g9.1).new hD3, upd_same⟩
                  · rintro j H10 hj ⟨g10, _⟩
                    exact g10.seqT g9.1 (fun _ _ z => z) st9
                  · rintro j x H10 hx ⟨g10, eD3⟩
                    rw [List.getElem?_map] at hx
                    cases htx : d.texts[j]? with
                    | none => rw [htx] at hx; cases hx
                    | some tx =>
                      rw [htx] at hx
                      cases hx
                      have pl : ("+" : Str).length = 1 := by decide +kernel
                      have tl := (dtx tx (List.mem_of_getElem? htx)).2.1
                      refine ⟨rfl, .str tx, rfl, "+", tx, rfl, rfl, small_le (by rw [pl]; omega), _, eD3, small_line (by rw [List.length_map, List.length_map, List.length_take]; omega), g10.put hD3 eD3, ?_⟩
                      rw [upd_same, List.take_add_one, htx, List.map_append, List.map_append]
                      rfl
                  · rintro H10 ⟨g10, eD3⟩
                    rw [List.length_map, List.take_length] at eD3
                    have ef10 := g10.at g9.1 (fun z => z) ef9
                    refine ⟨f, D3, _, _, rfl, rfl, ef10, eD3, small_le (by rw [List.length_map (as := d.texts.map _), List.length_map (as := d.texts)]; omega), fun q' hq' => ?_⟩
                    exact fin H10 q' (g9.trans g10) hq' ef10 _ rfl
                · rw [ek] at n1
                  exact absurd n1 (by decide +kernel)
                · exact absurd ek n1
              · have ek : ¬ d.kind = "put" := fun z => e (decide_eq_true (by rw [z]))
                have tx : d.texts = [] := by
                  rcases hcase with ⟨n1, _⟩ | ⟨_, _, _, h⟩ | ⟨_, _, _, _, h⟩
                  · exact absurd n1 ek
                  · exact h
                  · exact h
                refine ⟨Nat.zero_le _, fun b2 hb2 => ?_⟩
                have g10 := g9.new (o := .lst []) hb2
                have ef10 := (upd_ne (o := .lst []) (ne_of_none ef9 hb2)).trans ef9
                have eb2 : (upd H9 b2 (.lst [])) b2 = some (.lst []) := upd_same
                generalize upd H9 b2 (.lst []) = H10 at g10 ef10 eb2 ⊢
                refine ⟨f, b2, _, _, rfl, rfl, ef10, eb2, small_le (by show _ + 0 ≤ 10000; omega), fun q' hq' => ?_⟩
                exact fin H10 q' g10 hq' ef10 _ (by rw [tx]; rfl)
        · rintro σ H3 ⟨f, y6, y7, rfl, g3, hf, ef⟩
          rw [dlen, List.take_length] at ef
          refine ⟨.ref f, rfl, q H3 f g3 hf ?_⟩
          rw [ef]
          have : h2 ++ p.deeds.flatMap deedRows = rowsOf p := by rw [← hh2]; rfl
          rw [this]
end
end K1
set_option Elab.async false
set_option linter.all false
set_option maxRecDepth 100000
set_option maxHeartbeats 4000000
/-! The law's defs: a text of all signs. -/
namespace K1
open PySem PySem.Spec PyProof.Rows L2

def allSigns : Str := " !\"#$&'()*+,-./0123456789:;<=>?@ABCXYZ[\\]^_`abcxyz{|}~"
theorem allSigns_len : 0 < allSigns.length ∧ allSigns.length ≤ 1000 := by decide +kernel
theorem allSigns_ok : ∀ c ∈ TL.tl allSigns, c < 128 ∧ c ≠ 10 := by
  have e : (TL.tl allSigns).all (fun c => decide (c < 128) && decide (c ≠ 10)) = true := by decide +kernel
  intro c hc
  have := Bool.and_eq_true_iff.mp (List.all_eq_true.mp e c hc)
  exact ⟨of_decide_eq_true this.1, of_decide_eq_true this.2⟩
theorem signs_ok {y : Str} (hl : y.length ≤ 40) (h : ∀ c ∈ TL.tl y, c ∈ TL.tl allSigns) : TxOk y :=
  ⟨Asc.ok fun c hc => (allSigns_ok c (h c hc)).1, hl, fun hc => (allSigns_ok 10 (h 10 hc)).2 rfl⟩
namespace K1
open PySem PySem.Spec PyProof.Rows L2

/-! ### one-sign texts -/
def one (c : Nat) : Str := ⟨#[c]⟩
theorem tl_one (c : Nat) : TL.tl (one c) = [c] := rfl
theorem join_ones : ∀ cs : List Nat, TL.joinL [] (cs.map fun c => [c]) = cs
  | [] => rfl
  | [c] => rfl
  | c :: d :: r => by
    show [c] ++ ([] ++ TL.joinL [] ((d :: r).map fun c => [c])) = _
    rw [join_ones (d :: r)] <;> rfl
theorem tl_joined (cs : List Nat) : TL.tl (Txt.join "" (cs.map one)) = cs := by
  have e0 : TL.tl ("" : Str) = [] := by decide +kernel
  rw [TL.join_eq, TL.tl_join, e0, List.map_map]
  exact join_ones cs
theorem ones_sum (cs : List Nat) : ((cs.map one).map (·.length)).sum = cs.length := by
  induction cs with
  | nil => rfl
  | cons c r ih =>
    rw [List.map_cons, List.map_cons, List.sum_cons, ih]
    show 1 + r.length = r.length + 1
    omega

section
variable {P : Program} {w : World} {K : PySem.W.Frag} {mg : Str → Option Value} {base : Heap} {T : Tp}
def spSigns (T : Tp) : Sp := fun vs H Q _ => ∃ d, vs = [.ref d] ∧ St H d ∧ TG T H ∧ ∀ H' y, Go T (· = d) H H' → St H' d → TxOk y → Q (.str y) H'
theorem ok_lsigns {f : Addr} {fd : FuncData} {k : Nat} (F : Fun K "_law_signs" "_law_signs" sLSigns f fd) (M : Mg K mg) (cD : Cal P w K mg base k "_law_digit" ["_law_state", "_law_many"] spDigit) : FnOk P w K mg base CX0 (k + 1) f fd ["_law_state"] (spSigns T) := by
  refine F.ok scLSigns (fun vs H Q E h => ?_) (fun cdv A outer s H vs Q E hr h => ?_)
  · obtain ⟨d, rfl, _⟩ := h
    rfl
  · obtain ⟨d, rfl, st, tg, q⟩ := h
    refine ⟨_, pss_cons (ps_set (i := 1) scLSigns.nd rfl (.inr rfl) pe_str) (pss_one (ps_ret (pe_join pe_str (pe_lc (own := [("_law_k", 2)]) (g := gName 2) (tt := tYes) rfl scLSigns.nd (pi_range1 (by rfl) M.range_ (pa_cons (pe_cal cD hr (by rfl) (pa_cons (pv 0) (pa_cons pe_int pa_nil))) pa_nil))
      (blkOk_by (N := ["_law_state", "_law_signs_here", "_law_k"]) (sc := defScope sLSigns) (by decide +kernel)) (fun _ _ _ _ _ => pg_name (i := 2) scLSigns.nd rfl (Or.inl rfl)) (fun _ _ _ _ _ => pts_nil)
      (fun _ _ _ _ _ => pe_ix ix_str (pv 1) (pe_cal cD hr (by rfl) (pa_cons (pv 0) (pa_cons (pe_callB call_len_str (by rfl) M.len_ PySem.boot_len (pa_cons (pv 1) pa_nil)) pa_nil))) (fun _ _ => rfl)))))), ?_⟩
    obtain ⟨z0, z1⟩ := allSigns_len
    obtain ⟨a0, b0, p0, q0, ed⟩ := _root_.id st
    refine ⟨⟨"", rfl⟩, .ref d, rfl, d, a0, b0, 41, rfl, ed, p0, q0, by decide, by decide, dg tg ed fun r H1 r0 r1 g1 s1 => ?_⟩
    refine ⟨r, rfl, by omega, by omega, fun D hD => ?_⟩
    refine lc_range (lo := 0) (n := r.toNat) (fun i H2 => ∃ (cs : List Nat), Go T (· = d) H1 H2 ∧ St H2 d ∧ H2 D = some (.lst ((cs.map one).map V.str)) ∧ cs.length = i ∧ (∀ c ∈ cs, c ∈ TL.tl allSigns)) ?_ ?_ ?_
    · exact ⟨[], (Go.rfl' g1.1).new hD, s1.new hD, upd_same, rfl, by simp⟩
    · rintro i H2 hi ⟨cs, g2, s2, hD2, hl, hm⟩
      obtain ⟨a2, b2, p2, q2, ed2⟩ := _root_.id s2
      refine ⟨rfl, .str allSigns, rfl, .ref d, rfl, .str allSigns, rfl, allSigns, rfl, Nat.le_trans z1 (by decide), d, a2, b2, (allSigns.length : Int), rfl, ed2, p2, q2, by omega, by omega, dg g2.1 ed2 fun j H3 j0 j1 g3 s3 => ?_⟩
      have hj : j.toNat < (TL.tl allSigns).length := by
        rw [← TL.len_tl]
        omega
      have ej : ((j.toNat : Nat) : Int) = j := by omega
      have hD3 := g3.at g2.1 (s2.ne hD2) hD2
      refine ⟨allSigns, j, (TL.tl allSigns)[j.toNat], rfl, rfl, Nat.le_trans z1 (by decide), ?_, (cs.map one).map V.str, hD3, ?_, ?_⟩
      · have := atI_nat (xs := TL.tl allSigns) (j := j.toNat) (List.getElem?_eq_getElem hj)
        rw [ej] at this
        exact this
      · rw [List.length_map, List.length_map, hl]
        exact small_line (by omega)
      · refine ⟨cs ++ [(TL.tl allSigns)[j.toNat]], (g2.trans g3).put hD hD3, s3.put hD3, ?_, by rw [List.length_append, hl]; rfl, ?_⟩
        · rw [upd_same, List.map_append, List.map_append]
          rfl
        · intro c hc
          rcases List.mem_append.mp hc with h | h
          · exact hm c h
          · rw [List.mem_singleton.mp h]
            exact List.getElem_mem hj
    · rintro H2 ⟨cs, g2, s2, hD2, hl, hm⟩
      refine ⟨"", D, cs.map one, rfl, rfl, .inl (.inl (.inl hD2)), ?_, ?_⟩
      · rw [ones_sum, List.length_map]
        have e0 : ("" : Str).length = 0 := by decide +kernel
        rw [e0]
        omega
      · refine q H2 _ (g1.trans g2) s2 (signs_ok ?_ ?_)
        · rw [TL.len_tl, tl_joined]
          omega
        · rw [tl_joined]
          exact hm
end
end K1
end K1
set_option Elab.async false
set_option linter.all false
set_option maxRecDepth 100000
set_option maxHeartbeats 4000000
/-! The program's def patch_rows. -/
namespace K1
open PySem PySem.Spec PyProof.Rows L2

/-- the class of patches -/
structure PCls (K : PySem.W.Frag) (C : Addr) : Prop where
  cls : Cls K C
  name : NoAttr K C "name"
  knows : NoAttr K C "knows"
  deeds : NoAttr K C "deeds"
  many : NoAttr K C "many"
  place : NoAttr K C "place"
  known : NoAttr K C "known"
  work : NoAttr K C "work"
/-- a patch made -/
def PatAt (K : PySem.W.Frag) (C : Addr) (H : Hp) (v : V) (p : Pat) : Prop := ∃ a dx fs nv kv dv, v = .ref a ∧ H a = some (.ins C dx fs) ∧ fs.lookup ("name" : Str) = some nv ∧ fs.lookup ("knows" : Str) = some kv ∧ fs.lookup ("deeds" : Str) = some dv ∧
  Dp K H nv (eN p.name) ∧ Dp K H kv (.tuple (p.knows.map eN)) ∧ Dp K H dv (.tuple (p.deeds.map eD))
/-- what the rows of a patch ask of its sizes -/
structure Pat.sized (p : Pat) : Prop where
  ok : p.ok
  lines : ∀ d ∈ p.deeds, ∀ l ∈ d.lines, l.2.2 < 1000000
  knows : p.knows.length ≤ 1000
  texts : (textsOf p).length ≤ 1000
  deeds : p.deeds.length ≤ 1000
theorem lineTxt_ln (l : Ln) : lineTxt [.str l.1, .int l.2.1, .int l.2.2] = some (lnTxt l) := by
  obtain ⟨a, i, j⟩ := l
  unfold lineTxt lnTxt headL footL
  by_cases h1 : (a, i, j) = (("", 0, 0) : Ln)
  · cases h1
    rfl
  · have n1 : ¬ [V.str a, .int i, .int j] = [.str "", .int 0, .int 0] := fun z => h1 (by injection z with a1 a2; injection a2 with a2 a3; injection a3 with a3 _; cases a1; cases a2; cases a3; rfl)
    by_cases h2 : (a, i, j) = (("", 0, 1) : Ln)
    · cases h2
      rfl
    · have n2 : ¬ [V.str a, .int i, .int j] = [.str "", .int 0, .int 1] := fun z => h2 (by injection z with a1 a2; injection a2 with a2 a3; injection a3 with a3 _; cases a1; cases a2; cases a3; rfl)
      simp only [if_neg n1, if_neg n2, if_neg h1, if_neg h2]
theorem ed_nums {l : Ln} (h : EdOk l) (s : l.2.2 < 1000000) : l.1.length ≤ 8 ∧ 0 ≤ l.2.1 ∧ l.2.1 < 1000000 ∧ 0 ≤ l.2.2 := by
  rcases h with h | rfl | rfl
  · exact ⟨(handOk h.1.1).2, Int.le_trans (by decide) h.1.2.1, Int.lt_of_le_of_lt h.1.2.2 (by decide), Int.le_trans (by decide) h.2⟩
  · exact ⟨by decide +kernel, by decide, by decide, by decide⟩
  · exact ⟨by decide +kernel, by decide, by decide, by decide⟩
section
variable {P : Program} {w : World} {K : PySem.W.Frag} {mg : Str → Option Value} {base : Heap} {T : Tp}
def spPRows (K : PySem.W.Frag) (C : Addr) (T : Tp) : Sp := fun vs H Q _ => ∃ (v : V) (p : Pat), vs = [v] ∧ PatAt K C H v p ∧ p.sized ∧ TG T H ∧ ∀ H' l, Go T D0 H H' → H l = none → H' l = some (.lst ((rowsOf p).map V.str)) → Q (.ref l) H'
theorem ok_prows {f C : Addr} {fd : FuncData} {k : Nat} (F : Fun K "patch_rows" "patch_rows" sPatchRows f fd) (M : Mg K mg) (PC : PCls K C) (cN : Cal P w K mg base k "name_text" ["name"] (spNameT K)) (cL : Cal P w K mg base k "line_text" ["line"] (spLineT K)) :
    FnOk P w K mg base CX0 (k + 1) f fd ["patch"] (spPRows K C T) := by
  refine F.ok scPatchRows (fun vs H Q E h => ?_) (fun cdv A outer s H vs Q E hr h => ?_)
  · obtain ⟨v, p, rfl, _⟩ := h
    rfl
  · obtain ⟨v, p, rfl, pat, psz, tg, q⟩ := h
    refine ⟨_, (pss_cons (ps_asg (pe_fld (pv 0) (by rfl)) (pg_tup rfl (pgs_cons (pg_name (i := 1) scPatchRows.nd rfl (.inl rfl)) (pgs_cons (pg_name (i := 2) scPatchRows.nd rfl (.inl rfl)) pgs_nil))))
      (pss_cons (ps_set (i := 4) scPatchRows.nd rfl (.inl rfl) (pe_orT (pe_lc (own := [("name", 3)]) (g := gName 3) (tt := tYes) rfl scPatchRows.nd (pi_tup (pe_fld (pv 0) (by rfl))) (blkOk_by (N := ["patch", "hand", "number", "name", "known", "rows", "deed", "line", "lines", "text"]) (sc := defScope sPatchRows) (by decide +kernel)) (fun _ _ _ _ _ => (pg_name (i := 3) scPatchRows.nd rfl (Or.inl rfl))) (fun _ _ _ _ _ => pts_nil) (fun _ _ _ _ _ => (pe_cal cN hr (by rfl) (pa_cons (pv 3) pa_nil)))) (pe_one (pe_lst (pa_cons pe_str pa_nil)))))
      (pss_cons (ps_set (i := 5) scPatchRows.nd rfl (.inl rfl) (pe_lst (pa_cons (pe_joined (.cons pe_str (.cons (pe_fmt (pv 1)) (.cons pe_str (.cons (pe_fmt (pv 2)) .nil))))) (pa_cons (pe_join pe_str (pe_lst (pa_cons pe_str (StX.pa_star (pv 4) pa_nil)))) pa_nil))))
      (pss_cons (ps_for PassesOwn.never rfl (pi_tup (pe_fld (pv 0) (by rfl))) (pg_name (i := 6) scPatchRows.nd rfl (.inl rfl))
      (pss_cons (ps_setLc (i := 8) (own := [("line", 7)]) (g := gName 7) (tt := tYes) rfl scPatchRows.nd rfl rfl (sw_true rfl rfl rfl (by decide +kernel)) (pi_tup (pe_slice sl_tupA (pv 6) (po_some pe_int) (po_some pe_int))) (blkOk_by (N := ["patch", "hand", "number", "name", "known", "rows", "deed", "line", "lines", "text"]) (sc := defScope sPatchRows) (by decide +kernel)) (fun _ _ _ _ _ => (pg_name (i := 7) scPatchRows.nd rfl (Or.inl rfl))) (fun _ _ _ _ _ => pts_nil) (fun _ _ _ _ _ => (pe_cal cL hr (by rfl) (pa_cons (pv 7) pa_nil))))
      (pss_cons (ps_expr (pe_bm PySem.F.plainAttrs_list PySem.F.slot_list_append PySem.F.type_list_append mt_append (pv 5) (pa_cons (pe_join pe_str (pe_lst (pa_cons (pe_ix ix_tup (pv 6) pe_int (fun _ _ => rfl)) (StX.pa_star (pv 8) pa_nil)))) pa_nil)))
      (pss_one (ps_if (pt_cmpR op_eq (pe_ix ix_tup (pv 6) pe_int (fun _ _ => rfl)) pe_str (nomark _))
      (pss_one (ps_expr (pe_bm PySem.F.plainAttrs_list PySem.F.slot_list_extend PySem.F.type_list_extend mt_extend (pv 5) (pa_cons (pe_lc (own := [("text", 9)]) (g := gName 9) (tt := tYes) rfl scPatchRows.nd (pi_tup (pe_ix ix_tup (pv 6) pe_int (fun _ _ => rfl))) (blkOk_by (N := ["patch", "hand", "number", "name", "known", "rows", "deed", "line", "lines", "text"]) (sc := defScope sPatchRows) (by decide +kernel)) (fun _ _ _ _ _ => (pg_name (i := 9) scPatchRows.nd rfl (Or.inl rfl))) (fun _ _ _ _ _ => pts_nil) (fun _ _ _ _ _ => (pe_op op_add_str pe_str (pv 9)))) pa_nil))))
      pss_nil)))))
      (pss_one (ps_ret (pv 5))))))), ?_⟩
    obtain ⟨a, dx, fs, nv, kv, dv, rfl, ep, ln_, lk_, ld_, dn, dk, dd⟩ := pat
    obtain ⟨pok, psm, l1, l2, l3⟩ := psz
    have toH : ∀ {H'}, Go T D0 H H' → Sub H H' := fun g => sub_go g tg
    have epG : ∀ {H'}, Go T D0 H H' → H' a = some (.ins C dx fs) := fun g => g.at tg (fun z => z) ep
    obtain ⟨an, _, rfl, Sn, d3⟩ := Dp.tupI dn
    obtain ⟨x, y, rfl, d1, d2⟩ := DpAll.i2 d3
    cases Dp.strI d1
    cases Dp.intI d2
    obtain ⟨ak, kvs, rfl, Sk, dks⟩ := Dp.tupI dk
    obtain ⟨ad, dvs, rfl, Sd, dds⟩ := Dp.tupI dd
    have klen : kvs.length = p.knows.length := by rw [DpAll.len dks, List.length_map]
    have dlen : dvs.length = p.deeds.length := by rw [DpAll.len dds, List.length_map]
    have nlen : ∀ {n : Nm}, NmOk n → n.1.length ≤ 8 ∧ 0 ≤ n.2 ∧ n.2 < 1000000 := fun h => ⟨(handOk h.1).2, Int.le_trans (by decide) h.2.1, Int.lt_of_le_of_lt h.2.2 (by decide)⟩
    have dot : ("." : Str).length = 1 := by decide +kernel
    have pl : ("patch " : Str).length = 6 := by decide +kernel
    have bl : (" " : Str).length = 1 := by decide +kernel
    have nmLen : ∀ {n : Nm}, NmOk n → (nmTxt n).length ≤ 19 := fun h => by
      have h1 := nlen h
      have h2 := len_num h1.2.1 h1.2.2
      show (_ ++ "." ++ Str.ofString (toString _) : Str).length ≤ 19
      simp only [len_app, dot]
      omega
    refine ⟨.ref a, rfl, a, C, dx, fs, .ref an, rfl, ep, PC.cls, PC.name, ln_, an, _, rfl, Sn, rfl, _, _, rfl, _, _, rfl, rfl, ?_⟩
    -- what is known
    refine ⟨.ref a, rfl, a, C, dx, fs, .ref ak, rfl, ep, PC.cls, PC.knows, lk_, ak, rfl, ⟨kvs, Sk⟩, fun D hD => ?_⟩
    refine lc_tup (K := K) (a := ak) (xs := kvs) (fun i H1 => Go T D0 H H1 ∧ H1 D = some (.lst (((p.knows.take i).map nmTxt).map V.str))) ?_ ?_ ?_ ?_
    · exact ⟨(Go.rfl' tg).new hD, upd_same⟩
    · rintro i H1 hi ⟨g1, _⟩
      exact (toH g1).seqT Sk
    · rintro i v H1 hv ⟨g1, eD⟩
      obtain ⟨d', hd', hv'⟩ := DpAll.at' dks hv
      obtain ⟨n, hn, rfl⟩ := at_map hd'
      have nok := pok.knows n (List.mem_of_getElem? hn)
      obtain ⟨b1, b2, b3⟩ := nlen nok
      obtain ⟨a', _, rfl, S, d3⟩ := Dp.tupI hv'
      obtain ⟨x, y, rfl, d1, d2⟩ := DpAll.i2 d3
      cases Dp.strI d1
      cases Dp.intI d2
      have hi : i < kvs.length := (List.getElem?_eq_some_iff.mp hv).1
      refine ⟨rfl, .ref a', rfl, a', n.1, n.2, rfl, (toH g1).seqT S, by omega, b2, b3, _, eD, small_line (by rw [List.length_map, List.length_map, List.length_take]; omega), g1.put hD eD, ?_⟩
      rw [upd_same, List.take_add_one, hn, List.map_append, List.map_append]
      rfl
    · rintro H1 ⟨g1, eD⟩
      rw [klen, List.take_length] at eD
      apply twice2 (A := fun z H2 => Go T D0 H H2 ∧ H2 z = some (.lst ((knownWords p.knows).map V.str)))
      case use =>
        intro rest
        refine ⟨_, .inl ⟨_, .inl (.inl eD), rfl⟩, ite2 (fun e => ?u1) (fun e => ?u2)⟩
        case u2 =>
          refine ⟨small_le (by decide), fun b hb => ?_⟩
          have g2 := g1.new (o := .lst [V.str "none"]) hb
          have eb : (upd H1 b (.lst [V.str "none"])) b = some (.lst ((knownWords p.knows).map V.str)) := by
            rw [upd_same]
            unfold knownWords
            rw [if_pos]
            · rfl
            · cases hk : p.knows with
              | nil => rfl
              | cons n r =>
                rw [hk] at e
                exact absurd rfl e
          generalize upd H1 b (.lst [V.str "none"]) = H2 at g2 eb ⊢
          exact rest b H2 ⟨g2, eb⟩
        case u1 =>
          refine rest D H1 ⟨g1, ?_⟩
          rw [eD]
          unfold knownWords
          rw [if_neg]
          intro z
          rw [z] at e
          cases e
      case h =>
        rintro z H2 ⟨g2, ez⟩
        obtain ⟨b1, b2, b3⟩ := nlen pok.name
        have b4 := len_num b2 b3
        refine ⟨"patch ", rfl, small_le (by simp only [empty_app, pl]; omega), .str p.name.1, rfl, .inl ⟨p.name.1, rfl, small_le (by omega), p.name.1, rfl, small_le (by simp only [empty_app, len_app, pl]; omega), " ", rfl, small_le (by simp only [empty_app, len_app, pl, bl]; omega),
          .int p.name.2, rfl, .inr ⟨p.name.2, rfl, log_small b2 b3, Str.ofString (toString p.name.2), rfl, small_le (by simp only [empty_app, len_app, pl, bl]; omega), ?_⟩⟩⟩
        have k19 : ∀ x ∈ ("knows" :: knownWords p.knows : List Str), x.length ≤ 19 := by
          intro x hx
          rcases List.mem_cons.mp hx with rfl | hx
          · decide +kernel
          · unfold knownWords at hx
            split at hx
            · rw [List.mem_singleton.mp hx]
              decide +kernel
            · obtain ⟨n, hn, rfl⟩ := List.mem_map.mp hx
              exact nmLen (pok.knows n hn)
        have kc : ("knows" :: knownWords p.knows : List Str).length ≤ 1002 := by
          unfold knownWords
          split
          · decide
          · rw [List.length_cons, List.length_map]
            omega
        have ksum := sum_le k19
        refine ⟨⟨" ", rfl⟩, .ref z, rfl, z, _, rfl, .inr (.inl (.inl ez)), small_le (by rw [List.append_nil, List.length_cons, List.length_map]; have : ("knows" :: knownWords p.knows : List Str).length = (knownWords p.knows).length + 1 := rfl; omega), fun b hb => ?_⟩
        rw [List.append_nil]
        have g3 := g2.new (o := .lst (V.str "knows" :: (knownWords p.knows).map V.str)) hb
        have eb : (upd H2 b (.lst (V.str "knows" :: (knownWords p.knows).map V.str))) b = some (.lst (("knows" :: knownWords p.knows : List Str).map V.str)) := upd_same
        generalize upd H2 b (.lst (V.str "knows" :: (knownWords p.knows).map V.str)) = H3 at g3 eb ⊢
        refine ⟨" ", b, _, rfl, rfl, .inl (.inl (.inl eb)), by rw [bl]; omega, small_le (by show 2 ≤ 10000; decide), fun fd hfd => ?_⟩
        rw [empty_app]
        generalize hh2 : ([("patch " ++ p.name.1 ++ " " ++ Str.ofString (toString p.name.2) : Str), Txt.join " " ("knows" :: knownWords p.knows)] : List Str) = h2
        have hl2 : h2.length = 2 := by rw [← hh2]; rfl
        have eh : upd H3 fd (.lst [V.str ("patch " ++ p.name.1 ++ " " ++ Str.ofString (toString p.name.2)), .str (Txt.join " " ("knows" :: knownWords p.knows))]) = upd H3 fd (.lst (h2.map V.str)) := by rw [← hh2]; rfl
        have g4 := g3.new (o := .lst (h2.map V.str)) hfd
        have efd : (upd H3 fd (.lst (h2.map V.str))) fd = some (.lst (h2.map V.str)) := upd_same
        have ffd : H fd = none := g3.free tg (fun z => z) hfd
        have g4' : Go T D0 H (upd H3 fd (.lst [V.str ("patch " ++ p.name.1 ++ " " ++ Str.ofString (toString p.name.2)), .str (Txt.join " " ("knows" :: knownWords p.knows))])) := eh ▸ g4
        refine ⟨.ref a, rfl, a, C, dx, fs, .ref ad, rfl, epG g4', PC.cls, PC.deeds, ld_, ad, rfl, ⟨dvs, (toH g4').seqT Sd⟩, ?_⟩
        refine for_tup (K := K) (a := ad) (xs := dvs) (fun i σ H3 => ∃ (f : Addr) (y6 y8 : Option V), σ = [some (.ref a), some (.str p.name.1), some (.int p.name.2), none, some (.ref z), some (.ref f), y6, none, y8, none] ∧ Go T D0 H H3 ∧ H f = none ∧ H3 f = some (.lst ((h2 ++ (p.deeds.take i).flatMap deedRows).map V.str))) ?_ ?_ ?_ ?_
        · refine ⟨fd, _, _, rfl, g4', ffd, ?_⟩
          rw [List.take_zero, List.flatMap_nil, List.append_nil]
          exact eh ▸ efd
        · rintro i σ H3 hi ⟨f, y6, y7, rfl, g3, _⟩
          exact (toH g3).seqT Sd
        · rintro i v σ H3 hv ⟨f, y6, y7, rfl, g3, hf, ef⟩
          obtain ⟨d', hd', hv'⟩ := DpAll.at' dds hv
          obtain ⟨d, hd, rfl⟩ := at_map hd'
          have dm := List.mem_of_getElem? hd
          have dok := pok.deeds d dm
          have ded := deed_ed dok
          have dtx := deed_tx dok
          have dsm := psm d dm
          obtain ⟨a', lvs, tl, rfl, S, dl, hcase⟩ := deed_parts hv'
          have S3 := (toH g3).seqT S
          have lvl : lvs.length = d.lines.length := by rw [DpAll.len dl, List.length_map]
          have ln2 : d.lines.length ≤ 2 := lines_len d
          have tlen : d.texts.length ≤ 1000 := by
            have e : ((p.deeds.take (i + 1)).flatMap Deed.texts).length ≤ (textsOf p).length := flat_take _ _
            rw [flat_succ hd, List.length_append] at e
            omega
          have rl : ((p.deeds.take i).flatMap deedRows).length ≤ 2000 := by
            rw [rows_len, List.length_take]
            have e : ((p.deeds.take i).flatMap Deed.texts).length ≤ (textsOf p).length := flat_take _ _
            omega
          have step : (p.deeds.take (i + 1)).flatMap deedRows = (p.deeds.take i).flatMap deedRows ++ deedRows d := flat_succ hd
          generalize (p.deeds.take i).flatMap deedRows = done at ef rl step ⊢
          have ew : cutV (V.str d.kind :: (lvs ++ tl)) (some 1) (some 3) = lvs := by
            rcases hcase with ⟨_, h2', t', rfl, _⟩ | ⟨_, h2', rfl, _⟩ | ⟨_, _, h1', rfl, _⟩
            · obtain ⟨x, y, rfl⟩ := len2 h2'
              rfl
            · obtain ⟨x, y, rfl⟩ := len2 h2'
              rfl
            · obtain ⟨x, rfl⟩ : ∃ x, lvs = [x] := by
                match lvs, h1' with
                | [x], _ => exact ⟨x, rfl⟩
              rfl
          refine ⟨.ref a', rfl, 1, rfl, 3, rfl, a', _, rfl, S3, fun z => ?_, fun _ l hl => ?_⟩
          · have z1 : HT.sIx (V.str d.kind :: (lvs ++ tl)).length 0 (some 1) = 1 := by
              rw [show HT.sIx _ 0 (some (1 : Int)) = min 1 _ from HT.sIx_nat _ 0 1, List.length_cons]
              omega
            have := z.1
            rw [z1] at this
            cases this
          rw [ew]
          have g5 := g3.new (o := .tup lvs) hl
          have ef5 := (upd_ne (o := .tup lvs) (ne_of_none ef hl)).trans ef
          have el5 : (upd H3 l (.tup lvs)) l = some (.tup lvs) := upd_same
          generalize upd H3 l (.tup lvs) = H5 at g5 ef5 el5 ⊢
          refine ⟨l, rfl, ⟨_, .inl (.inl el5)⟩, fun D2 hD2 => ?_⟩
          refine lc_tup (K := K) (a := l) (xs := lvs) (fun j H7 => Go T D0 H5 H7 ∧ H7 D2 = some (.lst (((d.lines.take j).map lnTxt).map V.str))) ?_ ?_ ?_ ?_
          · exact ⟨(Go.rfl' g5.1).new hD2, upd_same⟩
          · rintro j H7 hj ⟨g7, _⟩
            exact .inl (.inl (g7.at g5.1 (fun z => z) el5))
          · rintro j x H7 hx ⟨g7, eD2⟩
            obtain ⟨d'', hd'', hx'⟩ := DpAll.at' dl hx
            obtain ⟨ln, hln, rfl⟩ := at_map hd''
            have lm := List.mem_of_getElem? hln
            obtain ⟨ax, _, rfl, Sx, d3⟩ := Dp.tupI (Dp.sub (toH (g5.trans g7)) _ _ hx')
            obtain ⟨w1, w2, w3, rfl, e1, e2, e3⟩ := DpAll.i3 d3
            cases Dp.strI e1
            cases Dp.intI e2
            cases Dp.intI e3
            have lo := ed_nums (ded ln lm) (dsm ln lm)
            refine ⟨rfl, .ref ax, rfl, ax, ln.1, ln.2.1, ln.2.2, rfl, Sx, (ded ln lm).str, by have := lo.1; omega, lo.2.1, lo.2.2.1, lo.2.2.2, dsm ln lm, fun tx htx => ?_⟩
            have etx : tx = lnTxt ln := Option.some.inj (htx.symm.trans (lineTxt_ln ln))
            subst etx
            refine ⟨_, eD2, small_line (by rw [List.length_map, List.length_map, List.length_take]; omega), g7.put hD2 eD2, ?_⟩
            rw [upd_same, List.take_add_one, hln, List.map_append, List.map_append]
            rfl
          · rintro H7 ⟨g7, eD2⟩
            rw [lvl, List.take_length] at eD2
            have g07 := g5.trans g7
            have ef7 := g7.at g5.1 (fun z => z) ef5
            have S7 := (toH g07).seqT S
            refine ⟨.ref f, rfl, .inl ⟨rfl, _, .inl (.inl ef7)⟩, ⟨" ", rfl⟩, .ref a', rfl, a', _, 0, .str d.kind, rfl, rfl, S7, atI_nat (j := 0) rfl, .ref D2, rfl, D2, _, rfl, .inr (.inl (.inl eD2)), small_le (by rw [List.append_nil, List.length_cons, List.length_map, List.length_map]; omega), fun b hb => ?_⟩
            rw [List.append_nil]
            have g8 := g07.new (o := .lst (V.str d.kind :: (d.lines.map lnTxt).map V.str)) hb
            have ef8 := (upd_ne (o := .lst (V.str d.kind :: (d.lines.map lnTxt).map V.str)) (ne_of_none ef7 hb)).trans ef7
            have eb8 : (upd H7 b (.lst (V.str d.kind :: (d.lines.map lnTxt).map V.str))) b = some (.lst ((d.kind :: d.lines.map lnTxt).map V.str)) := upd_same
            generalize upd H7 b (.lst (V.str d.kind :: (d.lines.map lnTxt).map V.str)) = H8 at g8 ef8 eb8 ⊢
            refine ⟨" ", b, _, rfl, rfl, .inl (.inl (.inl eb8)), ?_, ?_⟩
            · have k30 : ∀ x ∈ (d.kind :: d.lines.map lnTxt), x.length ≤ 30 := by
                intro x hx
                rcases List.mem_cons.mp hx with rfl | hx
                · have := kind_len d
                  omega
                · obtain ⟨l, hl, rfl⟩ := List.mem_map.mp hx
                  exact lnTxt_len (ded l hl) (dsm l hl)
              have := sum_le k30
              have kc : (d.kind :: d.lines.map lnTxt).length ≤ 3 := by rw [List.length_cons, List.length_map]; omega
              rw [bl]
              omega
            have fl : ((h2 ++ done).map V.str).length ≤ 2002 := by rw [List.length_map, List.length_append]; omega
            refine ⟨f, _, _, rfl, rfl, ef8, small_line (by omega), ?_⟩
            have g9 := g8.put (o := .lst ((h2 ++ done).map V.str ++ [V.str (Txt.join " " (d.kind :: d.lines.map lnTxt))])) hf ef8
            have ef9 : (upd H8 f (.lst ((h2 ++ done).map V.str ++ [V.str (Txt.join " " (d.kind :: d.lines.map lnTxt))]))) f = some (.lst ((h2 ++ done ++ [Txt.join " " (d.kind :: d.lines.map lnTxt)]).map V.str)) := by
              rw [upd_same, List.map_append (l₁ := h2 ++ done)]
              rfl
            generalize upd H8 f (.lst ((h2 ++ done).map V.str ++ [V.str (Txt.join " " (d.kind :: d.lines.map lnTxt))])) = H9 at g9 ef9 ⊢
            have S9 := (toH g9).seqT S
            have fl2 : ((h2 ++ done ++ [Txt.join " " (d.kind :: d.lines.map lnTxt)]).map V.str).length ≤ 2003 := by rw [List.length_map, List.length_append, List.length_append]; show h2.length + done.length + 1 ≤ 2003; omega
            refine ⟨.ref a', rfl, a', _, 0, .str d.kind, rfl, rfl, S9, atI_nat (j := 0) rfl, rfl, _, rfl, ite2 (fun e => ?_) (fun e => ?_)⟩
            · have ek : d.kind = "put" := V.str.inj (of_decide_eq_true e)
              rcases hcase with ⟨_, h2', t', rfl, st⟩ | ⟨n1, _⟩ | ⟨n1, _⟩
              · obtain ⟨x, y, rfl⟩ := len2 h2'
                have st9 := (toH g9).seqT st
                refine ⟨.ref f, rfl, .inl ⟨rfl, _, .inl (.inl ef9)⟩, .ref a', rfl, a', _, 3, .ref t', rfl, rfl, S9, atI_nat (j := 3) rfl, t', rfl, ⟨_, st9⟩, fun D3 hD3 => ?_⟩
                refine lc_tup (K := K) (a := t') (xs := d.texts.map V.str) (fun j H10 => Go T D0 H9 H10 ∧ H10 D3 = some (.lst (((d.texts.take j).map fun t => ("+" ++ t : Str)).map V.str))) ?_ ?_ ?_ ?_
                · exact ⟨(Go.rfl' g9.1).new hD3, upd_same⟩
                · rintro j H10 hj ⟨g10, _⟩
                  exact g10.seqT g9.1 (fun _ _ z => z) st9
                · rintro j x H10 hx ⟨g10, eD3⟩
                  rw [List.getElem?_map] at hx
                  cases htx : d.texts[j]? with
                  | none => rw [htx] at hx; cases hx
                  | some tx =>
                    rw [htx] at hx
                    cases hx
                    have pl : ("+" : Str).length = 1 := by decide +kernel
                    have tl := (dtx tx (List.mem_of_getElem? htx)).2.1
                    refine ⟨rfl, .str tx, rfl, "+", tx, rfl, rfl, small_le (by rw [pl]; omega), _, eD3, small_line (by rw [List.length_map, List.length_map, List.length_take]; omega), g10.put hD3 eD3, ?_⟩
                    rw [upd_same, List.take_add_one, htx, List.map_append, List.map_append]
                    rfl
                · rintro H10 ⟨g10, eD3⟩
                  rw [List.length_map, List.take_length] at eD3
                  have ef10 := g10.at g9.1 (fun z => z) ef9
                  refine ⟨f, D3, _, _, rfl, rfl, ef10, eD3, small_le (by rw [List.length_map (as := d.texts.map _), List.length_map (as := d.texts)]; omega), f, _, _, rfl, (g9.trans g10).put hf ef10, hf, ?_⟩
                  rw [upd_same, step, ← List.map_append]
                  unfold deedRows
                  simp
              · rw [ek] at n1
                exact absurd n1 (by decide +kernel)
              · exact absurd ek n1
            · have ek : ¬ d.kind = "put" := fun z => e (decide_eq_true (by rw [z]))
              have tx : d.texts = [] := by
                rcases hcase with ⟨n1, _⟩ | ⟨_, _, _, h⟩ | ⟨_, _, _, _, h⟩
                · exact absurd n1 ek
                · exact h
                · exact h
              refine ⟨f, _, _, rfl, g9, hf, ?_⟩
              rw [ef9, step]
              unfold deedRows
              rw [tx]
              simp
        · rintro σ H3 ⟨f, y6, y7, rfl, g3, hf, ef⟩
          rw [dlen, List.take_length] at ef
          refine ⟨.ref f, rfl, q H3 f g3 hf ?_⟩
          rw [ef]
          have : h2 ++ p.deeds.flatMap deedRows = rowsOf p := by rw [← hh2]; rfl
          rw [this]
end
end K1
set_option Elab.async false
set_option linter.all false
set_option maxRecDepth 100000
set_option maxHeartbeats 4000000
/-! The program's def patches_text. -/
namespace K1
open PySem PySem.Spec PyProof.Rows L2

theorem join_le (s : Str) (ts : List Str) : (Txt.join s ts).length ≤ (ts.map (·.length)).sum + ts.length * s.length := by
  rw [TL.join_eq]
  exact PySem.StrLaws.join_length_le s ts
theorem deedRows_sum {d : Deed} (h : d.ok) (s : ∀ l ∈ d.lines, l.2.2 < 1000000) : ((deedRows d).map (·.length)).sum ≤ 100 + 41 * d.texts.length := by
  have bl : (" " : Str).length = 1 := by decide +kernel
  have pl : ("+" : Str).length = 1 := by decide +kernel
  unfold deedRows
  rw [List.map_cons, List.sum_cons]
  have h1 := join_le " " (d.kind :: d.lines.map lnTxt)
  have k30 : ∀ x ∈ (d.kind :: d.lines.map lnTxt), x.length ≤ 30 := by
    intro x hx
    rcases List.mem_cons.mp hx with rfl | hx
    · have := kind_len d
      omega
    · obtain ⟨l, hl, rfl⟩ := List.mem_map.mp hx
      exact lnTxt_len (deed_ed h l hl) (s l hl)
  have h2 := sum_le k30
  have l2 := lines_len d
  have kc : (d.kind :: d.lines.map lnTxt).length ≤ 3 := by rw [List.length_cons, List.length_map]; omega
  have h3 : ((d.texts.map fun t => ("+" ++ t : Str)).map (·.length)).sum ≤ 41 * (d.texts.map fun t => ("+" ++ t : Str)).length := by
    refine sum_le fun x hx => ?_
    obtain ⟨t, ht, rfl⟩ := List.mem_map.mp hx
    have := (deed_tx h t ht).2.1
    rw [len_app, pl]
    omega
  rw [List.length_map] at h3
  rw [bl] at h1
  omega
theorem rowsSum {ds : List Deed} (h : ∀ d ∈ ds, d.ok) (s : ∀ d ∈ ds, ∀ l ∈ d.lines, l.2.2 < 1000000) : ((ds.flatMap deedRows).map (·.length)).sum ≤ 100 * ds.length + 41 * (ds.flatMap Deed.texts).length := by
  induction ds with
  | nil => exact Nat.zero_le _
  | cons d r ih =>
    rw [List.flatMap_cons, List.flatMap_cons, List.map_append, List.sum_append, List.length_append, List.length_cons]
    have h1 := deedRows_sum (h d (List.mem_cons_self ..)) (s d (List.mem_cons_self ..))
    have h2 := ih (fun x m => h x (List.mem_cons_of_mem _ m)) (fun x m => s x (List.mem_cons_of_mem _ m))
    omega
/-- what stands in the text of patches -/
structure Pats.sized (ps : List Pat) : Prop where
  each : ∀ p ∈ ps, p.sized ∧ p.knows.length ≤ 100 ∧ (textsOf p).length ≤ 100 ∧ p.deeds.length ≤ 100
  len : ps.length ≤ 100
theorem knownSum {ns : List Nm} (h : ∀ n ∈ ns, NmOk n) : ((("knows" :: knownWords ns : List Str)).map (·.length)).sum ≤ 19 * (ns.length + 2) ∧ (("knows" :: knownWords ns : List Str)).length ≤ ns.length + 2 := by
  have dot : ("." : Str).length = 1 := by decide +kernel
  have k19 : ∀ x ∈ ("knows" :: knownWords ns : List Str), x.length ≤ 19 := by
    intro x hx
    rcases List.mem_cons.mp hx with rfl | hx
    · decide +kernel
    · unfold knownWords at hx
      split at hx
      · rw [List.mem_singleton.mp hx]
        decide +kernel
      · obtain ⟨n, hn, rfl⟩ := List.mem_map.mp hx
        have nok := h n hn
        have h2 := len_num (Int.le_trans (by decide) nok.2.1) (Int.lt_of_le_of_lt nok.2.2 (by decide))
        have h3 := (handOk nok.1).2
        show (n.1 ++ "." ++ Str.ofString (toString n.2) : Str).length ≤ 19
        simp only [len_app, dot]
        omega
  have kc : ("knows" :: knownWords ns : List Str).length ≤ ns.length + 2 := by
    unfold knownWords
    split
    · show 2 ≤ _
      omega
    · rw [List.length_cons, List.length_map]
      omega
  have := sum_le k19
  exact ⟨by omega, kc⟩
theorem patSum {p : Pat} (h : p.sized) : ((rowsOf p).map (·.length)).sum ≤ 100 + 20 * p.knows.length + 100 * p.deeds.length + 41 * (textsOf p).length ∧ (rowsOf p).length = 2 + p.deeds.length + (textsOf p).length := by
  have pl : ("patch " : Str).length = 6 := by decide +kernel
  have bl : (" " : Str).length = 1 := by decide +kernel
  have h1 := join_le " " ("knows" :: knownWords p.knows)
  have h2 := knownSum h.ok.knows
  have h3 := rowsSum h.ok.deeds h.lines
  have h4 := (handOk h.ok.name.1).2
  have h5 := len_num (Int.le_trans (by decide) h.ok.name.2.1) (Int.lt_of_le_of_lt h.ok.name.2.2 (by decide))
  have h6 := rows_len p.deeds
  rw [bl] at h1
  unfold rowsOf
  rw [List.map_cons, List.sum_cons, List.map_cons, List.sum_cons, List.length_cons, List.length_cons]
  have h7 : ("patch " ++ p.name.1 ++ " " ++ num p.name.2 : Str).length ≤ 25 := by
    show ("patch " ++ p.name.1 ++ " " ++ Str.ofString (toString p.name.2) : Str).length ≤ 25
    simp only [len_app, pl, bl]
    omega
  unfold textsOf
  constructor <;> omega
theorem patsSum : ∀ {ps : List Pat}, (∀ p ∈ ps, p.sized ∧ p.knows.length ≤ 100 ∧ (textsOf p).length ≤ 100 ∧ p.deeds.length ≤ 100) → ((ps.flatMap rowsOf).map (·.length)).sum ≤ 20000 * ps.length ∧ (ps.flatMap rowsOf).length ≤ 202 * ps.length
  | [], _ => ⟨Nat.zero_le _, Nat.zero_le _⟩
  | p :: r, h => by
    have h1 := patSum (h p (List.mem_cons_self ..)).1
    have h2 := (h p (List.mem_cons_self ..)).2
    have h3 := patsSum (ps := r) fun x m => h x (List.mem_cons_of_mem _ m)
    rw [List.flatMap_cons, List.map_append, List.sum_append, List.length_append, List.length_cons]
    omega
section
variable {P : Program} {w : World} {K : PySem.W.Frag} {mg : Str → Option Value} {base : Heap} {T : Tp}
def PatsAt (K : PySem.W.Frag) (C : Addr) (H : Hp) (vs : List V) (ps : List Pat) : Prop := vs.length = ps.length ∧ ∀ (i : Nat) (v : V) (p : Pat), vs[i]? = some v → ps[i]? = some p → PatAt K C H v p
def textOf (ps : List Pat) : Str := Txt.join "\n" (ps.flatMap rowsOf)
def spPText (K : PySem.W.Frag) (C : Addr) (T : Tp) : Sp := fun vs H Q _ => ∃ (a : Addr) (xs : List V) (ps : List Pat), vs = [.ref a] ∧ SqL K H a xs ∧ PatsAt K C H xs ps ∧ Pats.sized ps ∧ TG T H ∧ ∀ H', Go T D0 H H' → Q (.str (textOf ps)) H'
theorem PatAt.go {C : Addr} {H H' : Hp} {v : V} {p : Pat} (h : PatAt K C H v p) (g : Go T D0 H H') (t : TG T H) : PatAt K C H' v p := by
  obtain ⟨a, dx, fs, nv, kv, dv, e, ep, l1, l2, l3, d1, d2, d3⟩ := h
  have s := sub_go g t
  exact ⟨a, dx, fs, nv, kv, dv, e, g.at t (fun z => z) ep, l1, l2, l3, Dp.sub s _ _ d1, Dp.sub s _ _ d2, Dp.sub s _ _ d3⟩
theorem ok_ptext {f C : Addr} {fd : FuncData} {k : Nat} (F : Fun K "patches_text" "patches_text" sPatchesText f fd) (cR : Cal P w K mg base k "patch_rows" ["patch"] (spPRows K C T)) :
    FnOk P w K mg base CX0 (k + 1) f fd ["patches"] (spPText K C T) := by
  refine F.ok scPatchesText (fun vs H Q E h => ?_) (fun cdv A outer s H vs Q E hr h => ?_)
  · obtain ⟨a, xs, ps, rfl, _⟩ := h
    rfl
  · obtain ⟨a, xs, ps, rfl, hS, hP, hz, tg, q⟩ := h
    refine ⟨_, (pss_cons (ps_set (i := 1) scPatchesText.nd rfl (.inl rfl) (pe_lst pa_nil))
      (pss_cons (ps_for PassesOwn.never rfl (pi_list (pv 0)) (pg_name (i := 2) scPatchesText.nd rfl (.inl rfl))
      (pss_one (ps_expr (pe_bm PySem.F.plainAttrs_list PySem.F.slot_list_extend PySem.F.type_list_extend mt_extend (pv 1) (pa_cons (pe_cal cR hr (by rfl) (pa_cons (pv 2) pa_nil)) pa_nil)))))
      (pss_one (ps_ret (pe_join pe_str (pv 1)))))), ?_⟩
    refine ⟨Nat.zero_le _, fun r hr' => ?_⟩
    have g1 : Go T D0 H (upd H r (.lst [])) := (Go.rfl' tg).new hr'
    have e1 : (upd H r (.lst [])) r = some (.lst []) := upd_same
    generalize upd H r (.lst []) = H1 at g1 e1 ⊢
    have sum := patsSum hz.each
    have pl := hz.len
    refine ⟨.ref a, rfl, a, rfl, ⟨xs, g1.seqL tg (fun _ _ z => z) hS⟩, ?_⟩
    refine for_list (K := K) (a := a) (xs := xs) (fun i σ H2 => ∃ y2, σ = [some (.ref a), some (.ref r), y2] ∧ Go T D0 H H2 ∧ H2 r = some (.lst (((ps.take i).flatMap rowsOf).map V.str))) ?_ ?_ ?_ ?_
    · exact ⟨_, rfl, g1, e1⟩
    · rintro i σ H2 hi ⟨y2, rfl, g2, _⟩
      exact g2.seqL tg (fun _ _ z => z) hS
    · rintro i v σ H2 hv ⟨y2, rfl, g2, er⟩
      have hi : i < xs.length := (List.getElem?_eq_some_iff.mp hv).1
      obtain ⟨p, hp⟩ : ∃ p, ps[i]? = some p := ⟨_, List.getElem?_eq_getElem (by rw [← hP.1]; exact hi)⟩
      have pz := hz.each p (List.mem_of_getElem? hp)
      have pa := (hP.2 i v p hv hp).go g2 tg
      refine ⟨.ref r, rfl, .inl ⟨rfl, _, .inl (.inl er)⟩, v, rfl, v, p, rfl, pa, pz.1, g2.1, fun H3 l g3 fl el => ?_⟩
      have er3 := g3.at g2.1 (fun z => z) er
      have t1 : ((ps.take i).flatMap rowsOf).length ≤ (ps.flatMap rowsOf).length := flat_take _ _
      have t2 := (patSum pz.1).2
      refine ⟨r, l, _, _, rfl, rfl, er3, el, Nat.le_trans (show _ ≤ 1000000 by rw [List.length_map, List.length_map]; omega) (by decide), _, rfl, (g2.trans g3).put hr' er3, ?_⟩
      rw [upd_same, flat_succ hp, List.map_append]
    · rintro σ H2 ⟨y2, rfl, g2, er⟩
      rw [hP.1, List.take_length] at er
      have nl : ("\n" : Str).length = 1 := by decide +kernel
      exact ⟨⟨"\n", rfl⟩, .ref r, rfl, "\n", r, _, rfl, rfl, .inl (.inl (.inl er)), by rw [nl]; omega, q H2 g2⟩
end
end K1
set_option Elab.async false
set_option linter.all false
set_option maxRecDepth 100000
set_option maxHeartbeats 4000000
/-! The program's method told, and _is_text. -/
namespace K1
open PySem PySem.Spec PyProof.Rows L2
section
variable {P : Program} {w : World} {K : PySem.W.Frag} {mg : Str → Option Value} {base : Heap} {T : Tp}
/-- what told tells: new lists of the very items -/
def spTold (K : PySem.W.Frag) (C : Addr) (T : Tp) : Sp := fun vs H Q _ => ∃ (v : V) (p : Pat), vs = [v] ∧ PatAt K C H v p ∧ TG T H ∧
  ∀ H' t nv kl dl kvs dvs, Go T D0 H H' → H t = none → H kl = none → H dl = none → kl ≠ dl → H' t = some (.tup [nv, .ref kl, .ref dl]) → H' kl = some (.lst kvs) → H' dl = some (.lst dvs) → Dp K H nv (eN p.name) → DpAll K H kvs (p.knows.map eN) → DpAll K H dvs (p.deeds.map eD) → Q (.ref t) H'
theorem ok_told {f C : Addr} {fd : FuncData} {k : Nat} (F : Fun K "told" "Patch.told" sPatch_told f fd) (M : Mg K mg) (PC : PCls K C) : FnOk P w K mg base CX0 (k + 1) f fd ["self"] (spTold K C T) := by
  refine F.ok scPatch_told (fun vs H Q E h => ?_) (fun cdv A outer s H vs Q E hr h => ?_)
  · obtain ⟨v, p, rfl, _⟩ := h
    rfl
  · obtain ⟨v, p, rfl, pat, tg, q⟩ := h
    refine ⟨_, pss_one (ps_ret (pe_tup (pa_cons (pe_fld (pv 0) (by rfl)) (pa_cons (pe_callTy call_list_of (by rfl) M.list_ (by decide +kernel) (pa_cons (pe_fld (pv 0) (by rfl)) pa_nil)) (pa_cons (pe_callTy call_list_of (by rfl) M.list_ (by decide +kernel) (pa_cons (pe_fld (pv 0) (by rfl)) pa_nil)) pa_nil))))), ?_⟩
    obtain ⟨a, dx, fs, nv, kv, dv, rfl, ep, ln_, lk_, ld_, dn, dk, dd⟩ := pat
    obtain ⟨ak, kvs, rfl, Sk, dks⟩ := Dp.tupI dk
    obtain ⟨ad, dvs, rfl, Sd, dds⟩ := Dp.tupI dd
    refine ⟨.ref a, rfl, a, C, dx, fs, nv, rfl, ep, PC.cls, PC.name, ln_, .ref a, rfl, a, C, dx, fs, .ref ak, rfl, ep, PC.cls, PC.knows, lk_, ak, _, rfl, .inr Sk, fun kl hkl => ?_⟩
    have g1 : Go T D0 H (upd H kl (.lst kvs)) := (Go.rfl' tg).new hkl
    have ep1 := g1.at tg (fun z => z) ep
    refine ⟨.ref a, rfl, a, C, dx, fs, .ref ad, rfl, ep1, PC.cls, PC.deeds, ld_, ad, _, rfl, .inr ((sub_go g1 tg).seqT Sd), fun dl hdl => ?_⟩
    have g2 := g1.new (o := .lst dvs) hdl
    have n1 : kl ≠ dl := ne_of_none upd_same hdl
    refine ⟨small_le (by show 3 ≤ 10000; decide), fun t ht => ?_⟩
    have ek : (upd (upd H kl (.lst kvs)) dl (.lst dvs)) kl = some (.lst kvs) := (upd_ne n1).trans upd_same
    have nk : kl ≠ t := ne_of_none ek ht
    have nd : dl ≠ t := ne_of_none upd_same ht
    exact q _ t nv kl dl kvs dvs (g2.new ht) (g2.free tg (fun z => z) ht) hkl (g1.free tg (fun z => z) hdl) n1 upd_same ((upd_ne nk).trans ek) ((upd_ne nd).trans upd_same) dn dks dds
end
end K1
set_option Elab.async false
set_option linter.all false
set_option maxRecDepth 100000
set_option maxHeartbeats 4000000
/-! Written names, lines and rows, read back. -/
namespace K1
open PySem PySem.Spec PyProof.Rows L2

theorem numL_head : ∀ m : Nat, 1 ≤ m → ∃ c r, TL.numL m = c :: r ∧ c ≠ 48 := by
  intro m
  induction m using Nat.strongRecOn with
  | _ m ih =>
    intro h
    by_cases h10 : m < 10
    · rw [TL.numL_lt h10]
      exact ⟨48 + m, [], rfl, by omega⟩
    · obtain ⟨c, r, e, n⟩ := ih (m / 10) (by omega) (by omega)
      rw [TL.numL_step (by omega), e]
      exact ⟨c, r ++ [48 + m % 10], rfl, n⟩
theorem numT_num {n : Int} (h0 : 1 ≤ n) (h1 : n < 1000000) : numT (num n) = some n := by
  obtain ⟨m, rfl⟩ := Int.eq_ofNat_of_zero_le (show 0 ≤ n by omega)
  obtain ⟨c, r, e, hc⟩ := numL_head m (by omega)
  unfold numT
  rw [show TL.tl (num ((m : Nat) : Int)) = TL.numL m from TL.tl_num m, e]
  have l6 : (c :: r).length ≤ 6 := by rw [← e]; exact TL.numL_len (by decide) (show m < 10 ^ 6 by omega)
  have al : (c :: r).all (fun c => decide (c ∈ TL.tl figs)) = true := by
    refine List.all_eq_true.mpr fun d hd => ?_
    rw [← e] at hd
    exact decide_eq_true (fig_iff.mpr (TL.numL_digits m d hd))
  have v : NumText.digitsVal (c :: r) = m := by rw [← e]; exact TL.numL_val m
  show (if (decide ((c :: r).length ≤ 6) && (decide (c ≠ 48) && (c :: r).all (fun c => decide (c ∈ TL.tl figs)))) = true then some ((NumText.digitsVal (c :: r) : Nat) : Int) else none) = _
  rw [decide_eq_true l6, decide_eq_true hc, al, v]
  rfl
theorem numV_num {n : Int} (h0 : 1 ≤ n) (h1 : n < 1000000) : numV (.str (num n)) = .int n := by
  show (match numT (num n) with | some n => V.int n | none => .non) = _
  rw [numT_num h0 h1]
theorem num_no {n : Int} (h0 : 0 ≤ n) {s : Nat} (h : s < 48 ∨ 57 < s) : s ∉ TL.tl (num n) := by
  obtain ⟨m, rfl⟩ := Int.eq_ofNat_of_zero_le h0
  rw [show TL.tl (num ((m : Nat) : Int)) = TL.numL m from TL.tl_num m]
  exact TL.numL_free h
theorem hand_no {x : Str} (h : handV (.str x) = true) {s : Nat} (hs : s < 97 ∨ 122 < s) : s ∉ TL.tl x := by
  have w : wordOk x = true := (Bool.and_eq_true_iff.mp h).1
  have w1 := Bool.and_eq_true_iff.mp w
  intro hc
  have := of_decide_eq_true (List.all_eq_true.mp w1.2 s hc)
  have e : ltrs.cps.toList.all (fun c => decide (97 ≤ c) && decide (c ≤ 122)) = true := by decide +kernel
  have r := Bool.and_eq_true_iff.mp (List.all_eq_true.mp e s this)
  have r1 := of_decide_eq_true r.1
  have r2 := of_decide_eq_true r.2
  omega
theorem join2 (y a b : Str) : a ++ y ++ b = Txt.join y [a, b] := by
  refine TL.ext_tl ?_
  rw [TL.join_eq, TL.tl_join, TL.tl_append, TL.tl_append]
  show _ = TL.tl a ++ (TL.tl y ++ TL.tl b)
  rw [List.append_assoc]
theorem join3 (y a b c : Str) : a ++ y ++ b ++ y ++ c = Txt.join y [a, b, c] := by
  refine TL.ext_tl ?_
  rw [TL.join_eq, TL.tl_join, TL.tl_append, TL.tl_append, TL.tl_append, TL.tl_append]
  show _ = TL.tl a ++ (TL.tl y ++ (TL.tl b ++ (TL.tl y ++ TL.tl c)))
  simp only [List.append_assoc]
theorem split_nm {n : Nm} (h : NmOk n) : Txt.split (nmTxt n) "." = [n.1, num n.2] := by
  unfold nmTxt
  rw [join2]
  refine TL.split_join (S := []) sepDot.tl sepDot.low (by simp) fun p hp => ?_
  rcases List.mem_cons.mp hp with rfl | hp
  · exact hand_no h.1 (by omega)
  · rw [List.mem_singleton.mp hp]
    exact num_no (Int.le_trans (by decide) h.2.1) (by omega)
theorem nameS_back {n : Nm} (h : NmOk n) : nameS (nmTxt n) = some [.str n.1, .int n.2] := by
  unfold nameS
  rw [split_nm h]
  show (if nameL (some [.str n.1, numV (.str (num n.2))]) = true then some [V.str n.1, numV (.str (num n.2))] else none) = _
  rw [numV_num h.2.1 (Int.lt_of_le_of_lt h.2.2 (by decide)), if_pos]
  show (handV (.str n.1) && (decide (1 ≤ n.2) && decide (n.2 ≤ 999))) = true
  rw [h.1, decide_eq_true h.2.1, decide_eq_true h.2.2]
  rfl
theorem split_ln {l : Ln} (h : LnOk l) : Txt.split (l.1 ++ "." ++ num l.2.1 ++ "." ++ num l.2.2) "." = [l.1, num l.2.1, num l.2.2] := by
  rw [join3]
  refine TL.split_join (S := []) sepDot.tl sepDot.low (by simp) fun p hp => ?_
  rcases List.mem_cons.mp hp with rfl | hp
  · exact hand_no h.1.1 (by omega)
  rcases List.mem_cons.mp hp with rfl | hp
  · exact num_no (Int.le_trans (by decide) h.1.2.1) (by omega)
  · rw [List.mem_singleton.mp hp]
    exact num_no (Int.le_trans (by decide) h.2) (by omega)
theorem lineS_back {l : Ln} (h : EdOk l) (s : l.2.2 < 1000000) : lineS (lnTxt l) = some [.str l.1, .int l.2.1, .int l.2.2] := by
  rcases h with h | rfl | rfl
  · have e2 : lnTxt l = l.1 ++ "." ++ num l.2.1 ++ "." ++ num l.2.2 := by
      unfold lnTxt
      rw [if_neg, if_neg]
      · exact h.ne_foot
      · rintro rfl
        have := h.1.1
        revert this
        decide +kernel
    have dot : (46 : Nat) ∈ TL.tl (lnTxt l) := by
      rw [e2]
      simp only [TL.tl_append, sepDot.tl]
      simp
    have n1 : lnTxt l ≠ "head" := by
      intro z
      rw [z] at dot
      revert dot
      decide +kernel
    have n2 : lnTxt l ≠ "foot" := by
      intro z
      rw [z] at dot
      revert dot
      decide +kernel
    unfold lineS
    rw [if_neg n1, if_neg n2, e2, split_ln h]
    show (if putL (some [.str l.1, numV (.str (num l.2.1)), numV (.str (num l.2.2))]) = true then some [V.str l.1, numV (.str (num l.2.1)), numV (.str (num l.2.2))] else none) = _
    have a1 : handV (.str l.1) = true := h.1.1
    have a2 : (1 : Int) ≤ l.2.1 := h.1.2.1
    have a3 : l.2.1 ≤ 999 := h.1.2.2
    rw [numV_num a2 (Int.lt_of_le_of_lt a3 (by decide)), numV_num h.2 s, if_pos]
    show ((handV (.str l.1) && (decide (1 ≤ l.2.1) && decide (l.2.1 ≤ 999))) && decide (1 ≤ l.2.2)) = true
    rw [a1, decide_eq_true a2, decide_eq_true a3, decide_eq_true h.2]
    rfl
  · decide +kernel
  · decide +kernel
/-! rows and words -/
theorem sepNl : Sep "\n" 10 := ⟨by decide +kernel, by decide +kernel⟩
theorem joinL_no {s c : Nat} (hs : s ≠ c) : ∀ {L : List (List Nat)}, (∀ p ∈ L, c ∉ p) → c ∉ TL.joinL [s] L
  | [], _ => fun h => by cases h
  | [p], h => h p (List.mem_cons_self ..)
  | p :: q :: r, h => by
    show c ∉ p ++ ([s] ++ TL.joinL [s] (q :: r))
    intro hm
    rcases List.mem_append.mp hm with hm | hm
    · exact h p (List.mem_cons_self ..) hm
    rcases List.mem_append.mp hm with hm | hm
    · exact hs (List.mem_singleton.mp hm).symm
    · exact joinL_no hs (L := q :: r) (fun z hz => h z (List.mem_cons_of_mem _ hz)) hm
theorem row_no {ws : List Str} (h : ∀ w ∈ ws, 10 ∉ TL.tl w) : 10 ∉ TL.tl (Txt.join " " ws) := by
  rw [TL.join_eq, TL.tl_join, sepBlank.tl]
  refine joinL_no (by decide) fun p hp => ?_
  obtain ⟨w, hw, rfl⟩ := List.mem_map.mp hp
  exact h w hw
theorem nmTxt_no {n : Nm} (h : NmOk n) {s : Nat} (hs : s < 46) : s ∉ TL.tl (nmTxt n) := by
  unfold nmTxt
  simp only [TL.tl_append, sepDot.tl]
  intro hm
  rcases List.mem_append.mp hm with hm | hm
  · rcases List.mem_append.mp hm with hm | hm
    · exact hand_no h.1 (by omega) hm
    · have := List.mem_singleton.mp hm
      omega
  · exact num_no (Int.le_trans (by decide) h.2.1) (by omega) hm
theorem lnTxt_no {l : Ln} (h : EdOk l) (sm : 0 ≤ l.2.2) {s : Nat} (hs : s < 46) : s ∉ TL.tl (lnTxt l) := by
  have a1 : ∀ x : Str, (TL.tl x).all (fun c => decide (46 ≤ c)) = true → s ∉ TL.tl x := fun x e hm => by
    have := of_decide_eq_true (List.all_eq_true.mp e s hm)
    omega
  rcases h with h | rfl | rfl
  · unfold lnTxt
    split
    · exact a1 _ (by decide +kernel)
    · split
      · exact a1 _ (by decide +kernel)
      · simp only [TL.tl_append, sepDot.tl]
        intro hm
        rcases List.mem_append.mp hm with hm | hm
        · rcases List.mem_append.mp hm with hm | hm
          · rcases List.mem_append.mp hm with hm | hm
            · rcases List.mem_append.mp hm with hm | hm
              · exact hand_no h.1.1 (by omega) hm
              · have := List.mem_singleton.mp hm
                omega
            · exact num_no (Int.le_trans (by decide) h.1.2.1) (by omega) hm
          · have := List.mem_singleton.mp hm
            omega
        · exact num_no sm (by omega) hm
  · exact a1 _ (by decide +kernel)
  · exact a1 _ (by decide +kernel)
/-- no row of a patch has a line feed -/
theorem rows_no {p : Pat} (h : p.sized) : ∀ r ∈ rowsOf p, 10 ∉ TL.tl r := by
  have plain : ∀ x : Str, (TL.tl x).all (fun c => decide (c ≠ 10)) = true → 10 ∉ TL.tl x := fun x e hm => (of_decide_eq_true (List.all_eq_true.mp e 10 hm)) rfl
  intro r hr
  unfold rowsOf at hr
  rcases List.mem_cons.mp hr with rfl | hr
  · simp only [TL.tl_append]
    intro hm
    rcases List.mem_append.mp hm with hm | hm
    · rcases List.mem_append.mp hm with hm | hm
      · rcases List.mem_append.mp hm with hm | hm
        · exact plain "patch " (by decide +kernel) hm
        · exact hand_no h.ok.name.1 (by omega) hm
      · exact plain " " (by decide +kernel) hm
    · exact num_no (Int.le_trans (by decide) h.ok.name.2.1) (by omega) hm
  rcases List.mem_cons.mp hr with rfl | hr
  · refine row_no fun w hw => ?_
    rcases List.mem_cons.mp hw with rfl | hw
    · exact plain _ (by decide +kernel)
    · unfold knownWords at hw
      split at hw
      · rw [List.mem_singleton.mp hw]
        exact plain _ (by decide +kernel)
      · obtain ⟨n, hn, rfl⟩ := List.mem_map.mp hw
        exact nmTxt_no (h.ok.knows n hn) (by omega)
  · obtain ⟨d, hd, hr⟩ := List.mem_flatMap.mp hr
    unfold deedRows at hr
    rcases List.mem_cons.mp hr with rfl | hr
    · refine row_no fun w hw => ?_
      rcases List.mem_cons.mp hw with rfl | hw
      · cases d with
        | put => exact plain "put" (by decide +kernel)
        | order => exact plain "order" (by decide +kernel)
        | one k =>
          show 10 ∉ TL.tl (kindS k)
          cases k
          · exact plain "cut" (by decide +kernel)
          · exact plain "keep" (by decide +kernel)
      · obtain ⟨l, hl, rfl⟩ := List.mem_map.mp hw
        have eo := deed_ed (h.ok.deeds d hd) l hl
        exact lnTxt_no eo (ed_nums eo (h.lines d hd l hl)).2.2.2 (by omega)
    · obtain ⟨t, ht, rfl⟩ := List.mem_map.mp hr
      rw [TL.tl_append]
      intro hm
      rcases List.mem_append.mp hm with hm | hm
      · exact plain "+" (by decide +kernel) hm
      · exact (deed_tx (h.ok.deeds d hd) t ht).2.2 hm
/-- the rows of a text of patches, read back -/
theorem split_text {ps : List Pat} (h : ∀ p ∈ ps, p.sized) (ne : ps ≠ []) : Txt.split (textOf ps) "\n" = ps.flatMap rowsOf := by
  refine TL.split_join (S := []) sepNl.tl sepNl.low ?_ fun r hr => ?_
  · cases ps with
    | nil => exact absurd rfl ne
    | cons p r => simp [rowsOf]
  · obtain ⟨p, hp, hr⟩ := List.mem_flatMap.mp hr
    exact rows_no (h p hp) r hr
end K1
set_option Elab.async false
set_option linter.all false
set_option maxRecDepth 100000
set_option maxHeartbeats 4000000
/-! The words of written rows, read back. -/
namespace K1
open PySem PySem.Spec PyProof.Rows L2
theorem words_back {ws : List Str} (ne : ws ≠ []) (h : ∀ w ∈ ws, 32 ∉ TL.tl w ∧ w ≠ "") : wordsV (.str (Txt.join " " ws)) = some ws := by
  have e : Txt.split (Txt.join " " ws) " " = ws := TL.split_join (S := []) sepBlank.tl sepBlank.low ne fun w hw => (h w hw).1
  show (if inV (.str "") ((Txt.split (Txt.join " " ws) " ").map V.str) = true then none else some (Txt.split (Txt.join " " ws) " ")) = _
  rw [e, if_neg]
  intro hi
  have : ∀ l : List Str, (∀ w ∈ l, w ≠ "") → inV (.str "") (l.map V.str) = false := by
    intro l
    induction l with
    | nil => intro _; rfl
    | cons w r ih =>
      intro hl
      show (eqV (.str w) (.str "") || inV (.str "") (r.map V.str)) = false
      rw [ih fun z m => hl z (List.mem_cons_of_mem _ m), Bool.or_false]
      exact beq_eq_false_iff_ne.mpr (hl w (List.mem_cons_self ..))
  rw [this ws fun w hw => (h w hw).2] at hi
  cases hi
theorem ne_of_tl {x : Str} (h : TL.tl x ≠ []) : x ≠ "" := by
  rintro rfl
  exact h (by decide +kernel)
theorem num_ne {n : Int} (h : 0 ≤ n) : num n ≠ "" := by
  obtain ⟨m, rfl⟩ := Int.eq_ofNat_of_zero_le h
  refine ne_of_tl ?_
  rw [show TL.tl (num ((m : Nat) : Int)) = TL.numL m from TL.tl_num m]
  exact TL.numL_ne m
theorem hand_ne {x : Str} (h : handV (.str x) = true) : x ≠ "" := by
  rintro rfl
  revert h
  decide +kernel
theorem nmTxt_ne {n : Nm} (h : NmOk n) : nmTxt n ≠ "" := by
  refine ne_of_tl ?_
  unfold nmTxt
  simp only [TL.tl_append, sepDot.tl]
  simp
theorem lnTxt_ne (l : Ln) : lnTxt l ≠ "" := by
  unfold lnTxt
  split
  · decide +kernel
  · split
    · decide +kernel
    · refine ne_of_tl ?_
      simp only [TL.tl_append, sepDot.tl]
      simp
theorem kind_word (d : Deed) : 32 ∉ TL.tl d.kind ∧ d.kind ≠ "" := by
  cases d with
  | put => exact ⟨show 32 ∉ TL.tl ("put" : Str) by decide +kernel, show ("put" : Str) ≠ "" by decide +kernel⟩
  | order => exact ⟨show 32 ∉ TL.tl ("order" : Str) by decide +kernel, show ("order" : Str) ≠ "" by decide +kernel⟩
  | one k =>
    show 32 ∉ TL.tl (kindS k) ∧ kindS k ≠ ""
    cases k
    · exact ⟨by decide +kernel, by decide +kernel⟩
    · exact ⟨by decide +kernel, by decide +kernel⟩
/-- the first row's words -/
theorem first_words {n : Nm} (h : NmOk n) : wordsV (.str ("patch " ++ n.1 ++ " " ++ num n.2)) = some (["patch", n.1, num n.2] : List Str) := by
  have e : ("patch " ++ n.1 ++ " " ++ num n.2 : Str) = Txt.join " " ["patch", n.1, num n.2] := by
    rw [← join3]
    have : ("patch " : Str) = "patch" ++ " " := by decide +kernel
    rw [this]
  rw [e]
  refine words_back (by simp) fun w hw => ?_
  rcases List.mem_cons.mp hw with rfl | hw
  · exact ⟨by decide +kernel, by decide +kernel⟩
  rcases List.mem_cons.mp hw with rfl | hw
  · exact ⟨hand_no h.1 (by omega), hand_ne h.1⟩
  · rw [List.mem_singleton.mp hw]
    have := Int.le_trans (show (0 : Int) ≤ 1 by decide) h.2.1
    exact ⟨num_no this (by omega), num_ne this⟩
/-- the second row's words -/
theorem second_words {ns : List Nm} (h : ∀ n ∈ ns, NmOk n) : wordsV (.str (Txt.join " " ("knows" :: knownWords ns))) = some ("knows" :: knownWords ns : List Str) := by
  refine words_back (by simp) fun w hw => ?_
  rcases List.mem_cons.mp hw with rfl | hw
  · exact ⟨by decide +kernel, by decide +kernel⟩
  · unfold knownWords at hw
    split at hw
    · rw [List.mem_singleton.mp hw]
      exact ⟨by decide +kernel, by decide +kernel⟩
    · obtain ⟨n, hn, rfl⟩ := List.mem_map.mp hw
      exact ⟨nmTxt_no (h n hn) (by omega), nmTxt_ne (h n hn)⟩
/-- a deed's words -/
theorem deed_words {d : Deed} (h : d.ok) (s : ∀ l ∈ d.lines, l.2.2 < 1000000) : wordsV (.str (Txt.join " " (d.kind :: d.lines.map lnTxt))) = some (d.kind :: d.lines.map lnTxt) := by
  refine words_back (by simp) fun w hw => ?_
  rcases List.mem_cons.mp hw with rfl | hw
  · exact kind_word d
  · obtain ⟨l, hl, rfl⟩ := List.mem_map.mp hw
    have eo := deed_ed h l hl
    exact ⟨lnTxt_no eo (ed_nums eo (s l hl)).2.2.2 (by omega), lnTxt_ne l⟩
end K1
set_option Elab.async false
set_option linter.all false
set_option maxRecDepth 100000
set_option maxHeartbeats 400000
/-! for x, y in enumerate(list, start=k). -/
namespace K1
open PySem PySem.Spec PyProof.Rows L2

section
variable {M : Model} {A : Around} {E : Value → Shared → Prop} {s : Shared} {env : Env}
theorem callWith_typeK {pos : Pos} {T : String} {first : List Value} {args : List (Bool × Sem Value)} {keywords : List (Option Str × Sem Value)} {Q : Value → Shared → Prop}
    (hplain : args.any (·.1) = false) (hkw : keywords.any (·.1.isNone) = false)
    (h : wpAny M A (evalArgs (.type T) true args keywords) (fun a s₁ => wpAny M A (call (.type T) (first ++ a.pos) a.kw) Q E s₁) E s) :
    wpAny M A (callWith pos (.type T) first args keywords) Q E s := by
  unfold callWith
  refine wpAny_bind (wpAny_holding (wpAny_mono h (fun a s₁ h₁ => wpAny_bind (wpAny_standAt ?_)) fun _ _ x => x))
  simp only [hplain, hkw, Bool.or_false]
  refine wpAny_bind (wpAny_pure ?_)
  exact wpAny_bind (wpAny_mono h₁ (fun r s₂ hr => wpAny_bind (wpAny_holding (wpAny_point (wpAny_pure hr)))) fun _ _ x => x)
end
section
variable {prog : Program} {w : World} {A : Around} {E : Value → Shared → Prop} {s : Shared}
theorem pyNext_enum_end {e it l : Addr} {i : Nat} {c : Int} {items : Array Value} {old : Value} {Q : Option Value → Shared → Prop} (hh : A.handled = none)
    (he : IsEnum s.heap e it c old) (hit : s.heap.IsListIter it l i) (hl : s.heap.IsList l items) (hx : items[i]? = none)
    (hQ : ∀ h', Heap.ExtBut it s.heap h' → Q none { s with heap := h' }) : wpAny (model prog w) A (pyNext (.ref e)) Q E s := by
  have hT : s.TypeIs (.ref e) "enumerate" := ⟨_, he, rfl⟩
  unfold pyNext
  refine wpAny_bind (wpAny_attempt (wpAny_callSpecial?_slot (name := Str.ofString "__next__") hT PySem.F.slot_enumerate_next
    (wpAny_call_entry PySem.F.slot_enumerate_next hT PySem.F.entry_enumerate_next ?_ (PySem.F.args_enumerate_next_1 _))))
  show wpAny _ _ (field (.ref e) 2 >>= _) _ _ _
  refine wpAny_bind (wpAny_field he rfl (x := .ref it) rfl ?_)
  refine wpAny_bind (wpAny_nextOf_list_end hh hit hl hx fun h' x he' hx' => ?_)
  obtain ⟨o, ho, hc⟩ := hx'
  refine wpAny_bind (wpAny_isInstance (T := "StopIteration") (b := true) ⟨o, ho, hc⟩ isSubtype_stop ?_)
  exact wpAny_pure (hQ _ he')
theorem pyNext_enum_item {e it l : Addr} {i : Nat} {c : Int} {items : Array Value} {x old : Value} {Q : Option Value → Shared → Prop} (hh : A.handled = none)
    (he : IsEnum s.heap e it c old) (hit : s.heap.IsListIter it l i) (hl : s.heap.IsList l items) (hx : items[i]? = some x) (hne : e ≠ it)
    (hQ : ∀ h' tk, IsEnumOut h' e it (c + 1) x s.heap.objs.size → h'.IsListIter it l (i + 1) →
      h'.get? s.heap.objs.size = some { cls := .type "tuple", data := .seq #[.int c tk, x] } → h'.objs.size = s.heap.objs.size + 1 →
      (∀ b o, b ≠ e → b ≠ it → s.heap.get? b = some o → h'.get? b = some o) → Q (some (.ref s.heap.objs.size)) { s with heap := h', toks := tk + 1 }) :
    wpAny (model prog w) A (pyNext (.ref e)) Q E s := by
  have n1 : l ≠ it := by
    rintro rfl
    obtain ⟨o, ho, hc, _⟩ := hl
    obtain ⟨o', ho', hc', _⟩ := hit
    rw [ho] at ho'
    cases ho'
    rw [hc] at hc'
    exact absurd hc' (by decide)
  have n2 : e ≠ l := by
    rintro rfl
    obtain ⟨o, ho, hc, _⟩ := hl
    have he' : s.heap.get? e = some _ := he
    rw [ho] at he'
    cases he'
    exact absurd (show (Value.type "enumerate") = .type "list" from hc) (by decide)
  have hlt : i < items.size := by
    rcases Nat.lt_or_ge i items.size with h | h
    · exact h
    · rw [Array.getElem?_eq_none h] at hx
      cases hx
  refine wpAny_pyNext_enum_itemC (Draws.list (A := A.in1) hh it l n1 items) he ⟨hit, hl⟩ hlt hne (by simp [hne, n2]) fun y h' tk hy ho st ht hz hk => ?_
  rw [hx] at hy
  cases hy
  exact hQ h' tk ho st.1 ht hz hk
end
/-- the list at a as it stands at each turn, each item in a new pair, counted from k -/
def IteK (K : PySem.W.Frag) (a : Addr) (k : Nat) : It :=
  ⟨fun i H => ∃ (xs : List V) (x : V), SqL K H a xs ∧ xs[i]? = some x, fun i H v H' => ∃ T x, v = .ref T ∧ H T = none ∧ H' = upd H T (.tup [.int ((k + i : Nat)), x]) ∧ ∀ xs, SqL K H a xs → xs[i]? = some x, fun i H => ∃ xs : List V, SqL K H a xs ∧ xs.length ≤ i⟩
theorem turn_enumK {P : Program} {w : World} {K : PySem.W.Frag} {elts : List Expr} {kk : Nat} {tpos : Pos} (a e it : Addr) (k : Nat) :
    Turn P w K (.Tuple elts kk tpos) (IteK K a k) [e, it] e (fun i h => (∃ old, IsEnum h e it (((k + i : Nat)) : Int) old) ∧ h.IsListIter it a i ∧ e ≠ it) where
  mem := by simp
  obj := fun i h st b hb => by
    obtain ⟨⟨old, he⟩, ⟨o, ho, hc, hd⟩, _⟩ := st
    have e' : b = e ∨ b = it := by simpa using hb
    rcases e' with z | z
    · rw [z]; exact ⟨_, he, fun v q => nomatch q⟩
    · rw [z]; exact ⟨o, ho, fun v q => by rw [hd] at q; cases q⟩
  keep := fun i h h' st g => let ⟨⟨old, he⟩, hi, hne⟩ := st; ⟨⟨old, g e (by simp) _ he⟩, hi.at fun o q => g it (by simp) o q, hne⟩
  item := by
    intro X hP hw hK hc i pins s σ H E I hf st hg
    subst hP hw hK
    obtain ⟨⟨old, he⟩, hit, hne⟩ := st
    obtain ⟨xs, x, hq, hx⟩ := hg
    obtain ⟨its, rv, p, hz⟩ := I.list hq
    obtain ⟨u, hu, ru⟩ := rv.get hx
    have hel : e < s.heap.objs.size := Heap.lt_size he
    have hil : it < s.heap.objs.size := by obtain ⟨_, q, _⟩ := hit; exact Heap.lt_size q
    refine pyNext_enum_item (I.ok.hd hc) he hit p.isList (x := u) (by simpa using hu) hne fun h' tk ho hit' hT hsz hk => ?_
    refine ⟨_, rfl, wpAny_letOwnedTupleGo_enum (s := { s with heap := h', toks := tk + 1 }) ho fun h'' he' sb => ?_⟩
    have hT2 : h''.get? s.heap.objs.size = some { cls := .type "tuple", data := .seq #[.int ((k + i : Nat)) tk, u] } := (sb.2 _ (Nat.ne_of_gt hel)).trans hT
    have new : ObjOk X.prog X.w (upd H s.heap.objs.size (.tup [.int ((k + i : Nat)), x])) h'' s.heap.objs.size (.tup [.int ((k + i : Nat)), x]) :=
      ⟨by show 2 ≤ sizeLine; decide, [.int ((k + i : Nat)) tk, u], .cons ⟨_, rfl⟩ (.cons ru .nil), ⟨_, hT2, rfl, _, rfl⟩⟩
    have I1 : Inv X pins σ (upd H s.heap.objs.size (.tup [.int ((k + i : Nat)), x])) { s with heap := h'', toks := tk + 1 } :=
      I.turnedNew (ch := [e, it]) (fun b ob hb q => (sb.2 b (fun z => hb (by simp [z]))).trans (hk b ob (fun z => hb (by simp [z])) (fun z => hb (by simp [z])) q)) hf (Nat.le_refl _) new
    refine ⟨.ref s.heap.objs.size, _, I1, rfl, ⟨_, x, rfl, I.hok.fresh (Nat.le_refl _), rfl, fun ys hy => by rw [I.list_inj hy hq]; exact hx⟩, ⟨⟨u, ?_⟩, hit'.at fun o q => (sb.2 it (Ne.symm hne)).trans q, hne⟩, fun b hb => ?_⟩
    · have e1 : ((k + (i + 1) : Nat) : Int) = ((k + i : Nat) : Int) + 1 := by omega
      rw [e1]; exact he'
    · have hb' : b < s.heap.objs.size := by
        have e' : b = e ∨ b = it := by simpa using hb
        rcases e' with z | z
        · rw [z]; exact hel
        · rw [z]; exact hil
      rw [upd_ne (Nat.ne_of_lt hb')]
      exact (hf b hb).1
  done := by
    intro X hP hw hK hc i pins s σ H E I hf st hg
    subst hP hw hK
    obtain ⟨⟨old, he⟩, hit, hne⟩ := st
    obtain ⟨xs, hq, hx⟩ := hg
    obtain ⟨its, rv, p, hz⟩ := I.list hq
    obtain ⟨f0, f1, f2, f3, f4, f5⟩ := hf it (by simp)
    have hl := rv.length
    exact pyNext_enum_end (I.ok.hd hc) he hit p.isList (by simp; omega) fun h' eb => ⟨rfl, I.turned (t' := s.toks) (fun b o hb q => eb b o hb q) f0 f1 f3 f4 f5⟩
  self := fun A i s Q E st h => let ⟨⟨_, he⟩, _⟩ := st; wpAny_pyIter_enum he h
def iEnumK (K : PySem.W.Frag) (k : Nat) (ta : TA) : TI := fun σ H R => ta σ H fun vs H1 => ∃ a xs, vs = [.ref a] ∧ SqL K H1 a xs ∧ R (IteK K a k) H1
theorem pi_enumK {X : Cx} {e : Expr} {ta : TA} {p pos tpos kp cp : Pos} {elts : List Expr} {kk j : Nat} (k : Nat) (hk : k ≤ 1000) (hg : Gl X "enumerate") (hm : X.mg "enumerate" = none) (ha : PA X [e] ta) (hs : starEach [e] X.env = [(false, eval e X.env)] := by rfl) :
    PI X (.Tuple elts kk tpos) (.Call (.Name "enumerate" p) [e] [⟨some "start", .Constant (.int k) j cp, kp⟩] pos) (iEnumK X.K k ta) := by
  refine ⟨fun pins s σ H R I h => ?_⟩
  show wpAny _ _ (do callWith pos (← eval (.Name "enumerate" p) X.env) [] (backTo pos (starEach [e] X.env)) (backToKw pos (keywordEach [⟨some "start", .Constant (.int k) j cp, kp⟩] X.env))) _ _ s
  refine wpAny_bind (ld_blt I hg hm boot_enumerate ?_)
  rw [hs]
  refine callWith_typeK rfl rfl (evalArgs_kwB (x := eval e X.env) (rest := []) rfl ?_)
  have h1 : wpAny (model X.prog X.w) X.A (spliced [(false, eval e X.env)]) (AP X pins σ fun vs H1 => ∃ a xs, vs = [V.ref a] ∧ SqL X.K H1 a xs ∧ R (IteK X.K a k) H1) X.xe s := by
    have h2 := ha.run pos pins s σ H _ I h
    rw [hs] at h2
    exact h2
  refine thn h1 fun us s1 ⟨vs, H1, I1, r1, a, xs, ex, hq, q⟩ => ?_
  subst ex
  cases r1 with
  | cons r rr =>
    cases rr
    cases r
    have I1' := I1
    refine kws_cons (thn (pe_int.run pins s1 σ H1 (fun v H2 => v = V.int k ∧ H2 = H1) I1 ⟨rfl, rfl⟩) fun u s2 ⟨v, H2, I2, rv2, ev, eH⟩ => kws_nil ?_)
    subst ev eH
    obtain ⟨t, rfl⟩ := rv2
    obtain ⟨its, rv, p', hz⟩ := I2.list hq
    refine enum_begins_start (begins_list a its.toArray) (by exact p'.isList) (by omega) (by omega) fun h' he hit hsz hk2 => wpAny_pyIter_enum he ?_
    have I3 : Inv X pins σ H2 { s2 with heap := h' } := I2.kept (t' := s2.toks) hk2
    refine ⟨s2.heap.objs.size + 1, [s2.heap.objs.size + 1, s2.heap.objs.size], _, _, H2, rfl, I3, turn_enumK a (s2.heap.objs.size + 1) s2.heap.objs.size k, ⟨⟨.none, by simpa using he⟩, ?_, Nat.succ_ne_self _⟩, fun b hb => ?_, q⟩
    · exact ⟨_, hit, rfl, rfl⟩
    · have e' : b = s2.heap.objs.size + 1 ∨ b = s2.heap.objs.size := by simpa using hb
      have hle : s2.heap.objs.size ≤ b := by
        rcases e' with z | z
        · rw [z]; exact Nat.le_add_right _ _
        · rw [z]; exact Nat.le_refl _
      exact I2.fpOk hle (I2.hok.fresh hle)
theorem walk_enumK {K : PySem.W.Frag} {a : Addr} {xs : List V} {k : Nat} : Walk (IteK K a k) xs.length (fun H => SqL K H a xs) (YPair (fun i => some (.int ((k + i : Nat)))) (fun i => xs[i]?)) := by
  refine ⟨fun i _ hi q => ⟨xs, xs[i], q, by simp [hi]⟩, fun _ q => ⟨xs, q, Nat.le_refl _⟩, fun i H v H' _ q y => ?_⟩
  obtain ⟨T, x, h1, h2, h3, h4⟩ := y
  exact ⟨T, .int ((k + i : Nat)), x, h1, h2, h3, rfl, h4 xs q⟩
end K1
set_option Elab.async false
set_option linter.all false
set_option maxRecDepth 100000
set_option maxHeartbeats 400000
/-! The program's defs: is_text, _can_put, _is_deed, _many_deeds: of good deeds. -/
namespace K1
open PySem PySem.Spec PyProof.Rows L2

/-- the numbers of the module of patches -/
structure Mp (mg : Str → Option Value) : Prop where
  mostD : ∃ t, mg "MOST_DEEDS" = some (.int 400 t)
  mostT : ∃ t, mg "MOST_TEXTS" = some (.int 200 t)
  mostS : ∃ t, mg "MOST_SIGNS" = some (.int 40 t)
def textV : V → Bool
  | .str x => decide ((x.length : Int) ≤ 40) && !decide (10 ∈ TL.tl x)
  | _ => false
theorem TxOk.v {x : Str} (h : TxOk x) : textV (.str x) = true := by
  show (decide ((x.length : Int) ≤ 40) && !decide (10 ∈ TL.tl x)) = true
  rw [decide_eq_true (by have := h.2.1; omega), decide_eq_false h.2.2]
  rfl
theorem nl_one : ("\n" : Str) = ⟨#[10]⟩ := by decide +kernel
theorem LnOk.put {l : Ln} (h : LnOk l) : putL (some [.str l.1, .int l.2.1, .int l.2.2]) = true := by
  show ((handV (.str l.1) && (decide (1 ≤ l.2.1) && decide (l.2.1 ≤ 999))) && decide (1 ≤ l.2.2)) = true
  rw [show handV (.str l.1) = true from h.1.1, decide_eq_true (show 1 ≤ l.2.1 from h.1.2.1), decide_eq_true (show l.2.1 ≤ 999 from h.1.2.2), decide_eq_true h.2]
  rfl
theorem EdOk.v {l : Ln} (h : EdOk l) : putL (some [.str l.1, .int l.2.1, .int l.2.2]) = true ∨ endL (some [.str l.1, .int l.2.1, .int l.2.2]) = true := by
  rcases h with h | rfl | rfl
  · exact .inl h.put
  · exact .inr (by decide +kernel)
  · exact .inr (by decide +kernel)
theorem NmOk.v {n : Nm} (h : NmOk n) : nameL (some [.str n.1, .int n.2]) = true := by
  show (handV (.str n.1) && (decide (1 ≤ n.2) && decide (n.2 ≤ 999))) = true
  rw [show handV (.str n.1) = true from h.1, decide_eq_true h.2.1, decide_eq_true h.2.2]
  rfl
/-- a line's tuple is a thing -/
theorem ln_th {K : PySem.W.Frag} {H : Hp} {v : V} {l : Ln} (d : Dp K H v (eL l)) (h : l.1.length ≤ 1000) : Th K H v "tuple" (some [.str l.1, .int l.2.1, .int l.2.2]) ∧ ThAll K H (some [.str l.1, .int l.2.1, .int l.2.2]) := by
  obtain ⟨a, xs, rfl, S, q⟩ := Dp.tupI d
  obtain ⟨x, y, z, rfl, q1, q2, q3⟩ := DpAll.i3 q
  cases Dp.strI q1
  cases Dp.intI q2
  cases Dp.intI q3
  refine ⟨.tup S, ?_⟩
  intro ys hy z hz
  cases hy
  rcases List.mem_cons.mp hz with rfl | hz
  · exact ⟨_, _, .str _ (small_le (by omega))⟩
  · rcases List.mem_cons.mp hz with rfl | hz
    · exact ⟨_, _, .int _⟩
    · obtain rfl := List.mem_singleton.mp hz
      exact ⟨_, _, .int _⟩
theorem nm_th {K : PySem.W.Frag} {H : Hp} {v : V} {n : Nm} (d : Dp K H v (eN n)) (h : n.1.length ≤ 1000) : Th K H v "tuple" (some [.str n.1, .int n.2]) ∧ ThAll K H (some [.str n.1, .int n.2]) := by
  obtain ⟨a, xs, rfl, S, q⟩ := Dp.tupI d
  obtain ⟨x, y, rfl, q1, q2⟩ := DpAll.i2 q
  cases Dp.strI q1
  cases Dp.intI q2
  refine ⟨.tup S, ?_⟩
  intro ys hy z hz
  cases hy
  rcases List.mem_cons.mp hz with rfl | hz
  · exact ⟨_, _, .str _ (small_le (by omega))⟩
  · obtain rfl := List.mem_singleton.mp hz
    exact ⟨_, _, .int _⟩
theorem ln_st {l : Ln} (h : EdOk l) : StAll (some [.str l.1, .int l.2.1, .int l.2.2]) := by
  intro xs e x m
  cases e
  have m' : x = l.1 := by
    rcases List.mem_cons.mp m with z | m
    · exact V.str.inj z
    · rcases List.mem_cons.mp m with z | m
      · cases z
      · cases List.mem_singleton.mp m
  rw [m']
  exact h.str
theorem EdOk.len {l : Ln} (h : EdOk l) : l.1.length ≤ 1000 := by
  rcases h with h | rfl | rfl
  · have := (handOk h.1.1).2
    exact Nat.le_trans this (by decide)
  · decide +kernel
  · decide +kernel
section
variable {P : Program} {w : World} {K : PySem.W.Frag} {mg : Str → Option Value} {base : Heap} {T : Tp}

/-! ### is_text -/
def spIsText (K : PySem.W.Frag) : Sp := fun vs H Q _ => ∃ v n o, vs = [v] ∧ Th K H v n o ∧ Q (.bl (textV v)) H
theorem ok_istext {f : Addr} {fd : FuncData} {k : Nat} (F : Fun K "is_text" "is_text" sIsText f fd) (M : Mg K mg) (N : Mp mg) : FnOk P w K mg base CX0 (k + 1) f fd ["thing"] (spIsText K) := by
  obtain ⟨tk, hS⟩ := N.mostS
  refine F.ok scIsText (fun vs H Q E h => ?_) (fun cdv A outer s H vs Q E hr h => ?_)
  · obtain ⟨v, n, o, rfl, _⟩ := h
    rfl
  · obtain ⟨v, n, o, rfl, th, q⟩ := h
    refine ⟨_, (pss_one (ps_ret (pe_and (pe_callB call_isi (by rfl) M.ins boot_isinstance (pa_cons (pv 0) (pa_cons (pe_bltn (v := .ty "str") (by rfl) M.str_ boot_str rfl) pa_nil))) (pe_and (pe_cmpR op_le (pe_callB call_len_str (by rfl) M.len_ PySem.boot_len (pa_cons (pv 0) pa_nil)) (pe_glob (v := .int 40) (by rfl) hS ⟨_, rfl⟩) (nomark _)) (pe_one (pe_cmpR op_notIn_sign pe_str (pv 0) (by rfl))))))), ?_⟩
    refine ⟨v, rfl, v, .ty "str", .type n, .type "str", _, rfl, .ty _, th.ty, kit_ty th.kstr, _, rfl, ite2 (fun e => ?_) (fun e => ?_)⟩
    · obtain ⟨x, rfl, hx⟩ := th.strOf e
      refine ⟨.str x, rfl, x, rfl, hx, _, _, rfl, rfl, _, rfl, ite2 (fun e1 => ⟨.str x, rfl, 10, x, congrArg V.str nl_one, rfl, ?_⟩) (fun e1 => ?_)⟩
      · have e2 : (!decide (10 ∈ x.cps.toList)) = textV (.str x) := by
          show _ = (decide ((x.length : Int) ≤ 40) && !decide (10 ∈ TL.tl x))
          rw [e1, Bool.true_and]
        rw [← e2] at q
        exact q
      · have e2 : false = textV (.str x) := by
          show _ = (decide ((x.length : Int) ≤ 40) && !decide (10 ∈ TL.tl x))
          rw [Bool.eq_false_iff.mpr e1, Bool.false_and]
        rw [← e2] at q
        exact q
    · have e2 : textV v = false := by
        cases v with
        | str x => exact absurd rfl e
        | _ => rfl
      rw [e2] at q
      exact q

/-! ### _can_put -/
def spCanPut (K : PySem.W.Frag) (T : Tp) : Sp := fun vs H Q _ => ∃ (a b t : V) (la lb : Ln) (ts : List Str), vs = [a, b, t] ∧ Dp K H a (eL la) ∧ EdOk la ∧ Dp K H b (eL lb) ∧ EdOk lb ∧ Dp K H t (.tuple (ts.map .str)) ∧ (∀ x ∈ ts, TxOk x) ∧ 1 ≤ ts.length ∧ ts.length ≤ 200 ∧ TG T H ∧
  ∀ H', Go T D0 H H' → Q (.bl true) H'
theorem ok_canput {f : Addr} {fd : FuncData} {k : Nat} (F : Fun K "_can_put" "_can_put" sCanPut f fd) (M : Mg K mg) (N : Mp mg) (cP : Cal P w K mg base k "is_put_line" ["thing"] (spPut K T)) (cE : Cal P w K mg base k "is_end" ["thing"] (spEnd K))
    (cT : Cal P w K mg base k "is_text" ["thing"] (spIsText K)) : FnOk P w K mg base CX0 (k + 1) f fd ["above", "below", "texts"] (spCanPut K T) := by
  obtain ⟨tk, hT⟩ := N.mostT
  refine F.ok scCanPut (fun vs H Q E h => ?_) (fun cdv A outer s H vs Q E hr h => ?_)
  · obtain ⟨a, b, t, la, lb, ts, rfl, _⟩ := h
    rfl
  · obtain ⟨a, b, t, la, lb, ts, rfl, da, oa, db, ob, dt, tx, l1, l2, tg, q⟩ := h
    refine ⟨_, (pss_cons (ps_if (PW.pt (pw_or (pt_not (pt_val (pe_callB call_isi (by rfl) M.ins boot_isinstance (pa_cons (pv 2) (pa_cons (pe_bltn (v := .ty "tuple") (by rfl) M.tuple_ (by decide +kernel) rfl) pa_nil))))) (pw_or1 (pt_not (pt_chain op_le op_le pe_int (pe_callB call_len_seq (by rfl) M.len_ PySem.boot_len (pa_cons (pv 2) pa_nil)) (pe_glob (v := .int 200) (by rfl) hT ⟨_, rfl⟩))))))
      (pss_one (ps_ret pe_bl))
      pss_nil)
      (pss_cons (ps_if (PW.pt (pw_or (PW.pt (pw_and (pt_not (pt_val (pe_cal cP hr (by rfl) (pa_cons (pv 0) pa_nil)))) (pw_and1 (pt_not (pt_val (pe_cal cE hr (by rfl) (pa_cons (pv 0) pa_nil))))))) (pw_or1 (PW.pt (pw_and (pt_not (pt_val (pe_cal cP hr (by rfl) (pa_cons (pv 1) pa_nil)))) (pw_and1 (pt_not (pt_val (pe_cal cE hr (by rfl) (pa_cons (pv 1) pa_nil))))))))))
      (pss_one (ps_ret pe_bl))
      pss_nil)
      (pss_one (ps_ret (pe_callB (cr_all rfl) (by rfl) M.all_ (by decide +kernel) (pa_cons (pe_lc (own := [("text", 3)]) (g := gName 3) (tt := tYes) rfl scCanPut.nd (pi_tup (pv 2)) (blkOk_by (N := ["above", "below", "texts", "text"]) (sc := defScope sCanPut) (by decide +kernel)) (fun _ _ _ _ _ => (pg_name (i := 3) scCanPut.nd rfl (Or.inl rfl))) (fun _ _ _ _ _ => pts_nil) (fun _ _ _ _ _ => (pe_cal cT hr (by rfl) (pa_cons (pv 3) pa_nil)))) pa_nil)))))), ?_⟩
    obtain ⟨at_, txs, rfl, St, dts⟩ := Dp.tupI dt
    have et : txs = ts.map V.str := strs_of dts
    subst et
    refine ⟨.ref at_, rfl, .ref at_, .ty "tuple", .type "tuple", .type "tuple", _, rfl, .ty _, (Th.tup St).ty, kit_ty (Th.tup St).ktup, _, rfl, iteF ?_⟩
    have e1 : decide ((1 : Int) ≤ (((ts.map V.str).length : Nat) : Int)) = true := decide_eq_true (by rw [List.length_map]; omega)
    have e2 : decide ((((ts.map V.str).length : Nat) : Int) ≤ 200) = true := decide_eq_true (by rw [List.length_map]; omega)
    have toH : ∀ {H'}, Go T D0 H H' → Sub H H' := fun g => sub_go g tg
    have tl1 : ∀ {H' v l}, Go T D0 H H' → Dp K H v (eL l) → EdOk l → Th K H' v "tuple" (some [.str l.1, .int l.2.1, .int l.2.2]) ∧ ThAll K H' (some [.str l.1, .int l.2.1, .int l.2.2]) := fun g d o => ln_th (Dp.sub (toH g) _ _ d) o.len
    refine ⟨.ref at_, rfl, at_, _, rfl, .inr St, _, _, rfl, rfl, _, rfl, ite2 (fun _ => ⟨_, _, rfl, rfl, _, rfl, ite2 (fun e => ?_) (fun _ => ?_)⟩) (fun e => absurd e1 e)⟩
    · rw [e2] at e
      cases e
    · have t0 := tl1 (Go.rfl' tg) da oa
      refine twice (A := fun H2 => Go T D0 H H2) ?rest (fun rest => ⟨a, rfl, a, "tuple", _, rfl, t0.1, t0.2, tg, fun H1 g1 => ⟨_, rfl, ite2 (fun e => ⟨a, rfl, a, "tuple", _, rfl, (tl1 g1 da oa).1, (tl1 g1 da oa).2, ln_st oa, _, rfl, ite2 (fun e' => ?no) (fun e' => rest H1 g1)⟩) (fun e => rest H1 g1)⟩⟩)
      case no =>
        rcases oa.v with h | h
        · rw [h] at e
          cases e
        · rw [h] at e'
          cases e'
      case rest =>
        intro H2 g2
        have t2 := tl1 g2 db ob
        refine twice (A := fun H3 => Go T D0 H H3) ?rest2 (fun rest2 => ⟨b, rfl, b, "tuple", _, rfl, t2.1, t2.2, g2.1, fun H3 g3 => ⟨_, rfl, ite2 (fun e => ⟨b, rfl, b, "tuple", _, rfl, (tl1 (g2.trans g3) db ob).1, (tl1 (g2.trans g3) db ob).2, ln_st ob, _, rfl, ite2 (fun e' => ?no2) (fun e' => rest2 H3 (g2.trans g3))⟩) (fun e => rest2 H3 (g2.trans g3))⟩⟩)
        case no2 =>
          rcases ob.v with h | h
          · rw [h] at e
            cases e
          · rw [h] at e'
            cases e'
        case rest2 =>
          intro H4 g4
          have S4 := (toH g4).seqT St
          refine ⟨.ref at_, rfl, at_, rfl, ⟨_, S4⟩, fun D hD => ?_⟩
          refine lc_tup (K := K) (a := at_) (xs := ts.map V.str) (fun j H5 => Go T D0 H4 H5 ∧ H5 D = some (.lst (((ts.take j).map fun _ => true).map V.bl))) ?_ ?_ ?_ ?_
          · exact ⟨(Go.rfl' g4.1).new hD, upd_same⟩
          · rintro j H5 hj ⟨g5, _⟩
            exact g5.seqT g4.1 (fun _ _ z => z) S4
          · rintro j x H5 hx ⟨g5, eD⟩
            rw [List.getElem?_map] at hx
            cases htx : ts[j]? with
            | none => rw [htx] at hx; cases hx
            | some y =>
              rw [htx] at hx
              cases hx
              have oy := tx y (List.mem_of_getElem? htx)
              refine ⟨rfl, .str y, rfl, .str y, "str", none, rfl, .str y (small_le (by have := oy.2.1; omega)), _, eD, small_line (by rw [List.length_map, List.length_map, List.length_take]; omega), g5.put hD eD, ?_⟩
              rw [upd_same, oy.v, List.take_add_one, htx, List.map_append, List.map_append]
              rfl
          · rintro H5 ⟨g5, eD⟩
            rw [List.length_map, List.take_length] at eD
            refine ⟨D, ts.map fun _ => true, rfl, .inl (.inl eD), ?_⟩
            have ea : (ts.map fun _ => true).all id = true := by rw [List.all_map]; exact List.all_eq_true.mpr fun _ _ => rfl
            rw [ea]
            exact q _ (g4.trans g5)
end
end K1
set_option Elab.async false
set_option linter.all false
set_option maxRecDepth 100000
set_option maxHeartbeats 400000
/-! The program's defs: _is_deed, _many_deeds, _can_do, _many_put, _can_know: of good ones. -/
namespace K1
open PySem PySem.Spec PyProof.Rows L2

/-- what a deed asks of its parts together -/
def Deed.fit : Deed → Prop
  | .put a b ts => a ≠ b ∧ a ≠ footL ∧ b ≠ headL ∧ 1 ≤ ts.length ∧ ts.length ≤ 200
  | .order a b => a ≠ b
  | .one _ _ => True
theorem iteTd {c : Bool} {A B : Prop} (h : A) (e : c = true := by decide +kernel) : if c = true then A else B := by
  rw [if_pos e]
  exact h
theorem iteFd {c : Bool} {A B : Prop} (h : B) (e : c = false := by decide +kernel) : if c = true then A else B := by
  rw [e]
  exact h
section
variable {P : Program} {w : World} {K : PySem.W.Frag} {mg : Str → Option Value} {base : Heap} {T : Tp}

/-! ### _is_deed -/
def spIsDeed (K : PySem.W.Frag) (T : Tp) : Sp := fun vs H Q _ => ∃ (v : V) (d : Deed), vs = [v] ∧ Dp K H v (eD d) ∧ d.ok ∧ d.fit ∧ TG T H ∧ ∀ H', Go T D0 H H' → Q (.bl true) H'
theorem ok_isdeed {f : Addr} {fd : FuncData} {k : Nat} (F : Fun K "_is_deed" "_is_deed" sIsDeed f fd) (M : Mg K mg) (cP : Cal P w K mg base k "is_put_line" ["thing"] (spPut K T)) (cC : Cal P w K mg base k "_can_put" ["above", "below", "texts"] (spCanPut K T)) :
    FnOk P w K mg base CX0 (k + 1) f fd ["thing"] (spIsDeed K T) := by
  refine F.ok scIsDeed (fun vs H Q E h => ?_) (fun cdv A outer s H vs Q E hr h => ?_)
  · obtain ⟨v, d, rfl, _⟩ := h
    rfl
  · obtain ⟨v, d, rfl, dd, ok, fit, tg, q⟩ := h
    refine ⟨_, (pss_cons (ps_if (PW.pt (pw_or (pt_not (pt_val (pe_callB call_isi (by rfl) M.ins boot_isinstance (pa_cons (pv 0) (pa_cons (pe_bltn (v := .ty "tuple") (by rfl) M.tuple_ (by decide +kernel) rfl) pa_nil))))) (pw_or (pt_cmpR op_lt (pe_callB call_len_seq (by rfl) M.len_ PySem.boot_len (pa_cons (pv 0) pa_nil)) pe_int (nomark _)) (pw_or1 (pt_not (pt_val (pe_callB call_isi (by rfl) M.ins boot_isinstance (pa_cons (pe_ix ix_tup (pv 0) pe_int (fun _ _ => rfl)) (pa_cons (pe_bltn (v := .ty "str") (by rfl) M.str_ boot_str rfl) pa_nil)))))))))
      (pss_one (ps_ret pe_bl))
      pss_nil)
      (pss_cons (ps_if (pt_cmpR op_in_seq (pe_ix ix_tup (pv 0) pe_int (fun _ _ => rfl)) (pe_tup (pa_cons pe_str (pa_cons pe_str pa_nil))) (by rfl))
      (pss_one (ps_ret (pe_and (pe_cmpR op_eq (pe_callB call_len_seq (by rfl) M.len_ PySem.boot_len (pa_cons (pv 0) pa_nil)) pe_int (nomark _)) (pe_one (pe_cal cP hr (by rfl) (pa_cons (pe_ix ix_tup (pv 0) pe_int (fun _ _ => rfl)) pa_nil))))))
      pss_nil)
      (pss_cons (ps_if (pt_cmpR op_eq (pe_ix ix_tup (pv 0) pe_int (fun _ _ => rfl)) pe_str (nomark _))
      (pss_one (ps_ret (pe_and (pe_cmpR op_eq (pe_callB call_len_seq (by rfl) M.len_ PySem.boot_len (pa_cons (pv 0) pa_nil)) pe_int (nomark _)) (pe_and (pe_cal cP hr (by rfl) (pa_cons (pe_ix ix_tup (pv 0) pe_int (fun _ _ => rfl)) pa_nil)) (pe_one (pe_cal cP hr (by rfl) (pa_cons (pe_ix ix_tup (pv 0) pe_int (fun _ _ => rfl)) pa_nil)))))))
      pss_nil)
      (pss_one (ps_ret (pe_and (pe_cmpR op_eq (pe_ix ix_tup (pv 0) pe_int (fun _ _ => rfl)) pe_str (nomark _)) (pe_and (pe_cmpR op_eq (pe_callB call_len_seq (by rfl) M.len_ PySem.boot_len (pa_cons (pv 0) pa_nil)) pe_int (nomark _)) (pe_one (pe_cal cC hr (by rfl) (pa_cons (pe_ix ix_tup (pv 0) pe_int (fun _ _ => rfl)) (pa_cons (pe_ix ix_tup (pv 0) pe_int (fun _ _ => rfl)) (pa_cons (pe_ix ix_tup (pv 0) pe_int (fun _ _ => rfl)) pa_nil)))))))))))), ?_⟩
    have toH : ∀ {H'}, Go T D0 H H' → Sub H H' := fun g => sub_go g tg
    have lth : ∀ {H' v l}, Go T D0 H H' → Dp K H v (eL l) → EdOk l → Th K H' v "tuple" (some [.str l.1, .int l.2.1, .int l.2.2]) ∧ ThAll K H' (some [.str l.1, .int l.2.1, .int l.2.2]) := fun g d o => ln_th (Dp.sub (toH g) _ _ d) o.len
    have g0 : Go T D0 H H := Go.rfl' tg
    cases d with
    | one kp l =>
      obtain ⟨a, _, rfl, S, ds⟩ := Dp.tupI dd
      obtain ⟨x, y, rfl, q1, q2⟩ := DpAll.i2 ds
      cases Dp.strI q1
      have hk : Th K H (.str (kindS kp)) "str" none := .str _ (small_le (by cases kp <;> decide +kernel))
      refine ⟨.ref a, rfl, .ref a, .ty "tuple", .type "tuple", .type "tuple", _, rfl, .ty _, (Th.tup S).ty, kit_ty (Th.tup S).ktup, _, rfl, iteF ?_⟩
      refine ⟨.ref a, rfl, a, _, rfl, .inr S, _, _, rfl, rfl, _, rfl, iteF ?_⟩
      refine ⟨.ref a, rfl, a, _, 0, .str (kindS kp), rfl, rfl, S, atI_nat (j := 0) rfl, _, .ty "str", .type "str", .type "str", _, rfl, .ty _, hk.ty, kit_ty hk.kstr, _, rfl, iteF ?_⟩
      refine ⟨.ref a, rfl, a, _, 0, .str (kindS kp), rfl, rfl, S, atI_nat (j := 0) rfl, small_le (by decide), fun t ht => ⟨t, _, rfl, .inr (.inl (.inl upd_same)), rfl, rfl, _, rfl, ite2 (fun e => ?_) (fun e => ?_)⟩⟩
      · have g1 := g0.new (o := .tup [V.str "cut", .str "keep"]) ht
        have S1 := (toH g1).seqT S
        refine ⟨.ref a, rfl, a, _, rfl, .inr S1, rfl, _, rfl, iteT ?_⟩
        have t1 := lth g1 q2 (.inl ok)
        refine ⟨.ref a, rfl, a, _, 1, y, rfl, rfl, S1, atI_nat (j := 1) rfl, y, "tuple", _, rfl, t1.1, t1.2, g1.1, fun H2 g2 => ?_⟩
        rw [LnOk.put ok]
        exact q _ (g1.trans g2)
      · cases kp <;> exact absurd (by decide +kernel) e
    | order la lb =>
      obtain ⟨a, _, rfl, S, ds⟩ := Dp.tupI dd
      obtain ⟨x, y, z, rfl, q1, q2, q3⟩ := DpAll.i3 ds
      cases Dp.strI q1
      have hk : Th K H (.str "order") "str" none := .str _ (small_le (by decide +kernel))
      refine ⟨.ref a, rfl, .ref a, .ty "tuple", .type "tuple", .type "tuple", _, rfl, .ty _, (Th.tup S).ty, kit_ty (Th.tup S).ktup, _, rfl, iteF ?_⟩
      refine ⟨.ref a, rfl, a, _, rfl, .inr S, _, _, rfl, rfl, _, rfl, iteF ?_⟩
      refine ⟨.ref a, rfl, a, _, 0, .str "order", rfl, rfl, S, atI_nat (j := 0) rfl, _, .ty "str", .type "str", .type "str", _, rfl, .ty _, hk.ty, kit_ty hk.kstr, _, rfl, iteF ?_⟩
      refine ⟨.ref a, rfl, a, _, 0, .str "order", rfl, rfl, S, atI_nat (j := 0) rfl, small_le (by decide), fun t ht => ⟨t, _, rfl, .inr (.inl (.inl upd_same)), rfl, rfl, _, rfl, ite2 (fun e => ?_) (fun e => ?_)⟩⟩
      · exact absurd e (by decide +kernel)
      · have g1 := g0.new (o := .tup [V.str "cut", .str "keep"]) ht
        have S1 := (toH g1).seqT S
        refine ⟨.ref a, rfl, a, _, 0, .str "order", rfl, rfl, S1, atI_nat (j := 0) rfl, rfl, _, rfl, iteTd ?_⟩
        refine ⟨.ref a, rfl, a, _, rfl, .inr S1, rfl, _, rfl, iteT ?_⟩
        have t1 := lth g1 q2 (.inl ok.1)
        refine ⟨.ref a, rfl, a, _, 1, y, rfl, rfl, S1, atI_nat (j := 1) rfl, y, "tuple", _, rfl, t1.1, t1.2, g1.1, fun H2 g2 => ⟨_, rfl, ?_⟩⟩
        rw [LnOk.put ok.1]
        have g12 := g1.trans g2
        have t2 := lth g12 q3 (.inl ok.2)
        refine iteT ⟨.ref a, rfl, a, _, 2, z, rfl, rfl, (toH g12).seqT S, atI_nat (j := 2) rfl, z, "tuple", _, rfl, t2.1, t2.2, g12.1, fun H3 g3 => ?_⟩
        rw [LnOk.put ok.2]
        exact q _ (g12.trans g3)
    | put la lb ts =>
      obtain ⟨a, _, rfl, S, ds⟩ := Dp.tupI dd
      obtain ⟨x, y, z, u, rfl, q1, q2, q3, q4⟩ := DpAll.i4 ds
      cases Dp.strI q1
      have hk : Th K H (.str "put") "str" none := .str _ (small_le (by decide +kernel))
      refine ⟨.ref a, rfl, .ref a, .ty "tuple", .type "tuple", .type "tuple", _, rfl, .ty _, (Th.tup S).ty, kit_ty (Th.tup S).ktup, _, rfl, iteF ?_⟩
      refine ⟨.ref a, rfl, a, _, rfl, .inr S, _, _, rfl, rfl, _, rfl, iteF ?_⟩
      refine ⟨.ref a, rfl, a, _, 0, .str "put", rfl, rfl, S, atI_nat (j := 0) rfl, _, .ty "str", .type "str", .type "str", _, rfl, .ty _, hk.ty, kit_ty hk.kstr, _, rfl, iteF ?_⟩
      refine ⟨.ref a, rfl, a, _, 0, .str "put", rfl, rfl, S, atI_nat (j := 0) rfl, small_le (by decide), fun t ht => ⟨t, _, rfl, .inr (.inl (.inl upd_same)), rfl, rfl, _, rfl, ite2 (fun e => ?_) (fun e => ?_)⟩⟩
      · exact absurd e (by decide +kernel)
      · have g1 := g0.new (o := .tup [V.str "cut", .str "keep"]) ht
        have S1 := (toH g1).seqT S
        refine ⟨.ref a, rfl, a, _, 0, .str "put", rfl, rfl, S1, atI_nat (j := 0) rfl, rfl, _, rfl, iteFd ?_⟩
        refine ⟨.ref a, rfl, a, _, 0, .str "put", rfl, rfl, S1, atI_nat (j := 0) rfl, rfl, _, rfl, iteTd ?_⟩
        refine ⟨.ref a, rfl, a, _, rfl, .inr S1, rfl, _, rfl, iteT ?_⟩
        refine ⟨.ref a, rfl, a, _, 1, y, rfl, rfl, S1, atI_nat (j := 1) rfl, .ref a, rfl, a, _, 2, z, rfl, rfl, S1, atI_nat (j := 2) rfl, .ref a, rfl, a, _, 3, u, rfl, rfl, S1, atI_nat (j := 3) rfl, ?_⟩
        exact ⟨y, z, u, la, lb, ts, rfl, Dp.sub (toH g1) _ _ q2, ok.1, Dp.sub (toH g1) _ _ q3, ok.2.1, Dp.sub (toH g1) _ _ q4, ok.2.2, fit.2.2.2.1, fit.2.2.2.2, g1.1, fun H2 g2 => q _ (g1.trans g2)⟩
end
end K1
set_option Elab.async false
set_option linter.all false
set_option maxRecDepth 100000
set_option maxHeartbeats 400000
/-! The program's defs: _many_deeds, _can_do: of good deeds. -/
namespace K1
open PySem PySem.Spec PyProof.Rows L2
section
variable {P : Program} {w : World} {K : PySem.W.Frag} {mg : Str → Option Value} {base : Heap} {T : Tp}

/-! ### _many_deeds -/
def spManyD (K : PySem.W.Frag) (T : Tp) : Sp := fun vs H Q _ => ∃ (l : Addr) (dvs : List V) (ds : List Deed), vs = [.ref l] ∧ SqL K H l dvs ∧ DpAll K H dvs (ds.map eD) ∧ (∀ d ∈ ds, d.ok ∧ d.fit) ∧ ds.length ≤ 1000 ∧ TG T H ∧ ∀ H', Go T D0 H H' → Q (.int (ds.length : Nat)) H'
theorem ok_manyd {f : Addr} {fd : FuncData} {k : Nat} (F : Fun K "_many_deeds" "_many_deeds" sManyDeeds f fd) (M : Mg K mg) (cD : Cal P w K mg base k "_is_deed" ["thing"] (spIsDeed K T)) : FnOk P w K mg base CX0 (k + 1) f fd ["things"] (spManyD K T) := by
  refine F.ok scManyDeeds (fun vs H Q E h => ?_) (fun cdv A outer s H vs Q E hr h => ?_)
  · obtain ⟨l, dvs, ds, rfl, _⟩ := h
    rfl
  · obtain ⟨l, dvs, ds, rfl, S, dds, ok, len, tg, q⟩ := h
    refine ⟨_, (pss_cons (ps_for PassesOwn.never rfl (pi_enum (by rfl) M.enum_ (pa_cons (pv 0) pa_nil)) (pg_tup rfl (pgs_cons (pg_name (i := 1) scManyDeeds.nd rfl (.inl rfl)) (pgs_cons (pg_name (i := 2) scManyDeeds.nd rfl (.inl rfl)) pgs_nil)))
      (pss_one (ps_if (pt_not (pt_val (pe_cal cD hr (by rfl) (pa_cons (pv 2) pa_nil))))
      (pss_one ps_never)
      pss_nil)))
      (pss_one (ps_ret (pe_callB call_len_seq (by rfl) M.len_ PySem.boot_len (pa_cons (pv 0) pa_nil))))), ?_⟩
    have toH : ∀ {H'}, Go T D0 H H' → Sub H H' := fun g => sub_go g tg
    have g0 : Go T D0 H H := Go.rfl' tg
    have dlen : dvs.length = ds.length := by rw [DpAll.len dds, List.length_map]
    refine ⟨.ref l, rfl, l, dvs, rfl, S, ?_⟩
    refine for_it (walk_enum (K := K) (a := l) (xs := dvs)) (fun i σ H5 => ∃ (y1 y2 : Option V), σ = [some (.ref l), y1, y2] ∧ Go T D0 H H5) ?_ ?_ ?_ ?_
    · exact ⟨_, _, rfl, g0⟩
    · rintro i σ H5 hi ⟨y1, y2, rfl, g5⟩
      exact (toH g5).seqL S
    · rintro i v σ H5 H5' hi ⟨y1, y2, rfl, g5⟩ ⟨T', x', y', rfl, hT, rfl, hx', hy'⟩
      cases hx'
      have hy' : dvs[i]? = some y' := hy'
      obtain ⟨d0, hd0, dp⟩ := DpAll.at' dds hy'
      rw [List.getElem?_map] at hd0
      cases hdi : ds[i]? with
      | none => rw [hdi] at hd0; cases hd0
      | some d =>
        rw [hdi] at hd0
        cases hd0
        have g6 := g5.new (o := .tup [V.int (i : Nat), y']) hT
        have okd := ok d (List.mem_of_getElem? hdi)
        refine ⟨T', _, rfl, .inl (.inl upd_same), rfl, _, _, rfl, _, _, rfl, rfl, ?_⟩
        exact ⟨y', rfl, y', d, rfl, Dp.sub (toH g6) _ _ dp, okd.1, okd.2, g6.1, fun H7 g7 => ⟨_, rfl, iteF ⟨_, _, rfl, g6.trans g7⟩⟩⟩
    · rintro σ H5 ⟨y1, y2, rfl, g5⟩
      refine ⟨.ref l, rfl, l, dvs, rfl, .inl ((toH g5).seqL S), ?_⟩
      rw [dlen]
      exact q _ g5

/-! ### _can_do -/
def ownOk (n : Nm) (m : Int) (d : Deed) : Prop := ∀ l ∈ d.lines, nmOf l = n → l.2.2 ≤ m
def spCanDo (K : PySem.W.Frag) (T : Tp) : Sp := fun vs H Q _ => ∃ (v nv : V) (d : Deed) (n : Nm) (m : Int), vs = [v, nv, .int m] ∧ Dp K H v (eD d) ∧ Dp K H nv (eN n) ∧ NmOk n ∧ d.ok ∧ d.fit ∧ ownOk n m d ∧ TG T H ∧ ∀ H', Go T D0 H H' → Q (.bl true) H'
theorem ok_cando {f : Addr} {fd : FuncData} {k : Nat} (F : Fun K "can_do" "can_do" sCanDo f fd) (M : Mg K mg) : FnOk P w K mg base CX0 (k + 1) f fd ["deed", "own", "many"] (spCanDo K T) := by
  obtain ⟨aH, mH, sH⟩ := M.hd
  obtain ⟨aF, mF, sF⟩ := M.ft
  refine F.ok scCanDo (fun vs H Q E h => ?_) (fun cdv A outer s H vs Q E hr h => ?_)
  · obtain ⟨v, nv, d, n, m, rfl, _⟩ := h
    rfl
  · obtain ⟨v, nv, d, n, m, rfl, dd, dn, on_, ok, fit, own, tg, q⟩ := h
    refine ⟨_, (pss_cons (ps_set (i := 3) scCanDo.nd rfl (.inl rfl) (pe_ix ix_tup (pv 0) pe_int (fun _ _ => rfl)))
      (pss_cons (ps_if (PW.pt (pw_and (pt_cmpR op_gt (pe_ix ix_tup (pv 3) pe_int (fun _ _ => rfl)) (pv 2) (nomark _)) (pw_and1 (pt_cmpR (op_eqD hr.units) (pe_slice sl_tupA (pv 3) po_none (po_some pe_int)) (pv 1) (nomark _)))))
      (pss_one (ps_ret pe_bl))
      pss_nil)
      (pss_cons (ps_if (pt_cmpR op_eq (pe_callB call_len_seq (by rfl) M.len_ PySem.boot_len (pa_cons (pv 0) pa_nil)) pe_int (nomark _))
      (pss_one (ps_ret pe_bl))
      pss_nil)
      (pss_cons (ps_set (i := 4) scCanDo.nd rfl (.inl rfl) (pe_ix ix_tup (pv 0) pe_int (fun _ _ => rfl)))
      (pss_cons (ps_if (PW.pt (pw_and (pt_cmpR op_gt (pe_ix ix_tup (pv 4) pe_int (fun _ _ => rfl)) (pv 2) (nomark _)) (pw_and1 (pt_cmpR (op_eqD hr.units) (pe_slice sl_tupA (pv 4) po_none (po_some pe_int)) (pv 1) (nomark _)))))
      (pss_one (ps_ret pe_bl))
      pss_nil)
      (pss_one (ps_ret (pe_and (pe_cmpR (op_neD hr.units) (pv 3) (pv 4) (nomark _)) (pe_and (pe_cmpR (op_neD hr.units) (pv 3) (pe_glob (v := .ref aF) (by rfl) mF rfl) (nomark _)) (pe_one (pe_cmpR (op_neD hr.units) (pv 4) (pe_glob (v := .ref aH) (by rfl) mH rfl) (nomark _)))))))))))), ?_⟩
    have toH : ∀ {H'}, Go T D0 H H' → Sub H H' := fun g => sub_go g tg
    have g0 : Go T D0 H H := Go.rfl' tg
    have shL : ∀ {l}, EdOk l → SeqAt.shaped (eL l) = true := fun o => eL_sh o.str
    have shN : ∀ {l}, EdOk l → SeqAt.shaped (eN (nmOf l)) = true := fun o => shaped_of (eN_lay (by exact o.str)) (by rw [eN_dep]; decide)
    have dH : ∀ H', Dp K H' (.ref aH) (eL headL) := fun H' => .tup (sH H') (.cons (.str _) (.cons (.int _) (.one (.int _))))
    have dF : ∀ H', Dp K H' (.ref aF) (eL footL) := fun H' => .tup (sF H') (.cons (.str _) (.cons (.int _) (.one (.int _))))
    have cut_ : ∀ {H' : Hp} {t : Addr} {l : Ln}, H' t = some (.tup (cutV [V.str l.1, .int l.2.1, .int l.2.2] none (some 2))) → Dp K H' (.ref t) (eN (nmOf l)) := fun e => .tup (.inl (.inl e)) (.cons (.str _) (.one (.int _)))
    have lnI : ∀ {H' v l}, Dp K H' v (eL l) → ∃ a, v = .ref a ∧ SqT K H' a [V.str l.1, .int l.2.1, .int l.2.2] := fun dl => by
      obtain ⟨a, xs, rfl, S, q⟩ := Dp.tupI dl
      obtain ⟨x, y, z, rfl, q1, q2, q3⟩ := DpAll.i3 q
      cases Dp.strI q1
      cases Dp.intI q2
      cases Dp.intI q3
      exact ⟨a, rfl, S⟩
    have lnNe : ∀ {l : Ln}, LnOk l → l ≠ headL ∧ l ≠ footL := fun h => by
      have h1 := h.1.2.1
      constructor
      · rintro rfl
        exact absurd h1 (by decide)
      · rintro rfl
        exact absurd h1 (by decide)
    have no : ∀ {l : Ln}, l ∈ d.lines → decide (m < l.2.2) = true → ¬ (PyData.eqv (eN (nmOf l)) (eN n)) = true := fun hl e z => by
      rw [eN_eqv] at z
      have := own _ hl (of_decide_eq_true z)
      have := of_decide_eq_true e
      omega
    have parts : ∃ a kd y tl l0, v = .ref a ∧ SqT K H a (V.str kd :: y :: tl) ∧ Dp K H y (eL l0) ∧ EdOk l0 ∧ l0 ∈ d.lines ∧ (tl = [] ∨ ∃ z tl' l1, tl = z :: tl' ∧ Dp K H z (eL l1) ∧ EdOk l1 ∧ l1 ∈ d.lines ∧ l0 ≠ l1 ∧ l0 ≠ footL ∧ l1 ≠ headL) := by
      cases d with
      | one kp l =>
        obtain ⟨a, _, rfl, S, ds⟩ := Dp.tupI dd
        obtain ⟨x, y, rfl, q1, q2⟩ := DpAll.i2 ds
        cases Dp.strI q1
        exact ⟨a, _, y, [], l, rfl, S, q2, .inl ok, by simp [Deed.lines], .inl rfl⟩
      | order la lb =>
        obtain ⟨a, _, rfl, S, ds⟩ := Dp.tupI dd
        obtain ⟨x, y, z, rfl, q1, q2, q3⟩ := DpAll.i3 ds
        cases Dp.strI q1
        exact ⟨a, _, y, [z], la, rfl, S, q2, .inl ok.1, by simp [Deed.lines], .inr ⟨z, [], lb, rfl, q3, .inl ok.2, by simp [Deed.lines], fit, (lnNe ok.1).2, (lnNe ok.2).1⟩⟩
      | put la lb ts =>
        obtain ⟨a, _, rfl, S, ds⟩ := Dp.tupI dd
        obtain ⟨x, y, z, u, rfl, q1, q2, q3, q4⟩ := DpAll.i4 ds
        cases Dp.strI q1
        exact ⟨a, _, y, [z, u], la, rfl, S, q2, ok.1, by simp [Deed.lines], .inr ⟨z, [u], lb, rfl, q3, ok.2.1, by simp [Deed.lines], fit.1, fit.2.1, fit.2.2.1⟩⟩
    obtain ⟨a, kd, y, tl, l0, rfl, S, dy, o0, i0, more⟩ := parts
    obtain ⟨ay, rfl, Sy⟩ := lnI dy
    refine ⟨.ref a, rfl, a, _, 1, .ref ay, rfl, rfl, S, atI_nat (j := 1) rfl, ?_⟩
    apply twice (A := fun H2 => Go T D0 H H2)
    case use =>
      intro rest
      refine ⟨.ref ay, rfl, ay, _, 2, .int l0.2.2, rfl, rfl, Sy, atI_nat (j := 2) rfl, .int m, rfl, _, _, rfl, rfl, _, rfl, ite2 (fun e => ⟨.ref ay, rfl, 2, rfl, ay, _, rfl, Sy, fun z => absurd z (show ¬ (HT.sIx 3 0 none = 0 ∧ HT.sIx 3 3 (some 2) = 3) by decide), fun _ t ht => ?u1⟩) (fun e => ?u2)⟩
      case u1 =>
        have g2 := g0.new (o := .tup (cutV [V.str l0.1, .int l0.2.1, .int l0.2.2] none (some 2))) ht
        have et : (upd H t (.tup (cutV [V.str l0.1, .int l0.2.1, .int l0.2.2] none (some 2)))) t = _ := upd_same
        generalize upd H t (.tup (cutV [V.str l0.1, .int l0.2.1, .int l0.2.2] none (some 2))) = H2 at g2 et ⊢
        exact ⟨nv, rfl, _, _, cut_ et, Dp.sub (toH g2) _ _ dn, shN o0, on_.sh, _, rfl, ite2 (fun e' => absurd e' (no i0 e)) (fun e' => rest H2 g2)⟩
      case u2 => exact rest H g0
    case h =>
      intro H2 g2
      have S2 := (toH g2).seqT S
      rcases more with rfl | ⟨z, tl', l1, rfl, dz, o1, i1, n1, n2, n3⟩
      · exact ⟨.ref a, rfl, a, _, rfl, .inr S2, rfl, _, rfl, iteT (q H2 g2)⟩
      · obtain ⟨az, rfl, Sz⟩ := lnI dz
        refine ⟨.ref a, rfl, a, _, rfl, .inr S2, rfl, _, rfl, ite2 (fun e => ?bad) (fun e => ?_)⟩
        case bad =>
          have e3 : ((tl'.length + 1 + 1 + 1 : Nat) : Int) = 2 := V.int.inj (of_decide_eq_true e)
          omega
        have Sz2 := (toH g2).seqT Sz
        refine ⟨.ref a, rfl, a, _, 2, .ref az, rfl, rfl, S2, atI_nat (j := 2) rfl, ?_⟩
        apply twice (A := fun H3 => Go T D0 H H3)
        case use =>
          intro rest2
          refine ⟨.ref az, rfl, az, _, 2, .int l1.2.2, rfl, rfl, Sz2, atI_nat (j := 2) rfl, .int m, rfl, _, _, rfl, rfl, _, rfl, ite2 (fun e => ⟨.ref az, rfl, 2, rfl, az, _, rfl, Sz2, fun z => absurd z (show ¬ (HT.sIx 3 0 none = 0 ∧ HT.sIx 3 3 (some 2) = 3) by decide), fun _ t ht => ?u3⟩) (fun e => ?u4)⟩
          case u3 =>
            have g3 := g2.new (o := .tup (cutV [V.str l1.1, .int l1.2.1, .int l1.2.2] none (some 2))) ht
            have et : (upd H2 t (.tup (cutV [V.str l1.1, .int l1.2.1, .int l1.2.2] none (some 2)))) t = _ := upd_same
            generalize upd H2 t (.tup (cutV [V.str l1.1, .int l1.2.1, .int l1.2.2] none (some 2))) = H3 at g3 et ⊢
            exact ⟨nv, rfl, _, _, cut_ et, Dp.sub (toH g3) _ _ dn, shN o1, on_.sh, _, rfl, ite2 (fun e' => absurd e' (no i1 e)) (fun e' => rest2 H3 g3)⟩
          case u4 => exact rest2 H2 g2
        case h =>
          intro H3 g3
          have dy3 := Dp.sub (toH g3) _ _ dy
          have dz3 := Dp.sub (toH g3) _ _ dz
          refine ⟨.ref ay, rfl, .ref az, rfl, _, _, dy3, dz3, shL o0, shL o1, _, rfl, ?_⟩
          rw [eL_eqv, decide_eq_false n1]
          refine iteT ⟨.ref ay, rfl, _, _, dy3, dF H3, shL o0, shL (.inr (.inr rfl)), _, rfl, ?_⟩
          rw [eL_eqv, decide_eq_false n2]
          refine iteT ⟨.ref az, rfl, _, _, dz3, dH H3, shL o1, shL (.inr (.inl rfl)), ?_⟩
          rw [eL_eqv, decide_eq_false n3]
          exact q H3 g3
end
end K1
set_option Elab.async false
set_option linter.all false
set_option maxRecDepth 100000
set_option maxHeartbeats 400000
/-! The program's defs: _many_put, _can_know: of good ones. -/
namespace K1
open PySem PySem.Spec PyProof.Rows L2
theorem manyAt_succ {ds : List Deed} {i : Nat} {d : Deed} (h : ds[i]? = some d) : manyAt ds (i + 1) = manyAt ds i + d.texts.length := by
  unfold manyAt
  rw [List.take_add_one, h, List.flatMap_append, List.length_append]
  simp
section
variable {P : Program} {w : World} {K : PySem.W.Frag} {mg : Str → Option Value} {base : Heap} {T : Tp}

/-! ### _many_put -/
def spManyP (K : PySem.W.Frag) (T : Tp) : Sp := fun vs H Q _ => ∃ (nv : V) (l : Addr) (dvs : List V) (n : Nm) (ds : List Deed), vs = [nv, .ref l] ∧ Dp K H nv (eN n) ∧ NmOk n ∧ SqL K H l dvs ∧ DpAll K H dvs (ds.map eD) ∧ (∀ d ∈ ds, d.ok ∧ d.fit) ∧
  (∀ i d, ds[i]? = some d → ownOk n (manyAt ds i : Nat) d) ∧ TG T H ∧ ∀ H', Go T D0 H H' → Q (.int (manyAt ds ds.length : Nat)) H'
theorem ok_manyp {f : Addr} {fd : FuncData} {k : Nat} (F : Fun K "_many_put" "_many_put" sManyPut f fd) (M : Mg K mg) (cD : Cal P w K mg base k "can_do" ["deed", "own", "many"] (spCanDo K T)) : FnOk P w K mg base CX0 (k + 1) f fd ["name", "deeds"] (spManyP K T) := by
  refine F.ok scManyPut (fun vs H Q E h => ?_) (fun cdv A outer s H vs Q E hr h => ?_)
  · obtain ⟨nv, l, dvs, n, ds, rfl, _⟩ := h
    rfl
  · obtain ⟨nv, l, dvs, n, ds, rfl, dn, on_, S, dds, ok, own, tg, q⟩ := h
    refine ⟨_, (pss_cons (ps_set (i := 2) scManyPut.nd rfl (.inl rfl) pe_int)
      (pss_cons (ps_for PassesOwn.never rfl (pi_enumK 1 (by decide) (by rfl) M.enum_ (pa_cons (pv 1) pa_nil)) (pg_tup rfl (pgs_cons (pg_name (i := 3) scManyPut.nd rfl (.inl rfl)) (pgs_cons (pg_name (i := 4) scManyPut.nd rfl (.inl rfl)) pgs_nil)))
      (pss_cons (ps_if (pt_not (pt_val (pe_cal cD hr (by rfl) (pa_cons (pv 4) (pa_cons (pv 0) (pa_cons (pv 2) pa_nil))))))
      (pss_one ps_never)
      pss_nil)
      (pss_one (ps_if (pt_cmpR op_eq (pe_ix ix_tup (pv 4) pe_int (fun _ _ => rfl)) pe_str (nomark _))
      (pss_one (ps_aug (i := 2) scManyPut.nd rfl (.inl rfl) (pe_callB call_len_seq (by rfl) M.len_ PySem.boot_len (pa_cons (pe_ix ix_tup (pv 4) pe_int (fun _ _ => rfl)) pa_nil)) ip_add))
      pss_nil))))
      (pss_one (ps_ret (pv 2))))), ?_⟩
    have toH : ∀ {H'}, Go T D0 H H' → Sub H H' := fun g => sub_go g tg
    have g0 : Go T D0 H H := Go.rfl' tg
    have dlen : dvs.length = ds.length := by rw [DpAll.len dds, List.length_map]
    refine ⟨.ref l, rfl, l, dvs, rfl, S, ?_⟩
    refine for_it (walk_enumK (K := K) (a := l) (xs := dvs) (k := 1)) (fun i σ H5 => ∃ (y1 y2 : Option V), σ = [some nv, some (.ref l), some (.int (manyAt ds i : Nat)), y1, y2] ∧ Go T D0 H H5) ?_ ?_ ?_ ?_
    · exact ⟨_, _, rfl, g0⟩
    · rintro i σ H5 hi ⟨y1, y2, rfl, g5⟩
      exact (toH g5).seqL S
    · rintro i v σ H5 H5' hi ⟨y1, y2, rfl, g5⟩ ⟨T', x', y', rfl, hT, rfl, hx', hy'⟩
      cases hx'
      have hy' : dvs[i]? = some y' := hy'
      obtain ⟨d0, hd0, dp⟩ := DpAll.at' dds hy'
      rw [List.getElem?_map] at hd0
      cases hdi : ds[i]? with
      | none => rw [hdi] at hd0; cases hd0
      | some d =>
        rw [hdi] at hd0
        cases hd0
        have g6 := g5.new (o := .tup [V.int ((1 + i : Nat)), y']) hT
        have okd := ok d (List.mem_of_getElem? hdi)
        have own' := own i d hdi
        have ms := manyAt_succ hdi
        refine ⟨T', _, rfl, .inl (.inl upd_same), rfl, _, _, rfl, _, _, rfl, rfl, ?_⟩
        generalize upd H5 T' (.tup [V.int ((1 + i : Nat)), y']) = H6 at g6 ⊢
        refine ⟨y', rfl, nv, rfl, _, rfl, y', nv, d, n, _, rfl, Dp.sub (toH g6) _ _ dp, Dp.sub (toH g6) _ _ dn, on_, okd.1, okd.2, own', g6.1, fun H7 g7 => ⟨_, rfl, iteF ?_⟩⟩
        have g8 := g6.trans g7
        obtain ⟨a, lvs, tl, rfl, Sd, dl, hc⟩ := deed_parts (Dp.sub (toH g8) _ _ dp)
        refine ⟨.ref a, rfl, a, _, 0, .str d.kind, rfl, rfl, Sd, atI_nat (j := 0) rfl, rfl, _, rfl, ite2 (fun e => ?_) (fun e => ?_)⟩
        · have ek : d.kind = "put" := V.str.inj (of_decide_eq_true e)
          rcases hc with ⟨_, h2, t, rfl, St⟩ | ⟨n1, _⟩ | ⟨n1, _⟩
          · obtain ⟨x, y, rfl⟩ := len2 h2
            refine ⟨_, rfl, .ref a, rfl, a, _, 3, .ref t, rfl, rfl, Sd, atI_nat (j := 3) rfl, t, _, rfl, .inr St, _, _, rfl, rfl, some (V.int ((1 + i : Nat))), some (V.ref a), ?_, g8⟩
            rw [ms, List.length_map]
            rfl
          · rw [ek] at n1
            exact absurd n1 (by decide +kernel)
          · exact absurd ek n1
        · have ek : ¬ d.kind = "put" := fun z => e (decide_eq_true (by rw [z]))
          have e0 : d.texts = [] := by
            rcases hc with ⟨h, _⟩ | ⟨_, _, _, h⟩ | ⟨_, _, _, _, h⟩
            · exact absurd h ek
            · exact h
            · exact h
          refine ⟨some (V.int ((1 + i : Nat))), some (V.ref a), ?_, g8⟩
          rw [ms, e0]
          rfl
    · rintro σ H5 ⟨y1, y2, rfl, g5⟩
      rw [dlen]
      exact ⟨_, rfl, q _ g5⟩

/-! ### _can_know -/
def spCanKnow (K : PySem.W.Frag) (T : Tp) : Sp := fun vs H Q _ => ∃ (nv : V) (l : Addr) (kvs : List V) (n : Nm) (ns : List Nm), vs = [nv, .ref l] ∧ Dp K H nv (eN n) ∧ NmOk n ∧ SqL K H l kvs ∧ DpAll K H kvs (ns.map eN) ∧ (∀ m ∈ ns, NmOk m) ∧
  ns.Pairwise (fun a b => nmLt a b = true) ∧ n ∉ ns ∧ TG T H ∧ ∀ H', Go T D0 H H' → Q (.bl true) H'
theorem ok_canknow {f : Addr} {fd : FuncData} {k : Nat} (F : Fun K "can_know" "can_know" sCanKnow f fd) (M : Mg K mg) (cN : Cal P w K mg base k "is_name" ["thing"] (spName K T)) : FnOk P w K mg base CX0 (k + 1) f fd ["own", "knows"] (spCanKnow K T) := by
  refine F.ok scCanKnow (fun vs H Q E h => ?_) (fun cdv A outer s H vs Q E hr h => ?_)
  · obtain ⟨nv, l, kvs, n, ns, rfl, _⟩ := h
    rfl
  · obtain ⟨nv, l, kvs, n, ns, rfl, dn, on_, S, dks, ok, asc, nin, tg, q⟩ := h
    refine ⟨_, (pss_cons (ps_if (pt_not (pt_val (pe_callB call_isi (by rfl) M.ins boot_isinstance (pa_cons (pv 1) (pa_cons (pe_bltn (v := .ty "list") (by rfl) M.list_ (by decide +kernel) rfl) pa_nil)))))
      (pss_one (ps_ret pe_bl))
      pss_nil)
      (pss_cons (ps_set (i := 2) scCanKnow.nd rfl (.inl rfl) pe_non)
      (pss_cons (ps_for PassesOwn.never rfl (pi_list (pv 1)) (pg_name (i := 3) scCanKnow.nd rfl (.inl rfl))
      (pss_cons (ps_if (PW.pt (pw_or (pt_not (pt_val (pe_cal cN hr (by rfl) (pa_cons (pv 3) pa_nil)))) (pw_or (pt_cmpR (op_eqD hr.units) (pv 3) (pv 0) (nomark _)) (pw_or1 (PW.pt (pw_and (pt_cmpR op_notN (pv 2) pe_non (nomark _)) (pw_and1 (pt_cmpR (op_leD hr.units) (pv 3) (pv 2) (nomark _)))))))))
      (pss_one (ps_ret pe_bl))
      pss_nil)
      (pss_one (ps_set (i := 2) scCanKnow.nd rfl (.inl rfl) (pv 3)))))
      (pss_one (ps_ret pe_bl))))), ?_⟩
    have toH : ∀ {H'}, Go T D0 H H' → Sub H H' := fun g => sub_go g tg
    have g0 : Go T D0 H H := Go.rfl' tg
    have klen : kvs.length = ns.length := by rw [DpAll.len dks, List.length_map]
    refine ⟨.ref l, rfl, .ref l, .ty "list", .type "list", .type "list", _, rfl, .ty _, (Th.lst S).ty, kit_ty (Th.lst S).klst, _, rfl, iteF ?_⟩
    refine ⟨.ref l, rfl, l, rfl, ⟨_, S⟩, ?_⟩
    refine for_list (K := K) (a := l) (xs := kvs) (fun i σ H5 => ∃ (bv : V) (y1 : Option V), σ = [some nv, some (.ref l), some bv, y1] ∧ Go T D0 H H5 ∧ ((i = 0 ∧ bv = .non) ∨ ∃ j m, i = j + 1 ∧ ns[j]? = some m ∧ bv ≠ .non ∧ Dp K H bv (eN m))) ?_ ?_ ?_ ?_
    · exact ⟨_, _, rfl, g0, .inl ⟨rfl, rfl⟩⟩
    · rintro i σ H5 hi ⟨bv, y1, rfl, g5, _⟩
      exact (toH g5).seqL S
    · rintro i x σ H5 hx ⟨bv, y1, rfl, g5, hb⟩
      obtain ⟨d0, hd0, dp⟩ := DpAll.at' dks hx
      rw [List.getElem?_map] at hd0
      cases hdi : ns[i]? with
      | none => rw [hdi] at hd0; cases hd0
      | some m =>
        rw [hdi] at hd0
        cases hd0
        have okm := ok m (List.mem_of_getElem? hdi)
        have t5 := nm_th (Dp.sub (toH g5) _ _ dp) (by have := (handOk okm.1).2; omega)
        refine ⟨x, rfl, x, "tuple", _, rfl, t5.1, t5.2, g5.1, fun H6 g6 => ⟨_, rfl, ?_⟩⟩
        rw [okm.v]
        have g7 := g5.trans g6
        refine iteF ⟨x, rfl, nv, rfl, _, _, Dp.sub (toH g7) _ _ dp, Dp.sub (toH g7) _ _ dn, okm.sh, on_.sh, _, rfl, ?_⟩
        rw [eN_eqv, decide_eq_false (show ¬ m = n from fun z => nin (z ▸ List.mem_of_getElem? hdi))]
        have xnon : x ≠ .non := by
          obtain ⟨a, xs, rfl, _⟩ := Dp.tupI dp
          exact fun z => nomatch z
        have fin : ∃ (bv' : V) (y1 : Option V), [some nv, some (.ref l), some x, some x] = [some nv, some (.ref l), some bv', y1] ∧ Go T D0 H H6 ∧ ((i + 1 = 0 ∧ bv' = .non) ∨ ∃ j m, i + 1 = j + 1 ∧ ns[j]? = some m ∧ bv' ≠ .non ∧ Dp K H bv' (eN m)) :=
          ⟨x, some x, rfl, g7, .inr ⟨i, m, rfl, hdi, xnon, dp⟩⟩
        refine iteF ⟨bv, rfl, rfl, _, rfl, ite2 (fun e => ?_) (fun e => ⟨x, rfl, fin⟩)⟩
        rcases hb with ⟨_, rfl⟩ | ⟨j, m', rfl, hj, nb, db⟩
        · exact absurd e (by decide)
        · have lt : nmLt m' m = true := by
            obtain ⟨h1, e1⟩ := List.getElem?_eq_some_iff.mp hj
            obtain ⟨h2, e2⟩ := List.getElem?_eq_some_iff.mp hdi
            have := List.pairwise_iff_getElem.mp asc j (j + 1) h1 h2 (Nat.lt_succ_self _)
            rw [e1, e2] at this
            exact this
          refine ⟨x, rfl, bv, rfl, _, _, Dp.sub (toH g7) _ _ dp, Dp.sub (toH g7) _ _ db, eN_alike m m', (by unfold eN; intro z; cases z), by rw [eN_dep]; decide, _, rfl, ?_⟩
          rw [show PySem.W.dataLt (eN m') (eN m) = true from lt]
          exact iteF ⟨x, rfl, fin⟩
    · rintro σ H5 ⟨bv, y1, rfl, g5, _⟩
      exact q _ g5
end
end K1
set_option Elab.async false
set_option linter.all false
set_option maxRecDepth 100000
set_option maxHeartbeats 400000
/-! The program's Patch, _patch_with, patch_of_parts: of good parts. -/
namespace K1
open PySem PySem.Spec PyProof.Rows L2
/-- what a patch must keep -/
structure Pat.good (p : Pat) : Prop where
  ok : p.ok
  fit : ∀ d ∈ p.deeds, d.fit
  own : ∀ i d, p.deeds[i]? = some d → ownOk p.name (manyAt p.deeds i : Nat) d
  asc : p.knows.Pairwise fun a b => nmLt a b = true
  nin : p.name ∉ p.knows
  most : p.deeds.length ≤ 400
def manyOf (p : Pat) : Nat := manyAt p.deeds p.deeds.length
/-- the object at x is a patch with p's parts -/
def MadeN (n : Nat) (K : PySem.W.Frag) (C : Addr) (H : Hp) (x : Addr) (p : Pat) : Prop := ∃ dx fs nv kv dv, H x = some (.ins C dx fs) ∧ fs.length ≤ n ∧ fs.lookup ("name" : Str) = some nv ∧ fs.lookup ("knows" : Str) = some kv ∧ fs.lookup ("deeds" : Str) = some dv ∧ fs.lookup ("many" : Str) = some (.int (manyOf p : Nat)) ∧ fs.lookup ("told" : Str) = none ∧
  Dp K H nv (eN p.name) ∧ Dp K H kv (.tuple (p.knows.map eN)) ∧ Dp K H dv (.tuple (p.deeds.map eD))
abbrev Made := MadeN 10
theorem Made.pat {K : PySem.W.Frag} {C : Addr} {H : Hp} {x : Addr} {p : Pat} (m : Made K C H x p) : PatAt K C H (.ref x) p := by
  obtain ⟨dx, fs, nv, kv, dv, h1, _, h2, h3, h4, _, _, h5, h6, h7⟩ := m
  exact ⟨x, dx, fs, nv, kv, dv, rfl, h1, h2, h3, h4, h5, h6, h7⟩
theorem cut_all (xs : List V) : cutV xs none (some ((xs.length : Nat) : Int)) = xs := by
  unfold cutV
  have e1 : HT.sIx xs.length 0 none = 0 := rfl
  have e2 : HT.sIx xs.length xs.length (some ((xs.length : Nat) : Int)) = xs.length := by rw [HT.sIx_nat, Nat.min_self]
  rw [e1, e2, List.drop_zero, Nat.sub_zero, List.take_length]
theorem lk {fs : List (Str × V)} {f g : Str} {v : V} (h : (g = f) = False) : (putF f v fs).lookup g = fs.lookup g := by rw [lookup_putF, if_neg (by rw [h]; exact id)]
theorem lk' {fs : List (Str × V)} {f : Str} {v : V} : (putF f v fs).lookup f = some v := by rw [lookup_putF, if_pos rfl]
theorem lns {fs : List (Str × V)} {f : Str} {v : V} {n : Nat} (h : fs.length ≤ n) : (putF f v fs).length ≤ n + 1 := Nat.le_trans (length_putF f v fs) (Nat.add_le_add_right h 1)
section
variable {P : Program} {w : World} {K : PySem.W.Frag} {mg : Str → Option Value} {base : Heap} {T : Tp}

/-! ### Patch.__init__ -/
def spInit (K : PySem.W.Frag) (C : Addr) (T : Tp) : Sp := fun vs H Q _ => ∃ (x dx : Addr) (nv : V) (kl dl : Addr) (kvs dvs : List V) (p : Pat), vs = [.ref x, nv, .ref kl, .ref dl] ∧ H x = some (.ins C dx []) ∧ Dp K H nv (eN p.name) ∧ SqL K H kl kvs ∧ DpAll K H kvs (p.knows.map eN) ∧
  SqL K H dl dvs ∧ DpAll K H dvs (p.deeds.map eD) ∧ p.good ∧ TG T H ∧ ∀ H', Go T (· = x) H H' → MadeN 7 K C H' x p → Q .non H'
theorem ok_init {f C : Addr} {fd : FuncData} {k : Nat} (F : Fun K "__init__" "Patch.__init__" sPatch_init f fd) (M : Mg K mg) (N : Mp mg) (PC : PCls K C) (cN : Cal P w K mg base k "is_name" ["thing"] (spName K T)) (cK : Cal P w K mg base k "can_know" ["own", "knows"] (spCanKnow K T))
    (cD : Cal P w K mg base k "_many_deeds" ["things"] (spManyD K T)) (cM : Cal P w K mg base k "_many_put" ["name", "deeds"] (spManyP K T)) : FnOk P w K mg base CX0 (k + 1) f fd ["self", "name", "knows", "deeds"] (spInit K C T) := by
  obtain ⟨tk, hD⟩ := N.mostD
  refine F.ok scPatch_init (fun vs H Q E h => ?_) (fun cdv A outer s H vs Q E hr h => ?_)
  · obtain ⟨x, dx, nv, kl, dl, kvs, dvs, p, rfl, _⟩ := h
    rfl
  · obtain ⟨x, dx, nv, kl, dl, kvs, dvs, p, rfl, ex, dn, Sk, dks, Sd, dds, gd, tg, q⟩ := h
    refine ⟨_, (pss_cons (ps_if (PW.pt (pw_or (pt_not (pt_val (pe_cal cN hr (by rfl) (pa_cons (pv 1) pa_nil)))) (pw_or1 (pt_not (pt_val (pe_cal cK hr (by rfl) (pa_cons (pv 1) (pa_cons (pv 2) pa_nil))))))))
      (pss_one ps_never)
      pss_nil)
      (pss_cons (ps_if (PW.pt (pw_or (pt_not (pt_val (pe_callB call_isi (by rfl) M.ins boot_isinstance (pa_cons (pv 3) (pa_cons (pe_bltn (v := .ty "list") (by rfl) M.list_ (by decide +kernel) rfl) pa_nil))))) (pw_or1 (pt_cmpR op_gt (pe_callB call_len_seq (by rfl) M.len_ PySem.boot_len (pa_cons (pv 3) pa_nil)) (pe_glob (v := .int 400) (by rfl) hD ⟨_, rfl⟩) (nomark _)))))
      (pss_one ps_never)
      pss_nil)
      (pss_cons (ps_set (i := 4) scPatch_init.nd rfl (.inl rfl) (pe_cal cD hr (by rfl) (pa_cons (pv 3) pa_nil)))
      (pss_cons (ps_fld (pv 0) (pe_cal cM hr (by rfl) (pa_cons (pv 1) (pa_cons (pe_slice sl_list (pv 3) po_none (po_some (pv 4))) pa_nil))) (by rfl))
      (pss_cons (ps_if (pt_cmpR op_lt (pv 4) (pe_callB call_len_seq (by rfl) M.len_ PySem.boot_len (pa_cons (pv 3) pa_nil)) (nomark _))
      (pss_one ps_never)
      pss_nil)
      (pss_cons (ps_fld (pv 0) (pv 1) (by rfl))
      (pss_cons (ps_fld (pv 0) (pe_callTy call_tuple_of (by rfl) M.tuple_ (by decide +kernel) (pa_cons (pv 2) pa_nil)) (by rfl))
      (pss_cons (ps_fld (pv 0) (pe_callTy call_tuple_of (by rfl) M.tuple_ (by decide +kernel) (pa_cons (pv 3) pa_nil)) (by rfl))
      (pss_cons (ps_fld (pv 0) pe_non (by rfl))
      (pss_cons (ps_fld (pv 0) pe_non (by rfl))
      (pss_one (ps_fld (pv 0) pe_non (by rfl))))))))))))), ?_⟩
    have toH : ∀ {H'}, Go T D0 H H' → Sub H H' := fun g => sub_go g tg
    have g0 : Go T D0 H H := Go.rfl' tg
    have dlen : dvs.length = p.deeds.length := by rw [DpAll.len dds, List.length_map]
    have th0 := nm_th dn (by have := (handOk gd.ok.name.1).2; omega)
    have ex' : ∀ {H'}, Go T D0 H H' → H' x = some (.ins C dx []) := fun g => g.at tg (fun z => z) ex
    refine ⟨nv, rfl, nv, "tuple", _, rfl, th0.1, th0.2, tg, fun H1 g1 => ⟨_, rfl, ?_⟩⟩
    rw [gd.ok.name.v]
    refine iteF ⟨nv, rfl, .ref kl, rfl, nv, kl, kvs, p.name, p.knows, rfl, Dp.sub (toH g1) _ _ dn, gd.ok.name, (toH g1).seqL Sk, Dp.subs (toH g1) _ _ dks, gd.ok.knows, gd.asc, gd.nin, g1.1, fun H2 g2 => ⟨_, rfl, iteF ?_⟩⟩
    have g12 := g1.trans g2
    have S2 := (toH g12).seqL Sd
    refine ⟨.ref dl, rfl, .ref dl, .ty "list", .type "list", .type "list", _, rfl, .ty _, (Th.lst S2).ty, kit_ty (Th.lst S2).klst, _, rfl, iteF ?_⟩
    refine ⟨.ref dl, rfl, dl, _, rfl, .inl S2, _, _, rfl, rfl, _, rfl, ite2 (fun e => ?bad1) (fun _ => ?_)⟩
    case bad1 =>
      have := of_decide_eq_true e
      have := gd.most
      omega
    have okd : ∀ d ∈ p.deeds, d.ok ∧ d.fit := fun d hd => ⟨gd.ok.deeds d hd, gd.fit d hd⟩
    refine ⟨.ref dl, rfl, dl, dvs, p.deeds, rfl, S2, Dp.subs (toH g12) _ _ dds, okd, by have := gd.most; omega, g12.1, fun H3 g3 => ?_⟩
    have g13 := g12.trans g3
    have S3 := (toH g13).seqL Sd
    refine ⟨nv, rfl, .ref dl, rfl, .int _, rfl, _, rfl, dl, dvs, rfl, S3, fun t ht => ?_⟩
    rw [← dlen, cut_all]
    have g4 := g13.new (o := .lst dvs) ht
    have et : (upd H3 t (.lst dvs)) t = some (.lst dvs) := upd_same
    generalize upd H3 t (.lst dvs) = H4 at g4 et ⊢
    refine ⟨nv, t, dvs, p.name, p.deeds, rfl, Dp.sub (toH g4) _ _ dn, gd.ok.name, .inl (.inl et), Dp.subs (toH g4) _ _ dds, okd, gd.own, g4.1, fun H5 g5 => ?_⟩
    have g05 := g4.trans g5
    refine ⟨.ref x, rfl, x, C, dx, [], rfl, ex' g05, PC.cls, PC.many, by decide, ?_⟩
    have g6 : Go T (· = x) H (upd H5 x (.ins C dx (putF "many" (.int (manyAt p.deeds p.deeds.length : Nat)) []))) := g05.up.set rfl (ex' g05) (by intro ps z; cases z)
    have e6 : (upd H5 x (.ins C dx (putF "many" (.int (manyAt p.deeds p.deeds.length : Nat)) []))) x = _ := upd_same
    generalize upd H5 x (.ins C dx (putF "many" (.int (manyAt p.deeds p.deeds.length : Nat)) [])) = H6 at g6 e6 ⊢
    have subX : ∀ {H'}, Go T (· = x) H H' → Sub H H' := fun g => Sub.go g tg fun a z xs => by
      rw [z, ex]
      refine ⟨fun z => ?_, fun z => ?_, fun u => ⟨fun z => ?_, fun z => ?_⟩⟩ <;> cases z
    have S6 := (subX g6).seqL Sd
    refine ⟨.int _, rfl, .ref dl, rfl, dl, dvs, rfl, .inl S6, _, _, rfl, rfl, _, rfl, ite2 (fun e => ?bad2) (fun _ => ?_)⟩
    case bad2 =>
      have := of_decide_eq_true e
      omega
    refine ⟨nv, rfl, .ref x, rfl, x, C, dx, _, rfl, e6, PC.cls, PC.name, Nat.lt_of_le_of_lt (lns (Nat.le_of_eq rfl)) (by decide), ?_⟩
    have l1 : (putF "many" (.int (manyAt p.deeds p.deeds.length : Nat)) ([] : List (Str × V))).length ≤ 1 := lns (Nat.le_refl 0)
    generalize hf1 : putF "many" (.int (manyAt p.deeds p.deeds.length : Nat)) ([] : List (Str × V)) = f1 at e6 l1 ⊢
    have g7 : Go T (· = x) H (upd H6 x (.ins C dx (putF "name" nv f1))) := g6.set rfl e6 (by intro ps z; cases z)
    have e7 : (upd H6 x (.ins C dx (putF "name" nv f1))) x = _ := upd_same
    have l2 := lns (f := "name") (v := nv) l1
    generalize upd H6 x (.ins C dx (putF "name" nv f1)) = H7 at g7 e7 ⊢
    refine ⟨.ref kl, rfl, kl, kvs, rfl, .inl ⟨(subX g7).seqL Sk, fun kt hkt => ?_⟩⟩
    have g8 := g7.new (o := .tup kvs) hkt
    have e8 := (upd_ne (o := .tup kvs) (ne_of_none e7 hkt)).trans e7
    have k8 : (upd H7 kt (.tup kvs)) kt = some (.tup kvs) := upd_same
    generalize upd H7 kt (.tup kvs) = H8 at g8 e8 k8 ⊢
    refine ⟨.ref x, rfl, x, C, dx, _, rfl, e8, PC.cls, PC.knows, Nat.lt_of_le_of_lt l2 (by decide), ?_⟩
    have nk : x ≠ kt := fun z => by rw [z, k8] at e8; cases e8
    have g9 : Go T (· = x) H (upd H8 x (.ins C dx (putF "knows" (.ref kt) (putF "name" nv f1)))) := g8.set rfl e8 (by intro ps z; cases z)
    have e9 : (upd H8 x (.ins C dx (putF "knows" (.ref kt) (putF "name" nv f1)))) x = _ := upd_same
    have k9 := (upd_ne (o := .ins C dx (putF "knows" (.ref kt) (putF "name" nv f1))) nk.symm).trans k8
    have l3 := lns (f := "knows") (v := .ref kt) l2
    generalize upd H8 x (.ins C dx (putF "knows" (.ref kt) (putF "name" nv f1))) = H9 at g9 e9 k9 ⊢
    refine ⟨.ref dl, rfl, dl, dvs, rfl, .inl ⟨(subX g9).seqL Sd, fun dt hdt => ?_⟩⟩
    have g10 := g9.new (o := .tup dvs) hdt
    have e10 := (upd_ne (o := .tup dvs) (ne_of_none e9 hdt)).trans e9
    have k10 := (upd_ne (o := .tup dvs) (ne_of_none k9 hdt)).trans k9
    have d10 : (upd H9 dt (.tup dvs)) dt = some (.tup dvs) := upd_same
    generalize upd H9 dt (.tup dvs) = H10 at g10 e10 k10 d10 ⊢
    refine ⟨.ref x, rfl, x, C, dx, _, rfl, e10, PC.cls, PC.deeds, Nat.lt_of_le_of_lt l3 (by decide), ?_⟩
    have nd : x ≠ dt := fun z => by rw [z, d10] at e10; cases e10
    have g11 : Go T (· = x) H (upd H10 x (.ins C dx (putF "deeds" (.ref dt) (putF "knows" (.ref kt) (putF "name" nv f1))))) := g10.set rfl e10 (by intro ps z; cases z)
    have e11 : (upd H10 x (.ins C dx (putF "deeds" (.ref dt) (putF "knows" (.ref kt) (putF "name" nv f1))))) x = _ := upd_same
    have k11 := (upd_ne (o := .ins C dx (putF "deeds" (.ref dt) (putF "knows" (.ref kt) (putF "name" nv f1)))) nk.symm).trans k10
    have d11 := (upd_ne (o := .ins C dx (putF "deeds" (.ref dt) (putF "knows" (.ref kt) (putF "name" nv f1)))) nd.symm).trans d10
    have l4 := lns (f := "deeds") (v := .ref dt) l3
    generalize upd H10 x (.ins C dx (putF "deeds" (.ref dt) (putF "knows" (.ref kt) (putF "name" nv f1)))) = H11 at g11 e11 k11 d11 ⊢
    generalize hf4 : putF "deeds" (.ref dt) (putF "knows" (.ref kt) (putF "name" nv f1)) = f4 at e11 l4
    have lkD : f4.lookup ("deeds" : Str) = some (.ref dt) := by rw [← hf4, lk']
    have lkK : f4.lookup ("knows" : Str) = some (.ref kt) := by rw [← hf4, lk (by decide), lk']
    have lkN : f4.lookup ("name" : Str) = some nv := by rw [← hf4, lk (by decide), lk (by decide), lk']
    have lkM : f4.lookup ("many" : Str) = f1.lookup ("many" : Str) := by rw [← hf4, lk (by decide), lk (by decide), lk (by decide)]
    have lkT : f4.lookup ("told" : Str) = f1.lookup ("told" : Str) := by rw [← hf4, lk (by decide), lk (by decide), lk (by decide)]
    refine ⟨.ref x, rfl, x, C, dx, _, rfl, e11, PC.cls, PC.place, Nat.lt_of_le_of_lt l4 (by decide), ?_⟩
    have g12 : Go T (· = x) H (upd H11 x (.ins C dx (putF "place" .non f4))) := g11.set rfl e11 (by intro ps z; cases z)
    have e12 : (upd H11 x (.ins C dx (putF "place" .non f4))) x = _ := upd_same
    have k12 := (upd_ne (o := .ins C dx (putF "place" .non f4)) nk.symm).trans k11
    have d12 := (upd_ne (o := .ins C dx (putF "place" .non f4)) nd.symm).trans d11
    have l5 := lns (f := "place") (v := .non) l4
    generalize upd H11 x (.ins C dx (putF "place" .non f4)) = H12 at g12 e12 k12 d12 ⊢
    refine ⟨.ref x, rfl, x, C, dx, _, rfl, e12, PC.cls, PC.known, Nat.lt_of_le_of_lt l5 (by decide), ?_⟩
    have g13' : Go T (· = x) H (upd H12 x (.ins C dx (putF "known" .non (putF "place" .non f4)))) := g12.set rfl e12 (by intro ps z; cases z)
    have e13 : (upd H12 x (.ins C dx (putF "known" .non (putF "place" .non f4)))) x = _ := upd_same
    have k13 := (upd_ne (o := .ins C dx (putF "known" .non (putF "place" .non f4))) nk.symm).trans k12
    have d13 := (upd_ne (o := .ins C dx (putF "known" .non (putF "place" .non f4))) nd.symm).trans d12
    have l6 := lns (f := "known") (v := .non) l5
    generalize upd H12 x (.ins C dx (putF "known" .non (putF "place" .non f4))) = H13 at g13' e13 k13 d13 ⊢
    refine ⟨.ref x, rfl, x, C, dx, _, rfl, e13, PC.cls, PC.work, Nat.lt_of_le_of_lt l6 (by decide), ?_⟩
    have g14 : Go T (· = x) H (upd H13 x (.ins C dx (putF "work" .non (putF "known" .non (putF "place" .non f4))))) := g13'.set rfl e13 (by intro ps z; cases z)
    have e14 : (upd H13 x (.ins C dx (putF "work" .non (putF "known" .non (putF "place" .non f4))))) x = _ := upd_same
    have k14 := (upd_ne (o := .ins C dx (putF "work" .non (putF "known" .non (putF "place" .non f4)))) nk.symm).trans k13
    have d14 := (upd_ne (o := .ins C dx (putF "work" .non (putF "known" .non (putF "place" .non f4)))) nd.symm).trans d13
    have l7 := lns (f := "work") (v := .non) l6
    generalize upd H13 x (.ins C dx (putF "work" .non (putF "known" .non (putF "place" .non f4)))) = H14 at g14 e14 k14 d14 ⊢
    refine q H14 g14 ⟨dx, _, nv, .ref kt, .ref dt, e14, l7, ?_, ?_, ?_, ?_, ?_, Dp.sub (subX g14) _ _ dn, .tup (.inl (.inl k14)) (Dp.subs (subX g14) _ _ dks), .tup (.inl (.inl d14)) (Dp.subs (subX g14) _ _ dds)⟩
    · rw [lk (by decide), lk (by decide), lk (by decide), lkN]
    · rw [lk (by decide), lk (by decide), lk (by decide), lkK]
    · rw [lk (by decide), lk (by decide), lk (by decide), lkD]
    · rw [lk (by decide), lk (by decide), lk (by decide), lkM, ← hf1, lk']
      rfl
    · rw [lk (by decide), lk (by decide), lk (by decide), lkT, ← hf1, lk (by decide)]
      rfl
end
end K1
set_option Elab.async false
set_option linter.all false
set_option maxRecDepth 100000
set_option maxHeartbeats 400000
/-! The program's defs: _patch_with, patch_of_parts: of good parts. -/
namespace K1
open PySem PySem.Spec PyProof.Rows L2
section
variable {P : Program} {w : World} {K : PySem.W.Frag} {mg : Str → Option Value} {base : Heap} {T : Tp}
/-- the class of patches, made by its name -/
structure MakP (P : Program) (w : World) (K : PySem.W.Frag) (mg : Str → Option Value) (base : Heap) (k : Nat) (C : Addr) (T : Tp) : Prop where
  ex : ∃ (f : Addr) (fd : FuncData), Mk K C f ∧ FnOk P w K mg base CX0 k f fd ["self", "name", "knows", "deeds"] (spInit K C T) ∧ mg "Patch" = some (.ref C) ∧ Binds K fd ["self", "name", "knows", "deeds"] []
theorem pe_mkP {X : Cx} {K0 : PySem.W.Frag} {k j : Nat} {C : Addr} {T : Tp} {p pos : Pos} {e : Expr} {es : List Expr} {t : TA} (c : MakP X.prog X.w K0 X.mg X.base k C T) (hr : Room j X.A) (hk : k + 1 ≤ j) (hg : Gl X "Patch") (ha : PA X (e :: es) t) (hK : X.K = K0 := by rfl)
    (hdb : (("Patch" : Str) == ("__debug__" : Str)) = false := by decide) (he : starEach (e :: es) X.env = (false, eval e X.env) :: starEach es X.env := by rfl) (hpl : (backTo pos (starEach es X.env)).any (·.1) = false := by rfl) :
    PE X (.Call (.Name "Patch" p) (e :: es) [] pos) (tMake C (spInit K0 C T) [] E0 t) := by
  subst hK
  obtain ⟨f, fd, M, F, hm, b⟩ := c.ex
  exact pe_make M F (hr.mono hk) hg hm b .nil pass0 ha hdb he hpl
theorem MakP.up {k j : Nat} {C : Addr} (c : MakP P w K mg base j C T) (h : j ≤ k) : MakP P w K mg base k C T := by
  obtain ⟨f, fd, M, F, r⟩ := c.ex
  exact ⟨f, fd, M, F.mono h, r⟩
theorem good0 {n : Nm} (h : NmOk n) : (Pat.mk n [] []).good := ⟨⟨h, (fun _ h => by cases h), (fun _ h => by cases h)⟩, (fun _ h => by cases h), (fun i d h => by cases h), .nil, (by simp), (Nat.zero_le _)⟩
/-- a new object, and what is done to it, from ahead -/
theorem Go.born {H H2 : Hp} {x dx : Addr} {o o' : HO} (tg : TG T H) (hx : H x = none) (hd : H dx = none) (ne : dx ≠ x) (g : Go T (· = x) (upd (upd H dx o) x o') H2) : Go T D0 H H2 := by
  have g1 : Go T (· = x) H (upd (upd H dx o) x o') := ((Go.rfl' tg).new hd).new (by rw [upd_ne ne.symm]; exact hx)
  exact (g1.trans g).drop hx
theorem TG.born {H : Hp} {x dx : Addr} {o o' : HO} (tg : TG T H) (hx : H x = none) (hd : H dx = none) (ne : dx ≠ x) : TG T (upd (upd H dx o) x o') := (tg.new hd).new (by rw [upd_ne ne.symm]; exact hx)

/-! ### _patch_with -/
def spWith (K : PySem.W.Frag) (C : Addr) (T : Tp) : Sp := fun vs H Q _ => ∃ (nv kv dv : V) (p : Pat), vs = [nv, kv, dv, .int (manyOf p : Nat)] ∧ Dp K H nv (eN p.name) ∧ NmOk p.name ∧ Dp K H kv (.tuple (p.knows.map eN)) ∧ Dp K H dv (.tuple (p.deeds.map eD)) ∧ TG T H ∧
  ∀ H' x, Go T D0 H H' → H x = none → Made K C H' x p → Q (.ref x) H'
theorem ok_with {f C : Addr} {fd : FuncData} {k : Nat} (F : Fun K "_patch_with" "_patch_with" sPatchWith f fd) (PC : PCls K C) (cP : MakP P w K mg base k C T) : FnOk P w K mg base CX0 (k + 2) f fd ["name", "knows", "deeds", "many"] (spWith K C T) := by
  refine F.ok scPatchWith (fun vs H Q E h => ?_) (fun cdv A outer s H vs Q E hr h => ?_)
  · obtain ⟨nv, kv, dv, p, rfl, _⟩ := h
    rfl
  · obtain ⟨nv, kv, dv, p, rfl, dn, on_, dk, dd, tg, q⟩ := h
    refine ⟨_, (pss_cons (ps_set (i := 4) scPatchWith.nd rfl (.inl rfl) (pe_mkP cP hr (Nat.le_refl _) (by rfl) (pa_cons (pv 0) (pa_cons (pe_lst pa_nil) (pa_cons (pe_lst pa_nil) pa_nil)))))
      (pss_cons (ps_fld (pv 4) (pv 1) (by rfl))
      (pss_cons (ps_fld (pv 4) (pv 2) (by rfl))
      (pss_cons (ps_fld (pv 4) (pv 3) (by rfl))
      (pss_one (ps_ret (pv 4))))))), ?_⟩
    refine ⟨nv, rfl, Nat.zero_le _, fun kl hkl => ?_⟩
    have g1 := (Go.rfl' (D := D0) tg).new (o := .lst []) hkl
    have k1 : (upd H kl (.lst [])) kl = some (.lst []) := upd_same
    generalize upd H kl (.lst []) = H1 at g1 k1 ⊢
    refine ⟨Nat.zero_le _, fun dl hdl => ?_⟩
    have g2 := g1.new (o := .lst []) hdl
    have k2 := (upd_ne (o := .lst []) (ne_of_none k1 hdl)).trans k1
    have d2 : (upd H1 dl (.lst [])) dl = some (.lst []) := upd_same
    generalize upd H1 dl (.lst []) = H2 at g2 k2 d2 ⊢
    intro x dx hx hdx ne
    have tg3 := g2.1.born (o := .own x) (o' := .ins C dx []) hx hdx ne
    have e3 : (upd (upd H2 dx (.own x)) x (.ins C dx [])) x = some (.ins C dx []) := upd_same
    have s3 : Sub H2 (upd (upd H2 dx (.own x)) x (.ins C dx [])) := (Sub.new hdx).trans (Sub.new (by rw [upd_ne ne.symm]; exact hx))
    have toH : ∀ {H'}, Go T D0 H H' → Sub H H' := fun g => sub_go g tg
    refine ⟨x, dx, nv, kl, dl, [], [], ⟨p.name, [], []⟩, rfl, e3, Dp.sub s3 _ _ (Dp.sub (toH g2) _ _ dn), s3.seqL (.inl (.inl k2)), .nil, s3.seqL (.inl (.inl d2)), .nil, good0 on_, tg3, fun H4 g4 md => ⟨rfl, ?_⟩⟩
    have g04 : Go T D0 H H4 := g2.trans (g4.born g2.1 hx hdx ne)
    have hxH : H x = none := g2.free tg (fun z => z) hx
    obtain ⟨dx', fs, nv', kv', dv', e4, l4, n4, _, _, _, t4, dn4, _, _⟩ := md
    have dnH := Dp.sub (toH g04) _ _ dn
    have dkH := Dp.sub (toH g04) _ _ dk
    have ddH := Dp.sub (toH g04) _ _ dd
    have st : ∀ {H' H'' : Hp}, (∀ o, H'' = upd H' x o → (∃ q, H' x = some (.ins C dx' q)) → Sub H' H'') := by
      rintro H' H'' o rfl ⟨q, e⟩ a u hu hk
      by_cases z : a = x
      · rw [z, e] at hu
        cases hu
        obtain ⟨xs, h | h | ⟨u, h | h⟩⟩ := hk <;> cases h
      · rw [upd_ne z]
        exact hu
    refine ⟨kv, rfl, .ref x, rfl, x, C, dx', fs, rfl, e4, PC.cls, PC.knows, Nat.lt_of_le_of_lt l4 (by decide), ?_⟩
    have s5 := st (H' := H4) (H'' := upd H4 x (.ins C dx' (putF "knows" kv fs))) _ rfl ⟨_, e4⟩
    have g5 : Go T (· = x) H (upd H4 x (.ins C dx' (putF "knows" kv fs))) := g04.up.set rfl e4 (by intro ps z; cases z)
    have e5 : (upd H4 x (.ins C dx' (putF "knows" kv fs))) x = _ := upd_same
    have l5 := lns (f := "knows") (v := kv) l4
    generalize upd H4 x (.ins C dx' (putF "knows" kv fs)) = H5 at s5 g5 e5 ⊢
    refine ⟨dv, rfl, .ref x, rfl, x, C, dx', _, rfl, e5, PC.cls, PC.deeds, Nat.lt_of_le_of_lt l5 (by decide), ?_⟩
    have s6 := st (H' := H5) (H'' := upd H5 x (.ins C dx' (putF "deeds" dv (putF "knows" kv fs)))) _ rfl ⟨_, e5⟩
    have g6 : Go T (· = x) H (upd H5 x (.ins C dx' (putF "deeds" dv (putF "knows" kv fs)))) := g5.set rfl e5 (by intro ps z; cases z)
    have e6 : (upd H5 x (.ins C dx' (putF "deeds" dv (putF "knows" kv fs)))) x = _ := upd_same
    have l6 := lns (f := "deeds") (v := dv) l5
    generalize upd H5 x (.ins C dx' (putF "deeds" dv (putF "knows" kv fs))) = H6 at s6 g6 e6 ⊢
    refine ⟨.int _, rfl, .ref x, rfl, x, C, dx', _, rfl, e6, PC.cls, PC.many, Nat.lt_of_le_of_lt l6 (by decide), ?_⟩
    have s7 := st (H' := H6) (H'' := upd H6 x (.ins C dx' (putF "many" (.int (manyOf p : Nat)) (putF "deeds" dv (putF "knows" kv fs))))) _ rfl ⟨_, e6⟩
    have g7 : Go T (· = x) H (upd H6 x (.ins C dx' (putF "many" (.int (manyOf p : Nat)) (putF "deeds" dv (putF "knows" kv fs))))) := g6.set rfl e6 (by intro ps z; cases z)
    have e7 : (upd H6 x (.ins C dx' (putF "many" (.int (manyOf p : Nat)) (putF "deeds" dv (putF "knows" kv fs))))) x = _ := upd_same
    have l7 := lns (f := "many") (v := .int (manyOf p : Nat)) l6
    generalize upd H6 x (.ins C dx' (putF "many" (.int (manyOf p : Nat)) (putF "deeds" dv (putF "knows" kv fs)))) = H7 at s7 g7 e7 ⊢
    have sA := (s5.trans s6).trans s7
    refine ⟨.ref x, rfl, q H7 x (g7.drop hxH) hxH ⟨dx', _, nv', kv, dv, e7, Nat.le_trans l7 (by decide), ?_, ?_, ?_, lk', ?_, Dp.sub sA _ _ dn4, Dp.sub sA _ _ dkH, Dp.sub sA _ _ ddH⟩⟩
    · rw [lk (by decide), lk (by decide), lk (by decide)]
      exact n4
    · rw [lk (by decide), lk (by decide), lk']
    · rw [lk (by decide), lk']
    · rw [lk (by decide), lk (by decide), lk (by decide)]
      exact t4

/-! ### patch_of_parts -/
def spParts (K : PySem.W.Frag) (C : Addr) (T : Tp) : Sp := fun vs H Q _ => ∃ (nv : V) (kl dl : Addr) (kvs dvs : List V) (p : Pat), vs = [nv, .ref kl, .ref dl] ∧ Dp K H nv (eN p.name) ∧ SqL K H kl kvs ∧ DpAll K H kvs (p.knows.map eN) ∧ SqL K H dl dvs ∧ DpAll K H dvs (p.deeds.map eD) ∧ p.good ∧ TG T H ∧
  ∀ H' x, Go T D0 H H' → H x = none → Made K C H' x p → Q (.ref x) H'
theorem ok_parts {f C : Addr} {fd : FuncData} {k : Nat} (F : Fun K "patch_of_parts" "patch_of_parts" sPatchOfParts f fd) (M : Mg K mg) (cW : Cal P w K mg base k "_patch_with" ["name", "knows", "deeds", "many"] (spWith K C T)) (cM : Cal P w K mg base k "_many_put" ["name", "deeds"] (spManyP K T)) :
    FnOk P w K mg base CX0 (k + 1) f fd ["name", "knows", "deeds"] (spParts K C T) := by
  refine F.ok scPatchOfParts (fun vs H Q E h => ?_) (fun cdv A outer s H vs Q E hr h => ?_)
  · obtain ⟨nv, kl, dl, kvs, dvs, p, rfl, _⟩ := h
    rfl
  · obtain ⟨nv, kl, dl, kvs, dvs, p, rfl, dn, Sk, dks, Sd, dds, gd, tg, q⟩ := h
    refine ⟨_, (pss_one (ps_ret (pe_cal cW hr (by rfl) (pa_cons (pv 0) (pa_cons (pe_callTy call_tuple_of (by rfl) M.tuple_ (by decide +kernel) (pa_cons (pv 1) pa_nil)) (pa_cons (pe_callTy call_tuple_of (by rfl) M.tuple_ (by decide +kernel) (pa_cons (pv 2) pa_nil)) (pa_cons (pe_cal cM hr (by rfl) (pa_cons (pv 0) (pa_cons (pv 2) pa_nil))) pa_nil))))))), ?_⟩
    have toH : ∀ {H'}, Go T D0 H H' → Sub H H' := fun g => sub_go g tg
    have g0 : Go T D0 H H := Go.rfl' tg
    refine ⟨nv, rfl, .ref kl, rfl, kl, kvs, rfl, .inl ⟨Sk, fun kt hkt => ?_⟩⟩
    have g1 := g0.new (o := .tup kvs) hkt
    have k1 : (upd H kt (.tup kvs)) kt = some (.tup kvs) := upd_same
    generalize upd H kt (.tup kvs) = H1 at g1 k1 ⊢
    refine ⟨.ref dl, rfl, dl, dvs, rfl, .inl ⟨(toH g1).seqL Sd, fun dt hdt => ?_⟩⟩
    have g2 := g1.new (o := .tup dvs) hdt
    have k2 := (upd_ne (o := .tup dvs) (ne_of_none k1 hdt)).trans k1
    have d2 : (upd H1 dt (.tup dvs)) dt = some (.tup dvs) := upd_same
    generalize upd H1 dt (.tup dvs) = H2 at g2 k2 d2 ⊢
    refine ⟨nv, rfl, .ref dl, rfl, nv, dl, dvs, p.name, p.deeds, rfl, Dp.sub (toH g2) _ _ dn, gd.ok.name, (toH g2).seqL Sd, Dp.subs (toH g2) _ _ dds, fun d hd => ⟨gd.ok.deeds d hd, gd.fit d hd⟩, gd.own, g2.1, fun H3 g3 => ?_⟩
    have g03 := g2.trans g3
    have k3 := g3.at g2.1 (fun z => z) k2
    have d3 := g3.at g2.1 (fun z => z) d2
    exact ⟨nv, .ref kt, .ref dt, p, rfl, Dp.sub (toH g03) _ _ dn, gd.ok.name, .tup (.inl (.inl k3)) (Dp.subs (toH g03) _ _ dks), .tup (.inl (.inl d3)) (Dp.subs (toH g03) _ _ dds), g03.1, fun H4 x g4 hx md => q H4 x (g03.trans g4) (g03.free tg (fun z => z) hx) md⟩
end
end K1
set_option Elab.async false
set_option linter.all false
set_option maxRecDepth 100000
set_option maxHeartbeats 400000
/-! The program's defs: _words_at, _read_name: of good rows. -/
namespace K1
open PySem PySem.Spec PyProof.Rows L2
section
variable {P : Program} {w : World} {K : PySem.W.Frag} {mg : Str → Option Value} {base : Heap} {T : Tp}
/-- a list of texts, of moderate size -/
def RowsOk (rs : List Str) : Prop := rs.length ≤ 5000 ∧ ∀ r ∈ rs, r.length + 2 ≤ 1000000

/-! ### _words_at -/
def spWordsAt (K : PySem.W.Frag) (T : Tp) : Sp := fun vs H Q _ => ∃ (R : Addr) (rs : List Str) (i : Nat) (r : Str) (ws : List Str), vs = [.ref R, .int (i : Nat)] ∧ SqL K H R (rs.map V.str) ∧ RowsOk rs ∧ rs[i]? = some r ∧ wordsV (.str r) = some ws ∧ TG T H ∧
  ∀ H' p, Go T D0 H H' → H p = none → H' p = some (.lst (ws.map V.str)) → Q (.ref p) H'
theorem ok_wordsat {f : Addr} {fd : FuncData} {k : Nat} (F : Fun K "words_at" "words_at" sWordsAt f fd) (M : Mg K mg) (cW : Cal P w K mg base k "words_of" ["row"] (spWordsO K T)) : FnOk P w K mg base CX0 (k + 1) f fd ["rows", "at"] (spWordsAt K T) := by
  refine F.ok scWordsAt (fun vs H Q E h => ?_) (fun cdv A outer s H vs Q E hr h => ?_)
  · obtain ⟨R, rs, i, r, ws, rfl, _⟩ := h
    rfl
  · obtain ⟨R, rs, i, r, ws, rfl, S, ok, hr1, hw, tg, q⟩ := h
    refine ⟨_, (pss_cons (ps_if (pt_cmpR op_ge (pv 1) (pe_callB call_len_seq (by rfl) M.len_ PySem.boot_len (pa_cons (pv 0) pa_nil)) (nomark _))
      (pss_one ps_never)
      pss_nil)
      (pss_cons (ps_set (i := 2) scWordsAt.nd rfl (.inl rfl) (pe_cal cW hr (by rfl) (pa_cons (pe_ix (show IxR _ (rIxL K) from ix_list) (pv 0) (pv 1) (fun _ _ => rfl)) pa_nil)))
      (pss_cons (ps_if (pt_cmpR op_isN (pv 2) pe_non (nomark _))
      (pss_one ps_never)
      pss_nil)
      (pss_one (ps_ret (pv 2)))))), ?_⟩
    have hi : i < rs.length := (List.getElem?_eq_some_iff.mp hr1).1
    have sm := ok.2 r (List.mem_of_getElem? hr1)
    refine ⟨.int (i : Nat), rfl, .ref R, rfl, R, _, rfl, .inl S, _, _, rfl, rfl, _, rfl, ite2 (fun e => ?bad) (fun _ => ?_)⟩
    case bad =>
      have e1 := of_decide_eq_true e
      rw [List.length_map] at e1
      omega
    refine ⟨.ref R, rfl, .int (i : Nat), rfl, R, _, _, .str r, rfl, rfl, S, atI_nat (j := i) (by rw [List.getElem?_map, hr1]; rfl), ?_⟩
    refine ⟨.str r, "str", none, rfl, .str r (le_line sm), (fun x hx => by cases hx; exact sm), tg, (fun H1 _ hn => by rw [hw] at hn; cases hn), fun H1 p ws' g1 hp hws e1 => ?_⟩
    rw [hw] at hws
    cases hws
    refine ⟨.ref p, rfl, rfl, _, rfl, iteF ⟨.ref p, rfl, q H1 p g1 hp e1⟩⟩

/-! ### _read_name -/
def firstRow (n : Nm) : Str := "patch " ++ n.1 ++ " " ++ num n.2
def spReadName (K : PySem.W.Frag) (T : Tp) : Sp := fun vs H Q _ => ∃ (R : Addr) (rs : List Str) (i : Nat) (n : Nm), vs = [.ref R, .int (i : Nat)] ∧ SqL K H R (rs.map V.str) ∧ RowsOk rs ∧ rs[i]? = some (firstRow n) ∧ NmOk n ∧ TG T H ∧
  ∀ H' v, Go T D0 H H' → Dp K H' v (eN n) → Q v H'
theorem ok_readname {f : Addr} {fd : FuncData} {k : Nat} (F : Fun K "read_name" "read_name" sReadName f fd) (M : Mg K mg) (cW : Cal P w K mg base k "words_at" ["rows", "at"] (spWordsAt K T)) (cH : Cal P w K mg base k "is_hand" ["thing"] (spHand K T))
    (cU : Cal P w K mg base k "number_of" ["word"] (spNumO K T)) (cN : Cal P w K mg base k "is_name" ["thing"] (spName K T)) : FnOk P w K mg base CX0 (k + 1) f fd ["rows", "at"] (spReadName K T) := by
  refine F.ok scReadName (fun vs H Q E h => ?_) (fun cdv A outer s H vs Q E hr h => ?_)
  · obtain ⟨R, rs, i, n, rfl, _⟩ := h
    rfl
  · obtain ⟨R, rs, i, n, rfl, S, ok, hr1, on_, tg, q⟩ := h
    refine ⟨_, (pss_cons (ps_set (i := 2) scReadName.nd rfl (.inl rfl) (pe_cal cW hr (by rfl) (pa_cons (pv 0) (pa_cons (pv 1) pa_nil))))
      (pss_cons (ps_if (pt_cmpR op_ne (pe_ix (show IxR _ (rIxL K) from ix_list) (pv 2) pe_int (fun _ _ => rfl)) pe_str (nomark _))
      (pss_one ps_never)
      pss_nil)
      (pss_cons (ps_if (PW.pt (pw_or (pt_cmpR op_lt (pe_callB call_len_seq (by rfl) M.len_ PySem.boot_len (pa_cons (pv 2) pa_nil)) pe_int (nomark _)) (pw_or1 (pt_not (pt_val (pe_cal cH hr (by rfl) (pa_cons (pe_ix (show IxR _ (rIxL K) from ix_list) (pv 2) pe_int (fun _ _ => rfl)) pa_nil)))))))
      (pss_one ps_never)
      pss_nil)
      (pss_cons (ps_set (i := 3) scReadName.nd rfl (.inl rfl) (pe_tup (pa_cons (pe_ix (show IxR _ (rIxL K) from ix_list) (pv 2) pe_int (fun _ _ => rfl)) (pa_cons (pe_ifExp (pt_cmpR op_gt (pe_callB call_len_seq (by rfl) M.len_ PySem.boot_len (pa_cons (pv 2) pa_nil)) pe_int (nomark _)) (pe_cal cU hr (by rfl) (pa_cons (pe_ix (show IxR _ (rIxL K) from ix_list) (pv 2) pe_int (fun _ _ => rfl)) pa_nil)) pe_non) pa_nil))))
      (pss_cons (ps_if (pt_not (pt_val (pe_cal cN hr (by rfl) (pa_cons (pv 3) pa_nil))))
      (pss_one ps_never)
      pss_nil)
      (pss_cons (ps_if (pt_cmpR op_gt (pe_callB call_len_seq (by rfl) M.len_ PySem.boot_len (pa_cons (pv 2) pa_nil)) pe_int (nomark _))
      (pss_one ps_never)
      pss_nil)
      (pss_one (ps_ret (pv 3))))))))), ?_⟩
    refine ⟨.ref R, rfl, .int (i : Nat), rfl, R, rs, i, firstRow n, _, rfl, S, ok, hr1, first_words on_, tg, fun H1 p g1 hp e1 => ?_⟩
    have S1 : SqL K H1 p [V.str "patch", .str n.1, .str (num n.2)] := .inl (.inl e1)
    refine ⟨.ref p, rfl, p, _, 0, .str "patch", rfl, rfl, S1, atI_nat (j := 0) rfl, rfl, _, rfl, iteFd ?_⟩
    refine ⟨.ref p, rfl, p, _, rfl, .inl S1, _, _, rfl, rfl, _, rfl, iteFd (e := (by decide : decide ((3 : Int) < 2) = false)) ?_⟩
    have h8 := (handOk on_.1).2
    refine ⟨.ref p, rfl, p, _, 1, .str n.1, rfl, rfl, S1, atI_nat (j := 1) rfl, .str n.1, "str", none, rfl, .str n.1 (small_le (by omega)), g1.1, fun H2 g2 => ⟨_, rfl, ?_⟩⟩
    rw [on_.1]
    refine iteF ?_
    have S2 := g2.seqL g1.1 (fun _ _ z => z) S1
    have g02 := g1.trans g2
    refine ⟨.ref p, rfl, p, _, 1, .str n.1, rfl, rfl, S2, atI_nat (j := 1) rfl, .ref p, rfl, p, _, rfl, .inl S2, _, _, rfl, rfl, _, rfl, iteTd (e := (by decide : decide ((2 : Int) < 3) = true)) ?_⟩
    have nlen := len_num (i := n.2) (Int.le_trans (by decide) on_.2.1) (Int.lt_of_le_of_lt on_.2.2 (by decide))
    refine ⟨.ref p, rfl, p, _, 2, .str (num n.2), rfl, rfl, S2, atI_nat (j := 2) rfl, .str (num n.2), "str", none, rfl, .str _ (small_le (Nat.le_trans nlen (by decide))), g02.1, fun H3 g3 => ?_⟩
    rw [numV_num on_.2.1 (Int.lt_of_le_of_lt on_.2.2 (by decide))]
    have g03 := g02.trans g3
    refine ⟨small_le (by show 2 ≤ 10000; decide), fun t ht => ?_⟩
    have S3 := g3.seqL g02.1 (fun _ _ z => z) S2
    have S4 := (Sub.new (o := .tup [V.str n.1, .int n.2]) ht).seqL S3
    have g4 := g03.new (o := .tup [V.str n.1, .int n.2]) ht
    have et : (upd H3 t (.tup [V.str n.1, .int n.2])) t = some (.tup [V.str n.1, .int n.2]) := upd_same
    generalize upd H3 t (.tup [V.str n.1, .int n.2]) = H4 at g4 et S4 ⊢
    have dt : Dp K H4 (.ref t) (eN n) := .tup (.inl (.inl et)) (.cons (.str _) (.one (.int _)))
    have th := nm_th dt (by omega)
    refine ⟨.ref t, rfl, .ref t, "tuple", _, rfl, th.1, th.2, g4.1, fun H5 g5 => ⟨_, rfl, ?_⟩⟩
    rw [on_.v]
    refine iteF ?_
    have g05 := g4.trans g5
    have e5 := g5.seqL g4.1 (fun _ _ z => z) S4
    exact ⟨.ref p, rfl, p, _, rfl, .inl e5, _, _, rfl, rfl, _, rfl, iteFd (e := (by decide : decide ((3 : Int) < 3) = false)) ⟨.ref t, rfl, q H5 (.ref t) g05 (Dp.sub (sub_go g5 g4.1) _ _ dt)⟩⟩
end
end K1
set_option Elab.async false
set_option linter.all false
set_option maxRecDepth 100000
set_option maxHeartbeats 400000
/-! The program's def _read_known: of good rows. -/
namespace K1
open PySem PySem.Spec PyProof.Rows L2
theorem cut_tail (x : V) (xs : List V) : cutV (x :: xs) (some 1) none = xs := by
  unfold cutV
  have e1 : HT.sIx (x :: xs).length 0 (some 1) = 1 := by
    rw [show HT.sIx (x :: xs).length 0 (some (1 : Int)) = min 1 (x :: xs).length from HT.sIx_nat _ 0 1, List.length_cons]
    omega
  rw [e1, HT.sIx_none, List.drop_one, List.tail_cons, List.length_cons]
  exact List.take_of_length_le (by omega)
theorem at_last (xs : List V) (x : V) : atI (xs ++ [x]) (-1) = some x := by
  unfold atI ixN
  rw [if_neg (by decide), List.length_append, if_pos (by show -(((xs.length + 1 : Nat)) : Int) ≤ -1; omega)]
  show (xs ++ [x])[((-1 : Int) + ((xs.length + 1 : Nat) : Int)).toNat]? = some x
  rw [show ((-1 : Int) + ((xs.length + 1 : Nat) : Int)).toNat = xs.length by omega]
  simp
theorem sqT_cut {K : PySem.W.Frag} {H : Hp} {t D : Addr} {xs ys : List V} (h : SqT K H t xs) (e : H D = some (.lst ys)) : SqT K (cut (plus C0 D) H) t xs := by
  have ne : ∀ {o}, H t = some o → (∀ zs, o ≠ .lst zs) → plus C0 D t = false := fun h1 h2 => by
    have : t ≠ D := fun z => by
      rw [z, e] at h1
      exact h2 _ (Option.some.inj h1).symm
    simp [plus, this]
  rcases h with (h | ⟨o, h⟩) | h
  · exact .inl (.inl ((cut_at (ne h (fun zs z => by cases z))).trans h))
  · exact .inl (.inr ⟨o, (cut_at (ne h (fun zs z => by cases z))).trans h⟩)
  · exact .inr h
section
variable {P : Program} {w : World} {K : PySem.W.Frag} {mg : Str → Option Value} {base : Heap} {T : Tp}
/-! ### _read_known -/
def secondRow (ns : List Nm) : Str := Txt.join " " ("knows" :: knownWords ns)
def spReadKnown (K : PySem.W.Frag) (T : Tp) : Sp := fun vs H Q _ => ∃ (R : Addr) (rs : List Str) (i : Nat) (nv : V) (n : Nm) (ns : List Nm), vs = [.ref R, .int (i : Nat), nv] ∧ SqL K H R (rs.map V.str) ∧ RowsOk rs ∧ rs[i]? = some (secondRow ns) ∧ Dp K H nv (eN n) ∧ NmOk n ∧
  (∀ m ∈ ns, NmOk m) ∧ ns.Pairwise (fun a b => nmLt a b = true) ∧ n ∉ ns ∧ ns.length ≤ 1000 ∧ TG T H ∧ ∀ H' l kvs, Go T D0 H H' → H l = none → H' l = some (.lst kvs) → DpAll K H' kvs (ns.map eN) → Q (.ref l) H'
theorem ok_readknown {f : Addr} {fd : FuncData} {k : Nat} (F : Fun K "read_known" "read_known" sReadKnown f fd) (M : Mg K mg) (cW : Cal P w K mg base k "words_at" ["rows", "at"] (spWordsAt K T)) (cO : Cal P w K mg base k "name_of" ["word"] (spNameO K T)) :
    FnOk P w K mg base CX0 (k + 1) f fd ["rows", "at", "own"] (spReadKnown K T) := by
  refine F.ok scReadKnown (fun vs H Q E h => ?_) (fun cdv A outer s H vs Q E hr h => ?_)
  · obtain ⟨R, rs, i, nv, n, ns, rfl, _⟩ := h
    rfl
  · obtain ⟨R, rs, i, nv, n, ns, rfl, S, ok, hr1, dn, on_, okn, asc, nin, nl, tg, q⟩ := h
    refine ⟨_, (pss_cons (ps_set (i := 3) scReadKnown.nd rfl (.inl rfl) (pe_cal cW hr (by rfl) (pa_cons (pv 0) (pa_cons (pv 1) pa_nil))))
      (pss_cons (ps_if (pt_cmpR op_ne (pe_ix (show IxR _ (rIxL K) from ix_list) (pv 3) pe_int (fun _ _ => rfl)) pe_str (nomark _))
      (pss_one ps_never)
      pss_nil)
      (pss_cons (ps_if (pt_cmpR op_lt (pe_callB call_len_seq (by rfl) M.len_ PySem.boot_len (pa_cons (pv 3) pa_nil)) pe_int (nomark _))
      (pss_one ps_never)
      pss_nil)
      (pss_cons (ps_if (pt_cmpR op_eq (pe_ix (show IxR _ (rIxL K) from ix_list) (pv 3) pe_int (fun _ _ => rfl)) pe_str (nomark _))
      (pss_cons (ps_if (pt_cmpR op_gt (pe_callB call_len_seq (by rfl) M.len_ PySem.boot_len (pa_cons (pv 3) pa_nil)) pe_int (nomark _))
      (pss_one ps_never)
      pss_nil)
      (pss_one (ps_ret (pe_lst pa_nil))))
      pss_nil)
      (pss_cons (ps_set (i := 4) scReadKnown.nd rfl (.inl rfl) (pe_lst pa_nil))
      (pss_cons (ps_for PassesOwn.never rfl (pi_enumK 2 (by decide) (by rfl) M.enum_ (pa_cons (pe_slice sl_list (pv 3) (po_some pe_int) po_none) pa_nil)) (pg_tup rfl (pgs_cons (pg_name (i := 5) scReadKnown.nd rfl (.inl rfl)) (pgs_cons (pg_name (i := 6) scReadKnown.nd rfl (.inl rfl)) pgs_nil)))
      (pss_cons (ps_set (i := 7) scReadKnown.nd rfl (.inl rfl) (pe_cal cO hr (by rfl) (pa_cons (pv 6) pa_nil)))
      (pss_cons (ps_if (PW.pt (pw_or (pt_cmpR op_isN (pv 7) pe_non (nomark _)) (pw_or (pt_cmpR (op_eqD hr.units) (pv 7) (pv 2) (nomark _)) (pw_or1 (PW.pt (pw_and (pt_truth (pv 4) (fun _ => rfl)) (pw_and1 (pt_cmpR (op_leD hr.units) (pv 7) (pe_ix (show IxR _ (rIxL K) from ix_list) (pv 4) (pe_un un_neg pe_int) (fun _ _ => rfl)) (nomark _)))))))))
      (pss_one ps_never)
      pss_nil)
      (pss_one (ps_expr (pe_bm PySem.F.plainAttrs_list PySem.F.slot_list_append PySem.F.type_list_append mt_append (pv 4) (pa_cons (pv 7) pa_nil)))))))
      (pss_one (ps_ret (pv 4))))))))), ?_⟩
    have toH : ∀ {H'}, Go T D0 H H' → Sub H H' := fun g => sub_go g tg
    refine ⟨.ref R, rfl, .int (i : Nat), rfl, R, rs, i, secondRow ns, _, rfl, S, ok, hr1, second_words okn, tg, fun H1 p g1 hp e1 => ?_⟩
    have S1 : SqL K H1 p (V.str "knows" :: (knownWords ns).map V.str) := .inl (.inl e1)
    refine ⟨.ref p, rfl, p, _, 0, .str "knows", rfl, rfl, S1, atI_nat (j := 0) rfl, rfl, _, rfl, iteFd ?_⟩
    refine ⟨.ref p, rfl, p, _, rfl, .inl S1, _, _, rfl, rfl, _, rfl, ite2 (fun e => ?bad) (fun _ => ?_)⟩
    case bad =>
      have e2 := of_decide_eq_true e
      have : 1 ≤ (knownWords ns).length := by
        unfold knownWords
        split
        · exact Nat.le_refl 1
        · rename_i h
          rw [List.length_map]
          exact List.length_pos_iff.mpr h
      rw [List.length_cons, List.length_map] at e2
      omega
    by_cases hns : ns = []
    · have kw : knownWords ns = (["none"] : List Str) := by rw [hns]; rfl
      rw [kw] at S1
      refine ⟨.ref p, rfl, p, _, 1, .str "none", rfl, rfl, S1, atI_nat (j := 1) rfl, rfl, _, rfl, iteTd ?_⟩
      refine ⟨.ref p, rfl, p, _, rfl, .inl S1, _, _, rfl, rfl, _, rfl, iteFd (e := (by decide : decide ((2 : Int) < 2) = false)) ⟨Nat.zero_le _, fun l hl => ?_⟩⟩
      refine q _ l [] (g1.new hl) (g1.free tg (fun z => z) hl) upd_same ?_
      rw [hns]
      exact .nil
    · have kw : knownWords ns = ns.map nmTxt := by
        unfold knownWords
        rw [if_neg hns]
      rw [kw] at S1
      have kl : ((ns.map nmTxt).map V.str).length = ns.length := by rw [List.length_map, List.length_map]
      have hd : ∃ x r, (ns.map nmTxt).map V.str = V.str x :: r ∧ x ≠ "none" := by
        cases ns with
        | nil => exact absurd rfl hns
        | cons m r =>
          refine ⟨nmTxt m, _, rfl, fun z => ?_⟩
          have dot : (46 : Nat) ∈ TL.tl (nmTxt m) := by
            unfold nmTxt
            simp only [TL.tl_append, sepDot.tl]
            simp
          rw [z] at dot
          revert dot
          decide +kernel
      obtain ⟨x0, r0, e0, x0n⟩ := hd
      refine ⟨.ref p, rfl, p, _, 1, .str x0, rfl, rfl, S1, atI_nat (j := 1) (by rw [e0]; rfl), rfl, _, rfl, ite2 (fun e => absurd (V.str.inj (of_decide_eq_true e)) x0n) (fun _ => ?_)⟩
      refine ⟨Nat.zero_le _, fun D hD => ?_⟩
      have g2 := g1.new (o := .lst []) hD
      have e2 := (upd_ne (o := .lst []) (ne_of_none e1 hD)).trans e1
      have D2 : (upd H1 D (.lst [])) D = some (.lst []) := upd_same
      have fD : H D = none := g1.free tg (fun z => z) hD
      generalize upd H1 D (.lst []) = H2 at g2 e2 D2 ⊢
      rw [kw] at e2
      refine ⟨.ref p, rfl, 1, rfl, p, _, rfl, .inl (.inl e2), fun Wl hWl => ?_⟩
      rw [show (("knows" :: ns.map nmTxt : List Str)).map V.str = V.str "knows" :: (ns.map nmTxt).map V.str from rfl, cut_tail]
      have g3 := g2.new (o := .lst ((ns.map nmTxt).map V.str)) hWl
      have D3 := (upd_ne (o := .lst ((ns.map nmTxt).map V.str)) (ne_of_none D2 hWl)).trans D2
      have W3 : (upd H2 Wl (.lst ((ns.map nmTxt).map V.str))) Wl = some (.lst ((ns.map nmTxt).map V.str)) := upd_same
      have nWD : Wl ≠ D := fun z => ne_of_none D2 hWl z.symm
      generalize upd H2 Wl (.lst ((ns.map nmTxt).map V.str)) = H3 at g3 D3 W3 ⊢
      refine ⟨Wl, _, rfl, .inl (.inl W3), ?_⟩
      refine for_it (walk_enumK (K := K) (a := Wl) (xs := (ns.map nmTxt).map V.str) (k := 2)) (fun j σ H5 => ∃ (acc : List V) (y1 y2 y3 : Option V), σ = [some (.ref R), some (.int (i : Nat)), some nv, some (.ref p), some (.ref D), y1, y2, y3] ∧ Go T D0 H H5 ∧ H5 Wl = some (.lst ((ns.map nmTxt).map V.str)) ∧ H5 D = some (.lst acc) ∧
        acc.length = j ∧ DpAll K (cut (plus C0 D) H5) acc ((ns.take j).map eN)) ?_ ?_ ?_ ?_
      · exact ⟨[], _, _, _, rfl, g3, W3, D3, rfl, .nil⟩
      · rintro j σ H5 hj ⟨acc, y1, y2, y3, rfl, g5, W5, _⟩
        exact .inl (.inl W5)
      · rintro j x σ H5 H5' hj ⟨acc, y1, y2, y3, rfl, g5, W5, D5, al, da⟩ ⟨T', x', y', rfl, hT, rfl, hx', hy'⟩
        cases hx'
        have hy' : ((ns.map nmTxt).map V.str)[j]? = some y' := hy'
        rw [List.getElem?_map, List.getElem?_map] at hy'
        cases hm : ns[j]? with
        | none => rw [hm] at hy'; cases hy'
        | some m =>
          rw [hm] at hy'
          cases hy'
          have okm := okn m (List.mem_of_getElem? hm)
          have g6 := g5.new (o := .tup [V.int ((2 + j : Nat)), .str (nmTxt m)]) hT
          have W6 := (upd_ne (o := .tup [V.int ((2 + j : Nat)), .str (nmTxt m)]) (ne_of_none W5 hT)).trans W5
          have D6 := (upd_ne (o := .tup [V.int ((2 + j : Nat)), .str (nmTxt m)]) (ne_of_none D5 hT)).trans D5
          have da6 := Dp.subs (Sub.new (o := .tup [V.int ((2 + j : Nat)), .str (nmTxt m)]) hT).cuts _ _ da
          refine ⟨T', _, rfl, .inl (.inl upd_same), rfl, _, _, rfl, _, _, rfl, rfl, ?_⟩
          generalize upd H5 T' (.tup [V.int ((2 + j : Nat)), .str (nmTxt m)]) = H6 at g6 W6 D6 da6 ⊢
          have nlen := (handOk okm.1).2
          have nl2 := len_num (i := m.2) (Int.le_trans (by decide) okm.2.1) (Int.lt_of_le_of_lt okm.2.2 (by decide))
          have tlen : (nmTxt m).length ≤ 30 := by
            have dot : ("." : Str).length = 1 := by decide +kernel
            show (m.1 ++ "." ++ Str.ofString (toString m.2) : Str).length ≤ 30
            simp only [len_app, dot]
            omega
          have nb : nameV (.str (nmTxt m)) = some [.str m.1, .int m.2] := nameS_back okm
          refine ⟨.str (nmTxt m), rfl, .str (nmTxt m), "str", none, rfl, .str _ (small_le (by omega)), (fun x hx => by cases hx; omega), g6.1, (fun H7 _ hn => by rw [nb] at hn; cases hn), fun H7 t xs g7 hxs St => ?_⟩
          rw [nb] at hxs
          cases hxs
          have g07 := g6.trans g7
          have W7 := g7.at g6.1 (fun z => z) W6
          have D7 := g7.at g6.1 (fun z => z) D6
          have da7 := Dp.subs (sub_go g7 g6.1).cuts _ _ da6
          have dm : Dp K H7 (.ref t) (eN m) := .tup St (.cons (.str _) (.one (.int _)))
          have dmc : Dp K (cut (plus C0 D) H7) (.ref t) (eN m) := .tup (sqT_cut St D7) (.cons (.str _) (.one (.int _)))
          have fin : ∃ (acc' : List V) (y1 y2 y3 : Option V), [some (.ref R), some (.int (i : Nat)), some nv, some (.ref p), some (.ref D), some (V.int ((2 + j : Nat))), some (V.str (nmTxt m)), some (.ref t)] = [some (.ref R), some (.int (i : Nat)), some nv, some (.ref p), some (.ref D), y1, y2, y3] ∧ Go T D0 H (upd H7 D (.lst (acc ++ [.ref t]))) ∧
              (upd H7 D (.lst (acc ++ [.ref t]))) Wl = some (.lst ((ns.map nmTxt).map V.str)) ∧ (upd H7 D (.lst (acc ++ [.ref t]))) D = some (.lst acc') ∧ acc'.length = j + 1 ∧ DpAll K (cut (plus C0 D) (upd H7 D (.lst (acc ++ [.ref t])))) acc' ((ns.take (j + 1)).map eN) := by
            refine ⟨acc ++ [.ref t], _, _, _, rfl, g07.put fD D7, (upd_ne nWD).trans W7, upd_same, by rw [List.length_append, al]; rfl, ?_⟩
            rw [cut_out plus_D, List.take_add_one, hm, List.map_append]
            exact da7.app (.one dmc)
          have jn : j < ns.length := (List.getElem?_eq_some_iff.mp hm).1
          refine ⟨.ref t, rfl, rfl, _, rfl, iteF ⟨.ref t, rfl, nv, rfl, _, _, dm, Dp.sub (toH g07) _ _ dn, okm.sh, on_.sh, _, rfl, ?_⟩⟩
          rw [eN_eqv, decide_eq_false (show ¬ m = n from fun z => nin (z ▸ List.mem_of_getElem? hm))]
          refine iteF ⟨.ref D, rfl, !acc.isEmpty, .inl ⟨acc, .inl (.inl D7), rfl⟩, ite2 (fun e => ?more) (fun e => ?none)⟩
          case none => exact ⟨.ref D, rfl, .inl ⟨rfl, _, .inl (.inl D7)⟩, .ref t, rfl, D, acc, .ref t, rfl, rfl, D7, small_line (by omega), fin⟩
          case more =>
            have nem : acc ≠ [] := fun z => by
              rw [z] at e
              cases e
            obtain ⟨acc0, xl, hacc⟩ : ∃ a x, acc = a ++ [x] := ⟨acc.dropLast, acc.getLast nem, (List.dropLast_concat_getLast nem).symm⟩
            have hj' : j = acc0.length + 1 := by rw [← al, hacc, List.length_append]; rfl
            have hxl : acc[acc0.length]? = some xl := by rw [hacc, List.getElem?_append_right (Nat.le_refl _), Nat.sub_self]; rfl
            obtain ⟨d0, hd0, dx⟩ := DpAll.at' da7 hxl
            rw [List.getElem?_map, List.getElem?_take_of_lt (by omega)] at hd0
            have hl : acc0.length < ns.length := by omega
            rw [List.getElem?_eq_getElem hl] at hd0
            cases hd0
            have lt : nmLt ns[acc0.length] m = true := by
              have h2 := (List.getElem?_eq_some_iff.mp hm).2
              have := List.pairwise_iff_getElem.mp asc acc0.length j hl jn (by omega)
              rw [h2] at this
              exact this
            refine ⟨.ref t, rfl, .ref D, rfl, (1 : Int), rfl, D, acc, (-1), xl, rfl, rfl, .inl (.inl D7), by rw [hacc]; exact at_last _ _, _, _, dm, Dp.sub Sub.cut _ _ dx, eN_alike _ _, (by unfold eN; intro z; cases z), by rw [eN_dep]; decide, _, rfl, ?_⟩
            rw [show PySem.W.dataLt (eN ns[acc0.length]) (eN m) = true from lt]
            exact iteF ⟨.ref D, rfl, .inl ⟨rfl, _, .inl (.inl D7)⟩, .ref t, rfl, D, acc, .ref t, rfl, rfl, D7, small_line (by omega), fin⟩
      · rintro σ H5 ⟨acc, y1, y2, y3, rfl, g5, W5, D5, al, da⟩
        rw [kl, List.take_length] at da
        exact ⟨.ref D, rfl, q H5 D acc g5 fD D5 (Dp.subs Sub.cut _ _ da)⟩
end
end K1
set_option Elab.async false
set_option linter.all false
set_option maxRecDepth 100000
set_option maxHeartbeats 400000
/-! The program's def _lines_told: of good rows. -/
namespace K1
open PySem PySem.Spec PyProof.Rows L2
theorem cut_mid (x : V) (xs : List V) : cutV (x :: xs) (some 1) (some (((xs.length : Nat) : Int) + 1)) = xs := by
  unfold cutV
  have e1 : HT.sIx (x :: xs).length 0 (some 1) = 1 := by
    rw [show HT.sIx (x :: xs).length 0 (some (1 : Int)) = min 1 (x :: xs).length from HT.sIx_nat _ 0 1, List.length_cons]
    omega
  have e2 : HT.sIx (x :: xs).length (x :: xs).length (some (((xs.length : Nat) : Int) + 1)) = xs.length + 1 := by
    rw [show ((xs.length : Nat) : Int) + 1 = ((xs.length + 1 : Nat) : Int) by omega, HT.sIx_nat, List.length_cons]
    omega
  rw [e1, e2, List.drop_one, List.tail_cons, Nat.add_sub_cancel, List.take_length]
theorem lnTxt_inj {l m : Ln} (hl : EdOk l) (sl : l.2.2 < 1000000) (hm : EdOk m) (sm : m.2.2 < 1000000) (e : lnTxt l = lnTxt m) : l = m := by
  have h1 := lineS_back hl sl
  have h2 := lineS_back hm sm
  rw [e, h2] at h1
  obtain ⟨a, b, c⟩ := l
  obtain ⟨a', b', c'⟩ := m
  simp only [Option.some.injEq, List.cons.injEq, V.str.injEq, V.int.injEq, and_true] at h1
  obtain ⟨rfl, rfl, rfl⟩ := h1
  rfl
theorem LnOk.noend {l : Ln} (h : LnOk l) : endL (some [.str l.1, .int l.2.1, .int l.2.2]) = false := by
  show ((decide (V.str l.1 = .str "") && _) && _) = false
  rw [decide_eq_false (show ¬ V.str l.1 = .str "" from fun z => hand_ne h.1.1 (V.str.inj z)), Bool.false_and, Bool.false_and]
theorem put_or {d : Deed} (h : d.ok) : ∀ l ∈ d.lines, LnOk l ∨ d.kind = "put" := by
  cases d with
  | put => exact fun _ _ => .inr rfl
  | order a b =>
    intro l hl
    rcases List.mem_cons.mp hl with rfl | hl
    · exact .inl h.1
    · rw [List.mem_singleton.mp hl]
      exact .inl h.2
  | one k a =>
    intro l hl
    rw [List.mem_singleton.mp hl]
    exact .inl h
theorem sub_new {G H : Hp} {L : Addr} (hs : Sub G H) (n : G L = none) : Sub G (cut (plus C0 L) H) := fun a o e k => by
  have ne : a ≠ L := fun z => by rw [z, n] at e; cases e
  rw [cut_at (by simp [plus, ne])]
  exact hs a o e k
theorem room1 {k : Nat} {A : Around} (r : Room k A) : A.units + 1 < cLine := by have := r.un; omega
theorem sub_put {H : Hp} {p : Addr} {kvs : List (Key × V)} {o : HO} (e : H p = some (.dK kvs)) : Sub H (upd H p o) := fun a u hu hk => by
  have ne : a ≠ p := fun z => by
    rw [z, e] at hu
    cases hu
    obtain ⟨xs, h | h | ⟨u, h | h⟩⟩ := hk <;> cases h
  rw [upd_ne ne]
  exact hu
/-- the table of the kinds of deeds -/
structure LinesM (K : PySem.W.Frag) (w : World) (mg : Str → Option Value) (a : Addr) : Prop where
  at_ : mg "LINES_OF" = some (.ref a)
  dict : ∃ es n, KDict K w a es n
  many : ∀ d : Deed, KDct K w a d.kind (.int (d.lines.length : Nat))
  no : PySem.W.nsIn K a "patch" = some none
/-- what the words told so far -/
def KnOk (K : PySem.W.Frag) (G : Hp) (kvs : List (Key × V)) : Prop := ∀ k v, valV kvs k = some v → ∃ l, k = .inr (lnTxt l) ∧ EdOk l ∧ l.2.2 < 1000000 ∧ Dp K G v (eL l)
theorem KnOk.sub {K : PySem.W.Frag} {G G' : Hp} {kvs : List (Key × V)} (h : KnOk K G kvs) (s : Sub G G') : KnOk K G' kvs := fun k v e => by
  obtain ⟨l, h1, h2, h3, h4⟩ := h k v e
  exact ⟨l, h1, h2, h3, Dp.sub s _ _ h4⟩
section
variable {P : Program} {w : World} {K : PySem.W.Frag} {mg : Str → Option Value} {base : Heap} {T : Tp}
def deedWords (d : Deed) : List Str := d.kind :: d.lines.map lnTxt
/-! ### _lines_told -/
def spLinesTold (K : PySem.W.Frag) (T : Tp) : Sp := fun vs H Q _ => ∃ (W kd : Addr) (at_ : V) (d : Deed) (kvs : List (Key × V)), vs = [.ref W, at_, .ref kd] ∧ SqL K H W ((deedWords d).map V.str) ∧ d.ok ∧ (∀ l ∈ d.lines, l.2.2 < 1000000) ∧ H kd = some (.dK kvs) ∧ KnOk K H kvs ∧
  kvs.length ≤ 9000 ∧ TG T H ∧ ∀ H' l lvs kvs', Go T (· = kd) H H' → H l = none → H' l = some (.lst lvs) → H' kd = some (.dK kvs') → KnOk K H' kvs' → kvs'.length ≤ kvs.length + 2 → DpAll K H' lvs (d.lines.map eL) → Q (.ref l) H'
theorem ok_linestold {f LA : Addr} {fd : FuncData} {k : Nat} (F : Fun K "lines_told" "lines_told" sLinesTold f fd) (M : Mg K mg) (LM : LinesM K w mg LA) (cL : Cal P w K mg base k "line_of" ["word"] (spLineO K T)) (cE : Cal P w K mg base k "is_end" ["thing"] (spEnd K)) :
    FnOk P w K mg base CX0 (k + 1) f fd ["words", "at", "known"] (spLinesTold K T) := by
  refine F.ok scLinesTold (fun vs H Q E h => ?_) (fun cdv A outer s H vs Q E hr h => ?_)
  · obtain ⟨W, kd, at_, d, kvs, rfl, _⟩ := h
    rfl
  · obtain ⟨W, kd, at_, d, kvs0, rfl, S, ok, sml, ek, kn, kl, tg, q⟩ := h
    refine ⟨_, (pss_cons (ps_set (i := 3) scLinesTold.nd rfl (.inl rfl) (pe_ix ix_kdict (pe_glob (v := .ref LA) (by rfl) LM.at_ rfl) (pe_ix (show IxR _ (rIxL K) from ix_list) (pv 0) pe_int (fun _ _ => rfl)) (fun _ _ => rfl)))
      (pss_cons (ps_set (i := 4) scLinesTold.nd rfl (.inl rfl) (pe_lst pa_nil))
      (pss_cons (ps_for PassesOwn.never rfl (pi_enumK 1 (by decide) (by rfl) M.enum_ (pa_cons (pe_slice sl_list (pv 0) (po_some pe_int) (po_some (pe_op op_add (pv 3) pe_int))) pa_nil)) (pg_tup rfl (pgs_cons (pg_name (i := 5) scLinesTold.nd rfl (.inl rfl)) (pgs_cons (pg_name (i := 6) scLinesTold.nd rfl (.inl rfl)) pgs_nil)))
      (pss_cons (ps_if (pt_cmp (pc_dnotin (room1 hr) (pv 6) (pv 2)) (by rfl))
      (pss_one (ps_dput (room1 hr) (pv 2) (pv 6) (pe_cal cL hr (by rfl) (pa_cons (pv 6) pa_nil)) (by rfl)))
      pss_nil)
      (pss_cons (ps_set (i := 7) scLinesTold.nd rfl (.inl rfl) (pe_dget (room1 hr) (pv 2) (pv 6) (fun _ _ => rfl)))
      (pss_cons (ps_if (PW.pt (pw_or (pt_cmpR op_isN (pv 7) pe_non (nomark _)) (pw_or1 (PW.pt (pw_and (pt_val (pe_cal cE hr (by rfl) (pa_cons (pv 7) pa_nil))) (pw_and1 (pt_cmpR op_ne (pe_ix (show IxR _ (rIxL K) from ix_list) (pv 0) pe_int (fun _ _ => rfl)) pe_str (nomark _))))))))
      (pss_one ps_never)
      pss_nil)
      (pss_one (ps_expr (pe_bm PySem.F.plainAttrs_list PySem.F.slot_list_append PySem.F.type_list_append mt_append (pv 4) (pa_cons (pv 7) pa_nil))))))))
      (pss_cons (ps_if (pt_cmpR op_ne (pe_callB call_len_seq (by rfl) M.len_ PySem.boot_len (pa_cons (pv 0) pa_nil)) (pe_op op_add (pv 3) pe_int) (nomark _))
      (pss_one ps_never)
      pss_nil)
      (pss_one (ps_ret (pv 4))))))), ?_⟩
    have toH : ∀ {H'}, Go T (· = kd) H H' → Sub H H' := fun g => sub_god g tg ek
    have k2 : d.lines.length ≤ 2 := lines_len d
    have xl : ((d.lines.map lnTxt).map V.str).length = d.lines.length := by rw [List.length_map, List.length_map]
    refine ⟨.ref W, rfl, W, _, 0, .str d.kind, rfl, rfl, S, atI_nat (j := 0) rfl, LA, d.kind, _, rfl, rfl, LM.many d, Nat.zero_le _, fun L hL => ?_⟩
    have g1 : Go T (· = kd) H (upd H L (.lst [])) := ((Go.rfl' tg).new (o := .lst []) hL)
    have L1 : (upd H L (.lst [])) L = some (.lst []) := upd_same
    have k1 := (upd_ne (o := .lst []) (ne_of_none ek hL)).trans ek
    have kn1 : KnOk K (cut (plus C0 L) (upd H L (.lst []))) kvs0 := kn.sub (sub_new (Sub.new hL) hL)
    have nLk : kd ≠ L := ne_of_none ek hL
    generalize upd H L (.lst []) = H1 at g1 L1 k1 kn1 ⊢
    refine ⟨.ref W, rfl, 1, rfl, .int (d.lines.length : Nat), rfl, _, _, rfl, rfl, _, rfl, W, _, rfl, (toH g1).seqL S, fun Wl hWl => ?_⟩
    rw [← xl, show (deedWords d).map V.str = V.str d.kind :: (d.lines.map lnTxt).map V.str from rfl, cut_mid]
    have g2 := g1.new (o := .lst ((d.lines.map lnTxt).map V.str)) hWl
    have L2 := (upd_ne (o := .lst ((d.lines.map lnTxt).map V.str)) (ne_of_none L1 hWl)).trans L1
    have k2' := (upd_ne (o := .lst ((d.lines.map lnTxt).map V.str)) (ne_of_none k1 hWl)).trans k1
    have kn2 := kn1.sub (Sub.new (o := .lst ((d.lines.map lnTxt).map V.str)) hWl).cuts
    have W2 : (upd H1 Wl (.lst ((d.lines.map lnTxt).map V.str))) Wl = some (.lst ((d.lines.map lnTxt).map V.str)) := upd_same
    have nWL : Wl ≠ L := fun z => ne_of_none L1 hWl z.symm
    have nWk : Wl ≠ kd := fun z => ne_of_none k1 hWl z.symm
    generalize upd H1 Wl (.lst ((d.lines.map lnTxt).map V.str)) = H2 at g2 L2 k2' kn2 W2 ⊢
    refine ⟨Wl, _, rfl, .inl (.inl W2), ?_⟩
    refine for_it (walk_enumK (K := K) (a := Wl) (xs := (d.lines.map lnTxt).map V.str) (k := 1)) (fun j σ H5 => ∃ (kvs : List (Key × V)) (acc : List V) (y1 y2 y3 : Option V), σ = [some (.ref W), some at_, some (.ref kd), some (.int (d.lines.length : Nat)), some (.ref L), y1, y2, y3] ∧ Go T (· = kd) H H5 ∧
      H5 Wl = some (.lst ((d.lines.map lnTxt).map V.str)) ∧ H5 L = some (.lst acc) ∧ H5 kd = some (.dK kvs) ∧ KnOk K (cut (plus C0 L) H5) kvs ∧ kvs.length ≤ kvs0.length + j ∧ acc.length = j ∧ DpAll K (cut (plus C0 L) H5) acc ((d.lines.take j).map eL)) ?_ ?_ ?_ ?_
    · exact ⟨kvs0, [], none, none, none, by rw [xl]; rfl, g2, W2, L2, k2', kn2, Nat.le_refl _, rfl, .nil⟩
    · rintro j σ H5 hj ⟨kvs, acc, y1, y2, y3, rfl, g5, W5, _⟩
      exact .inl (.inl W5)
    · rintro j x σ H5 H5' hj ⟨kvs, acc, y1, y2, y3, rfl, g5, W5, L5, k5, kn5, kl5, al, da⟩ ⟨T', x', y', rfl, hT, rfl, hx', hy'⟩
      cases hx'
      have hy' : ((d.lines.map lnTxt).map V.str)[j]? = some y' := hy'
      rw [List.getElem?_map, List.getElem?_map] at hy'
      cases hm : d.lines[j]? with
      | none => rw [hm] at hy'; cases hy'
      | some l =>
        rw [hm] at hy'
        cases hy'
        have hl := List.mem_of_getElem? hm
        have jn : j < d.lines.length := (List.getElem?_eq_some_iff.mp hm).1
        have eo := deed_ed ok l hl
        have sl := sml l hl
        have g6 := g5.new (o := .tup [V.int ((1 + j : Nat)), .str (lnTxt l)]) hT
        have W6 := (upd_ne (o := .tup [V.int ((1 + j : Nat)), .str (lnTxt l)]) (ne_of_none W5 hT)).trans W5
        have L6 := (upd_ne (o := .tup [V.int ((1 + j : Nat)), .str (lnTxt l)]) (ne_of_none L5 hT)).trans L5
        have k6 := (upd_ne (o := .tup [V.int ((1 + j : Nat)), .str (lnTxt l)]) (ne_of_none k5 hT)).trans k5
        have sT := (Sub.new (o := .tup [V.int ((1 + j : Nat)), .str (lnTxt l)]) hT).cuts (C := plus C0 L)
        have kn6 := kn5.sub sT
        have da6 := Dp.subs sT _ _ da
        refine ⟨T', _, rfl, .inl (.inl upd_same), rfl, _, _, rfl, _, _, rfl, rfl, ?_⟩
        generalize upd H5 T' (.tup [V.int ((1 + j : Nat)), .str (lnTxt l)]) = H6 at g6 W6 L6 k6 kn6 da6 ⊢
        apply twice (A := fun H7 => ∃ (kvs7 : List (Key × V)) (v : V), Go T (· = kd) H H7 ∧ H7 Wl = some (.lst ((d.lines.map lnTxt).map V.str)) ∧ H7 L = some (.lst acc) ∧ H7 kd = some (.dK kvs7) ∧ KnOk K (cut (plus C0 L) H7) kvs7 ∧ kvs7.length ≤ kvs0.length + (j + 1) ∧
          DpAll K (cut (plus C0 L) H7) acc ((d.lines.take j).map eL) ∧ valV kvs7 (.inr (lnTxt l)) = some v ∧ Dp K (cut (plus C0 L) H7) v (eL l))
        case use =>
          intro rest
          refine ⟨.str (lnTxt l), rfl, .ref kd, rfl, kd, valV kvs (.inr (lnTxt l)), rfl, DGet.k (k := .inr (lnTxt l)) k6, _, rfl, ite2 (fun e => ?u1) (fun e => ?u2)⟩
          case u1 =>
            have len := lnTxt_len eo sl
            have lb : lineV (.str (lnTxt l)) = some [.str l.1, .int l.2.1, .int l.2.2] := lineS_back eo sl
            refine ⟨.str (lnTxt l), rfl, .str (lnTxt l), "str", none, rfl, .str _ (small_le (by omega)), (fun x hx => by cases hx; omega), g6.1, (fun H7 _ hn => by rw [lb] at hn; cases hn), fun H7 t xs g7 hxs St => ?_⟩
            rw [lb] at hxs
            cases hxs
            have g07 := g6.trans g7.up
            have W7 := g7.at g6.1 (fun z => z) W6
            have L7 := g7.at g6.1 (fun z => z) L6
            have k7 := g7.at g6.1 (fun z => z) k6
            have s7 := (sub_go g7 g6.1).cuts (C := plus C0 L)
            refine ⟨.ref kd, rfl, .str (lnTxt l), rfl, kd, _, rfl, DPut.k (k := .inr (lnTxt l)) k7 (small_line (by omega)), ?_⟩
            have g8 : Go T (· = kd) H (upd H7 kd (.dK (putK kvs (.inr (lnTxt l)) (.ref t)))) := g07.set rfl k7 (by intro ps z; cases z)
            have W8 := (upd_ne (o := .dK (putK kvs (.inr (lnTxt l)) (.ref t))) nWk).trans W7
            have L8 := (upd_ne (o := .dK (putK kvs (.inr (lnTxt l)) (.ref t))) nLk.symm).trans L7
            have k8 : (upd H7 kd (.dK (putK kvs (.inr (lnTxt l)) (.ref t)))) kd = some (.dK (putK kvs (.inr (lnTxt l)) (.ref t))) := upd_same
            have s8 := (sub_put (o := .dK (putK kvs (.inr (lnTxt l)) (.ref t))) k7).cuts (C := plus C0 L)
            have s78 := s7.trans s8
            have dl : Dp K (cut (plus C0 L) (upd H7 kd (.dK (putK kvs (.inr (lnTxt l)) (.ref t))))) (.ref t) (eL l) := Dp.sub s8 _ _ (.tup (sqT_cut St L7) (.cons (.str _) (.cons (.int _) (.one (.int _)))))
            generalize upd H7 kd (.dK (putK kvs (.inr (lnTxt l)) (.ref t))) = H8 at g8 W8 L8 k8 s78 dl ⊢
            refine rest H8 ⟨_, .ref t, g8, W8, L8, k8, ?_, Nat.le_trans (length_putK _ _ _) (by omega), Dp.subs s78 _ _ da6, by rw [valV_put, if_pos rfl], dl⟩
            intro k' v' e'
            rw [valV_put] at e'
            split at e'
            · rename_i z
              cases e'
              exact ⟨l, z, eo, sl, dl⟩
            · exact kn6.sub s78 k' v' e'
          case u2 =>
            have e1 : (valV kvs (.inr (lnTxt l))).isSome = true := by
              cases z : (valV kvs (.inr (lnTxt l))).isSome with
              | true => rfl
              | false => exact absurd (by rw [z]; rfl) e
            obtain ⟨v, hv⟩ := Option.isSome_iff_exists.mp e1
            obtain ⟨l', h1, h2, h3, h4⟩ := kn6 _ _ hv
            have el : l = l' := lnTxt_inj eo sl h2 h3 (Sum.inr.inj h1)
            subst el
            exact rest H6 ⟨kvs, v, g6, W6, L6, k6, kn6, by omega, da6, hv, h4⟩
        case h =>
          rintro H7 ⟨kvs7, v, g7, W7, L7, k7, kn7, kl7, da7, hv, dv⟩
          have dvH := Dp.sub Sub.cut _ _ dv
          have th := ln_th dvH eo.len
          have vn : v ≠ .non := by
            obtain ⟨a, xs, rfl, _⟩ := Dp.tupI dv
            exact fun z => nomatch z
          have fin : ∃ (kvs : List (Key × V)) (acc' : List V) (y1 y2 y3 : Option V), [some (.ref W), some at_, some (.ref kd), some (.int (d.lines.length : Nat)), some (.ref L), some (V.int ((1 + j : Nat))), some (V.str (lnTxt l)), some v] =
              [some (.ref W), some at_, some (.ref kd), some (.int (d.lines.length : Nat)), some (.ref L), y1, y2, y3] ∧ Go T (· = kd) H (upd H7 L (.lst (acc ++ [v]))) ∧ (upd H7 L (.lst (acc ++ [v]))) Wl = some (.lst ((d.lines.map lnTxt).map V.str)) ∧ (upd H7 L (.lst (acc ++ [v]))) L = some (.lst acc') ∧
              (upd H7 L (.lst (acc ++ [v]))) kd = some (.dK kvs) ∧ KnOk K (cut (plus C0 L) (upd H7 L (.lst (acc ++ [v])))) kvs ∧ kvs.length ≤ kvs0.length + (j + 1) ∧ acc'.length = j + 1 ∧ DpAll K (cut (plus C0 L) (upd H7 L (.lst (acc ++ [v])))) acc' ((d.lines.take (j + 1)).map eL) := by
            refine ⟨kvs7, acc ++ [v], _, _, _, rfl, g7.put hL L7, (upd_ne nWL).trans W7, upd_same, (upd_ne nLk).trans k7, ?_, kl7, by rw [List.length_append, al]; rfl, ?_⟩
            · rw [cut_out plus_D]
              exact kn7
            · rw [cut_out plus_D, List.take_add_one, hm, List.map_append]
              exact da7.app (.one dv)
          have ap := And.intro L7 (small_line (show acc.length ≤ 10000 by omega))
          refine ⟨.ref kd, rfl, .str (lnTxt l), rfl, kd, v, rfl, (by have z := DGet.k (k := .inr (lnTxt l)) k7; rw [hv] at z; exact z), ?_⟩
          refine ⟨v, rfl, rfl, _, rfl, ite2 (fun e => absurd (of_decide_eq_true e) vn) (fun _ => ⟨v, rfl, v, "tuple", _, rfl, th.1, th.2, ln_st eo, _, rfl, ite2 (fun e => ?ending) (fun e => ⟨.ref L, rfl, .inl ⟨rfl, _, .inl (.inl L7)⟩, v, rfl, L, acc, v, rfl, rfl, ap.1, ap.2, fin⟩)⟩)⟩
          case ending =>
            have kp : d.kind = "put" := by
              rcases put_or ok l hl with h | h
              · rw [h.noend] at e
                cases e
              · exact h
            refine ⟨.ref W, rfl, W, _, 0, .str d.kind, rfl, rfl, (toH g7).seqL S, atI_nat (j := 0) rfl, rfl, _, rfl, ite2 (fun e => ?_) (fun e => ⟨.ref L, rfl, .inl ⟨rfl, _, .inl (.inl L7)⟩, v, rfl, L, acc, v, rfl, rfl, ap.1, ap.2, fin⟩)⟩
            rw [kp] at e
            exact absurd e (by decide +kernel)
    · rintro σ H5 ⟨kvs, acc, y1, y2, y3, rfl, g5, W5, L5, k5, kn5, kl5, al, da⟩
      rw [xl, List.take_length] at da
      rw [xl] at kl5
      refine ⟨.ref W, rfl, W, _, rfl, .inl ((toH g5).seqL S), .int (d.lines.length : Nat), rfl, _, _, rfl, rfl, rfl, _, rfl, ite2 (fun e => ?_) (fun _ => ⟨.ref L, rfl, q H5 L acc kvs g5 hL L5 k5 (kn5.sub Sub.cut) (by omega) (Dp.subs Sub.cut _ _ da)⟩)⟩
      have e1 : ((((deedWords d).map V.str).length : Nat) : Int) = (d.lines.length : Nat) + 1 := by
        rw [show (deedWords d).map V.str = V.str d.kind :: (d.lines.map lnTxt).map V.str from rfl, List.length_cons, xl]
        omega
      rw [e1, decide_eq_true rfl] at e
      cases e
end
end K1
set_option Elab.async false
set_option linter.all false
set_option maxRecDepth 100000
set_option maxHeartbeats 400000
/-! The program's def _read_texts: of good rows. -/
namespace K1
open PySem PySem.Spec PyProof.Rows L2
theorem plus_starts (t : Str) : Txt.startswith ("+" ++ t) "+" = true := by
  rw [PySem.W.KAf.starts_left (Nat.le_refl _)]
  decide +kernel
theorem plus_cut (t : Str) : cutS ("+" ++ t) (some 1) none = t := by
  have e0 : ("+" : Str).cps.toList = [43] := by decide +kernel
  have e1 : ("+" ++ t : Str).cps.toList = 43 :: t.cps.toList := by rw [PySem.W.KAf.app_list, e0]; rfl
  have l1 : ("+" ++ t : Str).length = t.cps.toList.length + 1 := by
    rw [TL.len_tl]
    show (("+" ++ t : Str).cps.toList).length = _
    rw [e1, List.length_cons]
  unfold cutS
  rw [HT.sIx_none, show HT.sIx ("+" ++ t : Str).length 0 (some 1) = 1 from by rw [show HT.sIx ("+" ++ t : Str).length 0 (some (1 : Int)) = min 1 ("+" ++ t : Str).length from HT.sIx_nat _ 0 1, l1]; omega, e1, l1, List.drop_one, List.tail_cons, Nat.add_sub_cancel, List.take_length]
section
variable {P : Program} {w : World} {K : PySem.W.Frag} {mg : Str → Option Value} {base : Heap} {T : Tp}
/-! ### _read_texts -/
def spReadTexts (K : PySem.W.Frag) (T : Tp) : Sp := fun vs H Q _ => ∃ (R : Addr) (rs : List Str) (i : Nat) (ts : List Str), vs = [.ref R, .int (i : Nat)] ∧ SqL K H R (rs.map V.str) ∧ RowsOk rs ∧ (∀ j t, ts[j]? = some t → rs[i + j]? = some ("+" ++ t : Str)) ∧ (∀ r, rs[i + ts.length]? = some r → Txt.startswith r "+" = false) ∧
  (∀ t ∈ ts, t.length ≤ 40) ∧ 1 ≤ ts.length ∧ ts.length ≤ 200 ∧ TG T H ∧ ∀ H' l, Go T D0 H H' → H l = none → H' l = some (.lst (ts.map V.str)) → Q (.ref l) H'
theorem ok_readtexts {f : Addr} {fd : FuncData} {k : Nat} (F : Fun K "_read_texts" "_read_texts" sReadTexts f fd) (M : Mg K mg) (N : Mp mg) : FnOk P w K mg base CX0 (k + 1) f fd ["rows", "at"] (spReadTexts K T) := by
  obtain ⟨tk1, hT⟩ := N.mostT
  obtain ⟨tk2, hS⟩ := N.mostS
  refine F.ok scReadTexts (fun vs H Q E h => ?_) (fun cdv A outer s H vs Q E hr h => ?_)
  · obtain ⟨R, rs, i, ts, rfl, _⟩ := h
    rfl
  · obtain ⟨R, rs, i, ts, rfl, S, ok, at_, stop, tlen, l1, l2, tg, q⟩ := h
    refine ⟨_, (pss_cons (ps_set (i := 2) scReadTexts.nd rfl (.inl rfl) (pe_lst pa_nil))
      (pss_cons (ps_while PassesOwn.never (PW.pt (pw_and (pt_cmpR op_lt (pv 1) (pe_callB call_len_seq (by rfl) M.len_ PySem.boot_len (pa_cons (pv 0) pa_nil)) (nomark _)) (pw_and1 (pt_val (pe_m1 PySem.F.slot_str_startswith PySem.F.type_str_startswith mt_startswith (pe_ix (show IxR _ (rIxL K) from ix_list) (pv 0) (pv 1) (fun _ _ => rfl)) pe_str)))))
      (pss_cons (ps_set (i := 3) scReadTexts.nd rfl (.inl rfl) (pe_slice sl_str (pe_ix (show IxR _ (rIxL K) from ix_list) (pv 0) (pv 1) (fun _ _ => rfl)) (po_some pe_int) po_none))
      (pss_cons (ps_if (PW.pt (pw_or (pt_cmpR op_eq (pe_callB call_len_seq (by rfl) M.len_ PySem.boot_len (pa_cons (pv 2) pa_nil)) (pe_glob (v := .int 200) (by rfl) hT ⟨_, rfl⟩) (nomark _)) (pw_or1 (pt_cmpR op_gt (pe_callB call_len_str (by rfl) M.len_ PySem.boot_len (pa_cons (pv 3) pa_nil)) (pe_glob (v := .int 40) (by rfl) hS ⟨_, rfl⟩) (nomark _)))))
      (pss_one ps_never)
      pss_nil)
      (pss_cons (ps_expr (pe_bm PySem.F.plainAttrs_list PySem.F.slot_list_append PySem.F.type_list_append mt_append (pv 2) (pa_cons (pv 3) pa_nil)))
      (pss_one (ps_aug (i := 1) scReadTexts.nd rfl (.inl rfl) pe_int ip_add))))))
      (pss_cons (ps_if (pt_not (pt_truth (pv 2) (fun _ => rfl)))
      (pss_cons ps_never
      (pss_one ps_never))
      pss_nil)
      (pss_one (ps_ret (pv 2)))))), ?_⟩
    have toH : ∀ {H'}, Go T D0 H H' → Sub H H' := fun g => sub_go g tg
    refine ⟨Nat.zero_le _, fun L hL => ?_⟩
    have g1 := (Go.rfl' (D := D0) tg).new (o := .lst []) hL
    have L1 : (upd H L (.lst [])) L = some (.lst []) := upd_same
    generalize upd H L (.lst []) = H1 at g1 L1 ⊢
    refine ⟨fun m σ H5 => ∃ (j : Nat) (y : Option V), m = ts.length - j ∧ j ≤ ts.length ∧ σ = [some (.ref R), some (.int ((i + j : Nat))), some (.ref L), y] ∧ Go T D0 H H5 ∧ H5 L = some (.lst ((ts.take j).map V.str)), ⟨_, 0, none, rfl, Nat.zero_le _, rfl, g1, L1⟩, ?_⟩
    rintro m σ H5 ⟨j, y, rfl, hj, rfl, g5, L5⟩
    have S5 := (toH g5).seqL S
    have bnd := ok.1
    by_cases hjl : j < ts.length
    · have hm : ts[j]? = some ts[j] := List.getElem?_eq_getElem hjl
      have hr1 := at_ j _ hm
      have tl := tlen _ (List.mem_of_getElem? hm)
      generalize ts[j] = t at hm hr1 tl
      have hi : i + j < rs.length := (List.getElem?_eq_some_iff.mp hr1).1
      have hx : atI (rs.map V.str) ((i + j : Nat) : Int) = some (.str ("+" ++ t)) := atI_nat (by rw [List.getElem?_map, hr1]; rfl)
      have rl := ok.2 _ (List.mem_of_getElem? hr1)
      refine ⟨.int ((i + j : Nat)), rfl, .ref R, rfl, R, _, rfl, .inl S5, _, _, rfl, rfl, _, rfl, ite2 (fun _ => ?_) (fun e => ?bad)⟩
      case bad => exact absurd (decide_eq_true (by rw [List.length_map]; omega)) e
      refine ⟨.ref R, rfl, .int ((i + j : Nat)), rfl, R, _, _, .str ("+" ++ t), rfl, rfl, S5, hx, ⟨_, rfl⟩, _, _, rfl, rfl, _, rfl, ?_⟩
      rw [plus_starts]
      refine iteT ⟨fun σ' H' => ∃ y, σ' = [some (.ref R), some (.int ((i + (j + 1) : Nat))), some (.ref L), y] ∧ Go T D0 H H' ∧ H' L = some (.lst ((ts.take (j + 1)).map V.str)), ?_, ?_⟩
      · rintro σ' H' ⟨y', rfl, g', L'⟩
        exact ⟨ts.length - (j + 1), by omega, j + 1, y', rfl, hjl, rfl, g', L'⟩
      refine ⟨.ref R, rfl, .int ((i + j : Nat)), rfl, R, _, _, .str ("+" ++ t), rfl, rfl, S5, hx, 1, rfl, _, rfl, le_line rl, ?_⟩
      rw [plus_cut]
      refine ⟨.ref L, rfl, L, _, rfl, .inl (.inl (.inl L5)), rfl, _, rfl, ite2 (fun e => ?bad2) (fun _ => ?_)⟩
      case bad2 =>
        have e1 : (((((ts.take j).map V.str).length : Nat)) : Int) = 200 := V.int.inj (of_decide_eq_true e)
        rw [List.length_map, List.length_take] at e1
        omega
      refine ⟨.str t, rfl, t, rfl, small_le (by omega), _, _, rfl, rfl, _, rfl, ite2 (fun e => ?bad3) (fun _ => ?_)⟩
      case bad3 =>
        have := of_decide_eq_true e
        omega
      refine ⟨.ref L, rfl, .inl ⟨rfl, _, .inl (.inl L5)⟩, .str t, rfl, L, _, .str t, rfl, rfl, L5, small_line (by rw [List.length_map, List.length_take]; omega), _, rfl, _, _, rfl, rfl, some (V.str t), ?_, g5.put hL L5, ?_⟩
      · rw [show ((i + (j + 1) : Nat) : Int) = ((i + j : Nat) : Int) + 1 by omega]
        rfl
      · rw [upd_same, List.take_add_one, hm, List.map_append]
        rfl
    · have je : j = ts.length := by omega
      subst je
      rw [List.take_length] at L5
      have fin : TruV K (.ref L) H5 true := .inl ⟨_, .inl (.inl L5), by
        cases ts with
        | nil => simp at l1
        | cons t r => rfl⟩
      refine ⟨.int ((i + ts.length : Nat)), rfl, .ref R, rfl, R, _, rfl, .inl S5, _, _, rfl, rfl, _, rfl, ite2 (fun e => ?_) (fun e => ?_)⟩
      · have hi : i + ts.length < rs.length := by
          have := of_decide_eq_true e
          rw [List.length_map] at this
          omega
        have hr1 : rs[i + ts.length]? = some rs[i + ts.length] := List.getElem?_eq_getElem hi
        have st := stop _ hr1
        generalize rs[i + ts.length] = r at hr1 st
        refine ⟨.ref R, rfl, .int ((i + ts.length : Nat)), rfl, R, _, _, .str r, rfl, rfl, S5, atI_nat (by rw [List.getElem?_map, hr1]; rfl), ⟨_, rfl⟩, _, _, rfl, rfl, _, rfl, ?_⟩
        rw [st]
        exact iteF ⟨.ref L, rfl, true, fin, iteF ⟨.ref L, rfl, q H5 L g5 hL L5⟩⟩
      · exact iteF ⟨.ref L, rfl, true, fin, iteF ⟨.ref L, rfl, q H5 L g5 hL L5⟩⟩
end
end K1
set_option Elab.async false
set_option linter.all false
set_option maxRecDepth 100000
set_option maxHeartbeats 400000
/-! The program's def _read_deeds: of good rows. -/
namespace K1
open PySem PySem.Spec PyProof.Rows L2
def offs (ds : List Deed) (j : Nat) : Nat := ((ds.take j).flatMap deedRows).length
theorem offs_succ {ds : List Deed} {j : Nat} {d : Deed} (h : ds[j]? = some d) : offs ds (j + 1) = offs ds j + (1 + d.texts.length) := by
  unfold offs
  rw [List.take_add_one, h, List.flatMap_append, List.length_append]
  simp [deedRows_len]
theorem offs_all (ds : List Deed) : offs ds ds.length = (ds.flatMap deedRows).length := by
  unfold offs
  rw [List.take_length]
theorem rows_at {ds : List Deed} {j : Nat} {d : Deed} (h : ds[j]? = some d) {q : Nat} (hq : q < (deedRows d).length) : (ds.flatMap deedRows)[offs ds j + q]? = (deedRows d)[q]? := by
  have hj := (List.getElem?_eq_some_iff.mp h).1
  have e : ds.flatMap deedRows = (ds.take j).flatMap deedRows ++ (deedRows d ++ (ds.drop (j + 1)).flatMap deedRows) := by
    have e1 : ds = ds.take j ++ d :: ds.drop (j + 1) := by
      rw [← (List.getElem?_eq_some_iff.mp h).2]
      simp
    conv => lhs; rw [e1]
    rw [List.flatMap_append, List.flatMap_cons]
  rw [e]
  unfold offs
  rw [List.getElem?_append_right (by omega), Nat.add_sub_cancel_left, List.getElem?_append_left hq]
theorem join_head (k : Str) (ws : List Str) : ∃ y, Txt.join " " (k :: ws) = k ++ y := by
  cases ws with
  | nil => exact ⟨"", TL.ext_tl (by rw [TL.join_eq, TL.tl_join, TL.tl_append]; show TL.tl k = TL.tl k ++ TL.tl ""; rw [show TL.tl ("" : Str) = [] by decide +kernel, List.append_nil])⟩
  | cons w r => exact ⟨" " ++ Txt.join " " (w :: r), TL.ext_tl (by rw [TL.join_eq, TL.tl_join, TL.tl_append, TL.tl_append, TL.join_eq, TL.tl_join]; rfl)⟩
theorem deed_noplus (d : Deed) : Txt.startswith (Txt.join " " (d.kind :: d.lines.map lnTxt)) "+" = false := by
  obtain ⟨y, e⟩ := join_head d.kind (d.lines.map lnTxt)
  rw [e]
  cases d with
  | put => exact (PySem.W.KAf.starts_left (a := "put") (by decide +kernel)).trans (by decide +kernel)
  | order => exact (PySem.W.KAf.starts_left (a := "order") (by decide +kernel)).trans (by decide +kernel)
  | one k =>
    cases k
    · exact (PySem.W.KAf.starts_left (a := "cut") (by decide +kernel)).trans (by decide +kernel)
    · exact (PySem.W.KAf.starts_left (a := "keep") (by decide +kernel)).trans (by decide +kernel)
theorem first_noplus (n : Nm) : Txt.startswith (firstRow n) "+" = false := by
  have e : firstRow n = "patch " ++ (n.1 ++ " " ++ num n.2) := TL.ext_tl (by unfold firstRow; simp only [TL.tl_append, List.append_assoc])
  rw [e]
  exact (PySem.W.KAf.starts_left (a := "patch ") (by decide +kernel)).trans (by decide +kernel)
theorem ln_cut {K : PySem.W.Frag} {H : Hp} {v : V} {l : Ln} {D : Addr} {ys : List V} (d : Dp K H v (eL l)) (e : H D = some (.lst ys)) : Dp K (cut (plus C0 D) H) v (eL l) := by
  obtain ⟨a, xs, rfl, S, q⟩ := Dp.tupI d
  obtain ⟨x, y, z, rfl, q1, q2, q3⟩ := DpAll.i3 q
  cases Dp.strI q1
  cases Dp.intI q2
  cases Dp.intI q3
  exact .tup (sqT_cut S e) (.cons (.str _) (.cons (.int _) (.one (.int _))))
theorem lns_cut {K : PySem.W.Frag} {H : Hp} {D : Addr} {ys : List V} (e : H D = some (.lst ys)) : ∀ {ls : List Ln} {vs : List V}, DpAll K H vs (ls.map eL) → DpAll K (cut (plus C0 D) H) vs (ls.map eL)
  | [], _, d => by
    cases d
    exact .nil
  | l :: r, _, d => by
    cases d with
    | cons d1 d2 => exact .cons (ln_cut d1 e) (lns_cut e d2)
theorem KnOk.cut {K : PySem.W.Frag} {H : Hp} {kvs : List (Key × V)} {D : Addr} {ys : List V} (h : KnOk K H kvs) (e : H D = some (.lst ys)) : KnOk K (K1.cut (plus C0 D) H) kvs := fun k v hv => by
  obtain ⟨l, h1, h2, h3, h4⟩ := h k v hv
  exact ⟨l, h1, h2, h3, ln_cut h4 e⟩
def Deed.parts : Deed → List PyData
  | .put a b ts => [.str "put", eL a, eL b, .tuple (ts.map .str)]
  | .order a b => [.str "order", eL a, eL b]
  | .one k a => [.str (kindS k), eL a]
theorem eD_parts (d : Deed) : eD d = .tuple d.parts := by cases d <;> rfl
theorem strs_dp {K : PySem.W.Frag} {H : Hp} : ∀ ts : List Str, DpAll K H (ts.map V.str) (ts.map PyData.str)
  | [] => .nil
  | t :: r => .cons (.str t) (strs_dp r)
theorem lines_strs {ls : List Ln} {vs : List V} {K : PySem.W.Frag} {H : Hp} (d : DpAll K H vs (ls.map eL)) : vs.length = ls.length := by rw [DpAll.len d, List.length_map]
/-- the rows from i on tell these deeds, and behind them comes a patch or nothing -/
structure RowsAt (rs : List Str) (i : Nat) (ds : List Deed) : Prop where
  at_ : ∀ q r, (ds.flatMap deedRows)[q]? = some r → rs[i + q]? = some r
  stop : rs[i + offs ds ds.length]? = none ∨ ∃ n, NmOk n ∧ rs[i + offs ds ds.length]? = some (firstRow n)
theorem RowsAt.row {rs : List Str} {i : Nat} {ds : List Deed} (h : RowsAt rs i ds) {j : Nat} {d : Deed} (hd : ds[j]? = some d) : rs[i + offs ds j]? = some (Txt.join " " (d.kind :: d.lines.map lnTxt)) :=
  h.at_ _ _ (by
    have := rows_at hd (q := 0) (by rw [deedRows_len]; omega)
    rw [Nat.add_zero] at this
    rw [this]
    rfl)
theorem RowsAt.text {rs : List Str} {i : Nat} {ds : List Deed} (h : RowsAt rs i ds) {j : Nat} {d : Deed} (hd : ds[j]? = some d) {q : Nat} {t : Str} (ht : d.texts[q]? = some t) : rs[i + (offs ds j + 1) + q]? = some ("+" ++ t : Str) := by
  have hq := (List.getElem?_eq_some_iff.mp ht).1
  have := rows_at hd (q := q + 1) (by rw [deedRows_len]; omega)
  have e : (deedRows d)[q + 1]? = some ("+" ++ t : Str) := by
    unfold deedRows
    rw [List.getElem?_cons_succ, List.getElem?_map, ht]
    rfl
  rw [e] at this
  have r := h.at_ _ _ this
  rw [show i + (offs ds j + 1) + q = i + (offs ds j + (q + 1)) by omega]
  exact r
theorem RowsAt.end_ {rs : List Str} {i : Nat} {ds : List Deed} (h : RowsAt rs i ds) {j : Nat} {d : Deed} (hd : ds[j]? = some d) : ∀ r, rs[i + (offs ds j + 1) + d.texts.length]? = some r → Txt.startswith r "+" = false := by
  intro r hr
  rw [show i + (offs ds j + 1) + d.texts.length = i + offs ds (j + 1) by rw [offs_succ hd]; omega] at hr
  by_cases hn : j + 1 < ds.length
  · rw [h.row (List.getElem?_eq_getElem hn)] at hr
    cases hr
    exact deed_noplus _
  · have hj := (List.getElem?_eq_some_iff.mp hd).1
    have e : j + 1 = ds.length := by omega
    rw [e] at hr
    rcases h.stop with z | ⟨n, _, z⟩
    · rw [z] at hr
      cases hr
    · rw [z] at hr
      cases hr
      exact first_noplus n
section
variable {P : Program} {w : World} {K : PySem.W.Frag} {mg : Str → Option Value} {base : Heap} {T : Tp}
/-! ### _read_deeds -/
def spReadDeeds (K : PySem.W.Frag) (T : Tp) : Sp := fun vs H Q _ => ∃ (R kd : Addr) (rs : List Str) (i : Nat) (ds : List Deed) (kvs : List (Key × V)), vs = [.ref R, .int (i : Nat), .ref kd] ∧ SqL K H R (rs.map V.str) ∧ RowsOk rs ∧ RowsAt rs i ds ∧ (∀ d ∈ ds, d.ok ∧ d.fit) ∧
  (∀ d ∈ ds, ∀ l ∈ d.lines, l.2.2 < 1000000) ∧ ds.length ≤ 400 ∧ H kd = some (.dK kvs) ∧ KnOk K H kvs ∧ kvs.length + 2 * ds.length ≤ 9000 ∧ TG T H ∧
  ∀ H' t l dvs kvs', Go T (· = kd) H H' → H t = none → H l = none → H' t = some (.tup [.ref l, .int ((i + offs ds ds.length : Nat))]) → H' l = some (.lst dvs) → DpAll K H' dvs (ds.map eD) → H' kd = some (.dK kvs') → KnOk K H' kvs' → kvs'.length ≤ kvs.length + 2 * ds.length → Q (.ref t) H'
theorem ok_readdeeds {f LA : Addr} {fd : FuncData} {k : Nat} (F : Fun K "_read_deeds" "_read_deeds" sReadDeeds f fd) (M : Mg K mg) (N : Mp mg) (LM : LinesM K w mg LA) (cW : Cal P w K mg base k "words_at" ["rows", "at"] (spWordsAt K T)) (cL : Cal P w K mg base k "lines_told" ["words", "at", "known"] (spLinesTold K T))
    (cT : Cal P w K mg base k "_read_texts" ["rows", "at"] (spReadTexts K T)) : FnOk P w K mg base CX0 (k + 1) f fd ["rows", "at", "known"] (spReadDeeds K T) := by
  obtain ⟨tk, hD⟩ := N.mostD
  obtain ⟨es, nn, KD⟩ := LM.dict
  refine F.ok scReadDeeds (fun vs H Q E h => ?_) (fun cdv A outer s H vs Q E hr h => ?_)
  · obtain ⟨R, kd, rs, i, ds, kvs, rfl, _⟩ := h
    rfl
  · obtain ⟨R, kd, rs, i, ds, kvs0, rfl, S, ok, ra, okd, sml, most, ek, kn, kl, tg, q⟩ := h
    refine ⟨_, (pss_cons (ps_set (i := 3) scReadDeeds.nd rfl (.inl rfl) (pe_lst pa_nil))
      (pss_cons (ps_while PassesOwn.never (pt_cmpR op_lt (pv 1) (pe_callB call_len_seq (by rfl) M.len_ PySem.boot_len (pa_cons (pv 0) pa_nil)) (nomark _))
      (pss_cons (ps_set (i := 4) scReadDeeds.nd rfl (.inl rfl) (pe_cal cW hr (by rfl) (pa_cons (pv 0) (pa_cons (pv 1) pa_nil))))
      (pss_cons (ps_if (pt_cmpR (op_notIn_kd KD) (pe_ix (show IxR _ (rIxL K) from ix_list) (pv 4) pe_int (fun _ _ => rfl)) (pe_glob (v := .ref LA) (by rfl) LM.at_ rfl) (by rfl))
      (pss_cons (ps_if (pt_cmpR op_eq (pe_ix (show IxR _ (rIxL K) from ix_list) (pv 4) pe_int (fun _ _ => rfl)) pe_str (nomark _))
      (pss_one ps_break)
      pss_nil)
      (pss_one ps_never))
      pss_nil)
      (pss_cons (ps_if (pt_cmpR op_eq (pe_callB call_len_seq (by rfl) M.len_ PySem.boot_len (pa_cons (pv 3) pa_nil)) (pe_glob (v := .int 400) (by rfl) hD ⟨_, rfl⟩) (nomark _))
      (pss_one ps_never)
      pss_nil)
      (pss_cons (ps_set (i := 5) scReadDeeds.nd rfl (.inl rfl) (pe_cal cL hr (by rfl) (pa_cons (pv 4) (pa_cons (pv 1) (pa_cons (pv 2) pa_nil)))))
      (pss_cons (ps_aug (i := 1) scReadDeeds.nd rfl (.inl rfl) pe_int ip_add)
      (pss_one (ps_if (pt_cmpR op_eq (pe_ix (show IxR _ (rIxL K) from ix_list) (pv 4) pe_int (fun _ _ => rfl)) pe_str (nomark _))
      (pss_cons (ps_set (i := 6) scReadDeeds.nd rfl (.inl rfl) (pe_cal cT hr (by rfl) (pa_cons (pv 0) (pa_cons (pv 1) pa_nil))))
      (pss_cons (ps_aug (i := 1) scReadDeeds.nd rfl (.inl rfl) (pe_callB call_len_seq (by rfl) M.len_ PySem.boot_len (pa_cons (pv 6) pa_nil)) ip_add)
      (pss_one (ps_expr (pe_bm PySem.F.plainAttrs_list PySem.F.slot_list_append PySem.F.type_list_append mt_append (pv 3) (pa_cons (pe_tup (pa_cons pe_str (StX.pa_star (pv 5) (pa_cons (pe_callTy call_tuple_of (by rfl) M.tuple_ (by decide +kernel) (pa_cons (pv 6) pa_nil)) pa_nil)))) pa_nil))))))
      (pss_one (ps_expr (pe_bm PySem.F.plainAttrs_list PySem.F.slot_list_append PySem.F.type_list_append mt_append (pv 3) (pa_cons (pe_tup (pa_cons (pe_ix (show IxR _ (rIxL K) from ix_list) (pv 4) pe_int (fun _ _ => rfl)) (StX.pa_star (pv 5) pa_nil))) pa_nil))))))))))))
      (pss_one (ps_ret (pe_tup (pa_cons (pv 3) (pa_cons (pv 1) pa_nil))))))), ?_⟩
    have toH : ∀ {H'}, Go T (· = kd) H H' → Sub H H' := fun g => sub_god g tg ek
    refine ⟨Nat.zero_le _, fun D hD0 => ?_⟩
    have g1 : Go T (· = kd) H (upd H D (.lst [])) := (Go.rfl' tg).new (o := .lst []) hD0
    have D1 : (upd H D (.lst [])) D = some (.lst []) := upd_same
    have k1 := (upd_ne (o := .lst []) (ne_of_none ek hD0)).trans ek
    have kn1 : KnOk K (K1.cut (plus C0 D) (upd H D (.lst []))) kvs0 := kn.sub (sub_new (Sub.new hD0) hD0)
    have nDk : kd ≠ D := ne_of_none ek hD0
    generalize upd H D (.lst []) = H1 at g1 D1 k1 kn1 ⊢
    refine ⟨fun m σ H5 => ∃ (j : Nat) (kvs : List (Key × V)) (dvs : List V) (y1 y2 y3 : Option V), m = ds.length - j ∧ j ≤ ds.length ∧ σ = [some (.ref R), some (.int ((i + offs ds j : Nat))), some (.ref kd), some (.ref D), y1, y2, y3] ∧ Go T (· = kd) H H5 ∧ H5 D = some (.lst dvs) ∧ H5 kd = some (.dK kvs) ∧
      KnOk K (K1.cut (plus C0 D) H5) kvs ∧ kvs.length ≤ kvs0.length + 2 * j ∧ dvs.length = j ∧ DpAll K (K1.cut (plus C0 D) H5) dvs ((ds.take j).map eD), ⟨_, 0, kvs0, [], none, none, none, rfl, Nat.zero_le _, rfl, g1, D1, k1, kn1, Nat.le_refl _, rfl, .nil⟩, ?_⟩
    rintro m σ H5 ⟨j, kvs, dvs, y1, y2, y3, rfl, hj, rfl, g5, D5, k5, kn5, kl5, dl5, dd5⟩
    have S5 := (toH g5).seqL S
    by_cases hjl : j < ds.length
    · have hm : ds[j]? = some ds[j] := List.getElem?_eq_getElem hjl
      have hmem := List.mem_of_getElem? hm
      have hrow := ra.row hm
      have htext := fun q t => ra.text hm (q := q) (t := t)
      have hend := ra.end_ hm
      have hos := offs_succ hm
      generalize ds[j] = d at hm hmem hrow htext hend hos
      have okD := okd d hmem
      have smD := sml d hmem
      have hi : i + offs ds j < rs.length := (List.getElem?_eq_some_iff.mp hrow).1
      refine ⟨.int ((i + offs ds j : Nat)), rfl, .ref R, rfl, R, _, rfl, .inl S5, _, _, rfl, rfl, _, rfl, ?_⟩
      rw [decide_eq_true (show (((i + offs ds j : Nat)) : Int) < (((rs.map V.str).length : Nat) : Int) by rw [List.length_map]; omega)]
      refine iteT ⟨fun σ' H' => ∃ (kvs : List (Key × V)) (dvs : List V) (y1 y2 y3 : Option V), σ' = [some (.ref R), some (.int ((i + offs ds (j + 1) : Nat))), some (.ref kd), some (.ref D), y1, y2, y3] ∧ Go T (· = kd) H H' ∧ H' D = some (.lst dvs) ∧ H' kd = some (.dK kvs) ∧
        KnOk K (K1.cut (plus C0 D) H') kvs ∧ kvs.length ≤ kvs0.length + 2 * (j + 1) ∧ dvs.length = j + 1 ∧ DpAll K (K1.cut (plus C0 D) H') dvs ((ds.take (j + 1)).map eD), ?_, ?_⟩
      · rintro σ' H' ⟨kvs', dvs', z1, z2, z3, rfl, r1, r2, r3, r4, r5, r6, r7⟩
        exact ⟨ds.length - (j + 1), by omega, j + 1, kvs', dvs', z1, z2, z3, rfl, hjl, rfl, r1, r2, r3, r4, r5, r6, r7⟩
      refine ⟨.ref R, rfl, .int ((i + offs ds j : Nat)), rfl, R, rs, i + offs ds j, _, _, rfl, S5, ok, hrow, deed_words okD.1 smD, g5.1, fun H6 p g6 hp e6 => ?_⟩
      have g06 := g5.trans g6.up
      have D6 := g6.at g5.1 (fun z => z) D5
      have k6 := g6.at g5.1 (fun z => z) k5
      have s56 := (sub_go g6 g5.1).cuts (C := plus C0 D)
      have P6 : SqL K H6 p ((deedWords d).map V.str) := .inl (.inl e6)
      obtain ⟨_, _, u0, _, _, hns, _⟩ := LM.many d
      refine ⟨.ref p, rfl, p, _, 0, .str d.kind, rfl, rfl, P6, atI_nat (j := 0) rfl, d.kind, some u0, rfl, rfl, hns, _, rfl, iteF ?_⟩
      refine ⟨.ref D, rfl, D, _, rfl, .inl (.inl (.inl D6)), rfl, _, rfl, ite2 (fun e => ?bad) (fun _ => ?_)⟩
      case bad =>
        have e1 : ((dvs.length : Nat) : Int) = 400 := V.int.inj (of_decide_eq_true e)
        omega
      refine ⟨.ref p, rfl, .int ((i + offs ds j : Nat)), rfl, .ref kd, rfl, p, kd, _, d, kvs, rfl, P6, okD.1, smD, k6, (kn5.sub s56).sub Sub.cut, by omega, g06.1, fun H7 L lvs kvs7 g7 hL L7 k7 kn7 kl7 dl7 => ?_⟩
      have npk : ¬ p = kd := fun z => by rw [z, k6] at e6; cases e6
      have g07 : Go T (· = kd) H H7 := g06.trans g7
      have D7 := g7.at g06.1 (fun z => nDk z.symm) D6
      have e7 := g7.at g06.1 npk e6
      have P7 : SqL K H7 p ((deedWords d).map V.str) := .inl (.inl e7)
      have s67 := (sub_god g7 g06.1 k6).cuts (C := plus C0 D)
      have kn7c := kn7.cut D7
      have dd7 := Dp.subs (s56.trans s67) _ _ dd5
      have dl7c := lns_cut D7 dl7
      have S7 := (toH g07).seqL S
      have nLD : L ≠ D := fun z => by rw [z, D6] at hL; cases hL
      refine ⟨_, rfl, _, _, rfl, rfl, ?_⟩
      -- the deed's tuple, taken in
      have fin : ∀ (H8 : Hp) (t : Addr) (xs : List V) (at8 y3' : Option V), Go T (· = kd) H H8 → Sub (K1.cut (plus C0 D) H7) (K1.cut (plus C0 D) H8) → H8 D = some (.lst dvs) → H8 kd = some (.dK kvs7) → H8 t = some (.tup xs) → DpAll K (K1.cut (plus C0 D) H8) xs d.parts →
          at8 = some (.int ((i + offs ds (j + 1) : Nat))) →
          ∃ (kvs : List (Key × V)) (dvs' : List V) (y1 y2 y3 : Option V), [some (.ref R), at8, some (.ref kd), some (.ref D), some (.ref p), some (.ref L), y3'] = [some (.ref R), some (.int ((i + offs ds (j + 1) : Nat))), some (.ref kd), some (.ref D), y1, y2, y3] ∧ Go T (· = kd) H (upd H8 D (.lst (dvs ++ [.ref t]))) ∧
            (upd H8 D (.lst (dvs ++ [.ref t]))) D = some (.lst dvs') ∧ (upd H8 D (.lst (dvs ++ [.ref t]))) kd = some (.dK kvs) ∧ KnOk K (K1.cut (plus C0 D) (upd H8 D (.lst (dvs ++ [.ref t])))) kvs ∧ kvs.length ≤ kvs0.length + 2 * (j + 1) ∧ dvs'.length = j + 1 ∧
            DpAll K (K1.cut (plus C0 D) (upd H8 D (.lst (dvs ++ [.ref t])))) dvs' ((ds.take (j + 1)).map eD) := by
        rintro H8 t xs at8 y3' g8 s8 D8 k8 t8 dx rfl
        have ntD : plus C0 D t = false := by
          have : t ≠ D := fun z => by rw [z, D8] at t8; cases t8
          simp [plus, this]
        have dt : Dp K (K1.cut (plus C0 D) H8) (.ref t) (eD d) := by
          have e : H8 t = some (.tup xs) := t8
          have ec : (K1.cut (plus C0 D) H8) t = some (.tup xs) := (cut_at ntD).trans e
          rw [eD_parts]
          exact .tup (.inl (.inl ec)) dx
        refine ⟨kvs7, dvs ++ [.ref t], _, _, _, rfl, g8.put hD0 D8, upd_same, (upd_ne nDk).trans k8, ?_, by omega, by rw [List.length_append, dl5]; rfl, ?_⟩
        · rw [cut_out plus_D]
          exact kn7c.sub s8
        · rw [cut_out plus_D, List.take_add_one, hm, List.map_append]
          exact (Dp.subs s8 _ _ dd7).app (.one dt)
      have lD : dvs.length < sizeLine := small_line (by omega)
      refine ⟨.ref p, rfl, p, _, 0, .str d.kind, rfl, rfl, P7, atI_nat (j := 0) rfl, rfl, _, rfl, ite2 (fun e => ?put) (fun e => ?other)⟩
      case other =>
        have ek' : ¬ d.kind = "put" := fun z => e (decide_eq_true (by rw [z]))
        have e0 : d.texts = [] := by
          cases d with
          | put => exact absurd rfl ek'
          | order => rfl
          | one => rfl
        refine ⟨.ref D, rfl, .inl ⟨rfl, _, .inl (.inl D7)⟩, .ref p, rfl, p, _, 0, .str d.kind, rfl, rfl, P7, atI_nat (j := 0) rfl, .ref L, rfl, L, lvs, rfl, .inr (.inl (.inl L7)), small_le (by have := lines_strs dl7; have := lines_len d; simp only [List.length_cons, List.length_append, List.length_nil]; omega), fun t ht => ?_⟩
        rw [List.append_nil]
        have g8 := g07.new (o := .tup (V.str d.kind :: lvs)) ht
        have D8 := (upd_ne (o := .tup (V.str d.kind :: lvs)) (ne_of_none D7 ht)).trans D7
        have k8 := (upd_ne (o := .tup (V.str d.kind :: lvs)) (ne_of_none k7 ht)).trans k7
        have s8 := (Sub.new (o := .tup (V.str d.kind :: lvs)) ht).cuts (C := plus C0 D)
        have t8 : (upd H7 t (.tup (V.str d.kind :: lvs))) t = some (.tup (V.str d.kind :: lvs)) := upd_same
        generalize upd H7 t (.tup (V.str d.kind :: lvs)) = H8 at g8 D8 k8 s8 t8 ⊢
        refine ⟨D, dvs, .ref t, rfl, rfl, D8, lD, fin H8 t _ _ y3 g8 s8 D8 k8 t8 ?_ ?_⟩
        · have dl8 := Dp.subs s8 _ _ dl7c
          cases d with
          | put => exact absurd rfl ek'
          | order a b => exact .cons (.str _) dl8
          | one k a => exact .cons (.str _) dl8
        · rw [hos, e0]
          rfl
      case put =>
        have ekd : d.kind = "put" := V.str.inj (of_decide_eq_true e)
        obtain ⟨a, b, ts, rfl⟩ : ∃ a b ts, d = .put a b ts := by
          cases d with
          | put a b ts => exact ⟨a, b, ts, rfl⟩
          | order => exact absurd ekd (show ¬ ("order" : Str) = "put" by decide +kernel)
          | one k => exact absurd ekd (kindS_put k)
        have tx := okD.1.2.2
        have ft := okD.2
        refine ⟨.ref R, rfl, _, rfl, R, rs, i + (offs ds j + 1), ts, rfl, S7, ok, (fun q t ht => htext q t ht), hend, fun t m => (tx t m).2.1, ft.2.2.2.1, ft.2.2.2.2, g07.1, fun H8 X g8 hX X8 => ?_⟩
        have g08 := g07.trans g8.up
        have D8 := g8.at g07.1 (fun z => z) D7
        have k8 := g8.at g07.1 (fun z => z) k7
        have L8 := g8.at g07.1 (fun z => z) L7
        have s78 := (sub_go g8 g07.1).cuts (C := plus C0 D)
        have nXD : X ≠ D := fun z => by rw [z, D7] at hX; cases hX
        refine ⟨_, rfl, .ref X, rfl, X, _, rfl, .inl (.inl (.inl X8)), _, _, rfl, rfl, ?_⟩
        refine ⟨.ref D, rfl, .inl ⟨rfl, _, .inl (.inl D8)⟩, .ref L, rfl, L, lvs, rfl, .inr (.inl (.inl L8)), .ref X, rfl, X, _, rfl, .inl ⟨.inl (.inl X8), fun tt htt => ⟨small_le ?_, fun t ht => ?_⟩⟩⟩
        · have := lines_strs dl7
          have := lines_len (.put a b ts)
          rw [List.length_cons, List.length_append]
          show lvs.length + 1 + 1 ≤ 10000
          omega
        have g9 := g08.new (o := .tup (ts.map V.str)) htt
        have D9 := (upd_ne (o := .tup (ts.map V.str)) (ne_of_none D8 htt)).trans D8
        have k9 := (upd_ne (o := .tup (ts.map V.str)) (ne_of_none k8 htt)).trans k8
        have s9 := (Sub.new (o := .tup (ts.map V.str)) htt).cuts (C := plus C0 D)
        have t9 : (upd H8 tt (.tup (ts.map V.str))) tt = some (.tup (ts.map V.str)) := upd_same
        generalize upd H8 tt (.tup (ts.map V.str)) = H9 at g9 D9 k9 s9 t9 ht ⊢
        have g10 := g9.new (o := .tup (V.str "put" :: (lvs ++ [.ref tt]))) ht
        have D10 := (upd_ne (o := .tup (V.str "put" :: (lvs ++ [.ref tt]))) (ne_of_none D9 ht)).trans D9
        have k10 := (upd_ne (o := .tup (V.str "put" :: (lvs ++ [.ref tt]))) (ne_of_none k9 ht)).trans k9
        have s10 := (Sub.new (o := .tup (V.str "put" :: (lvs ++ [.ref tt]))) ht).cuts (C := plus C0 D)
        have tt10 := (upd_ne (o := .tup (V.str "put" :: (lvs ++ [.ref tt]))) (ne_of_none t9 ht)).trans t9
        have t10 : (upd H9 t (.tup (V.str "put" :: (lvs ++ [.ref tt])))) t = some (.tup (V.str "put" :: (lvs ++ [.ref tt]))) := upd_same
        generalize upd H9 t (.tup (V.str "put" :: (lvs ++ [.ref tt]))) = H10 at g10 D10 k10 s10 tt10 t10 ⊢
        have sA := (s78.trans s9).trans s10
        refine ⟨D, dvs, .ref t, rfl, rfl, D10, lD, fin H10 t _ _ (some (.ref X)) g10 sA D10 k10 t10 ?_ ?_⟩
        · have dl10 := Dp.subs sA _ _ dl7c
          have nt : plus C0 D tt = false := by
            have : tt ≠ D := fun z => by rw [z, D10] at tt10; cases tt10
            simp [plus, this]
          have dtt : Dp K (K1.cut (plus C0 D) H10) (.ref tt) (.tuple (ts.map .str)) := .tup (.inl (.inl ((cut_at nt).trans tt10))) (strs_dp ts)
          exact .cons (.str _) (dl10.app (.one dtt))
        · have e0 : (Deed.put a b ts).texts = ts := rfl
          rw [hos, e0]
          congr 2
          show ((((i + offs ds j : Nat)) : Int) + 1) + (((ts.map V.str).length : Nat) : Int) = _
          rw [List.length_map]
          omega
    · have je : j = ds.length := by omega
      subst je
      rw [List.take_length] at dd5
      refine ⟨.int ((i + offs ds ds.length : Nat)), rfl, .ref R, rfl, R, _, rfl, .inl S5, _, _, rfl, rfl, _, rfl, ite2 (fun e => ?_) (fun e => ?_)⟩
      · have hi : i + offs ds ds.length < rs.length := by
          have := of_decide_eq_true e
          rw [List.length_map] at this
          omega
        rcases ra.stop with z | ⟨n, on_, hr1⟩
        · rw [List.getElem?_eq_getElem hi] at z
          cases z
        refine ⟨fun _ _ => False, (fun _ _ z => z.elim), ?_⟩
        refine ⟨.ref R, rfl, .int ((i + offs ds ds.length : Nat)), rfl, R, rs, i + offs ds ds.length, _, _, rfl, S5, ok, hr1, first_words on_, g5.1, fun H6 p g6 hp e6 => ?_⟩
        have g06 := g5.trans g6.up
        have D6 := g6.at g5.1 (fun z => z) D5
        have k6 := g6.at g5.1 (fun z => z) k5
        have s56 := (sub_go g6 g5.1).cuts (C := plus C0 D)
        have P6 : SqL K H6 p [V.str "patch", .str n.1, .str (num n.2)] := .inl (.inl e6)
        refine ⟨.ref p, rfl, p, _, 0, .str "patch", rfl, rfl, P6, atI_nat (j := 0) rfl, "patch", none, rfl, rfl, LM.no, _, rfl, iteT ?_⟩
        refine ⟨.ref p, rfl, p, _, 0, .str "patch", rfl, rfl, P6, atI_nat (j := 0) rfl, rfl, _, rfl, iteTd ?_⟩
        refine ⟨.ref D, rfl, .int ((i + offs ds ds.length : Nat)), rfl, small_le (by show 2 ≤ 10000; decide), fun t ht => ?_⟩
        have g7 := g06.new (o := .tup [V.ref D, .int ((i + offs ds ds.length : Nat))]) ht
        have ht0 : H t = none := g06.free tg (fun z => by rw [z, k6] at ht; cases ht) ht
        exact q _ t D dvs kvs g7 ht0 hD0 upd_same ((upd_ne (ne_of_none D6 ht)).trans D6) (Dp.subs (Sub.new ht) _ _ (Dp.subs Sub.cut _ _ (Dp.subs s56 _ _ dd5))) ((upd_ne (ne_of_none k6 ht)).trans k6) (((kn5.sub s56).sub Sub.cut).sub (Sub.new ht)) (by omega)
      · refine ⟨.ref D, rfl, .int ((i + offs ds ds.length : Nat)), rfl, small_le (by show 2 ≤ 10000; decide), fun t ht => ?_⟩
        have g7 := g5.new (o := .tup [V.ref D, .int ((i + offs ds ds.length : Nat))]) ht
        have ht0 : H t = none := g5.free tg (fun z => by rw [z, k5] at ht; cases ht) ht
        exact q _ t D dvs kvs g7 ht0 hD0 upd_same ((upd_ne (ne_of_none D5 ht)).trans D5) (Dp.subs (Sub.new ht) _ _ (Dp.subs Sub.cut _ _ dd5)) ((upd_ne (ne_of_none k5 ht)).trans k5) ((kn5.sub Sub.cut).sub (Sub.new ht)) (by omega)
end
end K1
set_option Elab.async false
set_option linter.all false
set_option maxRecDepth 100000
set_option maxHeartbeats 400000
/-! The program's def read_patches: of written patches. -/
namespace L2
open PySem PySem.Spec PyProof.Rows
/-- no list in it -/
def noLst : PyData → Bool
  | .list _ => false
  | .tuple ds => noLsts ds
  | _ => true
where noLsts : List PyData → Bool
  | [] => true
  | d :: r => noLst d && noLsts r
mutual
theorem Dp.cutD {K : PySem.W.Frag} {H : Hp} {D : Addr} {ys : List V} (e : H D = some (.lst ys)) : ∀ (d : PyData) (v : V), noLst d = true → Dp K H v d → Dp K (K1.cut (K1.plus K1.C0 D) H) v d
  | .none, _, _, q => by cases q; exact .non
  | .bool b, _, _, q => by cases q; exact .bl b
  | .int i, _, _, q => by cases q; exact .int i
  | .str x, _, _, q => by cases q; exact .str x
  | .list ds, _, n, q => by unfold noLst at n; cases n
  | .tuple ds, _, n, q => by
    unfold noLst at n
    cases q with
    | tup s a => exact .tup (K1.sqT_cut s e) (Dp.cutDs e ds _ n a)
  | .dict _, _, _, q => by cases q
theorem Dp.cutDs {K : PySem.W.Frag} {H : Hp} {D : Addr} {ys : List V} (e : H D = some (.lst ys)) : ∀ (ds : List PyData) (vs : List V), noLst.noLsts ds = true → DpAll K H vs ds → DpAll K (K1.cut (K1.plus K1.C0 D) H) vs ds
  | [], _, _, q => by cases q; exact .nil
  | d :: ds, _, n, q => by
    unfold noLst.noLsts at n
    have n2 := Bool.and_eq_true_iff.mp n
    cases q with
    | cons a b => exact .cons (Dp.cutD e d _ n2.1 a) (Dp.cutDs e ds _ n2.2 b)
end
end L2
namespace K1
open PySem PySem.Spec PyProof.Rows L2
theorem eN_nol (n : Nm) : noLst (eN n) = true := rfl
theorem strs_nol : ∀ ts : List Str, noLst.noLsts (ts.map PyData.str) = true
  | [] => rfl
  | t :: r => by
    show (true && noLst.noLsts (r.map PyData.str)) = true
    rw [strs_nol r]
    rfl
theorem eD_nol : ∀ d : Deed, noLst (eD d) = true
  | .put a b ts => by
    show (true && (true && (true && (noLst.noLsts (ts.map PyData.str) && true)))) = true
    rw [strs_nol]
    rfl
  | .order a b => rfl
  | .one k a => rfl
theorem all_nol {α : Type} {f : α → PyData} (h : ∀ x, noLst (f x) = true) : ∀ l : List α, noLst.noLsts (l.map f) = true
  | [] => rfl
  | x :: r => by
    show (noLst (f x) && noLst.noLsts (r.map f)) = true
    rw [h x, all_nol h r]
    rfl
def bo (ps : List Pat) (j : Nat) : Nat := ((ps.take j).flatMap rowsOf).length
theorem rowsOf_len (p : Pat) : (rowsOf p).length = 2 + (p.deeds.flatMap deedRows).length := by
  unfold rowsOf
  rw [List.length_cons, List.length_cons]
  omega
theorem bo_succ {ps : List Pat} {j : Nat} {p : Pat} (h : ps[j]? = some p) : bo ps (j + 1) = bo ps j + (2 + offs p.deeds p.deeds.length) := by
  unfold bo
  rw [List.take_add_one, h, List.flatMap_append, List.length_append, offs_all]
  simp [rowsOf_len]
theorem flat_at {α β : Type} {f : α → List β} {l : List α} {j : Nat} {d : α} (h : l[j]? = some d) {q : Nat} (hq : q < (f d).length) : (l.flatMap f)[((l.take j).flatMap f).length + q]? = (f d)[q]? := by
  have e : l.flatMap f = (l.take j).flatMap f ++ (f d ++ (l.drop (j + 1)).flatMap f) := by
    have hj := (List.getElem?_eq_some_iff.mp h).1
    have e1 : l = l.take j ++ d :: l.drop (j + 1) := by
      rw [← (List.getElem?_eq_some_iff.mp h).2]
      simp
    conv => lhs; rw [e1]
    rw [List.flatMap_append, List.flatMap_cons]
  rw [e, List.getElem?_append_right (by omega), Nat.add_sub_cancel_left, List.getElem?_append_left hq]
theorem row_of {ps : List Pat} {j : Nat} {p : Pat} (h : ps[j]? = some p) {q : Nat} {r : Str} (hr : (rowsOf p)[q]? = some r) : (ps.flatMap rowsOf)[bo ps j + q]? = some r := by
  have := flat_at (f := rowsOf) h (q := q) (List.getElem?_eq_some_iff.mp hr).1
  unfold bo
  rw [this, hr]
theorem bo_all (ps : List Pat) : bo ps ps.length = (ps.flatMap rowsOf).length := by
  unfold bo
  rw [List.take_length]
theorem rows_deeds {ps : List Pat} (ok : ∀ p ∈ ps, NmOk p.name) {j : Nat} {p : Pat} (h : ps[j]? = some p) : RowsAt (ps.flatMap rowsOf) (bo ps j + 2) p.deeds := by
  refine ⟨fun q r hr => ?_, ?_⟩
  · rw [show bo ps j + 2 + q = bo ps j + (q + 2) by omega]
    exact row_of h (by unfold rowsOf; exact hr)
  · rw [show bo ps j + 2 + offs p.deeds p.deeds.length = bo ps (j + 1) + 0 by rw [bo_succ h]; omega]
    by_cases hn : j + 1 < ps.length
    · have hm : ps[j + 1]? = some ps[j + 1] := List.getElem?_eq_getElem hn
      exact .inr ⟨_, ok _ (List.mem_of_getElem? hm), row_of hm rfl⟩
    · have hj := (List.getElem?_eq_some_iff.mp h).1
      refine .inl (List.getElem?_eq_none ?_)
      rw [← bo_all, show j + 1 = ps.length by omega]
      omega
/-- sequences and objects stand -/
def Sup (G H : Hp) : Prop := Sub G H ∧ ∀ a C dx fs, G a = some (.ins C dx fs) → H a = some (.ins C dx fs)
theorem Sup.rfl' {G : Hp} : Sup G G := ⟨Sub.rfl', fun _ _ _ _ e => e⟩
theorem Sup.trans {G H I : Hp} (a : Sup G H) (b : Sup H I) : Sup G I := ⟨a.1.trans b.1, fun x C dx fs e => b.2 x C dx fs (a.2 x C dx fs e)⟩
theorem Sup.go {T : Tp} {G H : Hp} (g : Go T D0 G H) (t : TG T G) : Sup G H := ⟨sub_go g t, fun _ _ _ _ e => g.at t (fun z => z) e⟩
theorem Sup.new {H : Hp} {p : Addr} {o : HO} (h : H p = none) : Sup H (upd H p o) := ⟨Sub.new h, fun _ _ _ _ e => (upd_ne (ne_of_none e h)).trans e⟩
theorem Sup.cut {C0' : Addr → Bool} {H : Hp} : Sup (K1.cut C0' H) H := ⟨Sub.cut, fun _ _ _ _ e => (cut_some e).2⟩
theorem Sup.cuts {C0' : Addr → Bool} {G H : Hp} (a : Sup G H) : Sup (K1.cut C0' G) (K1.cut C0' H) := ⟨a.1.cuts, fun x C dx fs e => by
  obtain ⟨e1, e2⟩ := cut_some e
  rw [cut_at e1]
  exact a.2 x C dx fs e2⟩
theorem MadeN.sup {n : Nat} {K : PySem.W.Frag} {C : Addr} {G H : Hp} {x : Addr} {p : Pat} (m : MadeN n K C G x p) (s : Sup G H) : MadeN n K C H x p := by
  obtain ⟨dx, fs, nv, kv, dv, h1, h2, h3, h4, h5, h6, ht, h7, h8, h9⟩ := m
  exact ⟨dx, fs, nv, kv, dv, s.2 _ _ _ _ h1, h2, h3, h4, h5, h6, ht, Dp.sub s.1 _ _ h7, Dp.sub s.1 _ _ h8, Dp.sub s.1 _ _ h9⟩
theorem MadeN.cutD {n : Nat} {K : PySem.W.Frag} {C : Addr} {H : Hp} {x D : Addr} {p : Pat} {ys : List V} (m : MadeN n K C H x p) (e : H D = some (.lst ys)) : MadeN n K C (cut (plus C0 D) H) x p := by
  obtain ⟨dx, fs, nv, kv, dv, h1, h2, h3, h4, h5, h6, ht, h7, h8, h9⟩ := m
  have nx : plus C0 D x = false := by
    have : x ≠ D := fun z => by rw [z, e] at h1; cases h1
    simp [plus, this]
  exact ⟨dx, fs, nv, kv, dv, (cut_at nx).trans h1, h2, h3, h4, h5, h6, ht, Dp.cutD e _ _ (eN_nol _) h7, Dp.cutD e _ _ (all_nol eN_nol _) h8, Dp.cutD e _ _ (all_nol eD_nol _) h9⟩
theorem deeds_le {ps : List Pat} {j : Nat} {p : Pat} (h : ps[j]? = some p) : ((ps.take j).map fun p => p.deeds.length).sum + p.deeds.length ≤ (ps.map fun p => p.deeds.length).sum := by
  have e : ps = ps.take j ++ p :: ps.drop (j + 1) := by
    rw [← (List.getElem?_eq_some_iff.mp h).2]
    simp
  conv => rhs; rw [e]
  rw [List.map_append, List.sum_append, List.map_cons, List.sum_cons]
  omega
section
variable {P : Program} {w : World} {K : PySem.W.Frag} {mg : Str → Option Value} {base : Heap} {T : Tp}
/-- the values are new objects, these patches -/
def MadeAll (K : PySem.W.Frag) (C : Addr) (H : Hp) (vs : List V) (ps : List Pat) : Prop := vs.length = ps.length ∧ ∀ (i : Nat) (p : Pat), ps[i]? = some p → ∃ x : Addr, vs[i]? = some (V.ref x) ∧ Made K C H x p
/-! ### read_patches -/
structure Pats.fits (ps : List Pat) : Prop where
  ne : ps ≠ []
  sized : ∀ p ∈ ps, p.sized
  good : ∀ p ∈ ps, p.good
  rows : RowsOk (ps.flatMap rowsOf)
  deeds : 2 * (ps.map fun p => p.deeds.length).sum ≤ 8000
  many : ps.length ≤ 1000
  text : (textOf ps).length + 2 ≤ 1000000
def spRead (K : PySem.W.Frag) (C : Addr) (T : Tp) : Sp := fun vs H Q _ => ∃ (ps : List Pat), vs = [.str (textOf ps)] ∧ Pats.fits ps ∧ TG T H ∧ ∀ H' l xs, Go T D0 H H' → H l = none → H' l = some (.lst xs) → MadeAll K C H' xs ps → Q (.ref l) H'
theorem MadeAll.sup {C : Addr} {G H : Hp} {vs : List V} {ps : List Pat} (m : MadeAll K C G vs ps) (s : Sup G H) : MadeAll K C H vs ps := ⟨m.1, fun i p h => by
  obtain ⟨x, h1, h2⟩ := m.2 i p h
  exact ⟨x, h1, h2.sup s⟩⟩
theorem MadeAll.snoc {C : Addr} {G : Hp} {vs : List V} {ps : List Pat} {x : Addr} {p : Pat} (m : MadeAll K C G vs ps) (h : Made K C G x p) : MadeAll K C G (vs ++ [.ref x]) (ps ++ [p]) := by
  refine ⟨by rw [List.length_append, List.length_append, m.1]; rfl, fun i q hq => ?_⟩
  rcases Nat.lt_trichotomy i ps.length with hlt | heq | hgt
  · rw [List.getElem?_append_left hlt] at hq
    rw [List.getElem?_append_left (by rw [m.1]; exact hlt)]
    exact m.2 i q hq
  · subst heq
    rw [List.getElem?_append_right (Nat.le_refl _), Nat.sub_self] at hq
    cases hq
    refine ⟨x, ?_, h⟩
    rw [← m.1, List.getElem?_append_right (Nat.le_refl _), Nat.sub_self]
    rfl
  · rw [List.getElem?_eq_none (by rw [List.length_append]; show ps.length + 1 ≤ i; omega)] at hq
    cases hq
theorem ok_read {f C LA : Addr} {fd : FuncData} {k : Nat} (F : Fun K "read_patches" "read_patches" sReadPatches f fd) (M : Mg K mg) (LM : LinesM K w mg LA) (cN : Cal P w K mg base k "read_name" ["rows", "at"] (spReadName K T)) (cK : Cal P w K mg base k "read_known" ["rows", "at", "own"] (spReadKnown K T))
    (cD : Cal P w K mg base k "_read_deeds" ["rows", "at", "known"] (spReadDeeds K T)) (cP : Cal P w K mg base k "patch_of_parts" ["name", "knows", "deeds"] (spParts K C T)) : FnOk P w K mg base CX0 (k + 1) f fd ["text"] (spRead K C T) := by
  refine F.ok scReadPatches (fun vs H Q E h => ?_) (fun cdv A outer s H vs Q E hr h => ?_)
  · obtain ⟨ps, rfl, _⟩ := h
    rfl
  · obtain ⟨ps, rfl, fit, tg, q⟩ := h
    refine ⟨_, (pss_cons (ps_if (pt_not (pt_val (pe_callB call_isi (by rfl) M.ins boot_isinstance (pa_cons (pv 0) (pa_cons (pe_bltn (v := .ty "str") (by rfl) M.str_ boot_str rfl) pa_nil)))))
      (pss_one ps_never)
      pss_nil)
      (pss_cons (ps_set (i := 1) scReadPatches.nd rfl (.inl rfl) (pe_split (pv 0) pe_str))
      (pss_cons (ps_set (i := 2) scReadPatches.nd rfl (.inl rfl) (pe_lst pa_nil))
      (pss_cons (ps_set (i := 3) scReadPatches.nd rfl (.inl rfl) pe_dnewK)
      (pss_cons (ps_set (i := 4) scReadPatches.nd rfl (.inl rfl) pe_int)
      (pss_cons (ps_while PassesOwn.never (pt_cmpR op_lt (pv 4) (pe_callB call_len_seq (by rfl) M.len_ PySem.boot_len (pa_cons (pv 1) pa_nil)) (nomark _))
      (pss_cons (ps_set (i := 5) scReadPatches.nd rfl (.inl rfl) (pe_cal cN hr (by rfl) (pa_cons (pv 1) (pa_cons (pv 4) pa_nil))))
      (pss_cons (ps_set (i := 6) scReadPatches.nd rfl (.inl rfl) (pe_cal cK hr (by rfl) (pa_cons (pv 1) (pa_cons (pe_op op_add (pv 4) pe_int) (pa_cons (pv 5) pa_nil)))))
      (pss_cons (ps_asg (pe_cal cD hr (by rfl) (pa_cons (pv 1) (pa_cons (pe_op op_add (pv 4) pe_int) (pa_cons (pv 3) pa_nil)))) (pg_tup rfl (pgs_cons (pg_name (i := 7) scReadPatches.nd rfl (.inl rfl)) (pgs_cons (pg_name (i := 4) scReadPatches.nd rfl (.inl rfl)) pgs_nil))))
      (pss_one (ps_expr (pe_bm PySem.F.plainAttrs_list PySem.F.slot_list_append PySem.F.type_list_append mt_append (pv 2) (pa_cons (pe_tup (pa_cons (pv 5) (pa_cons (pv 6) (pa_cons (pv 7) pa_nil)))) pa_nil))))))))
      (pss_one (ps_ret (pe_lc (own := [("name", 5), ("knows", 6), ("deeds", 7)]) (g := (gTup K 3 (gCons (gName 5) (gCons (gName 6) (gCons (gName 7) gNil))))) (tt := tYes) rfl scReadPatches.nd (pi_list (pv 2)) (blkOk_by (N := ["text", "rows", "told", "lines", "at", "name", "knows", "deeds"]) (sc := defScope sReadPatches) (by decide +kernel)) (fun _ _ _ _ _ => (pg_tup rfl (pgs_cons (pg_name (i := 5) scReadPatches.nd rfl (Or.inl rfl)) (pgs_cons (pg_name (i := 6) scReadPatches.nd rfl (Or.inl rfl)) (pgs_cons (pg_name (i := 7) scReadPatches.nd rfl (Or.inl rfl)) pgs_nil))))) (fun _ _ _ _ _ => pts_nil) (fun _ _ _ _ _ => (pe_cal cP hr (by rfl) (pa_cons (pv 5) (pa_cons (pv 6) (pa_cons (pv 7) pa_nil)))))))))))))), ?_⟩
    have g0 : Go T D0 H H := Go.rfl' tg
    have hs := fit.text
    have thx : Th K H (.str (textOf ps)) "str" none := .str _ (le_line hs)
    refine ⟨.str (textOf ps), rfl, .str (textOf ps), .ty "str", .type "str", .type "str", _, rfl, .ty _, thx.ty, kit_ty thx.kstr, _, rfl, iteF ?_⟩
    refine ⟨.str (textOf ps), rfl, ⟨_, rfl⟩, textOf ps, "
", rfl, rfl, by decide +kernel, lt_line hs, fun R hR => ?_⟩
    rw [split_text fit.sized fit.ne]
    generalize hrs : ps.flatMap rowsOf = rs
    have rok : RowsOk rs := hrs ▸ fit.rows
    have g1 := g0.new (o := .lst (rs.map V.str)) hR
    have R1 : (upd H R (.lst (rs.map V.str))) R = some (.lst (rs.map V.str)) := upd_same
    generalize upd H R (.lst (rs.map V.str)) = H1 at g1 R1 ⊢
    refine ⟨Nat.zero_le _, fun D hD => ?_⟩
    have g2 := g1.new (o := .lst []) hD
    have R2 := (upd_ne (o := .lst []) (ne_of_none R1 hD)).trans R1
    have D2 : (upd H1 D (.lst [])) D = some (.lst []) := upd_same
    have fD : H D = none := g1.free tg (fun z => z) hD
    have nRD : R ≠ D := ne_of_none R1 hD
    generalize upd H1 D (.lst []) = H2 at g2 R2 D2 ⊢
    intro kd hkd
    have g3 : Go T (· = kd) H (upd H2 kd (.dK [])) := (g2.new (o := .dK []) hkd).up
    have R3 := (upd_ne (o := .dK []) (ne_of_none R2 hkd)).trans R2
    have D3 := (upd_ne (o := .dK []) (ne_of_none D2 hkd)).trans D2
    have k3 : (upd H2 kd (.dK [])) kd = some (.dK []) := upd_same
    have fk : H kd = none := g2.free tg (fun z => z) hkd
    have nDk : D ≠ kd := ne_of_none D2 hkd
    have nRk : R ≠ kd := ne_of_none R2 hkd
    generalize upd H2 kd (.dK []) = H3 at g3 R3 D3 k3 ⊢
    refine ⟨fun m σ H5 => ∃ (j : Nat) (kvs : List (Key × V)) (acc : List V) (y1 y2 y3 : Option V), m = ps.length - j ∧ j ≤ ps.length ∧ σ = [some (.str (textOf ps)), some (.ref R), some (.ref D), some (.ref kd), some (.int ((bo ps j : Nat))), y1, y2, y3] ∧ Go T (· = kd) H H5 ∧ H5 R = some (.lst (rs.map V.str)) ∧ H5 D = some (.lst acc) ∧
      H5 kd = some (.dK kvs) ∧ KnOk K H5 kvs ∧ kvs.length ≤ 2 * ((ps.take j).map fun p => p.deeds.length).sum ∧ acc.length = j ∧ DpAll K (cut (plus C0 D) H5) acc ((ps.take j).map eP), ⟨_, 0, [], [], none, none, none, rfl, Nat.zero_le _, rfl, g3, R3, D3, k3, (fun k v h => by cases h), Nat.zero_le _, rfl, .nil⟩, ?_⟩
    rintro m σ H5 ⟨j, kvs, acc, y1, y2, y3, rfl, hj, rfl, g5, R5, D5, k5, kn5, kl5, al, da⟩
    have bound : bo ps ps.length = rs.length := by rw [bo_all, hrs]
    have SR5 : SqL K H5 R (rs.map V.str) := .inl (.inl R5)
    by_cases hjl : j < ps.length
    · have hm : ps[j]? = some ps[j] := List.getElem?_eq_getElem hjl
      have hmem := List.mem_of_getElem? hm
      have hbo := bo_succ hm
      have hrow0 := row_of hm (q := 0) (r := firstRow ps[j].name) rfl
      have hrow1 := row_of hm (q := 1) (r := secondRow ps[j].knows) rfl
      have hra := rows_deeds (fun p hp => (fit.good p hp).ok.name) hm
      have hdl := deeds_le hm
      rw [hrs] at hrow0 hrow1 hra
      generalize ps[j] = p at hm hmem hbo hrow0 hrow1 hra hdl
      have gd := fit.good p hmem
      have sz := fit.sized p hmem
      have fdl := fit.deeds
      have hi : bo ps j < rs.length := (List.getElem?_eq_some_iff.mp hrow0).1
      rw [Nat.add_zero] at hrow0
      refine ⟨.int ((bo ps j : Nat)), rfl, .ref R, rfl, R, _, rfl, .inl SR5, _, _, rfl, rfl, _, rfl, ?_⟩
      rw [decide_eq_true (show (((bo ps j : Nat)) : Int) < (((rs.map V.str).length : Nat) : Int) by rw [List.length_map]; omega)]
      refine iteT ⟨fun σ' H' => ∃ (kvs : List (Key × V)) (acc : List V) (y1 y2 y3 : Option V), σ' = [some (.str (textOf ps)), some (.ref R), some (.ref D), some (.ref kd), some (.int ((bo ps (j + 1) : Nat))), y1, y2, y3] ∧ Go T (· = kd) H H' ∧ H' R = some (.lst (rs.map V.str)) ∧ H' D = some (.lst acc) ∧
        H' kd = some (.dK kvs) ∧ KnOk K H' kvs ∧ kvs.length ≤ 2 * ((ps.take (j + 1)).map fun p => p.deeds.length).sum ∧ acc.length = j + 1 ∧ DpAll K (cut (plus C0 D) H') acc ((ps.take (j + 1)).map eP), ?_, ?_⟩
      · rintro σ' H' ⟨kvs', acc', z1, z2, z3, rfl, r1, r2, r3, r4, r5, r6, r7, r8⟩
        exact ⟨ps.length - (j + 1), by omega, j + 1, kvs', acc', z1, z2, z3, rfl, hjl, rfl, r1, r2, r3, r4, r5, r6, r7, r8⟩
      refine ⟨.ref R, rfl, .int ((bo ps j : Nat)), rfl, R, rs, bo ps j, p.name, rfl, SR5, rok, hrow0, gd.ok.name, g5.1, fun H6 nv g6 dn => ?_⟩
      have g06 := g5.trans g6.up
      have R6 := g6.at g5.1 (fun z => z) R5
      have D6 := g6.at g5.1 (fun z => z) D5
      have k6 := g6.at g5.1 (fun z => z) k5
      have s56 := sub_go g6 g5.1
      refine ⟨.ref R, rfl, .int ((bo ps j : Nat)), rfl, _, _, rfl, rfl, nv, rfl, R, rs, bo ps j + 1, nv, p.name, p.knows, rfl, .inl (.inl R6), rok, hrow1, dn, gd.ok.name, gd.ok.knows, gd.asc, gd.nin, sz.knows, g06.1, fun H7 kl kvs7 g7 hkl kl7 dk7 => ?_⟩
      have g07 := g06.trans g7.up
      have R7 := g7.at g06.1 (fun z => z) R6
      have D7 := g7.at g06.1 (fun z => z) D6
      have k7 := g7.at g06.1 (fun z => z) k6
      have s67 := sub_go g7 g06.1
      have nkD : kl ≠ D := fun z => by rw [z, D6] at hkl; cases hkl
      have nkk : ¬ kl = kd := fun z => by rw [z, k6] at hkl; cases hkl
      refine ⟨.ref R, rfl, .int ((bo ps j : Nat)), rfl, _, _, rfl, rfl, .ref kd, rfl, R, kd, rs, bo ps j + 2, p.deeds, kvs, rfl, .inl (.inl R7), rok, hra, (fun d hd => ⟨gd.ok.deeds d hd, gd.fit d hd⟩), sz.lines, gd.most, k7, (kn5.sub s56).sub s67, by omega, g07.1, fun H8 t dl dvs kvs8 g8 ht hdl0 t8 dl8 dd8 k8 kn8 kl8 => ?_⟩
      have g08 := g07.trans g8
      have s78 := sub_god g8 g07.1 k7
      have R8 := g8.at g07.1 nRk R7
      have D8 := g8.at g07.1 nDk D7
      have kl8' := g8.at g07.1 nkk kl7
      have ndD : dl ≠ D := fun z => by rw [z, D7] at hdl0; cases hdl0
      have dn8 := Dp.sub s78 _ _ (Dp.sub s67 _ _ dn)
      have dk8 := Dp.subs s78 _ _ dk7
      have da8 := Dp.subs ((s56.trans s67).trans s78).cuts _ _ da
      refine ⟨t, _, rfl, .inl (.inl t8), rfl, _, _, rfl, _, _, rfl, rfl, ?_⟩
      refine ⟨.ref D, rfl, .inl ⟨rfl, _, .inl (.inl D8)⟩, nv, rfl, .ref kl, rfl, .ref dl, rfl, small_le (by show 3 ≤ 10000; decide), fun u hu => ?_⟩
      have g9 := g08.new (o := .tup [nv, .ref kl, .ref dl]) hu
      have R9 := (upd_ne (o := .tup [nv, .ref kl, .ref dl]) (ne_of_none R8 hu)).trans R8
      have D9 := (upd_ne (o := .tup [nv, .ref kl, .ref dl]) (ne_of_none D8 hu)).trans D8
      have k9 := (upd_ne (o := .tup [nv, .ref kl, .ref dl]) (ne_of_none k8 hu)).trans k8
      have kl9 := (upd_ne (o := .tup [nv, .ref kl, .ref dl]) (ne_of_none kl8' hu)).trans kl8'
      have dl9 := (upd_ne (o := .tup [nv, .ref kl, .ref dl]) (ne_of_none dl8 hu)).trans dl8
      have s9 : Sub H8 (upd H8 u (.tup [nv, .ref kl, .ref dl])) := Sub.new hu
      have u9 : (upd H8 u (.tup [nv, .ref kl, .ref dl])) u = some (.tup [nv, .ref kl, .ref dl]) := upd_same
      have kn9 := kn8.sub s9
      generalize upd H8 u (.tup [nv, .ref kl, .ref dl]) = H9 at g9 R9 D9 k9 kl9 dl9 s9 u9 kn9 ⊢
      have lD : acc.length < sizeLine := small_line (by have := fit.many; omega)
      have nuD : u ≠ D := fun z => by rw [z, D9] at u9; cases u9
      have pl : ∀ {a : Addr}, a ≠ D → plus C0 D a = false := fun h => by simp [plus, h]
      have dp9 : Dp K (cut (plus C0 D) H9) (.ref u) (eP p) := .tup (.inl (.inl ((cut_at (pl nuD)).trans u9))) (.cons (Dp.cutD D9 _ _ (eN_nol _) (Dp.sub s9 _ _ dn8))
        (.cons (.lst (.inl (.inl ((cut_at (pl nkD)).trans kl9))) (Dp.cutDs D9 _ _ (all_nol eN_nol _) (Dp.subs s9 _ _ dk8))) (.one (.lst (.inl (.inl ((cut_at (pl ndD)).trans dl9))) (Dp.cutDs D9 _ _ (all_nol eD_nol _) (Dp.subs s9 _ _ dd8))))))
      have knX : KnOk K (upd H9 D (.lst (acc ++ [.ref u]))) kvs8 := by
        have h1 := kn9.cut D9
        have h2 : KnOk K (K1.cut (plus C0 D) (upd H9 D (.lst (acc ++ [.ref u])))) kvs8 := by
          rw [cut_out plus_D]
          exact h1
        exact h2.sub Sub.cut
      refine ⟨D, acc, .ref u, rfl, rfl, D9, lD, kvs8, acc ++ [.ref u], some nv, some (.ref kl), some (.ref dl), ?_, g9.put fD D9, (upd_ne nRD).trans R9, upd_same, (upd_ne nDk.symm).trans k9, knX, ?_, by rw [List.length_append, al]; rfl, ?_⟩
      · rw [hbo, show bo ps j + (2 + offs p.deeds p.deeds.length) = bo ps j + 2 + offs p.deeds p.deeds.length by omega]
        rfl
      · rw [List.take_add_one, hm, List.map_append, List.sum_append]
        show _ ≤ 2 * (_ + (p.deeds.length + 0))
        omega
      · rw [cut_out plus_D, List.take_add_one, hm, List.map_append]
        exact (Dp.subs s9.cuts _ _ da8).app (.one dp9)
    · have je : j = ps.length := by omega
      subst je
      rw [List.take_length] at da
      refine ⟨.int ((bo ps ps.length : Nat)), rfl, .ref R, rfl, R, _, rfl, .inl SR5, _, _, rfl, rfl, _, rfl, ?_⟩
      rw [decide_eq_false (show ¬ (((bo ps ps.length : Nat)) : Int) < (((rs.map V.str).length : Nat) : Int) by rw [List.length_map, bound]; omega)]
      have g5' := g5.drop fk
      have dps := Dp.subs Sub.cut _ _ da
      refine iteF ⟨.ref D, rfl, D, rfl, ⟨_, .inl (.inl D5)⟩, fun X hX => ?_⟩
      refine lc_list (K := K) (a := D) (xs := acc) (fun i H6 => Go T D0 H5 H6 ∧ ∃ out, H6 X = some (.lst out) ∧ out.length = i ∧ MadeAll K C (cut (plus C0 X) H6) out (ps.take i)) ?_ ?_ ?_ ?_
      · exact ⟨(Go.rfl' g5.1).new hX, [], upd_same, rfl, rfl, fun i p h => by cases h⟩
      · rintro i H6 hi ⟨g6, _⟩
        exact .inl (.inl (g6.at g5.1 (fun z => z) D5))
      · rintro i x H6 hx ⟨g6, out, X6, ol, md⟩
        obtain ⟨d0, hd0, dx⟩ := DpAll.at' dps hx
        rw [List.getElem?_map] at hd0
        cases hp : ps[i]? with
        | none => rw [hp] at hd0; cases hd0
        | some p =>
          rw [hp] at hd0
          cases hd0
          have s6 := sub_go g6 g5.1
          have gd := fit.good p (List.mem_of_getElem? hp)
          have ip := (List.getElem?_eq_some_iff.mp hp).1
          obtain ⟨u, us, rfl, Su, dus⟩ := Dp.tupI (Dp.sub s6 _ _ dx)
          obtain ⟨nv, kv, dv, rfl, dn, dk, dd⟩ := DpAll.i3 dus
          obtain ⟨kl, kvs7, rfl, Sk, dks⟩ := Dp.lstI dk
          obtain ⟨dl, dvs, rfl, Sd, dds⟩ := Dp.lstI dd
          refine ⟨u, _, rfl, Su, rfl, _, _, rfl, _, _, rfl, _, _, rfl, rfl, rfl, nv, rfl, .ref kl, rfl, .ref dl, rfl, nv, kl, dl, kvs7, dvs, p, rfl, dn, Sk, dks, Sd, dds, gd, g6.1, fun H7 y g7 hy mdy => ?_⟩
          have X7 := g7.at g6.1 (fun z => z) X6
          have s7 := Sup.go g7 g6.1
          refine ⟨out, X7, small_line (by have := fit.many; omega), (g6.trans g7).put hX X7, out ++ [.ref y], upd_same, by rw [List.length_append, ol]; rfl, ?_⟩
          rw [cut_out plus_D, List.take_add_one, hp]
          exact (md.sup s7.cuts).snoc (mdy.cutD X7)
      · rintro H6 ⟨g6, out, X6, ol, md⟩
        have al' : acc.length = ps.length := al
        rw [al', List.take_length] at md
        exact q H6 X out (g5'.trans g6) (g5'.free tg (fun z => z) hX) X6 (md.sup Sup.cut)
end
end K1
set_option Elab.async false
set_option linter.all false
set_option maxRecDepth 100000
set_option maxHeartbeats 400000
/-! for x, y, z in zip(list, list, list). -/
namespace K1
open PySem PySem.Spec PyProof.Rows L2
/-- the lists at a, b, c as they stand at each turn, the items in new triples -/
def Itz3 (K : PySem.W.Frag) (a b c : Addr) : It :=
  ⟨fun i H => ∃ (xs ys zs : List V) (x y z : V), SqL K H a xs ∧ SqL K H b ys ∧ SqL K H c zs ∧ xs[i]? = some x ∧ ys[i]? = some y ∧ zs[i]? = some z,
    fun i H v H' => ∃ T x y z, v = .ref T ∧ H T = none ∧ H' = upd H T (.tup [x, y, z]) ∧ (∀ xs, SqL K H a xs → xs[i]? = some x) ∧ (∀ ys, SqL K H b ys → ys[i]? = some y) ∧ ∀ zs, SqL K H c zs → zs[i]? = some z,
    fun i H => ∃ xs ys zs : List V, SqL K H a xs ∧ SqL K H b ys ∧ SqL K H c zs ∧ i ≤ xs.length ∧ i ≤ ys.length ∧ i ≤ zs.length ∧ (i = xs.length ∨ i = ys.length ∨ i = zs.length)⟩
theorem turn_zip3 {P : Program} {w : World} {K : PySem.W.Frag} {elts : List Expr} {kk : Nat} {tpos : Pos} {a b c z TI TO i1 i2 i3 : Addr} (D : ZipSep3 z TI TO i1 i2 i3 [i1, a] [i2, b] [i3, c]) (na : a ≠ i1) (nb : b ≠ i2) (nc : c ≠ i3) :
    Turn P w K (.Tuple elts kk tpos) (Itz3 K a b c) [z, TI, TO, i1, i2, i3] z (fun i h => IsZip h z TI TO .none ∧ IsTupOf3 h TI (.ref i1) (.ref i2) (.ref i3) ∧ (∃ x y u, IsTupOf3 h TO x y u) ∧ h.IsListIter i1 a i ∧ h.IsListIter i2 b i ∧ h.IsListIter i3 c i) where
  mem := by simp
  obj := fun i h st e hc => by
    obtain ⟨hz, hTI, ⟨x, y, u, hTO⟩, ⟨o1, e1, _, d1⟩, ⟨o2, e2, _, d2⟩, ⟨o3, e3, _, d3⟩⟩ := st
    have e' : e = z ∨ e = TI ∨ e = TO ∨ e = i1 ∨ e = i2 ∨ e = i3 := by simpa using hc
    rcases e' with q | q | q | q | q | q
    · rw [q]; exact ⟨_, hz, fun v q => nomatch q⟩
    · rw [q]; exact ⟨_, hTI, fun v q => nomatch q⟩
    · rw [q]; exact ⟨_, hTO, fun v q => nomatch q⟩
    · rw [q]; exact ⟨o1, e1, fun v q => by rw [d1] at q; cases q⟩
    · rw [q]; exact ⟨o2, e2, fun v q => by rw [d2] at q; cases q⟩
    · rw [q]; exact ⟨o3, e3, fun v q => by rw [d3] at q; cases q⟩
  keep := fun i h h' st k => by
    obtain ⟨hz, hTI, ⟨x, y, u, hTO⟩, h1, h2, h3⟩ := st
    exact ⟨k z (by simp) _ hz, k TI (by simp) _ hTI, ⟨x, y, u, k TO (by simp) _ hTO⟩, h1.at fun o q => k i1 (by simp) o q, h2.at fun o q => k i2 (by simp) o q, h3.at fun o q => k i3 (by simp) o q⟩
  item := by
    intro X hP hw hK hc i pins s σ H E I hf st hg
    subst hP hw hK
    obtain ⟨hz, hTI, ⟨x0, y0, u0, hTO⟩, h1, h2, h3⟩ := st
    obtain ⟨xs, ys, zs, x, y, u, hqx, hqy, hqz, hx, hy, hu⟩ := hg
    obtain ⟨its, rv, p, _⟩ := I.list hqx
    obtain ⟨its2, rv2, p2, _⟩ := I.list hqy
    obtain ⟨its3, rv3, p3, _⟩ := I.list hqz
    obtain ⟨v1, hv1, r1⟩ := rv.get hx
    obtain ⟨v2, hv2, r2⟩ := rv2.get hy
    obtain ⟨v3, hv3, r3⟩ := rv3.get hu
    have hzl : z < s.heap.objs.size := Heap.lt_size hz
    have lt : ∀ {l : List Value} {v : Value}, l[i]? = some v → i < l.toArray.size := fun h => by
      have := (List.getElem?_eq_some_iff.mp h).1
      simpa using this
    refine wpAny_pyNext_zipD3_item D (Draws.list (A := X.A.in1) (I.ok.hd hc) i1 a na its.toArray) (Draws.list (A := X.A.in1) (I.ok.hd hc) i2 b nb its2.toArray) (Draws.list (A := X.A.in1) (I.ok.hd hc) i3 c nc its3.toArray) hz hTI hTO ⟨h1, p.isList⟩ ⟨h2, p2.isList⟩ ⟨h3, p3.isList⟩ (lt hv1) (lt hv2) (lt hv3)
      fun x1 x2 x3 h' tk y1 y2 y3 z' TO' d1 d2 d3 hT hsz hk => ?_
    have ex1 : x1 = v1 := by
      have y1' : its.toArray[i]? = some x1 := y1
      rw [List.getElem?_toArray, hv1] at y1'
      exact (Option.some.inj y1').symm
    have ex2 : x2 = v2 := by
      have y1' : its2.toArray[i]? = some x2 := y2
      rw [List.getElem?_toArray, hv2] at y1'
      exact (Option.some.inj y1').symm
    have ex3 : x3 = v3 := by
      have y1' : its3.toArray[i]? = some x3 := y3
      rw [List.getElem?_toArray, hv3] at y1'
      exact (Option.some.inj y1').symm
    subst ex1 ex2 ex3
    refine ⟨_, rfl, wpAny_letOwnedTupleGo_zip (s := { s with heap := h', toks := tk }) z' fun h'' z'' sb => ?_⟩
    have hT2 : h''.get? s.heap.objs.size = some { cls := .type "tuple", data := .seq #[x1, x2, x3] } := (sb.2 _ (Nat.ne_of_gt hzl)).trans hT
    have new : ObjOk X.prog X.w (upd H s.heap.objs.size (.tup [x, y, u])) h'' s.heap.objs.size (.tup [x, y, u]) :=
      ⟨by show 3 ≤ sizeLine; decide, [x1, x2, x3], .cons r1 (.cons r2 (.cons r3 .nil)), ⟨_, hT2, rfl, _, rfl⟩⟩
    have I1 : Inv X pins σ (upd H s.heap.objs.size (.tup [x, y, u])) { s with heap := h'', toks := tk } :=
      I.turnedNew (t' := tk) (ch := [z, TI, TO, i1, i2, i3]) (fun e o hb q => (sb.2 e (fun q' => hb (by simp [q']))).trans (hk e o (fun q' => hb (by simp [q'])) (fun q' => hb (by simp [q'])) (fun q' => hb (by simp [q'])) (fun q' => hb (by simp [q'])) (fun q' => hb (by simp [q'])) q)) hf (Nat.le_refl _) new
    have TIf : ∀ {e o}, e ≠ z → h'.get? e = some o → h''.get? e = some o := fun n q => (sb.2 _ n).trans q
    have z1 : i1 ≠ z := fun q => D.zf1 (by rw [← q]; exact List.mem_cons_self ..)
    have z2 : i2 ≠ z := fun q => D.zf2 (by rw [← q]; exact List.mem_cons_self ..)
    have z3 : i3 ≠ z := fun q => D.zf3 (by rw [← q]; exact List.mem_cons_self ..)
    refine ⟨.ref s.heap.objs.size, _, I1, rfl, ⟨_, x, y, u, rfl, I.hok.fresh (Nat.le_refl _), rfl, fun l hl => by rw [I.list_inj hl hqx]; exact hx, fun l hl => by rw [I.list_inj hl hqy]; exact hy, fun l hl => by rw [I.list_inj hl hqz]; exact hu⟩, ⟨z'', ?_, ⟨x1, x2, x3, ?_⟩, ?_, ?_, ?_⟩, fun e hcm => ?_⟩
    · exact TIf D.TIz (hk _ _ D.TIz D.TITO D.TIi1 D.TIi2 D.TIi3 hTI)
    · exact TIf D.TOz TO'
    · exact d1.1.at fun o q => TIf z1 q
    · exact d2.1.at fun o q => TIf z2 q
    · exact d3.1.at fun o q => TIf z3 q
    · have hlt : e < s.heap.objs.size := by
        have e' : e = z ∨ e = TI ∨ e = TO ∨ e = i1 ∨ e = i2 ∨ e = i3 := by simpa using hcm
        rcases e' with q | q | q | q | q | q
        · rw [q]; exact hzl
        · rw [q]; exact Heap.lt_size hTI
        · rw [q]; exact Heap.lt_size hTO
        · rw [q]; obtain ⟨_, e1, _⟩ := h1; exact Heap.lt_size e1
        · rw [q]; obtain ⟨_, e2, _⟩ := h2; exact Heap.lt_size e2
        · rw [q]; obtain ⟨_, e3, _⟩ := h3; exact Heap.lt_size e3
      rw [upd_ne (Nat.ne_of_lt hlt)]
      exact (hf e hcm).1
  done := by
    intro X hP hw hK hc i pins s σ H E I hf st hg
    subst hP hw hK
    obtain ⟨hz, hTI, ⟨x0, y0, u0, hTO⟩, h1, h2, h3⟩ := st
    obtain ⟨xs, ys, zs, hqx, hqy, hqz, m1, m2, m3, hend⟩ := hg
    obtain ⟨its, rv, p, _⟩ := I.list hqx
    obtain ⟨its2, rv2, p2, _⟩ := I.list hqy
    obtain ⟨its3, rv3, p3, _⟩ := I.list hqz
    have l1 : its.toArray.size = xs.length := by have := rv.length; simp; omega
    have l2 : its2.toArray.size = ys.length := by have := rv2.length; simp; omega
    have l3 : its3.toArray.size = zs.length := by have := rv3.length; simp; omega
    exact wpAny_pyNext_zipD3_end D (Draws.list (A := X.A.in1) (I.ok.hd hc) i1 a na its.toArray) (Draws.list (A := X.A.in1) (I.ok.hd hc) i2 b nb its2.toArray) (Draws.list (A := X.A.in1) (I.ok.hd hc) i3 c nc its3.toArray) hz hTI hTO ⟨h1, p.isList⟩ ⟨h2, p2.isList⟩ ⟨h3, p3.isList⟩
      (by omega) (by omega) (by omega) (by omega) fun h' tk hk => ⟨rfl, I.turnedL (t' := tk) (ch := [z, TI, TO, i1, i2, i3]) (fun e o hb q => hk e o (fun q' => hb (by simp [q'])) (fun q' => hb (by simp [q'])) (fun q' => hb (by simp [q'])) (fun q' => hb (by simp [q'])) (fun q' => hb (by simp [q'])) q) hf⟩
  self := fun A i s Q E st h => wpAny_pyIter_zip st.1 h
def iZip3 (K : PySem.W.Frag) (ta : TA) : TI := fun σ H R => ta σ H fun vs H1 => ∃ a b c xs ys zs, vs = [.ref a, .ref b, .ref c] ∧ SqL K H1 a xs ∧ SqL K H1 b ys ∧ SqL K H1 c zs ∧ R (Itz3 K a b c) H1
theorem pi_zip3 {X : Cx} {e e2 e3 : Expr} {ta : TA} {p pos tpos : Pos} {elts : List Expr} {kk : Nat} (hg : Gl X "zip") (hm : X.mg "zip" = none) (ha : PA X [e, e2, e3] ta)
    (hs : starEach [e, e2, e3] X.env = (false, eval e X.env) :: starEach [e2, e3] X.env := by rfl) (hpl : (backTo pos (starEach [e2, e3] X.env)).any (·.1) = false := by rfl) :
    PI X (.Tuple elts kk tpos) (.Call (.Name "zip" p) [e, e2, e3] [] pos) (iZip3 X.K ta) := by
  refine ⟨fun pins s σ H R I h => ?_⟩
  refine Call_ (ld_blt I hg hm PyProof.Rows.boot_zip (PyProof.Rows.callWith_type1 (thn (ha.run pos pins s σ H _ I h) fun us s1 ⟨vs, H1, I1, r1, q1⟩ => ?_) hs hpl))
  obtain ⟨a, b, c, xs, ys, zs, ex, hqx, hqy, hqz, q⟩ := q1
  subst ex
  cases r1 with
  | cons r rr =>
    cases rr with
    | cons r' rr =>
      cases rr with
      | cons r'' rr =>
        cases rr
        cases r
        cases r'
        cases r''
        obtain ⟨its, rv, p1, _⟩ := I1.list hqx
        obtain ⟨its2, rv2, p2, _⟩ := I1.list hqy
        obtain ⟨its3, rv3, p3, _⟩ := I1.list hqz
        have la : a < s1.heap.objs.size := p1.lt
        have lb : b < s1.heap.objs.size := p2.lt
        have lc : c < s1.heap.objs.size := p3.lt
        refine zip_begins3 (begins_list a its.toArray) (begins_list b its2.toArray) (begins_list c its3.toArray) (by exact p1.isList) (by exact p2.isList) (by exact p3.isList) fun h' hz hTI hTO h1 h2 h3 hsz hk => wpAny_pyIter_zip hz ?_
        have I2 : Inv X pins σ H1 { s1 with heap := h' } := I1.kept (t' := s1.toks) hk
        refine ⟨s1.heap.objs.size + 5, [s1.heap.objs.size + 5, s1.heap.objs.size + 3, s1.heap.objs.size + 4, s1.heap.objs.size, s1.heap.objs.size + 1, s1.heap.objs.size + 2], _, _, H1, rfl, I2,
          turn_zip3 (zip_sep3 (N := s1.heap.objs.size) (fp1 := [a]) (fp2 := [b]) (fp3 := [c]) (fun x hx => by rw [List.mem_singleton.mp hx]; exact la) (fun x hx => by rw [List.mem_singleton.mp hx]; exact lb) (fun x hx => by rw [List.mem_singleton.mp hx]; exact lc)) (Nat.ne_of_lt la) (Nat.ne_of_lt (Nat.lt_succ_of_lt lb)) (Nat.ne_of_lt (Nat.lt_succ_of_lt (Nat.lt_succ_of_lt lc))),
          ⟨hz, hTI, ⟨_, _, _, hTO⟩, ⟨_, h1, rfl, rfl⟩, ⟨_, h2, rfl, rfl⟩, ⟨_, h3, rfl, rfl⟩⟩, fun e hcm => ?_, q⟩
        have e' : e = s1.heap.objs.size + 5 ∨ e = s1.heap.objs.size + 3 ∨ e = s1.heap.objs.size + 4 ∨ e = s1.heap.objs.size ∨ e = s1.heap.objs.size + 1 ∨ e = s1.heap.objs.size + 2 := by simpa using hcm
        have hle : s1.heap.objs.size ≤ e := by
          rcases e' with z | z | z | z | z | z
          · rw [z]; exact Nat.le_add_right _ _
          · rw [z]; exact Nat.le_add_right _ _
          · rw [z]; exact Nat.le_add_right _ _
          · rw [z]; exact Nat.le_refl _
          · rw [z]; exact Nat.le_add_right _ _
          · rw [z]; exact Nat.le_add_right _ _
        exact I1.fpOk hle (I1.hok.fresh hle)
/-- a new triple of the i-th ones -/
def YTri (xs ys zs : Nat → Option V) : Nat → Hp → V → Hp → Prop := fun i H v H' => ∃ T x y z, v = .ref T ∧ H T = none ∧ H' = upd H T (.tup [x, y, z]) ∧ xs i = some x ∧ ys i = some y ∧ zs i = some z
theorem walk_zip3 {K : PySem.W.Frag} {a b c : Addr} {xs ys zs : List V} {n : Nat} (h1 : xs.length = n) (h2 : ys.length = n) (h3 : zs.length = n) : Walk (Itz3 K a b c) n (fun H => SqL K H a xs ∧ SqL K H b ys ∧ SqL K H c zs) (YTri (fun i => xs[i]?) (fun i => ys[i]?) (fun i => zs[i]?)) := by
  refine ⟨fun i _ hi q => ⟨xs, ys, zs, xs[i], ys[i], zs[i], q.1, q.2.1, q.2.2, by simp [h1, hi], by simp [h2, hi], by simp [h3, hi]⟩, fun _ q => ⟨xs, ys, zs, q.1, q.2.1, q.2.2, by omega, by omega, by omega, .inl h1.symm⟩, fun i H v H' _ q y => ?_⟩
  obtain ⟨T, x, y, z, e1, e2, e3, e4, e5, e6⟩ := y
  exact ⟨T, x, y, z, e1, e2, e3, e4 xs q.1, e5 ys q.2.1, e6 zs q.2.2⟩
end K1
set_option Elab.async false
set_option linter.all false
set_option maxRecDepth 100000
set_option maxHeartbeats 400000
/-! Drawn histories, and the patch of many signs: they are good. -/
namespace K1
open PySem PySem.Spec PyProof.Rows L2
/-- all that the laws' patches keep -/
structure Pat.fine (p : Pat) : Prop where
  good : p.good
  sized : p.sized
  k4 : p.knows.length ≤ 4
  d3 : p.deeds.length ≤ 3
  t41 : (textsOf p).length ≤ 41
theorem fine_sum : ∀ {ps : List Pat}, (∀ p ∈ ps, p.fine) → ((ps.flatMap rowsOf).map (·.length)).sum ≤ 2200 * ps.length ∧ (ps.flatMap rowsOf).length ≤ 46 * ps.length ∧ (ps.map fun p => p.deeds.length).sum ≤ 3 * ps.length
  | [], _ => ⟨Nat.zero_le _, Nat.zero_le _, Nat.zero_le _⟩
  | p :: r, h => by
    have f := h p (List.mem_cons_self ..)
    have h1 := patSum f.sized
    have h2 := f.k4
    have h4 := f.d3
    have h5 := f.t41
    have h3 := fine_sum (ps := r) fun x m => h x (List.mem_cons_of_mem _ m)
    rw [List.flatMap_cons, List.map_append, List.sum_append, List.length_append, List.length_cons, List.map_cons, List.sum_cons]
    omega
theorem le_sum : ∀ {l : List Str} {x : Str}, x ∈ l → x.length ≤ (l.map (·.length)).sum
  | y :: r, x, h => by
    rw [List.map_cons, List.sum_cons]
    rcases List.mem_cons.mp h with rfl | h
    · omega
    · have := le_sum h
      omega
theorem fits_of {ps : List Pat} (ne : ps ≠ []) (h : ∀ p ∈ ps, p.fine) (l : ps.length ≤ 64) : Pats.fits ps := by
  have s := fine_sum h
  have nl : ("\n" : Str).length = 1 := by decide +kernel
  have j := join_le "\n" (ps.flatMap rowsOf)
  rw [nl] at j
  refine ⟨ne, fun p hp => (h p hp).sized, fun p hp => (h p hp).good, ⟨by omega, fun r hr => ?_⟩, by omega, by omega, ?_⟩
  · have := le_sum hr
    omega
  · unfold textOf
    omega
theorem sized_of {ps : List Pat} (h : ∀ p ∈ ps, p.fine) (l : ps.length ≤ 64) : Pats.sized ps :=
  ⟨fun p hp => ⟨(h p hp).sized, by have := (h p hp).k4; omega, by have := (h p hp).t41; omega, by have := (h p hp).d3; omega⟩, by omega⟩
theorem LnOk.ne_head {l : Ln} (h : LnOk l) : l ≠ headL := by
  rintro rfl
  exact absurd h.1.2.1 (by decide)
theorem DeedFrom.fit {goods : List Ln} {d : Deed} (h : DeedFrom goods d) (g : ∀ l ∈ goods, LnOk l) : d.fit := by
  cases h with
  | put a b ts ha hb ne h0 h1 ht =>
    refine ⟨ne, ?_, ?_, h0, by omega⟩
    · rcases ha with rfl | ha
      · exact headL_ne_foot
      · exact (g a ha).ne_foot
    · rcases hb with rfl | hb
      · exact fun z => headL_ne_foot z.symm
      · exact (g b hb).ne_head
  | order a b ha hb ne => exact ne
  | one k a ha => trivial
theorem DeedFrom.lines {goods : List Ln} {d : Deed} (h : DeedFrom goods d) : ∀ l ∈ d.lines, l = headL ∨ l = footL ∨ l ∈ goods := by
  cases h with
  | put a b ts ha hb ne h0 h1 ht =>
    intro l hl
    simp only [Deed.lines, List.mem_cons, List.not_mem_nil, or_false] at hl
    rcases hl with rfl | rfl
    · rcases ha with h | h
      · exact .inl h
      · exact .inr (.inr h)
    · rcases hb with h | h
      · exact .inr (.inl h)
      · exact .inr (.inr h)
  | order a b ha hb ne =>
    intro l hl
    simp only [Deed.lines, List.mem_cons, List.not_mem_nil, or_false] at hl
    rcases hl with rfl | rfl
    · exact .inr (.inr ha)
    · exact .inr (.inr hb)
  | one k a ha =>
    intro l hl
    rw [List.mem_singleton.mp hl]
    exact .inr (.inr ha)
theorem PatFrom.fine {hands : List Str} {hist : List Pat} {p : Pat} (h : PatFrom hands hist p) (ho : HandsOk hands) (hh : HistFrom hands hist) (hl : hist.length ≤ 100) : p.fine := by
  have hn := hh.nms ho (by omega)
  have nm := h.nm ho (by omega)
  have ok := h.ok ho (by omega) hn
  have fr := h.fresh hh
  have gk : ∀ m, ∀ g ∈ goodsAt hist p m, LnOk g := fun m => goods_ok hn nm
  have hs := (hh.ok ho hl).each
  have tl := textsOf_len ok.2
  have many : ∀ i, manyAt p.deeds i ≤ 9 := fun i => by
    have : manyAt p.deeds i ≤ (textsOf p).length := by
      unfold manyAt textsOf
      exact flat_take _ _
    omega
  have place : ∀ i, ∀ l ∈ goodsAt hist p (manyAt p.deeds i), l.2.2 ≤ 9 ∧ (nmOf l = p.name → l.2.2 ≤ (manyAt p.deeds i : Nat)) := by
    intro i l hl'
    rcases List.mem_append.mp hl' with hg | hg
    · obtain ⟨x, hx, rfl⟩ := List.mem_map.mp hg
      obtain ⟨q, hq, _, hx⟩ := linesIn_mem hx
      obtain ⟨k, hk, rfl⟩ := linesOf_mem hx
      have := textsOf_len (hs q hq).2
      refine ⟨by show (k : Int) + 1 ≤ 9; omega, fun z => absurd z (fr q hq)⟩
    · obtain ⟨k, hk, rfl⟩ := List.mem_map.mp hg
      have hk' := List.mem_range.mp hk
      have := many i
      exact ⟨by show (k : Int) + 1 ≤ 9; omega, fun _ => by show (k : Int) + 1 ≤ _; omega⟩
  refine ⟨⟨ok.1, fun d hd => ?_, fun i d hd l hl' e => ?_, h.asc, fun hk => ?_, by have := h.three; omega⟩, ⟨ok.1, fun d hd l hl' => ?_, by have := h.four; omega, by omega, by have := h.three; omega⟩, h.four, h.three, by omega⟩
  · obtain ⟨i, hi⟩ := List.mem_iff_getElem?.mp hd
    exact (h.deeds i d hi).fit (gk _)
  · rcases (h.deeds i d hd).lines l hl' with rfl | rfl | hg
    · show (0 : Int) ≤ _
      omega
    · have : nmOf footL = p.name := e
      have n1 := nm.2.1
      rw [← this] at n1
      exact absurd n1 (by decide)
    · exact (place i l hg).2 e
  · obtain ⟨q, hq, e⟩ := h.there _ hk
    exact fr q hq e
  · obtain ⟨i, hi⟩ := List.mem_iff_getElem?.mp hd
    rcases (h.deeds i d hi).lines l hl' with rfl | rfl | hg
    · decide
    · decide
    · have := (place i l hg).1
      omega
theorem HistFrom.take {hands : List Str} {hist : List Pat} (h : HistFrom hands hist) (n : Nat) : HistFrom hands (hist.take n) := by
  intro i p hi
  have hin : i < n := by
    have := (List.getElem?_eq_some_iff.mp hi).1
    rw [List.length_take] at this
    omega
  rw [List.getElem?_take_of_lt hin] at hi
  rw [List.take_take, Nat.min_eq_left (Nat.le_of_lt hin)]
  exact h i p hi
theorem HistFrom.fine {hands : List Str} {hist : List Pat} (h : HistFrom hands hist) (ho : HandsOk hands) (hl : hist.length ≤ 100) : ∀ p ∈ hist, p.fine := by
  intro p hp
  obtain ⟨i, hi⟩ := List.mem_iff_getElem?.mp hp
  exact (h i p hi).fine ho (h.take i) (by rw [List.length_take]; omega)
/-- the patch of many signs -/
def patZ (n : Nm) (ts : List Str) : Pat := ⟨("zz", 999), [n], [.put headL footL ts, .one true ("zz", 999, 1)]⟩
theorem zz_ok : NmOk (("zz", 999) : Nm) := ⟨by decide +kernel, by decide, by decide⟩
theorem patZ_fine {n : Nm} {ts : List Str} (hn : NmOk n) (ne : n ≠ (("zz", 999) : Nm)) (ht : ∀ t ∈ ts, TxOk t) (l1 : 1 ≤ ts.length) (l2 : ts.length ≤ 41) : (patZ n ts).fine := by
  have lz : LnOk ("zz", 999, 1) := ⟨zz_ok, by decide⟩
  have okz : (patZ n ts).ok := ⟨zz_ok, fun m hm => by rw [List.mem_singleton.mp hm]; exact hn, fun d hd => by
    rcases List.mem_cons.mp hd with rfl | hd
    · exact ⟨.inr (.inl rfl), .inr (.inr rfl), ht⟩
    · rw [List.mem_singleton.mp hd]
      exact lz⟩
  have tx : (textsOf (patZ n ts)).length = ts.length := by
    show ((ts ++ ([] ++ [])) : List Str).length = _
    simp
  refine ⟨⟨okz, fun d hd => ?_, fun i d hd l hl e => ?_, List.pairwise_singleton _ _, fun hm => ne (List.mem_singleton.mp hm).symm, by show 2 ≤ 400; decide⟩, ⟨okz, fun d hd l hl => ?_, by show 1 ≤ 1000; decide, by omega, by show 2 ≤ 1000; decide⟩, by show 1 ≤ 4; decide, by show 2 ≤ 3; decide, by omega⟩
  · rcases List.mem_cons.mp hd with rfl | hd
    · exact ⟨headL_ne_foot, headL_ne_foot, fun z => headL_ne_foot z.symm, l1, by omega⟩
    · rw [List.mem_singleton.mp hd]
      trivial
  · match i, hd with
    | 0, hd =>
      cases hd
      simp only [Deed.lines, List.mem_cons, List.not_mem_nil, or_false] at hl
      rcases hl with rfl | rfl
      · exact absurd (show nmOf headL = (("zz", 999) : Nm) from e) (by decide +kernel)
      · exact absurd (show nmOf footL = (("zz", 999) : Nm) from e) (by decide +kernel)
    | 1, hd =>
      cases hd
      rw [List.mem_singleton.mp hl]
      show (1 : Int) ≤ ((manyAt (patZ n ts).deeds 1 : Nat) : Int)
      have : manyAt (patZ n ts).deeds 1 = ts.length := by
        show ((ts ++ []) : List Str).length = _
        simp
      omega
    | (k + 2), hd => cases hd
  · rcases List.mem_cons.mp hd with rfl | hd
    · simp only [Deed.lines, List.mem_cons, List.not_mem_nil, or_false] at hl
      rcases hl with rfl | rfl
      · decide
      · decide
    · rw [List.mem_singleton.mp hd] at hl
      rw [List.mem_singleton.mp hl]
      decide
end K1
set_option Elab.async false
set_option linter.all false
set_option maxRecDepth 100000
set_option maxHeartbeats 400000
/-! For the law: calls, rows. -/
namespace K1
open PySem PySem.Spec PyProof.Rows L2
section
variable {P : Program} {w : World} {K : PySem.W.Frag} {mg : Str → Option Value} {base : Heap} {T : Tp}
/-- the method told -/
structure MetT (P : Program) (w : World) (K : PySem.W.Frag) (mg : Str → Option Value) (base : Heap) (k : Nat) (C : Addr) (T : Tp) : Prop where
  ex : ∃ (f : Addr) (fd : FuncData), Cls K C ∧ Meth K C "told" f ∧ FnOk P w K mg base CX0 k f fd ["self"] (spTold K C T) ∧ Binds K fd ["self"] []
theorem pe_told {X : Cx} {K0 : PySem.W.Frag} {k j : Nat} {C : Addr} {T : Tp} {o : Expr} {ta : TE} {apos pos : Pos} {pl : Sem Bool} (c : MetT X.prog X.w K0 X.mg X.base k C T) (hr : Room j X.A) (hk : k ≤ j) (he : PE X o ta) (hK : X.K = K0 := by rfl)
    (ht : eval (.Call (.Attribute o "told" apos) [] [] pos) X.env = (do
      let ov ← eval o X.env
      standAt apos.atName
      let (f, first) ← holding [ov] (getMethod ov "told" pl)
      callWith pos f first (backTo pos (starEach [] X.env)) (backToKw pos (keywordEach [] X.env))) := by rfl) :
    PE X (.Call (.Attribute o "told" apos) [] [] pos) (tMeth C "told" (spTold K0 C T) [] E0 ta tNil) := by
  subst hK
  obtain ⟨f, fd, hc, hm, F, b⟩ := c.ex
  exact pe_meth0 (pl := pl) he hc hm F (hr.mono hk) b .nil pass0 ht
theorem pe_joinK {X : Cx} {K0 : PySem.W.Frag} {o e : Expr} {to te : TE} {apos pos : Pos} (ho : PE X o to) (he : PE X e te) (hK : X.K = K0 := by rfl) (hs : starEach [e] X.env = [(false, eval e X.env)] := by rfl) (hbase : attributeBase o "join" X.env (eval o X.env) = eval o X.env := by rfl)
    (hline : (apos.endLine == pos.line) = true := by rfl) : PE X (.Call (.Attribute o "join" apos) [e] [] pos) (tM1 (fun x xs H Q => ∃ a p, ∃ ys : List Str, x = .str a ∧ xs = [.ref p] ∧ (SqL K0 H p (ys.map V.str) ∨ SqT K0 H p (ys.map V.str)) ∧
      (ys.map (·.length)).sum + ys.length * a.length ≤ 16777216 ∧ Q (.str (Txt.join a ys)) H) to te) := by
  subst hK
  exact pe_join ho he hs hbase hline
/-- the names of the law's calls -/
structure Cals (P : Program) (w : World) (K : PySem.W.Frag) (mg : Str → Option Value) (base : Heap) (C : Addr) (T : Tp) (k : Nat) : Prop where
  hist : Cal P w K mg base k "_law_history" ["_law_script", "_law_most"] (spHist K T)
  draw : Cal P w K mg base k "_law_draw" ["_law_cell", "_law_k"] spDraw
  signs : Cal P w K mg base k "_law_signs" ["_law_state"] (K1.spSigns T)
  rows : Cal P w K mg base k "_law_patch_rows" ["_law_name", "_law_knows", "_law_deeds"] (spRows K T)
  ptext : Cal P w K mg base k "patches_text" ["patches"] (spPText K C T)
  prows : Cal P w K mg base k "patch_rows" ["patch"] (spPRows K C T)
  read : Cal P w K mg base k "read_patches" ["text"] (spRead K C T)
  make : MakP P w K mg base k C T
  told : MetT P w K mg base k C T
theorem MadeN.up {n m : Nat} {C : Addr} {H : Hp} {x : Addr} {p : Pat} (h : MadeN n K C H x p) (l : n ≤ m) : MadeN m K C H x p := by
  obtain ⟨dx, fs, nv, kv, dv, h1, h2, r⟩ := h
  exact ⟨dx, fs, nv, kv, dv, h1, Nat.le_trans h2 l, r⟩
/-- the lists of the rows -/
def RowsAll (H : Hp) (vs : List V) (ps : List Pat) : Prop := vs.length = ps.length ∧ ∀ (j : Nat) (q : Pat), ps[j]? = some q → ∃ l : Addr, vs[j]? = some (V.ref l) ∧ H l = some (.lst ((rowsOf q).map V.str))
theorem RowsAll.go {T : Tp} {H H' : Hp} {vs : List V} {ps : List Pat} (h : RowsAll H vs ps) (g : Go T D0 H H') (t : TG T H) : RowsAll H' vs ps := ⟨h.1, fun j q hq => by
  obtain ⟨l, h1, h2⟩ := h.2 j q hq
  exact ⟨l, h1, g.at t (fun z => z) h2⟩⟩
theorem RowsAll.cutgo {T : Tp} {H H' : Hp} {Y : Addr} {vs : List V} {ps : List Pat} (h : RowsAll (cut (plus C0 Y) H) vs ps) (g : Go T D0 H H') (t : TG T H) : RowsAll (cut (plus C0 Y) H') vs ps := ⟨h.1, fun j q hq => by
  obtain ⟨l, h1, h2⟩ := h.2 j q hq
  obtain ⟨h3, h4⟩ := cut_some h2
  exact ⟨l, h1, (cut_at h3).trans (g.at t (fun z => z) h4)⟩⟩
theorem RowsAll.cut {H : Hp} {Y : Addr} {vs : List V} {ps : List Pat} (h : RowsAll (K1.cut (plus C0 Y) H) vs ps) : RowsAll H vs ps := ⟨h.1, fun j q hq => by
  obtain ⟨l, h1, h2⟩ := h.2 j q hq
  exact ⟨l, h1, (cut_some h2).2⟩⟩
theorem RowsAll.snoc {H : Hp} {vs : List V} {ps : List Pat} {l : Addr} {p : Pat} (m : RowsAll H vs ps) (h : H l = some (.lst ((rowsOf p).map V.str))) : RowsAll H (vs ++ [.ref l]) (ps ++ [p]) := by
  refine ⟨by rw [List.length_append, List.length_append, m.1]; rfl, fun i q hq => ?_⟩
  rcases Nat.lt_trichotomy i ps.length with hlt | heq | hgt
  · rw [List.getElem?_append_left hlt] at hq
    rw [List.getElem?_append_left (by rw [m.1]; exact hlt)]
    exact m.2 i q hq
  · subst heq
    rw [List.getElem?_append_right (Nat.le_refl _), Nat.sub_self] at hq
    cases hq
    refine ⟨l, ?_, h⟩
    rw [← m.1, List.getElem?_append_right (Nat.le_refl _), Nat.sub_self]
    rfl
  · rw [List.getElem?_eq_none (by rw [List.length_append]; show ps.length + 1 ≤ i; omega)] at hq
    cases hq
theorem MadeAll.cutgo {T : Tp} {C Y : Addr} {H H' : Hp} {vs : List V} {ps : List Pat} (h : MadeAll K C (K1.cut (plus C0 Y) H) vs ps) (g : Go T D0 H H') (t : TG T H) : MadeAll K C (K1.cut (plus C0 Y) H') vs ps := h.sup (Sup.go g t).cuts
theorem joinL_join (s : List Nat) : ∀ L : List (List (List Nat)), (∀ l ∈ L, l ≠ []) → TL.joinL s (L.map (TL.joinL s)) = TL.joinL s L.flatten
  | [], _ => rfl
  | [l], _ => by simp [TL.joinL]
  | l :: m :: r, h => by
    have ih := joinL_join s (m :: r) fun x hx => h x (List.mem_cons_of_mem _ hx)
    have hm := h m (List.mem_cons_of_mem _ (List.mem_cons_self ..))
    have hl := h l (List.mem_cons_self ..)
    have app : ∀ (a b : List (List Nat)), a ≠ [] → b ≠ [] → TL.joinL s (a ++ b) = TL.joinL s a ++ (s ++ TL.joinL s b) := by
      intro a
      induction a with
      | nil => intro b h; exact absurd rfl h
      | cons x y iy =>
        intro b _ hb
        cases y with
        | nil =>
          cases b with
          | nil => exact absurd rfl hb
          | cons z w => rfl
        | cons u v =>
          have := iy b (by simp) hb
          show x ++ (s ++ TL.joinL s ((u :: v) ++ b)) = (x ++ (s ++ TL.joinL s (u :: v))) ++ _
          rw [this]
          simp only [List.append_assoc]
    rw [List.flatten_cons, app l (m :: r).flatten hl (by rw [List.flatten_cons]; exact fun z => hm (List.append_eq_nil_iff.mp z).1), ← ih]
    rfl
theorem text_join (ps : List Pat) : Txt.join "
" (ps.map fun q => Txt.join "
" (rowsOf q)) = textOf ps := by
  unfold textOf
  refine TL.ext_tl ?_
  rw [TL.join_eq, TL.tl_join, TL.join_eq, TL.tl_join]
  have e := joinL_join (TL.tl "
") (ps.map fun q => (rowsOf q).map TL.tl) (fun l hl => by
    obtain ⟨q, _, rfl⟩ := List.mem_map.mp hl
    simp [rowsOf])
  rw [List.map_map] at e
  have f : ((TL.tl ∘ fun q => Txt.join "\n" (rowsOf q)) : Pat → List Nat) = (TL.joinL (TL.tl "\n") ∘ fun q => (rowsOf q).map TL.tl) := by
    funext q
    show TL.tl (Txt.join "\n" (rowsOf q)) = TL.joinL (TL.tl "\n") ((rowsOf q).map TL.tl)
    rw [TL.join_eq, TL.tl_join]
  rw [List.map_map, f, e]
  congr 1
  clear e
  induction ps with
  | nil => rfl
  | cons q r ih => rw [List.map_cons, List.flatten_cons, ih, List.flatMap_cons, List.map_append]
theorem eP_lay {q : Pat} (h : q.ok) : (eP q).canLay0 = true := by
  have hD : ∀ d ∈ q.deeds, (eD d).canLay0 = true := fun d hd => by
    have o := h.deeds d hd
    cases d with
    | put a b ts =>
      have l1 := eL_lay o.1.str
      have l2 := eL_lay o.2.1.str
      have l3 : PyData.canLayAll0 (ts.map PyData.str) = true := layAll fun t ht => by simp [PyData.canLay0, (o.2.2 t ht).1]
      simp [eD, PyData.canLay0, PyData.canLayAll0, l1, l2, l3]
      decide +kernel
    | order a b =>
      have l1 := eL_lay (EdOk.str (.inl o.1))
      have l2 := eL_lay (EdOk.str (.inl o.2))
      simp [eD, PyData.canLay0, PyData.canLayAll0, l1, l2]
      decide +kernel
    | one k a =>
      have l1 := eL_lay (EdOk.str (.inl o))
      simp [eD, PyData.canLay0, PyData.canLayAll0, l1]
      cases k <;> decide +kernel
  have l1 := eN_lay (handOk h.name.1).1
  have l2 := layAll (f := eN) (l := q.knows) fun n hn => eN_lay (handOk (h.knows n hn).1).1
  have l3 := layAll (f := eD) (l := q.deeds) hD
  simp [eP, PyData.canLay0, PyData.canLayAll0, l1, l2, l3]
theorem eD_dep (d : Deed) : (eD d).depth ≤ 2 := by
  cases d with
  | put a b ts =>
    have h1 := eL_dep a
    have h2 := eL_dep b
    have h3 := depAll (f := PyData.str) (n := 0) (l := ts) fun t _ => by simp [PyData.depth]
    simp only [eD, PyData.depth, PyData.depthAll, h1, h2]
    omega
  | order a b =>
    have h1 := eL_dep a
    have h2 := eL_dep b
    simp only [eD, PyData.depth, PyData.depthAll, h1, h2]
    omega
  | one k a =>
    have h1 := eL_dep a
    simp only [eD, PyData.depth, PyData.depthAll, h1]
    omega
theorem eP_dep (q : Pat) : (eP q).depth ≤ 4 := by
  have h1 := eN_dep q.name
  have h2 := depAll (f := eN) (n := 1) (l := q.knows) fun n _ => Nat.le_of_eq (eN_dep n)
  have h3 := depAll (f := eD) (n := 2) (l := q.deeds) fun d _ => eD_dep d
  simp only [eP, PyData.depth, PyData.depthAll, h1]
  omega
theorem hist_sh {ps : List Pat} (h : ∀ q ∈ ps, q.ok) : SeqAt.shaped (.list (ps.map eP)) = true := by
  refine shaped_of ?_ ?_
  · show PyData.canLay0 (.list (ps.map eP)) = true
    simp only [PyData.canLay0]
    exact layAll fun q hq => eP_lay (h q hq)
  · have := depAll (f := eP) (n := 4) (l := ps) fun q _ => eP_dep q
    simp only [PyData.depth]
    omega
theorem ok_app {a b : Str} (h : PyData.strOk a = true) (h' : PyData.strOk b = true) : PyData.strOk (a ++ b) = true := by
  show (a ++ b).cps.all _ = true
  rw [← Array.all_toList, PySem.W.KAf.app_list, List.all_append, Bool.and_eq_true]
  have h1 : a.cps.all _ = true := h
  have h2 : b.cps.all _ = true := h'
  rw [← Array.all_toList] at h1 h2
  exact ⟨h1, h2⟩
theorem ok_join {s : Str} (hs : PyData.strOk s = true) : ∀ {ws : List Str}, (∀ w ∈ ws, PyData.strOk w = true) → PyData.strOk (Txt.join s ws) = true
  | [], _ => by rw [show Txt.join s [] = "" from TL.ext_tl (by rw [TL.join_eq, TL.tl_join]; rfl)]; decide +kernel
  | [w], h => by
    rw [show Txt.join s [w] = w from TL.ext_tl (by rw [TL.join_eq, TL.tl_join]; rfl)]
    exact h w (List.mem_cons_self ..)
  | w :: v :: r, h => by
    rw [show Txt.join s (w :: v :: r) = w ++ (s ++ Txt.join s (v :: r)) from TL.ext_tl (by rw [TL.join_eq, TL.tl_join, TL.tl_append, TL.tl_append, TL.join_eq, TL.tl_join]; rfl)]
    exact ok_app (h w (List.mem_cons_self ..)) (ok_app hs (ok_join hs fun x hx => h x (List.mem_cons_of_mem _ hx)))
theorem num_ok {i : Int} (h : 0 ≤ i) : PyData.strOk (num i) = true := Asc.ok (asc_num h)
theorem lnTxt_ok {l : Ln} (h : EdOk l) (sm : 0 ≤ l.2.1 ∧ 0 ≤ l.2.2) : PyData.strOk (lnTxt l) = true := by
  unfold lnTxt
  split
  · decide +kernel
  · split
    · decide +kernel
    · exact ok_app (ok_app (ok_app (ok_app h.str (by decide +kernel)) (num_ok sm.1)) (by decide +kernel)) (num_ok sm.2)
theorem rows_ok {p : Pat} (h : p.sized) : ∀ r ∈ rowsOf p, PyData.strOk r = true := by
  have nn : 0 ≤ p.name.2 := Int.le_trans (by decide) h.ok.name.2.1
  intro r hr
  unfold rowsOf at hr
  rcases List.mem_cons.mp hr with rfl | hr
  · exact ok_app (ok_app (ok_app (by decide +kernel) (handOk h.ok.name.1).1) (by decide +kernel)) (num_ok nn)
  rcases List.mem_cons.mp hr with rfl | hr
  · refine ok_join (by decide +kernel) fun w hw => ?_
    rcases List.mem_cons.mp hw with rfl | hw
    · decide +kernel
    · unfold knownWords at hw
      split at hw
      · rw [List.mem_singleton.mp hw]
        decide +kernel
      · obtain ⟨n, hn, rfl⟩ := List.mem_map.mp hw
        exact nmTxt_ok (h.ok.knows n hn)
  · obtain ⟨d, hd, hr⟩ := List.mem_flatMap.mp hr
    unfold deedRows at hr
    rcases List.mem_cons.mp hr with rfl | hr
    · refine ok_join (by decide +kernel) fun w hw => ?_
      rcases List.mem_cons.mp hw with rfl | hw
      · cases d with
        | put => show PyData.strOk "put" = true; decide +kernel
        | order => show PyData.strOk "order" = true; decide +kernel
        | one k => show PyData.strOk (kindS k) = true; cases k <;> decide +kernel
      · obtain ⟨l, hl, rfl⟩ := List.mem_map.mp hw
        have eo := deed_ed (h.ok.deeds d hd) l hl
        have en := ed_nums eo (h.lines d hd l hl)
        exact lnTxt_ok eo ⟨en.2.1, en.2.2.2⟩
    · obtain ⟨t, ht, rfl⟩ := List.mem_map.mp hr
      exact ok_app (by decide +kernel) (deed_tx (h.ok.deeds d hd) t ht).1
theorem rows_sh {p : Pat} (h : p.sized) : SeqAt.shaped (.list ((rowsOf p).map PyData.str)) = true := by
  refine shaped_of ?_ ?_
  · show PyData.canLay0 (.list ((rowsOf p).map PyData.str)) = true
    simp only [PyData.canLay0]
    exact layAll fun r hr => by simp [PyData.canLay0, rows_ok h r hr]
  · have := depAll (f := PyData.str) (n := 0) (l := rowsOf p) fun t _ => by simp [PyData.depth]
    simp only [PyData.depth]
    omega
theorem text_one (q : Pat) : textOf [q] = Txt.join "\n" (rowsOf q) := by
  unfold textOf
  rw [List.flatMap_cons, List.flatMap_nil, List.append_nil]
theorem text_nil : textOf [] = "" := TL.ext_tl (by unfold textOf; rw [TL.join_eq, TL.tl_join]; rfl)
theorem one_sum {q : Pat} (h : q.fine) : ((rowsOf q).map (·.length)).sum ≤ 2200 ∧ (rowsOf q).length ≤ 46 := by
  have h1 := patSum h.sized
  have h2 := h.k4
  have h4 := h.d3
  have h5 := h.t41
  omega
end
end K1
set_option Elab.async false
set_option linter.all false
set_option maxRecDepth 100000
set_option maxHeartbeats 20000000
/-! The law. -/
namespace K1
open PySem PySem.Spec PyProof.Rows L2
section
variable {P : Program} {w : World} {K : PySem.W.Frag} {mg : Str → Option Value} {base : Heap} {T : Tp}
def spLaw (K : PySem.W.Frag) : Sp := fun vs H Q _ => ∃ (a : Addr) (ns : List Int), vs = [.ref a] ∧ SqL K H a (ns.map V.int) ∧ ns.length ≤ 63 ∧ TG ([] : Tp) H ∧ ∀ H', Q (.bl true) H'
theorem ok_law {f C : Addr} {fd : FuncData} {k : Nat} (F : Fun K "law" "law" sLaw f fd) (M : Mg K mg) (hzip : mg "zip" = none) (c : Cals P w K mg base C [] k) : FnOk P w K mg base CX0 (k + 2) f fd ["_law_script"] (spLaw K) := by
  refine F.ok scLaw (fun vs H Q E h => ?_) (fun cdv A outer s H vs Q E hr h => ?_)
  · obtain ⟨a, ns, rfl, _⟩ := h
    rfl
  · obtain ⟨a, ns, rfl, S, nl, tg, q⟩ := h
    have hr' := hr.mono (show k ≤ k + 1 from Nat.le_succ k)
    refine ⟨_, (pss_cons (ps_set (i := 1) scLaw.nd rfl (.inl rfl) (pe_cal c.hist hr' (by rfl) (pa_cons (pv 0) (pa_cons pe_int pa_nil))))
      (pss_cons (ps_set (i := 2) scLaw.nd rfl (.inl rfl) (pe_op op_catS (pe_slice sl_list (pv 0) po_none (po_some pe_int)) (pe_lst (pa_cons (pe_callB (cr_sum rfl) (by rfl) M.sum_ (by decide +kernel) (pa_cons (pv 0) pa_nil)) pa_nil))))
      (pss_cons (ps_setLc (i := 5) (own := [("_law_k", 3), ("_law_cell", 4)]) (g := (gTup K 2 (gCons (gName 3) (gCons (gName 4) gNil)))) (tt := tYes) rfl scLaw.nd rfl rfl (sw_true rfl rfl rfl (by decide +kernel)) (pi_enum (by rfl) M.enum_ (pa_cons (pv 2) pa_nil)) (blkOk_by (N := ["_law_script", "_law_history_here", "_law_cells", "_law_k", "_law_cell", "_law_texts", "_law_deeds", "_law_name", "_law_knows", "_law_patches", "_law_rows", "_law_one", "_law_whole", "_law_turn", "_law_read", "_law_patch_here", "_law_own", "_law_told", "_law_found", "_law_alone"]) (sc := defScope sLaw) (by decide +kernel)) (fun _ _ _ _ _ => (pg_tup rfl (pgs_cons (pg_name (i := 3) scLaw.nd rfl (Or.inl rfl)) (pgs_cons (pg_name (i := 4) scLaw.nd rfl (Or.inl rfl)) pgs_nil)))) (fun _ _ _ _ _ => pts_nil) (fun _ _ _ _ _ => (pe_cal c.signs hr' (by rfl) (pa_cons (pe_cal c.draw hr' (by rfl) (pa_cons (pv 4) (pa_cons (pe_op op_add pe_int (pv 3)) pa_nil))) pa_nil))))
      (pss_cons (ps_set (i := 6) scLaw.nd rfl (.inl rfl) (pe_lst (pa_cons (pe_tup (pa_cons pe_str (pa_cons (pe_tup (pa_cons pe_str (pa_cons pe_int (pa_cons pe_int pa_nil)))) (pa_cons (pe_tup (pa_cons pe_str (pa_cons pe_int (pa_cons pe_int pa_nil)))) (pa_cons (pe_callTy call_tuple_of (by rfl) M.tuple_ (by decide +kernel) (pa_cons (pv 5) pa_nil)) pa_nil))))) (pa_cons (pe_tup (pa_cons pe_str (pa_cons (pe_tup (pa_cons pe_str (pa_cons pe_int (pa_cons pe_int pa_nil)))) pa_nil))) pa_nil))))
      (pss_cons (ps_expr (pe_bm PySem.F.plainAttrs_list PySem.F.slot_list_append PySem.F.type_list_append mt_append (pv 1) (pa_cons (pe_tup (pa_cons (pe_tup (pa_cons pe_str (pa_cons pe_int pa_nil))) (pa_cons (pe_lst (pa_cons (pe_ix (show IxR _ (rIxT K) from ix_tup) (pe_ix (show IxR _ (rIxL K) from ix_list) (pv 1) pe_int (fun _ _ => rfl)) pe_int (fun _ _ => rfl)) pa_nil)) (pa_cons (pv 6) pa_nil)))) pa_nil)))
      (pss_cons (ps_setLc (i := 9) (own := [("_law_name", 7), ("_law_knows", 8), ("_law_deeds", 6)]) (g := (gTup K 3 (gCons (gName 7) (gCons (gName 8) (gCons (gName 6) gNil))))) (tt := tYes) rfl scLaw.nd rfl rfl (sw_true rfl rfl rfl (by decide +kernel)) (pi_list (pv 1)) (blkOk_by (N := ["_law_script", "_law_history_here", "_law_cells", "_law_k", "_law_cell", "_law_texts", "_law_deeds", "_law_name", "_law_knows", "_law_patches", "_law_rows", "_law_one", "_law_whole", "_law_turn", "_law_read", "_law_patch_here", "_law_own", "_law_told", "_law_found", "_law_alone"]) (sc := defScope sLaw) (by decide +kernel)) (fun _ _ _ _ _ => (pg_tup rfl (pgs_cons (pg_name (i := 7) scLaw.nd rfl (Or.inl rfl)) (pgs_cons (pg_name (i := 8) scLaw.nd rfl (Or.inl rfl)) (pgs_cons (pg_name (i := 6) scLaw.nd rfl (Or.inl rfl)) pgs_nil))))) (fun _ _ _ _ _ => pts_nil) (fun _ _ _ _ _ => (pe_mkP c.make hr (Nat.le_refl _) (by rfl) (pa_cons (pv 7) (pa_cons (pv 8) (pa_cons (pv 6) pa_nil))))))
      (pss_cons (ps_setLc (i := 10) (own := [("_law_name", 7), ("_law_knows", 8), ("_law_deeds", 6)]) (g := (gTup K 3 (gCons (gName 7) (gCons (gName 8) (gCons (gName 6) gNil))))) (tt := tYes) rfl scLaw.nd rfl rfl (sw_true rfl rfl rfl (by decide +kernel)) (pi_list (pv 1)) (blkOk_by (N := ["_law_script", "_law_history_here", "_law_cells", "_law_k", "_law_cell", "_law_texts", "_law_deeds", "_law_name", "_law_knows", "_law_patches", "_law_rows", "_law_one", "_law_whole", "_law_turn", "_law_read", "_law_patch_here", "_law_own", "_law_told", "_law_found", "_law_alone"]) (sc := defScope sLaw) (by decide +kernel)) (fun _ _ _ _ _ => (pg_tup rfl (pgs_cons (pg_name (i := 7) scLaw.nd rfl (Or.inl rfl)) (pgs_cons (pg_name (i := 8) scLaw.nd rfl (Or.inl rfl)) (pgs_cons (pg_name (i := 6) scLaw.nd rfl (Or.inl rfl)) pgs_nil))))) (fun _ _ _ _ _ => pts_nil) (fun _ _ _ _ _ => (pe_cal c.rows hr' (by rfl) (pa_cons (pv 7) (pa_cons (pv 8) (pa_cons (pv 6) pa_nil))))))
      (pss_cons (ps_set (i := 12) scLaw.nd rfl (.inl rfl) (pe_join pe_str (pe_lc (own := [("_law_one", 11)]) (g := gName 11) (tt := tYes) rfl scLaw.nd (pi_list (pv 10)) (blkOk_by (N := ["_law_script", "_law_history_here", "_law_cells", "_law_k", "_law_cell", "_law_texts", "_law_deeds", "_law_name", "_law_knows", "_law_patches", "_law_rows", "_law_one", "_law_whole", "_law_turn", "_law_read", "_law_patch_here", "_law_own", "_law_told", "_law_found", "_law_alone"]) (sc := defScope sLaw) (by decide +kernel)) (fun _ _ _ _ _ => (pg_name (i := 11) scLaw.nd rfl (Or.inl rfl))) (fun _ _ _ _ _ => pts_nil) (fun _ _ _ _ _ => (pe_joinK pe_str (pv 11))))))
      (pss_cons (ps_if (PW.pt (pw_or (pt_cmpR op_ne (pe_cal c.ptext hr' (by rfl) (pa_cons (pv 9) pa_nil)) (pv 12) (nomark _)) (pw_or1 (pt_cmpR op_ne (pe_cal c.ptext hr' (by rfl) (pa_cons (pv 9) pa_nil)) (pv 12) (nomark _)))))
      (pss_one (ps_ret pe_bl))
      pss_nil)
      (pss_cons (ps_for PassesOwn.never rfl (pi_range1 (by rfl) M.range_ (pa_cons pe_int pa_nil)) (pg_name (i := 13) scLaw.nd rfl (.inl rfl))
      (pss_cons (ps_set (i := 14) scLaw.nd rfl (.inl rfl) (pe_cal c.read hr' (by rfl) (pa_cons (pv 12) pa_nil)))
      (pss_cons (ps_if (PW.pt (pw_or (pt_not (pt_val (pe_callB call_isi (by rfl) M.ins boot_isinstance (pa_cons (pv 14) (pa_cons (pe_bltn (v := .ty "list") (by rfl) M.list_ (by decide +kernel) rfl) pa_nil))))) (pw_or1 (pt_cmpR (op_neD hr.units) (pe_lc (own := [("_law_patch_here", 15)]) (g := gName 15) (tt := tYes) rfl scLaw.nd (pi_list (pv 14)) (blkOk_by (N := ["_law_script", "_law_history_here", "_law_cells", "_law_k", "_law_cell", "_law_texts", "_law_deeds", "_law_name", "_law_knows", "_law_patches", "_law_rows", "_law_one", "_law_whole", "_law_turn", "_law_read", "_law_patch_here", "_law_own", "_law_told", "_law_found", "_law_alone"]) (sc := defScope sLaw) (by decide +kernel)) (fun _ _ _ _ _ => (pg_name (i := 15) scLaw.nd rfl (Or.inl rfl))) (fun _ _ _ _ _ => pts_nil) (fun _ _ _ _ _ => (pe_told c.told hr' (Nat.le_refl _) (pv 15)))) (pv 1) (nomark _)))))
      (pss_one (ps_ret pe_bl))
      pss_nil)
      (pss_cons (ps_expr (pe_bm PySem.F.plainAttrs_list PySem.F.slot_list_append PySem.F.type_list_append mt_append (pe_ix ix_tup (pe_told c.told hr' (Nat.le_refl _) (pe_ix (show IxR _ (rIxL K) from ix_list) (pv 14) pe_int (fun _ _ => rfl))) pe_int (fun _ _ => rfl)) (pa_cons pe_int pa_nil)))
      (pss_one (ps_expr (pe_bm PySem.F.plainAttrs_list PySem.F.slot_list_append PySem.F.type_list_append mt_append (pv 14) (pa_cons pe_int pa_nil))))))))
      (pss_cons (ps_for PassesOwn.never rfl (pi_zip3 (by rfl) hzip (pa_cons (pv 9) (pa_cons (pv 10) (pa_cons (pv 1) pa_nil)))) (pg_tup rfl (pgs_cons (pg_name (i := 15) scLaw.nd rfl (.inl rfl)) (pgs_cons (pg_name (i := 16) scLaw.nd rfl (.inl rfl)) (pgs_cons (pg_name (i := 17) scLaw.nd rfl (.inl rfl)) pgs_nil))))
      (pss_cons (ps_set (i := 18) scLaw.nd rfl (.inl rfl) (pe_cal c.prows hr' (by rfl) (pa_cons (pv 15) pa_nil)))
      (pss_cons (ps_set (i := 19) scLaw.nd rfl (.inl rfl) (pe_cal c.read hr' (by rfl) (pa_cons (pe_join pe_str (pv 16)) pa_nil)))
      (pss_cons (ps_if (PW.pt (pw_or (pt_cmpR (op_neD hr.units) (pv 18) (pv 16) (nomark _)) (pw_or (pt_not (pt_val (pe_callB call_isi (by rfl) M.ins boot_isinstance (pa_cons (pv 18) (pa_cons (pe_bltn (v := .ty "list") (by rfl) M.list_ (by decide +kernel) rfl) pa_nil))))) (pw_or1 (pt_cmpR (op_neD hr.units) (pe_lc (own := [("_law_one", 11)]) (g := gName 11) (tt := tYes) rfl scLaw.nd (pi_list (pv 19)) (blkOk_by (N := ["_law_script", "_law_history_here", "_law_cells", "_law_k", "_law_cell", "_law_texts", "_law_deeds", "_law_name", "_law_knows", "_law_patches", "_law_rows", "_law_one", "_law_whole", "_law_turn", "_law_read", "_law_patch_here", "_law_own", "_law_told", "_law_found", "_law_alone"]) (sc := defScope sLaw) (by decide +kernel)) (fun _ _ _ _ _ => (pg_name (i := 11) scLaw.nd rfl (Or.inl rfl))) (fun _ _ _ _ _ => pts_nil) (fun _ _ _ _ _ => (pe_told c.told hr' (Nat.le_refl _) (pv 11)))) (pe_lst (pa_cons (pv 17) pa_nil)) (nomark _))))))
      (pss_one (ps_ret pe_bl))
      pss_nil)
      (pss_one (ps_expr (pe_bm PySem.F.plainAttrs_list PySem.F.slot_list_append PySem.F.type_list_append mt_append (pv 18) (pa_cons pe_str pa_nil))))))))
      (pss_one (ps_ret (pe_cmpR op_eq (pe_cal c.ptext hr' (by rfl) (pa_cons (pe_lst pa_nil) pa_nil)) pe_str (nomark _))))))))))))))), ?_⟩
    refine ⟨.ref a, rfl, a, ns, 63, rfl, S, nl, by decide, tg, fun H1 p xs hist g1 hp ep dh hf hlen => ?_⟩
    have hl1 : 1 ≤ hist.length ∧ hist.length ≤ 63 := by omega
    have hfine := hf.fine menuH_ok (by omega)
    have S1 := g1.seqL tg (fun _ _ z => z) S
    refine ⟨.ref a, rfl, 40, rfl, a, _, rfl, S1, fun z0 hz0 => ?_⟩
    have g2 := (Go.rfl' (D := D0) g1.1).new (o := .lst (cutV (ns.map V.int) none (some 40))) hz0
    have ez2 : (upd H1 z0 (.lst (cutV (ns.map V.int) none (some 40)))) z0 = some (.lst ((ns.take 40).map V.int)) := by
      rw [upd_same]
      unfold cutV
      rw [HT.sIx_none, show HT.sIx (ns.map V.int).length (ns.map V.int).length (some (40 : Int)) = min 40 (ns.map V.int).length from HT.sIx_nat _ _ 40, List.drop_zero, Nat.sub_zero, List.map_take]
      by_cases h : 40 ≤ (ns.map V.int).length
      · rw [Nat.min_eq_left h]
      · rw [Nat.min_eq_right (by omega), List.take_of_length_le (Nat.le_refl _), List.take_of_length_le (by omega)]
    generalize upd H1 z0 (.lst (cutV (ns.map V.int) none (some 40))) = H2 at g2 ez2 ⊢
    have S2 := (g1.trans g2).seqL tg (fun _ _ z => z) S
    refine ⟨.ref a, rfl, a, ns, rfl, S2, small_le (by show 1 ≤ 10000; decide), fun b hb => ?_⟩
    have g3 := g2.new (o := .lst [V.int ns.sum]) hb
    have ez3 := (upd_ne (o := .lst [V.int ns.sum]) (ne_of_none ez2 hb)).trans ez2
    have eb : (upd H2 b (.lst [V.int ns.sum])) b = some (.lst [V.int ns.sum]) := upd_same
    generalize upd H2 b (.lst [V.int ns.sum]) = H3 at g3 ez3 eb ⊢
    refine ⟨z0, b, _, _, rfl, rfl, .inl (.inl ez3), .inl (.inl eb), small_le (by rw [List.length_map, List.length_take]; show min 40 ns.length + 1 ≤ 10000; omega), fun z hz => ?_⟩
    have g4 := g3.new (o := .lst ((ns.take 40).map V.int ++ [V.int ns.sum])) hz
    have ez : (upd H3 z (.lst ((ns.take 40).map V.int ++ [V.int ns.sum]))) z = some (.lst ((ns.take 40 ++ [ns.sum]).map V.int)) := by rw [upd_same, List.map_append]; rfl
    generalize upd H3 z (.lst ((ns.take 40).map V.int ++ [V.int ns.sum])) = H4 at g4 ez ⊢
    generalize hcs : ns.take 40 ++ [ns.sum] = cs at ez
    have cl : 1 ≤ cs.length ∧ cs.length ≤ 41 := by rw [← hcs, List.length_append, List.length_take]; show 1 ≤ min 40 ns.length + 1 ∧ min 40 ns.length + 1 ≤ 41; omega
    refine ⟨.ref z, rfl, z, _, rfl, .inl (.inl ez), fun D hD => ?_⟩
    refine lc_it (walk_enum (K := K) (a := z) (xs := cs.map V.int)) (fun j H5 => ∃ ts : List Str, Go [] D0 H1 H5 ∧ H5 z = some (.lst (cs.map V.int)) ∧ H5 D = some (.lst (ts.map V.str)) ∧ ts.length = j ∧ ∀ t ∈ ts, TxOk t) ?_ ?_ ?_ ?_
    · exact ⟨[], g4.new hD, (upd_ne (ne_of_none ez hD)).trans ez, upd_same, rfl, fun t h => by cases h⟩
    · rintro j H5 hj ⟨ts, g5, ez5, _⟩
      exact .inl (.inl ez5)
    · rintro j x H5 H5' hj ⟨ts, g5, ez5, D5, tl, tok⟩ ⟨T', x', y', rfl, hT, rfl, hx', hy'⟩
      cases hx'
      have hy' : (cs.map V.int)[j]? = some y' := hy'
      have hj' : j < cs.length := by rw [List.length_map] at hj; exact hj
      rw [List.getElem?_map, List.getElem?_eq_getElem hj'] at hy'
      cases hy'
      have g6 := g5.new (o := .tup [V.int (j : Nat), .int cs[j]]) hT
      have ez6 := (upd_ne (o := .tup [V.int (j : Nat), .int cs[j]]) (ne_of_none ez5 hT)).trans ez5
      have D6 := (upd_ne (o := .tup [V.int (j : Nat), .int cs[j]]) (ne_of_none D5 hT)).trans D5
      refine ⟨T', _, rfl, .inl (.inl upd_same), rfl, _, _, rfl, _, _, rfl, rfl, rfl, ?_⟩
      generalize upd H5 T' (.tup [V.int (j : Nat), .int cs[j]]) = H6 at g6 ez6 D6 ⊢
      refine ⟨.int cs[j], rfl, .int (j : Nat), rfl, 300, (j : Nat), rfl, rfl, cs[j], 300 + ((j : Nat) : Int), rfl, by omega, by omega, fun dd ra rb ha hb hdd => ?_⟩
      have g7 := g6.new (o := .dK (stD ra rb)) hdd
      have ez7 := (upd_ne (o := .dK (stD ra rb)) (ne_of_none ez6 hdd)).trans ez6
      have D7 := (upd_ne (o := .dK (stD ra rb)) (ne_of_none D6 hdd)).trans D6
      have s7 : St (upd H6 dd (.dK (stD ra rb))) dd := ⟨ra, rb, ha, hb, upd_same⟩
      have fdd : H1 dd = none := g6.free g1.1 (fun z => z) hdd
      generalize upd H6 dd (.dK (stD ra rb)) = H7 at g7 ez7 D7 s7 ⊢
      refine ⟨dd, rfl, s7, g7.1, fun H8 y g8 s8 ty => ?_⟩
      have ez8 := g8.at g7.1 (s7.ne ez7) ez7
      have D8 := g8.at g7.1 (s7.ne D7) D7
      have g18 : Go [] D0 H1 H8 := (g7.up.trans g8).drop fdd
      have fD : H1 D = none := g4.free g1.1 (fun z => z) hD
      have nzD : z ≠ D := ne_of_none ez hD
      refine ⟨_, D8, small_line (by rw [List.length_map]; omega), ts ++ [y], g18.put fD D8, (upd_ne nzD).trans ez8, by rw [upd_same, List.map_append]; rfl, by rw [List.length_append, tl]; rfl, ?_⟩
      intro t ht
      rcases List.mem_append.mp ht with h | h
      · exact tok t h
      · rw [List.mem_singleton.mp h]
        exact ty
    rintro H5 ⟨ts, g5, _, D5, tl, tok⟩
    rw [List.length_map] at tl
    have t1 := g5.1
    -- the deeds
    refine ⟨small_le (by show 3 ≤ 10000; decide), fun a1 ha1 => ?_⟩
    have k1 : Go [] D0 H5 (upd H5 a1 (.tup [V.str "", .int 0, .int 0])) := (Go.rfl' t1).new ha1
    have d1 : Dp K (upd H5 a1 (.tup [V.str "", .int 0, .int 0])) (.ref a1) (eL headL) := .tup (.inl (.inl upd_same)) (.cons (.str _) (.cons (.int _) (.one (.int _))))
    generalize upd H5 a1 (.tup [V.str "", .int 0, .int 0]) = G1 at k1 d1 ⊢
    refine ⟨small_le (by show 3 ≤ 10000; decide), fun a2 ha2 => ?_⟩
    have k2 := k1.new (o := .tup [V.str "", .int 0, .int 1]) ha2
    have d1' := Dp.sub (Sub.new (o := .tup [V.str "", .int 0, .int 1]) ha2) _ _ d1
    have d2 : Dp K (upd G1 a2 (.tup [V.str "", .int 0, .int 1])) (.ref a2) (eL footL) := .tup (.inl (.inl upd_same)) (.cons (.str _) (.cons (.int _) (.one (.int _))))
    generalize upd G1 a2 (.tup [V.str "", .int 0, .int 1]) = G2 at k2 d1' d2 ⊢
    refine ⟨.ref D, rfl, D, _, rfl, .inl ⟨.inl (.inl (k2.at t1 (fun z => z) D5)), fun a3 ha3 => ⟨small_le (by show 4 ≤ 10000; decide), fun a4 ha4 => ?_⟩⟩⟩
    have k3 := k2.new (o := .tup (ts.map V.str)) ha3
    have d3 : Dp K (upd G2 a3 (.tup (ts.map V.str))) (.ref a3) (.tuple (ts.map .str)) := .tup (.inl (.inl upd_same)) (strs_dp ts)
    have s3 := Sub.new (o := .tup (ts.map V.str)) ha3
    have d13 := Dp.sub s3 _ _ d1'
    have d23 := Dp.sub s3 _ _ d2
    generalize upd G2 a3 (.tup (ts.map V.str)) = G3 at k3 d3 d13 d23 ha4 ⊢
    have k4 := k3.new (o := .tup [V.str "put", .ref a1, .ref a2, .ref a3]) ha4
    have s4 := Sub.new (o := .tup [V.str "put", .ref a1, .ref a2, .ref a3]) ha4
    have d4 : Dp K (upd G3 a4 (.tup [V.str "put", .ref a1, .ref a2, .ref a3])) (.ref a4) (eD (.put headL footL ts)) := .tup (.inl (.inl upd_same)) (.cons (.str _) (.cons (Dp.sub s4 _ _ d13) (.cons (Dp.sub s4 _ _ d23) (.one (Dp.sub s4 _ _ d3)))))
    generalize upd G3 a4 (.tup [V.str "put", .ref a1, .ref a2, .ref a3]) = G4 at k4 d4 ⊢
    refine ⟨small_le (by show 3 ≤ 10000; decide), fun a5 ha5 => ⟨small_le (by show 2 ≤ 10000; decide), fun a6 ha6 => ?_⟩⟩
    have k5 := k4.new (o := .tup [V.str "zz", .int 999, .int 1]) ha5
    have s5 := Sub.new (o := .tup [V.str "zz", .int 999, .int 1]) ha5
    have d5 : Dp K (upd G4 a5 (.tup [V.str "zz", .int 999, .int 1])) (.ref a5) (eL ("zz", 999, 1)) := .tup (.inl (.inl upd_same)) (.cons (.str _) (.cons (.int _) (.one (.int _))))
    have d45 := Dp.sub s5 _ _ d4
    generalize upd G4 a5 (.tup [V.str "zz", .int 999, .int 1]) = G5 at k5 d5 d45 ha6 ⊢
    have k6 := k5.new (o := .tup [V.str "keep", .ref a5]) ha6
    have s6 := Sub.new (o := .tup [V.str "keep", .ref a5]) ha6
    have d6 : Dp K (upd G5 a6 (.tup [V.str "keep", .ref a5])) (.ref a6) (eD (.one true ("zz", 999, 1))) := .tup (.inl (.inl upd_same)) (.cons (.str _) (.one (Dp.sub s6 _ _ d5)))
    have d46 := Dp.sub s6 _ _ d45
    generalize upd G5 a6 (.tup [V.str "keep", .ref a5]) = G6 at k6 d6 d46 ⊢
    refine ⟨small_le (by show 2 ≤ 10000; decide), fun L hL => ?_⟩
    have k7 := k6.new (o := .lst [V.ref a4, .ref a6]) hL
    have s7 := Sub.new (o := .lst [V.ref a4, .ref a6]) hL
    have dL : DpAll K (upd G6 L (.lst [V.ref a4, .ref a6])) [V.ref a4, .ref a6] ((patZ ("zz", 999) ts).deeds.map eD) := .cons (Dp.sub s7 _ _ d46) (.one (Dp.sub s7 _ _ d6))
    have eL7 : (upd G6 L (.lst [V.ref a4, .ref a6])) L = some (.lst [V.ref a4, .ref a6]) := upd_same
    generalize upd G6 L (.lst [V.ref a4, .ref a6]) = G7 at k7 dL eL7 ⊢
    have g17 : Go [] D0 H1 G7 := g5.trans k7
    have ep7 := g17.at g1.1 (fun z => z) ep
    have dh7 := Dp.subs (sub_go g17 g1.1).cuts _ _ dh
    have nLp : L ≠ p := fun z => by
      have e := (g5.trans k6).at g1.1 (fun z => z) ep
      rw [← z, hL] at e
      cases e
    -- the history's last patch
    obtain ⟨ph, hrest, rfl⟩ : ∃ ph r, hist = ph :: r := by
      cases hist with
      | nil => simp at hl1
      | cons x r => exact ⟨x, r, rfl⟩
    have xs0 : ∃ v0 xr, xs = v0 :: xr ∧ Dp K (cut (plus C0 p) G7) v0 (eP ph) := by
      cases dh7 with
      | cons a b => exact ⟨_, _, rfl, a⟩
    obtain ⟨v0, xr, rfl, dv0⟩ := xs0
    obtain ⟨b0, bs, rfl, Sb, dbs⟩ := Dp.tupI (Dp.sub Sub.cut _ _ dv0)
    obtain ⟨nv0, kv0, dvv0, rfl, dn0, _, _⟩ := DpAll.i3 dbs
    have nv0c : Dp K (cut (plus C0 p) G7) nv0 (eN ph.name) := Dp.cutD ep7 _ _ (eN_nol _) dn0
    refine ⟨.ref p, rfl, .inl ⟨rfl, _, .inl (.inl ep7)⟩, small_le (by show 2 ≤ 10000; decide), fun u1 hu1 => ?_⟩
    have q1 := k7.new (o := .tup [V.str "zz", .int 999]) hu1
    have r1 : Dp K (upd G7 u1 (.tup [V.str "zz", .int 999])) (.ref u1) (eN ("zz", 999)) := .tup (.inl (.inl upd_same)) (.cons (.str _) (.one (.int _)))
    have w1 := Sub.new (o := .tup [V.str "zz", .int 999]) hu1
    have nup : u1 ≠ p := fun z => by rw [z, ep7] at hu1; cases hu1
    have r1c : Dp K (cut (plus C0 p) (upd G7 u1 (.tup [V.str "zz", .int 999]))) (.ref u1) (eN ("zz", 999)) := .tup (.inl (.inl ((cut_at (by simp [plus, nup])).trans upd_same))) (.cons (.str _) (.one (.int _)))
    have m1 : Sub (cut (plus C0 p) G7) (cut (plus C0 p) (upd G7 u1 (.tup [V.str "zz", .int 999]))) := w1.cuts
    generalize upd G7 u1 (.tup [V.str "zz", .int 999]) = E1 at q1 r1 w1 r1c m1 ⊢
    have ep1 := (g5.trans q1).at g1.1 (fun z => z) ep
    refine ⟨.ref p, rfl, p, _, 0, .ref b0, rfl, rfl, .inl (.inl ep1), atI_nat (j := 0) rfl, b0, _, 0, nv0, rfl, rfl, w1.seqT Sb, atI_nat (j := 0) rfl, small_le (by show 1 ≤ 10000; decide), fun u2 hu2 => ?_⟩
    have q2 := q1.new (o := .lst [nv0]) hu2
    have w2 := Sub.new (o := .lst [nv0]) hu2
    have e2 : (upd E1 u2 (.lst [nv0])) u2 = some (.lst [nv0]) := upd_same
    have nu2p : u2 ≠ p := fun z => by rw [z, ep1] at hu2; cases hu2
    have m2 := w2.cuts (C := plus C0 p)
    generalize upd E1 u2 (.lst [nv0]) = E2 at q2 w2 e2 m2 ⊢
    have ep2 := (g5.trans q2).at g1.1 (fun z => z) ep
    have eL2 := (w1.trans w2) L _ eL7 ⟨_, .inl rfl⟩
    refine ⟨.ref L, rfl, small_le (by show 3 ≤ 10000; decide), fun u3 hu3 => ?_⟩
    have q3 := q2.new (o := .tup [V.ref u1, .ref u2, .ref L]) hu3
    have w3 := Sub.new (o := .tup [V.ref u1, .ref u2, .ref L]) hu3
    have e3 : (upd E2 u3 (.tup [V.ref u1, .ref u2, .ref L])) u3 = some (.tup [V.ref u1, .ref u2, .ref L]) := upd_same
    have nu3p : u3 ≠ p := fun z => by rw [z, ep2] at hu3; cases hu3
    have m3 := w3.cuts (C := plus C0 p)
    generalize upd E2 u3 (.tup [V.ref u1, .ref u2, .ref L]) = E3 at q3 w3 e3 m3 ⊢
    have g13 : Go [] D0 H1 E3 := g5.trans q3
    have ep3 := g13.at g1.1 (fun z => z) ep
    have e23 := w3 u2 _ e2 ⟨_, .inl rfl⟩
    have eL3 := w3 L _ eL2 ⟨_, .inl rfl⟩
    have pl : ∀ {x : Addr}, x ≠ p → plus C0 p x = false := fun h => by simp [plus, h]
    have mA : Sub (cut (plus C0 p) G7) (cut (plus C0 p) E3) := (m1.trans m2).trans m3
    have dLc := Dp.subs mA _ _ (Dp.cutDs ep7 _ _ (all_nol eD_nol _) dL)
    have dz : Dp K (cut (plus C0 p) E3) (.ref u3) (eP (patZ ph.name ts)) := .tup (.inl (.inl ((cut_at (pl nu3p)).trans e3))) (.cons (Dp.sub (m2.trans m3) _ _ r1c) (.cons (.lst (.inl (.inl ((cut_at (pl nu2p)).trans e23))) (.one (Dp.sub mA _ _ nv0c))) (.one (.lst (.inl (.inl ((cut_at (pl nLp)).trans eL3))) dLc))))
    have dE := (Dp.subs mA _ _ dh7).app (.one dz)
    have xl : (V.ref b0 :: xr).length = (ph :: hrest).length := by rw [DpAll.len dh7, List.length_map]
    refine ⟨p, V.ref b0 :: xr, .ref u3, rfl, rfl, ep3, small_line (by omega), ?_⟩
    have gB := (g1.trans g13).put (o := .lst ((V.ref b0 :: xr) ++ [.ref u3])) hp ep3
    have eB : (upd E3 p (.lst ((V.ref b0 :: xr) ++ [.ref u3]))) p = some (.lst ((V.ref b0 :: xr) ++ [.ref u3])) := upd_same
    have dB : DpAll K (upd E3 p (.lst ((V.ref b0 :: xr) ++ [.ref u3]))) ((V.ref b0 :: xr) ++ [.ref u3]) (((ph :: hrest) ++ [patZ ph.name ts]).map eP) := by
      rw [List.map_append]
      refine Dp.subs (Sub.cut (C := plus C0 p)) _ _ ?_
      rw [cut_out plus_D]
      exact dE
    have zz_ne : ph.name ≠ (("zz", 999) : Nm) := fun z => by
      have h := (hf 0 ph rfl).hand
      rw [z] at h
      revert h
      decide +kernel
    have fineP : ∀ q ∈ (ph :: hrest) ++ [patZ ph.name ts], q.fine := fun q hq => by
      rcases List.mem_append.mp hq with h | h
      · exact hfine q h
      · rw [List.mem_singleton.mp h]
        exact patZ_fine (hfine ph (List.mem_cons_self ..)).good.ok.name zz_ne tok (by omega) (by omega)
    have lenP : ((ph :: hrest) ++ [patZ ph.name ts]).length ≤ 64 := by rw [List.length_append]; show (ph :: hrest).length + 1 ≤ 64; omega
    have neP : (ph :: hrest) ++ [patZ ph.name ts] ≠ [] := by simp
    generalize (ph :: hrest) ++ [patZ ph.name ts] = ps at dB fineP lenP neP
    generalize (V.ref b0 :: xr) ++ [V.ref u3] = hv at gB eB dB ⊢
    generalize upd E3 p (.lst hv) = B0 at gB eB dB ⊢
    have tB0 := gB.1
    have hvl : hv.length = ps.length := by rw [DpAll.len dB, List.length_map]
    have itemB : ∀ {H6 : Hp} {i : Nat} {x : V}, Go [] D0 B0 H6 → hv[i]? = some x → ∃ (q : Pat) (u : Addr) (nv : V) (kl : Addr) (kvs : List V) (dl : Addr) (dvs : List V), ps[i]? = some q ∧ x = .ref u ∧ SqT K H6 u [nv, .ref kl, .ref dl] ∧ Dp K H6 nv (eN q.name) ∧ SqL K H6 kl kvs ∧ DpAll K H6 kvs (q.knows.map eN) ∧ SqL K H6 dl dvs ∧ DpAll K H6 dvs (q.deeds.map eD) ∧ q.fine := fun g hx => by
      obtain ⟨d0, hd0, dx⟩ := DpAll.at' dB hx
      rw [List.getElem?_map] at hd0
      rename_i i _
      cases hq : ps[i]? with
      | none => rw [hq] at hd0; cases hd0
      | some q =>
        rw [hq] at hd0
        cases hd0
        obtain ⟨u, us, rfl, Su, dus⟩ := Dp.tupI (Dp.sub (sub_go g tB0) _ _ dx)
        obtain ⟨nv, kv, dv, rfl, dn, dk, dd⟩ := DpAll.i3 dus
        obtain ⟨kl, kvs7, rfl, Sk, dks⟩ := Dp.lstI dk
        obtain ⟨dl, dvs, rfl, Sd, dds⟩ := Dp.lstI dd
        exact ⟨q, u, nv, kl, kvs7, dl, dvs, rfl, rfl, Su, dn, Sk, dks, Sd, dds, fineP q (List.mem_of_getElem? hq)⟩
    refine ⟨.ref p, rfl, p, rfl, ⟨_, .inl (.inl eB)⟩, fun X hX => ?_⟩
    refine lc_list (K := K) (a := p) (xs := hv) (fun i H6 => Go [] D0 B0 H6 ∧ ∃ out, H6 X = some (.lst out) ∧ MadeAll K C (cut (plus C0 X) H6) out (ps.take i)) ?_ ?_ ?_ ?_
    · exact ⟨(Go.rfl' tB0).new hX, [], upd_same, rfl, fun i p h => by cases h⟩
    · rintro i H6 hi ⟨g6, _⟩
      exact .inl (.inl (g6.at tB0 (fun z => z) eB))
    · rintro i x H6 hx ⟨g6, out, X6, md⟩
      obtain ⟨q, u, nv, kl, kvs, dl, dvs, hq, rfl, Su, dn, Sk, dks, Sd, dds, fq⟩ := itemB g6 hx
      have iq := (List.getElem?_eq_some_iff.mp hq).1
      have ol : out.length ≤ 64 := by
        have := md.1
        rw [List.length_take] at this
        omega
      refine ⟨u, _, rfl, Su, rfl, _, _, rfl, _, _, rfl, _, _, rfl, rfl, rfl, nv, rfl, .ref kl, rfl, .ref dl, rfl, ?_⟩
      intro y dy hy hdy ne
      have tg7 := g6.1.born (o := .own y) (o' := .ins C dy []) hy hdy ne
      have s7 : Sub H6 (upd (upd H6 dy (.own y)) y (.ins C dy [])) := (Sub.new hdy).trans (Sub.new (by rw [upd_ne ne.symm]; exact hy))
      refine ⟨y, dy, nv, kl, dl, kvs, dvs, q, rfl, upd_same, Dp.sub s7 _ _ dn, s7.seqL Sk, Dp.subs s7 _ _ dks, s7.seqL Sd, Dp.subs s7 _ _ dds, fq.good, tg7, fun H8 g8 mdy => ⟨rfl, ?_⟩⟩
      have g68 : Go [] D0 H6 H8 := g8.born g6.1 hy hdy ne
      have X8 := g68.at g6.1 (fun z => z) X6
      refine ⟨out, X8, small_line (by omega), (g6.trans g68).put hX X8, out ++ [.ref y], upd_same, ?_⟩
      rw [cut_out plus_D, List.take_add_one, hq]
      exact (md.cutgo g68 g6.1).snoc ((mdy.up (by decide)).cutD X8)
    rintro B1 ⟨gB1, out, X1, md⟩
    rw [hvl, List.take_length] at md
    have mdX := md.sup Sup.cut
    have tB1 := gB1.1
    have eB1 := gB1.at tB0 (fun z => z) eB
    -- the rows
    refine ⟨.ref p, rfl, p, rfl, ⟨_, .inl (.inl eB1)⟩, fun Y hY => ?_⟩
    refine lc_list (K := K) (a := p) (xs := hv) (fun i H6 => Go [] D0 B1 H6 ∧ ∃ rows, H6 Y = some (.lst rows) ∧ RowsAll (cut (plus C0 Y) H6) rows (ps.take i)) ?_ ?_ ?_ ?_
    · exact ⟨(Go.rfl' tB1).new hY, [], upd_same, rfl, fun i p h => by cases h⟩
    · rintro i H6 hi ⟨g6, _⟩
      exact .inl (.inl (g6.at tB1 (fun z => z) eB1))
    · rintro i x H6 hx ⟨g6, rows, Y6, rd⟩
      obtain ⟨q, u, nv, kl, kvs, dl, dvs, hq, rfl, Su, dn, Sk, dks, Sd, dds, fq⟩ := itemB (gB1.trans g6) hx
      have ol : rows.length ≤ 64 := by
        have := rd.1
        rw [List.length_take] at this
        omega
      refine ⟨u, _, rfl, Su, rfl, _, _, rfl, _, _, rfl, _, _, rfl, rfl, rfl, nv, rfl, .ref kl, rfl, .ref dl, rfl, nv, .ref kl, .ref dl, q, rfl, dn, .lst Sk dks, .lst Sd dds, fq.good.ok, fq.sized.lines, fq.sized.knows, fq.sized.texts, fq.sized.deeds, g6.1, fun H7 l g7 hl el => ?_⟩
      have Y7 := g7.at g6.1 (fun z => z) Y6
      have nlY : l ≠ Y := fun z => by rw [z, Y6] at hl; cases hl
      refine ⟨rows, Y7, small_line (by omega), (g6.trans g7).put hY Y7, rows ++ [.ref l], upd_same, ?_⟩
      rw [cut_out plus_D, List.take_add_one, hq]
      exact (rd.cutgo g7 g6.1).snoc ((cut_at (by simp [plus, nlY])).trans el)
    rintro B2 ⟨gB2, rows, Y2, rd⟩
    rw [hvl, List.take_length] at rd
    have rdX := rd.cut
    have tB2 := gB2.1
    have rl : rows.length = ps.length := rd.1
    have itemR : ∀ {H6 : Hp} {i : Nat} {x : V}, Go [] D0 B2 H6 → rows[i]? = some x → ∃ (q : Pat) (l : Addr), ps[i]? = some q ∧ x = .ref l ∧ H6 l = some (.lst ((rowsOf q).map V.str)) ∧ q.fine := fun g hx => by
      rename_i i _
      have hi := (List.getElem?_eq_some_iff.mp hx).1
      have hq : ps[i]? = some ps[i] := List.getElem?_eq_getElem (by omega)
      obtain ⟨l, h1, h2⟩ := rdX.2 i _ hq
      rw [hx] at h1
      cases h1
      exact ⟨_, l, hq, rfl, g.at tB2 (fun z => z) h2, fineP _ (List.mem_of_getElem? hq)⟩
    refine ⟨⟨"\n", rfl⟩, .ref Y, rfl, Y, rfl, ⟨_, .inl (.inl Y2)⟩, fun Z hZ => ?_⟩
    have nl1 : ("\n" : Str).length = 1 := by decide +kernel
    refine lc_list (K := K) (a := Y) (xs := rows) (fun i H6 => Go [] D0 B2 H6 ∧ H6 Z = some (.lst (((ps.take i).map fun q => Txt.join "\n" (rowsOf q)).map V.str))) ?_ ?_ ?_ ?_
    · exact ⟨(Go.rfl' tB2).new hZ, upd_same⟩
    · rintro i H6 hi ⟨g6, _⟩
      exact .inl (.inl (g6.at tB2 (fun z => z) Y2))
    · rintro i x H6 hx ⟨g6, Z6⟩
      obtain ⟨q, l, hq, rfl, el, fq⟩ := itemR g6 hx
      have sq := one_sum fq
      have iq := (List.getElem?_eq_some_iff.mp hq).1
      refine ⟨rfl, ⟨"\n", rfl⟩, .ref l, rfl, "\n", l, rowsOf q, rfl, rfl, .inl (.inl (.inl el)), by rw [nl1]; omega, _, Z6, small_line (by rw [List.length_map, List.length_map, List.length_take]; omega), g6.put hZ Z6, ?_⟩
      rw [upd_same, List.take_add_one, hq, List.map_append, List.map_append]
      rfl
    rintro B3 ⟨gB3, Z3⟩
    rw [rl, List.take_length] at Z3
    have jlen : ((ps.map fun q => Txt.join "\n" (rowsOf q)).map (·.length)).sum ≤ 2246 * (ps.map fun q => Txt.join "\n" (rowsOf q)).length := sum_le fun x hx => by
      obtain ⟨q, hq, rfl⟩ := List.mem_map.mp hx
      have s1 := one_sum (fineP q hq)
      have s2 := join_le "\n" (rowsOf q)
      rw [nl1] at s2
      omega
    refine ⟨"\n", Z, _, rfl, rfl, .inl (.inl (.inl Z3)), by rw [List.length_map] at jlen ⊢; rw [nl1]; omega, ?_⟩
    rw [text_join]
    -- all that stands from here on
    have tB := gB3.1
    have gHB := ((gB.trans gB1).trans gB2).trans gB3
    have eP := (gB2.trans gB3).at tB1 (fun z => z) eB1
    have eX := (gB2.trans gB3).at tB1 (fun z => z) X1
    have eY := gB3.at tB2 (fun z => z) Y2
    have mdB := mdX.sup (Sup.go (gB2.trans gB3) tB1)
    have rdB := rdX.go gB3 tB2
    have dPB := Dp.subs (sub_go ((gB1.trans gB2).trans gB3) tB0) _ _ dB
    have pats : ∀ {H6}, Go [] D0 B3 H6 → PatsAt K C H6 out ps := fun g => ⟨mdB.1, fun i v q hv' hq => by
      obtain ⟨x, h1, h2⟩ := (mdB.sup (Sup.go g tB)).2 i q hq
      rw [hv'] at h1
      cases h1
      exact h2.pat⟩
    have szP := sized_of fineP lenP
    have fitP := fits_of neP fineP lenP
    have outl : out.length ≤ 64 := by rw [mdB.1]; exact lenP
    have hvE : ∀ {H6}, Go [] D0 B3 H6 → Dp K H6 (.ref p) (.list (ps.map K1.eP)) := fun g => Dp.sub (sub_go g tB) _ _ (.lst (.inl (.inl eP)) dPB)
    have shP : SeqAt.shaped (.list (ps.map K1.eP)) = true := hist_sh (fun q hq => (fineP q hq).good.ok)
    clear dh dh7 ep ep7 ep1 ep2 ep3 dE dz dLc nv0c dv0 dn0 Sb dbs itemB
    refine ⟨.ref X, rfl, X, out, ps, rfl, .inl (.inl eX), pats (Go.rfl' tB), szP, tB, fun C1 gC1 => ⟨.str (textOf ps), rfl, rfl, _, rfl, ite2 (fun e => ?bad1) (fun _ => ?_)⟩⟩
    case bad1 =>
      rw [decide_eq_true rfl] at e
      cases e
    have eX1 := gC1.at tB (fun z => z) eX
    refine ⟨.ref X, rfl, X, out, ps, rfl, .inl (.inl eX1), pats gC1, szP, gC1.1, fun C2 gC2 => ⟨.str (textOf ps), rfl, rfl, _, rfl, ite2 (fun e => ?bad2) (fun _ => ?_)⟩⟩
    case bad2 =>
      rw [decide_eq_true rfl] at e
      cases e
    have gC := gC1.trans gC2
    -- told, of patches read
    have toldOne : ∀ {H6 : Hp} {x : Addr} {q : Pat}, MadeN 10 K C H6 x q → ∃ dx fs, H6 x = some (.ins C dx fs) ∧ fs.lookup ("told" : Str) = none := fun m => by
      obtain ⟨dx, fs, nv, kv, dv, h1, h2, h3, h4, h5, h6, ht, _⟩ := m
      exact ⟨dx, fs, h1, ht⟩
    refine ⟨2, rfl, by decide, by decide, ?_⟩
    refine for_range (lo := 0) (n := 2) (fun i σ H6 => ∃ (y1 y2 : Option V), σ = [some (.ref a), some (.ref p), some (.ref z), none, none, some (.ref D), some (.ref L), none, none, some (.ref X), some (.ref Y), none, some (.str (textOf ps)), y1, y2, none, none, none, none, none] ∧ Go [] D0 B3 H6) ?_ ?_ ?_
    · exact ⟨none, none, rfl, gC⟩
    · rintro i σ H6 hi ⟨y1, y2, rfl, g6⟩
      refine ⟨.str (textOf ps), rfl, ps, rfl, fitP, g6.1, fun R1 l xs k1 hl el md1 => ?_⟩
      have xl := md1.1
      have g7 := g6.trans k1
      have hlB : B3 l = none := g6.free tB (fun z => z) hl
      have thl : Th K R1 (.ref l) "list" none := .lst (.inl (.inl el))
      refine ⟨.ref l, rfl, .ref l, .ty "list", .type "list", .type "list", _, rfl, .ty _, thl.ty, kit_ty thl.klst, _, rfl, iteF ⟨.ref l, rfl, l, rfl, ⟨_, .inl (.inl el)⟩, fun W hW => ?_⟩⟩
      refine lc_list (K := K) (a := l) (xs := xs) (fun i H8 => Go [] D0 R1 H8 ∧ ∃ acc, H8 W = some (.lst acc) ∧ acc.length = i ∧ DpAll K (K1.cut (plus C0 W) H8) acc ((ps.take i).map K1.eP)) ?_ ?_ ?_ ?_
      · exact ⟨(Go.rfl' g7.1).new hW, [], upd_same, rfl, .nil⟩
      · rintro i H8 hi ⟨g8, _⟩
        exact .inl (.inl (g8.at g7.1 (fun z => z) el))
      · rintro i x H8 hx ⟨g8, acc, W8, al, da⟩
        have hi := (List.getElem?_eq_some_iff.mp hx).1
        have hq : ps[i]? = some ps[i] := List.getElem?_eq_getElem (by omega)
        obtain ⟨y, h1, h2⟩ := md1.2 i _ hq
        rw [hx] at h1
        cases h1
        generalize ps[i] = q at hq h2
        have h8 := h2.sup (Sup.go g8 g7.1)
        obtain ⟨dx, fs, hins, hnt⟩ := toldOne h8
        refine ⟨rfl, .ref y, rfl, y, dx, fs, rfl, hins, hnt, .ref y, q, rfl, Made.pat h8, g8.1, fun H9 t nv kl dl kvs dvs g9 ht hkl hdl nkd et ekl edl dn dk dd => ?_⟩
        have W9 := g9.at g8.1 (fun z => z) W8
        have neW : ∀ {b : Addr}, H8 b = none → plus C0 W b = false := fun h => by
          have : ∀ b, H8 b = none → b ≠ W := fun b h z => by rw [z, W8] at h; cases h
          simp [plus, this _ h]
        have s9 := sub_go g9 g8.1
        have dt : Dp K (K1.cut (plus C0 W) H9) (.ref t) (K1.eP q) := .tup (.inl (.inl ((cut_at (neW ht)).trans et))) (.cons (Dp.cutD W9 _ _ (eN_nol _) (Dp.sub s9 _ _ dn)) (.cons (.lst (.inl (.inl ((cut_at (neW hkl)).trans ekl))) (Dp.cutDs W9 _ _ (all_nol eN_nol _) (Dp.subs s9 _ _ dk)))
          (.one (.lst (.inl (.inl ((cut_at (neW hdl)).trans edl))) (Dp.cutDs W9 _ _ (all_nol eD_nol _) (Dp.subs s9 _ _ dd))))))
        refine ⟨acc, W9, small_line (by omega), (g8.trans g9).put hW W9, acc ++ [.ref t], upd_same, by rw [List.length_append, al]; rfl, ?_⟩
        rw [cut_out plus_D, List.take_add_one, hq, List.map_append]
        exact (Dp.subs s9.cuts _ _ da).app (.one dt)
      rintro R2 ⟨k2, acc, W2, al, da⟩
      rw [xl, List.take_length] at da
      have g8 := g7.trans k2
      refine ⟨.ref p, rfl, _, _, .lst (.inl (.inl W2)) (Dp.subs Sub.cut _ _ da), hvE g8, shP, shP, _, rfl, ?_⟩
      rw [eqv_self shP]
      refine iteF ?_
      have el2 := k2.at g7.1 (fun z => z) el
      obtain ⟨q0, hq0⟩ : ∃ q, ps[0]? = some q := by
        cases ps with
        | nil => exact absurd rfl neP
        | cons q r => exact ⟨q, rfl⟩
      obtain ⟨y0, h1, h2⟩ := md1.2 0 _ hq0
      have h3 := h2.sup (Sup.go k2 g7.1)
      obtain ⟨dx, fs, hins, hnt⟩ := toldOne h3
      refine ⟨.ref l, rfl, l, xs, 0, .ref y0, rfl, rfl, .inl (.inl el2), atI_nat (j := 0) h1, y0, dx, fs, rfl, hins, hnt, .ref y0, q0, rfl, Made.pat h3, g8.1, fun R3 t nv kl dl kvs dvs k3 ht hkl hdl nkd et ekl edl dn dk dd => ?_⟩
      have g9 := g8.trans k3
      have el3 := k3.at g8.1 (fun z => z) el2
      have ndl : l ≠ dl := fun z => by rw [← z, el2] at hdl; cases hdl
      have fq0 := fineP q0 (List.mem_of_getElem? hq0)
      have dvl : dvs.length ≤ 3 := by rw [DpAll.len dd, List.length_map]; exact fq0.d3
      refine ⟨t, _, 2, .ref dl, rfl, rfl, .inl (.inl et), atI_nat (j := 2) rfl, .inl ⟨rfl, _, .inl (.inl edl)⟩, dl, dvs, .int 7, rfl, rfl, edl, small_line (by omega), ?_⟩
      have g10 := g9.put (o := .lst (dvs ++ [.int 7])) (g8.free tB (fun z => z) hdl) edl
      have el4 := (upd_ne (o := .lst (dvs ++ [.int 7])) ndl).trans el3
      generalize upd R3 dl (.lst (dvs ++ [.int 7])) = R4 at g10 el4 ⊢
      exact ⟨.ref l, rfl, .inl ⟨rfl, _, .inl (.inl el4)⟩, l, xs, .int 7, rfl, rfl, el4, small_line (by omega), _, _, rfl, g10.put hlB el4⟩
    rintro σ E1 ⟨y1, y2, rfl, gE⟩
    refine ⟨.ref X, rfl, .ref Y, rfl, .ref p, rfl, X, Y, p, out, rows, hv, rfl, .inl (.inl (gE.at tB (fun z => z) eX)), .inl (.inl (gE.at tB (fun z => z) eY)), .inl (.inl (gE.at tB (fun z => z) eP)), ?_⟩
    refine for_it (walk_zip3 (K := K) (a := X) (b := Y) (c := p) (xs := out) (ys := rows) (zs := hv) (n := ps.length) mdB.1 rl hvl) (fun i σ H6 => ∃ (y1 y2 y3 y4 y5 y6 y7 : Option V), σ = [some (.ref a), some (.ref p), some (.ref z), none, none, some (.ref D), some (.ref L), none, none, some (.ref X), some (.ref Y), none, some (.str (textOf ps)), y1, y2, y3, y4, y5, y6, y7] ∧ Go [] D0 B3 H6) ?_ ?_ ?_ ?_
    · exact ⟨y1, y2, none, none, none, none, none, rfl, gE⟩
    · rintro i σ H6 hi ⟨_, _, _, _, _, _, _, rfl, g6⟩
      exact ⟨.inl (.inl (g6.at tB (fun z => z) eX)), .inl (.inl (g6.at tB (fun z => z) eY)), .inl (.inl (g6.at tB (fun z => z) eP))⟩
    · rintro i v σ H6 H6' hi ⟨z1, z2, z3, z4, z5, z6, z7, rfl, g6⟩ ⟨T', x', y', w', rfl, hT, rfl, hx, hy, hw⟩
      have hx : out[i]? = some x' := hx
      have hy : rows[i]? = some y' := hy
      have hw : hv[i]? = some w' := hw
      have hq : ps[i]? = some ps[i] := List.getElem?_eq_getElem hi
      obtain ⟨xo, h1, h2⟩ := mdB.2 i _ hq
      rw [hx] at h1
      cases h1
      obtain ⟨lr, h3, h4⟩ := rdB.2 i _ hq
      rw [hy] at h3
      cases h3
      obtain ⟨d0, hd0, dw⟩ := DpAll.at' dPB hw
      rw [List.getElem?_map, hq] at hd0
      cases hd0
      have fq := fineP _ (List.mem_of_getElem? hq)
      generalize ps[i] = q at hq h2 h4 dw fq
      have g7 := g6.new (o := .tup [V.ref xo, .ref lr, w']) hT
      refine ⟨T', _, rfl, .inl (.inl upd_same), rfl, _, _, rfl, _, _, rfl, _, _, rfl, rfl, ?_⟩
      generalize upd H6 T' (.tup [V.ref xo, .ref lr, w']) = R0 at g7 ⊢
      have m0 : MadeN 10 K C R0 xo q := h2.sup (Sup.go g7 tB)
      refine ⟨.ref xo, rfl, .ref xo, q, rfl, Made.pat m0, fq.sized, g7.1, fun R1 lf k1 hlf elf => ?_⟩
      have g8 := g7.trans k1
      have hlfB : B3 lf = none := g7.free tB (fun z => z) hlf
      have sq := one_sum fq
      have fit1 : Pats.fits [q] := fits_of (by simp) (fun r hr => by rw [List.mem_singleton.mp hr]; exact fq) (by show 1 ≤ 64; decide)
      refine ⟨⟨"\n", rfl⟩, .ref lr, rfl, "\n", lr, rowsOf q, rfl, rfl, .inl (.inl (.inl (g8.at tB (fun z => z) h4))), by rw [nl1]; omega, [q], (by rw [text_one]; rfl), fit1, g8.1, fun R2 l xs k2 hl el md1 => ?_⟩
      have g9 := g8.trans k2
      have elf2 := k2.at g8.1 (fun z => z) elf
      have shR := rows_sh fq.sized
      refine ⟨.ref lf, rfl, .ref lr, rfl, _, _, .lst (.inl (.inl elf2)) (strs_dp _), .lst (.inl (.inl (g9.at tB (fun z => z) h4))) (strs_dp _), shR, shR, _, rfl, ?_⟩
      rw [eqv_self shR]
      have thl : Th K R2 (.ref lf) "list" none := .lst (.inl (.inl elf2))
      refine iteF ⟨.ref lf, rfl, .ref lf, .ty "list", .type "list", .type "list", _, rfl, .ty _, thl.ty, kit_ty thl.klst, _, rfl, iteF ⟨.ref l, rfl, l, rfl, ⟨_, .inl (.inl el)⟩, fun W hW => ?_⟩⟩
      have xl : xs.length = 1 := md1.1
      refine lc_list (K := K) (a := l) (xs := xs) (fun i H8 => Go [] D0 R2 H8 ∧ ∃ acc, H8 W = some (.lst acc) ∧ acc.length = i ∧ DpAll K (K1.cut (plus C0 W) H8) acc ((([q] : List Pat).take i).map K1.eP)) ?_ ?_ ?_ ?_
      · exact ⟨(Go.rfl' g9.1).new hW, [], upd_same, rfl, .nil⟩
      · rintro i H8 hi ⟨k8, _⟩
        exact .inl (.inl (k8.at g9.1 (fun z => z) el))
      · rintro i x H8 hx ⟨k8, acc, W8, al, da⟩
        have hi := (List.getElem?_eq_some_iff.mp hx).1
        have i0 : i = 0 := by omega
        subst i0
        obtain ⟨y, h5, h6⟩ := md1.2 0 q rfl
        rw [hx] at h5
        cases h5
        have h8 : MadeN 10 K C H8 y q := h6.sup (Sup.go k8 g9.1)
        obtain ⟨dx, fs, hins, hnt⟩ := toldOne h8
        refine ⟨rfl, .ref y, rfl, y, dx, fs, rfl, hins, hnt, .ref y, q, rfl, Made.pat h8, k8.1, fun H9 t nv kl dl kvs dvs k9 ht hkl hdl nkd et ekl edl dn dk dd => ?_⟩
        have W9 := k9.at k8.1 (fun z => z) W8
        have neW : ∀ {b : Addr}, H8 b = none → plus C0 W b = false := fun h => by
          have : ∀ b, H8 b = none → b ≠ W := fun b h z => by rw [z, W8] at h; cases h
          simp [plus, this _ h]
        have s9 := sub_go k9 k8.1
        have dt : Dp K (K1.cut (plus C0 W) H9) (.ref t) (K1.eP q) := .tup (.inl (.inl ((cut_at (neW ht)).trans et))) (.cons (Dp.cutD W9 _ _ (eN_nol _) (Dp.sub s9 _ _ dn)) (.cons (.lst (.inl (.inl ((cut_at (neW hkl)).trans ekl))) (Dp.cutDs W9 _ _ (all_nol eN_nol _) (Dp.subs s9 _ _ dk)))
          (.one (.lst (.inl (.inl ((cut_at (neW hdl)).trans edl))) (Dp.cutDs W9 _ _ (all_nol eD_nol _) (Dp.subs s9 _ _ dd))))))
        refine ⟨acc, W9, small_line (by omega), (k8.trans k9).put hW W9, acc ++ [.ref t], upd_same, by rw [List.length_append, al]; rfl, ?_⟩
        rw [cut_out plus_D]
        exact (Dp.subs s9.cuts _ _ da).app (.one dt)
      rintro R3 ⟨k3, acc, W3, al, da⟩
      rw [xl] at da
      have g10 := g9.trans k3
      refine ⟨w', rfl, small_le (by show 1 ≤ 10000; decide), fun n1 hn1 => ?_⟩
      have g11 := g10.new (o := .lst [w']) hn1
      have e11 : (upd R3 n1 (.lst [w'])) n1 = some (.lst [w']) := upd_same
      have da11 := Dp.subs (Sub.new (o := .lst [w']) hn1) _ _ (Dp.subs Sub.cut _ _ da)
      have W11 := (upd_ne (o := .lst [w']) (ne_of_none W3 hn1)).trans W3
      have elf3 := (upd_ne (o := .lst [w']) (ne_of_none (k3.at g9.1 (fun z => z) elf2) hn1)).trans (k3.at g9.1 (fun z => z) elf2)
      generalize upd R3 n1 (.lst [w']) = R4 at g11 e11 da11 W11 elf3 ⊢
      have sh1 : SeqAt.shaped (.list (([q] : List Pat).map K1.eP)) = true := hist_sh fun r hr => by rw [List.mem_singleton.mp hr]; exact fq.good.ok
      refine ⟨.list (([q] : List Pat).map K1.eP), .list (([q] : List Pat).map K1.eP), .lst (.inl (.inl W11)) da11, .lst (.inl (.inl e11)) (.one (Dp.sub (sub_go g11 tB) _ _ dw)), sh1, sh1, _, rfl, ?_⟩
      rw [eqv_self sh1]
      exact iteF ⟨.ref lf, rfl, .inl ⟨rfl, _, .inl (.inl elf3)⟩, lf, _, .str "x", rfl, rfl, elf3, small_line (by rw [List.length_map]; omega), _, _, _, _, _, _, _, rfl, g11.put hlfB elf3⟩
    · rintro σ E2 ⟨_, _, _, _, _, _, _, rfl, gE2⟩
      refine ⟨Nat.zero_le _, fun m hm => ⟨m, [], [], rfl, .inl (.inl upd_same), ⟨rfl, (fun i v p h => by cases h)⟩, ⟨(fun p h => by cases h), Nat.zero_le _⟩, gE2.1.new hm, fun E3 gE3 => ⟨rfl, ?_⟩⟩⟩
      rw [text_nil, decide_eq_true rfl]
      exact q _
end
end K1
set_option Elab.async false
set_option linter.all false
set_option maxRecDepth 100000
set_option maxHeartbeats 4000000
/-! The end: what the top has left, taken together. -/
namespace K1
open PySem PySem.Spec PyProof.Rows L2 PySem.W

/-- what the walk's end asks at a heap: a promise of the law, with tables -/
def EndAt (l : OpenLaw) (w : World) (K : Frag) (k n : Nat) (x : Str) (mg : Str → Option Value) (fa : Addr) (h : Heap) : Prop := LamX.LawAtS l w K L2.CX0 k n x mg fa h
theorem walk_tabs {l : OpenLaw} {n k : Nat} {q : Program} {loose : List Str} {XP : (Str → Option Value) → Heap → Prop} {YP : World → Heap → Prop} {d : DefRec} {K : Params → Frag} {x : Str}
    (hn : l.most = some n) (hn2 : n ≤ sizeLine) (hdf : d.params.defaults = []) (hr : Room k callerA) (hY : ∀ (w : World) (h : Heap), YP w h → (K w.params).In h)
    (F : ∀ (w : World) (lo : List Str) (mean : ExcName → Option Value) (mg mb : Str → Option Value) (fa : Addr) (h : Heap), (K w.params).In h → Top q lo mean mg mb h → mg d.name = some (.ref fa) → EndAt l w (K w.params) k n x mg fa h) :
    WalkO q loose XP YP l.row.toRowW d [] (fun f vs => PySem.call f vs) := by
  refine Att.attach_callB hn hdf ?_
  intro w s₀ s₁ mg mb fa o pm cd doc a vs ns G Y ho hd hcd hmg hobj hints hlen hbits hg
  have X := hY w _ Y
  obtain ⟨fd, cs, sp, c1, c2, c3, hb, hsp, hF⟩ := F w _ _ mg mb fa _ X G.T hmg
  refine LamX.law_callTs X G.T.g G.T.b G.T.builtins G.T.nolimit hg c1 c2 c3 G.T.bmain hobj hints (Nat.le_trans hlen hn2) hr hF hb ?_ ?_
  · intro H hH hS
    exact hsp H a ns hlen hbits hH hS
  · intro H e s' z
    exact z

section
variable {q : Program} {loose : List Str} {mean : ExcName → Option Value} {mg mb : Str → Option Value} {h : Heap} {K : Frag}
/-- a def of the module -/
structure DefAt (K : Frag) (mg : Str → Option Value) (x : Str) (st : Stmt) (ps : List Str) : Prop where
  ex : ∃ (f : Addr) (fd : FuncData), Fun K x x st f fd ∧ mg x = some (.ref f) ∧ Binds K fd ps []
theorem def_at {x : Str} {st : Stmt} {ps : List Str} {f : Addr} {oc kV doc pm cdv ct : Value} {od an : Option Addr} {osl : Array (Option Value)} (X : K.In h) (G : h.Ns mainGlobals mg)
    (a : nsIn K mainGlobals x = some (some (.ref f))) (l : K.lookup f = some ⟨oc, od, .func (fnOf x x (defArgs st) (defBody st) (defScope st) .none kV doc pm an cdv ct), osl⟩) (c : codeIn K cdv x = true) (k : keepIn K (.ref f) = true)
    (b : ∀ us : List Value, us.length = ps.length → bindArgs (fnOf x x (defArgs st) (defBody st) (defScope st) .none kV doc pm an cdv ct) ⟨us, []⟩ = pure (ps.zip us)) : DefAt K mg x st ps :=
  ⟨f, _, fun_mk l c k, mg_of X G a, .all b⟩
end
section
variable {P : Program} {w : World} {K : Frag} {mg : Str → Option Value} {base : Heap} {T : Tp}
theorem DefAt.cal {x : Str} {st : Stmt} {ps : List Str} {k j : Nat} {sp : Sp} (D : DefAt K mg x st ps) (ok : ∀ {f : Addr} {fd : FuncData}, Fun K x x st f fd → FnOk P w K mg base CX0 j f fd ps sp) (h : j ≤ k) : Cal P w K mg base k x ps sp := by
  obtain ⟨f, fd, F, m, b⟩ := D.ex
  exact ⟨f, fd, (ok F).mono h, m, F.kp, b⟩
theorem Cal.up {x : Str} {ps : List Str} {k j : Nat} {sp : Sp} (C : Cal P w K mg base j x ps sp) (h : j ≤ k) : Cal P w K mg base k x ps sp := by
  obtain ⟨f, fd, F, r⟩ := C.ex
  exact ⟨f, fd, F.mono h, r⟩
/-- the defs but the law -/
structure Defs (K : Frag) (mg : Str → Option Value) : Prop where
  triple : DefAt K mg "is_triple" sIsTriple ["thing"]
  word : DefAt K mg "is_word" sWord ["thing"]
  hand : DefAt K mg "is_hand" sHand ["thing"]
  name : DefAt K mg "is_name" sName ["thing"]
  put : DefAt K mg "is_put_line" sPut ["thing"]
  en : DefAt K mg "is_end" sEnd ["thing"]
  numO : DefAt K mg "number_of" sNumO ["word"]
  nameO : DefAt K mg "name_of" sNameO ["word"]
  lineO : DefAt K mg "line_of" sLineO ["word"]
  nameT : DefAt K mg "name_text" sNameT ["name"]
  lineT : DefAt K mg "line_text" sLineT ["line"]
  wordsO : DefAt K mg "words_of" sWordsO ["row"]
  parts : DefAt K mg "patch_of_parts" sPatchOfParts ["name", "knows", "deeds"]
  pwith : DefAt K mg "_patch_with" sPatchWith ["name", "knows", "deeds", "many"]
  canKnow : DefAt K mg "can_know" sCanKnow ["own", "knows"]
  manyD : DefAt K mg "_many_deeds" sManyDeeds ["things"]
  isDeed : DefAt K mg "_is_deed" sIsDeed ["thing"]
  canPut : DefAt K mg "_can_put" sCanPut ["above", "below", "texts"]
  manyP : DefAt K mg "_many_put" sManyPut ["name", "deeds"]
  canDo : DefAt K mg "can_do" sCanDo ["deed", "own", "many"]
  isText : DefAt K mg "is_text" sIsText ["thing"]
  read : DefAt K mg "read_patches" sReadPatches ["text"]
  wordsAt : DefAt K mg "words_at" sWordsAt ["rows", "at"]
  readName : DefAt K mg "read_name" sReadName ["rows", "at"]
  readKnown : DefAt K mg "read_known" sReadKnown ["rows", "at", "own"]
  readDeeds : DefAt K mg "_read_deeds" sReadDeeds ["rows", "at", "known"]
  linesTold : DefAt K mg "lines_told" sLinesTold ["words", "at", "known"]
  readTexts : DefAt K mg "_read_texts" sReadTexts ["rows", "at"]
  prows : DefAt K mg "patch_rows" sPatchRows ["patch"]
  ptext : DefAt K mg "patches_text" sPatchesText ["patches"]
  mixed : DefAt K mg "_law_mixed" sMixed ["_law_cell", "_law_k"]
  draw : DefAt K mg "_law_draw" sDraw ["_law_cell", "_law_k"]
  digit : DefAt K mg "_law_digit" sDigit ["_law_state", "_law_many"]
  llines : DefAt K mg "_law_lines" sLLines ["_law_history_here", "_law_names"]
  lknown : DefAt K mg "_law_known" sLKnown ["_law_history_here", "_law_knows"]
  ldeed : DefAt K mg "_law_deed" sLDeed ["_law_state", "_law_goods"]
  lpatch : DefAt K mg "_law_patch" sLPatch ["_law_history_here", "_law_state"]
  lhist : DefAt K mg "_law_history" sLHist ["_law_script", "_law_most"]
  llineW : DefAt K mg "_law_line_word" sLLineWord ["_law_line"]
  lrows : DefAt K mg "_law_patch_rows" sLPatchRows ["_law_name", "_law_knows", "_law_deeds"]
  lsigns : DefAt K mg "_law_signs" sLSigns ["_law_state"]
/-- the class of patches -/
structure ClsP (K : Frag) (mg : Str → Option Value) (C : Addr) : Prop where
  pc : PCls K C
  at_ : mg "Patch" = some (.ref C)
  init : ∃ (f : Addr) (fd : FuncData), Mk K C f ∧ Fun K "__init__" "Patch.__init__" sPatch_init f fd ∧ Binds K fd ["self", "name", "knows", "deeds"] []
  told : ∃ (f : Addr) (fd : FuncData), Meth K C "told" f ∧ Fun K "told" "Patch.told" sPatch_told f fd ∧ Binds K fd ["self"] []
theorem cals {C LA : Addr} (D : Defs K mg) (M : Mg K mg) (N : Mp mg) (LM : LinesM K w mg LA) (CP : ClsP K mg C) (hsorted : mg "sorted" = none) : Cals P w K mg base C [] 11 := by
  have PC := CP.pc
  have word : Cal P w K mg base 1 "is_word" ["thing"] (spWord K []) := D.word.cal (j := 1) (fun F => ok_word (k := 0) F M) (by omega)
  have numO : Cal P w K mg base 1 "number_of" ["word"] (spNumO K []) := D.numO.cal (j := 1) (fun F => ok_numO (k := 0) F M) (by omega)
  have triple : Cal P w K mg base 1 "is_triple" ["thing"] (spTriple K) := D.triple.cal (j := 1) (fun F => ok_triple (k := 0) F M) (by omega)
  have hand : Cal P w K mg base 2 "is_hand" ["thing"] (spHand K []) := D.hand.cal (j := 2) (fun F => ok_hand F word) (by omega)
  have name : Cal P w K mg base 3 "is_name" ["thing"] (spName K []) := D.name.cal (j := 3) (fun F => ok_name F M hand) (by omega)
  have put : Cal P w K mg base 3 "is_put_line" ["thing"] (spPut K []) := D.put.cal (j := 3) (fun F => ok_put F M hand) (by omega)
  have en : Cal P w K mg base 3 "is_end" ["thing"] (spEnd K) := D.en.cal (j := 3) (fun F => ok_end F M (triple.up (by omega))) (by omega)
  have nameO : Cal P w K mg base 4 "name_of" ["word"] (spNameO K []) := D.nameO.cal (j := 4) (fun F => ok_nameO F M name (numO.up (by omega))) (by omega)
  have lineO : Cal P w K mg base 4 "line_of" ["word"] (spLineO K []) := D.lineO.cal (j := 4) (fun F => ok_lineO F M put (numO.up (by omega))) (by omega)
  have nameT : Cal P w K mg base 1 "name_text" ["name"] (spNameT K) := D.nameT.cal (j := 1) (fun F => ok_nameT (k := 0) F) (by omega)
  have lineT : Cal P w K mg base 1 "line_text" ["line"] (spLineT K) := D.lineT.cal (j := 1) (fun F => ok_lineT (k := 0) F M) (by omega)
  have wordsO : Cal P w K mg base 1 "words_of" ["row"] (spWordsO K []) := D.wordsO.cal (j := 1) (fun F => ok_wordsO (k := 0) F M) (by omega)
  have isText : Cal P w K mg base 1 "is_text" ["thing"] (spIsText K) := D.isText.cal (j := 1) (fun F => ok_istext (k := 0) F M N) (by omega)
  have canPut : Cal P w K mg base 4 "_can_put" ["above", "below", "texts"] (spCanPut K []) := D.canPut.cal (j := 4) (fun F => ok_canput F M N put en (isText.up (by omega))) (by omega)
  have isDeed : Cal P w K mg base 5 "_is_deed" ["thing"] (spIsDeed K []) := D.isDeed.cal (j := 5) (fun F => ok_isdeed F M (put.up (by omega)) canPut) (by omega)
  have manyD : Cal P w K mg base 6 "_many_deeds" ["things"] (spManyD K []) := D.manyD.cal (j := 6) (fun F => ok_manyd F M isDeed) (by omega)
  have canDo : Cal P w K mg base 1 "can_do" ["deed", "own", "many"] (spCanDo K []) := D.canDo.cal (j := 1) (fun F => ok_cando (k := 0) F M) (by omega)
  have manyP : Cal P w K mg base 2 "_many_put" ["name", "deeds"] (spManyP K []) := D.manyP.cal (j := 2) (fun F => ok_manyp F M canDo) (by omega)
  have canKnow : Cal P w K mg base 4 "can_know" ["own", "knows"] (spCanKnow K []) := D.canKnow.cal (j := 4) (fun F => ok_canknow F M name) (by omega)
  have make : MakP P w K mg base 7 C [] := by
    obtain ⟨f, fd, m, F, b⟩ := CP.init
    exact ⟨f, fd, m, ok_init F M N PC (name.up (by omega)) (canKnow.up (by omega)) manyD (manyP.up (by omega)), CP.at_, b⟩
  have told : MetT P w K mg base 11 C [] := by
    obtain ⟨f, fd, m, F, b⟩ := CP.told
    exact ⟨f, fd, PC.cls, m, (ok_told (k := 0) F M PC).mono (by omega), b⟩
  have pwith : Cal P w K mg base 9 "_patch_with" ["name", "knows", "deeds", "many"] (spWith K C []) := D.pwith.cal (j := 9) (fun F => ok_with F PC make) (by omega)
  have parts : Cal P w K mg base 10 "patch_of_parts" ["name", "knows", "deeds"] (spParts K C []) := D.parts.cal (j := 10) (fun F => ok_parts F M pwith (manyP.up (by omega))) (by omega)
  have wordsAt : Cal P w K mg base 2 "words_at" ["rows", "at"] (spWordsAt K []) := D.wordsAt.cal (j := 2) (fun F => ok_wordsat F M wordsO) (by omega)
  have readName : Cal P w K mg base 4 "read_name" ["rows", "at"] (spReadName K []) := D.readName.cal (j := 4) (fun F => ok_readname F M (wordsAt.up (by omega)) (hand.up (by omega)) (numO.up (by omega)) name) (by omega)
  have readKnown : Cal P w K mg base 5 "read_known" ["rows", "at", "own"] (spReadKnown K []) := D.readKnown.cal (j := 5) (fun F => ok_readknown F M (wordsAt.up (by omega)) nameO) (by omega)
  have linesTold : Cal P w K mg base 5 "lines_told" ["words", "at", "known"] (spLinesTold K []) := D.linesTold.cal (j := 5) (fun F => ok_linestold F M LM lineO (en.up (by omega))) (by omega)
  have readTexts : Cal P w K mg base 1 "_read_texts" ["rows", "at"] (spReadTexts K []) := D.readTexts.cal (j := 1) (fun F => ok_readtexts (k := 0) F M N) (by omega)
  have readDeeds : Cal P w K mg base 6 "_read_deeds" ["rows", "at", "known"] (spReadDeeds K []) := D.readDeeds.cal (j := 6) (fun F => ok_readdeeds F M N LM (wordsAt.up (by omega)) linesTold (readTexts.up (by omega))) (by omega)
  have read : Cal P w K mg base 11 "read_patches" ["text"] (spRead K C []) := D.read.cal (j := 11) (fun F => ok_read F M LM (readName.up (by omega)) (readKnown.up (by omega)) (readDeeds.up (by omega)) parts) (by omega)
  have prows : Cal P w K mg base 2 "patch_rows" ["patch"] (spPRows K C []) := D.prows.cal (j := 2) (fun F => ok_prows F M PC nameT lineT) (by omega)
  have ptext : Cal P w K mg base 3 "patches_text" ["patches"] (spPText K C []) := D.ptext.cal (j := 3) (fun F => ok_ptext F prows) (by omega)
  have mixed : Cal P w K mg base 1 "_law_mixed" ["_law_cell", "_law_k"] (spMixed) := D.mixed.cal (j := 1) (fun F => ok_mixed (k := 0) F) (by omega)
  have draw : Cal P w K mg base 2 "_law_draw" ["_law_cell", "_law_k"] (spDraw) := D.draw.cal (j := 2) (fun F => ok_draw F mixed) (by omega)
  have digit : Cal P w K mg base 1 "_law_digit" ["_law_state", "_law_many"] (spDigit) := D.digit.cal (j := 1) (fun F => ok_digit (k := 0) F) (by omega)
  have llines : Cal P w K mg base 1 "_law_lines" ["_law_history_here", "_law_names"] (spLines K []) := D.llines.cal (j := 1) (fun F => ok_llines (k := 0) F M) (by omega)
  have lknown : Cal P w K mg base 1 "_law_known" ["_law_history_here", "_law_knows"] (spKnown K []) := D.lknown.cal (j := 1) (fun F => ok_lknown (k := 0) F M) (by omega)
  have ldeed : Cal P w K mg base 2 "_law_deed" ["_law_state", "_law_goods"] (spDeed K []) := D.ldeed.cal (j := 2) (fun F => ok_ldeed F M digit) (by omega)
  have lpatch : Cal P w K mg base 3 "_law_patch" ["_law_history_here", "_law_state"] (spPatch K []) := D.lpatch.cal (j := 3) (fun F => ok_lpatch F M hsorted (digit.up (by omega)) (llines.up (by omega)) (lknown.up (by omega)) ldeed) (by omega)
  have lhist : Cal P w K mg base 4 "_law_history" ["_law_script", "_law_most"] (spHist K []) := D.lhist.cal (j := 4) (fun F => ok_lhist F M (draw.up (by omega)) lpatch) (by omega)
  have llineW : Cal P w K mg base 1 "_law_line_word" ["_law_line"] (spLineW K []) := D.llineW.cal (j := 1) (fun F => ok_llinew (k := 0) F M) (by omega)
  have lrows : Cal P w K mg base 2 "_law_patch_rows" ["_law_name", "_law_knows", "_law_deeds"] (spRows K []) := D.lrows.cal (j := 2) (fun F => ok_lrows F M llineW) (by omega)
  have lsigns : Cal P w K mg base 2 "_law_signs" ["_law_state"] (K1.spSigns []) := D.lsigns.cal (j := 2) (fun F => K1.ok_lsigns F M digit) (by omega)
  exact ⟨lhist.up (by omega), draw.up (by omega), lsigns.up (by omega), lrows.up (by omega), ptext.up (by omega), prows.up (by omega), read.up (by omega), make.up (by omega), told⟩
end
/-- a tuple of the written part -/
theorem seq_K {K : Frag} {a : Addr} {o : Obj} {its : Array Value} {n : Nat} {xs : List V} (l : K.lookup a = some o) (c : o.cls = .type "tuple") (d : o.data = .seq its n) (z : its.size ≤ sizeLine) (v : Vals xs its.toList) : ∀ H, SqT K H a xs :=
  fun _ => .inr ⟨o, its, n, l, c, d, z, v⟩
theorem const_at {K : Frag} {h : Heap} {mg : Str → Option Value} {x : Str} {xs : List V} {a : Addr} {o : Obj} {its : Array Value} {n : Nat} (X : K.In h) (G : h.Ns mainGlobals mg) (e : nsIn K mainGlobals x = some (some (.ref a)))
    (l : K.lookup a = some o) (c : o.cls = .type "tuple") (d : o.data = .seq its n) (z : its.size ≤ sizeLine) (v : Vals xs its.toList) : ∃ a, mg x = some (.ref a) ∧ ∀ H, SqT K H a xs := ⟨a, mg_of X G e, seq_K l c d z v⟩
theorem mg_at {K : Frag} {h : Heap} {mg : Str → Option Value} {v1 v2 v3 : Value} {t1 t2 t3 : Tok} (X : K.In h) (G : h.Ns mainGlobals mg) (e1 : nsIn K mainGlobals "isinstance" = some none) (e2 : nsIn K mainGlobals "int" = some none) (e3 : nsIn K mainGlobals "bool" = some none)
    (e4 : nsIn K mainGlobals "str" = some none) (e5 : nsIn K mainGlobals "tuple" = some none) (e6 : nsIn K mainGlobals "list" = some none) (e7 : nsIn K mainGlobals "len" = some none) (e8 : nsIn K mainGlobals "all" = some none) (e9 : nsIn K mainGlobals "range" = some none)
    (e10 : nsIn K mainGlobals "enumerate" = some none) (e11 : nsIn K mainGlobals "sum" = some none) (e12 : nsIn K mainGlobals "MOST_LETTERS" = some (some v1)) (h1 : v1 = .int 8 t1) (e13 : nsIn K mainGlobals "MOST_NUMBER" = some (some v2)) (h2 : v2 = .int 999 t2)
    (e14 : nsIn K mainGlobals "MOST_FIGURES" = some (some v3)) (h3 : v3 = .int 6 t3)
    (hd : ∃ a, mg "HEAD" = some (.ref a) ∧ ∀ H, SqT K H a [.str "", .int 0, .int 0]) (ft : ∃ a, mg "FOOT" = some (.ref a) ∧ ∀ H, SqT K H a [.str "", .int 0, .int 1]) : Mg K mg :=
  ⟨mg_none_of X G e1, mg_none_of X G e2, mg_none_of X G e3, mg_none_of X G e4, mg_none_of X G e5, mg_none_of X G e6, mg_none_of X G e7, mg_none_of X G e8, mg_none_of X G e9, mg_none_of X G e10, mg_none_of X G e11,
    ⟨t1, h1 ▸ mg_of X G e12⟩, ⟨t2, h2 ▸ mg_of X G e13⟩, ⟨t3, h3 ▸ mg_of X G e14⟩, hd, ft⟩
theorem mp_at {K : Frag} {h : Heap} {mg : Str → Option Value} {v1 v2 v3 : Value} {t1 t2 t3 : Tok} (X : K.In h) (G : h.Ns mainGlobals mg) (e1 : nsIn K mainGlobals "MOST_DEEDS" = some (some v1)) (h1 : v1 = .int 400 t1) (e2 : nsIn K mainGlobals "MOST_TEXTS" = some (some v2)) (h2 : v2 = .int 200 t2)
    (e3 : nsIn K mainGlobals "MOST_SIGNS" = some (some v3)) (h3 : v3 = .int 40 t3) : Mp mg := ⟨⟨t1, h1 ▸ mg_of X G e1⟩, ⟨t2, h2 ▸ mg_of X G e2⟩, ⟨t3, h3 ▸ mg_of X G e3⟩⟩
theorem lm_at {K : Frag} {w : World} {h : Heap} {mg : Str → Option Value} {LA : Addr} {es : Array DictEntry} {n : Nat} {v1 v2 v3 v4 : Value} {t1 t2 t3 t4 : Tok} (X : K.In h) (G : h.Ns mainGlobals mg) (e : nsIn K mainGlobals "LINES_OF" = some (some (.ref LA))) (l : K.lookup LA = some ⟨.type "dict", none, .dict es n, #[]⟩)
    (kl : KeysLit w.params es.toList) (low : (LA == sysModules) = false) (e1 : nsIn K LA "put" = some (some v1)) (h1 : v1 = .int 2 t1) (e2 : nsIn K LA "cut" = some (some v2)) (h2 : v2 = .int 1 t2) (e3 : nsIn K LA "keep" = some (some v3)) (h3 : v3 = .int 1 t3) (e4 : nsIn K LA "order" = some (some v4)) (h4 : v4 = .int 2 t4)
    (no : nsIn K LA "patch" = some none) : LinesM K w mg LA := by
  refine ⟨mg_of X G e, ⟨es, n, l, kl, low⟩, fun d => ?_, no⟩
  cases d with
  | put => exact ⟨es, n, v1, l, kl, e1, t1, h1⟩
  | order => exact ⟨es, n, v4, l, kl, e4, t4, h4⟩
  | one k =>
    cases k
    · exact ⟨es, n, v2, l, kl, e2, t2, h2⟩
    · exact ⟨es, n, v3, l, kl, e3, t3, h3⟩
theorem cls_at {K : Frag} {h : Heap} {mg : Str → Option Value} {C f1 f2 : Addr} (X : K.In h) (G : h.Ns mainGlobals mg) {od1 an1 od2 an2 : Option Addr} {sl1 sl2 : Array (Option Value)} {oc1 kV1 dc1 pm1 cd1 ct1 oc2 kV2 dc2 pm2 cd2 ct2 : Value}
    (aC : nsIn K mainGlobals "Patch" = some (some (.ref C)))
    (a1 : findIn K (.ref C) "__init__" = some (some (.ref f1))) (i1 : isFn K (.ref f1) = true) (l1 : K.lookup f1 = some ⟨oc1, od1, .func (fnOf "__init__" "Patch.__init__" (defArgs sPatch_init) (defBody sPatch_init) (defScope sPatch_init) .none kV1 dc1 pm1 an1 cd1 ct1), sl1⟩) (c1 : codeIn K cd1 "Patch.__init__" = true) (k1 : keepIn K (.ref f1) = true)
    (a2 : findIn K (.ref C) "told" = some (some (.ref f2))) (i2 : isFn K (.ref f2) = true) (l2 : K.lookup f2 = some ⟨oc2, od2, .func (fnOf "told" "Patch.told" (defArgs sPatch_told) (defBody sPatch_told) (defScope sPatch_told) .none kV2 dc2 pm2 an2 cd2 ct2), sl2⟩) (c2 : codeIn K cd2 "Patch.told" = true) (k2 : keepIn K (.ref f2) = true)
    (pg : plainGet K C Str.empty = true) (hd : hasDictIn K C = true) (po : plainOver K C = true) (sa : findIn K (.ref C) "__setattr__" = some (some (.builtin "object.__setattr__"))) (mk : makesIn K C = true) (kc : keepIn K (.ref C) = true)
    (n1 : findIn K (.ref C) "name" = some none) (n2 : findIn K (.ref C) "knows" = some none) (n3 : findIn K (.ref C) "deeds" = some none) (n4 : findIn K (.ref C) "many" = some none) (n5 : findIn K (.ref C) "place" = some none) (n6 : findIn K (.ref C) "known" = some none) (n7 : findIn K (.ref C) "work" = some none) : ClsP K mg C := by
  have F1 := fun_mk (st := sPatch_init) l1 c1 k1
  have F2 := fun_mk (st := sPatch_told) l2 c2 k2
  exact ⟨⟨⟨pg, hd, po, sa⟩, n1, n2, n3, n4, n5, n6, n7⟩, mg_of X G aC, ⟨f1, _, ⟨mk, a1, i1, kc⟩, F1, F1.binds (ps := ["self", "name", "knows", "deeds"]) fun _ _ _ _ _ _ us hl => match us, hl with | [_, _, _, _], _ => rfl⟩,
    ⟨f2, _, ⟨a2, i2, k2⟩, F2, F2.binds (ps := ["self"]) fun _ _ _ _ _ _ us hl => match us, hl with | [_], _ => rfl⟩⟩
theorem law_end {q : Program} {lo : List Str} {mean : ExcName → Option Value} {mg mb : Str → Option Value} {h : Heap} {K : Frag} {l : OpenLaw} {w : World} {fa f C LA : Addr} (X : K.In h) (T : Top q lo mean mg mb h) (hmg : mg "law" = some (.ref fa))
    (M : Mg K mg) (N : Mp mg) (LM : LinesM K w mg LA) (CP : ClsP K mg C) (hz : nsIn K mainGlobals "zip" = some none) (hs : nsIn K mainGlobals "sorted" = some none) (D : Defs K mg)
    {oc kV doc pm cdv ct : Value} {od an : Option Addr} {osl : Array (Option Value)} (a : nsIn K mainGlobals "law" = some (some (.ref f)))
    (lL : K.lookup f = some ⟨oc, od, .func (fnOf "law" "law" (defArgs sLaw) (defBody sLaw) (defScope sLaw) .none kV doc pm an cdv ct), osl⟩) (c : codeIn K cdv "law" = true) (k : keepIn K (.ref f) = true)
    (b : ∀ us : List Value, us.length = ["_law_script"].length → bindArgs (fnOf "law" "law" (defArgs sLaw) (defBody sLaw) (defScope sLaw) .none kV doc pm an cdv ct) ⟨us, []⟩ = pure ([("_law_script" : Str)].zip us)) :
    EndAt l w K 13 63 "_law_script" mg fa h := by
  have e := hmg.symm.trans (mg_of X T.g a)
  obtain rfl : fa = f := by
    injection e with z
    injection z
  refine ⟨_, [], spLaw K, ?_, ?_, ?_, fun s u => .of_eq (b [u] rfl), ?_, ?_⟩
  · intro p hp
    cases hp
  · intro p hp
    cases hp
  · intro p hp
    cases hp
  · intro H a' ns hl _ hT hS
    exact ⟨a', ns, rfl, hS, hl, (fun P hP => absurd hP (List.not_mem_nil)), fun _ => rfl⟩
  · intro base hK hns hTB
    exact ok_law (fun_mk lL c k) M (mg_none_of X T.g hz) (cals D M N LM CP (mg_none_of X T.g hs))
end K1
open PySem PySem.W PyProof.Rows
set_option Elab.async false
set_option maxRecDepth 100000 in
set_option maxHeartbeats 0 in
theorem PySem.Challenge.cw_manyheads_k04_patches_as_texts_holds : PySem.Challenge.rw_manyheads_k04_patches_as_texts.Holds := by
  w_on; o_law; k_head; (case hw => w_witness2)
  k_fill
  refine K1.walk_tabs (l := PySem.Challenge.rw_manyheads_k04_patches_as_texts) (n := 63) (k := 13) (x := "_law_script") rfl (by decide) rfl ⟨rfl, by decide, by decide⟩ (fun w h Y => PySem.W.kIn_of Y) ?F
  case F =>
    intro w lo mean mg mb fa h X T hmg
    have G := T.g
    have d_triple := by
      refine' K1.def_at (x := "is_triple") (st := K1.sIsTriple) (ps := ["thing"]) X G ?a ?l ?c ?k (fun us hl => match us, hl with | [_], _ => rfl)
      (case a => k_is); (case l => k_is); (case c => k_is); (case k => k_is)
    have d_word := by
      refine' K1.def_at (x := "is_word") (st := K1.sWord) (ps := ["thing"]) X G ?a ?l ?c ?k (fun us hl => match us, hl with | [_], _ => rfl)
      (case a => k_is); (case l => k_is); (case c => k_is); (case k => k_is)
    have d_hand := by
      refine' K1.def_at (x := "is_hand") (st := K1.sHand) (ps := ["thing"]) X G ?a ?l ?c ?k (fun us hl => match us, hl with | [_], _ => rfl)
      (case a => k_is); (case l => k_is); (case c => k_is); (case k => k_is)
    have d_name := by
      refine' K1.def_at (x := "is_name") (st := K1.sName) (ps := ["thing"]) X G ?a ?l ?c ?k (fun us hl => match us, hl with | [_], _ => rfl)
      (case a => k_is); (case l => k_is); (case c => k_is); (case k => k_is)
    have d_put := by
      refine' K1.def_at (x := "is_put_line") (st := K1.sPut) (ps := ["thing"]) X G ?a ?l ?c ?k (fun us hl => match us, hl with | [_], _ => rfl)
      (case a => k_is); (case l => k_is); (case c => k_is); (case k => k_is)
    have d_en := by
      refine' K1.def_at (x := "is_end") (st := K1.sEnd) (ps := ["thing"]) X G ?a ?l ?c ?k (fun us hl => match us, hl with | [_], _ => rfl)
      (case a => k_is); (case l => k_is); (case c => k_is); (case k => k_is)
    have d_numO := by
      refine' K1.def_at (x := "number_of") (st := K1.sNumO) (ps := ["word"]) X G ?a ?l ?c ?k (fun us hl => match us, hl with | [_], _ => rfl)
      (case a => k_is); (case l => k_is); (case c => k_is); (case k => k_is)
    have d_nameO := by
      refine' K1.def_at (x := "name_of") (st := K1.sNameO) (ps := ["word"]) X G ?a ?l ?c ?k (fun us hl => match us, hl with | [_], _ => rfl)
      (case a => k_is); (case l => k_is); (case c => k_is); (case k => k_is)
    have d_lineO := by
      refine' K1.def_at (x := "line_of") (st := K1.sLineO) (ps := ["word"]) X G ?a ?l ?c ?k (fun us hl => match us, hl with | [_], _ => rfl)
      (case a => k_is); (case l => k_is); (case c => k_is); (case k => k_is)
    have d_nameT := by
      refine' K1.def_at (x := "name_text") (st := K1.sNameT) (ps := ["name"]) X G ?a ?l ?c ?k (fun us hl => match us, hl with | [_], _ => rfl)
      (case a => k_is); (case l => k_is); (case c => k_is); (case k => k_is)
    have d_lineT := by
      refine' K1.def_at (x := "line_text") (st := K1.sLineT) (ps := ["line"]) X G ?a ?l ?c ?k (fun us hl => match us, hl with | [_], _ => rfl)
      (case a => k_is); (case l => k_is); (case c => k_is); (case k => k_is)
    have d_wordsO := by
      refine' K1.def_at (x := "words_of") (st := K1.sWordsO) (ps := ["row"]) X G ?a ?l ?c ?k (fun us hl => match us, hl with | [_], _ => rfl)
      (case a => k_is); (case l => k_is); (case c => k_is); (case k => k_is)
    have d_parts := by
      refine' K1.def_at (x := "patch_of_parts") (st := K1.sPatchOfParts) (ps := ["name", "knows", "deeds"]) X G ?a ?l ?c ?k (fun us hl => match us, hl with | [_, _, _], _ => rfl)
      (case a => k_is); (case l => k_is); (case c => k_is); (case k => k_is)
    have d_pwith := by
      refine' K1.def_at (x := "_patch_with") (st := K1.sPatchWith) (ps := ["name", "knows", "deeds", "many"]) X G ?a ?l ?c ?k (fun us hl => match us, hl with | [_, _, _, _], _ => rfl)
      (case a => k_is); (case l => k_is); (case c => k_is); (case k => k_is)
    have d_canKnow := by
      refine' K1.def_at (x := "can_know") (st := K1.sCanKnow) (ps := ["own", "knows"]) X G ?a ?l ?c ?k (fun us hl => match us, hl with | [_, _], _ => rfl)
      (case a => k_is); (case l => k_is); (case c => k_is); (case k => k_is)
    have d_manyD := by
      refine' K1.def_at (x := "_many_deeds") (st := K1.sManyDeeds) (ps := ["things"]) X G ?a ?l ?c ?k (fun us hl => match us, hl with | [_], _ => rfl)
      (case a => k_is); (case l => k_is); (case c => k_is); (case k => k_is)
    have d_isDeed := by
      refine' K1.def_at (x := "_is_deed") (st := K1.sIsDeed) (ps := ["thing"]) X G ?a ?l ?c ?k (fun us hl => match us, hl with | [_], _ => rfl)
      (case a => k_is); (case l => k_is); (case c => k_is); (case k => k_is)
    have d_canPut := by
      refine' K1.def_at (x := "_can_put") (st := K1.sCanPut) (ps := ["above", "below", "texts"]) X G ?a ?l ?c ?k (fun us hl => match us, hl with | [_, _, _], _ => rfl)
      (case a => k_is); (case l => k_is); (case c => k_is); (case k => k_is)
    have d_manyP := by
      refine' K1.def_at (x := "_many_put") (st := K1.sManyPut) (ps := ["name", "deeds"]) X G ?a ?l ?c ?k (fun us hl => match us, hl with | [_, _], _ => rfl)
      (case a => k_is); (case l => k_is); (case c => k_is); (case k => k_is)
    have d_canDo := by
      refine' K1.def_at (x := "can_do") (st := K1.sCanDo) (ps := ["deed", "own", "many"]) X G ?a ?l ?c ?k (fun us hl => match us, hl with | [_, _, _], _ => rfl)
      (case a => k_is); (case l => k_is); (case c => k_is); (case k => k_is)
    have d_isText := by
      refine' K1.def_at (x := "is_text") (st := K1.sIsText) (ps := ["thing"]) X G ?a ?l ?c ?k (fun us hl => match us, hl with | [_], _ => rfl)
      (case a => k_is); (case l => k_is); (case c => k_is); (case k => k_is)
    have d_read := by
      refine' K1.def_at (x := "read_patches") (st := K1.sReadPatches) (ps := ["text"]) X G ?a ?l ?c ?k (fun us hl => match us, hl with | [_], _ => rfl)
      (case a => k_is); (case l => k_is); (case c => k_is); (case k => k_is)
    have d_wordsAt := by
      refine' K1.def_at (x := "words_at") (st := K1.sWordsAt) (ps := ["rows", "at"]) X G ?a ?l ?c ?k (fun us hl => match us, hl with | [_, _], _ => rfl)
      (case a => k_is); (case l => k_is); (case c => k_is); (case k => k_is)
    have d_readName := by
      refine' K1.def_at (x := "read_name") (st := K1.sReadName) (ps := ["rows", "at"]) X G ?a ?l ?c ?k (fun us hl => match us, hl with | [_, _], _ => rfl)
      (case a => k_is); (case l => k_is); (case c => k_is); (case k => k_is)
    have d_readKnown := by
      refine' K1.def_at (x := "read_known") (st := K1.sReadKnown) (ps := ["rows", "at", "own"]) X G ?a ?l ?c ?k (fun us hl => match us, hl with | [_, _, _], _ => rfl)
      (case a => k_is); (case l => k_is); (case c => k_is); (case k => k_is)
    have d_readDeeds := by
      refine' K1.def_at (x := "_read_deeds") (st := K1.sReadDeeds) (ps := ["rows", "at", "known"]) X G ?a ?l ?c ?k (fun us hl => match us, hl with | [_, _, _], _ => rfl)
      (case a => k_is); (case l => k_is); (case c => k_is); (case k => k_is)
    have d_linesTold := by
      refine' K1.def_at (x := "lines_told") (st := K1.sLinesTold) (ps := ["words", "at", "known"]) X G ?a ?l ?c ?k (fun us hl => match us, hl with | [_, _, _], _ => rfl)
      (case a => k_is); (case l => k_is); (case c => k_is); (case k => k_is)
    have d_readTexts := by
      refine' K1.def_at (x := "_read_texts") (st := K1.sReadTexts) (ps := ["rows", "at"]) X G ?a ?l ?c ?k (fun us hl => match us, hl with | [_, _], _ => rfl)
      (case a => k_is); (case l => k_is); (case c => k_is); (case k => k_is)
    have d_prows := by
      refine' K1.def_at (x := "patch_rows") (st := K1.sPatchRows) (ps := ["patch"]) X G ?a ?l ?c ?k (fun us hl => match us, hl with | [_], _ => rfl)
      (case a => k_is); (case l => k_is); (case c => k_is); (case k => k_is)
    have d_ptext := by
      refine' K1.def_at (x := "patches_text") (st := K1.sPatchesText) (ps := ["patches"]) X G ?a ?l ?c ?k (fun us hl => match us, hl with | [_], _ => rfl)
      (case a => k_is); (case l => k_is); (case c => k_is); (case k => k_is)
    have d_mixed := by
      refine' K1.def_at (x := "_law_mixed") (st := K1.sMixed) (ps := ["_law_cell", "_law_k"]) X G ?a ?l ?c ?k (fun us hl => match us, hl with | [_, _], _ => rfl)
      (case a => k_is); (case l => k_is); (case c => k_is); (case k => k_is)
    have d_draw := by
      refine' K1.def_at (x := "_law_draw") (st := K1.sDraw) (ps := ["_law_cell", "_law_k"]) X G ?a ?l ?c ?k (fun us hl => match us, hl with | [_, _], _ => rfl)
      (case a => k_is); (case l => k_is); (case c => k_is); (case k => k_is)
    have d_digit := by
      refine' K1.def_at (x := "_law_digit") (st := K1.sDigit) (ps := ["_law_state", "_law_many"]) X G ?a ?l ?c ?k (fun us hl => match us, hl with | [_, _], _ => rfl)
      (case a => k_is); (case l => k_is); (case c => k_is); (case k => k_is)
    have d_llines := by
      refine' K1.def_at (x := "_law_lines") (st := K1.sLLines) (ps := ["_law_history_here", "_law_names"]) X G ?a ?l ?c ?k (fun us hl => match us, hl with | [_, _], _ => rfl)
      (case a => k_is); (case l => k_is); (case c => k_is); (case k => k_is)
    have d_lknown := by
      refine' K1.def_at (x := "_law_known") (st := K1.sLKnown) (ps := ["_law_history_here", "_law_knows"]) X G ?a ?l ?c ?k (fun us hl => match us, hl with | [_, _], _ => rfl)
      (case a => k_is); (case l => k_is); (case c => k_is); (case k => k_is)
    have d_ldeed := by
      refine' K1.def_at (x := "_law_deed") (st := K1.sLDeed) (ps := ["_law_state", "_law_goods"]) X G ?a ?l ?c ?k (fun us hl => match us, hl with | [_, _], _ => rfl)
      (case a => k_is); (case l => k_is); (case c => k_is); (case k => k_is)
    have d_lpatch := by
      refine' K1.def_at (x := "_law_patch") (st := K1.sLPatch) (ps := ["_law_history_here", "_law_state"]) X G ?a ?l ?c ?k (fun us hl => match us, hl with | [_, _], _ => rfl)
      (case a => k_is); (case l => k_is); (case c => k_is); (case k => k_is)
    have d_lhist := by
      refine' K1.def_at (x := "_law_history") (st := K1.sLHist) (ps := ["_law_script", "_law_most"]) X G ?a ?l ?c ?k (fun us hl => match us, hl with | [_, _], _ => rfl)
      (case a => k_is); (case l => k_is); (case c => k_is); (case k => k_is)
    have d_llineW := by
      refine' K1.def_at (x := "_law_line_word") (st := K1.sLLineWord) (ps := ["_law_line"]) X G ?a ?l ?c ?k (fun us hl => match us, hl with | [_], _ => rfl)
      (case a => k_is); (case l => k_is); (case c => k_is); (case k => k_is)
    have d_lrows := by
      refine' K1.def_at (x := "_law_patch_rows") (st := K1.sLPatchRows) (ps := ["_law_name", "_law_knows", "_law_deeds"]) X G ?a ?l ?c ?k (fun us hl => match us, hl with | [_, _, _], _ => rfl)
      (case a => k_is); (case l => k_is); (case c => k_is); (case k => k_is)
    have d_lsigns := by
      refine' K1.def_at (x := "_law_signs") (st := K1.sLSigns) (ps := ["_law_state"]) X G ?a ?l ?c ?k (fun us hl => match us, hl with | [_], _ => rfl)
      (case a => k_is); (case l => k_is); (case c => k_is); (case k => k_is)
    have mH := by
      refine' K1.const_at (x := "HEAD") (xs := [.str "", .int 0, .int 0]) X G ?a ?l ?c ?d ?z ?v
      (case a => k_is); (case l => k_is); (case c => rfl); (case d => rfl); (case z => decide)
      (case v => exact .cons ⟨_, rfl⟩ (.cons ⟨_, rfl⟩ (.cons ⟨_, rfl⟩ .nil)))
    have mF := by
      refine' K1.const_at (x := "FOOT") (xs := [.str "", .int 0, .int 1]) X G ?a2 ?l2 ?c2 ?d2 ?z2 ?v2
      (case a2 => k_is); (case l2 => k_is); (case c2 => rfl); (case d2 => rfl); (case z2 => decide)
      (case v2 => exact .cons ⟨_, rfl⟩ (.cons ⟨_, rfl⟩ (.cons ⟨_, rfl⟩ .nil)))
    have M := by
      refine' K1.mg_at X G ?m1 ?m2 ?m3 ?m4 ?m5 ?m6 ?m7 ?m8 ?m9 ?m10 ?m11 ?m12 ?h1 ?m13 ?h2 ?m14 ?h3 mH mF
      (case m1 => k_is); (case m2 => k_is); (case m3 => k_is); (case m4 => k_is); (case m5 => k_is); (case m6 => k_is); (case m7 => k_is); (case m8 => k_is); (case m9 => k_is); (case m10 => k_is); (case m11 => k_is); (case m12 => k_is); (case m13 => k_is); (case m14 => k_is)
      (case h1 => rfl); (case h2 => rfl); (case h3 => rfl)
    have N := by
      refine' K1.mp_at X G ?m1 ?h1 ?m2 ?h2 ?m3 ?h3
      (case m1 => k_is); (case m2 => k_is); (case m3 => k_is); (case h1 => rfl); (case h2 => rfl); (case h3 => rfl)
    have LM := by
      refine' K1.lm_at (w := w) X G ?e ?l ?kl ?low ?e1 ?h1 ?e2 ?h2 ?e3 ?h3 ?e4 ?h4 ?no
      (case e => k_is); (case l => k_is); (case low => rfl); (case e1 => k_is); (case e2 => k_is); (case e3 => k_is); (case e4 => k_is); (case no => k_is)
      (case h1 => rfl); (case h2 => rfl); (case h3 => rfl); (case h4 => rfl)
      (case kl => exact ⟨⟨_, _, rfl, rfl⟩, ⟨_, _, rfl, rfl⟩, ⟨_, _, rfl, rfl⟩, ⟨_, _, rfl, rfl⟩, trivial⟩)
    have CP := by
      refine' K1.cls_at X G ?aC ?a1 ?i1 ?l1 ?c1 ?k1 ?a2 ?i2 ?l2 ?c2 ?k2 ?pg ?hd ?po ?sa ?mk ?kc ?n1 ?n2 ?n3 ?n4 ?n5 ?n6 ?n7
      (case aC => k_is); (case a1 => k_is); (case i1 => k_is); (case l1 => k_is); (case c1 => k_is); (case k1 => k_is); (case a2 => k_is); (case i2 => k_is); (case l2 => k_is); (case c2 => k_is); (case k2 => k_is)
      (case pg => k_is); (case hd => k_is); (case po => k_is); (case sa => k_is); (case mk => k_is); (case kc => k_is); (case n1 => k_is); (case n2 => k_is); (case n3 => k_is); (case n4 => k_is); (case n5 => k_is); (case n6 => k_is); (case n7 => k_is)
    have hmg' : mg "law" = some (.ref fa) := hmg
    refine' K1.law_end X T hmg' M N LM CP ?hz ?hs ⟨d_triple, d_word, d_hand, d_name, d_put, d_en, d_numO, d_nameO, d_lineO, d_nameT, d_lineT, d_wordsO, d_parts, d_pwith, d_canKnow, d_manyD, d_isDeed, d_canPut, d_manyP, d_canDo, d_isText, d_read, d_wordsAt, d_readName, d_readKnown, d_readDeeds, d_linesTold, d_readTexts, d_prows, d_ptext, d_mixed, d_draw, d_digit, d_llines, d_lknown, d_ldeed, d_lpatch, d_lhist, d_llineW, d_lrows, d_lsigns⟩ ?a ?l ?c ?k (fun us hl => match us, hl with | [_], _ => rfl)
    (case hz => k_is); (case hs => k_is); (case a => k_is); (case l => k_is); (case c => k_is); (case k => k_is)
