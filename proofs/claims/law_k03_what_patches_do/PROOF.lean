import PyProof.Rows.All
import Wide.All
import OpenK.AllK
import Wide.FinOn
import PySem.Challenge.RW_manyheads_k03_what_patches_do
import HandS.Words
import HandS.WordsList
import HandS.WordsDict
import HandS.AnyAll
import HandS.Text
import HandS.StrMore
import HandS.IsInst
import HandS.ForMost
import HandS.FStr
import HandS.TupLe
import KE.IntTextLaws
import KE.IntTextText
import PyProof.Rows.StrIntSpec
import HandS.Small
import HandS.Deep
import HandS.TupAny
import HandS.ExcValue
import KE.DataCmp
import KE.SortData
import HandS.Walk
import HandS.Style
import PyProof.Rows.SeqMore
import HandS.Star
import HandS.Flow
import PyProof.StrBlockL
import KE.GoesEnumKw
import KE.GoesMore
import HandS.TupSets
import PyProof.ZipIter
import KE.KItemsList
import HandS.Zip
import KE.KDictCopyH
import KE.GoesEnum
import HandS.EndTab
import HandS.More
import KE.KNest
set_option Elab.async false
set_option linter.all false
set_option maxRecDepth 100000
/-! The text of the row: the defs by their places, and their local names. -/
namespace K1
open PySem PySem.Spec PyProof.Rows L2
def topS (i : Nat) : Stmt := PySem.Challenge.pw_manyheads_k03_what_patches_do.main.body.getD i (.Pass ⟨0, 0, 0, 0⟩)
def clsS (i j : Nat) : Stmt := match topS i with
  | .ClassDef _ _ _ b .. => b.getD j (.Pass ⟨0, 0, 0, 0⟩)
  | _ => .Pass ⟨0, 0, 0, 0⟩
abbrev sBadPatch_init : Stmt := clsS 2 0
abbrev sWord : Stmt := topS 8
abbrev sHand : Stmt := topS 9
abbrev sIsTriple : Stmt := topS 10
abbrev sName : Stmt := topS 11
abbrev sPut : Stmt := topS 12
abbrev sEnd : Stmt := topS 13
abbrev sPatch_init : Stmt := clsS 18 0
abbrev sPatch_told : Stmt := clsS 18 1
abbrev sCanKnow : Stmt := topS 19
abbrev sManyDeeds : Stmt := topS 20
abbrev sIsDeed : Stmt := topS 21
abbrev sCanPut : Stmt := topS 22
abbrev sManyPut : Stmt := topS 23
abbrev sCanDo : Stmt := topS 24
abbrev sIsText : Stmt := topS 25
abbrev sLinesPut : Stmt := topS 26
abbrev sBindingsOf : Stmt := topS 27
abbrev sBindingsIn : Stmt := topS 28
abbrev sMarksIn : Stmt := topS 29
abbrev sMarksBy : Stmt := topS 30
abbrev sLinesNamed : Stmt := topS 31
abbrev sMixed : Stmt := topS 33
abbrev sDraw : Stmt := topS 34
abbrev sDigit : Stmt := topS 35
abbrev sLLines : Stmt := topS 36
abbrev sLKnown : Stmt := topS 37
abbrev sLDeed : Stmt := topS 38
abbrev sLPatch : Stmt := topS 39
abbrev sLHist : Stmt := topS 40
abbrev sLPuts : Stmt := topS 41
abbrev sLBound : Stmt := topS 42
abbrev sLMarks : Stmt := topS 43
abbrev sLSame : Stmt := topS 44
abbrev sLaw : Stmt := topS 45
theorem scBadPatch_init : FnScope ["self", "deed"] ["self", "deed"] (defScope sBadPatch_init) := ⟨rfl, rfl, rfl, by decide +kernel, rfl, by decide +kernel, by decide +kernel⟩
theorem scWord : FnScope ["thing"] ["thing"] (defScope sWord) := ⟨rfl, rfl, rfl, by decide +kernel, rfl, by decide +kernel, by decide +kernel⟩
theorem scHand : FnScope ["thing"] ["thing"] (defScope sHand) := ⟨rfl, rfl, rfl, by decide +kernel, rfl, by decide +kernel, by decide +kernel⟩
theorem scIsTriple : FnScope ["thing", "hand", "number", "place"] ["thing"] (defScope sIsTriple) := ⟨rfl, rfl, rfl, by decide +kernel, rfl, by decide +kernel, by decide +kernel⟩
theorem scName : FnScope ["thing", "hand", "number"] ["thing"] (defScope sName) := ⟨rfl, rfl, rfl, by decide +kernel, rfl, by decide +kernel, by decide +kernel⟩
theorem scPut : FnScope ["thing", "hand", "number", "place"] ["thing"] (defScope sPut) := ⟨rfl, rfl, rfl, by decide +kernel, rfl, by decide +kernel, by decide +kernel⟩
theorem scEnd : FnScope ["thing"] ["thing"] (defScope sEnd) := ⟨rfl, rfl, rfl, by decide +kernel, rfl, by decide +kernel, by decide +kernel⟩
theorem scPatch_init : FnScope ["self", "name", "knows", "deeds", "good"] ["self", "name", "knows", "deeds"] (defScope sPatch_init) := ⟨rfl, rfl, rfl, by decide +kernel, rfl, by decide +kernel, by decide +kernel⟩
theorem scPatch_told : FnScope ["self"] ["self"] (defScope sPatch_told) := ⟨rfl, rfl, rfl, by decide +kernel, rfl, by decide +kernel, by decide +kernel⟩
theorem scCanKnow : FnScope ["own", "knows", "before", "name"] ["own", "knows"] (defScope sCanKnow) := ⟨rfl, rfl, rfl, by decide +kernel, rfl, by decide +kernel, by decide +kernel⟩
theorem scManyDeeds : FnScope ["things", "at", "thing"] ["things"] (defScope sManyDeeds) := ⟨rfl, rfl, rfl, by decide +kernel, rfl, by decide +kernel, by decide +kernel⟩
theorem scIsDeed : FnScope ["thing"] ["thing"] (defScope sIsDeed) := ⟨rfl, rfl, rfl, by decide +kernel, rfl, by decide +kernel, by decide +kernel⟩
theorem scCanPut : FnScope ["above", "below", "texts", "text"] ["above", "below", "texts"] (defScope sCanPut) := ⟨rfl, rfl, rfl, by decide +kernel, rfl, by decide +kernel, by decide +kernel⟩
theorem scManyPut : FnScope ["name", "deeds", "many", "at", "deed"] ["name", "deeds"] (defScope sManyPut) := ⟨rfl, rfl, rfl, by decide +kernel, rfl, by decide +kernel, by decide +kernel⟩
theorem scCanDo : FnScope ["deed", "own", "many", "one", "other"] ["deed", "own", "many"] (defScope sCanDo) := ⟨rfl, rfl, rfl, by decide +kernel, rfl, by decide +kernel, by decide +kernel⟩
theorem scIsText : FnScope ["thing"] ["thing"] (defScope sIsText) := ⟨rfl, rfl, rfl, by decide +kernel, rfl, by decide +kernel, by decide +kernel⟩
theorem scLinesPut : FnScope ["patch", "hand", "number", "lines", "deed", "text"] ["patch"] (defScope sLinesPut) := ⟨rfl, rfl, rfl, by decide +kernel, rfl, by decide +kernel, by decide +kernel⟩
theorem scBindingsOf : FnScope ["patch"] ["patch"] (defScope sBindingsOf) := ⟨rfl, rfl, rfl, by decide +kernel, rfl, by decide +kernel, by decide +kernel⟩
theorem scBindingsIn : FnScope ["name", "deeds", "hand", "number", "many", "found", "deed", "k", "new"] ["name", "deeds"] (defScope sBindingsIn) := ⟨rfl, rfl, rfl, by decide +kernel, rfl, by decide +kernel, by decide +kernel⟩
theorem scMarksIn : FnScope ["patch"] ["patch"] (defScope sMarksIn) := ⟨rfl, rfl, rfl, by decide +kernel, rfl, by decide +kernel, by decide +kernel⟩
theorem scMarksBy : FnScope ["name", "deeds", "hand", "number", "many", "marks", "deed", "_"] ["name", "deeds"] (defScope sMarksBy) := ⟨rfl, rfl, rfl, by decide +kernel, rfl, by decide +kernel, by decide +kernel⟩
theorem scLinesNamed : FnScope ["deed", "line"] ["deed"] (defScope sLinesNamed) := ⟨rfl, rfl, rfl, by decide +kernel, rfl, by decide +kernel, by decide +kernel⟩
theorem scMixed : FnScope ["_law_cell", "_law_k"] ["_law_cell", "_law_k"] (defScope sMixed) := ⟨rfl, rfl, rfl, by decide +kernel, rfl, by decide +kernel, by decide +kernel⟩
theorem scDraw : FnScope ["_law_cell", "_law_k", "_law_first", "_law_more"] ["_law_cell", "_law_k"] (defScope sDraw) := ⟨rfl, rfl, rfl, by decide +kernel, rfl, by decide +kernel, by decide +kernel⟩
theorem scDigit : FnScope ["_law_state", "_law_many", "_law_found"] ["_law_state", "_law_many"] (defScope sDigit) := ⟨rfl, rfl, rfl, by decide +kernel, rfl, by decide +kernel, by decide +kernel⟩
theorem scLLines : FnScope ["_law_history_here", "_law_names", "_law_found", "_law_name", "_law_knows", "_law_deeds", "_law_texts", "_law_deed_here", "_law_k", "_law_text"] ["_law_history_here", "_law_names"] (defScope sLLines) := ⟨rfl, rfl, rfl, by decide +kernel, rfl, by decide +kernel, by decide +kernel⟩
theorem scLKnown : FnScope ["_law_history_here", "_law_knows", "_law_found", "_law_name", "_law_own", "_law_deeds", "_law_one"] ["_law_history_here", "_law_knows"] (defScope sLKnown) := ⟨rfl, rfl, rfl, by decide +kernel, rfl, by decide +kernel, by decide +kernel⟩
theorem scLDeed : FnScope ["_law_state", "_law_goods", "_law_kind", "_law_above", "_law_below", "_law_k", "_law_texts", "_law_one", "_law_line", "_law_others"] ["_law_state", "_law_goods"] (defScope sLDeed) := ⟨rfl, rfl, rfl, by decide +kernel, rfl, by decide +kernel, by decide +kernel⟩
theorem scLPatch : FnScope ["_law_history_here", "_law_state", "_law_hand", "_law_one", "_law_knows", "_law_deeds", "_law_name", "_law_own", "_law_line", "_law_text", "_law_goods", "_law_many", "_law_k", "_law_deed_here", "_law_j"] ["_law_history_here", "_law_state"] (defScope sLPatch) := ⟨rfl, rfl, rfl, by decide +kernel, rfl, by decide +kernel, by decide +kernel⟩
theorem scLHist : FnScope ["_law_script", "_law_most", "_law_history_here", "_law_k", "_law_cell"] ["_law_script", "_law_most"] (defScope sLHist) := ⟨rfl, rfl, rfl, by decide +kernel, rfl, by decide +kernel, by decide +kernel⟩
theorem scLPuts : FnScope ["_law_name", "_law_deeds", "_law_found", "_law_many", "_law_deed_here", "_law_k", "_law_fresh"] ["_law_name", "_law_deeds"] (defScope sLPuts) := ⟨rfl, rfl, rfl, by decide +kernel, rfl, by decide +kernel, by decide +kernel⟩
theorem scLBound : FnScope ["_law_deed_here", "_law_fresh", "_law_found", "_law_last", "_law_line"] ["_law_deed_here", "_law_fresh"] (defScope sLBound) := ⟨rfl, rfl, rfl, by decide +kernel, rfl, by decide +kernel, by decide +kernel⟩
theorem scLMarks : FnScope ["_law_name", "_law_deeds", "_law_rows", "_law_deed_here", "_law_fresh", "_law_line", "_law_mark", "_law_lines_here", "_law_one"] ["_law_name", "_law_deeds"] (defScope sLMarks) := ⟨rfl, rfl, rfl, by decide +kernel, rfl, by decide +kernel, by decide +kernel⟩
theorem scLSame : FnScope ["_law_told", "_law_due", "_law_is_good", "_law_one"] ["_law_told", "_law_due"] (defScope sLSame) := ⟨rfl, rfl, rfl, by decide +kernel, rfl, by decide +kernel, by decide +kernel⟩
theorem scLaw : FnScope ["_law_script", "_law_history_here", "_law_name", "_law_knows", "_law_deeds", "_law_patch_here", "_law_puts_here", "_law_deed_here", "_law_fresh", "_law_bound_here", "_law_turn", "_law_parts", "_law_line"] ["_law_script"] (defScope sLaw) := ⟨rfl, rfl, rfl, by decide +kernel, rfl, by decide +kernel, by decide +kernel⟩
end K1
set_option Elab.async false
set_option linter.all false
set_option maxRecDepth 100000
set_option maxHeartbeats 400000
/-! all(t for c in a text), where t reads a name of the module. -/
namespace K1
open PySem PySem.Spec PyProof.Rows L2

/-- a test of one sign, which may read the module's names -/
def SignTest (prog : Program) (w : World) (mg : Str → Option Value) (sc : Scope) (x : Str) (e : Expr) (p : Nat → Bool) : Prop :=
  ∀ (ge : Env) (B : Around) (F : Value → Shared → Prop) (c : Nat) (tk : Tok) (z : Shared) (lm : Str → Option Value),
    ge.scope = sc → ge.globals = mainGlobals → z.heap.Ns mainGlobals mg → z.heap.Ns ge.locals lm → lm x = some (.str ⟨#[c]⟩ tk) →
    wpAny (model prog w) B (eval e ge) (fun r z' => r = .bool (p c) ∧ Keeps z z') F z

/-- c in NAME, NAME a text of the module -/
theorem sign_in {prog : Program} {w : World} {mg : Str → Option Value} {sc : Scope} {x n : Str} {txt : Str} {tt : Tok} {q1 q2 q3 : Pos}
    (fk : sc.kind = .function) (lx : sc.names.lookup x = some .local) (ln : sc.names.lookup n = some .globalImplicit) (vn : mg n = some (.str txt tt))
    (dx : (x == ("__debug__" : Str)) = false) (dn : (n == ("__debug__" : Str)) = false) :
    SignTest prog w mg sc x (.Compare (.Name x q1) [.In] [.Name n q2] q3) (fun c => decide (c ∈ txt.cps.toList)) := by
  intro ge B F c tk z lm es eg hg hl hx
  have k1 : ge.scope.kind = .function := es ▸ fk
  have k2 : ge.kindOf x = some .local := by
    show ge.scope.names.lookup x = some .local
    rw [es]
    exact lx
  have k3 : ge.kindOf n = some .globalImplicit := by
    show ge.scope.names.lookup n = some .globalImplicit
    rw [es]
    exact ln
  refine wpAny_Compare1 ?_
  refine wpAny_Name ?_ dx
  refine wpAny_loadName_local k1 k2 hl hx ?_
  refine Calls.Name_function_global k1 k3 ?_ dn
  refine Calls.loadGlobal_global (mg := mg) (eg ▸ hg) vn ?_
  apply PyProof.Rows.in_str
  exact ⟨congrArg Value.bool (PySem.StrLaws.found_one txt c), GxR.keeps_refl _⟩

section
variable {X : Cx} {pins : List (Addr × Obj)} {σ : L2.St} {H : Hp} {s : Shared}

/-- what is known where the generator's code has been looked up: h3 is the heap s1.heap with the iterator o, the table at P longer -/
structure Mid (X : Cx) (s1 : Shared) (o : Obj) (P : Addr) (ps ps' : Array Value) (h3 : Heap) : Prop where
  ext : Heap.ExtBut P (s1.heap.push o) h3
  size : (s1.heap.push o).objs.size ≤ h3.objs.size
  tab : h3.get? P = some { cls := .none, data := .fields ps' }
  more : ∃ m, ps' = ps ++ m
  ok : TriplesOk ps'.toList

theorem gen_mid {cd P : Addr} {e it : Expr} {x : Str} {px gp : Pos} {sc : Scope} {p : Nat → Bool} {k : Nat} {Q' : Value → Shared → Prop} {a : Str} {H1 : Hp} {s1 : Shared} {o : Obj} {St : Nat → Heap → Prop} {ps ps' : Array Value} {h3 : Heap} {tk : Nat} {code : Value}
    (hr : Room k X.A) (TB : GxR.TabB X.base X.mg cd P) (hel : SignTest X.prog X.w X.mg sc x e p)
    (J : Inv X pins σ H1 s1) (hP : H1 P = some (.tbl ps)) (M : Mid X s1 o P ps ps' h3)
    (wk : ∀ A' : Around, A'.handled = none → Walks X.prog X.w A' s1.heap.objs.size [s1.heap.objs.size] [s1.heap.objs.size] a.cps.size (SignAt a) St) (st : St 0 (s1.heap.push o))
    (hQ : ∀ g s5, GxR.Ready X pins σ H1 P a p g s5 → Q' (.ref g) s5) :
    wpAny (model X.prog X.w) X.A (builtinsFor X.env.globals X.env.builtins) (fun bi s₄ =>
        ∃ I fp wr n₀ Pf St₀ pz F, Value.ref s1.heap.objs.size = .ref I ∧ (∀ A' : Around, A'.handled = none → Walks X.prog X.w A' I fp wr n₀ Pf St₀) ∧ St₀ 0 s₄.heap ∧
          (∀ b ∈ fp, b < s₄.heap.objs.size) ∧ s₄.heap.NoLimit ∧ cStatics ∉ wr ∧
          (∀ href : Heap, (∀ b o, s₄.heap.get? b = some o → href.get? b = some o) →
            QuietGen X.prog X.w (genEnv sc (cloFrom X.env.cells sc.names []) s₄.heap.objs.size code bi X.env) x [] e
              (List.range s₄.heap.objs.size) wr Pf pz F href) ∧
          (∀ a h₅ tk gs, gs.bare = true → s₄.heap.objs.size < a → h₅.objs.size = a + 1 → (∀ b o, s₄.heap.get? b = some o → h₅.get? b = some o) →
            WalksS X.prog X.w X.A.in4 a (a :: s₄.heap.objs.size :: List.range s₄.heap.objs.size) (s₄.heap.objs.size :: wr) (GenOnlyQ s₄.gens.size)
              (passing pz n₀ 0).length (fun j y => ∃ i, (passing pz n₀ 0)[j]? = some i ∧ F i y)
              (GenAt X.prog X.w X.A.in4 a s₄.gens.size s₄.heap.objs.size (List.range s₄.heap.objs.size) wr pz n₀ F) →
            GenAt X.prog X.w X.A.in4 a s₄.gens.size s₄.heap.objs.size (List.range s₄.heap.objs.size) wr pz n₀ F 0
              { s₄ with gens := s₄.gens.push gs, toks := tk, heap := h₅ } →
            Q' (.ref a) { s₄ with gens := s₄.gens.push gs, toks := tk, heap := h₅ })) X.xe { s1 with heap := h3, toks := tk } := by
  have pAt : s1.heap.get? P = some { cls := .none, data := .fields ps } := J.hok P _ hP
  have pLt : P < s1.heap.objs.size := Heap.lt_size pAt
  have up : (s1.heap.push o).objs.size = s1.heap.objs.size + 1 := Heap.size_push ..
  have carry : ∀ b u, b ≠ P → s1.heap.get? b = some u → h3.get? b = some u := by
    intro b u hb e
    exact M.ext b u hb (Heap.get?_push_of_some _ e)
  have lim1 := J.nolimit
  have stP : cStatics ≠ P := by
    rintro rfl
    obtain ⟨_, ⟨o', es, ep, h1, h2, _⟩, _⟩ := lim1
    rw [pAt] at h1
    cases h1
    cases h2
  have stLt : cStatics < s1.heap.objs.size := by
    obtain ⟨_, hns, _⟩ := lim1
    exact hns.lt
  have glob1 : s1.heap.Ns mainGlobals X.mg := J.mod.glob.keeps J.bk
  have glob3 : h3.Ns mainGlobals X.mg := (glob1.push o).extBut M.ext TB.gP
  have gm : X.env.globals = mainGlobals := J.ok.glob
  obtain ⟨bm, ob, e1, e2, _, e4, e5, e6, e7, e8⟩ := TB.bm
  refine wpAny_builtinsFor (m := X.mg) (by rw [gm]; exact glob3) e1 e2 (carry _ _ e4 (J.bk _ _ e5)) e6 e7 e8 ?_
  have newLt : s1.heap.objs.size < h3.objs.size := Nat.lt_of_lt_of_le (by rw [up]; exact Nat.lt_succ_self _) M.size
  refine ⟨_, _, _, _, SignAt a, St, (fun _ => true), (fun i y => ∃ c, a.cps[i]? = some c ∧ y = .bool (p c)), rfl, wk, ?_, ?_, ?_, ?_, ?_, ?_⟩
  · -- the text's iterator stands
    refine (wk X.A hr.hd).frame _ _ _ st ?_
    intro b hb u e
    obtain rfl : b = s1.heap.objs.size := by simpa using hb
    exact M.ext _ u (Nat.ne_of_gt pLt) e
  · intro b hb
    obtain rfl : b = s1.heap.objs.size := by simpa using hb
    exact newLt
  · exact (lim1.push o).extBut M.ext stP
  · intro hb
    have : cStatics = s1.heap.objs.size := by simpa using hb
    exact absurd this (Nat.ne_of_lt stLt)
  · -- the generator's element
    intro href hh
    constructor
    · intro A' E' i v s₂ m₂ _ _ _ _ _
      simp only [List.forIn_nil]
      exact wpAny_pure ⟨rfl, GxR.keeps_refl _⟩
    · intro A' E' i v s₂ m₂ _ hv _ hn hm hk
      obtain ⟨c, u, hc, rfl⟩ := hv
      have g2 : s₂.heap.Ns mainGlobals X.mg := by
        refine glob3.at' fun ob' eo => ?_
        refine hk mainGlobals (List.mem_range.mpr (Heap.lt_size eo)) ?_ ob' (hh _ _ eo)
        intro hb
        have q1 : mainGlobals = s1.heap.objs.size := by simpa using hb
        exact absurd q1 (Nat.ne_of_lt glob1.lt)
      refine wpAny_mono (hel _ A' E' c u s₂ m₂ rfl gm g2 hn hm) ?_ (fun _ _ z => z)
      rintro y s3 ⟨ey, ek⟩
      exact ⟨⟨c, hc, ey⟩, ek⟩
  · -- the generator as it is handed on
    intro g h5 tk5 gs bare hag sz5 keep5 W hat
    simp only [GxR.passing_true, List.length_range] at W
    refine hQ g _ ⟨_, _, _, _, _, W.in4_1, hat, ?_, ?_⟩
    · rintro j y sj Qj Ej ⟨i, hij, c, hc, rfl⟩ hq
      have hi : i = j := by
        obtain ⟨hj, ej⟩ := List.getElem?_eq_some_iff.mp hij
        simpa using ej.symm
      subst hi
      have hc' : a.cps.toList[i]? = some c := by simpa using hc
      have et : GxR.trF p a.cps.toList i = p c := GxR.trF_some hc'
      rw [et] at hq
      exact wpAny_truthy_bool hq
    · intro s' mv
      obtain ⟨m, rfl⟩ := M.more
      have old : ∀ b u, s1.heap.get? b = some u → ¬ b ∈ h3.objs.size :: [s1.heap.objs.size] := by
        intro b u e hb
        have lt := Heap.lt_size e
        have hb' : b = h3.objs.size ∨ b = s1.heap.objs.size := by simpa using hb
        rcases hb' with rfl | rfl
        · exact Nat.lt_irrefl _ (Nat.lt_trans lt newLt)
        · exact Nat.lt_irrefl _ lt
      have nI := GxR.inv_tab (more := m) (h' := s'.heap) (g' := s'.gens) (d' := s'.drawn) (t' := s'.toks) J hP
        (fun b u hb e => mv.heap b u (old b u e) (keep5 b u (carry b u hb e))) (mv.heap P _ (old P _ pAt) (keep5 P _ M.tab))
        (AllBare.movedS (J.bare.push bare) mv)
      rw [GxR.sh_eta s1 s' mv.os] at nI
      exact ⟨_, ⟨⟨_, upd_same, M.ok⟩, fun b hb => upd_ne hb⟩, nI⟩

theorem gen_text {cd P : Addr} {e it : Expr} {x : Str} {px gp : Pos} {sc : Scope} {p : Nat → Bool} {te : TE} {k : Nat} {Q' : Value → Shared → Prop} {R : Str → Hp → Prop}
    (hr : Room k X.A) (TB : GxR.TabB X.base X.mg cd P) (hcode : X.env.code = .ref cd) (S : GxR.GenS X.env sc x) (hi : PE X it te) (hel : SignTest X.prog X.w X.mg sc x e p)
    (hf : ∀ v, genFold it X.env v = pure v) (I : Inv X pins σ H s) (h : te σ H fun v H1 => ∃ a : Str, v = .str a ∧ GxR.TabG H1 P ∧ R a H1)
    (hQ : ∀ a H1 g s5, R a H1 → GxR.Ready X pins σ H1 P a p g s5 → Q' (.ref g) s5) :
    wpAny (model X.prog X.w) X.A (eval (.GeneratorExp e [⟨.Name x px, it, [], 0⟩] sc gp) X.env) Q' X.xe s := by
  have dl := hr.dp
  refine wpAny_GeneratorExp_walksQ hr.hd S.co (closure_ok S.free) S.cell S.dot S.loc S.kind (by omega) ?_ hf
  refine thn (hi.run pins s σ H _ I h) ?_
  rintro u s1 ⟨v, H1, J, ru, a, rfl, ⟨ps, hP, tok⟩, hR⟩
  obtain ⟨t, rfl⟩ := _root_.id ru
  apply wpAny_pyIter_str
  intro o St wk st
  have pAt : s1.heap.get? P = some { cls := .none, data := .fields ps } := J.hok P _ hP
  have pAt2 : (s1.heap.push o).get? P = some { cls := .none, data := .fields ps } := Heap.get?_push_of_some _ pAt
  have cAt : PySem.W.CodeHd (s1.heap.push o) cd P := TB.code.keeps fun b u e => Heap.get?_push_of_some _ (J.bk b u e)
  refine ⟨J.nolimit.push o, ?_⟩
  rcases hca : codeAmong gp ps.toList with _ | cv
  · refine wpAny_genexprCodeX hcode (cAt.code pAt2 tok) (cAt.tab pAt2) hca ?_
    intro c' h' tk hx hge hlt hco _ htab _
    have htr : TriplesOk (ps ++ #[rawInt gp.line, rawInt gp.col, .ref c']).toList := by
      obtain ⟨_, _, _, _, _, _, _, _, _, _, _, _, _, _, _, _, _, _, _, q, _⟩ := hco
      exact q
    exact gen_mid (it := it) (px := px) (gp := gp) hr TB hel J hP ⟨hx, Nat.le_trans hge (Nat.le_of_lt hlt), htab.2, ⟨_, rfl⟩, htr⟩ wk st fun g s5 => hQ a H1 g s5 hR
  · refine wpAny_genexprCode_hit hcode (cAt.code pAt2 tok) hca ?_
    exact gen_mid (it := it) (px := px) (gp := gp) hr TB hel J hP ⟨Heap.ExtBut.refl _ _, Nat.le_refl _, pAt2, ⟨#[], by simp⟩, tok⟩ wk st fun g s5 => hQ a H1 g s5 hR

theorem pe_allT {cd P : Addr} {e it : Expr} {x : Str} {px pa pos gp : Pos} {sc : Scope} {p : Nat → Bool} {te : TE} {k : Nat}
    (hr : Room k X.A) (hg : Gl X "all") (hm : X.mg "all" = none) (TB : GxR.TabB X.base X.mg cd P) (hcode : X.env.code = .ref cd) (S : GxR.GenS X.env sc x) (hi : PE X it te)
    (hel : SignTest X.prog X.w X.mg sc x e p) (hf : ∀ v, genFold it X.env v = pure v) (hb : bootBuiltins "all" = some (.builtin "all") := by decide +kernel)
    (he : starEach [.GeneratorExp e [⟨.Name x px, it, [], 0⟩] sc gp] X.env = (false, eval (.GeneratorExp e [⟨.Name x px, it, [], 0⟩] sc gp) X.env) :: starEach [] X.env := by rfl) :
    PE X (.Call (.Name "all" pa) [.GeneratorExp e [⟨.Name x px, it, [], 0⟩] sc gp] [] pos) (GxR.tAllS P p te) := by
  constructor
  intro pins s σ H Q I h
  apply wpAny_Call_Name_kw
  refine ld_blt I hg hm hb ?_
  refine PyProof.Rows.callWith_builtin1 ?_ he (by rfl)
  rw [he]
  show wpAny _ _ (spliced ((false, eval _ X.env) :: backTo pos (starEach [] X.env))) _ _ s
  apply Calls.spliced_cons
  refine gen_text (R := fun a H1 => ∀ H2, GxR.Tabbed P H1 H2 → Q (.bl (a.cps.toList.all p)) H2) hr TB hcode S hi hel hf I h ?_
  rintro a H1 g s5 hR ⟨fp, wr, G, F, St, W, hst, htr, hI⟩
  apply Calls.spliced_nil
  refine call_all_walkS (W.self 0 _ _ _ hst ⟨g, fp, wr, G, _, F, St, _, rfl, W, hst, htr, ?_⟩)
  intro s' mv
  obtain ⟨H2, hT, J⟩ := hI s' mv
  refine ⟨.bl _, H2, J, rfl, ?_⟩
  rw [GxR.all_signs]
  exact hR H2 hT
end
section
variable {X : Cx}
/-- x is not True, x a flat thing -/
theorem op_isnotB : OpR X (compareOp .IsNot) (fun x y H Q => ∃ b, flatV x = true ∧ y = .bl b ∧ Q (.bl (!decide (x = .bl b))) H) := by
  intro pins s σ H x y v u Q I rx ry h
  obtain ⟨b, fx, rfl, q⟩ := h
  cases (show u = Value.bool b from ry)
  cases x with
  | non =>
    cases (show v = Value.none from rx)
    exact wpAny_isNot_other rfl (fun z => nomatch z) ⟨.bl true, H, I, rfl, by simpa using q⟩
  | bl a =>
    cases (show v = Value.bool a from rx)
    by_cases e : a = b
    · subst e
      exact wpAny_isNot_self rfl ⟨.bl false, H, I, rfl, by simpa using q⟩
    · exact wpAny_isNot_other rfl (fun z => e (Value.bool.inj z)) ⟨.bl true, H, I, rfl, by simpa [e] using q⟩
  | int i =>
    obtain ⟨t, rfl⟩ := rx
    exact wpAny_isNot_other rfl (fun z => nomatch z) ⟨.bl true, H, I, rfl, by simpa using q⟩
  | str z =>
    obtain ⟨t, rfl⟩ := rx
    exact wpAny_isNot_other rfl (fun z => nomatch z) ⟨.bl true, H, I, rfl, by simpa using q⟩
  | _ => cases fx
/-- x is True, x a flat thing -/
theorem op_isB : OpR X (compareOp .Is) (fun x y H Q => ∃ b, flatV x = true ∧ y = .bl b ∧ Q (.bl (decide (x = .bl b))) H) := by
  intro pins s σ H x y v u Q I rx ry h
  obtain ⟨b, fx, rfl, q⟩ := h
  cases (show u = Value.bool b from ry)
  cases x with
  | non =>
    cases (show v = Value.none from rx)
    exact wpAny_is_other rfl (fun z => nomatch z) ⟨.bl false, H, I, rfl, by simpa using q⟩
  | bl a =>
    cases (show v = Value.bool a from rx)
    by_cases e : a = b
    · subst e
      exact wpAny_is_self rfl ⟨.bl true, H, I, rfl, by simpa using q⟩
    · exact wpAny_is_other rfl (fun z => e (Value.bool.inj z)) ⟨.bl false, H, I, rfl, by simpa [e] using q⟩
  | int i =>
    obtain ⟨t, rfl⟩ := rx
    exact wpAny_is_other rfl (fun z => nomatch z) ⟨.bl false, H, I, rfl, by simpa using q⟩
  | str z =>
    obtain ⟨t, rfl⟩ := rx
    exact wpAny_is_other rfl (fun z => nomatch z) ⟨.bl false, H, I, rfl, by simpa using q⟩
  | _ => cases fx
end

section
variable {prog : Program} {w : World} {A : Around} {E : Value → Shared → Prop} {s : Shared}
theorem gives_ge_bi (b : Bool) (a : Int) (t : Tok) : Gives (Builtin.«int.__ge__» ⟨[.bool b, .int a t], []⟩) (.val (.bool (decide (a ≤ if b then (1 : Int) else 0)))) := by
  cases b <;> exact .of_eq rfl
theorem le_int_bool {a : Int} {t : Tok} {b : Bool} {Q : Value → Shared → Prop} (h : Q (.bool (decide (a ≤ if b then (1 : Int) else 0))) s) : wpAny (model prog w) A (compareOp .LtE (.int a t) (.bool b)) Q E s := by
  have hop : compareOp .LtE (.int a t) (.bool b) = richCompare .LtE (.int a t) (.bool b) := by rfl
  rw [hop]
  exact SeqAt.rc_sub_first_or (op := .LtE) (typeIs_int s a t) (Tb := "bool") rfl (by decide) F.sub_bool_int F.slot_bool_ge_refl
    (call_gives F.slot_bool_ge_refl rfl F.entry_int_ge (F.args_int_ge_2 _ _) (gives_ge_bi b a t) ⟨nofun, h⟩) (.inl rfl)
theorem ge_bool_int {a : Bool} {b : Int} {u : Tok} {Q : Value → Shared → Prop} (h : Q (.bool (decide (b ≤ if a then (1 : Int) else 0))) s) : wpAny (model prog w) A (compareOp .GtE (.bool a) (.int b u)) Q E s := by
  have hop : compareOp .GtE (.bool a) (.int b u) = richCompare .GtE (.bool a) (.int b u) := by rfl
  rw [hop]
  exact SeqAt.rc_left_or (op := .GtE) (Ta := "bool") rfl (typeIs_int s b u) (by decide) F.sub_int_bool F.slot_bool_ge
    (call_gives F.slot_bool_ge rfl F.entry_int_ge (F.args_int_ge_2 _ _) (gives_ge_bi a b u) ⟨nofun, h⟩) (.inl rfl)
end
/-- the number of an int or a truth -/
def nmV : V → Option Int
  | .int i => some i
  | .bl b => some (if b then 1 else 0)
  | _ => none
section
variable {X : Cx}
theorem op_leN : OpR X (compareOp .LtE) (fun x y H Q => ∃ i j, x = .int i ∧ nmV y = some j ∧ Q (.bl (decide (i ≤ j))) H) := by
  intro pins s σ H x y v u Q I rx ry h
  obtain ⟨i, j, rfl, e, q⟩ := h
  obtain ⟨t, rfl⟩ := rx
  cases y with
  | int k =>
    obtain ⟨t', rfl⟩ := ry
    cases e
    exact P.le_int ⟨.bl _, H, I, rfl, q⟩
  | bl b =>
    cases (show u = Value.bool b from ry)
    cases e
    exact le_int_bool ⟨.bl _, H, I, rfl, q⟩
  | _ => cases e
theorem op_geN : OpR X (compareOp .GtE) (fun x y H Q => ∃ i j, nmV x = some i ∧ y = .int j ∧ Q (.bl (decide (j ≤ i))) H) := by
  intro pins s σ H x y v u Q I rx ry h
  obtain ⟨i, j, e, rfl, q⟩ := h
  obtain ⟨t, rfl⟩ := ry
  cases x with
  | int k =>
    obtain ⟨t', rfl⟩ := rx
    cases e
    exact P.ge_int ⟨.bl _, H, I, rfl, q⟩
  | bl b =>
    cases (show v = Value.bool b from rx)
    cases e
    exact ge_bool_int ⟨.bl _, H, I, rfl, q⟩
  | _ => cases e
end
end K1
set_option Elab.async false
set_option linter.all false
set_option maxRecDepth 100000
set_option maxHeartbeats 4000000
/-! What the promises speak of: kinds of things, the tables of code, heaps that have grown. -/
namespace K1
open PySem PySem.Spec PyProof.Rows L2

/-! ### kinds of things -/
/-- a thing, its kind, and its items if it is a tuple -/
inductive Th (K : PySem.W.Frag) (H : Hp) : V → String → Option (List V) → Prop
  | non : Th K H .non "NoneType" none
  | bl (b : Bool) : Th K H (.bl b) "bool" none
  | int (i : Int) : Th K H (.int i) "int" none
  | str (x : Str) (h : x.length ≤ sizeLine) : Th K H (.str x) "str" none
  | lst {a : Addr} {xs : List V} (e : SqL K H a xs) : Th K H (.ref a) "list" none
  | tup {a : Addr} {xs : List V} (e : SqT K H a xs) : Th K H (.ref a) "tuple" (some xs)
  | dK {a : Addr} {kvs : List (Key × V)} (e : H a = some (.dK kvs)) : Th K H (.ref a) "dict" none
theorem tyT {K : PySem.W.Frag} {H : Hp} {a : Addr} {xs : List V} (e : SqT K H a xs) : TyX K H (.ref a) (.type "tuple") := by
  rcases e with (e | ⟨o, e⟩) | ⟨o, its, n, e, c, _⟩
  · exact .base (.tup e)
  · exact .fTuple e
  · exact .kTuple e c
theorem tyL {K : PySem.W.Frag} {H : Hp} {a : Addr} {xs : List V} (e : SqL K H a xs) : TyX K H (.ref a) (.type "list") := by
  rcases e with (e | ⟨o, e⟩) | ⟨o, its, n, e, c, _⟩
  · exact .base (.lst e)
  · exact .base (.frz e)
  · exact .kList e c
theorem Th.ty {K : PySem.W.Frag} {H : Hp} {v : V} {n : String} {o : Option (List V)} (h : Th K H v n o) : TyX K H v (.type n) := by
  cases h with
  | non => exact .base .non
  | bl b => exact .base (.bl b)
  | int i => exact .base (.int i)
  | str x _ => exact .base (.str x)
  | lst e => exact tyL e
  | tup e => exact tyT e
  | dK e => exact .base (.dK e)
def isI : V → Bool
  | .int _ => true
  | _ => false
def isB : V → Bool
  | .bl _ => true
  | _ => false
def isS : V → Bool
  | .str _ => true
  | _ => false
theorem Th.kint {K : PySem.W.Frag} {H : Hp} {v : V} {n : String} {o : Option (List V)} (h : Th K H v n o) : kitB n "int" = some (isI v || isB v) := by
  cases h <;> (first | (show kitB _ _ = some true; decide +kernel) | (show kitB _ _ = some false; decide +kernel) | decide +kernel)
theorem Th.kbool {K : PySem.W.Frag} {H : Hp} {v : V} {n : String} {o : Option (List V)} (h : Th K H v n o) : kitB n "bool" = some (isB v) := by
  cases h <;> (first | (show kitB _ _ = some true; decide +kernel) | (show kitB _ _ = some false; decide +kernel) | decide +kernel)
theorem Th.kstr {K : PySem.W.Frag} {H : Hp} {v : V} {n : String} {o : Option (List V)} (h : Th K H v n o) : kitB n "str" = some (isS v) := by
  cases h <;> (first | (show kitB _ _ = some true; decide +kernel) | (show kitB _ _ = some false; decide +kernel) | decide +kernel)
theorem Th.ktup {K : PySem.W.Frag} {H : Hp} {v : V} {n : String} {o : Option (List V)} (h : Th K H v n o) : kitB n "tuple" = some o.isSome := by
  cases h <;> (first | (show kitB _ _ = some true; decide +kernel) | (show kitB _ _ = some false; decide +kernel) | decide +kernel)
theorem Th.klst {K : PySem.W.Frag} {H : Hp} {v : V} {n : String} {o : Option (List V)} (h : Th K H v n o) : kitB n "list" = some (decide (n = "list")) := by
  cases h <;> (first | (show kitB _ _ = some true; decide +kernel) | (show kitB _ _ = some false; decide +kernel) | decide +kernel)
/-- isinstance of a thing and a class, answered -/
theorem isi {K : PySem.W.Frag} {H : Hp} {v : V} {n m : String} {o : Option (List V)} {b : Bool} {Q : VK} (th : Th K H v n o) (k : kitB n m = some b) (q : Q (.bl b) H) : rIsi K [v, .ty m] H Q :=
  ⟨v, .ty m, .type n, .type m, b, rfl, .ty m, th.ty, kit_ty k, q⟩

/-! ### heaps -/
/-- the places of the tables of code objects that may come to be fuller -/
abbrev Tp := List Addr
def TG (T : Tp) (H : Hp) : Prop := ∀ P ∈ T, GxR.TabG H P
/-- H' is H, grown: the tables may be longer, what D tells may be otherwise -/
def Go (T : Tp) (D : Addr → Prop) (H H' : Hp) : Prop := TG T H' ∧ ∀ b o, b ∉ T → ¬ D b → H b = some o → H' b = some o
abbrev D0 : Addr → Prop := fun _ => False
section
variable {T : Tp} {D D' : Addr → Prop} {H H1 H2 : Hp}
theorem Go.rfl' (t : TG T H) : Go T D H H := ⟨t, fun _ _ _ _ e => e⟩
theorem Go.trans (g : Go T D H H1) (g' : Go T D H1 H2) : Go T D H H2 := ⟨g'.1, fun b o h1 h3 e => g'.2 b o h1 h3 (g.2 b o h1 h3 e)⟩
theorem Go.mono (g : Go T D H H1) (h : ∀ b, D b → D' b) : Go T D' H H1 := ⟨g.1, fun b o h1 h3 e => g.2 b o h1 (fun z => h3 (h b z)) e⟩
theorem Go.up (g : Go T D0 H H1) : Go T D H H1 := g.mono fun _ z => z.elim
theorem TabG.ne {P p : Addr} (t : GxR.TabG H P) (h : H p = none) : P ≠ p := by
  obtain ⟨ps, e, _⟩ := t
  exact ne_of_none e h
theorem TG.stay {p : Addr} {o : HO} (t : TG T H) (h1 : p ∉ T) : TG T (upd H p o) := by
  intro P hP
  obtain ⟨ps, e, r⟩ := t P hP
  exact ⟨ps, (upd_ne (fun z => h1 (by rw [← z]; exact hP))).trans e, r⟩
theorem TG.new {p : Addr} {o : HO} (t : TG T H) (h : H p = none) : TG T (upd H p o) := t.stay fun z => TabG.ne (t p z) h rfl
theorem Go.new {p : Addr} {o : HO} (g : Go T D H H1) (h : H1 p = none) : Go T D H (upd H1 p o) := by
  refine ⟨g.1.new h, fun b u h1 h3 e => ?_⟩
  have e1 := g.2 b u h1 h3 e
  rw [upd_ne (ne_of_none e1 h)]
  exact e1
theorem TG.neW {b : Addr} {o : HO} (t : TG T H) (e : H b = some o) (ho : ∀ ps, o ≠ .tbl ps) : b ∉ T := fun z => by
  obtain ⟨ps, e', _⟩ := t b z
  rw [e] at e'
  exact ho ps (Option.some.inj e')
/-- an object of D is changed -/
theorem Go.set {p : Addr} {o u : HO} (g : Go T D H H1) (d : D p) (h : H1 p = some u) (hu : ∀ ps, u ≠ .tbl ps) : Go T D H (upd H1 p o) := by
  refine ⟨g.1.stay (g.1.neW h hu), fun b v h1 h3 e => ?_⟩
  rw [upd_ne (fun z => h3 (by rw [z]; exact d))]
  exact g.2 b v h1 h3 e
/-- a table that is fuller -/
theorem Go.tab {P : Addr} (t : TG T H) (hP : P ∈ T) (x : GxR.Tabbed P H H1) : Go T D H H1 := by
  refine ⟨fun Q hQ => ?_, fun b o h1 _ e => (x.2 b (fun z => h1 (by rw [z]; exact hP))).trans e⟩
  by_cases z : Q = P
  · rw [z]; exact x.1
  · obtain ⟨qs, e, r⟩ := t Q hQ
    exact ⟨qs, (x.2 _ z).trans e, r⟩
theorem Go.at {b : Addr} {o : HO} (g : Go T D H H1) (t : TG T H) (d : ¬ D b) (e : H b = some o) (ho : ∀ ps, o ≠ .tbl ps := by intro ps z; cases z) : H1 b = some o :=
  g.2 b o (t.neW e ho) d e
/-- a free place was free -/
theorem Go.free {b : Addr} (g : Go T D H H1) (t : TG T H) (d : ¬ D b) (h : H1 b = none) : H b = none := by
  cases q : H b with
  | none => rfl
  | some o =>
    have h1 : b ∉ T := fun z => TabG.ne (g.1 b z) h rfl
    rw [g.2 b o h1 d q] at h
    cases h
/-- sequences stand -/
theorem Go.seqT {K : PySem.W.Frag} {a : Addr} {xs : List V} (g : Go T D H H1) (t : TG T H) (d : ∀ o, H a = some o → ¬ D a) (h : SqT K H a xs) : SqT K H1 a xs := by
  rcases h with (h | ⟨o, h⟩) | h
  · exact .inl (.inl (g.at t (d _ h) h))
  · exact .inl (.inr ⟨o, g.at t (d _ h) h⟩)
  · exact .inr h
theorem Go.seqL {K : PySem.W.Frag} {a : Addr} {xs : List V} (g : Go T D H H1) (t : TG T H) (d : ∀ o, H a = some o → ¬ D a) (h : SqL K H a xs) : SqL K H1 a xs := by
  rcases h with (h | ⟨o, h⟩) | h
  · exact .inl (.inl (g.at t (d _ h) h))
  · exact .inl (.inr ⟨o, g.at t (d _ h) h⟩)
  · exact .inr h
theorem Th.go {K : PySem.W.Frag} {v : V} {n : String} {o : Option (List V)} (h : Th K H v n o) (g : Go T D H H1) (t : TG T H) (d : ∀ a, v = .ref a → ¬ D a) : Th K H1 v n o := by
  cases h with
  | non => exact .non
  | bl b => exact .bl b
  | int i => exact .int i
  | str x h => exact .str x h
  | lst e => exact .lst (g.seqL t (fun _ _ => d _ rfl) e)
  | tup e => exact .tup (g.seqT t (fun _ _ => d _ rfl) e)
  | dK e => exact .dK (g.at t (d _ rfl) e)
/-- only a dict is otherwise -/
theorem dOne {d a : Addr} {kvs : List (Key × V)} (e : H d = some (.dK kvs)) {o : HO} (h : H a = some o) (ho : ∀ k, o ≠ .dK k) : ¬ a = d := by
  intro z
  rw [z, e] at h
  exact ho _ (Option.some.inj h).symm
end

/-! ### calls of the module's defs -/
structure Cal (P : Program) (w : World) (K : PySem.W.Frag) (mg : Str → Option Value) (base : Heap) (k : Nat) (x : Str) (ps : List Str) (sp : Sp) : Prop where
  ex : ∃ (f : Addr) (fd : FuncData), FnOk P w K mg base CX0 k f fd ps sp ∧ mg x = some (.ref f) ∧ PySem.W.keepIn K (.ref f) = true ∧ Binds K fd ps []
theorem pe_cal {X : Cx} {k : Nat} {x : Str} {ps : List Str} {sp : Sp} {e : Expr} {es : List Expr} {t : TA} {p pos : Pos} (C : Cal X.prog X.w X.K X.mg X.base k x ps sp) (hr : Room k X.A) (hg : Gl X x) (ha : PA X (e :: es) t)
    (hdb : (x == ("__debug__" : Str)) = false := by decide) (he : starEach (e :: es) X.env = (false, eval e X.env) :: starEach es X.env := by rfl) (hpl : (backTo pos (starEach es X.env)).any (·.1) = false := by rfl) :
    PE X (.Call (.Name x p) (e :: es) [] pos) (tCall sp [] E0 t) := by
  obtain ⟨f, fd, F, hm, hk, hb⟩ := C.ex
  exact pe_call F hr hg hm hk hb .nil pass0 ha hdb he hpl
end K1
set_option Elab.async false
set_option linter.all false
set_option maxRecDepth 100000
set_option maxHeartbeats 4000000
/-! The program's defs: is_whole, is_among, is_word, is_hand, is_name, is_put_line, is_end. -/
namespace K1
open PySem PySem.Spec PyProof.Rows L2

def ltrs : Str := "abcdefghijklmnopqrstuvwxyz"
def figs : Str := "0123456789"
def wordOk (x : Str) : Bool := (decide ((1 : Int) ≤ x.length) && decide ((x.length : Int) ≤ 8)) && x.cps.toList.all (fun c => decide (c ∈ ltrs.cps.toList))
def wordV : V → Bool
  | .str x => wordOk x
  | _ => false
def noHands : List V := [.str "head", .str "foot", .str "none"]
def handV (v : V) : Bool := wordV v && !inV v noHands
def amgV (v : V) (lo hi : Int) : Bool := match v with
  | .int i => decide (lo ≤ i) && decide (i ≤ hi)
  | _ => false
def geOne : V → Bool
  | .int i => decide (1 ≤ i)
  | _ => false
def nameL : Option (List V) → Bool
  | some [p, q] => handV p && amgV q 1 999
  | _ => false
def putL : Option (List V) → Bool
  | some [p, q, r] => (handV p && amgV q 1 999) && geOne r
  | _ => false
def endL : Option (List V) → Bool
  | some [p, q, r] => (decide (p = .str "") && amgV q 0 0) && amgV r 0 1
  | _ => false

/-- the module's names -/
structure Mg (K : PySem.W.Frag) (mg : Str → Option Value) : Prop where
  ins : mg "isinstance" = none
  int_ : mg "int" = none
  bool_ : mg "bool" = none
  str_ : mg "str" = none
  tuple_ : mg "tuple" = none
  list_ : mg "list" = none
  len_ : mg "len" = none
  all_ : mg "all" = none
  range_ : mg "range" = none
  enum_ : mg "enumerate" = none
  sum_ : mg "sum" = none
  mostL : ∃ t, mg "MOST_LETTERS" = some (.int 8 t)
  mostN : ∃ t, mg "MOST_NUMBER" = some (.int 999 t)
  hd : ∃ a, mg "HEAD" = some (.ref a) ∧ ∀ H, SqT K H a [.str "", .int 0, .int 0]
  ft : ∃ a, mg "FOOT" = some (.ref a) ∧ ∀ H, SqT K H a [.str "", .int 0, .int 1]

theorem Th.strOf {K : PySem.W.Frag} {H : Hp} {v : V} {n : String} {o : Option (List V)} (h : Th K H v n o) (e : isS v = true) : ∃ x, v = .str x ∧ x.length ≤ sizeLine := by
  cases h with
  | str x h => exact ⟨x, rfl, h⟩
  | _ => cases e
theorem wordV_no {v : V} (e : isS v = false) : wordV v = false := by
  cases v with
  | str x => cases e
  | _ => rfl
theorem intOf {v : V} (e : isI v = true) : ∃ i, v = .int i := by
  cases v with
  | int i => exact ⟨i, rfl⟩
  | _ => cases e
theorem amgV_no {v : V} {lo hi : Int} (e : isI v = false) : amgV v lo hi = false := by
  cases v with
  | int i => cases e
  | _ => rfl

theorem tl_ltrs : ltrs.cps.toList = [97, 98, 99, 100, 101, 102, 103, 104, 105, 106, 107, 108, 109, 110, 111, 112, 113, 114, 115, 116, 117, 118, 119, 120, 121, 122] := by decide +kernel
theorem ltr_iff {c : Nat} : c ∈ ltrs.cps.toList ↔ 97 ≤ c ∧ c ≤ 122 := by
  rw [tl_ltrs]
  simp only [List.mem_cons, List.not_mem_nil, or_false]
  omega
theorem cls_signs : ∀ c, c < 128 → Unicode.isAlpha c = (decide (97 ≤ c ∧ c ≤ 122) || decide (65 ≤ c ∧ c ≤ 90)) ∧ Unicode.isLower c = decide (97 ≤ c ∧ c ≤ 122) ∧ (Unicode.isUpper c || Unicode.isTitle c) = decide (65 ≤ c ∧ c ≤ 90) := by decide +kernel
/-- the program's three questions are one -/
theorem word_eq {x : Str} (h : decide ((x.length : Int) ≤ 8) = true) : wordOk x = (Txt.isascii x && (Txt.isalpha x && Txt.islower x)) := by
  have e0 : wordOk x = (decide ((1 : Int) ≤ x.length) && x.cps.toList.all (fun c => decide (c ∈ ltrs.cps.toList))) := by
    unfold wordOk
    rw [h, Bool.and_true]
  have lx : x.length = x.cps.toList.length := by rw [Array.length_toList]; rfl
  have ea : Txt.isascii x = x.cps.toList.all (fun c => decide (c < 128)) := by unfold Txt.isascii; rw [← Array.all_toList]
  have eb : Txt.isalpha x = (decide (x.length > 0) && x.cps.toList.all Unicode.isAlpha) := by unfold Txt.isalpha; rw [← Array.all_toList]
  have ec : Txt.islower x = (x.cps.toList.any Unicode.isLower && !x.cps.toList.any fun c => Unicode.isUpper c || Unicode.isTitle c) := by unfold Txt.islower; rw [← Array.any_toList, ← Array.any_toList]
  rw [e0, ea, eb, ec, lx]
  generalize x.cps.toList = l
  rw [Bool.eq_iff_iff]
  simp only [Bool.and_eq_true, decide_eq_true_eq, List.all_eq_true, List.any_eq_true, Bool.not_eq_true', List.any_eq_false, ltr_iff]
  constructor
  · rintro ⟨h1, h2⟩
    have a128 : ∀ c ∈ l, c < 128 := fun c hc => by have := h2 c hc; omega
    refine ⟨a128, ⟨by omega, fun c hc => ?_⟩, ?_, fun c hc => ?_⟩
    · rw [(cls_signs c (a128 c hc)).1, decide_eq_true (h2 c hc), Bool.true_or]
    · cases l with
      | nil => simp at h1
      | cons c r => exact ⟨c, by simp, by rw [(cls_signs c (a128 c (by simp))).2.1, decide_eq_true (h2 c (by simp))]⟩
    · rw [(cls_signs c (a128 c hc)).2.2, decide_eq_false (by have := h2 c hc; omega)]
      exact Bool.false_ne_true
  · rintro ⟨a128, ⟨h1, h2⟩, _, h4⟩
    refine ⟨by omega, fun c hc => ?_⟩
    have q1 := h2 c hc
    have q2 := h4 c hc
    rw [(cls_signs c (a128 c hc)).1] at q1
    rw [(cls_signs c (a128 c hc)).2.2] at q2
    simp only [Bool.or_eq_true, decide_eq_true_eq] at q1
    rcases q1 with q1 | q1
    · exact q1
    · exact absurd (decide_eq_true q1) q2

theorem noFree {l : List (Str × NameKind)} {p : Str × NameKind → Prop} (h : (l.all fun y => decide (y.2 ≠ NameKind.free)) = true) : ∀ y ∈ l, y.2 = NameKind.free → p y := fun y hy e =>
  absurd e (of_decide_eq_true (List.all_eq_true.mp h y hy))
section
variable {P : Program} {w : World} {K : PySem.W.Frag} {mg : Str → Option Value} {base : Heap}

/-! ### defs whose code object is known -/
theorem ok_code {x qual : Str} {st : Stmt} {f c : Addr} {oc kV doc pm ct : Value} {od an : Option Addr} {osl : Array (Option Value)} {N ps : List Str} {k : Nat} {sp : Sp}
    (l : K.lookup f = some ⟨oc, od, .func (PySem.W.fnOf x qual (defArgs st) (defBody st) (defScope st) .none kV doc pm an (.ref c) ct), osl⟩) (hc : PySem.W.codeIn K (.ref c) qual = true)
    (S : FnScope N ps (defScope st)) (len : ∀ vs H Q E, sp vs H Q E → vs.length = ps.length)
    (hb : ∀ (A : Around) (outer : List Env) (s : Shared) (H : Hp) (vs : List V) (Q : VK) (E : XK), Room k (A.deeper (envOfC qual (defScope st) s.heap.objs.size f (.ref c))) → sp vs H Q E →
      ∃ t, PSs (cxOf CX0 P w K mg base N qual (defScope st) f (.ref c) A outer s H E).nox (defBody st) t ∧ t { nx := fun _ H' => Q .non H', rt := Q } (start N vs) H) :
    FnOk P w K mg base CX0 (k + 1) f (PySem.W.fnOf x qual (defArgs st) (defBody st) (defScope st) .none kV doc pm an (.ref c) ct) ps sp := by
  refine fn_of l hc S len fun A outer s H vs Q E hr hsp => ?_
  obtain ⟨t, h, q⟩ := hb A outer s H vs Q E hr hsp
  exact ⟨t, h.nox, q⟩

/-! ### is_word -/
def spWord (K : PySem.W.Frag) (T : Tp) : Sp := fun vs H Q _ => ∃ v n o, vs = [v] ∧ Th K H v n o ∧ TG T H ∧ ∀ H', Go T D0 H H' → Q (.bl (wordV v)) H'
theorem ok_word {T : Tp} {f : Addr} {fd : FuncData} {k : Nat} (F : Fun K "is_word" "is_word" sWord f fd) (M : Mg K mg) : FnOk P w K mg base CX0 (k + 1) f fd ["thing"] (spWord K T) := by
  obtain ⟨tk, hL⟩ := M.mostL
  refine F.ok scWord (fun vs H Q E h => ?_) (fun cdv A outer s H vs Q E hr h => ?_)
  · obtain ⟨v, n, o, rfl, _⟩ := h
    rfl
  · obtain ⟨v, n, o, rfl, th, tg, q⟩ := h
    refine ⟨_, pss_cons (ps_if (PW.pt (pw_or (pt_not (pt_val (pe_callB call_isi (by rfl) M.ins boot_isinstance (pa_cons (pv 0) (pa_cons (pe_bltn (v := .ty "str") (by rfl) M.str_ boot_str rfl) pa_nil)))))
        (pw_or1 (pt_cmpR op_gt (pe_callB call_len_str (by rfl) M.len_ PySem.boot_len (pa_cons (pv 0) pa_nil)) (pe_glob (v := .int 8) (by rfl) hL ⟨_, rfl⟩) (nomark _)))))
        (pss_one (ps_ret pe_bl)) pss_nil)
      (pss_one (ps_ret (pe_and (pe_m0 PySem.F.slot_str_isascii PySem.F.type_str_isascii mt_isascii (pv 0)) (pe_and (pe_m0 PySem.F.slot_str_isalpha PySem.F.type_str_isalpha mt_isalpha (pv 0)) (pe_one (pe_m0 PySem.F.slot_str_islower PySem.F.type_str_islower mt_islower (pv 0))))))), ?_⟩
    refine ⟨v, rfl, v, .ty "str", .type n, .type "str", _, rfl, .ty _, th.ty, kit_ty th.kstr, _, rfl, ite2 (fun e => iteT ?_) (fun e => ?_)⟩
    · rw [wordV_no (by simpa using e)] at q
      exact q H (Go.rfl' tg)
    · obtain ⟨x, rfl, hx⟩ := th.strOf (by simpa using e)
      have fin : ∀ b, wordOk x = b → Q (.bl b) H := fun b e => e ▸ q H (Go.rfl' tg)
      refine ⟨.str x, rfl, x, rfl, hx, _, _, rfl, rfl, _, rfl, ite2 (fun e1 => ?_) (fun e1 => ?_)⟩
      · have e2 : decide ((x.length : Int) ≤ 8) = false := decide_eq_false (by have := of_decide_eq_true e1; omega)
        refine fin _ ?_
        show (decide ((1 : Int) ≤ x.length) && decide ((x.length : Int) ≤ 8) && _) = false
        rw [e2, Bool.and_false, Bool.false_and]
      · have e2 : decide ((x.length : Int) ≤ 8) = true := decide_eq_true (by have := of_decide_eq_false (Bool.eq_false_iff.mpr e1); omega)
        have e3 := word_eq e2
        refine ⟨.str x, rfl, ⟨x, rfl⟩, x, rfl, rfl, trivial, _, rfl, ite2 (fun e4 => ⟨.str x, rfl, ⟨x, rfl⟩, x, rfl, rfl, trivial, _, rfl, ite2 (fun e5 => ⟨.str x, rfl, ⟨x, rfl⟩, x, rfl, rfl, trivial, fin _ ?_⟩) (fun e5 => fin _ ?_)⟩) (fun e4 => fin _ ?_)⟩
        · rw [e3, e4, e5, Bool.true_and, Bool.true_and]
        · rw [e3, e4, Bool.eq_false_iff.mpr e5, Bool.true_and, Bool.false_and]
        · rw [e3, Bool.eq_false_iff.mpr e4, Bool.false_and]
end
end K1
set_option Elab.async false
set_option linter.all false
set_option maxRecDepth 100000
set_option maxHeartbeats 400000
/-! The program's defs: is_hand, is_name, is_put_line, is_end. -/
namespace K1
open PySem PySem.Spec PyProof.Rows L2

theorem notnot {b : Bool} (e : ¬ (!b) = true) : b = true := by
  cases b with
  | true => rfl
  | false => exact absurd rfl e
theorem Th.tupOf {K : PySem.W.Frag} {H : Hp} {v : V} {n : String} {o : Option (List V)} (h : Th K H v n o) (e : o.isSome = true) : ∃ a xs, v = .ref a ∧ SqT K H a xs ∧ o = some xs := by
  cases h with
  | tup q => exact ⟨_, _, rfl, q, rfl⟩
  | _ => cases e
theorem noneOf {o : Option (List V)} (e : ¬ (!o.isSome) = false) : o = none := by
  cases o with
  | none => rfl
  | some _ => exact absurd rfl e
theorem nameL_len {xs : List V} (h : ¬ xs.length = 2) : nameL (some xs) = false := by
  match xs with
  | [] => rfl
  | [_] => rfl
  | [_, _] => exact absurd rfl h
  | _ :: _ :: _ :: _ => rfl
theorem putL_len {xs : List V} (h : ¬ xs.length = 3) : putL (some xs) = false := by
  match xs with
  | [] => rfl
  | [_] => rfl
  | [_, _] => rfl
  | [_, _, _] => exact absurd rfl h
  | _ :: _ :: _ :: _ :: _ => rfl
theorem endL_len {xs : List V} (h : ¬ xs.length = 3) : endL (some xs) = false := by
  match xs with
  | [] => rfl
  | [_] => rfl
  | [_, _] => rfl
  | [_, _, _] => exact absurd rfl h
  | _ :: _ :: _ :: _ :: _ => rfl
theorem len2 {xs : List V} (h : xs.length = 2) : ∃ p q, xs = [p, q] := by
  match xs, h with
  | [p, q], _ => exact ⟨p, q, rfl⟩
theorem len3 {xs : List V} (h : xs.length = 3) : ∃ p q r, xs = [p, q, r] := by
  match xs, h with
  | [p, q, r], _ => exact ⟨p, q, r, rfl⟩
theorem strOfV {v : V} (e : isS v = true) : ∃ x, v = .str x := by
  cases v with
  | str x => exact ⟨x, rfl⟩
  | _ => cases e
theorem wordV_str {v : V} (e : wordV v = true) : ∃ x, v = .str x := by
  cases v with
  | str x => exact ⟨x, rfl⟩
  | _ => cases e

/-- an int or a truth -/
theorem numK {r : V} (h : (isI r || isB r) = true) : flatV r = true ∧ ∃ j, nmV r = some j ∧ (r = .bl true ∨ r = .int j ∨ (r = .bl false ∧ j = 0)) := by
  cases r with
  | int i => exact ⟨rfl, i, rfl, .inr (.inl rfl)⟩
  | bl b =>
    cases b with
    | true => exact ⟨rfl, 1, rfl, .inl rfl⟩
    | false => exact ⟨rfl, 0, rfl, .inr (.inr ⟨rfl, rfl⟩)⟩
  | _ => cases h
theorem amgV_num {r : V} {lo hi : Int} (h : ¬ (isI r || isB r) = true) : amgV r lo hi = false := by
  cases r with
  | int i => exact absurd rfl h
  | _ => rfl
theorem geOne_num {r : V} (h : ¬ (isI r || isB r) = true) : geOne r = false := by
  cases r with
  | int i => exact absurd rfl h
  | _ => rfl
theorem isB_num {r : V} (h : decide (r = .bl true) = true) : amgV r 1 999 = false ∧ geOne r = false := by
  rw [of_decide_eq_true h]
  exact ⟨rfl, rfl⟩

section
variable {P : Program} {w : World} {K : PySem.W.Frag} {mg : Str → Option Value} {base : Heap} {T : Tp}

/-! ### is_hand -/
def spHand (K : PySem.W.Frag) (T : Tp) : Sp := fun vs H Q _ => ∃ v n o, vs = [v] ∧ Th K H v n o ∧ TG T H ∧ ∀ H', Go T D0 H H' → Q (.bl (handV v)) H'
theorem ok_hand {f : Addr} {fd : FuncData} {k : Nat} (F : Fun K "is_hand" "is_hand" sHand f fd) (cW : Cal P w K mg base k "is_word" ["thing"] (spWord K T)) : FnOk P w K mg base CX0 (k + 1) f fd ["thing"] (spHand K T) := by
  refine F.ok scHand (fun vs H Q E h => ?_) (fun cdv A outer s H vs Q E hr h => ?_)
  · obtain ⟨v, n, o, rfl, _⟩ := h
    rfl
  · obtain ⟨v, n, o, rfl, th, tg, q⟩ := h
    refine ⟨_, pss_one (ps_ret (pe_and (pe_cal cW hr (by rfl) (pa_cons (pv 0) pa_nil)) (pe_one (pe_cmpR op_notIn_seq (pv 0) (pe_tup (pa_cons pe_str (pa_cons pe_str (pa_cons pe_str pa_nil)))) (by rfl))))), ?_⟩
    refine ⟨v, rfl, v, n, o, rfl, th, tg, fun H1 g1 => ⟨_, rfl, ite2 (fun e => ?_) (fun e => ?_)⟩⟩
    · refine ⟨v, rfl, by show 3 ≤ sizeLine; decide, fun t ht => ⟨t, noHands, rfl, .inr (.inl (.inl upd_same)), ?_, rfl, ?_⟩⟩
      · obtain ⟨x, rfl⟩ := wordV_str e
        rfl
      · have e2 : handV v = !inV v noHands := by
          unfold handV
          rw [e, Bool.true_and]
        have q2 := q (upd H1 t (.tup noHands)) (g1.new ht)
        rw [e2] at q2
        exact q2
    · have e2 : handV v = false := by
        unfold handV
        rw [Bool.eq_false_iff.mpr e, Bool.false_and]
      have q2 := q _ g1
      rw [e2] at q2
      exact q2

/-! ### is_name -/
def ThAll (K : PySem.W.Frag) (H : Hp) (o : Option (List V)) : Prop := ∀ xs, o = some xs → ∀ x ∈ xs, ∃ m o', Th K H x m o'
def spName (K : PySem.W.Frag) (T : Tp) : Sp := fun vs H Q _ => ∃ v n o, vs = [v] ∧ Th K H v n o ∧ ThAll K H o ∧ TG T H ∧ ∀ H', Go T D0 H H' → Q (.bl (nameL (o))) H'
theorem ok_name {f : Addr} {fd : FuncData} {k : Nat} (F : Fun K "is_name" "is_name" sName f fd) (M : Mg K mg) (cH : Cal P w K mg base k "is_hand" ["thing"] (spHand K T)) :
    FnOk P w K mg base CX0 (k + 1) f fd ["thing"] (spName K T) := by
  obtain ⟨tk, hN⟩ := M.mostN
  refine F.ok scName (fun vs H Q E h => ?_) (fun cdv A outer s H vs Q E hr h => ?_)
  · obtain ⟨v, n, o, rfl, _⟩ := h
    rfl
  · obtain ⟨v, n, o, rfl, th, al, tg, q⟩ := h
    refine ⟨_, pss_cons (ps_if (PW.pt (pw_or (pt_not (pt_val (pe_callB call_isi (by rfl) M.ins boot_isinstance (pa_cons (pv 0) (pa_cons (pe_bltn (v := .ty "tuple") (by rfl) M.tuple_ (by decide +kernel) rfl) pa_nil)))))
        (pw_or1 (pt_cmpR op_ne (pe_callB call_len_seq (by rfl) M.len_ PySem.boot_len (pa_cons (pv 0) pa_nil)) pe_int (nomark _)))))
        (pss_one (ps_ret pe_bl)) pss_nil)
      (pss_cons (ps_asg (pv 0) (pg_tup (by rfl) (pgs_cons (pg_name (i := 1) scName.nd rfl (.inl rfl)) (pgs_cons (pg_name (i := 2) scName.nd rfl (.inl rfl)) pgs_nil))))
      (pss_one (ps_ret (pe_and (pe_callB call_isi (by rfl) M.ins boot_isinstance (pa_cons (pv 2) (pa_cons (pe_bltn (v := .ty "int") (by rfl) M.int_ boot_int rfl) pa_nil)))
        (pe_and (pe_cmpR op_isnotB (pv 2) pe_bl (nomark _))
        (pe_and (pe_chain op_leN op_le pe_int (pv 2) (pe_glob (v := .int 999) (by rfl) hN ⟨_, rfl⟩))
          (pe_one (pe_cal cH hr (by rfl) (pa_cons (pv 1) pa_nil))))))))), ?_⟩
    refine ⟨v, rfl, v, .ty "tuple", .type n, .type "tuple", _, rfl, .ty _, th.ty, kit_ty th.ktup, _, rfl, ite2 (fun e => iteT ?_) (fun e => ?_)⟩
    · have e2 : o = none := by
        cases o with
        | none => rfl
        | some _ => cases e
      rw [e2] at q
      exact q H (Go.rfl' tg)
    · obtain ⟨a, xs, rfl, hS, et⟩ := th.tupOf (notnot e)
      rw [et] at q
      refine ⟨.ref a, rfl, a, xs, rfl, .inr hS, rfl, _, rfl, ite2 (fun e1 => ?_) (fun e1 => ?_)⟩
      · have e2 : ¬ xs.length = 2 := by
          intro z
          rw [z] at e1
          exact absurd e1 (by decide)
        rw [nameL_len e2] at q
        exact q H (Go.rfl' tg)
      · have e2 : (xs.length : Int) = 2 := by
          have e3 : decide (V.int (xs.length : Int) = V.int 2) = true := by simpa using e1
          exact V.int.inj (of_decide_eq_true e3)
        obtain ⟨p, r, rfl⟩ := len2 (xs := xs) (by omega)
        obtain ⟨m, m1, tp⟩ := al _ et p (by simp)
        obtain ⟨m', m'1, tr⟩ := al _ et r (by simp)
        have no : amgV r 1 999 = false → Q (.bl false) H := fun e => by
          have q2 := q H (Go.rfl' tg)
          have e4 : nameL (some [p, r]) = false := by
            show (handV p && amgV r 1 999) = _
            rw [e, Bool.and_false]
          rw [e4] at q2
          exact q2
        refine ⟨.ref a, rfl, a, _, rfl, hS, rfl, p, [r], rfl, r, [], rfl, rfl, r, rfl, r, .ty "int", .type m', .type "int", _, rfl, .ty _, tr.ty, kit_ty tr.kint, _, rfl, ite2 (fun e3 => ?_) (fun e3 => ?_)⟩
        · obtain ⟨fl, j, hj, hc⟩ := numK e3
          refine ⟨r, rfl, true, fl, rfl, _, rfl, ite2 (fun e4 => ⟨r, rfl, 1, j, rfl, hj, _, rfl, ite2 (fun e5 => ?_) (fun e5 => ⟨_, rfl, iteF ?_⟩)⟩) (fun e4 => ?_)⟩
          · obtain rfl : r = .int j := by
              rcases hc with rfl | rfl | ⟨rfl, rfl⟩
              · exact absurd e4 (by decide)
              · rfl
              · exact absurd e5 (by decide)
            refine ⟨j, 999, rfl, rfl, _, rfl, ite2 (fun e6 => ⟨p, rfl, p, m, m1, rfl, tp, tg, fun H1 g1 => ?_⟩) (fun e6 => ?_)⟩
            · have q2 := q _ g1
              have e7 : nameL (some [p, .int j]) = handV p := by
                show (handV p && (decide (1 ≤ j) && decide (j ≤ 999))) = _
                rw [e5, e6, Bool.and_true, Bool.and_true]
              rw [e7] at q2
              exact q2
            · have e7 := Bool.eq_false_iff.mpr e6
              refine no ?_
              show (decide (1 ≤ j) && decide (j ≤ 999)) = false
              rw [e7, Bool.and_false]
          · have e7 := Bool.eq_false_iff.mpr e5
            refine no ?_
            rcases hc with rfl | rfl | ⟨rfl, rfl⟩
            · rfl
            · show (decide (1 ≤ j) && decide (j ≤ 999)) = false
              rw [e7, Bool.false_and]
            · rfl
          · refine no (isB_num ?_).1
            cases z : decide (r = V.bl true) with
            | true => rfl
            | false => exact absurd (by rw [z]; rfl) e4
        · exact no (amgV_num e3)

/-! ### is_put_line -/
def spPut (K : PySem.W.Frag) (T : Tp) : Sp := fun vs H Q _ => ∃ v n o, vs = [v] ∧ Th K H v n o ∧ ThAll K H o ∧ TG T H ∧ ∀ H', Go T D0 H H' → Q (.bl (putL (o))) H'
theorem cut2 (p q r : V) : cutV [p, q, r] none (some 2) = [p, q] := rfl
theorem ok_put {f : Addr} {fd : FuncData} {k : Nat} (F : Fun K "is_put_line" "is_put_line" sPut f fd) (M : Mg K mg) (cH : Cal P w K mg base k "is_hand" ["thing"] (spHand K T)) :
    FnOk P w K mg base CX0 (k + 1) f fd ["thing"] (spPut K T) := by
  obtain ⟨tk, hN⟩ := M.mostN
  refine F.ok scPut (fun vs H Q E h => ?_) (fun cdv A outer s H vs Q E hr h => ?_)
  · obtain ⟨v, n, o, rfl, _⟩ := h
    rfl
  · obtain ⟨v, n, o, rfl, th, al, tg, q⟩ := h
    refine ⟨_, pss_cons (ps_if (PW.pt (pw_or (pt_not (pt_val (pe_callB call_isi (by rfl) M.ins boot_isinstance (pa_cons (pv 0) (pa_cons (pe_bltn (v := .ty "tuple") (by rfl) M.tuple_ (by decide +kernel) rfl) pa_nil)))))
        (pw_or1 (pt_cmpR op_ne (pe_callB call_len_seq (by rfl) M.len_ PySem.boot_len (pa_cons (pv 0) pa_nil)) pe_int (nomark _)))))
        (pss_one (ps_ret pe_bl)) pss_nil)
      (pss_cons (ps_asg (pv 0) (pg_tup (by rfl) (pgs_cons (pg_name (i := 1) scPut.nd rfl (.inl rfl)) (pgs_cons (pg_name (i := 2) scPut.nd rfl (.inl rfl)) (pgs_cons (pg_name (i := 3) scPut.nd rfl (.inl rfl)) pgs_nil)))))
      (pss_cons (ps_if (PW.pt (pw_or (pt_not (pt_val (pe_callB call_isi (by rfl) M.ins boot_isinstance (pa_cons (pv 2) (pa_cons (pe_bltn (v := .ty "int") (by rfl) M.int_ boot_int rfl) pa_nil)))))
          (pw_or (pt_not (pt_val (pe_callB call_isi (by rfl) M.ins boot_isinstance (pa_cons (pv 3) (pa_cons (pe_bltn (v := .ty "int") (by rfl) M.int_ boot_int rfl) pa_nil)))))
          (pw_or (pt_cmpR op_isB (pv 2) pe_bl (nomark _)) (pw_or1 (pt_cmpR op_isB (pv 3) pe_bl (nomark _)))))))
        (pss_one (ps_ret pe_bl)) pss_nil)
      (pss_one (ps_ret (pe_and (pe_chain op_leN op_le pe_int (pv 2) (pe_glob (v := .int 999) (by rfl) hN ⟨_, rfl⟩))
        (pe_and (pe_cmpR op_geN (pv 3) pe_int (nomark _))
          (pe_one (pe_cal cH hr (by rfl) (pa_cons (pv 1) pa_nil))))))))), ?_⟩
    refine ⟨v, rfl, v, .ty "tuple", .type n, .type "tuple", _, rfl, .ty _, th.ty, kit_ty th.ktup, _, rfl, ite2 (fun e => iteT ?_) (fun e => ?_)⟩
    · have e2 : o = none := by
        cases o with
        | none => rfl
        | some _ => cases e
      rw [e2] at q
      exact q H (Go.rfl' tg)
    · obtain ⟨a, xs, rfl, hS, et⟩ := th.tupOf (notnot e)
      rw [et] at q
      refine ⟨.ref a, rfl, a, xs, rfl, .inr hS, rfl, _, rfl, ite2 (fun e1 => ?_) (fun e1 => ?_)⟩
      · have e2 : ¬ xs.length = 3 := by
          intro z
          rw [z] at e1
          exact absurd e1 (by decide)
        rw [putL_len e2] at q
        exact q H (Go.rfl' tg)
      · have e2 : (xs.length : Int) = 3 := by
          have e3 : decide (V.int (xs.length : Int) = V.int 3) = true := by simpa using e1
          exact V.int.inj (of_decide_eq_true e3)
        obtain ⟨p, r, l, rfl⟩ := len3 (xs := xs) (by omega)
        obtain ⟨m, m1, tp⟩ := al _ et p (by simp)
        obtain ⟨m', m'1, tr⟩ := al _ et r (by simp)
        obtain ⟨m'', m''1, tl'⟩ := al _ et l (by simp)
        have no : (amgV r 1 999 && geOne l) = false → Q (.bl false) H := fun e => by
          have q2 := q H (Go.rfl' tg)
          have e4 : putL (some [p, r, l]) = false := by
            show ((handV p && amgV r 1 999) && geOne l) = _
            rw [Bool.and_assoc, e, Bool.and_false]
          rw [e4] at q2
          exact q2
        have no1 : amgV r 1 999 = false → Q (.bl false) H := fun e => no (by rw [e, Bool.false_and])
        have no2 : geOne l = false → Q (.bl false) H := fun e => no (by rw [e, Bool.and_false])
        refine ⟨.ref a, rfl, a, _, rfl, hS, rfl, p, [r, l], rfl, r, [l], rfl, l, [], rfl, rfl, r, rfl, r, .ty "int", .type m', .type "int", _, rfl, .ty _, tr.ty, kit_ty tr.kint, _, rfl, ite2 (fun e3 => iteT ?_) (fun e3 => ?_)⟩
        · exact no1 (amgV_num (fun z => by rw [z] at e3; cases e3))
        · obtain ⟨fr, i, hi, hci⟩ := numK (notnot e3)
          refine ⟨l, rfl, l, .ty "int", .type m'', .type "int", _, rfl, .ty _, tl'.ty, kit_ty tl'.kint, _, rfl, ite2 (fun e4 => iteT ?_) (fun e4 => ?_)⟩
          · exact no2 (geOne_num (fun z => by rw [z] at e4; cases e4))
          · obtain ⟨fl, j, hj, hcj⟩ := numK (notnot e4)
            refine ⟨r, rfl, true, fr, rfl, _, rfl, ite2 (fun e5 => iteT (no1 (isB_num e5).1)) (fun e5 => ⟨l, rfl, true, fl, rfl, _, rfl, ite2 (fun e6 => no2 (isB_num e6).2) (fun e6 => ?_)⟩)⟩
            refine ⟨r, rfl, 1, i, rfl, hi, _, rfl, ite2 (fun e7 => ?_) (fun e7 => ⟨_, rfl, iteF ?_⟩)⟩
            · obtain rfl : r = .int i := by
                rcases hci with rfl | rfl | ⟨rfl, rfl⟩
                · exact absurd rfl e5
                · rfl
                · exact absurd e7 (by decide)
              refine ⟨i, 999, rfl, rfl, _, rfl, ite2 (fun e8 => ?_) (fun e8 => ?_)⟩
              · refine ⟨l, rfl, j, 1, hj, rfl, _, rfl, ite2 (fun e9 => ⟨p, rfl, p, m, m1, rfl, tp, tg, fun H1 g1 => ?_⟩) (fun e9 => ?_)⟩
                · obtain rfl : l = .int j := by
                    rcases hcj with rfl | rfl | ⟨rfl, rfl⟩
                    · exact absurd rfl e6
                    · rfl
                    · exact absurd e9 (by decide)
                  have q2 := q _ g1
                  have ea : putL (some [p, .int i, .int j]) = handV p := by
                    show ((handV p && (decide (1 ≤ i) && decide (i ≤ 999))) && decide (1 ≤ j)) = _
                    rw [e7, e8, e9, Bool.and_true, Bool.and_true, Bool.and_true]
                  rw [ea] at q2
                  exact q2
                · have ea := Bool.eq_false_iff.mpr e9
                  refine no2 ?_
                  rcases hcj with rfl | rfl | ⟨rfl, rfl⟩
                  · rfl
                  · exact ea
                  · rfl
              · have ea := Bool.eq_false_iff.mpr e8
                refine no1 ?_
                show (decide (1 ≤ i) && decide (i ≤ 999)) = false
                rw [ea, Bool.and_false]
            · have ea := Bool.eq_false_iff.mpr e7
              refine no1 ?_
              rcases hci with rfl | rfl | ⟨rfl, rfl⟩
              · rfl
              · show (decide (1 ≤ i) && decide (i ≤ 999)) = false
                rw [ea, Bool.false_and]
              · rfl

end
end K1
set_option Elab.async false
set_option linter.all false
set_option maxRecDepth 100000
set_option maxHeartbeats 4000000
/-! Texts: numbers, parts, data of flat things. -/
namespace K1
open PySem PySem.Spec PyProof.Rows L2 TL

/-! ### flat things as data -/
def pd : V → PyData
  | .non => .none
  | .bl b => .bool b
  | .int i => .int i
  | .str x => .str x
  | _ => .none
def okV : V → Bool
  | .non => true
  | .bl _ => true
  | .int _ => true
  | .str x => PyData.strOk x
  | _ => false
theorem pd_dp {K : PySem.W.Frag} {H : Hp} {v : V} (h : okV v = true) : Dp K H v (pd v) := by
  cases v with
  | non => exact .non
  | bl b => exact .bl b
  | int i => exact .int i
  | str x => exact .str x
  | _ => cases h
theorem pd_lay {v : V} (h : okV v = true) : (pd v).canLay0 = true := by
  cases v with
  | str x => exact h
  | _ => first | rfl | cases h
theorem pd_depth (v : V) : (pd v).depth = 0 := by
  cases v <;> rfl
theorem pd_all {K : PySem.W.Frag} {H : Hp} : ∀ {xs : List V}, xs.all okV = true → DpAll K H xs (xs.map pd)
  | [], _ => .nil
  | v :: xs, h => by
    rw [List.all_cons, Bool.and_eq_true] at h
    exact .cons (pd_dp h.1) (pd_all h.2)
theorem pd_layAll : ∀ {xs : List V}, xs.all okV = true → PyData.canLayAll0 (xs.map pd) = true
  | [], _ => rfl
  | v :: xs, h => by
    rw [List.all_cons, Bool.and_eq_true] at h
    show ((pd v).canLay0 && PyData.canLayAll0 (xs.map pd)) = true
    rw [pd_lay h.1, pd_layAll h.2] <;> rfl
theorem pd_depthAll : ∀ (xs : List V), PyData.depthAll (xs.map pd) = 0
  | [] => rfl
  | v :: xs => by
    show max (pd v).depth (PyData.depthAll (xs.map pd)) = 0
    rw [pd_depth, pd_depthAll xs] <;> rfl
theorem sh_flat {v : V} (h : okV v = true) : SeqAt.shaped (pd v) = true := by
  unfold SeqAt.shaped
  rw [pd_lay h, pd_depth] <;> rfl
theorem sh_tup {xs : List V} (h : xs.all okV = true) : SeqAt.shaped (.tuple (xs.map pd)) = true := by
  show (PyData.canLayAll0 (xs.map pd) && decide (PyData.depthAll (xs.map pd) + 1 ≤ 64)) = true
  rw [pd_layAll h, pd_depthAll] <;> rfl
theorem sh_lst {xs : List V} (h : xs.all okV = true) : SeqAt.shaped (.list (xs.map pd)) = true := sh_tup h
theorem dp_tup {K : PySem.W.Frag} {H : Hp} {a : Addr} {xs : List V} (s : SqT K H a xs) (h : xs.all okV = true) : Dp K H (.ref a) (.tuple (xs.map pd)) := .tup s (pd_all h)
theorem dp_lst {K : PySem.W.Frag} {H : Hp} {a : Addr} {xs : List V} (s : SqL K H a xs) (h : xs.all okV = true) : Dp K H (.ref a) (.list (xs.map pd)) := .lst s (pd_all h)
theorem eqv_self {d : PyData} (h : SeqAt.shaped d = true) : PyData.eqv d d = true := SeqAt.eqv_refl d (SeqAt.canLay_of_shaped h)

/-! ### numbers -/
def numT (x : Str) : Option Int := match tl x with
  | [] => none
  | c :: r => if decide ((c :: r).length ≤ 6) && (decide (c ≠ 48) && (c :: r).all (fun c => decide (c ∈ tl figs))) then some ((NumText.digitsVal (c :: r) : Nat) : Int) else none
def numV : V → V
  | .str x => match numT x with
    | some n => .int n
    | none => .non
  | _ => .non
theorem tl_figs : tl figs = [48, 49, 50, 51, 52, 53, 54, 55, 56, 57] := by decide +kernel
theorem fig_iff {c : Nat} : c ∈ tl figs ↔ 48 ≤ c ∧ c ≤ 57 := by
  rw [tl_figs]
  simp only [List.mem_cons, List.not_mem_nil, or_false]
  omega
theorem digits_of {l : List Nat} (h : (l.all fun c => decide (c ∈ tl figs)) = true) : NumText.AllDigits l := by
  intro c hc
  exact fig_iff.mp (of_decide_eq_true (List.all_eq_true.mp h c hc))
/-- a number that is told: its text -/
theorem numT_some {x : Str} {n : Int} (h : numT x = some n) : (Str.ofString (toString n) = x ∧ intText? x = some n) ∧ 1 ≤ n ∧ (n < 1000000 ∧ x.length ≤ 6) := by
  unfold numT at h
  cases e : tl x with
  | nil => rw [e] at h; cases h
  | cons c r =>
    rw [e] at h
    simp only at h
    by_cases q : (decide ((c :: r).length ≤ 6) && (decide (c ≠ 48) && (c :: r).all (fun c => decide (c ∈ tl figs)))) = true
    · rw [if_pos q] at h
      cases h
      rw [Bool.and_eq_true, Bool.and_eq_true] at q
      have q1 : (c :: r).length ≤ 6 := of_decide_eq_true q.1
      have q2 : c ≠ 48 := of_decide_eq_true q.2.1
      have q3 := digits_of q.2.2
      have hc := q3 c (List.mem_cons_self ..)
      have hlen : x.length = (c :: r).length := by rw [len_tl, e]
      have td := NumText.toDigits_digitsVal r.length (c :: r) rfl q3 (.inr ⟨c, r, rfl, by omega⟩)
      have back : Str.ofString (toString (((NumText.digitsVal (c :: r) : Nat) : Nat) : Int)) = x := by
        refine ext_tl ?_
        rw [tl_num]
        unfold numL
        rw [td, e, List.map_map]
        refine (List.map_congr_left fun d hd => ?_).trans (List.map_id _)
        have := q3 d hd
        show (Char.ofNat d).toNat = d
        have v : d.isValidChar := Or.inl (by omega)
        simp [Char.ofNat, v, Char.toNat, Char.ofNatAux]
      refine ⟨⟨back, ?_⟩, ?_, ?_, by omega⟩
      · have := PySem.intText_digits (x := x) (by show NumText.AllDigits (tl x); rw [e]; exact q3) (by show tl x ≠ []; rw [e]; simp) (by omega)
        rw [this]
        show some ((NumText.digitsVal (tl x) : Nat) : Int) = _
        rw [e]
      · have := NumText.digitsVal_pos (c := c) (cs := r) (by omega)
        omega
      · have lt : ∀ (l : List Nat) (a : Nat), NumText.AllDigits l → l.foldl (fun acc c => acc * 10 + (c - 48)) a < (a + 1) * 10 ^ l.length := by
          intro l
          induction l with
          | nil => intro a _; simp
          | cons d l ih =>
            intro a ha
            have hd := ha d (List.mem_cons_self ..)
            have i2 := ih (a * 10 + (d - 48)) (fun z hz => ha z (List.mem_cons_of_mem _ hz))
            rw [List.foldl_cons, List.length_cons, Nat.pow_succ]
            have m : (a * 10 + (d - 48) + 1) * 10 ^ l.length ≤ ((a + 1) * 10) * 10 ^ l.length := Nat.mul_le_mul_right _ (by omega)
            have e9 : (a + 1) * (10 ^ l.length * 10) = ((a + 1) * 10) * 10 ^ l.length := by
              rw [Nat.mul_comm (10 ^ l.length) 10, Nat.mul_assoc]
            omega
        have l1 := lt (c :: r) 0 q3
        have p6 : 10 ^ (c :: r).length ≤ 10 ^ 6 := Nat.pow_le_pow_right (by decide) q1
        have : NumText.digitsVal (c :: r) < 1000000 := by
          show (c :: r).foldl _ 0 < _
          omega
        omega
    · rw [if_neg q] at h
      cases h

/-! ### parts -/
theorem pre_one {s c : Nat} {r : List Nat} : pre [s] (c :: r) = decide (c = s) := by
  show ([c] == [s]) = decide (c = s)
  by_cases h : c = s
  · subst h
    simp
  · rw [decide_eq_false h]
    simpa using h
theorem spl_ne {s : Nat} : ∀ (l acc : List Nat), spl [s] 0 acc l ≠ []
  | [], acc => by rw [spl_nil]; simp
  | c :: r, acc => by
    by_cases h : c = s
    · rw [spl_hit (by rw [pre_one]; exact decide_eq_true h)]
      simp
    · rw [spl_miss (by rw [pre_one]; exact decide_eq_false h)]
      exact spl_ne r _
theorem joinL_cons {S p : List Nat} {L : List (List Nat)} (h : L ≠ []) : joinL S (p :: L) = p ++ (S ++ joinL S L) := by
  cases L with
  | nil => exact absurd rfl h
  | cons q r => rfl
theorem join_spl {s : Nat} : ∀ (l acc : List Nat), joinL [s] (spl [s] 0 acc l) = acc ++ l
  | [], acc => by rw [spl_nil]; show acc = acc ++ []; simp
  | c :: r, acc => by
    by_cases h : c = s
    · rw [spl_hit (by rw [pre_one]; exact decide_eq_true h)]
      show joinL [s] (acc :: spl [s] 0 [] r) = _
      rw [joinL_cons (spl_ne _ _)]
      show acc ++ ([s] ++ joinL [s] (spl [s] 0 [] r)) = _
      rw [join_spl r [], h]
      simp
    · rw [spl_miss (by rw [pre_one]; exact decide_eq_false h), join_spl r (acc ++ [c])]
      simp
theorem joinL_len {S p : List Nat} : ∀ {L : List (List Nat)}, p ∈ L → p.length ≤ (joinL S L).length
  | [], h => by simp at h
  | [q], h => by
    obtain rfl := List.mem_singleton.mp h
    exact Nat.le_refl _
  | q :: q' :: r, h => by
    show p.length ≤ (q ++ (S ++ joinL S (q' :: r))).length
    rw [List.length_append, List.length_append]
    rcases List.mem_cons.mp h with rfl | h
    · omega
    · have := joinL_len (S := S) h
      omega
theorem joinL_mem {S p : List Nat} {c : Nat} (hc : c ∈ p) : ∀ {L : List (List Nat)}, p ∈ L → c ∈ joinL S L
  | [], h => by simp at h
  | [q], h => by
    obtain rfl := List.mem_singleton.mp h
    exact hc
  | q :: q' :: r, h => by
    show c ∈ q ++ (S ++ joinL S (q' :: r))
    rcases List.mem_cons.mp h with rfl | h
    · exact List.mem_append_left _ hc
    · exact List.mem_append_right _ (List.mem_append_right _ (joinL_mem hc h))
/-- one sign as a separator -/
structure Sep (y : Str) (s : Nat) : Prop where
  tl : tl y = [s]
  low : y.cps.all (· < 256) = true
theorem Sep.spl {y : Str} {s : Nat} (h : Sep y s) (x : Str) : (Txt.split x y).map TL.tl = TL.spl [s] 0 [] (TL.tl x) := by
  rw [split_spl x y (by rw [h.tl]; simp) (kind_ok h.low), h.tl]
theorem Sep.join {y : Str} {s : Nat} (h : Sep y s) (x : Str) : joinL [s] ((Txt.split x y).map TL.tl) = TL.tl x := by
  rw [h.spl, join_spl, List.nil_append]
theorem Sep.len {y : Str} {s : Nat} (h : Sep y s) {x p : Str} (hp : p ∈ Txt.split x y) : p.length ≤ x.length := by
  have := joinL_len (S := [s]) (List.mem_map_of_mem (f := TL.tl) hp)
  rw [h.join] at this
  rw [len_tl, len_tl]
  exact this
theorem Sep.mem {y : Str} {s : Nat} (h : Sep y s) {x p : Str} (hp : p ∈ Txt.split x y) {c : Nat} (hc : c ∈ TL.tl p) : c ∈ TL.tl x := by
  have := joinL_mem (S := [s]) hc (List.mem_map_of_mem (f := TL.tl) hp)
  rw [h.join] at this
  exact this
theorem Sep.two {y : Str} {s : Nat} (h : Sep y s) {x a b : Str} (e : Txt.split x y = [a, b]) : a ++ y ++ b = x := by
  refine ext_tl ?_
  rw [← h.join x, e, tl_append, tl_append, h.tl]
  show _ = TL.tl a ++ ([s] ++ TL.tl b)
  rw [List.append_assoc]
theorem Sep.three {y : Str} {s : Nat} (h : Sep y s) {x a b c : Str} (e : Txt.split x y = [a, b, c]) : a ++ y ++ b ++ y ++ c = x := by
  refine ext_tl ?_
  rw [← h.join x, e, tl_append, tl_append, tl_append, tl_append, h.tl]
  show _ = TL.tl a ++ ([s] ++ (TL.tl b ++ ([s] ++ TL.tl c)))
  simp only [List.append_assoc]
theorem sepDot : Sep "." 46 := ⟨by decide +kernel, by decide +kernel⟩
theorem sepBlank : Sep " " 32 := ⟨by decide +kernel, by decide +kernel⟩
end K1
set_option Elab.async false
set_option linter.all false
set_option maxRecDepth 100000
set_option maxHeartbeats 400000
/-! The program's defs: number_of, name_of, line_of, name_text, line_text, words_of. -/
namespace K1
open PySem PySem.Spec PyProof.Rows L2

theorem isS_no {v : V} (e : isS v = false) : numV v = .non := by
  cases v with
  | str x => cases e
  | _ => rfl
theorem zero_txt {c : Nat} : decide (V.str ⟨#[c]⟩ = V.str "0") = decide (c = 48) := by
  have e0 : ("0" : Str) = ⟨#[48]⟩ := by decide +kernel
  rw [e0]
  by_cases h : c = 48
  · subst h
    rw [decide_eq_true rfl, decide_eq_true rfl]
  · rw [decide_eq_false h, decide_eq_false]
    intro z
    injection z with z
    injection z with z
    exact h (by simpa using z)
def nameS (x : Str) : Option (List V) := match Txt.split x "." with
  | [a, b] => if nameL (some [.str a, numV (.str b)]) then some [.str a, numV (.str b)] else none
  | _ => none
def nameV : V → Option (List V)
  | .str x => nameS x
  | _ => none
def lineS (x : Str) : Option (List V) := if x = "head" then some [.str "", .int 0, .int 0] else if x = "foot" then some [.str "", .int 0, .int 1] else match Txt.split x "." with
  | [a, b, c] => if putL (some [.str a, numV (.str b), numV (.str c)]) then some [.str a, numV (.str b), numV (.str c)] else none
  | _ => none
def lineV : V → Option (List V)
  | .str x => lineS x
  | _ => none
def wordsV : V → Option (List Str)
  | .str x => if inV (.str "") ((Txt.split x " ").map V.str) then none else some (Txt.split x " ")
  | _ => none
/-- a text is small -/
def Small (v : V) : Prop := ∀ x, v = .str x → x.length + 2 ≤ 1000000
theorem numV_th {K : PySem.W.Frag} {H : Hp} (v : V) : ∃ m o, Th K H (numV v) m o := by
  cases v with
  | str x =>
    show ∃ m o, Th K H (match numT x with | some n => .int n | none => .non) m o
    cases numT x with
    | none => exact ⟨_, _, .non⟩
    | some n => exact ⟨_, _, .int n⟩
  | _ => exact ⟨_, _, .non⟩
theorem lt_line {n : Nat} (h : n + 2 ≤ 1000000) : n + 2 ≤ sizeLine := Nat.le_trans h (by decide)
theorem le_line {n : Nat} (h : n + 2 ≤ 1000000) : n ≤ sizeLine := Nat.le_trans (Nat.le_add_right n 2) (lt_line h)
theorem atS (ws : List Str) (j : Nat) (h : j < ws.length) : atI (ws.map V.str) ((j : Nat) : Int) = some (.str ws[j]) := atI_nat (by rw [List.getElem?_map, List.getElem?_eq_getElem h]; rfl)

theorem cls_dig : ∀ c, c < 128 → Unicode.isDigit c = decide (48 ≤ c ∧ c ≤ 57) := by decide +kernel
/-- the program's two questions are one -/
theorem dig_eq (x : Str) : (Txt.isdigit x && Txt.isascii x) = (decide (0 < x.length) && (TL.tl x).all fun c => decide (c ∈ TL.tl figs)) := by
  have ea : Txt.isascii x = (TL.tl x).all (fun c => decide (c < 128)) := by unfold Txt.isascii; rw [← Array.all_toList]
  have eb : Txt.isdigit x = (decide (0 < x.length) && (TL.tl x).all Unicode.isDigit) := by unfold Txt.isdigit; rw [← Array.all_toList]
  rw [ea, eb, Bool.and_assoc]
  congr 1
  generalize TL.tl x = l
  rw [Bool.eq_iff_iff]
  simp only [Bool.and_eq_true, decide_eq_true_eq, List.all_eq_true, fig_iff]
  constructor
  · rintro ⟨h1, h2⟩ c hc
    have q := h1 c hc
    rw [cls_dig c (h2 c hc)] at q
    exact of_decide_eq_true q
  · intro h
    have h2 : ∀ c ∈ l, c < 128 := fun c hc => by have := h c hc; omega
    exact ⟨fun c hc => by rw [cls_dig c (h2 c hc)]; exact decide_eq_true (h c hc), h2⟩

section
variable {P : Program} {w : World} {K : PySem.W.Frag} {mg : Str → Option Value} {base : Heap} {T : Tp}

/-! ### number_of -/
def spNumO (K : PySem.W.Frag) (T : Tp) : Sp := fun vs H Q _ => ∃ v n o, vs = [v] ∧ Th K H v n o ∧ TG T H ∧ ∀ H', Go T D0 H H' → Q (numV v) H'
/-! ### name_of -/
def spNameO (K : PySem.W.Frag) (T : Tp) : Sp := fun vs H Q _ => ∃ v n o, vs = [v] ∧ Th K H v n o ∧ Small v ∧ TG T H ∧ (∀ H', Go T D0 H H' → nameV v = none → Q .non H') ∧ ∀ H' p xs, Go T D0 H H' → nameV v = some xs → SqT K H' p xs → Q (.ref p) H'
/-! ### line_of -/
def spLineO (K : PySem.W.Frag) (T : Tp) : Sp := fun vs H Q _ => ∃ v n o, vs = [v] ∧ Th K H v n o ∧ Small v ∧ TG T H ∧ (∀ H', Go T D0 H H' → lineV v = none → Q .non H') ∧ ∀ H' p xs, Go T D0 H H' → lineV v = some xs → SqT K H' p xs → Q (.ref p) H'
/-! ### words_of -/
def spWordsO (K : PySem.W.Frag) (T : Tp) : Sp := fun vs H Q _ => ∃ v n o, vs = [v] ∧ Th K H v n o ∧ Small v ∧ TG T H ∧ (∀ H', Go T D0 H H' → wordsV v = none → Q .non H') ∧ ∀ H' p ws, Go T D0 H H' → H p = none → wordsV v = some ws → H' p = some (.lst (ws.map V.str)) → Q (.ref p) H'
/-! ### name_text, line_text -/
theorem len_num {i : Int} (h0 : 0 ≤ i) (h1 : i < 1000000) : (Str.ofString (toString i)).length ≤ 10 := by
  obtain ⟨n, rfl⟩ := Int.eq_ofNat_of_zero_le h0
  rw [TL.len_tl, TL.tl_num]
  unfold TL.numL
  rw [List.length_map]
  exact Nat.le_trans (PyProof.Rows.digits10_le (k := 6) (by omega) (by omega)) (by omega)
theorem log_small {i : Int} (h0 : 0 ≤ i) (h1 : i < 1000000) : i.natAbs.log2 < 1920 := by
  by_cases z : i.natAbs = 0
  · rw [z]
    decide
  · have : i.natAbs.log2 < 20 := (Nat.log2_lt z).mpr (by omega)
    omega
def spNameT (K : PySem.W.Frag) : Sp := fun vs H Q _ => ∃ p a i, vs = [.ref p] ∧ SqT K H p [.str a, .int i] ∧ a.length ≤ 1000000 ∧ 0 ≤ i ∧ i < 1000000 ∧ Q (.str (a ++ "." ++ Str.ofString (toString i))) H
theorem empty_app (a : Str) : Str.empty ++ a = a := TL.ext_tl (by rw [TL.tl_append]; rfl)
def lineTxt (xs : List V) : Option Str := match xs with
  | [.str a, .int i, .int j] => if xs = [.str "", .int 0, .int 0] then some "head" else if xs = [.str "", .int 0, .int 1] then some "foot" else some (a ++ "." ++ Str.ofString (toString i) ++ "." ++ Str.ofString (toString j))
  | _ => none
def spLineT (K : PySem.W.Frag) : Sp := fun vs H Q _ => ∃ p a i j, vs = [.ref p] ∧ SqT K H p [.str a, .int i, .int j] ∧ PyData.strOk a = true ∧ a.length ≤ 1000000 ∧ 0 ≤ i ∧ i < 1000000 ∧ 0 ≤ j ∧ j < 1000000 ∧
  ∀ z, lineTxt [.str a, .int i, .int j] = some z → Q (.str z) H
theorem eqv_line {a b : Str} {i j k l : Int} : PyData.eqv (.tuple [.str a, .int i, .int j]) (.tuple [.str b, .int k, .int l]) = decide ([V.str a, .int i, .int j] = [.str b, .int k, .int l]) := by
  show (a == b && (i == k && (j == l && true))) = _
  by_cases h : [V.str a, .int i, .int j] = [.str b, .int k, .int l]
  · rw [decide_eq_true h]
    cases h
    simp
  · rw [decide_eq_false h]
    by_cases h1 : a = b
    · by_cases h2 : i = k
      · by_cases h3 : j = l
        · exact absurd (by rw [h1, h2, h3]) h
        · simp [h3]
      · simp [h2]
    · simp [h1]
end
end K1
set_option Elab.async false
set_option linter.all false
set_option maxRecDepth 100000
set_option maxHeartbeats 4000000
/-! The program's defs: is_triple, is_end. -/
namespace K1
open PySem PySem.Spec PyProof.Rows L2

def triL : Option (List V) → Bool
  | some [p, q, r] => (isI q && isI r) && isS p
  | _ => false
theorem triL_len {xs : List V} (h : ¬ xs.length = 3) : triL (some xs) = false := by
  match xs with
  | [] => rfl
  | [_] => rfl
  | [_, _] => rfl
  | [_, _, _] => exact absurd rfl h
  | _ :: _ :: _ :: _ :: _ => rfl
/-- the texts of a tuple are texts -/
def StAll (o : Option (List V)) : Prop := ∀ xs, o = some xs → ∀ x, V.str x ∈ xs → PyData.strOk x = true
theorem endL_line (a : Str) (i j : Int) : endL (some [V.str a, .int i, .int j]) = (decide ([V.str a, .int i, .int j] = [.str "", .int 0, .int 0]) || decide ([V.str a, .int i, .int j] = [.str "", .int 0, .int 1])) := by
  show ((decide (V.str a = .str "") && (decide (0 ≤ i) && decide (i ≤ 0))) && (decide (0 ≤ j) && decide (j ≤ 1))) = _
  rw [Bool.eq_iff_iff]
  simp only [Bool.and_eq_true, Bool.or_eq_true, decide_eq_true_eq, List.cons.injEq, V.int.injEq, and_true]
  constructor
  · rintro ⟨⟨h1, h2, h3⟩, h4, h5⟩
    by_cases z : j = 0
    · exact .inl ⟨h1, by omega, z⟩
    · exact .inr ⟨h1, by omega, by omega⟩
  · rintro (⟨h1, h2, h3⟩ | ⟨h1, h2, h3⟩)
    · exact ⟨⟨h1, by omega, by omega⟩, by omega, by omega⟩
    · exact ⟨⟨h1, by omega, by omega⟩, by omega, by omega⟩
theorem endL_no {xs : List V} (h : triL (some xs) = false) : endL (some xs) = false := by
  match xs with
  | [] => rfl
  | [_] => rfl
  | [_, _] => rfl
  | _ :: _ :: _ :: _ :: _ => rfl
  | [p, q, r] =>
    have h' : ((isI q && isI r) && isS p) = false := h
    show ((decide (p = .str "") && amgV q 0 0) && amgV r 0 1) = false
    cases e1 : isI q with
    | false => rw [amgV_no e1, Bool.and_false, Bool.false_and]
    | true =>
      cases e2 : isI r with
      | false => rw [amgV_no e2, Bool.and_false]
      | true =>
        rw [e1, e2] at h'
        have e3 : decide (p = .str "") = false := by
          refine decide_eq_false fun z => ?_
          rw [z] at h'
          cases h'
        rw [e3, Bool.false_and, Bool.false_and]
theorem endL_none (h : triL none = false) : endL none = false := rfl

section
variable {P : Program} {w : World} {K : PySem.W.Frag} {mg : Str → Option Value} {base : Heap} {T : Tp}
/-! ### is_triple -/
def spTriple (K : PySem.W.Frag) : Sp := fun vs H Q _ => ∃ v n o, vs = [v] ∧ Th K H v n o ∧ ThAll K H o ∧ Q (.bl (triL (o))) H
theorem flat_b {r : V} (h : isI r = true) (b : Bool) : flatV r = true ∧ decide (r = .bl b) = false := by
  cases r with
  | int i => exact ⟨rfl, decide_eq_false fun z => by cases z⟩
  | _ => cases h
theorem flat_n {r : V} (h : (isI r || isB r) = true) : flatV r = true ∧ (isI r = true ∨ r = .bl true ∨ r = .bl false) := by
  cases r with
  | int i => exact ⟨rfl, .inl rfl⟩
  | bl b => cases b <;> exact ⟨rfl, by simp⟩
  | _ => cases h
theorem ok_triple {f : Addr} {fd : FuncData} {k : Nat} (F : Fun K "is_triple" "is_triple" sIsTriple f fd) (M : Mg K mg) :
    FnOk P w K mg base CX0 (k + 1) f fd ["thing"] (spTriple K) := by
  refine F.ok scIsTriple (fun vs H Q E h => ?_) (fun cdv A outer s H vs Q E hr h => ?_)
  · obtain ⟨v, n, o, rfl, _⟩ := h
    rfl
  · obtain ⟨v, n, o, rfl, th, al, q⟩ := h
    refine ⟨_, pss_cons (ps_if (PW.pt (pw_or (pt_not (pt_val (pe_callB call_isi (by rfl) M.ins boot_isinstance (pa_cons (pv 0) (pa_cons (pe_bltn (v := .ty "tuple") (by rfl) M.tuple_ (by decide +kernel) rfl) pa_nil)))))
        (pw_or1 (pt_cmpR op_ne (pe_callB call_len_seq (by rfl) M.len_ PySem.boot_len (pa_cons (pv 0) pa_nil)) pe_int (nomark _)))))
        (pss_one (ps_ret pe_bl)) pss_nil)
      (pss_cons (ps_asg (pv 0) (pg_tup (by rfl) (pgs_cons (pg_name (i := 1) scIsTriple.nd rfl (.inl rfl)) (pgs_cons (pg_name (i := 2) scIsTriple.nd rfl (.inl rfl)) (pgs_cons (pg_name (i := 3) scIsTriple.nd rfl (.inl rfl)) pgs_nil)))))
      (pss_cons (ps_if (PW.pt (pw_or (pt_not (pt_val (pe_callB call_isi (by rfl) M.ins boot_isinstance (pa_cons (pv 2) (pa_cons (pe_bltn (v := .ty "int") (by rfl) M.int_ boot_int rfl) pa_nil)))))
          (pw_or (pt_not (pt_val (pe_callB call_isi (by rfl) M.ins boot_isinstance (pa_cons (pv 3) (pa_cons (pe_bltn (v := .ty "int") (by rfl) M.int_ boot_int rfl) pa_nil)))))
          (pw_or1 (pt_not (pt_val (pe_callB call_isi (by rfl) M.ins boot_isinstance (pa_cons (pv 1) (pa_cons (pe_bltn (v := .ty "str") (by rfl) M.str_ boot_str rfl) pa_nil)))))))))
        (pss_one (ps_ret pe_bl)) pss_nil)
      (pss_one (ps_ret (pe_and (pe_cmpR op_isnotB (pv 2) pe_bl (nomark _)) (pe_and (pe_cmpR op_isnotB (pv 2) pe_bl (nomark _)) (pe_and (pe_cmpR op_isnotB (pv 3) pe_bl (nomark _)) (pe_one (pe_cmpR op_isnotB (pv 3) pe_bl (nomark _)))))))))), ?_⟩
    refine ⟨v, rfl, v, .ty "tuple", .type n, .type "tuple", _, rfl, .ty _, th.ty, kit_ty th.ktup, _, rfl, ite2 (fun e => iteT ?_) (fun e => ?_)⟩
    · have e2 : o = none := by
        cases o with
        | none => rfl
        | some _ => cases e
      rw [e2] at q
      exact q
    · obtain ⟨a, xs, rfl, hS, et⟩ := th.tupOf (notnot e)
      rw [et] at q
      refine ⟨.ref a, rfl, a, xs, rfl, .inr hS, rfl, _, rfl, ite2 (fun e1 => ?_) (fun e1 => ?_)⟩
      · have e2 : ¬ xs.length = 3 := by
          intro z
          rw [z] at e1
          exact absurd e1 (by decide)
        rw [triL_len e2] at q
        exact q
      · have e2 : (xs.length : Int) = 3 := by
          have e3 : decide (V.int (xs.length : Int) = V.int 3) = true := by simpa using e1
          exact V.int.inj (of_decide_eq_true e3)
        obtain ⟨p, r, l, rfl⟩ := len3 (xs := xs) (by omega)
        obtain ⟨mp, m'p, tp⟩ := al _ et p (by simp)
        obtain ⟨mr, m'r, tr⟩ := al _ et r (by simp)
        obtain ⟨ml, m'l, tl⟩ := al _ et l (by simp)
        have fin : ∀ b, ((isI r && isI l) && isS p) = b → Q (.bl b) H := fun b e => by
          have q2 : Q (.bl ((isI r && isI l) && isS p)) H := q
          rw [e] at q2
          exact q2
        have nI : ∀ {r : V}, ¬ (isI r || isB r) = true → isI r = false := fun {r} h => by
          cases r with
          | int i => exact absurd rfl h
          | _ => rfl
        refine ⟨.ref a, rfl, a, _, rfl, hS, rfl, p, [r, l], rfl, r, [l], rfl, l, [], rfl, rfl, r, rfl, r, .ty "int", .type mr, .type "int", _, rfl, .ty _, tr.ty, kit_ty tr.kint, _, rfl, ite2 (fun e3 => iteT (fin _ ?_)) (fun e3 => ?_)⟩
        · rw [nI (fun z => by rw [z] at e3; cases e3), Bool.false_and, Bool.false_and]
        · obtain ⟨fr, hr'⟩ := flat_n (notnot e3)
          refine ⟨l, rfl, l, .ty "int", .type ml, .type "int", _, rfl, .ty _, tl.ty, kit_ty tl.kint, _, rfl, ite2 (fun e4 => iteT (fin _ ?_)) (fun e4 => ?_)⟩
          · rw [nI (r := l) (fun z => by rw [z] at e4; cases e4), Bool.and_false, Bool.false_and]
          · obtain ⟨fl, hl'⟩ := flat_n (notnot e4)
            refine ⟨p, rfl, p, .ty "str", .type mp, .type "str", _, rfl, .ty _, tp.ty, kit_ty tp.kstr, _, rfl, ite2 (fun e5 => fin _ ?_) (fun e5 => ?_)⟩
            · have e6 : isS p = false := by simpa using e5
              rw [e6, Bool.and_false]
            · have e6 : isS p = true := notnot e5
              refine ⟨r, rfl, true, fr, rfl, _, rfl, ite2 (fun e7 => ⟨r, rfl, false, fr, rfl, _, rfl, ite2 (fun e8 => ⟨l, rfl, true, fl, rfl, _, rfl, ite2 (fun e9 => ⟨l, rfl, false, fl, rfl, ?_⟩) (fun e9 => fin _ ?_)⟩) (fun e8 => fin _ ?_)⟩) (fun e7 => fin _ ?_)⟩
              · have ir : isI r = true := by
                  rcases hr' with h | rfl | rfl
                  · exact h
                  · exact absurd e7 (by decide)
                  · exact absurd e8 (by decide)
                rcases hl' with h | rfl | rfl
                · rw [(flat_b h false).2]
                  exact fin _ (by rw [ir, h, e6] <;> rfl)
                · exact absurd e9 (by decide)
                · exact fin _ (by rw [ir] <;> rfl)
              · rcases hl' with h | rfl | rfl
                · rw [(flat_b h true).2] at e9
                  exact absurd rfl e9
                · show ((isI r && false) && isS p) = false
                  rw [Bool.and_false, Bool.false_and]
                · show ((isI r && false) && isS p) = false
                  rw [Bool.and_false, Bool.false_and]
              · rcases hr' with h | rfl | rfl
                · rw [(flat_b h false).2] at e8
                  exact absurd rfl e8
                · rfl
                · rfl
              · rcases hr' with h | rfl | rfl
                · rw [(flat_b h true).2] at e7
                  exact absurd rfl e7
                · rfl
                · rfl

/-! ### is_end -/
def spEnd (K : PySem.W.Frag) : Sp := fun vs H Q _ => ∃ v n o, vs = [v] ∧ Th K H v n o ∧ ThAll K H o ∧ StAll (o) ∧ Q (.bl (endL (o))) H
theorem ok_end {f : Addr} {fd : FuncData} {k : Nat} (F : Fun K "is_end" "is_end" sEnd f fd) (M : Mg K mg) (cT : Cal P w K mg base k "is_triple" ["thing"] (spTriple K)) :
    FnOk P w K mg base CX0 (k + 1) f fd ["thing"] (spEnd K) := by
  obtain ⟨aH, mH, sH⟩ := M.hd
  obtain ⟨aF, mF, sF⟩ := M.ft
  refine F.ok scEnd (fun vs H Q E h => ?_) (fun cdv A outer s H vs Q E hr h => ?_)
  · obtain ⟨v, n, o, rfl, _⟩ := h
    rfl
  · obtain ⟨v, n, o, rfl, th, al, st, q⟩ := h
    refine ⟨_, pss_one (ps_ret (pe_and (pe_cal cT hr (by rfl) (pa_cons (pv 0) pa_nil)) (pe_one (pe_or (pe_cmpR (op_eqD hr.units) (pv 0) (pe_glob (v := .ref aH) (by rfl) mH rfl) (nomark _)) (pe_one (pe_cmpR (op_eqD hr.units) (pv 0) (pe_glob (v := .ref aF) (by rfl) mF rfl) (nomark _))))))), ?_⟩
    refine ⟨v, rfl, v, n, o, rfl, th, al, _, rfl, ite2 (fun e => ?_) (fun e => ?_)⟩
    · obtain ⟨a, xs, rfl, hS, et⟩ := th.tupOf (by cases o with | none => cases e | some _ => rfl)
      rw [et] at q e st
      have e3 : xs.length = 3 := Classical.byContradiction fun z => by
        rw [triL_len z] at e
        cases e
      obtain ⟨p, r, l, rfl⟩ := len3 e3
      have e' : ((isI r && isI l) && isS p) = true := e
      rw [Bool.and_eq_true, Bool.and_eq_true] at e'
      obtain ⟨i, rfl⟩ := intOf e'.1.1
      obtain ⟨j, rfl⟩ := intOf e'.1.2
      obtain ⟨x, rfl⟩ := strOfV e'.2
      have ok : PyData.strOk x = true := st _ rfl x (by simp)
      have okL : [V.str x, .int i, .int j].all okV = true := by
        show (PyData.strOk x && true) = true
        rw [ok] <;> rfl
      have dL : Dp K H (.ref a) (.tuple [.str x, .int i, .int j]) := dp_tup hS okL
      have shL : SeqAt.shaped (.tuple [.str x, .int i, .int j]) = true := sh_tup (xs := [.str x, .int i, .int j]) okL
      rw [endL_line] at q
      refine ⟨.ref a, rfl, _, _, dL, dp_tup (sH H) (by decide +kernel), shL, by decide +kernel, ?_⟩
      show ∃ k, V.bl (PyData.eqv (.tuple [.str x, .int i, .int j]) (.tuple [.str "", .int 0, .int 0])) = .bl k ∧ _
      refine ⟨_, rfl, ?_⟩
      rw [eqv_line]
      refine ite2 (fun e4 => ?_) (fun e4 => ?_)
      · rw [e4, Bool.true_or] at q
        exact q
      · rw [Bool.eq_false_iff.mpr e4, Bool.false_or] at q
        refine ⟨.ref a, rfl, _, _, dL, dp_tup (sF H) (by decide +kernel), shL, by decide +kernel, ?_⟩
        show Q (.bl (PyData.eqv (.tuple [.str x, .int i, .int j]) (.tuple [.str "", .int 0, .int 1]))) H
        rw [eqv_line]
        exact q
    · have e2 : endL (o) = false := by
        cases z : (o) with
        | none => rfl
        | some xs =>
          rw [z] at e
          exact endL_no (Bool.eq_false_iff.mpr e)
      rw [e2] at q
      exact q
end
end K1
set_option Elab.async false
set_option linter.all false
set_option maxRecDepth 100000
set_option maxHeartbeats 4000000
/-! The law's own defs: numbers mixed, digits drawn. -/
namespace K1
open PySem PySem.Spec PyProof.Rows L2

/-- the drawing state: what is left, and more -/
def stD (a b : Int) : List (Key × V) := [(.inr ("left" : Str), .int a), (.inr ("more" : Str), .int b)]
theorem neLM' : ¬ (("left" : Str) = ("more" : Str)) := by decide +kernel
theorem neML' : ¬ (("more" : Str) = ("left" : Str)) := by decide +kernel
theorem neLM : ¬ (Sum.inr ("left" : Str) : Key) = Sum.inr ("more" : Str) := fun z => neLM' (Sum.inr.inj z)
theorem st_left (a b : Int) : valV (stD a b) (.inr ("left" : Str)) = some (.int a) := valV_pos rfl
theorem st_more (a b : Int) : valV (stD a b) (.inr ("more" : Str)) = some (.int b) := (valV_neg neLM).trans (valV_pos rfl)
theorem st_putL (a b c : Int) : putK (stD a b) (.inr ("left" : Str)) (.int c) = stD c b := by
  simp [putK, stD, neML']
theorem st_putM (a b c : Int) : putK (stD a b) (.inr ("more" : Str)) (.int c) = stD a c := by
  simp [putK, stD, neLM', neML']
theorem st_small {n : Nat} (h : n ≤ 10) : n < sizeLine := Nat.lt_of_le_of_lt h (by decide)

section
variable {P : Program} {w : World} {K : PySem.W.Frag} {mg : Str → Option Value} {base : Heap} {T : Tp}

/-! ### _law_mixed -/
def spMixed : Sp := fun vs H Q _ => ∃ c k : Int, vs = [.int c, .int k] ∧ 0 ≤ k ∧ k ≤ 1000 ∧ ∀ r : Int, 0 ≤ r → r < 2147483647 → Q (.int r) H
theorem ok_mixed {f : Addr} {fd : FuncData} {k : Nat} (F : Fun K "_law_mixed" "_law_mixed" sMixed f fd) : FnOk P w K mg base CX0 (k + 1) f fd ["_law_cell", "_law_k"] spMixed := by
  refine F.ok scMixed (fun vs H Q E h => ?_) (fun cdv A outer s H vs Q E hr h => ?_)
  · obtain ⟨c, k, rfl, _⟩ := h
    rfl
  · obtain ⟨c, j, rfl, h0, h1, q⟩ := h
    refine ⟨_, pss_cons (ps_set (i := 0) scMixed.nd rfl (.inl rfl) (pe_op op_add (pe_op op_add (pe_op op_mod (pv 0) pe_int) (pe_op op_mul pe_int (pv 1))) pe_int))
      (pss_one (ps_ret (pe_op op_mod (pe_op op_mul (pe_op op_mod (pe_op op_mul (pv 0) (pv 0)) pe_int) pe_int) pe_int))), ?_⟩
    have m0 := Int.emod_nonneg c (show (1000000007 : Int) ≠ 0 by decide)
    have m1 := Int.emod_lt_of_pos c (show (0 : Int) < 1000000007 by decide)
    refine ⟨.int c, rfl, c, 1000000007, rfl, rfl, (show (0 : Int) < 1000000007 by decide), .int j, rfl, 7919, j, rfl, rfl, .inl (by decide), _, _, rfl, rfl, _, _, rfl, rfl, ?_⟩
    refine ⟨_, rfl, _, rfl, _, _, rfl, rfl, .inl ⟨by omega, by omega⟩, _, _, rfl, rfl, (show (0 : Int) < 1000000007 by decide), _, _, rfl, rfl, .inr (by decide), _, _, rfl, rfl, (show (0 : Int) < 2147483647 by decide), ?_⟩
    exact q _ (Int.emod_nonneg _ (by decide)) (Int.emod_lt_of_pos _ (by decide))

/-! ### _law_draw -/
def spDraw : Sp := fun vs H Q _ => ∃ c k : Int, vs = [.int c, .int k] ∧ 0 ≤ k ∧ k ≤ 900 ∧ ∀ d a b, 0 ≤ a → 0 ≤ b → H d = none → Q (.ref d) (upd H d (.dK (stD a b)))
theorem ok_draw {f : Addr} {fd : FuncData} {k : Nat} (F : Fun K "_law_draw" "_law_draw" sDraw f fd) (cM : Cal P w K mg base k "_law_mixed" ["_law_cell", "_law_k"] spMixed) : FnOk P w K mg base CX0 (k + 1) f fd ["_law_cell", "_law_k"] spDraw := by
  refine F.ok scDraw (fun vs H Q E h => ?_) (fun cdv A outer s H vs Q E hr h => ?_)
  · obtain ⟨c, k, rfl, _⟩ := h
    rfl
  · obtain ⟨c, j, rfl, h0, h1, q⟩ := h
    refine ⟨_, pss_cons (ps_set (i := 2) scDraw.nd rfl (.inl rfl) (pe_cal cM hr (by rfl) (pa_cons (pv 0) (pa_cons (pv 1) pa_nil))))
      (pss_cons (ps_set (i := 3) scDraw.nd rfl (.inl rfl) (pe_op op_add (pe_op op_add
        (pe_op op_mul (pe_cal cM hr (by rfl) (pa_cons (pv 2) (pa_cons (pe_op op_add (pv 1) pe_int) pa_nil))) (pe_op op_pow pe_int pe_int))
        (pe_op op_mul (pe_cal cM hr (by rfl) (pa_cons (pv 2) (pa_cons (pe_op op_add (pv 1) pe_int) pa_nil))) pe_int)) (pv 2)))
      (pss_one (ps_ret (pe_disp (pps_cons pe_str (pe_ifExp (pt_cmpR op_ge (pv 0) (pe_op op_pow pe_int pe_int) (nomark _)) (pv 0) (pv 3))
        (pps_cons pe_str (pe_ifExp (pt_cmpR op_ge (pv 0) (pe_op op_pow pe_int pe_int) (nomark _)) (pv 3) pe_int) pps_nil)) (by rfl) (by rfl) (fun z => by cases z) (by decide))))), ?_⟩
    refine ⟨.int c, rfl, .int j, rfl, c, j, rfl, h0, by omega, fun r r0 r1 => ?_⟩
    refine ⟨.int r, rfl, .int j, rfl, j, 1, rfl, rfl, r, j + 1, rfl, by omega, by omega, fun r2 a0 a1 => ?_⟩
    refine ⟨2147483647, 2, rfl, rfl, ⟨by decide, by decide, by decide⟩, r2, _, rfl, rfl, .inl (by omega), .int r, rfl, .int j, rfl, j, 2, rfl, rfl, r, j + 2, rfl, by omega, by omega, fun r3 b0 b1 => ?_⟩
    refine ⟨r3, 2147483647, rfl, rfl, .inl (by omega), _, _, rfl, rfl, .int r, rfl, _, r, rfl, rfl, ?_⟩
    have p0 : 0 ≤ r2 * 2147483647 ^ (2 : Int).toNat := Int.mul_nonneg a0 (by decide)
    have p1 : 0 ≤ r3 * 2147483647 := Int.mul_nonneg b0 (by decide)
    have m0 : 0 ≤ r2 * 2147483647 ^ (2 : Int).toNat + r3 * 2147483647 + r := by omega
    intro d hd
    have fin : ∀ a b : Int, 0 ≤ a → 0 ≤ b → (upd H d (.dK [])) d = some (.dK []) ∧ ∃ kvs : List (Key × V), [(V.str "left", V.int a), (V.str "more", V.int b)] = kvs.map (fun kv => (kV kv.1, kv.2)) ∧ kvs.length ≤ 15 ∧ Q (.ref d) (upd (upd H d (.dK [])) d (.dK (mergeK [] kvs))) := by
      intro a b ha hb
      refine ⟨upd_same, stD a b, rfl, by show 2 ≤ 15; decide, ?_⟩
      have e : mergeK [] (stD a b) = stD a b := by
        show putK (putK ([] : List (Key × V)) (Sum.inr ("left" : Str) : Key) (V.int a)) (Sum.inr ("more" : Str) : Key) (V.int b) = _
        rw [putK_new (κ := Key) (V.int a) valV_nil, List.nil_append, putK_new (κ := Key) (V.int b) ((valV_neg neLM).trans valV_nil)] <;> rfl
      rw [e, upd_upd]
      exact q d a b ha hb hd
    have ten : (10 : Int) ^ (18 : Int).toNat = 1000000000000000000 := by decide
    refine ⟨.int c, rfl, 10, 18, rfl, rfl, ⟨by decide, by decide, by decide⟩, c, _, rfl, rfl, _, rfl, ite2 (fun e => ⟨.int c, rfl, .int c, rfl, 10, 18, rfl, rfl, ⟨by decide, by decide, by decide⟩, c, _, rfl, rfl, _, rfl, ?_⟩) (fun e => ⟨_, rfl, .int c, rfl, 10, 18, rfl, rfl, ⟨by decide, by decide, by decide⟩, c, _, rfl, rfl, _, rfl, ?_⟩)⟩
    · have e1 : (10 : Int) ^ (18 : Int).toNat ≤ c := of_decide_eq_true e
      rw [ten] at e1
      exact ite2 (fun e2 => ⟨_, rfl, fin c _ (by omega) m0⟩) (fun e2 => absurd e e2)
    · exact ite2 (fun e2 => absurd e2 e) (fun e2 => fin _ 0 m0 (by omega))

/-! ### _law_digit -/
def spDigit : Sp := fun vs H Q _ => ∃ d a b m, vs = [.ref d, .int m] ∧ H d = some (.dK (stD a b)) ∧ 0 ≤ a ∧ 0 ≤ b ∧ 0 < m ∧ m < 1073741824 ∧
  ∀ r a' b' H', 0 ≤ r → r < m → 0 ≤ a' → 0 ≤ b' → H' d = some (.dK (stD a' b')) → (∀ x o, x ≠ d → H x = some o → H' x = some o) → Q (.int r) H'
theorem ok_digit {f : Addr} {fd : FuncData} {k : Nat} (F : Fun K "_law_digit" "_law_digit" sDigit f fd) : FnOk P w K mg base CX0 (k + 1) f fd ["_law_state", "_law_many"] spDigit := by
  refine F.ok scDigit (fun vs H Q E h => ?_) (fun cdv A outer s H vs Q E hr h => ?_)
  · obtain ⟨d, a, b, m, rfl, _⟩ := h
    rfl
  · obtain ⟨d, a, b, m, rfl, hd, ha, hb, m0, m1, q⟩ := h
    have hu := hu_of hr
    refine ⟨_, pss_cons (ps_if (pt_cmpR op_eq (pe_dget hu (pv 0) pe_str (fun _ _ => rfl)) pe_int (nomark _))
        (pss_one (ps_asg (pe_tup (pa_cons (pe_dget hu (pv 0) pe_str (fun _ _ => rfl)) (pa_cons pe_int pa_nil)))
          (pg_tup (by rfl) (pgs_cons (pg_sub (pv 0) pe_str (set_dict hu)) (pgs_cons (pg_sub (pv 0) pe_str (set_dict hu)) pgs_nil))))) pss_nil)
      (pss_cons (ps_set (i := 2) scDigit.nd rfl (.inl rfl) (pe_op op_mod (pe_dget hu (pv 0) pe_str (fun _ _ => rfl)) (pv 1)))
      (pss_cons (ps_dput hu (pv 0) pe_str (pe_op op_fdivN (pe_dget hu (pv 0) pe_str (fun _ _ => rfl)) (pv 1)) rfl)
      (pss_one (ps_ret (pv 2))))), ?_⟩
    have gl : ∀ {H1 : Hp} {a b : Int}, H1 d = some (.dK (stD a b)) → DGet H1 d (.str "left") (some (.int a)) := fun {H1 a b} e => st_left a b ▸ DGet.k (k := .inr ("left" : Str)) e
    have gm : ∀ {H1 : Hp} {a b : Int}, H1 d = some (.dK (stD a b)) → DGet H1 d (.str "more") (some (.int b)) := fun {H1 a b} e => st_more a b ▸ DGet.k (k := .inr ("more" : Str)) e
    have pl : ∀ {H1 : Hp} {a b c : Int}, H1 d = some (.dK (stD a b)) → DPut H1 d (.str "left") (.int c) (upd H1 d (.dK (stD c b))) := fun {H1 a b c} e => st_putL a b c ▸ DPut.k (k := .inr ("left" : Str)) e (by show 2 < sizeLine; decide)
    have pm : ∀ {H1 : Hp} {a b c : Int}, H1 d = some (.dK (stD a b)) → DPut H1 d (.str "more") (.int c) (upd H1 d (.dK (stD a c))) := fun {H1 a b c} e => st_putM a b c ▸ DPut.k (k := .inr ("more" : Str)) e (by show 2 < sizeLine; decide)
    have dv : ∀ z : Int, 0 ≤ z → 0 ≤ z.fdiv m := fun z hz => by
      rw [Int.fdiv_eq_ediv_of_nonneg z (by omega)]
      exact Int.ediv_nonneg hz (by omega)
    refine ⟨.ref d, rfl, d, .int a, rfl, gl hd, rfl, _, rfl, ite2 (fun e => ?_) (fun e => ?_)⟩
    · refine ⟨.ref d, rfl, d, .int b, rfl, gm hd, by show 2 ≤ sizeLine; decide, fun t ht => ?_⟩
      have nt : d ≠ t := ne_of_none hd ht
      have hd1 : (upd H t (.tup [.int b, .int 0])) d = some (.dK (stD a b)) := (upd_ne nt).trans hd
      refine ⟨t, _, rfl, .inl (.inl upd_same), rfl, .int b, [.int 0], rfl, .ref d, rfl, d, _, rfl, pl hd1, .int 0, [], rfl, .ref d, rfl, d, _, rfl, pm upd_same, rfl, ?_⟩
      rw [upd_upd]
      have hd2 : (upd (upd H t (.tup [.int b, .int 0])) d (.dK (stD b 0))) d = some (.dK (stD b 0)) := upd_same
      refine ⟨.ref d, rfl, d, .int b, rfl, gl hd2, .int m, rfl, b, m, rfl, rfl, m0, .ref d, rfl, d, .int b, rfl, gl hd2, .int m, rfl, b, m, rfl, rfl, ⟨by omega, by omega⟩, .ref d, rfl, d, _, rfl, pl hd2, .int (b % m), rfl, ?_⟩
      refine q _ _ _ _ (Int.emod_nonneg _ (by omega)) (Int.emod_lt_of_pos _ m0) (dv b hb) (Int.le_refl 0) upd_same fun x o hx e => ?_
      rw [upd_ne hx, upd_ne hx, upd_ne (ne_of_none e ht)]
      exact e
    · refine ⟨.ref d, rfl, d, .int a, rfl, gl hd, .int m, rfl, a, m, rfl, rfl, m0, .ref d, rfl, d, .int a, rfl, gl hd, .int m, rfl, a, m, rfl, rfl, ⟨by omega, by omega⟩, .ref d, rfl, d, _, rfl, pl hd, .int (a % m), rfl, ?_⟩
      refine q _ _ _ _ (Int.emod_nonneg _ (by omega)) (Int.emod_lt_of_pos _ m0) (dv a ha) hb upd_same fun x o hx e => ?_
      rw [upd_ne hx]
      exact e
end
end K1
set_option Elab.async false
set_option linter.all false
set_option maxRecDepth 100000
set_option maxHeartbeats 4000000
/-! Data of any depth: kept while the heap grows, cut off from lists that are being filled, compared, sorted. -/
namespace K1
open PySem PySem.Spec PyProof.Rows L2

/-! ### heaps without some places -/
def cut (C : Addr → Bool) (H : Hp) : Hp := fun a => if C a = true then none else H a
abbrev C0 : Addr → Bool := fun _ => false
section
variable {C C' : Addr → Bool} {H H1 : Hp} {p : Addr} {o : HO}
theorem cut0 : cut C0 H = H := by
  funext a
  rfl
theorem cut_out (h : C p = true) : cut C (upd H p o) = cut C H := by
  funext a
  unfold cut
  split
  · rfl
  · rename_i z
    exact upd_ne fun e => z (e ▸ h)
theorem cut_in (h : C p = false) : cut C (upd H p o) = upd (cut C H) p o := by
  funext a
  unfold cut
  by_cases e : a = p
  · subst e
    rw [if_neg (by rw [h]; exact Bool.false_ne_true), upd_same, upd_same]
  · rw [upd_ne e, upd_ne e]
theorem cut_at (h : C p = false) : cut C H p = H p := by
  unfold cut
  rw [if_neg (by rw [h]; exact Bool.false_ne_true)]
theorem cut_some (h : cut C H p = some o) : C p = false ∧ H p = some o := by
  unfold cut at h
  split at h
  · cases h
  · rename_i z
    exact ⟨Bool.eq_false_iff.mpr z, h⟩
theorem cut_none (h : H p = none) : cut C H p = none := by
  unfold cut
  split
  · rfl
  · exact h
end
/-- G's sequences stand in H -/
def Sub (G H : Hp) : Prop := ∀ a o, G a = some o → (∃ xs, o = .lst xs ∨ o = .tup xs ∨ (∃ u, o = .frz u (.lst xs) ∨ o = .frz u (.tup xs))) → H a = some o
section
variable {G H G' : Hp} {C C' : Addr → Bool}
theorem Sub.rfl' : Sub G G := fun _ _ e _ => e
theorem Sub.trans (h : Sub G H) (h' : Sub H G') : Sub G G' := fun a o e k => h' a o (h a o e k) k
theorem Sub.cut : Sub (cut C H) H := fun _ _ e _ => (cut_some e).2
theorem Sub.cuts (h : Sub G H) : Sub (K1.cut C G) (K1.cut C H) := fun a o e k => by
  obtain ⟨e1, e2⟩ := cut_some e
  rw [cut_at e1]
  exact h a o e2 k
theorem Sub.less (hc : ∀ a, C' a = true → C a = true) : Sub (K1.cut C H) (K1.cut C' H) := fun a o e k => by
  obtain ⟨e1, e2⟩ := cut_some e
  rw [cut_at (Bool.eq_false_iff.mpr fun z => by rw [hc a z] at e1; cases e1)]
  exact e2
theorem Sub.new {p : Addr} {o : HO} (h : H p = none) : Sub H (upd H p o) := fun a u e _ => by
  rw [upd_ne (ne_of_none e h)]
  exact e
theorem Sub.go {T : Tp} {D : Addr → Prop} (g : Go T D G H) (t : TG T G) (hd : ∀ a, D a → ∀ xs, G a ≠ some (.lst xs) ∧ G a ≠ some (.tup xs) ∧ ∀ u, G a ≠ some (.frz u (.lst xs)) ∧ G a ≠ some (.frz u (.tup xs))) : Sub G H := fun a o e k => by
  obtain ⟨xs, k⟩ := k
  refine g.at t (fun z => ?_) e ?_
  · have q := hd a z xs
    rcases k with rfl | rfl | ⟨u, rfl | rfl⟩
    · exact q.1 e
    · exact q.2.1 e
    · exact (q.2.2 u).1 e
    · exact (q.2.2 u).2 e
  · rintro ps rfl
    rcases k with k | k | ⟨u, k | k⟩ <;> cases k
theorem Sub.seqT {K : PySem.W.Frag} {a : Addr} {xs : List V} (h : Sub G H) (e : SqT K G a xs) : SqT K H a xs := by
  rcases e with (e | ⟨u, e⟩) | e
  · exact .inl (.inl (h _ _ e ⟨xs, .inr (.inl rfl)⟩))
  · exact .inl (.inr ⟨u, h _ _ e ⟨xs, .inr (.inr ⟨u, .inr rfl⟩)⟩⟩)
  · exact .inr e
theorem Sub.seqL {K : PySem.W.Frag} {a : Addr} {xs : List V} (h : Sub G H) (e : SqL K G a xs) : SqL K H a xs := by
  rcases e with (e | ⟨u, e⟩) | e
  · exact .inl (.inl (h _ _ e ⟨xs, .inl rfl⟩))
  · exact .inl (.inr ⟨u, h _ _ e ⟨xs, .inr (.inr ⟨u, .inl rfl⟩)⟩⟩)
  · exact .inr e
end
end K1
namespace L2
open PySem PySem.Spec PyProof.Rows
mutual
theorem Dp.sub {K : PySem.W.Frag} {G H : Hp} (h : K1.Sub G H) : ∀ (d : PyData) (v : V), Dp K G v d → Dp K H v d
  | .none, _, q => by cases q; exact .non
  | .bool b, _, q => by cases q; exact .bl b
  | .int i, _, q => by cases q; exact .int i
  | .str x, _, q => by cases q; exact .str x
  | .list ds, _, q => by
    cases q with
    | lst e a => exact .lst (h.seqL e) (Dp.subs h ds _ a)
  | .tuple ds, _, q => by
    cases q with
    | tup e a => exact .tup (h.seqT e) (Dp.subs h ds _ a)
  | .dict _, _, q => by cases q
theorem Dp.subs {K : PySem.W.Frag} {G H : Hp} (h : K1.Sub G H) : ∀ (ds : List PyData) (vs : List V), DpAll K G vs ds → DpAll K H vs ds
  | [], _, q => by cases q; exact .nil
  | d :: ds, _, q => by
    cases q with
    | cons a b => exact .cons (Dp.sub h d _ a) (Dp.subs h ds _ b)
end
section
variable {K : PySem.W.Frag} {H : Hp}
theorem DpAll.len : ∀ {vs : List V} {ds : List PyData}, DpAll K H vs ds → vs.length = ds.length
  | _, _, .nil => rfl
  | _, _, .cons _ b => congrArg (· + 1) (DpAll.len b)
theorem DpAll.at : ∀ {vs : List V} {ds : List PyData}, DpAll K H vs ds → ∀ {i : Nat} {d : PyData}, ds[i]? = some d → ∃ v, vs[i]? = some v ∧ Dp K H v d
  | _, _, .nil, _, _, e => by cases e
  | _, _, .cons a b, 0, _, e => by cases e; exact ⟨_, rfl, a⟩
  | _, _, .cons a b, i + 1, _, e => DpAll.at b (i := i) e
theorem DpAll.at' : ∀ {vs : List V} {ds : List PyData}, DpAll K H vs ds → ∀ {i : Nat} {v : V}, vs[i]? = some v → ∃ d, ds[i]? = some d ∧ Dp K H v d
  | _, _, .nil, _, _, e => by cases e
  | _, _, .cons a b, 0, _, e => by cases e; exact ⟨_, rfl, a⟩
  | _, _, .cons a b, i + 1, _, e => DpAll.at' b (i := i) e
theorem DpAll.app : ∀ {vs : List V} {ds : List PyData}, DpAll K H vs ds → ∀ {us : List V} {es : List PyData}, DpAll K H us es → DpAll K H (vs ++ us) (ds ++ es)
  | _, _, .nil, _, _, h => h
  | _, _, .cons a b, _, _, h => .cons a (DpAll.app b h)
theorem DpAll.one {v : V} {d : PyData} (h : Dp K H v d) : DpAll K H [v] [d] := .cons h .nil
theorem DpAll.take : ∀ {vs : List V} {ds : List PyData}, DpAll K H vs ds → ∀ n, DpAll K H (vs.take n) (ds.take n)
  | _, _, .nil, n => by rw [List.take_nil, List.take_nil]; exact .nil
  | _, _, .cons a b, 0 => .nil
  | _, _, .cons a b, n + 1 => .cons a (DpAll.take b n)
theorem DpAll.drop : ∀ {vs : List V} {ds : List PyData}, DpAll K H vs ds → ∀ n, DpAll K H (vs.drop n) (ds.drop n)
  | _, _, .nil, n => by rw [List.drop_nil, List.drop_nil]; exact .nil
  | _, _, .cons a b, 0 => .cons a b
  | _, _, .cons a b, n + 1 => DpAll.drop b n
theorem DpAll.mem : ∀ {vs : List V} {ds : List PyData}, DpAll K H vs ds → ∀ {v : V}, v ∈ vs → ∃ d ∈ ds, Dp K H v d
  | _, _, .cons a b, v, h => by
    rcases List.mem_cons.mp h with rfl | h
    · exact ⟨_, List.mem_cons_self .., a⟩
    · obtain ⟨d, m, q⟩ := DpAll.mem b h
      exact ⟨d, List.mem_cons_of_mem _ m, q⟩
theorem DpAll.rev : ∀ {vs : List V} {ds : List PyData}, DpAll K H vs ds → DpAll K H vs.reverse ds.reverse
  | _, _, .nil => .nil
  | _, _, .cons a b => by
    rw [List.reverse_cons, List.reverse_cons]
    exact (DpAll.rev b).app (.one a)
theorem Dp.tupI {v : V} {ds : List PyData} (h : Dp K H v (.tuple ds)) : ∃ a xs, v = .ref a ∧ SqT K H a xs ∧ DpAll K H xs ds := by
  cases h with
  | tup e a => exact ⟨_, _, rfl, e, a⟩
theorem Dp.lstI {v : V} {ds : List PyData} (h : Dp K H v (.list ds)) : ∃ a xs, v = .ref a ∧ SqL K H a xs ∧ DpAll K H xs ds := by
  cases h with
  | lst e a => exact ⟨_, _, rfl, e, a⟩
theorem Dp.strI {v : V} {x : Str} (h : Dp K H v (.str x)) : v = .str x := by
  cases h
  rfl
theorem Dp.intI {v : V} {i : Int} (h : Dp K H v (.int i)) : v = .int i := by
  cases h
  rfl
theorem DpAll.i1 {vs : List V} {a : PyData} (h : DpAll K H vs [a]) : ∃ x, vs = [x] ∧ Dp K H x a := by
  cases h with
  | cons h1 h2 =>
    cases h2
    exact ⟨_, rfl, h1⟩
theorem DpAll.i2 {vs : List V} {a b : PyData} (h : DpAll K H vs [a, b]) : ∃ x y, vs = [x, y] ∧ Dp K H x a ∧ Dp K H y b := by
  cases h with
  | cons h1 h2 =>
    obtain ⟨y, rfl, q⟩ := h2.i1
    exact ⟨_, _, rfl, h1, q⟩
theorem DpAll.i3 {vs : List V} {a b c : PyData} (h : DpAll K H vs [a, b, c]) : ∃ x y z, vs = [x, y, z] ∧ Dp K H x a ∧ Dp K H y b ∧ Dp K H z c := by
  cases h with
  | cons h1 h2 =>
    obtain ⟨y, z, rfl, q⟩ := h2.i2
    exact ⟨_, _, _, rfl, h1, q⟩
theorem DpAll.i4 {vs : List V} {a b c d : PyData} (h : DpAll K H vs [a, b, c, d]) : ∃ x y z u, vs = [x, y, z, u] ∧ Dp K H x a ∧ Dp K H y b ∧ Dp K H z c ∧ Dp K H u d := by
  cases h with
  | cons h1 h2 =>
    obtain ⟨y, z, u, rfl, q⟩ := h2.i3
    exact ⟨_, _, _, _, rfl, h1, q⟩
end

end L2
namespace K1
open PySem PySem.Spec PyProof.Rows L2
/-! ### order -/
section
variable {X : Cx}
def rLeD (K : PySem.W.Frag) : R2 := fun x y H Q => ∃ d e, Dp K H x d ∧ Dp K H y e ∧ PySem.W.alike d e = true ∧ d ≠ .none ∧ d.depth ≤ 60 ∧ Q (.bl (!PySem.W.dataLt e d)) H
theorem op_leD (hu : X.A.units + 64 < cLine) : OpR X (compareOp .LtE) (rLeD X.K) := by
  intro pins s σ H x y v u Q I rx ry h
  obtain ⟨d, e, hd, he, al, nn, dp, q⟩ := h
  obtain ⟨as, r1⟩ := Dp.reads I d x v hd rx
  obtain ⟨bs, r2⟩ := Dp.reads I e y u he ry
  exact PySem.W.le_data r1 r2 al nn (by have := Nat.min_le_left d.depth e.depth; omega) ⟨.bl _, H, I, rfl, q⟩
/-- sorted(xs), xs a list of data that are alike: a new list -/
def rSortedD (K : PySem.W.Frag) : List V → Hp → VK → Prop := fun vs H Q => ∃ (a : Addr) (ps : List (V × PyData)), vs = [V.ref a] ∧ SqL K H a (ps.map (·.1)) ∧ (∀ p ∈ ps, Dp K H p.1 p.2) ∧ PySem.W.AllAlike (ps.map (·.2)) ∧ PySem.W.Sortable (ps.map (·.2)) ∧
  (∀ p ∈ ps, p.2.depth ≤ 60) ∧ ∀ l, H l = none → Q (.ref l) (upd H l (.lst ((ps.mergeSort (PySem.W.dataLe false (·.2))).map (·.1))))
theorem each_of {R : Value → V × PyData → Prop} : ∀ {ps : List (V × PyData)} {us : List Value}, Vals (ps.map (·.1)) us → (∀ p ∈ ps, ∀ u, RelV p.1 u → R u p) → PySem.W.EachIs R us ps
  | [], _, h, _ => by cases h; exact .nil
  | p :: ps, _, h, q => by
    cases h with
    | cons r rs => exact .cons (q p (List.mem_cons_self ..) _ r) (each_of rs fun p' m => q p' (List.mem_cons_of_mem _ m))
theorem each_vals : ∀ {us : List Value} {ps : List (V × PyData)}, PySem.W.EachIs (fun u p => RelV p.1 u) us ps → Vals (ps.map (·.1)) us
  | _, _, .nil => .nil
  | _, _, .cons a b => .cons a (each_vals b)
theorem cr_sortedD (hu : X.A.units + 64 < cLine) : CallR X (.builtin "sorted") (rSortedD X.K) := by
  intro pins s σ H vs us Q I r h
  obtain ⟨a, ps, rfl, hs, hd, al, so, dp, q⟩ := h
  obtain ⟨its, rv, hl, hz⟩ := I.list hs
  rw [Vals.ref1 r]
  have hz' : ps.length ≤ sizeLine := by rw [List.length_map] at hz; exact hz
  refine PySem.W.sorted_data (β := V × PyData) (enc := (·.2)) (bs := ps) (R := fun u p => RelV p.1 u) hl.isList (each_of rv fun p m u r => r) (each_of rv fun p m u r => Dp.reads I p.2 p.1 u (hd p m) r) al so hz' (fun p m => by have := dp p m; omega) fun out h1 h2 => ?_
  obtain ⟨e, he⟩ := PyProof.Rows.sortedAll_at s.heap its out.toArray
  refine ⟨.ref (s.heap.objs.size + 1), upd H (s.heap.objs.size + 1) (.lst ((ps.mergeSort (PySem.W.dataLe false (·.2))).map (·.1))), I.laid (t' := s.toks) (fun _ _ => PyProof.Rows.sortedAll_old) (Nat.le_succ _) ⟨?_, out, e, each_vals h2, he⟩, rfl, q _ (I.hok.fresh (Nat.le_succ _))⟩
  rw [List.length_map, List.length_mergeSort]
  exact hz'
end
end K1
set_option Elab.async false
set_option linter.all false
set_option maxRecDepth 100000
set_option maxHeartbeats 4000000
/-! Patches as data: names, lines, deeds. -/
namespace K1
open PySem PySem.Spec PyProof.Rows L2

abbrev Nm := Str × Int
abbrev Ln := Str × Int × Int
inductive Deed where
  | put (a b : Ln) (ts : List Str)
  | order (a b : Ln)
  | one (keep : Bool) (a : Ln)
structure Pat where
  name : Nm
  knows : List Nm
  deeds : List Deed
def eN (n : Nm) : PyData := .tuple [.str n.1, .int n.2]
def eL (l : Ln) : PyData := .tuple [.str l.1, .int l.2.1, .int l.2.2]
def kindS (k : Bool) : Str := if k = true then "keep" else "cut"
def eD : Deed → PyData
  | .put a b ts => .tuple [.str "put", eL a, eL b, .tuple (ts.map .str)]
  | .order a b => .tuple [.str "order", eL a, eL b]
  | .one k a => .tuple [.str (kindS k), eL a]
def eP (p : Pat) : PyData := .tuple [eN p.name, .list (p.knows.map eN), .list (p.deeds.map eD)]
def Deed.texts : Deed → List Str
  | .put _ _ ts => ts
  | _ => []
def textsOf (p : Pat) : List Str := p.deeds.flatMap Deed.texts
def lnAt (n : Nm) (k : Nat) : Ln := (n.1, n.2, (k : Int) + 1)
def linesFrom (n : Nm) (ts : List Str) : List (Ln × Str) := (List.range ts.length).map fun k => (lnAt n k, ts.getD k "")
def linesOf (p : Pat) : List (Ln × Str) := linesFrom p.name (textsOf p)
def linesIn (hist : List Pat) (names : List Nm) : List (Ln × Str) := hist.flatMap fun p => if p.name ∈ names then linesOf p else []
def eLT (x : Ln × Str) : PyData := .tuple [eL x.1, .str x.2]
/-- what is known, by the history backwards -/
def knownStep (found : List Nm) (p : Pat) : List Nm := if p.name ∈ found then found ++ p.knows.filter (fun n => decide (n ∉ found)) else found
def knownIn (hist : List Pat) (knows : List Nm) : List Nm := hist.reverse.foldl knownStep knows

def NmOk (n : Nm) : Prop := handV (.str n.1) = true ∧ 1 ≤ n.2 ∧ n.2 ≤ 999
def nmOf (l : Ln) : Nm := (l.1, l.2.1)
def LnOk (l : Ln) : Prop := NmOk (nmOf l) ∧ 1 ≤ l.2.2
def headL : Ln := ("", 0, 0)
def footL : Ln := ("", 0, 1)
def TxOk (t : Str) : Prop := PyData.strOk t = true ∧ t.length ≤ 40 ∧ 10 ∉ TL.tl t
/-- a line that a put may stand at -/
def EdOk (l : Ln) : Prop := LnOk l ∨ l = headL ∨ l = footL
def Deed.ok : Deed → Prop
  | .put a b ts => EdOk a ∧ EdOk b ∧ ∀ t ∈ ts, TxOk t
  | .order a b => LnOk a ∧ LnOk b
  | .one _ a => LnOk a
structure Pat.ok (p : Pat) : Prop where
  name : NmOk p.name
  knows : ∀ n ∈ p.knows, NmOk n
  deeds : ∀ d ∈ p.deeds, d.ok
/-- the sizes of drawn ones -/
structure Pat.small (p : Pat) : Prop where
  knows : p.knows.length ≤ 4
  deeds : p.deeds.length ≤ 3
  texts : ∀ d ∈ p.deeds, d.texts.length ≤ 3

/-- all signs are plain -/
def Asc (x : Str) : Prop := ∀ c ∈ TL.tl x, c < 128
theorem Asc.ok {x : Str} (h : Asc x) : PyData.strOk x = true := by
  show x.cps.all _ = true
  rw [← Array.all_toList]
  refine List.all_eq_true.mpr fun c hc => ?_
  have := h c hc
  exact decide_eq_true (by omega)
theorem handOk {x : Str} (h : handV (.str x) = true) : PyData.strOk x = true ∧ x.length ≤ 8 := by
  have w : wordOk x = true := (Bool.and_eq_true_iff.mp h).1
  have w1 := Bool.and_eq_true_iff.mp w
  have w2 := Bool.and_eq_true_iff.mp w1.1
  refine ⟨Asc.ok fun c hc => ?_, ?_⟩
  · have := of_decide_eq_true (List.all_eq_true.mp w1.2 c hc)
    have e : ltrs.cps.toList.all (fun c => decide (c < 128)) = true := by decide +kernel
    exact of_decide_eq_true (List.all_eq_true.mp e c this)
  · have := of_decide_eq_true w2.2
    omega
theorem eN_eqv (n m : Nm) : PyData.eqv (eN n) (eN m) = decide (n = m) := by
  obtain ⟨a, i⟩ := n
  obtain ⟨b, j⟩ := m
  have e : PyData.eqv (eN (a, i)) (eN (b, j)) = ((a == b) && ((i == j) && true)) := by simp only [eN, PyData.eqv, PyData.eqvAll]
  rw [e]
  by_cases h1 : a = b
  · by_cases h2 : i = j
    · subst h1 h2
      simp
    · simp [h1, h2]
  · simp [h1]
theorem eL_eqv (n m : Ln) : PyData.eqv (eL n) (eL m) = decide (n = m) := by
  obtain ⟨a, i, k⟩ := n
  obtain ⟨b, j, l⟩ := m
  have e : PyData.eqv (eL (a, i, k)) (eL (b, j, l)) = ((a == b) && ((i == j) && ((k == l) && true))) := by simp only [eL, PyData.eqv, PyData.eqvAll]
  rw [e]
  by_cases h1 : a = b
  · by_cases h2 : i = j
    · by_cases h3 : k = l
      · subst h1 h2 h3
        simp
      · simp [h1, h2, h3]
    · simp [h1, h2]
  · simp [h1]
theorem eN_any (n : Nm) (ns : List Nm) : ((ns.map eN).any fun z => PyData.eqv z (eN n)) = decide (n ∈ ns) := by
  induction ns with
  | nil => rfl
  | cons m r ih =>
    rw [List.map_cons, List.any_cons, ih, eN_eqv]
    by_cases h : m = n
    · subst h
      simp
    · have h' : ¬ n = m := fun z => h z.symm
      simp [h, h']
/-! shapes -/
theorem shaped_of {d : PyData} (h : d.canLay0 = true) (h' : d.depth ≤ 64) : SeqAt.shaped d = true := by
  show (d.canLay0 && decide (d.depth ≤ 64)) = true
  rw [Bool.and_eq_true]
  exact ⟨h, decide_eq_true h'⟩
theorem eN_lay {n : Nm} (h : PyData.strOk n.1 = true) : (eN n).canLay0 = true := by
  show PyData.canLay0 (.tuple [.str n.1, .int n.2]) = true
  simp [PyData.canLay0, PyData.canLayAll0, h]
theorem eN_dep (n : Nm) : (eN n).depth = 1 := by simp [eN, PyData.depth, PyData.depthAll]
theorem eL_lay {n : Ln} (h : PyData.strOk n.1 = true) : (eL n).canLay0 = true := by
  show PyData.canLay0 (.tuple [.str n.1, .int n.2.1, .int n.2.2]) = true
  simp [PyData.canLay0, PyData.canLayAll0, h]
theorem eL_dep (n : Ln) : (eL n).depth = 1 := by simp [eL, PyData.depth, PyData.depthAll]
theorem layAll {α : Type} {f : α → PyData} : ∀ {l : List α}, (∀ x ∈ l, (f x).canLay0 = true) → PyData.canLayAll0 (l.map f) = true
  | [], _ => by simp [PyData.canLayAll0]
  | x :: r, h => by
    have h1 := h x (List.mem_cons_self ..)
    have h2 := layAll (l := r) fun y m => h y (List.mem_cons_of_mem _ m)
    simp [PyData.canLayAll0, h1, h2]
theorem depAll {α : Type} {f : α → PyData} {n : Nat} : ∀ {l : List α}, (∀ x ∈ l, (f x).depth ≤ n) → PyData.depthAll (l.map f) ≤ n
  | [], _ => by simp [PyData.depthAll]
  | x :: r, h => by
    have h1 := h x (List.mem_cons_self ..)
    have h2 := depAll (l := r) fun y m => h y (List.mem_cons_of_mem _ m)
    simp only [List.map_cons, PyData.depthAll]
    omega
theorem NmOk.sh {n : Nm} (h : NmOk n) : SeqAt.shaped (eN n) = true := shaped_of (eN_lay (handOk h.1).1) (by rw [eN_dep]; decide)
theorem nms_sh {ns : List Nm} (h : ∀ n ∈ ns, NmOk n) : SeqAt.shaped (.list (ns.map eN)) = true := by
  refine shaped_of ?_ ?_
  · show PyData.canLay0 (.list (ns.map eN)) = true
    simp only [PyData.canLay0]
    exact layAll fun n m => eN_lay (handOk (h n m).1).1
  · have := depAll (f := eN) (n := 1) (l := ns) fun n _ => by rw [eN_dep]; exact Nat.le_refl _
    simp only [PyData.depth]
    omega
theorem EdOk.str {l : Ln} (h : EdOk l) : PyData.strOk l.1 = true := by
  rcases h with h | rfl | rfl
  · exact (handOk h.1.1).1
  · decide +kernel
  · decide +kernel
theorem eL_sh {l : Ln} (h : PyData.strOk l.1 = true) : SeqAt.shaped (eL l) = true := shaped_of (eL_lay h) (by rw [eL_dep]; decide)
theorem linesFrom_len (n : Nm) (ts : List Str) : (linesFrom n ts).length = ts.length := by
  unfold linesFrom
  rw [List.length_map, List.length_range]
theorem textsOf_len {p : Pat} (h : p.small) : (textsOf p).length ≤ 9 := by
  unfold textsOf
  have : ∀ l : List Deed, (∀ d ∈ l, d.texts.length ≤ 3) → (l.flatMap Deed.texts).length ≤ 3 * l.length := by
    intro l
    induction l with
    | nil => intro _; exact Nat.le_refl _
    | cons d r ih =>
      intro h
      rw [List.flatMap_cons, List.length_append, List.length_cons]
      have h1 := h d (List.mem_cons_self ..)
      have h2 := ih fun y m => h y (List.mem_cons_of_mem _ m)
      omega
  have h1 := this p.deeds h.texts
  have h2 := h.deeds
  omega
theorem linesIn_len {names : List Nm} : ∀ {hist : List Pat}, (∀ p ∈ hist, p.small) → (linesIn hist names).length ≤ 9 * hist.length
  | [], _ => Nat.le_refl _
  | p :: r, h => by
    have h1 := textsOf_len (h p (List.mem_cons_self ..))
    have h2 := linesIn_len (names := names) (hist := r) fun y m => h y (List.mem_cons_of_mem _ m)
    have e : linesIn (p :: r) names = (if p.name ∈ names then linesOf p else []) ++ linesIn r names := rfl
    rw [e, List.length_append, List.length_cons]
    have h3 : (if p.name ∈ names then linesOf p else []).length ≤ 9 := by
      split
      · unfold linesOf
        rw [linesFrom_len]
        exact h1
      · exact Nat.zero_le _
    omega
end K1
set_option Elab.async false
set_option linter.all false
set_option maxRecDepth 100000
set_option maxHeartbeats 4000000
/-! The law's defs: lines of patches, what is known. -/
namespace K1
open PySem PySem.Spec PyProof.Rows L2

theorem units65 {k : Nat} {A : Around} (r : Room k A) : A.units + 65 < cLine := by have := r.un; omega
/-- an object that is new since H, written again -/
theorem Go.put {T : Tp} {D : Addr → Prop} {H H1 : Hp} {p : Addr} {o u : HO} (g : Go T D H H1) (n : H p = none) (h : H1 p = some u) (hu : ∀ ps, u ≠ .tbl ps := by intro ps z; cases z) : Go T D H (upd H1 p o) := by
  have ne := g.1.neW h hu
  refine ⟨g.1.stay ne, fun b v h1 h3 e => ?_⟩
  rw [upd_ne (ne_of_none e n)]
  exact g.2 b v h1 h3 e
theorem small_line {n : Nat} (h : n ≤ 10000) : n < sizeLine := Nat.lt_of_le_of_lt h (by decide)
theorem small_le {n : Nat} (h : n ≤ 10000) : n ≤ sizeLine := Nat.le_of_lt (small_line h)
theorem flat_take {α β : Type} {f : α → List β} (l : List α) (j : Nat) : ((l.take j).flatMap f).length ≤ (l.flatMap f).length := by
  have e : l.flatMap f = (l.take j).flatMap f ++ (l.drop j).flatMap f := by rw [← List.flatMap_append, List.take_append_drop]
  rw [e, List.length_append]
  omega
theorem flat_succ {α β : Type} {f : α → List β} {l : List α} {j : Nat} {x : α} (h : l[j]? = some x) : (l.take (j + 1)).flatMap f = (l.take j).flatMap f ++ f x := by
  rw [List.take_add_one, h, List.flatMap_append]
  simp
/-- C and D together -/
def plus (C : Addr → Bool) (D : Addr) : Addr → Bool := fun a => C a || decide (a = D)
theorem plus_D {C : Addr → Bool} {D : Addr} : plus C D D = true := by simp [plus]
theorem plus_le {C : Addr → Bool} {D : Addr} : ∀ a, C a = true → plus C D a = true := fun a h => by simp [plus, h]
theorem plus_no {C : Addr → Bool} {D p : Addr} (h : C p = false) (n : p ≠ D) : plus C D p = false := by simp [plus, h, n]
/-- a history, its patches off C -/
def HistAt (K : PySem.W.Frag) (C : Addr → Bool) (H : Hp) (h : V) (hist : List Pat) : Prop := ∃ a xs, h = .ref a ∧ SqL K H a xs ∧ DpAll K (cut C H) xs (hist.map eP)
structure HistOk (hist : List Pat) : Prop where
  len : hist.length ≤ 100
  each : ∀ p ∈ hist, p.ok ∧ p.small
/-- C's places are taken -/
def Held (C : Addr → Bool) (H : Hp) : Prop := ∀ a, C a = true → H a ≠ none
theorem Held.no {C : Addr → Bool} {H : Hp} {p : Addr} (h : Held C H) (e : H p = none) : C p = false := Bool.eq_false_iff.mpr fun z => h p z e
theorem sub_go {T : Tp} {H H' : Hp} (g : Go T D0 H H') (t : TG T H) : Sub H H' := Sub.go g t fun _ z => z.elim
theorem HistAt.go {K : PySem.W.Frag} {C : Addr → Bool} {T : Tp} {H H' : Hp} {h : V} {hist : List Pat} (x : HistAt K C H h hist) (g : Go T D0 H H') (t : TG T H) : HistAt K C H' h hist := by
  obtain ⟨a, xs, e, s, d⟩ := x
  exact ⟨a, xs, e, g.seqL t (fun _ _ z => z) s, Dp.subs (sub_go g t).cuts _ _ d⟩
theorem dp_cut {K : PySem.W.Frag} {C : Addr → Bool} {H : Hp} {v : V} {d : PyData} (h : Dp K (cut C H) v d) : Dp K H v d := Dp.sub Sub.cut _ _ h
theorem at_map {α : Type} {f : α → PyData} {l : List α} {i : Nat} {x : PyData} (h : (l.map f)[i]? = some x) : ∃ p, l[i]? = some p ∧ x = f p := by
  rw [List.getElem?_map] at h
  cases e : l[i]? with
  | none => rw [e] at h; cases h
  | some p =>
    rw [e] at h
    exact ⟨p, rfl, (Option.some.inj h).symm⟩

section
variable {P : Program} {w : World} {K : PySem.W.Frag} {mg : Str → Option Value} {base : Heap} {T : Tp}

/-! ### _law_lines -/
def spLines (K : PySem.W.Frag) (T : Tp) : Sp := fun vs H Q _ => ∃ (h ns : V) (hist : List Pat) (names : List Nm) (C : Addr → Bool), vs = [h, ns] ∧ HistAt K C H h hist ∧ HistOk hist ∧ Dp K H ns (.list (names.map eN)) ∧ (∀ n ∈ names, NmOk n) ∧ Held C H ∧ TG T H ∧
  ∀ H' p xs, Go T D0 H H' → H p = none → H' p = some (.lst xs) → DpAll K (cut C H') xs ((linesIn hist names).map eLT) → Q (.ref p) H'
theorem strs_of {K : PySem.W.Frag} {H : Hp} : ∀ {us : List V} {ts : List Str}, DpAll K H us (ts.map .str) → us = ts.map V.str
  | _, [], h => by cases h; rfl
  | _, t :: r, h => by
    cases h with
    | cons a b =>
      cases Dp.strI a
      rw [strs_of b]
      rfl
theorem txt_of {d : Deed} : ∀ {K : PySem.W.Frag} {H : Hp} {v : V}, Dp K H v (eD d) → ∃ a k r, v = .ref a ∧ SqT K H a (.str k :: r) ∧ ((k = "put" ∧ ∃ x y t us, r = [x, y, .ref t] ∧ SqT K H t (us.map V.str) ∧ us = d.texts) ∨ (k ≠ "put" ∧ d.texts = [])) := by
  intro K H v h
  cases d with
  | put a b ts =>
    obtain ⟨p, xs, rfl, s, q⟩ := Dp.tupI h
    obtain ⟨x, y, z, u, rfl, q1, q2, q3, q4⟩ := DpAll.i4 q
    cases Dp.strI q1
    obtain ⟨t, us, rfl, s2, q5⟩ := Dp.tupI q4
    refine ⟨p, "put", _, rfl, s, .inl ⟨rfl, y, z, t, ts, rfl, ?_, rfl⟩⟩
    have : us = ts.map V.str := by
      exact strs_of q5
    rw [← this]
    exact s2
  | order a b =>
    obtain ⟨p, xs, rfl, s, q⟩ := Dp.tupI h
    obtain ⟨x, y, z, rfl, q1, q2, q3⟩ := DpAll.i3 q
    cases Dp.strI q1
    exact ⟨p, "order", _, rfl, s, .inr ⟨by decide +kernel, rfl⟩⟩
  | one k a =>
    obtain ⟨p, xs, rfl, s, q⟩ := Dp.tupI h
    obtain ⟨x, y, rfl, q1, q2⟩ := DpAll.i2 q
    cases Dp.strI q1
    exact ⟨p, kindS k, _, rfl, s, .inr ⟨by cases k <;> decide +kernel, rfl⟩⟩
theorem ok_llines {f : Addr} {fd : FuncData} {k : Nat} (F : Fun K "_law_lines" "_law_lines" sLLines f fd) (M : Mg K mg) : FnOk P w K mg base CX0 (k + 1) f fd ["_law_history_here", "_law_names"] (spLines K T) := by
  refine F.ok scLLines (fun vs H Q E h => ?_) (fun cdv A outer s H vs Q E hr h => ?_)
  · obtain ⟨h, ns, hist, names, C, rfl, _⟩ := h
    rfl
  · obtain ⟨hv, nv, hist, names, C, rfl, hh, hok, hn, nok, held, tg, q⟩ := h
    refine ⟨_, pss_cons (ps_set (i := 2) scLLines.nd rfl (.inl rfl) (pe_lst pa_nil))
      (pss_cons (ps_for PassesOwn.never rfl (pi_list (pv 0)) (pg_tup rfl (pgs_cons (pg_name (i := 3) scLLines.nd rfl (.inr rfl)) (pgs_cons (pg_name (i := 4) scLLines.nd rfl (.inl rfl)) (pgs_cons (pg_name (i := 5) scLLines.nd rfl (.inl rfl)) pgs_nil))))
        (pss_cons (ps_set (i := 6) scLLines.nd rfl (.inl rfl) (pe_lst pa_nil))
        (pss_cons (ps_for PassesOwn.never rfl (pi_list (pv 5)) (pg_name (i := 7) scLLines.nd rfl (.inl rfl))
          (pss_one (ps_set (i := 6) scLLines.nd rfl (.inl rfl) (pe_op op_cat (pv 6) (pe_ifExp (pt_cmpR op_eq (pe_ix ix_tup (pv 7) pe_int (fun _ _ => rfl)) pe_str (nomark _))
            (pe_callTy call_list_of (by rfl) M.list_ (by decide +kernel) (pa_cons (pe_ix ix_tup (pv 7) pe_int (fun _ _ => rfl)) pa_nil)) (pe_lst pa_nil))))))
        (pss_one (ps_if (pt_cmpR (op_inD (units65 hr)) (pv 3) (pv 1) (by rfl))
          (pss_one (ps_set (i := 2) scLLines.nd rfl (.inl rfl) (pe_op op_cat (pv 2) (pe_lc (own := [("_law_k", 8), ("_law_text", 9)]) (g := gTup K 2 (gCons (gName 8) (gCons (gName 9) gNil))) (tt := tYes) rfl scLLines.nd (pi_enum (by rfl) M.enum_ (pa_cons (pv 6) pa_nil))
            (blkOk_by (N := ["_law_history_here", "_law_names", "_law_found", "_law_name", "_law_knows", "_law_deeds", "_law_texts", "_law_deed_here", "_law_k", "_law_text"]) (sc := defScope sLLines) (by decide +kernel))
            (fun _ _ _ _ _ => pg_tup rfl (pgs_cons (pg_name (i := 8) scLLines.nd rfl (Or.inl rfl)) (pgs_cons (pg_name (i := 9) scLLines.nd rfl (Or.inl rfl)) pgs_nil)))
            (fun _ _ _ _ _ => pts_nil) (fun _ _ _ _ _ => pe_tup (pa_cons (pe_op (show OpR _ _ (rCatA K) from op_catA) (pv 3) (pe_tup (pa_cons (pe_op op_add (pv 8) pe_int) pa_nil))) (pa_cons (pv 9) pa_nil))))))) pss_nil)))))
      (pss_one (ps_ret (pv 2)))), ?_⟩
    obtain ⟨a, xs, rfl, hS, hD⟩ := hh
    have hlen : xs.length = hist.length := by rw [DpAll.len hD, List.length_map]
    refine ⟨Nat.zero_le _, fun p0 hp0 => ?_⟩
    have g0 : Go T D0 H (upd H p0 (.lst [])) := (Go.rfl' tg).new hp0
    have e0 : (upd H p0 (.lst [])) p0 = some (.lst []) := upd_same
    generalize upd H p0 (.lst []) = H0 at g0 e0 ⊢
    have subC : ∀ {H'}, Go T D0 H H' → Sub (cut C H) (cut C H') := fun g => (sub_go g tg).cuts
    -- the history's turns
    refine ⟨.ref a, rfl, a, rfl, ⟨xs, g0.seqL tg (fun _ _ z => z) hS⟩, ?_⟩
    refine for_list (K := K) (a := a) (xs := xs) (fun i σ H1 => ∃ (p : Addr) (fs : List V) (y3 y4 y5 y6 y7 : Option V), σ = [some (.ref a), some nv, some (.ref p), y3, y4, y5, y6, y7, none, none] ∧ Go T D0 H H1 ∧ H p = none ∧ H1 p = some (.lst fs) ∧
      DpAll K (cut C H1) fs ((linesIn (hist.take i) names).map eLT)) ?_ ?_ ?_ ?_
    · exact ⟨p0, [], _, _, _, _, _, rfl, g0, hp0, e0, .nil⟩
    · rintro i σ H1 hi ⟨_, _, _, _, _, _, _, rfl, g, _⟩
      exact g.seqL tg (fun _ _ z => z) hS
    · rintro i v σ H1 hv ⟨p, fs, y3, y4, y5, y6, y7, rfl, g, hp, ep, hf⟩
      obtain ⟨d, hd, hv'⟩ := DpAll.at' hD hv
      obtain ⟨pat, hpat, rfl⟩ := at_map hd
      have pm := List.mem_of_getElem? hpat
      obtain ⟨pok, psm⟩ := hok.each pat pm
      obtain ⟨av, _, rfl, sv, dv⟩ := Dp.tupI hv'
      obtain ⟨vn, vk, vd, rfl, dn, dk, dd⟩ := DpAll.i3 dv
      obtain ⟨an, _, rfl, sn, dn2⟩ := Dp.tupI dn
      obtain ⟨u1, u2, rfl, du1, du2⟩ := DpAll.i2 dn2
      cases Dp.strI du1
      cases Dp.intI du2
      obtain ⟨ad, dsv, rfl, sd, dds⟩ := Dp.lstI dd
      have dlen : dsv.length = pat.deeds.length := by rw [DpAll.len dds, List.length_map]
      have toH : ∀ {H'}, Go T D0 H H' → Sub (cut C H) H' := fun g => (subC g).trans Sub.cut
      refine ⟨av, _, rfl, (toH g).seqT sv, rfl, _, _, rfl, vk, _, rfl, _, _, rfl, rfl, ?_⟩
      refine ⟨Nat.zero_le _, fun t0 ht0 => ?_⟩
      have g1 : Go T D0 H1 (upd H1 t0 (.lst [])) := (Go.rfl' g.1).new ht0
      have e1 : (upd H1 t0 (.lst [])) t0 = some (.lst []) := upd_same
      generalize upd H1 t0 (.lst []) = H2 at g1 e1 ⊢
      refine ⟨.ref ad, rfl, ad, rfl, ⟨dsv, (toH (g.trans g1)).seqL sd⟩, ?_⟩
      have tlen : (textsOf pat).length ≤ 9 := textsOf_len psm
      refine for_list (K := K) (a := ad) (xs := dsv) (fun j σ H3 => ∃ (t : Addr) (y7 : Option V), σ = [some (.ref a), some nv, some (.ref p), some (.ref an), some vk, some (.ref ad), some (.ref t), y7, none, none] ∧ Go T D0 H1 H3 ∧
        H3 t = some (.lst (((pat.deeds.take j).flatMap Deed.texts).map V.str))) ?_ ?_ ?_ ?_
      · exact ⟨t0, _, rfl, g1, e1⟩
      · rintro j σ H3 hj ⟨_, _, rfl, g3, _⟩
        exact (toH (g.trans g3)).seqL sd
      · rintro j x σ H3 hx ⟨t, y7, rfl, g3, et⟩
        obtain ⟨dd', hdd, hx'⟩ := DpAll.at' dds hx
        obtain ⟨deed, hdeed, rfl⟩ := at_map hdd
        obtain ⟨a', k', r, rfl, s', hcase⟩ := txt_of hx'
        have S' : SqT K H3 a' (.str k' :: r) := (toH (g.trans g3)).seqT s'
        have tle := flat_take (f := Deed.texts) pat.deeds j
        have dle := psm.texts deed (List.mem_of_getElem? hdeed)
        have tl9 : (pat.deeds.flatMap Deed.texts).length ≤ 9 := tlen
        have fin : ∀ (H4 : Hp) (l : Addr), Go T D0 H1 H4 → H4 t = some (.lst (((pat.deeds.take j).flatMap Deed.texts).map V.str)) → H4 l = some (.lst (deed.texts.map V.str)) →
            rCat (.ref t) (.ref l) H4 (fun z H5 => ∃ (t : Addr) (y7 : Option V), [some (.ref a), some nv, some (.ref p), some (.ref an), some vk, some (.ref ad), some z, some (.ref a'), none, none] = [some (.ref a), some nv, some (.ref p), some (.ref an), some vk, some (.ref ad), some (V.ref t), y7, none, none] ∧ Go T D0 H1 H5 ∧
              H5 t = some (.lst (((pat.deeds.take (j + 1)).flatMap Deed.texts).map V.str))) := by
          intro H4 l g4 et4 el4
          refine ⟨t, l, _, _, rfl, rfl, et4, el4, small_le (by rw [List.length_map, List.length_map]; omega), fun q hq => ⟨q, _, rfl, g4.new hq, ?_⟩⟩
          rw [upd_same, flat_succ hdeed, List.map_append]
        refine ⟨.ref t, rfl, .ref a', rfl, a', _, 0, .str k', rfl, rfl, S', atI_nat (j := 0) rfl, rfl, _, rfl, ite2 (fun e => ?_) (fun e => ?_)⟩
        · have ek : k' = "put" := V.str.inj (of_decide_eq_true e)
          rcases hcase with ⟨_, x1, x2, tt, us, rfl, s2, hus⟩ | ⟨z, _⟩
          · refine ⟨.ref a', rfl, a', _, 3, .ref tt, rfl, rfl, S', atI_nat (j := 3) rfl, tt, _, rfl, .inr ((toH (g.trans g3)).seqT s2), fun l hl => ?_⟩
            exact fin _ l (g3.new hl) (by rw [upd_ne (ne_of_none et hl)]; exact et) (by rw [upd_same, hus])
          · exact absurd ek z
        · have ek : ¬ k' = "put" := fun z => e (decide_eq_true (by rw [z]))
          rcases hcase with ⟨z, _⟩ | ⟨_, hus⟩
          · exact absurd z ek
          · refine ⟨Nat.zero_le _, fun l hl => ?_⟩
            exact fin _ l (g3.new hl) (by rw [upd_ne (ne_of_none et hl)]; exact et) (by rw [upd_same, hus]; rfl)
      · rintro σ H3 ⟨t, y7, rfl, g3, et⟩
        rw [dlen, List.take_length] at et
        have g03 := g.trans g3
        have ep3 := g3.at g.1 (fun z => z) ep
        have hf3 : DpAll K (cut C H3) fs ((linesIn (hist.take i) names).map eLT) := Dp.subs (sub_go g3 g.1).cuts _ _ hf
        have step : linesIn (hist.take (i + 1)) names = linesIn (hist.take i) names ++ (if pat.name ∈ names then linesOf pat else []) := flat_succ hpat
        refine ⟨.ref an, rfl, nv, rfl, eN pat.name, names.map eN, Dp.sub (toH g03) _ _ dn, Dp.sub (sub_go g03 tg) _ _ hn, pok.name.sh, nms_sh nok, _, rfl, ite2 (fun e => ?_) (fun e => ?_)⟩
        · rw [eN_any] at e
          rw [if_pos (of_decide_eq_true e)] at step
          have tl9 : (pat.deeds.flatMap Deed.texts).length ≤ 9 := tlen
          have St : SqL K H3 t (((pat.deeds.flatMap Deed.texts)).map V.str) := .inl (.inl et)
          refine ⟨.ref p, rfl, .ref t, rfl, t, _, rfl, St, fun D hD => ?_⟩
          have nDp : p ≠ D := ne_of_none ep3 hD
          have CD : C D = false := held.no (g03.free tg (fun z => z) hD)
          refine lc_it (walk_enum (K := K) (a := t) (xs := (textsOf pat).map V.str)) (fun n H4 => Go T D0 H3 H4 ∧ ∃ acc, H4 D = some (.lst acc) ∧ acc.length = n ∧ DpAll K (cut (plus C D) H4) acc (((List.range n).map fun k => (lnAt pat.name k, (textsOf pat).getD k "")).map eLT)) ?_ ?_ ?_ ?_
          · exact ⟨(Go.rfl' g03.1).new hD, [], upd_same, rfl, .nil⟩
          · rintro n H4 hn ⟨g4, _⟩
            exact g4.seqL g03.1 (fun _ _ z => z) St
          · rintro n x H4 H4' hn ⟨g4, acc, eD, hacc, hda⟩ ⟨T', x', y', rfl, hT, rfl, hx', hy'⟩
            cases hx'
            have hy' : ((textsOf pat).map V.str)[n]? = some y' := hy'
            have hn' : n < (textsOf pat).length := by rw [List.length_map] at hn; exact hn
            have ey : y' = .str ((textsOf pat).getD n "") := by
              rw [List.getElem?_map, List.getElem?_eq_getElem hn'] at hy'
              rw [List.getD_eq_getElem?_getD, List.getElem?_eq_getElem hn']
              exact (Option.some.inj hy').symm
            subst ey
            have nDT : D ≠ T' := ne_of_none eD hT
            have g5 := g4.new (o := .tup [V.int (n : Nat), .str ((textsOf pat).getD n "")]) hT
            have eD5 := (upd_ne (o := .tup [V.int (n : Nat), .str ((textsOf pat).getD n "")]) nDT).trans eD
            have hda5 : DpAll K (cut (plus C D) (upd H4 T' (.tup [V.int (n : Nat), .str ((textsOf pat).getD n "")]))) acc _ := Dp.subs (Sub.new hT).cuts _ _ hda
            refine ⟨T', _, rfl, .inl (.inl upd_same), rfl, _, _, rfl, _, _, rfl, rfl, rfl, ?_⟩
            generalize upd H4 T' (.tup [V.int (n : Nat), .str ((textsOf pat).getD n "")]) = H5 at g5 eD5 hda5 ⊢
            refine ⟨.ref an, rfl, .int (n : Nat), rfl, (n : Nat), 1, rfl, rfl, small_le (by show 1 ≤ 10000; decide), fun t1 ht1 => ?_⟩
            have g6 := g5.new (o := .tup [V.int ((n : Nat) + 1 : Int)]) ht1
            have eD6 := (upd_ne (o := .tup [V.int ((n : Nat) + 1 : Int)]) (ne_of_none eD5 ht1)).trans eD5
            have hda6 : DpAll K (cut (plus C D) (upd H5 t1 (.tup [V.int ((n : Nat) + 1 : Int)]))) acc _ := Dp.subs (Sub.new ht1).cuts _ _ hda5
            have sn6 : SqT K (upd H5 t1 (.tup [V.int ((n : Nat) + 1 : Int)])) an [.str pat.name.1, .int pat.name.2] := (toH (g03.trans g6)).seqT sn
            have e16 : (upd H5 t1 (.tup [V.int ((n : Nat) + 1 : Int)])) t1 = some (.tup [V.int ((n : Nat) + 1 : Int)]) := upd_same
            generalize upd H5 t1 (.tup [V.int ((n : Nat) + 1 : Int)]) = H6 at g6 eD6 hda6 sn6 e16 ⊢
            refine ⟨an, t1, _, _, rfl, rfl, sn6, .inl (.inl e16), small_le (by show 3 ≤ 10000; decide), (fun z => by cases z), (fun _ z => by cases z), fun _ _ t2 ht2 => ?_⟩
            have g7 := g6.new (o := .tup ([V.str pat.name.1, .int pat.name.2] ++ [V.int ((n : Nat) + 1 : Int)])) ht2
            have eD7 := (upd_ne (o := .tup ([V.str pat.name.1, .int pat.name.2] ++ [V.int ((n : Nat) + 1 : Int)])) (ne_of_none eD6 ht2)).trans eD6
            have hda7 : DpAll K (cut (plus C D) (upd H6 t2 (.tup ([V.str pat.name.1, .int pat.name.2] ++ [V.int ((n : Nat) + 1 : Int)])))) acc _ := Dp.subs (Sub.new ht2).cuts _ _ hda6
            have e27 : (upd H6 t2 (.tup ([V.str pat.name.1, .int pat.name.2] ++ [V.int ((n : Nat) + 1 : Int)]))) t2 = some (.tup [V.str pat.name.1, .int pat.name.2, V.int ((n : Nat) + 1 : Int)]) := upd_same
            have nD2 : t2 ≠ D := fun z => ne_of_none eD6 ht2 z.symm
            have C2 : C t2 = false := held.no ((g03.trans g6).free tg (fun z => z) ht2)
            generalize upd H6 t2 (.tup ([V.str pat.name.1, .int pat.name.2] ++ [V.int ((n : Nat) + 1 : Int)])) = H7 at g7 eD7 hda7 e27 ⊢
            refine ⟨.str ((textsOf pat).getD n ""), rfl, small_le (by show 2 ≤ 10000; decide), fun t3 ht3 => ?_⟩
            have nD3 : t3 ≠ D := fun z => ne_of_none eD7 ht3 z.symm
            have C3 : C t3 = false := held.no ((g03.trans g7).free tg (fun z => z) ht3)
            have n23 : t2 ≠ t3 := ne_of_none e27 ht3
            refine ⟨acc, (upd_ne nD3.symm).trans eD7, small_line (by omega), (g7.new ht3).put hD ((upd_ne nD3.symm).trans eD7), acc ++ [.ref t3], upd_same, by rw [List.length_append, hacc]; rfl, ?_⟩
            rw [cut_out plus_D, List.range_succ, List.map_append, List.map_append]
            refine DpAll.app (Dp.subs (Sub.new ht3).cuts _ _ hda7) (.one ?_)
            show Dp K (cut (plus C D) (upd H7 t3 (.tup [V.ref t2, .str ((textsOf pat).getD n "")]))) (.ref t3) (.tuple [eL (lnAt pat.name n), .str ((textsOf pat).getD n "")])
            refine .tup (.inl (.inl ((cut_at (plus_no C3 nD3)).trans upd_same))) (.cons (.tup (.inl (.inl ((cut_at (plus_no C2 nD2)).trans ((upd_ne n23).trans e27)))) (.cons (.str _) (.cons (.int _) (.cons (.int _) .nil)))) (.cons (.str _) .nil))
          · rintro H4 ⟨g4, acc, eD, hacc, hda⟩
            rw [List.length_map] at hacc hda
            have ep4 := g4.at g03.1 (fun z => z) ep3
            have l1 := linesIn_len (names := names) (hist := hist.take i) fun p m => (hok.each p (List.mem_of_mem_take m)).2
            have l2 : (hist.take i).length ≤ 100 := by rw [List.length_take]; have := hok.len; omega
            have l3 : fs.length ≤ 900 := by rw [DpAll.len hf3, List.length_map]; omega
            refine ⟨p, D, fs, acc, rfl, rfl, ep4, eD, small_le (by omega), fun q hq => ?_⟩
            refine ⟨q, fs ++ acc, _, _, _, _, _, rfl, (g03.trans g4).new hq, (g03.trans g4).free tg (fun z => z) hq, upd_same, ?_⟩
            rw [step, List.map_append]
            refine DpAll.app (Dp.subs ((Sub.trans (sub_go g4 g03.1) (Sub.new hq)).cuts) _ _ hf3) (Dp.subs (Sub.trans (Sub.less (H := H4) (plus_le (C := C) (D := D))) (Sub.new hq).cuts) _ _ hda)
        · rw [eN_any] at e
          rw [if_neg (fun z => e (decide_eq_true z)), List.append_nil] at step
          rw [← step] at hf3
          exact ⟨p, fs, _, _, _, _, _, rfl, g03, hp, ep3, hf3⟩
    · rintro σ H1 ⟨p, fs, y3, y4, y5, y6, y7, rfl, g, hp, ep, hf⟩
      rw [hlen, List.take_length] at hf
      exact ⟨.ref p, rfl, q H1 p fs g hp ep hf⟩
end
end K1
set_option Elab.async false
set_option linter.all false
set_option maxRecDepth 100000
set_option maxHeartbeats 4000000
/-! The law's defs: what is known. -/
namespace K1
open PySem PySem.Spec PyProof.Rows L2

theorem knownStep_ok {found : List Nm} {p : Pat} (h : ∀ n ∈ found, NmOk n) (hp : p.ok) : ∀ n ∈ knownStep found p, NmOk n := by
  unfold knownStep
  split
  · intro n hn
    rcases List.mem_append.mp hn with hn | hn
    · exact h n hn
    · exact hp.knows n (List.mem_filter.mp hn).1
  · exact h
theorem knownStep_len {found : List Nm} {p : Pat} (hp : p.small) : (knownStep found p).length ≤ found.length + 4 := by
  unfold knownStep
  split
  · rw [List.length_append]
    have := List.length_filter_le (fun n => decide (n ∉ found)) p.knows
    have := hp.knows
    omega
  · omega
theorem fold_succ {α β : Type} {f : β → α → β} {b : β} {l : List α} {j : Nat} {x : α} (h : l[j]? = some x) : (l.take (j + 1)).foldl f b = f ((l.take j).foldl f b) x := by
  rw [List.take_add_one, h, List.foldl_append]
  rfl
theorem knownIn_ok {hist : List Pat} {knows : List Nm} (hk : ∀ n ∈ knows, NmOk n) : ∀ {l : List Pat}, (∀ p ∈ l, p.ok) → ∀ {found : List Nm}, (∀ n ∈ found, NmOk n) → ∀ n ∈ l.foldl knownStep found, NmOk n
  | [], _, _, h => h
  | p :: r, hl, _, h => knownIn_ok (hist := hist) hk (l := r) (fun q m => hl q (List.mem_cons_of_mem _ m)) (knownStep_ok h (hl p (List.mem_cons_self ..)))
theorem knownIn_len : ∀ {l : List Pat}, (∀ p ∈ l, p.small) → ∀ {found : List Nm}, (l.foldl knownStep found).length ≤ found.length + 4 * l.length
  | [], _, _ => Nat.le_refl _
  | p :: r, hl, found => by
    have h1 := knownIn_len (l := r) (fun q m => hl q (List.mem_cons_of_mem _ m)) (found := knownStep found p)
    have h2 := knownStep_len (found := found) (hl p (List.mem_cons_self ..))
    rw [List.foldl_cons, List.length_cons]
    omega

section
variable {P : Program} {w : World} {K : PySem.W.Frag} {mg : Str → Option Value} {base : Heap} {T : Tp}

/-! ### _law_known -/
def spKnown (K : PySem.W.Frag) (T : Tp) : Sp := fun vs H Q _ => ∃ (h : V) (b : Addr) (ks : List V) (hist : List Pat) (knows : List Nm) (C : Addr → Bool), vs = [h, .ref b] ∧ HistAt K C H h hist ∧ HistOk hist ∧ SqL K H b ks ∧ DpAll K (cut C H) ks (knows.map eN) ∧ (∀ n ∈ knows, NmOk n) ∧ knows.length ≤ 100 ∧ Held C H ∧ TG T H ∧
  ∀ H' p xs, Go T D0 H H' → H p = none → H' p = some (.lst xs) → DpAll K (cut C H') xs ((knownIn hist knows).map eN) → Q (.ref p) H'
theorem ok_lknown {f : Addr} {fd : FuncData} {k : Nat} (F : Fun K "_law_known" "_law_known" sLKnown f fd) (M : Mg K mg) : FnOk P w K mg base CX0 (k + 1) f fd ["_law_history_here", "_law_knows"] (spKnown K T) := by
  refine F.ok scLKnown (fun vs H Q E h => ?_) (fun cdv A outer s H vs Q E hr h => ?_)
  · obtain ⟨h, b, ks, hist, knows, C, rfl, _⟩ := h
    rfl
  · obtain ⟨hv, b, ks, hist, knows, C, rfl, hh, hok, hb, hks, nok, klen, held, tg, q⟩ := h
    refine ⟨_, pss_cons (ps_set (i := 2) scLKnown.nd rfl (.inr rfl) (pe_callTy call_list_of (by rfl) M.list_ (by decide +kernel) (pa_cons (pv 1) pa_nil)))
      (pss_cons (ps_for PassesOwn.never rfl (pi_list (pe_revL (pv 0))) (pg_tup rfl (pgs_cons (pg_name (i := 3) scLKnown.nd rfl (.inl rfl)) (pgs_cons (pg_name (i := 4) scLKnown.nd rfl (.inl rfl)) (pgs_cons (pg_name (i := 5) scLKnown.nd rfl (.inl rfl)) pgs_nil))))
        (pss_one (ps_if (pt_cmpR (op_inD (units65 hr)) (pv 3) (pv 2) (by rfl))
          (pss_one (ps_set (i := 2) scLKnown.nd rfl (.inr rfl) (pe_op op_cat (pv 2) (pe_lc (own := [("_law_one", 6)]) (g := gName 6) rfl scLKnown.nd (pi_list (pv 4))
            (blkOk_by (N := ["_law_history_here", "_law_knows", "_law_found", "_law_name", "_law_own", "_law_deeds", "_law_one"]) (sc := defScope sLKnown) (by decide +kernel))
            (fun _ _ _ _ _ => pg_name (i := 6) scLKnown.nd rfl (Or.inl rfl))
            (fun _ _ _ _ _ => pts_one (pt_cmpR (show OpR _ _ (rNotInD K) from op_notInD (units65 hr)) (pv 6) (pv 2) (by rfl))) (fun _ _ _ _ _ => pv 6))))) pss_nil)))
      (pss_one (ps_ret (pv 2)))), ?_⟩
    obtain ⟨a, xs, rfl, hS, hD⟩ := hh
    have hlen : xs.reverse.length = hist.reverse.length := by rw [List.length_reverse, List.length_reverse, DpAll.len hD, List.length_map]
    refine ⟨.ref b, rfl, b, ks, rfl, .inl hb, fun p0 hp0 => ?_⟩
    have g0 : Go T D0 H (upd H p0 (.lst ks)) := (Go.rfl' tg).new hp0
    have e0 : (upd H p0 (.lst ks)) p0 = some (.lst ks) := upd_same
    generalize upd H p0 (.lst ks) = H0 at g0 e0 ⊢
    have subC : ∀ {H'}, Go T D0 H H' → Sub (cut C H) (cut C H') := fun g => (sub_go g tg).cuts
    have toH : ∀ {H'}, Go T D0 H H' → Sub (cut C H) H' := fun g => (subC g).trans Sub.cut
    refine ⟨.ref a, rfl, a, xs, rfl, g0.seqL tg (fun _ _ z => z) hS, fun r hr' => ?_⟩
    have g1 := g0.new (o := .lst xs.reverse) hr'
    have e1 := (upd_ne (o := .lst xs.reverse) (ne_of_none e0 hr')).trans e0
    have er : (upd H0 r (.lst xs.reverse)) r = some (.lst xs.reverse) := upd_same
    have fr : H r = none := g0.free tg (fun z => z) hr'
    generalize upd H0 r (.lst xs.reverse) = H1 at g1 e1 er ⊢
    refine ⟨r, rfl, ⟨_, .inl (.inl er)⟩, ?_⟩
    have hDr : DpAll K (cut C H) xs.reverse (hist.reverse.map eP) := by
      rw [List.map_reverse]
      exact hD.rev
    refine for_list (K := K) (a := r) (xs := xs.reverse) (fun i σ H2 => ∃ (p : Addr) (fs : List V) (y3 y4 y5 : Option V), σ = [some (.ref a), some (.ref b), some (.ref p), y3, y4, y5, none] ∧ Go T D0 H H2 ∧ H2 r = some (.lst xs.reverse) ∧ H p = none ∧ H2 p = some (.lst fs) ∧
      DpAll K (cut C H2) fs (((hist.reverse.take i).foldl knownStep knows).map eN)) ?_ ?_ ?_ ?_
    · exact ⟨p0, ks, _, _, _, rfl, g1, er, hp0, e1, Dp.subs (subC g1) _ _ hks⟩
    · rintro i σ H2 hi ⟨_, _, _, _, _, rfl, g, er2, _⟩
      exact .inl (.inl er2)
    · rintro i v σ H2 hv ⟨p, fs, y3, y4, y5, rfl, g, er2, hp, ep, hf⟩
      obtain ⟨d, hd, hv'⟩ := DpAll.at' hDr hv
      obtain ⟨pat, hpat, rfl⟩ := at_map hd
      have pm : pat ∈ hist := List.mem_reverse.mp (List.mem_of_getElem? hpat)
      obtain ⟨pok, psm⟩ := hok.each pat pm
      obtain ⟨av, _, rfl, sv, dv⟩ := Dp.tupI hv'
      obtain ⟨vn, vk, vd, rfl, dn, dk, dd⟩ := DpAll.i3 dv
      obtain ⟨ak, kv, rfl, sk, dks⟩ := Dp.lstI dk
      have klen' : kv.length = pat.knows.length := by rw [DpAll.len dks, List.length_map]
      have small' : ∀ p ∈ hist.reverse.take i, p.small := fun p m => (hok.each p (List.mem_reverse.mp (List.mem_of_mem_take m))).2
      have ok' : ∀ p ∈ hist.reverse.take i, p.ok := fun p m => (hok.each p (List.mem_reverse.mp (List.mem_of_mem_take m))).1
      have fok := knownIn_ok (hist := hist) nok (l := hist.reverse.take i) ok' (found := knows) nok
      have flen := knownIn_len (l := hist.reverse.take i) small' (found := knows)
      have l2 : (hist.reverse.take i).length ≤ 100 := by rw [List.length_take, List.length_reverse]; have := hok.len; omega
      have step : (hist.reverse.take (i + 1)).foldl knownStep knows = knownStep ((hist.reverse.take i).foldl knownStep knows) pat := fold_succ hpat
      generalize (hist.reverse.take i).foldl knownStep knows = found at hf fok flen step ⊢
      have l3 : fs.length = found.length := by rw [DpAll.len hf, List.length_map]
      have Lp : Dp K H2 (.ref p) (.list (found.map eN)) := .lst (.inl (.inl ep)) (Dp.subs Sub.cut _ _ hf)
      refine ⟨av, _, rfl, (toH g).seqT sv, rfl, _, _, rfl, _, _, rfl, _, _, rfl, rfl, ?_⟩
      refine ⟨vn, rfl, .ref p, rfl, eN pat.name, found.map eN, Dp.sub (toH g) _ _ dn, Lp, pok.name.sh, nms_sh fok, _, rfl, ite2 (fun e => ?_) (fun e => ?_)⟩
      · rw [eN_any] at e
        rw [show knownStep found pat = found ++ pat.knows.filter (fun n => decide (n ∉ found)) from if_pos (of_decide_eq_true e)] at step
        refine ⟨.ref p, rfl, .ref ak, rfl, ak, rfl, ⟨_, (toH g).seqL sk⟩, fun D hD' => ?_⟩
        have nDp : p ≠ D := ne_of_none ep hD'
        refine lc_list (K := K) (a := ak) (xs := kv) (fun n H3 => Go T D0 H2 H3 ∧ ∃ acc, H3 D = some (.lst acc) ∧ acc.length ≤ n ∧ DpAll K (cut C H2) acc (((pat.knows.take n).filter fun m => decide (m ∉ found)).map eN)) ?_ ?_ ?_ ?_
        · exact ⟨(Go.rfl' g.1).new hD', [], upd_same, Nat.le_refl _, .nil⟩
        · rintro n H3 hn ⟨g3, _⟩
          exact (toH (g.trans g3)).seqL sk
        · rintro n x H3 hx ⟨g3, acc, eD, hacc, hda⟩
          obtain ⟨d', hd', hx'⟩ := DpAll.at' dks hx
          obtain ⟨m, hm, rfl⟩ := at_map hd'
          have mok := pok.knows m (List.mem_of_getElem? hm)
          have Lp3 : Dp K H3 (.ref p) (.list (found.map eN)) := Dp.sub (sub_go g3 g.1) _ _ Lp
          have tk : (pat.knows.take (n + 1)).filter (fun m => decide (m ∉ found)) = (pat.knows.take n).filter (fun m => decide (m ∉ found)) ++ [m].filter (fun m => decide (m ∉ found)) := by
            rw [List.take_add_one, hm, List.filter_append]
            rfl
          have hn : n < kv.length := (List.getElem?_eq_some_iff.mp hx).1
          refine ⟨rfl, x, rfl, .ref p, rfl, eN m, found.map eN, Dp.sub (toH (g.trans g3)) _ _ hx', Lp3, mok.sh, nms_sh fok, _, rfl, ite2 (fun e3 => ?_) (fun e3 => ?_)⟩
          · have n3 : m ∉ found := by
              rw [eN_any] at e3
              intro z
              rw [decide_eq_true z] at e3
              cases e3
            refine ⟨x, rfl, acc, eD, small_line (by have := psm.knows; omega), g3.put hD' eD, acc ++ [x], upd_same, by rw [List.length_append]; show acc.length + 1 ≤ n + 1; omega, ?_⟩
            rw [tk, List.filter_cons_of_pos (by simpa using n3), List.filter_nil, List.map_append]
            exact hda.app (.one (Dp.sub (subC g) _ _ hx'))
          · have n3 : m ∈ found := by
              rw [eN_any] at e3
              have : ¬ (!decide (m ∈ found)) = true := e3
              simpa using this
            refine ⟨g3, acc, eD, by omega, ?_⟩
            rw [tk, List.filter_cons_of_neg (by simpa using n3), List.filter_nil, List.append_nil]
            exact hda
        · rintro H3 ⟨g3, acc, eD, hacc, hda⟩
          rw [klen', List.take_length] at hda
          have ep3 := g3.at g.1 (fun z => z) ep
          refine ⟨p, D, fs, acc, rfl, rfl, ep3, eD, small_le (by have := psm.knows; omega), fun q' hq => ?_⟩
          have g4 := (g.trans g3).new (o := .lst (fs ++ acc)) hq
          refine ⟨q', fs ++ acc, _, _, _, rfl, g4, ?_, (g.trans g3).free tg (fun z => z) hq, upd_same, ?_⟩
          · have er3 := g3.at g.1 (fun z => z) er2
            exact (upd_ne (ne_of_none er3 hq)).trans er3
          · rw [step, List.map_append]
            have s4 : Sub (cut C H2) (cut C (upd H3 q' (.lst (fs ++ acc)))) := ((sub_go g3 g.1).trans (Sub.new hq)).cuts
            exact DpAll.app (Dp.subs s4 _ _ hf) (Dp.subs s4 _ _ hda)
      · rw [eN_any] at e
        rw [show knownStep found pat = found from if_neg (fun z => e (decide_eq_true z))] at step
        refine ⟨p, fs, _, _, _, rfl, g, er2, hp, ep, ?_⟩
        rw [step]
        exact hf
    · rintro σ H2 ⟨p, fs, y3, y4, y5, rfl, g, er2, hp, ep, hf⟩
      rw [hlen, List.take_length] at hf
      exact ⟨.ref p, rfl, q H2 p fs g hp ep hf⟩
end
end K1
set_option Elab.async false
set_option linter.all false
set_option maxRecDepth 100000
set_option maxHeartbeats 4000000
/-! The law's defs: a drawn deed. -/
namespace K1
open PySem PySem.Spec PyProof.Rows L2

theorem Go.dig {T : Tp} {D : Addr → Prop} {H H' : Hp} {d : Addr} {kvs : List (Key × V)} (t : TG T H) (hd : H d = some (.dK kvs)) (sm : ∀ x o, x ≠ d → H x = some o → H' x = some o) (dd : D d) : Go T D H H' := by
  have ne := t.neW hd (by intro ps z; cases z)
  refine ⟨fun P hP => ?_, fun b o _ h3 e => sm b o (fun z => h3 (by rw [z]; exact dd)) e⟩
  obtain ⟨ps, e, r⟩ := t P hP
  exact ⟨ps, sm _ _ (fun z => ne (z ▸ hP)) e, r⟩
theorem Go.drop {T : Tp} {H H' : Hp} {d : Addr} (g : Go T (· = d) H H') (h : H d = none) : Go T D0 H H' :=
  ⟨g.1, fun b o h1 _ e => g.2 b o h1 (ne_of_none e h) e⟩
theorem sub_god {T : Tp} {H H' : Hp} {d : Addr} {kvs : List (Key × V)} (g : Go T (· = d) H H') (t : TG T H) (h : H d = some (.dK kvs)) : Sub H H' := Sub.go g t fun a z xs => by
  subst z
  rw [h]
  refine ⟨fun z => ?_, fun z => ?_, fun u => ⟨fun z => ?_, fun z => ?_⟩⟩ <;> cases z
/-- the drawing state -/
def St (H : Hp) (d : Addr) : Prop := ∃ a b : Int, 0 ≤ a ∧ 0 ≤ b ∧ H d = some (.dK (stD a b))
theorem St.new {H : Hp} {d p : Addr} {o : HO} (s : St H d) (h : H p = none) : St (upd H p o) d := by
  obtain ⟨a, b, h1, h2, e⟩ := s
  exact ⟨a, b, h1, h2, (upd_ne (ne_of_none e h)).trans e⟩
theorem St.put {H : Hp} {d p : Addr} {o u : HO} (s : St H d) (h : H p = some u) (hu : ∀ k, u ≠ .dK k := by intro k z; cases z) : St (upd H p o) d := by
  obtain ⟨a, b, h1, h2, e⟩ := s
  refine ⟨a, b, h1, h2, (upd_ne ?_).trans e⟩
  rintro rfl
  rw [e] at h
  exact hu _ (Option.some.inj h).symm
theorem St.go {T : Tp} {H H' : Hp} {d : Addr} (s : St H d) (g : Go T D0 H H') (t : TG T H) : St H' d := by
  obtain ⟨a, b, h1, h2, e⟩ := s
  exact ⟨a, b, h1, h2, g.at t (fun z => z) e⟩
theorem St.sub {T : Tp} {H H' : Hp} {d : Addr} (s : St H d) (g : Go T (· = d) H H') (t : TG T H) : Sub H H' := by
  obtain ⟨a, b, h1, h2, e⟩ := s
  exact sub_god g t e
theorem St.ne {H : Hp} {d p : Addr} {u : HO} (s : St H d) (h : H p = some u) (hu : ∀ k, u ≠ .dK k := by intro k z; cases z) : ¬ p = d := by
  obtain ⟨a, b, h1, h2, e⟩ := s
  rintro rfl
  rw [e] at h
  exact hu _ (Option.some.inj h).symm
theorem freeD {T : Tp} {H H' : Hp} {d p : Addr} (g : Go T (· = d) H H') (t : TG T H) (s : St H' d) (h : H' p = none) : H p = none := g.free t (by
  rintro rfl
  obtain ⟨a, b, _, _, e⟩ := s
  rw [h] at e
  cases e) h
theorem headL_ne_foot : headL ≠ footL := by
  intro z
  have : (0 : Int) = 1 := congrArg (fun l : Ln => l.2.2) z
  cases this
theorem LnOk.ne_foot {l : Ln} (h : LnOk l) : l ≠ footL := by
  rintro rfl
  have := h.1.1
  revert this
  decide +kernel
/-- a digit drawn: what the def's promise gives, in one word -/
theorem dg {T : Tp} {H : Hp} {d : Addr} {m : Int} {kvs : List (Key × V)} {R : Int → Hp → Prop} (t : TG T H) (e : H d = some (.dK kvs)) (q : ∀ r H', 0 ≤ r → r < m → Go T (· = d) H H' → St H' d → R r H') :
    ∀ r a' b' H', 0 ≤ r → r < m → 0 ≤ a' → 0 ≤ b' → H' d = some (.dK (stD a' b')) → (∀ x o, x ≠ d → H x = some o → H' x = some o) → R r H' :=
  fun r a' b' H' r0 r1 ha hb hd sm => q r H' r0 r1 (Go.dig t e sm rfl) ⟨a', b', ha, hb, hd⟩
/-- the rest of two branches, told once -/
theorem twice {A G : Hp → Prop} {P : Prop} (h : ∀ H2, A H2 → G H2) (use : (∀ H2, A H2 → G H2) → P) : P := use h
theorem atI_int {α : Type} {xs : List α} {j : Int} (h0 : 0 ≤ j) (h1 : j < xs.length) : ∃ x, xs[j.toNat]? = some x ∧ atI xs j = some x := by
  have hj : j.toNat < xs.length := by omega
  refine ⟨xs[j.toNat], List.getElem?_eq_getElem hj, ?_⟩
  have := atI_nat (xs := xs) (j := j.toNat) (List.getElem?_eq_getElem hj)
  rwa [show ((j.toNat : Nat) : Int) = j by omega] at this

def menuT : List Str := ["a", "b", "", "c c"]
/-- a deed drawn out of good lines -/
inductive DeedFrom (goods : List Ln) : Deed → Prop
  | put (a b : Ln) (ts : List Str) (ha : a = headL ∨ a ∈ goods) (hb : b = footL ∨ b ∈ goods) (ne : a ≠ b) (h0 : 1 ≤ ts.length) (h1 : ts.length ≤ 3) (ht : ∀ t ∈ ts, t ∈ menuT) : DeedFrom goods (.put a b ts)
  | order (a b : Ln) (ha : a ∈ goods) (hb : b ∈ goods) (ne : a ≠ b) : DeedFrom goods (.order a b)
  | one (k : Bool) (a : Ln) (ha : a ∈ goods) : DeedFrom goods (.one k a)

section
variable {P : Program} {w : World} {K : PySem.W.Frag} {mg : Str → Option Value} {base : Heap} {T : Tp}

def spDeed (K : PySem.W.Frag) (T : Tp) : Sp := fun vs H Q _ => ∃ (d l : Addr) (gs : List V) (goods : List Ln) (C : Addr → Bool), vs = [.ref d, .ref l] ∧ St H d ∧ H l = some (.lst gs) ∧ DpAll K (cut C H) gs (goods.map eL) ∧ (∀ g ∈ goods, LnOk g) ∧ goods.length ≤ 5000 ∧ Held C H ∧ TG T H ∧
  ∀ H' v deed, Go T (· = d) H H' → St H' d → Dp K (cut C H') v (eD deed) → DeedFrom goods deed → Q v H'
theorem ok_ldeed {f : Addr} {fd : FuncData} {k : Nat} (F : Fun K "_law_deed" "_law_deed" sLDeed f fd) (M : Mg K mg) (cD : Cal P w K mg base k "_law_digit" ["_law_state", "_law_many"] spDigit) : FnOk P w K mg base CX0 (k + 1) f fd ["_law_state", "_law_goods"] (spDeed K T) := by
  refine F.ok scLDeed (fun vs H Q E h => ?_) (fun cdv A outer s H vs Q E hr h => ?_)
  · obtain ⟨d, l, gs, goods, C, rfl, _⟩ := h
    rfl
  · obtain ⟨d, l, gs, goods, C, rfl, st, hl, hgs, gok, glen, held, tg, q⟩ := h
    refine ⟨_, (pss_cons (ps_set (i := 2) scLDeed.nd rfl (.inl rfl) (pe_cal cD hr (by rfl) (pa_cons (pv 0) (pa_cons pe_int pa_nil))))
      (pss_cons (ps_if (PW.pt (pw_or (pt_cmpR op_lt (pv 2) pe_int (nomark _)) (pw_or1 (pt_cmpR (op_eqD hr.units) (pv 1) (pe_lst pa_nil) (nomark _)))))
      (pss_cons (ps_set (i := 3) scLDeed.nd rfl (.inl rfl) (pe_ix ix_list (pe_op op_cat (pe_lst (pa_cons (pe_tup (pa_cons pe_str (pa_cons pe_int (pa_cons pe_int pa_nil)))) pa_nil)) (pv 1)) (pe_cal cD hr (by rfl) (pa_cons (pv 0) (pa_cons (pe_op op_add (pe_callB call_len_seq (by rfl) M.len_ PySem.boot_len (pa_cons (pv 1) pa_nil)) pe_int) pa_nil))) (fun _ _ => rfl)))
      (pss_cons (ps_set (i := 4) scLDeed.nd rfl (.inl rfl) (pe_ix ix_list (pe_op op_cat (pv 1) (pe_lst (pa_cons (pe_tup (pa_cons pe_str (pa_cons pe_int (pa_cons pe_int pa_nil)))) pa_nil))) (pe_cal cD hr (by rfl) (pa_cons (pv 0) (pa_cons (pe_op op_add (pe_callB call_len_seq (by rfl) M.len_ PySem.boot_len (pa_cons (pv 1) pa_nil)) pe_int) pa_nil))) (fun _ _ => rfl)))
      (pss_cons (ps_set (i := 6) scLDeed.nd rfl (.inl rfl) (pe_callTy call_tuple_of (by rfl) M.tuple_ (by decide +kernel) (pa_cons (pe_lc (own := [("_law_k", 5)]) (g := gName 5) (tt := tYes) rfl scLDeed.nd (pi_range1 (by rfl) M.range_ (pa_cons (pe_op op_add pe_int (pe_cal cD hr (by rfl) (pa_cons (pv 0) (pa_cons pe_int pa_nil)))) pa_nil)) (blkOk_by (N := ["_law_state", "_law_goods", "_law_kind", "_law_above", "_law_below", "_law_k", "_law_texts", "_law_one", "_law_line", "_law_others"]) (sc := defScope sLDeed) (by decide +kernel)) (fun _ _ _ _ _ => (pg_name (i := 5) scLDeed.nd rfl (Or.inl rfl))) (fun _ _ _ _ _ => pts_nil) (fun _ _ _ _ _ => (pe_ix (show IxR _ (rIxL K) from ix_list) (pe_lst (pa_cons pe_str (pa_cons pe_str (pa_cons pe_str (pa_cons pe_str pa_nil))))) (pe_cal cD hr (by rfl) (pa_cons (pv 0) (pa_cons pe_int pa_nil))) (fun _ _ => rfl)))) pa_nil)))
      (pss_one (ps_ret (pe_tup (pa_cons pe_str (pa_cons (pv 3) (pa_cons (pe_ifExp (pt_cmpR (op_neD hr.units) (pv 4) (pv 3) (nomark _)) (pv 4) (pe_tup (pa_cons pe_str (pa_cons pe_int (pa_cons pe_int pa_nil))))) (pa_cons (pv 6) pa_nil))))))))))
      pss_nil)
      (pss_cons (ps_set (i := 7) scLDeed.nd rfl (.inr rfl) (pe_ix ix_list (pv 1) (pe_cal cD hr (by rfl) (pa_cons (pv 0) (pa_cons (pe_callB call_len_seq (by rfl) M.len_ PySem.boot_len (pa_cons (pv 1) pa_nil)) pa_nil))) (fun _ _ => rfl)))
      (pss_cons (ps_setLc (i := 9) (own := [("_law_line", 8)]) (g := gName 8) rfl scLDeed.nd rfl rfl (sw_true rfl rfl rfl (by decide +kernel)) (pi_list (pv 1)) (blkOk_by (N := ["_law_state", "_law_goods", "_law_kind", "_law_above", "_law_below", "_law_k", "_law_texts", "_law_one", "_law_line", "_law_others"]) (sc := defScope sLDeed) (by decide +kernel)) (fun _ _ _ _ _ => (pg_name (i := 8) scLDeed.nd rfl (Or.inl rfl))) (fun _ _ _ _ _ => (pts_one (pt_cmpR (show OpR _ _ (rNeD K) from op_neD hr.units) (pv 8) (pv 7) (nomark _)))) (fun _ _ _ _ _ => (pv 8)))
      (pss_cons (ps_if (PW.pt (pw_and (pt_cmpR op_eq (pv 2) pe_int (nomark _)) (pw_and1 (pt_cmpR (op_neD hr.units) (pv 9) (pe_lst pa_nil) (nomark _)))))
      (pss_one (ps_ret (pe_tup (pa_cons pe_str (pa_cons (pv 7) (pa_cons (pe_ix ix_list (pv 9) (pe_cal cD hr (by rfl) (pa_cons (pv 0) (pa_cons (pe_callB call_len_seq (by rfl) M.len_ PySem.boot_len (pa_cons (pv 9) pa_nil)) pa_nil))) (fun _ _ => rfl)) pa_nil))))))
      pss_nil)
      (pss_one (ps_ret (pe_tup (pa_cons (pe_ix ix_list (pe_lst (pa_cons pe_str (pa_cons pe_str pa_nil))) (pe_op op_mod (pv 2) pe_int) (fun _ _ => rfl)) (pa_cons (pv 7) pa_nil)))))))))), ?_⟩
    have toG : ∀ {H'}, Go T (· = d) H H' → Sub H H' := fun g => st.sub g tg
    have goL : ∀ {H'}, Go T (· = d) H H' → H' l = some (.lst gs) := fun g => g.at tg (st.ne hl) hl
    have gsl : gs.length = goods.length := by rw [DpAll.len hgs, List.length_map]
    have gdp : ∀ {H'}, Go T (· = d) H H' → DpAll K (cut C H') gs (goods.map eL) := fun g => Dp.subs (toG g).cuts _ _ hgs
    have gsh : SeqAt.shaped (.list (goods.map eL)) = true := by
      refine shaped_of ?_ ?_
      · simp only [PyData.canLay0]
        exact layAll fun n m => eL_lay (handOk (gok n m).1.1).1
      · have := depAll (f := eL) (n := 1) (l := goods) fun n _ => by rw [eL_dep]; exact Nat.le_refl _
        simp only [PyData.depth]
        omega
    have gD : ∀ {H'}, Go T (· = d) H H' → Dp K H' (.ref l) (.list (goods.map eL)) := fun g => .lst (.inl (.inl (goL g))) (Dp.subs Sub.cut _ _ (gdp g))
    have nilsh : SeqAt.shaped (.list []) = true := rfl
    have nil_eqv : PyData.eqv (.list (goods.map eL)) (.list []) = goods.isEmpty := by
      cases goods with
      | nil => rfl
      | cons x r => simp [PyData.eqv, PyData.eqvAll]
    obtain ⟨a0, b0, p0, p1, ed⟩ := _root_.id st
    refine ⟨.ref d, rfl, d, a0, b0, 5, rfl, ed, p0, p1, by decide, by decide, dg tg ed fun kd H1 k0 k1 g1 s1 => ?_⟩
    refine twice (A := fun H2 => Go T (· = d) H H2 ∧ St H2 d) ?put (fun put => ⟨.int kd, rfl, kd, 2, rfl, rfl, _, rfl, ite2 (fun e => iteT (put H1 ⟨g1, s1⟩)) (fun e => ⟨.ref l, rfl, Nat.zero_le _, fun t ht => ?_⟩)⟩)
    case put =>
      rintro H2 ⟨g2, s2⟩
      have sm3 : 3 ≤ sizeLine := small_le (by decide)
      have sm1 : 1 ≤ sizeLine := small_le (by decide)
      have glen' : gs.length ≤ 5000 := by omega
      -- above
      refine ⟨sm3, fun th hth => ⟨sm1, fun p hp => ⟨.ref l, rfl, p, l, _, gs, rfl, rfl, upd_same, ?el, small_le (by show 1 + gs.length ≤ 10000; omega), fun z hz => ?_⟩⟩⟩
      case el => exact goL ((g2.new hth).new hp)
      have g3 := ((g2.new hth).new hp).new (o := .lst ([V.ref th] ++ gs)) hz
      have s3 := ((s2.new hth).new hp).new (o := .lst ([V.ref th] ++ gs)) hz
      have n1 : th ≠ p := ne_of_none upd_same hp
      have eth : (upd (upd (upd H2 th (.tup [V.str "", .int 0, .int 0])) p (.lst [V.ref th])) z (.lst ([V.ref th] ++ gs))) th = some (.tup [V.str "", .int 0, .int 0]) := by
        rw [upd_ne (ne_of_none ((upd_ne n1).trans upd_same) hz), upd_ne n1, upd_same]
      have ez : (upd (upd (upd H2 th (.tup [V.str "", .int 0, .int 0])) p (.lst [V.ref th])) z (.lst ([V.ref th] ++ gs))) z = some (.lst (V.ref th :: gs)) := upd_same
      have Cth : C th = false := held.no (freeD g2 tg s2 hth)
      generalize upd (upd (upd H2 th (.tup [V.str "", .int 0, .int 0])) p (.lst [V.ref th])) z (.lst ([V.ref th] ++ gs)) = H3 at g3 s3 eth ez ⊢
      have d3 : DpAll K (cut C H3) (V.ref th :: gs) ((headL :: goods).map eL) := .cons (.tup (.inl (.inl ((cut_at Cth).trans eth))) (.cons (.str _) (.cons (.int _) (.cons (.int _) .nil)))) (gdp g3)
      obtain ⟨a3, b3, p3, q3, ed3⟩ := _root_.id s3
      refine ⟨.ref d, rfl, .ref l, rfl, l, gs, rfl, .inl (.inl (.inl (goL g3))), _, 1, rfl, rfl, d, a3, b3, (gs.length : Int) + 1, rfl, ed3, p3, q3, by omega, by omega, dg g3.1 ed3 fun ra H4 ra0 ra1 g34 s4 => ?_⟩
      obtain ⟨xa, hxa, hata⟩ := atI_int (xs := V.ref th :: gs) (j := ra) ra0 (by rw [List.length_cons]; omega)
      obtain ⟨da, hda, dpa⟩ := DpAll.at' d3 hxa
      obtain ⟨la, hla, rfl⟩ := at_map hda
      have memA : la = headL ∨ la ∈ goods := List.mem_cons.mp (List.mem_of_getElem? hla)
      have g4 := g3.trans g34
      have dpa4 := Dp.sub (s3.sub g34 g3.1).cuts _ _ dpa
      have ez4 := g34.at g3.1 (s3.ne ez) ez
      refine ⟨z, _, ra, xa, rfl, rfl, .inl (.inl ez4), hata, ?_⟩
      -- below
      refine ⟨.ref l, rfl, sm3, fun tf htf => ⟨sm1, fun p' hp' => ⟨l, p', gs, _, rfl, rfl, ?el, upd_same, small_le (by show gs.length + 1 ≤ 10000; omega), fun z' hz' => ?_⟩⟩⟩
      case el => exact goL ((g4.new htf).new hp')
      have g5 := ((g4.new htf).new hp').new (o := .lst (gs ++ [V.ref tf])) hz'
      have s5 := ((s4.new htf).new hp').new (o := .lst (gs ++ [V.ref tf])) hz'
      have n5 : tf ≠ p' := ne_of_none upd_same hp'
      have etf : (upd (upd (upd H4 tf (.tup [V.str "", .int 0, .int 1])) p' (.lst [V.ref tf])) z' (.lst (gs ++ [V.ref tf]))) tf = some (.tup [V.str "", .int 0, .int 1]) := by
        rw [upd_ne (ne_of_none ((upd_ne n5).trans upd_same) hz'), upd_ne n5, upd_same]
      have ez' : (upd (upd (upd H4 tf (.tup [V.str "", .int 0, .int 1])) p' (.lst [V.ref tf])) z' (.lst (gs ++ [V.ref tf]))) z' = some (.lst (gs ++ [V.ref tf])) := upd_same
      have Ctf : C tf = false := held.no (freeD g4 tg s4 htf)
      have dpa5 := Dp.sub ((Sub.new htf).trans ((Sub.new hp').trans (Sub.new (o := .lst (gs ++ [V.ref tf])) hz'))).cuts _ _ dpa4
      generalize upd (upd (upd H4 tf (.tup [V.str "", .int 0, .int 1])) p' (.lst [V.ref tf])) z' (.lst (gs ++ [V.ref tf])) = H5 at g5 s5 etf ez' dpa5 ⊢
      have d5 : DpAll K (cut C H5) (gs ++ [V.ref tf]) ((goods ++ [footL]).map eL) := by
        rw [List.map_append]
        exact (gdp g5).app (.one (.tup (.inl (.inl ((cut_at Ctf).trans etf))) (.cons (.str _) (.cons (.int _) (.cons (.int _) .nil)))))
      obtain ⟨a5, b5, p5, q5, ed5⟩ := _root_.id s5
      refine ⟨.ref d, rfl, .ref l, rfl, l, gs, rfl, .inl (.inl (.inl (goL g5))), _, 1, rfl, rfl, d, a5, b5, (gs.length : Int) + 1, rfl, ed5, p5, q5, by omega, by omega, dg g5.1 ed5 fun rb H6 rb0 rb1 g56 s6 => ?_⟩
      obtain ⟨xb, hxb, hatb⟩ := atI_int (xs := gs ++ [V.ref tf]) (j := rb) rb0 (by rw [List.length_append]; show rb < ((gs.length + 1 : Nat) : Int); omega)
      obtain ⟨db, hdb, dpb⟩ := DpAll.at' d5 hxb
      obtain ⟨lb, hlb, rfl⟩ := at_map hdb
      have memB : lb = footL ∨ lb ∈ goods := by
        rcases List.mem_append.mp (List.mem_of_getElem? hlb) with h | h
        · exact .inr h
        · exact .inl (List.mem_singleton.mp h)
      have g6 := g5.trans g56
      have dpa6 := Dp.sub (s5.sub g56 g5.1).cuts _ _ dpa5
      have dpb6 := Dp.sub (s5.sub g56 g5.1).cuts _ _ dpb
      have ez6 := g56.at g5.1 (s5.ne ez') ez'
      refine ⟨z', _, rb, xb, rfl, rfl, .inl (.inl ez6), hatb, ?_⟩
      -- texts
      obtain ⟨a6, b6, p6, q6, ed6⟩ := _root_.id s6
      refine ⟨.ref d, rfl, d, a6, b6, 3, rfl, ed6, p6, q6, by decide, by decide, dg g6.1 ed6 fun rt H7 rt0 rt1 g67 s7 => ?_⟩
      have g7 := g6.trans g67
      have dpa7 := Dp.sub (s6.sub g67 g6.1).cuts _ _ dpa6
      have dpb7 := Dp.sub (s6.sub g67 g6.1).cuts _ _ dpb6
      refine ⟨1, rt, rfl, rfl, 1 + rt, rfl, by omega, by omega, fun D hD => ?_⟩
      refine lc_range (lo := 0) (n := (1 + rt).toNat) (fun i H8 => ∃ ts : List Str, Go T (· = d) H7 H8 ∧ St H8 d ∧ H8 D = some (.lst (ts.map V.str)) ∧ ts.length = i ∧ ∀ t ∈ ts, t ∈ menuT) ?_ ?_ ?_
      · exact ⟨[], (Go.rfl' g7.1).new hD, s7.new hD, upd_same, rfl, by simp⟩
      · rintro i H8 hi ⟨ts, g8, s8, eD, hts, hmt⟩
        refine ⟨rfl, small_le (by decide), fun m hm => ?_⟩
        have g9 := g8.new (o := .lst [V.str "a", .str "b", .str "", .str "c c"]) hm
        have s9 := s8.new (o := .lst [V.str "a", .str "b", .str "", .str "c c"]) hm
        have eD9 := (upd_ne (o := .lst [V.str "a", .str "b", .str "", .str "c c"]) (ne_of_none eD hm)).trans eD
        have em : (upd H8 m (.lst [V.str "a", .str "b", .str "", .str "c c"])) m = some (.lst (menuT.map V.str)) := upd_same
        generalize upd H8 m (.lst [V.str "a", .str "b", .str "", .str "c c"]) = H9 at g9 s9 eD9 em ⊢
        obtain ⟨a9, b9, p9, q9, ed9⟩ := _root_.id s9
        refine ⟨.ref d, rfl, d, a9, b9, 4, rfl, ed9, p9, q9, by decide, by decide, dg g9.1 ed9 fun rm H10 rm0 rm1 g910 s10 => ?_⟩
        obtain ⟨t, ht, hatm⟩ := atI_int (xs := menuT) (j := rm) rm0 rm1
        have hatv : atI (menuT.map V.str) rm = some (.str t) := by
          have := atI_nat (xs := menuT.map V.str) (j := rm.toNat) (v := .str t) (by rw [List.getElem?_map, ht]; rfl)
          rwa [show ((rm.toNat : Nat) : Int) = rm by omega] at this
        have eD10 := g910.at g9.1 (s9.ne eD9) eD9
        refine ⟨m, _, rm, .str t, rfl, rfl, .inl (.inl (g910.at g9.1 (s9.ne em) em)), hatv, ts.map V.str, eD10, small_line (by rw [List.length_map, hts]; omega), ?_⟩
        refine ⟨ts ++ [t], (g9.trans g910).put hD eD10, s10.put eD10, by rw [upd_same, List.map_append]; rfl, by rw [List.length_append, hts]; rfl, fun u hu => ?_⟩
        rcases List.mem_append.mp hu with h | h
        · exact hmt u h
        · rw [List.mem_singleton.mp h]
          exact List.mem_of_getElem? ht
      · rintro H8 ⟨ts, g8, s8, eD, hts, hmt⟩
        have g08 := g7.trans g8
        have dpa8 := Dp.sub (s7.sub g8 g7.1).cuts _ _ dpa7
        have dpb8 := Dp.sub (s7.sub g8 g7.1).cuts _ _ dpb7
        refine ⟨D, _, rfl, .inl ⟨.inl (.inl eD), fun tt htt => ?_⟩⟩
        have g9 := g08.new (o := .tup (ts.map V.str)) htt
        have s9 := s8.new (o := .tup (ts.map V.str)) htt
        have ett : (upd H8 tt (.tup (ts.map V.str))) tt = some (.tup (ts.map V.str)) := upd_same
        have Ctt : C tt = false := held.no (freeD g08 tg s8 htt)
        have dpa9 := Dp.sub (Sub.new (o := .tup (ts.map V.str)) htt).cuts _ _ dpa8
        have dpb9 := Dp.sub (Sub.new (o := .tup (ts.map V.str)) htt).cuts _ _ dpb8
        generalize upd H8 tt (.tup (ts.map V.str)) = H9 at g9 s9 ett dpa9 dpb9 ⊢
        have dstrs : ∀ {H'} (ts : List Str), DpAll K H' (ts.map V.str) (ts.map PyData.str) := by
          intro H' ts
          induction ts with
          | nil => exact .nil
          | cons t r ih => exact .cons (.str t) ih
        have fin : ∀ H' xc lc, Go T (· = d) H H' → St H' d → H' tt = some (.tup (ts.map V.str)) → Dp K (cut C H') xa (eL la) → Dp K (cut C H') xc (eL lc) → (lc = footL ∨ lc ∈ goods) → la ≠ lc → ∀ v, H' v = none → Q (.ref v) (upd H' v (.tup [V.str "put", xa, xc, .ref tt])) := by
          intro H' xc lc g' s' et' dpa' dpc' hc hne v hv
          have Cv : C v = false := held.no (freeD g' tg s' hv)
          have nv : tt ≠ v := ne_of_none et' hv
          refine q _ _ (.put la lc ts) (g'.new hv) (s'.new hv) ?_ (.put la lc ts memA hc hne (by omega) (by omega) hmt)
          refine .tup (xs := [V.str "put", xa, xc, .ref tt]) (.inl (.inl ((cut_at Cv).trans upd_same))) (.cons (.str _) (.cons (Dp.sub (Sub.new hv).cuts _ _ dpa') (.cons (Dp.sub (Sub.new hv).cuts _ _ dpc') (.one (.tup (.inl (.inl ((cut_at Ctt).trans ((upd_ne nv).trans et')))) (dstrs ts))))))
        have strA : PyData.strOk la.1 = true := by
          rcases memA with rfl | h
          · decide +kernel
          · exact (handOk (gok la h).1.1).1
        have strB : PyData.strOk lb.1 = true := by
          rcases memB with rfl | h
          · decide +kernel
          · exact (handOk (gok lb h).1.1).1
        have neF : la ≠ footL := by
          rcases memA with rfl | h
          · exact headL_ne_foot
          · exact (gok la h).ne_foot
        refine ⟨xa, rfl, xb, rfl, xa, rfl, eL lb, eL la, dp_cut dpb9, dp_cut dpa9, eL_sh strB, eL_sh strA, _, rfl, ?_⟩
        rw [eL_eqv]
        refine ite2 (fun e => ?_) (fun e => ?_)
        · have ne : ¬ lb = la := by simpa using e
          exact ⟨xb, rfl, .ref tt, rfl, small_le (by show 4 ≤ 10000; decide), fin H9 xb lb g9 s9 ett dpa9 dpb9 memB (fun z => ne z.symm)⟩
        · refine ⟨sm3, fun tf2 htf2 => ⟨.ref tt, rfl, small_le (by show 4 ≤ 10000; decide), ?_⟩⟩
          have C2 : C tf2 = false := held.no (freeD g9 tg s9 htf2)
          exact fin _ (.ref tf2) footL (g9.new htf2) (s9.new htf2) ((upd_ne (ne_of_none ett htf2)).trans ett) (Dp.sub (Sub.new htf2).cuts _ _ dpa9)
            (.tup (xs := [V.str "", .int 0, .int 1]) (.inl (.inl ((cut_at C2).trans upd_same))) (.cons (.str _) (.cons (.int _) (.cons (.int _) .nil)))) (.inl rfl) neF
    have g2 : Go T (· = d) H (upd H1 t (.lst [])) := g1.new ht
    have s2 : St (upd H1 t (.lst [])) d := s1.new ht
    refine ⟨_, _, gD g2, .lst (xs := []) (.inl (.inl upd_same)) .nil, gsh, nilsh, _, rfl, ?_⟩
    rw [nil_eqv]
    refine ite2 (fun e2 => put _ ⟨g2, s2⟩) (fun e2 => ?_)
    generalize upd H1 t (.lst []) = H2 at g2 s2 ⊢
    have gpos : 0 < gs.length := by
      rw [gsl]
      cases goods with
      | nil => exact absurd rfl e2
      | cons x r => exact Nat.succ_pos _
    have kd2 : 2 ≤ kd := by
      have : ¬ kd < 2 := of_decide_eq_false (Bool.eq_false_iff.mpr e)
      omega
    -- one
    obtain ⟨a2, b2, p2, q2, ed2⟩ := _root_.id s2
    refine ⟨.ref l, rfl, .ref d, rfl, .ref l, rfl, l, gs, rfl, .inl (.inl (.inl (goL g2))), d, a2, b2, (gs.length : Int), rfl, ed2, p2, q2, by omega, by omega, dg g2.1 ed2 fun r1 H3 r10 r11 g23 s3 => ?_⟩
    obtain ⟨x1, hx1, hat1⟩ := atI_int (xs := gs) (j := r1) r10 r11
    have g3 := g2.trans g23
    obtain ⟨d1, hd1, dp1⟩ := DpAll.at' (gdp g3) hx1
    obtain ⟨l1, hl1, rfl⟩ := at_map hd1
    have m1 : l1 ∈ goods := List.mem_of_getElem? hl1
    have str1 : PyData.strOk l1.1 = true := (handOk (gok l1 m1).1.1).1
    refine ⟨l, gs, r1, x1, rfl, rfl, .inl (.inl (goL g3)), hat1, ?_⟩
    -- others
    refine ⟨.ref l, rfl, l, rfl, ⟨gs, .inl (.inl (goL g3))⟩, fun D hD => ?_⟩
    have dl1 : ∀ {H4}, Go T D0 H3 H4 → Dp K (cut C H4) x1 (eL l1) := fun g4 => Dp.sub (sub_go g4 g3.1).cuts _ _ dp1
    refine lc_list (K := K) (a := l) (xs := gs) (fun i H4 => Go T D0 H3 H4 ∧ ∃ acc, H4 D = some (.lst acc) ∧ acc.length ≤ i ∧ DpAll K (cut C H3) acc (((goods.take i).filter fun m => decide (m ≠ l1)).map eL)) ?_ ?_ ?_ ?_
    · exact ⟨(Go.rfl' g3.1).new hD, [], upd_same, Nat.le_refl _, .nil⟩
    · rintro i H4 hi ⟨g4, _⟩
      exact g4.seqL g3.1 (fun _ _ z => z) (.inl (.inl (goL g3)))
    · rintro i x H4 hx ⟨g4, acc, eD, hacc, hda⟩
      obtain ⟨d', hd', hx'⟩ := DpAll.at' (gdp g3) hx
      obtain ⟨m, hm, rfl⟩ := at_map hd'
      have mm := List.mem_of_getElem? hm
      have hi : i < gs.length := (List.getElem?_eq_some_iff.mp hx).1
      have tk : (goods.take (i + 1)).filter (fun m => decide (m ≠ l1)) = (goods.take i).filter (fun m => decide (m ≠ l1)) ++ [m].filter (fun m => decide (m ≠ l1)) := by
        rw [List.take_add_one, hm, List.filter_append]
        rfl
      refine ⟨rfl, x, rfl, x1, rfl, eL m, eL l1, dp_cut (Dp.sub (sub_go g4 g3.1).cuts _ _ hx'), dp_cut (dl1 g4), eL_sh (handOk (gok m mm).1.1).1, eL_sh str1, _, rfl, ?_⟩
      rw [eL_eqv]
      refine ite2 (fun e3 => ?_) (fun e3 => ?_)
      · have n3 : m ≠ l1 := by simpa using e3
        refine ⟨x, rfl, acc, eD, small_line (by omega), g4.put hD eD, acc ++ [x], upd_same, by rw [List.length_append]; show acc.length + 1 ≤ i + 1; omega, ?_⟩
        rw [tk, List.filter_cons_of_pos (by simpa using n3), List.filter_nil, List.map_append]
        exact hda.app (.one hx')
      · have n3 : m = l1 := by simpa using e3
        refine ⟨g4, acc, eD, by omega, ?_⟩
        rw [tk, List.filter_cons_of_neg (by simpa using n3), List.filter_nil, List.append_nil]
        exact hda
    · rintro H4 ⟨g4, acc, eD, hacc, hda⟩
      rw [gsl, List.take_length] at hda
      have g04 : Go T (· = d) H H4 := g3.trans g4.up
      have s4 : St H4 d := s3.go g4 g3.1
      refine twice (A := fun H5 => Go T D0 H4 H5) ?rest (fun rest => ⟨.int kd, rfl, rfl, _, rfl, ite2 (fun e4 => ⟨.ref D, rfl, Nat.zero_le _, fun t2 ht2 => ?_⟩) (fun e4 => iteF (rest H4 (Go.rfl' g4.1)))⟩)
      case rest =>
        intro H5 g5
        refine ⟨small_le (by decide), fun m hm => ?_⟩
        have g6 := g5.new (o := .lst [V.str "cut", .str "keep"]) hm
        have em : (upd H5 m (.lst [V.str "cut", .str "keep"])) m = some (.lst [V.str "cut", .str "keep"]) := upd_same
        generalize upd H5 m (.lst [V.str "cut", .str "keep"]) = H6 at g6 em ⊢
        have two : ∃ k : Bool, atI [V.str "cut", V.str "keep"] (kd % 2) = some (.str (kindS k)) := by
          have h0 := Int.emod_nonneg kd (show (2 : Int) ≠ 0 by decide)
          have h1 := Int.emod_lt_of_pos kd (show (0 : Int) < 2 by decide)
          rcases (show kd % 2 = 0 ∨ kd % 2 = 1 by omega) with h | h
          · rw [h]
            exact ⟨false, rfl⟩
          · rw [h]
            exact ⟨true, rfl⟩
        obtain ⟨kb, hkb⟩ := two
        refine ⟨.int kd, rfl, kd, 2, rfl, rfl, (show (0 : Int) < 2 by decide), m, _, kd % 2, _, rfl, rfl, .inl (.inl em), hkb, x1, rfl, small_le (by show 2 ≤ 10000; decide), fun v hv => ?_⟩
        have g06 := g04.trans g6.up
        have s6 := s4.go g6 g4.1
        have Cv : C v = false := held.no (freeD g06 tg s6 hv)
        refine q _ _ (.one kb l1) (g06.new hv) (s6.new hv) ?_ (.one kb l1 m1)
        exact .tup (xs := [V.str (kindS kb), x1]) (.inl (.inl ((cut_at Cv).trans upd_same))) (.cons (.str _) (.one (Dp.sub (Sub.new hv).cuts _ _ (dl1 (g4.trans g6)))))
      have g5 : Go T D0 H4 (upd H4 t2 (.lst [])) := (Go.rfl' g4.1).new ht2
      have eD5 := (upd_ne (o := .lst []) (ne_of_none eD ht2)).trans eD
      have osub : ∀ x ∈ (goods.filter fun m => decide (m ≠ l1)), x ∈ goods ∧ x ≠ l1 := fun x hx => by
        have h := List.mem_filter.mp hx
        exact ⟨h.1, of_decide_eq_true h.2⟩
      generalize (goods.filter fun m => decide (m ≠ l1)) = others at hda osub
      have osh : SeqAt.shaped (.list (others.map eL)) = true := by
        refine shaped_of ?_ ?_
        · simp only [PyData.canLay0]
          exact layAll fun n m => eL_lay (handOk (gok n (osub n m).1).1.1).1
        · have := depAll (f := eL) (n := 1) (l := others) fun n _ => by rw [eL_dep]; exact Nat.le_refl _
          simp only [PyData.depth]
          omega
      have nil_eqv2 : PyData.eqv (.list (others.map eL)) (.list []) = others.isEmpty := by
        cases others with
        | nil => rfl
        | cons x r => simp [PyData.eqv, PyData.eqvAll]
      have hda5 : ∀ {H5}, Go T D0 H4 H5 → DpAll K (cut C H5) acc (others.map eL) := fun g => Dp.subs (sub_go (g4.trans g) g3.1).cuts _ _ hda
      refine ⟨_, _, .lst (.inl (.inl eD5)) (Dp.subs Sub.cut _ _ (hda5 g5)), .lst (xs := []) (.inl (.inl upd_same)) .nil, osh, nilsh, _, rfl, ?_⟩
      rw [nil_eqv2]
      refine ite2 (fun e5 => ?_) (fun e5 => rest _ g5)
      have olen : acc.length = others.length := by rw [DpAll.len hda, List.length_map]
      have opos : 0 < acc.length := by
        rw [olen]
        cases others with
        | nil => cases e5
        | cons x r => exact Nat.succ_pos _
      have g05 := g04.trans g5.up
      have s5 := s4.go g5 g4.1
      have aL : acc.length ≤ 5000 := by omega
      generalize upd H4 t2 (.lst []) = H5 at g5 eD5 g05 s5 ⊢
      obtain ⟨a5, b5, p5, q5, ed5⟩ := _root_.id s5
      refine ⟨x1, rfl, .ref D, rfl, .ref d, rfl, .ref D, rfl, D, acc, rfl, .inl (.inl (.inl eD5)), d, a5, b5, (acc.length : Int), rfl, ed5, p5, q5, by omega, by omega, dg g5.1 ed5 fun r2 H6 r20 r21 g56 s6 => ?_⟩
      obtain ⟨x2, hx2, hat2⟩ := atI_int (xs := acc) (j := r2) r20 r21
      obtain ⟨d2, hd2, dp2⟩ := DpAll.at' (hda5 g5) hx2
      obtain ⟨l2, hl2, rfl⟩ := at_map hd2
      have m2 := osub l2 (List.mem_of_getElem? hl2)
      have g06 := g05.trans g56
      have dl6 := Dp.sub (s5.sub g56 g5.1).cuts _ _ (dl1 (g4.trans g5))
      have dp6 := Dp.sub (s5.sub g56 g5.1).cuts _ _ dp2
      refine ⟨D, acc, r2, x2, rfl, rfl, .inl (.inl (g56.at g5.1 (s5.ne eD5) eD5)), hat2, small_le (by show 3 ≤ 10000; decide), fun v hv => ?_⟩
      have Cv : C v = false := held.no (freeD g06 tg s6 hv)
      refine q _ _ (.order l1 l2) (g06.new hv) (s6.new hv) ?_ (.order l1 l2 m1 m2.1 m2.2.symm)
      exact .tup (xs := [V.str "order", x1, x2]) (.inl (.inl ((cut_at Cv).trans upd_same))) (.cons (.str _) (.cons (Dp.sub (Sub.new hv).cuts _ _ dl6) (.one (Dp.sub (Sub.new hv).cuts _ _ dp6))))
end
end K1
set_option Elab.async false
set_option linter.all false
set_option maxRecDepth 100000
set_option maxHeartbeats 4000000
/-! Histories drawn: what is true of them. -/
namespace K1
open PySem PySem.Spec PyProof.Rows L2

abbrev nmLt (a b : Nm) : Bool := PySem.W.dataLt (eN a) (eN b)
def countH (hist : List Pat) (h : Str) : Nat := hist.countP fun p => decide (p.name.1 = h)
def ownLines (n : Nm) (many : Nat) : List Ln := (List.range many).map (lnAt n)
def goodsAt (hist : List Pat) (p : Pat) (many : Nat) : List Ln := (linesIn hist (knownIn hist p.knows)).map (·.1) ++ ownLines p.name many
def manyAt (deeds : List Deed) (i : Nat) : Nat := ((deeds.take i).flatMap Deed.texts).length
structure PatFrom (hands : List Str) (hist : List Pat) (p : Pat) : Prop where
  hand : p.name.1 ∈ hands
  num : p.name.2 = 1 + (countH hist p.name.1 : Nat)
  asc : p.knows.Pairwise fun a b => nmLt a b = true
  there : ∀ n ∈ p.knows, ∃ q ∈ hist, q.name = n
  four : p.knows.length ≤ 4
  least : 1 ≤ p.deeds.length
  three : p.deeds.length ≤ 3
  deeds : ∀ i d, p.deeds[i]? = some d → DeedFrom (goodsAt hist p (manyAt p.deeds i)) d
def HistFrom (hands : List Str) (hist : List Pat) : Prop := ∀ i p, hist[i]? = some p → PatFrom hands (hist.take i) p
def HandsOk (hands : List Str) : Prop := ∀ h ∈ hands, handV (.str h) = true

/-! order of names -/
theorem eN_alike (a b : Nm) : PySem.W.alike (eN a) (eN b) = true := by simp [eN, PySem.W.alike, PySem.W.alikeAll]
theorem nm_toks {a b : Nm} (h : PySem.W.keyToks (eN a) = PySem.W.keyToks (eN b)) : a = b := by
  obtain ⟨x, i⟩ := a
  obtain ⟨y, j⟩ := b
  simp [eN, PySem.W.keyToks, PySem.W.keyToksAll] at h
  obtain ⟨h1, h2⟩ := h
  rw [h2]
  congr 1
  exact PySem.W.str_of_cps (by rw [h1])
theorem nmLt_total {a b : Nm} (h1 : nmLt a b = false) (h2 : nmLt b a = false) : a = b := nm_toks (PyProof.Rows.lex_total (O := PyProof.Rows.itemOrd) _ _ h1 h2)
theorem nmLt_irr (a : Nm) : nmLt a a = false := PyProof.Rows.lex_irrefl (O := PyProof.Rows.itemOrd) _
theorem nmLt_trans {a b c : Nm} (h1 : nmLt a b = true) (h2 : nmLt b c = true) : nmLt a c = true := PyProof.Rows.lex_trans (O := PyProof.Rows.itemOrd) _ _ _ h1 h2

/-! lines -/
theorem linesIn_mem {hist : List Pat} {names : List Nm} {x : Ln × Str} (h : x ∈ linesIn hist names) : ∃ p ∈ hist, p.name ∈ names ∧ x ∈ linesOf p := by
  unfold linesIn at h
  obtain ⟨p, hp, hx⟩ := List.mem_flatMap.mp h
  split at hx
  · rename_i hn
    exact ⟨p, hp, hn, hx⟩
  · cases hx
theorem linesOf_mem {p : Pat} {x : Ln × Str} (h : x ∈ linesOf p) : ∃ k, k < (textsOf p).length ∧ x = (lnAt p.name k, (textsOf p).getD k "") := by
  unfold linesOf linesFrom at h
  obtain ⟨k, hk, rfl⟩ := List.mem_map.mp h
  exact ⟨k, List.mem_range.mp hk, rfl⟩
theorem lnAt_ok {n : Nm} (h : NmOk n) (k : Nat) : LnOk (lnAt n k) := ⟨h, by show (1 : Int) ≤ (k : Int) + 1; omega⟩
theorem goods_ok {hist : List Pat} {p : Pat} {many : Nat} (h : ∀ q ∈ hist, NmOk q.name) (hp : NmOk p.name) : ∀ g ∈ goodsAt hist p many, LnOk g := by
  intro g hg
  rcases List.mem_append.mp hg with hg | hg
  · obtain ⟨x, hx, rfl⟩ := List.mem_map.mp hg
    obtain ⟨q, hq, _, hx⟩ := linesIn_mem hx
    obtain ⟨k, _, rfl⟩ := linesOf_mem hx
    exact lnAt_ok (h q hq) k
  · obtain ⟨k, _, rfl⟩ := List.mem_map.mp hg
    exact lnAt_ok hp k
theorem menu_ok {t : Str} (h : t ∈ menuT) : TxOk t := by
  have e : menuT.all (fun t => (PyData.strOk t && decide (t.length ≤ 40)) && !decide (10 ∈ TL.tl t)) = true := by decide +kernel
  have := List.all_eq_true.mp e t h
  rw [Bool.and_eq_true, Bool.and_eq_true] at this
  exact ⟨this.1.1, of_decide_eq_true this.1.2, by simpa using this.2⟩
theorem DeedFrom.ok {goods : List Ln} {d : Deed} (h : DeedFrom goods d) (g : ∀ l ∈ goods, LnOk l) : d.ok ∧ d.texts.length ≤ 3 := by
  cases h with
  | put a b ts ha hb ne h0 h1 ht =>
    refine ⟨⟨?_, ?_, fun t m => menu_ok (ht t m)⟩, h1⟩
    · rcases ha with rfl | ha
      · exact .inr (.inl rfl)
      · exact .inl (g a ha)
    · rcases hb with rfl | hb
      · exact .inr (.inr rfl)
      · exact .inl (g b hb)
  | order a b ha hb ne => exact ⟨⟨g a ha, g b hb⟩, Nat.zero_le _⟩
  | one k a ha => exact ⟨g a ha, Nat.zero_le _⟩
theorem PatFrom.nm {hands : List Str} {hist : List Pat} {p : Pat} (h : PatFrom hands hist p) (ho : HandsOk hands) (hl : hist.length ≤ 200) : NmOk p.name := by
  have c : countH hist p.name.1 ≤ hist.length := List.countP_le_length
  have := h.num
  exact ⟨ho _ h.hand, by omega, by omega⟩
theorem PatFrom.ok {hands : List Str} {hist : List Pat} {p : Pat} (h : PatFrom hands hist p) (ho : HandsOk hands) (hl : hist.length ≤ 200) (hn : ∀ q ∈ hist, NmOk q.name) : p.ok ∧ p.small := by
  have nm := h.nm ho hl
  have dd : ∀ d ∈ p.deeds, d.ok ∧ d.texts.length ≤ 3 := fun d hd => by
    obtain ⟨i, hi⟩ := List.mem_iff_getElem?.mp hd
    exact (h.deeds i d hi).ok (goods_ok hn nm)
  refine ⟨⟨nm, fun n m => ?_, fun d m => (dd d m).1⟩, ⟨h.four, h.three, fun d m => (dd d m).2⟩⟩
  obtain ⟨q, hq, rfl⟩ := h.there n m
  exact hn q hq
theorem HistFrom.nms {hands : List Str} {hist : List Pat} (h : HistFrom hands hist) (ho : HandsOk hands) (hl : hist.length ≤ 200) : ∀ q ∈ hist, NmOk q.name := by
  intro q hq
  obtain ⟨i, hi⟩ := List.mem_iff_getElem?.mp hq
  exact (h i q hi).nm ho (by rw [List.length_take]; omega)
theorem HistFrom.ok {hands : List Str} {hist : List Pat} (h : HistFrom hands hist) (ho : HandsOk hands) (hl : hist.length ≤ 100) : HistOk hist := by
  refine ⟨hl, fun q hq => ?_⟩
  obtain ⟨i, hi⟩ := List.mem_iff_getElem?.mp hq
  exact (h i q hi).ok ho (by rw [List.length_take]; omega) fun r hr => h.nms ho (by omega) r (List.mem_of_mem_take hr)
theorem HistFrom.snoc {hands : List Str} {hist : List Pat} {p : Pat} (h : HistFrom hands hist) (hp : PatFrom hands hist p) : HistFrom hands (hist ++ [p]) := by
  intro i q hi
  rcases Nat.lt_trichotomy i hist.length with hlt | heq | hgt
  · rw [List.getElem?_append_left hlt] at hi
    rw [List.take_append_of_le_length (Nat.le_of_lt hlt)]
    exact h i q hi
  · subst heq
    have e : q = p := by
      rw [List.getElem?_append_right (Nat.le_refl _), Nat.sub_self] at hi
      exact (Option.some.inj hi).symm
    subst e
    rw [List.take_left]
    exact hp
  · rw [List.getElem?_eq_none (by rw [List.length_append]; show hist.length + 1 ≤ i; omega)] at hi
    cases hi
/-- the names of a history differ -/
theorem HistFrom.nodup {hands : List Str} {hist : List Pat} (h : HistFrom hands hist) : (hist.map (·.name)).Nodup := by
  refine List.pairwise_iff_getElem.mpr fun i j hi hj hij e => ?_
  rw [List.length_map] at hi hj
  have e' : hist[i].name = hist[j].name := by simpa using e
  have h1 := (h i _ (List.getElem?_eq_getElem hi)).num
  have h2 := (h j _ (List.getElem?_eq_getElem hj)).num
  have c : countH (hist.take i) hist[i].name.1 + 1 ≤ countH (hist.take j) hist[i].name.1 := by
    have s : hist.take j = hist.take (i + 1) ++ (hist.drop (i + 1)).take (j - (i + 1)) := by
      conv => lhs; rw [show j = (i + 1) + (j - (i + 1)) by omega, List.take_add]
    have t : hist.take (i + 1) = hist.take i ++ [hist[i]] := by
      rw [List.take_add_one, List.getElem?_eq_getElem hi]
      rfl
    unfold countH
    have one : List.countP (fun p : Pat => decide (p.name.1 = hist[i].name.1)) [hist[i]] = 1 := by simp
    rw [s, List.countP_append, t, List.countP_append, one]
    omega
  rw [← e'] at h2
  omega
/-- a name to come is not there -/
theorem PatFrom.fresh {hands : List Str} {hist : List Pat} {p : Pat} (h : HistFrom hands hist) (hp : PatFrom hands hist p) : ∀ q ∈ hist, q.name ≠ p.name := by
  have n := (h.snoc hp).nodup
  rw [List.map_append, List.nodup_append] at n
  intro q hq z
  exact n.2.2 q.name (List.mem_map.mpr ⟨q, hq, rfl⟩) p.name (by simp) z

/-! names sorted -/
theorem leN_total : PySem.W.TotalLe fun (a b : V × Nm) => PySem.W.dataLe false (fun x : V × Nm => eN x.2) a b := PySem.W.sortLe_total _ _ _
theorem sorted_asc {qs : List (V × Nm)} (nd : (qs.map (·.2)).Nodup) : ((qs.mergeSort (PySem.W.dataLe false fun x : V × Nm => eN x.2)).map (·.2)).Pairwise fun a b => nmLt a b = true := by
  have T := leN_total
  have s := List.pairwise_mergeSort (le := PySem.W.dataLe false fun x : V × Nm => eN x.2) (fun a b c h1 h2 => T.trans a b c h1 h2) (fun a b => Bool.or_eq_true_iff.mpr (T.total a b)) qs
  have n2 : ((qs.mergeSort (PySem.W.dataLe false fun x : V × Nm => eN x.2)).map (·.2)).Nodup := ((List.mergeSort_perm qs _).map _).nodup_iff.mpr nd
  rw [List.pairwise_map]
  have n3 := List.pairwise_map.mp n2
  refine List.Pairwise.imp₂ ?_ s n3
  intro a b h1 h2
  have h1' : nmLt b.2 a.2 = false := by
    have : (!nmLt b.2 a.2) = true := h1
    simpa using this
  cases h3 : nmLt a.2 b.2 with
  | true => rfl
  | false => exact absurd (nmLt_total h3 h1') h2
end K1
set_option Elab.async false
set_option linter.all false
set_option maxRecDepth 100000
set_option maxHeartbeats 4000000
/-! The law's defs: a drawn patch. -/
namespace K1
open PySem PySem.Spec PyProof.Rows L2

section
variable {P : Program} {w : World} {K : PySem.W.Frag} {mg : Str → Option Value} {base : Heap} {T : Tp}

theorem Held.god {C : Addr → Bool} {T : Tp} {H H' : Hp} {d : Addr} (h : Held C H) (g : Go T (· = d) H H') (t : TG T H) (s : St H' d) : Held C H' := by
  intro a ha z
  exact h a ha (freeD g t s z)
theorem Held.go {C : Addr → Bool} {T : Tp} {H H' : Hp} (h : Held C H) (g : Go T D0 H H') (t : TG T H) : Held C H' := fun a ha z => h a ha (g.free t (fun z => z) z)
theorem Held.plus {C : Addr → Bool} {H : Hp} {p : Addr} {o : HO} (h : Held C H) (e : H p = some o) : Held (plus C p) H := by
  intro a ha z
  unfold K1.plus at ha
  rcases Bool.or_eq_true_iff.mp ha with h1 | h1
  · exact h a h1 z
  · rw [of_decide_eq_true h1, e] at z
    cases z
theorem Sub.plus {C : Addr → Bool} {H : Hp} {p : Addr} {o : HO} (h : H p = none) : Sub (K1.cut C H) (K1.cut (K1.plus C p) (upd H p o)) := by
  intro a u e k
  obtain ⟨e1, e2⟩ := cut_some e
  have n := ne_of_none e2 h
  rw [cut_at (plus_no e1 n), upd_ne n]
  exact e2
def menuH : List Str := ["b", "abe", "cy"]
theorem menuH_ok : HandsOk menuH := by
  have e : menuH.all (fun h => handV (.str h)) = true := by decide +kernel
  exact fun h m => List.all_eq_true.mp e h m
def spPatch (K : PySem.W.Frag) (T : Tp) : Sp := fun vs H Q _ => ∃ (h : V) (d : Addr) (hist : List Pat) (C : Addr → Bool), vs = [h, .ref d] ∧ St H d ∧ HistAt K C H h hist ∧ HistFrom menuH hist ∧ hist.length ≤ 100 ∧ Held C H ∧ TG T H ∧
  ∀ H' v p, Go T (· = d) H H' → St H' d → Dp K (cut C H') v (eP p) → PatFrom menuH hist p → Q v H'
theorem ok_lpatch {f : Addr} {fd : FuncData} {k : Nat} (F : Fun K "_law_patch" "_law_patch" sLPatch f fd) (M : Mg K mg) (hs : mg "sorted" = none) (cD : Cal P w K mg base k "_law_digit" ["_law_state", "_law_many"] spDigit)
    (cL : Cal P w K mg base k "_law_lines" ["_law_history_here", "_law_names"] (spLines K T)) (cK : Cal P w K mg base k "_law_known" ["_law_history_here", "_law_knows"] (spKnown K T)) (cDe : Cal P w K mg base k "_law_deed" ["_law_state", "_law_goods"] (spDeed K T)) :
    FnOk P w K mg base CX0 (k + 1) f fd ["_law_history_here", "_law_state"] (spPatch K T) := by
  refine F.ok scLPatch (fun vs H Q E h => ?_) (fun cdv A outer s H vs Q E hr h => ?_)
  · obtain ⟨h, d, hist, C, rfl, _⟩ := h
    rfl
  · obtain ⟨hv, d, hist, C, rfl, st, hh, hfr, hlen, held, tg, q⟩ := h
    refine ⟨_, (pss_cons (ps_set (i := 2) scLPatch.nd rfl (.inr rfl) (pe_ix ix_list (pe_lst (pa_cons pe_str (pa_cons pe_str (pa_cons pe_str pa_nil)))) (pe_cal cD hr (by rfl) (pa_cons (pv 1) (pa_cons pe_int pa_nil))) (fun _ _ => rfl)))
      (pss_cons (ps_set (i := 6) scLPatch.nd rfl (.inr rfl) (pe_tup (pa_cons (pv 2) (pa_cons (pe_op op_add pe_int (pe_callB call_len_seq (by rfl) M.len_ PySem.boot_len (pa_cons (pe_lc (own := [("_law_one", 3), ("_law_knows", 4), ("_law_deeds", 5)]) (g := (gTup K 3 (gCons (gName 3) (gCons (gName 4) (gCons (gName 5) gNil))))) rfl scLPatch.nd (pi_list (pv 0)) (blkOk_by (N := ["_law_history_here", "_law_state", "_law_hand", "_law_one", "_law_knows", "_law_deeds", "_law_name", "_law_own", "_law_line", "_law_text", "_law_goods", "_law_many", "_law_k", "_law_deed_here", "_law_j"]) (sc := defScope sLPatch) (by decide +kernel)) (fun _ _ _ _ _ => (pg_tup rfl (pgs_cons (pg_name (i := 3) scLPatch.nd rfl (Or.inl rfl)) (pgs_cons (pg_name (i := 4) scLPatch.nd rfl (Or.inl rfl)) (pgs_cons (pg_name (i := 5) scLPatch.nd rfl (Or.inl rfl)) pgs_nil))))) (fun _ _ _ _ _ => (pts_one (pt_cmpR op_eq (pe_ix (show IxR _ (rIxT K) from ix_tup) (pv 3) pe_int (fun _ _ => rfl)) (pv 2) (nomark _)))) (fun _ _ _ _ _ => (pv 3))) pa_nil))) pa_nil))))
      (pss_cons (ps_set (i := 4) scLPatch.nd rfl (.inl rfl) (pe_callB (cr_sortedD hr.units) (by rfl) hs (by decide +kernel) (pa_cons (pe_lc (own := [("_law_one", 3), ("_law_own", 7), ("_law_deeds", 5)]) (g := (gTup K 3 (gCons (gName 3) (gCons (gName 7) (gCons (gName 5) gNil))))) rfl scLPatch.nd (pi_list (pe_slice sl_list (pv 0) (po_some (pe_un un_neg pe_int)) po_none)) (blkOk_by (N := ["_law_history_here", "_law_state", "_law_hand", "_law_one", "_law_knows", "_law_deeds", "_law_name", "_law_own", "_law_line", "_law_text", "_law_goods", "_law_many", "_law_k", "_law_deed_here", "_law_j"]) (sc := defScope sLPatch) (by decide +kernel)) (fun _ _ _ _ _ => (pg_tup rfl (pgs_cons (pg_name (i := 3) scLPatch.nd rfl (Or.inl rfl)) (pgs_cons (pg_name (i := 7) scLPatch.nd rfl (Or.inl rfl)) (pgs_cons (pg_name (i := 5) scLPatch.nd rfl (Or.inl rfl)) pgs_nil))))) (fun _ _ _ _ _ => (pts_one (pt_cmpR op_eq (pe_cal cD hr (by rfl) (pa_cons (pv 1) (pa_cons pe_int pa_nil))) pe_int (nomark _)))) (fun _ _ _ _ _ => (pv 3))) pa_nil)))
      (pss_cons (ps_setLc (i := 10) (own := [("_law_line", 8), ("_law_text", 9)]) (g := (gTup K 2 (gCons (gName 8) (gCons (gName 9) gNil)))) (tt := tYes) rfl scLPatch.nd rfl rfl (sw_true rfl rfl rfl (by decide +kernel)) (pi_list (pe_cal cL hr (by rfl) (pa_cons (pv 0) (pa_cons (pe_cal cK hr (by rfl) (pa_cons (pv 0) (pa_cons (pv 4) pa_nil))) pa_nil)))) (blkOk_by (N := ["_law_history_here", "_law_state", "_law_hand", "_law_one", "_law_knows", "_law_deeds", "_law_name", "_law_own", "_law_line", "_law_text", "_law_goods", "_law_many", "_law_k", "_law_deed_here", "_law_j"]) (sc := defScope sLPatch) (by decide +kernel)) (fun _ _ _ _ _ => (pg_tup rfl (pgs_cons (pg_name (i := 8) scLPatch.nd rfl (Or.inl rfl)) (pgs_cons (pg_name (i := 9) scLPatch.nd rfl (Or.inl rfl)) pgs_nil)))) (fun _ _ _ _ _ => pts_nil) (fun _ _ _ _ _ => (pv 8)))
      (pss_cons (ps_set (i := 5) scLPatch.nd rfl (.inl rfl) (pe_lst pa_nil))
      (pss_cons (ps_set (i := 11) scLPatch.nd rfl (.inr rfl) pe_int)
      (pss_cons (ps_for PassesOwn.never rfl (pi_range1 (by rfl) M.range_ (pa_cons (pe_op op_add pe_int (pe_cal cD hr (by rfl) (pa_cons (pv 1) (pa_cons pe_int pa_nil)))) pa_nil)) (pg_name (i := 12) scLPatch.nd rfl (.inl rfl))
      (pss_cons (ps_set (i := 13) scLPatch.nd rfl (.inl rfl) (pe_cal cDe hr (by rfl) (pa_cons (pv 1) (pa_cons (pv 10) pa_nil))))
      (pss_cons (ps_if (pt_cmpR op_eq (pe_ix ix_tup (pv 13) pe_int (fun _ _ => rfl)) pe_str (nomark _))
      (pss_cons (ps_set (i := 10) scLPatch.nd rfl (.inl rfl) (pe_op op_cat (pv 10) (pe_lc (own := [("_law_j", 14)]) (g := gName 14) (tt := tYes) rfl scLPatch.nd (pi_range1 (by rfl) M.range_ (pa_cons (pe_callB call_len_seq (by rfl) M.len_ PySem.boot_len (pa_cons (pe_ix ix_tup (pv 13) pe_int (fun _ _ => rfl)) pa_nil)) pa_nil)) (blkOk_by (N := ["_law_history_here", "_law_state", "_law_hand", "_law_one", "_law_knows", "_law_deeds", "_law_name", "_law_own", "_law_line", "_law_text", "_law_goods", "_law_many", "_law_k", "_law_deed_here", "_law_j"]) (sc := defScope sLPatch) (by decide +kernel)) (fun _ _ _ _ _ => (pg_name (i := 14) scLPatch.nd rfl (Or.inl rfl))) (fun _ _ _ _ _ => pts_nil) (fun _ _ _ _ _ => (pe_op (show OpR _ _ (rCatA K) from op_catA) (pv 6) (pe_tup (pa_cons (pe_op op_add (pe_op op_add (pv 11) (pv 14)) pe_int) pa_nil)))))))
      (pss_one (ps_set (i := 11) scLPatch.nd rfl (.inr rfl) (pe_op op_add (pv 11) (pe_callB call_len_seq (by rfl) M.len_ PySem.boot_len (pa_cons (pe_ix ix_tup (pv 13) pe_int (fun _ _ => rfl)) pa_nil))))))
      pss_nil)
      (pss_one (ps_expr (pe_bm PySem.F.plainAttrs_list PySem.F.slot_list_append PySem.F.type_list_append mt_append (pv 5) (pa_cons (pv 13) pa_nil)))))))
      (pss_one (ps_ret (pe_tup (pa_cons (pv 6) (pa_cons (pv 4) (pa_cons (pv 5) pa_nil))))))))))))), ?_⟩
    have toG : ∀ {H'}, Go T (· = d) H H' → Sub H H' := fun g => st.sub g tg
    obtain ⟨a, xs, rfl, hS, hD⟩ := hh
    have hok := hfr.ok menuH_ok hlen
    have xlen : xs.length = hist.length := by rw [DpAll.len hD, List.length_map]
    have toC : ∀ {H'}, Go T (· = d) H H' → Sub (cut C H) (cut C H') := fun g => (toG g).cuts
    have toH : ∀ {H'}, Go T (· = d) H H' → Sub (cut C H) H' := fun g => (toC g).trans Sub.cut
    have hist' : ∀ {H'}, Go T (· = d) H H' → HistAt K C H' (.ref a) hist := fun g => ⟨a, xs, rfl, (toG g).seqL hS, Dp.subs (toC g) _ _ hD⟩
    have sm3 : 3 ≤ sizeLine := small_le (by decide)
    have sm2 : 2 ≤ sizeLine := small_le (by decide)
    -- the hand
    refine ⟨sm3, fun m hm => ?_⟩
    have g1 : Go T (· = d) H (upd H m (.lst [V.str "b", .str "abe", .str "cy"])) := (Go.rfl' tg).new hm
    have s1 : St (upd H m (.lst [V.str "b", .str "abe", .str "cy"])) d := st.new hm
    have em : (upd H m (.lst [V.str "b", .str "abe", .str "cy"])) m = some (.lst (menuH.map V.str)) := upd_same
    generalize upd H m (.lst [V.str "b", .str "abe", .str "cy"]) = H1 at g1 s1 em ⊢
    obtain ⟨a1, b1, p1, q1, ed1⟩ := _root_.id s1
    refine ⟨.ref d, rfl, d, a1, b1, 3, rfl, ed1, p1, q1, by decide, by decide, dg g1.1 ed1 fun rh H2 rh0 rh1 g12 s2 => ?_⟩
    obtain ⟨hand, hhand, hath⟩ := atI_int (xs := menuH) (j := rh) rh0 rh1
    have hathv : atI (menuH.map V.str) rh = some (.str hand) := by
      have := atI_nat (xs := menuH.map V.str) (j := rh.toNat) (v := .str hand) (by rw [List.getElem?_map, hhand]; rfl)
      rwa [show ((rh.toNat : Nat) : Int) = rh by omega] at this
    have hmem : hand ∈ menuH := List.mem_of_getElem? hhand
    have g2 := g1.trans g12
    refine ⟨m, _, rh, .str hand, rfl, rfl, .inl (.inl (g12.at g1.1 (s1.ne em) em)), hathv, ?_⟩
    -- the name
    refine ⟨.str hand, rfl, .ref a, rfl, a, rfl, ⟨xs, (toG g2).seqL hS⟩, fun D hD' => ?_⟩
    refine lc_list (K := K) (a := a) (xs := xs) (fun i H3 => Go T D0 H2 H3 ∧ ∃ acc, H3 D = some (.lst acc) ∧ acc.length = countH (hist.take i) hand) ?_ ?_ ?_ ?_
    · exact ⟨(Go.rfl' g2.1).new hD', [], upd_same, rfl⟩
    · rintro i H3 hi ⟨g3, _⟩
      exact (toG (g2.trans g3.up)).seqL hS
    · rintro i v H3 hv ⟨g3, acc, eD, hacc⟩
      obtain ⟨d', hd', hv'⟩ := DpAll.at' hD hv
      obtain ⟨pat, hpat, rfl⟩ := at_map hd'
      obtain ⟨av, _, rfl, sv, dv⟩ := Dp.tupI hv'
      obtain ⟨vn, vk, vd, rfl, dn, dk, dd⟩ := DpAll.i3 dv
      obtain ⟨an, _, rfl, sn, dn2⟩ := Dp.tupI dn
      obtain ⟨u1, u2, rfl, du1, du2⟩ := DpAll.i2 dn2
      cases Dp.strI du1
      cases Dp.intI du2
      have gg := g2.trans g3.up
      have cs : countH (hist.take (i + 1)) hand = countH (hist.take i) hand + countH [pat] hand := by
        unfold countH
        rw [List.take_add_one, hpat, List.countP_append]
        rfl
      have cl : countH (hist.take i) hand ≤ 100 := Nat.le_trans List.countP_le_length (by rw [List.length_take]; omega)
      refine ⟨av, _, rfl, (toH gg).seqT sv, rfl, _, _, rfl, _, _, rfl, _, _, rfl, rfl, rfl, ?_⟩
      refine ⟨.ref an, rfl, an, _, 0, .str pat.name.1, rfl, rfl, (toH gg).seqT sn, atI_nat (j := 0) rfl, .str hand, rfl, rfl, _, rfl, ite2 (fun e => ?_) (fun e => ?_)⟩
      · have e' : pat.name.1 = hand := V.str.inj (of_decide_eq_true e)
        refine ⟨.ref an, rfl, acc, eD, small_line (by omega), g3.put hD' eD, acc ++ [.ref an], upd_same, ?_⟩
        rw [List.length_append, hacc, cs]
        unfold countH
        simp [e']
      · have e' : ¬ pat.name.1 = hand := fun z => e (decide_eq_true (by rw [z]))
        refine ⟨g3, acc, eD, ?_⟩
        rw [hacc, cs]
        unfold countH
        simp [e']
    · rintro H3 ⟨g3, acc, eD, hacc⟩
      rw [xlen, List.take_length] at hacc
      refine ⟨D, acc, rfl, .inl (.inl (.inl eD)), 1, _, rfl, rfl, sm2, fun nm hnm => ?_⟩
      have g23 : Go T (· = d) H H3 := g2.trans g3.up
      have s3 := s2.go g3 g2.1
      have Cnm : C nm = false := held.no (freeD g23 tg s3 hnm)
      rw [hacc]
      have g4 := g23.new (o := .tup [V.str hand, .int (1 + (countH hist hand : Nat))]) hnm
      have s4 := s3.new (o := .tup [V.str hand, .int (1 + (countH hist hand : Nat))]) hnm
      have enm : (upd H3 nm (.tup [V.str hand, .int (1 + (countH hist hand : Nat))])) nm = some (.tup [V.str hand, .int (1 + (countH hist hand : Nat))]) := upd_same
      generalize upd H3 nm (.tup [V.str hand, .int (1 + (countH hist hand : Nat))]) = H4 at g4 s4 enm ⊢
      -- what is known directly
      have cut4 : cutV xs (some (-4)) none = xs.drop (xs.length - 4) := by
        have e1 : HT.sIx xs.length 0 (some (-4)) = xs.length - 4 := by
          show (if (-4 : Int) < 0 then ((-4 : Int) + (xs.length : Int)).toNat else min (-4 : Int).toNat xs.length) = _
          rw [if_pos (by decide)]
          omega
        unfold cutV
        rw [e1, HT.sIx_none]
        exact List.take_of_length_le (by rw [List.length_drop]; omega)
      refine ⟨.ref a, rfl, (4 : Int), rfl, (-4 : Int), rfl, a, xs, rfl, (toG g4).seqL hS, fun s hs' => ?_⟩
      rw [cut4]
      have g5 := g4.new (o := .lst (xs.drop (xs.length - 4))) hs'
      have s5 := s4.new (o := .lst (xs.drop (xs.length - 4))) hs'
      have enm5 := (upd_ne (o := .lst (xs.drop (xs.length - 4))) (ne_of_none enm hs')).trans enm
      have es : (upd H4 s (.lst (xs.drop (xs.length - 4)))) s = some (.lst (xs.drop (xs.length - 4))) := upd_same
      generalize upd H4 s (.lst (xs.drop (xs.length - 4))) = H5 at g5 s5 enm5 es ⊢
      refine ⟨s, rfl, ⟨_, .inl (.inl es)⟩, fun D2 hD2 => ?_⟩
      have dT : DpAll K (cut C H) (xs.drop (xs.length - 4)) ((hist.drop (xs.length - 4)).map eP) := by
        rw [List.map_drop]
        exact hD.drop _
      refine lc_list (K := K) (a := s) (xs := xs.drop (xs.length - 4)) (fun i H6 => ∃ qs : List (V × Nm), Go T (· = d) H5 H6 ∧ St H6 d ∧ H6 D2 = some (.lst (qs.map (·.1))) ∧ (∀ x ∈ qs, Dp K (cut C H) x.1 (eN x.2)) ∧ (qs.map (·.2)).Sublist (((hist.drop (xs.length - 4)).take i).map (·.name)) ∧ qs.length ≤ i) ?_ ?_ ?_ ?_
      · exact ⟨[], (Go.rfl' g5.1).new hD2, s5.new hD2, upd_same, (fun x hx => by cases hx), .slnil, Nat.le_refl _⟩
      · rintro i H6 hi ⟨qs, g6, s6, _⟩
        exact .inl (.inl (g6.at g5.1 (s5.ne es) es))
      · rintro i v H6 hv ⟨qs, g6, s6, eD, hqs, hsub, hql⟩
        obtain ⟨d', hd', hv'⟩ := DpAll.at' dT hv
        obtain ⟨pat, hpat, rfl⟩ := at_map hd'
        obtain ⟨av, _, rfl, sv, dv⟩ := Dp.tupI hv'
        obtain ⟨vn, vk, vd, rfl, dn, dk, dd⟩ := DpAll.i3 dv
        have hi : i < (xs.drop (xs.length - 4)).length := (List.getElem?_eq_some_iff.mp hv).1
        rw [List.length_drop] at hi
        have ts : ((hist.drop (xs.length - 4)).take (i + 1)).map (·.name) = ((hist.drop (xs.length - 4)).take i).map (·.name) ++ [pat.name] := by
          rw [List.take_add_one, hpat, List.map_append]
          rfl
        obtain ⟨a6, b6, p6, q6, ed6⟩ := _root_.id s6
        refine ⟨av, _, rfl, (toH (g5.trans g6)).seqT sv, rfl, _, _, rfl, _, _, rfl, _, _, rfl, rfl, rfl, ?_⟩
        refine ⟨.ref d, rfl, d, a6, b6, 2, rfl, ed6, p6, q6, by decide, by decide, dg g6.1 ed6 fun rz H7 rz0 rz1 g67 s7 => ?_⟩
        have eD7 := g67.at g6.1 (s6.ne eD) eD
        refine ⟨rfl, _, rfl, ite2 (fun e => ?_) (fun e => ?_)⟩
        · refine ⟨vn, rfl, qs.map (·.1), eD7, small_line (by rw [List.length_map]; omega), qs ++ [(vn, pat.name)], (g6.trans g67).put hD2 eD7, s7.put eD7, by rw [upd_same, List.map_append]; rfl, fun x hx => ?_, ?_, by rw [List.length_append]; show qs.length + 1 ≤ i + 1; omega⟩
          · rcases List.mem_append.mp hx with h | h
            · exact hqs x h
            · rw [List.mem_singleton.mp h]
              exact dn
          · rw [ts, List.map_append]
            exact List.Sublist.append hsub (List.Sublist.refl _)
        · refine ⟨qs, g6.trans g67, s7, eD7, hqs, ?_, by omega⟩
          rw [ts]
          exact hsub.trans (List.sublist_append_left _ _)
      · rintro H6 ⟨qs, g6, s6, eD, hqs, hsub, hql⟩
        have hsub' : (qs.map (·.2)).Sublist (hist.map (·.name)) := by
          refine hsub.trans ?_
          exact List.Sublist.map _ ((List.take_sublist _ _).trans (List.drop_sublist _ _))
        have hq4 : qs.length ≤ 4 := by
          rw [List.length_drop] at hql
          omega
        clear hsub hql
        have nd : (qs.map (·.2)).Nodup := hfr.nodup.sublist hsub'
        have asc := sorted_asc nd
        have mp : ∀ x, x ∈ qs.mergeSort (PySem.W.dataLe false fun x : V × Nm => eN x.2) ↔ x ∈ qs := fun x => (List.mergeSort_perm qs _).mem_iff
        have ml : (qs.mergeSort (PySem.W.dataLe false fun x : V × Nm => eN x.2)).length = qs.length := (List.mergeSort_perm qs _).length_eq
        have mm : ((qs.map fun x => (x.1, eN x.2)).mergeSort (PySem.W.dataLe false (·.2))).map (·.1) = (qs.mergeSort (PySem.W.dataLe false fun x : V × Nm => eN x.2)).map (·.1) := by
          rw [← List.map_mergeSort (r := PySem.W.dataLe false fun x : V × Nm => eN x.2) (s := PySem.W.dataLe false (·.2)) (f := fun x : V × Nm => (x.1, eN x.2)) (l := qs) (fun a _ b _ => rfl), List.map_map]
          rfl
        refine ⟨D2, qs.map (fun x => (x.1, eN x.2)), rfl, .inl (.inl (by rw [List.map_map]; exact eD)), ?_, ?_, ?_, ?_, fun l hl => ?_⟩
        · intro p hp
          obtain ⟨x, hx, rfl⟩ := List.mem_map.mp hp
          exact Dp.sub (toH (g5.trans g6)) _ _ (hqs x hx)
        · rw [List.map_map]
          exact PySem.W.AllAlike.of (enc := fun x : V × Nm => eN x.2) fun a b => eN_alike _ _
        · rw [List.map_map]
          exact PySem.W.Sortable.tuples (enc := fun x : V × Nm => eN x.2) fun b => ⟨_, _, rfl⟩
        · intro p hp
          obtain ⟨x, hx, rfl⟩ := List.mem_map.mp hp
          rw [show ((x.1, eN x.2) : V × PyData).2 = eN x.2 from rfl, eN_dep]
          decide
        rw [mm]
        generalize hsq : qs.mergeSort (PySem.W.dataLe false fun x : V × Nm => eN x.2) = sq at asc mp ml ⊢
        have g07 := (g5.trans g6).new (o := .lst (sq.map (·.1))) hl
        have s7 := s6.new (o := .lst (sq.map (·.1))) hl
        have enm7 := (upd_ne (o := .lst (sq.map (·.1))) (ne_of_none (g6.at g5.1 (s5.ne enm5) enm5) hl)).trans (g6.at g5.1 (s5.ne enm5) enm5)
        have el : (upd H6 l (.lst (sq.map (·.1)))) l = some (.lst (sq.map (·.1))) := upd_same
        have Cl : C l = false := held.no (freeD (g5.trans g6) tg s6 hl)
        generalize upd H6 l (.lst (sq.map (·.1))) = H7 at g07 s7 enm7 el ⊢
        have dsq : ∀ (l : List (V × Nm)), (∀ x ∈ l, x ∈ qs) → DpAll K (cut C H) (l.map (·.1)) ((l.map (·.2)).map eN) := by
          intro l
          induction l with
          | nil => intro _; exact .nil
          | cons x r ih => exact fun h => .cons (hqs x (h x (List.mem_cons_self ..))) (ih fun y m => h y (List.mem_cons_of_mem _ m))
        have dks := dsq sq fun x hx => (mp x).mp hx
        have kn : ∀ n ∈ sq.map (·.2), ∃ q ∈ hist, q.name = n := by
          intro n hn
          obtain ⟨x, hx, rfl⟩ := List.mem_map.mp hn
          have h2 : x.2 ∈ qs.map (·.2) := List.mem_map.mpr ⟨x, (mp x).mp hx, rfl⟩
          obtain ⟨q, hq, e⟩ := List.mem_map.mp (hsub'.subset h2)
          exact ⟨q, hq, e⟩
        have kl : (sq.map (·.2)).length ≤ 4 := by rw [List.length_map, ml]; exact hq4
        generalize sq.map (·.2) = knows at asc dks kn kl
        generalize sq.map (·.1) = ks at el dks ⊢
        clear mm dsq mp ml nd hsub' hqs eD
        have nmok := hfr.nms menuH_ok (by omega)
        have knok : ∀ n ∈ knows, NmOk n := fun n hn => by
          obtain ⟨q, hq, rfl⟩ := kn n hn
          exact nmok q hq
        have nmOwn : NmOk (hand, 1 + (countH hist hand : Nat)) := by
          have c : countH hist hand ≤ hist.length := List.countP_le_length
          exact ⟨menuH_ok _ hmem, by show (1 : Int) ≤ 1 + (countH hist hand : Nat); omega, by show 1 + ((countH hist hand : Nat) : Int) ≤ 999; omega⟩
        -- the good lines
        refine ⟨.ref a, rfl, .ref a, rfl, .ref l, rfl, .ref a, l, ks, hist, knows, C, rfl, hist' g07, hok, .inl (.inl el), Dp.subs (toC g07) _ _ dks, knok, by omega, held.god g07 tg s7, g07.1, fun H8 p8 xs8 g78 _ e8 d8 => ?_⟩
        have g08 := g07.trans g78.up
        have s8 := s7.go g78 g07.1
        have knok2 := knownIn_ok (hist := hist) knok (l := hist.reverse) (fun p m => (hok.each p (List.mem_reverse.mp m)).1) (found := knows) knok
        refine ⟨.ref a, .ref p8, hist, knownIn hist knows, C, rfl, hist' g08, hok, .lst (.inl (.inl e8)) (Dp.subs Sub.cut _ _ d8), knok2, held.god g08 tg s8, g08.1, fun H9 p9 xs9 g89 _ e9 d9 => ?_⟩
        have g09 := g08.trans g89.up
        have s9 := s8.go g89 g08.1
        have llen := linesIn_len (names := knownIn hist knows) (hist := hist) fun p m => (hok.each p m).2
        refine ⟨p9, rfl, ⟨_, .inl (.inl e9)⟩, fun D3 hD3 => ?_⟩
        have enm9 := g89.at g08.1 (fun z => z) (g78.at g07.1 (fun z => z) enm7)
        have el9 := g89.at g08.1 (fun z => z) (g78.at g07.1 (fun z => z) el)
        refine lc_list (K := K) (a := p9) (xs := xs9) (fun i H10 => Go T D0 H9 H10 ∧ ∃ acc, H10 D3 = some (.lst acc) ∧ acc.length = i ∧ DpAll K (cut C H9) acc (((linesIn hist (knownIn hist knows)).take i).map fun x => eL x.1)) ?_ ?_ ?_ ?_
        · exact ⟨(Go.rfl' g09.1).new hD3, [], upd_same, rfl, .nil⟩
        · rintro i H10 hi ⟨g10, _⟩
          exact .inl (.inl (g10.at g09.1 (fun z => z) e9))
        · rintro i v H10 hv ⟨g10, acc, eD, hacc, hda⟩
          obtain ⟨d', hd', hv'⟩ := DpAll.at' d9 hv
          obtain ⟨x, hx, rfl⟩ := at_map hd'
          obtain ⟨ax, _, rfl, sx, dx⟩ := Dp.tupI hv'
          obtain ⟨x1, x2, rfl, dx1, dx2⟩ := DpAll.i2 dx
          have hi : i < xs9.length := (List.getElem?_eq_some_iff.mp hv).1
          have l9 : xs9.length ≤ 900 := by rw [DpAll.len d9, List.length_map]; omega
          refine ⟨ax, _, rfl, ((sub_go g10 g09.1).seqT (Sub.cut.seqT sx)), rfl, _, _, rfl, _, _, rfl, rfl, rfl, ?_⟩
          refine ⟨x1, rfl, acc, eD, small_line (by omega), g10.put hD3 eD, acc ++ [x1], upd_same, by rw [List.length_append, hacc]; rfl, ?_⟩
          rw [List.take_add_one, hx, List.map_append]
          exact hda.app (.one dx1)
        · rintro H10 ⟨g10, gs0, eD, hgl, hgs⟩
          have l9 : xs9.length = (linesIn hist (knownIn hist knows)).length := by rw [DpAll.len d9, List.length_map]
          rw [l9, List.take_length] at hgs
          have g010 := g09.trans g10.up
          have s10 := s9.go g10 g09.1
          have enm10 := g10.at g09.1 (fun z => z) enm9
          have el10 := g10.at g09.1 (fun z => z) el9
          -- the deeds
          refine ⟨Nat.zero_le _, fun de hde => ?_⟩
          have Cde : C de = false := held.no (freeD g010 tg s10 hde)
          have g11 := g010.new (o := .lst []) hde
          have s11 := s10.new (o := .lst []) hde
          have enm11 := (upd_ne (o := .lst []) (ne_of_none enm10 hde)).trans enm10
          have el11 := (upd_ne (o := .lst []) (ne_of_none el10 hde)).trans el10
          have eg11 := (upd_ne (o := .lst []) (ne_of_none eD hde)).trans eD
          have ede : (upd H10 de (.lst [])) de = some (.lst []) := upd_same
          have hgs11 : DpAll K (cut (plus C de) (upd H10 de (.lst []))) gs0 ((goodsAt hist ⟨(hand, 1 + (countH hist hand : Nat)), knows, []⟩ 0).map eL) := by
            have e : (goodsAt hist ⟨(hand, 1 + (countH hist hand : Nat)), knows, []⟩ 0).map eL = (linesIn hist (knownIn hist knows)).map fun x => eL x.1 := by
              unfold goodsAt ownLines
              rw [List.range_zero, List.map_nil, List.append_nil, List.map_map]
              rfl
            rw [e]
            exact Dp.subs ((sub_go g10 g09.1).cuts.trans (Sub.plus hde)) _ _ hgs
          have held11 : Held (plus C de) (upd H10 de (.lst [])) := (held.god g11 tg s11).plus ede
          generalize upd H10 de (.lst []) = H11 at g11 s11 enm11 el11 eg11 ede hgs11 held11 ⊢
          obtain ⟨a11, b11, p11, q11, ed11⟩ := _root_.id s11
          refine ⟨.ref d, rfl, d, a11, b11, 3, rfl, ed11, p11, q11, by decide, by decide, dg g11.1 ed11 fun rd H12 rd0 rd1 g1112 s12 => ?_⟩
          refine ⟨1, rd, rfl, rfl, 1 + rd, rfl, by omega, by omega, ?_⟩
          have hfree : H de = none := freeD g010 tg s10 hde
          have nle : l ≠ de := ne_of_none el10 hde
          have nge : D3 ≠ de := ne_of_none eD hde
          have g012 := g11.trans g1112
          have en12 := g1112.at g11.1 (s11.ne enm11) enm11
          have el12 := g1112.at g11.1 (s11.ne el11) el11
          have eg12 := g1112.at g11.1 (s11.ne eg11) eg11
          have ed12 := g1112.at g11.1 (s11.ne ede) ede
          have hgs12 := Dp.subs (s11.sub g1112 g11.1).cuts _ _ hgs11
          generalize hown : ((hand, 1 + (countH hist hand : Nat)) : Nm) = own at nmOwn hgs12
          have enm12 : H12 nm = some (.tup [V.str own.1, .int own.2]) := by rw [← hown]; exact en12
          refine for_range (lo := 0) (n := (1 + rd).toNat) (fun i σ H13 => ∃ (gl : Addr) (gs dv : List V) (deeds : List Deed) (many : Nat) (y12 y13 : Option V),
            σ = [some (.ref a), some (.ref d), some (.str hand), none, some (.ref l), some (.ref de), some (.ref nm), none, none, none, some (.ref gl), some (.int (many : Nat)), y12, y13, none] ∧ Go T (· = d) H H13 ∧ St H13 d ∧ H13 nm = some (.tup [V.str own.1, .int own.2]) ∧ H13 l = some (.lst ks) ∧
            gl ≠ de ∧ H13 gl = some (.lst gs) ∧ DpAll K (cut (plus C de) H13) gs ((goodsAt hist ⟨own, knows, []⟩ many).map eL) ∧ H13 de = some (.lst dv) ∧ DpAll K (cut (plus C de) H13) dv (deeds.map K1.eD) ∧ deeds.length = i ∧ many = (deeds.flatMap Deed.texts).length ∧ many ≤ 3 * i ∧
            ∀ j dd, deeds[j]? = some dd → DeedFrom (goodsAt hist ⟨own, knows, []⟩ (manyAt deeds j)) dd) ?_ ?_ ?_
          · exact ⟨D3, gs0, [], [], 0, none, none, rfl, g012, s12, enm12, el12, nge, eg12, hgs12, ed12, .nil, rfl, rfl, Nat.zero_le _, fun j dd h => by cases h⟩
          · rintro i σ H13 hi ⟨gl, gs, dv, deeds, many, y12, y13, rfl, g13, s13, en, el', ng, eg, hgs', ed, hdv, hdl, hmany, hml, hdf⟩
            have gok := goods_ok (p := ⟨own, knows, []⟩) (many := many) nmok nmOwn
            have gl5 : (goodsAt hist ⟨own, knows, []⟩ many).length ≤ 5000 := by
              unfold goodsAt ownLines
              rw [List.length_append, List.length_map, List.length_map, List.length_range]
              show (linesIn hist (knownIn hist knows)).length + many ≤ 5000
              omega
            refine ⟨.ref d, rfl, .ref gl, rfl, d, gl, gs, goodsAt hist ⟨own, knows, []⟩ many, plus C de, rfl, s13, eg, hgs', gok, gl5, (held.god g13 tg s13).plus ed, g13.1, fun H14 v deed g1314 s14 dpv hfrom => ?_⟩
            have dok := hfrom.ok gok
            have g14 := g13.trans g1314
            have en14 := g1314.at g13.1 (s13.ne en) en
            have el14 := g1314.at g13.1 (s13.ne el') el'
            have eg14 := g1314.at g13.1 (s13.ne eg) eg
            have ed14 := g1314.at g13.1 (s13.ne ed) ed
            have hgs14 := Dp.subs (s13.sub g1314 g13.1).cuts _ _ hgs'
            have hdv14 := Dp.subs (s13.sub g1314 g13.1).cuts _ _ hdv
            obtain ⟨a', k', r, rfl, S', hcase⟩ := txt_of dpv
            have dvl : dv.length = deeds.length := by rw [DpAll.len hdv, List.length_map]
            have fin : ∀ (H15 : Hp) (gl' : Addr) (gs' : List V) (m' : Int) (y12 : Option V), Go T D0 H14 H15 → gl' ≠ de → H15 gl' = some (.lst gs') → DpAll K (cut (plus C de) H15) gs' ((goodsAt hist ⟨own, knows, []⟩ (many + deed.texts.length)).map eL) → m' = ((many + deed.texts.length : Nat) : Int) →
              ∃ (gl : Addr) (gs dv' : List V) (deeds : List Deed) (many : Nat) (y12' y13 : Option V),
              [some (.ref a), some (.ref d), some (.str hand), none, some (.ref l), some (.ref de), some (.ref nm), none, none, none, some (.ref gl'), some (.int m'), y12, some (.ref a'), none] = [some (.ref a), some (.ref d), some (.str hand), none, some (.ref l), some (.ref de), some (.ref nm), none, none, none, some (V.ref gl), some (.int (many : Nat)), y12', y13, none] ∧
              Go T (· = d) H (upd H15 de (.lst (dv ++ [.ref a']))) ∧ St (upd H15 de (.lst (dv ++ [.ref a']))) d ∧ (upd H15 de (.lst (dv ++ [.ref a']))) nm = some (.tup [V.str own.1, .int own.2]) ∧ (upd H15 de (.lst (dv ++ [.ref a']))) l = some (.lst ks) ∧
              gl ≠ de ∧ (upd H15 de (.lst (dv ++ [.ref a']))) gl = some (.lst gs) ∧ DpAll K (cut (plus C de) (upd H15 de (.lst (dv ++ [.ref a'])))) gs ((goodsAt hist ⟨own, knows, []⟩ many).map eL) ∧ (upd H15 de (.lst (dv ++ [.ref a']))) de = some (.lst dv') ∧ DpAll K (cut (plus C de) (upd H15 de (.lst (dv ++ [.ref a'])))) dv' (deeds.map K1.eD) ∧ deeds.length = i + 1 ∧ many = (deeds.flatMap Deed.texts).length ∧ many ≤ 3 * (i + 1) ∧
              ∀ j dd, deeds[j]? = some dd → DeedFrom (goodsAt hist ⟨own, knows, []⟩ (manyAt deeds j)) dd := by
              intro H15 gl' gs' m' y12 g15 ng' eg' hgs'' hm'
              subst hm'
              have ed15 := g15.at g14.1 (fun z => z) ed14
              have en15 := g15.at g14.1 (fun z => z) en14
              have el15 := g15.at g14.1 (fun z => z) el14
              have nn : nm ≠ de := ne_of en15 ed15 (by intro z; cases z)
              refine ⟨gl', gs', dv ++ [.ref a'], deeds ++ [deed], many + deed.texts.length, _, _, rfl, (g14.trans g15.up).put hfree ed15, (s14.go g15 g14.1).put ed15, (upd_ne nn).trans en15, (upd_ne nle).trans el15, ng', (upd_ne ng').trans eg', ?_, upd_same, ?_, by rw [List.length_append, hdl]; rfl, ?_, by have := dok.2; omega, ?_⟩
              · rw [cut_out plus_D]
                exact hgs''
              · rw [cut_out plus_D, List.map_append]
                exact (Dp.subs (sub_go g15 g14.1).cuts _ _ hdv14).app (.one (Dp.sub (sub_go g15 g14.1).cuts _ _ dpv))
              · rw [List.flatMap_append, List.length_append, hmany]
                simp
              · intro j dd hj
                rcases Nat.lt_trichotomy j deeds.length with hlt | heq | hgt
                · rw [List.getElem?_append_left hlt] at hj
                  have e : manyAt (deeds ++ [deed]) j = manyAt deeds j := by
                    unfold manyAt
                    rw [List.take_append_of_le_length (Nat.le_of_lt hlt)]
                  rw [e]
                  exact hdf j dd hj
                · subst heq
                  have e1 : dd = deed := by
                    rw [List.getElem?_append_right (Nat.le_refl _), Nat.sub_self] at hj
                    exact (Option.some.inj hj).symm
                  have e : manyAt (deeds ++ [deed]) deeds.length = many := by
                    unfold manyAt
                    rw [List.take_left, hmany]
                  rw [e1, e]
                  exact hfrom
                · rw [List.getElem?_eq_none (by rw [List.length_append]; show deeds.length + 1 ≤ j; omega)] at hj
                  cases hj
            have SH : SqT K H14 a' (.str k' :: r) := Sub.cut.seqT S'
            refine ⟨.ref a', rfl, a', _, 0, .str k', rfl, rfl, SH, atI_nat (j := 0) rfl, rfl, _, rfl, ite2 (fun e => ?_) (fun e => ?_)⟩
            · have ek : k' = "put" := V.str.inj (of_decide_eq_true e)
              rcases hcase with ⟨_, x1, x2, t, us, rfl, s2', hus⟩ | ⟨z, _⟩
              · have St2 : SqT K H14 t (us.map V.str) := Sub.cut.seqT s2'
                have ul : us.length ≤ 3 := by rw [hus]; exact dok.2
                refine ⟨.ref gl, rfl, .ref a', rfl, a', _, 3, .ref t, rfl, rfl, SH, atI_nat (j := 3) rfl, t, _, rfl, .inr St2, _, rfl, by omega, by rw [List.length_map]; omega, fun D4 hD4 => ?_⟩
                have nD4 : de ≠ D4 := ne_of_none ed14 hD4
                have CD4 : plus C de D4 = false := plus_no (held.no (freeD g14 tg s14 hD4)) nD4.symm
                have un : (((us.map V.str).length : Nat) : Int).toNat = us.length := by rw [List.length_map]; omega
                have heldde : Held (plus C de) H14 := (held.god g14 tg s14).plus ed14
                refine lc_range (lo := 0) (n := (((us.map V.str).length : Nat) : Int).toNat) (fun j H16 => Go T D0 H14 H16 ∧ ∃ acc, H16 D4 = some (.lst acc) ∧ acc.length = j ∧ DpAll K (cut (plus (plus C de) D4) H16) acc (((List.range j).map fun x => lnAt own (many + x)).map eL)) ?_ ?_ ?_
                · exact ⟨(Go.rfl' g14.1).new hD4, [], upd_same, rfl, .nil⟩
                · rintro j H16 hj ⟨g16, acc, eD4, hacc, hda⟩
                  rw [un] at hj
                  have en16 := g16.at g14.1 (fun z => z) en14
                  refine ⟨rfl, .ref nm, rfl, .int (many : Nat), rfl, .int (0 + (j : Nat)), rfl, (many : Nat), 0 + (j : Nat), rfl, rfl, ((many : Nat) : Int) + (0 + (j : Nat)), 1, rfl, rfl, small_le (by show 1 ≤ 10000; decide), fun t1 ht1 => ?_⟩
                  have g17 := g16.new (o := .tup [V.int (((many : Nat) : Int) + (0 + (j : Nat)) + 1)]) ht1
                  have en17 := (upd_ne (o := .tup [V.int (((many : Nat) : Int) + (0 + (j : Nat)) + 1)]) (ne_of_none en16 ht1)).trans en16
                  have eD17 := (upd_ne (o := .tup [V.int (((many : Nat) : Int) + (0 + (j : Nat)) + 1)]) (ne_of_none eD4 ht1)).trans eD4
                  have e17 : (upd H16 t1 (.tup [V.int (((many : Nat) : Int) + (0 + (j : Nat)) + 1)])) t1 = some (.tup [V.int (((many + j : Nat) : Int) + 1)]) := by rw [upd_same, show ((many : Nat) : Int) + (0 + (j : Nat)) + 1 = ((many + j : Nat) : Int) + 1 by omega]
                  have hda17 : DpAll K (cut (plus (plus C de) D4) (upd H16 t1 (.tup [V.int (((many : Nat) : Int) + (0 + (j : Nat)) + 1)]))) acc _ := Dp.subs (Sub.new ht1).cuts _ _ hda
                  generalize upd H16 t1 (.tup [V.int (((many : Nat) : Int) + (0 + (j : Nat)) + 1)]) = H17 at g17 en17 eD17 e17 hda17 ⊢
                  refine ⟨nm, t1, _, _, rfl, rfl, .inl (.inl en17), .inl (.inl e17), small_le (by show 3 ≤ 10000; decide), (fun z => by cases z), (fun _ z => by cases z), fun _ _ t2 ht2 => ?_⟩
                  have n2 : t2 ≠ D4 := fun z => ne_of_none eD17 ht2 z.symm
                  have C2 : plus C de t2 = false := heldde.no (g17.free g14.1 (fun z => z) ht2)
                  have eD18 := (upd_ne (o := .tup ([V.str own.1, .int own.2] ++ [V.int (((many + j : Nat) : Int) + 1)])) n2.symm).trans eD17
                  refine ⟨acc, eD18, small_line (by omega), (g17.new ht2).put hD4 eD18, acc ++ [.ref t2], upd_same, by rw [List.length_append, hacc]; rfl, ?_⟩
                  rw [cut_out plus_D, List.range_succ, List.map_append, List.map_append]
                  refine DpAll.app (Dp.subs (Sub.new ht2).cuts _ _ hda17) (.one ?_)
                  show Dp K (cut (plus (plus C de) D4) (upd H17 t2 (.tup [V.str own.1, .int own.2, V.int (((many + j : Nat) : Int) + 1)]))) (.ref t2) (.tuple [.str own.1, .int own.2, .int (((many + j : Nat) : Int) + 1)])
                  exact .tup (.inl (.inl ((cut_at (plus_no C2 n2)).trans upd_same))) (.cons (.str _) (.cons (.int _) (.cons (.int _) .nil)))
                · rintro H16 ⟨g16, acc, eD4, hacc, hda⟩
                  rw [un] at hacc hda
                  have eg16 := g16.at g14.1 (fun z => z) eg14
                  have ed16 := g16.at g14.1 (fun z => z) ed14
                  have gsl : gs.length ≤ 5000 := by rw [DpAll.len hgs', List.length_map]; exact gl5
                  refine ⟨gl, D4, gs, acc, rfl, rfl, eg16, eD4, small_le (by omega), fun q4 hq4 => ?_⟩
                  have g18 := g16.new (o := .lst (gs ++ acc)) hq4
                  have S18 : SqT K (upd H16 q4 (.lst (gs ++ acc))) a' [.str k', x1, x2, .ref t] := g18.seqT g14.1 (fun _ _ z => z) SH
                  have T18 : SqT K (upd H16 q4 (.lst (gs ++ acc))) t (us.map V.str) := g18.seqT g14.1 (fun _ _ z => z) St2
                  have ed18 := (upd_ne (o := .lst (gs ++ acc)) (ne_of_none ed16 hq4)).trans ed16
                  have n18 : q4 ≠ de := fun z => ne_of_none ed16 hq4 z.symm
                  have hg18 : DpAll K (cut (plus C de) (upd H16 q4 (.lst (gs ++ acc)))) (gs ++ acc) ((goodsAt hist ⟨own, knows, []⟩ (many + deed.texts.length)).map eL) := by
                    have e1 : goodsAt hist ⟨own, knows, []⟩ (many + deed.texts.length) = goodsAt hist ⟨own, knows, []⟩ many ++ (List.range us.length).map fun x => lnAt own (many + x) := by
                      unfold goodsAt ownLines
                      rw [List.range_add, List.map_append, List.append_assoc, List.map_map, hus]
                      rfl
                    rw [e1, List.map_append]
                    refine DpAll.app (Dp.subs ((sub_go g16 g14.1).trans (Sub.new hq4)).cuts _ _ hgs14) (Dp.subs ((Sub.less (H := H16) (plus_le (C := plus C de) (D := D4))).trans (Sub.new hq4).cuts) _ _ hda)
                  have e18 : (upd H16 q4 (.lst (gs ++ acc))) q4 = some (.lst (gs ++ acc)) := upd_same
                  generalize upd H16 q4 (.lst (gs ++ acc)) = H18 at g18 S18 T18 ed18 hg18 e18 ⊢
                  refine ⟨.int (many : Nat), rfl, .ref a', rfl, a', _, 3, .ref t, rfl, rfl, S18, atI_nat (j := 3) rfl, t, _, rfl, .inr T18, (many : Nat), _, rfl, rfl, ?_⟩
                  refine ⟨.ref de, rfl, .inl ⟨rfl, _, .inl (.inl ed18)⟩, .ref a', rfl, de, dv, .ref a', rfl, rfl, ed18, small_line (by omega), ?_⟩
                  refine fin H18 q4 (gs ++ acc) _ _ g18 n18 e18 hg18 ?_
                  rw [List.length_map, hus]
                  omega
              · exact absurd ek z
            · have ek : ¬ k' = "put" := fun z => e (decide_eq_true (by rw [z]))
              rcases hcase with ⟨z, _⟩ | ⟨_, hus⟩
              · exact absurd z ek
              · refine ⟨.ref de, rfl, .inl ⟨rfl, _, .inl (.inl ed14)⟩, .ref a', rfl, de, dv, .ref a', rfl, rfl, ed14, small_line (by omega), ?_⟩
                refine fin H14 gl gs _ _ (Go.rfl' g14.1) ng eg14 ?_ ?_
                · rw [hus]
                  exact hgs14
                · rw [hus]
                  rfl
          · rintro σ H13 ⟨gl, gs, dv, deeds, many, y12, y13, rfl, g13, s13, en, el', ng, eg, hgs', ed, hdv, hdl, hmany, hml, hdf⟩
            refine ⟨.ref nm, rfl, .ref l, rfl, .ref de, rfl, sm3, fun v hv => ?_⟩
            have Cv : C v = false := held.no (freeD g13 tg s13 hv)
            have sv := (Sub.new (o := .tup [V.ref nm, .ref l, .ref de]) hv)
            refine q _ _ ⟨own, knows, deeds⟩ (g13.new hv) (s13.new hv) ?_ ?_
            · refine .tup (xs := [V.ref nm, .ref l, .ref de]) (.inl (.inl ((cut_at Cv).trans upd_same))) (.cons ?_ (.cons ?_ (.one ?_)))
              · exact Dp.sub sv.cuts _ _ (.tup (.inl (.inl ((cut_at Cnm).trans en))) (.cons (.str _) (.cons (.int _) .nil)))
              · exact Dp.sub sv.cuts _ _ (.lst (.inl (.inl ((cut_at Cl).trans el'))) (Dp.subs (toC g13) _ _ dks))
              · exact Dp.sub sv.cuts _ _ (.lst (.inl (.inl ((cut_at Cde).trans ed))) (Dp.subs (Sub.less (plus_le (C := C) (D := de))) _ _ hdv))
            · refine ⟨by rw [← hown]; exact hmem, by rw [← hown], asc, kn, kl, by show 1 ≤ deeds.length; omega, by show deeds.length ≤ 3; omega, hdf⟩
end
end K1
set_option Elab.async false
set_option linter.all false
set_option maxRecDepth 100000
set_option maxHeartbeats 4000000
/-! The law's defs: a drawn history. -/
namespace K1
open PySem PySem.Spec PyProof.Rows L2

/-- list + list, either of any standing -/
def rCatS (K : PySem.W.Frag) : R2 := fun x y H Q => ∃ l b xs zs, x = .ref l ∧ y = .ref b ∧ SqL K H l xs ∧ SqL K H b zs ∧ xs.length + zs.length ≤ sizeLine ∧ ∀ p, H p = none → Q (.ref p) (upd H p (.lst (xs ++ zs)))
theorem op_catS {X : Cx} : OpR X (binaryOp .Add) (rCatS X.K) := by
  intro pins s σ H x y v u Q I rx ry h
  obtain ⟨l, b, xs, zs, rfl, rfl, hH, hB, hz, q⟩ := h
  cases rx
  cases ry
  obtain ⟨its, r, ⟨⟨cls, dd, data, sl⟩, n, ho, hc, hdn, hdt⟩, hl⟩ := I.list hH
  obtain ⟨its2, r2, ⟨⟨cls2, dd2, data2, sl2⟩, n2, ho2, hc2, hdn2, hdt2⟩, hl2⟩ := I.list hB
  simp only at hc hdt hc2 hdt2
  subst hc hdt hc2 hdt2
  have l1 := r.length
  have l2 := r2.length
  refine concat_meets ⟨_, ho, rfl⟩ ⟨_, ho2, rfl⟩ noFill_list_add seq_list_add PySem.F.slot_list_add PySem.F.entry_list_add (PySem.F.args_list_add_2 _ _) (PyProof.Rows.list_addW l b its.toArray its2.toArray n n2 dd dd2 sl sl2 (by rw [List.size_toArray, List.size_toArray]; omega)) ⟨ho, ho2, ?_⟩
  have ea : its.toArray ++ its2.toArray = (its ++ its2).toArray := by simp
  rw [ea]
  exact ⟨.ref _, _, I.lnew (t' := s.toks) (r.append r2) (by rw [List.length_append]; omega), rfl, q _ I.fresh⟩

section
variable {P : Program} {w : World} {K : PySem.W.Frag} {mg : Str → Option Value} {base : Heap} {T : Tp}

def spHist (K : PySem.W.Frag) (T : Tp) : Sp := fun vs H Q _ => ∃ (a : Addr) (ns : List Int) (m : Nat), vs = [.ref a, .int (m : Nat)] ∧ SqL K H a (ns.map V.int) ∧ ns.length ≤ 63 ∧ m ≤ 64 ∧ TG T H ∧
  ∀ H' p xs hist, Go T D0 H H' → H p = none → H' p = some (.lst xs) → DpAll K (cut (plus C0 p) H') xs (hist.map eP) → HistFrom menuH hist → hist.length = min m (ns.length + 1) → Q (.ref p) H'
theorem ok_lhist {f : Addr} {fd : FuncData} {k : Nat} (F : Fun K "_law_history" "_law_history" sLHist f fd) (M : Mg K mg) (cDr : Cal P w K mg base k "_law_draw" ["_law_cell", "_law_k"] spDraw)
    (cP : Cal P w K mg base k "_law_patch" ["_law_history_here", "_law_state"] (spPatch K T)) : FnOk P w K mg base CX0 (k + 1) f fd ["_law_script", "_law_most"] (spHist K T) := by
  refine F.ok scLHist (fun vs H Q E h => ?_) (fun cdv A outer s H vs Q E hr h => ?_)
  · obtain ⟨a, ns, m, rfl, _⟩ := h
    rfl
  · obtain ⟨a, ns, m, rfl, hS, nl, ml, tg, q⟩ := h
    refine ⟨_, (pss_cons (ps_set (i := 2) scLHist.nd rfl (.inl rfl) (pe_lst pa_nil))
      (pss_cons (ps_for PassesOwn.never rfl (pi_enum (by rfl) M.enum_ (pa_cons (pe_slice sl_list (pe_op op_catS (pv 0) (pe_lst (pa_cons (pe_callB (cr_sum rfl) (by rfl) M.sum_ (by decide +kernel) (pa_cons (pv 0) pa_nil)) pa_nil))) po_none (po_some (pv 1))) pa_nil)) (pg_tup rfl (pgs_cons (pg_name (i := 3) scLHist.nd rfl (.inl rfl)) (pgs_cons (pg_name (i := 4) scLHist.nd rfl (.inl rfl)) pgs_nil)))
      (pss_one (ps_expr (pe_bm PySem.F.plainAttrs_list PySem.F.slot_list_append PySem.F.type_list_append mt_append (pv 2) (pa_cons (pe_cal cP hr (by rfl) (pa_cons (pv 2) (pa_cons (pe_cal cDr hr (by rfl) (pa_cons (pv 4) (pa_cons (pe_op op_add pe_int (pv 3)) pa_nil))) pa_nil))) pa_nil)))))
      (pss_one (ps_ret (pv 2))))), ?_⟩
    refine ⟨Nat.zero_le _, fun p hp => ?_⟩
    have g1 : Go T D0 H (upd H p (.lst [])) := (Go.rfl' tg).new hp
    have e1 : (upd H p (.lst [])) p = some (.lst []) := upd_same
    generalize upd H p (.lst []) = H1 at g1 e1 ⊢
    have S1 := g1.seqL tg (fun _ _ z => z) hS
    refine ⟨.ref a, rfl, .ref a, rfl, a, ns, rfl, S1, small_le (by show 1 ≤ 10000; decide), fun b hb => ?_⟩
    have g2 := g1.new (o := .lst [V.int ns.sum]) hb
    have e2 := (upd_ne (o := .lst [V.int ns.sum]) (ne_of_none e1 hb)).trans e1
    have eb : (upd H1 b (.lst [V.int ns.sum])) b = some (.lst [V.int ns.sum]) := upd_same
    generalize upd H1 b (.lst [V.int ns.sum]) = H2 at g2 e2 eb ⊢
    refine ⟨a, b, _, _, rfl, rfl, g2.seqL tg (fun _ _ z => z) hS, .inl (.inl eb), small_le (by rw [List.length_map]; show ns.length + 1 ≤ 10000; omega), fun z hz => ?_⟩
    have g3 := g2.new (o := .lst (ns.map V.int ++ [V.int ns.sum])) hz
    have e3 := (upd_ne (o := .lst (ns.map V.int ++ [V.int ns.sum])) (ne_of_none e2 hz)).trans e2
    have ez : (upd H2 z (.lst (ns.map V.int ++ [V.int ns.sum]))) z = some (.lst ((ns ++ [ns.sum]).map V.int)) := by rw [upd_same, List.map_append]; rfl
    generalize upd H2 z (.lst (ns.map V.int ++ [V.int ns.sum])) = H3 at g3 e3 ez ⊢
    refine ⟨.int (m : Nat), rfl, (m : Nat), rfl, z, _, rfl, .inl (.inl ez), fun z2 hz2 => ?_⟩
    have ct : cutV ((ns ++ [ns.sum]).map V.int) none (some ((m : Nat) : Int)) = ((ns ++ [ns.sum]).take m).map V.int := by
      unfold cutV
      rw [HT.sIx_none, HT.sIx_nat, List.drop_zero, Nat.sub_zero, List.map_take]
      by_cases h : m ≤ ((ns ++ [ns.sum]).map V.int).length
      · rw [Nat.min_eq_left h]
      · rw [Nat.min_eq_right (by omega), List.take_of_length_le (Nat.le_refl _), List.take_of_length_le (by omega)]
    rw [ct]
    generalize hzs : (ns ++ [ns.sum]).take m = zs
    have zlen : zs.length = min m (ns.length + 1) := by rw [← hzs, List.length_take, List.length_append]; rfl
    have g4 := g3.new (o := .lst (zs.map V.int)) hz2
    have e4 := (upd_ne (o := .lst (zs.map V.int)) (ne_of_none e3 hz2)).trans e3
    have ez2 : (upd H3 z2 (.lst (zs.map V.int))) z2 = some (.lst (zs.map V.int)) := upd_same
    have nzp : z2 ≠ p := fun q => ne_of_none e3 hz2 q.symm
    generalize upd H3 z2 (.lst (zs.map V.int)) = H4 at g4 e4 ez2 ⊢
    refine ⟨z2, _, rfl, .inl (.inl ez2), ?_⟩
    refine for_it (walk_enum (K := K) (a := z2) (xs := zs.map V.int)) (fun i σ H5 => ∃ (xs : List V) (hist : List Pat) (y3 y4 : Option V), σ = [some (.ref a), some (.int (m : Nat)), some (.ref p), y3, y4] ∧ Go T D0 H H5 ∧ H5 z2 = some (.lst (zs.map V.int)) ∧ H5 p = some (.lst xs) ∧
      DpAll K (cut (plus C0 p) H5) xs (hist.map eP) ∧ HistFrom menuH hist ∧ hist.length = i) ?_ ?_ ?_ ?_
    · exact ⟨[], [], _, _, rfl, g4, ez2, e4, .nil, (fun i p h => by cases h), rfl⟩
    · rintro i σ H5 hi ⟨xs, hist, y3, y4, rfl, g5, ez5, _⟩
      exact .inl (.inl ez5)
    · rintro i v σ H5 H5' hi ⟨xs, hist, y3, y4, rfl, g5, ez5, ep5, hd5, hf, hl⟩ ⟨T', x', y', rfl, hT, rfl, hx', hy'⟩
      cases hx'
      have hy' : (zs.map V.int)[i]? = some y' := hy'
      have hi' : i < zs.length := by rw [List.length_map] at hi; exact hi
      rw [List.getElem?_map, List.getElem?_eq_getElem hi'] at hy'
      cases hy'
      have i64 : i ≤ 64 := by omega
      have g6 := g5.new (o := .tup [V.int (i : Nat), .int zs[i]]) hT
      have ez6 := (upd_ne (o := .tup [V.int (i : Nat), .int zs[i]]) (ne_of_none ez5 hT)).trans ez5
      have ep6 := (upd_ne (o := .tup [V.int (i : Nat), .int zs[i]]) (ne_of_none ep5 hT)).trans ep5
      have hd6 := Dp.subs (Sub.new (o := .tup [V.int (i : Nat), .int zs[i]]) hT).cuts _ _ hd5
      refine ⟨T', _, rfl, .inl (.inl upd_same), rfl, _, _, rfl, _, _, rfl, rfl, ?_⟩
      generalize upd H5 T' (.tup [V.int (i : Nat), .int zs[i]]) = H6 at g6 ez6 ep6 hd6 ⊢
      refine ⟨.ref p, rfl, .inl ⟨rfl, _, .inl (.inl ep6)⟩, .ref p, rfl, .int zs[i], rfl, .int (i : Nat), rfl, 10, (i : Nat), rfl, rfl, zs[i], 10 + ((i : Nat) : Int), rfl, by omega, by omega, fun dd ra rb ha hb hdd => ?_⟩
      have g7 : Go T (· = dd) H (upd H6 dd (.dK (stD ra rb))) := (g6.new hdd).up
      have ez7 := (upd_ne (o := .dK (stD ra rb)) (ne_of_none ez6 hdd)).trans ez6
      have ep7 := (upd_ne (o := .dK (stD ra rb)) (ne_of_none ep6 hdd)).trans ep6
      have hd7 := Dp.subs (Sub.new (o := .dK (stD ra rb)) hdd).cuts _ _ hd6
      have s7 : St (upd H6 dd (.dK (stD ra rb))) dd := ⟨ra, rb, ha, hb, upd_same⟩
      have fd : H dd = none := g6.free tg (fun z => z) hdd
      generalize upd H6 dd (.dK (stD ra rb)) = H7 at g7 ez7 ep7 hd7 s7 ⊢
      have held7 : Held (plus C0 p) H7 := Held.plus (fun a ha => by cases ha) ep7
      refine ⟨.ref p, dd, hist, plus C0 p, rfl, s7, ⟨p, xs, rfl, .inl (.inl ep7), hd7⟩, hf, by omega, held7, g7.1, fun H8 v pat g8 s8 dp hpat => ?_⟩
      have ez8 := g8.at g7.1 (s7.ne ez7) ez7
      have ep8 := g8.at g7.1 (s7.ne ep7) ep7
      have hd8 := Dp.subs (s7.sub g8 g7.1).cuts _ _ hd7
      have xl : xs.length = hist.length := by rw [DpAll.len hd8, List.length_map]
      have g08 : Go T D0 H H8 := (g7.trans g8).drop fd
      refine ⟨p, xs, v, rfl, rfl, ep8, small_line (by omega), xs ++ [v], hist ++ [pat], _, _, rfl, g08.put hp ep8, (upd_ne nzp).trans ez8, upd_same, ?_, hf.snoc hpat, by rw [List.length_append, hl]; rfl⟩
      rw [cut_out plus_D, List.map_append]
      exact hd8.app (.one dp)
    · rintro σ H5 ⟨xs, hist, y3, y4, rfl, g5, ez5, ep5, hd5, hf, hl⟩
      rw [List.length_map] at hl
      exact ⟨.ref p, rfl, q H5 p xs hist g5 hp ep5 hd5 hf (hl.trans zlen)⟩
end
end K1
set_option Elab.async false
set_option linter.all false
set_option maxRecDepth 100000
set_option maxHeartbeats 4000000
/-! The law's defs: rows of patches. -/
namespace K1
open PySem PySem.Spec PyProof.Rows L2

abbrev num (i : Int) : Str := Str.ofString (toString i)
def nmTxt (n : Nm) : Str := n.1 ++ "." ++ num n.2
def lnTxt (l : Ln) : Str := if l = headL then "head" else if l = footL then "foot" else l.1 ++ "." ++ num l.2.1 ++ "." ++ num l.2.2
def Deed.kind : Deed → Str
  | .put _ _ _ => "put"
  | .order _ _ => "order"
  | .one k _ => kindS k
def Deed.lines : Deed → List Ln
  | .put a b _ => [a, b]
  | .order a b => [a, b]
  | .one _ a => [a]
def deedRows (d : Deed) : List Str := Txt.join " " (d.kind :: d.lines.map lnTxt) :: d.texts.map fun t => "+" ++ t
def knownWords (ns : List Nm) : List Str := if ns = [] then ["none"] else ns.map nmTxt
def rowsOf (p : Pat) : List Str := ("patch " ++ p.name.1 ++ " " ++ num p.name.2) :: Txt.join " " ("knows" :: knownWords p.knows) :: p.deeds.flatMap deedRows
theorem twice2 {A G : Addr → Hp → Prop} {P : Prop} (h : ∀ z H2, A z H2 → G z H2) (use : (∀ z H2, A z H2 → G z H2) → P) : P := use h
theorem len_app (a b : Str) : (a ++ b).length = a.length + b.length := by rw [TL.len_tl, TL.tl_append, List.length_append, ← TL.len_tl, ← TL.len_tl]
theorem asc_num {i : Int} (h0 : 0 ≤ i) : Asc (Str.ofString (toString i)) := by
  obtain ⟨n, rfl⟩ := Int.eq_ofNat_of_zero_le h0
  intro c hc
  rw [TL.tl_num] at hc
  have := TL.numL_digits n c hc
  omega
theorem asc_app {a b : Str} (h : Asc a) (h' : Asc b) : Asc (a ++ b) := by
  intro c hc
  rw [TL.tl_append] at hc
  rcases List.mem_append.mp hc with h1 | h1
  · exact h c h1
  · exact h' c h1
theorem asc_dot : Asc "." := by
  have e : (TL.tl ("." : Str)).all (fun c => decide (c < 128)) = true := by decide +kernel
  exact fun c hc => of_decide_eq_true (List.all_eq_true.mp e c hc)
theorem hand_asc {x : Str} (h : handV (.str x) = true) : Asc x := by
  have w : wordOk x = true := (Bool.and_eq_true_iff.mp h).1
  have w1 := Bool.and_eq_true_iff.mp w
  intro c hc
  have := of_decide_eq_true (List.all_eq_true.mp w1.2 c hc)
  have e : ltrs.cps.toList.all (fun c => decide (c < 128)) = true := by decide +kernel
  exact of_decide_eq_true (List.all_eq_true.mp e c this)
theorem nmTxt_ok {n : Nm} (h : NmOk n) : PyData.strOk (nmTxt n) = true :=
  Asc.ok (asc_app (asc_app (hand_asc h.1) asc_dot) (asc_num (Int.le_trans (by decide) h.2.1)))
theorem sum_le {c : Nat} : ∀ {l : List Str}, (∀ x ∈ l, x.length ≤ c) → (l.map (·.length)).sum ≤ c * l.length
  | [], _ => Nat.zero_le _
  | x :: r, h => by
    have h1 := h x (List.mem_cons_self ..)
    have h2 := sum_le (l := r) fun y m => h y (List.mem_cons_of_mem _ m)
    rw [List.map_cons, List.sum_cons, List.length_cons, Nat.mul_add, Nat.mul_one]
    omega
theorem lnTxt_len {l : Ln} (h : EdOk l) (s : l.2.2 < 1000000) : (lnTxt l).length ≤ 30 := by
  have dot : ("." : Str).length = 1 := by decide +kernel
  rcases h with h | rfl | rfl
  · unfold lnTxt
    have h8 : l.1.length ≤ 8 := (handOk h.1.1).2
    have n1 := len_num (i := l.2.1) (by have := h.1.2.1; exact Int.le_trans (by decide) this) (by have := h.1.2.2; exact Int.lt_of_le_of_lt this (by decide))
    have n2 := len_num (i := l.2.2) (by have := h.2; omega) s
    split
    · decide +kernel
    · split
      · decide +kernel
      · show (l.1 ++ "." ++ Str.ofString (toString l.2.1) ++ "." ++ Str.ofString (toString l.2.2) : Str).length ≤ 30
        simp only [len_app, dot]
        omega
  · decide +kernel
  · decide +kernel
theorem kind_len (d : Deed) : d.kind.length ≤ 5 := by
  cases d with
  | put => show ("put" : Str).length ≤ 5; decide +kernel
  | order => show ("order" : Str).length ≤ 5; decide +kernel
  | one k => show (kindS k).length ≤ 5; cases k <;> decide +kernel
theorem lines_len : ∀ d : Deed, d.lines.length ≤ 2
  | .put _ _ _ => Nat.le_refl 2
  | .order _ _ => Nat.le_refl 2
  | .one _ _ => Nat.le_succ 1
theorem kindS_put (k : Bool) : kindS k ≠ "put" := by cases k <;> decide +kernel
theorem kindS_order (k : Bool) : kindS k ≠ "order" := by cases k <;> decide +kernel
theorem deed_ed {d : Deed} (h : d.ok) : ∀ l ∈ d.lines, EdOk l := by
  cases d with
  | put a b ts =>
    intro l hl
    simp only [Deed.lines, List.mem_cons, List.not_mem_nil, or_false] at hl
    rcases hl with rfl | rfl
    · exact h.1
    · exact h.2.1
  | order a b =>
    intro l hl
    simp only [Deed.lines, List.mem_cons, List.not_mem_nil, or_false] at hl
    rcases hl with rfl | rfl
    · exact .inl h.1
    · exact .inl h.2
  | one k a =>
    intro l hl
    simp only [Deed.lines, List.mem_cons, List.not_mem_nil, or_false] at hl
    rw [hl]
    exact .inl h
theorem deed_tx {d : Deed} (h : d.ok) : ∀ t ∈ d.texts, TxOk t := by
  cases d with
  | put a b ts => exact h.2.2
  | order a b => intro t ht; cases ht
  | one k a => intro t ht; cases ht
theorem deed_parts {K : PySem.W.Frag} {H : Hp} {v : V} : ∀ {d : Deed}, Dp K H v (eD d) → ∃ a lvs tl, v = .ref a ∧ SqT K H a (.str d.kind :: (lvs ++ tl)) ∧ DpAll K H lvs (d.lines.map eL) ∧
    ((d.kind = "put" ∧ lvs.length = 2 ∧ ∃ t, tl = [.ref t] ∧ SqT K H t (d.texts.map V.str)) ∨ (d.kind = "order" ∧ lvs.length = 2 ∧ tl = [] ∧ d.texts = []) ∨ (d.kind ≠ "put" ∧ d.kind ≠ "order" ∧ lvs.length = 1 ∧ tl = [] ∧ d.texts = []))
  | .put a b ts, h => by
    obtain ⟨p, xs, rfl, s, q⟩ := Dp.tupI h
    obtain ⟨x, y, z, u, rfl, q1, q2, q3, q4⟩ := DpAll.i4 q
    cases Dp.strI q1
    obtain ⟨t, us, rfl, s2, q5⟩ := Dp.tupI q4
    rw [strs_of q5] at s2
    exact ⟨p, [y, z], [.ref t], rfl, s, .cons q2 (.one q3), .inl ⟨rfl, rfl, t, rfl, s2⟩⟩
  | .order a b, h => by
    obtain ⟨p, xs, rfl, s, q⟩ := Dp.tupI h
    obtain ⟨x, y, z, rfl, q1, q2, q3⟩ := DpAll.i3 q
    cases Dp.strI q1
    exact ⟨p, [y, z], [], rfl, s, .cons q2 (.one q3), .inr (.inl ⟨rfl, rfl, rfl, rfl⟩)⟩
  | .one k a, h => by
    obtain ⟨p, xs, rfl, s, q⟩ := Dp.tupI h
    obtain ⟨x, y, rfl, q1, q2⟩ := DpAll.i2 q
    cases Dp.strI q1
    exact ⟨p, [y], [], rfl, s, .one q2, .inr (.inr ⟨kindS_put k, kindS_order k, rfl, rfl, rfl⟩)⟩
theorem deedRows_len (d : Deed) : (deedRows d).length = 1 + d.texts.length := by
  unfold deedRows
  rw [List.length_cons, List.length_map]
  omega
theorem rows_len (ds : List Deed) : (ds.flatMap deedRows).length = ds.length + (ds.flatMap Deed.texts).length := by
  induction ds with
  | nil => rfl
  | cons d r ih =>
    rw [List.flatMap_cons, List.flatMap_cons, List.length_append, List.length_append, ih, deedRows_len, List.length_cons]
    omega
/-- a line whose place is small -/
def EdS (l : Ln) : Prop := EdOk l ∧ l.2.2 < 1000000

section
variable {P : Program} {w : World} {K : PySem.W.Frag} {mg : Str → Option Value} {base : Heap} {T : Tp}

def spLineW (K : PySem.W.Frag) (T : Tp) : Sp := fun vs H Q _ => ∃ v l, vs = [v] ∧ Dp K H v (eL l) ∧ EdS l ∧ TG T H ∧ ∀ H', Go T D0 H H' → Q (.str (lnTxt l)) H'
def spRows (K : PySem.W.Frag) (T : Tp) : Sp := fun vs H Q _ => ∃ (n kv dv : V) (p : Pat), vs = [n, kv, dv] ∧ Dp K H n (eN p.name) ∧ Dp K H kv (.list (p.knows.map eN)) ∧ Dp K H dv (.list (p.deeds.map eD)) ∧ p.ok ∧ (∀ d ∈ p.deeds, ∀ l ∈ d.lines, l.2.2 < 1000000) ∧ p.knows.length ≤ 1000 ∧ (textsOf p).length ≤ 1000 ∧ p.deeds.length ≤ 1000 ∧ TG T H ∧
  ∀ H' l, Go T D0 H H' → H l = none → H' l = some (.lst ((rowsOf p).map V.str)) → Q (.ref l) H'
end
end K1
set_option Elab.async false
set_option linter.all false
set_option maxRecDepth 100000
set_option maxHeartbeats 4000000
/-! The law's defs: a text of all signs. -/
namespace K1
open PySem PySem.Spec PyProof.Rows L2

def allSigns : Str := " !\"#$&'()*+,-./0123456789:;<=>?@ABCXYZ[\\]^_`abcxyz{|}~"
theorem allSigns_len : 0 < allSigns.length ∧ allSigns.length ≤ 1000 := by decide +kernel
theorem allSigns_ok : ∀ c ∈ TL.tl allSigns, c < 128 ∧ c ≠ 10 := by
  have e : (TL.tl allSigns).all (fun c => decide (c < 128) && decide (c ≠ 10)) = true := by decide +kernel
  intro c hc
  have := Bool.and_eq_true_iff.mp (List.all_eq_true.mp e c hc)
  exact ⟨of_decide_eq_true this.1, of_decide_eq_true this.2⟩
theorem signs_ok {y : Str} (hl : y.length ≤ 40) (h : ∀ c ∈ TL.tl y, c ∈ TL.tl allSigns) : TxOk y :=
  ⟨Asc.ok fun c hc => (allSigns_ok c (h c hc)).1, hl, fun hc => (allSigns_ok 10 (h 10 hc)).2 rfl⟩
namespace K1
open PySem PySem.Spec PyProof.Rows L2

/-! ### one-sign texts -/
def one (c : Nat) : Str := ⟨#[c]⟩
theorem tl_one (c : Nat) : TL.tl (one c) = [c] := rfl
theorem join_ones : ∀ cs : List Nat, TL.joinL [] (cs.map fun c => [c]) = cs
  | [] => rfl
  | [c] => rfl
  | c :: d :: r => by
    show [c] ++ ([] ++ TL.joinL [] ((d :: r).map fun c => [c])) = _
    rw [join_ones (d :: r)] <;> rfl
theorem tl_joined (cs : List Nat) : TL.tl (Txt.join "" (cs.map one)) = cs := by
  have e0 : TL.tl ("" : Str) = [] := by decide +kernel
  rw [TL.join_eq, TL.tl_join, e0, List.map_map]
  exact join_ones cs
theorem ones_sum (cs : List Nat) : ((cs.map one).map (·.length)).sum = cs.length := by
  induction cs with
  | nil => rfl
  | cons c r ih =>
    rw [List.map_cons, List.map_cons, List.sum_cons, ih]
    show 1 + r.length = r.length + 1
    omega

section
variable {P : Program} {w : World} {K : PySem.W.Frag} {mg : Str → Option Value} {base : Heap} {T : Tp}
def spSigns (T : Tp) : Sp := fun vs H Q _ => ∃ d, vs = [.ref d] ∧ St H d ∧ TG T H ∧ ∀ H' y, Go T (· = d) H H' → St H' d → TxOk y → Q (.str y) H'
end
end K1
end K1
set_option Elab.async false
set_option linter.all false
set_option maxRecDepth 100000
set_option maxHeartbeats 4000000
/-! The program's def patch_rows. -/
namespace K1
open PySem PySem.Spec PyProof.Rows L2

/-- the class of patches -/
structure PCls (K : PySem.W.Frag) (C : Addr) : Prop where
  cls : Cls K C
  name : NoAttr K C "name"
  knows : NoAttr K C "knows"
  deeds : NoAttr K C "deeds"
  many : NoAttr K C "many"
  place : NoAttr K C "place"
  known : NoAttr K C "known"
  work : NoAttr K C "work"
/-- a patch made -/
def PatAt (K : PySem.W.Frag) (C : Addr) (H : Hp) (v : V) (p : Pat) : Prop := ∃ a dx fs nv kv dv, v = .ref a ∧ H a = some (.ins C dx fs) ∧ fs.lookup ("name" : Str) = some nv ∧ fs.lookup ("knows" : Str) = some kv ∧ fs.lookup ("deeds" : Str) = some dv ∧
  Dp K H nv (eN p.name) ∧ Dp K H kv (.tuple (p.knows.map eN)) ∧ Dp K H dv (.tuple (p.deeds.map eD))
/-- what the rows of a patch ask of its sizes -/
structure Pat.sized (p : Pat) : Prop where
  ok : p.ok
  lines : ∀ d ∈ p.deeds, ∀ l ∈ d.lines, l.2.2 < 1000000
  knows : p.knows.length ≤ 1000
  texts : (textsOf p).length ≤ 1000
  deeds : p.deeds.length ≤ 1000
theorem lineTxt_ln (l : Ln) : lineTxt [.str l.1, .int l.2.1, .int l.2.2] = some (lnTxt l) := by
  obtain ⟨a, i, j⟩ := l
  unfold lineTxt lnTxt headL footL
  by_cases h1 : (a, i, j) = (("", 0, 0) : Ln)
  · cases h1
    rfl
  · have n1 : ¬ [V.str a, .int i, .int j] = [.str "", .int 0, .int 0] := fun z => h1 (by injection z with a1 a2; injection a2 with a2 a3; injection a3 with a3 _; cases a1; cases a2; cases a3; rfl)
    by_cases h2 : (a, i, j) = (("", 0, 1) : Ln)
    · cases h2
      rfl
    · have n2 : ¬ [V.str a, .int i, .int j] = [.str "", .int 0, .int 1] := fun z => h2 (by injection z with a1 a2; injection a2 with a2 a3; injection a3 with a3 _; cases a1; cases a2; cases a3; rfl)
      simp only [if_neg n1, if_neg n2, if_neg h1, if_neg h2]
theorem ed_nums {l : Ln} (h : EdOk l) (s : l.2.2 < 1000000) : l.1.length ≤ 8 ∧ 0 ≤ l.2.1 ∧ l.2.1 < 1000000 ∧ 0 ≤ l.2.2 := by
  rcases h with h | rfl | rfl
  · exact ⟨(handOk h.1.1).2, Int.le_trans (by decide) h.1.2.1, Int.lt_of_le_of_lt h.1.2.2 (by decide), Int.le_trans (by decide) h.2⟩
  · exact ⟨by decide +kernel, by decide, by decide, by decide⟩
  · exact ⟨by decide +kernel, by decide, by decide, by decide⟩
section
variable {P : Program} {w : World} {K : PySem.W.Frag} {mg : Str → Option Value} {base : Heap} {T : Tp}
def spPRows (K : PySem.W.Frag) (C : Addr) (T : Tp) : Sp := fun vs H Q _ => ∃ (v : V) (p : Pat), vs = [v] ∧ PatAt K C H v p ∧ p.sized ∧ TG T H ∧ ∀ H' l, Go T D0 H H' → H l = none → H' l = some (.lst ((rowsOf p).map V.str)) → Q (.ref l) H'
end
end K1
set_option Elab.async false
set_option linter.all false
set_option maxRecDepth 100000
set_option maxHeartbeats 4000000
/-! The program's def patches_text. -/
namespace K1
open PySem PySem.Spec PyProof.Rows L2

theorem join_le (s : Str) (ts : List Str) : (Txt.join s ts).length ≤ (ts.map (·.length)).sum + ts.length * s.length := by
  rw [TL.join_eq]
  exact PySem.StrLaws.join_length_le s ts
theorem deedRows_sum {d : Deed} (h : d.ok) (s : ∀ l ∈ d.lines, l.2.2 < 1000000) : ((deedRows d).map (·.length)).sum ≤ 100 + 41 * d.texts.length := by
  have bl : (" " : Str).length = 1 := by decide +kernel
  have pl : ("+" : Str).length = 1 := by decide +kernel
  unfold deedRows
  rw [List.map_cons, List.sum_cons]
  have h1 := join_le " " (d.kind :: d.lines.map lnTxt)
  have k30 : ∀ x ∈ (d.kind :: d.lines.map lnTxt), x.length ≤ 30 := by
    intro x hx
    rcases List.mem_cons.mp hx with rfl | hx
    · have := kind_len d
      omega
    · obtain ⟨l, hl, rfl⟩ := List.mem_map.mp hx
      exact lnTxt_len (deed_ed h l hl) (s l hl)
  have h2 := sum_le k30
  have l2 := lines_len d
  have kc : (d.kind :: d.lines.map lnTxt).length ≤ 3 := by rw [List.length_cons, List.length_map]; omega
  have h3 : ((d.texts.map fun t => ("+" ++ t : Str)).map (·.length)).sum ≤ 41 * (d.texts.map fun t => ("+" ++ t : Str)).length := by
    refine sum_le fun x hx => ?_
    obtain ⟨t, ht, rfl⟩ := List.mem_map.mp hx
    have := (deed_tx h t ht).2.1
    rw [len_app, pl]
    omega
  rw [List.length_map] at h3
  rw [bl] at h1
  omega
theorem rowsSum {ds : List Deed} (h : ∀ d ∈ ds, d.ok) (s : ∀ d ∈ ds, ∀ l ∈ d.lines, l.2.2 < 1000000) : ((ds.flatMap deedRows).map (·.length)).sum ≤ 100 * ds.length + 41 * (ds.flatMap Deed.texts).length := by
  induction ds with
  | nil => exact Nat.zero_le _
  | cons d r ih =>
    rw [List.flatMap_cons, List.flatMap_cons, List.map_append, List.sum_append, List.length_append, List.length_cons]
    have h1 := deedRows_sum (h d (List.mem_cons_self ..)) (s d (List.mem_cons_self ..))
    have h2 := ih (fun x m => h x (List.mem_cons_of_mem _ m)) (fun x m => s x (List.mem_cons_of_mem _ m))
    omega
/-- what stands in the text of patches -/
structure Pats.sized (ps : List Pat) : Prop where
  each : ∀ p ∈ ps, p.sized ∧ p.knows.length ≤ 100 ∧ (textsOf p).length ≤ 100 ∧ p.deeds.length ≤ 100
  len : ps.length ≤ 100
theorem knownSum {ns : List Nm} (h : ∀ n ∈ ns, NmOk n) : ((("knows" :: knownWords ns : List Str)).map (·.length)).sum ≤ 19 * (ns.length + 2) ∧ (("knows" :: knownWords ns : List Str)).length ≤ ns.length + 2 := by
  have dot : ("." : Str).length = 1 := by decide +kernel
  have k19 : ∀ x ∈ ("knows" :: knownWords ns : List Str), x.length ≤ 19 := by
    intro x hx
    rcases List.mem_cons.mp hx with rfl | hx
    · decide +kernel
    · unfold knownWords at hx
      split at hx
      · rw [List.mem_singleton.mp hx]
        decide +kernel
      · obtain ⟨n, hn, rfl⟩ := List.mem_map.mp hx
        have nok := h n hn
        have h2 := len_num (Int.le_trans (by decide) nok.2.1) (Int.lt_of_le_of_lt nok.2.2 (by decide))
        have h3 := (handOk nok.1).2
        show (n.1 ++ "." ++ Str.ofString (toString n.2) : Str).length ≤ 19
        simp only [len_app, dot]
        omega
  have kc : ("knows" :: knownWords ns : List Str).length ≤ ns.length + 2 := by
    unfold knownWords
    split
    · show 2 ≤ _
      omega
    · rw [List.length_cons, List.length_map]
      omega
  have := sum_le k19
  exact ⟨by omega, kc⟩
theorem patSum {p : Pat} (h : p.sized) : ((rowsOf p).map (·.length)).sum ≤ 100 + 20 * p.knows.length + 100 * p.deeds.length + 41 * (textsOf p).length ∧ (rowsOf p).length = 2 + p.deeds.length + (textsOf p).length := by
  have pl : ("patch " : Str).length = 6 := by decide +kernel
  have bl : (" " : Str).length = 1 := by decide +kernel
  have h1 := join_le " " ("knows" :: knownWords p.knows)
  have h2 := knownSum h.ok.knows
  have h3 := rowsSum h.ok.deeds h.lines
  have h4 := (handOk h.ok.name.1).2
  have h5 := len_num (Int.le_trans (by decide) h.ok.name.2.1) (Int.lt_of_le_of_lt h.ok.name.2.2 (by decide))
  have h6 := rows_len p.deeds
  rw [bl] at h1
  unfold rowsOf
  rw [List.map_cons, List.sum_cons, List.map_cons, List.sum_cons, List.length_cons, List.length_cons]
  have h7 : ("patch " ++ p.name.1 ++ " " ++ num p.name.2 : Str).length ≤ 25 := by
    show ("patch " ++ p.name.1 ++ " " ++ Str.ofString (toString p.name.2) : Str).length ≤ 25
    simp only [len_app, pl, bl]
    omega
  unfold textsOf
  constructor <;> omega
theorem patsSum : ∀ {ps : List Pat}, (∀ p ∈ ps, p.sized ∧ p.knows.length ≤ 100 ∧ (textsOf p).length ≤ 100 ∧ p.deeds.length ≤ 100) → ((ps.flatMap rowsOf).map (·.length)).sum ≤ 20000 * ps.length ∧ (ps.flatMap rowsOf).length ≤ 202 * ps.length
  | [], _ => ⟨Nat.zero_le _, Nat.zero_le _⟩
  | p :: r, h => by
    have h1 := patSum (h p (List.mem_cons_self ..)).1
    have h2 := (h p (List.mem_cons_self ..)).2
    have h3 := patsSum (ps := r) fun x m => h x (List.mem_cons_of_mem _ m)
    rw [List.flatMap_cons, List.map_append, List.sum_append, List.length_append, List.length_cons]
    omega
section
variable {P : Program} {w : World} {K : PySem.W.Frag} {mg : Str → Option Value} {base : Heap} {T : Tp}
def PatsAt (K : PySem.W.Frag) (C : Addr) (H : Hp) (vs : List V) (ps : List Pat) : Prop := vs.length = ps.length ∧ ∀ (i : Nat) (v : V) (p : Pat), vs[i]? = some v → ps[i]? = some p → PatAt K C H v p
def textOf (ps : List Pat) : Str := Txt.join "\n" (ps.flatMap rowsOf)
def spPText (K : PySem.W.Frag) (C : Addr) (T : Tp) : Sp := fun vs H Q _ => ∃ (a : Addr) (xs : List V) (ps : List Pat), vs = [.ref a] ∧ SqL K H a xs ∧ PatsAt K C H xs ps ∧ Pats.sized ps ∧ TG T H ∧ ∀ H', Go T D0 H H' → Q (.str (textOf ps)) H'
theorem PatAt.go {C : Addr} {H H' : Hp} {v : V} {p : Pat} (h : PatAt K C H v p) (g : Go T D0 H H') (t : TG T H) : PatAt K C H' v p := by
  obtain ⟨a, dx, fs, nv, kv, dv, e, ep, l1, l2, l3, d1, d2, d3⟩ := h
  have s := sub_go g t
  exact ⟨a, dx, fs, nv, kv, dv, e, g.at t (fun z => z) ep, l1, l2, l3, Dp.sub s _ _ d1, Dp.sub s _ _ d2, Dp.sub s _ _ d3⟩
end
end K1
set_option Elab.async false
set_option linter.all false
set_option maxRecDepth 100000
set_option maxHeartbeats 4000000
/-! The program's method told, and _is_text. -/
namespace K1
open PySem PySem.Spec PyProof.Rows L2
section
variable {P : Program} {w : World} {K : PySem.W.Frag} {mg : Str → Option Value} {base : Heap} {T : Tp}
/-- what told tells: new lists of the very items -/
def spTold (K : PySem.W.Frag) (C : Addr) (T : Tp) : Sp := fun vs H Q _ => ∃ (v : V) (p : Pat), vs = [v] ∧ PatAt K C H v p ∧ TG T H ∧
  ∀ H' t nv kl dl kvs dvs, Go T D0 H H' → H t = none → H kl = none → H dl = none → kl ≠ dl → H' t = some (.tup [nv, .ref kl, .ref dl]) → H' kl = some (.lst kvs) → H' dl = some (.lst dvs) → Dp K H nv (eN p.name) → DpAll K H kvs (p.knows.map eN) → DpAll K H dvs (p.deeds.map eD) → Q (.ref t) H'
theorem ok_told {f C : Addr} {fd : FuncData} {k : Nat} (F : Fun K "told" "Patch.told" sPatch_told f fd) (M : Mg K mg) (PC : PCls K C) : FnOk P w K mg base CX0 (k + 1) f fd ["self"] (spTold K C T) := by
  refine F.ok scPatch_told (fun vs H Q E h => ?_) (fun cdv A outer s H vs Q E hr h => ?_)
  · obtain ⟨v, p, rfl, _⟩ := h
    rfl
  · obtain ⟨v, p, rfl, pat, tg, q⟩ := h
    refine ⟨_, pss_one (ps_ret (pe_tup (pa_cons (pe_fld (pv 0) (by rfl)) (pa_cons (pe_callTy call_list_of (by rfl) M.list_ (by decide +kernel) (pa_cons (pe_fld (pv 0) (by rfl)) pa_nil)) (pa_cons (pe_callTy call_list_of (by rfl) M.list_ (by decide +kernel) (pa_cons (pe_fld (pv 0) (by rfl)) pa_nil)) pa_nil))))), ?_⟩
    obtain ⟨a, dx, fs, nv, kv, dv, rfl, ep, ln_, lk_, ld_, dn, dk, dd⟩ := pat
    obtain ⟨ak, kvs, rfl, Sk, dks⟩ := Dp.tupI dk
    obtain ⟨ad, dvs, rfl, Sd, dds⟩ := Dp.tupI dd
    refine ⟨.ref a, rfl, a, C, dx, fs, nv, rfl, ep, PC.cls, PC.name, ln_, .ref a, rfl, a, C, dx, fs, .ref ak, rfl, ep, PC.cls, PC.knows, lk_, ak, _, rfl, .inr Sk, fun kl hkl => ?_⟩
    have g1 : Go T D0 H (upd H kl (.lst kvs)) := (Go.rfl' tg).new hkl
    have ep1 := g1.at tg (fun z => z) ep
    refine ⟨.ref a, rfl, a, C, dx, fs, .ref ad, rfl, ep1, PC.cls, PC.deeds, ld_, ad, _, rfl, .inr ((sub_go g1 tg).seqT Sd), fun dl hdl => ?_⟩
    have g2 := g1.new (o := .lst dvs) hdl
    have n1 : kl ≠ dl := ne_of_none upd_same hdl
    refine ⟨small_le (by show 3 ≤ 10000; decide), fun t ht => ?_⟩
    have ek : (upd (upd H kl (.lst kvs)) dl (.lst dvs)) kl = some (.lst kvs) := (upd_ne n1).trans upd_same
    have nk : kl ≠ t := ne_of_none ek ht
    have nd : dl ≠ t := ne_of_none upd_same ht
    exact q _ t nv kl dl kvs dvs (g2.new ht) (g2.free tg (fun z => z) ht) hkl (g1.free tg (fun z => z) hdl) n1 upd_same ((upd_ne nk).trans ek) ((upd_ne nd).trans upd_same) dn dks dds
end
end K1
set_option Elab.async false
set_option linter.all false
set_option maxRecDepth 100000
set_option maxHeartbeats 4000000
/-! Written names, lines and rows, read back. -/
namespace K1
open PySem PySem.Spec PyProof.Rows L2

theorem numL_head : ∀ m : Nat, 1 ≤ m → ∃ c r, TL.numL m = c :: r ∧ c ≠ 48 := by
  intro m
  induction m using Nat.strongRecOn with
  | _ m ih =>
    intro h
    by_cases h10 : m < 10
    · rw [TL.numL_lt h10]
      exact ⟨48 + m, [], rfl, by omega⟩
    · obtain ⟨c, r, e, n⟩ := ih (m / 10) (by omega) (by omega)
      rw [TL.numL_step (by omega), e]
      exact ⟨c, r ++ [48 + m % 10], rfl, n⟩
theorem numT_num {n : Int} (h0 : 1 ≤ n) (h1 : n < 1000000) : numT (num n) = some n := by
  obtain ⟨m, rfl⟩ := Int.eq_ofNat_of_zero_le (show 0 ≤ n by omega)
  obtain ⟨c, r, e, hc⟩ := numL_head m (by omega)
  unfold numT
  rw [show TL.tl (num ((m : Nat) : Int)) = TL.numL m from TL.tl_num m, e]
  have l6 : (c :: r).length ≤ 6 := by rw [← e]; exact TL.numL_len (by decide) (show m < 10 ^ 6 by omega)
  have al : (c :: r).all (fun c => decide (c ∈ TL.tl figs)) = true := by
    refine List.all_eq_true.mpr fun d hd => ?_
    rw [← e] at hd
    exact decide_eq_true (fig_iff.mpr (TL.numL_digits m d hd))
  have v : NumText.digitsVal (c :: r) = m := by rw [← e]; exact TL.numL_val m
  show (if (decide ((c :: r).length ≤ 6) && (decide (c ≠ 48) && (c :: r).all (fun c => decide (c ∈ TL.tl figs)))) = true then some ((NumText.digitsVal (c :: r) : Nat) : Int) else none) = _
  rw [decide_eq_true l6, decide_eq_true hc, al, v]
  rfl
theorem numV_num {n : Int} (h0 : 1 ≤ n) (h1 : n < 1000000) : numV (.str (num n)) = .int n := by
  show (match numT (num n) with | some n => V.int n | none => .non) = _
  rw [numT_num h0 h1]
theorem num_no {n : Int} (h0 : 0 ≤ n) {s : Nat} (h : s < 48 ∨ 57 < s) : s ∉ TL.tl (num n) := by
  obtain ⟨m, rfl⟩ := Int.eq_ofNat_of_zero_le h0
  rw [show TL.tl (num ((m : Nat) : Int)) = TL.numL m from TL.tl_num m]
  exact TL.numL_free h
theorem hand_no {x : Str} (h : handV (.str x) = true) {s : Nat} (hs : s < 97 ∨ 122 < s) : s ∉ TL.tl x := by
  have w : wordOk x = true := (Bool.and_eq_true_iff.mp h).1
  have w1 := Bool.and_eq_true_iff.mp w
  intro hc
  have := of_decide_eq_true (List.all_eq_true.mp w1.2 s hc)
  have e : ltrs.cps.toList.all (fun c => decide (97 ≤ c) && decide (c ≤ 122)) = true := by decide +kernel
  have r := Bool.and_eq_true_iff.mp (List.all_eq_true.mp e s this)
  have r1 := of_decide_eq_true r.1
  have r2 := of_decide_eq_true r.2
  omega
theorem join2 (y a b : Str) : a ++ y ++ b = Txt.join y [a, b] := by
  refine TL.ext_tl ?_
  rw [TL.join_eq, TL.tl_join, TL.tl_append, TL.tl_append]
  show _ = TL.tl a ++ (TL.tl y ++ TL.tl b)
  rw [List.append_assoc]
theorem join3 (y a b c : Str) : a ++ y ++ b ++ y ++ c = Txt.join y [a, b, c] := by
  refine TL.ext_tl ?_
  rw [TL.join_eq, TL.tl_join, TL.tl_append, TL.tl_append, TL.tl_append, TL.tl_append]
  show _ = TL.tl a ++ (TL.tl y ++ (TL.tl b ++ (TL.tl y ++ TL.tl c)))
  simp only [List.append_assoc]
theorem split_nm {n : Nm} (h : NmOk n) : Txt.split (nmTxt n) "." = [n.1, num n.2] := by
  unfold nmTxt
  rw [join2]
  refine TL.split_join (S := []) sepDot.tl sepDot.low (by simp) fun p hp => ?_
  rcases List.mem_cons.mp hp with rfl | hp
  · exact hand_no h.1 (by omega)
  · rw [List.mem_singleton.mp hp]
    exact num_no (Int.le_trans (by decide) h.2.1) (by omega)
theorem nameS_back {n : Nm} (h : NmOk n) : nameS (nmTxt n) = some [.str n.1, .int n.2] := by
  unfold nameS
  rw [split_nm h]
  show (if nameL (some [.str n.1, numV (.str (num n.2))]) = true then some [V.str n.1, numV (.str (num n.2))] else none) = _
  rw [numV_num h.2.1 (Int.lt_of_le_of_lt h.2.2 (by decide)), if_pos]
  show (handV (.str n.1) && (decide (1 ≤ n.2) && decide (n.2 ≤ 999))) = true
  rw [h.1, decide_eq_true h.2.1, decide_eq_true h.2.2]
  rfl
theorem split_ln {l : Ln} (h : LnOk l) : Txt.split (l.1 ++ "." ++ num l.2.1 ++ "." ++ num l.2.2) "." = [l.1, num l.2.1, num l.2.2] := by
  rw [join3]
  refine TL.split_join (S := []) sepDot.tl sepDot.low (by simp) fun p hp => ?_
  rcases List.mem_cons.mp hp with rfl | hp
  · exact hand_no h.1.1 (by omega)
  rcases List.mem_cons.mp hp with rfl | hp
  · exact num_no (Int.le_trans (by decide) h.1.2.1) (by omega)
  · rw [List.mem_singleton.mp hp]
    exact num_no (Int.le_trans (by decide) h.2) (by omega)
theorem lineS_back {l : Ln} (h : EdOk l) (s : l.2.2 < 1000000) : lineS (lnTxt l) = some [.str l.1, .int l.2.1, .int l.2.2] := by
  rcases h with h | rfl | rfl
  · have e2 : lnTxt l = l.1 ++ "." ++ num l.2.1 ++ "." ++ num l.2.2 := by
      unfold lnTxt
      rw [if_neg, if_neg]
      · exact h.ne_foot
      · rintro rfl
        have := h.1.1
        revert this
        decide +kernel
    have dot : (46 : Nat) ∈ TL.tl (lnTxt l) := by
      rw [e2]
      simp only [TL.tl_append, sepDot.tl]
      simp
    have n1 : lnTxt l ≠ "head" := by
      intro z
      rw [z] at dot
      revert dot
      decide +kernel
    have n2 : lnTxt l ≠ "foot" := by
      intro z
      rw [z] at dot
      revert dot
      decide +kernel
    unfold lineS
    rw [if_neg n1, if_neg n2, e2, split_ln h]
    show (if putL (some [.str l.1, numV (.str (num l.2.1)), numV (.str (num l.2.2))]) = true then some [V.str l.1, numV (.str (num l.2.1)), numV (.str (num l.2.2))] else none) = _
    have a1 : handV (.str l.1) = true := h.1.1
    have a2 : (1 : Int) ≤ l.2.1 := h.1.2.1
    have a3 : l.2.1 ≤ 999 := h.1.2.2
    rw [numV_num a2 (Int.lt_of_le_of_lt a3 (by decide)), numV_num h.2 s, if_pos]
    show ((handV (.str l.1) && (decide (1 ≤ l.2.1) && decide (l.2.1 ≤ 999))) && decide (1 ≤ l.2.2)) = true
    rw [a1, decide_eq_true a2, decide_eq_true a3, decide_eq_true h.2]
    rfl
  · decide +kernel
  · decide +kernel
/-! rows and words -/
theorem sepNl : Sep "\n" 10 := ⟨by decide +kernel, by decide +kernel⟩
theorem joinL_no {s c : Nat} (hs : s ≠ c) : ∀ {L : List (List Nat)}, (∀ p ∈ L, c ∉ p) → c ∉ TL.joinL [s] L
  | [], _ => fun h => by cases h
  | [p], h => h p (List.mem_cons_self ..)
  | p :: q :: r, h => by
    show c ∉ p ++ ([s] ++ TL.joinL [s] (q :: r))
    intro hm
    rcases List.mem_append.mp hm with hm | hm
    · exact h p (List.mem_cons_self ..) hm
    rcases List.mem_append.mp hm with hm | hm
    · exact hs (List.mem_singleton.mp hm).symm
    · exact joinL_no hs (L := q :: r) (fun z hz => h z (List.mem_cons_of_mem _ hz)) hm
theorem row_no {ws : List Str} (h : ∀ w ∈ ws, 10 ∉ TL.tl w) : 10 ∉ TL.tl (Txt.join " " ws) := by
  rw [TL.join_eq, TL.tl_join, sepBlank.tl]
  refine joinL_no (by decide) fun p hp => ?_
  obtain ⟨w, hw, rfl⟩ := List.mem_map.mp hp
  exact h w hw
theorem nmTxt_no {n : Nm} (h : NmOk n) {s : Nat} (hs : s < 46) : s ∉ TL.tl (nmTxt n) := by
  unfold nmTxt
  simp only [TL.tl_append, sepDot.tl]
  intro hm
  rcases List.mem_append.mp hm with hm | hm
  · rcases List.mem_append.mp hm with hm | hm
    · exact hand_no h.1 (by omega) hm
    · have := List.mem_singleton.mp hm
      omega
  · exact num_no (Int.le_trans (by decide) h.2.1) (by omega) hm
theorem lnTxt_no {l : Ln} (h : EdOk l) (sm : 0 ≤ l.2.2) {s : Nat} (hs : s < 46) : s ∉ TL.tl (lnTxt l) := by
  have a1 : ∀ x : Str, (TL.tl x).all (fun c => decide (46 ≤ c)) = true → s ∉ TL.tl x := fun x e hm => by
    have := of_decide_eq_true (List.all_eq_true.mp e s hm)
    omega
  rcases h with h | rfl | rfl
  · unfold lnTxt
    split
    · exact a1 _ (by decide +kernel)
    · split
      · exact a1 _ (by decide +kernel)
      · simp only [TL.tl_append, sepDot.tl]
        intro hm
        rcases List.mem_append.mp hm with hm | hm
        · rcases List.mem_append.mp hm with hm | hm
          · rcases List.mem_append.mp hm with hm | hm
            · rcases List.mem_append.mp hm with hm | hm
              · exact hand_no h.1.1 (by omega) hm
              · have := List.mem_singleton.mp hm
                omega
            · exact num_no (Int.le_trans (by decide) h.1.2.1) (by omega) hm
          · have := List.mem_singleton.mp hm
            omega
        · exact num_no sm (by omega) hm
  · exact a1 _ (by decide +kernel)
  · exact a1 _ (by decide +kernel)
/-- no row of a patch has a line feed -/
theorem rows_no {p : Pat} (h : p.sized) : ∀ r ∈ rowsOf p, 10 ∉ TL.tl r := by
  have plain : ∀ x : Str, (TL.tl x).all (fun c => decide (c ≠ 10)) = true → 10 ∉ TL.tl x := fun x e hm => (of_decide_eq_true (List.all_eq_true.mp e 10 hm)) rfl
  intro r hr
  unfold rowsOf at hr
  rcases List.mem_cons.mp hr with rfl | hr
  · simp only [TL.tl_append]
    intro hm
    rcases List.mem_append.mp hm with hm | hm
    · rcases List.mem_append.mp hm with hm | hm
      · rcases List.mem_append.mp hm with hm | hm
        · exact plain "patch " (by decide +kernel) hm
        · exact hand_no h.ok.name.1 (by omega) hm
      · exact plain " " (by decide +kernel) hm
    · exact num_no (Int.le_trans (by decide) h.ok.name.2.1) (by omega) hm
  rcases List.mem_cons.mp hr with rfl | hr
  · refine row_no fun w hw => ?_
    rcases List.mem_cons.mp hw with rfl | hw
    · exact plain _ (by decide +kernel)
    · unfold knownWords at hw
      split at hw
      · rw [List.mem_singleton.mp hw]
        exact plain _ (by decide +kernel)
      · obtain ⟨n, hn, rfl⟩ := List.mem_map.mp hw
        exact nmTxt_no (h.ok.knows n hn) (by omega)
  · obtain ⟨d, hd, hr⟩ := List.mem_flatMap.mp hr
    unfold deedRows at hr
    rcases List.mem_cons.mp hr with rfl | hr
    · refine row_no fun w hw => ?_
      rcases List.mem_cons.mp hw with rfl | hw
      · cases d with
        | put => exact plain "put" (by decide +kernel)
        | order => exact plain "order" (by decide +kernel)
        | one k =>
          show 10 ∉ TL.tl (kindS k)
          cases k
          · exact plain "cut" (by decide +kernel)
          · exact plain "keep" (by decide +kernel)
      · obtain ⟨l, hl, rfl⟩ := List.mem_map.mp hw
        have eo := deed_ed (h.ok.deeds d hd) l hl
        exact lnTxt_no eo (ed_nums eo (h.lines d hd l hl)).2.2.2 (by omega)
    · obtain ⟨t, ht, rfl⟩ := List.mem_map.mp hr
      rw [TL.tl_append]
      intro hm
      rcases List.mem_append.mp hm with hm | hm
      · exact plain "+" (by decide +kernel) hm
      · exact (deed_tx (h.ok.deeds d hd) t ht).2.2 hm
/-- the rows of a text of patches, read back -/
theorem split_text {ps : List Pat} (h : ∀ p ∈ ps, p.sized) (ne : ps ≠ []) : Txt.split (textOf ps) "\n" = ps.flatMap rowsOf := by
  refine TL.split_join (S := []) sepNl.tl sepNl.low ?_ fun r hr => ?_
  · cases ps with
    | nil => exact absurd rfl ne
    | cons p r => simp [rowsOf]
  · obtain ⟨p, hp, hr⟩ := List.mem_flatMap.mp hr
    exact rows_no (h p hp) r hr
end K1
set_option Elab.async false
set_option linter.all false
set_option maxRecDepth 100000
set_option maxHeartbeats 4000000
/-! The words of written rows, read back. -/
namespace K1
open PySem PySem.Spec PyProof.Rows L2
theorem words_back {ws : List Str} (ne : ws ≠ []) (h : ∀ w ∈ ws, 32 ∉ TL.tl w ∧ w ≠ "") : wordsV (.str (Txt.join " " ws)) = some ws := by
  have e : Txt.split (Txt.join " " ws) " " = ws := TL.split_join (S := []) sepBlank.tl sepBlank.low ne fun w hw => (h w hw).1
  show (if inV (.str "") ((Txt.split (Txt.join " " ws) " ").map V.str) = true then none else some (Txt.split (Txt.join " " ws) " ")) = _
  rw [e, if_neg]
  intro hi
  have : ∀ l : List Str, (∀ w ∈ l, w ≠ "") → inV (.str "") (l.map V.str) = false := by
    intro l
    induction l with
    | nil => intro _; rfl
    | cons w r ih =>
      intro hl
      show (eqV (.str w) (.str "") || inV (.str "") (r.map V.str)) = false
      rw [ih fun z m => hl z (List.mem_cons_of_mem _ m), Bool.or_false]
      exact beq_eq_false_iff_ne.mpr (hl w (List.mem_cons_self ..))
  rw [this ws fun w hw => (h w hw).2] at hi
  cases hi
theorem ne_of_tl {x : Str} (h : TL.tl x ≠ []) : x ≠ "" := by
  rintro rfl
  exact h (by decide +kernel)
theorem num_ne {n : Int} (h : 0 ≤ n) : num n ≠ "" := by
  obtain ⟨m, rfl⟩ := Int.eq_ofNat_of_zero_le h
  refine ne_of_tl ?_
  rw [show TL.tl (num ((m : Nat) : Int)) = TL.numL m from TL.tl_num m]
  exact TL.numL_ne m
theorem hand_ne {x : Str} (h : handV (.str x) = true) : x ≠ "" := by
  rintro rfl
  revert h
  decide +kernel
theorem nmTxt_ne {n : Nm} (h : NmOk n) : nmTxt n ≠ "" := by
  refine ne_of_tl ?_
  unfold nmTxt
  simp only [TL.tl_append, sepDot.tl]
  simp
theorem lnTxt_ne (l : Ln) : lnTxt l ≠ "" := by
  unfold lnTxt
  split
  · decide +kernel
  · split
    · decide +kernel
    · refine ne_of_tl ?_
      simp only [TL.tl_append, sepDot.tl]
      simp
theorem kind_word (d : Deed) : 32 ∉ TL.tl d.kind ∧ d.kind ≠ "" := by
  cases d with
  | put => exact ⟨show 32 ∉ TL.tl ("put" : Str) by decide +kernel, show ("put" : Str) ≠ "" by decide +kernel⟩
  | order => exact ⟨show 32 ∉ TL.tl ("order" : Str) by decide +kernel, show ("order" : Str) ≠ "" by decide +kernel⟩
  | one k =>
    show 32 ∉ TL.tl (kindS k) ∧ kindS k ≠ ""
    cases k
    · exact ⟨by decide +kernel, by decide +kernel⟩
    · exact ⟨by decide +kernel, by decide +kernel⟩
/-- the first row's words -/
theorem first_words {n : Nm} (h : NmOk n) : wordsV (.str ("patch " ++ n.1 ++ " " ++ num n.2)) = some (["patch", n.1, num n.2] : List Str) := by
  have e : ("patch " ++ n.1 ++ " " ++ num n.2 : Str) = Txt.join " " ["patch", n.1, num n.2] := by
    rw [← join3]
    have : ("patch " : Str) = "patch" ++ " " := by decide +kernel
    rw [this]
  rw [e]
  refine words_back (by simp) fun w hw => ?_
  rcases List.mem_cons.mp hw with rfl | hw
  · exact ⟨by decide +kernel, by decide +kernel⟩
  rcases List.mem_cons.mp hw with rfl | hw
  · exact ⟨hand_no h.1 (by omega), hand_ne h.1⟩
  · rw [List.mem_singleton.mp hw]
    have := Int.le_trans (show (0 : Int) ≤ 1 by decide) h.2.1
    exact ⟨num_no this (by omega), num_ne this⟩
/-- the second row's words -/
theorem second_words {ns : List Nm} (h : ∀ n ∈ ns, NmOk n) : wordsV (.str (Txt.join " " ("knows" :: knownWords ns))) = some ("knows" :: knownWords ns : List Str) := by
  refine words_back (by simp) fun w hw => ?_
  rcases List.mem_cons.mp hw with rfl | hw
  · exact ⟨by decide +kernel, by decide +kernel⟩
  · unfold knownWords at hw
    split at hw
    · rw [List.mem_singleton.mp hw]
      exact ⟨by decide +kernel, by decide +kernel⟩
    · obtain ⟨n, hn, rfl⟩ := List.mem_map.mp hw
      exact ⟨nmTxt_no (h n hn) (by omega), nmTxt_ne (h n hn)⟩
/-- a deed's words -/
theorem deed_words {d : Deed} (h : d.ok) (s : ∀ l ∈ d.lines, l.2.2 < 1000000) : wordsV (.str (Txt.join " " (d.kind :: d.lines.map lnTxt))) = some (d.kind :: d.lines.map lnTxt) := by
  refine words_back (by simp) fun w hw => ?_
  rcases List.mem_cons.mp hw with rfl | hw
  · exact kind_word d
  · obtain ⟨l, hl, rfl⟩ := List.mem_map.mp hw
    have eo := deed_ed h l hl
    exact ⟨lnTxt_no eo (ed_nums eo (s l hl)).2.2.2 (by omega), lnTxt_ne l⟩
end K1
set_option Elab.async false
set_option linter.all false
set_option maxRecDepth 100000
set_option maxHeartbeats 400000
/-! for x, y in enumerate(list, start=k). -/
namespace K1
open PySem PySem.Spec PyProof.Rows L2

section
variable {M : Model} {A : Around} {E : Value → Shared → Prop} {s : Shared} {env : Env}
theorem callWith_typeK {pos : Pos} {T : String} {first : List Value} {args : List (Bool × Sem Value)} {keywords : List (Option Str × Sem Value)} {Q : Value → Shared → Prop}
    (hplain : args.any (·.1) = false) (hkw : keywords.any (·.1.isNone) = false)
    (h : wpAny M A (evalArgs (.type T) true args keywords) (fun a s₁ => wpAny M A (call (.type T) (first ++ a.pos) a.kw) Q E s₁) E s) :
    wpAny M A (callWith pos (.type T) first args keywords) Q E s := by
  unfold callWith
  refine wpAny_bind (wpAny_holding (wpAny_mono h (fun a s₁ h₁ => wpAny_bind (wpAny_standAt ?_)) fun _ _ x => x))
  simp only [hplain, hkw, Bool.or_false]
  refine wpAny_bind (wpAny_pure ?_)
  exact wpAny_bind (wpAny_mono h₁ (fun r s₂ hr => wpAny_bind (wpAny_holding (wpAny_point (wpAny_pure hr)))) fun _ _ x => x)
end
section
variable {prog : Program} {w : World} {A : Around} {E : Value → Shared → Prop} {s : Shared}
theorem pyNext_enum_end {e it l : Addr} {i : Nat} {c : Int} {items : Array Value} {old : Value} {Q : Option Value → Shared → Prop} (hh : A.handled = none)
    (he : IsEnum s.heap e it c old) (hit : s.heap.IsListIter it l i) (hl : s.heap.IsList l items) (hx : items[i]? = none)
    (hQ : ∀ h', Heap.ExtBut it s.heap h' → Q none { s with heap := h' }) : wpAny (model prog w) A (pyNext (.ref e)) Q E s := by
  have hT : s.TypeIs (.ref e) "enumerate" := ⟨_, he, rfl⟩
  unfold pyNext
  refine wpAny_bind (wpAny_attempt (wpAny_callSpecial?_slot (name := Str.ofString "__next__") hT PySem.F.slot_enumerate_next
    (wpAny_call_entry PySem.F.slot_enumerate_next hT PySem.F.entry_enumerate_next ?_ (PySem.F.args_enumerate_next_1 _))))
  show wpAny _ _ (field (.ref e) 2 >>= _) _ _ _
  refine wpAny_bind (wpAny_field he rfl (x := .ref it) rfl ?_)
  refine wpAny_bind (wpAny_nextOf_list_end hh hit hl hx fun h' x he' hx' => ?_)
  obtain ⟨o, ho, hc⟩ := hx'
  refine wpAny_bind (wpAny_isInstance (T := "StopIteration") (b := true) ⟨o, ho, hc⟩ isSubtype_stop ?_)
  exact wpAny_pure (hQ _ he')
theorem pyNext_enum_item {e it l : Addr} {i : Nat} {c : Int} {items : Array Value} {x old : Value} {Q : Option Value → Shared → Prop} (hh : A.handled = none)
    (he : IsEnum s.heap e it c old) (hit : s.heap.IsListIter it l i) (hl : s.heap.IsList l items) (hx : items[i]? = some x) (hne : e ≠ it)
    (hQ : ∀ h' tk, IsEnumOut h' e it (c + 1) x s.heap.objs.size → h'.IsListIter it l (i + 1) →
      h'.get? s.heap.objs.size = some { cls := .type "tuple", data := .seq #[.int c tk, x] } → h'.objs.size = s.heap.objs.size + 1 →
      (∀ b o, b ≠ e → b ≠ it → s.heap.get? b = some o → h'.get? b = some o) → Q (some (.ref s.heap.objs.size)) { s with heap := h', toks := tk + 1 }) :
    wpAny (model prog w) A (pyNext (.ref e)) Q E s := by
  have n1 : l ≠ it := by
    rintro rfl
    obtain ⟨o, ho, hc, _⟩ := hl
    obtain ⟨o', ho', hc', _⟩ := hit
    rw [ho] at ho'
    cases ho'
    rw [hc] at hc'
    exact absurd hc' (by decide)
  have n2 : e ≠ l := by
    rintro rfl
    obtain ⟨o, ho, hc, _⟩ := hl
    have he' : s.heap.get? e = some _ := he
    rw [ho] at he'
    cases he'
    exact absurd (show (Value.type "enumerate") = .type "list" from hc) (by decide)
  have hlt : i < items.size := by
    rcases Nat.lt_or_ge i items.size with h | h
    · exact h
    · rw [Array.getElem?_eq_none h] at hx
      cases hx
  refine wpAny_pyNext_enum_itemC (Draws.list (A := A.in1) hh it l n1 items) he ⟨hit, hl⟩ hlt hne (by simp [hne, n2]) fun y h' tk hy ho st ht hz hk => ?_
  rw [hx] at hy
  cases hy
  exact hQ h' tk ho st.1 ht hz hk
end
/-- the list at a as it stands at each turn, each item in a new pair, counted from k -/
def IteK (K : PySem.W.Frag) (a : Addr) (k : Nat) : It :=
  ⟨fun i H => ∃ (xs : List V) (x : V), SqL K H a xs ∧ xs[i]? = some x, fun i H v H' => ∃ T x, v = .ref T ∧ H T = none ∧ H' = upd H T (.tup [.int ((k + i : Nat)), x]) ∧ ∀ xs, SqL K H a xs → xs[i]? = some x, fun i H => ∃ xs : List V, SqL K H a xs ∧ xs.length ≤ i⟩
theorem turn_enumK {P : Program} {w : World} {K : PySem.W.Frag} {elts : List Expr} {kk : Nat} {tpos : Pos} (a e it : Addr) (k : Nat) :
    Turn P w K (.Tuple elts kk tpos) (IteK K a k) [e, it] e (fun i h => (∃ old, IsEnum h e it (((k + i : Nat)) : Int) old) ∧ h.IsListIter it a i ∧ e ≠ it) where
  mem := by simp
  obj := fun i h st b hb => by
    obtain ⟨⟨old, he⟩, ⟨o, ho, hc, hd⟩, _⟩ := st
    have e' : b = e ∨ b = it := by simpa using hb
    rcases e' with z | z
    · rw [z]; exact ⟨_, he, fun v q => nomatch q⟩
    · rw [z]; exact ⟨o, ho, fun v q => by rw [hd] at q; cases q⟩
  keep := fun i h h' st g => let ⟨⟨old, he⟩, hi, hne⟩ := st; ⟨⟨old, g e (by simp) _ he⟩, hi.at fun o q => g it (by simp) o q, hne⟩
  item := by
    intro X hP hw hK hc i pins s σ H E I hf st hg
    subst hP hw hK
    obtain ⟨⟨old, he⟩, hit, hne⟩ := st
    obtain ⟨xs, x, hq, hx⟩ := hg
    obtain ⟨its, rv, p, hz⟩ := I.list hq
    obtain ⟨u, hu, ru⟩ := rv.get hx
    have hel : e < s.heap.objs.size := Heap.lt_size he
    have hil : it < s.heap.objs.size := by obtain ⟨_, q, _⟩ := hit; exact Heap.lt_size q
    refine pyNext_enum_item (I.ok.hd hc) he hit p.isList (x := u) (by simpa using hu) hne fun h' tk ho hit' hT hsz hk => ?_
    refine ⟨_, rfl, wpAny_letOwnedTupleGo_enum (s := { s with heap := h', toks := tk + 1 }) ho fun h'' he' sb => ?_⟩
    have hT2 : h''.get? s.heap.objs.size = some { cls := .type "tuple", data := .seq #[.int ((k + i : Nat)) tk, u] } := (sb.2 _ (Nat.ne_of_gt hel)).trans hT
    have new : ObjOk X.prog X.w (upd H s.heap.objs.size (.tup [.int ((k + i : Nat)), x])) h'' s.heap.objs.size (.tup [.int ((k + i : Nat)), x]) :=
      ⟨by show 2 ≤ sizeLine; decide, [.int ((k + i : Nat)) tk, u], .cons ⟨_, rfl⟩ (.cons ru .nil), ⟨_, hT2, rfl, _, rfl⟩⟩
    have I1 : Inv X pins σ (upd H s.heap.objs.size (.tup [.int ((k + i : Nat)), x])) { s with heap := h'', toks := tk + 1 } :=
      I.turnedNew (ch := [e, it]) (fun b ob hb q => (sb.2 b (fun z => hb (by simp [z]))).trans (hk b ob (fun z => hb (by simp [z])) (fun z => hb (by simp [z])) q)) hf (Nat.le_refl _) new
    refine ⟨.ref s.heap.objs.size, _, I1, rfl, ⟨_, x, rfl, I.hok.fresh (Nat.le_refl _), rfl, fun ys hy => by rw [I.list_inj hy hq]; exact hx⟩, ⟨⟨u, ?_⟩, hit'.at fun o q => (sb.2 it (Ne.symm hne)).trans q, hne⟩, fun b hb => ?_⟩
    · have e1 : ((k + (i + 1) : Nat) : Int) = ((k + i : Nat) : Int) + 1 := by omega
      rw [e1]; exact he'
    · have hb' : b < s.heap.objs.size := by
        have e' : b = e ∨ b = it := by simpa using hb
        rcases e' with z | z
        · rw [z]; exact hel
        · rw [z]; exact hil
      rw [upd_ne (Nat.ne_of_lt hb')]
      exact (hf b hb).1
  done := by
    intro X hP hw hK hc i pins s σ H E I hf st hg
    subst hP hw hK
    obtain ⟨⟨old, he⟩, hit, hne⟩ := st
    obtain ⟨xs, hq, hx⟩ := hg
    obtain ⟨its, rv, p, hz⟩ := I.list hq
    obtain ⟨f0, f1, f2, f3, f4, f5⟩ := hf it (by simp)
    have hl := rv.length
    exact pyNext_enum_end (I.ok.hd hc) he hit p.isList (by simp; omega) fun h' eb => ⟨rfl, I.turned (t' := s.toks) (fun b o hb q => eb b o hb q) f0 f1 f3 f4 f5⟩
  self := fun A i s Q E st h => let ⟨⟨_, he⟩, _⟩ := st; wpAny_pyIter_enum he h
def iEnumK (K : PySem.W.Frag) (k : Nat) (ta : TA) : TI := fun σ H R => ta σ H fun vs H1 => ∃ a xs, vs = [.ref a] ∧ SqL K H1 a xs ∧ R (IteK K a k) H1
theorem pi_enumK {X : Cx} {e : Expr} {ta : TA} {p pos tpos kp cp : Pos} {elts : List Expr} {kk j : Nat} (k : Nat) (hk : k ≤ 1000) (hg : Gl X "enumerate") (hm : X.mg "enumerate" = none) (ha : PA X [e] ta) (hs : starEach [e] X.env = [(false, eval e X.env)] := by rfl) :
    PI X (.Tuple elts kk tpos) (.Call (.Name "enumerate" p) [e] [⟨some "start", .Constant (.int k) j cp, kp⟩] pos) (iEnumK X.K k ta) := by
  refine ⟨fun pins s σ H R I h => ?_⟩
  show wpAny _ _ (do callWith pos (← eval (.Name "enumerate" p) X.env) [] (backTo pos (starEach [e] X.env)) (backToKw pos (keywordEach [⟨some "start", .Constant (.int k) j cp, kp⟩] X.env))) _ _ s
  refine wpAny_bind (ld_blt I hg hm boot_enumerate ?_)
  rw [hs]
  refine callWith_typeK rfl rfl (evalArgs_kwB (x := eval e X.env) (rest := []) rfl ?_)
  have h1 : wpAny (model X.prog X.w) X.A (spliced [(false, eval e X.env)]) (AP X pins σ fun vs H1 => ∃ a xs, vs = [V.ref a] ∧ SqL X.K H1 a xs ∧ R (IteK X.K a k) H1) X.xe s := by
    have h2 := ha.run pos pins s σ H _ I h
    rw [hs] at h2
    exact h2
  refine thn h1 fun us s1 ⟨vs, H1, I1, r1, a, xs, ex, hq, q⟩ => ?_
  subst ex
  cases r1 with
  | cons r rr =>
    cases rr
    cases r
    have I1' := I1
    refine kws_cons (thn (pe_int.run pins s1 σ H1 (fun v H2 => v = V.int k ∧ H2 = H1) I1 ⟨rfl, rfl⟩) fun u s2 ⟨v, H2, I2, rv2, ev, eH⟩ => kws_nil ?_)
    subst ev eH
    obtain ⟨t, rfl⟩ := rv2
    obtain ⟨its, rv, p', hz⟩ := I2.list hq
    refine enum_begins_start (begins_list a its.toArray) (by exact p'.isList) (by omega) (by omega) fun h' he hit hsz hk2 => wpAny_pyIter_enum he ?_
    have I3 : Inv X pins σ H2 { s2 with heap := h' } := I2.kept (t' := s2.toks) hk2
    refine ⟨s2.heap.objs.size + 1, [s2.heap.objs.size + 1, s2.heap.objs.size], _, _, H2, rfl, I3, turn_enumK a (s2.heap.objs.size + 1) s2.heap.objs.size k, ⟨⟨.none, by simpa using he⟩, ?_, Nat.succ_ne_self _⟩, fun b hb => ?_, q⟩
    · exact ⟨_, hit, rfl, rfl⟩
    · have e' : b = s2.heap.objs.size + 1 ∨ b = s2.heap.objs.size := by simpa using hb
      have hle : s2.heap.objs.size ≤ b := by
        rcases e' with z | z
        · rw [z]; exact Nat.le_add_right _ _
        · rw [z]; exact Nat.le_refl _
      exact I2.fpOk hle (I2.hok.fresh hle)
theorem walk_enumK {K : PySem.W.Frag} {a : Addr} {xs : List V} {k : Nat} : Walk (IteK K a k) xs.length (fun H => SqL K H a xs) (YPair (fun i => some (.int ((k + i : Nat)))) (fun i => xs[i]?)) := by
  refine ⟨fun i _ hi q => ⟨xs, xs[i], q, by simp [hi]⟩, fun _ q => ⟨xs, q, Nat.le_refl _⟩, fun i H v H' _ q y => ?_⟩
  obtain ⟨T, x, h1, h2, h3, h4⟩ := y
  exact ⟨T, .int ((k + i : Nat)), x, h1, h2, h3, rfl, h4 xs q⟩
end K1
set_option Elab.async false
set_option linter.all false
set_option maxRecDepth 100000
set_option maxHeartbeats 400000
/-! The program's defs: is_text, _can_put, _is_deed, _many_deeds: of good deeds. -/
namespace K1
open PySem PySem.Spec PyProof.Rows L2

/-- the numbers of the module of patches -/
structure Mp (mg : Str → Option Value) : Prop where
  mostD : ∃ t, mg "MOST_DEEDS" = some (.int 400 t)
  mostT : ∃ t, mg "MOST_TEXTS" = some (.int 200 t)
  mostS : ∃ t, mg "MOST_SIGNS" = some (.int 40 t)
def textV : V → Bool
  | .str x => decide ((x.length : Int) ≤ 40) && !decide (10 ∈ TL.tl x)
  | _ => false
theorem TxOk.v {x : Str} (h : TxOk x) : textV (.str x) = true := by
  show (decide ((x.length : Int) ≤ 40) && !decide (10 ∈ TL.tl x)) = true
  rw [decide_eq_true (by have := h.2.1; omega), decide_eq_false h.2.2]
  rfl
theorem nl_one : ("\n" : Str) = ⟨#[10]⟩ := by decide +kernel
theorem LnOk.put {l : Ln} (h : LnOk l) : putL (some [.str l.1, .int l.2.1, .int l.2.2]) = true := by
  show ((handV (.str l.1) && (decide (1 ≤ l.2.1) && decide (l.2.1 ≤ 999))) && decide (1 ≤ l.2.2)) = true
  rw [show handV (.str l.1) = true from h.1.1, decide_eq_true (show 1 ≤ l.2.1 from h.1.2.1), decide_eq_true (show l.2.1 ≤ 999 from h.1.2.2), decide_eq_true h.2]
  rfl
theorem EdOk.v {l : Ln} (h : EdOk l) : putL (some [.str l.1, .int l.2.1, .int l.2.2]) = true ∨ endL (some [.str l.1, .int l.2.1, .int l.2.2]) = true := by
  rcases h with h | rfl | rfl
  · exact .inl h.put
  · exact .inr (by decide +kernel)
  · exact .inr (by decide +kernel)
theorem NmOk.v {n : Nm} (h : NmOk n) : nameL (some [.str n.1, .int n.2]) = true := by
  show (handV (.str n.1) && (decide (1 ≤ n.2) && decide (n.2 ≤ 999))) = true
  rw [show handV (.str n.1) = true from h.1, decide_eq_true h.2.1, decide_eq_true h.2.2]
  rfl
/-- a line's tuple is a thing -/
theorem ln_th {K : PySem.W.Frag} {H : Hp} {v : V} {l : Ln} (d : Dp K H v (eL l)) (h : l.1.length ≤ 1000) : Th K H v "tuple" (some [.str l.1, .int l.2.1, .int l.2.2]) ∧ ThAll K H (some [.str l.1, .int l.2.1, .int l.2.2]) := by
  obtain ⟨a, xs, rfl, S, q⟩ := Dp.tupI d
  obtain ⟨x, y, z, rfl, q1, q2, q3⟩ := DpAll.i3 q
  cases Dp.strI q1
  cases Dp.intI q2
  cases Dp.intI q3
  refine ⟨.tup S, ?_⟩
  intro ys hy z hz
  cases hy
  rcases List.mem_cons.mp hz with rfl | hz
  · exact ⟨_, _, .str _ (small_le (by omega))⟩
  · rcases List.mem_cons.mp hz with rfl | hz
    · exact ⟨_, _, .int _⟩
    · obtain rfl := List.mem_singleton.mp hz
      exact ⟨_, _, .int _⟩
theorem nm_th {K : PySem.W.Frag} {H : Hp} {v : V} {n : Nm} (d : Dp K H v (eN n)) (h : n.1.length ≤ 1000) : Th K H v "tuple" (some [.str n.1, .int n.2]) ∧ ThAll K H (some [.str n.1, .int n.2]) := by
  obtain ⟨a, xs, rfl, S, q⟩ := Dp.tupI d
  obtain ⟨x, y, rfl, q1, q2⟩ := DpAll.i2 q
  cases Dp.strI q1
  cases Dp.intI q2
  refine ⟨.tup S, ?_⟩
  intro ys hy z hz
  cases hy
  rcases List.mem_cons.mp hz with rfl | hz
  · exact ⟨_, _, .str _ (small_le (by omega))⟩
  · obtain rfl := List.mem_singleton.mp hz
    exact ⟨_, _, .int _⟩
theorem ln_st {l : Ln} (h : EdOk l) : StAll (some [.str l.1, .int l.2.1, .int l.2.2]) := by
  intro xs e x m
  cases e
  have m' : x = l.1 := by
    rcases List.mem_cons.mp m with z | m
    · exact V.str.inj z
    · rcases List.mem_cons.mp m with z | m
      · cases z
      · cases List.mem_singleton.mp m
  rw [m']
  exact h.str
theorem EdOk.len {l : Ln} (h : EdOk l) : l.1.length ≤ 1000 := by
  rcases h with h | rfl | rfl
  · have := (handOk h.1.1).2
    exact Nat.le_trans this (by decide)
  · decide +kernel
  · decide +kernel
section
variable {P : Program} {w : World} {K : PySem.W.Frag} {mg : Str → Option Value} {base : Heap} {T : Tp}

/-! ### is_text -/
def spIsText (K : PySem.W.Frag) : Sp := fun vs H Q _ => ∃ v n o, vs = [v] ∧ Th K H v n o ∧ Q (.bl (textV v)) H
theorem ok_istext {f : Addr} {fd : FuncData} {k : Nat} (F : Fun K "is_text" "is_text" sIsText f fd) (M : Mg K mg) (N : Mp mg) : FnOk P w K mg base CX0 (k + 1) f fd ["thing"] (spIsText K) := by
  obtain ⟨tk, hS⟩ := N.mostS
  refine F.ok scIsText (fun vs H Q E h => ?_) (fun cdv A outer s H vs Q E hr h => ?_)
  · obtain ⟨v, n, o, rfl, _⟩ := h
    rfl
  · obtain ⟨v, n, o, rfl, th, q⟩ := h
    refine ⟨_, (pss_one (ps_ret (pe_and (pe_callB call_isi (by rfl) M.ins boot_isinstance (pa_cons (pv 0) (pa_cons (pe_bltn (v := .ty "str") (by rfl) M.str_ boot_str rfl) pa_nil))) (pe_and (pe_cmpR op_le (pe_callB call_len_str (by rfl) M.len_ PySem.boot_len (pa_cons (pv 0) pa_nil)) (pe_glob (v := .int 40) (by rfl) hS ⟨_, rfl⟩) (nomark _)) (pe_one (pe_cmpR op_notIn_sign pe_str (pv 0) (by rfl))))))), ?_⟩
    refine ⟨v, rfl, v, .ty "str", .type n, .type "str", _, rfl, .ty _, th.ty, kit_ty th.kstr, _, rfl, ite2 (fun e => ?_) (fun e => ?_)⟩
    · obtain ⟨x, rfl, hx⟩ := th.strOf e
      refine ⟨.str x, rfl, x, rfl, hx, _, _, rfl, rfl, _, rfl, ite2 (fun e1 => ⟨.str x, rfl, 10, x, congrArg V.str nl_one, rfl, ?_⟩) (fun e1 => ?_)⟩
      · have e2 : (!decide (10 ∈ x.cps.toList)) = textV (.str x) := by
          show _ = (decide ((x.length : Int) ≤ 40) && !decide (10 ∈ TL.tl x))
          rw [e1, Bool.true_and]
        rw [← e2] at q
        exact q
      · have e2 : false = textV (.str x) := by
          show _ = (decide ((x.length : Int) ≤ 40) && !decide (10 ∈ TL.tl x))
          rw [Bool.eq_false_iff.mpr e1, Bool.false_and]
        rw [← e2] at q
        exact q
    · have e2 : textV v = false := by
        cases v with
        | str x => exact absurd rfl e
        | _ => rfl
      rw [e2] at q
      exact q

/-! ### _can_put -/
def spCanPut (K : PySem.W.Frag) (T : Tp) : Sp := fun vs H Q _ => ∃ (a b t : V) (la lb : Ln) (ts : List Str), vs = [a, b, t] ∧ Dp K H a (eL la) ∧ EdOk la ∧ Dp K H b (eL lb) ∧ EdOk lb ∧ Dp K H t (.tuple (ts.map .str)) ∧ (∀ x ∈ ts, TxOk x) ∧ 1 ≤ ts.length ∧ ts.length ≤ 200 ∧ TG T H ∧
  ∀ H', Go T D0 H H' → Q (.bl true) H'
theorem ok_canput {f : Addr} {fd : FuncData} {k : Nat} (F : Fun K "_can_put" "_can_put" sCanPut f fd) (M : Mg K mg) (N : Mp mg) (cP : Cal P w K mg base k "is_put_line" ["thing"] (spPut K T)) (cE : Cal P w K mg base k "is_end" ["thing"] (spEnd K))
    (cT : Cal P w K mg base k "is_text" ["thing"] (spIsText K)) : FnOk P w K mg base CX0 (k + 1) f fd ["above", "below", "texts"] (spCanPut K T) := by
  obtain ⟨tk, hT⟩ := N.mostT
  refine F.ok scCanPut (fun vs H Q E h => ?_) (fun cdv A outer s H vs Q E hr h => ?_)
  · obtain ⟨a, b, t, la, lb, ts, rfl, _⟩ := h
    rfl
  · obtain ⟨a, b, t, la, lb, ts, rfl, da, oa, db, ob, dt, tx, l1, l2, tg, q⟩ := h
    refine ⟨_, (pss_cons (ps_if (PW.pt (pw_or (pt_not (pt_val (pe_callB call_isi (by rfl) M.ins boot_isinstance (pa_cons (pv 2) (pa_cons (pe_bltn (v := .ty "tuple") (by rfl) M.tuple_ (by decide +kernel) rfl) pa_nil))))) (pw_or1 (pt_not (pt_chain op_le op_le pe_int (pe_callB call_len_seq (by rfl) M.len_ PySem.boot_len (pa_cons (pv 2) pa_nil)) (pe_glob (v := .int 200) (by rfl) hT ⟨_, rfl⟩))))))
      (pss_one (ps_ret pe_bl))
      pss_nil)
      (pss_cons (ps_if (PW.pt (pw_or (PW.pt (pw_and (pt_not (pt_val (pe_cal cP hr (by rfl) (pa_cons (pv 0) pa_nil)))) (pw_and1 (pt_not (pt_val (pe_cal cE hr (by rfl) (pa_cons (pv 0) pa_nil))))))) (pw_or1 (PW.pt (pw_and (pt_not (pt_val (pe_cal cP hr (by rfl) (pa_cons (pv 1) pa_nil)))) (pw_and1 (pt_not (pt_val (pe_cal cE hr (by rfl) (pa_cons (pv 1) pa_nil))))))))))
      (pss_one (ps_ret pe_bl))
      pss_nil)
      (pss_one (ps_ret (pe_callB (cr_all rfl) (by rfl) M.all_ (by decide +kernel) (pa_cons (pe_lc (own := [("text", 3)]) (g := gName 3) (tt := tYes) rfl scCanPut.nd (pi_tup (pv 2)) (blkOk_by (N := ["above", "below", "texts", "text"]) (sc := defScope sCanPut) (by decide +kernel)) (fun _ _ _ _ _ => (pg_name (i := 3) scCanPut.nd rfl (Or.inl rfl))) (fun _ _ _ _ _ => pts_nil) (fun _ _ _ _ _ => (pe_cal cT hr (by rfl) (pa_cons (pv 3) pa_nil)))) pa_nil)))))), ?_⟩
    obtain ⟨at_, txs, rfl, St, dts⟩ := Dp.tupI dt
    have et : txs = ts.map V.str := strs_of dts
    subst et
    refine ⟨.ref at_, rfl, .ref at_, .ty "tuple", .type "tuple", .type "tuple", _, rfl, .ty _, (Th.tup St).ty, kit_ty (Th.tup St).ktup, _, rfl, iteF ?_⟩
    have e1 : decide ((1 : Int) ≤ (((ts.map V.str).length : Nat) : Int)) = true := decide_eq_true (by rw [List.length_map]; omega)
    have e2 : decide ((((ts.map V.str).length : Nat) : Int) ≤ 200) = true := decide_eq_true (by rw [List.length_map]; omega)
    have toH : ∀ {H'}, Go T D0 H H' → Sub H H' := fun g => sub_go g tg
    have tl1 : ∀ {H' v l}, Go T D0 H H' → Dp K H v (eL l) → EdOk l → Th K H' v "tuple" (some [.str l.1, .int l.2.1, .int l.2.2]) ∧ ThAll K H' (some [.str l.1, .int l.2.1, .int l.2.2]) := fun g d o => ln_th (Dp.sub (toH g) _ _ d) o.len
    refine ⟨.ref at_, rfl, at_, _, rfl, .inr St, _, _, rfl, rfl, _, rfl, ite2 (fun _ => ⟨_, _, rfl, rfl, _, rfl, ite2 (fun e => ?_) (fun _ => ?_)⟩) (fun e => absurd e1 e)⟩
    · rw [e2] at e
      cases e
    · have t0 := tl1 (Go.rfl' tg) da oa
      refine twice (A := fun H2 => Go T D0 H H2) ?rest (fun rest => ⟨a, rfl, a, "tuple", _, rfl, t0.1, t0.2, tg, fun H1 g1 => ⟨_, rfl, ite2 (fun e => ⟨a, rfl, a, "tuple", _, rfl, (tl1 g1 da oa).1, (tl1 g1 da oa).2, ln_st oa, _, rfl, ite2 (fun e' => ?no) (fun e' => rest H1 g1)⟩) (fun e => rest H1 g1)⟩⟩)
      case no =>
        rcases oa.v with h | h
        · rw [h] at e
          cases e
        · rw [h] at e'
          cases e'
      case rest =>
        intro H2 g2
        have t2 := tl1 g2 db ob
        refine twice (A := fun H3 => Go T D0 H H3) ?rest2 (fun rest2 => ⟨b, rfl, b, "tuple", _, rfl, t2.1, t2.2, g2.1, fun H3 g3 => ⟨_, rfl, ite2 (fun e => ⟨b, rfl, b, "tuple", _, rfl, (tl1 (g2.trans g3) db ob).1, (tl1 (g2.trans g3) db ob).2, ln_st ob, _, rfl, ite2 (fun e' => ?no2) (fun e' => rest2 H3 (g2.trans g3))⟩) (fun e => rest2 H3 (g2.trans g3))⟩⟩)
        case no2 =>
          rcases ob.v with h | h
          · rw [h] at e
            cases e
          · rw [h] at e'
            cases e'
        case rest2 =>
          intro H4 g4
          have S4 := (toH g4).seqT St
          refine ⟨.ref at_, rfl, at_, rfl, ⟨_, S4⟩, fun D hD => ?_⟩
          refine lc_tup (K := K) (a := at_) (xs := ts.map V.str) (fun j H5 => Go T D0 H4 H5 ∧ H5 D = some (.lst (((ts.take j).map fun _ => true).map V.bl))) ?_ ?_ ?_ ?_
          · exact ⟨(Go.rfl' g4.1).new hD, upd_same⟩
          · rintro j H5 hj ⟨g5, _⟩
            exact g5.seqT g4.1 (fun _ _ z => z) S4
          · rintro j x H5 hx ⟨g5, eD⟩
            rw [List.getElem?_map] at hx
            cases htx : ts[j]? with
            | none => rw [htx] at hx; cases hx
            | some y =>
              rw [htx] at hx
              cases hx
              have oy := tx y (List.mem_of_getElem? htx)
              refine ⟨rfl, .str y, rfl, .str y, "str", none, rfl, .str y (small_le (by have := oy.2.1; omega)), _, eD, small_line (by rw [List.length_map, List.length_map, List.length_take]; omega), g5.put hD eD, ?_⟩
              rw [upd_same, oy.v, List.take_add_one, htx, List.map_append, List.map_append]
              rfl
          · rintro H5 ⟨g5, eD⟩
            rw [List.length_map, List.take_length] at eD
            refine ⟨D, ts.map fun _ => true, rfl, .inl (.inl eD), ?_⟩
            have ea : (ts.map fun _ => true).all id = true := by rw [List.all_map]; exact List.all_eq_true.mpr fun _ _ => rfl
            rw [ea]
            exact q _ (g4.trans g5)
end
end K1
set_option Elab.async false
set_option linter.all false
set_option maxRecDepth 100000
set_option maxHeartbeats 400000
/-! The program's defs: _is_deed, _many_deeds, _can_do, _many_put, _can_know: of good ones. -/
namespace K1
open PySem PySem.Spec PyProof.Rows L2

/-- what a deed asks of its parts together -/
def Deed.fit : Deed → Prop
  | .put a b ts => a ≠ b ∧ a ≠ footL ∧ b ≠ headL ∧ 1 ≤ ts.length ∧ ts.length ≤ 200
  | .order a b => a ≠ b
  | .one _ _ => True
theorem iteTd {c : Bool} {A B : Prop} (h : A) (e : c = true := by decide +kernel) : if c = true then A else B := by
  rw [if_pos e]
  exact h
theorem iteFd {c : Bool} {A B : Prop} (h : B) (e : c = false := by decide +kernel) : if c = true then A else B := by
  rw [e]
  exact h
section
variable {P : Program} {w : World} {K : PySem.W.Frag} {mg : Str → Option Value} {base : Heap} {T : Tp}

/-! ### _is_deed -/
def spIsDeed (K : PySem.W.Frag) (T : Tp) : Sp := fun vs H Q _ => ∃ (v : V) (d : Deed), vs = [v] ∧ Dp K H v (eD d) ∧ d.ok ∧ d.fit ∧ TG T H ∧ ∀ H', Go T D0 H H' → Q (.bl true) H'
theorem ok_isdeed {f : Addr} {fd : FuncData} {k : Nat} (F : Fun K "_is_deed" "_is_deed" sIsDeed f fd) (M : Mg K mg) (cP : Cal P w K mg base k "is_put_line" ["thing"] (spPut K T)) (cC : Cal P w K mg base k "_can_put" ["above", "below", "texts"] (spCanPut K T)) :
    FnOk P w K mg base CX0 (k + 1) f fd ["thing"] (spIsDeed K T) := by
  refine F.ok scIsDeed (fun vs H Q E h => ?_) (fun cdv A outer s H vs Q E hr h => ?_)
  · obtain ⟨v, d, rfl, _⟩ := h
    rfl
  · obtain ⟨v, d, rfl, dd, ok, fit, tg, q⟩ := h
    refine ⟨_, (pss_cons (ps_if (PW.pt (pw_or (pt_not (pt_val (pe_callB call_isi (by rfl) M.ins boot_isinstance (pa_cons (pv 0) (pa_cons (pe_bltn (v := .ty "tuple") (by rfl) M.tuple_ (by decide +kernel) rfl) pa_nil))))) (pw_or (pt_cmpR op_lt (pe_callB call_len_seq (by rfl) M.len_ PySem.boot_len (pa_cons (pv 0) pa_nil)) pe_int (nomark _)) (pw_or1 (pt_not (pt_val (pe_callB call_isi (by rfl) M.ins boot_isinstance (pa_cons (pe_ix ix_tup (pv 0) pe_int (fun _ _ => rfl)) (pa_cons (pe_bltn (v := .ty "str") (by rfl) M.str_ boot_str rfl) pa_nil)))))))))
      (pss_one (ps_ret pe_bl))
      pss_nil)
      (pss_cons (ps_if (pt_cmpR op_in_seq (pe_ix ix_tup (pv 0) pe_int (fun _ _ => rfl)) (pe_tup (pa_cons pe_str (pa_cons pe_str pa_nil))) (by rfl))
      (pss_one (ps_ret (pe_and (pe_cmpR op_eq (pe_callB call_len_seq (by rfl) M.len_ PySem.boot_len (pa_cons (pv 0) pa_nil)) pe_int (nomark _)) (pe_one (pe_cal cP hr (by rfl) (pa_cons (pe_ix ix_tup (pv 0) pe_int (fun _ _ => rfl)) pa_nil))))))
      pss_nil)
      (pss_cons (ps_if (pt_cmpR op_eq (pe_ix ix_tup (pv 0) pe_int (fun _ _ => rfl)) pe_str (nomark _))
      (pss_one (ps_ret (pe_and (pe_cmpR op_eq (pe_callB call_len_seq (by rfl) M.len_ PySem.boot_len (pa_cons (pv 0) pa_nil)) pe_int (nomark _)) (pe_and (pe_cal cP hr (by rfl) (pa_cons (pe_ix ix_tup (pv 0) pe_int (fun _ _ => rfl)) pa_nil)) (pe_one (pe_cal cP hr (by rfl) (pa_cons (pe_ix ix_tup (pv 0) pe_int (fun _ _ => rfl)) pa_nil)))))))
      pss_nil)
      (pss_one (ps_ret (pe_and (pe_cmpR op_eq (pe_ix ix_tup (pv 0) pe_int (fun _ _ => rfl)) pe_str (nomark _)) (pe_and (pe_cmpR op_eq (pe_callB call_len_seq (by rfl) M.len_ PySem.boot_len (pa_cons (pv 0) pa_nil)) pe_int (nomark _)) (pe_one (pe_cal cC hr (by rfl) (pa_cons (pe_ix ix_tup (pv 0) pe_int (fun _ _ => rfl)) (pa_cons (pe_ix ix_tup (pv 0) pe_int (fun _ _ => rfl)) (pa_cons (pe_ix ix_tup (pv 0) pe_int (fun _ _ => rfl)) pa_nil)))))))))))), ?_⟩
    have toH : ∀ {H'}, Go T D0 H H' → Sub H H' := fun g => sub_go g tg
    have lth : ∀ {H' v l}, Go T D0 H H' → Dp K H v (eL l) → EdOk l → Th K H' v "tuple" (some [.str l.1, .int l.2.1, .int l.2.2]) ∧ ThAll K H' (some [.str l.1, .int l.2.1, .int l.2.2]) := fun g d o => ln_th (Dp.sub (toH g) _ _ d) o.len
    have g0 : Go T D0 H H := Go.rfl' tg
    cases d with
    | one kp l =>
      obtain ⟨a, _, rfl, S, ds⟩ := Dp.tupI dd
      obtain ⟨x, y, rfl, q1, q2⟩ := DpAll.i2 ds
      cases Dp.strI q1
      have hk : Th K H (.str (kindS kp)) "str" none := .str _ (small_le (by cases kp <;> decide +kernel))
      refine ⟨.ref a, rfl, .ref a, .ty "tuple", .type "tuple", .type "tuple", _, rfl, .ty _, (Th.tup S).ty, kit_ty (Th.tup S).ktup, _, rfl, iteF ?_⟩
      refine ⟨.ref a, rfl, a, _, rfl, .inr S, _, _, rfl, rfl, _, rfl, iteF ?_⟩
      refine ⟨.ref a, rfl, a, _, 0, .str (kindS kp), rfl, rfl, S, atI_nat (j := 0) rfl, _, .ty "str", .type "str", .type "str", _, rfl, .ty _, hk.ty, kit_ty hk.kstr, _, rfl, iteF ?_⟩
      refine ⟨.ref a, rfl, a, _, 0, .str (kindS kp), rfl, rfl, S, atI_nat (j := 0) rfl, small_le (by decide), fun t ht => ⟨t, _, rfl, .inr (.inl (.inl upd_same)), rfl, rfl, _, rfl, ite2 (fun e => ?_) (fun e => ?_)⟩⟩
      · have g1 := g0.new (o := .tup [V.str "cut", .str "keep"]) ht
        have S1 := (toH g1).seqT S
        refine ⟨.ref a, rfl, a, _, rfl, .inr S1, rfl, _, rfl, iteT ?_⟩
        have t1 := lth g1 q2 (.inl ok)
        refine ⟨.ref a, rfl, a, _, 1, y, rfl, rfl, S1, atI_nat (j := 1) rfl, y, "tuple", _, rfl, t1.1, t1.2, g1.1, fun H2 g2 => ?_⟩
        rw [LnOk.put ok]
        exact q _ (g1.trans g2)
      · cases kp <;> exact absurd (by decide +kernel) e
    | order la lb =>
      obtain ⟨a, _, rfl, S, ds⟩ := Dp.tupI dd
      obtain ⟨x, y, z, rfl, q1, q2, q3⟩ := DpAll.i3 ds
      cases Dp.strI q1
      have hk : Th K H (.str "order") "str" none := .str _ (small_le (by decide +kernel))
      refine ⟨.ref a, rfl, .ref a, .ty "tuple", .type "tuple", .type "tuple", _, rfl, .ty _, (Th.tup S).ty, kit_ty (Th.tup S).ktup, _, rfl, iteF ?_⟩
      refine ⟨.ref a, rfl, a, _, rfl, .inr S, _, _, rfl, rfl, _, rfl, iteF ?_⟩
      refine ⟨.ref a, rfl, a, _, 0, .str "order", rfl, rfl, S, atI_nat (j := 0) rfl, _, .ty "str", .type "str", .type "str", _, rfl, .ty _, hk.ty, kit_ty hk.kstr, _, rfl, iteF ?_⟩
      refine ⟨.ref a, rfl, a, _, 0, .str "order", rfl, rfl, S, atI_nat (j := 0) rfl, small_le (by decide), fun t ht => ⟨t, _, rfl, .inr (.inl (.inl upd_same)), rfl, rfl, _, rfl, ite2 (fun e => ?_) (fun e => ?_)⟩⟩
      · exact absurd e (by decide +kernel)
      · have g1 := g0.new (o := .tup [V.str "cut", .str "keep"]) ht
        have S1 := (toH g1).seqT S
        refine ⟨.ref a, rfl, a, _, 0, .str "order", rfl, rfl, S1, atI_nat (j := 0) rfl, rfl, _, rfl, iteTd ?_⟩
        refine ⟨.ref a, rfl, a, _, rfl, .inr S1, rfl, _, rfl, iteT ?_⟩
        have t1 := lth g1 q2 (.inl ok.1)
        refine ⟨.ref a, rfl, a, _, 1, y, rfl, rfl, S1, atI_nat (j := 1) rfl, y, "tuple", _, rfl, t1.1, t1.2, g1.1, fun H2 g2 => ⟨_, rfl, ?_⟩⟩
        rw [LnOk.put ok.1]
        have g12 := g1.trans g2
        have t2 := lth g12 q3 (.inl ok.2)
        refine iteT ⟨.ref a, rfl, a, _, 2, z, rfl, rfl, (toH g12).seqT S, atI_nat (j := 2) rfl, z, "tuple", _, rfl, t2.1, t2.2, g12.1, fun H3 g3 => ?_⟩
        rw [LnOk.put ok.2]
        exact q _ (g12.trans g3)
    | put la lb ts =>
      obtain ⟨a, _, rfl, S, ds⟩ := Dp.tupI dd
      obtain ⟨x, y, z, u, rfl, q1, q2, q3, q4⟩ := DpAll.i4 ds
      cases Dp.strI q1
      have hk : Th K H (.str "put") "str" none := .str _ (small_le (by decide +kernel))
      refine ⟨.ref a, rfl, .ref a, .ty "tuple", .type "tuple", .type "tuple", _, rfl, .ty _, (Th.tup S).ty, kit_ty (Th.tup S).ktup, _, rfl, iteF ?_⟩
      refine ⟨.ref a, rfl, a, _, rfl, .inr S, _, _, rfl, rfl, _, rfl, iteF ?_⟩
      refine ⟨.ref a, rfl, a, _, 0, .str "put", rfl, rfl, S, atI_nat (j := 0) rfl, _, .ty "str", .type "str", .type "str", _, rfl, .ty _, hk.ty, kit_ty hk.kstr, _, rfl, iteF ?_⟩
      refine ⟨.ref a, rfl, a, _, 0, .str "put", rfl, rfl, S, atI_nat (j := 0) rfl, small_le (by decide), fun t ht => ⟨t, _, rfl, .inr (.inl (.inl upd_same)), rfl, rfl, _, rfl, ite2 (fun e => ?_) (fun e => ?_)⟩⟩
      · exact absurd e (by decide +kernel)
      · have g1 := g0.new (o := .tup [V.str "cut", .str "keep"]) ht
        have S1 := (toH g1).seqT S
        refine ⟨.ref a, rfl, a, _, 0, .str "put", rfl, rfl, S1, atI_nat (j := 0) rfl, rfl, _, rfl, iteFd ?_⟩
        refine ⟨.ref a, rfl, a, _, 0, .str "put", rfl, rfl, S1, atI_nat (j := 0) rfl, rfl, _, rfl, iteTd ?_⟩
        refine ⟨.ref a, rfl, a, _, rfl, .inr S1, rfl, _, rfl, iteT ?_⟩
        refine ⟨.ref a, rfl, a, _, 1, y, rfl, rfl, S1, atI_nat (j := 1) rfl, .ref a, rfl, a, _, 2, z, rfl, rfl, S1, atI_nat (j := 2) rfl, .ref a, rfl, a, _, 3, u, rfl, rfl, S1, atI_nat (j := 3) rfl, ?_⟩
        exact ⟨y, z, u, la, lb, ts, rfl, Dp.sub (toH g1) _ _ q2, ok.1, Dp.sub (toH g1) _ _ q3, ok.2.1, Dp.sub (toH g1) _ _ q4, ok.2.2, fit.2.2.2.1, fit.2.2.2.2, g1.1, fun H2 g2 => q _ (g1.trans g2)⟩
end
end K1
set_option Elab.async false
set_option linter.all false
set_option maxRecDepth 100000
set_option maxHeartbeats 400000
/-! The program's defs: _many_deeds, _can_do: of good deeds. -/
namespace K1
open PySem PySem.Spec PyProof.Rows L2
section
variable {P : Program} {w : World} {K : PySem.W.Frag} {mg : Str → Option Value} {base : Heap} {T : Tp}

/-! ### _many_deeds -/
def spManyD (K : PySem.W.Frag) (T : Tp) : Sp := fun vs H Q _ => ∃ (l : Addr) (dvs : List V) (ds : List Deed), vs = [.ref l] ∧ SqL K H l dvs ∧ DpAll K H dvs (ds.map eD) ∧ (∀ d ∈ ds, d.ok ∧ d.fit) ∧ ds.length ≤ 1000 ∧ TG T H ∧ ∀ H', Go T D0 H H' → Q (.int (ds.length : Nat)) H'
theorem ok_manyd {f : Addr} {fd : FuncData} {k : Nat} (F : Fun K "_many_deeds" "_many_deeds" sManyDeeds f fd) (M : Mg K mg) (cD : Cal P w K mg base k "_is_deed" ["thing"] (spIsDeed K T)) : FnOk P w K mg base CX0 (k + 1) f fd ["things"] (spManyD K T) := by
  refine F.ok scManyDeeds (fun vs H Q E h => ?_) (fun cdv A outer s H vs Q E hr h => ?_)
  · obtain ⟨l, dvs, ds, rfl, _⟩ := h
    rfl
  · obtain ⟨l, dvs, ds, rfl, S, dds, ok, len, tg, q⟩ := h
    refine ⟨_, (pss_cons (ps_for PassesOwn.never rfl (pi_enum (by rfl) M.enum_ (pa_cons (pv 0) pa_nil)) (pg_tup rfl (pgs_cons (pg_name (i := 1) scManyDeeds.nd rfl (.inl rfl)) (pgs_cons (pg_name (i := 2) scManyDeeds.nd rfl (.inl rfl)) pgs_nil)))
      (pss_one (ps_if (pt_not (pt_val (pe_cal cD hr (by rfl) (pa_cons (pv 2) pa_nil))))
      (pss_one ps_never)
      pss_nil)))
      (pss_one (ps_ret (pe_callB call_len_seq (by rfl) M.len_ PySem.boot_len (pa_cons (pv 0) pa_nil))))), ?_⟩
    have toH : ∀ {H'}, Go T D0 H H' → Sub H H' := fun g => sub_go g tg
    have g0 : Go T D0 H H := Go.rfl' tg
    have dlen : dvs.length = ds.length := by rw [DpAll.len dds, List.length_map]
    refine ⟨.ref l, rfl, l, dvs, rfl, S, ?_⟩
    refine for_it (walk_enum (K := K) (a := l) (xs := dvs)) (fun i σ H5 => ∃ (y1 y2 : Option V), σ = [some (.ref l), y1, y2] ∧ Go T D0 H H5) ?_ ?_ ?_ ?_
    · exact ⟨_, _, rfl, g0⟩
    · rintro i σ H5 hi ⟨y1, y2, rfl, g5⟩
      exact (toH g5).seqL S
    · rintro i v σ H5 H5' hi ⟨y1, y2, rfl, g5⟩ ⟨T', x', y', rfl, hT, rfl, hx', hy'⟩
      cases hx'
      have hy' : dvs[i]? = some y' := hy'
      obtain ⟨d0, hd0, dp⟩ := DpAll.at' dds hy'
      rw [List.getElem?_map] at hd0
      cases hdi : ds[i]? with
      | none => rw [hdi] at hd0; cases hd0
      | some d =>
        rw [hdi] at hd0
        cases hd0
        have g6 := g5.new (o := .tup [V.int (i : Nat), y']) hT
        have okd := ok d (List.mem_of_getElem? hdi)
        refine ⟨T', _, rfl, .inl (.inl upd_same), rfl, _, _, rfl, _, _, rfl, rfl, ?_⟩
        exact ⟨y', rfl, y', d, rfl, Dp.sub (toH g6) _ _ dp, okd.1, okd.2, g6.1, fun H7 g7 => ⟨_, rfl, iteF ⟨_, _, rfl, g6.trans g7⟩⟩⟩
    · rintro σ H5 ⟨y1, y2, rfl, g5⟩
      refine ⟨.ref l, rfl, l, dvs, rfl, .inl ((toH g5).seqL S), ?_⟩
      rw [dlen]
      exact q _ g5

/-! ### _can_do -/
def ownOk (n : Nm) (m : Int) (d : Deed) : Prop := ∀ l ∈ d.lines, nmOf l = n → l.2.2 ≤ m
def spCanDo (K : PySem.W.Frag) (T : Tp) : Sp := fun vs H Q _ => ∃ (v nv : V) (d : Deed) (n : Nm) (m : Int), vs = [v, nv, .int m] ∧ Dp K H v (eD d) ∧ Dp K H nv (eN n) ∧ NmOk n ∧ d.ok ∧ d.fit ∧ ownOk n m d ∧ TG T H ∧ ∀ H', Go T D0 H H' → Q (.bl true) H'
theorem ok_cando {f : Addr} {fd : FuncData} {k : Nat} (F : Fun K "can_do" "can_do" sCanDo f fd) (M : Mg K mg) : FnOk P w K mg base CX0 (k + 1) f fd ["deed", "own", "many"] (spCanDo K T) := by
  obtain ⟨aH, mH, sH⟩ := M.hd
  obtain ⟨aF, mF, sF⟩ := M.ft
  refine F.ok scCanDo (fun vs H Q E h => ?_) (fun cdv A outer s H vs Q E hr h => ?_)
  · obtain ⟨v, nv, d, n, m, rfl, _⟩ := h
    rfl
  · obtain ⟨v, nv, d, n, m, rfl, dd, dn, on_, ok, fit, own, tg, q⟩ := h
    refine ⟨_, (pss_cons (ps_set (i := 3) scCanDo.nd rfl (.inl rfl) (pe_ix ix_tup (pv 0) pe_int (fun _ _ => rfl)))
      (pss_cons (ps_if (PW.pt (pw_and (pt_cmpR op_gt (pe_ix ix_tup (pv 3) pe_int (fun _ _ => rfl)) (pv 2) (nomark _)) (pw_and1 (pt_cmpR (op_eqD hr.units) (pe_slice sl_tupA (pv 3) po_none (po_some pe_int)) (pv 1) (nomark _)))))
      (pss_one (ps_ret pe_bl))
      pss_nil)
      (pss_cons (ps_if (pt_cmpR op_eq (pe_callB call_len_seq (by rfl) M.len_ PySem.boot_len (pa_cons (pv 0) pa_nil)) pe_int (nomark _))
      (pss_one (ps_ret pe_bl))
      pss_nil)
      (pss_cons (ps_set (i := 4) scCanDo.nd rfl (.inl rfl) (pe_ix ix_tup (pv 0) pe_int (fun _ _ => rfl)))
      (pss_cons (ps_if (PW.pt (pw_and (pt_cmpR op_gt (pe_ix ix_tup (pv 4) pe_int (fun _ _ => rfl)) (pv 2) (nomark _)) (pw_and1 (pt_cmpR (op_eqD hr.units) (pe_slice sl_tupA (pv 4) po_none (po_some pe_int)) (pv 1) (nomark _)))))
      (pss_one (ps_ret pe_bl))
      pss_nil)
      (pss_one (ps_ret (pe_and (pe_cmpR (op_neD hr.units) (pv 3) (pv 4) (nomark _)) (pe_and (pe_cmpR (op_neD hr.units) (pv 3) (pe_glob (v := .ref aF) (by rfl) mF rfl) (nomark _)) (pe_one (pe_cmpR (op_neD hr.units) (pv 4) (pe_glob (v := .ref aH) (by rfl) mH rfl) (nomark _)))))))))))), ?_⟩
    have toH : ∀ {H'}, Go T D0 H H' → Sub H H' := fun g => sub_go g tg
    have g0 : Go T D0 H H := Go.rfl' tg
    have shL : ∀ {l}, EdOk l → SeqAt.shaped (eL l) = true := fun o => eL_sh o.str
    have shN : ∀ {l}, EdOk l → SeqAt.shaped (eN (nmOf l)) = true := fun o => shaped_of (eN_lay (by exact o.str)) (by rw [eN_dep]; decide)
    have dH : ∀ H', Dp K H' (.ref aH) (eL headL) := fun H' => .tup (sH H') (.cons (.str _) (.cons (.int _) (.one (.int _))))
    have dF : ∀ H', Dp K H' (.ref aF) (eL footL) := fun H' => .tup (sF H') (.cons (.str _) (.cons (.int _) (.one (.int _))))
    have cut_ : ∀ {H' : Hp} {t : Addr} {l : Ln}, H' t = some (.tup (cutV [V.str l.1, .int l.2.1, .int l.2.2] none (some 2))) → Dp K H' (.ref t) (eN (nmOf l)) := fun e => .tup (.inl (.inl e)) (.cons (.str _) (.one (.int _)))
    have lnI : ∀ {H' v l}, Dp K H' v (eL l) → ∃ a, v = .ref a ∧ SqT K H' a [V.str l.1, .int l.2.1, .int l.2.2] := fun dl => by
      obtain ⟨a, xs, rfl, S, q⟩ := Dp.tupI dl
      obtain ⟨x, y, z, rfl, q1, q2, q3⟩ := DpAll.i3 q
      cases Dp.strI q1
      cases Dp.intI q2
      cases Dp.intI q3
      exact ⟨a, rfl, S⟩
    have lnNe : ∀ {l : Ln}, LnOk l → l ≠ headL ∧ l ≠ footL := fun h => by
      have h1 := h.1.2.1
      constructor
      · rintro rfl
        exact absurd h1 (by decide)
      · rintro rfl
        exact absurd h1 (by decide)
    have no : ∀ {l : Ln}, l ∈ d.lines → decide (m < l.2.2) = true → ¬ (PyData.eqv (eN (nmOf l)) (eN n)) = true := fun hl e z => by
      rw [eN_eqv] at z
      have := own _ hl (of_decide_eq_true z)
      have := of_decide_eq_true e
      omega
    have parts : ∃ a kd y tl l0, v = .ref a ∧ SqT K H a (V.str kd :: y :: tl) ∧ Dp K H y (eL l0) ∧ EdOk l0 ∧ l0 ∈ d.lines ∧ (tl = [] ∨ ∃ z tl' l1, tl = z :: tl' ∧ Dp K H z (eL l1) ∧ EdOk l1 ∧ l1 ∈ d.lines ∧ l0 ≠ l1 ∧ l0 ≠ footL ∧ l1 ≠ headL) := by
      cases d with
      | one kp l =>
        obtain ⟨a, _, rfl, S, ds⟩ := Dp.tupI dd
        obtain ⟨x, y, rfl, q1, q2⟩ := DpAll.i2 ds
        cases Dp.strI q1
        exact ⟨a, _, y, [], l, rfl, S, q2, .inl ok, by simp [Deed.lines], .inl rfl⟩
      | order la lb =>
        obtain ⟨a, _, rfl, S, ds⟩ := Dp.tupI dd
        obtain ⟨x, y, z, rfl, q1, q2, q3⟩ := DpAll.i3 ds
        cases Dp.strI q1
        exact ⟨a, _, y, [z], la, rfl, S, q2, .inl ok.1, by simp [Deed.lines], .inr ⟨z, [], lb, rfl, q3, .inl ok.2, by simp [Deed.lines], fit, (lnNe ok.1).2, (lnNe ok.2).1⟩⟩
      | put la lb ts =>
        obtain ⟨a, _, rfl, S, ds⟩ := Dp.tupI dd
        obtain ⟨x, y, z, u, rfl, q1, q2, q3, q4⟩ := DpAll.i4 ds
        cases Dp.strI q1
        exact ⟨a, _, y, [z, u], la, rfl, S, q2, ok.1, by simp [Deed.lines], .inr ⟨z, [u], lb, rfl, q3, ok.2.1, by simp [Deed.lines], fit.1, fit.2.1, fit.2.2.1⟩⟩
    obtain ⟨a, kd, y, tl, l0, rfl, S, dy, o0, i0, more⟩ := parts
    obtain ⟨ay, rfl, Sy⟩ := lnI dy
    refine ⟨.ref a, rfl, a, _, 1, .ref ay, rfl, rfl, S, atI_nat (j := 1) rfl, ?_⟩
    apply twice (A := fun H2 => Go T D0 H H2)
    case use =>
      intro rest
      refine ⟨.ref ay, rfl, ay, _, 2, .int l0.2.2, rfl, rfl, Sy, atI_nat (j := 2) rfl, .int m, rfl, _, _, rfl, rfl, _, rfl, ite2 (fun e => ⟨.ref ay, rfl, 2, rfl, ay, _, rfl, Sy, fun z => absurd z (show ¬ (HT.sIx 3 0 none = 0 ∧ HT.sIx 3 3 (some 2) = 3) by decide), fun _ t ht => ?u1⟩) (fun e => ?u2)⟩
      case u1 =>
        have g2 := g0.new (o := .tup (cutV [V.str l0.1, .int l0.2.1, .int l0.2.2] none (some 2))) ht
        have et : (upd H t (.tup (cutV [V.str l0.1, .int l0.2.1, .int l0.2.2] none (some 2)))) t = _ := upd_same
        generalize upd H t (.tup (cutV [V.str l0.1, .int l0.2.1, .int l0.2.2] none (some 2))) = H2 at g2 et ⊢
        exact ⟨nv, rfl, _, _, cut_ et, Dp.sub (toH g2) _ _ dn, shN o0, on_.sh, _, rfl, ite2 (fun e' => absurd e' (no i0 e)) (fun e' => rest H2 g2)⟩
      case u2 => exact rest H g0
    case h =>
      intro H2 g2
      have S2 := (toH g2).seqT S
      rcases more with rfl | ⟨z, tl', l1, rfl, dz, o1, i1, n1, n2, n3⟩
      · exact ⟨.ref a, rfl, a, _, rfl, .inr S2, rfl, _, rfl, iteT (q H2 g2)⟩
      · obtain ⟨az, rfl, Sz⟩ := lnI dz
        refine ⟨.ref a, rfl, a, _, rfl, .inr S2, rfl, _, rfl, ite2 (fun e => ?bad) (fun e => ?_)⟩
        case bad =>
          have e3 : ((tl'.length + 1 + 1 + 1 : Nat) : Int) = 2 := V.int.inj (of_decide_eq_true e)
          omega
        have Sz2 := (toH g2).seqT Sz
        refine ⟨.ref a, rfl, a, _, 2, .ref az, rfl, rfl, S2, atI_nat (j := 2) rfl, ?_⟩
        apply twice (A := fun H3 => Go T D0 H H3)
        case use =>
          intro rest2
          refine ⟨.ref az, rfl, az, _, 2, .int l1.2.2, rfl, rfl, Sz2, atI_nat (j := 2) rfl, .int m, rfl, _, _, rfl, rfl, _, rfl, ite2 (fun e => ⟨.ref az, rfl, 2, rfl, az, _, rfl, Sz2, fun z => absurd z (show ¬ (HT.sIx 3 0 none = 0 ∧ HT.sIx 3 3 (some 2) = 3) by decide), fun _ t ht => ?u3⟩) (fun e => ?u4)⟩
          case u3 =>
            have g3 := g2.new (o := .tup (cutV [V.str l1.1, .int l1.2.1, .int l1.2.2] none (some 2))) ht
            have et : (upd H2 t (.tup (cutV [V.str l1.1, .int l1.2.1, .int l1.2.2] none (some 2)))) t = _ := upd_same
            generalize upd H2 t (.tup (cutV [V.str l1.1, .int l1.2.1, .int l1.2.2] none (some 2))) = H3 at g3 et ⊢
            exact ⟨nv, rfl, _, _, cut_ et, Dp.sub (toH g3) _ _ dn, shN o1, on_.sh, _, rfl, ite2 (fun e' => absurd e' (no i1 e)) (fun e' => rest2 H3 g3)⟩
          case u4 => exact rest2 H2 g2
        case h =>
          intro H3 g3
          have dy3 := Dp.sub (toH g3) _ _ dy
          have dz3 := Dp.sub (toH g3) _ _ dz
          refine ⟨.ref ay, rfl, .ref az, rfl, _, _, dy3, dz3, shL o0, shL o1, _, rfl, ?_⟩
          rw [eL_eqv, decide_eq_false n1]
          refine iteT ⟨.ref ay, rfl, _, _, dy3, dF H3, shL o0, shL (.inr (.inr rfl)), _, rfl, ?_⟩
          rw [eL_eqv, decide_eq_false n2]
          refine iteT ⟨.ref az, rfl, _, _, dz3, dH H3, shL o1, shL (.inr (.inl rfl)), ?_⟩
          rw [eL_eqv, decide_eq_false n3]
          exact q H3 g3
end
end K1
set_option Elab.async false
set_option linter.all false
set_option maxRecDepth 100000
set_option maxHeartbeats 400000
/-! The program's defs: _many_put, _can_know: of good ones. -/
namespace K1
open PySem PySem.Spec PyProof.Rows L2
theorem manyAt_succ {ds : List Deed} {i : Nat} {d : Deed} (h : ds[i]? = some d) : manyAt ds (i + 1) = manyAt ds i + d.texts.length := by
  unfold manyAt
  rw [List.take_add_one, h, List.flatMap_append, List.length_append]
  simp
section
variable {P : Program} {w : World} {K : PySem.W.Frag} {mg : Str → Option Value} {base : Heap} {T : Tp}

/-! ### _many_put -/
def spManyP (K : PySem.W.Frag) (T : Tp) : Sp := fun vs H Q _ => ∃ (nv : V) (l : Addr) (dvs : List V) (n : Nm) (ds : List Deed), vs = [nv, .ref l] ∧ Dp K H nv (eN n) ∧ NmOk n ∧ SqL K H l dvs ∧ DpAll K H dvs (ds.map eD) ∧ (∀ d ∈ ds, d.ok ∧ d.fit) ∧
  (∀ i d, ds[i]? = some d → ownOk n (manyAt ds i : Nat) d) ∧ TG T H ∧ ∀ H', Go T D0 H H' → Q (.int (manyAt ds ds.length : Nat)) H'
theorem ok_manyp {f : Addr} {fd : FuncData} {k : Nat} (F : Fun K "_many_put" "_many_put" sManyPut f fd) (M : Mg K mg) (cD : Cal P w K mg base k "can_do" ["deed", "own", "many"] (spCanDo K T)) : FnOk P w K mg base CX0 (k + 1) f fd ["name", "deeds"] (spManyP K T) := by
  refine F.ok scManyPut (fun vs H Q E h => ?_) (fun cdv A outer s H vs Q E hr h => ?_)
  · obtain ⟨nv, l, dvs, n, ds, rfl, _⟩ := h
    rfl
  · obtain ⟨nv, l, dvs, n, ds, rfl, dn, on_, S, dds, ok, own, tg, q⟩ := h
    refine ⟨_, (pss_cons (ps_set (i := 2) scManyPut.nd rfl (.inl rfl) pe_int)
      (pss_cons (ps_for PassesOwn.never rfl (pi_enumK 1 (by decide) (by rfl) M.enum_ (pa_cons (pv 1) pa_nil)) (pg_tup rfl (pgs_cons (pg_name (i := 3) scManyPut.nd rfl (.inl rfl)) (pgs_cons (pg_name (i := 4) scManyPut.nd rfl (.inl rfl)) pgs_nil)))
      (pss_cons (ps_if (pt_not (pt_val (pe_cal cD hr (by rfl) (pa_cons (pv 4) (pa_cons (pv 0) (pa_cons (pv 2) pa_nil))))))
      (pss_one ps_never)
      pss_nil)
      (pss_one (ps_if (pt_cmpR op_eq (pe_ix ix_tup (pv 4) pe_int (fun _ _ => rfl)) pe_str (nomark _))
      (pss_one (ps_aug (i := 2) scManyPut.nd rfl (.inl rfl) (pe_callB call_len_seq (by rfl) M.len_ PySem.boot_len (pa_cons (pe_ix ix_tup (pv 4) pe_int (fun _ _ => rfl)) pa_nil)) ip_add))
      pss_nil))))
      (pss_one (ps_ret (pv 2))))), ?_⟩
    have toH : ∀ {H'}, Go T D0 H H' → Sub H H' := fun g => sub_go g tg
    have g0 : Go T D0 H H := Go.rfl' tg
    have dlen : dvs.length = ds.length := by rw [DpAll.len dds, List.length_map]
    refine ⟨.ref l, rfl, l, dvs, rfl, S, ?_⟩
    refine for_it (walk_enumK (K := K) (a := l) (xs := dvs) (k := 1)) (fun i σ H5 => ∃ (y1 y2 : Option V), σ = [some nv, some (.ref l), some (.int (manyAt ds i : Nat)), y1, y2] ∧ Go T D0 H H5) ?_ ?_ ?_ ?_
    · exact ⟨_, _, rfl, g0⟩
    · rintro i σ H5 hi ⟨y1, y2, rfl, g5⟩
      exact (toH g5).seqL S
    · rintro i v σ H5 H5' hi ⟨y1, y2, rfl, g5⟩ ⟨T', x', y', rfl, hT, rfl, hx', hy'⟩
      cases hx'
      have hy' : dvs[i]? = some y' := hy'
      obtain ⟨d0, hd0, dp⟩ := DpAll.at' dds hy'
      rw [List.getElem?_map] at hd0
      cases hdi : ds[i]? with
      | none => rw [hdi] at hd0; cases hd0
      | some d =>
        rw [hdi] at hd0
        cases hd0
        have g6 := g5.new (o := .tup [V.int ((1 + i : Nat)), y']) hT
        have okd := ok d (List.mem_of_getElem? hdi)
        have own' := own i d hdi
        have ms := manyAt_succ hdi
        refine ⟨T', _, rfl, .inl (.inl upd_same), rfl, _, _, rfl, _, _, rfl, rfl, ?_⟩
        generalize upd H5 T' (.tup [V.int ((1 + i : Nat)), y']) = H6 at g6 ⊢
        refine ⟨y', rfl, nv, rfl, _, rfl, y', nv, d, n, _, rfl, Dp.sub (toH g6) _ _ dp, Dp.sub (toH g6) _ _ dn, on_, okd.1, okd.2, own', g6.1, fun H7 g7 => ⟨_, rfl, iteF ?_⟩⟩
        have g8 := g6.trans g7
        obtain ⟨a, lvs, tl, rfl, Sd, dl, hc⟩ := deed_parts (Dp.sub (toH g8) _ _ dp)
        refine ⟨.ref a, rfl, a, _, 0, .str d.kind, rfl, rfl, Sd, atI_nat (j := 0) rfl, rfl, _, rfl, ite2 (fun e => ?_) (fun e => ?_)⟩
        · have ek : d.kind = "put" := V.str.inj (of_decide_eq_true e)
          rcases hc with ⟨_, h2, t, rfl, St⟩ | ⟨n1, _⟩ | ⟨n1, _⟩
          · obtain ⟨x, y, rfl⟩ := len2 h2
            refine ⟨_, rfl, .ref a, rfl, a, _, 3, .ref t, rfl, rfl, Sd, atI_nat (j := 3) rfl, t, _, rfl, .inr St, _, _, rfl, rfl, some (V.int ((1 + i : Nat))), some (V.ref a), ?_, g8⟩
            rw [ms, List.length_map]
            rfl
          · rw [ek] at n1
            exact absurd n1 (by decide +kernel)
          · exact absurd ek n1
        · have ek : ¬ d.kind = "put" := fun z => e (decide_eq_true (by rw [z]))
          have e0 : d.texts = [] := by
            rcases hc with ⟨h, _⟩ | ⟨_, _, _, h⟩ | ⟨_, _, _, _, h⟩
            · exact absurd h ek
            · exact h
            · exact h
          refine ⟨some (V.int ((1 + i : Nat))), some (V.ref a), ?_, g8⟩
          rw [ms, e0]
          rfl
    · rintro σ H5 ⟨y1, y2, rfl, g5⟩
      rw [dlen]
      exact ⟨_, rfl, q _ g5⟩

/-! ### _can_know -/
def spCanKnow (K : PySem.W.Frag) (T : Tp) : Sp := fun vs H Q _ => ∃ (nv : V) (l : Addr) (kvs : List V) (n : Nm) (ns : List Nm), vs = [nv, .ref l] ∧ Dp K H nv (eN n) ∧ NmOk n ∧ SqL K H l kvs ∧ DpAll K H kvs (ns.map eN) ∧ (∀ m ∈ ns, NmOk m) ∧
  ns.Pairwise (fun a b => nmLt a b = true) ∧ n ∉ ns ∧ TG T H ∧ ∀ H', Go T D0 H H' → Q (.bl true) H'
theorem ok_canknow {f : Addr} {fd : FuncData} {k : Nat} (F : Fun K "can_know" "can_know" sCanKnow f fd) (M : Mg K mg) (cN : Cal P w K mg base k "is_name" ["thing"] (spName K T)) : FnOk P w K mg base CX0 (k + 1) f fd ["own", "knows"] (spCanKnow K T) := by
  refine F.ok scCanKnow (fun vs H Q E h => ?_) (fun cdv A outer s H vs Q E hr h => ?_)
  · obtain ⟨nv, l, kvs, n, ns, rfl, _⟩ := h
    rfl
  · obtain ⟨nv, l, kvs, n, ns, rfl, dn, on_, S, dks, ok, asc, nin, tg, q⟩ := h
    refine ⟨_, (pss_cons (ps_if (pt_not (pt_val (pe_callB call_isi (by rfl) M.ins boot_isinstance (pa_cons (pv 1) (pa_cons (pe_bltn (v := .ty "list") (by rfl) M.list_ (by decide +kernel) rfl) pa_nil)))))
      (pss_one (ps_ret pe_bl))
      pss_nil)
      (pss_cons (ps_set (i := 2) scCanKnow.nd rfl (.inl rfl) pe_non)
      (pss_cons (ps_for PassesOwn.never rfl (pi_list (pv 1)) (pg_name (i := 3) scCanKnow.nd rfl (.inl rfl))
      (pss_cons (ps_if (PW.pt (pw_or (pt_not (pt_val (pe_cal cN hr (by rfl) (pa_cons (pv 3) pa_nil)))) (pw_or (pt_cmpR (op_eqD hr.units) (pv 3) (pv 0) (nomark _)) (pw_or1 (PW.pt (pw_and (pt_cmpR op_notN (pv 2) pe_non (nomark _)) (pw_and1 (pt_cmpR (op_leD hr.units) (pv 3) (pv 2) (nomark _)))))))))
      (pss_one (ps_ret pe_bl))
      pss_nil)
      (pss_one (ps_set (i := 2) scCanKnow.nd rfl (.inl rfl) (pv 3)))))
      (pss_one (ps_ret pe_bl))))), ?_⟩
    have toH : ∀ {H'}, Go T D0 H H' → Sub H H' := fun g => sub_go g tg
    have g0 : Go T D0 H H := Go.rfl' tg
    have klen : kvs.length = ns.length := by rw [DpAll.len dks, List.length_map]
    refine ⟨.ref l, rfl, .ref l, .ty "list", .type "list", .type "list", _, rfl, .ty _, (Th.lst S).ty, kit_ty (Th.lst S).klst, _, rfl, iteF ?_⟩
    refine ⟨.ref l, rfl, l, rfl, ⟨_, S⟩, ?_⟩
    refine for_list (K := K) (a := l) (xs := kvs) (fun i σ H5 => ∃ (bv : V) (y1 : Option V), σ = [some nv, some (.ref l), some bv, y1] ∧ Go T D0 H H5 ∧ ((i = 0 ∧ bv = .non) ∨ ∃ j m, i = j + 1 ∧ ns[j]? = some m ∧ bv ≠ .non ∧ Dp K H bv (eN m))) ?_ ?_ ?_ ?_
    · exact ⟨_, _, rfl, g0, .inl ⟨rfl, rfl⟩⟩
    · rintro i σ H5 hi ⟨bv, y1, rfl, g5, _⟩
      exact (toH g5).seqL S
    · rintro i x σ H5 hx ⟨bv, y1, rfl, g5, hb⟩
      obtain ⟨d0, hd0, dp⟩ := DpAll.at' dks hx
      rw [List.getElem?_map] at hd0
      cases hdi : ns[i]? with
      | none => rw [hdi] at hd0; cases hd0
      | some m =>
        rw [hdi] at hd0
        cases hd0
        have okm := ok m (List.mem_of_getElem? hdi)
        have t5 := nm_th (Dp.sub (toH g5) _ _ dp) (by have := (handOk okm.1).2; omega)
        refine ⟨x, rfl, x, "tuple", _, rfl, t5.1, t5.2, g5.1, fun H6 g6 => ⟨_, rfl, ?_⟩⟩
        rw [okm.v]
        have g7 := g5.trans g6
        refine iteF ⟨x, rfl, nv, rfl, _, _, Dp.sub (toH g7) _ _ dp, Dp.sub (toH g7) _ _ dn, okm.sh, on_.sh, _, rfl, ?_⟩
        rw [eN_eqv, decide_eq_false (show ¬ m = n from fun z => nin (z ▸ List.mem_of_getElem? hdi))]
        have xnon : x ≠ .non := by
          obtain ⟨a, xs, rfl, _⟩ := Dp.tupI dp
          exact fun z => nomatch z
        have fin : ∃ (bv' : V) (y1 : Option V), [some nv, some (.ref l), some x, some x] = [some nv, some (.ref l), some bv', y1] ∧ Go T D0 H H6 ∧ ((i + 1 = 0 ∧ bv' = .non) ∨ ∃ j m, i + 1 = j + 1 ∧ ns[j]? = some m ∧ bv' ≠ .non ∧ Dp K H bv' (eN m)) :=
          ⟨x, some x, rfl, g7, .inr ⟨i, m, rfl, hdi, xnon, dp⟩⟩
        refine iteF ⟨bv, rfl, rfl, _, rfl, ite2 (fun e => ?_) (fun e => ⟨x, rfl, fin⟩)⟩
        rcases hb with ⟨_, rfl⟩ | ⟨j, m', rfl, hj, nb, db⟩
        · exact absurd e (by decide)
        · have lt : nmLt m' m = true := by
            obtain ⟨h1, e1⟩ := List.getElem?_eq_some_iff.mp hj
            obtain ⟨h2, e2⟩ := List.getElem?_eq_some_iff.mp hdi
            have := List.pairwise_iff_getElem.mp asc j (j + 1) h1 h2 (Nat.lt_succ_self _)
            rw [e1, e2] at this
            exact this
          refine ⟨x, rfl, bv, rfl, _, _, Dp.sub (toH g7) _ _ dp, Dp.sub (toH g7) _ _ db, eN_alike m m', (by unfold eN; intro z; cases z), by rw [eN_dep]; decide, _, rfl, ?_⟩
          rw [show PySem.W.dataLt (eN m') (eN m) = true from lt]
          exact iteF ⟨x, rfl, fin⟩
    · rintro σ H5 ⟨bv, y1, rfl, g5, _⟩
      exact q _ g5
end
end K1
set_option Elab.async false
set_option linter.all false
set_option maxRecDepth 100000
set_option maxHeartbeats 400000
/-! The program's Patch, _patch_with, patch_of_parts: of good parts. -/
namespace K1
open PySem PySem.Spec PyProof.Rows L2
/-- what a patch must keep -/
structure Pat.good (p : Pat) : Prop where
  ok : p.ok
  fit : ∀ d ∈ p.deeds, d.fit
  own : ∀ i d, p.deeds[i]? = some d → ownOk p.name (manyAt p.deeds i : Nat) d
  asc : p.knows.Pairwise fun a b => nmLt a b = true
  nin : p.name ∉ p.knows
  most : p.deeds.length ≤ 400
def manyOf (p : Pat) : Nat := manyAt p.deeds p.deeds.length
/-- the object at x is a patch with p's parts -/
def MadeN (n : Nat) (K : PySem.W.Frag) (C : Addr) (H : Hp) (x : Addr) (p : Pat) : Prop := ∃ dx fs nv kv dv, H x = some (.ins C dx fs) ∧ fs.length ≤ n ∧ fs.lookup ("name" : Str) = some nv ∧ fs.lookup ("knows" : Str) = some kv ∧ fs.lookup ("deeds" : Str) = some dv ∧ fs.lookup ("many" : Str) = some (.int (manyOf p : Nat)) ∧ fs.lookup ("told" : Str) = none ∧
  Dp K H nv (eN p.name) ∧ Dp K H kv (.tuple (p.knows.map eN)) ∧ Dp K H dv (.tuple (p.deeds.map eD))
abbrev Made := MadeN 10
theorem Made.pat {K : PySem.W.Frag} {C : Addr} {H : Hp} {x : Addr} {p : Pat} (m : Made K C H x p) : PatAt K C H (.ref x) p := by
  obtain ⟨dx, fs, nv, kv, dv, h1, _, h2, h3, h4, _, _, h5, h6, h7⟩ := m
  exact ⟨x, dx, fs, nv, kv, dv, rfl, h1, h2, h3, h4, h5, h6, h7⟩
theorem cut_all (xs : List V) : cutV xs none (some ((xs.length : Nat) : Int)) = xs := by
  unfold cutV
  have e1 : HT.sIx xs.length 0 none = 0 := rfl
  have e2 : HT.sIx xs.length xs.length (some ((xs.length : Nat) : Int)) = xs.length := by rw [HT.sIx_nat, Nat.min_self]
  rw [e1, e2, List.drop_zero, Nat.sub_zero, List.take_length]
theorem lk {fs : List (Str × V)} {f g : Str} {v : V} (h : (g = f) = False) : (putF f v fs).lookup g = fs.lookup g := by rw [lookup_putF, if_neg (by rw [h]; exact id)]
theorem lk' {fs : List (Str × V)} {f : Str} {v : V} : (putF f v fs).lookup f = some v := by rw [lookup_putF, if_pos rfl]
theorem lns {fs : List (Str × V)} {f : Str} {v : V} {n : Nat} (h : fs.length ≤ n) : (putF f v fs).length ≤ n + 1 := Nat.le_trans (length_putF f v fs) (Nat.add_le_add_right h 1)
section
variable {P : Program} {w : World} {K : PySem.W.Frag} {mg : Str → Option Value} {base : Heap} {T : Tp}

/-! ### Patch.__init__ -/
def spInit (K : PySem.W.Frag) (C : Addr) (T : Tp) : Sp := fun vs H Q _ => ∃ (x dx : Addr) (nv : V) (kl dl : Addr) (kvs dvs : List V) (p : Pat), vs = [.ref x, nv, .ref kl, .ref dl] ∧ H x = some (.ins C dx []) ∧ Dp K H nv (eN p.name) ∧ SqL K H kl kvs ∧ DpAll K H kvs (p.knows.map eN) ∧
  SqL K H dl dvs ∧ DpAll K H dvs (p.deeds.map eD) ∧ p.good ∧ TG T H ∧ ∀ H', Go T (· = x) H H' → MadeN 7 K C H' x p → Q .non H'
theorem ok_init {f C : Addr} {fd : FuncData} {k : Nat} (F : Fun K "__init__" "Patch.__init__" sPatch_init f fd) (M : Mg K mg) (N : Mp mg) (PC : PCls K C) (cN : Cal P w K mg base k "is_name" ["thing"] (spName K T)) (cK : Cal P w K mg base k "can_know" ["own", "knows"] (spCanKnow K T))
    (cD : Cal P w K mg base k "_many_deeds" ["things"] (spManyD K T)) (cM : Cal P w K mg base k "_many_put" ["name", "deeds"] (spManyP K T)) : FnOk P w K mg base CX0 (k + 1) f fd ["self", "name", "knows", "deeds"] (spInit K C T) := by
  obtain ⟨tk, hD⟩ := N.mostD
  refine F.ok scPatch_init (fun vs H Q E h => ?_) (fun cdv A outer s H vs Q E hr h => ?_)
  · obtain ⟨x, dx, nv, kl, dl, kvs, dvs, p, rfl, _⟩ := h
    rfl
  · obtain ⟨x, dx, nv, kl, dl, kvs, dvs, p, rfl, ex, dn, Sk, dks, Sd, dds, gd, tg, q⟩ := h
    refine ⟨_, (pss_cons (ps_if (PW.pt (pw_or (pt_not (pt_val (pe_cal cN hr (by rfl) (pa_cons (pv 1) pa_nil)))) (pw_or1 (pt_not (pt_val (pe_cal cK hr (by rfl) (pa_cons (pv 1) (pa_cons (pv 2) pa_nil))))))))
      (pss_one ps_never)
      pss_nil)
      (pss_cons (ps_if (PW.pt (pw_or (pt_not (pt_val (pe_callB call_isi (by rfl) M.ins boot_isinstance (pa_cons (pv 3) (pa_cons (pe_bltn (v := .ty "list") (by rfl) M.list_ (by decide +kernel) rfl) pa_nil))))) (pw_or1 (pt_cmpR op_gt (pe_callB call_len_seq (by rfl) M.len_ PySem.boot_len (pa_cons (pv 3) pa_nil)) (pe_glob (v := .int 400) (by rfl) hD ⟨_, rfl⟩) (nomark _)))))
      (pss_one ps_never)
      pss_nil)
      (pss_cons (ps_set (i := 4) scPatch_init.nd rfl (.inl rfl) (pe_cal cD hr (by rfl) (pa_cons (pv 3) pa_nil)))
      (pss_cons (ps_fld (pv 0) (pe_cal cM hr (by rfl) (pa_cons (pv 1) (pa_cons (pe_slice sl_list (pv 3) po_none (po_some (pv 4))) pa_nil))) (by rfl))
      (pss_cons (ps_if (pt_cmpR op_lt (pv 4) (pe_callB call_len_seq (by rfl) M.len_ PySem.boot_len (pa_cons (pv 3) pa_nil)) (nomark _))
      (pss_one ps_never)
      pss_nil)
      (pss_cons (ps_fld (pv 0) (pv 1) (by rfl))
      (pss_cons (ps_fld (pv 0) (pe_callTy call_tuple_of (by rfl) M.tuple_ (by decide +kernel) (pa_cons (pv 2) pa_nil)) (by rfl))
      (pss_cons (ps_fld (pv 0) (pe_callTy call_tuple_of (by rfl) M.tuple_ (by decide +kernel) (pa_cons (pv 3) pa_nil)) (by rfl))
      (pss_cons (ps_fld (pv 0) pe_non (by rfl))
      (pss_cons (ps_fld (pv 0) pe_non (by rfl))
      (pss_one (ps_fld (pv 0) pe_non (by rfl))))))))))))), ?_⟩
    have toH : ∀ {H'}, Go T D0 H H' → Sub H H' := fun g => sub_go g tg
    have g0 : Go T D0 H H := Go.rfl' tg
    have dlen : dvs.length = p.deeds.length := by rw [DpAll.len dds, List.length_map]
    have th0 := nm_th dn (by have := (handOk gd.ok.name.1).2; omega)
    have ex' : ∀ {H'}, Go T D0 H H' → H' x = some (.ins C dx []) := fun g => g.at tg (fun z => z) ex
    refine ⟨nv, rfl, nv, "tuple", _, rfl, th0.1, th0.2, tg, fun H1 g1 => ⟨_, rfl, ?_⟩⟩
    rw [gd.ok.name.v]
    refine iteF ⟨nv, rfl, .ref kl, rfl, nv, kl, kvs, p.name, p.knows, rfl, Dp.sub (toH g1) _ _ dn, gd.ok.name, (toH g1).seqL Sk, Dp.subs (toH g1) _ _ dks, gd.ok.knows, gd.asc, gd.nin, g1.1, fun H2 g2 => ⟨_, rfl, iteF ?_⟩⟩
    have g12 := g1.trans g2
    have S2 := (toH g12).seqL Sd
    refine ⟨.ref dl, rfl, .ref dl, .ty "list", .type "list", .type "list", _, rfl, .ty _, (Th.lst S2).ty, kit_ty (Th.lst S2).klst, _, rfl, iteF ?_⟩
    refine ⟨.ref dl, rfl, dl, _, rfl, .inl S2, _, _, rfl, rfl, _, rfl, ite2 (fun e => ?bad1) (fun _ => ?_)⟩
    case bad1 =>
      have := of_decide_eq_true e
      have := gd.most
      omega
    have okd : ∀ d ∈ p.deeds, d.ok ∧ d.fit := fun d hd => ⟨gd.ok.deeds d hd, gd.fit d hd⟩
    refine ⟨.ref dl, rfl, dl, dvs, p.deeds, rfl, S2, Dp.subs (toH g12) _ _ dds, okd, by have := gd.most; omega, g12.1, fun H3 g3 => ?_⟩
    have g13 := g12.trans g3
    have S3 := (toH g13).seqL Sd
    refine ⟨nv, rfl, .ref dl, rfl, .int _, rfl, _, rfl, dl, dvs, rfl, S3, fun t ht => ?_⟩
    rw [← dlen, cut_all]
    have g4 := g13.new (o := .lst dvs) ht
    have et : (upd H3 t (.lst dvs)) t = some (.lst dvs) := upd_same
    generalize upd H3 t (.lst dvs) = H4 at g4 et ⊢
    refine ⟨nv, t, dvs, p.name, p.deeds, rfl, Dp.sub (toH g4) _ _ dn, gd.ok.name, .inl (.inl et), Dp.subs (toH g4) _ _ dds, okd, gd.own, g4.1, fun H5 g5 => ?_⟩
    have g05 := g4.trans g5
    refine ⟨.ref x, rfl, x, C, dx, [], rfl, ex' g05, PC.cls, PC.many, by decide, ?_⟩
    have g6 : Go T (· = x) H (upd H5 x (.ins C dx (putF "many" (.int (manyAt p.deeds p.deeds.length : Nat)) []))) := g05.up.set rfl (ex' g05) (by intro ps z; cases z)
    have e6 : (upd H5 x (.ins C dx (putF "many" (.int (manyAt p.deeds p.deeds.length : Nat)) []))) x = _ := upd_same
    generalize upd H5 x (.ins C dx (putF "many" (.int (manyAt p.deeds p.deeds.length : Nat)) [])) = H6 at g6 e6 ⊢
    have subX : ∀ {H'}, Go T (· = x) H H' → Sub H H' := fun g => Sub.go g tg fun a z xs => by
      rw [z, ex]
      refine ⟨fun z => ?_, fun z => ?_, fun u => ⟨fun z => ?_, fun z => ?_⟩⟩ <;> cases z
    have S6 := (subX g6).seqL Sd
    refine ⟨.int _, rfl, .ref dl, rfl, dl, dvs, rfl, .inl S6, _, _, rfl, rfl, _, rfl, ite2 (fun e => ?bad2) (fun _ => ?_)⟩
    case bad2 =>
      have := of_decide_eq_true e
      omega
    refine ⟨nv, rfl, .ref x, rfl, x, C, dx, _, rfl, e6, PC.cls, PC.name, Nat.lt_of_le_of_lt (lns (Nat.le_of_eq rfl)) (by decide), ?_⟩
    have l1 : (putF "many" (.int (manyAt p.deeds p.deeds.length : Nat)) ([] : List (Str × V))).length ≤ 1 := lns (Nat.le_refl 0)
    generalize hf1 : putF "many" (.int (manyAt p.deeds p.deeds.length : Nat)) ([] : List (Str × V)) = f1 at e6 l1 ⊢
    have g7 : Go T (· = x) H (upd H6 x (.ins C dx (putF "name" nv f1))) := g6.set rfl e6 (by intro ps z; cases z)
    have e7 : (upd H6 x (.ins C dx (putF "name" nv f1))) x = _ := upd_same
    have l2 := lns (f := "name") (v := nv) l1
    generalize upd H6 x (.ins C dx (putF "name" nv f1)) = H7 at g7 e7 ⊢
    refine ⟨.ref kl, rfl, kl, kvs, rfl, .inl ⟨(subX g7).seqL Sk, fun kt hkt => ?_⟩⟩
    have g8 := g7.new (o := .tup kvs) hkt
    have e8 := (upd_ne (o := .tup kvs) (ne_of_none e7 hkt)).trans e7
    have k8 : (upd H7 kt (.tup kvs)) kt = some (.tup kvs) := upd_same
    generalize upd H7 kt (.tup kvs) = H8 at g8 e8 k8 ⊢
    refine ⟨.ref x, rfl, x, C, dx, _, rfl, e8, PC.cls, PC.knows, Nat.lt_of_le_of_lt l2 (by decide), ?_⟩
    have nk : x ≠ kt := fun z => by rw [z, k8] at e8; cases e8
    have g9 : Go T (· = x) H (upd H8 x (.ins C dx (putF "knows" (.ref kt) (putF "name" nv f1)))) := g8.set rfl e8 (by intro ps z; cases z)
    have e9 : (upd H8 x (.ins C dx (putF "knows" (.ref kt) (putF "name" nv f1)))) x = _ := upd_same
    have k9 := (upd_ne (o := .ins C dx (putF "knows" (.ref kt) (putF "name" nv f1))) nk.symm).trans k8
    have l3 := lns (f := "knows") (v := .ref kt) l2
    generalize upd H8 x (.ins C dx (putF "knows" (.ref kt) (putF "name" nv f1))) = H9 at g9 e9 k9 ⊢
    refine ⟨.ref dl, rfl, dl, dvs, rfl, .inl ⟨(subX g9).seqL Sd, fun dt hdt => ?_⟩⟩
    have g10 := g9.new (o := .tup dvs) hdt
    have e10 := (upd_ne (o := .tup dvs) (ne_of_none e9 hdt)).trans e9
    have k10 := (upd_ne (o := .tup dvs) (ne_of_none k9 hdt)).trans k9
    have d10 : (upd H9 dt (.tup dvs)) dt = some (.tup dvs) := upd_same
    generalize upd H9 dt (.tup dvs) = H10 at g10 e10 k10 d10 ⊢
    refine ⟨.ref x, rfl, x, C, dx, _, rfl, e10, PC.cls, PC.deeds, Nat.lt_of_le_of_lt l3 (by decide), ?_⟩
    have nd : x ≠ dt := fun z => by rw [z, d10] at e10; cases e10
    have g11 : Go T (· = x) H (upd H10 x (.ins C dx (putF "deeds" (.ref dt) (putF "knows" (.ref kt) (putF "name" nv f1))))) := g10.set rfl e10 (by intro ps z; cases z)
    have e11 : (upd H10 x (.ins C dx (putF "deeds" (.ref dt) (putF "knows" (.ref kt) (putF "name" nv f1))))) x = _ := upd_same
    have k11 := (upd_ne (o := .ins C dx (putF "deeds" (.ref dt) (putF "knows" (.ref kt) (putF "name" nv f1)))) nk.symm).trans k10
    have d11 := (upd_ne (o := .ins C dx (putF "deeds" (.ref dt) (putF "knows" (.ref kt) (putF "name" nv f1)))) nd.symm).trans d10
    have l4 := lns (f := "deeds") (v := .ref dt) l3
    generalize upd H10 x (.ins C dx (putF "deeds" (.ref dt) (putF "knows" (.ref kt) (putF "name" nv f1)))) = H11 at g11 e11 k11 d11 ⊢
    generalize hf4 : putF "deeds" (.ref dt) (putF "knows" (.ref kt) (putF "name" nv f1)) = f4 at e11 l4
    have lkD : f4.lookup ("deeds" : Str) = some (.ref dt) := by rw [← hf4, lk']
    have lkK : f4.lookup ("knows" : Str) = some (.ref kt) := by rw [← hf4, lk (by decide), lk']
    have lkN : f4.lookup ("name" : Str) = some nv := by rw [← hf4, lk (by decide), lk (by decide), lk']
    have lkM : f4.lookup ("many" : Str) = f1.lookup ("many" : Str) := by rw [← hf4, lk (by decide), lk (by decide), lk (by decide)]
    have lkT : f4.lookup ("told" : Str) = f1.lookup ("told" : Str) := by rw [← hf4, lk (by decide), lk (by decide), lk (by decide)]
    refine ⟨.ref x, rfl, x, C, dx, _, rfl, e11, PC.cls, PC.place, Nat.lt_of_le_of_lt l4 (by decide), ?_⟩
    have g12 : Go T (· = x) H (upd H11 x (.ins C dx (putF "place" .non f4))) := g11.set rfl e11 (by intro ps z; cases z)
    have e12 : (upd H11 x (.ins C dx (putF "place" .non f4))) x = _ := upd_same
    have k12 := (upd_ne (o := .ins C dx (putF "place" .non f4)) nk.symm).trans k11
    have d12 := (upd_ne (o := .ins C dx (putF "place" .non f4)) nd.symm).trans d11
    have l5 := lns (f := "place") (v := .non) l4
    generalize upd H11 x (.ins C dx (putF "place" .non f4)) = H12 at g12 e12 k12 d12 ⊢
    refine ⟨.ref x, rfl, x, C, dx, _, rfl, e12, PC.cls, PC.known, Nat.lt_of_le_of_lt l5 (by decide), ?_⟩
    have g13' : Go T (· = x) H (upd H12 x (.ins C dx (putF "known" .non (putF "place" .non f4)))) := g12.set rfl e12 (by intro ps z; cases z)
    have e13 : (upd H12 x (.ins C dx (putF "known" .non (putF "place" .non f4)))) x = _ := upd_same
    have k13 := (upd_ne (o := .ins C dx (putF "known" .non (putF "place" .non f4))) nk.symm).trans k12
    have d13 := (upd_ne (o := .ins C dx (putF "known" .non (putF "place" .non f4))) nd.symm).trans d12
    have l6 := lns (f := "known") (v := .non) l5
    generalize upd H12 x (.ins C dx (putF "known" .non (putF "place" .non f4))) = H13 at g13' e13 k13 d13 ⊢
    refine ⟨.ref x, rfl, x, C, dx, _, rfl, e13, PC.cls, PC.work, Nat.lt_of_le_of_lt l6 (by decide), ?_⟩
    have g14 : Go T (· = x) H (upd H13 x (.ins C dx (putF "work" .non (putF "known" .non (putF "place" .non f4))))) := g13'.set rfl e13 (by intro ps z; cases z)
    have e14 : (upd H13 x (.ins C dx (putF "work" .non (putF "known" .non (putF "place" .non f4))))) x = _ := upd_same
    have k14 := (upd_ne (o := .ins C dx (putF "work" .non (putF "known" .non (putF "place" .non f4)))) nk.symm).trans k13
    have d14 := (upd_ne (o := .ins C dx (putF "work" .non (putF "known" .non (putF "place" .non f4)))) nd.symm).trans d13
    have l7 := lns (f := "work") (v := .non) l6
    generalize upd H13 x (.ins C dx (putF "work" .non (putF "known" .non (putF "place" .non f4)))) = H14 at g14 e14 k14 d14 ⊢
    refine q H14 g14 ⟨dx, _, nv, .ref kt, .ref dt, e14, l7, ?_, ?_, ?_, ?_, ?_, Dp.sub (subX g14) _ _ dn, .tup (.inl (.inl k14)) (Dp.subs (subX g14) _ _ dks), .tup (.inl (.inl d14)) (Dp.subs (subX g14) _ _ dds)⟩
    · rw [lk (by decide), lk (by decide), lk (by decide), lkN]
    · rw [lk (by decide), lk (by decide), lk (by decide), lkK]
    · rw [lk (by decide), lk (by decide), lk (by decide), lkD]
    · rw [lk (by decide), lk (by decide), lk (by decide), lkM, ← hf1, lk']
      rfl
    · rw [lk (by decide), lk (by decide), lk (by decide), lkT, ← hf1, lk (by decide)]
      rfl
end
end K1
set_option Elab.async false
set_option linter.all false
set_option maxRecDepth 100000
set_option maxHeartbeats 400000
/-! The program's defs: _patch_with, patch_of_parts: of good parts. -/
namespace K1
open PySem PySem.Spec PyProof.Rows L2
section
variable {P : Program} {w : World} {K : PySem.W.Frag} {mg : Str → Option Value} {base : Heap} {T : Tp}
/-- the class of patches, made by its name -/
structure MakP (P : Program) (w : World) (K : PySem.W.Frag) (mg : Str → Option Value) (base : Heap) (k : Nat) (C : Addr) (T : Tp) : Prop where
  ex : ∃ (f : Addr) (fd : FuncData), Mk K C f ∧ FnOk P w K mg base CX0 k f fd ["self", "name", "knows", "deeds"] (spInit K C T) ∧ mg "Patch" = some (.ref C) ∧ Binds K fd ["self", "name", "knows", "deeds"] []
theorem pe_mkP {X : Cx} {K0 : PySem.W.Frag} {k j : Nat} {C : Addr} {T : Tp} {p pos : Pos} {e : Expr} {es : List Expr} {t : TA} (c : MakP X.prog X.w K0 X.mg X.base k C T) (hr : Room j X.A) (hk : k + 1 ≤ j) (hg : Gl X "Patch") (ha : PA X (e :: es) t) (hK : X.K = K0 := by rfl)
    (hdb : (("Patch" : Str) == ("__debug__" : Str)) = false := by decide) (he : starEach (e :: es) X.env = (false, eval e X.env) :: starEach es X.env := by rfl) (hpl : (backTo pos (starEach es X.env)).any (·.1) = false := by rfl) :
    PE X (.Call (.Name "Patch" p) (e :: es) [] pos) (tMake C (spInit K0 C T) [] E0 t) := by
  subst hK
  obtain ⟨f, fd, M, F, hm, b⟩ := c.ex
  exact pe_make M F (hr.mono hk) hg hm b .nil pass0 ha hdb he hpl
theorem MakP.up {k j : Nat} {C : Addr} (c : MakP P w K mg base j C T) (h : j ≤ k) : MakP P w K mg base k C T := by
  obtain ⟨f, fd, M, F, r⟩ := c.ex
  exact ⟨f, fd, M, F.mono h, r⟩
theorem good0 {n : Nm} (h : NmOk n) : (Pat.mk n [] []).good := ⟨⟨h, (fun _ h => by cases h), (fun _ h => by cases h)⟩, (fun _ h => by cases h), (fun i d h => by cases h), .nil, (by simp), (Nat.zero_le _)⟩
/-- a new object, and what is done to it, from ahead -/
theorem Go.born {H H2 : Hp} {x dx : Addr} {o o' : HO} (tg : TG T H) (hx : H x = none) (hd : H dx = none) (ne : dx ≠ x) (g : Go T (· = x) (upd (upd H dx o) x o') H2) : Go T D0 H H2 := by
  have g1 : Go T (· = x) H (upd (upd H dx o) x o') := ((Go.rfl' tg).new hd).new (by rw [upd_ne ne.symm]; exact hx)
  exact (g1.trans g).drop hx
theorem TG.born {H : Hp} {x dx : Addr} {o o' : HO} (tg : TG T H) (hx : H x = none) (hd : H dx = none) (ne : dx ≠ x) : TG T (upd (upd H dx o) x o') := (tg.new hd).new (by rw [upd_ne ne.symm]; exact hx)

/-! ### _patch_with -/
def spWith (K : PySem.W.Frag) (C : Addr) (T : Tp) : Sp := fun vs H Q _ => ∃ (nv kv dv : V) (p : Pat), vs = [nv, kv, dv, .int (manyOf p : Nat)] ∧ Dp K H nv (eN p.name) ∧ NmOk p.name ∧ Dp K H kv (.tuple (p.knows.map eN)) ∧ Dp K H dv (.tuple (p.deeds.map eD)) ∧ TG T H ∧
  ∀ H' x, Go T D0 H H' → H x = none → Made K C H' x p → Q (.ref x) H'
/-! ### patch_of_parts -/
def spParts (K : PySem.W.Frag) (C : Addr) (T : Tp) : Sp := fun vs H Q _ => ∃ (nv : V) (kl dl : Addr) (kvs dvs : List V) (p : Pat), vs = [nv, .ref kl, .ref dl] ∧ Dp K H nv (eN p.name) ∧ SqL K H kl kvs ∧ DpAll K H kvs (p.knows.map eN) ∧ SqL K H dl dvs ∧ DpAll K H dvs (p.deeds.map eD) ∧ p.good ∧ TG T H ∧
  ∀ H' x, Go T D0 H H' → H x = none → Made K C H' x p → Q (.ref x) H'
end
end K1
set_option Elab.async false
set_option linter.all false
set_option maxRecDepth 100000
set_option maxHeartbeats 400000
/-! Data without lists, off a list that is being filled. -/
namespace K1
open PySem PySem.Spec PyProof.Rows L2
theorem sqT_cut {K : PySem.W.Frag} {H : Hp} {t D : Addr} {xs ys : List V} (h : SqT K H t xs) (e : H D = some (.lst ys)) : SqT K (cut (plus C0 D) H) t xs := by
  have ne : ∀ {o}, H t = some o → (∀ zs, o ≠ .lst zs) → plus C0 D t = false := fun h1 h2 => by
    have : t ≠ D := fun z => by
      rw [z, e] at h1
      exact h2 _ (Option.some.inj h1).symm
    simp [plus, this]
  rcases h with (h | ⟨o, h⟩) | h
  · exact .inl (.inl ((cut_at (ne h (fun zs z => by cases z))).trans h))
  · exact .inl (.inr ⟨o, (cut_at (ne h (fun zs z => by cases z))).trans h⟩)
  · exact .inr h
end K1
namespace L2
open PySem PySem.Spec PyProof.Rows
/-- no list in it -/
def noLst : PyData → Bool
  | .list _ => false
  | .tuple ds => noLsts ds
  | _ => true
where noLsts : List PyData → Bool
  | [] => true
  | d :: r => noLst d && noLsts r
mutual
theorem Dp.cutD {K : PySem.W.Frag} {H : Hp} {D : Addr} {ys : List V} (e : H D = some (.lst ys)) : ∀ (d : PyData) (v : V), noLst d = true → Dp K H v d → Dp K (K1.cut (K1.plus K1.C0 D) H) v d
  | .none, _, _, q => by cases q; exact .non
  | .bool b, _, _, q => by cases q; exact .bl b
  | .int i, _, _, q => by cases q; exact .int i
  | .str x, _, _, q => by cases q; exact .str x
  | .list ds, _, n, q => by unfold noLst at n; cases n
  | .tuple ds, _, n, q => by
    unfold noLst at n
    cases q with
    | tup s a => exact .tup (K1.sqT_cut s e) (Dp.cutDs e ds _ n a)
  | .dict _, _, _, q => by cases q
theorem Dp.cutDs {K : PySem.W.Frag} {H : Hp} {D : Addr} {ys : List V} (e : H D = some (.lst ys)) : ∀ (ds : List PyData) (vs : List V), noLst.noLsts ds = true → DpAll K H vs ds → DpAll K (K1.cut (K1.plus K1.C0 D) H) vs ds
  | [], _, _, q => by cases q; exact .nil
  | d :: ds, _, n, q => by
    unfold noLst.noLsts at n
    have n2 := Bool.and_eq_true_iff.mp n
    cases q with
    | cons a b => exact .cons (Dp.cutD e d _ n2.1 a) (Dp.cutDs e ds _ n2.2 b)
end
end L2
namespace K1
open PySem PySem.Spec PyProof.Rows L2
theorem eN_nol (n : Nm) : noLst (eN n) = true := rfl
theorem strs_nol : ∀ ts : List Str, noLst.noLsts (ts.map PyData.str) = true
  | [] => rfl
  | t :: r => by
    show (true && noLst.noLsts (r.map PyData.str)) = true
    rw [strs_nol r]
    rfl
theorem eD_nol : ∀ d : Deed, noLst (eD d) = true
  | .put a b ts => by
    show (true && (true && (true && (noLst.noLsts (ts.map PyData.str) && true)))) = true
    rw [strs_nol]
    rfl
  | .order a b => rfl
  | .one k a => rfl
theorem all_nol {α : Type} {f : α → PyData} (h : ∀ x, noLst (f x) = true) : ∀ l : List α, noLst.noLsts (l.map f) = true
  | [] => rfl
  | x :: r => by
    show (noLst (f x) && noLst.noLsts (r.map f)) = true
    rw [h x, all_nol h r]
    rfl
end K1
set_option Elab.async false
set_option linter.all false
set_option maxRecDepth 100000
set_option maxHeartbeats 400000
/-! The program's def lines_put. -/
namespace K1
open PySem PySem.Spec PyProof.Rows L2
theorem linesFrom_snoc (n : Nm) (ts : List Str) (t : Str) : linesFrom n (ts ++ [t]) = linesFrom n ts ++ [(lnAt n ts.length, t)] := by
  unfold linesFrom
  rw [List.length_append, List.length_singleton, List.range_succ, List.map_append]
  congr 1
  · refine List.map_congr_left fun k hk => ?_
    have := List.mem_range.mp hk
    rw [List.getD_eq_getElem?_getD, List.getD_eq_getElem?_getD, List.getElem?_append_left this]
  · simp [List.getD_eq_getElem?_getD]
/-- what a patch's sizes are, here -/
structure Pat.mid (p : Pat) : Prop where
  ok : p.ok
  texts : (textsOf p).length ≤ 1000
  deeds : p.deeds.length ≤ 1000
theorem cut_updD {C : Addr → Bool} {D : Addr} {H : Hp} {o : HO} : cut (plus C D) (upd H D o) = cut (plus C D) H := by
  funext a
  unfold cut
  by_cases h : a = D
  · subst h
    rw [plus_D]
    rfl
  · rw [upd_ne h]
theorem eLT_nol (x : Ln × Str) : noLst (eLT x) = true := rfl
section
variable {P : Program} {w : World} {K : PySem.W.Frag} {mg : Str → Option Value} {base : Heap} {T : Tp}
def spLinesPut (K : PySem.W.Frag) (C : Addr) (T : Tp) : Sp := fun vs H Q _ => ∃ (v : V) (p : Pat), vs = [v] ∧ PatAt K C H v p ∧ p.mid ∧ TG T H ∧
  ∀ H' a xs, Go T D0 H H' → H a = none → H' a = some (.lst xs) → DpAll K (cut (plus C0 a) H') xs ((linesOf p).map eLT) → Q (.ref a) H'
theorem ok_linesput {f C : Addr} {fd : FuncData} {k : Nat} (F : Fun K "lines_put" "lines_put" sLinesPut f fd) (M : Mg K mg) (PC : PCls K C) : FnOk P w K mg base CX0 (k + 1) f fd ["patch"] (spLinesPut K C T) := by
  refine F.ok scLinesPut (fun vs H Q E h => ?_) (fun cdv A outer s H vs Q E hr h => ?_)
  · obtain ⟨v, p, rfl, _⟩ := h
    rfl
  · obtain ⟨v, p, rfl, pat, pm, tg, q⟩ := h
    refine ⟨_, (pss_cons (ps_asg (pe_fld (pv 0) (by rfl)) (pg_tup rfl (pgs_cons (pg_name (i := 1) scLinesPut.nd rfl (.inl rfl)) (pgs_cons (pg_name (i := 2) scLinesPut.nd rfl (.inl rfl)) pgs_nil))))
      (pss_cons (ps_set (i := 3) scLinesPut.nd rfl (.inl rfl) (pe_lst pa_nil))
      (pss_cons (ps_for PassesOwn.never rfl (pi_tup (pe_fld (pv 0) (by rfl))) (pg_name (i := 4) scLinesPut.nd rfl (.inl rfl))
      (pss_one (ps_if (pt_cmpR op_eq (pe_ix ix_tup (pv 4) pe_int (fun _ _ => rfl)) pe_str (nomark _))
      (pss_one (ps_for PassesOwn.never rfl (pi_tup (pe_ix ix_tup (pv 4) pe_int (fun _ _ => rfl))) (pg_name (i := 5) scLinesPut.nd rfl (.inl rfl))
      (pss_one (ps_expr (pe_bm PySem.F.plainAttrs_list PySem.F.slot_list_append PySem.F.type_list_append mt_append (pv 3) (pa_cons (pe_tup (pa_cons (pe_tup (pa_cons (pv 1) (pa_cons (pv 2) (pa_cons (pe_op op_add (pe_callB call_len_seq (by rfl) M.len_ PySem.boot_len (pa_cons (pv 3) pa_nil)) pe_int) pa_nil)))) (pa_cons (pv 5) pa_nil))) pa_nil))))))
      pss_nil)))
      (pss_one (ps_ret (pv 3)))))), ?_⟩
    obtain ⟨a, dx, fs, nv, kv, dv, rfl, ep, ln_, lk_, ld_, dn, dk, dd⟩ := pat
    have pok := pm.ok
    have toH : ∀ {H'}, Go T D0 H H' → Sub H H' := fun g => sub_go g tg
    have epG : ∀ {H'}, Go T D0 H H' → H' a = some (.ins C dx fs) := fun g => g.at tg (fun z => z) ep
    obtain ⟨an, _, rfl, Sn, d3⟩ := Dp.tupI dn
    obtain ⟨x, y, rfl, d1, d2⟩ := DpAll.i2 d3
    cases Dp.strI d1
    cases Dp.intI d2
    obtain ⟨ad, dvs, rfl, Sd, dds⟩ := Dp.tupI dd
    have dlen : dvs.length = p.deeds.length := by rw [DpAll.len dds, List.length_map]
    refine ⟨.ref a, rfl, a, C, dx, fs, .ref an, rfl, ep, PC.cls, PC.name, ln_, an, _, rfl, Sn, rfl, _, _, rfl, _, _, rfl, rfl, ?_⟩
    refine ⟨Nat.zero_le _, fun L hL => ?_⟩
    have g0 : Go T D0 H (upd H L (.lst [])) := (Go.rfl' tg).new hL
    have e0 : (upd H L (.lst [])) L = some (.lst []) := upd_same
    generalize upd H L (.lst []) = H0 at g0 e0 ⊢
    refine ⟨.ref a, rfl, a, C, dx, fs, .ref ad, rfl, epG g0, PC.cls, PC.deeds, ld_, ad, rfl, ⟨dvs, (toH g0).seqT Sd⟩, ?_⟩
    refine for_tup (K := K) (a := ad) (xs := dvs) (fun i σ H1 => ∃ (xs : List V) (y4 y5 : Option V), σ = [some (.ref a), some (.str p.name.1), some (.int p.name.2), some (.ref L), y4, y5] ∧ Go T D0 H H1 ∧ H1 L = some (.lst xs) ∧
      DpAll K (cut (plus C0 L) H1) xs ((linesFrom p.name ((p.deeds.take i).flatMap Deed.texts)).map eLT)) ?_ ?_ ?_ ?_
    · exact ⟨[], _, _, rfl, g0, e0, .nil⟩
    · rintro i σ H1 hi ⟨_, _, _, rfl, g, _⟩
      exact (toH g).seqT Sd
    · rintro i v σ H1 hv ⟨xs, y4, y5, rfl, g, eL_, dx_⟩
      obtain ⟨d', hd', hv'⟩ := DpAll.at' dds hv
      obtain ⟨d, hd, rfl⟩ := at_map hd'
      obtain ⟨a', lvs, tl, rfl, S, dl, hcase⟩ := deed_parts hv'
      have S1 := (toH g).seqT S
      have step := flat_succ (f := Deed.texts) hd
      have tle : ((p.deeds.take (i + 1)).flatMap Deed.texts).length ≤ 1000 := Nat.le_trans (flat_take _ _) pm.texts
      rw [step, List.length_append] at tle
      refine ⟨.ref a', rfl, a', _, 0, .str d.kind, rfl, rfl, S1, atI_nat (j := 0) rfl, rfl, _, rfl, ite2 (fun e => ?_) (fun e => ?_)⟩
      · have ek : d.kind = "put" := V.str.inj (of_decide_eq_true e)
        rcases hcase with ⟨_, h2, t, rfl, st⟩ | ⟨n1, _⟩ | ⟨n1, _⟩
        · obtain ⟨x, y, rfl⟩ := len2 h2
          refine ⟨.ref a', rfl, a', _, 3, .ref t, rfl, rfl, S1, atI_nat (j := 3) rfl, t, rfl, ⟨_, (toH g).seqT st⟩, ?_⟩
          refine for_tup (K := K) (a := t) (xs := d.texts.map V.str) (fun j σ H2 => ∃ (xs : List V) (y5 : Option V), σ = [some (.ref a), some (.str p.name.1), some (.int p.name.2), some (.ref L), some (.ref a'), y5] ∧ Go T D0 H H2 ∧ H2 L = some (.lst xs) ∧
            DpAll K (cut (plus C0 L) H2) xs ((linesFrom p.name ((p.deeds.take i).flatMap Deed.texts ++ d.texts.take j)).map eLT)) ?_ ?_ ?_ ?_
          · refine ⟨xs, _, rfl, g, eL_, ?_⟩
            rw [List.take_zero, List.append_nil]
            exact dx_
          · rintro j σ H2 hj ⟨_, _, rfl, g2, _⟩
            exact (toH g2).seqT st
          · rintro j x σ H2 hx ⟨ys, y5', rfl, g2, eL2, dy⟩
            rw [List.getElem?_map] at hx
            cases htx : d.texts[j]? with
            | none => rw [htx] at hx; cases hx
            | some tx =>
              rw [htx] at hx
              cases hx
              have hj : j < d.texts.length := (List.getElem?_eq_some_iff.mp htx).1
              have ylen : ys.length = ((p.deeds.take i).flatMap Deed.texts).length + j := by
                rw [DpAll.len dy, List.length_map, linesFrom_len, List.length_append, List.length_take, Nat.min_eq_left (Nat.le_of_lt hj)]
              refine ⟨.ref L, rfl, .inl ⟨rfl, _, .inl (.inl eL2)⟩, .str p.name.1, rfl, .int p.name.2, rfl, .ref L, rfl, L, _, rfl, .inl (.inl (.inl eL2)), _, _, rfl, rfl, small_le (by show 3 ≤ 10000; decide), fun t1 ht1 => ?_⟩
              have n1 : L ≠ t1 := ne_of_none eL2 ht1
              have g3 := g2.new (o := .tup [V.str p.name.1, .int p.name.2, .int ((ys.length : Int) + 1)]) ht1
              have e3 := (upd_ne (o := .tup [V.str p.name.1, .int p.name.2, .int ((ys.length : Int) + 1)]) n1).trans eL2
              have s3 := (upd_same (H := H2) (a := t1) (o := .tup [V.str p.name.1, .int p.name.2, .int ((ys.length : Int) + 1)]))
              have dy3 := Dp.subs (Sub.new (o := .tup [V.str p.name.1, .int p.name.2, .int ((ys.length : Int) + 1)]) ht1).cuts _ _ dy
              refine ⟨.str tx, rfl, small_le (by show 2 ≤ 10000; decide), fun t2 ht2 => ?_⟩
              generalize e1 : (upd H2 t1 (.tup [V.str p.name.1, .int p.name.2, .int ((ys.length : Int) + 1)])) = H3 at g3 e3 s3 dy3 ht2 ⊢
              have n2 : L ≠ t2 := ne_of_none e3 ht2
              have n3 : t1 ≠ t2 := ne_of_none s3 ht2
              have g4 := g3.new (o := .tup [V.ref t1, .str tx]) ht2
              have e4 := (upd_ne (o := .tup [V.ref t1, .str tx]) n2).trans e3
              have s4 := (upd_ne (o := .tup [V.ref t1, .str tx]) n3).trans s3
              have s5 := (upd_same (H := H3) (a := t2) (o := .tup [V.ref t1, .str tx]))
              have dy4 := Dp.subs (Sub.new (o := .tup [V.ref t1, .str tx]) ht2).cuts _ _ dy3
              generalize (upd H3 t2 (.tup [V.ref t1, .str tx])) = H4 at g4 e4 s4 s5 dy4 ⊢
              refine ⟨L, _, _, rfl, rfl, e4, small_line (by omega), _, _, rfl, g4.put hL e4, upd_same, ?_⟩
              have ey : (linesFrom p.name ((p.deeds.take i).flatMap Deed.texts ++ d.texts.take (j + 1))).map eLT = (linesFrom p.name ((p.deeds.take i).flatMap Deed.texts ++ d.texts.take j)).map eLT ++ [eLT (lnAt p.name (((p.deeds.take i).flatMap Deed.texts).length + j), tx)] := by
                rw [List.take_add_one, htx, Option.toList_some, ← List.append_assoc, linesFrom_snoc, List.map_append, List.length_append, List.length_take, Nat.min_eq_left (Nat.le_of_lt hj)]
                rfl
              rw [ey, cut_updD]
              refine DpAll.app dy4 (.one ?_)
              refine Dp.cutD e4 _ _ (eLT_nol _) (.tup (.inl (.inl s5)) (.cons (.tup (.inl (.inl s4)) (.cons (.str _) (.cons (.int _) (.one ?_)))) (.one (.str _))))
              have : ((ys.length : Int) + 1) = (lnAt p.name (((p.deeds.take i).flatMap Deed.texts).length + j)).2.2 := by
                rw [ylen]
                rfl
              rw [this]
              exact .int _
          · rintro σ H2 ⟨ys, y5', rfl, g2, eL2, dy⟩
            rw [List.length_map, List.take_length] at dy
            refine ⟨ys, _, _, rfl, g2, eL2, ?_⟩
            rw [step]
            exact dy
        · rw [ek] at n1
          exact absurd n1 (by decide +kernel)
        · exact absurd ek n1
      · have ek : ¬ d.kind = "put" := fun z => e (decide_eq_true (by rw [z]))
        have tx : d.texts = [] := by
          rcases hcase with ⟨n1, _⟩ | ⟨_, _, _, h⟩ | ⟨_, _, _, _, h⟩
          · exact absurd n1 ek
          · exact h
          · exact h
        refine ⟨xs, _, _, rfl, g, eL_, ?_⟩
        rw [step, tx, List.append_nil]
        exact dx_
    · rintro σ H1 ⟨xs, y4, y5, rfl, g, eL_, dx_⟩
      rw [dlen, List.take_length] at dx_
      exact ⟨.ref L, rfl, q H1 L xs g hL eL_ dx_⟩
end
end K1
set_option Elab.async false
set_option linter.all false
set_option maxRecDepth 100000
set_option maxHeartbeats 400000
/-! The program's def lines_named. -/
namespace K1
open PySem PySem.Spec PyProof.Rows L2
def isNm (l : Ln) : Bool := decide (l ≠ headL) && decide (l ≠ footL)
theorem eL_nol (x : Ln) : noLst (eL x) = true := rfl
section
variable {P : Program} {w : World} {K : PySem.W.Frag} {mg : Str → Option Value} {base : Heap} {T : Tp}
def spNamed (K : PySem.W.Frag) (T : Tp) : Sp := fun vs H Q _ => ∃ (v : V) (d : Deed), vs = [v] ∧ Dp K H v (eD d) ∧ d.ok ∧ TG T H ∧
  ∀ H' a xs, Go T D0 H H' → H a = none → H' a = some (.lst xs) → DpAll K H xs ((d.lines.filter isNm).map eL) → Q (.ref a) H'
theorem ok_lnamed {f : Addr} {fd : FuncData} {k : Nat} (F : Fun K "lines_named" "lines_named" sLinesNamed f fd) (M : Mg K mg) : FnOk P w K mg base CX0 (k + 1) f fd ["deed"] (spNamed K T) := by
  obtain ⟨aH, mH, sH⟩ := M.hd
  obtain ⟨aF, mF, sF⟩ := M.ft
  refine F.ok scLinesNamed (fun vs H Q E h => ?_) (fun cdv A outer s H vs Q E hr h => ?_)
  · obtain ⟨v, d, rfl, _⟩ := h
    rfl
  · obtain ⟨v, d, rfl, dd, dok, tg, q⟩ := h
    refine ⟨_, (pss_one (ps_ret (pe_lc (own := [("line", 1)]) (g := gName 1) rfl scLinesNamed.nd (pi_tup (pe_slice sl_tupA (pv 0) (po_some pe_int) (po_some pe_int))) (blkOk_by (N := ["deed", "line"]) (sc := defScope sLinesNamed) (by decide +kernel)) (fun _ _ _ _ _ => (pg_name (i := 1) scLinesNamed.nd rfl (Or.inl rfl))) (fun _ _ _ _ _ => (pts_one (PW.pt (pw_and (pt_cmpR (show OpR _ _ (rNeD K) from op_neD hr.units) (pv 1) (pe_glob (v := .ref aH) (by rfl) mH rfl) (nomark _)) (pw_and1 (pt_cmpR (show OpR _ _ (rNeD K) from op_neD hr.units) (pv 1) (pe_glob (v := .ref aF) (by rfl) mF rfl) (nomark _))))))) (fun _ _ _ _ _ => (pv 1))))), ?_⟩
    have toH : ∀ {H'}, Go T D0 H H' → Sub H H' := fun g => sub_go g tg
    have dH : ∀ H', Dp K H' (.ref aH) (eL headL) := fun H' => .tup (sH H') (.cons (.str _) (.cons (.int _) (.one (.int _))))
    have dF : ∀ H', Dp K H' (.ref aF) (eL footL) := fun H' => .tup (sF H') (.cons (.str _) (.cons (.int _) (.one (.int _))))
    have ded := deed_ed dok
    obtain ⟨a', lvs, tl, rfl, S, dl, hcase⟩ := deed_parts dd
    have lvl : lvs.length = d.lines.length := by rw [DpAll.len dl, List.length_map]
    have ln2 : d.lines.length ≤ 2 := lines_len d
    have ew : cutV (V.str d.kind :: (lvs ++ tl)) (some 1) (some 3) = lvs := by
      rcases hcase with ⟨_, h2', t', rfl, _⟩ | ⟨_, h2', rfl, _⟩ | ⟨_, _, h1', rfl, _⟩
      · obtain ⟨x, y, rfl⟩ := len2 h2'
        rfl
      · obtain ⟨x, y, rfl⟩ := len2 h2'
        rfl
      · obtain ⟨x, rfl⟩ : ∃ x, lvs = [x] := by
          match lvs, h1' with
          | [x], _ => exact ⟨x, rfl⟩
        rfl
    refine ⟨.ref a', rfl, 1, rfl, 3, rfl, a', _, rfl, S, fun z => ?_, fun _ l hl => ?_⟩
    · have z1 : HT.sIx (V.str d.kind :: (lvs ++ tl)).length 0 (some 1) = 1 := by
        rw [show HT.sIx _ 0 (some (1 : Int)) = min 1 _ from HT.sIx_nat _ 0 1, List.length_cons]
        omega
      have := z.1
      rw [z1] at this
      cases this
    rw [ew]
    have g5 : Go T D0 H (upd H l (.tup lvs)) := (Go.rfl' tg).new hl
    have el5 : (upd H l (.tup lvs)) l = some (.tup lvs) := upd_same
    generalize upd H l (.tup lvs) = H5 at g5 el5 ⊢
    refine ⟨l, rfl, ⟨_, .inl (.inl el5)⟩, fun D2 hD2 => ?_⟩
    refine lc_tup (K := K) (a := l) (xs := lvs) (fun j H7 => Go T D0 H5 H7 ∧ ∃ xs, H7 D2 = some (.lst xs) ∧ xs.length ≤ j ∧ DpAll K H xs (((d.lines.take j).filter isNm).map eL)) ?_ ?_ ?_ ?_
    · exact ⟨(Go.rfl' g5.1).new hD2, [], upd_same, Nat.zero_le _, .nil⟩
    · rintro j H7 hj ⟨g7, _⟩
      exact .inl (.inl (g7.at g5.1 (fun z => z) el5))
    · rintro j x H7 hx ⟨g7, xs, eD2, xl, dxs⟩
      obtain ⟨d'', hd'', hx'⟩ := DpAll.at' dl hx
      obtain ⟨ln, hln, rfl⟩ := at_map hd''
      have lm := List.mem_of_getElem? hln
      have hjl : j < d.lines.length := (List.getElem?_eq_some_iff.mp hln).1
      have g57 := g5.trans g7
      have dx7 := Dp.sub (toH g57) _ _ hx'
      have shx := eL_sh (ded ln lm).str
      have hsh : ∀ {l : Ln}, EdOk l → SeqAt.shaped (eL l) = true := fun o => eL_sh o.str
      have step : (d.lines.take (j + 1)).filter isNm = (d.lines.take j).filter isNm ++ (if isNm ln then [ln] else []) := by
        rw [List.take_add_one, hln, Option.toList_some, List.filter_append]
        congr 1
        by_cases h : isNm ln = true
        · rw [if_pos h, List.filter_cons_of_pos h, List.filter_nil]
        · rw [if_neg h, List.filter_cons_of_neg h, List.filter_nil]
      have e1 : PyData.eqv (eL ln) (eL headL) = decide (ln = headL) := eL_eqv _ _
      have e2 : PyData.eqv (eL ln) (eL footL) = decide (ln = footL) := eL_eqv _ _
      have shH : SeqAt.shaped (eL headL) = true := hsh (.inr (.inl rfl))
      have shF : SeqAt.shaped (eL footL) = true := hsh (.inr (.inr rfl))
      refine ⟨rfl, x, rfl, _, _, dx7, dH _, shx, shH, _, rfl, ?_⟩
      rw [e1]
      refine ite2 (fun e => ?_) (fun e => ?_)
      · have nH : ln ≠ headL := fun z => by rw [decide_eq_true z] at e; cases e
        refine ⟨x, rfl, _, _, dx7, dF _, shx, shF, _, rfl, ?_⟩
        rw [e2]
        refine ite2 (fun e' => ?_) (fun e' => ?_)
        · have nF : ln ≠ footL := fun z => by rw [decide_eq_true z] at e'; cases e'
          have on_ : isNm ln = true := by unfold isNm; rw [decide_eq_true nH, decide_eq_true nF]; rfl
          rw [if_pos on_] at step
          refine ⟨x, rfl, _, eD2, small_line (by omega), g7.put hD2 eD2, _, upd_same, by rw [List.length_append, List.length_singleton]; omega, ?_⟩
          rw [step, List.map_append]
          exact dxs.app (.one hx')
        · have eF : ln = footL := Decidable.byContradiction fun z => e' (by rw [decide_eq_false z]; rfl)
          have off_ : ¬ isNm ln = true := by unfold isNm; rw [eF]; decide
          rw [if_neg off_, List.append_nil] at step
          rw [step]
          exact ⟨g7, xs, eD2, by omega, dxs⟩
      · have eH : ln = headL := Decidable.byContradiction fun z => e (by rw [decide_eq_false z]; rfl)
        have off_ : ¬ isNm ln = true := by unfold isNm; rw [eH]; decide
        rw [if_neg off_, List.append_nil] at step
        rw [step]
        exact ⟨g7, xs, eD2, by omega, dxs⟩
    · rintro H7 ⟨g7, xs, eD2, xl, dxs⟩
      rw [lvl, List.take_length] at dxs
      exact q H7 D2 xs (g5.trans g7) (g5.free tg (fun z => z) hD2) eD2 dxs
end
end K1
set_option Elab.async false
set_option linter.all false
set_option maxRecDepth 100000
set_option maxHeartbeats 400000
/-! The law's def _law_puts. -/
namespace K1
open PySem PySem.Spec PyProof.Rows L2
def freshOf (n : Nm) (m : Nat) (d : Deed) : List Ln := (List.range d.texts.length).map fun k => lnAt n (m + k)
/-- the lines that each deed puts -/
def puts (n : Nm) : Nat → List Deed → List (List Ln)
  | _, [] => []
  | m, d :: r => freshOf n m d :: puts n (m + d.texts.length) r
theorem puts_snoc (n : Nm) (d : Deed) : ∀ (ds : List Deed) (m : Nat), puts n m (ds ++ [d]) = puts n m ds ++ [freshOf n (m + (ds.flatMap Deed.texts).length) d]
  | [], m => rfl
  | x :: r, m => by
    show freshOf n m x :: puts n (m + x.texts.length) (r ++ [d]) = _
    rw [puts_snoc n d r, List.flatMap_cons, List.length_append, Nat.add_assoc]
    rfl
theorem puts_step {n : Nm} {ds : List Deed} {i : Nat} {d : Deed} (h : ds[i]? = some d) : puts n 0 (ds.take (i + 1)) = puts n 0 (ds.take i) ++ [freshOf n (manyAt ds i) d] := by
  rw [List.take_add_one, h, Option.toList_some, puts_snoc, Nat.zero_add]
  rfl
theorem puts_len (n : Nm) : ∀ (ds : List Deed) (m : Nat), (puts n m ds).length = ds.length
  | [], _ => rfl
  | _ :: r, _ => congrArg (· + 1) (puts_len n r _)
theorem freshOf_len (n : Nm) (m : Nat) (d : Deed) : (freshOf n m d).length = d.texts.length := by unfold freshOf; rw [List.length_map, List.length_range]
def eLs (l : List Ln) : PyData := .list (l.map eL)
section
variable {P : Program} {w : World} {K : PySem.W.Frag} {mg : Str → Option Value} {base : Heap} {T : Tp}
def spPuts (K : PySem.W.Frag) (T : Tp) : Sp := fun vs H Q _ => ∃ (nv : V) (l : Addr) (dvs : List V) (n : Nm) (ds : List Deed), vs = [nv, .ref l] ∧ Dp K H nv (eN n) ∧ SqL K H l dvs ∧ DpAll K H dvs (ds.map eD) ∧ ds.length ≤ 1000 ∧ (ds.flatMap Deed.texts).length ≤ 1000 ∧ TG T H ∧
  ∀ H' F fs, Go T D0 H H' → H F = none → H' F = some (.lst fs) → DpAll K (cut (plus C0 F) H') fs ((puts n 0 ds).map eLs) → Q (.ref F) H'
theorem ok_lputs {f : Addr} {fd : FuncData} {k : Nat} (Fn : Fun K "_law_puts" "_law_puts" sLPuts f fd) (M : Mg K mg) : FnOk P w K mg base CX0 (k + 1) f fd ["_law_name", "_law_deeds"] (spPuts K T) := by
  refine Fn.ok scLPuts (fun vs H Q E h => ?_) (fun cdv A outer s H vs Q E hr h => ?_)
  · obtain ⟨nv, l, dvs, n, ds, rfl, _⟩ := h
    rfl
  · obtain ⟨nv, l, dvs, n, ds, rfl, dn, S, dds, dle, tle, tg, q⟩ := h
    refine ⟨_, (pss_cons (ps_set (i := 2) scLPuts.nd rfl (.inl rfl) (pe_lst pa_nil))
      (pss_cons (ps_set (i := 3) scLPuts.nd rfl (.inr rfl) pe_int)
      (pss_cons (ps_for PassesOwn.never rfl (pi_list (pv 1)) (pg_name (i := 4) scLPuts.nd rfl (.inl rfl))
      (pss_cons (ps_set (i := 6) scLPuts.nd rfl (.inl rfl) (pe_ifExp (pt_cmpR op_eq (pe_ix ix_tup (pv 4) pe_int (fun _ _ => rfl)) pe_str (nomark _)) (pe_lc (own := [("_law_k", 5)]) (g := gName 5) (tt := tYes) rfl scLPuts.nd (pi_range1 (by rfl) M.range_ (pa_cons (pe_callB call_len_seq (by rfl) M.len_ PySem.boot_len (pa_cons (pe_ix ix_tup (pv 4) pe_int (fun _ _ => rfl)) pa_nil)) pa_nil)) (blkOk_by (N := ["_law_name", "_law_deeds", "_law_found", "_law_many", "_law_deed_here", "_law_k", "_law_fresh"]) (sc := defScope sLPuts) (by decide +kernel)) (fun _ _ _ _ _ => (pg_name (i := 5) scLPuts.nd rfl (Or.inl rfl))) (fun _ _ _ _ _ => pts_nil) (fun _ _ _ _ _ => (pe_op (show OpR _ _ (rCatA K) from op_catA) (pv 0) (pe_tup (pa_cons (pe_op op_add (pe_op op_add (pv 3) (pv 5)) pe_int) pa_nil))))) (pe_lst pa_nil)))
      (pss_cons (ps_set (i := 3) scLPuts.nd rfl (.inr rfl) (pe_op op_add (pv 3) (pe_callB call_len_seq (by rfl) M.len_ PySem.boot_len (pa_cons (pv 6) pa_nil))))
      (pss_one (ps_expr (pe_bm PySem.F.plainAttrs_list PySem.F.slot_list_append PySem.F.type_list_append mt_append (pv 2) (pa_cons (pv 6) pa_nil)))))))
      (pss_one (ps_ret (pv 2)))))), ?_⟩
    have toH : ∀ {H'}, Go T D0 H H' → Sub H H' := fun g => sub_go g tg
    obtain ⟨an, _, rfl, Sn, d3⟩ := Dp.tupI dn
    obtain ⟨x, y, rfl, d1, d2⟩ := DpAll.i2 d3
    cases Dp.strI d1
    cases Dp.intI d2
    have dlen : dvs.length = ds.length := by rw [DpAll.len dds, List.length_map]
    refine ⟨Nat.zero_le _, fun F hF => ?_⟩
    have g0 : Go T D0 H (upd H F (.lst [])) := (Go.rfl' tg).new hF
    have e0 : (upd H F (.lst [])) F = some (.lst []) := upd_same
    generalize upd H F (.lst []) = H0 at g0 e0 ⊢
    refine ⟨.ref l, rfl, l, rfl, ⟨dvs, (toH g0).seqL S⟩, ?_⟩
    refine for_list (K := K) (a := l) (xs := dvs) (fun i σ H1 => ∃ (fs : List V) (y4 y6 : Option V), σ = [some (.ref an), some (.ref l), some (.ref F), some (.int (manyAt ds i : Nat)), y4, none, y6] ∧ Go T D0 H H1 ∧ H1 F = some (.lst fs) ∧
      DpAll K (cut (plus C0 F) H1) fs ((puts n 0 (ds.take i)).map eLs)) ?_ ?_ ?_ ?_
    · exact ⟨[], _, _, rfl, g0, e0, .nil⟩
    · rintro i σ H1 hi ⟨_, _, _, rfl, g, _⟩
      exact (toH g).seqL S
    · rintro i v σ H1 hv ⟨fs, y4, y6, rfl, g, eF, df⟩
      obtain ⟨d', hd', hv'⟩ := DpAll.at' dds hv
      obtain ⟨d, hd, rfl⟩ := at_map hd'
      obtain ⟨a', lvs, tl, rfl, Sd, dl, hcase⟩ := deed_parts hv'
      have S1 := (toH g).seqT Sd
      have step := puts_step (n := n) hd
      have ms := manyAt_succ hd
      have mle : manyAt ds (i + 1) ≤ 1000 := Nat.le_trans (flat_take _ _) tle
      have flen : fs.length ≤ 1000 := by
        rw [DpAll.len df, List.length_map, puts_len, List.length_take]
        omega
      have FF : H F = none := hF
      refine ⟨.ref a', rfl, a', _, 0, .str d.kind, rfl, rfl, S1, atI_nat (j := 0) rfl, rfl, _, rfl, ?_⟩
      apply twice2 (A := fun D H6 => ∃ acc, Go T D0 H1 H6 ∧ F ≠ D ∧ H6 F = some (.lst fs) ∧ H6 D = some (.lst acc) ∧ DpAll K (cut (plus C0 F) H6) acc ((freshOf n (manyAt ds i) d).map eL))
      case use =>
        intro rest
        refine ite2 (fun e => ?u1) (fun e => ?u2)
        case u2 =>
          have ek : ¬ d.kind = "put" := fun z => e (decide_eq_true (by rw [z]))
          have tx : d.texts = [] := by
            rcases hcase with ⟨n1, _⟩ | ⟨_, _, _, h⟩ | ⟨_, _, _, _, h⟩
            · exact absurd n1 ek
            · exact h
            · exact h
          refine ⟨Nat.zero_le _, fun D hD => ?_⟩
          refine rest D _ ⟨[], (Go.rfl' g.1).new hD, ne_of_none eF hD, (upd_ne (ne_of_none eF hD)).trans eF, upd_same, ?_⟩
          unfold freshOf
          rw [tx]
          exact .nil
        case u1 =>
          have ek : d.kind = "put" := V.str.inj (of_decide_eq_true e)
          rcases hcase with ⟨_, h2, t, rfl, st⟩ | ⟨n1, _⟩ | ⟨n1, _⟩
          · obtain ⟨x, y, rfl⟩ := len2 h2
            have st1 := (toH g).seqT st
            refine ⟨.ref a', rfl, a', _, 3, .ref t, rfl, rfl, S1, atI_nat (j := 3) rfl, t, _, rfl, .inr st1, ?_⟩
            have un : (((d.texts.map V.str).length : Nat) : Int).toNat = d.texts.length := by rw [List.length_map]; rfl
            have SnG : ∀ {H'}, Go T D0 H1 H' → SqT K H' an [V.str n.1, .int n.2] := fun g' => (toH (g.trans g')).seqT Sn
            refine ⟨_, rfl, by omega, by rw [List.length_map]; omega, fun D4 hD4 => ?_⟩
            have nFD : F ≠ D4 := ne_of_none eF hD4
            generalize manyAt ds i = many at ms mle rest ⊢
            refine lc_range (lo := 0) (n := (((d.texts.map V.str).length : Nat) : Int).toNat) (fun j H16 => Go T D0 H1 H16 ∧ ∃ acc, H16 D4 = some (.lst acc) ∧ acc.length = j ∧ DpAll K (cut (plus (plus C0 F) D4) H16) acc (((List.range j).map fun x => lnAt n (many + x)).map eL)) ?_ ?_ ?_
            · exact ⟨(Go.rfl' g.1).new hD4, [], upd_same, rfl, .nil⟩
            · rintro j H16 hj ⟨g16, acc, eD4, hacc, hda⟩
              rw [un] at hj
              refine ⟨rfl, .ref an, rfl, .int (many : Nat), rfl, .int (0 + (j : Nat)), rfl, (many : Nat), 0 + (j : Nat), rfl, rfl, ((many : Nat) : Int) + (0 + (j : Nat)), 1, rfl, rfl, small_le (by show 1 ≤ 10000; decide), fun t1 ht1 => ?_⟩
              have g17 := g16.new (o := .tup [V.int (((many : Nat) : Int) + (0 + (j : Nat)) + 1)]) ht1
              have eD17 := (upd_ne (o := .tup [V.int (((many : Nat) : Int) + (0 + (j : Nat)) + 1)]) (ne_of_none eD4 ht1)).trans eD4
              have e17 : (upd H16 t1 (.tup [V.int (((many : Nat) : Int) + (0 + (j : Nat)) + 1)])) t1 = some (.tup [V.int (((many + j : Nat) : Int) + 1)]) := by rw [upd_same, show ((many : Nat) : Int) + (0 + (j : Nat)) + 1 = ((many + j : Nat) : Int) + 1 by omega]
              have hda17 : DpAll K (cut (plus (plus C0 F) D4) (upd H16 t1 (.tup [V.int (((many : Nat) : Int) + (0 + (j : Nat)) + 1)]))) acc _ := Dp.subs (Sub.new ht1).cuts _ _ hda
              generalize upd H16 t1 (.tup [V.int (((many : Nat) : Int) + (0 + (j : Nat)) + 1)]) = H17 at g17 eD17 e17 hda17 ⊢
              refine ⟨an, t1, _, _, rfl, rfl, SnG g17, .inl (.inl e17), small_le (by show 3 ≤ 10000; decide), (fun z => by cases z), (fun _ z => by cases z), fun _ _ t2 ht2 => ?_⟩
              have n2 : t2 ≠ D4 := fun z => ne_of_none eD17 ht2 z.symm
              have eF17 := g17.at g.1 (fun z => z) eF
              have nF2 : F ≠ t2 := ne_of_none eF17 ht2
              have eD18 := (upd_ne (o := .tup ([V.str n.1, .int n.2] ++ [V.int (((many + j : Nat) : Int) + 1)])) n2.symm).trans eD17
              refine ⟨acc, eD18, small_line (by omega), (g17.new ht2).put hD4 eD18, acc ++ [.ref t2], upd_same, by rw [List.length_append, hacc]; rfl, ?_⟩
              rw [cut_out plus_D, List.range_succ, List.map_append, List.map_append]
              refine DpAll.app (Dp.subs (Sub.new ht2).cuts _ _ hda17) (.one ?_)
              show Dp K (cut (plus (plus C0 F) D4) (upd H17 t2 (.tup [V.str n.1, .int n.2, V.int (((many + j : Nat) : Int) + 1)]))) (.ref t2) (.tuple [.str n.1, .int n.2, .int (((many + j : Nat) : Int) + 1)])
              exact .tup (.inl (.inl ((cut_at (plus_no (by simp [plus, nF2.symm]) n2)).trans upd_same))) (.cons (.str _) (.cons (.int _) (.cons (.int _) .nil)))
            · rintro H16 ⟨g16, acc, eD4, hacc, hda⟩
              rw [un] at hacc hda
              refine rest D4 H16 ⟨acc, g16, nFD, g16.at g.1 (fun z => z) eF, eD4, ?_⟩
              exact Dp.subs (Sub.less (H := H16) (plus_le (C := plus C0 F) (D := D4))) _ _ hda
          · rw [ek] at n1
            exact absurd n1 (by decide +kernel)
          · exact absurd ek n1
      case h =>
        rintro D H6 ⟨acc, g6, nFD, eF6, eD6, dacc⟩
        have alen : acc.length = d.texts.length := by rw [DpAll.len dacc, List.length_map, freshOf_len]
        refine ⟨_, rfl, .ref D, rfl, D, _, rfl, .inl (.inl (.inl eD6)), _, _, rfl, rfl, ?_⟩
        refine ⟨.ref F, rfl, .inl ⟨rfl, _, .inl (.inl eF6)⟩, .ref D, rfl, F, _, _, rfl, rfl, eF6, small_line (by omega), ?_⟩
        refine ⟨fs ++ [.ref D], some (.ref a'), some (.ref D), ?_, (g.trans g6).put hF eF6, upd_same, ?_⟩
        · rw [ms, alen]
          rfl
        · rw [step, List.map_append, cut_out plus_D]
          refine DpAll.app (Dp.subs (sub_go g6 g.1).cuts _ _ df) (.one ?_)
          exact .lst (.inl (.inl ((cut_at (by simp [plus, nFD.symm])).trans eD6))) dacc
    · rintro σ H1 ⟨fs, y4, y6, rfl, g, eF, df⟩
      rw [dlen, List.take_length] at df
      exact ⟨.ref F, rfl, q H1 F fs g hF eF df⟩
end
end K1
set_option Elab.async false
set_option linter.all false
set_option maxRecDepth 100000
set_option maxHeartbeats 400000
/-! The law's def _law_bound. -/
namespace K1
open PySem PySem.Spec PyProof.Rows L2
/-- neighbours bound, from a on -/
def pairsUp : Ln → List Ln → List (Ln × Ln)
  | _, [] => []
  | a, x :: r => (a, x) :: pairsUp x r
def lastL : Ln → List Ln → Ln
  | a, [] => a
  | _, x :: r => lastL x r
theorem lastL_snoc (x : Ln) : ∀ (xs : List Ln) (a : Ln), lastL a (xs ++ [x]) = x
  | [], _ => rfl
  | y :: r, _ => lastL_snoc x r y
theorem pairsUp_snoc (x : Ln) : ∀ (xs : List Ln) (a : Ln), pairsUp a (xs ++ [x]) = pairsUp a xs ++ [(lastL a xs, x)]
  | [], _ => rfl
  | y :: r, a => congrArg (List.cons (a, y)) (pairsUp_snoc x r y)
theorem pairsUp_len : ∀ (xs : List Ln) (a : Ln), (pairsUp a xs).length = xs.length
  | [], _ => rfl
  | y :: r, _ => congrArg (· + 1) (pairsUp_len r y)
def ePr (p : Ln × Ln) : PyData := .tuple [eL p.1, eL p.2]
def boundOf : Deed → List Ln → List (Ln × Ln)
  | .put a b _, fresh => if fresh = [] then [] else pairsUp a (fresh ++ [b])
  | .order a b, _ => [(a, b)]
  | .one _ _, _ => []
section
variable {P : Program} {w : World} {K : PySem.W.Frag} {mg : Str → Option Value} {base : Heap} {T : Tp}
def spBound (K : PySem.W.Frag) (T : Tp) : Sp := fun vs H Q _ => ∃ (v : V) (F : Addr) (d : Deed) (fresh : List Ln), vs = [v, .ref F] ∧ Dp K H v (eD d) ∧ (d.kind = "put" ∨ d.kind = "order") ∧ Dp K H (.ref F) (eLs fresh) ∧ fresh.length ≤ 1000 ∧ (∀ l ∈ fresh, PyData.strOk l.1 = true) ∧ TG T H ∧
  ∀ H' R rs, Go T D0 H H' → H R = none → H' R = some (.lst rs) → DpAll K (cut (plus C0 R) H') rs ((boundOf d fresh).map ePr) → Q (.ref R) H'
theorem ok_lbound {f : Addr} {fd : FuncData} {k : Nat} (Fn : Fun K "_law_bound" "_law_bound" sLBound f fd) (M : Mg K mg) : FnOk P w K mg base CX0 (k + 1) f fd ["_law_deed_here", "_law_fresh"] (spBound K T) := by
  refine Fn.ok scLBound (fun vs H Q E h => ?_) (fun cdv A outer s H vs Q E hr h => ?_)
  · obtain ⟨v, F, d, fresh, rfl, _⟩ := h
    rfl
  · obtain ⟨v, F, d, fresh, rfl, dd, kd, df, fl, fo, tg, q⟩ := h
    refine ⟨_, (pss_cons (ps_if (pt_cmpR op_eq (pe_ix ix_tup (pv 0) pe_int (fun _ _ => rfl)) pe_str (nomark _))
      (pss_one (ps_ret (pe_lst (pa_cons (pe_tup (pa_cons (pe_ix ix_tup (pv 0) pe_int (fun _ _ => rfl)) (pa_cons (pe_ix ix_tup (pv 0) pe_int (fun _ _ => rfl)) pa_nil))) pa_nil))))
      pss_nil)
      (pss_cons (ps_set (i := 2) scLBound.nd rfl (.inl rfl) (pe_lst pa_nil))
      (pss_cons (ps_set (i := 3) scLBound.nd rfl (.inl rfl) (pe_ix ix_tup (pv 0) pe_int (fun _ _ => rfl)))
      (pss_cons (ps_for PassesOwn.never rfl (pi_list (pe_op op_catS (pv 1) (pe_op op_rep (pe_lst (pa_cons (pe_ix ix_tup (pv 0) pe_int (fun _ _ => rfl)) pa_nil)) (pe_callTy call_int1 (by rfl) M.int_ boot_int (pa_cons (pe_cmpR (op_neD hr.units) (pv 1) (pe_lst pa_nil) (nomark _)) pa_nil))))) (pg_name (i := 4) scLBound.nd rfl (.inl rfl))
      (pss_cons (ps_expr (pe_bm PySem.F.plainAttrs_list PySem.F.slot_list_append PySem.F.type_list_append mt_append (pv 2) (pa_cons (pe_tup (pa_cons (pv 3) (pa_cons (pv 4) pa_nil))) pa_nil)))
      (pss_one (ps_set (i := 3) scLBound.nd rfl (.inl rfl) (pv 4)))))
      (pss_one (ps_ret (pv 2))))))), ?_⟩
    have toH : ∀ {H'}, Go T D0 H H' → Sub H H' := fun g => sub_go g tg
    obtain ⟨a', lvs, tl, rfl, Sd, dl, hcase⟩ := deed_parts dd
    refine ⟨.ref a', rfl, a', _, 0, .str d.kind, rfl, rfl, Sd, atI_nat (j := 0) rfl, rfl, _, rfl, ite2 (fun e => ?_) (fun e => ?_)⟩
    · have ek : d.kind = "order" := V.str.inj (of_decide_eq_true e)
      cases d with
      | put a b ts => exact absurd (show ("put" : Str) = "order" from ek) (by decide +kernel)
      | one c a =>
        cases c
        · exact absurd (show ("cut" : Str) = "order" from ek) (by decide +kernel)
        · exact absurd (show ("keep" : Str) = "order" from ek) (by decide +kernel)
      | order a b =>
        obtain ⟨x, y, rfl, d1, d2⟩ := DpAll.i2 dl
        refine ⟨.ref a', rfl, a', _, 1, x, rfl, rfl, Sd, atI_nat (j := 1) rfl, .ref a', rfl, a', _, 2, y, rfl, rfl, Sd, atI_nat (j := 2) rfl, small_le (by show 2 ≤ 10000; decide), fun t ht => ?_⟩
        refine ⟨small_le (by show 1 ≤ 10000; decide), fun R hR => ?_⟩
        have g1 : Go T D0 H (upd H t (.tup [x, y])) := (Go.rfl' tg).new ht
        have s1 : (upd H t (.tup [x, y])) t = some (.tup [x, y]) := upd_same
        generalize upd H t (.tup [x, y]) = H1 at g1 s1 hR ⊢
        have n1 : t ≠ R := ne_of_none s1 hR
        refine q _ R [.ref t] (g1.new hR) (g1.free tg (fun z => z) hR) upd_same ?_
        rw [cut_out plus_D]
        have ds := Dp.subs (toH g1) _ _ (DpAll.cons d1 (.one d2))
        refine .one (.tup (.inl (.inl ((cut_at (plus_no rfl n1)).trans s1))) ?_)
        have ds2 := Dp.subs (toH (g1.new (o := .lst []) hR)) _ _ (DpAll.cons d1 (.one d2))
        have ds3 := Dp.cutDs (D := R) upd_same [eL a, eL b] _ rfl ds2
        rw [cut_out plus_D] at ds3
        exact ds3
    · have ek : d.kind = "put" := by
        rcases kd with h | h
        · exact h
        · exact absurd (decide_eq_true (by rw [h])) e
      cases d with
      | order a b => exact absurd (show ("order" : Str) = "put" from ek) (by decide +kernel)
      | one c a =>
        cases c
        · exact absurd (show ("cut" : Str) = "put" from ek) (by decide +kernel)
        · exact absurd (show ("keep" : Str) = "put" from ek) (by decide +kernel)
      | put a b ts =>
        clear kd e
        rcases hcase with ⟨_, h2, t0, rfl, st⟩ | ⟨n1, _⟩ | ⟨n1, _⟩
        case inr.inl => exact absurd (show ("put" : Str) = "order" from n1) (by decide +kernel)
        case inr.inr => exact absurd ek n1
        obtain ⟨x, y, rfl, d1, d2⟩ := DpAll.i2 dl
        obtain ⟨_, fs, hF, SF, dfs⟩ := Dp.lstI df
        cases hF
        refine ⟨Nat.zero_le _, fun R hR => ?_⟩
        have g1 : Go T D0 H (upd H R (.lst [])) := (Go.rfl' tg).new hR
        have e1 : (upd H R (.lst [])) R = some (.lst []) := upd_same
        generalize upd H R (.lst []) = H1 at g1 e1 ⊢
        refine ⟨.ref a', rfl, a', _, 1, x, rfl, rfl, (toH g1).seqT Sd, atI_nat (j := 1) rfl, ?_⟩
        refine ⟨.ref F, rfl, .ref a', rfl, a', _, 2, y, rfl, rfl, (toH g1).seqT Sd, atI_nat (j := 2) rfl, small_le (by show 1 ≤ 10000; decide), fun B hB => ?_⟩
        have g2 := g1.new (o := .lst [y]) hB
        have e2 := (upd_ne (o := .lst [y]) (ne_of_none e1 hB)).trans e1
        have b2 : (upd H1 B (.lst [y])) B = some (.lst [y]) := upd_same
        generalize upd H1 B (.lst [y]) = H2 at g2 e2 b2 ⊢
        refine ⟨.ref F, rfl, Nat.zero_le _, fun Z hZ => ?_⟩
        have g3 := g2.new (o := .lst []) hZ
        have e3 := (upd_ne (o := .lst []) (ne_of_none e2 hZ)).trans e2
        have b3 := (upd_ne (o := .lst []) (ne_of_none b2 hZ)).trans b2
        have z3 : (upd H2 Z (.lst [])) Z = some (.lst []) := upd_same
        generalize upd H2 Z (.lst []) = H3 at g3 e3 b3 z3 ⊢
        have fsh : SeqAt.shaped (.list (fresh.map eL)) = true := by
          refine shaped_of ?_ ?_
          · simp only [PyData.canLay0]
            exact layAll fun n m => eL_lay (fo n m)
          · have := depAll (f := eL) (n := 1) (l := fresh) fun n _ => by rw [eL_dep]; exact Nat.le_refl _
            simp only [PyData.depth]
            omega
        have eqv : PyData.eqv (.list (fresh.map eL)) (.list []) = fresh.isEmpty := by
          cases fresh with
          | nil => rfl
          | cons x r => simp [PyData.eqv, PyData.eqvAll]
        have fsl : fs.length = fresh.length := by rw [DpAll.len dfs, List.length_map]
        refine ⟨.list (fresh.map eL), .list [], Dp.sub (toH g3) _ _ df, .lst (.inl (.inl z3)) .nil, fsh, rfl, ?_⟩
        rw [eqv]
        have kz : ∀ c : Bool, (if c = true then (1 : Int) else 0).toNat = if c = true then 1 else 0 := fun c => by cases c <;> rfl
        have more : ∃ ys yl, ys.length = yl.length ∧ (List.replicate (if (!fresh.isEmpty) = true then 1 else 0) [y]).flatten = ys ∧ DpAll K H ys (yl.map eL) ∧ (if fresh = [] then [] else [b]) = yl ∧ yl.length ≤ 1 := by
          cases fresh with
          | nil => exact ⟨[], [], rfl, rfl, .nil, rfl, Nat.zero_le _⟩
          | cons l r => exact ⟨[y], [b], rfl, rfl, .one d2, rfl, Nat.le_refl _⟩
        obtain ⟨ys, yl, yn, ye, dy, ey, yo⟩ := more
        refine .inr ⟨_, rfl, B, _, [y], rfl, rfl, b3, ?_, ?_, ?_, fun W hW => ?_⟩
        · cases fresh.isEmpty <;> decide
        · cases fresh.isEmpty <;> decide
        · rw [kz]
          refine small_le ?_
          show 1 * _ ≤ 10000
          cases fresh.isEmpty <;> decide
        rw [kz, ye]
        have g4 := g3.new (o := .lst ys) hW
        have e4 := (upd_ne (o := .lst ys) (ne_of_none e3 hW)).trans e3
        have w4 : (upd H3 W (.lst ys)) W = some (.lst ys) := upd_same
        generalize upd H3 W (.lst ys) = H4 at g4 e4 w4 ⊢
        refine ⟨F, W, fs, ys, rfl, rfl, (toH g4).seqL SF, .inl (.inl w4), small_le (by omega), fun L hL => ?_⟩
        have g5 := g4.new (o := .lst (fs ++ ys)) hL
        have e5 := (upd_ne (o := .lst (fs ++ ys)) (ne_of_none e4 hL)).trans e4
        have l5 : (upd H4 L (.lst (fs ++ ys))) L = some (.lst (fs ++ ys)) := upd_same
        have nRL : R ≠ L := ne_of_none e4 hL
        generalize upd H4 L (.lst (fs ++ ys)) = H5 at g5 e5 l5 ⊢
        have dall : DpAll K H (fs ++ ys) ((fresh ++ yl).map eL) := by
          rw [List.map_append]
          exact DpAll.app dfs dy
        have fin : (boundOf (.put a b ts) fresh) = pairsUp a (fresh ++ yl) := by
          rw [← ey]
          show (if fresh = [] then [] else pairsUp a (fresh ++ [b])) = _
          by_cases h : fresh = []
          · rw [if_pos h, if_pos h, h]
            rfl
          · rw [if_neg h, if_neg h]
        have alen : (fs ++ ys).length = (fresh ++ yl).length := by rw [List.length_append, List.length_append, fsl, yn]
        have few : (fresh ++ yl).length ≤ 1001 := by rw [List.length_append]; omega
        refine ⟨L, rfl, ⟨_, .inl (.inl l5)⟩, ?_⟩
        refine for_list (K := K) (a := L) (xs := fs ++ ys) (fun i σ H6 => ∃ (rs : List V) (u : V) (y4 : Option V), σ = [some (.ref a'), some (.ref F), some (.ref R), some u, y4] ∧ Go T D0 H H6 ∧ H6 R = some (.lst rs) ∧ H6 L = some (.lst (fs ++ ys)) ∧ Dp K H u (eL (lastL a ((fresh ++ yl).take i))) ∧
          DpAll K (cut (plus C0 R) H6) rs ((pairsUp a ((fresh ++ yl).take i)).map ePr)) ?_ ?_ ?_ ?_
        · exact ⟨[], x, _, rfl, g5, e5, l5, d1, .nil⟩
        · rintro i σ H6 hi ⟨_, _, _, rfl, g6, _, el, _⟩
          exact .inl (.inl el)
        · rintro i v σ H6 hv ⟨rs, u, y4, rfl, g6, eR, el, du, dr⟩
          obtain ⟨d', hd', hv'⟩ := DpAll.at' dall hv
          obtain ⟨l, hl, rfl⟩ := at_map hd'
          have step : (fresh ++ yl).take (i + 1) = (fresh ++ yl).take i ++ [l] := by rw [List.take_add_one, hl, Option.toList_some]
          have il : i < (fresh ++ yl).length := (List.getElem?_eq_some_iff.mp hl).1
          have rlen : rs.length = i := by
            rw [DpAll.len dr, List.length_map, pairsUp_len, List.length_take]
            omega
          refine ⟨.ref R, rfl, .inl ⟨rfl, _, .inl (.inl eR)⟩, u, rfl, v, rfl, small_le (by show 2 ≤ 10000; decide), fun t ht => ?_⟩
          have g7 := g6.new (o := .tup [u, v]) ht
          have e7 := (upd_ne (o := .tup [u, v]) (ne_of_none eR ht)).trans eR
          have el7 := (upd_ne (o := .tup [u, v]) (ne_of_none el ht)).trans el
          have t7 : (upd H6 t (.tup [u, v])) t = some (.tup [u, v]) := upd_same
          have q7 := Sub.new (o := .tup [u, v]) ht
          have nRt : R ≠ t := ne_of_none eR ht
          generalize upd H6 t (.tup [u, v]) = H7 at g7 e7 el7 t7 q7 ⊢
          refine ⟨R, _, _, rfl, rfl, e7, small_line (by omega), ?_⟩
          refine ⟨v, rfl, rs ++ [.ref t], v, _, rfl, g7.put hR e7, upd_same, (upd_ne nRL.symm).trans el7, ?_, ?_⟩
          · rw [step, lastL_snoc]
            exact hv'
          · rw [step, pairsUp_snoc, List.map_append, cut_out plus_D]
            refine DpAll.app (Dp.subs q7.cuts _ _ dr) (.one (.tup (.inl (.inl ((cut_at (plus_no rfl nRt.symm)).trans t7))) ?_))
            have := Dp.subs (toH g7) _ _ (DpAll.cons du (.one hv'))
            exact Dp.cutDs e7 [_, _] _ rfl this
        · rintro σ H6 ⟨rs, u, y4, rfl, g6, eR, el, du, dr⟩
          rw [alen, List.take_length, ← fin] at dr
          exact ⟨.ref R, rfl, q H6 R rs g6 hR eR dr⟩
end
end K1
set_option Elab.async false
set_option linter.all false
set_option maxRecDepth 100000
set_option maxHeartbeats 1600000
/-! Sets of things that are known by a key: told of any kind of key. -/
namespace SM
open PySem PySem.Spec PyProof.Rows L2
/-- things that may stand in a set: hashed and told apart by a key, without a word of the program -/
structure EltK (P : Program) (w : World) (κ : Type) [DecidableEq κ] where
  is : Heap → κ → Addr → Prop
  hash : κ → Int
  one : ∀ {h : Heap} {x y : κ} {a : Addr}, is h x a → is h y a → x = y
  keep : ∀ {h h' : Heap} {k : κ} {a : Addr}, is h k a → (∀ o, h.get? a = some o → h'.get? a = some o) → is h' k a
  notSet : ∀ {h : Heap} {k : κ} {a : Addr} {o : Obj} {es : Array (Int × Value)} {ep : Nat} {t : SetTable}, is h k a → h.get? a = some o → o.data = .set es ep t → False
  hashes : ∀ {A : Around} {E : Value → Shared → Prop} {s : Shared} {k : κ} {a : Addr} {Q : Int → Shared → Prop}, A.units < cLine → is s.heap k a → (∀ n, Q (hash k) { s with toks := s.toks + n }) → wpAny (model P w) A (pyHash (.ref a)) Q E s
  eq : ∀ {A : Around} {E : Value → Shared → Prop} {s : Shared} {x y : κ} {a b : Addr} {Q : Bool → Shared → Prop}, A.units < cLine → is s.heap x a → is s.heap y b → Q (decide (x = y)) s → wpAny (model P w) A (eqBool (.ref a) (.ref b)) Q E s
  quiet : ∀ {A : Around} {E : Value → Shared → Prop} {s : Shared} {k : κ} {a : Addr} {Q : Bool → Shared → Prop}, is s.heap k a → Q true s → wpAny (model P w) A (eqIsQuiet 8 (.ref a)) Q E s
  noClass : ∀ {A : Around} {E : Value → Shared → Prop} {s : Shared} {k : κ} {a : Addr} {Q : Bool → Shared → Prop}, is s.heap k a → Q false s → wpAny (model P w) A (ofAClassStatement 8 (.ref a)) Q E s
  byValue : ∀ {A : Around} {E : Value → Shared → Prop} {s : Shared} {k : κ} {a : Addr} {Q : Bool → Shared → Prop}, is s.heap k a → (∀ b, Q b s) → wpAny (model P w) A (hashByValue 8 (.ref a)) Q E s

/-! ### the probes -/
abbrev pr (m : Nat) (h : Int) (c : Nat) : SetTable.Probe := nth m (runAt m (SetTable.bits h % (m + 1)) (SetTable.bits h)) c
theorem pr_add (m : Nat) (h : Int) (c q : Nat) : nth m (pr m h c) q = pr m h (c + q) := (nth_add m c _ q).symm
theorem pr_clean (m : Nat) (h : Int) : ∀ c, (pr m h c).dummy = none
  | 0 => rfl
  | c + 1 => by
    have ih := pr_clean m h c
    show (nth m _ (c + 1)).dummy = none
    rw [nth_succ]
    unfold adv
    split <;> exact ih

section
variable {P : Program} {w : World} {κ : Type} [DecidableEq κ] {El : EltK P w κ} {A : Around} {E : Value → Shared → Prop} {s : Shared} {a : Addr} {L : List (Addr × κ)} {es : Array (Int × Value)} {ep : Nat} {t : SetTable}
def rows (El : EltK P w κ) (L : List (Addr × κ)) : List (Int × Value) := L.map fun p => (El.hash p.2, Value.ref p.1)
/-- how the set at a is laid: the things L in the table's order -/
structure Lay (El : EltK P w κ) (h : Heap) (a : Addr) (L : List (Addr × κ)) (es : Array (Int × Value)) (ep : Nat) (t : SetTable) : Prop where
  ob : ∃ o, h.get? a = some o ∧ o.ExactSet ∧ o.data = .set es ep t
  rws : es.toList = rows El L
  tab : TabOk t (L.map fun p => El.hash p.2)
  led : w.params.followText "set-order" = true ∨ t.led = true
  room : L.length * 5 < t.mask * 3
  few : L.length < 64
  nd : (L.map (·.2)).Nodup
theorem rows_len {l : List (Addr × κ)} : (rows El l).length = l.length := by
  unfold rows
  rw [List.length_map]
theorem size_of {l : List (Addr × κ)} {ys : Array (Int × Value)} (h : ys.toList = rows El l) : ys.size = l.length := by
  rw [← Array.length_toList, h, rows_len]
theorem row_at {l : List (Addr × κ)} {ys : Array (Int × Value)} (h : ys.toList = rows El l) {i : Nat} {p : Addr × κ} (e : l[i]? = some p) : ys[i]? = some (El.hash p.2, Value.ref p.1) := by
  rw [← Array.getElem?_toList, h]
  unfold rows
  rw [List.getElem?_map, e]
  rfl
theorem fits_of {l : List (Addr × κ)} (T : TabOk t (l.map fun p => El.hash p.2)) (h : es.size = l.length) (r : l.length ≤ t.mask) : t.fits es.size = true := by
  have z := T.sz
  rw [List.length_map] at z
  unfold SetTable.fits SetTable.fill
  rw [T.dm, Bool.and_eq_true, beq_iff_eq, decide_eq_true_eq]
  refine ⟨by omega, ?_⟩
  show t.place.size + 0 ≤ t.mask
  omega
theorem Lay.fits (R : Lay El s.heap a L es ep t) : t.fits es.size = true := fits_of R.tab (size_of R.rws) (by have := R.room; omega)
theorem Lay.even (R : Lay El s.heap a L es ep t) : ¬ t.gaveWay = true := by
  unfold SetTable.gaveWay
  rw [mask_odd R.tab.mok]
  decide
/-- among such things a search shows nothing -/
theorem unseen {k : κ} {b : Addr} {ys : List Value} {Q : Bool → Shared → Prop} (hb : El.is s.heap k b) (hy : ∀ y ∈ ys, ∃ k' c, y = Value.ref c ∧ El.is s.heap k' c) (q : Q false s) : wpAny (model P w) A (searchCouldBeSeen (.ref b) ys) Q E s := by
  unfold searchCouldBeSeen
  refine wpAny_bind (wpAny_forIn_list _ (fun left r s' => (r.1 = none ∧ s' = s) ∧ ∀ y ∈ left, ∃ k' c, y = Value.ref c ∧ El.is s.heap k' c) _ ?_ ?_ _ _ ⟨⟨rfl, rfl⟩, hy⟩)
  · rintro y left r s' ⟨⟨e, rfl⟩, all⟩
    obtain ⟨k', c, rfl, hc⟩ := all _ List.mem_cons_self
    have nxt := fun z hz => all z (List.mem_cons_of_mem _ hz)
    dsimp only
    by_cases same : (b == c || (carriedByValue (.ref b) && carriedByValue (.ref c))) = true
    · exact wp_if_pos same (wpAny_pure ⟨⟨rfl, rfl⟩, nxt⟩)
    · refine wp_if_neg same (wpAny_bind (El.quiet hb ?_))
      simp only [Bool.not_true, Bool.false_eq_true, if_false]
      refine wpAny_bind (El.quiet hc ?_)
      simp only [Bool.not_true, Bool.false_eq_true, if_false]
      refine wpAny_bind (El.noClass hb ?_)
      simp only [Bool.false_eq_true, if_false]
      refine wpAny_bind (El.noClass hc ?_)
      simp only [Bool.false_eq_true, if_false]
      exact wpAny_pure ⟨⟨rfl, rfl⟩, nxt⟩
  · rintro ⟨r, r'⟩ s' ⟨⟨e, rfl⟩, _⟩
    have e' : r = none := e
    subst e'
    exact wpAny_pure q
theorem memory_same (t : SetTable) : t.sameMemory t.moves t.mask = some true := by
  unfold SetTable.sameMemory
  rw [if_pos (beq_self_eq_true _)]
/-- the search that adding asks for: there, or the first free place of the way -/
theorem search (R : Lay El s.heap a L es ep t) (el : ∀ p ∈ L, El.is s.heap p.2 p.1) {x : Addr} {k : κ} (hx : El.is s.heap k x) (hu : A.units < cLine) {Q : SetFound → Shared → Prop} (hin : k ∈ L.map (·.2) → Q (.there none) s)
    (hout : ∀ K, k ∉ L.map (·.2) → way t.mask (El.hash k) K ∉ t.place.toList → (∀ c, c < K → way t.mask (El.hash k) c ∈ t.place.toList) → Q (.free (way t.mask (El.hash k) K) false) s) :
    wpAny (model P w) A (setSearch a (.ref x) (El.hash k) true) Q E s := by
  obtain ⟨o, ho, hex, hd⟩ := R.ob
  have sz := size_of R.rws
  have hroom := R.room
  obtain ⟨K, K1, K2, K3⟩ := R.tab.first (by rw [List.length_map]; omega) (El.hash k)
  have K4 : K < 100000 := by
    have : SetTable.turns t.mask ≤ 142 := by
      unfold SetTable.turns
      rcases R.tab.mok with e | e | e <;> omega
    omega
  have hashAt : ∀ {i : Nat} {p : Addr × κ}, L[i]? = some p → (fun i => (es[i]?.map (·.1)).getD 0) i = El.hash p.2 := fun {i p} e => by
    show (es[i]?.map (·.1)).getD 0 = _
    rw [row_at R.rws e]
    rfl
  have step : ∀ (f c : Nat) (stand : Option SetTable.Probe), stand.getD (t.probeStart (El.hash k)) = pr t.mask (El.hash k) c → c ≤ K → K - c < f →
      (∀ (i : Nat) (p : Addr × κ), L[i]? = some p → p.2 = k → ∃ d, c ≤ d ∧ d < K ∧ t.place.toList[i]? = some (way t.mask (El.hash k) d)) → wpAny (model P w) A (setSearchFrom a (.ref x) (El.hash k) true f stand) Q E s := by
    intro f
    induction f with
    | zero => intro c stand _ _ h
              cases h
    | succ f ih =>
      intro c stand st cK fK ahead
      rw [setSearchFrom_succ]
      refine wpAny_bind (wpAny_setState_of ho hd R.fits ?_)
      dsimp only
      refine wp_if_neg R.even ?_
      try refine wpAny_bind (wpAny_pure ?_)
      have at_ : ∀ q, (nth t.mask (pr t.mask (El.hash k) c) q).j = way t.mask (El.hash k) (c + q) := fun q => congrArg SetTable.Probe.j (pr_add ..)
      have e0 : c + (K - c) = K := by omega
      rcases go_spec t R.tab.ris R.tab.dm (fun i => (es[i]?.map (·.1)).getD 0) (El.hash k) (10 * SetTable.turns t.mask) (K - c) (pr t.mask (El.hash k) c) (pr_clean ..) (by omega) (fun q hq => by rw [at_]; exact K3 _ (by omega)) (by rw [at_, e0]; exact K2)
        with ⟨q, i, hq, hi, hh, no, found⟩ | ⟨no, found⟩
      · rw [at_] at hi
        have nxt := pr_add t.mask (El.hash k) c (q + 1)
        rw [at_, nxt] at found
        have found' : t.probe (fun i => (es[i]?.map (·.1)).getD 0) (El.hash k) (stand.getD (t.probeStart (El.hash k))) = some (.candidate (way t.mask (El.hash k) (c + q)) i (pr t.mask (El.hash k) (c + (q + 1)))) := by
          rw [st]
          exact found
        rw [found']
        dsimp only
        have il : i < L.length := by
          have h1 := (List.getElem?_eq_some_iff.mp hi).1
          have h2 := R.tab.sz
          rw [List.length_map] at h2
          rw [Array.length_toList] at h1
          omega
        obtain ⟨p, hp⟩ : ∃ p, L[i]? = some p := ⟨_, List.getElem?_eq_getElem il⟩
        have pm := List.mem_of_getElem? hp
        have live : t.slot (way t.mask (El.hash k) (c + q)) = .live i := slot_live R.tab.ris hi
        have rest : wpAny (model P w) A (searchRest a (.ref x) (El.hash k) true f es t (way t.mask (El.hash k) (c + q)) i (pr t.mask (El.hash k) (c + (q + 1)))) Q E s := by
          unfold searchRest
          rw [row_at R.rws hp]
          dsimp only
          refine wpAny_bind (wpAny_holding (El.eq hu (el p pm) hx ?_))
          refine wpAny_bind (wpAny_setState_of ho hd R.fits ?_)
          dsimp only
          by_cases pk : p.2 = k
          · exact wp_if_pos (by simp [pk]) (wpAny_pure (hin (List.mem_map.mpr ⟨p, pm, pk⟩)))
          · refine wp_if_neg (by simp [pk]) ?_
            try refine wpAny_bind (wpAny_pure ?_)
            rw [memory_same]
            dsimp only
            simp only [if_true, live, row_at R.rws hp]
            refine wpAny_bind (wpAny_isSame_ref_self (wpAny_bind (wpAny_pure ?_)))
            simp only [if_true]
            refine wp_if_neg (by simp [pk]) (ih (c + (q + 1)) _ rfl (by omega) (by omega) fun i' p' hp' hk' => ?_)
            obtain ⟨d, d1, d2, d3⟩ := ahead i' p' hp' hk'
            refine ⟨d, Classical.byContradiction fun late => ?_, d2, d3⟩
            by_cases eq : d = c + q
            · rw [eq] at d3
              have l' := slot_live R.tab.ris d3
              rw [live] at l'
              injection l' with l'
              rw [← l', hp] at hp'
              exact pk (by rw [Option.some.inj hp']; exact hk')
            · refine no (d - c) i' (by omega) (by rw [at_, show c + (d - c) = d by omega]; exact d3) ?_
              exact (hashAt hp').trans (congrArg El.hash hk')
        by_cases hl : t.led = true
        · refine wp_if_neg (by simp [hl]) ?_
          try refine wpAny_bind (wpAny_pure ?_)
          exact rest
        · refine wp_if_pos (by simp [hl]) (wpAny_bind (unseen hx (fun y hy => ?_) ?_))
          · obtain ⟨e, he, rfl⟩ := List.mem_map.mp hy
            have h1 : e ∈ es.toList := by
              have : e ∈ es ∧ e.1 = El.hash k := by simpa using he
              simpa using this.1
            rw [R.rws] at h1
            obtain ⟨p', hp', rfl⟩ := List.mem_map.mp h1
            exact ⟨p'.2, p'.1, rfl, el p' hp'⟩
          · refine wp_if_neg (by decide) ?_
            try refine wpAny_bind (wpAny_pure ?_)
            exact rest
      · have found' : t.probe (fun i => (es[i]?.map (·.1)).getD 0) (El.hash k) (stand.getD (t.probeStart (El.hash k))) = some (.empty (way t.mask (El.hash k) K) none) := by
          rw [at_, e0] at found
          rw [st]
          exact found
        rw [found']
        dsimp only
        refine wpAny_pure (hout K (fun hm => ?_) K2 K3)
        obtain ⟨p', h1, h2⟩ := List.mem_map.mp hm
        obtain ⟨i', hi'⟩ := List.getElem?_of_mem h1
        obtain ⟨d, d1, d2, d3⟩ := ahead i' p' hi' h2
        refine no (d - c) i' (by omega) (by rw [at_, show c + (d - c) = d by omega]; exact d3) ?_
        exact (hashAt hi').trans (congrArg El.hash h2)
  unfold setSearch
  refine step 100000 0 none rfl (Nat.zero_le _) (by omega) fun i p hp pk => ?_
  have hi : (L.map fun p => El.hash p.2)[i]? = some (El.hash k) := by
    rw [List.getElem?_map, hp, ← pk]
    rfl
  have il : i < t.place.toList.length := by
    have h1 := (List.getElem?_eq_some_iff.mp hp).1
    have h2 := R.tab.sz
    rw [List.length_map] at h2
    rw [Array.length_toList]
    omega
  have hj := List.getElem?_eq_getElem il
  obtain ⟨d, hd', e⟩ := R.tab.before K2 hi hj
  exact ⟨d, Nat.zero_le _, hd', by rw [hj, e]⟩
end
end SM
set_option Elab.async false
set_option linter.all false
set_option maxRecDepth 100000
set_option maxHeartbeats 3200000
/-! Sets of things known by a key: one is put in. -/
namespace SM
open PySem PySem.Spec PyProof.Rows L2
section
variable {P : Program} {w : World} {κ : Type} [DecidableEq κ] {El : EltK P w κ} {A : Around} {E : Value → Shared → Prop} {s : Shared} {a : Addr} {L : List (Addr × κ)} {es : Array (Int × Value)} {ep : Nat} {t : SetTable}
/-- what isn't the set stays -/
theorem stays {h h' : Heap} {k : κ} {b : Addr} {o : Obj} (hb : El.is h k b) (ho : h.get? a = some o) (hd : o.data = .set es ep t) (sb : Heap.SameBut a h h') : El.is h' k b :=
  El.keep hb fun o' e => (sb.2 b fun z => by
    rw [z] at hb
    exact El.notSet hb ho hd).trans e
theorem mid_perm {α : Type} (L : List α) (p : Nat) (x : α) : (L.take p ++ x :: L.drop p).Perm (x :: L) := by
  have h : (L.take p ++ x :: L.drop p).Perm (x :: (L.take p ++ L.drop p)) := List.perm_middle
  rwa [List.take_append_drop] at h
theorem pick_range {α : Type} (l : List α) : (List.range l.length).filterMap (fun i => l[i]?) = l := by
  have go : ∀ n, n ≤ l.length → (List.range n).filterMap (fun i => l[i]?) = l.take n := fun n => by
    induction n with
    | zero => intro _; rfl
    | succ n ih =>
      intro h
      rw [List.range_succ, List.filterMap_append, ih (by omega), List.take_succ, List.getElem?_eq_getElem h]
      congr 1
      rw [List.filterMap_cons_some (List.getElem?_eq_getElem h)]
      rfl
  rw [go _ (Nat.le_refl _), List.take_length]
/-- the rows, taken in another order -/
theorem reorder {ys : Array (Int × Value)} (hr : ys.toList = rows El L) {order : Array Nat} (hp : order.toList.Perm (List.range L.length)) :
    ∃ M : List (Addr × κ), (order.filterMap (ys[·]?)).toList = rows El M ∧ M.Perm L ∧ (M.map fun p => El.hash p.2) = order.toList.map fun i => (ys.map (·.1)).getD i 0 := by
  have in_ : ∀ i ∈ order.toList, i < L.length := fun i hi => List.mem_range.mp (hp.mem_iff.mp hi)
  refine ⟨order.toList.filterMap fun i => L[i]?, ?_, ?_, ?_⟩
  · have e : ∀ l : List Nat, (∀ i ∈ l, i < L.length) → l.filterMap (fun i => ys[i]?) = rows El (l.filterMap fun i => L[i]?) := fun l => by
      induction l with
      | nil => intro _; rfl
      | cons i l ih =>
        intro h
        have hi : L[i]? = some (L[i]'(h i List.mem_cons_self)) := List.getElem?_eq_getElem _
        rw [List.filterMap_cons_some (row_at hr hi), List.filterMap_cons_some hi, ih fun j hj => h j (List.mem_cons_of_mem _ hj)]
        rfl
    rw [Array.toList_filterMap]
    exact e _ in_
  · have h1 := hp.filterMap (fun i => L[i]?)
    rwa [pick_range] at h1
  · have e : ∀ l : List Nat, (∀ i ∈ l, i < L.length) → ((l.filterMap fun i => L[i]?).map fun p => El.hash p.2) = l.map fun i => (ys.map (·.1)).getD i 0 := fun l => by
      induction l with
      | nil => intro _; rfl
      | cons i l ih =>
        intro h
        have hi : L[i]? = some (L[i]'(h i List.mem_cons_self)) := List.getElem?_eq_getElem _
        have q : (ys.map (·.1))[i]? = some (El.hash (L[i]'(h i List.mem_cons_self)).2) := by
          rw [Array.getElem?_map, row_at hr hi]
          rfl
        rw [List.filterMap_cons_some hi, List.map_cons, List.map_cons, ih fun j hj => h j (List.mem_cons_of_mem _ hj)]
        congr 1
        rw [Array.getD_eq_getD_getElem?, q]
        rfl
    exact e _ in_
/-- the table is laid anew, larger -/
theorem relay {o : Obj} (ho : s.heap.get? a = some o) (hex : o.ExactSet) (hd : o.data = .set es ep t) (hr : es.toList = rows El L) (T : TabOk t (L.map fun p => El.hash p.2)) (hfl : L.length ≤ t.mask) (nd : (L.map (·.2)).Nodup)
    (ld : w.params.followText "set-order" = true ∨ t.led = true) (few : L.length < 64) {n M : Nat} (hw : SetTable.sizeAbove n - 1 = M) (hM : MaskOk M) (hw2 : SetTable.sizeAbove n ≤ 128) (room : L.length * 5 < M * 3) {Q : Unit → Shared → Prop}
    (q : ∀ h' L' es' ep' t', Heap.SameBut a s.heap h' → Lay El h' a L' es' ep' t' → L'.Perm L → Q () { s with heap := h' }) : wpAny (model P w) A (setRelay a n) Q E s := by
  have sz := size_of hr
  obtain ⟨t', order, e, hp, T', em, el, epl, edm⟩ := relaid_ok t (hs := es.map (·.1)) (wanted := n) hw hM (by rw [Array.size_map, sz]; omega)
  rw [Array.size_map, sz] at hp
  obtain ⟨N, n1, n2, n3⟩ := reorder (El := El) hr hp
  rw [← n3] at T'
  have sz' : (order.filterMap (es[·]?)).size = es.size := by rw [size_of n1, sz, n2.length_eq]
  rw [setRelay_eq]
  refine wpAny_bind (wpAny_setState_of ho hd (fits_of T sz hfl) ?_)
  dsimp only
  refine wp_if_neg (by rw [sizeLine_eq]; omega) ?_
  try refine wpAny_bind (wpAny_pure ?_)
  rw [e]
  dsimp only
  refine wpAny_bind (wp_if_neg (by rw [sz']; simp) ?_)
  try refine wpAny_bind (wpAny_pure ?_)
  refine wpAny_pure ?_
  dsimp only
  refine wpAny_storeSet_of ho hd (q _ N (order.filterMap (es[·]?)) (ep + 1) t' (Heap.SameBut.update ..) ⟨⟨_, store_at ho hd, ⟨hex.1, hex.2.1, hex.2.2⟩, rfl⟩, n1, T', by rw [el]; exact ld, by rw [n2.length_eq, em]; exact room, by rw [n2.length_eq]; exact few, (n2.map (·.2)).nodup_iff.mpr nd⟩ n2) (by rw [sz', sz, sizeLine_eq]; omega)
/-- the end of adding: the table is stored, and laid anew where it is too full -/
def addEnd (a : Addr) (ys : Array (Int × Value)) (u : SetTable) (n : Nat) : Sem Bool := do
  storeSet a ys u
  if !false && u.tooFull then setRelay a (SetTable.grown (n + 1))
  return true
/-- one is put in: it was there, or it is one more -/
theorem add (R : Lay El s.heap a L es ep t) (el : ∀ p ∈ L, El.is s.heap p.2 p.1) {x : Addr} {k : κ} (hx : El.is s.heap k x) (hu : A.units < cLine) (few : L.length + 1 < 64) {Q : Bool → Shared → Prop}
    (q : ∀ b h' L' es' ep' t', Heap.SameBut a s.heap h' → Lay El h' a L' es' ep' t' → (k ∈ L.map (·.2) → L' = L) → (k ∉ L.map (·.2) → L'.Perm ((x, k) :: L)) → Q b { s with heap := h' }) :
    wpAny (model P w) A (setAddHashed a (.ref x) (El.hash k)) Q E s := by
  obtain ⟨o, ho, hex, hd⟩ := R.ob
  have sz := size_of R.rws
  have room := R.room
  unfold setAddHashed
  rw [show (100000 : Nat) = 99999 + 1 from rfl]
  refine wpAny_holding ?_
  rw [setAddHashedIn_succ]
  refine wpAny_bind (wpAny_setState_of ho hd R.fits ?_)
  dsimp only
  refine wp_if_neg (by simp [byScan, Value.scannable]) ?_
  try refine wpAny_bind (wpAny_pure ?_)
  refine wpAny_bind (search R el hx hu (fun hm => ?_) fun K hm h1 h2 => ?_)
  · dsimp only
    exact wpAny_pure (q false s.heap L es ep t (Heap.SameBut.refl a s.heap) R (fun _ => rfl) fun z => absurd hm z)
  · dsimp only
    refine wpAny_bind (wpAny_setState_of ho hd R.fits ?_)
    dsimp only
    obtain ⟨p1, p2, p3, p4, p5, p6, p7, p8, p9⟩ := R.tab.put h1 h2
    rw [List.length_map] at p2 p9
    generalize t.put (way t.mask (El.hash k) K) = pt at p1 p3 p4 p5 p9 ⊢
    obtain ⟨t0, at1⟩ := pt
    dsimp only at p1 p3 p4 p5 p9 ⊢
    subst p1
    generalize SetTable.below t.place (way t.mask (El.hash k) K) = g at p2 p3 ⊢
    have pm := mid_perm L g (x, k)
    have r1 : (SetTable.insertAt es g (El.hash k, Value.ref x)).toList = rows El (L.take g ++ (x, k) :: L.drop g) := by
      rw [SetTable.toList_insertAt, R.rws]
      unfold rows
      rw [List.map_append, List.map_cons, List.map_take, List.map_drop]
    have T0 : TabOk t0 ((L.take g ++ (x, k) :: L.drop g).map fun p => El.hash p.2) := by
      rw [List.map_append, List.map_cons, List.map_take, List.map_drop]
      exact p3
    generalize SetTable.insertAt es g (El.hash k, Value.ref x) = es1 at r1 ⊢
    generalize L.take g ++ (x, k) :: L.drop g = L1 at pm r1 T0
    have l1 : L1.length = L.length + 1 := pm.length_eq
    have s1 := size_of r1
    have nd1 : (L1.map (·.2)).Nodup := (pm.map (·.2)).nodup_iff.mpr (List.nodup_cons.mpr ⟨hm, R.nd⟩)
    have fin : ∀ t1 : SetTable, TabOk t1 (L1.map fun p => El.hash p.2) → t1.mask = t.mask → t1.led = t.led → t1.fill = L.length + 1 →
        wpAny (model P w) A (addEnd a es1 t1 es.size) Q E s := fun t1 T1 p4 p5 p9 => by
      have ld1 : w.params.followText "set-order" = true ∨ t1.led = true := by rw [p5]; exact R.led
      unfold addEnd
      refine wpAny_bind (wpAny_storeSet_of ho hd ?_ (by rw [s1, l1, sizeLine_eq]; omega))
      have sb : Heap.SameBut a s.heap (s.heap.update a (Obj.putSet es1 t1)) := Heap.SameBut.update ..
      have ho1 := store_at (es' := es1) (t' := t1) ho hd
      generalize s.heap.update a (Obj.putSet es1 t1) = h1 at sb ho1 ⊢
      by_cases full : t1.tooFull = true
      · have big : (L.length + 1) * 5 ≥ t1.mask * 3 := by
          have z := full
          unfold SetTable.tooFull at z
          rw [decide_eq_true_eq, p9] at z
          exact z
        have two : (t.mask = 7 ∧ L.length = 4) ∨ (t.mask = 31 ∧ L.length = 18) := by
          rcases R.tab.mok with e | e | e
          · rw [p4, e] at big
            rw [e] at room
            exact .inl ⟨e, by omega⟩
          · rw [p4, e] at big
            rw [e] at room
            exact .inr ⟨e, by omega⟩
          · rw [p4, e] at big
            omega
        have go : ∀ M, SetTable.sizeAbove (SetTable.grown (L.length + 1)) - 1 = M → MaskOk M → SetTable.sizeAbove (SetTable.grown (L.length + 1)) ≤ 128 → (L.length + 1) * 5 < M * 3 →
            wpAny (model P w) A (setRelay a (SetTable.grown (L.length + 1))) (fun _ s' => wpAny (model P w) A (pure true) Q E s') E { s with heap := h1 } := fun M a1 a2 a3 a4 =>
          relay (s := { s with heap := h1 }) ho1 ⟨hex.1, hex.2.1, hex.2.2⟩ rfl r1 T1 (by rw [p4]; rcases two with ⟨e, e'⟩ | ⟨e, e'⟩ <;> omega) nd1 ld1 (by omega) a1 a2 a3 (by rw [l1]; exact a4) fun h2 L2 es2 ep2 t2 sb2 R2 pm2 =>
            wpAny_pure (q true h2 L2 es2 ep2 t2 (sb.trans sb2) R2 (fun z => absurd z hm) fun _ => pm2.trans pm)
        rw [sz]
        first
          | (refine wpAny_bind ?_; refine wp_if_pos (by simp [full]) ?_)
          | (refine wp_if_pos (by simp [full]) ?_; refine wpAny_bind ?_)
        rcases two with ⟨_, e⟩ | ⟨_, e⟩
        · exact go 31 (by rw [e, size_20]) (.inr (.inl rfl)) (by rw [e, size_20]; decide) (by omega)
        · exact go 127 (by rw [e, size_76]) (.inr (.inr rfl)) (by rw [e, size_76]; decide) (by omega)
      · have small : (L.length + 1) * 5 < t1.mask * 3 := by
          have z := full
          unfold SetTable.tooFull at z
          rw [decide_eq_true_eq, p9] at z
          omega
        first
          | refine wp_if_neg (by simp [full]) ?_
          | (refine wpAny_bind ?_; refine wp_if_neg (by simp [full]) ?_; refine wpAny_pure ?_)
        exact wpAny_pure (q true h1 L1 es1 (ep + 1) t1 sb ⟨⟨_, ho1, ⟨hex.1, hex.2.1, hex.2.2⟩, rfl⟩, r1, T1, ld1, by rw [l1]; exact small, by omega, nd1⟩ (fun z => absurd z hm) fun _ => pm)
    have two : ∀ b : Bool, wpAny (model P w) A (addEnd a es1 (if b = true then t0 else { t0 with plain := false }) es.size) Q E s := fun b => by
      cases b with
      | true => exact fin t0 T0 p4 p5 p9
      | false => exact fin { t0 with plain := false } ⟨T0.ris, T0.dm, T0.sz, T0.mok, T0.bd, T0.reach⟩ p4 p5 p9
    by_cases pl : t0.plain = true
    · first
        | exact wpAny_bind (wp_if_pos pl (El.byValue hx two))
        | exact wp_if_pos pl (wpAny_bind (El.byValue hx two))
    · first
        | exact wpAny_bind (wp_if_neg pl (wpAny_pure (two true)))
        | exact wp_if_neg pl (wpAny_bind (wpAny_pure (two true)))
        | exact wp_if_neg pl (two true)
end
end SM
set_option Elab.async false
set_option linter.all false
set_option maxRecDepth 100000
set_option maxHeartbeats 3200000
/-! Sets of things known by a key: set(list). -/
namespace SM
open PySem PySem.Spec PyProof.Rows L2
section
variable {P : Program} {w : World} {κ : Type} [DecidableEq κ] {El : EltK P w κ} {A : Around} {E : Value → Shared → Prop} {s : Shared}
/-- L has come of the things of ks: each is one of them, each key once -/
structure Of (ks L : List (Addr × κ)) : Prop where
  sub : ∀ p ∈ L, p ∈ ks
  all : ∀ p ∈ ks, p.2 ∈ L.map (·.2)
theorem Of.nil : Of ([] : List (Addr × κ)) [] := ⟨fun p h => (by cases h), fun p h => (by cases h)⟩
theorem Of.old {ks L : List (Addr × κ)} {x : Addr × κ} (g : Of ks L) (h : x.2 ∈ L.map (·.2)) : Of (ks ++ [x]) L :=
  ⟨fun p hp => List.mem_append_left _ (g.sub p hp), fun p hp => (List.mem_append.mp hp).elim (g.all p) fun z => by rw [List.mem_singleton.mp z]; exact h⟩
theorem Of.new {ks L L' : List (Addr × κ)} {x : Addr × κ} (g : Of ks L) (pm : L'.Perm (x :: L)) : Of (ks ++ [x]) L' := by
  refine ⟨fun p hp => ?_, fun p hp => ?_⟩
  · rcases List.mem_cons.mp (pm.mem_iff.mp hp) with rfl | z
    · exact List.mem_append_right _ (List.mem_singleton.mpr rfl)
    · exact List.mem_append_left _ (g.sub p z)
  · rw [(pm.map (·.2)).mem_iff, List.map_cons]
    rcases List.mem_append.mp hp with z | z
    · exact List.mem_cons_of_mem _ (g.all p z)
    · rw [List.mem_singleton.mp z]
      exact List.mem_cons_self
/-- the set at S holds just what came of ks -/
def Holds (El : EltK P w κ) (h : Heap) (S : Addr) (ks : List (Addr × κ)) : Prop := ∃ L es ep t, Lay El h S L es ep t ∧ Of ks L ∧ L.length ≤ ks.length
theorem Lay.moved {h h' : Heap} {S : Addr} {L : List (Addr × κ)} {es : Array (Int × Value)} {ep : Nat} {t : SetTable} (R : Lay El h S L es ep t) (k : ∀ o, h.get? S = some o → h'.get? S = some o) : Lay El h' S L es ep t := by
  obtain ⟨o, ho, r⟩ := R.ob
  exact ⟨⟨o, k o ho, r⟩, R.rws, R.tab, R.led, R.room, R.few, R.nd⟩
/-- set.add's work: the hash, then the thing -/
theorem setAdd_ok {S : Addr} {ks : List (Addr × κ)} {x : Addr × κ} (hS : Holds El s.heap S ks) (el : ∀ p ∈ ks, El.is s.heap p.2 p.1) (hx : El.is s.heap x.2 x.1) (hu : A.units < cLine) (few : ks.length + 1 < 64) {Q : Bool → Shared → Prop}
    (q : ∀ b h' n, Heap.SameBut S s.heap h' → Holds El h' S (ks ++ [x]) → Q b { s with heap := h', toks := s.toks + n }) : wpAny (model P w) A (setAdd S (.ref x.1)) Q E s := by
  obtain ⟨L, es, ep, t, R, g, gl⟩ := hS
  unfold setAdd
  refine wpAny_holding (wpAny_bind (El.hashes hu hx fun n => ?_))
  refine add (s := { s with toks := s.toks + n }) R (fun p hp => el p (g.sub p hp)) hx hu (by omega) fun b h' L' es' ep' t' sb R' c1 c2 => ?_
  refine q b h' n sb ⟨L', es', ep', t', R', ?_⟩
  by_cases c : x.2 ∈ L.map (·.2)
  · rw [c1 c]
    exact ⟨g.old c, by rw [List.length_append]; exact Nat.le_trans gl (Nat.le_add_right _ _)⟩
  · refine ⟨g.new (c2 c), ?_⟩
    rw [(c2 c).length_eq, List.length_cons, List.length_append]
    exact Nat.succ_le_succ gl
/-- a new set -/
theorem fresh_set {h : Heap} {S : Addr} (e : h.get? S = some { cls := .type "set", dict := none, data := .set #[] 0 (.fresh 0 0 (!w.params.followText "set-order")) }) : Holds El h S [] := by
  refine ⟨[], #[], 0, .fresh 0 0 (!w.params.followText "set-order"), ⟨⟨_, e, ⟨rfl, rfl, rfl⟩, rfl⟩, rfl, ?_, ?_, (show 0 * 5 < 7 * 3 by decide), (show 0 < 64 by decide), .nil⟩, .nil, Nat.le_refl _⟩
  · exact ⟨.nil, rfl, rfl, .inl rfl, fun x hx => (by cases hx), fun i h j hi => (by simp at hi)⟩
  · show _ ∨ (!w.params.followText "set-order") = true
    cases w.params.followText "set-order"
    · exact .inr rfl
    · exact .inl rfl
/-- the loop of set.update over a walk -/
theorem update_loop {I : Addr} {fp wr : List Addr} {G : Array GenState → Array GenState → Prop} {ks : List (Addr × κ)} {Pv : Nat → Value → Prop} {St : Nat → Shared → Prop} {R : Result → Shared → Prop} (W : WalksS P w A.in1 I fp wr G ks.length Pv St) {S : Addr} (nS : S ∉ fp) (few : ks.length < 64)
    (val : ∀ i v, Pv i v → ∃ p, ks[i]? = some p ∧ v = .ref p.1) {h0 : Heap} (el : ∀ p ∈ ks, El.is h0 p.2 p.1) (S0 : h0.get? S = none) (w0 : ∀ b ∈ wr, h0.get? b = none) (hu : A.in1.units < cLine) :
    ∀ (n i : Nat) (s : Shared), ks.length - i = n → i ≤ ks.length → St i s → (∀ b o, h0.get? b = some o → s.heap.get? b = some o) → Holds El s.heap S (ks.take i) →
      (∀ s', Moved (S :: wr) G s s' → Holds El s'.heap S ks → (∀ b o, h0.get? b = some o → s'.heap.get? b = some o) → R (.ok (.ret .none)) s') → codeAny (model P w) A (.builtin "set.update.loop" ⟨[.ref S, .ref I], []⟩) R s := by
  have nw : S ∉ wr := fun h => nS (W.sub _ h)
  have old : ∀ {s s' : Shared}, Moved wr G s s' → (∀ b o, h0.get? b = some o → s.heap.get? b = some o) → ∀ b o, h0.get? b = some o → s'.heap.get? b = some o := fun m k b o e => m.heap b o (fun hb => by rw [w0 b hb] at e; cases e) (k b o e)
  have elk : ∀ {h : Heap}, (∀ b o, h0.get? b = some o → h.get? b = some o) → ∀ p ∈ ks, El.is h p.2 p.1 := fun k p hp => El.keep (el p hp) fun o e => k _ o e
  have mv : ∀ {s s' : Shared} {i : Nat}, Moved wr G s s' → Holds El s.heap S (ks.take i) → Holds El s'.heap S (ks.take i) := fun m ⟨L, es, ep, t, r, g⟩ => ⟨L, es, ep, t, r.moved fun o e => m.heap S o nw e, g⟩
  have wide : ∀ b ∈ wr, b ∈ S :: wr := fun b hb => List.mem_cons_of_mem _ hb
  intro n
  induction n with
  | zero =>
    intro i s hn hi st k hS q
    have e : i = ks.length := by omega
    subst e
    refine codeAny_builtin F.entry_set_update_loop ?_
    rw [Around.under_plainId F.plain_set_update_loop _]
    show wpAny _ A.in1 (pyNext (.ref I) >>= _) _ _ s
    refine wpAny_bind (W.done s _ _ st fun s' m => ?_)
    have z := mv m hS
    rw [List.take_length] at z
    exact wpAny_pure (q s' (m.mono wide) z (old m k))
  | succ n ih =>
    intro i s hn hi st k hS q
    have lt : i < ks.length := by omega
    refine codeAny_builtin F.entry_set_update_loop ?_
    rw [Around.under_plainId F.plain_set_update_loop _]
    show wpAny _ A.in1 (pyNext (.ref I) >>= _) _ _ s
    refine wpAny_bind (W.item i s _ _ lt st fun v s' hP st' m => ?_)
    obtain ⟨p, hp, rfl⟩ := val i v hP
    have k' := old m k
    have tk : ks.take (i + 1) = ks.take i ++ [p] := by
      rw [List.take_add_one, hp]
      rfl
    show wpAny _ A.in1 (holding [Value.ref p.1] (setAdd S (.ref p.1)) >>= _) _ _ s'
    refine wpAny_bind (wpAny_holding (setAdd_ok (mv m hS) (fun r hr => elk k' r (List.mem_of_mem_take hr)) (elk k' p (List.mem_of_getElem? hp)) hu (by rw [List.length_take]; omega) fun b h' c sb hS' => ?_))
    rw [← tk] at hS'
    have k2 : ∀ b o, h0.get? b = some o → h'.get? b = some o := fun b o e => (sb.2 b fun z => by rw [z, S0] at e; cases e).trans (k' b o e)
    refine wpAny_pure ⟨plainId_quiet F.plain_set_update_loop _, ih (i + 1) _ (by omega) lt (W.frame _ s' _ _ st' (Nat.le_add_right _ _) fun b hb o e => (sb.2 b fun z => nS (z ▸ hb)).trans e) k2 hS' fun s2 m2 r2 k3 => q s2 (Moved.trans W.gtrans ((m.mono wide).then_heap (Nat.le_add_right _ _) fun b o hb e => (sb.2 b fun z => hb (z ▸ List.mem_cons_self)).trans e) m2) r2 k3⟩
end
end SM
set_option Elab.async false
set_option linter.all false
set_option maxRecDepth 100000
set_option maxHeartbeats 3200000
/-! Sets of things known by a key: set(list), whole; sorted(set). -/
namespace SM
open PySem PySem.Spec PyProof.Rows L2
section
variable {P : Program} {w : World} {κ : Type} [DecidableEq κ] {El : EltK P w κ} {A : Around} {E : Value → Shared → Prop} {s : Shared}
abbrev setObj (w : World) : Obj := { cls := .type "set", dict := none, data := .set #[] 0 (.fresh 0 0 (!w.params.followText "set-order")) }
theorem beyond {h : Heap} {b : Addr} (hb : h.objs.size ≤ b) : h.get? b = none := by
  cases q : h.get? b with
  | none => rfl
  | some o => exact absurd (Heap.lt_size q) (Nat.not_lt.mpr hb)
/-- set.__init__(S, list), S new -/
theorem init_ok {l : Addr} {items : Array Value} {ks : List (Addr × κ)} (hh : A.handled = none) (hl : s.heap.IsList l items) (hit : items.toList = ks.map fun p => Value.ref p.1) (el : ∀ p ∈ ks, El.is s.heap p.2 p.1) (few : ks.length < 64) (hu : A.units + 3 < cLine) {R : Result → Shared → Prop}
    (q : ∀ h' tk, Holds El h' s.heap.objs.size ks → (∀ b o, s.heap.get? b = some o → h'.get? b = some o) → R (.ok (.ret .none)) { s with heap := h', toks := tk }) :
    codeAny (model P w) A (.call (.builtin "set.__init__") ⟨[.ref s.heap.objs.size, .ref l], []⟩) R { s with heap := s.heap.push (setObj w) } := by
  have sz : items.size = ks.length := by
    have z := congrArg List.length hit
    rw [Array.length_toList, List.length_map] at z
    exact z
  have hS : (s.heap.push (setObj w)).get? s.heap.objs.size = some (setObj w) := Heap.get?_push_size _ rfl
  have hT : Shared.TypeIs { s with heap := s.heap.push (setObj w) } (.ref s.heap.objs.size) "set" := ⟨_, hS, rfl⟩
  refine codeAny_call_builtin F.called_set.init.plain F.entry_set_init (check_set_init_1 hT ?_)
  obtain ⟨⟨ocls, odict, odata, oslots⟩, hol, hcl, nl, hdl⟩ := hl
  simp only at hcl hdl
  subst hcl
  subst hdl
  have hls : l < s.heap.objs.size := Heap.lt_size hol
  have hl1 : (s.heap.push (setObj w)).IsList l items := ⟨_, Heap.get?_push_of_some _ hol, rfl, nl, rfl⟩
  have hol' : (s.heap.push (setObj w)).get? l = some { cls := .type "list", dict := odict, data := .seq items nl, slots := oslots } := Heap.get?_push_of_some _ hol
  have hsls := F.sub_list_set
  have hslf := F.sub_list_frozenset
  have hne : (Value.type "list" == Value.type "dict") = false := by decide
  unfold Builtin.«set.__init__» noKeywords Builtin.Frozenset.updateFrom
  generalize hPI : pyIter = PI
  wp_walk
  subst hPI
  refine wpAny_pyIter_list hl1 ?_
  refine wpAny_bind (wpAny_runValue ?_)
  have hsz : (s.heap.push (setObj w)).objs.size = s.heap.objs.size + 1 := Heap.size_push ..
  have hneI : l ≠ (s.heap.push (setObj w)).objs.size := Nat.ne_of_lt (by rw [hsz]; exact Nat.lt_succ_of_lt hls)
  have W := (Walks.list (prog := P) (w := w) (A := A.in1.in1) (by simp [hh]) (s.heap.push (setObj w)).objs.size l hneI items).toS
  rw [sz] at W
  refine update_loop (El := El) (ks := ks) (h0 := s.heap) W (S := s.heap.objs.size) ?_ few (fun i v e => ?_) el (beyond (Nat.le_refl _)) (fun b hb => beyond (by rw [List.mem_singleton.mp hb, hsz]; exact Nat.le_succ _)) (Nat.lt_of_succ_lt hu) ks.length 0 _ (Nat.sub_zero _) (Nat.zero_le _)
    ?st ?kp ?fr fun s' m r k => ?_
  case st => exact ⟨⟨_, Heap.get?_push_size _ rfl, rfl, rfl⟩, hl1.push _⟩
  case kp => exact fun b o e => Heap.get?_push_of_some _ (Heap.get?_push_of_some _ e)
  case fr => exact fresh_set (Heap.get?_push_of_some _ hS)
  · rw [hsz]
    simp only [List.mem_cons, List.mem_singleton, List.not_mem_nil, or_false, not_or]
    exact ⟨Nat.ne_of_lt (Nat.lt_succ_self _), Nat.ne_of_gt hls⟩
  · have e' : items.toList[i]? = some v := by
      rw [Array.getElem?_toList]
      exact e
    rw [hit, List.getElem?_map] at e'
    cases hq : ks[i]? with
    | none => rw [hq] at e'; cases e'
    | some p =>
      rw [hq] at e'
      exact ⟨p, rfl, (Option.some.inj e').symm⟩
  · obtain ⟨h', g', d', tk', os'⟩ := s'
    have e1 : g' = s.gens := m.gens
    have e2 : d' = s.drawn := m.drawn
    have e3 : os' = s.os := m.os
    subst e1
    subst e2
    subst e3
    show wpAny _ _ _ _ _ _
    refine wpAny_pure ?_
    show wpAny _ _ (ret Value.none) _ _ _
    exact wpAny_pure (q h' tk' r k)
end
end SM
set_option Elab.async false
set_option linter.all false
set_option maxRecDepth 100000
set_option maxHeartbeats 3200000
/-! Sets of things known by a key: set(list) and sorted(set), as calls. -/
namespace SM
open PySem PySem.Spec PyProof.Rows L2
section
variable {P : Program} {w : World} {κ : Type} [DecidableEq κ] {El : EltK P w κ} {A : Around} {E : Value → Shared → Prop} {s : Shared}
/-- set(l) -/
theorem call_set {l : Addr} {items : Array Value} {ks : List (Addr × κ)} {Q : Value → Shared → Prop} (hh : A.handled = none) (hl : s.heap.IsList l items) (hit : items.toList = ks.map fun p => Value.ref p.1) (el : ∀ p ∈ ks, El.is s.heap p.2 p.1) (few : ks.length < 64) (hu : A.units + 4 < cLine)
    (q : ∀ h' tk, Holds El h' s.heap.objs.size ks → (∀ b o, s.heap.get? b = some o → h'.get? b = some o) → Q (.ref s.heap.objs.size) { s with heap := h', toks := tk }) :
    wpAny (model P w) A (call (.type "set") [.ref l]) Q E s := by
  have ft := F.called_set
  obtain ⟨c, tl, hmro⟩ := ft.mro
  have hmade := ft.made
  have hsub := ft.sub
  have h1 := ft.notType
  have h2 := ft.canCreate
  have hct := F.typeCall_set_1 (.ref l)
  refine wpAny_call (codeAny_of_tree (wpAny_pure ⟨Code.quiet_builtin _ (by decide +kernel), codeAny_builtin F.entry_type_call ?_⟩))
  rw [Around.under_plain (weight_type_call_type "set" [.ref l] []) rfl]
  repeat (any_goals (first | assumption | wp_step))
  refine codeAny_mono (code_set_led1 (.ref l) (E := E) (Q₁ := fun obj s₁ => obj = .ref s.heap.objs.size ∧ s₁ = { s with heap := s.heap.push (setObj w) }) ⟨rfl, rfl⟩) fun r s₁ hr => ?_
  rcases r with e | r
  · exact hr
  cases r with
  | ret obj =>
    obtain ⟨rfl, rfl⟩ := hr
    have hT : Shared.TypeIs { s with heap := s.heap.push (setObj w) } (.ref s.heap.objs.size) "set" := ⟨_, Heap.get?_push_size _ rfl, rfl⟩
    have hli := ft.init.lookup
    have hbi := ft.init.bind (.ref s.heap.objs.size)
    repeat (any_goals (first | assumption | wp_step))
    refine codeAny_mono (init_ok (El := El) (R := wants (fun r s₂ => r = .none ∧ ∃ h' tk, s₂ = { s with heap := h', toks := tk } ∧ Holds El h' s.heap.objs.size ks ∧ ∀ b o, s.heap.get? b = some o → h'.get? b = some o) E) (by simp [hh]) hl hit el few (by show A.units + 1 + 3 < cLine; omega) fun h' tk r k => ⟨rfl, h', tk, rfl, r, k⟩) fun r₂ s₂ hr₂ => ?_
    rcases r₂ with e | r₂
    · exact hr₂
    cases r₂ with
    | ret r =>
      obtain ⟨rfl, h', tk, rfl, z, k⟩ := hr₂
      repeat (any_goals (first | assumption | wp_step))
      exact q h' tk z k
    | _ => exact hr₂.elim
  | _ => exact hr.elim
end
end SM
set_option Elab.async false
set_option linter.all false
set_option maxRecDepth 100000
set_option maxHeartbeats 3200000
/-! Sets of things known by a key: sorted(set). -/
namespace SM
open PySem PySem.Spec PyProof.Rows L2
theorem lift_perm {α β : Type} {f : α → β} : ∀ {vs : List β} {L : List α}, vs.Perm (L.map f) → ∃ M : List α, M.Perm L ∧ vs = M.map f
  | [], L, h => by
    have e := h.length_eq
    rw [List.length_map] at e
    exact ⟨[], by rw [List.eq_nil_of_length_eq_zero e.symm], rfl⟩
  | v :: vs, L, h => by
    obtain ⟨x, hx, rfl⟩ := List.mem_map.mp (h.mem_iff.mp List.mem_cons_self)
    obtain ⟨A, B, rfl⟩ := List.append_of_mem hx
    have h2 : vs.Perm ((A ++ B).map f) := by
      rw [List.map_append, List.map_cons] at h
      have h3 := h.trans List.perm_middle
      rw [← List.map_append] at h3
      exact h3.cons_inv
    obtain ⟨M, m1, rfl⟩ := lift_perm h2
    exact ⟨x :: M, (m1.cons x).trans List.perm_middle.symm, rfl⟩
section
variable {P : Program} {w : World} {κ : Type} [DecidableEq κ] {El : EltK P w κ} {A : Around} {E : Value → Shared → Prop} {s : Shared}
/-- M: the set's things, each key once, by the order of what they read as -/
structure Sorted (enc : κ → PyData) (ks M : List (Addr × κ)) : Prop where
  sub : ∀ p ∈ M, p ∈ ks
  all : ∀ p ∈ ks, p.2 ∈ M.map (·.2)
  nd : (M.map (·.2)).Nodup
  up : M.Pairwise fun x y => PySem.W.dataLt (enc y.2) (enc x.2) = false
  len : M.length ≤ ks.length
theorem sorted_set {a : Addr} {ks : List (Addr × κ)} {enc : κ → PyData} {Q : Value → Shared → Prop} (hS : Holds El s.heap a ks) (el : ∀ p ∈ ks, El.is s.heap p.2 p.1) (hh : A.handled = none) (rd : ∀ {h : Heap} {k : κ} {b : Addr}, El.is h k b → Reads h (.ref b) (enc k) [])
    (al : ∀ p ∈ ks, ∀ r ∈ ks, PySem.W.alike (enc p.2) (enc r.2) = true) (ne : ∀ p ∈ ks, ∃ x r, enc p.2 = .tuple (x :: r)) (dp : ∀ p ∈ ks, (enc p.2).depth ≤ 3) (hu : A.units + 8 < cLine)
    (q : ∀ s' p (out : Array Value) (c : Nat) M, (∀ b o, s.heap.get? b = some o → s'.heap.get? b = some o) → s'.gens = s.gens → s'.os = s.os → s.heap.objs.size ≤ p → s'.heap.get? p = some (seqObj "list" out c) → out.toList = M.map (fun r => Value.ref r.1) → Sorted enc ks M → Q (.ref p) s') :
    wpAny (model P w) A (call (.builtin "sorted") [.ref a]) Q E s := by
  obtain ⟨L, es, ep, t, R, g, gl⟩ := hS
  obtain ⟨o, ho, hex, hd⟩ := R.ob
  have sz := size_of R.rws
  have few := R.few
  refine Calls.call_function_entry kind_sorted plain_sorted entry_sorted (args_sorted1 _) ?_
  unfold Builtin.«sorted»
  refine wpAny_bind (m := checkCount "sorted" 1 1 _) (wpAny_pure ?_)
  refine wpAny_bind (collect_set (A := A.in1) hh ⟨o, ho, hex.1, hd⟩ R.fits (by unfold scanBound; omega) R.tab.ris R.led fun s1 vs k1 hz g1 o1 pm => ?_)
  have pm' : vs.Perm (L.map fun p => Value.ref p.1) := by
    rw [R.rws] at pm
    unfold rows at pm
    rw [List.map_map] at pm
    exact pm
  obtain ⟨M0, m0, rfl⟩ := lift_perm pm'
  have l0 : M0.length = L.length := m0.length_eq
  have in0 : ∀ p ∈ M0, p ∈ ks := fun p hp => g.sub p (m0.mem_iff.mp hp)
  refine wpAny_bind (wpAny_newList ?_ (by rw [List.length_map, sizeLine_eq]; omega))
  have oN : (s1.heap.push (seqObj "list" (M0.map fun p => Value.ref p.1).toArray 0)).get? s1.heap.objs.size = some (seqObj "list" (M0.map fun p => Value.ref p.1).toArray 0) := Heap.get?_push_size _ rfl
  have elN : ∀ p ∈ M0, El.is (s1.heap.push (seqObj "list" (M0.map fun p => Value.ref p.1).toArray 0)) p.2 p.1 := fun p hp => El.keep (el p (in0 p hp)) fun o e => Heap.get?_push_of_some _ (k1 _ o e)
  have each : ∀ N : List (Addr × κ), (∀ p ∈ N, p ∈ M0) → PySem.W.EachIs (fun v p => v = Value.ref p.1) (N.map fun p => Value.ref p.1) N ∧
      PySem.W.EachIs (fun v (p : Addr × κ) => ∃ as, Reads (s1.heap.push (seqObj "list" (M0.map fun p => Value.ref p.1).toArray 0)) v (enc p.2) as ∧ s1.heap.objs.size ∉ as) (N.map fun p => Value.ref p.1) N := fun N => by
    induction N with
    | nil => intro _; exact ⟨.nil, .nil⟩
    | cons p N ih =>
      intro h
      obtain ⟨e1, e2⟩ := ih fun r hr => h r (List.mem_cons_of_mem _ hr)
      exact ⟨.cons rfl e1, .cons ⟨[], rd (elN p (h p List.mem_cons_self)), List.not_mem_nil⟩ e2⟩
  obtain ⟨e1, e2⟩ := each M0 fun p hp => hp
  refine wpAny_bind (wpAny_holding (PySem.W.list_sort_data (s := { s1 with heap := s1.heap.push (seqObj "list" (M0.map fun p => Value.ref p.1).toArray 0) }) (enc := fun p : Addr × κ => enc p.2) oN e1 e2 ?_ (.inl ?_) (by rw [sizeLine_eq]; omega) (fun p hp => ?_) fun out hl ho' => ?_))
  · intro d hd' d' hd2
    obtain ⟨p, hp, rfl⟩ := List.mem_map.mp hd'
    obtain ⟨r, hr, rfl⟩ := List.mem_map.mp hd2
    exact al p (in0 p hp) r (in0 r hr)
  · intro d hd'
    obtain ⟨p, hp, rfl⟩ := List.mem_map.mp hd'
    exact ne p (in0 p hp)
  · have := dp p (in0 p hp)
    show A.units + 1 + 1 + (enc p.2).depth < cLine
    omega
  · obtain ⟨c, hc⟩ := sortedHeap_at (vs := M0.map fun p => Value.ref p.1) (out := out.toArray) oN
    have out_eq : ∀ {os : List Value} {N : List (Addr × κ)}, PySem.W.EachIs (fun v p => v = Value.ref p.1) os N → os = N.map fun p => Value.ref p.1 := fun {os N} e => by
      induction e with
      | nil => rfl
      | cons h _ ih => rw [h, ih]; rfl
    have oe := out_eq ho'
    generalize hM : M0.mergeSort (PySem.W.dataLe false fun p : Addr × κ => enc p.2) = M at ho' oe
    have pM : M.Perm M0 := hM ▸ List.mergeSort_perm _ _
    have uM : M.Pairwise fun x y => PySem.W.dataLt (enc y.2) (enc x.2) = false := by
      rw [← hM]
      refine (PySem.W.sort_pairwise (PySem.W.sortLe_total _ _ _) _).imp fun {x y} z => ?_
      have z' : (!PySem.W.dataLt (enc y.2) (enc x.2)) = true := z
      rwa [Bool.not_eq_true'] at z'
    refine wpAny_pure ⟨_, rfl, q _ s1.heap.objs.size out.toArray c M (fun b u e => ?_) g1 o1 hz hc (by rw [List.toList_toArray, oe]) ⟨fun p hp => in0 p (pM.mem_iff.mp hp), fun p hp => ?_, ?_, uM, ?_⟩⟩
    · have k := k1 b u e
      have lt := Heap.lt_size k
      show (sortedHeap (s1.heap.push (seqObj "list" (M0.map fun p => Value.ref p.1).toArray 0)) s1.heap.objs.size (M0.map fun p => Value.ref p.1) out.toArray).get? b = some u
      rw [sortedHeap_old (Nat.ne_of_lt lt) (by rw [size_push']; exact Nat.lt_succ_of_lt lt)]
      exact Heap.get?_push_of_some _ k
    · exact ((pM.trans m0).map (·.2)).mem_iff.mpr (g.all p hp)
    · exact ((pM.trans m0).map (·.2)).nodup_iff.mpr R.nd
    · rw [pM.length_eq, l0]
      exact gl
end
end SM
set_option Elab.async false
set_option linter.all false
set_option maxRecDepth 100000
set_option maxHeartbeats 3200000
/-! Sets of tuples of ints and texts: set(list), sorted(set). -/
namespace SM
open PySem PySem.Spec PyProof.Rows L2
theorem str_shape {x : Str} {v : Value} (h : Value.isStrOf x v = true) : ∃ t, v = .str x t := by
  cases v <;> simp_all [Value.isStrOf]
theorem noClass_lit (n : Nat) : (∀ i t, ofAClassStatement n (.int i t) = pure false) ∧ ∀ x t, ofAClassStatement n (.str x t) = pure false := by
  cases n <;> exact ⟨fun _ _ => rfl, fun _ _ => rfl⟩
theorem byValue_lit (n : Nat) : (∀ i t, hashByValue n (.int i t) = pure true) ∧ ∀ x t, hashByValue n (.str x t) = pure false := by
  cases n <;> exact ⟨fun _ _ => rfl, fun _ _ => rfl⟩
section
variable {P : Program} {w : World} {A : Around} {E : Value → Shared → Prop} {s : Shared}
/-- an int or a text -/
def Lit (v : Value) : Prop := (∃ i t, v = .int i t) ∨ ∃ x t, v = .str x t
theorem items_lit : ∀ {k : List Key} {vs : List Value}, ItemsAre (mixKind P w) k vs → ∀ v ∈ vs, Lit v
  | _, _, .cons (k := .inl i) h t, v, hv => by
    rcases List.mem_cons.mp hv with rfl | hv
    · obtain ⟨tk, e⟩ := Value.isInt_shape (show Value.isInt i v = true from h)
      exact .inl ⟨i, tk, e⟩
    · exact items_lit t v hv
  | _, _, .cons (k := .inr x) h t, v, hv => by
    rcases List.mem_cons.mp hv with rfl | hv
    · obtain ⟨tk, e⟩ := str_shape (show Value.isStrOf x v = true from h)
      exact .inr ⟨x, tk, e⟩
    · exact items_lit t v hv
theorem tup_noClass {k : List Key} {b : Addr} {Q : Bool → Shared → Prop} (hk : IsTupleKey (mixKind P w) s.heap k b) (q : Q false s) : wpAny (model P w) A (ofAClassStatement 8 (.ref b)) Q E s := by
  have hT := hk.typeIs
  obtain ⟨o, items, n, ho, _, hd, hi⟩ := hk
  unfold ofAClassStatement
  refine wpAny_bind (wpAny_typeOf hT ?_)
  dsimp only
  simp only [show (("tuple" : String) == "tuple") = true by decide, if_true, Bool.not_true, Bool.false_eq_true, if_false]
  try refine wpAny_bind (wpAny_pure ?_)
  try simp only [Bool.not_true, Bool.false_eq_true, if_false]
  show wpAny _ _ (seqItems? (.ref b) >>= _) _ _ s
  refine wpAny_bind (wpAny_seqItems ho hd ?_)
  dsimp only
  refine wpAny_bind ?_
  show wpAny _ _ (forIn items _ _) _ _ s
  rw [← Array.forIn_toList]
  refine wpAny_forIn_list _ (fun left r s' => (r.1 = none ∧ s' = s) ∧ ∀ v ∈ left, Lit v) _ ?_ ?_ _ _ ⟨⟨rfl, rfl⟩, items_lit hi⟩
  · rintro v left r s' ⟨⟨_, rfl⟩, all⟩
    have e : ofAClassStatement 7 v = pure false := by
      rcases all v List.mem_cons_self with ⟨i, t, rfl⟩ | ⟨x, t, rfl⟩
      · exact (noClass_lit 7).1 i t
      · exact (noClass_lit 7).2 x t
    rw [e]
    refine wpAny_bind (wpAny_pure ?_)
    simp only [Bool.false_eq_true, if_false]
    exact wpAny_pure ⟨⟨rfl, rfl⟩, fun u hu => all u (List.mem_cons_of_mem _ hu)⟩
  · rintro ⟨r1, r2⟩ s' ⟨⟨hr, rfl⟩, _⟩
    have hr' : r1 = none := hr
    subst hr'
    exact wpAny_pure q
theorem tup_byValue {k : List Key} {b : Addr} {Q : Bool → Shared → Prop} (hk : IsTupleKey (mixKind P w) s.heap k b) (q : ∀ c, Q c s) : wpAny (model P w) A (hashByValue 8 (.ref b)) Q E s := by
  have hT := hk.typeIs
  obtain ⟨o, items, n, ho, _, hd, hi⟩ := hk
  unfold hashByValue
  refine wpAny_bind (wpAny_specialOf hT F.slot_tuple_hash.lookup ?_)
  show wpAny _ _ (seqItems? (.ref b) >>= _) _ _ s
  refine wpAny_bind (wpAny_seqItems ho hd ?_)
  refine wpAny_bind ?_
  show wpAny _ _ (forIn items _ _) _ _ s
  rw [← Array.forIn_toList]
  refine wpAny_forIn_list _ (fun left r s' => s' = s ∧ ∀ v ∈ left, Lit v) _ ?_ ?_ _ _ ⟨rfl, items_lit hi⟩
  · rintro v left r s' ⟨rfl, all⟩
    have nxt := fun u hu => all u (List.mem_cons_of_mem _ hu)
    rcases all v List.mem_cons_self with ⟨i, t, rfl⟩ | ⟨x, t, rfl⟩
    · rw [(byValue_lit 7).1 i t]
      refine wpAny_bind (wpAny_pure ?_)
      simp only [Bool.not_true, Bool.false_eq_true, if_false]
      exact wpAny_pure ⟨rfl, nxt⟩
    · rw [(byValue_lit 7).2 x t]
      refine wpAny_bind (wpAny_pure ?_)
      simp only [Bool.not_false, if_true]
      exact wpAny_pure (wpAny_pure (q _))
  · rintro ⟨r1, r2⟩ s' ⟨rfl, _⟩
    cases r1 with
    | none => exact wpAny_pure (q _)
    | some c => exact wpAny_pure (q _)
end
/-- tuples of ints and texts -/
def tupE (P : Program) (w : World) : EltK P w (List Key) where
  is h k a := IsTupleKey (mixKind P w) h k a
  hash k := tupleKeyHash (mixKind P w) k
  one h h' := h.inj h'
  keep := fun ⟨o, its, n, ho, r⟩ k => ⟨o, its, n, k o ho, r⟩
  notSet := fun ⟨o, its, n, ho, hc, hd, hi⟩ e1 e2 => by
    rw [ho] at e1
    cases e1
    rw [hd] at e2
    cases e2
  hashes := fun hu hk q => wpAny_pyHash_tuple hu hk (q _)
  eq := fun hu hx hy q => wpAny_eqBool_tuple hu hx hy q
  quiet := fun hk q => wpAny_eqIsQuiet_tuple hk q
  noClass := fun hk q => tup_noClass hk q
  byValue := fun hk q => tup_byValue hk q
/-- a part as data -/
def kD : Key → PyData
  | .inl i => .int i
  | .inr x => .str x
/-- a tuple of ints and texts as data -/
def kT (k : List Key) : PyData := .tuple (k.map kD)
theorem reads_items {P : Program} {w : World} {h : Heap} : ∀ {k : List Key} {vs : List Value}, ItemsAre (mixKind P w) k vs → ReadsAll h vs (k.map kD) []
  | _, _, .nil => .nil
  | _, _, .cons (k := .inl i) e t => by
    obtain ⟨tk, rfl⟩ := Value.isInt_shape (show Value.isInt i _ = true from e)
    exact ReadsAll.cons (as := []) (bs := []) (.int i tk) (reads_items t)
  | _, _, .cons (k := .inr x) e t => by
    obtain ⟨tk, rfl⟩ := str_shape (show Value.isStrOf x _ = true from e)
    exact ReadsAll.cons (as := []) (bs := []) (.str x tk) (reads_items t)
theorem reads_tup {P : Program} {w : World} {h : Heap} {k : List Key} {b : Addr} (x : (tupE P w).is h k b) : Reads h (.ref b) (kT k) [] := by
  obtain ⟨o, its, n, ho, hc, hd, hi⟩ := x
  exact .tuple ho hc hd (reads_items hi)
/-- which parts are ints -/
def shpK (k : List Key) : List Bool := k.map Sum.isLeft
theorem alike_all : ∀ {k k' : List Key}, shpK k = shpK k' → PySem.W.alikeAll (k.map kD) (k'.map kD) = true
  | [], _, _ => by simp [PySem.W.alikeAll]
  | _ :: _, [], h => by cases h
  | .inl i :: k, .inl j :: k', h => by
    have h' : shpK k = shpK k' := (List.cons.inj h).2
    simp [kD, PySem.W.alikeAll, PySem.W.alike, alike_all h']
  | .inr i :: k, .inr j :: k', h => by
    have h' : shpK k = shpK k' := (List.cons.inj h).2
    simp [kD, PySem.W.alikeAll, PySem.W.alike, alike_all h']
  | .inl i :: k, .inr j :: k', h => by cases (List.cons.inj h).1
  | .inr i :: k, .inl j :: k', h => by cases (List.cons.inj h).1
theorem alike_tup {k k' : List Key} (h : shpK k = shpK k') : PySem.W.alike (kT k) (kT k') = true := by
  unfold kT
  rw [PySem.W.alike]
  exact alike_all h
theorem dep_items : ∀ k : List Key, PyData.depthAll (k.map kD) = 0
  | [] => rfl
  | .inl i :: k => by
    show max (PyData.int i).depth (PyData.depthAll (k.map kD)) = 0
    rw [dep_items k]
    rfl
  | .inr i :: k => by
    show max (PyData.str i).depth (PyData.depthAll (k.map kD)) = 0
    rw [dep_items k]
    rfl
theorem dep_tup (k : List Key) : (kT k).depth ≤ 3 := by
  show PyData.depthAll (k.map kD) + 1 ≤ 3
  rw [dep_items]
  decide
/-- the set at a, of the tuples ks -/
def setHO (P : Program) (w : World) (a : Addr) (ks : List (Addr × List Key)) : HO := .ext fun h => Holds (tupE P w) h a ks
theorem setHO_ok {P : Program} {w : World} {H : Hp} {h : Heap} {a : Addr} {ks : List (Addr × List Key)} (R : Holds (tupE P w) h a ks) : ObjOk P w H h a (setHO P w a ks) := by
  have R' := R
  obtain ⟨L, es, ep, t, l, _⟩ := R'
  obtain ⟨o, ho, _⟩ := l.ob
  refine ⟨R, ⟨o, ho⟩, fun h1 h2 p k => ?_⟩
  obtain ⟨L, es, ep, t, l, g⟩ := p
  exact ⟨L, es, ep, t, l.moved k, g⟩
theorem vals_keys : ∀ {ks : List (Addr × List Key)} {us : List Value}, Vals (ks.map fun p => V.ref p.1) us → us = ks.map fun p => Value.ref p.1
  | [], _, .nil => rfl
  | p :: ks, _, .cons r t => by
    cases r
    rw [vals_keys t]
    rfl
theorem keys_vals : ∀ ks : List (Addr × List Key), Vals (ks.map fun p => V.ref p.1) (ks.map fun p => Value.ref p.1)
  | [] => .nil
  | p :: ks => .cons rfl (keys_vals ks)
section
variable {X : Cx}
theorem tup_at {pins : List (Addr × Obj)} {σ : L2.St} {H : Hp} {s : Shared} {b : Addr} {k : List Key} (I : Inv X pins σ H s) (h : SqT X.K H b (k.map kV)) : (tupE X.prog X.w).is s.heap k b := by
  obtain ⟨its, r, ⟨o, ho, hc, n, hd⟩, _⟩ := I.tuple h
  exact ⟨o, its.toArray, n, ho, hc, hd, by simpa using items_are r⟩
/-- set(xs), xs a list of tuples of ints and texts -/
def rSetOf (K : PySem.W.Frag) (P : Program) (w : World) : List V → Hp → VK → Prop := fun xs H Q => ∃ (l : Addr) (ks : List (Addr × List Key)), xs = [V.ref l] ∧ SqL K H l (ks.map fun p => V.ref p.1) ∧ (∀ p ∈ ks, SqT K H p.1 (p.2.map kV)) ∧ ks.length < 64 ∧
  ∀ a, H a = none → Q (.ref a) (upd H a (setHO P w a ks))
theorem cr_setOf (hc : X.calm = true) (hu : X.A.units + 64 < cLine) : CallR X (.type "set") (rSetOf X.K X.prog X.w) := by
  intro pins s σ H xs us Q I r h
  obtain ⟨l, ks, rfl, hl, hk, few, q⟩ := h
  rw [Vals.ref1 r]
  obtain ⟨its, rv, pl, hz⟩ := I.list hl
  have hn : H s.heap.objs.size = none := I.hok.fresh (Nat.le_refl _)
  refine call_set (El := tupE X.prog X.w) (ks := ks) (I.ok.hd hc) pl.isList (by simpa using vals_keys rv) (fun p hp => tup_at I (hk p hp)) few (by omega) fun h' tk R k => ?_
  exact ⟨.ref s.heap.objs.size, upd H s.heap.objs.size (setHO X.prog X.w s.heap.objs.size ks), I.laid (t' := tk) k (Nat.le_refl _) (setHO_ok R), rfl, q _ hn⟩
/-- sorted(set), the tuples of one shape -/
def rSortSet (K : PySem.W.Frag) (P : Program) (w : World) : List V → Hp → VK → Prop := fun vs H Q => ∃ (a : Addr) (ks : List (Addr × List Key)) (sh : List Bool), vs = [V.ref a] ∧ H a = some (setHO P w a ks) ∧ (∀ p ∈ ks, SqT K H p.1 (p.2.map kV)) ∧ sh ≠ [] ∧ (∀ p ∈ ks, shpK p.2 = sh) ∧ ks.length < 64 ∧
  ∀ (M : List (Addr × List Key)) (p : Addr), Sorted kT ks M → H p = none → Q (.ref p) (upd H p (.lst (M.map fun r => V.ref r.1)))
theorem cr_sortSet (hc : X.calm = true) (hu : X.A.units + 64 < cLine) : CallR X (.builtin "sorted") (rSortSet X.K X.prog X.w) := by
  intro pins s σ H vs us Q I r h
  obtain ⟨a, ks, sh, rfl, ha, hk, hs, he, few, q⟩ := h
  have R : Holds (tupE X.prog X.w) s.heap a ks := (I.hok a _ ha).1
  rw [Vals.ref1 r]
  refine sorted_set (El := tupE X.prog X.w) (enc := kT) R (fun p hp => tup_at I (hk p hp)) (I.ok.hd hc) reads_tup (fun p hp r hr => alike_tup ((he p hp).trans (he r hr).symm)) (fun p hp => ?_) (fun p _ => dep_tup p.2) (by omega) fun s' p out c M k g o hp hg ho sm => ?_
  · cases e : p.2 with
    | nil =>
      have := he p hp
      rw [e] at this
      exact absurd this.symm hs
    | cons x k => exact ⟨_, _, rfl⟩
  · have hl : (M.map fun r => V.ref r.1).length ≤ sizeLine := by
      have := sm.len
      rw [List.length_map, sizeLine_eq]
      omega
    have hn : H p = none := I.hok.fresh hp
    have J : Inv X pins σ (upd H p (.lst (M.map fun r => V.ref r.1))) { s with heap := s'.heap, gens := s'.gens, drawn := s'.drawn, toks := s'.toks } :=
      I.call (ch := []) (Un.laid k hp hn) (I.hok.laid k hp ⟨hl, out.toList, c, by rw [ho]; exact keys_vals M, by rw [Array.toArray_toList]; exact hg⟩) (by rw [g]; exact I.bare) (fun _ z => nomatch z)
    have e : s' = { s with heap := s'.heap, gens := s'.gens, drawn := s'.drawn, toks := s'.toks } := by
      obtain ⟨_, _, _, _, _⟩ := s'
      obtain ⟨_, _, _, _, _⟩ := s
      have o' := o
      subst o'
      rfl
    rw [e]
    exact ⟨.ref p, _, J, rfl, q M p sm hn⟩
end
end SM
set_option Elab.async false
set_option linter.all false
set_option maxRecDepth 100000
set_option maxHeartbeats 3200000
/-! list(zip(xs, ys)) of two lists: the zip's next while its last tuple lives on. -/
namespace LZ
open PySem PySem.Spec PyProof.Rows L2
/-- a zip that has handed out the tuple at T, which lives -/
abbrev Zip2 (h : Heap) (z TI TO T : Addr) (f : Bool) : Prop := h.get? z = some { cls := .type "zip", dict := none, data := .fields #[rawInt T, .bool f, .bool false, .ref TI, .ref TO], slots := #[] }
section
variable {P : Program} {w : World} {A : Around} {E : Value → Shared → Prop} {s : Shared}
theorem next_more {z TI TO T i1 i2 l1 l2 : Addr} {k1 k2 : Nat} {f : Bool} {oT : Obj} {xs ys : Array Value} {x y : Value} {Q : Value → Shared → Prop} (D : ZipApart z TI TO i1 i2 l1 l2)
    (hz : Zip2 s.heap z TI TO T f) (hTI : IsPair s.heap TI (.ref i1) (.ref i2)) (hT : s.heap.get? T = some oT)
    (h1 : s.heap.IsListIter i1 l1 k1) (h2 : s.heap.IsListIter i2 l2 k2) (hl1 : s.heap.IsList l1 xs) (hl2 : s.heap.IsList l2 ys) (hx : xs[k1]? = some x) (hy : ys[k2]? = some y)
    (hQ : ∀ h', Zip2 h' z TI TO T true → h'.IsListIter i1 l1 (k1 + 1) → h'.IsListIter i2 l2 (k2 + 1) → IsPair h' s.heap.objs.size x y → h'.objs.size = s.heap.objs.size + 1 →
      (∀ c o, c ≠ z → c ≠ i1 → c ≠ i2 → s.heap.get? c = some o → h'.get? c = some o) → Q (.ref s.heap.objs.size) { s with heap := h' }) :
    wpAny (model P w) A (Builtin.«zip.__next__» ⟨[.ref z], []⟩) (fun fin s' => ∃ v, fin = .done (.ret v) ∧ Q v s') E s := by
  show wpAny _ _ (field (.ref z) 2 >>= _) _ _ _
  refine wpAny_bind (wpAny_field hz rfl (x := .bool false) rfl ?_)
  show wpAny _ _ (field (.ref z) 3 >>= _) _ _ _
  refine wpAny_bind (wpAny_field hz rfl (x := .ref TI) rfl ?_)
  refine wpAny_bind (wpAny_seqItems hTI rfl ?_)
  show wpAny _ _ (Builtin.SmallTypes.ownedTupleIsFree (.ref z) >>= _) _ _ _
  refine wpAny_bind ?_
  have zlt : z < s.heap.objs.size := Heap.lt_size hz
  unfold Builtin.SmallTypes.ownedTupleIsFree
  refine wpAny_bind (wpAny_field hz rfl (x := rawInt T) rfl ?_)
  show wpAny _ _ (loadIfAlive ((T : Int).toNat) >>= _) _ _ _
  rw [Int.toNat_natCast]
  refine wpAny_bind (PySem.W.kdx_alive hT ?_)
  simp only [Option.isNone_some, Bool.false_eq_true, if_false]
  refine wpAny_bind (wpAny_field hz rfl (x := .bool f) rfl ?_)
  cases f with
  | true =>
    rw [if_neg (show ¬ ((Value.bool true != Value.bool true) = true) from Bool.false_ne_true)]
    refine wpAny_pure ?_
    have hz0 := hz
    have sb := Heap.SameBut.refl z s.heap
    simp only [Bool.false_eq_true, if_false]
    rw [← Array.forIn_toList]
    simp only [List.forIn_cons, List.forIn_nil]
    refine wpAny_bind (wpAny_bind (wpAny_bind (wpAny_holding ?_)))
    show wpAny _ _ (Builtin.SmallTypes.nextOf (.ref i1) >>= _) _ _ _
    refine wpAny_bind (wpAny_nextOf_list_item (h1.extBut sb.extBut D.i1z) (hl1.extBut sb.extBut D.l1z) hx fun ha h1a sa => wpAny_pure ?_)
    refine wpAny_pure ?_
    refine wpAny_bind (wpAny_bind (wpAny_holding ?_))
    show wpAny _ _ (Builtin.SmallTypes.nextOf (.ref i2) >>= _) _ _ _
    refine wpAny_bind (wpAny_nextOf_list_item ((h2.extBut sb.extBut D.i2z).extBut sa.extBut D.i12.symm) ((hl2.extBut sb.extBut D.l2z).extBut sa.extBut D.l2i1) hy fun hb h2b sc => wpAny_pure ?_)
    refine wpAny_pure (wpAny_pure ?_)
    refine wpAny_bind (wpAny_newTuple ?_ (hsz := (show 2 ≤ sizeLine by decide)))
    have hsz : hb.objs.size = s.heap.objs.size := by rw [sc.1, sa.1, sb.1]
    have zb : Zip2 hb z TI TO T true := sc.extBut _ _ D.i2z.symm (sa.extBut _ _ D.i1z.symm hz0)
    have i1b : hb.IsListIter i1 l1 (k1 + 1) := h1a.extBut sc.extBut D.i12
    have up : ∀ c o, hb.get? c = some o → (hb.push { cls := .type "tuple", data := .seq #[x, y] }).get? c = some o := fun c o e => Heap.get?_push_of_some _ e
    refine wpAny_pure ⟨_, rfl, ?_⟩
    show Q (.ref hb.objs.size) _
    have tb : IsPair (hb.push { cls := .type "tuple", data := .seq #[x, y] }) hb.objs.size x y := Heap.get?_push_size _ rfl
    rw [hsz] at tb ⊢
    exact hQ _ (up _ _ zb) (i1b.at fun o e => up _ o e) (h2b.at fun o e => up _ o e) tb (by rw [Heap.size_push, hsz]) fun c o c1 c2 c3 e => up c o (sc.extBut _ _ c3 (sa.extBut _ _ c2 (sb.extBut _ _ c1 e)))
  | false =>
    rw [if_pos (show (Value.bool false != Value.bool true) = true from rfl)]
    refine wpAny_bind (wpAny_setField_rec hz (by simp) fun h0 hz0 sb => ?_)
    replace hz0 : Zip2 h0 z TI TO T true := hz0
    replace sb : Heap.SameBut z s.heap h0 := sb
    refine wpAny_pure ?_
    simp only [Bool.false_eq_true, if_false]
    rw [← Array.forIn_toList]
    simp only [List.forIn_cons, List.forIn_nil]
    refine wpAny_bind (wpAny_bind (wpAny_bind (wpAny_holding ?_)))
    show wpAny _ _ (Builtin.SmallTypes.nextOf (.ref i1) >>= _) _ _ _
    refine wpAny_bind (wpAny_nextOf_list_item (h1.extBut sb.extBut D.i1z) (hl1.extBut sb.extBut D.l1z) hx fun ha h1a sa => wpAny_pure ?_)
    refine wpAny_pure ?_
    refine wpAny_bind (wpAny_bind (wpAny_holding ?_))
    show wpAny _ _ (Builtin.SmallTypes.nextOf (.ref i2) >>= _) _ _ _
    refine wpAny_bind (wpAny_nextOf_list_item ((h2.extBut sb.extBut D.i2z).extBut sa.extBut D.i12.symm) ((hl2.extBut sb.extBut D.l2z).extBut sa.extBut D.l2i1) hy fun hb h2b sc => wpAny_pure ?_)
    refine wpAny_pure (wpAny_pure ?_)
    refine wpAny_bind (wpAny_newTuple ?_ (hsz := (show 2 ≤ sizeLine by decide)))
    have hsz : hb.objs.size = s.heap.objs.size := by rw [sc.1, sa.1, sb.1]
    have zb : Zip2 hb z TI TO T true := sc.extBut _ _ D.i2z.symm (sa.extBut _ _ D.i1z.symm hz0)
    have i1b : hb.IsListIter i1 l1 (k1 + 1) := h1a.extBut sc.extBut D.i12
    have up : ∀ c o, hb.get? c = some o → (hb.push { cls := .type "tuple", data := .seq #[x, y] }).get? c = some o := fun c o e => Heap.get?_push_of_some _ e
    refine wpAny_pure ⟨_, rfl, ?_⟩
    show Q (.ref hb.objs.size) _
    have tb : IsPair (hb.push { cls := .type "tuple", data := .seq #[x, y] }) hb.objs.size x y := Heap.get?_push_size _ rfl
    rw [hsz] at tb ⊢
    exact hQ _ (up _ _ zb) (i1b.at fun o e => up _ o e) (h2b.at fun o e => up _ o e) tb (by rw [Heap.size_push, hsz]) fun c o c1 c2 c3 e => up c o (sc.extBut _ _ c3 (sa.extBut _ _ c2 (sb.extBut _ _ c1 e)))
end
end LZ
set_option Elab.async false
set_option linter.all false
set_option maxRecDepth 100000
set_option maxHeartbeats 3200000
/-! list() of an iterator that makes a new thing at each step. -/
namespace LZ
open PySem PySem.Spec PyProof.Rows L2
/-- the iterator at I makes n things, of which the j-th is told by Ok; the list at S is filled beside -/
structure Maker (P : Program) (w : World) (A : Around) (I S : Addr) (fp : List Addr) (n : Nat) (Ok : Nat → Addr → Heap → Prop) (St : Nat → Heap → Prop) : Prop where
  nS : S ∉ fp
  okKeep : ∀ {j : Nat} {T : Addr} {h h' : Heap}, Ok j T h → (∀ b o, b ≠ S → b ∉ fp → h.get? b = some o → h'.get? b = some o) → Ok j T h'
  frame : ∀ {i : Nat} {h h' : Heap}, St i h → (∀ b o, b ≠ S → h.get? b = some o → h'.get? b = some o) → St i h'
  item : ∀ {E : Value → Shared → Prop} {s : Shared} {i : Nat} {Q : Option Value → Shared → Prop}, i < n → St i s.heap → S < s.heap.objs.size →
    (∀ T h', s.heap.objs.size ≤ T → T < h'.objs.size → Ok i T h' → St (i + 1) h' → (∀ b o, b ∉ fp → s.heap.get? b = some o → h'.get? b = some o) → Q (some (.ref T)) { s with heap := h' }) → wpAny (model P w) A (pyNext (.ref I)) Q E s
  done : ∀ {E : Value → Shared → Prop} {s : Shared} {Q : Option Value → Shared → Prop}, St n s.heap → (∀ h', (∀ b o, b ∉ fp → s.heap.get? b = some o → h'.get? b = some o) → Q none { s with heap := h' }) → wpAny (model P w) A (pyNext (.ref I)) Q E s
abbrev lstAt (h : Heap) (S : Addr) (acc : Array Value) (c : Nat) : Prop := h.get? S = some { cls := .type "list", dict := none, data := .seq acc c, slots := #[] }
/-- what the list has: the made things, in their order -/
structure Made (lo : Nat) (Ok : Nat → Addr → Heap → Prop) (h : Heap) (as : List Addr) : Prop where
  ok : ∀ (j : Nat) (T : Addr), as[j]? = some T → Ok j T h
  lo : ∀ T ∈ as, lo ≤ T
  up : as.Pairwise (· < ·)
section
variable {P : Program} {w : World} {A : Around} {E : Value → Shared → Prop} {s : Shared} {I S : Addr} {fp : List Addr} {n : Nat} {Ok : Nat → Addr → Heap → Prop} {St : Nat → Heap → Prop}
theorem make_loop (M : Maker P w A.in1 I S fp n Ok St) (hn : n ≤ sizeLine) (res : Value) {h1 : Heap} {lo : Nat} {R : Result → Shared → Prop}
    (q : ∀ h' tk acc c as, (∀ b o, b ≠ S → b ∉ fp → h1.get? b = some o → h'.get? b = some o) → lstAt h' S acc c → acc.toList = as.map Value.ref → as.length = n → Made lo Ok h' as → R (.ok (.ret res)) { s with heap := h', toks := tk }) :
    ∀ (k i : Nat) (h : Heap) (tk c : Nat) (acc : Array Value) (as : List Addr), n - i = k → i ≤ n → St i h → (∀ b o, b ≠ S → b ∉ fp → h1.get? b = some o → h.get? b = some o) → lstAt h S acc c → acc.toList = as.map Value.ref → as.length = i → Made lo Ok h as → (∀ T ∈ as, T < h.objs.size) → lo ≤ h.objs.size →
      codeAny (model P w) A (.builtin "list.extend.loop" ⟨[.ref S, .ref I, res], []⟩) R { s with heap := h, toks := tk } := by
  intro k
  induction k with
  | zero =>
    intro i h tk c acc as hk hi st kp hS ha hl md _ _
    have e : i = n := by omega
    subst e
    refine codeAny_builtin PySem.F.entry_extend_loop ?_
    rw [Around.under_plainId PySem.F.plain_extend_loop _]
    show wpAny _ A.in1 (pyNext (.ref I) >>= _) _ _ _
    refine wpAny_bind (M.done (s := { s with heap := h, toks := tk }) st fun h' k' => ?_)
    exact wpAny_pure (q h' tk acc c as (fun b o x y e => k' b o y (kp b o x y e)) (k' S _ M.nS hS) ha hl ⟨fun j T e => M.okKeep (md.ok j T e) fun b o _ y e => k' b o y e, md.lo, md.up⟩)
  | succ k ih =>
    intro i h tk c acc as hk hi st kp hS ha hl md hin hlo
    have lt : i < n := by omega
    have sz : acc.size = i := by rw [← Array.length_toList, ha, List.length_map, hl]
    have hSl : S < h.objs.size := Heap.lt_size hS
    refine codeAny_builtin PySem.F.entry_extend_loop ?_
    rw [Around.under_plainId PySem.F.plain_extend_loop _]
    show wpAny _ A.in1 (pyNext (.ref I) >>= _) _ _ _
    refine wpAny_bind (M.item (s := { s with heap := h, toks := tk }) lt st hSl fun T h' hT hT' ok st' k' => ?_)
    dsimp only at hT k' ⊢
    have hS' := k' S _ M.nS hS
    have other : ∀ b o, b ≠ S → h'.get? b = some o → (h'.update S (Obj.mapSeq (·.push (Value.ref T)))).get? b = some o := fun b o hb e => (Heap.get?_update_other _ _ (Ne.symm hb)).trans e
    have osz : (h'.update S (Obj.mapSeq (·.push (Value.ref T)))).objs.size = h'.objs.size := Heap.size_update ..
    have hge : h.objs.size ≤ h'.objs.size := Nat.le_trans hT (Nat.le_of_lt hT')
    show wpAny _ A.in1 (updateSeq S (·.push (Value.ref T)) >>= _) _ _ _
    refine wpAny_bind (wpAny_updateSeq hS' rfl (wpAny_pure ⟨plainId_quiet PySem.F.plain_extend_loop _, ih (i + 1) _ tk _ (acc.push (Value.ref T)) (as ++ [T]) (by omega) lt (M.frame st' other)
      (fun b o x y e => other b o x (k' b o y (kp b o x y e))) (Heap.get?_update_self _ hS' rfl) (by rw [Array.toList_push, ha, List.map_append]; rfl) (by rw [List.length_append, hl]; rfl) ⟨fun j b e => ?_, fun b hb => ?_, ?_⟩ (fun b hb => ?_) (by rw [osz]; exact Nat.le_trans hlo hge)⟩) (by rw [sz]; omega) (by show (acc.push (Value.ref T)).size ≤ sizeLine + 1; rw [Array.size_push, sz]; omega))
    · by_cases hj : j < as.length
      · rw [List.getElem?_append_left hj] at e
        exact M.okKeep (md.ok j b e) fun b o x y e => other b o x (k' b o y e)
      · have jl := (List.getElem?_eq_some_iff.mp e).1
        rw [List.length_append, List.length_singleton] at jl
        have ej : j = as.length := by omega
        subst ej
        rw [List.getElem?_append_right (Nat.le_refl _), Nat.sub_self] at e
        cases e
        rw [hl]
        exact M.okKeep ok fun b o x _ e => other b o x e
    · rcases List.mem_append.mp hb with hb | hb
      · exact md.lo b hb
      · rw [List.mem_singleton.mp hb]
        exact Nat.le_trans hlo hT
    · refine List.pairwise_append.mpr ⟨md.up, List.pairwise_singleton .., fun x hx y hy => ?_⟩
      rw [List.mem_singleton.mp hy]
      exact Nat.lt_of_lt_of_le (hin x hx) hT
    · rw [osz]
      rcases List.mem_append.mp hb with hb | hb
      · exact Nat.lt_of_lt_of_le (hin b hb) hge
      · rw [List.mem_singleton.mp hb]
        exact hT'
end
end LZ
set_option Elab.async false
set_option linter.all false
set_option maxRecDepth 100000
set_option maxHeartbeats 3200000
/-! list(r), where r's iterator makes new things. -/
namespace LZ
open PySem PySem.Spec PyProof.Rows L2
section
variable {P : Program} {w : World} {A : Around} {E : Value → Shared → Prop} {s : Shared} {I S r : Addr} {fp own : List Addr} {n : Nat} {Ok : Addr → Nat → Addr → Heap → Prop} {St : Addr → Nat → Heap → Prop} {Ty : String}
/-- what is asked of r: its type, a silent length hint, its iterator (where the list S stands beside) -/
structure Source (P : Program) (w : World) (A : Around) (Ty : String) (r I : Addr) (fp own : List Addr) (n : Nat) (Ok : Addr → Nat → Addr → Heap → Prop) (St : Addr → Nat → Heap → Prop) (G : Heap → Prop) : Prop where
  mine : r ∈ own
  type : ∀ {s : Shared}, G s.heap → s.TypeIs (.ref r) Ty
  notL : (Value.type Ty == Value.type "list") = false
  notT : (Value.type Ty == Value.type "tuple") = false
  hint : ∀ {A : Around} {E : Value → Shared → Prop} {s : Shared} {Q : Bool → Shared → Prop}, s.TypeIs (.ref r) Ty → (∀ b, Q b s) → wpAny (model P w) A (Builtin.List.listLengthHint (.ref r)) Q E s
  iter : ∀ {E : Value → Shared → Prop} {s : Shared} {Q : Value → Shared → Prop}, G s.heap → Q (.ref I) s → wpAny (model P w) A.in1 (pyIter (.ref r)) Q E s
  begin : ∀ {h : Heap} {S : Addr}, G h → St S 0 h
  keep : ∀ {h h' : Heap} {S : Addr}, G h → S ∉ own → (∀ b o, b ≠ S → h.get? b = some o → h'.get? b = some o) → G h'
  make : ∀ S, S ∉ own → Maker P w A.in1 I S fp n (Ok S) (St S)
theorem extend_ok {G : Heap → Prop} (Z : Source P w A Ty r I fp own n Ok St G) (hG : G s.heap) (hn : n ≤ sizeLine) (nS : S ∉ own) {c0 : Nat} (hS : s.heap.get? S = some { cls := .type "list", data := .seq #[] c0 }) (res : Value) {R : Result → Shared → Prop}
    (q : ∀ h' tk acc c as, (∀ b o, b ≠ S → b ∉ fp → s.heap.get? b = some o → h'.get? b = some o) → lstAt h' S acc c → acc.toList = as.map Value.ref → as.length = n → Made s.heap.objs.size (Ok S) h' as → R (.ok (.ret res)) { s with heap := h', toks := tk }) :
    wpAny (model P w) A.in1 (Builtin.List.listExtendWith (.ref S) (.ref r) res)
      (fun fin s' => match fin with | .done f => R (.ok f) s' | .again c' => c'.quiet = true ∧ codeAny (model P w) A c' R s') (fun e s' => R (.error e) s') s := by
  have nSr : S ≠ r := fun z => nS (by rw [z]; exact Z.mine)
  have hT := Z.type hG
  have key : ∀ (h : Heap) (c1 tk : Nat), (∀ b o, b ≠ S → s.heap.get? b = some o → h.get? b = some o) → h.objs.size = s.heap.objs.size → h.get? S = some { cls := .type "list", data := .seq #[] c1 } →
      codeAny (model P w) A (.builtin "list.extend.loop" ⟨[.ref S, .ref I, res], []⟩) R { s with heap := h, toks := tk } := fun h c1 tk k hz hS1 =>
    make_loop (Z.make S nS) hn res (h1 := s.heap) (lo := s.heap.objs.size) q n 0 h tk c1 #[] [] (Nat.sub_zero _) (Nat.zero_le _) (Z.begin (Z.keep hG nS k)) (fun b o x _ e => k b o x e) hS1 rfl rfl ⟨(fun j T e => by cases e), (fun T hT => by cases hT), .nil⟩ (fun T hT => by cases hT) (Nat.le_of_eq hz.symm)
  unfold Builtin.List.listExtendWith
  refine wpAny_bind (wpAny_typeOf hT ?_)
  have e1 : Builtin.List.listSameRef (.ref S) (.ref r) = false := by simp [Builtin.List.listSameRef, nSr]
  simp only [e1, Z.notL, Z.notT, Bool.or_false, Bool.false_eq_true, if_false]
  refine wpAny_bind (Z.iter hG ?_)
  refine wpAny_bind (wpAny_holding (Z.hint hT fun b => ?_))
  refine wpAny_ite_split (fun _ => ?_) (fun _ => wpAny_pure ⟨plainId_quiet PySem.F.plain_extend_loop _, key _ c0 _ (fun b o _ e => e) rfl hS⟩)
  refine wpAny_bind (wpAny_rule ?_)
  refine wpAny_bind ?_
  show wpAny _ _ (updateSeq S (·.push .none) >>= fun _ => updateSeq S (·.pop)) _ _ _
  refine wpAny_bind (wpAny_updateSeq hS rfl ?_)
  have h2 := Heap.get?_update_self (Obj.mapSeq (·.push Value.none)) hS rfl
  refine wpAny_updateSeq (hz := by seq_fits) h2 rfl ?_
  have h3 := Heap.get?_update_self (Obj.mapSeq (·.pop)) h2 rfl
  refine wpAny_pure ⟨plainId_quiet PySem.F.plain_extend_loop _, key _ _ _ (fun b o hb e => ?_) ?_ h3⟩
  · exact (Heap.get?_update_other _ _ (Ne.symm hb)).trans ((Heap.get?_update_other _ _ (Ne.symm hb)).trans e)
  · rw [Heap.size_update, Heap.size_update]
/-- list(r) -/
theorem list_of {G : Heap → Prop} (Z : Source P w A.in1 Ty r I fp own n Ok St G) (hG : G s.heap) (hn : n ≤ sizeLine) (old : ∀ b ∈ own, b < s.heap.objs.size) {Q : Value → Shared → Prop}
    (q : ∀ h' tk acc c as, (∀ b o, b ∉ fp → s.heap.get? b = some o → h'.get? b = some o) → lstAt h' s.heap.objs.size acc c → acc.toList = as.map Value.ref → as.length = n → Made (s.heap.objs.size + 1) (Ok s.heap.objs.size) h' as → Q (.ref s.heap.objs.size) { s with heap := h', toks := tk }) :
    wpAny (model P w) A (call (.type "list") [.ref r]) Q E s := by
  refine callType_codes (Q₁ := fun obj s₁ => obj = .ref s.heap.objs.size ∧ s₁ = { s with heap := s.heap.push { cls := .type "list", data := .seq #[] } }) PySem.F.called_list (PySem.F.typeCall_list_1 _) PySem.F.entry_list_init
    (code_list_new _ ⟨rfl, rfl⟩) fun obj s₁ h₁ => ?_
  obtain ⟨rfl, rfl⟩ := h₁
  have hS : (s.heap.push { cls := .type "list", data := .seq #[] }).get? s.heap.objs.size = some { cls := .type "list", data := .seq #[] } := Heap.get?_push_size _ rfl
  have nS : s.heap.objs.size ∉ own := fun z => Nat.lt_irrefl _ (old _ z)
  refine ⟨⟨_, hS, rfl⟩, PySem.F.args_list_init_2 _ _, ?_⟩
  show wpAny _ _ (do let old ← Builtin.List.listItems (.ref s.heap.objs.size); Builtin.List.listUpdate (.ref s.heap.objs.size) (fun _ => #[]); letGo old.toList.reverse; Builtin.List.listExtendWith (.ref s.heap.objs.size) (.ref r) .none) _ _ _
  refine wpAny_bind ?_
  unfold Builtin.List.listItems
  refine wpAny_bind (wpAny_seqItems hS rfl (wpAny_pure ?_))
  show wpAny _ _ (updateSeq s.heap.objs.size (fun _ => #[]) >>= fun _ => letGo (#[] : Array Value).toList.reverse >>= fun _ => Builtin.List.listExtendWith (.ref s.heap.objs.size) (.ref r) .none) _ _ _
  refine wpAny_bind (wpAny_updateSeq hS rfl ?_)
  have hS2 := Heap.get?_update_self (Obj.mapSeq (fun _ => (#[] : Array Value))) hS rfl
  have kp : ∀ b o, s.heap.get? b = some o → ((s.heap.push { cls := .type "list", data := .seq #[] }).update s.heap.objs.size (Obj.mapSeq (fun _ => (#[] : Array Value)))).get? b = some o := fun b o e =>
    (Heap.get?_update_other _ _ (Nat.ne_of_gt (Heap.lt_size e))).trans (Heap.get?_push_of_some _ e)
  have sz2 : ((s.heap.push { cls := .type "list", data := .seq #[] }).update s.heap.objs.size (Obj.mapSeq (fun _ => (#[] : Array Value)))).objs.size = s.heap.objs.size + 1 := by rw [Heap.size_update, Heap.size_push]
  refine wpAny_bind (wpAny_letGo ?_)
  refine extend_ok (s := { s with heap := (s.heap.push { cls := .type "list", data := .seq #[] }).update s.heap.objs.size (Obj.mapSeq (fun _ => (#[] : Array Value))) }) Z (Z.keep hG nS fun b o _ e => kp b o e) hn nS hS2 .none fun h' tk acc c as k a1 a2 a3 a4 => ?_
  dsimp only at a4 k
  rw [sz2] at a4
  exact ⟨rfl, q h' tk acc c as (fun b o x e => k b o (Nat.ne_of_lt (Heap.lt_size e)) x (kp b o e)) a1 a2 a3 a4⟩
end
end LZ
set_option Elab.async false
set_option linter.all false
set_option maxRecDepth 100000
set_option maxHeartbeats 3200000
/-! list(zip(xs, ys)) of two lists. -/
namespace LZ
open PySem PySem.Spec PyProof.Rows L2
section
variable {P : Program} {w : World} {A : Around} {E : Value → Shared → Prop} {s : Shared}
theorem end_more {z TI TO T i1 i2 l1 l2 : Addr} {k1 : Nat} {f : Bool} {oT : Obj} {xs : Array Value} {Q : Fin → Shared → Prop} (hh : A.handled = none) (D : ZipApart z TI TO i1 i2 l1 l2)
    (hz : Zip2 s.heap z TI TO T f) (hTI : IsPair s.heap TI (.ref i1) (.ref i2)) (hT : s.heap.get? T = some oT) (h1 : s.heap.IsListIter i1 l1 k1) (hl1 : s.heap.IsList l1 xs) (hx : xs[k1]? = none)
    (hE : ∀ h' e, (∀ c o, c ≠ z → c ≠ i1 → s.heap.get? c = some o → h'.get? c = some o) → (∃ o, h'.get? e = some o ∧ o.cls = .type "StopIteration") → E (.ref e) { s with heap := h' }) :
    wpAny (model P w) A (Builtin.«zip.__next__» ⟨[.ref z], []⟩) Q E s := by
  show wpAny _ _ (field (.ref z) 2 >>= _) _ _ _
  refine wpAny_bind (wpAny_field hz rfl (x := .bool false) rfl ?_)
  show wpAny _ _ (field (.ref z) 3 >>= _) _ _ _
  refine wpAny_bind (wpAny_field hz rfl (x := .ref TI) rfl ?_)
  refine wpAny_bind (wpAny_seqItems hTI rfl ?_)
  show wpAny _ _ (Builtin.SmallTypes.ownedTupleIsFree (.ref z) >>= _) _ _ _
  refine wpAny_bind ?_
  unfold Builtin.SmallTypes.ownedTupleIsFree
  refine wpAny_bind (wpAny_field hz rfl (x := rawInt T) rfl ?_)
  show wpAny _ _ (loadIfAlive ((T : Int).toNat) >>= _) _ _ _
  rw [Int.toNat_natCast]
  refine wpAny_bind (PySem.W.kdx_alive hT ?_)
  simp only [Option.isNone_some, Bool.false_eq_true, if_false]
  refine wpAny_bind (wpAny_field hz rfl (x := .bool f) rfl ?_)
  cases f with
  | true =>
    rw [if_neg (show ¬ ((Value.bool true != Value.bool true) = true) from Bool.false_ne_true)]
    refine wpAny_pure ?_
    have sb := Heap.SameBut.refl z s.heap
    simp only [Bool.false_eq_true, if_false]
    rw [← Array.forIn_toList]
    simp only [List.forIn_cons, List.forIn_nil]
    refine wpAny_bind (wpAny_bind (wpAny_bind (wpAny_holding ?_)))
    show wpAny _ _ (Builtin.SmallTypes.nextOf (.ref i1) >>= _) _ _ _
    exact wpAny_bind (wpAny_nextOf_list_end hh (h1.extBut sb.extBut D.i1z) (hl1.extBut sb.extBut D.l1z) hx fun h2 e k he => hE h2 e (fun c o c1 c2 x => k _ _ c2 (sb.extBut _ _ c1 x)) he)
  | false =>
    rw [if_pos (show (Value.bool false != Value.bool true) = true from rfl)]
    refine wpAny_bind (wpAny_setField_rec hz (by simp) fun h0 hz0 sb => ?_)
    replace sb : Heap.SameBut z s.heap h0 := sb
    refine wpAny_pure ?_
    simp only [Bool.false_eq_true, if_false]
    rw [← Array.forIn_toList]
    simp only [List.forIn_cons, List.forIn_nil]
    refine wpAny_bind (wpAny_bind (wpAny_bind (wpAny_holding ?_)))
    show wpAny _ _ (Builtin.SmallTypes.nextOf (.ref i1) >>= _) _ _ _
    exact wpAny_bind (wpAny_nextOf_list_end hh (h1.extBut sb.extBut D.i1z) (hl1.extBut sb.extBut D.l1z) hx fun h2 e k he => hE h2 e (fun c o c1 c2 x => k _ _ c2 (sb.extBut _ _ c1 x)) he)
/-- a zip of two lists of n items, n > 0, at the i-th step -/
structure Zs (z TI TO i1 i2 l1 l2 : Addr) (xs ys : Array Value) (S : Addr) (i : Nat) (h : Heap) : Prop where
  last : (i = 0 ∧ IsZip h z TI TO .none ∧ ∃ a b, IsPair h TO a b) ∨ ∃ T f o, T ≠ S ∧ Zip2 h z TI TO T f ∧ h.get? T = some o
  to : ∃ o, h.get? TO = some o
  its : IsPair h TI (.ref i1) (.ref i2)
  a : h.IsListIter i1 l1 i
  b : h.IsListIter i2 l2 i
  x : h.IsList l1 xs
  y : h.IsList l2 ys
def ZOk (fp : List Addr) (xs ys : Array Value) (S : Addr) (j : Nat) (T : Addr) (h : Heap) : Prop := T ≠ S ∧ T ∉ fp ∧ ∃ x y, xs[j]? = some x ∧ ys[j]? = some y ∧ IsPair h T x y
theorem zip_maker {z TI TO i1 i2 l1 l2 S : Addr} {xs ys : Array Value} (hh : A.handled = none) (D : ZipApart z TI TO i1 i2 l1 l2) (hn : xs.size = ys.size) (h0 : 0 < xs.size) (nS : S ∉ [z, TO, i1, i2, TI, l1, l2]) :
    Maker P w A z S [z, TO, i1, i2] xs.size (ZOk [z, TO, i1, i2] xs ys S) (Zs z TI TO i1 i2 l1 l2 xs ys S) := by
  simp only [List.mem_cons, List.not_mem_nil, or_false, not_or] at nS
  obtain ⟨n1, n3, n4, n5, n6, n7, n8⟩ := nS
  refine ⟨by simp only [List.mem_cons, List.not_mem_nil, or_false, not_or]; exact ⟨n1, n3, n4, n5⟩, fun {j T h h'} ⟨a, b, x, y, e1, e2, e3⟩ k => ⟨a, b, x, y, e1, e2, k T _ a b e3⟩, fun {i h h'} st k => ?_, fun {E s i Q} hi st hS q => ?_, fun {E s Q} st q => ?_⟩
  · refine ⟨?_, ?_, k _ _ (Ne.symm n6) st.its, st.a.at fun o e => k _ o (Ne.symm n4) e, st.b.at fun o e => k _ o (Ne.symm n5) e, ?_, ?_⟩
    · rcases st.last with ⟨e, hz, a, b, ht⟩ | ⟨T, f, o, hT, hz, ho⟩
      · exact .inl ⟨e, k _ _ (Ne.symm n1) hz, a, b, k _ _ (Ne.symm n3) ht⟩
      · exact .inr ⟨T, f, o, hT, k _ _ (Ne.symm n1) hz, k _ _ hT ho⟩
    · obtain ⟨o, ho⟩ := st.to
      exact ⟨o, k _ _ (Ne.symm n3) ho⟩
    · obtain ⟨o, ho, r⟩ := st.x
      exact ⟨o, k _ o (Ne.symm n7) ho, r⟩
    · obtain ⟨o, ho, r⟩ := st.y
      exact ⟨o, k _ o (Ne.symm n8) ho, r⟩
  · have hx : xs[i]? = some xs[i] := Array.getElem?_eq_getElem hi
    have hy : ys[i]? = some (ys[i]'(by omega)) := Array.getElem?_eq_getElem _
    generalize xs[i] = x at hx
    generalize ys[i]'(by omega) = y at hy
    have lto : TO < s.heap.objs.size := let ⟨_, e⟩ := st.to; Heap.lt_size e
    have la : i1 < s.heap.objs.size := let ⟨_, e, _⟩ := st.a; Heap.lt_size e
    have lb : i2 < s.heap.objs.size := let ⟨_, e, _⟩ := st.b; Heap.lt_size e
    have fresh : ∀ (h' : Heap) (T : Addr), T = s.heap.objs.size → z < s.heap.objs.size → T ∉ [z, TO, i1, i2] := fun h' T e lz m => by
      subst e
      simp only [List.mem_cons, List.not_mem_nil, or_false] at m
      rcases m with m | m | m | m
      · rw [← m] at lz
        exact Nat.lt_irrefl _ lz
      · rw [← m] at lto
        exact Nat.lt_irrefl _ lto
      · rw [← m] at la
        exact Nat.lt_irrefl _ la
      · rw [← m] at lb
        exact Nat.lt_irrefl _ lb
    have TS : s.heap.objs.size ≠ S := Nat.ne_of_gt hS
    rcases st.last with ⟨_, hz, a, b, hto⟩ | ⟨T, f, o, nT, hz, ho⟩
    · refine wpAny_pyNext_zip_item D hz st.its hto st.a st.b st.x st.y hx hy fun h' a1 a2 a3 a4 a5 a6 a7 => ?_
      refine q _ h' (Nat.le_refl _) (by rw [a6]; exact Nat.lt_succ_self _) ⟨TS, fresh h' _ rfl (Heap.lt_size hz), x, y, hx, hy, a5⟩ ⟨.inr ⟨_, false, _, TS, a1, a5⟩, ⟨_, a2⟩, a7 _ _ D.TIz D.TITO D.TIi1 D.TIi2 st.its, a3, a4, ?_, ?_⟩ fun c o nc e => ?_
      · obtain ⟨o, ho, r⟩ := st.x
        exact ⟨o, a7 _ _ D.l1z D.l1TO D.l1i1 D.l1i2 ho, r⟩
      · obtain ⟨o, ho, r⟩ := st.y
        exact ⟨o, a7 _ _ D.l2z D.l2TO D.l2i1 D.l2i2 ho, r⟩
      · simp only [List.mem_cons, List.not_mem_nil, or_false, not_or] at nc
        exact a7 c o nc.1 nc.2.1 nc.2.2.1 nc.2.2.2 e
    · have hT : s.TypeIs (.ref z) "zip" := ⟨_, hz, rfl⟩
      unfold pyNext
      refine wpAny_bind (wpAny_attempt (wpAny_callSpecial?_slot (name := Str.ofString "__next__") hT F.slot_zip_next (wpAny_call_entry F.slot_zip_next hT F.entry_zip_next
        (next_more D hz st.its ho st.a st.b st.x st.y hx hy fun h' a1 a3 a4 a5 a6 a7 => wpAny_pure ?_) (F.args_zip_next_1 _))))
      refine q _ h' (Nat.le_refl _) (by rw [a6]; exact Nat.lt_succ_self _) ⟨TS, fresh h' _ rfl (Heap.lt_size hz), x, y, hx, hy, a5⟩ ⟨?_, ?_, a7 _ _ D.TIz D.TIi1 D.TIi2 st.its, a3, a4, ?_, ?_⟩ fun c o nc e => ?_
      · by_cases e1 : T = z
        · rw [e1] at nT
          exact .inr ⟨z, true, _, nT, e1 ▸ a1, a1⟩
        · by_cases e2 : T = i1
          · obtain ⟨o', ho', _⟩ := a3
            exact .inr ⟨T, true, o', nT, a1, e2 ▸ ho'⟩
          · by_cases e3 : T = i2
            · obtain ⟨o', ho', _⟩ := a4
              exact .inr ⟨T, true, o', nT, a1, e3 ▸ ho'⟩
            · exact .inr ⟨T, true, o, nT, a1, a7 _ _ e1 e2 e3 ho⟩
      · obtain ⟨o', ho'⟩ := st.to
        exact ⟨o', a7 _ _ D.TOz D.TOi1 D.TOi2 ho'⟩
      · obtain ⟨o, ho, r⟩ := st.x
        exact ⟨o, a7 _ _ D.l1z D.l1i1 D.l1i2 ho, r⟩
      · obtain ⟨o, ho, r⟩ := st.y
        exact ⟨o, a7 _ _ D.l2z D.l2i1 D.l2i2 ho, r⟩
      · simp only [List.mem_cons, List.not_mem_nil, or_false, not_or] at nc
        exact a7 c o nc.1 nc.2.2.1 nc.2.2.2 e
  · have hx : xs[xs.size]? = none := Array.getElem?_eq_none (Nat.le_refl _)
    rcases st.last with ⟨e, _⟩ | ⟨T, f, o, nT, hz, ho⟩
    · omega
    · have hT : s.TypeIs (.ref z) "zip" := ⟨_, hz, rfl⟩
      unfold pyNext
      refine wpAny_bind (wpAny_attempt (wpAny_callSpecial?_slot (name := Str.ofString "__next__") hT F.slot_zip_next (wpAny_call_entry F.slot_zip_next hT F.entry_zip_next (end_more hh D hz st.its ho st.a st.x hx fun h' e k he => ?_) (F.args_zip_next_1 _))))
      obtain ⟨oe, hoe, hce⟩ := he
      refine wpAny_bind (wpAny_isInstance (T := "StopIteration") (b := true) ⟨oe, hoe, hce⟩ isSubtype_stop ?_)
      refine wpAny_pure (q _ fun c o nc e => ?_)
      simp only [List.mem_cons, List.not_mem_nil, or_false, not_or] at nc
      exact k c o nc.1 nc.2.2.1 e
end
end LZ
set_option Elab.async false
set_option linter.all false
set_option maxRecDepth 100000
set_option maxHeartbeats 3200000
/-! list(zip(xs, ys)) as a rule by hand. -/
namespace LZ
open PySem PySem.Spec PyProof.Rows L2
theorem zip_no_len : typeLookup (.type "zip") "__len__" = pure none := by rw [typeLookup_type, builtinLookup_eq_fast]; kernel_rfl
theorem zip_no_hint : typeLookup (.type "zip") "__length_hint__" = pure none := by rw [typeLookup_type, builtinLookup_eq_fast]; kernel_rfl
section
variable {P : Program} {w : World} {A : Around} {E : Value → Shared → Prop} {s : Shared}
theorem zip_hint {r : Addr} {Q : Bool → Shared → Prop} (hT : s.TypeIs (.ref r) "zip") (q : ∀ b, Q b s) : wpAny (model P w) A (Builtin.List.listLengthHint (.ref r)) Q E s := by
  unfold Builtin.List.listLengthHint
  refine wpAny_bind (wpAny_specialOf hT zip_no_len ?_)
  show wpAny _ _ (specialOf (.ref r) "__length_hint__" >>= _) _ _ s
  refine wpAny_bind (wpAny_specialOf hT zip_no_hint ?_)
  exact wpAny_pure (q true)
abbrev zb (h : Heap) : Addr := h.objs.size
/-- list(z), z just made of two lists of one length, not empty -/
theorem list_zip {a b : Addr} {xs ys : Array Value} {Q : Value → Shared → Prop} (hh : A.handled = none) (ha : s.heap.IsList a xs) (hb : s.heap.IsList b ys) (hn : xs.size = ys.size) (h0 : 0 < xs.size) (hz : xs.size ≤ sizeLine)
    (q : ∀ h' tk l acc c as lo, (∀ b o, s.heap.get? b = some o → h'.get? b = some o) → s.heap.objs.size ≤ l → s.heap.objs.size ≤ lo → lstAt h' l acc c → acc.toList = as.map Value.ref → as.length = xs.size →
      Made lo (fun j T h => T ≠ l ∧ ∃ x y, xs[j]? = some x ∧ ys[j]? = some y ∧ IsPair h T x y) h' as → Q (.ref l) { s with heap := h', toks := tk }) :
    wpAny (model P w) A (call (.type "zip") [.ref a, .ref b]) (fun z s' => wpAny (model P w) A (call (.type "list") [z]) Q E s') E s := by
  refine call_zip_2 ha hb fun h1 z1 t1 o1 i1 i2 sz k1 => ?_
  have la : a < s.heap.objs.size := let ⟨_, e, _⟩ := ha; Heap.lt_size e
  have lb : b < s.heap.objs.size := let ⟨_, e, _⟩ := hb; Heap.lt_size e
  have D := PySem.W.ktu_apart s.heap.objs.size a b la lb
  have ha1 : h1.IsList a xs := by
    obtain ⟨o, e, r⟩ := ha
    exact ⟨o, k1 _ _ e, r⟩
  have hb1 : h1.IsList b ys := by
    obtain ⟨o, e, r⟩ := hb
    exact ⟨o, k1 _ _ e, r⟩
  have Z : Source P w A.in1 "zip" (s.heap.objs.size + 4) (s.heap.objs.size + 4) [s.heap.objs.size + 4, s.heap.objs.size + 3, s.heap.objs.size, s.heap.objs.size + 1] [s.heap.objs.size + 4, s.heap.objs.size + 3, s.heap.objs.size, s.heap.objs.size + 1, s.heap.objs.size + 2, a, b] xs.size
      (ZOk [s.heap.objs.size + 4, s.heap.objs.size + 3, s.heap.objs.size, s.heap.objs.size + 1] xs ys) (Zs (s.heap.objs.size + 4) (s.heap.objs.size + 2) (s.heap.objs.size + 3) s.heap.objs.size (s.heap.objs.size + 1) a b xs ys)
      (fun h => IsZip h (s.heap.objs.size + 4) (s.heap.objs.size + 2) (s.heap.objs.size + 3) .none ∧ IsPair h (s.heap.objs.size + 2) (.ref s.heap.objs.size) (.ref (s.heap.objs.size + 1)) ∧ IsPair h (s.heap.objs.size + 3) .none .none ∧ h.IsListIter s.heap.objs.size a 0 ∧ h.IsListIter (s.heap.objs.size + 1) b 0 ∧ h.IsList a xs ∧ h.IsList b ys) := by
    refine ⟨List.mem_cons_self, fun g => ⟨_, g.1, rfl⟩, by decide, by decide, fun hT q => zip_hint hT q, fun g q => wpAny_pyIter_zip g.1 q, fun g => ⟨.inl ⟨rfl, g.1, _, _, g.2.2.1⟩, ⟨_, g.2.2.1⟩, g.2.1, g.2.2.2.1, g.2.2.2.2.1, g.2.2.2.2.2.1, g.2.2.2.2.2.2⟩, fun {h h' S} g nS k => ?_, fun S nS => zip_maker (by simp [hh]) D hn h0 nS⟩
    simp only [List.mem_cons, List.not_mem_nil, or_false, not_or] at nS
    obtain ⟨n1, n2, n3, n4, n5, n6, n7⟩ := nS
    refine ⟨k _ _ (Ne.symm n1) g.1, k _ _ (Ne.symm n5) g.2.1, k _ _ (Ne.symm n2) g.2.2.1, g.2.2.2.1.at fun o e => k _ o (Ne.symm n3) e, g.2.2.2.2.1.at fun o e => k _ o (Ne.symm n4) e, ?_, ?_⟩
    · obtain ⟨o, e, r⟩ := g.2.2.2.2.2.1
      exact ⟨o, k _ o (Ne.symm n6) e, r⟩
    · obtain ⟨o, e, r⟩ := g.2.2.2.2.2.2
      exact ⟨o, k _ o (Ne.symm n7) e, r⟩
  refine list_of (s := { s with heap := h1 }) Z ⟨z1, t1, o1, i1, i2, ha1, hb1⟩ hz (fun c hc => ?_) fun h' tk acc c as k a1 a2 a3 a4 => ?_
  · show c < h1.objs.size
    rw [sz]
    simp only [List.mem_cons, List.not_mem_nil, or_false] at hc
    rcases hc with rfl | rfl | rfl | rfl | rfl | rfl | rfl
    · exact Nat.lt_succ_self _
    · exact Nat.lt_of_lt_of_le (Nat.lt_succ_self _) (Nat.le_succ _)
    · exact Nat.lt_add_of_pos_right (by decide)
    · exact Nat.add_lt_add_left (by decide) _
    · exact Nat.add_lt_add_left (by decide) _
    · exact Nat.lt_of_lt_of_le la (Nat.le_add_right _ _)
    · exact Nat.lt_of_lt_of_le lb (Nat.le_add_right _ _)
  · refine q h' tk _ acc c as (h1.objs.size + 1) (fun d o e => k d o (fun m => ?_) (k1 d o e)) (by show s.heap.objs.size ≤ h1.objs.size; rw [sz]; exact Nat.le_add_right _ _) (by rw [sz]; exact Nat.le_trans (Nat.le_add_right _ 5) (Nat.le_succ _)) a1 a2 a3 ⟨fun j T e => ?_, a4.lo, a4.up⟩
    · have ld := Heap.lt_size e
      simp only [List.mem_cons, List.not_mem_nil, or_false] at m
      rcases m with rfl | rfl | rfl | rfl
      · exact absurd ld (Nat.not_lt.mpr (Nat.le_add_right _ _))
      · exact absurd ld (Nat.not_lt.mpr (Nat.le_add_right _ _))
      · exact Nat.lt_irrefl _ ld
      · exact absurd ld (Nat.not_lt.mpr (Nat.le_add_right _ _))
    · obtain ⟨n1, _, x, y, e1, e2, e3⟩ := a4.ok j T e
      exact ⟨n1, x, y, e1, e2, e3⟩
end
end LZ
set_option Elab.async false
set_option linter.all false
set_option maxRecDepth 100000
set_option maxHeartbeats 3200000
/-! list(zip(xs, ys)): the rule. -/
namespace LZ
open PySem PySem.Spec PyProof.Rows L2
/-- a new list at l of new things at ts, told by c -/
def putL (H : Hp) (l : Addr) (ts : List Addr) (c : Nat → HO) : Hp := fun b => if b = l then some (.lst (ts.map V.ref)) else if b ∈ ts then some (c (ts.idxOf b)) else H b
theorem idx_of : ∀ {ts : List Addr}, ts.Nodup → ∀ {j : Nat} {t : Addr}, ts[j]? = some t → ts.idxOf t = j
  | x :: ts, up, 0, t, e => by
    cases e
    exact List.idxOf_cons_self
  | x :: ts, up, j + 1, t, e => by
    obtain ⟨h1, h2⟩ := List.nodup_cons.mp up
    have e' : ts[j]? = some t := e
    have ne : ¬ x = t := fun z => h1 (z ▸ List.mem_of_getElem? e')
    rw [List.idxOf_cons, beq_false_of_ne ne, cond_false, idx_of h2 e']
theorem up_nodup {ts : List Addr} (up : ts.Pairwise (· < ·)) : ts.Nodup := List.Pairwise.imp (fun {a b} h (e : a = b) => Nat.lt_irrefl b (by rw [e] at h; exact h)) up
theorem vals_at' : ∀ {xs : List V} {us : List Value}, Vals xs us → ∀ {i : Nat} {u : Value}, us[i]? = some u → ∃ x, xs[i]? = some x ∧ RelV x u
  | _, _, .nil, i, u, h => by cases h
  | _, _, .cons r t, 0, u, h => by
    have e := Option.some.inj h
    subst e
    exact ⟨_, rfl, r⟩
  | _, _, .cons r t, i + 1, u, h => vals_at' t h
theorem refs_vals : ∀ ts : List Addr, Vals (ts.map V.ref) (ts.map Value.ref)
  | [] => .nil
  | _ :: ts => .cons rfl (refs_vals ts)
section
variable {X : Cx}
theorem laid_all {pins : List (Addr × Obj)} {σ : L2.St} {H : Hp} {s : Shared} {h' : Heap} {tk : Nat} (I : Inv X pins σ H s) {l : Addr} {ts : List Addr} {acc : Array Value} {c : Nat} {lo : Nat} {cn : Nat → HO} (kp : ∀ b o, s.heap.get? b = some o → h'.get? b = some o) (hl : s.heap.objs.size ≤ l) (hlo : s.heap.objs.size ≤ lo)
    (hL : lstAt h' l acc c) (ha : acc.toList = ts.map Value.ref) (tlo : ∀ t ∈ ts, lo ≤ t) (up : ts.Nodup) (ln : l ∉ ts) (few : ts.length ≤ sizeLine)
    (new : ∀ (j : Nat) (t : Addr), ts[j]? = some t → ObjOk X.prog X.w (putL H l ts cn) h' t (cn j)) :
    H l = none ∧ (∀ t ∈ ts, H t = none) ∧ (∀ b o, H b = some o → putL H l ts cn b = some o) ∧ putL H l ts cn l = some (.lst (ts.map V.ref)) ∧ (∀ (j : Nat) (t : Addr), ts[j]? = some t → putL H l ts cn t = some (cn j)) ∧ Inv X pins σ (putL H l ts cn) { s with heap := h', toks := tk } := by
  have hln : H l = none := I.hok.fresh hl
  have htn : ∀ t ∈ ts, H t = none := fun t m => I.hok.fresh (Nat.le_trans hlo (tlo t m))
  have off : ∀ b, b ≠ l → b ∉ ts → putL H l ts cn b = H b := fun b h1 h2 => by
    unfold putL
    rw [if_neg h1, if_neg h2]
  have hk : ∀ b o, H b = some o → putL H l ts cn b = some o := fun b o e => by
    rw [off b (fun z => by rw [z, hln] at e; cases e) (fun z => by rw [htn b z] at e; cases e)]
    exact e
  have hL' : putL H l ts cn l = some (.lst (ts.map V.ref)) := by
    unfold putL
    rw [if_pos rfl]
  have hT : ∀ (j : Nat) (t : Addr), ts[j]? = some t → putL H l ts cn t = some (cn j) := fun j t e => by
    have m := List.mem_of_getElem? e
    unfold putL
    rw [if_neg (fun z => ln (by rw [← z]; exact m)), if_pos m, idx_of up e]
  have low : ∀ b o, s.heap.get? b = some o → b ≠ l ∧ b ∉ ts := fun b o e => ⟨Nat.ne_of_lt (Nat.lt_of_lt_of_le (Heap.lt_size e) hl), fun z => Nat.lt_irrefl _ (Nat.lt_of_lt_of_le (Heap.lt_size e) (Nat.le_trans hlo (tlo b z)))⟩
  refine ⟨hln, htn, hk, hL', hT, ?_⟩
  refine I.call' (ch := []) rfl ⟨fun b o q _ _ _ => kp b o q, fun b o q _ _ _ => ⟨o.slots, kp b o q⟩, fun b o q n _ => ?_, fun b o q _ => ⟨o, kp b o q⟩, fun b xs q => hk b _ q, fun b o u q => hk b _ q, fun b ps q => ⟨#[], by rw [hk b _ q]; simp⟩⟩ (fun b u q => ?_) I.bare fun b z => by simp at z
  · obtain ⟨z1, z2⟩ := low b o q
    rw [off b z1 z2]
    exact n
  · by_cases hb : b ∈ ts
    · obtain ⟨j, hj⟩ := List.getElem?_of_mem hb
      rw [hT j b hj] at q
      cases q
      exact new j b hj
    · by_cases hb2 : b = l
      · rw [hb2] at q ⊢
        rw [hL'] at q
        cases q
        refine ⟨by rw [List.length_map]; exact few, acc.toList, c, by rw [ha]; exact refs_vals ts, ?_⟩
        rw [Array.toArray_toList]
        exact hL
      · rw [off b hb2 hb] at q
        exact (I.hok b u q).stay (fun d v _ y => kp d v y) (fun d y => hk d _ y) fun d xs y => hk d _ y
def tListZip (K : PySem.W.Frag) (ta : TA) : TE := fun σ H Q => ta σ H fun vs H1 => ∃ (a b : Addr) (xs ys : List V), vs = [.ref a, .ref b] ∧ SqL K H1 a xs ∧ SqL K H1 b ys ∧ xs.length = ys.length ∧ 0 < xs.length ∧ xs.length ≤ 10000 ∧
  ∀ (H' : Hp) (l : Addr) (ts : List Addr), (∀ b o, H1 b = some o → H' b = some o) → H1 l = none → (∀ t ∈ ts, H1 t = none) → l ∉ ts → H' l = some (.lst (ts.map V.ref)) → ts.length = xs.length → (∀ (j : Nat) (t : Addr), ts[j]? = some t → ∃ x y, xs[j]? = some x ∧ ys[j]? = some y ∧ H' t = some (.tup [x, y])) → Q (.ref l) H'
theorem pe_listZip {e e2 : Expr} {ta : TA} {p p2 pos pos2 : Pos} (hc : X.calm = true) (hg : Gl X "list") (hm : X.mg "list" = none) (hv : bootBuiltins "list" = some (.type "list")) (hgz : Gl X "zip") (hmz : X.mg "zip" = none) (ha : PA X [e, e2] ta)
    (hs2 : starEach [e, e2] X.env = (false, eval e X.env) :: starEach [e2] X.env := by rfl) (hpl : (backTo pos2 (starEach [e2] X.env)).any (·.1) = false := by rfl)
    (hs : starEach [.Call (.Name "zip" p2) [e, e2] [] pos2] X.env = (false, eval (.Call (.Name "zip" p2) [e, e2] [] pos2) X.env) :: starEach [] X.env := by rfl) :
    PE X (.Call (.Name "list" p) [.Call (.Name "zip" p2) [e, e2] [] pos2] [] pos) (tListZip X.K ta) := by
  refine ⟨fun pins s σ H Q I hq => ?_⟩
  refine wpAny_Call_Name_kw (ld_blt I hg hm hv ?_)
  refine PyProof.Rows.callWith_type1 ?_ hs rfl
  rw [hs]
  show wpAny _ _ (spliced ((false, eval (.Call (.Name "zip" p2) [e, e2] [] pos2) X.env) :: backTo pos (starEach [] X.env))) _ _ s
  refine Calls.spliced_cons ?_
  refine Call_ (ld_blt I hgz hmz PyProof.Rows.boot_zip (PyProof.Rows.callWith_type1 (thn (ha.run pos2 pins s σ H _ I hq) fun us s1 ⟨vs, H1, I1, r1, q1⟩ => ?_) hs2 hpl))
  obtain ⟨a, b, xs, ys, rfl, Sa, Sb, ln, l0, lz, q⟩ := q1
  cases r1 with
  | cons r rr =>
    cases rr with
    | cons r' rr =>
      cases rr
      cases r
      cases r'
      obtain ⟨its, rv, pl, _⟩ := I1.list Sa
      obtain ⟨its2, rv2, pl2, _⟩ := I1.list Sb
      have n1 : its.toArray.size = xs.length := by rw [List.size_toArray, ← rv.length]
      have n2 : its2.toArray.size = ys.length := by rw [List.size_toArray, ← rv2.length]
      refine wpAny_mono (list_zip (A := X.A) (Q := EP X pins σ Q) (I1.ok.hd hc) pl.isList pl2.isList (by rw [n1, n2, ln]) (by rw [n1]; exact l0) (by rw [n1, sizeLine_eq]; omega) fun h' tk l acc c as lo kp hl hlo hL hacc has md => ?_) (fun z s' hz => ?_) fun _ _ x => x
      · have item : ∀ (j : Nat) (t : Addr), as[j]? = some t → t ≠ l ∧ ∃ vx vy x y, xs[j]? = some vx ∧ ys[j]? = some vy ∧ RelV vx x ∧ RelV vy y ∧ IsPair h' t x y := fun j t e => by
          obtain ⟨nl, x, y, ex, ey, pr⟩ := md.ok j t e
          rw [← Array.getElem?_toList] at ex ey
          obtain ⟨vx, h1, h2⟩ := vals_at' rv (i := j) (u := x) ex
          obtain ⟨vy, h3, h4⟩ := vals_at' rv2 (i := j) (u := y) ey
          exact ⟨nl, vx, vy, x, y, h1, h3, h2, h4, pr⟩
        have ln' : l ∉ as := fun m => by
          obtain ⟨j, hj⟩ := List.getElem?_of_mem m
          exact (item j l hj).1 rfl
        have asl : as.length = xs.length := by rw [has, n1]
        obtain ⟨k1, k2, k3, k4, k5, J⟩ := laid_all (cn := fun j => .tup [xs.getD j .non, ys.getD j .non]) (tk := tk) I1 kp hl hlo hL hacc md.lo (up_nodup md.up) ln' (by rw [asl, sizeLine_eq]; omega) fun j t e => by
          obtain ⟨_, vx, vy, x, y, e1, e2, r1, r2, pr⟩ := item j t e
          have d1 : xs.getD j .non = vx := by rw [List.getD_eq_getElem?_getD, e1]; rfl
          have d2 : ys.getD j .non = vy := by rw [List.getD_eq_getElem?_getD, e2]; rfl
          rw [d1, d2]
          exact ⟨by show 2 ≤ sizeLine; decide, [x, y], .cons r1 (.cons r2 .nil), ⟨_, pr, rfl, _, rfl⟩⟩
        refine ⟨.ref l, _, J, rfl, q _ l as k3 k1 k2 ln' k4 asl fun j t e => ?_⟩
        obtain ⟨_, vx, vy, x, y, e1, e2, _⟩ := item j t e
        refine ⟨vx, vy, e1, e2, ?_⟩
        rw [k5 j t e, List.getD_eq_getElem?_getD, List.getD_eq_getElem?_getD, e1, e2]
        rfl
      · refine Calls.spliced_nil ?_
        exact hz
end
end LZ
set_option Elab.async false
set_option linter.all false
set_option maxRecDepth 100000
set_option maxHeartbeats 3200000
/-! The items of a dict of any keys, taken into a list. -/
namespace LZ
open PySem PySem.Spec PyProof.Rows L2 PySem.W
/-- the item iterator at I of the dict at d, at the i-th step -/
structure Is (I d : Addr) (es : Array DictEntry) (ep : Nat) (S : Addr) (i : Nat) (h : Heap) : Prop where
  last : (i = 0 ∧ IsItemIter h I d 0 es.size ep .none .none) ∨ ∃ a f ok ov o, a ≠ S ∧ a ≠ I ∧ KdxIt h I d i es.size ep ok ov a f ∧ h.get? a = some o
  dict : h.DictRaw d es ep
def IOk (I : Addr) (es : Array DictEntry) (S : Addr) (j : Nat) (T : Addr) (h : Heap) : Prop := T ≠ S ∧ T ≠ I ∧ ∃ e, es[j]? = some e ∧ h.get? T = some { cls := .type "tuple", data := .seq #[e.key, e.val] }
section
variable {P : Program} {w : World} {A : Around} {E : Value → Shared → Prop} {s : Shared}
theorem items_maker {I d S : Addr} {es : Array DictEntry} {ep : Nat} (hh : A.handled = none) (nSI : S ≠ I) (nSd : S ≠ d) (ndI : d ≠ I) : Maker P w A I S [I] es.size (IOk I es S) (Is I d es ep S) := by
  have one : ∀ {b : Addr}, b ∉ [I] → b ≠ I := fun {b} h z => h (List.mem_singleton.mpr z)
  refine ⟨fun m => nSI (List.mem_singleton.mp m), fun {j T h h'} ⟨a, b, e, e1, e2⟩ k => ⟨a, b, e, e1, k T _ a (fun m => b (List.mem_singleton.mp m)) e2⟩, fun {i h h'} st k => ⟨?_, st.dict.at fun o e => k d o (Ne.symm nSd) e⟩, fun {E s i Q} hi st hS q => ?_, fun {E s Q} st q => ?_⟩
  · rcases st.last with ⟨e, it⟩ | ⟨a, f, ok, ov, o, n1, n2, it, ho⟩
    · exact .inl ⟨e, k _ _ (Ne.symm nSI) it⟩
    · exact .inr ⟨a, f, ok, ov, o, n1, n2, k _ _ (Ne.symm nSI) it, k _ _ n1 ho⟩
  · have lt : es[i]? = some es[i] := Array.getElem?_eq_getElem hi
    have TS : s.heap.objs.size ≠ S := Nat.ne_of_gt hS
    rcases st.last with ⟨e, it⟩ | ⟨a, f, ok, ov, o, n1, n2, it, ho⟩
    · subst e
      have TI : s.heap.objs.size ≠ I := Nat.ne_of_gt (Heap.lt_size it)
      refine wpAny_pyNext_items_item_raw it st.dict hi fun h' a1 a2 a3 a4 => q _ h' (Nat.le_refl _) (by rw [a3]; exact Nat.lt_succ_self _) ⟨TS, TI, _, lt, a2⟩ ⟨.inr ⟨_, false, _, _, _, TS, TI, a1, a2⟩, st.dict.at fun o e => a4 d o ndI e⟩ fun b o nb e => a4 b o (one nb) e
    · have TI : s.heap.objs.size ≠ I := Nat.ne_of_gt (Heap.lt_size it)
      refine wpAny_pyNext_items_item_out_raw it ho n2 st.dict hi fun h' a1 a2 a3 a4 => q _ h' (Nat.le_refl _) (by rw [a3]; exact Nat.lt_succ_self _) ⟨TS, TI, _, lt, a2⟩ ⟨.inr ⟨a, true, _, _, o, n1, n2, a1, a4 _ _ n2 ho⟩, st.dict.at fun o e => a4 d o ndI e⟩ fun b o nb e => a4 b o (one nb) e
  · rcases st.last with ⟨e, it⟩ | ⟨a, f, ok, ov, o, n1, n2, it, ho⟩
    · rw [← e] at it
      exact wpAny_pyNext_items_end_raw hh it st.dict (Nat.le_refl _) fun h' x => q h' fun b o nb e => x b o (one nb) e
    · exact wpAny_pyNext_items_end_out_raw hh it st.dict (Nat.le_refl _) fun h' x => q h' fun b o nb e => x b o (one nb) e
/-- a list that is filled with the items of the view r -/
theorem extend_items {r d S : Addr} {es : Array DictEntry} {ep : Nat} (hh : A.handled = none) (hv : s.heap.IsItemsView r d) (hm : s.heap.DictRaw d es ep) (hn : es.size ≤ sizeLine) (nSr : S ≠ r) (nSd : S ≠ d) {c0 : Nat} (hS : s.heap.get? S = some { cls := .type "list", data := .seq #[] c0 }) (res : Value) {R : Result → Shared → Prop}
    (q : ∀ h' tk acc c as, (∀ b o, b ≠ S → s.heap.get? b = some o → h'.get? b = some o) → lstAt h' S acc c → acc.toList = as.map Value.ref → as.length = es.size → Made (s.heap.objs.size + 1) (IOk s.heap.objs.size es S) h' as → R (.ok (.ret res)) { s with heap := h', toks := tk }) :
    wpAny (model P w) A.in1 (Builtin.List.listExtendWith (.ref S) (.ref r) res)
      (fun fin s' => match fin with | .done f => R (.ok f) s' | .again c' => c'.quiet = true ∧ codeAny (model P w) A c' R s') (fun e s' => R (.error e) s') s := by
  have nSI : S ≠ s.heap.objs.size := Nat.ne_of_lt (Heap.lt_size hS)
  have ndI : d ≠ s.heap.objs.size := Nat.ne_of_lt hm.lt_size
  have M : Maker P w A.in1 s.heap.objs.size S [s.heap.objs.size] es.size (IOk s.heap.objs.size es S) (Is s.heap.objs.size d es ep S) := items_maker (by simpa using hh) nSI nSd ndI
  unfold Builtin.List.listExtendWith
  refine wpAny_bind (wpAny_typeOf (T := "dict_items") hv.typeIs ?_)
  have e1 : Builtin.List.listSameRef (.ref S) (.ref r) = false := by simp [Builtin.List.listSameRef, nSr]
  simp only [e1, show (Value.type "dict_items" == Value.type "list") = false by decide, show (Value.type "dict_items" == Value.type "tuple") = false by decide, Bool.or_false, Bool.false_eq_true, if_false]
  refine wpAny_bind (wpAny_pyIter_items_raw hv hm ?_)
  have k1 : ∀ b o, s.heap.get? b = some o → (s.heap.push { cls := .type "dict_itemiterator", data := .fields #[.none, .bool false, .ref d, .int 0 0, .int es.size 0, .int ep 0, .none, .none] }).get? b = some o := fun b o e => Heap.get?_push_of_some _ e
  have it1 : IsItemIter (s.heap.push { cls := .type "dict_itemiterator", data := .fields #[.none, .bool false, .ref d, .int 0 0, .int es.size 0, .int ep 0, .none, .none] }) s.heap.objs.size d 0 es.size ep .none .none := Heap.get?_push_size _ rfl
  have sz1 : (s.heap.push { cls := .type "dict_itemiterator", data := .fields #[.none, .bool false, .ref d, .int 0 0, .int es.size 0, .int ep 0, .none, .none] }).objs.size = s.heap.objs.size + 1 := Heap.size_push ..
  generalize s.heap.push { cls := .type "dict_itemiterator", data := .fields #[.none, .bool false, .ref d, .int 0 0, .int es.size 0, .int ep 0, .none, .none] } = h1 at k1 it1 sz1 ⊢
  have key : ∀ (h : Heap) (c1 tk : Nat), (∀ b o, b ≠ S → h1.get? b = some o → h.get? b = some o) → h.objs.size = h1.objs.size → h.get? S = some { cls := .type "list", data := .seq #[] c1 } →
      codeAny (model P w) A (.builtin "list.extend.loop" ⟨[.ref S, .ref s.heap.objs.size, res], []⟩) R { s with heap := h, toks := tk } := fun h c1 tk k hz hS1 =>
    make_loop M hn res (h1 := h1) (lo := s.heap.objs.size + 1) (fun h' tk acc c as x1 x2 x3 x4 x5 => q h' tk acc c as (fun b o x e => x1 b o x (fun m => by rw [List.mem_singleton.mp m] at e; exact Nat.lt_irrefl _ (Heap.lt_size e)) (k1 b o e)) x2 x3 x4 x5) es.size 0 h tk c1 #[] [] (Nat.sub_zero _) (Nat.zero_le _)
      ⟨.inl ⟨rfl, k _ _ (Ne.symm nSI) it1⟩, hm.at fun o e => k d o (Ne.symm nSd) (k1 d o e)⟩ (fun b o x _ e => k b o x e) hS1 rfl rfl ⟨(fun j T e => by cases e), (fun T hT => by cases hT), .nil⟩ (fun T hT => by cases hT) (by rw [hz, sz1]; exact Nat.le_refl _)
  have hS1 := k1 _ _ hS
  refine wpAny_bind (wpAny_holding (kdx_hint (let ⟨o, ho, hc, _⟩ := hv; ⟨o, k1 _ _ ho, hc⟩) ?_))
  refine wpAny_ite_split (fun _ => ?_) (fun _ => wpAny_pure ⟨plainId_quiet PySem.F.plain_extend_loop _, key _ c0 _ (fun b o _ e => e) rfl hS1⟩)
  refine wpAny_bind (wpAny_rule ?_)
  refine wpAny_bind ?_
  show wpAny _ _ (updateSeq S (·.push .none) >>= fun _ => updateSeq S (·.pop)) _ _ _
  refine wpAny_bind (wpAny_updateSeq hS1 rfl ?_)
  have h2 := Heap.get?_update_self (Obj.mapSeq (·.push Value.none)) hS1 rfl
  refine wpAny_updateSeq (hz := by seq_fits) h2 rfl ?_
  have h3 := Heap.get?_update_self (Obj.mapSeq (·.pop)) h2 rfl
  refine wpAny_pure ⟨plainId_quiet PySem.F.plain_extend_loop _, key _ _ _ (fun b o hb e => ?_) ?_ h3⟩
  · exact (Heap.get?_update_other _ _ (Ne.symm hb)).trans ((Heap.get?_update_other _ _ (Ne.symm hb)).trans e)
  · rw [Heap.size_update, Heap.size_update]
/-- the items of the view r, collected -/
theorem collect_items {r d : Addr} {es : Array DictEntry} {ep : Nat} (hh : A.handled = none) (hv : s.heap.IsItemsView r d) (hm : s.heap.DictRaw d es ep) (hn : es.size ≤ sizeLine) {R : List Value → Shared → Prop}
    (q : ∀ (h' : Heap) (tk : Nat) (as : List Addr), (∀ b o, s.heap.get? b = some o → h'.get? b = some o) → as.length = es.size → s.heap.objs.size ≤ h'.objs.size →
      (∀ (j : Nat) (T : Addr), as[j]? = some T → s.heap.objs.size ≤ T ∧ ∃ e, es[j]? = some e ∧ h'.get? T = some { cls := .type "tuple", data := .seq #[e.key, e.val] }) → as.Pairwise (· < ·) → R (as.map Value.ref) { s with heap := h', toks := tk }) : wpAny (model P w) A (collect (.ref r)) R E s := by
  have lr : r < s.heap.objs.size := let ⟨_, ho, _⟩ := hv; Heap.lt_size ho
  have ld : d < s.heap.objs.size := hm.lt_size
  unfold collect
  refine wpAny_bind (wpAny_runValue (codeAny_builtin entry_proto_collect' ?_))
  rw [Around.under_plainId PySem.F.plain_proto_collect _]
  show wpAny _ A.in1 (newList [] >>= fun l => again (.builtin "list.__iadd__" ⟨[l, .ref r], []⟩)) _ _ s
  refine wpAny_bind (wpAny_newObj_type ?_)
  refine wpAny_pure ⟨plainId_quiet PySem.F.plain_list_iadd _, codeAny_builtin entry_list_iadd' ?_⟩
  rw [Around.under_plainId PySem.F.plain_list_iadd _]
  have hS : (s.heap.push { cls := .type "list", data := .seq ([] : List Value).toArray }).get? s.heap.objs.size = some { cls := .type "list", data := .seq #[] } := Heap.get?_push_size _ rfl
  have szS : (s.heap.push { cls := .type "list", data := .seq ([] : List Value).toArray }).objs.size = s.heap.objs.size + 1 := Heap.size_push ..
  show wpAny _ A.in1 (Builtin.List.listExtendWith (.ref s.heap.objs.size) (.ref r) (.ref s.heap.objs.size)) _ _ _
  have key := extend_items (P := P) (w := w) (A := A) (s := { s with heap := s.heap.push { cls := .type "list", data := .seq ([] : List Value).toArray } }) (r := r) (d := d) (S := s.heap.objs.size) (es := es) (ep := ep)
    (R := fun (x : Result) (s' : Shared) => ∃ h' tk acc c as, x = .ok (.ret (.ref s.heap.objs.size)) ∧ s' = { s with heap := h', toks := tk } ∧ lstAt h' s.heap.objs.size acc c ∧ R acc.toList { s with heap := h', toks := tk })
    hh (let ⟨o, ho, x⟩ := hv; ⟨o, Heap.get?_push_of_some _ ho, x⟩) (hm.push _) hn (Nat.ne_of_gt lr) (Nat.ne_of_gt ld) hS (.ref s.heap.objs.size) (fun h' tk acc c as k x1 x2 x3 x4 => ⟨h', tk, acc, c, as, rfl, rfl, x1, by
      rw [x2]
      refine q h' tk as (fun b o e => k b o (Nat.ne_of_lt (Heap.lt_size e)) (Heap.get?_push_of_some _ e)) x3 (Nat.le_of_lt (Heap.lt_size x1)) (fun j T e => ?_) x4.up
      obtain ⟨_, _, en, e1, e2⟩ := x4.ok j T e
      have := x4.lo T (List.mem_of_getElem? e)
      have lo2 : s.heap.objs.size + 1 + 1 ≤ T := by
        rw [← szS]
        exact this
      exact ⟨by omega, en, e1, e2⟩⟩)
  refine wpAny_mono key (fun fin s' x => ?_) fun e s' x => ?_
  · cases fin with
    | done f =>
      obtain ⟨h', tk, acc, c, as, e, rfl, hl, x⟩ := x
      cases e
      show wpAny _ A (load s.heap.objs.size >>= _) _ _ _
      exact wpAny_bind (wpAny_load hl (wpAny_pure x))
    | again c1 =>
      refine ⟨x.1, codeAny_mono x.2 fun y s2 z => ?_⟩
      obtain ⟨h', tk, acc, c, as, rfl, rfl, hl, z⟩ := z
      show wpAny _ A (load s.heap.objs.size >>= _) _ _ _
      exact wpAny_bind (wpAny_load hl (wpAny_pure z))
  · obtain ⟨_, _, _, _, _, e', _⟩ := x
    cases e'
end
end LZ
set_option Elab.async false
set_option linter.all false
set_option maxRecDepth 100000
set_option maxHeartbeats 3200000
/-! sorted(d.items()), d's keys tuples of ints and texts of one shape, its values texts. -/
namespace LZ
open PySem PySem.Spec PyProof.Rows L2 PySem.W SM
/-- an item as data -/
def eI (p : List Key × Str) : PyData := .tuple [kT p.1, .str p.2]
theorem alike_item {p r : List Key × Str} (h : shpK p.1 = shpK r.1) : alike (eI p) (eI r) = true := by
  unfold eI
  rw [alike]
  simp only [alikeAll, alike_tup h, Bool.true_and, Bool.and_true]
  simp [alike]
theorem dep_item (p : List Key × Str) : (eI p).depth ≤ 4 := by
  have := dep_tup p.1
  show max (kT p.1).depth (max (PyData.str p.2).depth 0) + 1 ≤ 4
  have e : (PyData.str p.2).depth = 0 := rfl
  rw [e]
  omega
section
variable {P : Program} {w : World} {A : Around} {E : Value → Shared → Prop} {s : Shared}
theorem sorted_items {r d : Addr} {es : Array DictEntry} {ep : Nat} {xs : List (Addr × List Key × Str)} (hh : A.handled = none) (hv : s.heap.IsItemsView r d) (hm : s.heap.DictRaw d es ep) (hz : es.size ≤ 1000) (hu : A.units + 8 < cLine)
    (he : ∀ (j : Nat) (e : DictEntry), es[j]? = some e → ∃ p t, xs[j]? = some p ∧ e.key = .ref p.1 ∧ e.val = .str p.2.2 t ∧ (tupE P w).is s.heap p.2.1 p.1) (hl : xs.length = es.size) {sh : List Bool} (hs : ∀ p ∈ xs, shpK p.2.1 = sh) {Q : Value → Shared → Prop}
    (q : ∀ s' l (out : Array Value) (c : Nat) (N : List (Addr × Addr × List Key × Str)), (∀ b o, s.heap.get? b = some o → s'.heap.get? b = some o) → s'.gens = s.gens → s'.os = s.os → s.heap.objs.size ≤ l → s'.heap.get? l = some (seqObj "list" out c) → out.toList = N.map (fun n => Value.ref n.1) →
      (N.map (·.2)).Perm xs → N.Pairwise (fun x y => dataLt (eI y.2.2) (eI x.2.2) = false) → (N.map (·.1)).Nodup → (∀ n ∈ N, n.1 ≠ l ∧ s.heap.objs.size ≤ n.1 ∧ ∃ t, s'.heap.get? n.1 = some { cls := .type "tuple", data := .seq #[.ref n.2.1, .str n.2.2.2 t] }) → Q (.ref l) s') :
    wpAny (model P w) A (call (.builtin "sorted") [.ref r]) Q E s := by
  refine Calls.call_function_entry kind_sorted plain_sorted entry_sorted (args_sorted1 _) ?_
  unfold Builtin.«sorted»
  refine wpAny_bind (m := checkCount "sorted" 1 1 _) (wpAny_pure ?_)
  refine wpAny_bind (collect_items (A := A.in1) (by simpa using hh) hv hm (by rw [sizeLine_eq]; omega) fun h' tk as kp al hge item up => ?_)
  -- the new tuples with what they hold
  have nd0 := up_nodup up
  obtain ⟨M0, m1, m2⟩ : ∃ M0 : List (Addr × Addr × List Key × Str), M0.map (·.1) = as ∧ M0.map (·.2) = xs := ⟨as.zip xs, List.map_fst_zip (by omega), List.map_snd_zip (by omega)⟩
  have ml : M0.length = es.size := by rw [← hl, ← m2, List.length_map]
  have at0 : ∀ n ∈ M0, s.heap.objs.size ≤ n.1 ∧ n.2 ∈ xs ∧ (tupE P w).is s.heap n.2.2.1 n.2.1 ∧ ∃ t, h'.get? n.1 = some { cls := .type "tuple", data := .seq #[.ref n.2.1, .str n.2.2.2 t] } := fun n hn => by
    obtain ⟨j, hj⟩ := List.getElem?_of_mem hn
    have a1 : as[j]? = some n.1 := by rw [← m1, List.getElem?_map, hj]; rfl
    have a2 : xs[j]? = some n.2 := by rw [← m2, List.getElem?_map, hj]; rfl
    obtain ⟨lo, e, e1, e2⟩ := item j _ a1
    obtain ⟨p, t, b1, b2, b3, b4⟩ := he j e e1
    rw [a2] at b1
    cases b1
    rw [b2, b3] at e2
    exact ⟨lo, List.mem_of_getElem? a2, b4, t, e2⟩
  rw [← m1, List.map_map]
  refine wpAny_bind (wpAny_newList ?_ (by rw [List.length_map, ml, sizeLine_eq]; omega))
  have oN : (h'.push (seqObj "list" (M0.map (Value.ref ∘ (·.1))).toArray 0)).get? h'.objs.size = some (seqObj "list" (M0.map (Value.ref ∘ (·.1))).toArray 0) := Heap.get?_push_size _ rfl
  have each : ∀ N : List (Addr × Addr × List Key × Str), (∀ n ∈ N, n ∈ M0) → EachIs (fun v n => v = Value.ref n.1) (N.map (Value.ref ∘ (·.1))) N ∧
      EachIs (fun v (n : Addr × Addr × List Key × Str) => ∃ bs, Reads (h'.push (seqObj "list" (M0.map (Value.ref ∘ (·.1))).toArray 0)) v (eI n.2.2) bs ∧ h'.objs.size ∉ bs) (N.map (Value.ref ∘ (·.1))) N := fun N => by
    induction N with
    | nil => intro _; exact ⟨.nil, .nil⟩
    | cons n N ih =>
      intro h
      obtain ⟨e1, e2⟩ := ih fun x hx => h x (List.mem_cons_of_mem _ hx)
      obtain ⟨_, _, b4, t, e3⟩ := at0 n (h n List.mem_cons_self)
      refine ⟨.cons rfl e1, .cons ⟨[], ?_, List.not_mem_nil⟩ e2⟩
      have rk : Reads (h'.push (seqObj "list" (M0.map (Value.ref ∘ (·.1))).toArray 0)) (.ref n.2.1) (kT n.2.2.1) [] := reads_tup (P := P) (w := w) ((tupE P w).keep b4 fun o e => Heap.get?_push_of_some _ (kp _ o e))
      exact .tuple (Heap.get?_push_of_some _ e3) rfl rfl (ReadsAll.cons (as := []) (bs := []) rk (ReadsAll.cons (as := []) (bs := []) (.str _ _) .nil))
  obtain ⟨e1, e2⟩ := each M0 fun n hn => hn
  refine wpAny_bind (wpAny_holding (list_sort_data (s := { s with heap := h'.push (seqObj "list" (M0.map (Value.ref ∘ (·.1))).toArray 0), toks := tk }) (enc := fun n : Addr × Addr × List Key × Str => eI n.2.2) oN e1 e2 ?_ (.inl ?_) (by rw [ml, sizeLine_eq]; omega) (fun n hn => ?_) fun out ho ho' => ?_))
  · intro x hx y hy
    obtain ⟨n, hn, rfl⟩ := List.mem_map.mp hx
    obtain ⟨k, hk, rfl⟩ := List.mem_map.mp hy
    exact alike_item ((hs _ (at0 n hn).2.1).trans (hs _ (at0 k hk).2.1).symm)
  · intro x hx
    obtain ⟨n, hn, rfl⟩ := List.mem_map.mp hx
    exact ⟨_, _, rfl⟩
  · have := dep_item n.2.2
    show A.units + 1 + 1 + (eI n.2.2).depth < cLine
    omega
  · obtain ⟨c, hc⟩ := sortedHeap_at (vs := M0.map (Value.ref ∘ (·.1))) (out := out.toArray) oN
    have out_eq : ∀ {os : List Value} {N : List (Addr × Addr × List Key × Str)}, EachIs (fun v n => v = Value.ref n.1) os N → os = N.map fun n => Value.ref n.1 := fun {os N} e => by
      induction e with
      | nil => rfl
      | cons h _ ih => rw [h, ih]; rfl
    have oe := out_eq ho'
    generalize hM : M0.mergeSort (dataLe false fun n : Addr × Addr × List Key × Str => eI n.2.2) = N at ho' oe
    have pN : N.Perm M0 := hM ▸ List.mergeSort_perm _ _
    have uN : N.Pairwise fun x y => dataLt (eI y.2.2) (eI x.2.2) = false := by
      rw [← hM]
      refine (sort_pairwise (sortLe_total _ _ _) _).imp fun {x y} z => ?_
      have z' : (!dataLt (eI y.2.2) (eI x.2.2)) = true := z
      rwa [Bool.not_eq_true'] at z'
    have keep2 : ∀ b o, h'.get? b = some o → (sortedHeap (h'.push (seqObj "list" (M0.map (Value.ref ∘ (·.1))).toArray 0)) h'.objs.size (M0.map (Value.ref ∘ (·.1))) out.toArray).get? b = some o := fun b o e => by
      have lt := Heap.lt_size e
      rw [sortedHeap_old (Nat.ne_of_lt lt) (by rw [size_push']; exact Nat.lt_succ_of_lt lt)]
      exact Heap.get?_push_of_some _ e
    refine wpAny_pure ⟨_, rfl, q _ h'.objs.size out.toArray c N (fun b o e => keep2 b o (kp b o e)) rfl rfl hge hc (by rw [List.toList_toArray, oe]) (by rw [← m2]; exact pN.map _) uN (by rw [← m1] at nd0; exact (pN.map (·.1)).nodup_iff.mpr nd0) fun n hn => ?_⟩
    obtain ⟨lo, _, _, t, e3⟩ := at0 n (pN.mem_iff.mp hn)
    exact ⟨Nat.ne_of_lt (Heap.lt_size e3), lo, t, keep2 _ _ e3⟩
end
end LZ
set_option Elab.async false
set_option linter.all false
set_option maxRecDepth 100000
set_option maxHeartbeats 3200000
/-! sorted(e.items()): the rule. -/
namespace LZ
open PySem PySem.Spec PyProof.Rows L2 PySem.W SM
section
variable {X : Cx}
theorem laid_allS {pins : List (Addr × Obj)} {σ : L2.St} {H : Hp} {s s2 : Shared} (I : Inv X pins σ H s) (so : s2.os = s.os) (sg : s2.gens = s.gens) {l : Addr} {ts : List Addr} {acc : Array Value} {c : Nat} {lo : Nat} {cn : Nat → HO} (kp : ∀ b o, s.heap.get? b = some o → s2.heap.get? b = some o) (hl : s.heap.objs.size ≤ l) (hlo : s.heap.objs.size ≤ lo)
    (hL : lstAt s2.heap l acc c) (ha : acc.toList = ts.map Value.ref) (tlo : ∀ t ∈ ts, lo ≤ t) (up : ts.Nodup) (ln : l ∉ ts) (few : ts.length ≤ sizeLine)
    (new : ∀ (j : Nat) (t : Addr), ts[j]? = some t → ObjOk X.prog X.w (putL H l ts cn) s2.heap t (cn j)) :
    H l = none ∧ (∀ t ∈ ts, H t = none) ∧ (∀ b o, H b = some o → putL H l ts cn b = some o) ∧ putL H l ts cn l = some (.lst (ts.map V.ref)) ∧ (∀ (j : Nat) (t : Addr), ts[j]? = some t → putL H l ts cn t = some (cn j)) ∧ Inv X pins σ (putL H l ts cn) s2 := by
  have hln : H l = none := I.hok.fresh hl
  have htn : ∀ t ∈ ts, H t = none := fun t m => I.hok.fresh (Nat.le_trans hlo (tlo t m))
  have off : ∀ b, b ≠ l → b ∉ ts → putL H l ts cn b = H b := fun b h1 h2 => by
    unfold putL
    rw [if_neg h1, if_neg h2]
  have hk : ∀ b o, H b = some o → putL H l ts cn b = some o := fun b o e => by
    rw [off b (fun z => by rw [z, hln] at e; cases e) (fun z => by rw [htn b z] at e; cases e)]
    exact e
  have hL' : putL H l ts cn l = some (.lst (ts.map V.ref)) := by
    unfold putL
    rw [if_pos rfl]
  have hT : ∀ (j : Nat) (t : Addr), ts[j]? = some t → putL H l ts cn t = some (cn j) := fun j t e => by
    have m := List.mem_of_getElem? e
    unfold putL
    rw [if_neg (fun z => ln (by rw [← z]; exact m)), if_pos m, idx_of up e]
  have low : ∀ b o, s.heap.get? b = some o → b ≠ l ∧ b ∉ ts := fun b o e => ⟨Nat.ne_of_lt (Nat.lt_of_lt_of_le (Heap.lt_size e) hl), fun z => Nat.lt_irrefl _ (Nat.lt_of_lt_of_le (Heap.lt_size e) (Nat.le_trans hlo (tlo b z)))⟩
  refine ⟨hln, htn, hk, hL', hT, ?_⟩
  refine I.call' (ch := []) so ⟨fun b o q _ _ _ => kp b o q, fun b o q _ _ _ => ⟨o.slots, kp b o q⟩, fun b o q n _ => ?_, fun b o q _ => ⟨o, kp b o q⟩, fun b xs q => hk b _ q, fun b o u q => hk b _ q, fun b ps q => ⟨#[], by rw [hk b _ q]; simp⟩⟩ (fun b u q => ?_) (by rw [sg]; exact I.bare) fun b z => by simp at z
  · obtain ⟨z1, z2⟩ := low b o q
    rw [off b z1 z2]
    exact n
  · by_cases hb : b ∈ ts
    · obtain ⟨j, hj⟩ := List.getElem?_of_mem hb
      rw [hT j b hj] at q
      cases q
      exact new j b hj
    · by_cases hb2 : b = l
      · rw [hb2] at q ⊢
        rw [hL'] at q
        cases q
        refine ⟨by rw [List.length_map]; exact few, acc.toList, c, by rw [ha]; exact refs_vals ts, ?_⟩
        rw [Array.toArray_toList]
        exact hL
      · rw [off b hb2 hb] at q
        exact (I.hok b u q).stay (fun d v _ y => kp d v y) (fun d y => hk d _ y) fun d xs y => hk d _ y
end
/-- the items of a tracked dict of tuples to texts -/
theorem kt_xs {H : Hp} : ∀ {ps : List (List Key × Str)} {m : List (List Key × Addr × Value)}, KT H (ps.map fun p => (p.1, V.str p.2)) m →
    ∃ xs : List (Addr × List Key × Str), xs.map (·.2) = ps ∧ xs.length = m.length ∧ (∀ p ∈ xs, H p.1 = some (.tup (p.2.1.map kV))) ∧
      ∀ (j : Nat) (x : List Key × Addr × Value), m[j]? = some x → ∃ p t, xs[j]? = some p ∧ x.2.1 = p.1 ∧ x.2.2 = .str p.2.2 t
  | [], [], _ => ⟨[], rfl, rfl, (fun p h => nomatch h), fun j x e => by cases e⟩
  | [], _ :: _, h => nomatch h
  | _ :: _, [], h => nomatch h
  | p :: ps, x :: m, h => by
    cases h with
    | cons r t =>
      obtain ⟨xs, e1, e2, e3, e4⟩ := kt_xs t
      obtain ⟨r1, r2, tk, r3⟩ := r
      refine ⟨(x.2.1, p.1, p.2) :: xs, by simp [e1], by simp [e2], fun q hq => ?_, fun j y e => ?_⟩
      · rcases List.mem_cons.mp hq with rfl | hq
        · exact r2
        · exact e3 q hq
      · cases j with
        | zero =>
          cases e
          exact ⟨_, tk, rfl, rfl, r3⟩
        | succ j =>
          exact e4 j y e
def tSortItems (te : TE) : TE := fun σ H Q => te σ H fun x H1 => ∃ (d : Addr) (ps : List (List Key × Str)) (sh : List Bool), x = .ref d ∧ H1 d = some (.dT (ps.map fun p => (p.1, V.str p.2))) ∧ ps.length ≤ 1000 ∧ (∀ p ∈ ps, shpK p.1 = sh) ∧
  ∀ (H' : Hp) (l : Addr) (N : List (Addr × Addr × List Key × Str)), (∀ b o, H1 b = some o → H' b = some o) → H1 l = none → (∀ n ∈ N, H1 n.1 = none ∧ n.1 ≠ l) → (N.map (·.1)).Nodup → H' l = some (.lst (N.map fun n => V.ref n.1)) → (N.map (·.2.2)).Perm ps →
    N.Pairwise (fun x y => dataLt (eI y.2.2) (eI x.2.2) = false) → (∀ n ∈ N, H' n.1 = some (.tup [.ref n.2.1, .str n.2.2.2]) ∧ H1 n.2.1 = some (.tup (n.2.2.1.map kV))) → Q (.ref l) H'
section
variable {X : Cx} {e : Expr} {te : TE} {p apos cpos pos : Pos}
theorem pe_sortItems (hc : X.calm = true) (hu : X.A.units + 16 < cLine) (hg : Gl X "sorted") (hm : X.mg "sorted" = none) (he : PE X e te) (hbase : attributeBase e "items" X.env (eval e X.env) = eval e X.env := by rfl) (hline : (apos.endLine == cpos.line) = true := by rfl)
    (hse : starEach [Expr.Call (.Attribute e "items" apos) [] [] cpos] X.env = [(false, eval (Expr.Call (.Attribute e "items" apos) [] [] cpos) X.env)] := by rfl) :
    PE X (.Call (.Name "sorted" p) [.Call (.Attribute e "items" apos) [] [] cpos] [] pos) (tSortItems te) := by
  refine ⟨fun pins s σ H Q I hq => ?_⟩
  refine wpAny_Call_Name_kw (ld_blt I hg hm (u := .builtin "sorted") (by first | rfl | decide +kernel) ?_ (by first | decide +kernel | decide) (by first | decide +kernel | decide))
  rw [hse]
  refine PySem.callWith_builtin1 (wpAny_Call_method (T := "dict") (id := "dict.items") hbase rfl hline F.plainAttrs_dict F.slot_dict_items F.type_dict_items (thn (he.run pins s σ H _ I hq) fun u s1 ⟨x, H1, I1, rx, d, ps, sh, ex, hd, few, hs, q⟩ => ?_))
  subst ex
  obtain rfl : u = Value.ref d := rx
  obtain ⟨hz, hs0, m, kt, o, es, ep, ho, hx, hdat, hes, _⟩ := dt_of I1.hok hd
  have raw : s1.heap.DictRaw d es ep := ⟨o, ho, hx, hdat⟩
  obtain ⟨xs, x1, x2, x3, x4⟩ := kt_xs kt
  have sz : es.size = xs.length := by
    have : es.toList.length = m.length := by rw [hes, List.length_map]
    rw [Array.length_toList] at this
    rw [this, x2]
  have xl : xs.length = ps.length := by rw [← x1, List.length_map]
  have I2 : Inv X pins σ H1 { s1 with heap := s1.heap.push { cls := .type "dict_items", data := .fields #[.ref d] } } := I1.kept (t' := s1.toks) fun b ob q => Heap.get?_push_of_some _ q
  refine ⟨raw.typeIs, (let ⟨_, h1, h2, _⟩ := raw; fun b eb => by cases eb; exact ⟨_, h1, h2.2.1⟩), ?_⟩
  show wpAny _ _ (callWith cpos (.builtin "dict.items") [.ref d] [] []) _ X.xe s1
  refine method_meetsIn F.slot_dict_items F.entry_dict_items rfl (PySem.evalArgs_none ⟨rfl, raw.typeIs, F.args_dict_items_1 _, _, meets_dict_items_raw d hs0, ⟨es, ep, raw⟩, ?_⟩)
  refine sorted_items (es := es) (ep := ep) (d := d) (xs := xs) (sh := sh) (I1.ok.hd hc) ⟨_, Heap.get?_push_size _ rfl, rfl, rfl⟩ (raw.push _) (by omega) (by omega) (fun j en ej => ?_) (by omega) (fun p hp => hs p.2 (by rw [← x1]; exact List.mem_map_of_mem hp)) fun s' l out c N kp sg so hl hL oN pm up nd it => ?_
  · have e3 : es.toList[j]? = some en := by rw [Array.getElem?_toList]; exact ej
    rw [hes, List.getElem?_map] at e3
    obtain ⟨y, g1, g2⟩ := Option.map_eq_some_iff.mp e3
    obtain ⟨p, t, b1, b2, b3⟩ := x4 j y g1
    refine ⟨p, t, b1, ?_, ?_, ?_⟩
    · rw [← g2, ← b2]
      rfl
    · rw [← g2, ← b3]
      rfl
    · exact (tupE X.prog X.w).keep (key_of I1.hok (x3 p (List.mem_of_getElem? b1))) fun o e => Heap.get?_push_of_some _ e
  · have mem : ∀ n ∈ N, n.2 ∈ xs := fun n hn => pm.mem_iff.mp (List.mem_map_of_mem hn)
    have nl : l ∉ N.map (·.1) := fun h => by
      obtain ⟨n, hn, e⟩ := List.mem_map.mp h
      exact (it n hn).1 e
    have few2 : N.length = ps.length := by
      have := pm.length_eq
      rw [List.length_map] at this
      omega
    have atN : ∀ (j : Nat) (t : Addr), (N.map (·.1))[j]? = some t → ∃ n, N[j]? = some n ∧ n.1 = t := fun j t e => by
      rw [List.getElem?_map] at e
      exact Option.map_eq_some_iff.mp e
    obtain ⟨k1, k2, k3, k4, k5, J⟩ := laid_allS (s2 := s') (l := l) (ts := N.map (·.1)) (acc := out) (c := c) (lo := (s1.heap.push { cls := .type "dict_items", data := .fields #[.ref d] }).objs.size) (cn := fun j => match N[j]? with | some n => .tup [.ref n.2.1, .str n.2.2.2] | none => .tup []) I2 so sg kp hl (Nat.le_refl _) hL
      (by rw [oN, List.map_map]; rfl) (fun t ht => by obtain ⟨n, hn, e⟩ := List.mem_map.mp ht; rw [← e]; exact (it n hn).2.1) nd nl (by rw [List.length_map, few2, sizeLine_eq]; omega) fun j t e => by
        obtain ⟨n, e1, e2⟩ := atN j t e
        obtain ⟨_, _, tk, e3⟩ := it n (List.mem_of_getElem? e1)
        rw [e2] at e3
        simp only [e1]
        exact ⟨by show 2 ≤ sizeLine; decide, [.ref n.2.1, .str n.2.2.2 tk], .cons rfl (.cons ⟨tk, rfl⟩ .nil), ⟨_, e3, rfl, _, rfl⟩⟩
    refine ⟨.ref l, _, J, rfl, q _ l N k3 k1 (fun n hn => ⟨k2 n.1 (List.mem_map_of_mem hn), (it n hn).1⟩) nd (by rw [k4, List.map_map]; rfl) ?_ up fun n hn => ⟨?_, x3 n.2 (mem n hn)⟩⟩
    · have := pm.map (·.2)
      rw [x1, List.map_map] at this
      exact this
    · obtain ⟨j, hj⟩ := List.getElem?_of_mem hn
      rw [k5 j n.1 (by rw [List.getElem?_map, hj]; rfl)]
      simp only [hj]
end
end LZ
set_option Elab.async false
set_option linter.all false
set_option maxRecDepth 100000
set_option maxHeartbeats 3200000
/-! A dict whose keys are tuples of ints and texts of any standing (SqT), not tracked ones alone. -/
namespace LZ
open PySem PySem.Spec PyProof.Rows L2 PySem.W SM
/-- an entry: the key, where its tuple stands, the value -/
abbrev En := List Key × Addr × V
abbrev KX : List En → List (List Key × Addr × Value) → Prop := Paired fun p q => p.1 = q.1 ∧ p.2.1 = q.2.1 ∧ RelV p.2.2 q.2.2
def getX (es : List En) (k : List Key) : Option V := (es.find? fun e => decide (e.1 = k)).map (·.2.2)
def putX (es : List En) (k : List Key) (b : Addr) (v : V) : List En :=
  if (es.any fun e => decide (e.1 = k)) = true then es.map (fun e => if e.1 = k then (e.1, e.2.1, v) else e) else es ++ [(k, b, v)]
theorem putX_len (es : List En) (k : List Key) (b : Addr) (v : V) : (putX es k b v).length ≤ es.length + 1 := by
  unfold putX
  split
  · rw [List.length_map]; omega
  · rw [List.length_append]; exact Nat.le_refl _
theorem KX.find {es : List En} {xs : List (List Key × Addr × Value)} (r : KX es xs) (k : List Key) : RelO (getX es k) ((atKey xs k).map (·.2)) := by
  induction r with
  | nil => exact True.intro
  | @cons p q ps qs h t ih =>
    obtain ⟨h1, _, h2⟩ := h
    by_cases e : p.1 = k
    · have e' : q.1 = k := h1.symm.trans e
      have b : atKey (q :: qs) k = some q.2 := by simp [atKey, List.find?_cons, e']
      have c : getX (p :: ps) k = some p.2.2 := by simp [getX, List.find?_cons, e]
      rw [b, c]; exact h2
    · have e' : ¬ q.1 = k := fun z => e (h1.trans z)
      have b : atKey (q :: qs) k = atKey qs k := by simp [atKey, List.find?_cons, e']
      have c : getX (p :: ps) k = getX ps k := by simp [getX, List.find?_cons, e]
      rw [b, c]; exact ih
theorem KX.any {es : List En} {xs : List (List Key × Addr × Value)} (r : KX es xs) (k : List Key) : (es.any fun e => decide (e.1 = k)) = (atKey xs k).isSome := by
  induction r with
  | nil => rfl
  | @cons p q ps qs h t ih =>
    obtain ⟨h1, _, h2⟩ := h
    by_cases e : p.1 = k
    · have e' : q.1 = k := h1.symm.trans e
      simp [atKey, List.find?_cons, e, e']
    · have e' : ¬ q.1 = k := fun z => e (h1.trans z)
      have b : atKey (q :: qs) k = atKey qs k := by simp [atKey, List.find?_cons, e']
      rw [List.any_cons, b, decide_eq_false e, Bool.false_or]
      exact ih
theorem KX.repl {es : List En} {xs : List (List Key × Addr × Value)} (r : KX es xs) (k : List Key) {y : V} {u : Value} (ry : RelV y u) :
    KX (es.map fun e => if e.1 = k then (e.1, e.2.1, y) else e) (xs.map (putAt k u)) := by
  induction r with
  | nil => exact .nil
  | @cons p q ps qs h t ih =>
    rw [List.map_cons, List.map_cons]
    refine .cons ?_ ih
    obtain ⟨h1, h2, h3⟩ := h
    unfold putAt
    by_cases e : p.1 = k
    · rw [if_pos e, if_pos (h1.symm.trans e)]; exact ⟨h1, h2, ry⟩
    · rw [if_neg e, if_neg (fun z => e (h1.trans z))]; exact ⟨h1, h2, h3⟩
theorem KX.put {es : List En} {xs : List (List Key × Addr × Value)} (r : KX es xs) (k : List Key) {b : Addr} {y : V} {u : Value} (ry : RelV y u) : KX (putX es k b y) (storedH xs k b u) := by
  unfold putX storedH
  rw [r.any k]
  by_cases q : (atKey xs k).isSome = true
  · rw [if_pos q, if_pos q]; exact r.repl k ry
  · rw [if_neg q, if_neg q]; exact Paired.snoc r ⟨rfl, rfl, ry⟩
/-- the dict at a, of the entries es -/
def dtHO (P : Program) (w : World) (a : Addr) (es : List En) : HO := .ext fun h => (a == sysModules) = false ∧ ∃ xs, KX es xs ∧ ∃ o en ep, h.get? a = some o ∧ o.ExactDict ∧ o.data = .dict en ep ∧ en.toList = xs.map (entryOfKey (tupleKind (mixKind P w))) ∧ (xs.map (·.1)).Nodup
section
variable {P : Program} {w : World} {H : Hp} {h : Heap} {a : Addr} {es : List En}
theorem dtHO_ok (hd : (a == sysModules) = false) {xs : List (List Key × Addr × Value)} (r : KX es xs) {o : Obj} {en : Array DictEntry} {ep : Nat} (h1 : h.get? a = some o) (h2 : o.ExactDict) (h3 : o.data = .dict en ep) (h4 : en.toList = xs.map (entryOfKey (tupleKind (mixKind P w)))) (h5 : (xs.map (·.1)).Nodup) :
    ObjOk P w H h a (dtHO P w a es) :=
  ⟨⟨hd, xs, r, o, en, ep, h1, h2, h3, h4, h5⟩, ⟨o, h1⟩, fun _ _ ⟨hd, xs, r, o, en, ep, h1, h2⟩ k => ⟨hd, xs, r, o, en, ep, k o h1, h2⟩⟩
end
section
variable {X : Cx}
/-- the entries' keys stand -/
def Keys (K : PySem.W.Frag) (H : Hp) (es : List En) : Prop := ∀ e ∈ es, SqT K H e.2.1 (e.1.map kV)
theorem dt_at {pins : List (Addr × Obj)} {σ : L2.St} {H : Hp} {s : Shared} {a : Addr} {es : List En} (I : Inv X pins σ H s) (ha : H a = some (dtHO X.prog X.w a es)) (hk : Keys X.K H es) :
    (a == sysModules) = false ∧ ∃ xs, KX es xs ∧ s.heap.DictOfH (tupleKind (mixKind X.prog X.w)) a xs := by
  obtain ⟨⟨hd, xs, r, o, en, ep, h1, h2, h3, h4, h5⟩, _⟩ := (show ObjOk X.prog X.w H s.heap a (dtHO X.prog X.w a es) from I.hok a _ ha)
  refine ⟨hd, xs, r, o, en, ep, h1, h2, h3, h4, fun x hx => ?_, h5⟩
  have all : ∀ {l : List En} {m : List (List Key × Addr × Value)}, KX l m → Keys X.K H l → ∀ x ∈ m, (tupE X.prog X.w).is s.heap x.1 x.2.1 := by
    intro l m q
    induction q with
    | nil => intro _ x hx; exact nomatch hx
    | @cons p q ps qs hq t ih =>
      intro hk x hx
      rcases List.mem_cons.mp hx with e | hx
      · subst e
        have := tup_at I (hk p List.mem_cons_self)
        rwa [hq.1, hq.2.1] at this
      · exact ih (fun e he => hk e (List.mem_cons_of_mem _ he)) x hx
  exact all r hk x hx
/-- {} -/
def tDNewX (P : Program) (w : World) : TE := fun _ H Q => ∀ p, H p = none → Q (.ref p) (upd H p (dtHO P w p []))
theorem pe_dnewX {pos : Pos} : PE X (.Dict [] [] pos) (tDNewX X.prog X.w) := ⟨fun pins s σ H Q I h =>
  wpAny_Dict_empty ⟨.ref s.heap.objs.size, _, I.laid (a := s.heap.objs.size) (o := dtHO X.prog X.w s.heap.objs.size []) (t' := s.toks) (fun _ _ q => Heap.get?_push_of_some _ q) (Nat.le_refl _)
    (dtHO_ok (beq_eq_false_iff_ne.mpr (Ne.symm (Nat.ne_of_lt I.big))) .nil (Heap.get?_push_size _ rfl) ⟨rfl, rfl, rfl⟩ rfl rfl List.nodup_nil), rfl, h _ (I.hok.fresh (Nat.le_refl _))⟩⟩
/-- d[y] = v -/
def sDPutX (K : PySem.W.Frag) (P : Program) (w : World) (td ty tv : TE) : TS := fun D σ H => tv σ H fun v H1 => td σ H1 fun x H2 => ty σ H2 fun y H3 => ∃ (a b : Addr) (es : List En) (k : List Key), x = .ref a ∧ y = .ref b ∧ H3 a = some (dtHO P w a es) ∧ Keys K H3 es ∧ SqT K H3 b (k.map kV) ∧ es.length < sizeLine ∧
  D.nx σ (upd H3 a (dtHO P w a (putX es k b v)))
theorem ps_dputX {o i value : Expr} {td ty tv : TE} {pos pos' : Pos} (hu : X.A.units + 1 < cLine) (ho : PE X o td) (hi : PE X i ty) (hv : PE X value tv) (hs : swapsWith value (some (.Subscript o i pos')) pos.line X.env = pure false) :
    PS X (.Assign [.Subscript o i pos'] value pos) (sDPutX X.K X.prog X.w td ty tv) := by
  refine ⟨fun pins s σ H D I h => ?_⟩
  refine wpAny_Assign_Subscript (thn (hv.run pins s σ H _ I h) fun r s1 ⟨v, H1, I1, rv, q1⟩ => thn (ho.run pins s1 σ H1 _ I1 q1) fun u s2 ⟨x, H2, I2, rx, q2⟩ => thn (hi.run pins s2 σ H2 _ I2 q2) fun iv s3 ⟨y, H3, I3, ry, a, b, es, k, ex, ey, ha, hk, hb, hl, q3⟩ => ?_) hs
  subst ex ey
  obtain rfl : u = Value.ref a := rx
  obtain rfl : iv = Value.ref b := ry
  obtain ⟨hd, xs, rel, dd⟩ := dt_at I3 ha hk
  refine wpAny_setItem_heap (hsz := by rw [← Paired.length rel]; exact Nat.le_of_lt hl) (tupleKind_room_in1 hu) (tup_at I3 hb) dd fun h' dd' hs => ?_
  obtain ⟨q, en, ep, hq, h2, h3, h4, _, h5⟩ := dd'
  exact ⟨σ, _, d_write I3 (by rw [ha]; exact True.intro) hs ⟨q, hq⟩ (dtHO_ok hd (rel.put k rv) hq h2 h3 h4 h5), q3⟩
/-- sorted(e.items()) -/
def tSortItemsX (K : PySem.W.Frag) (P : Program) (w : World) (te : TE) : TE := fun σ H Q => te σ H fun x H1 => ∃ (d : Addr) (es : List En) (ps : List (Addr × List Key × Str)) (sh : List Bool), x = .ref d ∧ H1 d = some (dtHO P w d es) ∧ Keys K H1 es ∧ es = ps.map (fun p => (p.2.1, p.1, V.str p.2.2)) ∧ ps.length ≤ 1000 ∧ (∀ p ∈ ps, shpK p.2.1 = sh) ∧
  ∀ (H' : Hp) (l : Addr) (N : List (Addr × Addr × List Key × Str)), (∀ b o, H1 b = some o → H' b = some o) → H1 l = none → (∀ n ∈ N, H1 n.1 = none ∧ n.1 ≠ l) → (N.map (·.1)).Nodup → H' l = some (.lst (N.map fun n => V.ref n.1)) → (N.map (·.2)).Perm ps →
    N.Pairwise (fun x y => dataLt (eI y.2.2) (eI x.2.2) = false) → (∀ n ∈ N, H' n.1 = some (.tup [.ref n.2.1, .str n.2.2.2])) → Q (.ref l) H'
theorem kx_str : ∀ {ps : List (Addr × List Key × Str)} {m : List (List Key × Addr × Value)}, KX (ps.map fun p => (p.2.1, p.1, V.str p.2.2)) m → ∀ (j : Nat) (x : List Key × Addr × Value), m[j]? = some x → ∃ p t, ps[j]? = some p ∧ x.2.1 = p.1 ∧ x.2.2 = .str p.2.2 t
  | [], [], _, j, x, e => by cases e
  | [], _ :: _, h, _, _, _ => nomatch h
  | _ :: _, [], h, _, _, _ => nomatch h
  | p :: ps, x :: m, h, j, y, e => by
    cases h with
    | cons r t =>
      obtain ⟨r1, r2, tk, r3⟩ := r
      cases j with
      | zero =>
        cases e
        exact ⟨_, tk, rfl, r2.symm, r3⟩
      | succ j => exact kx_str t j y e
theorem pe_sortItemsX {e : Expr} {te : TE} {p apos cpos pos : Pos} (hc : X.calm = true) (hu : X.A.units + 16 < cLine) (hg : Gl X "sorted") (hm : X.mg "sorted" = none) (he : PE X e te) (hbase : attributeBase e "items" X.env (eval e X.env) = eval e X.env := by rfl) (hline : (apos.endLine == cpos.line) = true := by rfl)
    (hse : starEach [Expr.Call (.Attribute e "items" apos) [] [] cpos] X.env = [(false, eval (Expr.Call (.Attribute e "items" apos) [] [] cpos) X.env)] := by rfl) :
    PE X (.Call (.Name "sorted" p) [.Call (.Attribute e "items" apos) [] [] cpos] [] pos) (tSortItemsX X.K X.prog X.w te) := by
  refine ⟨fun pins s σ H Q I hq => ?_⟩
  refine wpAny_Call_Name_kw (ld_blt I hg hm (u := .builtin "sorted") (by first | rfl | decide +kernel) ?_ (by first | decide +kernel | decide) (by first | decide +kernel | decide))
  rw [hse]
  refine PySem.callWith_builtin1 (wpAny_Call_method (T := "dict") (id := "dict.items") hbase rfl hline F.plainAttrs_dict F.slot_dict_items F.type_dict_items (thn (he.run pins s σ H _ I hq) fun u s1 ⟨x, H1, I1, rx, d, en, ps, sh, ex, hd, hk, hen, few, hs, q⟩ => ?_))
  subst ex hen
  obtain rfl : u = Value.ref d := rx
  obtain ⟨hs0, m, kt, o, es, ep, ho, hx, hdat, hes, his, _⟩ := dt_at I1 hd hk
  have raw : s1.heap.DictRaw d es ep := ⟨o, ho, hx, hdat⟩
  have sz : es.size = ps.length := by
    have : es.toList.length = m.length := by rw [hes, List.length_map]
    have l2 := Paired.length kt
    rw [List.length_map] at l2
    rw [Array.length_toList] at this
    omega
  have I2 : Inv X pins σ H1 { s1 with heap := s1.heap.push { cls := .type "dict_items", data := .fields #[.ref d] } } := I1.kept (t' := s1.toks) fun b ob q => Heap.get?_push_of_some _ q
  refine ⟨raw.typeIs, (let ⟨_, h1, h2, _⟩ := raw; fun b eb => by cases eb; exact ⟨_, h1, h2.2.1⟩), ?_⟩
  show wpAny _ _ (callWith cpos (.builtin "dict.items") [.ref d] [] []) _ X.xe s1
  refine method_meetsIn F.slot_dict_items F.entry_dict_items rfl (PySem.evalArgs_none ⟨rfl, raw.typeIs, F.args_dict_items_1 _, _, meets_dict_items_raw d hs0, ⟨es, ep, raw⟩, ?_⟩)
  refine sorted_items (es := es) (ep := ep) (d := d) (xs := ps) (sh := sh) (I1.ok.hd hc) ⟨_, Heap.get?_push_size _ rfl, rfl, rfl⟩ (raw.push _) (by omega) (by omega) (fun j en ej => ?_) (by omega) hs fun s' l out c N kp sg so hl hL oN pm up nd it => ?_
  · have e3 : es.toList[j]? = some en := by rw [Array.getElem?_toList]; exact ej
    rw [hes, List.getElem?_map] at e3
    obtain ⟨y, g1, g2⟩ := Option.map_eq_some_iff.mp e3
    obtain ⟨p, t, b1, b2, b3⟩ := kx_str kt j y g1
    refine ⟨p, t, b1, ?_, ?_, ?_⟩
    · rw [← g2, ← b2]
      rfl
    · rw [← g2, ← b3]
      rfl
    · exact (tupE X.prog X.w).keep (tup_at I1 (hk _ (List.mem_map_of_mem (List.mem_of_getElem? b1)))) fun o e => Heap.get?_push_of_some _ e
  · have nl : l ∉ N.map (·.1) := fun h => by
      obtain ⟨n, hn, e⟩ := List.mem_map.mp h
      exact (it n hn).1 e
    have few2 : N.length = ps.length := by
      have := pm.length_eq
      rw [List.length_map] at this
      omega
    have atN : ∀ (j : Nat) (t : Addr), (N.map (·.1))[j]? = some t → ∃ n, N[j]? = some n ∧ n.1 = t := fun j t e => by
      rw [List.getElem?_map] at e
      exact Option.map_eq_some_iff.mp e
    obtain ⟨k1, k2, k3, k4, k5, J⟩ := laid_allS (s2 := s') (l := l) (ts := N.map (·.1)) (acc := out) (c := c) (lo := (s1.heap.push { cls := .type "dict_items", data := .fields #[.ref d] }).objs.size) (cn := fun j => match N[j]? with | some n => .tup [.ref n.2.1, .str n.2.2.2] | none => .tup []) I2 so sg kp hl (Nat.le_refl _) hL
      (by rw [oN, List.map_map]; rfl) (fun t ht => by obtain ⟨n, hn, e⟩ := List.mem_map.mp ht; rw [← e]; exact (it n hn).2.1) nd nl (by rw [List.length_map, few2, sizeLine_eq]; omega) fun j t e => by
        obtain ⟨n, e1, e2⟩ := atN j t e
        obtain ⟨_, _, tk, e3⟩ := it n (List.mem_of_getElem? e1)
        rw [e2] at e3
        simp only [e1]
        exact ⟨by show 2 ≤ sizeLine; decide, [.ref n.2.1, .str n.2.2.2 tk], .cons rfl (.cons ⟨tk, rfl⟩ .nil), ⟨_, e3, rfl, _, rfl⟩⟩
    refine ⟨.ref l, _, J, rfl, q _ l N k3 k1 (fun n hn => ⟨k2 n.1 (List.mem_map_of_mem hn), (it n hn).1⟩) nd (by rw [k4, List.map_map]; rfl) pm up fun n hn => ?_⟩
    obtain ⟨j, hj⟩ := List.getElem?_of_mem hn
    rw [k5 j n.1 (by rw [List.getElem?_map, hj]; rfl)]
    simp only [hj]
end
end LZ
set_option Elab.async false
set_option linter.all false
set_option maxRecDepth 100000
set_option maxHeartbeats 400000
/-! The program's def marks_by. -/
namespace K1
open PySem PySem.Spec PyProof.Rows L2 LZ
def keyL (l : Ln) : List Key := [.inr l.1, .inl l.2.1, .inl l.2.2]
theorem keyL_inj {a b : Ln} (h : keyL a = keyL b) : a = b := by
  obtain ⟨a1, a2, a3⟩ := a
  obtain ⟨b1, b2, b3⟩ := b
  simp [keyL] at h
  simp [h]
/-- marks: each line once, the last word of it -/
def putM (ms : List (Ln × Str)) (l : Ln) (s : Str) : List (Ln × Str) := if (ms.any fun p => decide (p.1 = l)) = true then ms.map (fun p => if p.1 = l then (p.1, s) else p) else ms ++ [(l, s)]
theorem putM_len (ms : List (Ln × Str)) (l : Ln) (s : Str) : (putM ms l s).length ≤ ms.length + 1 := by
  unfold putM
  split
  · rw [List.length_map]; omega
  · rw [List.length_append]; exact Nat.le_refl _
/-- c lines put from m on -/
def putN (n : Nm) (m : Nat) : Nat → List (Ln × Str) → List (Ln × Str)
  | 0, ms => ms
  | c + 1, ms => putM (putN n m c ms) (lnAt n (m + c)) "keep"
def markD (n : Nm) (m : Nat) (d : Deed) (ms : List (Ln × Str)) : List (Ln × Str) :=
  match d with
  | .put _ _ ts => putN n m ts.length ms
  | .order _ _ => ms
  | .one c a => putM ms a (kindS c)
def marksM (n : Nm) : List Deed → Nat → List (Ln × Str) → List (Ln × Str)
  | [], _, ms => ms
  | d :: r, m, ms => marksM n r (m + d.texts.length) (markD n m d ms)
theorem marksM_snoc (n : Nm) (d : Deed) : ∀ (ds : List Deed) (m : Nat) (ms : List (Ln × Str)), marksM n (ds ++ [d]) m ms = markD n (m + (ds.flatMap Deed.texts).length) d (marksM n ds m ms)
  | [], m, ms => rfl
  | x :: r, m, ms => by
    show marksM n (r ++ [d]) (m + x.texts.length) (markD n m x ms) = _
    rw [marksM_snoc n d r, List.flatMap_cons, List.length_append, Nat.add_assoc]
    rfl
theorem marksM_step {n : Nm} {ds : List Deed} {i : Nat} {d : Deed} (h : ds[i]? = some d) : marksM n (ds.take (i + 1)) 0 [] = markD n (manyAt ds i) d (marksM n (ds.take i) 0 []) := by
  rw [List.take_add_one, h, Option.toList_some, marksM_snoc, Nat.zero_add]
  rfl
theorem putN_len (n : Nm) (m : Nat) : ∀ (c : Nat) (ms : List (Ln × Str)), (putN n m c ms).length ≤ ms.length + c
  | 0, ms => Nat.le_refl _
  | c + 1, ms => by
    have h1 := putM_len (putN n m c ms) (lnAt n (m + c)) "keep"
    have h2 := putN_len n m c ms
    show (putM (putN n m c ms) (lnAt n (m + c)) "keep").length ≤ _
    omega
theorem markD_len (n : Nm) (m : Nat) (d : Deed) (ms : List (Ln × Str)) : (markD n m d ms).length ≤ ms.length + d.texts.length + 1 := by
  cases d with
  | put a b ts => exact Nat.le_succ_of_le (putN_len n m ts.length ms)
  | order a b => exact Nat.le_add_right _ _
  | one c a => exact putM_len ms a (kindS c)
theorem marksM_len (n : Nm) : ∀ (ds : List Deed) (m : Nat) (ms : List (Ln × Str)), (marksM n ds m ms).length ≤ ms.length + (ds.flatMap Deed.texts).length + ds.length
  | [], m, ms => Nat.le_add_right _ _
  | d :: r, m, ms => by
    have h1 := marksM_len n r (m + d.texts.length) (markD n m d ms)
    have h2 := markD_len n m d ms
    rw [List.flatMap_cons, List.length_append, List.length_cons]
    show (marksM n r (m + d.texts.length) (markD n m d ms)).length ≤ _
    omega
/-- an entry of the program's dict -/
def toEn (p : Addr × Ln × Str) : En := (keyL p.2.1, p.1, V.str p.2.2)
def putP (ps : List (Addr × Ln × Str)) (b : Addr) (l : Ln) (s : Str) : List (Addr × Ln × Str) := if (ps.any fun p => decide (p.2.1 = l)) = true then ps.map (fun p => if p.2.1 = l then (p.1, p.2.1, s) else p) else ps ++ [(b, l, s)]
theorem any_key (l : Ln) : ∀ ps : List (Addr × Ln × Str), ((ps.map toEn).any fun e => decide (e.1 = keyL l)) = ps.any fun p => decide (p.2.1 = l)
  | [] => rfl
  | p :: ps => by
    rw [List.map_cons, List.any_cons, List.any_cons, any_key l ps]
    congr 1
    by_cases h : p.2.1 = l
    · rw [decide_eq_true h, decide_eq_true (show (toEn p).1 = keyL l by rw [← h]; rfl)]
    · rw [decide_eq_false h, decide_eq_false (show ¬ (toEn p).1 = keyL l from fun z => h (keyL_inj z))]
theorem putX_toEn (ps : List (Addr × Ln × Str)) (b : Addr) (l : Ln) (s : Str) : putX (ps.map toEn) (keyL l) b (.str s) = (putP ps b l s).map toEn := by
  unfold putX putP
  rw [any_key]
  split
  · rw [List.map_map, List.map_map]
    refine List.map_congr_left fun p _ => ?_
    show (if keyL p.2.1 = keyL l then _ else _) = toEn (if p.2.1 = l then _ else _)
    by_cases h : p.2.1 = l
    · rw [if_pos h, if_pos (by rw [h])]
      rfl
    · rw [if_neg h, if_neg fun z => h (keyL_inj z)]
  · rw [List.map_append]
    rfl
theorem putP_putM (ps : List (Addr × Ln × Str)) (b : Addr) (l : Ln) (s : Str) : (putP ps b l s).map (·.2) = putM (ps.map (·.2)) l s := by
  unfold putP putM
  rw [List.any_map]
  show _ = if (ps.any fun p => decide (p.2.1 = l)) = true then _ else _
  split
  · rw [List.map_map, List.map_map]
    refine List.map_congr_left fun p _ => ?_
    show (if p.2.1 = l then _ else _ : Addr × Ln × Str).2 = if p.2.1 = l then _ else _
    split <;> rfl
  · rw [List.map_append]
    rfl
theorem putP_keys {ps : List (Addr × Ln × Str)} {b : Addr} {l : Ln} {s : Str} {F : Addr → Ln → Prop} (h : ∀ p ∈ ps, F p.1 p.2.1) (hb : F b l) : ∀ p ∈ putP ps b l s, F p.1 p.2.1 := by
  intro p hp
  unfold putP at hp
  split at hp
  · obtain ⟨x, hx, rfl⟩ := List.mem_map.mp hp
    have := h x hx
    split <;> exact this
  · rcases List.mem_append.mp hp with hp | hp
    · exact h p hp
    · cases List.mem_singleton.mp hp
      exact hb
theorem keys_toEn {K : PySem.W.Frag} {H : Hp} {ps : List (Addr × Ln × Str)} (h : ∀ p ∈ ps, SqT K H p.1 ((keyL p.2.1).map kV)) : Keys K H (ps.map toEn) := fun e he => by
  obtain ⟨p, hp, rfl⟩ := List.mem_map.mp he
  exact h p hp
section
variable {P : Program} {w : World} {K : PySem.W.Frag} {mg : Str → Option Value} {base : Heap} {T : Tp}
/-- a patch's marks, as a dict -/
def MarksAt (P : Program) (w : World) (K : PySem.W.Frag) (H : Hp) (d : Addr) (ms : List (Ln × Str)) : Prop := ∃ ps : List (Addr × Ln × Str), H d = some (dtHO P w d (ps.map toEn)) ∧ ps.map (·.2) = ms ∧ ∀ p ∈ ps, SqT K H p.1 ((keyL p.2.1).map kV)
theorem seqT_dt {H : Hp} {d a : Addr} {es : List En} {o : HO} {xs : List V} (e : H d = some (dtHO P w d es)) (h : SqT K H a xs) : SqT K (upd H d o) a xs := by
  have ne : ∀ {u : HO}, H a = some u → (∀ φ, u ≠ .ext φ) → a ≠ d := fun hu n z => by
    rw [z, e] at hu
    exact n _ (Option.some.inj hu).symm
  rcases h with (h | ⟨u, h⟩) | h
  · exact .inl (.inl ((upd_ne (ne h fun φ z => by cases z)).trans h))
  · exact .inl (.inr ⟨u, (upd_ne (ne h fun φ z => by cases z)).trans h⟩)
  · exact .inr h
theorem MarksAt.new {H : Hp} {d t : Addr} {ms : List (Ln × Str)} {o : HO} (m : MarksAt P w K H d ms) (h : H t = none) : MarksAt P w K (upd H t o) d ms := by
  obtain ⟨ps, e, em, ek⟩ := m
  exact ⟨ps, (upd_ne (ne_of_none e h)).trans e, em, fun p hp => (Sub.new h).seqT (ek p hp)⟩
theorem dt_ntab {a : Addr} {es : List En} : ∀ ps, dtHO P w a es ≠ .tbl ps := fun ps z => by
  unfold dtHO at z
  cases z
def spMarksBy (P : Program) (w : World) (K : PySem.W.Frag) (T : Tp) : Sp := fun vs H Q _ => ∃ (nv : V) (l : Addr) (dvs : List V) (n : Nm) (ds : List Deed), vs = [nv, .ref l] ∧ Dp K H nv (eN n) ∧ SqT K H l dvs ∧ DpAll K H dvs (ds.map eD) ∧ ds.length ≤ 1000 ∧ (ds.flatMap Deed.texts).length ≤ 1000 ∧ TG T H ∧
  ∀ H' d, Go T D0 H H' → H d = none → MarksAt P w K H' d (marksM n ds 0 []) → Q (.ref d) H'
theorem ok_marksby {f : Addr} {fd : FuncData} {k : Nat} (Fn : Fun K "marks_by" "marks_by" sMarksBy f fd) (M : Mg K mg) : FnOk P w K mg base CX0 (k + 1) f fd ["name", "deeds"] (spMarksBy P w K T) := by
  refine Fn.ok scMarksBy (fun vs H Q E h => ?_) (fun cdv A outer s H vs Q E hr h => ?_)
  · obtain ⟨nv, l, dvs, n, ds, rfl, _⟩ := h
    rfl
  · obtain ⟨nv, l, dvs, n, ds, rfl, dn, S, dds, dle, tle, tg, q⟩ := h
    have hu := Nat.lt_of_le_of_lt (Nat.add_le_add_left (show 1 ≤ 64 by decide) _) hr.units
    refine ⟨_, (pss_cons (ps_asg (pv 0) (pg_tup rfl (pgs_cons (pg_name (i := 2) scMarksBy.nd rfl (.inl rfl)) (pgs_cons (pg_name (i := 3) scMarksBy.nd rfl (.inl rfl)) pgs_nil))))
      (pss_cons (ps_set (i := 4) scMarksBy.nd rfl (.inl rfl) pe_int)
      (pss_cons (ps_set (i := 5) scMarksBy.nd rfl (.inl rfl) (show PE _ _ (tDNewX P w) from pe_dnewX))
      (pss_cons (ps_for PassesOwn.never rfl (pi_tup (pv 1)) (pg_name (i := 6) scMarksBy.nd rfl (.inl rfl))
      (pss_cons (ps_if (pt_cmpR op_eq (pe_ix ix_tup (pv 6) pe_int (fun _ _ => rfl)) pe_str (nomark _))
      (pss_one (ps_for PassesOwn.never rfl (pi_tup (pe_ix ix_tup (pv 6) pe_int (fun _ _ => rfl))) (pg_name (i := 7) scMarksBy.nd rfl (.inl rfl))
      (pss_cons (ps_aug (i := 4) scMarksBy.nd rfl (.inl rfl) pe_int ip_add)
      (pss_one (show PS _ _ (sDPutX K P w _ _ _) from ps_dputX hu (pv 5) (pe_tup (pa_cons (pv 2) (pa_cons (pv 3) (pa_cons (pv 4) pa_nil)))) pe_str rfl)))))
      pss_nil)
      (pss_one (ps_if (pt_cmpR op_in_seq (pe_ix ix_tup (pv 6) pe_int (fun _ _ => rfl)) (pe_tup (pa_cons pe_str (pa_cons pe_str pa_nil))) (by rfl))
      (pss_one (show PS _ _ (sDPutX K P w _ _ _) from ps_dputX hu (pv 5) (pe_ix ix_tup (pv 6) pe_int (fun _ _ => rfl)) (pe_ix ix_tup (pv 6) pe_int (fun _ _ => rfl)) rfl))
      pss_nil))))
      (pss_one (ps_ret (pv 5))))))), ?_⟩
    have toH : ∀ {H'}, Go T D0 H H' → Sub H H' := fun g => sub_go g tg
    obtain ⟨an, _, rfl, Sn, d3⟩ := Dp.tupI dn
    obtain ⟨x, y, rfl, d1, d2⟩ := DpAll.i2 d3
    cases Dp.strI d1
    cases Dp.intI d2
    have dlen : dvs.length = ds.length := by rw [DpAll.len dds, List.length_map]
    refine ⟨.ref an, rfl, an, _, rfl, Sn, rfl, _, _, rfl, _, _, rfl, rfl, ?_⟩
    intro d hd
    have g0 : Go T D0 H (upd H d (dtHO P w d [])) := (Go.rfl' tg).new hd
    have e0 : MarksAt P w K (upd H d (dtHO P w d [])) d [] := ⟨[], upd_same, rfl, fun _ z => nomatch z⟩
    generalize upd H d (dtHO P w d []) = H0 at g0 e0 ⊢
    refine ⟨.ref l, rfl, l, rfl, ⟨dvs, (toH g0).seqT S⟩, ?_⟩
    refine for_tup (K := K) (a := l) (xs := dvs) (fun i σ H1 => ∃ (y6 y7 : Option V), σ = [some (.ref an), some (.ref l), some (.str n.1), some (.int n.2), some (.int (manyAt ds i : Nat)), some (.ref d), y6, y7] ∧ Go T D0 H H1 ∧ MarksAt P w K H1 d (marksM n (ds.take i) 0 [])) ?_ ?_ ?_ ?_
    · exact ⟨_, _, rfl, g0, e0⟩
    · rintro i σ H1 hi ⟨_, _, rfl, g, _⟩
      exact (toH g).seqT S
    · rintro i v σ H1 hv ⟨y6, y7, rfl, g, mk⟩
      obtain ⟨d', hd', hv'⟩ := DpAll.at' dds hv
      obtain ⟨dd, hdd, rfl⟩ := at_map hd'
      have step := marksM_step (n := n) hdd
      have ms := manyAt_succ hdd
      have mle : manyAt ds (i + 1) ≤ 1000 := Nat.le_trans (flat_take _ _) tle
      have il : i < ds.length := (List.getElem?_eq_some_iff.mp hdd).1
      have few : (marksM n (ds.take i) 0 []).length ≤ 2000 := by
        have h1 := marksM_len n (ds.take i) 0 []
        have h2 : ((ds.take i).flatMap Deed.texts).length ≤ 1000 := Nat.le_trans (flat_take _ _) tle
        rw [List.length_take, List.length_nil] at h1
        omega
      obtain ⟨a', lvs, tl, rfl, Sd, dl, hcase⟩ := deed_parts hv'
      have SdG : ∀ {H'}, Go T D0 H H' → SqT K H' a' (.str dd.kind :: (lvs ++ tl)) := fun g => (toH g).seqT Sd
      generalize hM : marksM n (ds.take i) 0 [] = M at mk step few
      rw [step, ms]
      generalize manyAt ds i = m at ms mle ⊢
      refine ⟨.ref a', rfl, a', _, 0, .str dd.kind, rfl, rfl, SdG g, atI_nat (j := 0) rfl, rfl, _, rfl, ?_⟩
      cases dd with
      | put a b ts =>
        refine ite2 (fun _ => ?_) (fun e => absurd (decide_eq_true (rfl : V.str (Deed.put a b ts).kind = V.str "put")) e)
        rcases hcase with ⟨_, h2, t, rfl, st⟩ | ⟨n1, _⟩ | ⟨n1, _⟩
        case inr.inl => exact absurd (show ("put" : Str) = "order" from n1) (by decide +kernel)
        case inr.inr => exact absurd rfl n1
        obtain ⟨x, y, rfl⟩ := len2 h2
        refine ⟨.ref a', rfl, a', _, 3, .ref t, rfl, rfl, SdG g, atI_nat (j := 3) rfl, t, rfl, ⟨_, (toH g).seqT st⟩, ?_⟩
        refine for_tup (K := K) (a := t) (xs := ts.map V.str) (fun j σ H2 => ∃ (y7 : Option V), σ = [some (.ref an), some (.ref l), some (.str n.1), some (.int n.2), some (.int ((m + j : Nat) : Int)), some (.ref d), some (.ref a'), y7] ∧ Go T D0 H H2 ∧ MarksAt P w K H2 d (putN n m j M)) ?_ ?_ ?_ ?_
        · exact ⟨_, rfl, g, mk⟩
        · rintro j σ H2 hj ⟨_, rfl, g2, _⟩
          exact (toH g2).seqT st
        · rintro j x σ H2 hx ⟨y7', rfl, g2, mk2⟩
          have hj : j < ts.length := by
            have := (List.getElem?_eq_some_iff.mp hx).1
            rwa [List.length_map] at this
          have tsl : ts.length ≤ 1000 := by
            have e : (Deed.put a b ts).texts = ts := rfl
            rw [e] at ms
            omega
          refine ⟨_, rfl, _, _, rfl, rfl, ?_⟩
          obtain ⟨ps, eP, em, ek⟩ := mk2
          refine ⟨.ref d, rfl, .str n.1, rfl, .int n.2, rfl, .int (((m + j : Nat) : Int) + 1), rfl, small_le (by show 3 ≤ 10000; decide), fun t1 ht1 => ?_⟩
          have n1 : t1 ≠ d := fun z => by rw [z, eP] at ht1; cases ht1
          have g3 := g2.new (o := .tup [V.str n.1, .int n.2, .int (((m + j : Nat) : Int) + 1)]) ht1
          have e3 := (upd_ne (o := .tup [V.str n.1, .int n.2, .int (((m + j : Nat) : Int) + 1)]) n1.symm).trans eP
          have s3 : (upd H2 t1 (.tup [V.str n.1, .int n.2, .int (((m + j : Nat) : Int) + 1)])) t1 = some (.tup [V.str n.1, .int n.2, .int (((m + j : Nat) : Int) + 1)]) := upd_same
          have q3 := Sub.new (o := .tup [V.str n.1, .int n.2, .int (((m + j : Nat) : Int) + 1)]) ht1
          generalize upd H2 t1 (.tup [V.str n.1, .int n.2, .int (((m + j : Nat) : Int) + 1)]) = H3 at g3 e3 s3 q3 ⊢
          have ek3 : ∀ p ∈ ps, SqT K H3 p.1 ((keyL p.2.1).map kV) := fun p hp => q3.seqT (ek p hp)
          have plen : ps.length = (putN n m j M).length := by rw [← em, List.length_map]
          have := putN_len n m j M
          refine ⟨d, t1, ps.map toEn, keyL (lnAt n (m + j)), rfl, rfl, e3, keys_toEn ek3, .inl (.inl s3), small_line (by rw [List.length_map]; omega), ?_⟩
          rw [putX_toEn]
          exact ⟨_, rfl, g3.put hd e3 dt_ntab, putP ps t1 (lnAt n (m + j)) "keep", upd_same, by rw [putP_putM, em]; rfl, putP_keys (F := fun a l => SqT K _ a ((keyL l).map kV)) (fun p hp => seqT_dt e3 (ek3 p hp)) (seqT_dt e3 (.inl (.inl s3)))⟩
        · rintro σ H2 ⟨y7', rfl, g2, mk2⟩
          refine ⟨.ref a', rfl, a', _, 0, .str "put", rfl, rfl, SdG g2, atI_nat (j := 0) rfl, small_le (by decide), fun tt htt => ⟨tt, _, rfl, .inr (.inl (.inl upd_same)), rfl, rfl, _, rfl, ite2 (fun e => absurd e (by decide +kernel)) (fun _ => ?_)⟩⟩
          rw [List.length_map] at mk2 ⊢
          exact ⟨_, _, rfl, g2.new htt, mk2.new htt⟩
      | order a b =>
        refine ite2 (fun e => absurd (V.str.inj (of_decide_eq_true e)) (show ¬ ("order" : Str) = "put" by decide +kernel)) (fun _ => ?_)
        refine ⟨.ref a', rfl, a', _, 0, .str "order", rfl, rfl, SdG g, atI_nat (j := 0) rfl, small_le (by decide), fun tt htt => ⟨tt, _, rfl, .inr (.inl (.inl upd_same)), rfl, rfl, _, rfl, ite2 (fun e => absurd e (by decide +kernel)) (fun _ => ?_)⟩⟩
        exact ⟨_, _, rfl, g.new htt, mk.new htt⟩
      | one c a =>
        have np : ¬ kindS c = ("put" : Str) := by cases c <;> decide +kernel
        have yes : inV (.str (kindS c)) [.str "cut", .str "keep"] = true := by cases c <;> decide +kernel
        refine ite2 (fun e => absurd (V.str.inj (of_decide_eq_true e)) np) (fun _ => ?_)
        refine ⟨.ref a', rfl, a', _, 0, .str (kindS c), rfl, rfl, SdG g, atI_nat (j := 0) rfl, small_le (by decide), fun tt htt => ⟨tt, _, rfl, .inr (.inl (.inl upd_same)), rfl, rfl, _, rfl, ite2 (fun _ => ?_) (fun e => absurd yes e)⟩⟩
        have g3 := g.new (o := .tup [V.str "cut", .str "keep"]) htt
        have mk3 := mk.new (o := .tup [V.str "cut", .str "keep"]) htt
        generalize upd H1 tt (.tup [V.str "cut", .str "keep"]) = H3 at g3 mk3 ⊢
        rcases hcase with ⟨n1, _⟩ | ⟨n1, _⟩ | ⟨_, _, h1, rfl, _⟩
        · exact absurd n1 np
        · exact absurd n1 (show ¬ kindS c = ("order" : Str) by cases c <;> decide +kernel)
        obtain ⟨x, rfl, dx⟩ := DpAll.i1 dl
        obtain ⟨bx, _, rfl, Sx, d3⟩ := Dp.tupI dx
        obtain ⟨p1, p2, p3, rfl, q1, q2, q3⟩ := DpAll.i3 d3
        cases Dp.strI q1
        cases Dp.intI q2
        cases Dp.intI q3
        obtain ⟨ps, e3, em, ek⟩ := mk3
        have plen : ps.length = M.length := by rw [← em, List.length_map]
        have Sx3 : SqT K H3 bx ((keyL a).map kV) := (toH g3).seqT Sx
        refine ⟨.ref a', rfl, a', _, 0, .str (kindS c), rfl, rfl, SdG g3, atI_nat (j := 0) rfl, .ref d, rfl, .ref a', rfl, a', _, 1, .ref bx, rfl, rfl, SdG g3, atI_nat (j := 1) rfl, d, bx, ps.map toEn, keyL a, rfl, rfl, e3, keys_toEn ek, Sx3, small_line (by rw [List.length_map]; omega), ?_⟩
        rw [putX_toEn]
        exact ⟨_, _, rfl, g3.put hd e3 dt_ntab, putP ps bx a (kindS c), upd_same, by rw [putP_putM, em]; rfl, putP_keys (F := fun a l => SqT K _ a ((keyL l).map kV)) (fun p hp => seqT_dt e3 (ek p hp)) (seqT_dt e3 Sx3)⟩
    · rintro σ H1 ⟨y6, y7, rfl, g, mk⟩
      rw [dlen, List.take_length] at mk
      exact ⟨.ref d, rfl, q H1 d g hd mk⟩
end
end K1
set_option Elab.async false
set_option linter.all false
set_option maxRecDepth 100000
set_option maxHeartbeats 400000
/-! The program's def marks_in. -/
namespace K1
open PySem PySem.Spec PyProof.Rows L2 LZ SM PySem.W
theorem Go.all {T : Tp} {H H' : Hp} (t : TG T H) (kp : ∀ b o, H b = some o → H' b = some o) : Go T D0 H H' :=
  ⟨fun P hP => let ⟨ps, e, r⟩ := t P hP; ⟨ps, kp _ _ e, r⟩, fun b o _ _ e => kp b o e⟩
theorem perm_of_map {α β : Type} {f : α → β} (inj : ∀ x y, f x = f y → x = y) : ∀ {l m : List α}, (l.map f).Perm (m.map f) → l.Perm m := fun {l m} h => by
  classical
  rw [List.perm_iff_count]
  intro a
  have e : ∀ l : List α, (l.map f).count (f a) = l.count a := fun l => by
    induction l with
    | nil => rfl
    | cons x r ih =>
      rw [List.map_cons, List.count_cons, List.count_cons, ih]
      congr 1
      by_cases z : x = a
      · rw [if_pos (beq_iff_eq.mpr z), if_pos (beq_iff_eq.mpr (by rw [z]))]
      · rw [if_neg (fun y => z (beq_iff_eq.mp y)), if_neg (fun y => z (inj _ _ (beq_iff_eq.mp y)))]
  rw [← e l, ← e m]
  exact h.count_eq _
section
variable {P : Program} {w : World} {K : PySem.W.Frag} {mg : Str → Option Value} {base : Heap} {T : Tp}
def spMarksIn (K : PySem.W.Frag) (C : Addr) (T : Tp) : Sp := fun vs H Q _ => ∃ (v : V) (p : Pat), vs = [v] ∧ PatAt K C H v p ∧ p.mid ∧ (textsOf p).length + p.deeds.length ≤ 1000 ∧ TG T H ∧
  ∀ H' a xs (M : List (Ln × Str)), Go T D0 H H' → H a = none → H' a = some (.lst xs) → DpAll K (cut (plus C0 a) H') xs (M.map eLT) → M.Perm (marksM p.name p.deeds 0 []) → M.Pairwise (fun x y => dataLt (eLT y) (eLT x) = false) → Q (.ref a) H'
theorem ok_marksin {f C : Addr} {fd : FuncData} {k : Nat} (Fn : Fun K "marks_in" "marks_in" sMarksIn f fd) (M : Mg K mg) (hs : mg "sorted" = none) (PC : PCls K C) (cM : Cal P w K mg base k "marks_by" ["name", "deeds"] (spMarksBy P w K T)) : FnOk P w K mg base CX0 (k + 1) f fd ["patch"] (spMarksIn K C T) := by
  refine Fn.ok scMarksIn (fun vs H Q E h => ?_) (fun cdv A outer s H vs Q E hr h => ?_)
  · obtain ⟨v, p, rfl, _⟩ := h
    rfl
  · obtain ⟨v, p, rfl, pat, pm, few, tg, q⟩ := h
    have hu := Nat.lt_of_le_of_lt (Nat.add_le_add_left (show 16 ≤ 64 by decide) _) hr.units
    refine ⟨_, (pss_one (ps_ret (show PE _ _ (tSortItemsX K P w _) from pe_sortItemsX rfl hu (by rfl) hs (pe_cal cM hr (by rfl) (pa_cons (pe_fld (pv 0) (by rfl)) (pa_cons (pe_fld (pv 0) (by rfl)) pa_nil)))))), ?_⟩
    obtain ⟨a, dx, fs, nv, kv, dv, rfl, ep, ln_, lk_, ld_, dn, dk, dd⟩ := pat
    have toH : ∀ {H'}, Go T D0 H H' → Sub H H' := fun g => sub_go g tg
    obtain ⟨ad, dvs, rfl, Sd, dds⟩ := Dp.tupI dd
    refine ⟨.ref a, rfl, a, C, dx, fs, nv, rfl, ep, PC.cls, PC.name, ln_, .ref a, rfl, a, C, dx, fs, .ref ad, rfl, ep, PC.cls, PC.deeds, ld_, ?_⟩
    refine ⟨nv, ad, dvs, p.name, p.deeds, rfl, dn, Sd, dds, pm.deeds, pm.texts, tg, fun H1 d g1 hd mk => ?_⟩
    obtain ⟨ps, e, em, ek⟩ := mk
    have plen : ps.length ≤ 1000 := by
      have h1 := marksM_len p.name p.deeds 0 []
      have h2 : ps.length = (marksM p.name p.deeds 0 []).length := by rw [← em, List.length_map]
      rw [List.length_nil] at h1
      have h3 : (p.deeds.flatMap Deed.texts).length = (textsOf p).length := rfl
      omega
    refine ⟨d, ps.map toEn, ps.map (fun p => (p.1, keyL p.2.1, p.2.2)), [false, true, true], rfl, e, keys_toEn ek, by rw [List.map_map]; rfl, by rw [List.length_map]; exact plen, fun x hx => ?_, ?_⟩
    · obtain ⟨y, _, rfl⟩ := List.mem_map.mp hx
      rfl
    intro H' l N kp hl hN nd hL pm' up hT
    have g2 := g1.trans (Go.all g1.1 kp)
    -- each new tuple's line and mark
    have each : ∀ n ∈ N, ∃ (r : Ln × Str), n.2.2 = (keyL r.1, r.2) ∧ (n.2.1, r) ∈ ps := fun n hn => by
      obtain ⟨y, hy, e⟩ := List.mem_map.mp (pm'.mem_iff.mp (List.mem_map_of_mem hn))
      exact ⟨y.2, by rw [← e], by rw [← e]; exact hy⟩
    have pick : ∃ M : List (Ln × Str), N.map (·.2.2) = M.map (fun r => (keyL r.1, r.2)) := by
      clear pm' up hL nd
      induction N with
      | nil => exact ⟨[], rfl⟩
      | cons n N ih =>
        obtain ⟨M, eM⟩ := ih (fun n hn => hN n (List.mem_cons_of_mem _ hn)) (fun n hn => hT n (List.mem_cons_of_mem _ hn)) (fun n hn => each n (List.mem_cons_of_mem _ hn))
        obtain ⟨r, er, _⟩ := each n List.mem_cons_self
        exact ⟨r :: M, by rw [List.map_cons, List.map_cons, eM, er]⟩
    obtain ⟨M', eM⟩ := pick
    have inj : ∀ {x y : Ln × Str}, (keyL x.1, x.2) = (keyL y.1, y.2) → x = y := fun {x y} h => Prod.ext (keyL_inj (Prod.mk.inj h).1) (Prod.mk.inj h).2
    refine q H' l (N.map fun n => V.ref n.1) M' g2 (g1.free tg (fun z => z) hl) hL ?_ ?_ ?_
    · -- the data
      have all : ∀ (N : List (Addr × Addr × List Key × Str)) (M : List (Ln × Str)), N.map (·.2.2) = M.map (fun r => (keyL r.1, r.2)) → (∀ n ∈ N, H1 n.1 = none ∧ n.1 ≠ l) → (∀ n ∈ N, H' n.1 = some (.tup [.ref n.2.1, .str n.2.2.2])) → (∀ n ∈ N, ∃ r : Ln × Str, n.2.2 = (keyL r.1, r.2) ∧ (n.2.1, r) ∈ ps) →
          DpAll K (cut (plus C0 l) H') (N.map fun n => V.ref n.1) (M.map eLT) := by
        intro N
        induction N with
        | nil =>
          intro M h _ _ _
          cases M with
          | nil => exact .nil
          | cons _ _ => cases h
        | cons n N ih =>
          intro M h h1 h2 h3
          cases M with
          | nil => cases h
          | cons r M =>
            have hd' := (List.cons.inj h).1
            obtain ⟨r', er, hr'⟩ := h3 n List.mem_cons_self
            have : r = r' := inj (hd'.symm.trans er)
            subst this
            refine .cons ?_ (ih M (List.cons.inj h).2 (fun n hn => h1 n (List.mem_cons_of_mem _ hn)) (fun n hn => h2 n (List.mem_cons_of_mem _ hn)) (fun n hn => h3 n (List.mem_cons_of_mem _ hn)))
            have ht := h2 n List.mem_cons_self
            have es : n.2.2.2 = r.2 := by rw [er]
            rw [es] at ht
            have Sk : SqT K H' n.2.1 ((keyL r.1).map kV) := (sub_go (Go.all g1.1 kp) g1.1).seqT (ek _ hr')
            exact Dp.cutD hL _ _ rfl (.tup (.inl (.inl ht)) (.cons (.tup Sk (.cons (.str _) (.cons (.int _) (.one (.int _))))) (.one (.str _))))
      exact all N M' eM hN hT each
    · have h1 := pm'.map (·.2)
      rw [List.map_map, List.map_map] at h1
      have h2 : (M'.map fun r => (keyL r.1, r.2)).Perm ((marksM p.name p.deeds 0 []).map fun r => (keyL r.1, r.2)) := by
        rw [← eM, ← em, List.map_map]
        exact h1
      exact perm_of_map (fun x y h => inj h) h2
    · have h1 : (N.map (·.2.2)).Pairwise fun x y => dataLt (eI y) (eI x) = false := List.pairwise_map.mpr up
      rw [eM] at h1
      exact List.pairwise_map.mp h1
end
end K1
set_option Elab.async false
set_option linter.all false
set_option maxRecDepth 100000
set_option maxHeartbeats 400000
/-! The program's def bindings_in. -/
namespace K1
open PySem PySem.Spec PyProof.Rows L2 LZ
/-- what a deed binds, its fresh lines given -/
def bindP : Deed → List Ln → List (Ln × Ln)
  | .put a b _, fresh => pairsUp a (fresh ++ [b])
  | .order a b, _ => [(a, b)]
  | .one _ _, _ => []
def binds (n : Nm) : Nat → List Deed → List (List (Ln × Ln))
  | _, [] => []
  | m, d :: r => bindP d (freshOf n m d) :: binds n (m + d.texts.length) r
theorem binds_snoc (n : Nm) (d : Deed) : ∀ (ds : List Deed) (m : Nat), binds n m (ds ++ [d]) = binds n m ds ++ [bindP d (freshOf n (m + (ds.flatMap Deed.texts).length) d)]
  | [], m => rfl
  | x :: r, m => by
    show bindP x (freshOf n m x) :: binds n (m + x.texts.length) (r ++ [d]) = _
    rw [binds_snoc n d r, List.flatMap_cons, List.length_append, Nat.add_assoc]
    rfl
theorem binds_step {n : Nm} {ds : List Deed} {i : Nat} {d : Deed} (h : ds[i]? = some d) : binds n 0 (ds.take (i + 1)) = binds n 0 (ds.take i) ++ [bindP d (freshOf n (manyAt ds i) d)] := by
  rw [List.take_add_one, h, Option.toList_some, binds_snoc, Nat.zero_add]
  rfl
theorem binds_len (n : Nm) : ∀ (ds : List Deed) (m : Nat), (binds n m ds).length = ds.length
  | [], _ => rfl
  | _ :: r, _ => congrArg (· + 1) (binds_len n r _)
def ePs (l : List (Ln × Ln)) : PyData := .list (l.map ePr)
theorem ePr_nol (p : Ln × Ln) : noLst (ePr p) = true := rfl
theorem nols_map {α : Type} {f : α → PyData} (h : ∀ x, noLst (f x) = true) : ∀ l : List α, noLst.noLsts (l.map f) = true
  | [] => by simp [noLst.noLsts]
  | x :: r => by
    rw [List.map_cons]
    unfold noLst.noLsts
    rw [h, nols_map h r]
    rfl
/-- new tuples of neighbours, as data -/
theorem pairs_dp {K : PySem.W.Frag} {H : Hp} : ∀ (ts : List Addr) (a : Ln) (ls : List Ln) (us : List V) (x : V), Dp K H x (eL a) → DpAll K H us (ls.map eL) → ts.length = ls.length →
    (∀ (j : Nat) (t : Addr), ts[j]? = some t → ∃ p q, (x :: us)[j]? = some p ∧ us[j]? = some q ∧ H t = some (.tup [p, q])) → DpAll K H (ts.map V.ref) ((pairsUp a ls).map ePr)
  | [], a, [], us, x, _, _, _, _ => .nil
  | [], _, _ :: _, _, _, _, _, h, _ => by cases h
  | _ :: _, _, [], _, _, _, _, h, _ => by cases h
  | t :: ts, a, l :: ls, us, x, dx, du, h, e => by
    cases us with
    | nil => cases du
    | cons u us =>
      obtain ⟨p, q, e1, e2, e3⟩ := e 0 t rfl
      cases e1
      cases e2
      have du' : Dp K H u (eL l) ∧ DpAll K H us (ls.map eL) := by
        cases du with
        | cons h1 h2 => exact ⟨h1, h2⟩
      exact .cons (.tup (.inl (.inl e3)) (.cons dx (.one du'.1))) (pairs_dp ts l ls us u du'.1 du'.2 (Nat.succ.inj h) fun j t' ht => e (j + 1) t' ht)
/-- the items of a told list: new lists -/
def InL (H H' : Hp) (F : Addr) (fs : List V) : Prop := ∀ x ∈ fs, ∃ b us, x = .ref b ∧ H b = none ∧ b ≠ F ∧ H' b = some (.lst us) ∧ us.length ≤ 1001
theorem InL.put {T : Tp} {H H1 H6 : Hp} {F Z : Addr} {fs zs gs : List V} (h : InL H H1 F fs) (g : Go T D0 H1 H6) (t : TG T H1) (hZ : H Z = none) (nZ : Z ≠ F) (eZ : H6 Z = some (.lst zs)) (lZ : zs.length ≤ 1001) : InL H (upd H6 F (.lst gs)) F (fs ++ [.ref Z]) := fun x hx => by
  rcases List.mem_append.mp hx with hx | hx
  · obtain ⟨b, us, rfl, e1, e2, e3, e4⟩ := h x hx
    exact ⟨b, us, rfl, e1, e2, (upd_ne e2).trans (g.at t (fun z => z) e3), e4⟩
  · cases List.mem_singleton.mp hx
    exact ⟨Z, zs, rfl, hZ, nZ, (upd_ne nZ).trans eZ, lZ⟩
section
variable {P : Program} {w : World} {K : PySem.W.Frag} {mg : Str → Option Value} {base : Heap} {T : Tp}
def spBindIn (K : PySem.W.Frag) (T : Tp) : Sp := fun vs H Q _ => ∃ (nv : V) (l : Addr) (dvs : List V) (n : Nm) (ds : List Deed), vs = [nv, .ref l] ∧ Dp K H nv (eN n) ∧ SqT K H l dvs ∧ DpAll K H dvs (ds.map eD) ∧ ds.length ≤ 1000 ∧ (ds.flatMap Deed.texts).length ≤ 1000 ∧ TG T H ∧
  ∀ H' F fs, Go T D0 H H' → H F = none → H' F = some (.lst fs) → DpAll K (cut (plus C0 F) H') fs ((binds n 0 ds).map ePs) → InL H H' F fs → Q (.ref F) H'
theorem ok_bindin {f : Addr} {fd : FuncData} {k : Nat} (Fn : Fun K "bindings_in" "bindings_in" sBindingsIn f fd) (M : Mg K mg) (hz : mg "zip" = none) : FnOk P w K mg base CX0 (k + 1) f fd ["name", "deeds"] (spBindIn K T) := by
  refine Fn.ok scBindingsIn (fun vs H Q E h => ?_) (fun cdv A outer s H vs Q E hr h => ?_)
  · obtain ⟨nv, l, dvs, n, ds, rfl, _⟩ := h
    rfl
  · obtain ⟨nv, l, dvs, n, ds, rfl, dn, S, dds, dle, tle, tg, q⟩ := h
    refine ⟨_, (pss_cons (ps_asg (pv 0) (pg_tup rfl (pgs_cons (pg_name (i := 2) scBindingsIn.nd rfl (.inr rfl)) (pgs_cons (pg_name (i := 3) scBindingsIn.nd rfl (.inr rfl)) pgs_nil))))
      (pss_cons (ps_set (i := 4) scBindingsIn.nd rfl (.inr rfl) pe_int)
      (pss_cons (ps_set (i := 5) scBindingsIn.nd rfl (.inl rfl) (pe_lst pa_nil))
      (pss_cons (ps_for PassesOwn.never rfl (pi_tup (pv 1)) (pg_name (i := 6) scBindingsIn.nd rfl (.inl rfl))
      (pss_one (ps_if (pt_cmpR op_eq (pe_ix ix_tup (pv 6) pe_int (fun _ _ => rfl)) pe_str (nomark _))
      (pss_cons (ps_setLc (i := 8) (own := [("k", 7)]) (g := gName 7) (tt := tYes) rfl scBindingsIn.nd rfl rfl (sw_true rfl rfl rfl (by decide +kernel)) (pi_range2 (by rfl) M.range_ (pa_cons pe_int (pa_cons (pe_op op_add (pe_callB call_len_seq (by rfl) M.len_ PySem.boot_len (pa_cons (pe_ix ix_tup (pv 6) pe_int (fun _ _ => rfl)) pa_nil)) pe_int) pa_nil))) (blkOk_by (N := ["name", "deeds", "hand", "number", "many", "found", "deed", "k", "new"]) (sc := defScope sBindingsIn) (by decide +kernel)) (fun _ _ _ _ _ => (pg_name (i := 7) scBindingsIn.nd rfl (Or.inl rfl))) (fun _ _ _ _ _ => pts_nil) (fun _ _ _ _ _ => (pe_tup (pa_cons (pv 2) (pa_cons (pv 3) (pa_cons (pe_op op_add (pv 4) (pv 7)) pa_nil))))))
      (pss_cons (ps_aug (i := 4) scBindingsIn.nd rfl (.inr rfl) (pe_callB call_len_seq (by rfl) M.len_ PySem.boot_len (pa_cons (pv 8) pa_nil)) ip_add)
      (pss_one (ps_expr (pe_bm PySem.F.plainAttrs_list PySem.F.slot_list_append PySem.F.type_list_append mt_append (pv 5) (pa_cons (show PE _ _ (tListZip K _) from pe_listZip rfl (by rfl) M.list_ (by decide +kernel) (by rfl) hz (pa_cons (pe_lst (pa_cons (pe_ix ix_tup (pv 6) pe_int (fun _ _ => rfl)) (StX.pa_star (pv 8) pa_nil))) (pa_cons (pe_lst (StX.pa_star (pv 8) (pa_cons (pe_ix ix_tup (pv 6) pe_int (fun _ _ => rfl)) pa_nil))) pa_nil))) pa_nil))))))
      (pss_one (ps_if (pt_cmpR op_eq (pe_ix ix_tup (pv 6) pe_int (fun _ _ => rfl)) pe_str (nomark _))
      (pss_one (ps_expr (pe_bm PySem.F.plainAttrs_list PySem.F.slot_list_append PySem.F.type_list_append mt_append (pv 5) (pa_cons (pe_lst (pa_cons (pe_tup (pa_cons (pe_ix ix_tup (pv 6) pe_int (fun _ _ => rfl)) (pa_cons (pe_ix ix_tup (pv 6) pe_int (fun _ _ => rfl)) pa_nil))) pa_nil)) pa_nil))))
      (pss_one (ps_expr (pe_bm PySem.F.plainAttrs_list PySem.F.slot_list_append PySem.F.type_list_append mt_append (pv 5) (pa_cons (pe_lst pa_nil) pa_nil)))))))))
      (pss_one (ps_ret (pv 5))))))), ?_⟩
    have toH : ∀ {H'}, Go T D0 H H' → Sub H H' := fun g => sub_go g tg
    obtain ⟨an, _, rfl, Sn, d3⟩ := Dp.tupI dn
    obtain ⟨x, y, rfl, d1, d2⟩ := DpAll.i2 d3
    cases Dp.strI d1
    cases Dp.intI d2
    have dlen : dvs.length = ds.length := by rw [DpAll.len dds, List.length_map]
    refine ⟨.ref an, rfl, an, _, rfl, Sn, rfl, _, _, rfl, _, _, rfl, rfl, ?_⟩
    refine ⟨Nat.zero_le _, fun F hF => ?_⟩
    have g0 : Go T D0 H (upd H F (.lst [])) := (Go.rfl' tg).new hF
    have e0 : (upd H F (.lst [])) F = some (.lst []) := upd_same
    generalize upd H F (.lst []) = H0 at g0 e0 ⊢
    refine ⟨.ref l, rfl, l, rfl, ⟨dvs, (toH g0).seqT S⟩, ?_⟩
    refine for_tup (K := K) (a := l) (xs := dvs) (fun i σ H1 => ∃ (fs : List V) (y6 y8 : Option V), σ = [some (.ref an), some (.ref l), some (.str n.1), some (.int n.2), some (.int (manyAt ds i : Nat)), some (.ref F), y6, none, y8] ∧ Go T D0 H H1 ∧ H1 F = some (.lst fs) ∧
      DpAll K (cut (plus C0 F) H1) fs ((binds n 0 (ds.take i)).map ePs) ∧ InL H H1 F fs) ?_ ?_ ?_ ?_
    · exact ⟨[], _, _, rfl, g0, e0, .nil, fun x z => nomatch z⟩
    · rintro i σ H1 hi ⟨_, _, _, rfl, g, _⟩
      exact (toH g).seqT S
    · rintro i v σ H1 hv ⟨fs, y6, y8, rfl, g, eF, df, il⟩
      obtain ⟨d', hd', hv'⟩ := DpAll.at' dds hv
      obtain ⟨dd, hdd, rfl⟩ := at_map hd'
      have step := binds_step (n := n) hdd
      have ms := manyAt_succ hdd
      have mle : manyAt ds (i + 1) ≤ 1000 := Nat.le_trans (flat_take _ _) tle
      have flen : fs.length ≤ 1000 := by
        rw [DpAll.len df, List.length_map, binds_len, List.length_take]
        omega
      obtain ⟨a', lvs, tl, rfl, Sd, dl, hcase⟩ := deed_parts hv'
      have SdG : ∀ {H'}, Go T D0 H H' → SqT K H' a' (.str dd.kind :: (lvs ++ tl)) := fun g => (toH g).seqT Sd
      rw [step, ms]
      generalize manyAt ds i = m at ms mle ⊢
      -- what is put at the end of found
      have last : ∀ {H6 : Hp} {Z : Addr} {zs : List V} (bs : List (Ln × Ln)), Go T D0 H1 H6 → Z ≠ F → H6 F = some (.lst fs) → H6 Z = some (.lst zs) → DpAll K H6 zs (bs.map ePr) →
          DpAll K (cut (plus C0 F) (upd H6 F (.lst (fs ++ [.ref Z])))) (fs ++ [.ref Z]) ((binds n 0 (ds.take i) ++ [bs]).map ePs) := fun {H6 Z zs} bs g6 nZ eF6 eZ dz => by
        rw [cut_out plus_D, List.map_append]
        refine DpAll.app (Dp.subs (sub_go g6 g.1).cuts _ _ df) (.one (.lst (.inl (.inl ((cut_at (plus_no rfl nZ)).trans eZ))) ?_))
        exact Dp.cutDs eF6 _ _ (nols_map ePr_nol bs) dz
      refine ⟨.ref a', rfl, a', _, 0, .str dd.kind, rfl, rfl, SdG g, atI_nat (j := 0) rfl, rfl, _, rfl, ?_⟩
      cases dd with
      | one c a =>
        have np : ¬ kindS c = ("put" : Str) := by cases c <;> decide +kernel
        have no : ¬ kindS c = ("order" : Str) := by cases c <;> decide +kernel
        refine ite2 (fun e => absurd (V.str.inj (of_decide_eq_true e)) np) (fun _ => ?_)
        refine ⟨.ref a', rfl, a', _, 0, .str (kindS c), rfl, rfl, SdG g, atI_nat (j := 0) rfl, rfl, _, rfl, ?_⟩
        refine ite2 (fun e => absurd (V.str.inj (of_decide_eq_true e)) no) (fun _ => ?_)
        refine ⟨.ref F, rfl, .inl ⟨rfl, _, .inl (.inl eF)⟩, Nat.zero_le _, fun Z hZ => ?_⟩
        have nF := ne_of_none eF hZ
        have g2 : Go T D0 H1 (upd H1 Z (.lst [])) := (Go.rfl' g.1).new hZ
        refine ⟨F, _, _, rfl, rfl, (upd_ne nF).trans eF, small_line (by omega), ?_⟩
        exact ⟨_, _, _, rfl, (g.trans g2).put hF ((upd_ne nF).trans eF), upd_same, last [] g2 nF.symm ((upd_ne nF).trans eF) upd_same .nil, il.put g2 g.1 (g.free tg (fun z => z) hZ) nF.symm upd_same (Nat.zero_le _)⟩
      | order a b =>
        refine ite2 (fun e => absurd (V.str.inj (of_decide_eq_true e)) (show ¬ ("order" : Str) = "put" by decide +kernel)) (fun _ => ?_)
        refine ⟨.ref a', rfl, a', _, 0, .str "order", rfl, rfl, SdG g, atI_nat (j := 0) rfl, rfl, _, rfl, ?_⟩
        refine ite2 (fun _ => ?_) (fun e => absurd (decide_eq_true (rfl : V.str ("order" : Str) = V.str "order")) e)
        obtain ⟨x, y, rfl, q1, q2⟩ := DpAll.i2 dl
        refine ⟨.ref F, rfl, .inl ⟨rfl, _, .inl (.inl eF)⟩, .ref a', rfl, a', _, 1, x, rfl, rfl, SdG g, atI_nat (j := 1) rfl, .ref a', rfl, a', _, 2, y, rfl, rfl, SdG g, atI_nat (j := 2) rfl, small_le (by show 2 ≤ 10000; decide), fun t ht => ?_⟩
        have g2 : Go T D0 H1 (upd H1 t (.tup [x, y])) := (Go.rfl' g.1).new ht
        have s2 : (upd H1 t (.tup [x, y])) t = some (.tup [x, y]) := upd_same
        have e2 := (upd_ne (o := .tup [x, y]) (ne_of_none eF ht)).trans eF
        generalize upd H1 t (.tup [x, y]) = H2 at g2 s2 e2 ⊢
        refine ⟨small_le (by show 1 ≤ 10000; decide), fun Z hZ => ?_⟩
        have nF := ne_of_none e2 hZ
        have g3 := g2.new (o := .lst [V.ref t]) hZ
        have s3 := (upd_ne (o := .lst [V.ref t]) (ne_of_none s2 hZ)).trans s2
        have e3 := (upd_ne (o := .lst [V.ref t]) nF).trans e2
        have z3 : (upd H2 Z (.lst [V.ref t])) Z = some (.lst [V.ref t]) := upd_same
        generalize upd H2 Z (.lst [V.ref t]) = H3 at g3 s3 e3 z3 ⊢
        refine ⟨F, _, _, rfl, rfl, e3, small_line (by omega), ?_⟩
        have dxy := Dp.subs (toH (g.trans g3)) _ _ (DpAll.cons q1 (.one q2))
        exact ⟨_, _, _, rfl, (g.trans g3).put hF e3, upd_same, last [(a, b)] g3 nF.symm e3 z3 (.one (.tup (.inl (.inl s3)) dxy)), il.put g3 g.1 ((g.trans g2).free tg (fun z => z) hZ) nF.symm z3 (by show 1 ≤ 1001; decide)⟩
      | put a b ts =>
        refine ite2 (fun _ => ?_) (fun e => absurd (decide_eq_true (rfl : V.str (Deed.put a b ts).kind = V.str "put")) e)
        rcases hcase with ⟨_, h2, t, rfl, st⟩ | ⟨n1, _⟩ | ⟨n1, _⟩
        case inr.inl => exact absurd (show ("put" : Str) = "order" from n1) (by decide +kernel)
        case inr.inr => exact absurd rfl n1
        obtain ⟨x, y, rfl, q1, q2⟩ := DpAll.i2 dl
        have tsl : ts.length ≤ 1000 ∧ m ≤ 1000 := by
          have e : (Deed.put a b ts).texts = ts := rfl
          rw [e] at ms
          omega
        have un : ((((ts.map V.str).length : Nat) : Int) + 1 - 1).toNat = ts.length := by rw [List.length_map]; omega
        have l3 : (((ts.map V.str).length : Nat) : Int) ≤ 1000 := by rw [List.length_map]; omega
        have l3' : ((((Deed.put a b ts).texts.map V.str).length : Nat) : Int) ≤ 1000 := l3
        refine ⟨.ref a', rfl, a', _, 3, .ref t, rfl, rfl, SdG g, atI_nat (j := 3) rfl, t, _, rfl, .inr ((toH g).seqT st), _, _, rfl, rfl, 1, _, rfl, ⟨by omega, by omega, by omega, by omega⟩, fun D hD => ?_⟩
        refine lc_range (lo := 1) (n := ((((ts.map V.str).length : Nat) : Int) + 1 - 1).toNat) (fun j H2 => Go T D0 H1 H2 ∧ ∃ acc, H2 D = some (.lst acc) ∧ acc.length = j ∧ DpAll K (cut (plus C0 D) H2) acc (((List.range j).map fun x => lnAt n (m + x)).map eL)) ?_ ?_ ?_
        · exact ⟨(Go.rfl' g.1).new hD, [], upd_same, rfl, .nil⟩
        · rintro j H2 hj ⟨g2, acc, eD, hacc, hda⟩
          rw [un] at hj
          refine ⟨rfl, .str n.1, rfl, .int n.2, rfl, .int (m : Nat), rfl, .int (1 + (j : Nat)), rfl, (m : Nat), 1 + (j : Nat), rfl, rfl, small_le (by show 3 ≤ 10000; decide), fun t1 ht1 => ?_⟩
          have dj : ∀ H, Dp K H (V.int (((m : Nat) : Int) + (1 + (j : Nat)))) (.int (((m + j : Nat) : Int) + 1)) := fun H => by
            rw [show ((m : Nat) : Int) + (1 + (j : Nat)) = ((m + j : Nat) : Int) + 1 by omega]
            exact .int _
          have n2 : D ≠ t1 := ne_of_none eD ht1
          have e3 := (upd_ne (o := .tup [V.str n.1, .int n.2, .int (((m : Nat) : Int) + (1 + (j : Nat)))]) n2).trans eD
          refine ⟨acc, e3, small_line (by omega), (g2.new ht1).put hD e3, acc ++ [.ref t1], upd_same, by rw [List.length_append, hacc]; rfl, ?_⟩
          rw [cut_out plus_D, List.range_succ, List.map_append, List.map_append]
          refine DpAll.app (Dp.subs (Sub.new ht1).cuts _ _ hda) (.one ?_)
          exact .tup (.inl (.inl ((cut_at (plus_no rfl n2.symm)).trans upd_same))) (.cons (.str _) (.cons (.int _) (.cons (dj _) .nil)))
        · rintro H2 ⟨g2, acc, eD, hacc, hda⟩
          rw [un] at hacc hda
          have dacc := Dp.subs Sub.cut _ _ hda
          have eF2 := g2.at g.1 (fun z => z) eF
          refine ⟨_, rfl, .ref D, rfl, D, _, rfl, .inl (.inl (.inl eD)), _, _, rfl, rfl, ?_⟩
          refine ⟨.ref F, rfl, .inl ⟨rfl, _, .inl (.inl eF2)⟩, ?_⟩
          refine ⟨.ref a', rfl, a', _, 1, x, rfl, rfl, SdG (g.trans g2), atI_nat (j := 1) rfl, .ref D, rfl, D, acc, rfl, .inr (.inl (.inl eD)), small_le (by simp only [List.length_cons, List.length_append, List.length_nil]; omega), fun A hA => ?_⟩
          have g3 := g2.new (o := .lst (x :: (acc ++ []))) hA
          have k3 : Go T D0 H2 _ := (Go.rfl' g2.1).new (o := .lst (x :: (acc ++ []))) hA
          have eF3 := (upd_ne (o := .lst (x :: (acc ++ []))) (ne_of_none eF2 hA)).trans eF2
          have eD3 := (upd_ne (o := .lst (x :: (acc ++ []))) (ne_of_none eD hA)).trans eD
          have eA3 : (upd H2 A (.lst (x :: (acc ++ [])))) A = some (.lst (x :: (acc ++ []))) := upd_same
          generalize upd H2 A (.lst (x :: (acc ++ []))) = H3 at g3 k3 eF3 eD3 eA3 ⊢
          refine ⟨.ref D, rfl, D, acc, rfl, .inr (.inl (.inl eD3)), .ref a', rfl, a', _, 2, y, rfl, rfl, SdG (g.trans g3), atI_nat (j := 2) rfl, small_le (by simp only [List.length_cons, List.length_append, List.length_nil]; omega), fun B hB => ?_⟩
          have g4 := g3.new (o := .lst (acc ++ [y])) hB
          have k4 : Go T D0 H3 _ := (Go.rfl' g3.1).new (o := .lst (acc ++ [y])) hB
          have eF4 := (upd_ne (o := .lst (acc ++ [y])) (ne_of_none eF3 hB)).trans eF3
          have eA4 := (upd_ne (o := .lst (acc ++ [y])) (ne_of_none eA3 hB)).trans eA3
          have eB4 : (upd H3 B (.lst (acc ++ [y]))) B = some (.lst (acc ++ [y])) := upd_same
          generalize upd H3 B (.lst (acc ++ [y])) = H4 at g4 k4 eF4 eA4 eB4 ⊢
          refine ⟨A, B, x :: (acc ++ []), acc ++ [y], rfl, .inl (.inl eA4), .inl (.inl eB4), by simp, by simp, by simp; omega, fun H5 Z zs kp hZ hzs nZ eZ zl each => ?_⟩
          have g45 : Go T D0 H4 H5 := Go.all g4.1 kp
          have g5 := g4.trans g45
          have eF5 := kp _ _ eF4
          have nF : Z ≠ F := fun z => by rw [z, eF4] at hZ; cases hZ
          refine ⟨F, _, _, rfl, rfl, eF5, small_line (by omega), ?_⟩
          have dn5 : DpAll K H5 (acc ++ [y]) ((freshOf n m (Deed.put a b ts) ++ [b]).map eL) := by
            rw [List.map_append]
            exact DpAll.app (Dp.subs (sub_go ((k3.trans k4).trans g45) g2.1) _ _ dacc) (.one (Dp.sub (toH (g.trans g5)) _ _ q2))
          have flen' : (freshOf n m (Deed.put a b ts)).length = ts.length := freshOf_len n m _
          refine ⟨fs ++ [.ref Z], some (.ref a'), some (.ref D), ?_, (g.trans g5).put hF eF5, upd_same, last (bindP (.put a b ts) (freshOf n m (.put a b ts))) g5 nF eF5 eZ (pairs_dp zs a (freshOf n m (Deed.put a b ts) ++ [b]) (acc ++ [y]) x (Dp.sub (toH (g.trans g5)) _ _ q1) dn5 ?_ fun j t' ht => ?_), il.put g5 g.1 ((g.trans g4).free tg (fun z => z) hZ) nF eZ ?_⟩
          · rw [hacc]
            rfl
          · rw [zl, List.length_append, flen']
            simp [hacc]
          · obtain ⟨p, q, c1, c2, c3⟩ := each j t' ht
            have hj := (List.getElem?_eq_some_iff.mp c1).1
            refine ⟨p, q, ?_, c2, c3⟩
            rw [List.append_nil] at c1 hj
            rw [show x :: (acc ++ [y]) = (x :: acc) ++ [y] from rfl, List.getElem?_append_left hj]
            exact c1
          · rw [List.length_map, zl]
            simp
            omega
    · rintro σ H1 ⟨fs, y6, y8, rfl, g, eF, df, il⟩
      rw [dlen, List.take_length] at df
      exact ⟨.ref F, rfl, q H1 F fs g hF eF df il⟩
end
end K1
set_option Elab.async false
set_option linter.all false
set_option maxRecDepth 100000
set_option maxHeartbeats 400000
/-! The program's def bindings_of. -/
namespace K1
open PySem PySem.Spec PyProof.Rows L2 LZ
section
variable {P : Program} {w : World} {K : PySem.W.Frag} {mg : Str → Option Value} {base : Heap} {T : Tp}
def spBindOf (K : PySem.W.Frag) (C : Addr) (T : Tp) : Sp := fun vs H Q _ => ∃ (v : V) (p : Pat), vs = [v] ∧ PatAt K C H v p ∧ p.mid ∧ TG T H ∧
  ∀ H' F fs, Go T D0 H H' → H F = none → H' F = some (.lst fs) → DpAll K (cut (plus C0 F) H') fs ((binds p.name 0 p.deeds).map ePs) → InL H H' F fs → Q (.ref F) H'
theorem ok_bindof {f C : Addr} {fd : FuncData} {k : Nat} (Fn : Fun K "bindings_of" "bindings_of" sBindingsOf f fd) (PC : PCls K C) (cB : Cal P w K mg base k "bindings_in" ["name", "deeds"] (spBindIn K T)) : FnOk P w K mg base CX0 (k + 1) f fd ["patch"] (spBindOf K C T) := by
  refine Fn.ok scBindingsOf (fun vs H Q E h => ?_) (fun cdv A outer s H vs Q E hr h => ?_)
  · obtain ⟨v, p, rfl, _⟩ := h
    rfl
  · obtain ⟨v, p, rfl, pat, pm, tg, q⟩ := h
    refine ⟨_, (pss_one (ps_ret (pe_cal cB hr (by rfl) (pa_cons (pe_fld (pv 0) (by rfl)) (pa_cons (pe_fld (pv 0) (by rfl)) pa_nil))))), ?_⟩
    obtain ⟨a, dx, fs, nv, kv, dv, rfl, ep, ln_, lk_, ld_, dn, dk, dd⟩ := pat
    obtain ⟨ad, dvs, rfl, Sd, dds⟩ := Dp.tupI dd
    exact ⟨.ref a, rfl, a, C, dx, fs, nv, rfl, ep, PC.cls, PC.name, ln_, .ref a, rfl, a, C, dx, fs, .ref ad, rfl, ep, PC.cls, PC.deeds, ld_, nv, ad, dvs, p.name, p.deeds, rfl, dn, Sd, dds, pm.deeds, pm.texts, tg, q⟩
end
end K1
set_option Elab.async false
set_option linter.all false
set_option maxRecDepth 100000
set_option maxHeartbeats 400000
/-! The law's def _law_same, where it is so. -/
namespace K1
open PySem PySem.Spec PyProof.Rows L2 LZ
section
variable {P : Program} {w : World} {K : PySem.W.Frag} {mg : Str → Option Value} {base : Heap} {T : Tp}
def spSame (K : PySem.W.Frag) (T : Tp) : Sp := fun vs H Q _ => ∃ (l : Addr) (due : V) (xs : List V) (d : PyData) (D : Addr → Prop), vs = [.ref l, due] ∧ H l = some (.lst xs) ∧ Dp K H (.ref l) d ∧ Dp K H due d ∧ SeqAt.shaped d = true ∧ xs.length ≤ 1000 ∧ TG T H ∧ D l ∧
  (∀ b, D b → ∃ ys, H b = some (.lst ys) ∧ ys.length ≤ 2000) ∧ (∀ x ∈ xs, ∃ b, x = .ref b ∧ ((D b ∧ b ≠ l) ∨ ∃ us, SqT K H b us)) ∧ ∀ H', Go T D H H' → Q (.bl true) H'
theorem ok_lsame {f : Addr} {fd : FuncData} {k : Nat} (Fn : Fun K "_law_same" "_law_same" sLSame f fd) (M : Mg K mg) : FnOk P w K mg base CX0 (k + 1) f fd ["_law_told", "_law_due"] (spSame K T) := by
  refine Fn.ok scLSame (fun vs H Q E h => ?_) (fun cdv A outer s H vs Q E hr h => ?_)
  · obtain ⟨l, due, xs, d, D, rfl, _⟩ := h
    rfl
  · obtain ⟨l, due, xs, d, D, rfl, el, d1, d2, sh, xl, tg, Dl, hD, each, q⟩ := h
    refine ⟨_, (pss_cons (ps_set (i := 2) scLSame.nd rfl (.inl rfl) (pe_and (pe_callB call_isi (by rfl) M.ins boot_isinstance (pa_cons (pv 0) (pa_cons (pe_bltn (v := .ty "list") (by rfl) M.list_ (by decide +kernel) rfl) pa_nil))) (pe_one (pe_cmpR (op_eqD hr.units) (pv 0) (pv 1) (nomark _)))))
      (pss_cons (ps_if (pt_val (pv 2))
      (pss_cons (ps_for PassesOwn.never rfl (pi_list (pv 0)) (pg_name (i := 3) scLSame.nd rfl (.inl rfl))
      (pss_one (ps_if (pt_val (pe_callB call_isi (by rfl) M.ins boot_isinstance (pa_cons (pv 3) (pa_cons (pe_bltn (v := .ty "list") (by rfl) M.list_ (by decide +kernel) rfl) pa_nil))))
      (pss_one (ps_expr (pe_bm PySem.F.plainAttrs_list PySem.F.slot_list_append PySem.F.type_list_append mt_append (pv 3) (pa_cons pe_int pa_nil))))
      pss_nil)))
      (pss_one (ps_expr (pe_bm PySem.F.plainAttrs_list PySem.F.slot_list_append PySem.F.type_list_append mt_append (pv 0) (pa_cons pe_int pa_nil)))))
      pss_nil)
      (pss_one (ps_ret (pv 2))))), ?_⟩
    have thl : Th K H (.ref l) "list" none := .lst (.inl (.inl el))
    refine ⟨.ref l, rfl, .ref l, .ty "list", .type "list", .type "list", _, rfl, .ty _, thl.ty, kit_ty thl.klst, _, rfl, iteT ⟨.ref l, rfl, due, rfl, d, d, d1, d2, sh, sh, ?_⟩⟩
    rw [eqv_self sh]
    refine ⟨.bl true, rfl, _, rfl, iteT ⟨.ref l, rfl, l, rfl, ⟨xs, .inl (.inl el)⟩, ?_⟩⟩
    refine for_list (K := K) (a := l) (xs := xs) (fun i σ H1 => ∃ (y3 : Option V), σ = [some (.ref l), some due, some (.bl true), y3] ∧ Go T D H H1 ∧ H1 l = some (.lst xs) ∧ ∀ b, D b → ∃ ys, H1 b = some (.lst ys) ∧ ys.length ≤ 2000 + i) ?_ ?_ ?_ ?_
    · exact ⟨_, rfl, Go.rfl' tg, el, hD⟩
    · rintro i σ H1 hi ⟨_, rfl, g, el1, _⟩
      exact .inl (.inl el1)
    · rintro i x σ H1 hx ⟨y3, rfl, g, el1, hD1⟩
      have hi : i < xs.length := (List.getElem?_eq_some_iff.mp hx).1
      obtain ⟨b, rfl, hb⟩ := each x (List.mem_of_getElem? hx)
      rcases hb with ⟨Db, nb⟩ | ⟨us, S⟩
      · obtain ⟨ys, eb, yl⟩ := hD1 b Db
        have thb : Th K H1 (.ref b) "list" none := .lst (.inl (.inl eb))
        refine ⟨.ref b, rfl, .ref b, .ty "list", .type "list", .type "list", _, rfl, .ty _, thb.ty, kit_ty thb.klst, _, rfl, iteT ⟨.ref b, rfl, .inl ⟨rfl, _, .inl (.inl eb)⟩, b, ys, .int 7, rfl, rfl, eb, small_line (by omega), ?_⟩⟩
        refine ⟨_, rfl, g.set Db eb (fun ps z => by cases z), (upd_ne nb.symm).trans el1, fun c Dc => ?_⟩
        by_cases z : c = b
        · rw [z]
          exact ⟨_, upd_same, by rw [List.length_append, List.length_singleton]; omega⟩
        · obtain ⟨zs, e1, e2⟩ := hD1 c Dc
          exact ⟨zs, (upd_ne z).trans e1, by omega⟩
      · have S1 : SqT K H1 b us := by
          rcases S with (e | ⟨o, e⟩) | e
          · exact .inl (.inl (g.at tg (fun Db => by obtain ⟨ys, ey, _⟩ := hD b Db; rw [e] at ey; cases ey) e))
          · exact .inl (.inr ⟨o, g.at tg (fun Db => by obtain ⟨ys, ey, _⟩ := hD b Db; rw [e] at ey; cases ey) e⟩)
          · exact .inr e
        have thb : Th K H1 (.ref b) "tuple" (some us) := .tup S1
        refine ⟨.ref b, rfl, .ref b, .ty "list", .type "tuple", .type "list", _, rfl, .ty _, thb.ty, kit_ty thb.klst, _, rfl, ite2 (fun e => absurd e (by decide)) (fun _ => ?_)⟩
        refine ⟨_, rfl, g, el1, fun c Dc => ?_⟩
        obtain ⟨zs, e1, e2⟩ := hD1 c Dc
        exact ⟨zs, e1, by omega⟩
    · rintro σ H1 ⟨y3, rfl, g, el1, hD1⟩
      exact ⟨.ref l, rfl, .inl ⟨rfl, _, .inl (.inl el1)⟩, l, xs, .int 7, rfl, rfl, el1, small_line (by omega), .bl true, rfl, q _ (g.set Dl el1 (fun ps z => by cases z))⟩
end
end K1
set_option Elab.async false
set_option linter.all false
set_option maxRecDepth 100000
set_option maxHeartbeats 400000
/-! The math of marks: what marks_by folds. -/
namespace K1
open PySem PySem.Spec PyProof.Rows L2 LZ
/-- what a deed marks, in its order -/
def evD (n : Nm) (m : Nat) : Deed → List (Ln × Str)
  | .put a b ts => (freshOf n m (.put a b ts)).map fun l => (l, "keep")
  | .order _ _ => []
  | .one c a => [(a, kindS c)]
def evs (n : Nm) : Nat → List Deed → List (Ln × Str)
  | _, [] => []
  | m, d :: r => evD n m d ++ evs n (m + d.texts.length) r
def foldM (ms : List (Ln × Str)) (ev : List (Ln × Str)) : List (Ln × Str) := ev.foldl (fun ms p => putM ms p.1 p.2) ms
theorem putN_fold (n : Nm) (m : Nat) (ms : List (Ln × Str)) : ∀ c, putN n m c ms = foldM ms ((List.range c).map fun k => (lnAt n (m + k), "keep"))
  | 0 => rfl
  | c + 1 => by
    unfold foldM
    rw [List.range_succ, List.map_append, List.foldl_append]
    show putM (putN n m c ms) (lnAt n (m + c)) "keep" = _
    rw [putN_fold n m ms c]
    rfl
theorem markD_fold (n : Nm) (m : Nat) (ms : List (Ln × Str)) : ∀ d : Deed, markD n m d ms = foldM ms (evD n m d)
  | .put a b ts => by
    show putN n m ts.length ms = foldM ms ((freshOf n m (.put a b ts)).map fun l => (l, "keep"))
    rw [putN_fold]
    unfold freshOf
    rw [List.map_map]
    rfl
  | .order _ _ => rfl
  | .one _ _ => rfl
theorem marksM_fold (n : Nm) : ∀ (ds : List Deed) (m : Nat) (ms : List (Ln × Str)), marksM n ds m ms = foldM ms (evs n m ds)
  | [], _, _ => rfl
  | d :: r, m, ms => by
    show marksM n r (m + d.texts.length) (markD n m d ms) = foldM ms (evD n m d ++ evs n (m + d.texts.length) r)
    rw [marksM_fold n r, markD_fold]
    unfold foldM
    rw [List.foldl_append]
theorem putM_mem {ms : List (Ln × Str)} {l : Ln} {s : Str} {x : Ln} : x ∈ (putM ms l s).map (·.1) ↔ x ∈ ms.map (·.1) ∨ x = l := by
  unfold putM
  split
  · rename_i h
    obtain ⟨p, hp, e⟩ := List.any_eq_true.mp h
    have e : p.1 = l := of_decide_eq_true e
    have same : (ms.map (fun p => if p.1 = l then (p.1, s) else p)).map (·.1) = ms.map (·.1) := by
      rw [List.map_map]
      refine List.map_congr_left fun q _ => ?_
      show (if q.1 = l then (q.1, s) else q).1 = q.1
      split <;> rfl
    rw [same]
    refine ⟨.inl, fun z => z.elim id fun z => ?_⟩
    rw [z, ← e]
    exact List.mem_map_of_mem hp
  · rw [List.map_append, List.mem_append]
    simp
theorem putM_nodup {ms : List (Ln × Str)} {l : Ln} {s : Str} (h : (ms.map (·.1)).Nodup) : ((putM ms l s).map (·.1)).Nodup := by
  unfold putM
  split
  · have same : (ms.map (fun p => if p.1 = l then (p.1, s) else p)).map (·.1) = ms.map (·.1) := by
      rw [List.map_map]
      refine List.map_congr_left fun q _ => ?_
      show (if q.1 = l then (q.1, s) else q).1 = q.1
      split <;> rfl
    rw [same]
    exact h
  · rename_i no
    rw [List.map_append, List.nodup_append]
    refine ⟨h, by simp, fun a ha b hb z => ?_⟩
    have hb' : b = l := by simpa using hb
    subst z
    subst hb'
    obtain ⟨p, hp, e⟩ := List.mem_map.mp ha
    exact no (List.any_eq_true.mpr ⟨p, hp, decide_eq_true e⟩)
/-- the last mark of a line in the rows -/
def lastM (ev : List (Ln × Str)) (l : Ln) : Option Str := ((ev.filter fun p => decide (p.1 = l)).map (·.2)).getLast?
theorem lastM_snoc (ev : List (Ln × Str)) (p : Ln × Str) (l : Ln) : lastM (ev ++ [p]) l = if p.1 = l then some p.2 else lastM ev l := by
  unfold lastM
  rw [List.filter_append, List.map_append]
  by_cases h : p.1 = l
  · rw [if_pos h, List.filter_cons_of_pos (by simp [h])]
    simp
  · rw [if_neg h, List.filter_cons_of_neg (by simp [h])]
    simp
theorem foldM_snoc (ms ev : List (Ln × Str)) (p : Ln × Str) : foldM ms (ev ++ [p]) = putM (foldM ms ev) p.1 p.2 := by
  unfold foldM
  rw [List.foldl_append]
  rfl
theorem foldM_nodup (ev : List (Ln × Str)) : ((foldM [] ev).map (·.1)).Nodup := by
  have : ∀ (ev ms : List (Ln × Str)), (ms.map (·.1)).Nodup → ((foldM ms ev).map (·.1)).Nodup := by
    intro ev
    induction ev with
    | nil => intro ms h; exact h
    | cons p r ih => intro ms h; exact ih _ (putM_nodup h)
  exact this ev [] List.nodup_nil
theorem putM_has {ms : List (Ln × Str)} {l : Ln} {s : Str} {x : Ln × Str} (h : x ∈ putM ms l s) : (x.1 = l ∧ x.2 = s) ∨ (x.1 ≠ l ∧ x ∈ ms) := by
  unfold putM at h
  split at h
  · obtain ⟨q, hq, e⟩ := List.mem_map.mp h
    by_cases z : q.1 = l
    · rw [if_pos z] at e
      rw [← e]
      exact .inl ⟨z, rfl⟩
    · rw [if_neg z] at e
      rw [← e]
      exact .inr ⟨z, hq⟩
  · rename_i no
    rcases List.mem_append.mp h with h | h
    · by_cases z : x.1 = l
      · exact absurd (List.any_eq_true.mpr ⟨x, h, decide_eq_true z⟩) no
      · exact .inr ⟨z, h⟩
    · cases List.mem_singleton.mp h
      exact .inl ⟨rfl, rfl⟩
/-- what stands in the marks is the last mark of its line -/
theorem foldM_last : ∀ (k : Nat) (ev : List (Ln × Str)), ev.length = k → ∀ x ∈ foldM [] ev, lastM ev x.1 = some x.2
  | 0, ev, h, x, hx => by
    cases List.eq_nil_of_length_eq_zero h
    cases hx
  | k + 1, ev, h, x, hx => by
    have ne : ev ≠ [] := fun z => by rw [z] at h; cases h
    obtain ⟨r, p, rfl⟩ : ∃ r p, ev = r ++ [p] := ⟨ev.dropLast, ev.getLast ne, (List.dropLast_concat_getLast ne).symm⟩
    rw [foldM_snoc] at hx
    rw [lastM_snoc]
    rcases putM_has hx with ⟨e1, e2⟩ | ⟨e1, e2⟩
    · rw [if_pos e1.symm, e2]
    · rw [if_neg fun z => e1 z.symm]
      exact foldM_last k r (by rw [List.length_append, List.length_singleton] at h; omega) x e2
theorem foldM_keys (x : Ln) : ∀ (k : Nat) (ev : List (Ln × Str)), ev.length = k → (x ∈ (foldM [] ev).map (·.1) ↔ x ∈ ev.map (·.1))
  | 0, ev, h => by
    cases List.eq_nil_of_length_eq_zero h
    exact Iff.rfl
  | k + 1, ev, h => by
    have ne : ev ≠ [] := fun z => by rw [z] at h; cases h
    obtain ⟨r, p, rfl⟩ : ∃ r p, ev = r ++ [p] := ⟨ev.dropLast, ev.getLast ne, (List.dropLast_concat_getLast ne).symm⟩
    rw [foldM_snoc, putM_mem, foldM_keys x k r (by rw [List.length_append, List.length_singleton] at h; omega), List.map_append, List.mem_append]
    simp
/-- bound by the law, bound by the program -/
theorem bound_bind {d : Deed} {fresh : List Ln} (h : fresh = [] → ¬ d.kind = "put") : boundOf d fresh = bindP d fresh := by
  cases d with
  | put a b ts =>
    show (if fresh = [] then [] else pairsUp a (fresh ++ [b])) = pairsUp a (fresh ++ [b])
    rw [if_neg fun z => h z rfl]
  | order a b => rfl
  | one c a => rfl
end K1
set_option Elab.async false
set_option linter.all false
set_option maxRecDepth 100000
set_option maxHeartbeats 400000
/-! The math of marks: the law's rows. -/
namespace K1
open PySem PySem.Spec PyProof.Rows L2 LZ
theorem lastM_append (xs ys : List (Ln × Str)) (l : Ln) : lastM (xs ++ ys) l = (lastM ys l).or (lastM xs l) := by
  unfold lastM
  rw [List.filter_append, List.map_append, List.getLast?_append]
theorem lastM_keep (l : Ln) : ∀ fs : List Ln, lastM (fs.map fun x => (x, ("keep" : Str))) l = if l ∈ fs then some "keep" else none
  | [] => by
    rw [if_neg List.not_mem_nil]
    rfl
  | x :: r => by
    rw [show (x :: r).map (fun x => (x, ("keep" : Str))) = [] ++ [(x, ("keep" : Str))] ++ r.map (fun x => (x, ("keep" : Str))) from rfl, lastM_append, lastM_snoc, lastM_keep l r]
    by_cases h : l ∈ r
    · rw [if_pos h, if_pos (List.mem_cons_of_mem _ h)]
      rfl
    · rw [if_neg h]
      by_cases z : x = l
      · rw [if_pos z, if_pos (by rw [z]; exact List.mem_cons_self)]
        rfl
      · rw [if_neg z, if_neg fun y => (List.mem_cons.mp y).elim (fun e => z e.symm) h]
        rfl
def oneD : Deed → List (Ln × Str)
  | .one c a => [(a, kindS c)]
  | _ => []
/-- the law's rows: the lines put, then the lines cut or kept -/
def rowsM (n : Nm) (ds : List Deed) : List (Ln × Str) := (puts n 0 ds).flatten.map (fun x => (x, ("keep" : Str))) ++ ds.flatMap oneD
/-- no deed marks a line that is put only later -/
def OwnOk (n : Nm) (ds : List Deed) : Prop := ∀ (i : Nat) (c : Bool) (a : Ln), ds[i]? = some (.one c a) → ∀ k, a = lnAt n k → k < manyAt ds i
theorem evs_snoc (n : Nm) (d : Deed) : ∀ (ds : List Deed) (m : Nat), evs n m (ds ++ [d]) = evs n m ds ++ evD n (m + (ds.flatMap Deed.texts).length) d
  | [], m => by
    show evD n m d ++ [] = [] ++ evD n m d
    rw [List.append_nil, List.nil_append]
  | x :: r, m => by
    show evD n m x ++ evs n (m + x.texts.length) (r ++ [d]) = evD n m x ++ evs n (m + x.texts.length) r ++ _
    rw [evs_snoc n d r, List.flatMap_cons, List.length_append, Nat.add_assoc, List.append_assoc]
theorem evs_step {n : Nm} {ds : List Deed} {i : Nat} {d : Deed} (h : ds[i]? = some d) : evs n 0 (ds.take (i + 1)) = evs n 0 (ds.take i) ++ evD n (manyAt ds i) d := by
  rw [List.take_add_one, h, Option.toList_some, evs_snoc, Nat.zero_add]
  rfl
theorem manyAt_mono {ds : List Deed} {i j : Nat} (h : i ≤ j) : manyAt ds i ≤ manyAt ds j := by
  unfold manyAt
  obtain ⟨k, rfl⟩ := Nat.le.dest h
  rw [List.take_add, List.flatMap_append, List.length_append]
  exact Nat.le_add_right _ _
theorem lastM_none {ev : List (Ln × Str)} {l : Ln} (h : ∀ p ∈ ev, p.1 ≠ l) : lastM ev l = none := by
  unfold lastM
  rw [List.filter_eq_nil_iff.mpr fun p hp => by simp [h p hp]]
  rfl
theorem last_rows {n : Nm} {ds : List Deed} (own : OwnOk n ds) (l : Ln) : ∀ i, i ≤ ds.length → lastM (evs n 0 (ds.take i)) l = lastM (rowsM n (ds.take i)) l
  | 0, _ => by rw [List.take_zero]; rfl
  | i + 1, hi => by
    have ih := last_rows own l i (by omega)
    have hd : ds[i]? = some ds[i] := List.getElem?_eq_getElem hi
    generalize ds[i] = d at hd
    rw [evs_step hd, lastM_append, ih]
    unfold rowsM
    rw [puts_step hd, List.take_add_one, hd, Option.toList_some, List.flatMap_append, List.flatten_append, List.map_append]
    simp only [lastM_append]
    have f1 : ([d] : List Deed).flatMap oneD = oneD d := by rw [List.flatMap_cons, List.flatMap_nil, List.append_nil]
    have f2 : ([freshOf n (manyAt ds i) d] : List (List Ln)).flatten = freshOf n (manyAt ds i) d := by rw [List.flatten_cons, List.flatten_nil, List.append_nil]
    rw [f1, f2]
    cases d with
    | order a b =>
      have e : freshOf n (manyAt ds i) (.order a b) = [] := rfl
      rw [e]
      rfl
    | one c a =>
      have e : freshOf n (manyAt ds i) (.one c a) = [] := rfl
      rw [e]
      show (lastM [(a, kindS c)] l).or _ = ((lastM [(a, kindS c)] l).or _).or _
      rw [Option.or_assoc]
      rfl
    | put a b ts =>
      show (lastM ((freshOf n (manyAt ds i) (.put a b ts)).map fun l => (l, ("keep" : Str))) l).or _ = _
      rw [lastM_keep]
      by_cases h : l ∈ freshOf n (manyAt ds i) (.put a b ts)
      · rw [if_pos h]
        have no : lastM ((ds.take i).flatMap oneD) l = none := by
          refine lastM_none fun p hp z => ?_
          obtain ⟨e, he, hp⟩ := List.mem_flatMap.mp hp
          obtain ⟨j, hj⟩ := List.getElem?_of_mem he
          obtain ⟨kk, hk, ek⟩ := List.mem_map.mp h
          cases e with
          | put _ _ _ => cases hp
          | order _ _ => cases hp
          | one c a' =>
            cases List.mem_singleton.mp hp
            have ji : j < i := by
              have := (List.getElem?_eq_some_iff.mp hj).1
              rw [List.length_take] at this
              omega
            rw [List.getElem?_take_of_lt ji] at hj
            have := own j c a' hj (manyAt ds i + kk) (z.trans ek.symm)
            have := manyAt_mono (ds := ds) (Nat.le_of_lt ji)
            omega
        rw [no]
        rfl
      · rw [if_neg h]
        rfl
end K1
set_option Elab.async false
set_option linter.all false
set_option maxRecDepth 100000
set_option maxHeartbeats 400000
/-! The math of marks: which lines, which marks. -/
namespace K1
open PySem PySem.Spec PyProof.Rows L2 LZ
theorem lastM_some {ev : List (Ln × Str)} {l : Ln} : (lastM ev l).isSome = true ↔ l ∈ ev.map (·.1) := by
  constructor
  · intro h
    by_cases z : ∃ p ∈ ev, p.1 = l
    · obtain ⟨p, hp, e⟩ := z
      rw [← e]
      exact List.mem_map_of_mem hp
    · rw [lastM_none fun p hp e => z ⟨p, hp, e⟩] at h
      cases h
  · intro h
    obtain ⟨p, hp, e⟩ := List.mem_map.mp h
    unfold lastM
    have : p ∈ ev.filter fun p => decide (p.1 = l) := List.mem_filter.mpr ⟨hp, decide_eq_true e⟩
    have this := List.mem_map_of_mem (f := fun x : Ln × Str => x.2) this
    cases q : ((ev.filter fun p => decide (p.1 = l)).map (·.2)).getLast? with
    | some _ => rfl
    | none =>
      rw [List.getLast?_eq_none_iff.mp q] at this
      cases this
/-- the program's marks are the law's rows' last marks, each line once -/
theorem marks_rows {n : Nm} {ds : List Deed} (own : OwnOk n ds) : ((marksM n ds 0 []).map (·.1)).Nodup ∧ (∀ l, l ∈ (marksM n ds 0 []).map (·.1) ↔ l ∈ (rowsM n ds).map (·.1)) ∧ ∀ x ∈ marksM n ds 0 [], lastM (rowsM n ds) x.1 = some x.2 := by
  have all : ∀ l, lastM (evs n 0 ds) l = lastM (rowsM n ds) l := fun l => by
    have := last_rows own l ds.length (Nat.le_refl _)
    rwa [List.take_length] at this
  rw [marksM_fold]
  refine ⟨foldM_nodup _, fun l => ?_, fun x hx => ?_⟩
  · rw [foldM_keys l _ _ rfl, ← lastM_some, ← lastM_some, all]
  · rw [← all]
    exact foldM_last _ _ rfl x hx
end K1
set_option Elab.async false
set_option linter.all false
set_option maxRecDepth 100000
set_option maxHeartbeats 400000
/-! The math of marks: sorted, they are one list. -/
namespace K1
open PySem PySem.Spec PyProof.Rows L2 LZ PySem.W
theorem ln_toks {a b : Ln} (h : keyToks (eL a) = keyToks (eL b)) : a = b := by
  obtain ⟨x, i, k⟩ := a
  obtain ⟨y, j, m⟩ := b
  simp [eL, keyToks, keyToksAll] at h
  obtain ⟨h1, h2, h3⟩ := h
  rw [h2, h3]
  congr 1
  exact str_of_cps (by rw [h1])
theorem eL_alike (a b : Ln) : alike (eL a) (eL b) = true := by simp [eL, alike, alikeAll]
theorem lnLt_total {a b : Ln} (h1 : dataLt (eL a) (eL b) = false) (h2 : dataLt (eL b) (eL a) = false) : a = b := ln_toks (lex_total (O := itemOrd) _ _ h1 h2)
theorem elt_lt {a b : Ln × Str} (ne : a.1 ≠ b.1) : dataLt (eLT a) (eLT b) = dataLt (eL a.1) (eL b.1) := by
  have q : PyData.eqv (eL a.1) (eL b.1) = false := by
    cases h : PyData.eqv (eL a.1) (eL b.1) with
    | false => rfl
    | true => exact absurd (ln_toks ((toks_eqv _ _ (eL_alike _ _)).1 h)) ne
  unfold dataLt eLT
  simp only [keyToks]
  rw [toks_all_cons (eL a.1), toks_all_cons (eL b.1), lex_self (O := itemOrd)]
  exact (toks_eqv _ _ (eL_alike _ _)).2 q _ _
theorem one_order {xs ys : List Ln} (nx : xs.Nodup) (ny : ys.Nodup) (m : ∀ l, l ∈ xs ↔ l ∈ ys) (sx : xs.Pairwise fun x y => dataLt (eL y) (eL x) = false) (sy : ys.Pairwise fun x y => dataLt (eL y) (eL x) = false) : xs = ys :=
  List.Perm.eq_of_pairwise (le := fun x y => dataLt (eL y) (eL x) = false) (fun a b _ _ h1 h2 => lnLt_total h2 h1) sx sy ((List.perm_ext_iff_of_nodup nx ny).mpr m)
/-- what the program answers for the marks is what the law makes of its rows -/
theorem marks_same {n : Nm} {ds : List Deed} (own : OwnOk n ds) {M : List (Ln × Str)} (pm : M.Perm (marksM n ds 0 [])) (sm : M.Pairwise fun x y => dataLt (eLT y) (eLT x) = false) {S : List Ln} (ns : S.Nodup) (ms : ∀ l, l ∈ S ↔ l ∈ (rowsM n ds).map (·.1)) (ss : S.Pairwise fun x y => dataLt (eL y) (eL x) = false) :
    M.map (·.1) = S ∧ ∀ x ∈ M, lastM (rowsM n ds) x.1 = some x.2 := by
  obtain ⟨h1, h2, h3⟩ := marks_rows own
  have nm : (M.map (·.1)).Nodup := (pm.map (·.1)).nodup_iff.mpr h1
  refine ⟨one_order nm ns (fun l => ?_) ?_ ss, fun x hx => h3 x (pm.mem_iff.mp hx)⟩
  · rw [(pm.map (·.1)).mem_iff, h2, ms]
  · rw [List.pairwise_map]
    have nm' := List.pairwise_map.mp nm
    refine List.Pairwise.imp₂ (fun x y h1 h2 => ?_) nm' sm
    have ne : x.1 ≠ y.1 := h1
    rw [← elt_lt (a := y) (b := x) ne.symm]
    exact h2
end K1
set_option Elab.async false
set_option linter.all false
set_option maxRecDepth 100000
set_option maxHeartbeats 400000
namespace K1
open PySem PySem.Spec PyProof.Rows L2 LZ
/-- a good patch marks no line that it puts only later -/
theorem own_rows {n : Nm} {ds : List Deed} (own : ∀ i d, ds[i]? = some d → ownOk n (manyAt ds i : Nat) d) : OwnOk n ds := fun i c a h k e => by
  have h1 := own i _ h a (by show a ∈ [a]; exact List.mem_singleton.mpr rfl) (by rw [e]; rfl)
  rw [e] at h1
  have h2 : (k : Int) + 1 ≤ (manyAt ds i : Nat) := h1
  omega
end K1
set_option Elab.async false
set_option linter.all false
set_option maxRecDepth 100000
set_option maxHeartbeats 1600000
/-! The law's def _law_marks. -/
namespace K1
open PySem PySem.Spec PyProof.Rows L2 LZ SM
/-- the scope of the comprehension of the marks due -/
abbrev compMk : Scope := { kind := .function, names := [(".0", .local), ("_law_line", .cell), ("_law_rows", .cell)], isGenerator := false, isCoroutine := false }
theorem op_eqDK {X : Cx} {K0 : PySem.W.Frag} (hu : X.A.units + 64 < cLine) (hK : X.K = K0 := by rfl) : OpR X (compareOp .Eq) (rEqD K0) := hK ▸ op_eqD hu
theorem op_neDK {X : Cx} {K0 : PySem.W.Frag} (hu : X.A.units + 64 < cLine) (hK : X.K = K0 := by rfl) : OpR X (compareOp .NotEq) (rNeD K0) := hK ▸ op_neD hu
theorem ix_listK {X : Cx} {K0 : PySem.W.Frag} (hK : X.K = K0 := by rfl) : IxR X (rIxL K0) := hK ▸ ix_list
theorem ix_tupK {X : Cx} {K0 : PySem.W.Frag} (hK : X.K = K0 := by rfl) : IxR X (rIxT K0) := hK ▸ ix_tup
theorem op_inK {X : Cx} {K0 : PySem.W.Frag} (hK : X.K = K0 := by rfl) : OpR X (compareOp .In) (rIn K0 false) := hK ▸ op_in_seq
theorem pi_listK {X : Cx} {K0 : PySem.W.Frag} {l tg : Expr} {tl : TE} (hl : PE X l tl) (hK : X.K = K0 := by rfl) : PI X tg l (iList K0 tl) := hK ▸ pi_list hl
theorem pickK : ∀ {MM : List (Addr × List Key)}, (∀ p ∈ MM, ∃ l, p.2 = keyL l) → ∃ SL : List Ln, MM.map (·.2) = SL.map keyL
  | [], _ => ⟨[], rfl⟩
  | p :: r, h => by
    obtain ⟨l, e⟩ := h p List.mem_cons_self
    obtain ⟨SL, e2⟩ := pickK fun p hp => h p (List.mem_cons_of_mem _ hp)
    exact ⟨l :: SL, by rw [List.map_cons, List.map_cons, e, e2]⟩
theorem flat_mem {α : Type} {l : List α} : ∀ {L : List (List α)}, l ∈ L → l.length ≤ L.flatten.length
  | x :: r, h => by
    rw [List.flatten_cons, List.length_append]
    rcases List.mem_cons.mp h with rfl | h
    · omega
    · have := flat_mem h
      omega
theorem flat_take' {α : Type} (L : List (List α)) (i : Nat) : (L.take i).flatten.length ≤ L.flatten.length := by
  conv => rhs; rw [← List.take_append_drop i L, List.flatten_append, List.length_append]
  omega
section
variable {P : Program} {w : World} {K : PySem.W.Frag} {mg : Str → Option Value} {base : Heap} {T : Tp}
def spLMarks (K : PySem.W.Frag) (T : Tp) : Sp := fun vs H Q _ => ∃ (nv : V) (l : Addr) (dvs : List V) (n : Nm) (ds : List Deed), vs = [nv, .ref l] ∧ Dp K H nv (eN n) ∧ SqL K H l dvs ∧ DpAll K H dvs (ds.map eD) ∧ ds.length ≤ 1000 ∧ (ds.flatMap Deed.texts).length ≤ 1000 ∧ (rowsM n ds).length < 64 ∧ (∀ r ∈ rowsM n ds, PyData.strOk r.1.1 = true) ∧ TG T H ∧
  ∀ H' a xs (D : List (Ln × Str)), Go T D0 H H' → H a = none → H' a = some (.lst xs) → DpAll K (cut (plus C0 a) H') xs (D.map eLT) → (D.map (·.1)).Nodup → (∀ l, l ∈ D.map (·.1) ↔ l ∈ (rowsM n ds).map (·.1)) → (D.map (·.1)).Pairwise (fun x y => PySem.W.dataLt (eL y) (eL x) = false) → (∀ x ∈ D, lastM (rowsM n ds) x.1 = some x.2) → Q (.ref a) H'
theorem ok_lmarks {f : Addr} {fd : FuncData} {k : Nat} (Fn : Fun K "_law_marks" "_law_marks" sLMarks f fd) (M : Mg K mg) (hzip : mg "zip" = none) (hsorted : mg "sorted" = none) (hset : mg "set" = none) (cP : Cal P w K mg base k "_law_puts" ["_law_name", "_law_deeds"] (spPuts K T)) : FnOk P w K mg base CX0 (k + 1) f fd ["_law_name", "_law_deeds"] (spLMarks K T) := by
  refine Fn.ok scLMarks (fun vs H Q E h => ?_) (fun cdv A outer s H vs Q E hr h => ?_)
  · obtain ⟨nv, l, dvs, n, ds, rfl, _⟩ := h
    rfl
  · obtain ⟨nv, l, dvs, n, ds, rfl, dn, S, dds, dle, tle, few, rok, tg, q⟩ := h
    refine ⟨_, (pss_cons (ps_set (i := 2) scLMarks.nd rfl (.inr rfl) (pe_lst pa_nil))
      (pss_cons (ps_for PassesOwn.never rfl (pi_zip (by rfl) hzip (pa_cons (pv 1) (pa_cons (pe_cal cP hr (by rfl) (pa_cons (pv 0) (pa_cons (pv 1) pa_nil))) pa_nil))) (pg_tup rfl (pgs_cons (pg_name (i := 3) scLMarks.nd rfl (.inl rfl)) (pgs_cons (pg_name (i := 4) scLMarks.nd rfl (.inl rfl)) pgs_nil)))
      (pss_one (ps_set (i := 2) scLMarks.nd rfl (.inr rfl) (pe_op op_catS (pv 2) (pe_lc (own := [("_law_line", 5)]) (g := gName 5) (tt := tYes) rfl scLMarks.nd (pi_list (pv 4)) (blkOk_by (N := ["_law_name", "_law_deeds", "_law_rows", "_law_deed_here", "_law_fresh", "_law_line", "_law_mark", "_law_lines_here", "_law_one"]) (sc := defScope sLMarks) (by decide +kernel)) (fun _ _ _ _ _ => (pg_name (i := 5) scLMarks.nd rfl (Or.inl rfl))) (fun _ _ _ _ _ => pts_nil) (fun _ _ _ _ _ => (pe_tup (pa_cons (pv 5) (pa_cons pe_str pa_nil)))))))))
      (pss_cons (ps_set (i := 2) scLMarks.nd rfl (.inr rfl) (pe_op op_catS (pv 2) (pe_lc (own := [("_law_deed_here", 3)]) (g := gName 3) rfl scLMarks.nd (pi_list (pv 1)) (blkOk_by (N := ["_law_name", "_law_deeds", "_law_rows", "_law_deed_here", "_law_fresh", "_law_line", "_law_mark", "_law_lines_here", "_law_one"]) (sc := defScope sLMarks) (by decide +kernel)) (fun _ _ _ _ _ => (pg_name (i := 3) scLMarks.nd rfl (Or.inl rfl))) (fun _ _ _ _ _ => (pts_one (pt_cmpR (op_inK (K0 := K)) (pe_ix (ix_tupK (K0 := K)) (pv 3) pe_int (fun _ _ => rfl)) (pe_tup (pa_cons pe_str (pa_cons pe_str pa_nil))) (by rfl)))) (fun _ _ _ _ _ => (pe_tup (pa_cons (pe_ix (ix_tupK (K0 := K)) (pv 3) pe_int (fun _ _ => rfl)) (pa_cons (pe_ix (ix_tupK (K0 := K)) (pv 3) pe_int (fun _ _ => rfl)) pa_nil)))))))
      (pss_cons (ps_set (i := 7) scLMarks.nd rfl (.inl rfl) (pe_callB (show CallR _ (.builtin "sorted") (rSortSet K P w) from cr_sortSet rfl hr.units) (by rfl) hsorted (by decide +kernel) (pa_cons (pe_callTy (show CallR _ (.type "set") (rSetOf K P w) from cr_setOf rfl hr.units) (by rfl) hset (by decide +kernel) (pa_cons (pe_lc (own := [("_law_line", 5), ("_law_mark", 6)]) (g := (gTup K 2 (gCons (gName 5) (gCons (gName 6) gNil)))) (tt := tYes) rfl scLMarks.nd (pi_list (pv 2)) (blkOk_by (N := ["_law_name", "_law_deeds", "_law_rows", "_law_deed_here", "_law_fresh", "_law_line", "_law_mark", "_law_lines_here", "_law_one"]) (sc := defScope sLMarks) (by decide +kernel)) (fun _ _ _ _ _ => (pg_tup rfl (pgs_cons (pg_name (i := 5) scLMarks.nd rfl (Or.inl rfl)) (pgs_cons (pg_name (i := 6) scLMarks.nd rfl (Or.inl rfl)) pgs_nil)))) (fun _ _ _ _ _ => pts_nil) (fun _ _ _ _ _ => (pv 5))) pa_nil)) pa_nil)))
      (pss_one (ps_ret (pe_lc (own := [("_law_line", 5)]) (g := gName 5) (tt := tYes) rfl scLMarks.nd (pi_list (pv 7)) (blkOk_by (N := ["_law_name", "_law_deeds", "_law_rows", "_law_deed_here", "_law_fresh", "_law_line", "_law_mark", "_law_lines_here", "_law_one"]) (sc := defScope sLMarks) (by decide +kernel)) (fun _ _ _ _ _ => (pg_name (i := 5) scLMarks.nd rfl (Or.inr rfl))) (fun _ _ _ _ _ => pts_nil) (fun _ _ _ _ _ => (pe_tup (pa_cons (pv 5) (pa_cons (pe_ix (ix_listK (K0 := K)) (pe_lc (own := [("_law_one", 8), ("_law_mark", 6)]) (g := (gTup K 2 (gCons (gName 8) (gCons (gName 6) gNil)))) rfl scLMarks.nd (pi_listK (K0 := K) (pv 2)) (blkOk_by (N := ["_law_name", "_law_deeds", "_law_rows", "_law_deed_here", "_law_fresh", "_law_line", "_law_mark", "_law_lines_here", "_law_one"]) (sc := compMk) (by decide +kernel)) (fun _ _ _ _ _ => (pg_tup rfl (pgs_cons (pg_name (i := 8) scLMarks.nd rfl (Or.inl rfl)) (pgs_cons (pg_name (i := 6) scLMarks.nd rfl (Or.inl rfl)) pgs_nil)))) (fun _ _ _ _ _ => (pts_one (pt_cmpR (op_eqDK (K0 := K) hr.units) (pv 8) (pv 5) (nomark _)))) (fun _ _ _ _ _ => (pv 6))) (pe_un un_neg pe_int) (fun _ _ => rfl)) pa_nil))))))))))), ?_⟩
    have toH : ∀ {H'}, Go T D0 H H' → Sub H H' := fun g => sub_go g tg
    have dlen : dvs.length = ds.length := by rw [DpAll.len dds, List.length_map]
    have lput : (puts n 0 ds).flatten.length ≤ (rowsM n ds).length := by
      unfold rowsM
      rw [List.length_append, List.length_map]
      omega
    refine ⟨Nat.zero_le _, fun R0 hR0 => ?_⟩
    have g0 : Go T D0 H (upd H R0 (.lst [])) := (Go.rfl' tg).new hR0
    have e0 : (upd H R0 (.lst [])) R0 = some (.lst []) := upd_same
    generalize upd H R0 (.lst []) = H0 at g0 e0 ⊢
    refine ⟨.ref l, rfl, nv, rfl, .ref l, rfl, nv, l, dvs, n, ds, rfl, Dp.sub (toH g0) _ _ dn, (toH g0).seqL S, Dp.subs (toH g0) _ _ dds, dle, tle, g0.1, fun H1 F fs g1 hF eF df => ?_⟩
    have g01 := g0.trans g1
    have flen : fs.length = dvs.length := by rw [DpAll.len df, List.length_map, puts_len, dlen]
    refine ⟨l, F, dvs, fs, rfl, (toH g01).seqL S, .inl (.inl eF), ?_⟩
    have tg1 := g01.1
    have e01 := g1.at g0.1 (fun z => z) e0
    refine RZ.for_zipL (K := K) (a := l) (b := F) (xs := dvs) (ys := fs) flen.symm (fun i σ H2 => ∃ (R : Addr) (rs : List V) (y3 y4 : Option V), σ = [some nv, some (.ref l), some (.ref R), y3, y4, none, none, none, none] ∧ Go T D0 H1 H2 ∧ H2 R = some (.lst rs) ∧ DpAll K H2 rs ((((puts n 0 ds).take i).flatten.map fun x => (x, ("keep" : Str))).map eLT)) ?_ ?_ ?_ ?_
    · exact ⟨R0, [], _, _, rfl, Go.rfl' tg1, e01, .nil⟩
    · rintro i σ H2 ⟨_, _, _, _, rfl, g, _⟩
      exact ⟨(toH (g01.trans g)).seqL S, .inl (.inl (g.at tg1 (fun z => z) eF))⟩
    · rintro i x y t σ H2 hx hy ⟨R, rs, y3, y4, rfl, g, eR, dr⟩ ht
      obtain ⟨f', hf', hy'⟩ := DpAll.at' df hy
      obtain ⟨fr, hfr, rfl⟩ := at_map hf'
      have frl : fr.length < 64 := by
        have := flat_mem (List.mem_of_getElem? hfr)
        omega
      obtain ⟨b, us, rfl, Sb, db⟩ := Dp.lstI hy'
      have ul : us.length = fr.length := by rw [DpAll.len db, List.length_map]
      have q1 : Sub (cut (plus C0 F) H1) H2 := Sub.cut.trans (sub_go g tg1)
      have g3 := g.new (o := .tup [x, .ref b]) ht
      have eR3 := (upd_ne (o := .tup [x, .ref b]) (ne_of_none eR ht)).trans eR
      have q3 := Sub.new (o := .tup [x, .ref b]) ht
      have t3 : (upd H2 t (.tup [x, .ref b])) t = some (.tup [x, .ref b]) := upd_same
      generalize upd H2 t (.tup [x, .ref b]) = H3 at g3 eR3 q3 t3 ⊢
      have Sb3 : SqL K H3 b us := (q1.trans q3).seqL Sb
      have db3 := Dp.subs (q1.trans q3) _ _ db
      refine ⟨t, _, rfl, .inl (.inl t3), rfl, _, _, rfl, _, _, rfl, rfl, .ref R, rfl, .ref b, rfl, b, rfl, ⟨us, Sb3⟩, fun D hD => ?_⟩
      refine lc_list (K := K) (a := b) (xs := us) (fun j H5 => Go T D0 H3 H5 ∧ ∃ ts, H5 D = some (.lst ts) ∧ ts.length = j ∧ DpAll K (cut (plus C0 D) H5) ts (((fr.take j).map fun x => (x, ("keep" : Str))).map eLT)) ?_ ?_ ?_ ?_
      · exact ⟨(Go.rfl' g3.1).new hD, [], upd_same, rfl, .nil⟩
      · rintro j H5 hj ⟨g5, _⟩
        exact (sub_go g5 g3.1).seqL Sb3
      · rintro j x5 H5 hx5 ⟨g5, ts, eD, tl, dt⟩
        obtain ⟨d5, hd5, hv5⟩ := DpAll.at' db3 hx5
        obtain ⟨l5, hl5, rfl⟩ := at_map hd5
        have hj5 := (List.getElem?_eq_some_iff.mp hx5).1
        refine ⟨rfl, x5, rfl, small_le (by show 2 ≤ 10000; decide), fun t5 ht5 => ?_⟩
        have n5 := ne_of_none eD ht5
        refine ⟨ts, (upd_ne n5).trans eD, small_line (by omega), (g5.new ht5).put hD ((upd_ne n5).trans eD), _, upd_same, by rw [List.length_append, tl]; rfl, ?_⟩
        rw [cut_out plus_D, List.take_add_one, hl5, Option.toList_some, List.map_append, List.map_append]
        refine DpAll.app (Dp.subs (Sub.new ht5).cuts _ _ dt) (.one ?_)
        refine .tup (.inl (.inl ((cut_at (plus_no rfl n5.symm)).trans upd_same))) (.cons ?_ (.one (.str _)))
        exact Dp.cutD ((upd_ne n5).trans eD) _ _ rfl (Dp.sub ((sub_go g5 g3.1).trans (Sub.new ht5)) _ _ hv5)
      · rintro H5 ⟨g5, ts, eD, tl, dt⟩
        have eR5 := g5.at g3.1 (fun z => z) eR3
        rw [ul, List.take_length] at dt
        have dt5 := Dp.subs Sub.cut _ _ dt
        have dr5 := Dp.subs (q3.trans (sub_go g5 g3.1)) _ _ dr
        have step : ((puts n 0 ds).take (i + 1)).flatten = ((puts n 0 ds).take i).flatten ++ fr := by rw [List.take_add_one, hfr, Option.toList_some, List.flatten_append, List.flatten_cons, List.flatten_nil, List.append_nil]
        have rl : rs.length + ts.length < 64 := by
          have h1 : rs.length = ((puts n 0 ds).take i).flatten.length := by rw [DpAll.len dr, List.length_map, List.length_map]
          have h2 := flat_take' (puts n 0 ds) (i + 1)
          rw [step, List.length_append] at h2
          omega
        refine ⟨R, D, rs, ts, rfl, rfl, .inl (.inl eR5), .inl (.inl eD), small_le (by omega), fun p hp => ?_⟩
        refine ⟨p, rs ++ ts, _, _, rfl, (g3.trans g5).new hp, upd_same, ?_⟩
        rw [step, List.map_append, List.map_append]
        exact DpAll.app (Dp.subs (Sub.new hp) _ _ dr5) (Dp.subs (Sub.new hp) _ _ dt5)
    · rintro σ H2 ⟨R, rs, y3, y4, rfl, g, eR, dr⟩
      rw [dlen, ← puts_len n ds 0, List.take_length] at dr
      have g02 := g01.trans g
      have tg2 := g02.1
      refine ⟨.ref R, rfl, .ref l, rfl, l, rfl, ⟨dvs, (toH g02).seqL S⟩, fun D hD => ?_⟩
      have lone : ((ds.flatMap oneD)).length ≤ (rowsM n ds).length := by
        unfold rowsM
        rw [List.length_append]
        omega
      refine lc_list (K := K) (a := l) (xs := dvs) (fun j H5 => Go T D0 H2 H5 ∧ ∃ ts, H5 D = some (.lst ts) ∧ ts.length ≤ j ∧ DpAll K (cut (plus C0 D) H5) ts (((ds.take j).flatMap oneD).map eLT)) ?_ ?_ ?_ ?_
      · exact ⟨(Go.rfl' tg2).new hD, [], upd_same, Nat.zero_le _, .nil⟩
      · rintro j H5 hj ⟨g5, _⟩
        exact (toH (g02.trans g5)).seqL S
      · rintro j x5 H5 hx5 ⟨g5, ts, eD, tl, dt⟩
        obtain ⟨d5, hd5, hv5⟩ := DpAll.at' dds hx5
        obtain ⟨d, hd, rfl⟩ := at_map hd5
        have hj5 := (List.getElem?_eq_some_iff.mp hx5).1
        obtain ⟨a', lvs, tl', rfl, Sd, dl, hcase⟩ := deed_parts hv5
        have SdG : ∀ {H'}, Go T D0 H2 H' → SqT K H' a' (.str d.kind :: (lvs ++ tl')) := fun g' => (toH (g02.trans g')).seqT Sd
        have step : (ds.take (j + 1)).flatMap oneD = (ds.take j).flatMap oneD ++ oneD d := flat_succ (f := oneD) hd
        rw [step]
        refine ⟨rfl, .ref a', rfl, a', _, 0, .str d.kind, rfl, rfl, SdG g5, atI_nat (j := 0) rfl, small_le (by decide), fun tt htt => ⟨tt, _, rfl, .inr (.inl (.inl upd_same)), rfl, rfl, _, rfl, ?_⟩⟩
        have n6 := ne_of_none eD htt
        have g6 := g5.new (o := .tup [V.str "cut", .str "keep"]) htt
        have eD6 := (upd_ne (o := .tup [V.str "cut", .str "keep"]) n6).trans eD
        have dt6 := Dp.subs (Sub.new (o := .tup [V.str "cut", .str "keep"]) htt).cuts _ _ dt
        generalize upd H5 tt (.tup [V.str "cut", .str "keep"]) = H6 at g6 eD6 dt6 ⊢
        have skip : ∀ d : Deed, oneD d = [] → Go T D0 H2 H6 ∧ ∃ ts, H6 D = some (.lst ts) ∧ ts.length ≤ j + 1 ∧ DpAll K (cut (plus C0 D) H6) ts (((ds.take j).flatMap oneD ++ oneD d).map eLT) := fun d e => by
          rw [e, List.append_nil]
          exact ⟨g6, ts, eD6, by omega, dt6⟩
        cases d with
        | put a b ts' => exact ite2 (fun e => absurd e (show ¬ inV (.str "put") [.str "cut", .str "keep"] = true by decide +kernel)) (fun _ => skip _ rfl)
        | order a b => exact ite2 (fun e => absurd e (show ¬ inV (.str "order") [.str "cut", .str "keep"] = true by decide +kernel)) (fun _ => skip _ rfl)
        | one c a =>
          have np : ¬ kindS c = ("put" : Str) := by cases c <;> decide +kernel
          have yes : inV (.str (kindS c)) [.str "cut", .str "keep"] = true := by cases c <;> decide +kernel
          refine ite2 (fun _ => ?_) (fun e => absurd yes e)
          rcases hcase with ⟨n1, _⟩ | ⟨n1, _⟩ | ⟨_, _, h1, rfl, _⟩
          · exact absurd n1 np
          · exact absurd n1 (show ¬ kindS c = ("order" : Str) by cases c <;> decide +kernel)
          obtain ⟨x, rfl, dx⟩ := DpAll.i1 dl
          refine ⟨.ref a', rfl, a', _, 1, x, rfl, rfl, SdG g6, atI_nat (j := 1) rfl, .ref a', rfl, a', _, 0, .str (kindS c), rfl, rfl, SdG g6, atI_nat (j := 0) rfl, small_le (by show 2 ≤ 10000; decide), fun t7 ht7 => ?_⟩
          have n7 := ne_of_none eD6 ht7
          refine ⟨ts, (upd_ne n7).trans eD6, small_line (by omega), (g6.new ht7).put hD ((upd_ne n7).trans eD6), _, upd_same, by rw [List.length_append]; show _ + 1 ≤ _; omega, ?_⟩
          rw [cut_out plus_D, List.map_append]
          refine DpAll.app (Dp.subs (Sub.new ht7).cuts _ _ dt6) (.one ?_)
          refine .tup (.inl (.inl ((cut_at (plus_no rfl n7.symm)).trans upd_same))) (.cons ?_ (.one (.str _)))
          exact Dp.cutD ((upd_ne n7).trans eD6) _ _ rfl (Dp.sub (toH ((g02.trans g6).new ht7)) _ _ dx)
      rintro H5 ⟨g5, ts, eD, tl, dt⟩
      rw [dlen, List.take_length] at dt
      have tlen : ts.length = (ds.flatMap oneD).length := by rw [DpAll.len dt, List.length_map]
      have rlen : rs.length = (puts n 0 ds).flatten.length := by rw [DpAll.len dr, List.length_map, List.length_map]
      have dall : DpAll K H5 (rs ++ ts) ((rowsM n ds).map eLT) := by
        unfold rowsM
        rw [List.map_append]
        exact DpAll.app (Dp.subs (sub_go g5 tg2) _ _ dr) (Dp.subs Sub.cut _ _ dt)
      have alen : (rs ++ ts).length = (rowsM n ds).length := by rw [DpAll.len dall, List.length_map]
      have alen' : rs.length + ts.length = (rowsM n ds).length := by rw [← alen, List.length_append]
      refine ⟨R, D, rs, ts, rfl, rfl, .inl (.inl (g5.at tg2 (fun z => z) eR)), .inl (.inl eD), small_le (by omega), fun R2 hR2 => ?_⟩
      have g6 := g5.new (o := .lst (rs ++ ts)) hR2
      have r6 : (upd H5 R2 (.lst (rs ++ ts))) R2 = some (.lst (rs ++ ts)) := upd_same
      have d6 := Dp.subs (Sub.new (o := .lst (rs ++ ts)) hR2) _ _ dall
      generalize upd H5 R2 (.lst (rs ++ ts)) = H6 at g6 r6 d6 ⊢
      generalize rs ++ ts = rows at r6 d6 alen
      clear dall alen' tlen rlen dt dr
      have g06 := g02.trans g6
      have tg6 := g06.1
      generalize hRM : rowsM n ds = RM at *
      -- each row's line and mark
      have row : ∀ {H' : Hp} {i : Nat} {x : V}, Go T D0 H6 H' → rows[i]? = some x → ∃ (r : Ln × Str) (t b : Addr), RM[i]? = some r ∧ x = .ref t ∧ SqT K H' t [.ref b, .str r.2] ∧ Dp K H' (.ref b) (eL r.1) ∧ SqT K H6 b ((keyL r.1).map kV) := fun {H' i x} g' hx => by
        obtain ⟨d', hd', hv'⟩ := DpAll.at' d6 hx
        obtain ⟨r, hr, rfl⟩ := at_map hd'
        obtain ⟨t, us, rfl, St, dus⟩ := Dp.tupI hv'
        obtain ⟨u, m, rfl, du, dm⟩ := DpAll.i2 dus
        cases Dp.strI dm
        obtain ⟨b, ws, rfl, Sb, dws⟩ := Dp.tupI du
        obtain ⟨p1, p2, p3, rfl, q1, q2, q3⟩ := DpAll.i3 dws
        cases Dp.strI q1
        cases Dp.intI q2
        cases Dp.intI q3
        exact ⟨r, t, b, hr, rfl, (sub_go g' tg6).seqT St, Dp.sub (sub_go g' tg6) _ _ du, Sb⟩
      refine ⟨.ref R2, rfl, R2, rfl, ⟨_, .inl (.inl r6)⟩, fun W hW => ?_⟩
      refine lc_list (K := K) (a := R2) (xs := rows) (fun j H7 => Go T D0 H6 H7 ∧ ∃ ks : List (Addr × List Key), H7 W = some (.lst (ks.map fun p => V.ref p.1)) ∧ ks.map (·.2) = (RM.take j).map (fun r => keyL r.1) ∧ ∀ p ∈ ks, SqT K H6 p.1 (p.2.map kV)) ?_ ?_ ?_ ?_
      · exact ⟨(Go.rfl' tg6).new hW, [], upd_same, rfl, fun _ z => nomatch z⟩
      · rintro j H7 hj ⟨g7, _⟩
        exact .inl (.inl (g7.at tg6 (fun z => z) r6))
      · rintro j x7 H7 hx7 ⟨g7, ks, eW, ek, sk⟩
        have hj7 := (List.getElem?_eq_some_iff.mp hx7).1
        obtain ⟨r, t7, b7, hr7, rfl, St, db7, Sb7⟩ := row g7 hx7
        have kl : ks.length ≤ j := by
          have := congrArg List.length ek
          rw [List.length_map, List.length_map, List.length_take] at this
          omega
        refine ⟨t7, _, rfl, St, rfl, _, _, rfl, _, _, rfl, rfl, rfl, _, rfl, _, eW, small_line (by rw [List.length_map]; omega), g7.put hW eW, ks ++ [(b7, keyL r.1)], ?_, ?_, ?_⟩
        · rw [upd_same, List.map_append]
          rfl
        · rw [List.map_append, ek, List.take_add_one, hr7, Option.toList_some, List.map_append]
          rfl
        · intro p hp
          rcases List.mem_append.mp hp with hp | hp
          · exact sk p hp
          · cases List.mem_singleton.mp hp
            exact Sb7
      rintro H7 ⟨g7, ks, eW, ek, sk⟩
      rw [alen, List.take_length] at ek
      have klen : ks.length < 64 := by
        have := congrArg List.length ek
        rw [List.length_map, List.length_map] at this
        omega
      have sk7 : ∀ p ∈ ks, SqT K H7 p.1 (p.2.map kV) := fun p hp => (sub_go g7 tg6).seqT (sk p hp)
      have kof : ∀ p ∈ ks, ∃ r ∈ RM, p.2 = keyL r.1 := fun p hp => by
        have := List.mem_map_of_mem (f := fun x : Addr × List Key => x.2) hp
        rw [ek] at this
        obtain ⟨r, hr, e⟩ := List.mem_map.mp this
        exact ⟨r, hr, e.symm⟩
      refine ⟨W, ks, rfl, .inl (.inl eW), sk7, klen, fun st hst => ?_⟩
      have g8 := g7.new (o := setHO P w st ks) hst
      have s8 : (upd H7 st (setHO P w st ks)) st = some (setHO P w st ks) := upd_same
      have sk8 : ∀ p ∈ ks, SqT K (upd H7 st (setHO P w st ks)) p.1 (p.2.map kV) := fun p hp => (Sub.new hst).seqT (sk7 p hp)
      generalize upd H7 st (setHO P w st ks) = H8 at g8 s8 sk8 ⊢
      refine ⟨st, ks, [false, true, true], rfl, s8, sk8, by decide, fun p hp => ?_, klen, fun MM L SM hL => ?_⟩
      · obtain ⟨r, _, e⟩ := kof p hp
        rw [e]
        rfl
      have g9 := g8.new (o := .lst (MM.map fun r => V.ref r.1)) hL
      have l9 : (upd H8 L (.lst (MM.map fun r => V.ref r.1))) L = some (.lst (MM.map fun r => V.ref r.1)) := upd_same
      generalize upd H8 L (.lst (MM.map fun r => V.ref r.1)) = H9 at g9 l9 ⊢
      have g09 := g06.trans g9
      have tg9 := g09.1
      have skM : ∀ p ∈ MM, SqT K H9 p.1 (p.2.map kV) := fun p hp => (sub_go g9 tg6).seqT (sk p (SM.sub p hp))
      obtain ⟨SL, eS⟩ : ∃ SL : List Ln, MM.map (·.2) = SL.map keyL := pickK fun p hp => let ⟨r, _, e⟩ := kof p (SM.sub p hp); ⟨r.1, e⟩
      have kin : ∀ r ∈ RM, keyL r.1 ∈ SL.map keyL := fun r hr => by
        have h1 : keyL r.1 ∈ ks.map (·.2) := by
          rw [ek]
          exact List.mem_map_of_mem (f := fun r : Ln × Str => keyL r.1) hr
        obtain ⟨p, hp, e⟩ := List.mem_map.mp h1
        have := SM.all p hp
        rw [eS] at this
        rw [← e]
        exact this
      have mS : ∀ l, l ∈ SL ↔ l ∈ RM.map (·.1) := fun l => by
        constructor
        · intro hl
          have h1 : keyL l ∈ MM.map (·.2) := by
            rw [eS]
            exact List.mem_map_of_mem hl
          obtain ⟨p, hp, e⟩ := List.mem_map.mp h1
          obtain ⟨r, hr, e2⟩ := kof p (SM.sub p hp)
          rw [keyL_inj (e.symm.trans e2)]
          exact List.mem_map_of_mem hr
        · intro hl
          obtain ⟨r, hr, rfl⟩ := List.mem_map.mp hl
          obtain ⟨l', hl', e⟩ := List.mem_map.mp (kin r hr)
          rw [← keyL_inj e]
          exact hl'
      have nS : SL.Nodup := by
        have h1 := SM.nd
        rw [eS] at h1
        exact List.Pairwise.imp (fun {a b} (h : keyL a ≠ keyL b) (e : a = b) => h (by rw [e])) (List.pairwise_map.mp h1)
      have uS : SL.Pairwise fun x y => PySem.W.dataLt (eL y) (eL x) = false := by
        have h1 : (MM.map (·.2)).Pairwise fun x y => PySem.W.dataLt (kT y) (kT x) = false := List.pairwise_map.mpr SM.up
        rw [eS] at h1
        exact List.pairwise_map.mp h1
      have lS : ∀ l ∈ SL, ∃ s, lastM RM l = some s := fun l hl => Option.isSome_iff_exists.mp (lastM_some.mpr ((mS l).mp hl))
      have oS : ∀ l ∈ SL, SeqAt.shaped (eL l) = true := fun l hl => by
        obtain ⟨r, hr, rfl⟩ := List.mem_map.mp ((mS l).mp hl)
        exact eL_sh (rok r hr)
      have oR : ∀ r ∈ RM, SeqAt.shaped (eL r.1) = true := fun r hr => eL_sh (rok r hr)
      have mlen : MM.length = SL.length := by
        have := congrArg List.length eS
        rwa [List.length_map, List.length_map] at this
      have mfew : MM.length < 64 := by have := SM.len; omega
      have r9 := g9.at tg6 (fun z => z) r6
      refine ⟨.ref L, rfl, L, rfl, ⟨_, .inl (.inl l9)⟩, fun Z hZ => ?_⟩
      refine lc_list (K := K) (a := L) (xs := MM.map fun r => V.ref r.1) (fun j H10 => Go T D0 H9 H10 ∧ ∃ ts, H10 Z = some (.lst ts) ∧ ts.length = j ∧ DpAll K (cut (plus C0 Z) H10) ts (((SL.map fun l => (l, (lastM RM l).getD "")).take j).map eLT)) ?_ ?_ ?_ ?_
      · exact ⟨(Go.rfl' tg9).new hZ, [], upd_same, rfl, .nil⟩
      · rintro j H10 hj ⟨g10, _⟩
        exact .inl (.inl (g10.at tg9 (fun z => z) l9))
      · rintro j x H10 hx ⟨g10, ts, eZ, tl, dt⟩
        rw [List.getElem?_map] at hx
        obtain ⟨p, hp, rfl⟩ := Option.map_eq_some_iff.mp hx
        have hj := (List.getElem?_eq_some_iff.mp hp).1
        obtain ⟨l5, hl5, el5⟩ : ∃ l5, SL[j]? = some l5 ∧ p.2 = keyL l5 := by
          have h1 : (MM.map (·.2))[j]? = some p.2 := by rw [List.getElem?_map, hp]; rfl
          rw [eS, List.getElem?_map] at h1
          obtain ⟨l5, h2, h3⟩ := Option.map_eq_some_iff.mp h1
          exact ⟨l5, h2, h3.symm⟩
        have ml5 := List.mem_of_getElem? hl5
        obtain ⟨s5, hs5⟩ := lS l5 ml5
        have dl5 : ∀ {H'}, Go T D0 H9 H' → Dp K H' (.ref p.1) (eL l5) := fun g' => by
          have := (sub_go g' tg9).seqT (skM p (List.mem_of_getElem? hp))
          rw [el5] at this
          exact .tup this (.cons (.str _) (.cons (.int _) (.one (.int _))))
        have r10 := g10.at tg9 (fun z => z) r9
        refine ⟨rfl, .ref p.1, rfl, .ref R2, rfl, R2, rfl, ⟨_, .inl (.inl r10)⟩, fun U hU => ?_⟩
        refine lc_list (K := K) (a := R2) (xs := rows) (fun i H11 => Go T D0 H10 H11 ∧ H11 U = some (.lst ((((RM.take i).filter fun r => decide (r.1 = l5)).map (·.2)).map V.str))) ?_ ?_ ?_ ?_
        · exact ⟨(Go.rfl' g10.1).new hU, upd_same⟩
        · rintro i H11 hi ⟨g11, _⟩
          exact .inl (.inl (g11.at g10.1 (fun z => z) r10))
        · rintro i y H11 hy ⟨g11, eU⟩
          have hi := (List.getElem?_eq_some_iff.mp hy).1
          obtain ⟨r, t, b, hr, rfl, St, db, _⟩ := row ((g9.trans g10).trans g11) hy
          have step : (RM.take (i + 1)).filter (fun r => decide (r.1 = l5)) = (RM.take i).filter (fun r => decide (r.1 = l5)) ++ (if decide (r.1 = l5) = true then [r] else []) := by
            rw [List.take_add_one, hr, Option.toList_some, List.filter_append]
            congr 1
            by_cases h : decide (r.1 = l5) = true
            · rw [if_pos h]
              exact List.filter_cons_of_pos (p := fun r : Ln × Str => decide (r.1 = l5)) (l := []) h
            · rw [if_neg h]
              exact List.filter_cons_of_neg (p := fun r : Ln × Str => decide (r.1 = l5)) (l := []) h
          have ul : (((RM.take i).filter fun r => decide (r.1 = l5)).map (·.2)).length ≤ i := by
            have := List.length_filter_le (fun r : Ln × Str => decide (r.1 = l5)) (RM.take i)
            rw [List.length_take] at this
            rw [List.length_map]
            omega
          refine ⟨t, _, rfl, St, rfl, _, _, rfl, _, _, rfl, rfl, rfl, .ref b, rfl, .ref p.1, rfl, eL r.1, eL l5, db, dl5 (g10.trans g11), oR r (List.mem_of_getElem? hr), oS l5 ml5, _, rfl, ?_⟩
          rw [eL_eqv, step]
          refine ite2 (fun e => ?_) (fun e => ?_)
          · rw [if_pos e]
            refine ⟨.str r.2, rfl, _, eU, small_line (by rw [List.length_map]; omega), g11.put hU eU, ?_⟩
            rw [upd_same, List.map_append, List.map_append]
            rfl
          · rw [if_neg e, List.append_nil]
            exact ⟨g11, eU⟩
        · rintro H11 ⟨g11, eU⟩
          rw [alen, List.take_length] at eU
          obtain ⟨us, hus⟩ := List.getLast?_eq_some_iff.mp hs5
          rw [hus, List.map_append] at eU
          have g910 := g10.trans g11
          have eZ11 := g11.at g10.1 (fun z => z) eZ
          refine ⟨1, rfl, U, _, -1, .str s5, rfl, rfl, .inl (.inl eU), atI_last _ _, small_le (by show 2 ≤ 10000; decide), fun t ht => ?_⟩
          have nt := ne_of_none eZ11 ht
          have e12 := (upd_ne (o := .tup [.ref p.1, .str s5]) nt).trans eZ11
          refine ⟨ts, e12, small_line (by omega), (g910.new ht).put hZ e12, _, upd_same, by rw [List.length_append, tl]; rfl, ?_⟩
          rw [cut_out plus_D, List.take_add_one, List.getElem?_map, hl5, Option.map_some, Option.toList_some, List.map_append]
          refine DpAll.app (Dp.subs ((sub_go g11 g10.1).trans (Sub.new ht)).cuts _ _ dt) (.one ?_)
          rw [hs5]
          refine .tup (.inl (.inl ((cut_at (plus_no rfl nt.symm)).trans upd_same))) (.cons ?_ (.one (.str _)))
          exact Dp.cutD e12 _ _ rfl (dl5 (g910.new ht))
      rintro H10 ⟨g10, ts, eZ, tl, dt⟩
      have dmf : (SL.map fun l => (l, (lastM RM l).getD "")).map (·.1) = SL := by
        rw [List.map_map]
        exact List.map_id SL
      rw [List.length_map, mlen, ← List.length_map (as := SL) (fun l => (l, (lastM RM l).getD "")), List.take_length] at dt
      refine q H10 Z ts _ (g09.trans g10) (g09.free tg (fun z => z) hZ) eZ dt ?_ ?_ ?_ ?_
      · rw [dmf]; exact nS
      · intro l; rw [dmf]; exact mS l
      · rw [dmf]; exact uS
      · intro x hx
        obtain ⟨l, hl, rfl⟩ := List.mem_map.mp hx
        obtain ⟨s, hs⟩ := lS l hl
        show lastM RM l = some ((lastM RM l).getD "")
        rw [hs]
        rfl
end
end K1
set_option Elab.async false
set_option linter.all false
set_option maxRecDepth 100000
set_option maxHeartbeats 400000
/-! for x, y, z in zip(list, list, list). -/
namespace K1
open PySem PySem.Spec PyProof.Rows L2
/-- the lists at a, b, c as they stand at each turn, the items in new triples -/
def Itz3 (K : PySem.W.Frag) (a b c : Addr) : It :=
  ⟨fun i H => ∃ (xs ys zs : List V) (x y z : V), SqL K H a xs ∧ SqL K H b ys ∧ SqL K H c zs ∧ xs[i]? = some x ∧ ys[i]? = some y ∧ zs[i]? = some z,
    fun i H v H' => ∃ T x y z, v = .ref T ∧ H T = none ∧ H' = upd H T (.tup [x, y, z]) ∧ (∀ xs, SqL K H a xs → xs[i]? = some x) ∧ (∀ ys, SqL K H b ys → ys[i]? = some y) ∧ ∀ zs, SqL K H c zs → zs[i]? = some z,
    fun i H => ∃ xs ys zs : List V, SqL K H a xs ∧ SqL K H b ys ∧ SqL K H c zs ∧ i ≤ xs.length ∧ i ≤ ys.length ∧ i ≤ zs.length ∧ (i = xs.length ∨ i = ys.length ∨ i = zs.length)⟩
theorem turn_zip3 {P : Program} {w : World} {K : PySem.W.Frag} {elts : List Expr} {kk : Nat} {tpos : Pos} {a b c z TI TO i1 i2 i3 : Addr} (D : ZipSep3 z TI TO i1 i2 i3 [i1, a] [i2, b] [i3, c]) (na : a ≠ i1) (nb : b ≠ i2) (nc : c ≠ i3) :
    Turn P w K (.Tuple elts kk tpos) (Itz3 K a b c) [z, TI, TO, i1, i2, i3] z (fun i h => IsZip h z TI TO .none ∧ IsTupOf3 h TI (.ref i1) (.ref i2) (.ref i3) ∧ (∃ x y u, IsTupOf3 h TO x y u) ∧ h.IsListIter i1 a i ∧ h.IsListIter i2 b i ∧ h.IsListIter i3 c i) where
  mem := by simp
  obj := fun i h st e hc => by
    obtain ⟨hz, hTI, ⟨x, y, u, hTO⟩, ⟨o1, e1, _, d1⟩, ⟨o2, e2, _, d2⟩, ⟨o3, e3, _, d3⟩⟩ := st
    have e' : e = z ∨ e = TI ∨ e = TO ∨ e = i1 ∨ e = i2 ∨ e = i3 := by simpa using hc
    rcases e' with q | q | q | q | q | q
    · rw [q]; exact ⟨_, hz, fun v q => nomatch q⟩
    · rw [q]; exact ⟨_, hTI, fun v q => nomatch q⟩
    · rw [q]; exact ⟨_, hTO, fun v q => nomatch q⟩
    · rw [q]; exact ⟨o1, e1, fun v q => by rw [d1] at q; cases q⟩
    · rw [q]; exact ⟨o2, e2, fun v q => by rw [d2] at q; cases q⟩
    · rw [q]; exact ⟨o3, e3, fun v q => by rw [d3] at q; cases q⟩
  keep := fun i h h' st k => by
    obtain ⟨hz, hTI, ⟨x, y, u, hTO⟩, h1, h2, h3⟩ := st
    exact ⟨k z (by simp) _ hz, k TI (by simp) _ hTI, ⟨x, y, u, k TO (by simp) _ hTO⟩, h1.at fun o q => k i1 (by simp) o q, h2.at fun o q => k i2 (by simp) o q, h3.at fun o q => k i3 (by simp) o q⟩
  item := by
    intro X hP hw hK hc i pins s σ H E I hf st hg
    subst hP hw hK
    obtain ⟨hz, hTI, ⟨x0, y0, u0, hTO⟩, h1, h2, h3⟩ := st
    obtain ⟨xs, ys, zs, x, y, u, hqx, hqy, hqz, hx, hy, hu⟩ := hg
    obtain ⟨its, rv, p, _⟩ := I.list hqx
    obtain ⟨its2, rv2, p2, _⟩ := I.list hqy
    obtain ⟨its3, rv3, p3, _⟩ := I.list hqz
    obtain ⟨v1, hv1, r1⟩ := rv.get hx
    obtain ⟨v2, hv2, r2⟩ := rv2.get hy
    obtain ⟨v3, hv3, r3⟩ := rv3.get hu
    have hzl : z < s.heap.objs.size := Heap.lt_size hz
    have lt : ∀ {l : List Value} {v : Value}, l[i]? = some v → i < l.toArray.size := fun h => by
      have := (List.getElem?_eq_some_iff.mp h).1
      simpa using this
    refine wpAny_pyNext_zipD3_item D (Draws.list (A := X.A.in1) (I.ok.hd hc) i1 a na its.toArray) (Draws.list (A := X.A.in1) (I.ok.hd hc) i2 b nb its2.toArray) (Draws.list (A := X.A.in1) (I.ok.hd hc) i3 c nc its3.toArray) hz hTI hTO ⟨h1, p.isList⟩ ⟨h2, p2.isList⟩ ⟨h3, p3.isList⟩ (lt hv1) (lt hv2) (lt hv3)
      fun x1 x2 x3 h' tk y1 y2 y3 z' TO' d1 d2 d3 hT hsz hk => ?_
    have ex1 : x1 = v1 := by
      have y1' : its.toArray[i]? = some x1 := y1
      rw [List.getElem?_toArray, hv1] at y1'
      exact (Option.some.inj y1').symm
    have ex2 : x2 = v2 := by
      have y1' : its2.toArray[i]? = some x2 := y2
      rw [List.getElem?_toArray, hv2] at y1'
      exact (Option.some.inj y1').symm
    have ex3 : x3 = v3 := by
      have y1' : its3.toArray[i]? = some x3 := y3
      rw [List.getElem?_toArray, hv3] at y1'
      exact (Option.some.inj y1').symm
    subst ex1 ex2 ex3
    refine ⟨_, rfl, wpAny_letOwnedTupleGo_zip (s := { s with heap := h', toks := tk }) z' fun h'' z'' sb => ?_⟩
    have hT2 : h''.get? s.heap.objs.size = some { cls := .type "tuple", data := .seq #[x1, x2, x3] } := (sb.2 _ (Nat.ne_of_gt hzl)).trans hT
    have new : ObjOk X.prog X.w (upd H s.heap.objs.size (.tup [x, y, u])) h'' s.heap.objs.size (.tup [x, y, u]) :=
      ⟨by show 3 ≤ sizeLine; decide, [x1, x2, x3], .cons r1 (.cons r2 (.cons r3 .nil)), ⟨_, hT2, rfl, _, rfl⟩⟩
    have I1 : Inv X pins σ (upd H s.heap.objs.size (.tup [x, y, u])) { s with heap := h'', toks := tk } :=
      I.turnedNew (t' := tk) (ch := [z, TI, TO, i1, i2, i3]) (fun e o hb q => (sb.2 e (fun q' => hb (by simp [q']))).trans (hk e o (fun q' => hb (by simp [q'])) (fun q' => hb (by simp [q'])) (fun q' => hb (by simp [q'])) (fun q' => hb (by simp [q'])) (fun q' => hb (by simp [q'])) q)) hf (Nat.le_refl _) new
    have TIf : ∀ {e o}, e ≠ z → h'.get? e = some o → h''.get? e = some o := fun n q => (sb.2 _ n).trans q
    have z1 : i1 ≠ z := fun q => D.zf1 (by rw [← q]; exact List.mem_cons_self ..)
    have z2 : i2 ≠ z := fun q => D.zf2 (by rw [← q]; exact List.mem_cons_self ..)
    have z3 : i3 ≠ z := fun q => D.zf3 (by rw [← q]; exact List.mem_cons_self ..)
    refine ⟨.ref s.heap.objs.size, _, I1, rfl, ⟨_, x, y, u, rfl, I.hok.fresh (Nat.le_refl _), rfl, fun l hl => by rw [I.list_inj hl hqx]; exact hx, fun l hl => by rw [I.list_inj hl hqy]; exact hy, fun l hl => by rw [I.list_inj hl hqz]; exact hu⟩, ⟨z'', ?_, ⟨x1, x2, x3, ?_⟩, ?_, ?_, ?_⟩, fun e hcm => ?_⟩
    · exact TIf D.TIz (hk _ _ D.TIz D.TITO D.TIi1 D.TIi2 D.TIi3 hTI)
    · exact TIf D.TOz TO'
    · exact d1.1.at fun o q => TIf z1 q
    · exact d2.1.at fun o q => TIf z2 q
    · exact d3.1.at fun o q => TIf z3 q
    · have hlt : e < s.heap.objs.size := by
        have e' : e = z ∨ e = TI ∨ e = TO ∨ e = i1 ∨ e = i2 ∨ e = i3 := by simpa using hcm
        rcases e' with q | q | q | q | q | q
        · rw [q]; exact hzl
        · rw [q]; exact Heap.lt_size hTI
        · rw [q]; exact Heap.lt_size hTO
        · rw [q]; obtain ⟨_, e1, _⟩ := h1; exact Heap.lt_size e1
        · rw [q]; obtain ⟨_, e2, _⟩ := h2; exact Heap.lt_size e2
        · rw [q]; obtain ⟨_, e3, _⟩ := h3; exact Heap.lt_size e3
      rw [upd_ne (Nat.ne_of_lt hlt)]
      exact (hf e hcm).1
  done := by
    intro X hP hw hK hc i pins s σ H E I hf st hg
    subst hP hw hK
    obtain ⟨hz, hTI, ⟨x0, y0, u0, hTO⟩, h1, h2, h3⟩ := st
    obtain ⟨xs, ys, zs, hqx, hqy, hqz, m1, m2, m3, hend⟩ := hg
    obtain ⟨its, rv, p, _⟩ := I.list hqx
    obtain ⟨its2, rv2, p2, _⟩ := I.list hqy
    obtain ⟨its3, rv3, p3, _⟩ := I.list hqz
    have l1 : its.toArray.size = xs.length := by have := rv.length; simp; omega
    have l2 : its2.toArray.size = ys.length := by have := rv2.length; simp; omega
    have l3 : its3.toArray.size = zs.length := by have := rv3.length; simp; omega
    exact wpAny_pyNext_zipD3_end D (Draws.list (A := X.A.in1) (I.ok.hd hc) i1 a na its.toArray) (Draws.list (A := X.A.in1) (I.ok.hd hc) i2 b nb its2.toArray) (Draws.list (A := X.A.in1) (I.ok.hd hc) i3 c nc its3.toArray) hz hTI hTO ⟨h1, p.isList⟩ ⟨h2, p2.isList⟩ ⟨h3, p3.isList⟩
      (by omega) (by omega) (by omega) (by omega) fun h' tk hk => ⟨rfl, I.turnedL (t' := tk) (ch := [z, TI, TO, i1, i2, i3]) (fun e o hb q => hk e o (fun q' => hb (by simp [q'])) (fun q' => hb (by simp [q'])) (fun q' => hb (by simp [q'])) (fun q' => hb (by simp [q'])) (fun q' => hb (by simp [q'])) q) hf⟩
  self := fun A i s Q E st h => wpAny_pyIter_zip st.1 h
def iZip3 (K : PySem.W.Frag) (ta : TA) : TI := fun σ H R => ta σ H fun vs H1 => ∃ a b c xs ys zs, vs = [.ref a, .ref b, .ref c] ∧ SqL K H1 a xs ∧ SqL K H1 b ys ∧ SqL K H1 c zs ∧ R (Itz3 K a b c) H1
theorem pi_zip3 {X : Cx} {e e2 e3 : Expr} {ta : TA} {p pos tpos : Pos} {elts : List Expr} {kk : Nat} (hg : Gl X "zip") (hm : X.mg "zip" = none) (ha : PA X [e, e2, e3] ta)
    (hs : starEach [e, e2, e3] X.env = (false, eval e X.env) :: starEach [e2, e3] X.env := by rfl) (hpl : (backTo pos (starEach [e2, e3] X.env)).any (·.1) = false := by rfl) :
    PI X (.Tuple elts kk tpos) (.Call (.Name "zip" p) [e, e2, e3] [] pos) (iZip3 X.K ta) := by
  refine ⟨fun pins s σ H R I h => ?_⟩
  refine Call_ (ld_blt I hg hm PyProof.Rows.boot_zip (PyProof.Rows.callWith_type1 (thn (ha.run pos pins s σ H _ I h) fun us s1 ⟨vs, H1, I1, r1, q1⟩ => ?_) hs hpl))
  obtain ⟨a, b, c, xs, ys, zs, ex, hqx, hqy, hqz, q⟩ := q1
  subst ex
  cases r1 with
  | cons r rr =>
    cases rr with
    | cons r' rr =>
      cases rr with
      | cons r'' rr =>
        cases rr
        cases r
        cases r'
        cases r''
        obtain ⟨its, rv, p1, _⟩ := I1.list hqx
        obtain ⟨its2, rv2, p2, _⟩ := I1.list hqy
        obtain ⟨its3, rv3, p3, _⟩ := I1.list hqz
        have la : a < s1.heap.objs.size := p1.lt
        have lb : b < s1.heap.objs.size := p2.lt
        have lc : c < s1.heap.objs.size := p3.lt
        refine zip_begins3 (begins_list a its.toArray) (begins_list b its2.toArray) (begins_list c its3.toArray) (by exact p1.isList) (by exact p2.isList) (by exact p3.isList) fun h' hz hTI hTO h1 h2 h3 hsz hk => wpAny_pyIter_zip hz ?_
        have I2 : Inv X pins σ H1 { s1 with heap := h' } := I1.kept (t' := s1.toks) hk
        refine ⟨s1.heap.objs.size + 5, [s1.heap.objs.size + 5, s1.heap.objs.size + 3, s1.heap.objs.size + 4, s1.heap.objs.size, s1.heap.objs.size + 1, s1.heap.objs.size + 2], _, _, H1, rfl, I2,
          turn_zip3 (zip_sep3 (N := s1.heap.objs.size) (fp1 := [a]) (fp2 := [b]) (fp3 := [c]) (fun x hx => by rw [List.mem_singleton.mp hx]; exact la) (fun x hx => by rw [List.mem_singleton.mp hx]; exact lb) (fun x hx => by rw [List.mem_singleton.mp hx]; exact lc)) (Nat.ne_of_lt la) (Nat.ne_of_lt (Nat.lt_succ_of_lt lb)) (Nat.ne_of_lt (Nat.lt_succ_of_lt (Nat.lt_succ_of_lt lc))),
          ⟨hz, hTI, ⟨_, _, _, hTO⟩, ⟨_, h1, rfl, rfl⟩, ⟨_, h2, rfl, rfl⟩, ⟨_, h3, rfl, rfl⟩⟩, fun e hcm => ?_, q⟩
        have e' : e = s1.heap.objs.size + 5 ∨ e = s1.heap.objs.size + 3 ∨ e = s1.heap.objs.size + 4 ∨ e = s1.heap.objs.size ∨ e = s1.heap.objs.size + 1 ∨ e = s1.heap.objs.size + 2 := by simpa using hcm
        have hle : s1.heap.objs.size ≤ e := by
          rcases e' with z | z | z | z | z | z
          · rw [z]; exact Nat.le_add_right _ _
          · rw [z]; exact Nat.le_add_right _ _
          · rw [z]; exact Nat.le_add_right _ _
          · rw [z]; exact Nat.le_refl _
          · rw [z]; exact Nat.le_add_right _ _
          · rw [z]; exact Nat.le_add_right _ _
        exact I1.fpOk hle (I1.hok.fresh hle)
/-- a new triple of the i-th ones -/
def YTri (xs ys zs : Nat → Option V) : Nat → Hp → V → Hp → Prop := fun i H v H' => ∃ T x y z, v = .ref T ∧ H T = none ∧ H' = upd H T (.tup [x, y, z]) ∧ xs i = some x ∧ ys i = some y ∧ zs i = some z
theorem walk_zip3 {K : PySem.W.Frag} {a b c : Addr} {xs ys zs : List V} {n : Nat} (h1 : xs.length = n) (h2 : ys.length = n) (h3 : zs.length = n) : Walk (Itz3 K a b c) n (fun H => SqL K H a xs ∧ SqL K H b ys ∧ SqL K H c zs) (YTri (fun i => xs[i]?) (fun i => ys[i]?) (fun i => zs[i]?)) := by
  refine ⟨fun i _ hi q => ⟨xs, ys, zs, xs[i], ys[i], zs[i], q.1, q.2.1, q.2.2, by simp [h1, hi], by simp [h2, hi], by simp [h3, hi]⟩, fun _ q => ⟨xs, ys, zs, q.1, q.2.1, q.2.2, by omega, by omega, by omega, .inl h1.symm⟩, fun i H v H' _ q y => ?_⟩
  obtain ⟨T, x, y, z, e1, e2, e3, e4, e5, e6⟩ := y
  exact ⟨T, x, y, z, e1, e2, e3, e4 xs q.1, e5 ys q.2.1, e6 zs q.2.2⟩
end K1
set_option Elab.async false
set_option linter.all false
set_option maxRecDepth 100000
set_option maxHeartbeats 400000
/-! Drawn histories, and the patch of many signs: they are good. -/
namespace K1
open PySem PySem.Spec PyProof.Rows L2
/-- all that the laws' patches keep -/
structure Pat.fine (p : Pat) : Prop where
  good : p.good
  sized : p.sized
  k4 : p.knows.length ≤ 4
  d3 : p.deeds.length ≤ 3
  t41 : (textsOf p).length ≤ 41
theorem fine_sum : ∀ {ps : List Pat}, (∀ p ∈ ps, p.fine) → ((ps.flatMap rowsOf).map (·.length)).sum ≤ 2200 * ps.length ∧ (ps.flatMap rowsOf).length ≤ 46 * ps.length ∧ (ps.map fun p => p.deeds.length).sum ≤ 3 * ps.length
  | [], _ => ⟨Nat.zero_le _, Nat.zero_le _, Nat.zero_le _⟩
  | p :: r, h => by
    have f := h p (List.mem_cons_self ..)
    have h1 := patSum f.sized
    have h2 := f.k4
    have h4 := f.d3
    have h5 := f.t41
    have h3 := fine_sum (ps := r) fun x m => h x (List.mem_cons_of_mem _ m)
    rw [List.flatMap_cons, List.map_append, List.sum_append, List.length_append, List.length_cons, List.map_cons, List.sum_cons]
    omega
theorem le_sum : ∀ {l : List Str} {x : Str}, x ∈ l → x.length ≤ (l.map (·.length)).sum
  | y :: r, x, h => by
    rw [List.map_cons, List.sum_cons]
    rcases List.mem_cons.mp h with rfl | h
    · omega
    · have := le_sum h
      omega
theorem LnOk.ne_head {l : Ln} (h : LnOk l) : l ≠ headL := by
  rintro rfl
  exact absurd h.1.2.1 (by decide)
theorem DeedFrom.fit {goods : List Ln} {d : Deed} (h : DeedFrom goods d) (g : ∀ l ∈ goods, LnOk l) : d.fit := by
  cases h with
  | put a b ts ha hb ne h0 h1 ht =>
    refine ⟨ne, ?_, ?_, h0, by omega⟩
    · rcases ha with rfl | ha
      · exact headL_ne_foot
      · exact (g a ha).ne_foot
    · rcases hb with rfl | hb
      · exact fun z => headL_ne_foot z.symm
      · exact (g b hb).ne_head
  | order a b ha hb ne => exact ne
  | one k a ha => trivial
theorem DeedFrom.lines {goods : List Ln} {d : Deed} (h : DeedFrom goods d) : ∀ l ∈ d.lines, l = headL ∨ l = footL ∨ l ∈ goods := by
  cases h with
  | put a b ts ha hb ne h0 h1 ht =>
    intro l hl
    simp only [Deed.lines, List.mem_cons, List.not_mem_nil, or_false] at hl
    rcases hl with rfl | rfl
    · rcases ha with h | h
      · exact .inl h
      · exact .inr (.inr h)
    · rcases hb with h | h
      · exact .inr (.inl h)
      · exact .inr (.inr h)
  | order a b ha hb ne =>
    intro l hl
    simp only [Deed.lines, List.mem_cons, List.not_mem_nil, or_false] at hl
    rcases hl with rfl | rfl
    · exact .inr (.inr ha)
    · exact .inr (.inr hb)
  | one k a ha =>
    intro l hl
    rw [List.mem_singleton.mp hl]
    exact .inr (.inr ha)
theorem PatFrom.fine {hands : List Str} {hist : List Pat} {p : Pat} (h : PatFrom hands hist p) (ho : HandsOk hands) (hh : HistFrom hands hist) (hl : hist.length ≤ 100) : p.fine := by
  have hn := hh.nms ho (by omega)
  have nm := h.nm ho (by omega)
  have ok := h.ok ho (by omega) hn
  have fr := h.fresh hh
  have gk : ∀ m, ∀ g ∈ goodsAt hist p m, LnOk g := fun m => goods_ok hn nm
  have hs := (hh.ok ho hl).each
  have tl := textsOf_len ok.2
  have many : ∀ i, manyAt p.deeds i ≤ 9 := fun i => by
    have : manyAt p.deeds i ≤ (textsOf p).length := by
      unfold manyAt textsOf
      exact flat_take _ _
    omega
  have place : ∀ i, ∀ l ∈ goodsAt hist p (manyAt p.deeds i), l.2.2 ≤ 9 ∧ (nmOf l = p.name → l.2.2 ≤ (manyAt p.deeds i : Nat)) := by
    intro i l hl'
    rcases List.mem_append.mp hl' with hg | hg
    · obtain ⟨x, hx, rfl⟩ := List.mem_map.mp hg
      obtain ⟨q, hq, _, hx⟩ := linesIn_mem hx
      obtain ⟨k, hk, rfl⟩ := linesOf_mem hx
      have := textsOf_len (hs q hq).2
      refine ⟨by show (k : Int) + 1 ≤ 9; omega, fun z => absurd z (fr q hq)⟩
    · obtain ⟨k, hk, rfl⟩ := List.mem_map.mp hg
      have hk' := List.mem_range.mp hk
      have := many i
      exact ⟨by show (k : Int) + 1 ≤ 9; omega, fun _ => by show (k : Int) + 1 ≤ _; omega⟩
  refine ⟨⟨ok.1, fun d hd => ?_, fun i d hd l hl' e => ?_, h.asc, fun hk => ?_, by have := h.three; omega⟩, ⟨ok.1, fun d hd l hl' => ?_, by have := h.four; omega, by omega, by have := h.three; omega⟩, h.four, h.three, by omega⟩
  · obtain ⟨i, hi⟩ := List.mem_iff_getElem?.mp hd
    exact (h.deeds i d hi).fit (gk _)
  · rcases (h.deeds i d hd).lines l hl' with rfl | rfl | hg
    · show (0 : Int) ≤ _
      omega
    · have : nmOf footL = p.name := e
      have n1 := nm.2.1
      rw [← this] at n1
      exact absurd n1 (by decide)
    · exact (place i l hg).2 e
  · obtain ⟨q, hq, e⟩ := h.there _ hk
    exact fr q hq e
  · obtain ⟨i, hi⟩ := List.mem_iff_getElem?.mp hd
    rcases (h.deeds i d hi).lines l hl' with rfl | rfl | hg
    · decide
    · decide
    · have := (place i l hg).1
      omega
theorem HistFrom.take {hands : List Str} {hist : List Pat} (h : HistFrom hands hist) (n : Nat) : HistFrom hands (hist.take n) := by
  intro i p hi
  have hin : i < n := by
    have := (List.getElem?_eq_some_iff.mp hi).1
    rw [List.length_take] at this
    omega
  rw [List.getElem?_take_of_lt hin] at hi
  rw [List.take_take, Nat.min_eq_left (Nat.le_of_lt hin)]
  exact h i p hi
theorem HistFrom.fine {hands : List Str} {hist : List Pat} (h : HistFrom hands hist) (ho : HandsOk hands) (hl : hist.length ≤ 100) : ∀ p ∈ hist, p.fine := by
  intro p hp
  obtain ⟨i, hi⟩ := List.mem_iff_getElem?.mp hp
  exact (h i p hi).fine ho (h.take i) (by rw [List.length_take]; omega)
/-- the patch of many signs -/
def patZ (n : Nm) (ts : List Str) : Pat := ⟨("zz", 999), [n], [.put headL footL ts, .one true ("zz", 999, 1)]⟩
theorem zz_ok : NmOk (("zz", 999) : Nm) := ⟨by decide +kernel, by decide, by decide⟩
theorem patZ_fine {n : Nm} {ts : List Str} (hn : NmOk n) (ne : n ≠ (("zz", 999) : Nm)) (ht : ∀ t ∈ ts, TxOk t) (l1 : 1 ≤ ts.length) (l2 : ts.length ≤ 41) : (patZ n ts).fine := by
  have lz : LnOk ("zz", 999, 1) := ⟨zz_ok, by decide⟩
  have okz : (patZ n ts).ok := ⟨zz_ok, fun m hm => by rw [List.mem_singleton.mp hm]; exact hn, fun d hd => by
    rcases List.mem_cons.mp hd with rfl | hd
    · exact ⟨.inr (.inl rfl), .inr (.inr rfl), ht⟩
    · rw [List.mem_singleton.mp hd]
      exact lz⟩
  have tx : (textsOf (patZ n ts)).length = ts.length := by
    show ((ts ++ ([] ++ [])) : List Str).length = _
    simp
  refine ⟨⟨okz, fun d hd => ?_, fun i d hd l hl e => ?_, List.pairwise_singleton _ _, fun hm => ne (List.mem_singleton.mp hm).symm, by show 2 ≤ 400; decide⟩, ⟨okz, fun d hd l hl => ?_, by show 1 ≤ 1000; decide, by omega, by show 2 ≤ 1000; decide⟩, by show 1 ≤ 4; decide, by show 2 ≤ 3; decide, by omega⟩
  · rcases List.mem_cons.mp hd with rfl | hd
    · exact ⟨headL_ne_foot, headL_ne_foot, fun z => headL_ne_foot z.symm, l1, by omega⟩
    · rw [List.mem_singleton.mp hd]
      trivial
  · match i, hd with
    | 0, hd =>
      cases hd
      simp only [Deed.lines, List.mem_cons, List.not_mem_nil, or_false] at hl
      rcases hl with rfl | rfl
      · exact absurd (show nmOf headL = (("zz", 999) : Nm) from e) (by decide +kernel)
      · exact absurd (show nmOf footL = (("zz", 999) : Nm) from e) (by decide +kernel)
    | 1, hd =>
      cases hd
      rw [List.mem_singleton.mp hl]
      show (1 : Int) ≤ ((manyAt (patZ n ts).deeds 1 : Nat) : Int)
      have : manyAt (patZ n ts).deeds 1 = ts.length := by
        show ((ts ++ []) : List Str).length = _
        simp
      omega
    | (k + 2), hd => cases hd
  · rcases List.mem_cons.mp hd with rfl | hd
    · simp only [Deed.lines, List.mem_cons, List.not_mem_nil, or_false] at hl
      rcases hl with rfl | rfl
      · decide
      · decide
    · rw [List.mem_singleton.mp hd] at hl
      rw [List.mem_singleton.mp hl]
      decide
end K1
set_option Elab.async false
set_option linter.all false
set_option maxRecDepth 100000
set_option maxHeartbeats 400000
/-! Shapes of what is told and due; the marks told are the marks due. -/
namespace K1
open PySem PySem.Spec PyProof.Rows L2 LZ
theorem puts_at (n : Nm) : ∀ (ds : List Deed) (m j : Nat) (d : Deed), ds[j]? = some d → (puts n m ds)[j]? = some (freshOf n (m + ((ds.take j).flatMap Deed.texts).length) d)
  | [], _, _, _, h => by cases h
  | x :: r, m, 0, d, h => by
    cases h
    rfl
  | x :: r, m, j + 1, d, h => by
    have h' : r[j]? = some d := h
    show (puts n (m + x.texts.length) r)[j]? = _
    rw [puts_at n r _ j d h', List.take_succ_cons, List.flatMap_cons, List.length_append, Nat.add_assoc]
theorem binds_at (n : Nm) : ∀ (ds : List Deed) (m j : Nat) (d : Deed), ds[j]? = some d → (binds n m ds)[j]? = some (bindP d (freshOf n (m + ((ds.take j).flatMap Deed.texts).length) d))
  | [], _, _, _, h => by cases h
  | x :: r, m, 0, d, h => by
    cases h
    rfl
  | x :: r, m, j + 1, d, h => by
    have h' : r[j]? = some d := h
    show (binds n (m + x.texts.length) r)[j]? = _
    rw [binds_at n r _ j d h', List.take_succ_cons, List.flatMap_cons, List.length_append, Nat.add_assoc]
theorem eLT_lay {x : Ln × Str} (h1 : PyData.strOk x.1.1 = true) (h2 : PyData.strOk x.2 = true) : (eLT x).canLay0 = true := by
  have l1 := eL_lay h1
  simp [eLT, PyData.canLay0, PyData.canLayAll0, l1, h2]
theorem eLT_dep (x : Ln × Str) : (eLT x).depth ≤ 2 := by
  have h1 := eL_dep x.1
  simp only [eLT, PyData.depth, PyData.depthAll, h1]
  omega
theorem lts_sh {L : List (Ln × Str)} (h : ∀ x ∈ L, PyData.strOk x.1.1 = true ∧ PyData.strOk x.2 = true) : SeqAt.shaped (.list (L.map eLT)) = true := by
  refine shaped_of ?_ ?_
  · simp only [PyData.canLay0]
    exact layAll fun x hx => eLT_lay (h x hx).1 (h x hx).2
  · have := depAll (f := eLT) (n := 2) (l := L) fun x _ => eLT_dep x
    simp only [PyData.depth]
    omega
theorem lns_sh {L : List Ln} (h : ∀ x ∈ L, PyData.strOk x.1 = true) : SeqAt.shaped (.list (L.map eL)) = true := by
  refine shaped_of ?_ ?_
  · simp only [PyData.canLay0]
    exact layAll fun x hx => eL_lay (h x hx)
  · have := depAll (f := eL) (n := 1) (l := L) fun x _ => Nat.le_of_eq (eL_dep x)
    simp only [PyData.depth]
    omega
theorem ePr_lay {p : Ln × Ln} (h1 : PyData.strOk p.1.1 = true) (h2 : PyData.strOk p.2.1 = true) : (ePr p).canLay0 = true := by
  have l1 := eL_lay h1
  have l2 := eL_lay h2
  simp [ePr, PyData.canLay0, PyData.canLayAll0, l1, l2]
theorem ePr_dep (p : Ln × Ln) : (ePr p).depth ≤ 2 := by
  have h1 := eL_dep p.1
  have h2 := eL_dep p.2
  simp only [ePr, PyData.depth, PyData.depthAll, h1, h2]
  omega
theorem pss_sh {L : List (List (Ln × Ln))} (h : ∀ l ∈ L, ∀ p ∈ l, PyData.strOk p.1.1 = true ∧ PyData.strOk p.2.1 = true) : SeqAt.shaped (.list (L.map ePs)) = true := by
  refine shaped_of ?_ ?_
  · simp only [PyData.canLay0]
    refine layAll fun l hl => ?_
    show PyData.canLay0 (.list (l.map ePr)) = true
    simp only [PyData.canLay0]
    exact layAll fun p hp => ePr_lay (h l hl p hp).1 (h l hl p hp).2
  · have := depAll (f := ePs) (n := 3) (l := L) fun l _ => by
      have := depAll (f := ePr) (n := 2) (l := l) fun p _ => ePr_dep p
      show (PyData.list (l.map ePr)).depth ≤ 3
      simp only [PyData.depth]
      omega
    simp only [PyData.depth]
    omega
theorem pairsUp_mem : ∀ {xs : List Ln} {a : Ln} {p : Ln × Ln}, p ∈ pairsUp a xs → (p.1 = a ∨ p.1 ∈ xs) ∧ p.2 ∈ xs
  | [], _, _, h => nomatch h
  | x :: r, a, p, h => by
    rcases List.mem_cons.mp h with rfl | h
    · exact ⟨.inl rfl, List.mem_cons_self⟩
    · have := pairsUp_mem h
      refine ⟨.inr ?_, List.mem_cons_of_mem _ this.2⟩
      rcases this.1 with e | e
      · rw [e]
        exact List.mem_cons_self
      · exact List.mem_cons_of_mem _ e
theorem fresh_str {n : Nm} {m : Nat} {d : Deed} (h : PyData.strOk n.1 = true) : ∀ l ∈ freshOf n m d, PyData.strOk l.1 = true := fun l hl => by
  obtain ⟨k, _, rfl⟩ := List.mem_map.mp hl
  exact h
theorem bindP_str {n : Nm} {m : Nat} {d : Deed} (h : PyData.strOk n.1 = true) (o : d.ok) : ∀ p ∈ bindP d (freshOf n m d), PyData.strOk p.1.1 = true ∧ PyData.strOk p.2.1 = true := fun p hp => by
  cases d with
  | put a b ts =>
    have hp : p ∈ pairsUp a (freshOf n m (.put a b ts) ++ [b]) := hp
    have all : ∀ l ∈ freshOf n m (.put a b ts) ++ [b], PyData.strOk l.1 = true := fun l hl => by
      rcases List.mem_append.mp hl with hl | hl
      · exact fresh_str h l hl
      · rw [List.mem_singleton.mp hl]
        exact o.2.1.str
    have := pairsUp_mem hp
    refine ⟨?_, all _ this.2⟩
    rcases this.1 with e | e
    · rw [e]
      exact o.1.str
    · exact all _ e
  | order a b =>
    cases List.mem_singleton.mp hp
    exact ⟨EdOk.str (.inl o.1), EdOk.str (.inl o.2)⟩
  | one c a => cases hp
theorem binds_str {n : Nm} (h : PyData.strOk n.1 = true) : ∀ (ds : List Deed) (m : Nat), (∀ d ∈ ds, d.ok) → ∀ l ∈ binds n m ds, ∀ p ∈ l, PyData.strOk p.1.1 = true ∧ PyData.strOk p.2.1 = true
  | [], _, _, _, hl, _, _ => nomatch hl
  | d :: r, m, o, l, hl, p, hp => by
    rcases List.mem_cons.mp hl with rfl | hl
    · exact bindP_str h (o d List.mem_cons_self) p hp
    · exact binds_str h r _ (fun d hd => o d (List.mem_cons_of_mem _ hd)) l hl p hp
theorem puts_str {n : Nm} (h : PyData.strOk n.1 = true) : ∀ (ds : List Deed) (m : Nat), ∀ fr ∈ puts n m ds, ∀ l ∈ fr, PyData.strOk l.1 = true
  | [], _, _, hl, _, _ => nomatch hl
  | d :: r, m, fr, hl, p, hp => by
    rcases List.mem_cons.mp hl with rfl | hl
    · exact fresh_str h p hp
    · exact puts_str h r _ fr hl p hp
theorem rowsM_str {n : Nm} {ds : List Deed} (h : PyData.strOk n.1 = true) (o : ∀ d ∈ ds, d.ok) : ∀ r ∈ rowsM n ds, PyData.strOk r.1.1 = true ∧ PyData.strOk r.2 = true := fun r hr => by
  rcases List.mem_append.mp hr with hr | hr
  · obtain ⟨l, hl, rfl⟩ := List.mem_map.mp hr
    obtain ⟨fr, hf, hl⟩ := List.mem_flatten.mp hl
    exact ⟨puts_str h ds 0 fr hf l hl, show PyData.strOk "keep" = true by decide +kernel⟩
  · obtain ⟨d, hd, hr⟩ := List.mem_flatMap.mp hr
    cases d with
    | put _ _ _ => cases hr
    | order _ _ => cases hr
    | one c a =>
      cases List.mem_singleton.mp hr
      exact ⟨EdOk.str (.inl (o _ hd)), show PyData.strOk (kindS c) = true by cases c <;> decide +kernel⟩
theorem puts_flat (n : Nm) : ∀ (ds : List Deed) (m : Nat), (puts n m ds).flatten.length = (ds.flatMap Deed.texts).length
  | [], _ => rfl
  | d :: r, m => by
    show (freshOf n m d :: puts n (m + d.texts.length) r).flatten.length = _
    rw [List.flatten_cons, List.length_append, puts_flat n r, freshOf_len, List.flatMap_cons, List.length_append]
theorem oneD_flat : ∀ ds : List Deed, (ds.flatMap oneD).length ≤ ds.length
  | [] => Nat.le_refl _
  | d :: r => by
    have := oneD_flat r
    rw [List.flatMap_cons, List.length_append, List.length_cons]
    have : (oneD d).length ≤ 1 := by cases d <;> simp [oneD]
    omega
theorem rowsM_len (n : Nm) (ds : List Deed) : (rowsM n ds).length ≤ (ds.flatMap Deed.texts).length + ds.length := by
  unfold rowsM
  have := oneD_flat ds
  rw [List.length_append, List.length_map, puts_flat]
  omega
theorem lastM_mem {ev : List (Ln × Str)} {l : Ln} {s : Str} (h : lastM ev l = some s) : ∃ r ∈ ev, r.2 = s := by
  have := List.mem_of_getLast? h
  obtain ⟨r, hr, e⟩ := List.mem_map.mp this
  exact ⟨r, (List.mem_filter.mp hr).1, e⟩
theorem ext_pairs : ∀ {M D : List (Ln × Str)}, M.map (·.1) = D.map (·.1) → (∀ x ∈ M, ∀ y ∈ D, x.1 = y.1 → x.2 = y.2) → M = D
  | [], [], _, _ => rfl
  | [], _ :: _, h, _ => by cases h
  | _ :: _, [], h, _ => by cases h
  | x :: M, y :: D, h, e => by
    have h1 := (List.cons.inj h).1
    have h2 := e x List.mem_cons_self y List.mem_cons_self h1
    rw [ext_pairs (M := M) (D := D) (List.cons.inj h).2 fun a ha b hb => e a (List.mem_cons_of_mem _ ha) b (List.mem_cons_of_mem _ hb)]
    rw [show x = y from Prod.ext h1 h2]
/-- the marks told are the marks due -/
theorem marks_due {n : Nm} {ds : List Deed} (own : OwnOk n ds) {M D : List (Ln × Str)} (pm : M.Perm (marksM n ds 0 [])) (sm : M.Pairwise fun x y => PySem.W.dataLt (eLT y) (eLT x) = false)
    (nd : (D.map (·.1)).Nodup) (mi : ∀ l, l ∈ D.map (·.1) ↔ l ∈ (rowsM n ds).map (·.1)) (up : (D.map (·.1)).Pairwise fun x y => PySem.W.dataLt (eL y) (eL x) = false) (la : ∀ x ∈ D, lastM (rowsM n ds) x.1 = some x.2) : M = D := by
  obtain ⟨h1, h2⟩ := marks_same own pm sm nd mi up
  refine ext_pairs h1 fun x hx y hy e => ?_
  have h3 := h2 x hx
  have h4 := la y hy
  rw [e, h4] at h3
  exact (Option.some.inj h3).symm
theorem LnOk.hand {l : Ln} (h : LnOk l) : l.1 ≠ "" := fun z => by
  have := h.1.1
  rw [show (nmOf l).1 = l.1 from rfl, z] at this
  exact absurd this (by decide +kernel)
theorem isNm_hand {l : Ln} (h : EdOk l) : isNm l = !decide (l.1 = "") := by
  rcases h with h | rfl | rfl
  · unfold isNm
    rw [decide_eq_true (show l ≠ headL from h.ne_head), decide_eq_true (show l ≠ footL from h.ne_foot), decide_eq_false h.hand]
    rfl
  · decide +kernel
  · decide +kernel
theorem one_in : ∀ {d : Deed}, d.lines.length = 1 → inV (.str d.kind) [.str "cut", .str "keep"] = true
  | .put a b ts, h => absurd h (show ¬ 2 = 1 by decide)
  | .order a b, h => absurd h (show ¬ 2 = 1 by decide)
  | .one c a, _ => by
    show inV (.str (kindS c)) [.str "cut", .str "keep"] = true
    cases c <;> decide +kernel
theorem two_in : ∀ {d : Deed}, ¬ d.lines.length = 1 → ¬ inV (.str d.kind) [.str "cut", .str "keep"] = true
  | .put a b ts, _ => show ¬ inV (.str "put") [.str "cut", .str "keep"] = true by decide +kernel
  | .order a b, _ => show ¬ inV (.str "order") [.str "cut", .str "keep"] = true by decide +kernel
  | .one c a, h => absurd rfl h
/-- what is changed was free before: nothing that stood is otherwise -/
theorem Go.past {T : Tp} {D : Addr → Prop} {H0 H H' : Hp} (g : Go T D0 H0 H) (g' : Go T D H H') (fr : ∀ b, D b → H0 b = none) : Go T D0 H0 H' :=
  ⟨g'.1, fun b o h1 _ e => g'.2 b o h1 (fun z => by rw [fr b z] at e; cases e) (g.2 b o h1 (fun z => z) e)⟩
end K1
set_option Elab.async false
set_option linter.all false
set_option maxRecDepth 100000
set_option maxHeartbeats 400000
/-! For the law: calls, shapes of patches. -/
namespace K1
open PySem PySem.Spec PyProof.Rows L2 LZ
def Sup (G H : Hp) : Prop := Sub G H ∧ ∀ a C dx fs, G a = some (.ins C dx fs) → H a = some (.ins C dx fs)
theorem Sup.rfl' {G : Hp} : Sup G G := ⟨Sub.rfl', fun _ _ _ _ e => e⟩
theorem Sup.trans {G H I : Hp} (a : Sup G H) (b : Sup H I) : Sup G I := ⟨a.1.trans b.1, fun x C dx fs e => b.2 x C dx fs (a.2 x C dx fs e)⟩
theorem Sup.go {T : Tp} {G H : Hp} (g : Go T D0 G H) (t : TG T G) : Sup G H := ⟨sub_go g t, fun _ _ _ _ e => g.at t (fun z => z) e⟩
theorem Sup.new {H : Hp} {p : Addr} {o : HO} (h : H p = none) : Sup H (upd H p o) := ⟨Sub.new h, fun _ _ _ _ e => (upd_ne (ne_of_none e h)).trans e⟩
theorem Sup.cut {C0' : Addr → Bool} {H : Hp} : Sup (K1.cut C0' H) H := ⟨Sub.cut, fun _ _ _ _ e => (cut_some e).2⟩
theorem Sup.cuts {C0' : Addr → Bool} {G H : Hp} (a : Sup G H) : Sup (K1.cut C0' G) (K1.cut C0' H) := ⟨a.1.cuts, fun x C dx fs e => by
  obtain ⟨e1, e2⟩ := cut_some e
  rw [cut_at e1]
  exact a.2 x C dx fs e2⟩
theorem MadeN.sup {n : Nat} {K : PySem.W.Frag} {C : Addr} {G H : Hp} {x : Addr} {p : Pat} (m : MadeN n K C G x p) (s : Sup G H) : MadeN n K C H x p := by
  obtain ⟨dx, fs, nv, kv, dv, h1, h2, h3, h4, h5, h6, ht, h7, h8, h9⟩ := m
  exact ⟨dx, fs, nv, kv, dv, s.2 _ _ _ _ h1, h2, h3, h4, h5, h6, ht, Dp.sub s.1 _ _ h7, Dp.sub s.1 _ _ h8, Dp.sub s.1 _ _ h9⟩
structure MetT (P : Program) (w : World) (K : PySem.W.Frag) (mg : Str → Option Value) (base : Heap) (k : Nat) (C : Addr) (T : Tp) : Prop where
  ex : ∃ (f : Addr) (fd : FuncData), Cls K C ∧ Meth K C "told" f ∧ FnOk P w K mg base CX0 k f fd ["self"] (spTold K C T) ∧ Binds K fd ["self"] []
theorem MadeN.up {K : PySem.W.Frag} {n m : Nat} {C : Addr} {H : Hp} {x : Addr} {p : Pat} (h : MadeN n K C H x p) (l : n ≤ m) : MadeN m K C H x p := by
  obtain ⟨dx, fs, nv, kv, dv, h1, h2, r⟩ := h
  exact ⟨dx, fs, nv, kv, dv, h1, Nat.le_trans h2 l, r⟩
theorem pe_told {X : Cx} {K0 : PySem.W.Frag} {k j : Nat} {C : Addr} {T : Tp} {o : Expr} {ta : TE} {apos pos : Pos} {pl : Sem Bool} (c : MetT X.prog X.w K0 X.mg X.base k C T) (hr : Room j X.A) (hk : k ≤ j) (he : PE X o ta) (hK : X.K = K0 := by rfl)
    (ht : eval (.Call (.Attribute o "told" apos) [] [] pos) X.env = (do
      let ov ← eval o X.env
      standAt apos.atName
      let (f, first) ← holding [ov] (getMethod ov "told" pl)
      callWith pos f first (backTo pos (starEach [] X.env)) (backToKw pos (keywordEach [] X.env))) := by rfl) :
    PE X (.Call (.Attribute o "told" apos) [] [] pos) (tMeth C "told" (spTold K0 C T) [] E0 ta tNil) := by
  subst hK
  obtain ⟨f, fd, hc, hm, F, b⟩ := c.ex
  exact pe_meth0 (pl := pl) he hc hm F (hr.mono hk) b .nil pass0 ht
theorem eP_lay {q : Pat} (h : q.ok) : (eP q).canLay0 = true := by
  have hD : ∀ d ∈ q.deeds, (eD d).canLay0 = true := fun d hd => by
    have o := h.deeds d hd
    cases d with
    | put a b ts =>
      have l1 := eL_lay o.1.str
      have l2 := eL_lay o.2.1.str
      have l3 : PyData.canLayAll0 (ts.map PyData.str) = true := layAll fun t ht => by simp [PyData.canLay0, (o.2.2 t ht).1]
      simp [eD, PyData.canLay0, PyData.canLayAll0, l1, l2, l3]
      decide +kernel
    | order a b =>
      have l1 := eL_lay (EdOk.str (.inl o.1))
      have l2 := eL_lay (EdOk.str (.inl o.2))
      simp [eD, PyData.canLay0, PyData.canLayAll0, l1, l2]
      decide +kernel
    | one k a =>
      have l1 := eL_lay (EdOk.str (.inl o))
      simp [eD, PyData.canLay0, PyData.canLayAll0, l1]
      cases k <;> decide +kernel
  have l1 := eN_lay (handOk h.name.1).1
  have l2 := layAll (f := eN) (l := q.knows) fun n hn => eN_lay (handOk (h.knows n hn).1).1
  have l3 := layAll (f := eD) (l := q.deeds) hD
  simp [eP, PyData.canLay0, PyData.canLayAll0, l1, l2, l3]
theorem eD_dep (d : Deed) : (eD d).depth ≤ 2 := by
  cases d with
  | put a b ts =>
    have h1 := eL_dep a
    have h2 := eL_dep b
    have h3 := depAll (f := PyData.str) (n := 0) (l := ts) fun t _ => by simp [PyData.depth]
    simp only [eD, PyData.depth, PyData.depthAll, h1, h2]
    omega
  | order a b =>
    have h1 := eL_dep a
    have h2 := eL_dep b
    simp only [eD, PyData.depth, PyData.depthAll, h1, h2]
    omega
  | one k a =>
    have h1 := eL_dep a
    simp only [eD, PyData.depth, PyData.depthAll, h1]
    omega
theorem eP_dep (q : Pat) : (eP q).depth ≤ 4 := by
  have h1 := eN_dep q.name
  have h2 := depAll (f := eN) (n := 1) (l := q.knows) fun n _ => Nat.le_of_eq (eN_dep n)
  have h3 := depAll (f := eD) (n := 2) (l := q.deeds) fun d _ => eD_dep d
  simp only [eP, PyData.depth, PyData.depthAll, h1]
  omega
theorem eP_sh {q : Pat} (h : q.ok) : SeqAt.shaped (eP q) = true := shaped_of (eP_lay h) (by have := eP_dep q; omega)
/-- the names of the law's calls -/
structure Cals3 (P : Program) (w : World) (K : PySem.W.Frag) (mg : Str → Option Value) (base : Heap) (C : Addr) (T : Tp) (k : Nat) : Prop where
  hist : Cal P w K mg base k "_law_history" ["_law_script", "_law_most"] (spHist K T)
  puts : Cal P w K mg base k "_law_puts" ["_law_name", "_law_deeds"] (spPuts K T)
  bound : Cal P w K mg base k "_law_bound" ["_law_deed_here", "_law_fresh"] (spBound K T)
  same : Cal P w K mg base k "_law_same" ["_law_told", "_law_due"] (spSame K T)
  lput : Cal P w K mg base k "lines_put" ["patch"] (spLinesPut K C T)
  lines : Cal P w K mg base k "_law_lines" ["_law_history_here", "_law_names"] (spLines K T)
  bindof : Cal P w K mg base k "bindings_of" ["patch"] (spBindOf K C T)
  marksin : Cal P w K mg base k "marks_in" ["patch"] (spMarksIn K C T)
  lmarks : Cal P w K mg base k "_law_marks" ["_law_name", "_law_deeds"] (spLMarks K T)
  named : Cal P w K mg base k "lines_named" ["deed"] (spNamed K T)
  make : MakP P w K mg base k C T
  told : MetT P w K mg base k C T
end K1
set_option Elab.async false
set_option linter.all false
set_option maxRecDepth 100000
set_option maxHeartbeats 20000000
/-! The law of k03. -/
namespace K1
open PySem PySem.Spec PyProof.Rows L2 LZ
section
variable {P : Program} {w : World} {K : PySem.W.Frag} {mg : Str → Option Value} {base : Heap} {T : Tp}
def spLaw (K : PySem.W.Frag) : Sp := fun vs H Q _ => ∃ (a : Addr) (ns : List Int), vs = [.ref a] ∧ SqL K H a (ns.map V.int) ∧ ns.length ≤ 63 ∧ TG ([] : Tp) H ∧ ∀ H', Q (.bl true) H'
theorem ok_law {f C : Addr} {fd : FuncData} {k : Nat} (F : Fun K "law" "law" sLaw f fd) (M : Mg K mg) (hzip : mg "zip" = none) (c : Cals3 P w K mg base C [] k) : FnOk P w K mg base CX0 (k + 2) f fd ["_law_script"] (spLaw K) := by
  refine F.ok scLaw (fun vs H Q E h => ?_) (fun cdv A outer s H vs Q E hr h => ?_)
  · obtain ⟨a, ns, rfl, _⟩ := h
    rfl
  · obtain ⟨a, ns, rfl, S, nl, tg, q⟩ := h
    have hr' := hr.mono (show k ≤ k + 1 from Nat.le_succ k)
    refine ⟨_, (pss_cons (ps_set (i := 1) scLaw.nd rfl (.inl rfl) (pe_cal c.hist hr' (by rfl) (pa_cons (pv 0) (pa_cons pe_int pa_nil))))
      (pss_cons (ps_for PassesOwn.never rfl (pi_list (pv 1)) (pg_tup rfl (pgs_cons (pg_name (i := 2) scLaw.nd rfl (.inl rfl)) (pgs_cons (pg_name (i := 3) scLaw.nd rfl (.inl rfl)) (pgs_cons (pg_name (i := 4) scLaw.nd rfl (.inl rfl)) pgs_nil))))
      (pss_cons (ps_set (i := 5) scLaw.nd rfl (.inl rfl) (pe_mkP c.make hr (Nat.le_refl _) (by rfl) (pa_cons (pv 2) (pa_cons (pv 3) (pa_cons (pv 4) pa_nil)))))
      (pss_cons (ps_set (i := 6) scLaw.nd rfl (.inl rfl) (pe_cal c.puts hr' (by rfl) (pa_cons (pv 2) (pa_cons (pv 4) pa_nil))))
      (pss_cons (ps_setLc (i := 9) (own := [("_law_deed_here", 7), ("_law_fresh", 8)]) (g := (gTup K 2 (gCons (gName 7) (gCons (gName 8) gNil)))) (tt := tYes) rfl scLaw.nd rfl rfl (sw_true rfl rfl rfl (by decide +kernel)) (pi_zip (by rfl) hzip (pa_cons (pv 4) (pa_cons (pv 6) pa_nil))) (blkOk_by (N := ["_law_script", "_law_history_here", "_law_name", "_law_knows", "_law_deeds", "_law_patch_here", "_law_puts_here", "_law_deed_here", "_law_fresh", "_law_bound_here", "_law_turn", "_law_parts", "_law_line"]) (sc := defScope sLaw) (by decide +kernel)) (fun _ _ _ _ _ => (pg_tup rfl (pgs_cons (pg_name (i := 7) scLaw.nd rfl (Or.inl rfl)) (pgs_cons (pg_name (i := 8) scLaw.nd rfl (Or.inl rfl)) pgs_nil)))) (fun _ _ _ _ _ => pts_nil) (fun _ _ _ _ _ => (pe_ifExp (pt_cmpR (op_inK (K0 := K)) (pe_ix (ix_tupK (K0 := K)) (pv 7) pe_int (fun _ _ => rfl)) (pe_tup (pa_cons pe_str (pa_cons pe_str pa_nil))) (by rfl)) (pe_cal c.bound hr' (by rfl) (pa_cons (pv 7) (pa_cons (pv 8) pa_nil))) (pe_lst pa_nil))))
      (pss_cons (ps_for PassesOwn.never rfl (pi_range1 (by rfl) M.range_ (pa_cons pe_int pa_nil)) (pg_name (i := 10) scLaw.nd rfl (.inl rfl))
      (pss_cons (ps_if (pt_not (pt_val (pe_cal c.same hr' (by rfl) (pa_cons (pe_cal c.lput hr' (by rfl) (pa_cons (pv 5) pa_nil)) (pa_cons (pe_cal c.lines hr' (by rfl) (pa_cons (pe_lst (pa_cons (pe_tup (pa_cons (pv 2) (pa_cons (pv 3) (pa_cons (pv 4) pa_nil)))) pa_nil)) (pa_cons (pe_lst (pa_cons (pv 2) pa_nil)) pa_nil))) pa_nil)))))
      (pss_one (ps_ret pe_bl))
      pss_nil)
      (pss_one (ps_if (PW.pt (pw_or (pt_not (pt_val (pe_cal c.same hr' (by rfl) (pa_cons (pe_cal c.bindof hr' (by rfl) (pa_cons (pv 5) pa_nil)) (pa_cons (pv 9) pa_nil))))) (pw_or1 (pt_not (pt_val (pe_cal c.same hr' (by rfl) (pa_cons (pe_cal c.marksin hr' (by rfl) (pa_cons (pv 5) pa_nil)) (pa_cons (pe_cal c.lmarks hr' (by rfl) (pa_cons (pv 2) (pa_cons (pv 4) pa_nil))) pa_nil))))))))
      (pss_one (ps_ret pe_bl))
      pss_nil))))
      (pss_cons (ps_for PassesOwn.never rfl (pi_list (pv 4)) (pg_name (i := 7) scLaw.nd rfl (.inl rfl))
      (pss_cons (ps_set (i := 11) scLaw.nd rfl (.inl rfl) (pe_ifExp (pt_cmpR op_in_seq (pe_ix ix_tup (pv 7) pe_int (fun _ _ => rfl)) (pe_tup (pa_cons pe_str (pa_cons pe_str pa_nil))) (by rfl)) (pe_lst (pa_cons (pe_ix ix_tup (pv 7) pe_int (fun _ _ => rfl)) pa_nil)) (pe_lst (pa_cons (pe_ix ix_tup (pv 7) pe_int (fun _ _ => rfl)) (pa_cons (pe_ix ix_tup (pv 7) pe_int (fun _ _ => rfl)) pa_nil)))))
      (pss_one (ps_if (pt_not (pt_val (pe_cal c.same hr' (by rfl) (pa_cons (pe_cal c.named hr' (by rfl) (pa_cons (pv 7) pa_nil)) (pa_cons (pe_lc (own := [("_law_line", 12)]) (g := gName 12) rfl scLaw.nd (pi_list (pv 11)) (blkOk_by (N := ["_law_script", "_law_history_here", "_law_name", "_law_knows", "_law_deeds", "_law_patch_here", "_law_puts_here", "_law_deed_here", "_law_fresh", "_law_bound_here", "_law_turn", "_law_parts", "_law_line"]) (sc := defScope sLaw) (by decide +kernel)) (fun _ _ _ _ _ => (pg_name (i := 12) scLaw.nd rfl (Or.inl rfl))) (fun _ _ _ _ _ => (pts_one (pt_cmpR op_ne (pe_ix (ix_tupK (K0 := K)) (pv 12) pe_int (fun _ _ => rfl)) pe_str (nomark _)))) (fun _ _ _ _ _ => (pv 12))) pa_nil)))))
      (pss_one (ps_ret pe_bl))
      pss_nil))))
      (pss_one (ps_if (pt_cmpR (op_neD hr.units) (pe_told c.told hr' (Nat.le_refl _) (pv 5)) (pe_tup (pa_cons (pv 2) (pa_cons (pv 3) (pa_cons (pv 4) pa_nil)))) (nomark _))
      (pss_one (ps_ret pe_bl))
      pss_nil))))))))
      (pss_one (ps_ret pe_bl)))), ?_⟩
    refine ⟨.ref a, rfl, a, ns, 63, rfl, S, nl, by decide, tg, fun H1 p xs hist g1 hp ep dh hf hlen => ?_⟩
    have hl1 : 1 ≤ hist.length ∧ hist.length ≤ 63 := by omega
    have hfine := hf.fine menuH_ok (by omega)
    have hsmall := (hf.ok menuH_ok (by omega)).each
    have tg1 := g1.1
    have dX := Dp.subs Sub.cut _ _ dh
    refine ⟨.ref p, rfl, p, rfl, ⟨xs, .inl (.inl ep)⟩, ?_⟩
    refine for_list (K := K) (a := p) (xs := xs) (fun i σ H2 => ∃ (y2 y3 y4 y5 y6 y7 y9 y10 y11 : Option V), σ = [some (.ref a), some (.ref p), y2, y3, y4, y5, y6, y7, none, y9, y10, y11, none] ∧ Go [] D0 H1 H2) ?_ ?_ ?_ ?_
    · exact ⟨_, _, _, _, _, _, _, _, _, rfl, Go.rfl' tg1⟩
    · rintro i σ H2 hi ⟨_, _, _, _, _, _, _, _, _, rfl, g⟩
      exact .inl (.inl (g.at tg1 (fun z => z) ep))
    · rintro i x σ H2 hx ⟨y2, y3, y4, y5, y6, y7, y9, y10, y11, rfl, g2⟩
      obtain ⟨d', hd', hv'⟩ := DpAll.at' (Dp.subs (sub_go g2 tg1) _ _ dX) hx
      obtain ⟨q, hq, rfl⟩ := at_map hd'
      have qm := List.mem_of_getElem? hq
      have fq := hfine q qm
      have sq := (hsmall q qm).2
      obtain ⟨u, us, rfl, Su, dus⟩ := Dp.tupI hv'
      obtain ⟨nv, kv, dv, rfl, dn, dk, dd⟩ := DpAll.i3 dus
      obtain ⟨kl, kvs, rfl, Sk, dks⟩ := Dp.lstI dk
      obtain ⟨dl, dvs, rfl, Sd, dds⟩ := Dp.lstI dd
      have tg2 := g2.1
      refine ⟨u, _, rfl, Su, rfl, _, _, rfl, _, _, rfl, _, _, rfl, rfl, nv, rfl, .ref kl, rfl, .ref dl, rfl, ?_⟩
      intro y dy hy hdy ne
      have tg3 := g2.1.born (o := .own y) (o' := .ins C dy []) hy hdy ne
      have s3 : Sub H2 (upd (upd H2 dy (.own y)) y (.ins C dy [])) := (Sub.new hdy).trans (Sub.new (by rw [upd_ne ne.symm]; exact hy))
      refine ⟨y, dy, nv, kl, dl, kvs, dvs, q, rfl, upd_same, Dp.sub s3 _ _ dn, s3.seqL Sk, Dp.subs s3 _ _ dks, s3.seqL Sd, Dp.subs s3 _ _ dds, fq.good, tg3, fun H4 g4 mdy => ⟨rfl, ?_⟩⟩
      have g24 : Go [] D0 H2 H4 := g4.born g2.1 hy hdy ne
      have tg4 := g24.1
      have s4 := sub_go g24 tg2
      have dn4 := Dp.sub s4 _ _ dn
      have Sk4 := s4.seqL Sk
      have dks4 := Dp.subs s4 _ _ dks
      have Sd4 := s4.seqL Sd
      have dds4 := Dp.subs s4 _ _ dds
      have qok := fq.good.ok
      have qtx : (textsOf q).length ≤ 9 := textsOf_len sq
      have qtx' : (q.deeds.flatMap Deed.texts).length ≤ 9 := qtx
      have qds : q.deeds.length ≤ 3 := sq.deeds
      have qmid : q.mid := ⟨qok, by omega, by omega⟩
      have hstr : PyData.strOk q.name.1 = true := (handOk qok.name.1).1
      have dlen : dvs.length = q.deeds.length := by rw [DpAll.len dds, List.length_map]
      -- the lines put, deed by deed
      refine ⟨nv, rfl, .ref dl, rfl, nv, dl, dvs, q.name, q.deeds, rfl, dn4, Sd4, dds4, by omega, by omega, tg4, fun H5 F fs g5 hF eF df => ?_⟩
      have tg5 := g5.1
      have flen : fs.length = q.deeds.length := by rw [DpAll.len df, List.length_map, puts_len]
      have df5 := Dp.subs Sub.cut _ _ df
      have s45 := sub_go g5 tg4
      have Sd5 := s45.seqL Sd4
      -- the pairs due
      refine ⟨.ref dl, rfl, .ref F, rfl, dl, F, dvs, fs, rfl, Sd5, .inl (.inl eF), fun D hD => ?_⟩
      refine lc_it (walk_zip (K := K) (a := dl) (b := F) (xs := dvs) (ys := fs) (n := q.deeds.length) (by omega)) (fun j H6 => Go [] D0 H5 H6 ∧ ∃ bs, H6 D = some (.lst bs) ∧ bs.length = j ∧ DpAll K (cut (plus C0 D) H6) bs (((binds q.name 0 q.deeds).take j).map ePs)) ?_ ?_ ?_ ?_
      · exact ⟨(Go.rfl' tg5).new hD, [], upd_same, rfl, .nil⟩
      · rintro j H6 hj ⟨g6, _⟩
        exact ⟨(sub_go g6 tg5).seqL Sd5, .inl (.inl (g6.at tg5 (fun z => z) eF))⟩
      · rintro j x6 H6 H6' hj ⟨g6, bs, eB, bl, db⟩ ⟨T', x', y', rfl, hT, rfl, hx', hy'⟩
        have hx' : dvs[j]? = some x' := hx'
        have hy' : fs[j]? = some y' := hy'
        obtain ⟨d0, hd0, hv0⟩ := DpAll.at' (Dp.subs s45 _ _ dds4) hx'
        obtain ⟨d, hd, rfl⟩ := at_map hd0
        obtain ⟨f0, hf0, hw0⟩ := DpAll.at' df5 hy'
        obtain ⟨fr, hfr, rfl⟩ := at_map hf0
        have dok := qok.deeds d (List.mem_of_getElem? hd)
        have e1 := puts_at q.name q.deeds 0 j d hd
        rw [hfr] at e1
        have e2 := binds_at q.name q.deeds 0 j d hd
        rw [← Option.some.inj e1] at e2
        have frs := puts_str hstr q.deeds 0 fr (List.mem_of_getElem? hfr)
        have frl : fr.length ≤ 9 := by
          have h1 := flat_mem (List.mem_of_getElem? hfr)
          rw [puts_flat] at h1
          omega
        have g7 := g6.new (o := .tup [x', y']) hT
        have eD7 := (upd_ne (o := .tup [x', y']) (ne_of_none eB hT)).trans eB
        have db7 := Dp.subs (Sub.new (o := .tup [x', y']) hT).cuts _ _ db
        have t7 : (upd H6 T' (.tup [x', y'])) T' = some (.tup [x', y']) := upd_same
        generalize upd H6 T' (.tup [x', y']) = H7 at g7 eD7 db7 t7 ⊢
        obtain ⟨a', lvs, tl', rfl, Sa, dl', hcase⟩ := deed_parts hv0
        have SaG : ∀ {H'}, Go [] D0 H5 H' → SqT K H' a' (.str d.kind :: (lvs ++ tl')) := fun g' => (sub_go g' tg5).seqT Sa
        have hvG : ∀ {H'}, Go [] D0 H5 H' → Dp K H' (.ref a') (eD d) := fun g' => Dp.sub (sub_go g' tg5) _ _ hv0
        have hwG : ∀ {H'}, Go [] D0 H5 H' → Dp K H' y' (eLs fr) := fun g' => Dp.sub (sub_go g' tg5) _ _ hw0
        refine ⟨T', _, rfl, .inl (.inl t7), rfl, _, _, rfl, _, _, rfl, rfl, rfl, .ref a', rfl, a', _, 0, .str d.kind, rfl, rfl, SaG g7, atI_nat (j := 0) rfl, small_le (by decide), fun tt htt => ⟨tt, _, rfl, .inr (.inl (.inl upd_same)), rfl, rfl, ?_⟩⟩
        have g8 := g7.new (o := .tup [V.str "put", .str "order"]) htt
        have eD8 := (upd_ne (o := .tup [V.str "put", .str "order"]) (ne_of_none eD7 htt)).trans eD7
        have db8 := Dp.subs (Sub.new (o := .tup [V.str "put", .str "order"]) htt).cuts _ _ db7
        generalize upd H7 tt (.tup [V.str "put", .str "order"]) = H8 at g8 eD8 db8 ⊢
        have last : ∀ {H9 : Hp} {Z : Addr} {zs : List V}, Go [] D0 H8 H9 → H8 Z = none → H9 Z = some (.lst zs) → DpAll K (cut (plus C0 Z) H9) zs ((bindP d fr).map ePr) →
            ∃ acc, H9 D = some (.lst acc) ∧ acc.length < sizeLine ∧ Go [] D0 H5 (upd H9 D (.lst (acc ++ [.ref Z]))) ∧ ∃ bs, (upd H9 D (.lst (acc ++ [.ref Z]))) D = some (.lst bs) ∧ bs.length = j + 1 ∧ DpAll K (cut (plus C0 D) (upd H9 D (.lst (acc ++ [.ref Z])))) bs (((binds q.name 0 q.deeds).take (j + 1)).map ePs) := fun {H9 Z zs} g9 hZ eZ dz => by
          have eD9 := g9.at g8.1 (fun z => z) eD8
          have nZ : Z ≠ D := fun z => by rw [z, eD8] at hZ; cases hZ
          refine ⟨bs, eD9, small_line (by omega), (g8.trans g9).put hD eD9, bs ++ [.ref Z], upd_same, by rw [List.length_append, bl]; rfl, ?_⟩
          rw [cut_out plus_D, List.take_add_one, e2, Option.toList_some, List.map_append]
          refine DpAll.app (Dp.subs (sub_go g9 g8.1).cuts _ _ db8) (.one (.lst (.inl (.inl ((cut_at (plus_no rfl nZ)).trans eZ))) ?_))
          exact Dp.cutDs eD9 _ _ (nols_map ePr_nol _) (Dp.subs Sub.cut _ _ dz)
        have callB : d.kind = "put" ∨ d.kind = "order" → boundOf d fr = bindP d fr := fun kd => bound_bind fun z => by
          intro hput
          rcases hcase with ⟨_, h2, t, rfl, st⟩ | ⟨n1, _⟩ | ⟨n1, _⟩
          · cases d with
            | put a b ts =>
              have hfit := fq.good.fit _ (List.mem_of_getElem? hd)
              have h0 : 1 ≤ ts.length := hfit.2.2.2.1
              have h1 := Option.some.inj e1
              rw [z] at h1
              have h2 := congrArg List.length h1
              rw [freshOf_len] at h2
              have h3 : (Deed.put a b ts).texts.length = ts.length := rfl
              rw [h3] at h2
              change 0 = ts.length at h2
              omega
            | order a b => exact absurd (show ("order" : Str) = "put" from hput) (by decide +kernel)
            | one c' a => exact absurd (show kindS c' = "put" from hput) (by cases c' <;> decide +kernel)
          · rw [n1] at hput
            exact absurd hput (by decide +kernel)
          · exact n1 hput
        have go : ∀ kd : (d.kind = "put" ∨ d.kind = "order"), ∀ H9 Z zs, Go [] D0 H8 H9 → H8 Z = none → H9 Z = some (.lst zs) → DpAll K (cut (plus C0 Z) H9) zs ((boundOf d fr).map ePr) →
            ∃ acc, H9 D = some (.lst acc) ∧ acc.length < sizeLine ∧ Go [] D0 H5 (upd H9 D (.lst (acc ++ [.ref Z]))) ∧ ∃ bs, (upd H9 D (.lst (acc ++ [.ref Z]))) D = some (.lst bs) ∧ bs.length = j + 1 ∧ DpAll K (cut (plus C0 D) (upd H9 D (.lst (acc ++ [.ref Z])))) bs (((binds q.name 0 q.deeds).take (j + 1)).map ePs) := fun kd H9 Z zs g9 hZ eZ dz => last g9 hZ eZ (by rw [← callB kd]; exact dz)
        obtain ⟨Fa, fws, rfl, SF, dfw⟩ := Dp.lstI hw0
        have vG := @hvG
        have wG := @hwG
        clear hvG hwG hv0
        refine ⟨_, rfl, ?_⟩
        by_cases kd : d.kind = "put" ∨ d.kind = "order"
        · have yes : inV (.str d.kind) [.str "put", .str "order"] = true := by
            rcases kd with e | e
            · rw [e]; decide +kernel
            · rw [e]; decide +kernel
          refine ite2 (fun _ => ?_) (fun e => absurd yes e)
          exact ⟨.ref a', rfl, .ref Fa, rfl, .ref a', Fa, d, fr, rfl, vG g8, kd, wG g8, by omega, frs, g8.1, fun H9 Z zs g9 hZ eZ dz => go kd H9 Z zs g9 hZ eZ dz⟩
        · have no : ¬ inV (.str d.kind) [.str "put", .str "order"] = true := by
            cases d with
            | put a b ts => exact absurd (.inl rfl) kd
            | order a b => exact absurd (.inr rfl) kd
            | one c' a =>
              show ¬ inV (.str (kindS c')) [.str "put", .str "order"] = true
              cases c' <;> decide +kernel
          have em : bindP d fr = [] := by
            cases d with
            | put a b ts => exact absurd (.inl rfl) kd
            | order a b => exact absurd (.inr rfl) kd
            | one c' a => rfl
          refine ite2 (fun e => absurd e no) (fun _ => ?_)
          refine ⟨Nat.zero_le _, fun Z hZ => last ((Go.rfl' g8.1).new hZ) hZ upd_same ?_⟩
          rw [em]
          exact .nil
      rintro H6 ⟨g6, bs, eB, bl, db⟩
      rw [← binds_len q.name q.deeds 0, List.take_length] at db
      have dB := Dp.subs Sub.cut _ _ db
      have tg6 := g6.1
      have g46 := g5.trans g6
      have mdy6 : MadeN 10 K C H6 y q := (mdy.up (by decide)).sup (Sup.go g46 tg4)
      have s46 := sub_go g46 tg4
      have dn6 := Dp.sub s46 _ _ dn4
      have Sk6 := s46.seqL Sk4
      have dks6 := Dp.subs s46 _ _ dks4
      have Sd6 := s46.seqL Sd4
      have dds6 := Dp.subs s46 _ _ dds4
      have g16 : Go [] D0 H1 H6 := (g2.trans g24).trans g46
      have shB : SeqAt.shaped (.list ((binds q.name 0 q.deeds).map ePs)) = true := pss_sh (binds_str hstr q.deeds 0 qok.deeds)
      have rstr := rowsM_str (ds := q.deeds) hstr qok.deeds
      have rlen := rowsM_len q.name q.deeds
      have own := own_rows fq.good.own
      have lstr : ∀ x ∈ linesOf q, PyData.strOk x.1.1 = true ∧ PyData.strOk x.2 = true := fun x hx => by
        obtain ⟨k, hk, rfl⟩ := List.mem_map.mp hx
        have hk' := List.mem_range.mp hk
        refine ⟨hstr, ?_⟩
        show PyData.strOk ((textsOf q).getD k "") = true
        rw [List.getD_eq_getElem?_getD, List.getElem?_eq_getElem hk', Option.getD_some]
        have hm : (textsOf q)[k] ∈ textsOf q := List.getElem_mem hk'
        obtain ⟨d, hd, ht⟩ := List.mem_flatMap.mp hm
        exact (deed_tx (qok.deeds d hd) _ ht).1
      have shL := lts_sh lstr
      refine ⟨2, rfl, by decide, by decide, ?_⟩
      refine for_range (lo := 0) (n := 2) (fun i σ H7 => ∃ (y10 : Option V), σ = [some (.ref a), some (.ref p), some nv, some (.ref kl), some (.ref dl), some (.ref y), some (.ref F), y7, none, some (.ref D), y10, y11, none] ∧ Go [] D0 H6 H7) ?_ ?_ ?_
      · exact ⟨_, rfl, Go.rfl' tg6⟩
      · rintro i σ H7 hi ⟨y10, rfl, g7⟩
        have m7 : MadeN 10 K C H7 y q := mdy6.sup (Sup.go g7 tg6)
        refine ⟨.ref y, rfl, .ref y, q, rfl, Made.pat m7, qmid, g7.1, fun H8 l1 xs1 g8 hl1 el1 dl1 => ?_⟩
        have g68 := g7.trans g8
        refine ⟨nv, rfl, .ref kl, rfl, .ref dl, rfl, small_le (by show 3 ≤ 10000; decide), fun t ht => ?_⟩
        have g9 := g8.new (o := .tup [nv, .ref kl, .ref dl]) ht
        have e9 := (upd_ne (o := .tup [nv, .ref kl, .ref dl]) (ne_of_none el1 ht)).trans el1
        have dl9 := Dp.subs (Sub.new (o := .tup [nv, .ref kl, .ref dl]) ht).cuts _ _ dl1
        have t9 : (upd H8 t (.tup [nv, .ref kl, .ref dl])) t = some (.tup [nv, .ref kl, .ref dl]) := upd_same
        generalize upd H8 t (.tup [nv, .ref kl, .ref dl]) = H9 at g9 e9 dl9 t9 ⊢
        refine ⟨small_le (by show 1 ≤ 10000; decide), fun hl hhl => ?_⟩
        have g10 := g9.new (o := .lst [.ref t]) hhl
        have e10 := (upd_ne (o := .lst [.ref t]) (ne_of_none e9 hhl)).trans e9
        have dl10 := Dp.subs (Sub.new (o := .lst [.ref t]) hhl).cuts _ _ dl9
        have t10 := (upd_ne (o := .lst [.ref t]) (ne_of_none t9 hhl)).trans t9
        have h10 : (upd H9 hl (.lst [.ref t])) hl = some (.lst [.ref t]) := upd_same
        generalize upd H9 hl (.lst [.ref t]) = H10 at g10 e10 dl10 t10 h10 ⊢
        refine ⟨nv, rfl, small_le (by show 1 ≤ 10000; decide), fun nl' hnl => ?_⟩
        have g11 := g10.new (o := .lst [nv]) hnl
        have e11 := (upd_ne (o := .lst [nv]) (ne_of_none e10 hnl)).trans e10
        have dl11 := Dp.subs (Sub.new (o := .lst [nv]) hnl).cuts _ _ dl10
        have t11 := (upd_ne (o := .lst [nv]) (ne_of_none t10 hnl)).trans t10
        have h11 := (upd_ne (o := .lst [nv]) (ne_of_none h10 hnl)).trans h10
        have n11 : (upd H10 nl' (.lst [nv])) nl' = some (.lst [nv]) := upd_same
        generalize upd H10 nl' (.lst [nv]) = H11 at g11 e11 dl11 t11 h11 n11 ⊢
        have g611 := g7.trans g11
        have s611 := sub_go g611 tg6
        have dq11 : Dp K H11 (.ref t) (eP q) := .tup (.inl (.inl t11)) (.cons (Dp.sub s611 _ _ dn6) (.cons (.lst (s611.seqL Sk6) (Dp.subs s611 _ _ dks6)) (.one (.lst (s611.seqL Sd6) (Dp.subs s611 _ _ dds6)))))
        refine ⟨.ref hl, .ref nl', [q], [q.name], C0, rfl, ⟨hl, _, rfl, .inl (.inl h11), by rw [cut0]; exact .one dq11⟩, ⟨by show 1 ≤ 100; decide, fun r hr => by rw [List.mem_singleton.mp hr]; exact ⟨qok, sq⟩⟩, .lst (.inl (.inl n11)) (.one (Dp.sub s611 _ _ dn6)), fun r hr => by rw [List.mem_singleton.mp hr]; exact qok.name, (fun _ z => nomatch z), g611.1, fun H12 p2 xs2 g12 hp2 ep2 dp2 => ?_⟩
        rw [cut0] at dp2
        have eli : linesIn [q] [q.name] = linesOf q := by
          show (if q.name ∈ [q.name] then linesOf q else []) ++ [] = linesOf q
          rw [if_pos (List.mem_singleton.mpr rfl), List.append_nil]
        rw [eli] at dp2
        have e12 := g12.at g611.1 (fun z => z) e11
        have dl12 := Dp.subs ((sub_go g12 g611.1).cuts (C := plus C0 l1)) _ _ dl11
        have l1H6 : H6 l1 = none := g7.free tg6 (fun z => z) hl1
        have xl1 : xs1.length ≤ 9 := by
          rw [DpAll.len dl1, List.length_map]
          unfold linesOf
          rw [linesFrom_len]
          exact qtx
        refine ⟨l1, .ref p2, xs1, .list ((linesOf q).map eLT), (· = l1), rfl, e12, .lst (.inl (.inl e12)) (Dp.subs Sub.cut _ _ dl12), .lst (.inl (.inl ep2)) dp2, shL, by omega, g12.1, rfl, fun b hb => ⟨xs1, by rw [hb]; exact e12, by omega⟩, fun x hx => ?_, fun H13 g13 => ?_⟩
        · obtain ⟨d, hd, dx⟩ := DpAll.mem dl12 hx
          obtain ⟨r, _, rfl⟩ := List.mem_map.mp hd
          obtain ⟨b, us, rfl, Sb, _⟩ := Dp.tupI dx
          exact ⟨b, rfl, .inr ⟨us, Sub.cut.seqT Sb⟩⟩
        have g613 : Go [] D0 H6 H13 := (g611.trans g12).past g13 (fun b hb => by rw [hb]; exact l1H6)
        refine ⟨_, rfl, iteF ?_⟩
        clear g7 g8 g9 g10 g11 g12 g13 g611 s611 dl9 dl10 dl11 dl12 dq11 m7
        have m13 : MadeN 10 K C H13 y q := mdy6.sup (Sup.go g613 tg6)
        refine ⟨.ref y, rfl, .ref y, q, rfl, Made.pat m13, qmid, g613.1, fun H14 F2 fs2 g14 hF2 eF2 df2 il => ?_⟩
        have g614 := g613.trans g14
        have fl2 : fs2.length ≤ 1000 := by
          rw [DpAll.len df2, List.length_map, binds_len]
          omega
        have free6 : ∀ {b : Addr}, H13 b = none → H6 b = none := fun h => g613.free tg6 (fun z => z) h
        refine ⟨.ref D, rfl, F2, .ref D, fs2, .list ((binds q.name 0 q.deeds).map ePs), (fun b => b = F2 ∨ V.ref b ∈ fs2), rfl, eF2, .lst (.inl (.inl eF2)) (Dp.subs Sub.cut _ _ df2), .lst (.inl (.inl (g614.at tg6 (fun z => z) eB))) (Dp.subs (sub_go g614 tg6) _ _ dB), shB, fl2, g614.1, .inl rfl, fun b hb => ?_, fun x hx => ?_, fun H15 g15 => ?_⟩
        · rcases hb with rfl | hb
          · exact ⟨fs2, eF2, by omega⟩
          · obtain ⟨b', us, e, _, _, e3, e4⟩ := il _ hb
            cases e
            exact ⟨us, e3, by omega⟩
        · obtain ⟨b', us, rfl, _, e2, _, _⟩ := il x hx
          exact ⟨b', rfl, .inl ⟨.inr hx, e2⟩⟩
        have g615 : Go [] D0 H6 H15 := g614.past g15 fun b hb => by
          rcases hb with rfl | hb
          · exact free6 hF2
          · obtain ⟨b', us, e, e1, _⟩ := il _ hb
            cases e
            exact free6 e1
        refine ⟨_, rfl, iteF ?_⟩
        clear g613 g14 g614 g15 free6 il fl2 df2 m13
        have m15 : MadeN 10 K C H15 y q := mdy6.sup (Sup.go g615 tg6)
        refine ⟨.ref y, rfl, .ref y, q, rfl, Made.pat m15, qmid, by omega, g615.1, fun H16 l3 xs3 MM g16 hl3 el3 dl3 pm sm => ?_⟩
        have g616 := g615.trans g16
        have s616 := sub_go g616 tg6
        refine ⟨nv, rfl, .ref dl, rfl, nv, dl, dvs, q.name, q.deeds, rfl, Dp.sub s616 _ _ dn6, s616.seqL Sd6, Dp.subs s616 _ _ dds6, by omega, by omega, by omega, fun r hr => (rstr r hr).1, g616.1, fun H17 l4 xs4 DD g17 hl4 el4 dl4 nd mi up la => ?_⟩
        have eMD := marks_due own pm sm nd mi up la
        subst eMD
        have g617 := g616.trans g17
        have el3' := g17.at g616.1 (fun z => z) el3
        have dl3' := Dp.subs ((sub_go g17 g616.1).cuts (C := plus C0 l3)) _ _ dl3
        have shM : SeqAt.shaped (.list (MM.map eLT)) = true := lts_sh fun x hx => by
          obtain ⟨r, hr, e⟩ := List.mem_map.mp ((mi x.1).mp (List.mem_map_of_mem (f := fun x : Ln × Str => x.1) hx))
          obtain ⟨r2, hr2, e2⟩ := lastM_mem (la x hx)
          exact ⟨by rw [← e]; exact (rstr r hr).1, by rw [← e2]; exact (rstr r2 hr2).2⟩
        have xl3 : xs3.length ≤ 1000 := by
          have h1 := marksM_len q.name q.deeds 0 []
          have h2 := pm.length_eq
          have h3 : xs3.length = MM.length := by rw [DpAll.len dl3, List.length_map]
          rw [List.length_nil] at h1
          omega
        have l3H6 : H6 l3 = none := g615.free tg6 (fun z => z) hl3
        refine ⟨l3, .ref l4, xs3, .list (MM.map eLT), (· = l3), rfl, el3', .lst (.inl (.inl el3')) (Dp.subs Sub.cut _ _ dl3'), .lst (.inl (.inl el4)) (Dp.subs Sub.cut _ _ dl4), shM, xl3, g617.1, rfl, fun b hb => ⟨xs3, by rw [hb]; exact el3', by omega⟩, fun x hx => ?_, fun H18 g18 => ?_⟩
        · obtain ⟨d, hd, dx⟩ := DpAll.mem dl3' hx
          obtain ⟨r, _, rfl⟩ := List.mem_map.mp hd
          obtain ⟨b, us, rfl, Sb, _⟩ := Dp.tupI dx
          exact ⟨b, rfl, .inr ⟨us, Sub.cut.seqT Sb⟩⟩
        have g618 : Go [] D0 H6 H18 := g617.past g18 (fun b hb => by rw [hb]; exact l3H6)
        exact ⟨_, rfl, iteF ⟨_, rfl, g618⟩⟩
      rintro σ H7 ⟨y10, rfl, g7⟩
      refine ⟨.ref dl, rfl, dl, rfl, ⟨dvs, (sub_go g7 tg6).seqL Sd6⟩, ?_⟩
      refine for_list (K := K) (a := dl) (xs := dvs) (fun i σ H8 => ∃ (y7 y11 : Option V), σ = [some (.ref a), some (.ref p), some nv, some (.ref kl), some (.ref dl), some (.ref y), some (.ref F), y7, none, some (.ref D), y10, y11, none] ∧ Go [] D0 H6 H8) ?_ ?_ ?_ ?_
      · exact ⟨_, _, rfl, g7⟩
      · rintro i σ H8 hi ⟨_, _, rfl, g8⟩
        exact (sub_go g8 tg6).seqL Sd6
      · rintro i x σ H8 hx ⟨y7, y11, rfl, g8⟩
        obtain ⟨d0, hd0, hv0⟩ := DpAll.at' dds6 hx
        obtain ⟨d, hd, rfl⟩ := at_map hd0
        have dok := qok.deeds d (List.mem_of_getElem? hd)
        have ded := deed_ed dok
        obtain ⟨a', lvs, tl', rfl, Sa, dl', hcase⟩ := deed_parts hv0
        have ln2 : d.lines.length ≤ 2 := lines_len d
        have lvl : lvs.length = d.lines.length := by rw [DpAll.len dl', List.length_map]
        have SaG : ∀ {H'}, Go [] D0 H6 H' → SqT K H' a' (.str d.kind :: (lvs ++ tl')) := fun g' => (sub_go g' tg6).seqT Sa
        refine ⟨.ref a', rfl, a', _, 0, .str d.kind, rfl, rfl, SaG g8, atI_nat (j := 0) rfl, small_le (by decide), fun tt htt => ⟨tt, _, rfl, .inr (.inl (.inl upd_same)), rfl, rfl, _, rfl, ?_⟩⟩
        have g9 := g8.new (o := .tup [V.str "cut", .str "keep"]) htt
        generalize upd H8 tt (.tup [V.str "cut", .str "keep"]) = H9 at g9 ⊢
        apply twice2 (A := fun R H10 => Go [] D0 H6 H10 ∧ ∃ rs, H10 R = some (.lst rs) ∧ DpAll K H6 rs (d.lines.map eL))
        case use =>
          intro rest
          by_cases h1 : d.lines.length = 1
          · refine ite2 (fun _ => ?_) (fun e => absurd (one_in h1) e)
            obtain ⟨z, hz⟩ : ∃ z, lvs = [z] := List.length_eq_one_iff.mp (lvl.trans h1)
            have SaZ := SaG g9
            have dlz := dl'
            rw [hz] at SaZ dlz
            refine ⟨.ref a', rfl, a', _, 1, z, rfl, rfl, SaZ, atI_nat (j := 1) rfl, small_le (by show 1 ≤ 10000; decide), fun R hR => ?_⟩
            have gR := g9.new (o := .lst [z]) hR
            have eR : (upd H9 R (.lst [z])) R = some (.lst [z]) := upd_same
            generalize upd H9 R (.lst [z]) = H10 at gR eR ⊢
            exact rest R H10 ⟨gR, _, eR, dlz⟩
          · refine ite2 (fun e => absurd e (two_in h1)) (fun _ => ?_)
            obtain ⟨z1, z2, hz⟩ : ∃ z1 z2, lvs = [z1, z2] := len2 (by rcases hcase with ⟨_, h, _⟩ | ⟨_, h, _⟩ | ⟨_, _, h, _⟩ <;> omega)
            have SaZ := SaG g9
            have dlz := dl'
            rw [hz] at SaZ dlz
            refine ⟨.ref a', rfl, a', _, 1, z1, rfl, rfl, SaZ, atI_nat (j := 1) rfl, .ref a', rfl, a', _, 2, z2, rfl, rfl, SaZ, atI_nat (j := 2) rfl, small_le (by show 2 ≤ 10000; decide), fun R hR => ?_⟩
            have gR := g9.new (o := .lst [z1, z2]) hR
            have eR : (upd H9 R (.lst [z1, z2])) R = some (.lst [z1, z2]) := upd_same
            generalize upd H9 R (.lst [z1, z2]) = H10 at gR eR ⊢
            exact rest R H10 ⟨gR, _, eR, dlz⟩
        case h =>
          rintro R H10 ⟨g10, rs, eR, drs⟩
          have rl : rs.length = d.lines.length := by rw [DpAll.len drs, List.length_map]
          refine ⟨.ref a', rfl, .ref a', d, rfl, Dp.sub (sub_go g10 tg6) _ _ hv0, dok, g10.1, fun H11 l5 xs5 g11 hl5 el5 dl5 => ?_⟩
          have g611 := g10.trans g11
          have eR11 := g11.at g10.1 (fun z => z) eR
          refine ⟨.ref R, rfl, R, rfl, ⟨rs, .inl (.inl eR11)⟩, fun W hW => ?_⟩
          refine lc_list (K := K) (a := R) (xs := rs) (fun j H12 => Go [] D0 H11 H12 ∧ ∃ ws, H12 W = some (.lst ws) ∧ ws.length ≤ j ∧ DpAll K H6 ws (((d.lines.take j).filter isNm).map eL)) ?_ ?_ ?_ ?_
          · exact ⟨(Go.rfl' g11.1).new hW, [], upd_same, Nat.zero_le _, .nil⟩
          · rintro j H12 hj ⟨g12, _⟩
            exact .inl (.inl (g12.at g11.1 (fun z => z) eR11))
          · rintro j x H12 hx12 ⟨g12, ws, eW, wl, dws⟩
            obtain ⟨d3, hd3, hv3⟩ := DpAll.at' drs hx12
            obtain ⟨ln, hln, rfl⟩ := at_map hd3
            have hj := (List.getElem?_eq_some_iff.mp hln).1
            have hv3' := hv3
            obtain ⟨bx, _, rfl, Sx, d4⟩ := Dp.tupI hv3
            obtain ⟨p1, p2, p3, rfl, q1, _, _⟩ := DpAll.i3 d4
            cases Dp.strI q1
            have step : (d.lines.take (j + 1)).filter isNm = (d.lines.take j).filter isNm ++ (if isNm ln then [ln] else []) := by
              rw [List.take_add_one, hln, Option.toList_some, List.filter_append]
              congr 1
              by_cases h : isNm ln = true
              · rw [if_pos h, List.filter_cons_of_pos h, List.filter_nil]
              · rw [if_neg h, List.filter_cons_of_neg h, List.filter_nil]
            rw [step, isNm_hand (ded ln (List.mem_of_getElem? hln))]
            refine ⟨rfl, .ref bx, rfl, bx, _, 0, .str ln.1, rfl, rfl, (sub_go (g611.trans g12) tg6).seqT Sx, atI_nat (j := 0) rfl, rfl, _, rfl, ?_⟩
            have eqs : decide (V.str ln.1 = V.str "") = decide (ln.1 = "") := by
              by_cases h : ln.1 = ""
              · rw [h]; rfl
              · rw [decide_eq_false h, decide_eq_false fun z => h (V.str.inj z)]
            rw [eqs]
            refine ite2 (fun e => ?_) (fun e => ?_)
            · rw [if_pos e, List.map_append]
              exact ⟨.ref bx, rfl, ws, eW, small_line (by omega), g12.put hW eW, _, upd_same, by rw [List.length_append]; show _ + 1 ≤ _; omega, DpAll.app dws (.one hv3')⟩
            · rw [if_neg e, List.append_nil]
              exact ⟨g12, ws, eW, by omega, dws⟩
          · rintro H12 ⟨g12, ws, eW, wl, dws⟩
            rw [rl, List.take_length] at dws
            have g612 := g611.trans g12
            have s612 := sub_go g612 tg6
            have el5' := g12.at g11.1 (fun z => z) el5
            have l5H6 : H6 l5 = none := g10.free tg6 (fun z => z) hl5
            have xl5 : xs5.length ≤ 2 := by
              have h1 := List.length_filter_le isNm d.lines
              rw [DpAll.len dl5, List.length_map]
              omega
            have sh5 : SeqAt.shaped (.list ((d.lines.filter isNm).map eL)) = true := lns_sh fun l hl => (ded l (List.mem_filter.mp hl).1).str
            have dl5' := Dp.subs (sub_go (g11.trans g12) g10.1) _ _ dl5
            refine ⟨l5, .ref W, xs5, .list ((d.lines.filter isNm).map eL), (· = l5), rfl, el5', .lst (.inl (.inl el5')) dl5', .lst (.inl (.inl eW)) (Dp.subs s612 _ _ dws), sh5, by omega, g612.1, rfl, fun b hb => ⟨xs5, by rw [hb]; exact el5', by omega⟩, fun x hx => ?_, fun H13 g13 => ?_⟩
            · obtain ⟨d6, hd6, dx⟩ := DpAll.mem dl5' hx
              obtain ⟨r, _, rfl⟩ := List.mem_map.mp hd6
              obtain ⟨b, us, rfl, Sb, _⟩ := Dp.tupI dx
              exact ⟨b, rfl, .inr ⟨us, Sb⟩⟩
            have g613 : Go [] D0 H6 H13 := g612.past g13 (fun b hb => by rw [hb]; exact l5H6)
            exact ⟨_, rfl, iteF ⟨_, _, rfl, g613⟩⟩
      rintro σ H8 ⟨y7, y11, rfl, g8⟩
      have m8 : MadeN 10 K C H8 y q := mdy6.sup (Sup.go g8 tg6)
      have m8' := m8
      obtain ⟨dx, fs', nv', kv', dv', hins, _, _, _, _, _, hnt, _⟩ := m8'
      refine ⟨.ref y, rfl, y, dx, fs', rfl, hins, hnt, .ref y, q, rfl, Made.pat m8, g8.1, fun H9 t nv2 kl2 dl2 kvs2 dvs2 g9 ht hkl hdl nkd et ekl edl dn2 dk2 dd2 => ?_⟩
      have s9 := sub_go g9 g8.1
      have g69 := g8.trans g9
      refine ⟨nv, rfl, .ref kl, rfl, .ref dl, rfl, small_le (by show 3 ≤ 10000; decide), fun t2 ht2 => ?_⟩
      have g10 := g69.new (o := .tup [nv, .ref kl, .ref dl]) ht2
      have n10 := Sub.new (o := .tup [nv, .ref kl, .ref dl]) ht2
      have t10 : (upd H9 t2 (.tup [nv, .ref kl, .ref dl])) t2 = some (.tup [nv, .ref kl, .ref dl]) := upd_same
      generalize upd H9 t2 (.tup [nv, .ref kl, .ref dl]) = H10 at g10 n10 t10 ⊢
      have s610 := sub_go g10 tg6
      have s9' := s9.trans n10
      have shq := eP_sh qok
      refine ⟨eP q, eP q, .tup (.inl (.inl (n10 _ _ et ⟨_, .inr (.inl rfl)⟩))) (.cons (Dp.sub s9' _ _ dn2) (.cons (.lst (.inl (.inl (n10 _ _ ekl ⟨_, .inl rfl⟩))) (Dp.subs s9' _ _ dk2)) (.one (.lst (.inl (.inl (n10 _ _ edl ⟨_, .inl rfl⟩))) (Dp.subs s9' _ _ dd2))))),
        .tup (.inl (.inl t10)) (.cons (Dp.sub s610 _ _ dn6) (.cons (.lst (s610.seqL Sk6) (Dp.subs s610 _ _ dks6)) (.one (.lst (s610.seqL Sd6) (Dp.subs s610 _ _ dds6))))), shq, shq, _, rfl, ?_⟩
      rw [eqv_self shq]
      exact iteF ⟨_, _, _, _, _, _, _, _, _, rfl, g16.trans g10⟩
    · rintro σ H2 ⟨_, _, _, _, _, _, _, _, _, rfl, g⟩
      exact q _
end
end K1
set_option Elab.async false
set_option linter.all false
set_option maxRecDepth 100000
set_option maxHeartbeats 4000000
/-! The end: what the top has left, taken together. -/
namespace K1
open PySem PySem.Spec PyProof.Rows L2 PySem.W LZ

/-- what the walk's end asks at a heap: a promise of the law, with tables -/
def EndAt (l : OpenLaw) (w : World) (K : Frag) (k n : Nat) (x : Str) (mg : Str → Option Value) (fa : Addr) (h : Heap) : Prop := LamX.LawAtS l w K L2.CX0 k n x mg fa h
theorem walk_tabs {l : OpenLaw} {n k : Nat} {q : Program} {loose : List Str} {XP : (Str → Option Value) → Heap → Prop} {YP : World → Heap → Prop} {d : DefRec} {K : Params → Frag} {x : Str}
    (hn : l.most = some n) (hn2 : n ≤ sizeLine) (hdf : d.params.defaults = []) (hr : Room k callerA) (hY : ∀ (w : World) (h : Heap), YP w h → (K w.params).In h)
    (F : ∀ (w : World) (lo : List Str) (mean : ExcName → Option Value) (mg mb : Str → Option Value) (fa : Addr) (h : Heap), (K w.params).In h → Top q lo mean mg mb h → mg d.name = some (.ref fa) → EndAt l w (K w.params) k n x mg fa h) :
    WalkO q loose XP YP l.row.toRowW d [] (fun f vs => PySem.call f vs) := by
  refine Att.attach_callB hn hdf ?_
  intro w s₀ s₁ mg mb fa o pm cd doc a vs ns G Y ho hd hcd hmg hobj hints hlen hbits hg
  have X := hY w _ Y
  obtain ⟨fd, cs, sp, c1, c2, c3, hb, hsp, hF⟩ := F w _ _ mg mb fa _ X G.T hmg
  refine LamX.law_callTs X G.T.g G.T.b G.T.builtins G.T.nolimit hg c1 c2 c3 G.T.bmain hobj hints (Nat.le_trans hlen hn2) hr hF hb ?_ ?_
  · intro H hH hS
    exact hsp H a ns hlen hbits hH hS
  · intro H e s' z
    exact z

section
variable {q : Program} {loose : List Str} {mean : ExcName → Option Value} {mg mb : Str → Option Value} {h : Heap} {K : Frag}
/-- a def of the module -/
structure DefAt (K : Frag) (mg : Str → Option Value) (x : Str) (st : Stmt) (ps : List Str) : Prop where
  ex : ∃ (f : Addr) (fd : FuncData), Fun K x x st f fd ∧ mg x = some (.ref f) ∧ Binds K fd ps []
theorem def_at {x : Str} {st : Stmt} {ps : List Str} {f : Addr} {oc kV doc pm cdv ct : Value} {od an : Option Addr} {osl : Array (Option Value)} (X : K.In h) (G : h.Ns mainGlobals mg)
    (a : nsIn K mainGlobals x = some (some (.ref f))) (l : K.lookup f = some ⟨oc, od, .func (fnOf x x (defArgs st) (defBody st) (defScope st) .none kV doc pm an cdv ct), osl⟩) (c : codeIn K cdv x = true) (k : keepIn K (.ref f) = true)
    (b : ∀ us : List Value, us.length = ps.length → bindArgs (fnOf x x (defArgs st) (defBody st) (defScope st) .none kV doc pm an cdv ct) ⟨us, []⟩ = pure (ps.zip us)) : DefAt K mg x st ps :=
  ⟨f, _, fun_mk l c k, mg_of X G a, .all b⟩
end
section
variable {P : Program} {w : World} {K : Frag} {mg : Str → Option Value} {base : Heap} {T : Tp}
theorem DefAt.cal {x : Str} {st : Stmt} {ps : List Str} {k j : Nat} {sp : Sp} (D : DefAt K mg x st ps) (ok : ∀ {f : Addr} {fd : FuncData}, Fun K x x st f fd → FnOk P w K mg base CX0 j f fd ps sp) (h : j ≤ k) : Cal P w K mg base k x ps sp := by
  obtain ⟨f, fd, F, m, b⟩ := D.ex
  exact ⟨f, fd, (ok F).mono h, m, F.kp, b⟩
theorem Cal.up {x : Str} {ps : List Str} {k j : Nat} {sp : Sp} (C : Cal P w K mg base j x ps sp) (h : j ≤ k) : Cal P w K mg base k x ps sp := by
  obtain ⟨f, fd, F, r⟩ := C.ex
  exact ⟨f, fd, F.mono h, r⟩
/-- the defs but the law -/
structure Defs (K : Frag) (mg : Str → Option Value) : Prop where
  triple : DefAt K mg "is_triple" sIsTriple ["thing"]
  word : DefAt K mg "is_word" sWord ["thing"]
  hand : DefAt K mg "is_hand" sHand ["thing"]
  name : DefAt K mg "is_name" sName ["thing"]
  put : DefAt K mg "is_put_line" sPut ["thing"]
  en : DefAt K mg "is_end" sEnd ["thing"]
  canKnow : DefAt K mg "can_know" sCanKnow ["own", "knows"]
  manyD : DefAt K mg "_many_deeds" sManyDeeds ["things"]
  isDeed : DefAt K mg "_is_deed" sIsDeed ["thing"]
  canPut : DefAt K mg "_can_put" sCanPut ["above", "below", "texts"]
  manyP : DefAt K mg "_many_put" sManyPut ["name", "deeds"]
  canDo : DefAt K mg "can_do" sCanDo ["deed", "own", "many"]
  isText : DefAt K mg "is_text" sIsText ["thing"]
  lput : DefAt K mg "lines_put" sLinesPut ["patch"]
  bindof : DefAt K mg "bindings_of" sBindingsOf ["patch"]
  bindin : DefAt K mg "bindings_in" sBindingsIn ["name", "deeds"]
  marksin : DefAt K mg "marks_in" sMarksIn ["patch"]
  marksby : DefAt K mg "marks_by" sMarksBy ["name", "deeds"]
  named : DefAt K mg "lines_named" sLinesNamed ["deed"]
  mixed : DefAt K mg "_law_mixed" sMixed ["_law_cell", "_law_k"]
  draw : DefAt K mg "_law_draw" sDraw ["_law_cell", "_law_k"]
  digit : DefAt K mg "_law_digit" sDigit ["_law_state", "_law_many"]
  llines : DefAt K mg "_law_lines" sLLines ["_law_history_here", "_law_names"]
  lknown : DefAt K mg "_law_known" sLKnown ["_law_history_here", "_law_knows"]
  ldeed : DefAt K mg "_law_deed" sLDeed ["_law_state", "_law_goods"]
  lpatch : DefAt K mg "_law_patch" sLPatch ["_law_history_here", "_law_state"]
  lhist : DefAt K mg "_law_history" sLHist ["_law_script", "_law_most"]
  lputs : DefAt K mg "_law_puts" sLPuts ["_law_name", "_law_deeds"]
  lbound : DefAt K mg "_law_bound" sLBound ["_law_deed_here", "_law_fresh"]
  lmarks : DefAt K mg "_law_marks" sLMarks ["_law_name", "_law_deeds"]
  lsame : DefAt K mg "_law_same" sLSame ["_law_told", "_law_due"]
/-- the class of patches -/
structure ClsP (K : Frag) (mg : Str → Option Value) (C : Addr) : Prop where
  pc : PCls K C
  at_ : mg "Patch" = some (.ref C)
  init : ∃ (f : Addr) (fd : FuncData), Mk K C f ∧ Fun K "__init__" "Patch.__init__" sPatch_init f fd ∧ Binds K fd ["self", "name", "knows", "deeds"] []
  told : ∃ (f : Addr) (fd : FuncData), Meth K C "told" f ∧ Fun K "told" "Patch.told" sPatch_told f fd ∧ Binds K fd ["self"] []
theorem cals {C : Addr} (D : Defs K mg) (M : Mg K mg) (N : Mp mg) (CP : ClsP K mg C) (hsorted : mg "sorted" = none) (hzip : mg "zip" = none) (hset : mg "set" = none) : Cals3 P w K mg base C [] 11 := by
  have PC := CP.pc
  have word : Cal P w K mg base 1 "is_word" ["thing"] (spWord K []) := D.word.cal (j := 1) (fun F => ok_word (k := 0) F M) (by omega)
  have triple : Cal P w K mg base 1 "is_triple" ["thing"] (spTriple K) := D.triple.cal (j := 1) (fun F => ok_triple (k := 0) F M) (by omega)
  have hand : Cal P w K mg base 2 "is_hand" ["thing"] (spHand K []) := D.hand.cal (j := 2) (fun F => ok_hand F word) (by omega)
  have name : Cal P w K mg base 3 "is_name" ["thing"] (spName K []) := D.name.cal (j := 3) (fun F => ok_name F M hand) (by omega)
  have put : Cal P w K mg base 3 "is_put_line" ["thing"] (spPut K []) := D.put.cal (j := 3) (fun F => ok_put F M hand) (by omega)
  have en : Cal P w K mg base 3 "is_end" ["thing"] (spEnd K) := D.en.cal (j := 3) (fun F => ok_end F M (triple.up (by omega))) (by omega)
  have isText : Cal P w K mg base 1 "is_text" ["thing"] (spIsText K) := D.isText.cal (j := 1) (fun F => ok_istext (k := 0) F M N) (by omega)
  have canPut : Cal P w K mg base 4 "_can_put" ["above", "below", "texts"] (spCanPut K []) := D.canPut.cal (j := 4) (fun F => ok_canput F M N put en (isText.up (by omega))) (by omega)
  have isDeed : Cal P w K mg base 5 "_is_deed" ["thing"] (spIsDeed K []) := D.isDeed.cal (j := 5) (fun F => ok_isdeed F M (put.up (by omega)) canPut) (by omega)
  have manyD : Cal P w K mg base 6 "_many_deeds" ["things"] (spManyD K []) := D.manyD.cal (j := 6) (fun F => ok_manyd F M isDeed) (by omega)
  have canDo : Cal P w K mg base 1 "can_do" ["deed", "own", "many"] (spCanDo K []) := D.canDo.cal (j := 1) (fun F => ok_cando (k := 0) F M) (by omega)
  have manyP : Cal P w K mg base 2 "_many_put" ["name", "deeds"] (spManyP K []) := D.manyP.cal (j := 2) (fun F => ok_manyp F M canDo) (by omega)
  have canKnow : Cal P w K mg base 4 "can_know" ["own", "knows"] (spCanKnow K []) := D.canKnow.cal (j := 4) (fun F => ok_canknow F M name) (by omega)
  have make : MakP P w K mg base 7 C [] := by
    obtain ⟨f, fd, m, F, b⟩ := CP.init
    exact ⟨f, fd, m, ok_init F M N PC (name.up (by omega)) (canKnow.up (by omega)) manyD (manyP.up (by omega)), CP.at_, b⟩
  have told : MetT P w K mg base 11 C [] := by
    obtain ⟨f, fd, m, F, b⟩ := CP.told
    exact ⟨f, fd, PC.cls, m, (ok_told (k := 0) F M PC).mono (by omega), b⟩
  have lput : Cal P w K mg base 1 "lines_put" ["patch"] (spLinesPut K C []) := D.lput.cal (j := 1) (fun F => ok_linesput (k := 0) F M PC) (by omega)
  have bindin : Cal P w K mg base 1 "bindings_in" ["name", "deeds"] (spBindIn K []) := D.bindin.cal (j := 1) (fun F => ok_bindin (k := 0) F M hzip) (by omega)
  have bindof : Cal P w K mg base 2 "bindings_of" ["patch"] (spBindOf K C []) := D.bindof.cal (j := 2) (fun F => ok_bindof F PC bindin) (by omega)
  have marksby : Cal P w K mg base 1 "marks_by" ["name", "deeds"] (spMarksBy P w K []) := D.marksby.cal (j := 1) (fun F => ok_marksby (k := 0) F M) (by omega)
  have marksin : Cal P w K mg base 2 "marks_in" ["patch"] (spMarksIn K C []) := D.marksin.cal (j := 2) (fun F => ok_marksin F M hsorted PC marksby) (by omega)
  have named : Cal P w K mg base 1 "lines_named" ["deed"] (spNamed K []) := D.named.cal (j := 1) (fun F => ok_lnamed (k := 0) F M) (by omega)
  have mixed : Cal P w K mg base 1 "_law_mixed" ["_law_cell", "_law_k"] (spMixed) := D.mixed.cal (j := 1) (fun F => ok_mixed (k := 0) F) (by omega)
  have draw : Cal P w K mg base 2 "_law_draw" ["_law_cell", "_law_k"] (spDraw) := D.draw.cal (j := 2) (fun F => ok_draw F mixed) (by omega)
  have digit : Cal P w K mg base 1 "_law_digit" ["_law_state", "_law_many"] (spDigit) := D.digit.cal (j := 1) (fun F => ok_digit (k := 0) F) (by omega)
  have llines : Cal P w K mg base 1 "_law_lines" ["_law_history_here", "_law_names"] (spLines K []) := D.llines.cal (j := 1) (fun F => ok_llines (k := 0) F M) (by omega)
  have lknown : Cal P w K mg base 1 "_law_known" ["_law_history_here", "_law_knows"] (spKnown K []) := D.lknown.cal (j := 1) (fun F => ok_lknown (k := 0) F M) (by omega)
  have ldeed : Cal P w K mg base 2 "_law_deed" ["_law_state", "_law_goods"] (spDeed K []) := D.ldeed.cal (j := 2) (fun F => ok_ldeed F M digit) (by omega)
  have lpatch : Cal P w K mg base 3 "_law_patch" ["_law_history_here", "_law_state"] (spPatch K []) := D.lpatch.cal (j := 3) (fun F => ok_lpatch F M hsorted (digit.up (by omega)) (llines.up (by omega)) (lknown.up (by omega)) ldeed) (by omega)
  have lhist : Cal P w K mg base 4 "_law_history" ["_law_script", "_law_most"] (spHist K []) := D.lhist.cal (j := 4) (fun F => ok_lhist F M (draw.up (by omega)) lpatch) (by omega)
  have lputs : Cal P w K mg base 1 "_law_puts" ["_law_name", "_law_deeds"] (spPuts K []) := D.lputs.cal (j := 1) (fun F => ok_lputs (k := 0) F M) (by omega)
  have lbound : Cal P w K mg base 1 "_law_bound" ["_law_deed_here", "_law_fresh"] (spBound K []) := D.lbound.cal (j := 1) (fun F => ok_lbound (k := 0) F M) (by omega)
  have lmarks : Cal P w K mg base 2 "_law_marks" ["_law_name", "_law_deeds"] (spLMarks K []) := D.lmarks.cal (j := 2) (fun F => ok_lmarks F M hzip hsorted hset lputs) (by omega)
  have lsame : Cal P w K mg base 1 "_law_same" ["_law_told", "_law_due"] (spSame K []) := D.lsame.cal (j := 1) (fun F => ok_lsame (k := 0) F M) (by omega)
  exact ⟨lhist.up (by omega), lputs.up (by omega), lbound.up (by omega), lsame.up (by omega), lput.up (by omega), llines.up (by omega), bindof.up (by omega), marksin.up (by omega), lmarks.up (by omega), named.up (by omega), make.up (by omega), told⟩
end
/-- a tuple of the written part -/
theorem seq_K {K : Frag} {a : Addr} {o : Obj} {its : Array Value} {n : Nat} {xs : List V} (l : K.lookup a = some o) (c : o.cls = .type "tuple") (d : o.data = .seq its n) (z : its.size ≤ sizeLine) (v : Vals xs its.toList) : ∀ H, SqT K H a xs :=
  fun _ => .inr ⟨o, its, n, l, c, d, z, v⟩
theorem const_at {K : Frag} {h : Heap} {mg : Str → Option Value} {x : Str} {xs : List V} {a : Addr} {o : Obj} {its : Array Value} {n : Nat} (X : K.In h) (G : h.Ns mainGlobals mg) (e : nsIn K mainGlobals x = some (some (.ref a)))
    (l : K.lookup a = some o) (c : o.cls = .type "tuple") (d : o.data = .seq its n) (z : its.size ≤ sizeLine) (v : Vals xs its.toList) : ∃ a, mg x = some (.ref a) ∧ ∀ H, SqT K H a xs := ⟨a, mg_of X G e, seq_K l c d z v⟩
theorem mg_at {K : Frag} {h : Heap} {mg : Str → Option Value} {v1 v2 : Value} {t1 t2 : Tok} (X : K.In h) (G : h.Ns mainGlobals mg) (e1 : nsIn K mainGlobals "isinstance" = some none) (e2 : nsIn K mainGlobals "int" = some none) (e3 : nsIn K mainGlobals "bool" = some none)
    (e4 : nsIn K mainGlobals "str" = some none) (e5 : nsIn K mainGlobals "tuple" = some none) (e6 : nsIn K mainGlobals "list" = some none) (e7 : nsIn K mainGlobals "len" = some none) (e8 : nsIn K mainGlobals "all" = some none) (e9 : nsIn K mainGlobals "range" = some none)
    (e10 : nsIn K mainGlobals "enumerate" = some none) (e11 : nsIn K mainGlobals "sum" = some none) (e12 : nsIn K mainGlobals "MOST_LETTERS" = some (some v1)) (h1 : v1 = .int 8 t1) (e13 : nsIn K mainGlobals "MOST_NUMBER" = some (some v2)) (h2 : v2 = .int 999 t2)
    (hd : ∃ a, mg "HEAD" = some (.ref a) ∧ ∀ H, SqT K H a [.str "", .int 0, .int 0]) (ft : ∃ a, mg "FOOT" = some (.ref a) ∧ ∀ H, SqT K H a [.str "", .int 0, .int 1]) : Mg K mg :=
  ⟨mg_none_of X G e1, mg_none_of X G e2, mg_none_of X G e3, mg_none_of X G e4, mg_none_of X G e5, mg_none_of X G e6, mg_none_of X G e7, mg_none_of X G e8, mg_none_of X G e9, mg_none_of X G e10, mg_none_of X G e11,
    ⟨t1, h1 ▸ mg_of X G e12⟩, ⟨t2, h2 ▸ mg_of X G e13⟩, hd, ft⟩
theorem mp_at {K : Frag} {h : Heap} {mg : Str → Option Value} {v1 v2 v3 : Value} {t1 t2 t3 : Tok} (X : K.In h) (G : h.Ns mainGlobals mg) (e1 : nsIn K mainGlobals "MOST_DEEDS" = some (some v1)) (h1 : v1 = .int 400 t1) (e2 : nsIn K mainGlobals "MOST_TEXTS" = some (some v2)) (h2 : v2 = .int 200 t2)
    (e3 : nsIn K mainGlobals "MOST_SIGNS" = some (some v3)) (h3 : v3 = .int 40 t3) : Mp mg := ⟨⟨t1, h1 ▸ mg_of X G e1⟩, ⟨t2, h2 ▸ mg_of X G e2⟩, ⟨t3, h3 ▸ mg_of X G e3⟩⟩
theorem cls_at {K : Frag} {h : Heap} {mg : Str → Option Value} {C f1 f2 : Addr} (X : K.In h) (G : h.Ns mainGlobals mg) {od1 an1 od2 an2 : Option Addr} {sl1 sl2 : Array (Option Value)} {oc1 kV1 dc1 pm1 cd1 ct1 oc2 kV2 dc2 pm2 cd2 ct2 : Value}
    (aC : nsIn K mainGlobals "Patch" = some (some (.ref C)))
    (a1 : findIn K (.ref C) "__init__" = some (some (.ref f1))) (i1 : isFn K (.ref f1) = true) (l1 : K.lookup f1 = some ⟨oc1, od1, .func (fnOf "__init__" "Patch.__init__" (defArgs sPatch_init) (defBody sPatch_init) (defScope sPatch_init) .none kV1 dc1 pm1 an1 cd1 ct1), sl1⟩) (c1 : codeIn K cd1 "Patch.__init__" = true) (k1 : keepIn K (.ref f1) = true)
    (a2 : findIn K (.ref C) "told" = some (some (.ref f2))) (i2 : isFn K (.ref f2) = true) (l2 : K.lookup f2 = some ⟨oc2, od2, .func (fnOf "told" "Patch.told" (defArgs sPatch_told) (defBody sPatch_told) (defScope sPatch_told) .none kV2 dc2 pm2 an2 cd2 ct2), sl2⟩) (c2 : codeIn K cd2 "Patch.told" = true) (k2 : keepIn K (.ref f2) = true)
    (pg : plainGet K C Str.empty = true) (hd : hasDictIn K C = true) (po : plainOver K C = true) (sa : findIn K (.ref C) "__setattr__" = some (some (.builtin "object.__setattr__"))) (mk : makesIn K C = true) (kc : keepIn K (.ref C) = true)
    (n1 : findIn K (.ref C) "name" = some none) (n2 : findIn K (.ref C) "knows" = some none) (n3 : findIn K (.ref C) "deeds" = some none) (n4 : findIn K (.ref C) "many" = some none) (n5 : findIn K (.ref C) "place" = some none) (n6 : findIn K (.ref C) "known" = some none) (n7 : findIn K (.ref C) "work" = some none) : ClsP K mg C := by
  have F1 := fun_mk (st := sPatch_init) l1 c1 k1
  have F2 := fun_mk (st := sPatch_told) l2 c2 k2
  exact ⟨⟨⟨pg, hd, po, sa⟩, n1, n2, n3, n4, n5, n6, n7⟩, mg_of X G aC, ⟨f1, _, ⟨mk, a1, i1, kc⟩, F1, F1.binds (ps := ["self", "name", "knows", "deeds"]) fun _ _ _ _ _ _ us hl => match us, hl with | [_, _, _, _], _ => rfl⟩,
    ⟨f2, _, ⟨a2, i2, k2⟩, F2, F2.binds (ps := ["self"]) fun _ _ _ _ _ _ us hl => match us, hl with | [_], _ => rfl⟩⟩
theorem law_end {q : Program} {lo : List Str} {mean : ExcName → Option Value} {mg mb : Str → Option Value} {h : Heap} {K : Frag} {l : OpenLaw} {w : World} {fa f C : Addr} (X : K.In h) (T : Top q lo mean mg mb h) (hmg : mg "law" = some (.ref fa))
    (M : Mg K mg) (N : Mp mg) (CP : ClsP K mg C) (hz : nsIn K mainGlobals "zip" = some none) (hs : nsIn K mainGlobals "sorted" = some none) (hse : nsIn K mainGlobals "set" = some none) (D : Defs K mg)
    {oc kV doc pm cdv ct : Value} {od an : Option Addr} {osl : Array (Option Value)} (a : nsIn K mainGlobals "law" = some (some (.ref f)))
    (lL : K.lookup f = some ⟨oc, od, .func (fnOf "law" "law" (defArgs sLaw) (defBody sLaw) (defScope sLaw) .none kV doc pm an cdv ct), osl⟩) (c : codeIn K cdv "law" = true) (k : keepIn K (.ref f) = true)
    (b : ∀ us : List Value, us.length = ["_law_script"].length → bindArgs (fnOf "law" "law" (defArgs sLaw) (defBody sLaw) (defScope sLaw) .none kV doc pm an cdv ct) ⟨us, []⟩ = pure ([("_law_script" : Str)].zip us)) :
    EndAt l w K 13 63 "_law_script" mg fa h := by
  have e := hmg.symm.trans (mg_of X T.g a)
  obtain rfl : fa = f := by
    injection e with z
    injection z
  refine ⟨_, [], spLaw K, ?_, ?_, ?_, fun s u => .of_eq (b [u] rfl), ?_, ?_⟩
  · intro p hp
    cases hp
  · intro p hp
    cases hp
  · intro p hp
    cases hp
  · intro H a' ns hl _ hT hS
    exact ⟨a', ns, rfl, hS, hl, (fun P hP => absurd hP (List.not_mem_nil)), fun _ => rfl⟩
  · intro base hK hns hTB
    exact ok_law (fun_mk lL c k) M (mg_none_of X T.g hz) (cals D M N CP (mg_none_of X T.g hs) (mg_none_of X T.g hz) (mg_none_of X T.g hse))
end K1
open PySem PySem.W PyProof.Rows
set_option Elab.async false
set_option maxRecDepth 100000 in
set_option maxHeartbeats 0 in
theorem PySem.Challenge.cw_manyheads_k03_what_patches_do_holds : PySem.Challenge.rw_manyheads_k03_what_patches_do.Holds := by
  w_on; o_law; k_head; (case hw => w_witness2)
  k_fill
  refine K1.walk_tabs (l := PySem.Challenge.rw_manyheads_k03_what_patches_do) (n := 63) (k := 13) (x := "_law_script") rfl (by decide) rfl ⟨rfl, by decide, by decide⟩ (fun w h Y => PySem.W.kIn_of Y) ?F
  case F =>
    intro w lo mean mg mb fa h X T hmg
    have G := T.g
    have d_triple := by
      refine' K1.def_at (x := "is_triple") (st := K1.sIsTriple) (ps := ["thing"]) X G ?a ?l ?c ?k (fun us hl => match us, hl with | [_], _ => rfl)
      (case a => k_is); (case l => k_is); (case c => k_is); (case k => k_is)
    have d_word := by
      refine' K1.def_at (x := "is_word") (st := K1.sWord) (ps := ["thing"]) X G ?a ?l ?c ?k (fun us hl => match us, hl with | [_], _ => rfl)
      (case a => k_is); (case l => k_is); (case c => k_is); (case k => k_is)
    have d_hand := by
      refine' K1.def_at (x := "is_hand") (st := K1.sHand) (ps := ["thing"]) X G ?a ?l ?c ?k (fun us hl => match us, hl with | [_], _ => rfl)
      (case a => k_is); (case l => k_is); (case c => k_is); (case k => k_is)
    have d_name := by
      refine' K1.def_at (x := "is_name") (st := K1.sName) (ps := ["thing"]) X G ?a ?l ?c ?k (fun us hl => match us, hl with | [_], _ => rfl)
      (case a => k_is); (case l => k_is); (case c => k_is); (case k => k_is)
    have d_put := by
      refine' K1.def_at (x := "is_put_line") (st := K1.sPut) (ps := ["thing"]) X G ?a ?l ?c ?k (fun us hl => match us, hl with | [_], _ => rfl)
      (case a => k_is); (case l => k_is); (case c => k_is); (case k => k_is)
    have d_en := by
      refine' K1.def_at (x := "is_end") (st := K1.sEnd) (ps := ["thing"]) X G ?a ?l ?c ?k (fun us hl => match us, hl with | [_], _ => rfl)
      (case a => k_is); (case l => k_is); (case c => k_is); (case k => k_is)
    have d_canKnow := by
      refine' K1.def_at (x := "can_know") (st := K1.sCanKnow) (ps := ["own", "knows"]) X G ?a ?l ?c ?k (fun us hl => match us, hl with | [_, _], _ => rfl)
      (case a => k_is); (case l => k_is); (case c => k_is); (case k => k_is)
    have d_manyD := by
      refine' K1.def_at (x := "_many_deeds") (st := K1.sManyDeeds) (ps := ["things"]) X G ?a ?l ?c ?k (fun us hl => match us, hl with | [_], _ => rfl)
      (case a => k_is); (case l => k_is); (case c => k_is); (case k => k_is)
    have d_isDeed := by
      refine' K1.def_at (x := "_is_deed") (st := K1.sIsDeed) (ps := ["thing"]) X G ?a ?l ?c ?k (fun us hl => match us, hl with | [_], _ => rfl)
      (case a => k_is); (case l => k_is); (case c => k_is); (case k => k_is)
    have d_canPut := by
      refine' K1.def_at (x := "_can_put") (st := K1.sCanPut) (ps := ["above", "below", "texts"]) X G ?a ?l ?c ?k (fun us hl => match us, hl with | [_, _, _], _ => rfl)
      (case a => k_is); (case l => k_is); (case c => k_is); (case k => k_is)
    have d_manyP := by
      refine' K1.def_at (x := "_many_put") (st := K1.sManyPut) (ps := ["name", "deeds"]) X G ?a ?l ?c ?k (fun us hl => match us, hl with | [_, _], _ => rfl)
      (case a => k_is); (case l => k_is); (case c => k_is); (case k => k_is)
    have d_canDo := by
      refine' K1.def_at (x := "can_do") (st := K1.sCanDo) (ps := ["deed", "own", "many"]) X G ?a ?l ?c ?k (fun us hl => match us, hl with | [_, _, _], _ => rfl)
      (case a => k_is); (case l => k_is); (case c => k_is); (case k => k_is)
    have d_isText := by
      refine' K1.def_at (x := "is_text") (st := K1.sIsText) (ps := ["thing"]) X G ?a ?l ?c ?k (fun us hl => match us, hl with | [_], _ => rfl)
      (case a => k_is); (case l => k_is); (case c => k_is); (case k => k_is)
    have d_lput := by
      refine' K1.def_at (x := "lines_put") (st := K1.sLinesPut) (ps := ["patch"]) X G ?a ?l ?c ?k (fun us hl => match us, hl with | [_], _ => rfl)
      (case a => k_is); (case l => k_is); (case c => k_is); (case k => k_is)
    have d_bindof := by
      refine' K1.def_at (x := "bindings_of") (st := K1.sBindingsOf) (ps := ["patch"]) X G ?a ?l ?c ?k (fun us hl => match us, hl with | [_], _ => rfl)
      (case a => k_is); (case l => k_is); (case c => k_is); (case k => k_is)
    have d_bindin := by
      refine' K1.def_at (x := "bindings_in") (st := K1.sBindingsIn) (ps := ["name", "deeds"]) X G ?a ?l ?c ?k (fun us hl => match us, hl with | [_, _], _ => rfl)
      (case a => k_is); (case l => k_is); (case c => k_is); (case k => k_is)
    have d_marksin := by
      refine' K1.def_at (x := "marks_in") (st := K1.sMarksIn) (ps := ["patch"]) X G ?a ?l ?c ?k (fun us hl => match us, hl with | [_], _ => rfl)
      (case a => k_is); (case l => k_is); (case c => k_is); (case k => k_is)
    have d_marksby := by
      refine' K1.def_at (x := "marks_by") (st := K1.sMarksBy) (ps := ["name", "deeds"]) X G ?a ?l ?c ?k (fun us hl => match us, hl with | [_, _], _ => rfl)
      (case a => k_is); (case l => k_is); (case c => k_is); (case k => k_is)
    have d_named := by
      refine' K1.def_at (x := "lines_named") (st := K1.sLinesNamed) (ps := ["deed"]) X G ?a ?l ?c ?k (fun us hl => match us, hl with | [_], _ => rfl)
      (case a => k_is); (case l => k_is); (case c => k_is); (case k => k_is)
    have d_mixed := by
      refine' K1.def_at (x := "_law_mixed") (st := K1.sMixed) (ps := ["_law_cell", "_law_k"]) X G ?a ?l ?c ?k (fun us hl => match us, hl with | [_, _], _ => rfl)
      (case a => k_is); (case l => k_is); (case c => k_is); (case k => k_is)
    have d_draw := by
      refine' K1.def_at (x := "_law_draw") (st := K1.sDraw) (ps := ["_law_cell", "_law_k"]) X G ?a ?l ?c ?k (fun us hl => match us, hl with | [_, _], _ => rfl)
      (case a => k_is); (case l => k_is); (case c => k_is); (case k => k_is)
    have d_digit := by
      refine' K1.def_at (x := "_law_digit") (st := K1.sDigit) (ps := ["_law_state", "_law_many"]) X G ?a ?l ?c ?k (fun us hl => match us, hl with | [_, _], _ => rfl)
      (case a => k_is); (case l => k_is); (case c => k_is); (case k => k_is)
    have d_llines := by
      refine' K1.def_at (x := "_law_lines") (st := K1.sLLines) (ps := ["_law_history_here", "_law_names"]) X G ?a ?l ?c ?k (fun us hl => match us, hl with | [_, _], _ => rfl)
      (case a => k_is); (case l => k_is); (case c => k_is); (case k => k_is)
    have d_lknown := by
      refine' K1.def_at (x := "_law_known") (st := K1.sLKnown) (ps := ["_law_history_here", "_law_knows"]) X G ?a ?l ?c ?k (fun us hl => match us, hl with | [_, _], _ => rfl)
      (case a => k_is); (case l => k_is); (case c => k_is); (case k => k_is)
    have d_ldeed := by
      refine' K1.def_at (x := "_law_deed") (st := K1.sLDeed) (ps := ["_law_state", "_law_goods"]) X G ?a ?l ?c ?k (fun us hl => match us, hl with | [_, _], _ => rfl)
      (case a => k_is); (case l => k_is); (case c => k_is); (case k => k_is)
    have d_lpatch := by
      refine' K1.def_at (x := "_law_patch") (st := K1.sLPatch) (ps := ["_law_history_here", "_law_state"]) X G ?a ?l ?c ?k (fun us hl => match us, hl with | [_, _], _ => rfl)
      (case a => k_is); (case l => k_is); (case c => k_is); (case k => k_is)
    have d_lhist := by
      refine' K1.def_at (x := "_law_history") (st := K1.sLHist) (ps := ["_law_script", "_law_most"]) X G ?a ?l ?c ?k (fun us hl => match us, hl with | [_, _], _ => rfl)
      (case a => k_is); (case l => k_is); (case c => k_is); (case k => k_is)
    have d_lputs := by
      refine' K1.def_at (x := "_law_puts") (st := K1.sLPuts) (ps := ["_law_name", "_law_deeds"]) X G ?a ?l ?c ?k (fun us hl => match us, hl with | [_, _], _ => rfl)
      (case a => k_is); (case l => k_is); (case c => k_is); (case k => k_is)
    have d_lbound := by
      refine' K1.def_at (x := "_law_bound") (st := K1.sLBound) (ps := ["_law_deed_here", "_law_fresh"]) X G ?a ?l ?c ?k (fun us hl => match us, hl with | [_, _], _ => rfl)
      (case a => k_is); (case l => k_is); (case c => k_is); (case k => k_is)
    have d_lmarks := by
      refine' K1.def_at (x := "_law_marks") (st := K1.sLMarks) (ps := ["_law_name", "_law_deeds"]) X G ?a ?l ?c ?k (fun us hl => match us, hl with | [_, _], _ => rfl)
      (case a => k_is); (case l => k_is); (case c => k_is); (case k => k_is)
    have d_lsame := by
      refine' K1.def_at (x := "_law_same") (st := K1.sLSame) (ps := ["_law_told", "_law_due"]) X G ?a ?l ?c ?k (fun us hl => match us, hl with | [_, _], _ => rfl)
      (case a => k_is); (case l => k_is); (case c => k_is); (case k => k_is)
    have mH := by
      refine' K1.const_at (x := "HEAD") (xs := [.str "", .int 0, .int 0]) X G ?a ?l ?c ?d ?z ?v
      (case a => k_is); (case l => k_is); (case c => rfl); (case d => rfl); (case z => decide)
      (case v => exact .cons ⟨_, rfl⟩ (.cons ⟨_, rfl⟩ (.cons ⟨_, rfl⟩ .nil)))
    have mF := by
      refine' K1.const_at (x := "FOOT") (xs := [.str "", .int 0, .int 1]) X G ?a2 ?l2 ?c2 ?d2 ?z2 ?v2
      (case a2 => k_is); (case l2 => k_is); (case c2 => rfl); (case d2 => rfl); (case z2 => decide)
      (case v2 => exact .cons ⟨_, rfl⟩ (.cons ⟨_, rfl⟩ (.cons ⟨_, rfl⟩ .nil)))
    have M := by
      refine' K1.mg_at X G ?m1 ?m2 ?m3 ?m4 ?m5 ?m6 ?m7 ?m8 ?m9 ?m10 ?m11 ?m12 ?h1 ?m13 ?h2 mH mF
      (case m1 => k_is); (case m2 => k_is); (case m3 => k_is); (case m4 => k_is); (case m5 => k_is); (case m6 => k_is); (case m7 => k_is); (case m8 => k_is); (case m9 => k_is); (case m10 => k_is); (case m11 => k_is); (case m12 => k_is); (case m13 => k_is)
      (case h1 => rfl); (case h2 => rfl)
    have N := by
      refine' K1.mp_at X G ?m1 ?h1 ?m2 ?h2 ?m3 ?h3
      (case m1 => k_is); (case m2 => k_is); (case m3 => k_is); (case h1 => rfl); (case h2 => rfl); (case h3 => rfl)
    have CP := by
      refine' K1.cls_at X G ?aC ?a1 ?i1 ?l1 ?c1 ?k1 ?a2 ?i2 ?l2 ?c2 ?k2 ?pg ?hd ?po ?sa ?mk ?kc ?n1 ?n2 ?n3 ?n4 ?n5 ?n6 ?n7
      (case aC => k_is); (case a1 => k_is); (case i1 => k_is); (case l1 => k_is); (case c1 => k_is); (case k1 => k_is); (case a2 => k_is); (case i2 => k_is); (case l2 => k_is); (case c2 => k_is); (case k2 => k_is)
      (case pg => k_is); (case hd => k_is); (case po => k_is); (case sa => k_is); (case mk => k_is); (case kc => k_is); (case n1 => k_is); (case n2 => k_is); (case n3 => k_is); (case n4 => k_is); (case n5 => k_is); (case n6 => k_is); (case n7 => k_is)
    have hmg' : mg "law" = some (.ref fa) := hmg
    refine' K1.law_end X T hmg' M N CP ?hz ?hs ?hse ⟨d_triple, d_word, d_hand, d_name, d_put, d_en, d_canKnow, d_manyD, d_isDeed, d_canPut, d_manyP, d_canDo, d_isText, d_lput, d_bindof, d_bindin, d_marksin, d_marksby, d_named, d_mixed, d_draw, d_digit, d_llines, d_lknown, d_ldeed, d_lpatch, d_lhist, d_lputs, d_lbound, d_lmarks, d_lsame⟩ ?a ?l ?c ?k (fun us hl => match us, hl with | [_], _ => rfl)
    (case hz => k_is); (case hs => k_is); (case hse => k_is); (case a => k_is); (case l => k_is); (case c => k_is); (case k => k_is)
