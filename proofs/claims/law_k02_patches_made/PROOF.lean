import PyProof.Rows.All
import Wide.All
import OpenK.AllK
import Wide.FinOn
import PySem.Challenge.RW_manyheads_k02_patches_made
import HandS.Words
import HandS.WordsList
import HandS.WordsDict
import HandS.AnyAll
import HandS.Text
import HandS.StrMore
import HandS.IsInst
import HandS.ForMost
import HandS.FStr
import HandS.TupLe
import HandS.ExcInit
import HandS.ClsMeth
import KE.IntTextLaws
import KE.IntTextText
import PyProof.Rows.StrIntSpec
import HandS.Small
import HandS.Deep
import HandS.TupAny
import HandS.ExcValue
import KE.DataCmp
import KE.SortData
import HandS.Walk
import HandS.Style
import PyProof.Rows.SeqMore
import HandS.Star
import HandS.Flow
import PyProof.StrBlockL
import KE.GoesEnumKw
import KE.GoesMore
import HandS.WordsExc
import HandS.ExcField
import KE.KExcIs
import KE.GoesEnum
import HandS.TupMul
import PyProof.StrOps2
import HandS.EndTab
import HandS.More
import KE.KNest
set_option Elab.async false
set_option linter.all false
set_option maxRecDepth 100000
/-! The text of the row: the defs by their places, and their local names. -/
namespace K1
open PySem PySem.Spec PyProof.Rows L2
def topS (i : Nat) : Stmt := PySem.Challenge.pw_manyheads_k02_patches_made.main.body.getD i (.Pass ⟨0, 0, 0, 0⟩)
def clsS (i j : Nat) : Stmt := match topS i with
  | .ClassDef _ _ _ b .. => b.getD j (.Pass ⟨0, 0, 0, 0⟩)
  | _ => .Pass ⟨0, 0, 0, 0⟩
abbrev sBadRow_init : Stmt := clsS 2 0
abbrev sBadPatch_init : Stmt := clsS 3 0
abbrev sNotClosed_init : Stmt := clsS 4 0
abbrev sUnlike_init : Stmt := clsS 5 0
abbrev sHindered_init : Stmt := clsS 6 0
abbrev sBadPaper_init : Stmt := clsS 7 0
abbrev sBadPack_init : Stmt := clsS 8 0
abbrev sWord : Stmt := topS 17
abbrev sHand : Stmt := topS 18
abbrev sIsTriple : Stmt := topS 19
abbrev sName : Stmt := topS 20
abbrev sPut : Stmt := topS 21
abbrev sEnd : Stmt := topS 22
abbrev sPatch_init : Stmt := clsS 27 0
abbrev sPatch_told : Stmt := clsS 27 1
abbrev sCanKnow : Stmt := topS 28
abbrev sManyDeeds : Stmt := topS 29
abbrev sIsDeed : Stmt := topS 30
abbrev sCanPut : Stmt := topS 31
abbrev sManyPut : Stmt := topS 32
abbrev sCanDo : Stmt := topS 33
abbrev sIsText : Stmt := topS 34
abbrev sMixed : Stmt := topS 36
abbrev sLKinds : Stmt := topS 37
abbrev sDraw : Stmt := topS 38
abbrev sDigit : Stmt := topS 39
abbrev sLLines : Stmt := topS 40
abbrev sLKnown : Stmt := topS 41
abbrev sLDeed : Stmt := topS 42
abbrev sLPatch : Stmt := topS 43
abbrev sLHist : Stmt := topS 44
abbrev sLRefused : Stmt := topS 45
abbrev sLBadDeed : Stmt := topS 46
abbrev sLHeadsRefused : Stmt := topS 47
abbrev sLByHand : Stmt := topS 48
abbrev sLTold : Stmt := topS 49
abbrev sLaw : Stmt := topS 50
theorem scBadRow_init : FnScope ["self", "row", "word"] ["self", "row", "word"] (defScope sBadRow_init) := ⟨rfl, rfl, rfl, by decide +kernel, rfl, by decide +kernel, by decide +kernel⟩
theorem scBadPatch_init : FnScope ["self", "deed"] ["self", "deed"] (defScope sBadPatch_init) := ⟨rfl, rfl, rfl, by decide +kernel, rfl, by decide +kernel, by decide +kernel⟩
theorem scNotClosed_init : FnScope ["self", "lacking"] ["self", "lacking"] (defScope sNotClosed_init) := ⟨rfl, rfl, rfl, by decide +kernel, rfl, by decide +kernel, by decide +kernel⟩
theorem scUnlike_init : FnScope ["self", "name"] ["self", "name"] (defScope sUnlike_init) := ⟨rfl, rfl, rfl, by decide +kernel, rfl, by decide +kernel, by decide +kernel⟩
theorem scHindered_init : FnScope ["self", "knowing"] ["self", "knowing"] (defScope sHindered_init) := ⟨rfl, rfl, rfl, by decide +kernel, rfl, by decide +kernel, by decide +kernel⟩
theorem scBadPaper_init : FnScope ["self", "step"] ["self", "step"] (defScope sBadPaper_init) := ⟨rfl, rfl, rfl, by decide +kernel, rfl, by decide +kernel, by decide +kernel⟩
theorem scBadPack_init : FnScope ["self", "row"] ["self", "row"] (defScope sBadPack_init) := ⟨rfl, rfl, rfl, by decide +kernel, rfl, by decide +kernel, by decide +kernel⟩
theorem scWord : FnScope ["thing"] ["thing"] (defScope sWord) := ⟨rfl, rfl, rfl, by decide +kernel, rfl, by decide +kernel, by decide +kernel⟩
theorem scHand : FnScope ["thing"] ["thing"] (defScope sHand) := ⟨rfl, rfl, rfl, by decide +kernel, rfl, by decide +kernel, by decide +kernel⟩
theorem scIsTriple : FnScope ["thing", "hand", "number", "place"] ["thing"] (defScope sIsTriple) := ⟨rfl, rfl, rfl, by decide +kernel, rfl, by decide +kernel, by decide +kernel⟩
theorem scName : FnScope ["thing", "hand", "number"] ["thing"] (defScope sName) := ⟨rfl, rfl, rfl, by decide +kernel, rfl, by decide +kernel, by decide +kernel⟩
theorem scPut : FnScope ["thing", "hand", "number", "place"] ["thing"] (defScope sPut) := ⟨rfl, rfl, rfl, by decide +kernel, rfl, by decide +kernel, by decide +kernel⟩
theorem scEnd : FnScope ["thing"] ["thing"] (defScope sEnd) := ⟨rfl, rfl, rfl, by decide +kernel, rfl, by decide +kernel, by decide +kernel⟩
theorem scPatch_init : FnScope ["self", "name", "knows", "deeds", "good"] ["self", "name", "knows", "deeds"] (defScope sPatch_init) := ⟨rfl, rfl, rfl, by decide +kernel, rfl, by decide +kernel, by decide +kernel⟩
theorem scPatch_told : FnScope ["self"] ["self"] (defScope sPatch_told) := ⟨rfl, rfl, rfl, by decide +kernel, rfl, by decide +kernel, by decide +kernel⟩
theorem scCanKnow : FnScope ["own", "knows", "before", "name"] ["own", "knows"] (defScope sCanKnow) := ⟨rfl, rfl, rfl, by decide +kernel, rfl, by decide +kernel, by decide +kernel⟩
theorem scManyDeeds : FnScope ["things", "at", "thing"] ["things"] (defScope sManyDeeds) := ⟨rfl, rfl, rfl, by decide +kernel, rfl, by decide +kernel, by decide +kernel⟩
theorem scIsDeed : FnScope ["thing"] ["thing"] (defScope sIsDeed) := ⟨rfl, rfl, rfl, by decide +kernel, rfl, by decide +kernel, by decide +kernel⟩
theorem scCanPut : FnScope ["above", "below", "texts", "text"] ["above", "below", "texts"] (defScope sCanPut) := ⟨rfl, rfl, rfl, by decide +kernel, rfl, by decide +kernel, by decide +kernel⟩
theorem scManyPut : FnScope ["name", "deeds", "many", "at", "deed"] ["name", "deeds"] (defScope sManyPut) := ⟨rfl, rfl, rfl, by decide +kernel, rfl, by decide +kernel, by decide +kernel⟩
theorem scCanDo : FnScope ["deed", "own", "many", "one", "other"] ["deed", "own", "many"] (defScope sCanDo) := ⟨rfl, rfl, rfl, by decide +kernel, rfl, by decide +kernel, by decide +kernel⟩
theorem scIsText : FnScope ["thing"] ["thing"] (defScope sIsText) := ⟨rfl, rfl, rfl, by decide +kernel, rfl, by decide +kernel, by decide +kernel⟩
theorem scMixed : FnScope ["_law_cell", "_law_k"] ["_law_cell", "_law_k"] (defScope sMixed) := ⟨rfl, rfl, rfl, by decide +kernel, rfl, by decide +kernel, by decide +kernel⟩
theorem scLKinds : FnScope ["_law_error", "_law_kinds_here", "_law_name", "_law_fits"] ["_law_error"] (defScope sLKinds) := ⟨rfl, rfl, rfl, by decide +kernel, rfl, by decide +kernel, by decide +kernel⟩
theorem scDraw : FnScope ["_law_cell", "_law_k", "_law_first", "_law_more"] ["_law_cell", "_law_k"] (defScope sDraw) := ⟨rfl, rfl, rfl, by decide +kernel, rfl, by decide +kernel, by decide +kernel⟩
theorem scDigit : FnScope ["_law_state", "_law_many", "_law_found"] ["_law_state", "_law_many"] (defScope sDigit) := ⟨rfl, rfl, rfl, by decide +kernel, rfl, by decide +kernel, by decide +kernel⟩
theorem scLLines : FnScope ["_law_history_here", "_law_names", "_law_found", "_law_name", "_law_knows", "_law_deeds", "_law_texts", "_law_deed_here", "_law_k", "_law_text"] ["_law_history_here", "_law_names"] (defScope sLLines) := ⟨rfl, rfl, rfl, by decide +kernel, rfl, by decide +kernel, by decide +kernel⟩
theorem scLKnown : FnScope ["_law_history_here", "_law_knows", "_law_found", "_law_name", "_law_own", "_law_deeds", "_law_one"] ["_law_history_here", "_law_knows"] (defScope sLKnown) := ⟨rfl, rfl, rfl, by decide +kernel, rfl, by decide +kernel, by decide +kernel⟩
theorem scLDeed : FnScope ["_law_state", "_law_goods", "_law_kind", "_law_above", "_law_below", "_law_k", "_law_texts", "_law_one", "_law_line", "_law_others"] ["_law_state", "_law_goods"] (defScope sLDeed) := ⟨rfl, rfl, rfl, by decide +kernel, rfl, by decide +kernel, by decide +kernel⟩
theorem scLPatch : FnScope ["_law_history_here", "_law_state", "_law_hand", "_law_one", "_law_knows", "_law_deeds", "_law_name", "_law_own", "_law_line", "_law_text", "_law_goods", "_law_many", "_law_k", "_law_deed_here", "_law_j"] ["_law_history_here", "_law_state"] (defScope sLPatch) := ⟨rfl, rfl, rfl, by decide +kernel, rfl, by decide +kernel, by decide +kernel⟩
theorem scLHist : FnScope ["_law_script", "_law_most", "_law_history_here", "_law_k", "_law_cell"] ["_law_script", "_law_most"] (defScope sLHist) := ⟨rfl, rfl, rfl, by decide +kernel, rfl, by decide +kernel, by decide +kernel⟩
theorem scLRefused : FnScope ["_law_name", "_law_knows", "_law_deeds", "_law_wrong", "e"] ["_law_name", "_law_knows", "_law_deeds"] (defScope sLRefused) := ⟨rfl, rfl, rfl, by decide +kernel, rfl, by decide +kernel, by decide +kernel⟩
theorem scLBadDeed : FnScope ["_law_state", "_law_name", "_law_many", "_law_line", "_law_late", "_law_some"] ["_law_state", "_law_name", "_law_many"] (defScope sLBadDeed) := ⟨rfl, rfl, rfl, by decide +kernel, rfl, by decide +kernel, by decide +kernel⟩
theorem scLHeadsRefused : FnScope ["_law_state", "_law_name", "_law_knows", "_law_deeds", "_law_odd", "_law_others", "_law_other", "_law_rest"] ["_law_state", "_law_name", "_law_knows", "_law_deeds"] (defScope sLHeadsRefused) := ⟨rfl, rfl, rfl, by decide +kernel, rfl, by decide +kernel, by decide +kernel⟩
theorem scLByHand : FnScope ["_law_number", "_law_made", "_law_names", "_law_error", "_law_name"] ["_law_number"] (defScope sLByHand) := ⟨rfl, rfl, rfl, by decide +kernel, rfl, by decide +kernel, by decide +kernel⟩
theorem scLTold : FnScope ["_law_patch_here", "_law_due", "_law_turn", "_law_told_here"] ["_law_patch_here", "_law_due"] (defScope sLTold) := ⟨rfl, rfl, rfl, by decide +kernel, rfl, by decide +kernel, by decide +kernel⟩
theorem scLaw : FnScope ["_law_script", "_law_k", "_law_name", "_law_knows", "_law_deeds", "_law_handed", "_law_patch_here", "_law_state", "_law_at", "_law_deed_here", "_law_many", "_law_bad"] ["_law_script"] (defScope sLaw) := ⟨rfl, rfl, rfl, by decide +kernel, rfl, by decide +kernel, by decide +kernel⟩
end K1
set_option Elab.async false
set_option linter.all false
set_option maxRecDepth 100000
set_option maxHeartbeats 400000
/-! all(t for c in a text), where t reads a name of the module. -/
namespace K1
open PySem PySem.Spec PyProof.Rows L2

/-- a test of one sign, which may read the module's names -/
def SignTest (prog : Program) (w : World) (mg : Str → Option Value) (sc : Scope) (x : Str) (e : Expr) (p : Nat → Bool) : Prop :=
  ∀ (ge : Env) (B : Around) (F : Value → Shared → Prop) (c : Nat) (tk : Tok) (z : Shared) (lm : Str → Option Value),
    ge.scope = sc → ge.globals = mainGlobals → z.heap.Ns mainGlobals mg → z.heap.Ns ge.locals lm → lm x = some (.str ⟨#[c]⟩ tk) →
    wpAny (model prog w) B (eval e ge) (fun r z' => r = .bool (p c) ∧ Keeps z z') F z

/-- c in NAME, NAME a text of the module -/
theorem sign_in {prog : Program} {w : World} {mg : Str → Option Value} {sc : Scope} {x n : Str} {txt : Str} {tt : Tok} {q1 q2 q3 : Pos}
    (fk : sc.kind = .function) (lx : sc.names.lookup x = some .local) (ln : sc.names.lookup n = some .globalImplicit) (vn : mg n = some (.str txt tt))
    (dx : (x == ("__debug__" : Str)) = false) (dn : (n == ("__debug__" : Str)) = false) :
    SignTest prog w mg sc x (.Compare (.Name x q1) [.In] [.Name n q2] q3) (fun c => decide (c ∈ txt.cps.toList)) := by
  intro ge B F c tk z lm es eg hg hl hx
  have k1 : ge.scope.kind = .function := es ▸ fk
  have k2 : ge.kindOf x = some .local := by
    show ge.scope.names.lookup x = some .local
    rw [es]
    exact lx
  have k3 : ge.kindOf n = some .globalImplicit := by
    show ge.scope.names.lookup n = some .globalImplicit
    rw [es]
    exact ln
  refine wpAny_Compare1 ?_
  refine wpAny_Name ?_ dx
  refine wpAny_loadName_local k1 k2 hl hx ?_
  refine Calls.Name_function_global k1 k3 ?_ dn
  refine Calls.loadGlobal_global (mg := mg) (eg ▸ hg) vn ?_
  apply PyProof.Rows.in_str
  exact ⟨congrArg Value.bool (PySem.StrLaws.found_one txt c), GxR.keeps_refl _⟩

section
variable {X : Cx} {pins : List (Addr × Obj)} {σ : L2.St} {H : Hp} {s : Shared}

/-- what is known where the generator's code has been looked up: h3 is the heap s1.heap with the iterator o, the table at P longer -/
structure Mid (X : Cx) (s1 : Shared) (o : Obj) (P : Addr) (ps ps' : Array Value) (h3 : Heap) : Prop where
  ext : Heap.ExtBut P (s1.heap.push o) h3
  size : (s1.heap.push o).objs.size ≤ h3.objs.size
  tab : h3.get? P = some { cls := .none, data := .fields ps' }
  more : ∃ m, ps' = ps ++ m
  ok : TriplesOk ps'.toList

theorem gen_mid {cd P : Addr} {e it : Expr} {x : Str} {px gp : Pos} {sc : Scope} {p : Nat → Bool} {k : Nat} {Q' : Value → Shared → Prop} {a : Str} {H1 : Hp} {s1 : Shared} {o : Obj} {St : Nat → Heap → Prop} {ps ps' : Array Value} {h3 : Heap} {tk : Nat} {code : Value}
    (hr : Room k X.A) (TB : GxR.TabB X.base X.mg cd P) (hel : SignTest X.prog X.w X.mg sc x e p)
    (J : Inv X pins σ H1 s1) (hP : H1 P = some (.tbl ps)) (M : Mid X s1 o P ps ps' h3)
    (wk : ∀ A' : Around, A'.handled = none → Walks X.prog X.w A' s1.heap.objs.size [s1.heap.objs.size] [s1.heap.objs.size] a.cps.size (SignAt a) St) (st : St 0 (s1.heap.push o))
    (hQ : ∀ g s5, GxR.Ready X pins σ H1 P a p g s5 → Q' (.ref g) s5) :
    wpAny (model X.prog X.w) X.A (builtinsFor X.env.globals X.env.builtins) (fun bi s₄ =>
        ∃ I fp wr n₀ Pf St₀ pz F, Value.ref s1.heap.objs.size = .ref I ∧ (∀ A' : Around, A'.handled = none → Walks X.prog X.w A' I fp wr n₀ Pf St₀) ∧ St₀ 0 s₄.heap ∧
          (∀ b ∈ fp, b < s₄.heap.objs.size) ∧ s₄.heap.NoLimit ∧ cStatics ∉ wr ∧
          (∀ href : Heap, (∀ b o, s₄.heap.get? b = some o → href.get? b = some o) →
            QuietGen X.prog X.w (genEnv sc (cloFrom X.env.cells sc.names []) s₄.heap.objs.size code bi X.env) x [] e
              (List.range s₄.heap.objs.size) wr Pf pz F href) ∧
          (∀ a h₅ tk gs, gs.bare = true → s₄.heap.objs.size < a → h₅.objs.size = a + 1 → (∀ b o, s₄.heap.get? b = some o → h₅.get? b = some o) →
            WalksS X.prog X.w X.A.in4 a (a :: s₄.heap.objs.size :: List.range s₄.heap.objs.size) (s₄.heap.objs.size :: wr) (GenOnlyQ s₄.gens.size)
              (passing pz n₀ 0).length (fun j y => ∃ i, (passing pz n₀ 0)[j]? = some i ∧ F i y)
              (GenAt X.prog X.w X.A.in4 a s₄.gens.size s₄.heap.objs.size (List.range s₄.heap.objs.size) wr pz n₀ F) →
            GenAt X.prog X.w X.A.in4 a s₄.gens.size s₄.heap.objs.size (List.range s₄.heap.objs.size) wr pz n₀ F 0
              { s₄ with gens := s₄.gens.push gs, toks := tk, heap := h₅ } →
            Q' (.ref a) { s₄ with gens := s₄.gens.push gs, toks := tk, heap := h₅ })) X.xe { s1 with heap := h3, toks := tk } := by
  have pAt : s1.heap.get? P = some { cls := .none, data := .fields ps } := J.hok P _ hP
  have pLt : P < s1.heap.objs.size := Heap.lt_size pAt
  have up : (s1.heap.push o).objs.size = s1.heap.objs.size + 1 := Heap.size_push ..
  have carry : ∀ b u, b ≠ P → s1.heap.get? b = some u → h3.get? b = some u := by
    intro b u hb e
    exact M.ext b u hb (Heap.get?_push_of_some _ e)
  have lim1 := J.nolimit
  have stP : cStatics ≠ P := by
    rintro rfl
    obtain ⟨_, ⟨o', es, ep, h1, h2, _⟩, _⟩ := lim1
    rw [pAt] at h1
    cases h1
    cases h2
  have stLt : cStatics < s1.heap.objs.size := by
    obtain ⟨_, hns, _⟩ := lim1
    exact hns.lt
  have glob1 : s1.heap.Ns mainGlobals X.mg := J.mod.glob.keeps J.bk
  have glob3 : h3.Ns mainGlobals X.mg := (glob1.push o).extBut M.ext TB.gP
  have gm : X.env.globals = mainGlobals := J.ok.glob
  obtain ⟨bm, ob, e1, e2, _, e4, e5, e6, e7, e8⟩ := TB.bm
  refine wpAny_builtinsFor (m := X.mg) (by rw [gm]; exact glob3) e1 e2 (carry _ _ e4 (J.bk _ _ e5)) e6 e7 e8 ?_
  have newLt : s1.heap.objs.size < h3.objs.size := Nat.lt_of_lt_of_le (by rw [up]; exact Nat.lt_succ_self _) M.size
  refine ⟨_, _, _, _, SignAt a, St, (fun _ => true), (fun i y => ∃ c, a.cps[i]? = some c ∧ y = .bool (p c)), rfl, wk, ?_, ?_, ?_, ?_, ?_, ?_⟩
  · -- the text's iterator stands
    refine (wk X.A hr.hd).frame _ _ _ st ?_
    intro b hb u e
    obtain rfl : b = s1.heap.objs.size := by simpa using hb
    exact M.ext _ u (Nat.ne_of_gt pLt) e
  · intro b hb
    obtain rfl : b = s1.heap.objs.size := by simpa using hb
    exact newLt
  · exact (lim1.push o).extBut M.ext stP
  · intro hb
    have : cStatics = s1.heap.objs.size := by simpa using hb
    exact absurd this (Nat.ne_of_lt stLt)
  · -- the generator's element
    intro href hh
    constructor
    · intro A' E' i v s₂ m₂ _ _ _ _ _
      simp only [List.forIn_nil]
      exact wpAny_pure ⟨rfl, GxR.keeps_refl _⟩
    · intro A' E' i v s₂ m₂ _ hv _ hn hm hk
      obtain ⟨c, u, hc, rfl⟩ := hv
      have g2 : s₂.heap.Ns mainGlobals X.mg := by
        refine glob3.at' fun ob' eo => ?_
        refine hk mainGlobals (List.mem_range.mpr (Heap.lt_size eo)) ?_ ob' (hh _ _ eo)
        intro hb
        have q1 : mainGlobals = s1.heap.objs.size := by simpa using hb
        exact absurd q1 (Nat.ne_of_lt glob1.lt)
      refine wpAny_mono (hel _ A' E' c u s₂ m₂ rfl gm g2 hn hm) ?_ (fun _ _ z => z)
      rintro y s3 ⟨ey, ek⟩
      exact ⟨⟨c, hc, ey⟩, ek⟩
  · -- the generator as it is handed on
    intro g h5 tk5 gs bare hag sz5 keep5 W hat
    simp only [GxR.passing_true, List.length_range] at W
    refine hQ g _ ⟨_, _, _, _, _, W.in4_1, hat, ?_, ?_⟩
    · rintro j y sj Qj Ej ⟨i, hij, c, hc, rfl⟩ hq
      have hi : i = j := by
        obtain ⟨hj, ej⟩ := List.getElem?_eq_some_iff.mp hij
        simpa using ej.symm
      subst hi
      have hc' : a.cps.toList[i]? = some c := by simpa using hc
      have et : GxR.trF p a.cps.toList i = p c := GxR.trF_some hc'
      rw [et] at hq
      exact wpAny_truthy_bool hq
    · intro s' mv
      obtain ⟨m, rfl⟩ := M.more
      have old : ∀ b u, s1.heap.get? b = some u → ¬ b ∈ h3.objs.size :: [s1.heap.objs.size] := by
        intro b u e hb
        have lt := Heap.lt_size e
        have hb' : b = h3.objs.size ∨ b = s1.heap.objs.size := by simpa using hb
        rcases hb' with rfl | rfl
        · exact Nat.lt_irrefl _ (Nat.lt_trans lt newLt)
        · exact Nat.lt_irrefl _ lt
      have nI := GxR.inv_tab (more := m) (h' := s'.heap) (g' := s'.gens) (d' := s'.drawn) (t' := s'.toks) J hP
        (fun b u hb e => mv.heap b u (old b u e) (keep5 b u (carry b u hb e))) (mv.heap P _ (old P _ pAt) (keep5 P _ M.tab))
        (AllBare.movedS (J.bare.push bare) mv)
      rw [GxR.sh_eta s1 s' mv.os] at nI
      exact ⟨_, ⟨⟨_, upd_same, M.ok⟩, fun b hb => upd_ne hb⟩, nI⟩

theorem gen_text {cd P : Addr} {e it : Expr} {x : Str} {px gp : Pos} {sc : Scope} {p : Nat → Bool} {te : TE} {k : Nat} {Q' : Value → Shared → Prop} {R : Str → Hp → Prop}
    (hr : Room k X.A) (TB : GxR.TabB X.base X.mg cd P) (hcode : X.env.code = .ref cd) (S : GxR.GenS X.env sc x) (hi : PE X it te) (hel : SignTest X.prog X.w X.mg sc x e p)
    (hf : ∀ v, genFold it X.env v = pure v) (I : Inv X pins σ H s) (h : te σ H fun v H1 => ∃ a : Str, v = .str a ∧ GxR.TabG H1 P ∧ R a H1)
    (hQ : ∀ a H1 g s5, R a H1 → GxR.Ready X pins σ H1 P a p g s5 → Q' (.ref g) s5) :
    wpAny (model X.prog X.w) X.A (eval (.GeneratorExp e [⟨.Name x px, it, [], 0⟩] sc gp) X.env) Q' X.xe s := by
  have dl := hr.dp
  refine wpAny_GeneratorExp_walksQ hr.hd S.co (closure_ok S.free) S.cell S.dot S.loc S.kind (by omega) ?_ hf
  refine thn (hi.run pins s σ H _ I h) ?_
  rintro u s1 ⟨v, H1, J, ru, a, rfl, ⟨ps, hP, tok⟩, hR⟩
  obtain ⟨t, rfl⟩ := _root_.id ru
  apply wpAny_pyIter_str
  intro o St wk st
  have pAt : s1.heap.get? P = some { cls := .none, data := .fields ps } := J.hok P _ hP
  have pAt2 : (s1.heap.push o).get? P = some { cls := .none, data := .fields ps } := Heap.get?_push_of_some _ pAt
  have cAt : PySem.W.CodeHd (s1.heap.push o) cd P := TB.code.keeps fun b u e => Heap.get?_push_of_some _ (J.bk b u e)
  refine ⟨J.nolimit.push o, ?_⟩
  rcases hca : codeAmong gp ps.toList with _ | cv
  · refine wpAny_genexprCodeX hcode (cAt.code pAt2 tok) (cAt.tab pAt2) hca ?_
    intro c' h' tk hx hge hlt hco _ htab _
    have htr : TriplesOk (ps ++ #[rawInt gp.line, rawInt gp.col, .ref c']).toList := by
      obtain ⟨_, _, _, _, _, _, _, _, _, _, _, _, _, _, _, _, _, _, _, q, _⟩ := hco
      exact q
    exact gen_mid (it := it) (px := px) (gp := gp) hr TB hel J hP ⟨hx, Nat.le_trans hge (Nat.le_of_lt hlt), htab.2, ⟨_, rfl⟩, htr⟩ wk st fun g s5 => hQ a H1 g s5 hR
  · refine wpAny_genexprCode_hit hcode (cAt.code pAt2 tok) hca ?_
    exact gen_mid (it := it) (px := px) (gp := gp) hr TB hel J hP ⟨Heap.ExtBut.refl _ _, Nat.le_refl _, pAt2, ⟨#[], by simp⟩, tok⟩ wk st fun g s5 => hQ a H1 g s5 hR

theorem pe_allT {cd P : Addr} {e it : Expr} {x : Str} {px pa pos gp : Pos} {sc : Scope} {p : Nat → Bool} {te : TE} {k : Nat}
    (hr : Room k X.A) (hg : Gl X "all") (hm : X.mg "all" = none) (TB : GxR.TabB X.base X.mg cd P) (hcode : X.env.code = .ref cd) (S : GxR.GenS X.env sc x) (hi : PE X it te)
    (hel : SignTest X.prog X.w X.mg sc x e p) (hf : ∀ v, genFold it X.env v = pure v) (hb : bootBuiltins "all" = some (.builtin "all") := by decide +kernel)
    (he : starEach [.GeneratorExp e [⟨.Name x px, it, [], 0⟩] sc gp] X.env = (false, eval (.GeneratorExp e [⟨.Name x px, it, [], 0⟩] sc gp) X.env) :: starEach [] X.env := by rfl) :
    PE X (.Call (.Name "all" pa) [.GeneratorExp e [⟨.Name x px, it, [], 0⟩] sc gp] [] pos) (GxR.tAllS P p te) := by
  constructor
  intro pins s σ H Q I h
  apply wpAny_Call_Name_kw
  refine ld_blt I hg hm hb ?_
  refine PyProof.Rows.callWith_builtin1 ?_ he (by rfl)
  rw [he]
  show wpAny _ _ (spliced ((false, eval _ X.env) :: backTo pos (starEach [] X.env))) _ _ s
  apply Calls.spliced_cons
  refine gen_text (R := fun a H1 => ∀ H2, GxR.Tabbed P H1 H2 → Q (.bl (a.cps.toList.all p)) H2) hr TB hcode S hi hel hf I h ?_
  rintro a H1 g s5 hR ⟨fp, wr, G, F, St, W, hst, htr, hI⟩
  apply Calls.spliced_nil
  refine call_all_walkS (W.self 0 _ _ _ hst ⟨g, fp, wr, G, _, F, St, _, rfl, W, hst, htr, ?_⟩)
  intro s' mv
  obtain ⟨H2, hT, J⟩ := hI s' mv
  refine ⟨.bl _, H2, J, rfl, ?_⟩
  rw [GxR.all_signs]
  exact hR H2 hT
end
section
variable {X : Cx}
/-- x is not True, x a flat thing -/
theorem op_isnotB : OpR X (compareOp .IsNot) (fun x y H Q => ∃ b, flatV x = true ∧ y = .bl b ∧ Q (.bl (!decide (x = .bl b))) H) := by
  intro pins s σ H x y v u Q I rx ry h
  obtain ⟨b, fx, rfl, q⟩ := h
  cases (show u = Value.bool b from ry)
  cases x with
  | non =>
    cases (show v = Value.none from rx)
    exact wpAny_isNot_other rfl (fun z => nomatch z) ⟨.bl true, H, I, rfl, by simpa using q⟩
  | bl a =>
    cases (show v = Value.bool a from rx)
    by_cases e : a = b
    · subst e
      exact wpAny_isNot_self rfl ⟨.bl false, H, I, rfl, by simpa using q⟩
    · exact wpAny_isNot_other rfl (fun z => e (Value.bool.inj z)) ⟨.bl true, H, I, rfl, by simpa [e] using q⟩
  | int i =>
    obtain ⟨t, rfl⟩ := rx
    exact wpAny_isNot_other rfl (fun z => nomatch z) ⟨.bl true, H, I, rfl, by simpa using q⟩
  | str z =>
    obtain ⟨t, rfl⟩ := rx
    exact wpAny_isNot_other rfl (fun z => nomatch z) ⟨.bl true, H, I, rfl, by simpa using q⟩
  | _ => cases fx
/-- x is True, x a flat thing -/
theorem op_isB : OpR X (compareOp .Is) (fun x y H Q => ∃ b, flatV x = true ∧ y = .bl b ∧ Q (.bl (decide (x = .bl b))) H) := by
  intro pins s σ H x y v u Q I rx ry h
  obtain ⟨b, fx, rfl, q⟩ := h
  cases (show u = Value.bool b from ry)
  cases x with
  | non =>
    cases (show v = Value.none from rx)
    exact wpAny_is_other rfl (fun z => nomatch z) ⟨.bl false, H, I, rfl, by simpa using q⟩
  | bl a =>
    cases (show v = Value.bool a from rx)
    by_cases e : a = b
    · subst e
      exact wpAny_is_self rfl ⟨.bl true, H, I, rfl, by simpa using q⟩
    · exact wpAny_is_other rfl (fun z => e (Value.bool.inj z)) ⟨.bl false, H, I, rfl, by simpa [e] using q⟩
  | int i =>
    obtain ⟨t, rfl⟩ := rx
    exact wpAny_is_other rfl (fun z => nomatch z) ⟨.bl false, H, I, rfl, by simpa using q⟩
  | str z =>
    obtain ⟨t, rfl⟩ := rx
    exact wpAny_is_other rfl (fun z => nomatch z) ⟨.bl false, H, I, rfl, by simpa using q⟩
  | _ => cases fx
end

section
variable {prog : Program} {w : World} {A : Around} {E : Value → Shared → Prop} {s : Shared}
theorem gives_ge_bi (b : Bool) (a : Int) (t : Tok) : Gives (Builtin.«int.__ge__» ⟨[.bool b, .int a t], []⟩) (.val (.bool (decide (a ≤ if b then (1 : Int) else 0)))) := by
  cases b <;> exact .of_eq rfl
theorem le_int_bool {a : Int} {t : Tok} {b : Bool} {Q : Value → Shared → Prop} (h : Q (.bool (decide (a ≤ if b then (1 : Int) else 0))) s) : wpAny (model prog w) A (compareOp .LtE (.int a t) (.bool b)) Q E s := by
  have hop : compareOp .LtE (.int a t) (.bool b) = richCompare .LtE (.int a t) (.bool b) := by rfl
  rw [hop]
  exact SeqAt.rc_sub_first_or (op := .LtE) (typeIs_int s a t) (Tb := "bool") rfl (by decide) F.sub_bool_int F.slot_bool_ge_refl
    (call_gives F.slot_bool_ge_refl rfl F.entry_int_ge (F.args_int_ge_2 _ _) (gives_ge_bi b a t) ⟨nofun, h⟩) (.inl rfl)
theorem ge_bool_int {a : Bool} {b : Int} {u : Tok} {Q : Value → Shared → Prop} (h : Q (.bool (decide (b ≤ if a then (1 : Int) else 0))) s) : wpAny (model prog w) A (compareOp .GtE (.bool a) (.int b u)) Q E s := by
  have hop : compareOp .GtE (.bool a) (.int b u) = richCompare .GtE (.bool a) (.int b u) := by rfl
  rw [hop]
  exact SeqAt.rc_left_or (op := .GtE) (Ta := "bool") rfl (typeIs_int s b u) (by decide) F.sub_int_bool F.slot_bool_ge
    (call_gives F.slot_bool_ge rfl F.entry_int_ge (F.args_int_ge_2 _ _) (gives_ge_bi a b u) ⟨nofun, h⟩) (.inl rfl)
end
/-- the number of an int or a truth -/
def nmV : V → Option Int
  | .int i => some i
  | .bl b => some (if b then 1 else 0)
  | _ => none
section
variable {X : Cx}
theorem op_leN : OpR X (compareOp .LtE) (fun x y H Q => ∃ i j, x = .int i ∧ nmV y = some j ∧ Q (.bl (decide (i ≤ j))) H) := by
  intro pins s σ H x y v u Q I rx ry h
  obtain ⟨i, j, rfl, e, q⟩ := h
  obtain ⟨t, rfl⟩ := rx
  cases y with
  | int k =>
    obtain ⟨t', rfl⟩ := ry
    cases e
    exact P.le_int ⟨.bl _, H, I, rfl, q⟩
  | bl b =>
    cases (show u = Value.bool b from ry)
    cases e
    exact le_int_bool ⟨.bl _, H, I, rfl, q⟩
  | _ => cases e
theorem op_geN : OpR X (compareOp .GtE) (fun x y H Q => ∃ i j, nmV x = some i ∧ y = .int j ∧ Q (.bl (decide (j ≤ i))) H) := by
  intro pins s σ H x y v u Q I rx ry h
  obtain ⟨i, j, e, rfl, q⟩ := h
  obtain ⟨t, rfl⟩ := ry
  cases x with
  | int k =>
    obtain ⟨t', rfl⟩ := rx
    cases e
    exact P.ge_int ⟨.bl _, H, I, rfl, q⟩
  | bl b =>
    cases (show v = Value.bool b from rx)
    cases e
    exact ge_bool_int ⟨.bl _, H, I, rfl, q⟩
  | _ => cases e
end
end K1
set_option Elab.async false
set_option linter.all false
set_option maxRecDepth 100000
set_option maxHeartbeats 4000000
/-! What the promises speak of: kinds of things, the tables of code, heaps that have grown. -/
namespace K1
open PySem PySem.Spec PyProof.Rows L2

/-! ### kinds of things -/
/-- a thing, its kind, and its items if it is a tuple -/
inductive Th (K : PySem.W.Frag) (H : Hp) : V → String → Option (List V) → Prop
  | non : Th K H .non "NoneType" none
  | bl (b : Bool) : Th K H (.bl b) "bool" none
  | int (i : Int) : Th K H (.int i) "int" none
  | str (x : Str) (h : x.length ≤ sizeLine) : Th K H (.str x) "str" none
  | lst {a : Addr} {xs : List V} (e : SqL K H a xs) : Th K H (.ref a) "list" none
  | tup {a : Addr} {xs : List V} (e : SqT K H a xs) : Th K H (.ref a) "tuple" (some xs)
  | dK {a : Addr} {kvs : List (Key × V)} (e : H a = some (.dK kvs)) : Th K H (.ref a) "dict" none
theorem tyT {K : PySem.W.Frag} {H : Hp} {a : Addr} {xs : List V} (e : SqT K H a xs) : TyX K H (.ref a) (.type "tuple") := by
  rcases e with (e | ⟨o, e⟩) | ⟨o, its, n, e, c, _⟩
  · exact .base (.tup e)
  · exact .fTuple e
  · exact .kTuple e c
theorem tyL {K : PySem.W.Frag} {H : Hp} {a : Addr} {xs : List V} (e : SqL K H a xs) : TyX K H (.ref a) (.type "list") := by
  rcases e with (e | ⟨o, e⟩) | ⟨o, its, n, e, c, _⟩
  · exact .base (.lst e)
  · exact .base (.frz e)
  · exact .kList e c
theorem Th.ty {K : PySem.W.Frag} {H : Hp} {v : V} {n : String} {o : Option (List V)} (h : Th K H v n o) : TyX K H v (.type n) := by
  cases h with
  | non => exact .base .non
  | bl b => exact .base (.bl b)
  | int i => exact .base (.int i)
  | str x _ => exact .base (.str x)
  | lst e => exact tyL e
  | tup e => exact tyT e
  | dK e => exact .base (.dK e)
def isI : V → Bool
  | .int _ => true
  | _ => false
def isB : V → Bool
  | .bl _ => true
  | _ => false
def isS : V → Bool
  | .str _ => true
  | _ => false
theorem Th.kint {K : PySem.W.Frag} {H : Hp} {v : V} {n : String} {o : Option (List V)} (h : Th K H v n o) : kitB n "int" = some (isI v || isB v) := by
  cases h <;> (first | (show kitB _ _ = some true; decide +kernel) | (show kitB _ _ = some false; decide +kernel) | decide +kernel)
theorem Th.kbool {K : PySem.W.Frag} {H : Hp} {v : V} {n : String} {o : Option (List V)} (h : Th K H v n o) : kitB n "bool" = some (isB v) := by
  cases h <;> (first | (show kitB _ _ = some true; decide +kernel) | (show kitB _ _ = some false; decide +kernel) | decide +kernel)
theorem Th.kstr {K : PySem.W.Frag} {H : Hp} {v : V} {n : String} {o : Option (List V)} (h : Th K H v n o) : kitB n "str" = some (isS v) := by
  cases h <;> (first | (show kitB _ _ = some true; decide +kernel) | (show kitB _ _ = some false; decide +kernel) | decide +kernel)
theorem Th.ktup {K : PySem.W.Frag} {H : Hp} {v : V} {n : String} {o : Option (List V)} (h : Th K H v n o) : kitB n "tuple" = some o.isSome := by
  cases h <;> (first | (show kitB _ _ = some true; decide +kernel) | (show kitB _ _ = some false; decide +kernel) | decide +kernel)
theorem Th.klst {K : PySem.W.Frag} {H : Hp} {v : V} {n : String} {o : Option (List V)} (h : Th K H v n o) : kitB n "list" = some (decide (n = "list")) := by
  cases h <;> (first | (show kitB _ _ = some true; decide +kernel) | (show kitB _ _ = some false; decide +kernel) | decide +kernel)
/-- isinstance of a thing and a class, answered -/
theorem isi {K : PySem.W.Frag} {H : Hp} {v : V} {n m : String} {o : Option (List V)} {b : Bool} {Q : VK} (th : Th K H v n o) (k : kitB n m = some b) (q : Q (.bl b) H) : rIsi K [v, .ty m] H Q :=
  ⟨v, .ty m, .type n, .type m, b, rfl, .ty m, th.ty, kit_ty k, q⟩

/-! ### heaps -/
/-- the places of the tables of code objects that may come to be fuller -/
abbrev Tp := List Addr
def TG (T : Tp) (H : Hp) : Prop := ∀ P ∈ T, GxR.TabG H P
/-- H' is H, grown: the tables may be longer, what D tells may be otherwise -/
def Go (T : Tp) (D : Addr → Prop) (H H' : Hp) : Prop := TG T H' ∧ ∀ b o, b ∉ T → ¬ D b → H b = some o → H' b = some o
abbrev D0 : Addr → Prop := fun _ => False
section
variable {T : Tp} {D D' : Addr → Prop} {H H1 H2 : Hp}
theorem Go.rfl' (t : TG T H) : Go T D H H := ⟨t, fun _ _ _ _ e => e⟩
theorem Go.trans (g : Go T D H H1) (g' : Go T D H1 H2) : Go T D H H2 := ⟨g'.1, fun b o h1 h3 e => g'.2 b o h1 h3 (g.2 b o h1 h3 e)⟩
theorem Go.mono (g : Go T D H H1) (h : ∀ b, D b → D' b) : Go T D' H H1 := ⟨g.1, fun b o h1 h3 e => g.2 b o h1 (fun z => h3 (h b z)) e⟩
theorem Go.up (g : Go T D0 H H1) : Go T D H H1 := g.mono fun _ z => z.elim
theorem TabG.ne {P p : Addr} (t : GxR.TabG H P) (h : H p = none) : P ≠ p := by
  obtain ⟨ps, e, _⟩ := t
  exact ne_of_none e h
theorem TG.stay {p : Addr} {o : HO} (t : TG T H) (h1 : p ∉ T) : TG T (upd H p o) := by
  intro P hP
  obtain ⟨ps, e, r⟩ := t P hP
  exact ⟨ps, (upd_ne (fun z => h1 (by rw [← z]; exact hP))).trans e, r⟩
theorem TG.new {p : Addr} {o : HO} (t : TG T H) (h : H p = none) : TG T (upd H p o) := t.stay fun z => TabG.ne (t p z) h rfl
theorem Go.new {p : Addr} {o : HO} (g : Go T D H H1) (h : H1 p = none) : Go T D H (upd H1 p o) := by
  refine ⟨g.1.new h, fun b u h1 h3 e => ?_⟩
  have e1 := g.2 b u h1 h3 e
  rw [upd_ne (ne_of_none e1 h)]
  exact e1
theorem TG.neW {b : Addr} {o : HO} (t : TG T H) (e : H b = some o) (ho : ∀ ps, o ≠ .tbl ps) : b ∉ T := fun z => by
  obtain ⟨ps, e', _⟩ := t b z
  rw [e] at e'
  exact ho ps (Option.some.inj e')
/-- an object of D is changed -/
theorem Go.set {p : Addr} {o u : HO} (g : Go T D H H1) (d : D p) (h : H1 p = some u) (hu : ∀ ps, u ≠ .tbl ps) : Go T D H (upd H1 p o) := by
  refine ⟨g.1.stay (g.1.neW h hu), fun b v h1 h3 e => ?_⟩
  rw [upd_ne (fun z => h3 (by rw [z]; exact d))]
  exact g.2 b v h1 h3 e
/-- a table that is fuller -/
theorem Go.tab {P : Addr} (t : TG T H) (hP : P ∈ T) (x : GxR.Tabbed P H H1) : Go T D H H1 := by
  refine ⟨fun Q hQ => ?_, fun b o h1 _ e => (x.2 b (fun z => h1 (by rw [z]; exact hP))).trans e⟩
  by_cases z : Q = P
  · rw [z]; exact x.1
  · obtain ⟨qs, e, r⟩ := t Q hQ
    exact ⟨qs, (x.2 _ z).trans e, r⟩
theorem Go.at {b : Addr} {o : HO} (g : Go T D H H1) (t : TG T H) (d : ¬ D b) (e : H b = some o) (ho : ∀ ps, o ≠ .tbl ps := by intro ps z; cases z) : H1 b = some o :=
  g.2 b o (t.neW e ho) d e
/-- a free place was free -/
theorem Go.free {b : Addr} (g : Go T D H H1) (t : TG T H) (d : ¬ D b) (h : H1 b = none) : H b = none := by
  cases q : H b with
  | none => rfl
  | some o =>
    have h1 : b ∉ T := fun z => TabG.ne (g.1 b z) h rfl
    rw [g.2 b o h1 d q] at h
    cases h
/-- sequences stand -/
theorem Go.seqT {K : PySem.W.Frag} {a : Addr} {xs : List V} (g : Go T D H H1) (t : TG T H) (d : ∀ o, H a = some o → ¬ D a) (h : SqT K H a xs) : SqT K H1 a xs := by
  rcases h with (h | ⟨o, h⟩) | h
  · exact .inl (.inl (g.at t (d _ h) h))
  · exact .inl (.inr ⟨o, g.at t (d _ h) h⟩)
  · exact .inr h
theorem Go.seqL {K : PySem.W.Frag} {a : Addr} {xs : List V} (g : Go T D H H1) (t : TG T H) (d : ∀ o, H a = some o → ¬ D a) (h : SqL K H a xs) : SqL K H1 a xs := by
  rcases h with (h | ⟨o, h⟩) | h
  · exact .inl (.inl (g.at t (d _ h) h))
  · exact .inl (.inr ⟨o, g.at t (d _ h) h⟩)
  · exact .inr h
theorem Th.go {K : PySem.W.Frag} {v : V} {n : String} {o : Option (List V)} (h : Th K H v n o) (g : Go T D H H1) (t : TG T H) (d : ∀ a, v = .ref a → ¬ D a) : Th K H1 v n o := by
  cases h with
  | non => exact .non
  | bl b => exact .bl b
  | int i => exact .int i
  | str x h => exact .str x h
  | lst e => exact .lst (g.seqL t (fun _ _ => d _ rfl) e)
  | tup e => exact .tup (g.seqT t (fun _ _ => d _ rfl) e)
  | dK e => exact .dK (g.at t (d _ rfl) e)
/-- only a dict is otherwise -/
theorem dOne {d a : Addr} {kvs : List (Key × V)} (e : H d = some (.dK kvs)) {o : HO} (h : H a = some o) (ho : ∀ k, o ≠ .dK k) : ¬ a = d := by
  intro z
  rw [z, e] at h
  exact ho _ (Option.some.inj h).symm
end

/-! ### calls of the module's defs -/
structure Cal (P : Program) (w : World) (K : PySem.W.Frag) (mg : Str → Option Value) (base : Heap) (k : Nat) (x : Str) (ps : List Str) (sp : Sp) : Prop where
  ex : ∃ (f : Addr) (fd : FuncData), FnOk P w K mg base CX0 k f fd ps sp ∧ mg x = some (.ref f) ∧ PySem.W.keepIn K (.ref f) = true ∧ Binds K fd ps []
theorem pe_cal {X : Cx} {k : Nat} {x : Str} {ps : List Str} {sp : Sp} {e : Expr} {es : List Expr} {t : TA} {p pos : Pos} (C : Cal X.prog X.w X.K X.mg X.base k x ps sp) (hr : Room k X.A) (hg : Gl X x) (ha : PA X (e :: es) t)
    (hdb : (x == ("__debug__" : Str)) = false := by decide) (he : starEach (e :: es) X.env = (false, eval e X.env) :: starEach es X.env := by rfl) (hpl : (backTo pos (starEach es X.env)).any (·.1) = false := by rfl) :
    PE X (.Call (.Name x p) (e :: es) [] pos) (tCall sp [] E0 t) := by
  obtain ⟨f, fd, F, hm, hk, hb⟩ := C.ex
  exact pe_call F hr hg hm hk hb .nil pass0 ha hdb he hpl
end K1
set_option Elab.async false
set_option linter.all false
set_option maxRecDepth 100000
set_option maxHeartbeats 4000000
/-! B.__init__(self, ..), B an own class over ValueError without an own __init__; defs of this form. -/
namespace K1
open PySem PySem.Spec PyProof.Rows L2
section
variable {X : Cx} {o e : Expr} {es : List Expr} {to te : TE} {ta : TA} {f x : Str} {p p' p1 p2 pos : Pos} {B : Addr} {mc : Value}
theorem pe_heinit {pl : Sem Bool} (hg : Gl X x) (hm : X.mg x = some (.ref B)) (kB : PySem.W.keepIn X.K (.ref B) = true) (R : ClX.CRead X.K B mc) (vB : PySem.W.findCls X.K (.ref B) mc "__init__" = some (.val (.builtin "ValueError.__init__"))) (ha : PA X (e :: es) ta)
    (hdb : (x == ("__debug__" : Str)) = false := by decide)
    (hc : eval (.Call (.Attribute (.Name x p1) "__init__" p2) (e :: es) [] pos) X.env = (do
      let ov ← eval (.Name x p1) X.env
      standAt p2.atName
      let (f, first) ← holding [ov] (getMethod ov "__init__" pl)
      callWith pos f first (backTo pos (starEach (e :: es) X.env)) (backToKw pos (keywordEach [] X.env))) := by rfl)
    (he : starEach (e :: es) X.env = (false, eval e X.env) :: starEach es X.env := by rfl) (hpl : (backTo pos (starEach es X.env)).any (·.1) = false := by rfl) :
    PE X (.Call (.Attribute (.Name x p1) "__init__" p2) (e :: es) [] pos) (tVeI X.K ta) := by
  refine ⟨fun pins s σ H Q I h => ?_⟩
  refine PySem.W.methodCall_KW (ld_glob I hg hm ?_ hdb) hc
  refine PySem.W.method_cls I.kIn R.ga ?_
  refine PySem.W.cls_value I.kIn R.rd vB (by decide +kernel) ?_
  show wpAny _ _ (callWith pos (Value.builtin "ValueError.__init__") [] (backTo pos (starEach (e :: es) X.env)) []) _ _ _
  refine PyProof.Rows.callWith_method1 (thn (ha.run pos pins _ σ H _ (I.tok _) h) fun us s1 ⟨vs, H1, I1, r1, a, C, ws, ev, hl, T, ea, q⟩ => ?_) he hpl
  subst ev
  cases r1 with
  | @cons _ u0 _ ur ra rw' =>
    obtain rfl : u0 = Value.ref a := ra
    have hlen : ur.length ≤ sizeLine := by
      rw [← Paired.length rw', sizeLine_eq]
      omega
    exact oinit_ok T I1 ea hlen fun s' J => ⟨.non, H1, J, rfl, q⟩
end
end K1
set_option Elab.async false
set_option linter.all false
set_option maxRecDepth 100000
set_option maxHeartbeats 4000000
/-! The program's defs: is_whole, is_among, is_word, is_hand, is_name, is_put_line, is_end. -/
namespace K1
open PySem PySem.Spec PyProof.Rows L2

def ltrs : Str := "abcdefghijklmnopqrstuvwxyz"
def figs : Str := "0123456789"
def wordOk (x : Str) : Bool := (decide ((1 : Int) ≤ x.length) && decide ((x.length : Int) ≤ 8)) && x.cps.toList.all (fun c => decide (c ∈ ltrs.cps.toList))
def wordV : V → Bool
  | .str x => wordOk x
  | _ => false
def noHands : List V := [.str "head", .str "foot", .str "none"]
def handV (v : V) : Bool := wordV v && !inV v noHands
def amgV (v : V) (lo hi : Int) : Bool := match v with
  | .int i => decide (lo ≤ i) && decide (i ≤ hi)
  | _ => false
def geOne : V → Bool
  | .int i => decide (1 ≤ i)
  | _ => false
def nameL : Option (List V) → Bool
  | some [p, q] => handV p && amgV q 1 999
  | _ => false
def putL : Option (List V) → Bool
  | some [p, q, r] => (handV p && amgV q 1 999) && geOne r
  | _ => false
def endL : Option (List V) → Bool
  | some [p, q, r] => (decide (p = .str "") && amgV q 0 0) && amgV r 0 1
  | _ => false

/-- the module's names -/
structure Mg (K : PySem.W.Frag) (mg : Str → Option Value) : Prop where
  ins : mg "isinstance" = none
  int_ : mg "int" = none
  bool_ : mg "bool" = none
  str_ : mg "str" = none
  tuple_ : mg "tuple" = none
  list_ : mg "list" = none
  len_ : mg "len" = none
  all_ : mg "all" = none
  range_ : mg "range" = none
  enum_ : mg "enumerate" = none
  sum_ : mg "sum" = none
  mostL : ∃ t, mg "MOST_LETTERS" = some (.int 8 t)
  mostN : ∃ t, mg "MOST_NUMBER" = some (.int 999 t)
  hd : ∃ a, mg "HEAD" = some (.ref a) ∧ ∀ H, SqT K H a [.str "", .int 0, .int 0]
  ft : ∃ a, mg "FOOT" = some (.ref a) ∧ ∀ H, SqT K H a [.str "", .int 0, .int 1]

theorem Th.strOf {K : PySem.W.Frag} {H : Hp} {v : V} {n : String} {o : Option (List V)} (h : Th K H v n o) (e : isS v = true) : ∃ x, v = .str x ∧ x.length ≤ sizeLine := by
  cases h with
  | str x h => exact ⟨x, rfl, h⟩
  | _ => cases e
theorem wordV_no {v : V} (e : isS v = false) : wordV v = false := by
  cases v with
  | str x => cases e
  | _ => rfl
theorem intOf {v : V} (e : isI v = true) : ∃ i, v = .int i := by
  cases v with
  | int i => exact ⟨i, rfl⟩
  | _ => cases e
theorem amgV_no {v : V} {lo hi : Int} (e : isI v = false) : amgV v lo hi = false := by
  cases v with
  | int i => cases e
  | _ => rfl

theorem tl_ltrs : ltrs.cps.toList = [97, 98, 99, 100, 101, 102, 103, 104, 105, 106, 107, 108, 109, 110, 111, 112, 113, 114, 115, 116, 117, 118, 119, 120, 121, 122] := by decide +kernel
theorem ltr_iff {c : Nat} : c ∈ ltrs.cps.toList ↔ 97 ≤ c ∧ c ≤ 122 := by
  rw [tl_ltrs]
  simp only [List.mem_cons, List.not_mem_nil, or_false]
  omega
theorem cls_signs : ∀ c, c < 128 → Unicode.isAlpha c = (decide (97 ≤ c ∧ c ≤ 122) || decide (65 ≤ c ∧ c ≤ 90)) ∧ Unicode.isLower c = decide (97 ≤ c ∧ c ≤ 122) ∧ (Unicode.isUpper c || Unicode.isTitle c) = decide (65 ≤ c ∧ c ≤ 90) := by decide +kernel
/-- the program's three questions are one -/
theorem word_eq {x : Str} (h : decide ((x.length : Int) ≤ 8) = true) : wordOk x = (Txt.isascii x && (Txt.isalpha x && Txt.islower x)) := by
  have e0 : wordOk x = (decide ((1 : Int) ≤ x.length) && x.cps.toList.all (fun c => decide (c ∈ ltrs.cps.toList))) := by
    unfold wordOk
    rw [h, Bool.and_true]
  have lx : x.length = x.cps.toList.length := by rw [Array.length_toList]; rfl
  have ea : Txt.isascii x = x.cps.toList.all (fun c => decide (c < 128)) := by unfold Txt.isascii; rw [← Array.all_toList]
  have eb : Txt.isalpha x = (decide (x.length > 0) && x.cps.toList.all Unicode.isAlpha) := by unfold Txt.isalpha; rw [← Array.all_toList]
  have ec : Txt.islower x = (x.cps.toList.any Unicode.isLower && !x.cps.toList.any fun c => Unicode.isUpper c || Unicode.isTitle c) := by unfold Txt.islower; rw [← Array.any_toList, ← Array.any_toList]
  rw [e0, ea, eb, ec, lx]
  generalize x.cps.toList = l
  rw [Bool.eq_iff_iff]
  simp only [Bool.and_eq_true, decide_eq_true_eq, List.all_eq_true, List.any_eq_true, Bool.not_eq_true', List.any_eq_false, ltr_iff]
  constructor
  · rintro ⟨h1, h2⟩
    have a128 : ∀ c ∈ l, c < 128 := fun c hc => by have := h2 c hc; omega
    refine ⟨a128, ⟨by omega, fun c hc => ?_⟩, ?_, fun c hc => ?_⟩
    · rw [(cls_signs c (a128 c hc)).1, decide_eq_true (h2 c hc), Bool.true_or]
    · cases l with
      | nil => simp at h1
      | cons c r => exact ⟨c, by simp, by rw [(cls_signs c (a128 c (by simp))).2.1, decide_eq_true (h2 c (by simp))]⟩
    · rw [(cls_signs c (a128 c hc)).2.2, decide_eq_false (by have := h2 c hc; omega)]
      exact Bool.false_ne_true
  · rintro ⟨a128, ⟨h1, h2⟩, _, h4⟩
    refine ⟨by omega, fun c hc => ?_⟩
    have q1 := h2 c hc
    have q2 := h4 c hc
    rw [(cls_signs c (a128 c hc)).1] at q1
    rw [(cls_signs c (a128 c hc)).2.2] at q2
    simp only [Bool.or_eq_true, decide_eq_true_eq] at q1
    rcases q1 with q1 | q1
    · exact q1
    · exact absurd (decide_eq_true q1) q2

theorem noFree {l : List (Str × NameKind)} {p : Str × NameKind → Prop} (h : (l.all fun y => decide (y.2 ≠ NameKind.free)) = true) : ∀ y ∈ l, y.2 = NameKind.free → p y := fun y hy e =>
  absurd e (of_decide_eq_true (List.all_eq_true.mp h y hy))
section
variable {P : Program} {w : World} {K : PySem.W.Frag} {mg : Str → Option Value} {base : Heap}

/-! ### defs whose code object is known -/
theorem ok_code {x qual : Str} {st : Stmt} {f c : Addr} {oc kV doc pm ct : Value} {od an : Option Addr} {osl : Array (Option Value)} {N ps : List Str} {k : Nat} {sp : Sp}
    (l : K.lookup f = some ⟨oc, od, .func (PySem.W.fnOf x qual (defArgs st) (defBody st) (defScope st) .none kV doc pm an (.ref c) ct), osl⟩) (hc : PySem.W.codeIn K (.ref c) qual = true)
    (S : FnScope N ps (defScope st)) (len : ∀ vs H Q E, sp vs H Q E → vs.length = ps.length)
    (hb : ∀ (A : Around) (outer : List Env) (s : Shared) (H : Hp) (vs : List V) (Q : VK) (E : XK), Room k (A.deeper (envOfC qual (defScope st) s.heap.objs.size f (.ref c))) → sp vs H Q E →
      ∃ t, PSs (cxOf CX0 P w K mg base N qual (defScope st) f (.ref c) A outer s H E).nox (defBody st) t ∧ t { nx := fun _ H' => Q .non H', rt := Q } (start N vs) H) :
    FnOk P w K mg base CX0 (k + 1) f (PySem.W.fnOf x qual (defArgs st) (defBody st) (defScope st) .none kV doc pm an (.ref c) ct) ps sp := by
  refine fn_of l hc S len fun A outer s H vs Q E hr hsp => ?_
  obtain ⟨t, h, q⟩ := hb A outer s H vs Q E hr hsp
  exact ⟨t, h.nox, q⟩

/-! ### is_word -/
def spWord (K : PySem.W.Frag) (T : Tp) : Sp := fun vs H Q _ => ∃ v n o, vs = [v] ∧ Th K H v n o ∧ TG T H ∧ ∀ H', Go T D0 H H' → Q (.bl (wordV v)) H'
theorem ok_word {T : Tp} {f : Addr} {fd : FuncData} {k : Nat} (F : Fun K "is_word" "is_word" sWord f fd) (M : Mg K mg) : FnOk P w K mg base CX0 (k + 1) f fd ["thing"] (spWord K T) := by
  obtain ⟨tk, hL⟩ := M.mostL
  refine F.ok scWord (fun vs H Q E h => ?_) (fun cdv A outer s H vs Q E hr h => ?_)
  · obtain ⟨v, n, o, rfl, _⟩ := h
    rfl
  · obtain ⟨v, n, o, rfl, th, tg, q⟩ := h
    refine ⟨_, pss_cons (ps_if (PW.pt (pw_or (pt_not (pt_val (pe_callB call_isi (by rfl) M.ins boot_isinstance (pa_cons (pv 0) (pa_cons (pe_bltn (v := .ty "str") (by rfl) M.str_ boot_str rfl) pa_nil)))))
        (pw_or1 (pt_cmpR op_gt (pe_callB call_len_str (by rfl) M.len_ PySem.boot_len (pa_cons (pv 0) pa_nil)) (pe_glob (v := .int 8) (by rfl) hL ⟨_, rfl⟩) (nomark _)))))
        (pss_one (ps_ret pe_bl)) pss_nil)
      (pss_one (ps_ret (pe_and (pe_m0 PySem.F.slot_str_isascii PySem.F.type_str_isascii mt_isascii (pv 0)) (pe_and (pe_m0 PySem.F.slot_str_isalpha PySem.F.type_str_isalpha mt_isalpha (pv 0)) (pe_one (pe_m0 PySem.F.slot_str_islower PySem.F.type_str_islower mt_islower (pv 0))))))), ?_⟩
    refine ⟨v, rfl, v, .ty "str", .type n, .type "str", _, rfl, .ty _, th.ty, kit_ty th.kstr, _, rfl, ite2 (fun e => iteT ?_) (fun e => ?_)⟩
    · rw [wordV_no (by simpa using e)] at q
      exact q H (Go.rfl' tg)
    · obtain ⟨x, rfl, hx⟩ := th.strOf (by simpa using e)
      have fin : ∀ b, wordOk x = b → Q (.bl b) H := fun b e => e ▸ q H (Go.rfl' tg)
      refine ⟨.str x, rfl, x, rfl, hx, _, _, rfl, rfl, _, rfl, ite2 (fun e1 => ?_) (fun e1 => ?_)⟩
      · have e2 : decide ((x.length : Int) ≤ 8) = false := decide_eq_false (by have := of_decide_eq_true e1; omega)
        refine fin _ ?_
        show (decide ((1 : Int) ≤ x.length) && decide ((x.length : Int) ≤ 8) && _) = false
        rw [e2, Bool.and_false, Bool.false_and]
      · have e2 : decide ((x.length : Int) ≤ 8) = true := decide_eq_true (by have := of_decide_eq_false (Bool.eq_false_iff.mpr e1); omega)
        have e3 := word_eq e2
        refine ⟨.str x, rfl, ⟨x, rfl⟩, x, rfl, rfl, trivial, _, rfl, ite2 (fun e4 => ⟨.str x, rfl, ⟨x, rfl⟩, x, rfl, rfl, trivial, _, rfl, ite2 (fun e5 => ⟨.str x, rfl, ⟨x, rfl⟩, x, rfl, rfl, trivial, fin _ ?_⟩) (fun e5 => fin _ ?_)⟩) (fun e4 => fin _ ?_)⟩
        · rw [e3, e4, e5, Bool.true_and, Bool.true_and]
        · rw [e3, e4, Bool.eq_false_iff.mpr e5, Bool.true_and, Bool.false_and]
        · rw [e3, Bool.eq_false_iff.mpr e4, Bool.false_and]
end
end K1
set_option Elab.async false
set_option linter.all false
set_option maxRecDepth 100000
set_option maxHeartbeats 400000
/-! The program's defs: is_hand, is_name, is_put_line, is_end. -/
namespace K1
open PySem PySem.Spec PyProof.Rows L2

theorem notnot {b : Bool} (e : ¬ (!b) = true) : b = true := by
  cases b with
  | true => rfl
  | false => exact absurd rfl e
theorem Th.tupOf {K : PySem.W.Frag} {H : Hp} {v : V} {n : String} {o : Option (List V)} (h : Th K H v n o) (e : o.isSome = true) : ∃ a xs, v = .ref a ∧ SqT K H a xs ∧ o = some xs := by
  cases h with
  | tup q => exact ⟨_, _, rfl, q, rfl⟩
  | _ => cases e
theorem noneOf {o : Option (List V)} (e : ¬ (!o.isSome) = false) : o = none := by
  cases o with
  | none => rfl
  | some _ => exact absurd rfl e
theorem nameL_len {xs : List V} (h : ¬ xs.length = 2) : nameL (some xs) = false := by
  match xs with
  | [] => rfl
  | [_] => rfl
  | [_, _] => exact absurd rfl h
  | _ :: _ :: _ :: _ => rfl
theorem putL_len {xs : List V} (h : ¬ xs.length = 3) : putL (some xs) = false := by
  match xs with
  | [] => rfl
  | [_] => rfl
  | [_, _] => rfl
  | [_, _, _] => exact absurd rfl h
  | _ :: _ :: _ :: _ :: _ => rfl
theorem endL_len {xs : List V} (h : ¬ xs.length = 3) : endL (some xs) = false := by
  match xs with
  | [] => rfl
  | [_] => rfl
  | [_, _] => rfl
  | [_, _, _] => exact absurd rfl h
  | _ :: _ :: _ :: _ :: _ => rfl
theorem len2 {xs : List V} (h : xs.length = 2) : ∃ p q, xs = [p, q] := by
  match xs, h with
  | [p, q], _ => exact ⟨p, q, rfl⟩
theorem len3 {xs : List V} (h : xs.length = 3) : ∃ p q r, xs = [p, q, r] := by
  match xs, h with
  | [p, q, r], _ => exact ⟨p, q, r, rfl⟩
theorem strOfV {v : V} (e : isS v = true) : ∃ x, v = .str x := by
  cases v with
  | str x => exact ⟨x, rfl⟩
  | _ => cases e
theorem wordV_str {v : V} (e : wordV v = true) : ∃ x, v = .str x := by
  cases v with
  | str x => exact ⟨x, rfl⟩
  | _ => cases e

/-- an int or a truth -/
theorem numK {r : V} (h : (isI r || isB r) = true) : flatV r = true ∧ ∃ j, nmV r = some j ∧ (r = .bl true ∨ r = .int j ∨ (r = .bl false ∧ j = 0)) := by
  cases r with
  | int i => exact ⟨rfl, i, rfl, .inr (.inl rfl)⟩
  | bl b =>
    cases b with
    | true => exact ⟨rfl, 1, rfl, .inl rfl⟩
    | false => exact ⟨rfl, 0, rfl, .inr (.inr ⟨rfl, rfl⟩)⟩
  | _ => cases h
theorem amgV_num {r : V} {lo hi : Int} (h : ¬ (isI r || isB r) = true) : amgV r lo hi = false := by
  cases r with
  | int i => exact absurd rfl h
  | _ => rfl
theorem geOne_num {r : V} (h : ¬ (isI r || isB r) = true) : geOne r = false := by
  cases r with
  | int i => exact absurd rfl h
  | _ => rfl
theorem isB_num {r : V} (h : decide (r = .bl true) = true) : amgV r 1 999 = false ∧ geOne r = false := by
  rw [of_decide_eq_true h]
  exact ⟨rfl, rfl⟩

section
variable {P : Program} {w : World} {K : PySem.W.Frag} {mg : Str → Option Value} {base : Heap} {T : Tp}

/-! ### is_hand -/
def spHand (K : PySem.W.Frag) (T : Tp) : Sp := fun vs H Q _ => ∃ v n o, vs = [v] ∧ Th K H v n o ∧ TG T H ∧ ∀ H', Go T D0 H H' → Q (.bl (handV v)) H'
theorem ok_hand {f : Addr} {fd : FuncData} {k : Nat} (F : Fun K "is_hand" "is_hand" sHand f fd) (cW : Cal P w K mg base k "is_word" ["thing"] (spWord K T)) : FnOk P w K mg base CX0 (k + 1) f fd ["thing"] (spHand K T) := by
  refine F.ok scHand (fun vs H Q E h => ?_) (fun cdv A outer s H vs Q E hr h => ?_)
  · obtain ⟨v, n, o, rfl, _⟩ := h
    rfl
  · obtain ⟨v, n, o, rfl, th, tg, q⟩ := h
    refine ⟨_, pss_one (ps_ret (pe_and (pe_cal cW hr (by rfl) (pa_cons (pv 0) pa_nil)) (pe_one (pe_cmpR op_notIn_seq (pv 0) (pe_tup (pa_cons pe_str (pa_cons pe_str (pa_cons pe_str pa_nil)))) (by rfl))))), ?_⟩
    refine ⟨v, rfl, v, n, o, rfl, th, tg, fun H1 g1 => ⟨_, rfl, ite2 (fun e => ?_) (fun e => ?_)⟩⟩
    · refine ⟨v, rfl, by show 3 ≤ sizeLine; decide, fun t ht => ⟨t, noHands, rfl, .inr (.inl (.inl upd_same)), ?_, rfl, ?_⟩⟩
      · obtain ⟨x, rfl⟩ := wordV_str e
        rfl
      · have e2 : handV v = !inV v noHands := by
          unfold handV
          rw [e, Bool.true_and]
        have q2 := q (upd H1 t (.tup noHands)) (g1.new ht)
        rw [e2] at q2
        exact q2
    · have e2 : handV v = false := by
        unfold handV
        rw [Bool.eq_false_iff.mpr e, Bool.false_and]
      have q2 := q _ g1
      rw [e2] at q2
      exact q2

/-! ### is_name -/
def ThAll (K : PySem.W.Frag) (H : Hp) (o : Option (List V)) : Prop := ∀ xs, o = some xs → ∀ x ∈ xs, ∃ m o', Th K H x m o'
def spName (K : PySem.W.Frag) (T : Tp) : Sp := fun vs H Q _ => ∃ v n o, vs = [v] ∧ Th K H v n o ∧ ThAll K H o ∧ TG T H ∧ ∀ H', Go T D0 H H' → Q (.bl (nameL (o))) H'
theorem ok_name {f : Addr} {fd : FuncData} {k : Nat} (F : Fun K "is_name" "is_name" sName f fd) (M : Mg K mg) (cH : Cal P w K mg base k "is_hand" ["thing"] (spHand K T)) :
    FnOk P w K mg base CX0 (k + 1) f fd ["thing"] (spName K T) := by
  obtain ⟨tk, hN⟩ := M.mostN
  refine F.ok scName (fun vs H Q E h => ?_) (fun cdv A outer s H vs Q E hr h => ?_)
  · obtain ⟨v, n, o, rfl, _⟩ := h
    rfl
  · obtain ⟨v, n, o, rfl, th, al, tg, q⟩ := h
    refine ⟨_, pss_cons (ps_if (PW.pt (pw_or (pt_not (pt_val (pe_callB call_isi (by rfl) M.ins boot_isinstance (pa_cons (pv 0) (pa_cons (pe_bltn (v := .ty "tuple") (by rfl) M.tuple_ (by decide +kernel) rfl) pa_nil)))))
        (pw_or1 (pt_cmpR op_ne (pe_callB call_len_seq (by rfl) M.len_ PySem.boot_len (pa_cons (pv 0) pa_nil)) pe_int (nomark _)))))
        (pss_one (ps_ret pe_bl)) pss_nil)
      (pss_cons (ps_asg (pv 0) (pg_tup (by rfl) (pgs_cons (pg_name (i := 1) scName.nd rfl (.inl rfl)) (pgs_cons (pg_name (i := 2) scName.nd rfl (.inl rfl)) pgs_nil))))
      (pss_one (ps_ret (pe_and (pe_callB call_isi (by rfl) M.ins boot_isinstance (pa_cons (pv 2) (pa_cons (pe_bltn (v := .ty "int") (by rfl) M.int_ boot_int rfl) pa_nil)))
        (pe_and (pe_cmpR op_isnotB (pv 2) pe_bl (nomark _))
        (pe_and (pe_chain op_leN op_le pe_int (pv 2) (pe_glob (v := .int 999) (by rfl) hN ⟨_, rfl⟩))
          (pe_one (pe_cal cH hr (by rfl) (pa_cons (pv 1) pa_nil))))))))), ?_⟩
    refine ⟨v, rfl, v, .ty "tuple", .type n, .type "tuple", _, rfl, .ty _, th.ty, kit_ty th.ktup, _, rfl, ite2 (fun e => iteT ?_) (fun e => ?_)⟩
    · have e2 : o = none := by
        cases o with
        | none => rfl
        | some _ => cases e
      rw [e2] at q
      exact q H (Go.rfl' tg)
    · obtain ⟨a, xs, rfl, hS, et⟩ := th.tupOf (notnot e)
      rw [et] at q
      refine ⟨.ref a, rfl, a, xs, rfl, .inr hS, rfl, _, rfl, ite2 (fun e1 => ?_) (fun e1 => ?_)⟩
      · have e2 : ¬ xs.length = 2 := by
          intro z
          rw [z] at e1
          exact absurd e1 (by decide)
        rw [nameL_len e2] at q
        exact q H (Go.rfl' tg)
      · have e2 : (xs.length : Int) = 2 := by
          have e3 : decide (V.int (xs.length : Int) = V.int 2) = true := by simpa using e1
          exact V.int.inj (of_decide_eq_true e3)
        obtain ⟨p, r, rfl⟩ := len2 (xs := xs) (by omega)
        obtain ⟨m, m1, tp⟩ := al _ et p (by simp)
        obtain ⟨m', m'1, tr⟩ := al _ et r (by simp)
        have no : amgV r 1 999 = false → Q (.bl false) H := fun e => by
          have q2 := q H (Go.rfl' tg)
          have e4 : nameL (some [p, r]) = false := by
            show (handV p && amgV r 1 999) = _
            rw [e, Bool.and_false]
          rw [e4] at q2
          exact q2
        refine ⟨.ref a, rfl, a, _, rfl, hS, rfl, p, [r], rfl, r, [], rfl, rfl, r, rfl, r, .ty "int", .type m', .type "int", _, rfl, .ty _, tr.ty, kit_ty tr.kint, _, rfl, ite2 (fun e3 => ?_) (fun e3 => ?_)⟩
        · obtain ⟨fl, j, hj, hc⟩ := numK e3
          refine ⟨r, rfl, true, fl, rfl, _, rfl, ite2 (fun e4 => ⟨r, rfl, 1, j, rfl, hj, _, rfl, ite2 (fun e5 => ?_) (fun e5 => ⟨_, rfl, iteF ?_⟩)⟩) (fun e4 => ?_)⟩
          · obtain rfl : r = .int j := by
              rcases hc with rfl | rfl | ⟨rfl, rfl⟩
              · exact absurd e4 (by decide)
              · rfl
              · exact absurd e5 (by decide)
            refine ⟨j, 999, rfl, rfl, _, rfl, ite2 (fun e6 => ⟨p, rfl, p, m, m1, rfl, tp, tg, fun H1 g1 => ?_⟩) (fun e6 => ?_)⟩
            · have q2 := q _ g1
              have e7 : nameL (some [p, .int j]) = handV p := by
                show (handV p && (decide (1 ≤ j) && decide (j ≤ 999))) = _
                rw [e5, e6, Bool.and_true, Bool.and_true]
              rw [e7] at q2
              exact q2
            · have e7 := Bool.eq_false_iff.mpr e6
              refine no ?_
              show (decide (1 ≤ j) && decide (j ≤ 999)) = false
              rw [e7, Bool.and_false]
          · have e7 := Bool.eq_false_iff.mpr e5
            refine no ?_
            rcases hc with rfl | rfl | ⟨rfl, rfl⟩
            · rfl
            · show (decide (1 ≤ j) && decide (j ≤ 999)) = false
              rw [e7, Bool.false_and]
            · rfl
          · refine no (isB_num ?_).1
            cases z : decide (r = V.bl true) with
            | true => rfl
            | false => exact absurd (by rw [z]; rfl) e4
        · exact no (amgV_num e3)

/-! ### is_put_line -/
def spPut (K : PySem.W.Frag) (T : Tp) : Sp := fun vs H Q _ => ∃ v n o, vs = [v] ∧ Th K H v n o ∧ ThAll K H o ∧ TG T H ∧ ∀ H', Go T D0 H H' → Q (.bl (putL (o))) H'
theorem cut2 (p q r : V) : cutV [p, q, r] none (some 2) = [p, q] := rfl
theorem ok_put {f : Addr} {fd : FuncData} {k : Nat} (F : Fun K "is_put_line" "is_put_line" sPut f fd) (M : Mg K mg) (cH : Cal P w K mg base k "is_hand" ["thing"] (spHand K T)) :
    FnOk P w K mg base CX0 (k + 1) f fd ["thing"] (spPut K T) := by
  obtain ⟨tk, hN⟩ := M.mostN
  refine F.ok scPut (fun vs H Q E h => ?_) (fun cdv A outer s H vs Q E hr h => ?_)
  · obtain ⟨v, n, o, rfl, _⟩ := h
    rfl
  · obtain ⟨v, n, o, rfl, th, al, tg, q⟩ := h
    refine ⟨_, pss_cons (ps_if (PW.pt (pw_or (pt_not (pt_val (pe_callB call_isi (by rfl) M.ins boot_isinstance (pa_cons (pv 0) (pa_cons (pe_bltn (v := .ty "tuple") (by rfl) M.tuple_ (by decide +kernel) rfl) pa_nil)))))
        (pw_or1 (pt_cmpR op_ne (pe_callB call_len_seq (by rfl) M.len_ PySem.boot_len (pa_cons (pv 0) pa_nil)) pe_int (nomark _)))))
        (pss_one (ps_ret pe_bl)) pss_nil)
      (pss_cons (ps_asg (pv 0) (pg_tup (by rfl) (pgs_cons (pg_name (i := 1) scPut.nd rfl (.inl rfl)) (pgs_cons (pg_name (i := 2) scPut.nd rfl (.inl rfl)) (pgs_cons (pg_name (i := 3) scPut.nd rfl (.inl rfl)) pgs_nil)))))
      (pss_cons (ps_if (PW.pt (pw_or (pt_not (pt_val (pe_callB call_isi (by rfl) M.ins boot_isinstance (pa_cons (pv 2) (pa_cons (pe_bltn (v := .ty "int") (by rfl) M.int_ boot_int rfl) pa_nil)))))
          (pw_or (pt_not (pt_val (pe_callB call_isi (by rfl) M.ins boot_isinstance (pa_cons (pv 3) (pa_cons (pe_bltn (v := .ty "int") (by rfl) M.int_ boot_int rfl) pa_nil)))))
          (pw_or (pt_cmpR op_isB (pv 2) pe_bl (nomark _)) (pw_or1 (pt_cmpR op_isB (pv 3) pe_bl (nomark _)))))))
        (pss_one (ps_ret pe_bl)) pss_nil)
      (pss_one (ps_ret (pe_and (pe_chain op_leN op_le pe_int (pv 2) (pe_glob (v := .int 999) (by rfl) hN ⟨_, rfl⟩))
        (pe_and (pe_cmpR op_geN (pv 3) pe_int (nomark _))
          (pe_one (pe_cal cH hr (by rfl) (pa_cons (pv 1) pa_nil))))))))), ?_⟩
    refine ⟨v, rfl, v, .ty "tuple", .type n, .type "tuple", _, rfl, .ty _, th.ty, kit_ty th.ktup, _, rfl, ite2 (fun e => iteT ?_) (fun e => ?_)⟩
    · have e2 : o = none := by
        cases o with
        | none => rfl
        | some _ => cases e
      rw [e2] at q
      exact q H (Go.rfl' tg)
    · obtain ⟨a, xs, rfl, hS, et⟩ := th.tupOf (notnot e)
      rw [et] at q
      refine ⟨.ref a, rfl, a, xs, rfl, .inr hS, rfl, _, rfl, ite2 (fun e1 => ?_) (fun e1 => ?_)⟩
      · have e2 : ¬ xs.length = 3 := by
          intro z
          rw [z] at e1
          exact absurd e1 (by decide)
        rw [putL_len e2] at q
        exact q H (Go.rfl' tg)
      · have e2 : (xs.length : Int) = 3 := by
          have e3 : decide (V.int (xs.length : Int) = V.int 3) = true := by simpa using e1
          exact V.int.inj (of_decide_eq_true e3)
        obtain ⟨p, r, l, rfl⟩ := len3 (xs := xs) (by omega)
        obtain ⟨m, m1, tp⟩ := al _ et p (by simp)
        obtain ⟨m', m'1, tr⟩ := al _ et r (by simp)
        obtain ⟨m'', m''1, tl'⟩ := al _ et l (by simp)
        have no : (amgV r 1 999 && geOne l) = false → Q (.bl false) H := fun e => by
          have q2 := q H (Go.rfl' tg)
          have e4 : putL (some [p, r, l]) = false := by
            show ((handV p && amgV r 1 999) && geOne l) = _
            rw [Bool.and_assoc, e, Bool.and_false]
          rw [e4] at q2
          exact q2
        have no1 : amgV r 1 999 = false → Q (.bl false) H := fun e => no (by rw [e, Bool.false_and])
        have no2 : geOne l = false → Q (.bl false) H := fun e => no (by rw [e, Bool.and_false])
        refine ⟨.ref a, rfl, a, _, rfl, hS, rfl, p, [r, l], rfl, r, [l], rfl, l, [], rfl, rfl, r, rfl, r, .ty "int", .type m', .type "int", _, rfl, .ty _, tr.ty, kit_ty tr.kint, _, rfl, ite2 (fun e3 => iteT ?_) (fun e3 => ?_)⟩
        · exact no1 (amgV_num (fun z => by rw [z] at e3; cases e3))
        · obtain ⟨fr, i, hi, hci⟩ := numK (notnot e3)
          refine ⟨l, rfl, l, .ty "int", .type m'', .type "int", _, rfl, .ty _, tl'.ty, kit_ty tl'.kint, _, rfl, ite2 (fun e4 => iteT ?_) (fun e4 => ?_)⟩
          · exact no2 (geOne_num (fun z => by rw [z] at e4; cases e4))
          · obtain ⟨fl, j, hj, hcj⟩ := numK (notnot e4)
            refine ⟨r, rfl, true, fr, rfl, _, rfl, ite2 (fun e5 => iteT (no1 (isB_num e5).1)) (fun e5 => ⟨l, rfl, true, fl, rfl, _, rfl, ite2 (fun e6 => no2 (isB_num e6).2) (fun e6 => ?_)⟩)⟩
            refine ⟨r, rfl, 1, i, rfl, hi, _, rfl, ite2 (fun e7 => ?_) (fun e7 => ⟨_, rfl, iteF ?_⟩)⟩
            · obtain rfl : r = .int i := by
                rcases hci with rfl | rfl | ⟨rfl, rfl⟩
                · exact absurd rfl e5
                · rfl
                · exact absurd e7 (by decide)
              refine ⟨i, 999, rfl, rfl, _, rfl, ite2 (fun e8 => ?_) (fun e8 => ?_)⟩
              · refine ⟨l, rfl, j, 1, hj, rfl, _, rfl, ite2 (fun e9 => ⟨p, rfl, p, m, m1, rfl, tp, tg, fun H1 g1 => ?_⟩) (fun e9 => ?_)⟩
                · obtain rfl : l = .int j := by
                    rcases hcj with rfl | rfl | ⟨rfl, rfl⟩
                    · exact absurd rfl e6
                    · rfl
                    · exact absurd e9 (by decide)
                  have q2 := q _ g1
                  have ea : putL (some [p, .int i, .int j]) = handV p := by
                    show ((handV p && (decide (1 ≤ i) && decide (i ≤ 999))) && decide (1 ≤ j)) = _
                    rw [e7, e8, e9, Bool.and_true, Bool.and_true, Bool.and_true]
                  rw [ea] at q2
                  exact q2
                · have ea := Bool.eq_false_iff.mpr e9
                  refine no2 ?_
                  rcases hcj with rfl | rfl | ⟨rfl, rfl⟩
                  · rfl
                  · exact ea
                  · rfl
              · have ea := Bool.eq_false_iff.mpr e8
                refine no1 ?_
                show (decide (1 ≤ i) && decide (i ≤ 999)) = false
                rw [ea, Bool.and_false]
            · have ea := Bool.eq_false_iff.mpr e7
              refine no1 ?_
              rcases hci with rfl | rfl | ⟨rfl, rfl⟩
              · rfl
              · show (decide (1 ≤ i) && decide (i ≤ 999)) = false
                rw [ea, Bool.false_and]
              · rfl

end
end K1
set_option Elab.async false
set_option linter.all false
set_option maxRecDepth 100000
set_option maxHeartbeats 4000000
/-! Texts: numbers, parts, data of flat things. -/
namespace K1
open PySem PySem.Spec PyProof.Rows L2 TL

/-! ### flat things as data -/
def pd : V → PyData
  | .non => .none
  | .bl b => .bool b
  | .int i => .int i
  | .str x => .str x
  | _ => .none
def okV : V → Bool
  | .non => true
  | .bl _ => true
  | .int _ => true
  | .str x => PyData.strOk x
  | _ => false
theorem pd_dp {K : PySem.W.Frag} {H : Hp} {v : V} (h : okV v = true) : Dp K H v (pd v) := by
  cases v with
  | non => exact .non
  | bl b => exact .bl b
  | int i => exact .int i
  | str x => exact .str x
  | _ => cases h
theorem pd_lay {v : V} (h : okV v = true) : (pd v).canLay0 = true := by
  cases v with
  | str x => exact h
  | _ => first | rfl | cases h
theorem pd_depth (v : V) : (pd v).depth = 0 := by
  cases v <;> rfl
theorem pd_all {K : PySem.W.Frag} {H : Hp} : ∀ {xs : List V}, xs.all okV = true → DpAll K H xs (xs.map pd)
  | [], _ => .nil
  | v :: xs, h => by
    rw [List.all_cons, Bool.and_eq_true] at h
    exact .cons (pd_dp h.1) (pd_all h.2)
theorem pd_layAll : ∀ {xs : List V}, xs.all okV = true → PyData.canLayAll0 (xs.map pd) = true
  | [], _ => rfl
  | v :: xs, h => by
    rw [List.all_cons, Bool.and_eq_true] at h
    show ((pd v).canLay0 && PyData.canLayAll0 (xs.map pd)) = true
    rw [pd_lay h.1, pd_layAll h.2] <;> rfl
theorem pd_depthAll : ∀ (xs : List V), PyData.depthAll (xs.map pd) = 0
  | [] => rfl
  | v :: xs => by
    show max (pd v).depth (PyData.depthAll (xs.map pd)) = 0
    rw [pd_depth, pd_depthAll xs] <;> rfl
theorem sh_flat {v : V} (h : okV v = true) : SeqAt.shaped (pd v) = true := by
  unfold SeqAt.shaped
  rw [pd_lay h, pd_depth] <;> rfl
theorem sh_tup {xs : List V} (h : xs.all okV = true) : SeqAt.shaped (.tuple (xs.map pd)) = true := by
  show (PyData.canLayAll0 (xs.map pd) && decide (PyData.depthAll (xs.map pd) + 1 ≤ 64)) = true
  rw [pd_layAll h, pd_depthAll] <;> rfl
theorem sh_lst {xs : List V} (h : xs.all okV = true) : SeqAt.shaped (.list (xs.map pd)) = true := sh_tup h
theorem dp_tup {K : PySem.W.Frag} {H : Hp} {a : Addr} {xs : List V} (s : SqT K H a xs) (h : xs.all okV = true) : Dp K H (.ref a) (.tuple (xs.map pd)) := .tup s (pd_all h)
theorem dp_lst {K : PySem.W.Frag} {H : Hp} {a : Addr} {xs : List V} (s : SqL K H a xs) (h : xs.all okV = true) : Dp K H (.ref a) (.list (xs.map pd)) := .lst s (pd_all h)
theorem eqv_self {d : PyData} (h : SeqAt.shaped d = true) : PyData.eqv d d = true := SeqAt.eqv_refl d (SeqAt.canLay_of_shaped h)

/-! ### numbers -/
def numT (x : Str) : Option Int := match tl x with
  | [] => none
  | c :: r => if decide ((c :: r).length ≤ 6) && (decide (c ≠ 48) && (c :: r).all (fun c => decide (c ∈ tl figs))) then some ((NumText.digitsVal (c :: r) : Nat) : Int) else none
def numV : V → V
  | .str x => match numT x with
    | some n => .int n
    | none => .non
  | _ => .non
theorem tl_figs : tl figs = [48, 49, 50, 51, 52, 53, 54, 55, 56, 57] := by decide +kernel
theorem fig_iff {c : Nat} : c ∈ tl figs ↔ 48 ≤ c ∧ c ≤ 57 := by
  rw [tl_figs]
  simp only [List.mem_cons, List.not_mem_nil, or_false]
  omega
theorem digits_of {l : List Nat} (h : (l.all fun c => decide (c ∈ tl figs)) = true) : NumText.AllDigits l := by
  intro c hc
  exact fig_iff.mp (of_decide_eq_true (List.all_eq_true.mp h c hc))
/-- a number that is told: its text -/
theorem numT_some {x : Str} {n : Int} (h : numT x = some n) : (Str.ofString (toString n) = x ∧ intText? x = some n) ∧ 1 ≤ n ∧ (n < 1000000 ∧ x.length ≤ 6) := by
  unfold numT at h
  cases e : tl x with
  | nil => rw [e] at h; cases h
  | cons c r =>
    rw [e] at h
    simp only at h
    by_cases q : (decide ((c :: r).length ≤ 6) && (decide (c ≠ 48) && (c :: r).all (fun c => decide (c ∈ tl figs)))) = true
    · rw [if_pos q] at h
      cases h
      rw [Bool.and_eq_true, Bool.and_eq_true] at q
      have q1 : (c :: r).length ≤ 6 := of_decide_eq_true q.1
      have q2 : c ≠ 48 := of_decide_eq_true q.2.1
      have q3 := digits_of q.2.2
      have hc := q3 c (List.mem_cons_self ..)
      have hlen : x.length = (c :: r).length := by rw [len_tl, e]
      have td := NumText.toDigits_digitsVal r.length (c :: r) rfl q3 (.inr ⟨c, r, rfl, by omega⟩)
      have back : Str.ofString (toString (((NumText.digitsVal (c :: r) : Nat) : Nat) : Int)) = x := by
        refine ext_tl ?_
        rw [tl_num]
        unfold numL
        rw [td, e, List.map_map]
        refine (List.map_congr_left fun d hd => ?_).trans (List.map_id _)
        have := q3 d hd
        show (Char.ofNat d).toNat = d
        have v : d.isValidChar := Or.inl (by omega)
        simp [Char.ofNat, v, Char.toNat, Char.ofNatAux]
      refine ⟨⟨back, ?_⟩, ?_, ?_, by omega⟩
      · have := PySem.intText_digits (x := x) (by show NumText.AllDigits (tl x); rw [e]; exact q3) (by show tl x ≠ []; rw [e]; simp) (by omega)
        rw [this]
        show some ((NumText.digitsVal (tl x) : Nat) : Int) = _
        rw [e]
      · have := NumText.digitsVal_pos (c := c) (cs := r) (by omega)
        omega
      · have lt : ∀ (l : List Nat) (a : Nat), NumText.AllDigits l → l.foldl (fun acc c => acc * 10 + (c - 48)) a < (a + 1) * 10 ^ l.length := by
          intro l
          induction l with
          | nil => intro a _; simp
          | cons d l ih =>
            intro a ha
            have hd := ha d (List.mem_cons_self ..)
            have i2 := ih (a * 10 + (d - 48)) (fun z hz => ha z (List.mem_cons_of_mem _ hz))
            rw [List.foldl_cons, List.length_cons, Nat.pow_succ]
            have m : (a * 10 + (d - 48) + 1) * 10 ^ l.length ≤ ((a + 1) * 10) * 10 ^ l.length := Nat.mul_le_mul_right _ (by omega)
            have e9 : (a + 1) * (10 ^ l.length * 10) = ((a + 1) * 10) * 10 ^ l.length := by
              rw [Nat.mul_comm (10 ^ l.length) 10, Nat.mul_assoc]
            omega
        have l1 := lt (c :: r) 0 q3
        have p6 : 10 ^ (c :: r).length ≤ 10 ^ 6 := Nat.pow_le_pow_right (by decide) q1
        have : NumText.digitsVal (c :: r) < 1000000 := by
          show (c :: r).foldl _ 0 < _
          omega
        omega
    · rw [if_neg q] at h
      cases h

/-! ### parts -/
theorem pre_one {s c : Nat} {r : List Nat} : pre [s] (c :: r) = decide (c = s) := by
  show ([c] == [s]) = decide (c = s)
  by_cases h : c = s
  · subst h
    simp
  · rw [decide_eq_false h]
    simpa using h
theorem spl_ne {s : Nat} : ∀ (l acc : List Nat), spl [s] 0 acc l ≠ []
  | [], acc => by rw [spl_nil]; simp
  | c :: r, acc => by
    by_cases h : c = s
    · rw [spl_hit (by rw [pre_one]; exact decide_eq_true h)]
      simp
    · rw [spl_miss (by rw [pre_one]; exact decide_eq_false h)]
      exact spl_ne r _
theorem joinL_cons {S p : List Nat} {L : List (List Nat)} (h : L ≠ []) : joinL S (p :: L) = p ++ (S ++ joinL S L) := by
  cases L with
  | nil => exact absurd rfl h
  | cons q r => rfl
theorem join_spl {s : Nat} : ∀ (l acc : List Nat), joinL [s] (spl [s] 0 acc l) = acc ++ l
  | [], acc => by rw [spl_nil]; show acc = acc ++ []; simp
  | c :: r, acc => by
    by_cases h : c = s
    · rw [spl_hit (by rw [pre_one]; exact decide_eq_true h)]
      show joinL [s] (acc :: spl [s] 0 [] r) = _
      rw [joinL_cons (spl_ne _ _)]
      show acc ++ ([s] ++ joinL [s] (spl [s] 0 [] r)) = _
      rw [join_spl r [], h]
      simp
    · rw [spl_miss (by rw [pre_one]; exact decide_eq_false h), join_spl r (acc ++ [c])]
      simp
theorem joinL_len {S p : List Nat} : ∀ {L : List (List Nat)}, p ∈ L → p.length ≤ (joinL S L).length
  | [], h => by simp at h
  | [q], h => by
    obtain rfl := List.mem_singleton.mp h
    exact Nat.le_refl _
  | q :: q' :: r, h => by
    show p.length ≤ (q ++ (S ++ joinL S (q' :: r))).length
    rw [List.length_append, List.length_append]
    rcases List.mem_cons.mp h with rfl | h
    · omega
    · have := joinL_len (S := S) h
      omega
theorem joinL_mem {S p : List Nat} {c : Nat} (hc : c ∈ p) : ∀ {L : List (List Nat)}, p ∈ L → c ∈ joinL S L
  | [], h => by simp at h
  | [q], h => by
    obtain rfl := List.mem_singleton.mp h
    exact hc
  | q :: q' :: r, h => by
    show c ∈ q ++ (S ++ joinL S (q' :: r))
    rcases List.mem_cons.mp h with rfl | h
    · exact List.mem_append_left _ hc
    · exact List.mem_append_right _ (List.mem_append_right _ (joinL_mem hc h))
/-- one sign as a separator -/
structure Sep (y : Str) (s : Nat) : Prop where
  tl : tl y = [s]
  low : y.cps.all (· < 256) = true
theorem Sep.spl {y : Str} {s : Nat} (h : Sep y s) (x : Str) : (Txt.split x y).map TL.tl = TL.spl [s] 0 [] (TL.tl x) := by
  rw [split_spl x y (by rw [h.tl]; simp) (kind_ok h.low), h.tl]
theorem Sep.join {y : Str} {s : Nat} (h : Sep y s) (x : Str) : joinL [s] ((Txt.split x y).map TL.tl) = TL.tl x := by
  rw [h.spl, join_spl, List.nil_append]
theorem Sep.len {y : Str} {s : Nat} (h : Sep y s) {x p : Str} (hp : p ∈ Txt.split x y) : p.length ≤ x.length := by
  have := joinL_len (S := [s]) (List.mem_map_of_mem (f := TL.tl) hp)
  rw [h.join] at this
  rw [len_tl, len_tl]
  exact this
theorem Sep.mem {y : Str} {s : Nat} (h : Sep y s) {x p : Str} (hp : p ∈ Txt.split x y) {c : Nat} (hc : c ∈ TL.tl p) : c ∈ TL.tl x := by
  have := joinL_mem (S := [s]) hc (List.mem_map_of_mem (f := TL.tl) hp)
  rw [h.join] at this
  exact this
theorem Sep.two {y : Str} {s : Nat} (h : Sep y s) {x a b : Str} (e : Txt.split x y = [a, b]) : a ++ y ++ b = x := by
  refine ext_tl ?_
  rw [← h.join x, e, tl_append, tl_append, h.tl]
  show _ = TL.tl a ++ ([s] ++ TL.tl b)
  rw [List.append_assoc]
theorem Sep.three {y : Str} {s : Nat} (h : Sep y s) {x a b c : Str} (e : Txt.split x y = [a, b, c]) : a ++ y ++ b ++ y ++ c = x := by
  refine ext_tl ?_
  rw [← h.join x, e, tl_append, tl_append, tl_append, tl_append, h.tl]
  show _ = TL.tl a ++ ([s] ++ (TL.tl b ++ ([s] ++ TL.tl c)))
  simp only [List.append_assoc]
theorem sepDot : Sep "." 46 := ⟨by decide +kernel, by decide +kernel⟩
theorem sepBlank : Sep " " 32 := ⟨by decide +kernel, by decide +kernel⟩
end K1
set_option Elab.async false
set_option linter.all false
set_option maxRecDepth 100000
set_option maxHeartbeats 400000
/-! The program's defs: number_of, name_of, line_of, name_text, line_text, words_of. -/
namespace K1
open PySem PySem.Spec PyProof.Rows L2

theorem isS_no {v : V} (e : isS v = false) : numV v = .non := by
  cases v with
  | str x => cases e
  | _ => rfl
theorem zero_txt {c : Nat} : decide (V.str ⟨#[c]⟩ = V.str "0") = decide (c = 48) := by
  have e0 : ("0" : Str) = ⟨#[48]⟩ := by decide +kernel
  rw [e0]
  by_cases h : c = 48
  · subst h
    rw [decide_eq_true rfl, decide_eq_true rfl]
  · rw [decide_eq_false h, decide_eq_false]
    intro z
    injection z with z
    injection z with z
    exact h (by simpa using z)
def nameS (x : Str) : Option (List V) := match Txt.split x "." with
  | [a, b] => if nameL (some [.str a, numV (.str b)]) then some [.str a, numV (.str b)] else none
  | _ => none
def nameV : V → Option (List V)
  | .str x => nameS x
  | _ => none
def lineS (x : Str) : Option (List V) := if x = "head" then some [.str "", .int 0, .int 0] else if x = "foot" then some [.str "", .int 0, .int 1] else match Txt.split x "." with
  | [a, b, c] => if putL (some [.str a, numV (.str b), numV (.str c)]) then some [.str a, numV (.str b), numV (.str c)] else none
  | _ => none
def lineV : V → Option (List V)
  | .str x => lineS x
  | _ => none
def wordsV : V → Option (List Str)
  | .str x => if inV (.str "") ((Txt.split x " ").map V.str) then none else some (Txt.split x " ")
  | _ => none
/-- a text is small -/
def Small (v : V) : Prop := ∀ x, v = .str x → x.length + 2 ≤ 1000000
theorem numV_th {K : PySem.W.Frag} {H : Hp} (v : V) : ∃ m o, Th K H (numV v) m o := by
  cases v with
  | str x =>
    show ∃ m o, Th K H (match numT x with | some n => .int n | none => .non) m o
    cases numT x with
    | none => exact ⟨_, _, .non⟩
    | some n => exact ⟨_, _, .int n⟩
  | _ => exact ⟨_, _, .non⟩
theorem lt_line {n : Nat} (h : n + 2 ≤ 1000000) : n + 2 ≤ sizeLine := Nat.le_trans h (by decide)
theorem le_line {n : Nat} (h : n + 2 ≤ 1000000) : n ≤ sizeLine := Nat.le_trans (Nat.le_add_right n 2) (lt_line h)
theorem atS (ws : List Str) (j : Nat) (h : j < ws.length) : atI (ws.map V.str) ((j : Nat) : Int) = some (.str ws[j]) := atI_nat (by rw [List.getElem?_map, List.getElem?_eq_getElem h]; rfl)

theorem cls_dig : ∀ c, c < 128 → Unicode.isDigit c = decide (48 ≤ c ∧ c ≤ 57) := by decide +kernel
/-- the program's two questions are one -/
theorem dig_eq (x : Str) : (Txt.isdigit x && Txt.isascii x) = (decide (0 < x.length) && (TL.tl x).all fun c => decide (c ∈ TL.tl figs)) := by
  have ea : Txt.isascii x = (TL.tl x).all (fun c => decide (c < 128)) := by unfold Txt.isascii; rw [← Array.all_toList]
  have eb : Txt.isdigit x = (decide (0 < x.length) && (TL.tl x).all Unicode.isDigit) := by unfold Txt.isdigit; rw [← Array.all_toList]
  rw [ea, eb, Bool.and_assoc]
  congr 1
  generalize TL.tl x = l
  rw [Bool.eq_iff_iff]
  simp only [Bool.and_eq_true, decide_eq_true_eq, List.all_eq_true, fig_iff]
  constructor
  · rintro ⟨h1, h2⟩ c hc
    have q := h1 c hc
    rw [cls_dig c (h2 c hc)] at q
    exact of_decide_eq_true q
  · intro h
    have h2 : ∀ c ∈ l, c < 128 := fun c hc => by have := h c hc; omega
    exact ⟨fun c hc => by rw [cls_dig c (h2 c hc)]; exact decide_eq_true (h c hc), h2⟩

section
variable {P : Program} {w : World} {K : PySem.W.Frag} {mg : Str → Option Value} {base : Heap} {T : Tp}

/-! ### number_of -/
def spNumO (K : PySem.W.Frag) (T : Tp) : Sp := fun vs H Q _ => ∃ v n o, vs = [v] ∧ Th K H v n o ∧ TG T H ∧ ∀ H', Go T D0 H H' → Q (numV v) H'
/-! ### name_of -/
def spNameO (K : PySem.W.Frag) (T : Tp) : Sp := fun vs H Q _ => ∃ v n o, vs = [v] ∧ Th K H v n o ∧ Small v ∧ TG T H ∧ (∀ H', Go T D0 H H' → nameV v = none → Q .non H') ∧ ∀ H' p xs, Go T D0 H H' → nameV v = some xs → SqT K H' p xs → Q (.ref p) H'
/-! ### line_of -/
def spLineO (K : PySem.W.Frag) (T : Tp) : Sp := fun vs H Q _ => ∃ v n o, vs = [v] ∧ Th K H v n o ∧ Small v ∧ TG T H ∧ (∀ H', Go T D0 H H' → lineV v = none → Q .non H') ∧ ∀ H' p xs, Go T D0 H H' → lineV v = some xs → SqT K H' p xs → Q (.ref p) H'
/-! ### words_of -/
def spWordsO (K : PySem.W.Frag) (T : Tp) : Sp := fun vs H Q _ => ∃ v n o, vs = [v] ∧ Th K H v n o ∧ Small v ∧ TG T H ∧ (∀ H', Go T D0 H H' → wordsV v = none → Q .non H') ∧ ∀ H' p ws, Go T D0 H H' → H p = none → wordsV v = some ws → H' p = some (.lst (ws.map V.str)) → Q (.ref p) H'
/-! ### name_text, line_text -/
theorem len_num {i : Int} (h0 : 0 ≤ i) (h1 : i < 1000000) : (Str.ofString (toString i)).length ≤ 10 := by
  obtain ⟨n, rfl⟩ := Int.eq_ofNat_of_zero_le h0
  rw [TL.len_tl, TL.tl_num]
  unfold TL.numL
  rw [List.length_map]
  exact Nat.le_trans (PyProof.Rows.digits10_le (k := 6) (by omega) (by omega)) (by omega)
theorem log_small {i : Int} (h0 : 0 ≤ i) (h1 : i < 1000000) : i.natAbs.log2 < 1920 := by
  by_cases z : i.natAbs = 0
  · rw [z]
    decide
  · have : i.natAbs.log2 < 20 := (Nat.log2_lt z).mpr (by omega)
    omega
def spNameT (K : PySem.W.Frag) : Sp := fun vs H Q _ => ∃ p a i, vs = [.ref p] ∧ SqT K H p [.str a, .int i] ∧ a.length ≤ 1000000 ∧ 0 ≤ i ∧ i < 1000000 ∧ Q (.str (a ++ "." ++ Str.ofString (toString i))) H
theorem empty_app (a : Str) : Str.empty ++ a = a := TL.ext_tl (by rw [TL.tl_append]; rfl)
def lineTxt (xs : List V) : Option Str := match xs with
  | [.str a, .int i, .int j] => if xs = [.str "", .int 0, .int 0] then some "head" else if xs = [.str "", .int 0, .int 1] then some "foot" else some (a ++ "." ++ Str.ofString (toString i) ++ "." ++ Str.ofString (toString j))
  | _ => none
def spLineT (K : PySem.W.Frag) : Sp := fun vs H Q _ => ∃ p a i j, vs = [.ref p] ∧ SqT K H p [.str a, .int i, .int j] ∧ PyData.strOk a = true ∧ a.length ≤ 1000000 ∧ 0 ≤ i ∧ i < 1000000 ∧ 0 ≤ j ∧ j < 1000000 ∧
  ∀ z, lineTxt [.str a, .int i, .int j] = some z → Q (.str z) H
theorem eqv_line {a b : Str} {i j k l : Int} : PyData.eqv (.tuple [.str a, .int i, .int j]) (.tuple [.str b, .int k, .int l]) = decide ([V.str a, .int i, .int j] = [.str b, .int k, .int l]) := by
  show (a == b && (i == k && (j == l && true))) = _
  by_cases h : [V.str a, .int i, .int j] = [.str b, .int k, .int l]
  · rw [decide_eq_true h]
    cases h
    simp
  · rw [decide_eq_false h]
    by_cases h1 : a = b
    · by_cases h2 : i = k
      · by_cases h3 : j = l
        · exact absurd (by rw [h1, h2, h3]) h
        · simp [h3]
      · simp [h2]
    · simp [h1]
end
end K1
set_option Elab.async false
set_option linter.all false
set_option maxRecDepth 100000
set_option maxHeartbeats 4000000
/-! The program's defs: is_triple, is_end. -/
namespace K1
open PySem PySem.Spec PyProof.Rows L2

def triL : Option (List V) → Bool
  | some [p, q, r] => (isI q && isI r) && isS p
  | _ => false
theorem triL_len {xs : List V} (h : ¬ xs.length = 3) : triL (some xs) = false := by
  match xs with
  | [] => rfl
  | [_] => rfl
  | [_, _] => rfl
  | [_, _, _] => exact absurd rfl h
  | _ :: _ :: _ :: _ :: _ => rfl
/-- the texts of a tuple are texts -/
def StAll (o : Option (List V)) : Prop := ∀ xs, o = some xs → ∀ x, V.str x ∈ xs → PyData.strOk x = true
theorem endL_line (a : Str) (i j : Int) : endL (some [V.str a, .int i, .int j]) = (decide ([V.str a, .int i, .int j] = [.str "", .int 0, .int 0]) || decide ([V.str a, .int i, .int j] = [.str "", .int 0, .int 1])) := by
  show ((decide (V.str a = .str "") && (decide (0 ≤ i) && decide (i ≤ 0))) && (decide (0 ≤ j) && decide (j ≤ 1))) = _
  rw [Bool.eq_iff_iff]
  simp only [Bool.and_eq_true, Bool.or_eq_true, decide_eq_true_eq, List.cons.injEq, V.int.injEq, and_true]
  constructor
  · rintro ⟨⟨h1, h2, h3⟩, h4, h5⟩
    by_cases z : j = 0
    · exact .inl ⟨h1, by omega, z⟩
    · exact .inr ⟨h1, by omega, by omega⟩
  · rintro (⟨h1, h2, h3⟩ | ⟨h1, h2, h3⟩)
    · exact ⟨⟨h1, by omega, by omega⟩, by omega, by omega⟩
    · exact ⟨⟨h1, by omega, by omega⟩, by omega, by omega⟩
theorem endL_no {xs : List V} (h : triL (some xs) = false) : endL (some xs) = false := by
  match xs with
  | [] => rfl
  | [_] => rfl
  | [_, _] => rfl
  | _ :: _ :: _ :: _ :: _ => rfl
  | [p, q, r] =>
    have h' : ((isI q && isI r) && isS p) = false := h
    show ((decide (p = .str "") && amgV q 0 0) && amgV r 0 1) = false
    cases e1 : isI q with
    | false => rw [amgV_no e1, Bool.and_false, Bool.false_and]
    | true =>
      cases e2 : isI r with
      | false => rw [amgV_no e2, Bool.and_false]
      | true =>
        rw [e1, e2] at h'
        have e3 : decide (p = .str "") = false := by
          refine decide_eq_false fun z => ?_
          rw [z] at h'
          cases h'
        rw [e3, Bool.false_and, Bool.false_and]
theorem endL_none (h : triL none = false) : endL none = false := rfl

section
variable {P : Program} {w : World} {K : PySem.W.Frag} {mg : Str → Option Value} {base : Heap} {T : Tp}
/-! ### is_triple -/
def spTriple (K : PySem.W.Frag) : Sp := fun vs H Q _ => ∃ v n o, vs = [v] ∧ Th K H v n o ∧ ThAll K H o ∧ Q (.bl (triL (o))) H
theorem flat_b {r : V} (h : isI r = true) (b : Bool) : flatV r = true ∧ decide (r = .bl b) = false := by
  cases r with
  | int i => exact ⟨rfl, decide_eq_false fun z => by cases z⟩
  | _ => cases h
theorem flat_n {r : V} (h : (isI r || isB r) = true) : flatV r = true ∧ (isI r = true ∨ r = .bl true ∨ r = .bl false) := by
  cases r with
  | int i => exact ⟨rfl, .inl rfl⟩
  | bl b => cases b <;> exact ⟨rfl, by simp⟩
  | _ => cases h
theorem ok_triple {f : Addr} {fd : FuncData} {k : Nat} (F : Fun K "is_triple" "is_triple" sIsTriple f fd) (M : Mg K mg) :
    FnOk P w K mg base CX0 (k + 1) f fd ["thing"] (spTriple K) := by
  refine F.ok scIsTriple (fun vs H Q E h => ?_) (fun cdv A outer s H vs Q E hr h => ?_)
  · obtain ⟨v, n, o, rfl, _⟩ := h
    rfl
  · obtain ⟨v, n, o, rfl, th, al, q⟩ := h
    refine ⟨_, pss_cons (ps_if (PW.pt (pw_or (pt_not (pt_val (pe_callB call_isi (by rfl) M.ins boot_isinstance (pa_cons (pv 0) (pa_cons (pe_bltn (v := .ty "tuple") (by rfl) M.tuple_ (by decide +kernel) rfl) pa_nil)))))
        (pw_or1 (pt_cmpR op_ne (pe_callB call_len_seq (by rfl) M.len_ PySem.boot_len (pa_cons (pv 0) pa_nil)) pe_int (nomark _)))))
        (pss_one (ps_ret pe_bl)) pss_nil)
      (pss_cons (ps_asg (pv 0) (pg_tup (by rfl) (pgs_cons (pg_name (i := 1) scIsTriple.nd rfl (.inl rfl)) (pgs_cons (pg_name (i := 2) scIsTriple.nd rfl (.inl rfl)) (pgs_cons (pg_name (i := 3) scIsTriple.nd rfl (.inl rfl)) pgs_nil)))))
      (pss_cons (ps_if (PW.pt (pw_or (pt_not (pt_val (pe_callB call_isi (by rfl) M.ins boot_isinstance (pa_cons (pv 2) (pa_cons (pe_bltn (v := .ty "int") (by rfl) M.int_ boot_int rfl) pa_nil)))))
          (pw_or (pt_not (pt_val (pe_callB call_isi (by rfl) M.ins boot_isinstance (pa_cons (pv 3) (pa_cons (pe_bltn (v := .ty "int") (by rfl) M.int_ boot_int rfl) pa_nil)))))
          (pw_or1 (pt_not (pt_val (pe_callB call_isi (by rfl) M.ins boot_isinstance (pa_cons (pv 1) (pa_cons (pe_bltn (v := .ty "str") (by rfl) M.str_ boot_str rfl) pa_nil)))))))))
        (pss_one (ps_ret pe_bl)) pss_nil)
      (pss_one (ps_ret (pe_and (pe_cmpR op_isnotB (pv 2) pe_bl (nomark _)) (pe_and (pe_cmpR op_isnotB (pv 2) pe_bl (nomark _)) (pe_and (pe_cmpR op_isnotB (pv 3) pe_bl (nomark _)) (pe_one (pe_cmpR op_isnotB (pv 3) pe_bl (nomark _)))))))))), ?_⟩
    refine ⟨v, rfl, v, .ty "tuple", .type n, .type "tuple", _, rfl, .ty _, th.ty, kit_ty th.ktup, _, rfl, ite2 (fun e => iteT ?_) (fun e => ?_)⟩
    · have e2 : o = none := by
        cases o with
        | none => rfl
        | some _ => cases e
      rw [e2] at q
      exact q
    · obtain ⟨a, xs, rfl, hS, et⟩ := th.tupOf (notnot e)
      rw [et] at q
      refine ⟨.ref a, rfl, a, xs, rfl, .inr hS, rfl, _, rfl, ite2 (fun e1 => ?_) (fun e1 => ?_)⟩
      · have e2 : ¬ xs.length = 3 := by
          intro z
          rw [z] at e1
          exact absurd e1 (by decide)
        rw [triL_len e2] at q
        exact q
      · have e2 : (xs.length : Int) = 3 := by
          have e3 : decide (V.int (xs.length : Int) = V.int 3) = true := by simpa using e1
          exact V.int.inj (of_decide_eq_true e3)
        obtain ⟨p, r, l, rfl⟩ := len3 (xs := xs) (by omega)
        obtain ⟨mp, m'p, tp⟩ := al _ et p (by simp)
        obtain ⟨mr, m'r, tr⟩ := al _ et r (by simp)
        obtain ⟨ml, m'l, tl⟩ := al _ et l (by simp)
        have fin : ∀ b, ((isI r && isI l) && isS p) = b → Q (.bl b) H := fun b e => by
          have q2 : Q (.bl ((isI r && isI l) && isS p)) H := q
          rw [e] at q2
          exact q2
        have nI : ∀ {r : V}, ¬ (isI r || isB r) = true → isI r = false := fun {r} h => by
          cases r with
          | int i => exact absurd rfl h
          | _ => rfl
        refine ⟨.ref a, rfl, a, _, rfl, hS, rfl, p, [r, l], rfl, r, [l], rfl, l, [], rfl, rfl, r, rfl, r, .ty "int", .type mr, .type "int", _, rfl, .ty _, tr.ty, kit_ty tr.kint, _, rfl, ite2 (fun e3 => iteT (fin _ ?_)) (fun e3 => ?_)⟩
        · rw [nI (fun z => by rw [z] at e3; cases e3), Bool.false_and, Bool.false_and]
        · obtain ⟨fr, hr'⟩ := flat_n (notnot e3)
          refine ⟨l, rfl, l, .ty "int", .type ml, .type "int", _, rfl, .ty _, tl.ty, kit_ty tl.kint, _, rfl, ite2 (fun e4 => iteT (fin _ ?_)) (fun e4 => ?_)⟩
          · rw [nI (r := l) (fun z => by rw [z] at e4; cases e4), Bool.and_false, Bool.false_and]
          · obtain ⟨fl, hl'⟩ := flat_n (notnot e4)
            refine ⟨p, rfl, p, .ty "str", .type mp, .type "str", _, rfl, .ty _, tp.ty, kit_ty tp.kstr, _, rfl, ite2 (fun e5 => fin _ ?_) (fun e5 => ?_)⟩
            · have e6 : isS p = false := by simpa using e5
              rw [e6, Bool.and_false]
            · have e6 : isS p = true := notnot e5
              refine ⟨r, rfl, true, fr, rfl, _, rfl, ite2 (fun e7 => ⟨r, rfl, false, fr, rfl, _, rfl, ite2 (fun e8 => ⟨l, rfl, true, fl, rfl, _, rfl, ite2 (fun e9 => ⟨l, rfl, false, fl, rfl, ?_⟩) (fun e9 => fin _ ?_)⟩) (fun e8 => fin _ ?_)⟩) (fun e7 => fin _ ?_)⟩
              · have ir : isI r = true := by
                  rcases hr' with h | rfl | rfl
                  · exact h
                  · exact absurd e7 (by decide)
                  · exact absurd e8 (by decide)
                rcases hl' with h | rfl | rfl
                · rw [(flat_b h false).2]
                  exact fin _ (by rw [ir, h, e6] <;> rfl)
                · exact absurd e9 (by decide)
                · exact fin _ (by rw [ir] <;> rfl)
              · rcases hl' with h | rfl | rfl
                · rw [(flat_b h true).2] at e9
                  exact absurd rfl e9
                · show ((isI r && false) && isS p) = false
                  rw [Bool.and_false, Bool.false_and]
                · show ((isI r && false) && isS p) = false
                  rw [Bool.and_false, Bool.false_and]
              · rcases hr' with h | rfl | rfl
                · rw [(flat_b h false).2] at e8
                  exact absurd rfl e8
                · rfl
                · rfl
              · rcases hr' with h | rfl | rfl
                · rw [(flat_b h true).2] at e7
                  exact absurd rfl e7
                · rfl
                · rfl

/-! ### is_end -/
def spEnd (K : PySem.W.Frag) : Sp := fun vs H Q _ => ∃ v n o, vs = [v] ∧ Th K H v n o ∧ ThAll K H o ∧ StAll (o) ∧ Q (.bl (endL (o))) H
theorem ok_end {f : Addr} {fd : FuncData} {k : Nat} (F : Fun K "is_end" "is_end" sEnd f fd) (M : Mg K mg) (cT : Cal P w K mg base k "is_triple" ["thing"] (spTriple K)) :
    FnOk P w K mg base CX0 (k + 1) f fd ["thing"] (spEnd K) := by
  obtain ⟨aH, mH, sH⟩ := M.hd
  obtain ⟨aF, mF, sF⟩ := M.ft
  refine F.ok scEnd (fun vs H Q E h => ?_) (fun cdv A outer s H vs Q E hr h => ?_)
  · obtain ⟨v, n, o, rfl, _⟩ := h
    rfl
  · obtain ⟨v, n, o, rfl, th, al, st, q⟩ := h
    refine ⟨_, pss_one (ps_ret (pe_and (pe_cal cT hr (by rfl) (pa_cons (pv 0) pa_nil)) (pe_one (pe_or (pe_cmpR (op_eqD hr.units) (pv 0) (pe_glob (v := .ref aH) (by rfl) mH rfl) (nomark _)) (pe_one (pe_cmpR (op_eqD hr.units) (pv 0) (pe_glob (v := .ref aF) (by rfl) mF rfl) (nomark _))))))), ?_⟩
    refine ⟨v, rfl, v, n, o, rfl, th, al, _, rfl, ite2 (fun e => ?_) (fun e => ?_)⟩
    · obtain ⟨a, xs, rfl, hS, et⟩ := th.tupOf (by cases o with | none => cases e | some _ => rfl)
      rw [et] at q e st
      have e3 : xs.length = 3 := Classical.byContradiction fun z => by
        rw [triL_len z] at e
        cases e
      obtain ⟨p, r, l, rfl⟩ := len3 e3
      have e' : ((isI r && isI l) && isS p) = true := e
      rw [Bool.and_eq_true, Bool.and_eq_true] at e'
      obtain ⟨i, rfl⟩ := intOf e'.1.1
      obtain ⟨j, rfl⟩ := intOf e'.1.2
      obtain ⟨x, rfl⟩ := strOfV e'.2
      have ok : PyData.strOk x = true := st _ rfl x (by simp)
      have okL : [V.str x, .int i, .int j].all okV = true := by
        show (PyData.strOk x && true) = true
        rw [ok] <;> rfl
      have dL : Dp K H (.ref a) (.tuple [.str x, .int i, .int j]) := dp_tup hS okL
      have shL : SeqAt.shaped (.tuple [.str x, .int i, .int j]) = true := sh_tup (xs := [.str x, .int i, .int j]) okL
      rw [endL_line] at q
      refine ⟨.ref a, rfl, _, _, dL, dp_tup (sH H) (by decide +kernel), shL, by decide +kernel, ?_⟩
      show ∃ k, V.bl (PyData.eqv (.tuple [.str x, .int i, .int j]) (.tuple [.str "", .int 0, .int 0])) = .bl k ∧ _
      refine ⟨_, rfl, ?_⟩
      rw [eqv_line]
      refine ite2 (fun e4 => ?_) (fun e4 => ?_)
      · rw [e4, Bool.true_or] at q
        exact q
      · rw [Bool.eq_false_iff.mpr e4, Bool.false_or] at q
        refine ⟨.ref a, rfl, _, _, dL, dp_tup (sF H) (by decide +kernel), shL, by decide +kernel, ?_⟩
        show Q (.bl (PyData.eqv (.tuple [.str x, .int i, .int j]) (.tuple [.str "", .int 0, .int 1]))) H
        rw [eqv_line]
        exact q
    · have e2 : endL (o) = false := by
        cases z : (o) with
        | none => rfl
        | some xs =>
          rw [z] at e
          exact endL_no (Bool.eq_false_iff.mpr e)
      rw [e2] at q
      exact q
end
end K1
set_option Elab.async false
set_option linter.all false
set_option maxRecDepth 100000
set_option maxHeartbeats 4000000
/-! The law's own defs: numbers mixed, digits drawn. -/
namespace K1
open PySem PySem.Spec PyProof.Rows L2

/-- the drawing state: what is left, and more -/
def stD (a b : Int) : List (Key × V) := [(.inr ("left" : Str), .int a), (.inr ("more" : Str), .int b)]
theorem neLM' : ¬ (("left" : Str) = ("more" : Str)) := by decide +kernel
theorem neML' : ¬ (("more" : Str) = ("left" : Str)) := by decide +kernel
theorem neLM : ¬ (Sum.inr ("left" : Str) : Key) = Sum.inr ("more" : Str) := fun z => neLM' (Sum.inr.inj z)
theorem st_left (a b : Int) : valV (stD a b) (.inr ("left" : Str)) = some (.int a) := valV_pos rfl
theorem st_more (a b : Int) : valV (stD a b) (.inr ("more" : Str)) = some (.int b) := (valV_neg neLM).trans (valV_pos rfl)
theorem st_putL (a b c : Int) : putK (stD a b) (.inr ("left" : Str)) (.int c) = stD c b := by
  simp [putK, stD, neML']
theorem st_putM (a b c : Int) : putK (stD a b) (.inr ("more" : Str)) (.int c) = stD a c := by
  simp [putK, stD, neLM', neML']
theorem st_small {n : Nat} (h : n ≤ 10) : n < sizeLine := Nat.lt_of_le_of_lt h (by decide)

section
variable {P : Program} {w : World} {K : PySem.W.Frag} {mg : Str → Option Value} {base : Heap} {T : Tp}

/-! ### _law_mixed -/
def spMixed : Sp := fun vs H Q _ => ∃ c k : Int, vs = [.int c, .int k] ∧ 0 ≤ k ∧ k ≤ 1000 ∧ ∀ r : Int, 0 ≤ r → r < 2147483647 → Q (.int r) H
theorem ok_mixed {f : Addr} {fd : FuncData} {k : Nat} (F : Fun K "_law_mixed" "_law_mixed" sMixed f fd) : FnOk P w K mg base CX0 (k + 1) f fd ["_law_cell", "_law_k"] spMixed := by
  refine F.ok scMixed (fun vs H Q E h => ?_) (fun cdv A outer s H vs Q E hr h => ?_)
  · obtain ⟨c, k, rfl, _⟩ := h
    rfl
  · obtain ⟨c, j, rfl, h0, h1, q⟩ := h
    refine ⟨_, pss_cons (ps_set (i := 0) scMixed.nd rfl (.inl rfl) (pe_op op_add (pe_op op_add (pe_op op_mod (pv 0) pe_int) (pe_op op_mul pe_int (pv 1))) pe_int))
      (pss_one (ps_ret (pe_op op_mod (pe_op op_mul (pe_op op_mod (pe_op op_mul (pv 0) (pv 0)) pe_int) pe_int) pe_int))), ?_⟩
    have m0 := Int.emod_nonneg c (show (1000000007 : Int) ≠ 0 by decide)
    have m1 := Int.emod_lt_of_pos c (show (0 : Int) < 1000000007 by decide)
    refine ⟨.int c, rfl, c, 1000000007, rfl, rfl, (show (0 : Int) < 1000000007 by decide), .int j, rfl, 7919, j, rfl, rfl, .inl (by decide), _, _, rfl, rfl, _, _, rfl, rfl, ?_⟩
    refine ⟨_, rfl, _, rfl, _, _, rfl, rfl, .inl ⟨by omega, by omega⟩, _, _, rfl, rfl, (show (0 : Int) < 1000000007 by decide), _, _, rfl, rfl, .inr (by decide), _, _, rfl, rfl, (show (0 : Int) < 2147483647 by decide), ?_⟩
    exact q _ (Int.emod_nonneg _ (by decide)) (Int.emod_lt_of_pos _ (by decide))

/-! ### _law_draw -/
def spDraw : Sp := fun vs H Q _ => ∃ c k : Int, vs = [.int c, .int k] ∧ 0 ≤ k ∧ k ≤ 900 ∧ ∀ d a b, 0 ≤ a → 0 ≤ b → H d = none → Q (.ref d) (upd H d (.dK (stD a b)))
theorem ok_draw {f : Addr} {fd : FuncData} {k : Nat} (F : Fun K "_law_draw" "_law_draw" sDraw f fd) (cM : Cal P w K mg base k "_law_mixed" ["_law_cell", "_law_k"] spMixed) : FnOk P w K mg base CX0 (k + 1) f fd ["_law_cell", "_law_k"] spDraw := by
  refine F.ok scDraw (fun vs H Q E h => ?_) (fun cdv A outer s H vs Q E hr h => ?_)
  · obtain ⟨c, k, rfl, _⟩ := h
    rfl
  · obtain ⟨c, j, rfl, h0, h1, q⟩ := h
    refine ⟨_, pss_cons (ps_set (i := 2) scDraw.nd rfl (.inl rfl) (pe_cal cM hr (by rfl) (pa_cons (pv 0) (pa_cons (pv 1) pa_nil))))
      (pss_cons (ps_set (i := 3) scDraw.nd rfl (.inl rfl) (pe_op op_add (pe_op op_add
        (pe_op op_mul (pe_cal cM hr (by rfl) (pa_cons (pv 2) (pa_cons (pe_op op_add (pv 1) pe_int) pa_nil))) (pe_op op_pow pe_int pe_int))
        (pe_op op_mul (pe_cal cM hr (by rfl) (pa_cons (pv 2) (pa_cons (pe_op op_add (pv 1) pe_int) pa_nil))) pe_int)) (pv 2)))
      (pss_one (ps_ret (pe_disp (pps_cons pe_str (pe_ifExp (pt_cmpR op_ge (pv 0) (pe_op op_pow pe_int pe_int) (nomark _)) (pv 0) (pv 3))
        (pps_cons pe_str (pe_ifExp (pt_cmpR op_ge (pv 0) (pe_op op_pow pe_int pe_int) (nomark _)) (pv 3) pe_int) pps_nil)) (by rfl) (by rfl) (fun z => by cases z) (by decide))))), ?_⟩
    refine ⟨.int c, rfl, .int j, rfl, c, j, rfl, h0, by omega, fun r r0 r1 => ?_⟩
    refine ⟨.int r, rfl, .int j, rfl, j, 1, rfl, rfl, r, j + 1, rfl, by omega, by omega, fun r2 a0 a1 => ?_⟩
    refine ⟨2147483647, 2, rfl, rfl, ⟨by decide, by decide, by decide⟩, r2, _, rfl, rfl, .inl (by omega), .int r, rfl, .int j, rfl, j, 2, rfl, rfl, r, j + 2, rfl, by omega, by omega, fun r3 b0 b1 => ?_⟩
    refine ⟨r3, 2147483647, rfl, rfl, .inl (by omega), _, _, rfl, rfl, .int r, rfl, _, r, rfl, rfl, ?_⟩
    have p0 : 0 ≤ r2 * 2147483647 ^ (2 : Int).toNat := Int.mul_nonneg a0 (by decide)
    have p1 : 0 ≤ r3 * 2147483647 := Int.mul_nonneg b0 (by decide)
    have m0 : 0 ≤ r2 * 2147483647 ^ (2 : Int).toNat + r3 * 2147483647 + r := by omega
    intro d hd
    have fin : ∀ a b : Int, 0 ≤ a → 0 ≤ b → (upd H d (.dK [])) d = some (.dK []) ∧ ∃ kvs : List (Key × V), [(V.str "left", V.int a), (V.str "more", V.int b)] = kvs.map (fun kv => (kV kv.1, kv.2)) ∧ kvs.length ≤ 15 ∧ Q (.ref d) (upd (upd H d (.dK [])) d (.dK (mergeK [] kvs))) := by
      intro a b ha hb
      refine ⟨upd_same, stD a b, rfl, by show 2 ≤ 15; decide, ?_⟩
      have e : mergeK [] (stD a b) = stD a b := by
        show putK (putK ([] : List (Key × V)) (Sum.inr ("left" : Str) : Key) (V.int a)) (Sum.inr ("more" : Str) : Key) (V.int b) = _
        rw [putK_new (κ := Key) (V.int a) valV_nil, List.nil_append, putK_new (κ := Key) (V.int b) ((valV_neg neLM).trans valV_nil)] <;> rfl
      rw [e, upd_upd]
      exact q d a b ha hb hd
    have ten : (10 : Int) ^ (18 : Int).toNat = 1000000000000000000 := by decide
    refine ⟨.int c, rfl, 10, 18, rfl, rfl, ⟨by decide, by decide, by decide⟩, c, _, rfl, rfl, _, rfl, ite2 (fun e => ⟨.int c, rfl, .int c, rfl, 10, 18, rfl, rfl, ⟨by decide, by decide, by decide⟩, c, _, rfl, rfl, _, rfl, ?_⟩) (fun e => ⟨_, rfl, .int c, rfl, 10, 18, rfl, rfl, ⟨by decide, by decide, by decide⟩, c, _, rfl, rfl, _, rfl, ?_⟩)⟩
    · have e1 : (10 : Int) ^ (18 : Int).toNat ≤ c := of_decide_eq_true e
      rw [ten] at e1
      exact ite2 (fun e2 => ⟨_, rfl, fin c _ (by omega) m0⟩) (fun e2 => absurd e e2)
    · exact ite2 (fun e2 => absurd e2 e) (fun e2 => fin _ 0 m0 (by omega))

/-! ### _law_digit -/
def spDigit : Sp := fun vs H Q _ => ∃ d a b m, vs = [.ref d, .int m] ∧ H d = some (.dK (stD a b)) ∧ 0 ≤ a ∧ 0 ≤ b ∧ 0 < m ∧ m < 1073741824 ∧
  ∀ r a' b' H', 0 ≤ r → r < m → 0 ≤ a' → 0 ≤ b' → H' d = some (.dK (stD a' b')) → (∀ x o, x ≠ d → H x = some o → H' x = some o) → Q (.int r) H'
theorem ok_digit {f : Addr} {fd : FuncData} {k : Nat} (F : Fun K "_law_digit" "_law_digit" sDigit f fd) : FnOk P w K mg base CX0 (k + 1) f fd ["_law_state", "_law_many"] spDigit := by
  refine F.ok scDigit (fun vs H Q E h => ?_) (fun cdv A outer s H vs Q E hr h => ?_)
  · obtain ⟨d, a, b, m, rfl, _⟩ := h
    rfl
  · obtain ⟨d, a, b, m, rfl, hd, ha, hb, m0, m1, q⟩ := h
    have hu := hu_of hr
    refine ⟨_, pss_cons (ps_if (pt_cmpR op_eq (pe_dget hu (pv 0) pe_str (fun _ _ => rfl)) pe_int (nomark _))
        (pss_one (ps_asg (pe_tup (pa_cons (pe_dget hu (pv 0) pe_str (fun _ _ => rfl)) (pa_cons pe_int pa_nil)))
          (pg_tup (by rfl) (pgs_cons (pg_sub (pv 0) pe_str (set_dict hu)) (pgs_cons (pg_sub (pv 0) pe_str (set_dict hu)) pgs_nil))))) pss_nil)
      (pss_cons (ps_set (i := 2) scDigit.nd rfl (.inl rfl) (pe_op op_mod (pe_dget hu (pv 0) pe_str (fun _ _ => rfl)) (pv 1)))
      (pss_cons (ps_dput hu (pv 0) pe_str (pe_op op_fdivN (pe_dget hu (pv 0) pe_str (fun _ _ => rfl)) (pv 1)) rfl)
      (pss_one (ps_ret (pv 2))))), ?_⟩
    have gl : ∀ {H1 : Hp} {a b : Int}, H1 d = some (.dK (stD a b)) → DGet H1 d (.str "left") (some (.int a)) := fun {H1 a b} e => st_left a b ▸ DGet.k (k := .inr ("left" : Str)) e
    have gm : ∀ {H1 : Hp} {a b : Int}, H1 d = some (.dK (stD a b)) → DGet H1 d (.str "more") (some (.int b)) := fun {H1 a b} e => st_more a b ▸ DGet.k (k := .inr ("more" : Str)) e
    have pl : ∀ {H1 : Hp} {a b c : Int}, H1 d = some (.dK (stD a b)) → DPut H1 d (.str "left") (.int c) (upd H1 d (.dK (stD c b))) := fun {H1 a b c} e => st_putL a b c ▸ DPut.k (k := .inr ("left" : Str)) e (by show 2 < sizeLine; decide)
    have pm : ∀ {H1 : Hp} {a b c : Int}, H1 d = some (.dK (stD a b)) → DPut H1 d (.str "more") (.int c) (upd H1 d (.dK (stD a c))) := fun {H1 a b c} e => st_putM a b c ▸ DPut.k (k := .inr ("more" : Str)) e (by show 2 < sizeLine; decide)
    have dv : ∀ z : Int, 0 ≤ z → 0 ≤ z.fdiv m := fun z hz => by
      rw [Int.fdiv_eq_ediv_of_nonneg z (by omega)]
      exact Int.ediv_nonneg hz (by omega)
    refine ⟨.ref d, rfl, d, .int a, rfl, gl hd, rfl, _, rfl, ite2 (fun e => ?_) (fun e => ?_)⟩
    · refine ⟨.ref d, rfl, d, .int b, rfl, gm hd, by show 2 ≤ sizeLine; decide, fun t ht => ?_⟩
      have nt : d ≠ t := ne_of_none hd ht
      have hd1 : (upd H t (.tup [.int b, .int 0])) d = some (.dK (stD a b)) := (upd_ne nt).trans hd
      refine ⟨t, _, rfl, .inl (.inl upd_same), rfl, .int b, [.int 0], rfl, .ref d, rfl, d, _, rfl, pl hd1, .int 0, [], rfl, .ref d, rfl, d, _, rfl, pm upd_same, rfl, ?_⟩
      rw [upd_upd]
      have hd2 : (upd (upd H t (.tup [.int b, .int 0])) d (.dK (stD b 0))) d = some (.dK (stD b 0)) := upd_same
      refine ⟨.ref d, rfl, d, .int b, rfl, gl hd2, .int m, rfl, b, m, rfl, rfl, m0, .ref d, rfl, d, .int b, rfl, gl hd2, .int m, rfl, b, m, rfl, rfl, ⟨by omega, by omega⟩, .ref d, rfl, d, _, rfl, pl hd2, .int (b % m), rfl, ?_⟩
      refine q _ _ _ _ (Int.emod_nonneg _ (by omega)) (Int.emod_lt_of_pos _ m0) (dv b hb) (Int.le_refl 0) upd_same fun x o hx e => ?_
      rw [upd_ne hx, upd_ne hx, upd_ne (ne_of_none e ht)]
      exact e
    · refine ⟨.ref d, rfl, d, .int a, rfl, gl hd, .int m, rfl, a, m, rfl, rfl, m0, .ref d, rfl, d, .int a, rfl, gl hd, .int m, rfl, a, m, rfl, rfl, ⟨by omega, by omega⟩, .ref d, rfl, d, _, rfl, pl hd, .int (a % m), rfl, ?_⟩
      refine q _ _ _ _ (Int.emod_nonneg _ (by omega)) (Int.emod_lt_of_pos _ m0) (dv a ha) hb upd_same fun x o hx e => ?_
      rw [upd_ne hx]
      exact e
end
end K1
set_option Elab.async false
set_option linter.all false
set_option maxRecDepth 100000
set_option maxHeartbeats 4000000
/-! Data of any depth: kept while the heap grows, cut off from lists that are being filled, compared, sorted. -/
namespace K1
open PySem PySem.Spec PyProof.Rows L2

/-! ### heaps without some places -/
def cut (C : Addr → Bool) (H : Hp) : Hp := fun a => if C a = true then none else H a
abbrev C0 : Addr → Bool := fun _ => false
section
variable {C C' : Addr → Bool} {H H1 : Hp} {p : Addr} {o : HO}
theorem cut0 : cut C0 H = H := by
  funext a
  rfl
theorem cut_out (h : C p = true) : cut C (upd H p o) = cut C H := by
  funext a
  unfold cut
  split
  · rfl
  · rename_i z
    exact upd_ne fun e => z (e ▸ h)
theorem cut_in (h : C p = false) : cut C (upd H p o) = upd (cut C H) p o := by
  funext a
  unfold cut
  by_cases e : a = p
  · subst e
    rw [if_neg (by rw [h]; exact Bool.false_ne_true), upd_same, upd_same]
  · rw [upd_ne e, upd_ne e]
theorem cut_at (h : C p = false) : cut C H p = H p := by
  unfold cut
  rw [if_neg (by rw [h]; exact Bool.false_ne_true)]
theorem cut_some (h : cut C H p = some o) : C p = false ∧ H p = some o := by
  unfold cut at h
  split at h
  · cases h
  · rename_i z
    exact ⟨Bool.eq_false_iff.mpr z, h⟩
theorem cut_none (h : H p = none) : cut C H p = none := by
  unfold cut
  split
  · rfl
  · exact h
end
/-- G's sequences stand in H -/
def Sub (G H : Hp) : Prop := ∀ a o, G a = some o → (∃ xs, o = .lst xs ∨ o = .tup xs ∨ (∃ u, o = .frz u (.lst xs) ∨ o = .frz u (.tup xs))) → H a = some o
section
variable {G H G' : Hp} {C C' : Addr → Bool}
theorem Sub.rfl' : Sub G G := fun _ _ e _ => e
theorem Sub.trans (h : Sub G H) (h' : Sub H G') : Sub G G' := fun a o e k => h' a o (h a o e k) k
theorem Sub.cut : Sub (cut C H) H := fun _ _ e _ => (cut_some e).2
theorem Sub.cuts (h : Sub G H) : Sub (K1.cut C G) (K1.cut C H) := fun a o e k => by
  obtain ⟨e1, e2⟩ := cut_some e
  rw [cut_at e1]
  exact h a o e2 k
theorem Sub.less (hc : ∀ a, C' a = true → C a = true) : Sub (K1.cut C H) (K1.cut C' H) := fun a o e k => by
  obtain ⟨e1, e2⟩ := cut_some e
  rw [cut_at (Bool.eq_false_iff.mpr fun z => by rw [hc a z] at e1; cases e1)]
  exact e2
theorem Sub.new {p : Addr} {o : HO} (h : H p = none) : Sub H (upd H p o) := fun a u e _ => by
  rw [upd_ne (ne_of_none e h)]
  exact e
theorem Sub.go {T : Tp} {D : Addr → Prop} (g : Go T D G H) (t : TG T G) (hd : ∀ a, D a → ∀ xs, G a ≠ some (.lst xs) ∧ G a ≠ some (.tup xs) ∧ ∀ u, G a ≠ some (.frz u (.lst xs)) ∧ G a ≠ some (.frz u (.tup xs))) : Sub G H := fun a o e k => by
  obtain ⟨xs, k⟩ := k
  refine g.at t (fun z => ?_) e ?_
  · have q := hd a z xs
    rcases k with rfl | rfl | ⟨u, rfl | rfl⟩
    · exact q.1 e
    · exact q.2.1 e
    · exact (q.2.2 u).1 e
    · exact (q.2.2 u).2 e
  · rintro ps rfl
    rcases k with k | k | ⟨u, k | k⟩ <;> cases k
theorem Sub.seqT {K : PySem.W.Frag} {a : Addr} {xs : List V} (h : Sub G H) (e : SqT K G a xs) : SqT K H a xs := by
  rcases e with (e | ⟨u, e⟩) | e
  · exact .inl (.inl (h _ _ e ⟨xs, .inr (.inl rfl)⟩))
  · exact .inl (.inr ⟨u, h _ _ e ⟨xs, .inr (.inr ⟨u, .inr rfl⟩)⟩⟩)
  · exact .inr e
theorem Sub.seqL {K : PySem.W.Frag} {a : Addr} {xs : List V} (h : Sub G H) (e : SqL K G a xs) : SqL K H a xs := by
  rcases e with (e | ⟨u, e⟩) | e
  · exact .inl (.inl (h _ _ e ⟨xs, .inl rfl⟩))
  · exact .inl (.inr ⟨u, h _ _ e ⟨xs, .inr (.inr ⟨u, .inl rfl⟩)⟩⟩)
  · exact .inr e
end
end K1
namespace L2
open PySem PySem.Spec PyProof.Rows
mutual
theorem Dp.sub {K : PySem.W.Frag} {G H : Hp} (h : K1.Sub G H) : ∀ (d : PyData) (v : V), Dp K G v d → Dp K H v d
  | .none, _, q => by cases q; exact .non
  | .bool b, _, q => by cases q; exact .bl b
  | .int i, _, q => by cases q; exact .int i
  | .str x, _, q => by cases q; exact .str x
  | .list ds, _, q => by
    cases q with
    | lst e a => exact .lst (h.seqL e) (Dp.subs h ds _ a)
  | .tuple ds, _, q => by
    cases q with
    | tup e a => exact .tup (h.seqT e) (Dp.subs h ds _ a)
  | .dict _, _, q => by cases q
theorem Dp.subs {K : PySem.W.Frag} {G H : Hp} (h : K1.Sub G H) : ∀ (ds : List PyData) (vs : List V), DpAll K G vs ds → DpAll K H vs ds
  | [], _, q => by cases q; exact .nil
  | d :: ds, _, q => by
    cases q with
    | cons a b => exact .cons (Dp.sub h d _ a) (Dp.subs h ds _ b)
end
section
variable {K : PySem.W.Frag} {H : Hp}
theorem DpAll.len : ∀ {vs : List V} {ds : List PyData}, DpAll K H vs ds → vs.length = ds.length
  | _, _, .nil => rfl
  | _, _, .cons _ b => congrArg (· + 1) (DpAll.len b)
theorem DpAll.at : ∀ {vs : List V} {ds : List PyData}, DpAll K H vs ds → ∀ {i : Nat} {d : PyData}, ds[i]? = some d → ∃ v, vs[i]? = some v ∧ Dp K H v d
  | _, _, .nil, _, _, e => by cases e
  | _, _, .cons a b, 0, _, e => by cases e; exact ⟨_, rfl, a⟩
  | _, _, .cons a b, i + 1, _, e => DpAll.at b (i := i) e
theorem DpAll.at' : ∀ {vs : List V} {ds : List PyData}, DpAll K H vs ds → ∀ {i : Nat} {v : V}, vs[i]? = some v → ∃ d, ds[i]? = some d ∧ Dp K H v d
  | _, _, .nil, _, _, e => by cases e
  | _, _, .cons a b, 0, _, e => by cases e; exact ⟨_, rfl, a⟩
  | _, _, .cons a b, i + 1, _, e => DpAll.at' b (i := i) e
theorem DpAll.app : ∀ {vs : List V} {ds : List PyData}, DpAll K H vs ds → ∀ {us : List V} {es : List PyData}, DpAll K H us es → DpAll K H (vs ++ us) (ds ++ es)
  | _, _, .nil, _, _, h => h
  | _, _, .cons a b, _, _, h => .cons a (DpAll.app b h)
theorem DpAll.one {v : V} {d : PyData} (h : Dp K H v d) : DpAll K H [v] [d] := .cons h .nil
theorem DpAll.take : ∀ {vs : List V} {ds : List PyData}, DpAll K H vs ds → ∀ n, DpAll K H (vs.take n) (ds.take n)
  | _, _, .nil, n => by rw [List.take_nil, List.take_nil]; exact .nil
  | _, _, .cons a b, 0 => .nil
  | _, _, .cons a b, n + 1 => .cons a (DpAll.take b n)
theorem DpAll.drop : ∀ {vs : List V} {ds : List PyData}, DpAll K H vs ds → ∀ n, DpAll K H (vs.drop n) (ds.drop n)
  | _, _, .nil, n => by rw [List.drop_nil, List.drop_nil]; exact .nil
  | _, _, .cons a b, 0 => .cons a b
  | _, _, .cons a b, n + 1 => DpAll.drop b n
theorem DpAll.mem : ∀ {vs : List V} {ds : List PyData}, DpAll K H vs ds → ∀ {v : V}, v ∈ vs → ∃ d ∈ ds, Dp K H v d
  | _, _, .cons a b, v, h => by
    rcases List.mem_cons.mp h with rfl | h
    · exact ⟨_, List.mem_cons_self .., a⟩
    · obtain ⟨d, m, q⟩ := DpAll.mem b h
      exact ⟨d, List.mem_cons_of_mem _ m, q⟩
theorem DpAll.rev : ∀ {vs : List V} {ds : List PyData}, DpAll K H vs ds → DpAll K H vs.reverse ds.reverse
  | _, _, .nil => .nil
  | _, _, .cons a b => by
    rw [List.reverse_cons, List.reverse_cons]
    exact (DpAll.rev b).app (.one a)
theorem Dp.tupI {v : V} {ds : List PyData} (h : Dp K H v (.tuple ds)) : ∃ a xs, v = .ref a ∧ SqT K H a xs ∧ DpAll K H xs ds := by
  cases h with
  | tup e a => exact ⟨_, _, rfl, e, a⟩
theorem Dp.lstI {v : V} {ds : List PyData} (h : Dp K H v (.list ds)) : ∃ a xs, v = .ref a ∧ SqL K H a xs ∧ DpAll K H xs ds := by
  cases h with
  | lst e a => exact ⟨_, _, rfl, e, a⟩
theorem Dp.strI {v : V} {x : Str} (h : Dp K H v (.str x)) : v = .str x := by
  cases h
  rfl
theorem Dp.intI {v : V} {i : Int} (h : Dp K H v (.int i)) : v = .int i := by
  cases h
  rfl
theorem DpAll.i1 {vs : List V} {a : PyData} (h : DpAll K H vs [a]) : ∃ x, vs = [x] ∧ Dp K H x a := by
  cases h with
  | cons h1 h2 =>
    cases h2
    exact ⟨_, rfl, h1⟩
theorem DpAll.i2 {vs : List V} {a b : PyData} (h : DpAll K H vs [a, b]) : ∃ x y, vs = [x, y] ∧ Dp K H x a ∧ Dp K H y b := by
  cases h with
  | cons h1 h2 =>
    obtain ⟨y, rfl, q⟩ := h2.i1
    exact ⟨_, _, rfl, h1, q⟩
theorem DpAll.i3 {vs : List V} {a b c : PyData} (h : DpAll K H vs [a, b, c]) : ∃ x y z, vs = [x, y, z] ∧ Dp K H x a ∧ Dp K H y b ∧ Dp K H z c := by
  cases h with
  | cons h1 h2 =>
    obtain ⟨y, z, rfl, q⟩ := h2.i2
    exact ⟨_, _, _, rfl, h1, q⟩
theorem DpAll.i4 {vs : List V} {a b c d : PyData} (h : DpAll K H vs [a, b, c, d]) : ∃ x y z u, vs = [x, y, z, u] ∧ Dp K H x a ∧ Dp K H y b ∧ Dp K H z c ∧ Dp K H u d := by
  cases h with
  | cons h1 h2 =>
    obtain ⟨y, z, u, rfl, q⟩ := h2.i3
    exact ⟨_, _, _, _, rfl, h1, q⟩
end

end L2
namespace K1
open PySem PySem.Spec PyProof.Rows L2
/-! ### order -/
section
variable {X : Cx}
def rLeD (K : PySem.W.Frag) : R2 := fun x y H Q => ∃ d e, Dp K H x d ∧ Dp K H y e ∧ PySem.W.alike d e = true ∧ d ≠ .none ∧ d.depth ≤ 60 ∧ Q (.bl (!PySem.W.dataLt e d)) H
theorem op_leD (hu : X.A.units + 64 < cLine) : OpR X (compareOp .LtE) (rLeD X.K) := by
  intro pins s σ H x y v u Q I rx ry h
  obtain ⟨d, e, hd, he, al, nn, dp, q⟩ := h
  obtain ⟨as, r1⟩ := Dp.reads I d x v hd rx
  obtain ⟨bs, r2⟩ := Dp.reads I e y u he ry
  exact PySem.W.le_data r1 r2 al nn (by have := Nat.min_le_left d.depth e.depth; omega) ⟨.bl _, H, I, rfl, q⟩
/-- sorted(xs), xs a list of data that are alike: a new list -/
def rSortedD (K : PySem.W.Frag) : List V → Hp → VK → Prop := fun vs H Q => ∃ (a : Addr) (ps : List (V × PyData)), vs = [V.ref a] ∧ SqL K H a (ps.map (·.1)) ∧ (∀ p ∈ ps, Dp K H p.1 p.2) ∧ PySem.W.AllAlike (ps.map (·.2)) ∧ PySem.W.Sortable (ps.map (·.2)) ∧
  (∀ p ∈ ps, p.2.depth ≤ 60) ∧ ∀ l, H l = none → Q (.ref l) (upd H l (.lst ((ps.mergeSort (PySem.W.dataLe false (·.2))).map (·.1))))
theorem each_of {R : Value → V × PyData → Prop} : ∀ {ps : List (V × PyData)} {us : List Value}, Vals (ps.map (·.1)) us → (∀ p ∈ ps, ∀ u, RelV p.1 u → R u p) → PySem.W.EachIs R us ps
  | [], _, h, _ => by cases h; exact .nil
  | p :: ps, _, h, q => by
    cases h with
    | cons r rs => exact .cons (q p (List.mem_cons_self ..) _ r) (each_of rs fun p' m => q p' (List.mem_cons_of_mem _ m))
theorem each_vals : ∀ {us : List Value} {ps : List (V × PyData)}, PySem.W.EachIs (fun u p => RelV p.1 u) us ps → Vals (ps.map (·.1)) us
  | _, _, .nil => .nil
  | _, _, .cons a b => .cons a (each_vals b)
theorem cr_sortedD (hu : X.A.units + 64 < cLine) : CallR X (.builtin "sorted") (rSortedD X.K) := by
  intro pins s σ H vs us Q I r h
  obtain ⟨a, ps, rfl, hs, hd, al, so, dp, q⟩ := h
  obtain ⟨its, rv, hl, hz⟩ := I.list hs
  rw [Vals.ref1 r]
  have hz' : ps.length ≤ sizeLine := by rw [List.length_map] at hz; exact hz
  refine PySem.W.sorted_data (β := V × PyData) (enc := (·.2)) (bs := ps) (R := fun u p => RelV p.1 u) hl.isList (each_of rv fun p m u r => r) (each_of rv fun p m u r => Dp.reads I p.2 p.1 u (hd p m) r) al so hz' (fun p m => by have := dp p m; omega) fun out h1 h2 => ?_
  obtain ⟨e, he⟩ := PyProof.Rows.sortedAll_at s.heap its out.toArray
  refine ⟨.ref (s.heap.objs.size + 1), upd H (s.heap.objs.size + 1) (.lst ((ps.mergeSort (PySem.W.dataLe false (·.2))).map (·.1))), I.laid (t' := s.toks) (fun _ _ => PyProof.Rows.sortedAll_old) (Nat.le_succ _) ⟨?_, out, e, each_vals h2, he⟩, rfl, q _ (I.hok.fresh (Nat.le_succ _))⟩
  rw [List.length_map, List.length_mergeSort]
  exact hz'
end
end K1
set_option Elab.async false
set_option linter.all false
set_option maxRecDepth 100000
set_option maxHeartbeats 4000000
/-! Patches as data: names, lines, deeds. -/
namespace K1
open PySem PySem.Spec PyProof.Rows L2

abbrev Nm := Str × Int
abbrev Ln := Str × Int × Int
inductive Deed where
  | put (a b : Ln) (ts : List Str)
  | order (a b : Ln)
  | one (keep : Bool) (a : Ln)
structure Pat where
  name : Nm
  knows : List Nm
  deeds : List Deed
def eN (n : Nm) : PyData := .tuple [.str n.1, .int n.2]
def eL (l : Ln) : PyData := .tuple [.str l.1, .int l.2.1, .int l.2.2]
def kindS (k : Bool) : Str := if k = true then "keep" else "cut"
def eD : Deed → PyData
  | .put a b ts => .tuple [.str "put", eL a, eL b, .tuple (ts.map .str)]
  | .order a b => .tuple [.str "order", eL a, eL b]
  | .one k a => .tuple [.str (kindS k), eL a]
def eP (p : Pat) : PyData := .tuple [eN p.name, .list (p.knows.map eN), .list (p.deeds.map eD)]
def Deed.texts : Deed → List Str
  | .put _ _ ts => ts
  | _ => []
def textsOf (p : Pat) : List Str := p.deeds.flatMap Deed.texts
def lnAt (n : Nm) (k : Nat) : Ln := (n.1, n.2, (k : Int) + 1)
def linesFrom (n : Nm) (ts : List Str) : List (Ln × Str) := (List.range ts.length).map fun k => (lnAt n k, ts.getD k "")
def linesOf (p : Pat) : List (Ln × Str) := linesFrom p.name (textsOf p)
def linesIn (hist : List Pat) (names : List Nm) : List (Ln × Str) := hist.flatMap fun p => if p.name ∈ names then linesOf p else []
def eLT (x : Ln × Str) : PyData := .tuple [eL x.1, .str x.2]
/-- what is known, by the history backwards -/
def knownStep (found : List Nm) (p : Pat) : List Nm := if p.name ∈ found then found ++ p.knows.filter (fun n => decide (n ∉ found)) else found
def knownIn (hist : List Pat) (knows : List Nm) : List Nm := hist.reverse.foldl knownStep knows

def NmOk (n : Nm) : Prop := handV (.str n.1) = true ∧ 1 ≤ n.2 ∧ n.2 ≤ 999
def nmOf (l : Ln) : Nm := (l.1, l.2.1)
def LnOk (l : Ln) : Prop := NmOk (nmOf l) ∧ 1 ≤ l.2.2
def headL : Ln := ("", 0, 0)
def footL : Ln := ("", 0, 1)
def TxOk (t : Str) : Prop := PyData.strOk t = true ∧ t.length ≤ 40 ∧ 10 ∉ TL.tl t
/-- a line that a put may stand at -/
def EdOk (l : Ln) : Prop := LnOk l ∨ l = headL ∨ l = footL
def Deed.ok : Deed → Prop
  | .put a b ts => EdOk a ∧ EdOk b ∧ ∀ t ∈ ts, TxOk t
  | .order a b => LnOk a ∧ LnOk b
  | .one _ a => LnOk a
structure Pat.ok (p : Pat) : Prop where
  name : NmOk p.name
  knows : ∀ n ∈ p.knows, NmOk n
  deeds : ∀ d ∈ p.deeds, d.ok
/-- the sizes of drawn ones -/
structure Pat.small (p : Pat) : Prop where
  knows : p.knows.length ≤ 4
  deeds : p.deeds.length ≤ 3
  texts : ∀ d ∈ p.deeds, d.texts.length ≤ 3

/-- all signs are plain -/
def Asc (x : Str) : Prop := ∀ c ∈ TL.tl x, c < 128
theorem Asc.ok {x : Str} (h : Asc x) : PyData.strOk x = true := by
  show x.cps.all _ = true
  rw [← Array.all_toList]
  refine List.all_eq_true.mpr fun c hc => ?_
  have := h c hc
  exact decide_eq_true (by omega)
theorem handOk {x : Str} (h : handV (.str x) = true) : PyData.strOk x = true ∧ x.length ≤ 8 := by
  have w : wordOk x = true := (Bool.and_eq_true_iff.mp h).1
  have w1 := Bool.and_eq_true_iff.mp w
  have w2 := Bool.and_eq_true_iff.mp w1.1
  refine ⟨Asc.ok fun c hc => ?_, ?_⟩
  · have := of_decide_eq_true (List.all_eq_true.mp w1.2 c hc)
    have e : ltrs.cps.toList.all (fun c => decide (c < 128)) = true := by decide +kernel
    exact of_decide_eq_true (List.all_eq_true.mp e c this)
  · have := of_decide_eq_true w2.2
    omega
theorem eN_eqv (n m : Nm) : PyData.eqv (eN n) (eN m) = decide (n = m) := by
  obtain ⟨a, i⟩ := n
  obtain ⟨b, j⟩ := m
  have e : PyData.eqv (eN (a, i)) (eN (b, j)) = ((a == b) && ((i == j) && true)) := by simp only [eN, PyData.eqv, PyData.eqvAll]
  rw [e]
  by_cases h1 : a = b
  · by_cases h2 : i = j
    · subst h1 h2
      simp
    · simp [h1, h2]
  · simp [h1]
theorem eL_eqv (n m : Ln) : PyData.eqv (eL n) (eL m) = decide (n = m) := by
  obtain ⟨a, i, k⟩ := n
  obtain ⟨b, j, l⟩ := m
  have e : PyData.eqv (eL (a, i, k)) (eL (b, j, l)) = ((a == b) && ((i == j) && ((k == l) && true))) := by simp only [eL, PyData.eqv, PyData.eqvAll]
  rw [e]
  by_cases h1 : a = b
  · by_cases h2 : i = j
    · by_cases h3 : k = l
      · subst h1 h2 h3
        simp
      · simp [h1, h2, h3]
    · simp [h1, h2]
  · simp [h1]
theorem eN_any (n : Nm) (ns : List Nm) : ((ns.map eN).any fun z => PyData.eqv z (eN n)) = decide (n ∈ ns) := by
  induction ns with
  | nil => rfl
  | cons m r ih =>
    rw [List.map_cons, List.any_cons, ih, eN_eqv]
    by_cases h : m = n
    · subst h
      simp
    · have h' : ¬ n = m := fun z => h z.symm
      simp [h, h']
/-! shapes -/
theorem shaped_of {d : PyData} (h : d.canLay0 = true) (h' : d.depth ≤ 64) : SeqAt.shaped d = true := by
  show (d.canLay0 && decide (d.depth ≤ 64)) = true
  rw [Bool.and_eq_true]
  exact ⟨h, decide_eq_true h'⟩
theorem eN_lay {n : Nm} (h : PyData.strOk n.1 = true) : (eN n).canLay0 = true := by
  show PyData.canLay0 (.tuple [.str n.1, .int n.2]) = true
  simp [PyData.canLay0, PyData.canLayAll0, h]
theorem eN_dep (n : Nm) : (eN n).depth = 1 := by simp [eN, PyData.depth, PyData.depthAll]
theorem eL_lay {n : Ln} (h : PyData.strOk n.1 = true) : (eL n).canLay0 = true := by
  show PyData.canLay0 (.tuple [.str n.1, .int n.2.1, .int n.2.2]) = true
  simp [PyData.canLay0, PyData.canLayAll0, h]
theorem eL_dep (n : Ln) : (eL n).depth = 1 := by simp [eL, PyData.depth, PyData.depthAll]
theorem layAll {α : Type} {f : α → PyData} : ∀ {l : List α}, (∀ x ∈ l, (f x).canLay0 = true) → PyData.canLayAll0 (l.map f) = true
  | [], _ => by simp [PyData.canLayAll0]
  | x :: r, h => by
    have h1 := h x (List.mem_cons_self ..)
    have h2 := layAll (l := r) fun y m => h y (List.mem_cons_of_mem _ m)
    simp [PyData.canLayAll0, h1, h2]
theorem depAll {α : Type} {f : α → PyData} {n : Nat} : ∀ {l : List α}, (∀ x ∈ l, (f x).depth ≤ n) → PyData.depthAll (l.map f) ≤ n
  | [], _ => by simp [PyData.depthAll]
  | x :: r, h => by
    have h1 := h x (List.mem_cons_self ..)
    have h2 := depAll (l := r) fun y m => h y (List.mem_cons_of_mem _ m)
    simp only [List.map_cons, PyData.depthAll]
    omega
theorem NmOk.sh {n : Nm} (h : NmOk n) : SeqAt.shaped (eN n) = true := shaped_of (eN_lay (handOk h.1).1) (by rw [eN_dep]; decide)
theorem nms_sh {ns : List Nm} (h : ∀ n ∈ ns, NmOk n) : SeqAt.shaped (.list (ns.map eN)) = true := by
  refine shaped_of ?_ ?_
  · show PyData.canLay0 (.list (ns.map eN)) = true
    simp only [PyData.canLay0]
    exact layAll fun n m => eN_lay (handOk (h n m).1).1
  · have := depAll (f := eN) (n := 1) (l := ns) fun n _ => by rw [eN_dep]; exact Nat.le_refl _
    simp only [PyData.depth]
    omega
theorem EdOk.str {l : Ln} (h : EdOk l) : PyData.strOk l.1 = true := by
  rcases h with h | rfl | rfl
  · exact (handOk h.1.1).1
  · decide +kernel
  · decide +kernel
theorem eL_sh {l : Ln} (h : PyData.strOk l.1 = true) : SeqAt.shaped (eL l) = true := shaped_of (eL_lay h) (by rw [eL_dep]; decide)
theorem linesFrom_len (n : Nm) (ts : List Str) : (linesFrom n ts).length = ts.length := by
  unfold linesFrom
  rw [List.length_map, List.length_range]
theorem textsOf_len {p : Pat} (h : p.small) : (textsOf p).length ≤ 9 := by
  unfold textsOf
  have : ∀ l : List Deed, (∀ d ∈ l, d.texts.length ≤ 3) → (l.flatMap Deed.texts).length ≤ 3 * l.length := by
    intro l
    induction l with
    | nil => intro _; exact Nat.le_refl _
    | cons d r ih =>
      intro h
      rw [List.flatMap_cons, List.length_append, List.length_cons]
      have h1 := h d (List.mem_cons_self ..)
      have h2 := ih fun y m => h y (List.mem_cons_of_mem _ m)
      omega
  have h1 := this p.deeds h.texts
  have h2 := h.deeds
  omega
theorem linesIn_len {names : List Nm} : ∀ {hist : List Pat}, (∀ p ∈ hist, p.small) → (linesIn hist names).length ≤ 9 * hist.length
  | [], _ => Nat.le_refl _
  | p :: r, h => by
    have h1 := textsOf_len (h p (List.mem_cons_self ..))
    have h2 := linesIn_len (names := names) (hist := r) fun y m => h y (List.mem_cons_of_mem _ m)
    have e : linesIn (p :: r) names = (if p.name ∈ names then linesOf p else []) ++ linesIn r names := rfl
    rw [e, List.length_append, List.length_cons]
    have h3 : (if p.name ∈ names then linesOf p else []).length ≤ 9 := by
      split
      · unfold linesOf
        rw [linesFrom_len]
        exact h1
      · exact Nat.zero_le _
    omega
end K1
set_option Elab.async false
set_option linter.all false
set_option maxRecDepth 100000
set_option maxHeartbeats 4000000
/-! The law's defs: lines of patches, what is known. -/
namespace K1
open PySem PySem.Spec PyProof.Rows L2

theorem units65 {k : Nat} {A : Around} (r : Room k A) : A.units + 65 < cLine := by have := r.un; omega
/-- an object that is new since H, written again -/
theorem Go.put {T : Tp} {D : Addr → Prop} {H H1 : Hp} {p : Addr} {o u : HO} (g : Go T D H H1) (n : H p = none) (h : H1 p = some u) (hu : ∀ ps, u ≠ .tbl ps := by intro ps z; cases z) : Go T D H (upd H1 p o) := by
  have ne := g.1.neW h hu
  refine ⟨g.1.stay ne, fun b v h1 h3 e => ?_⟩
  rw [upd_ne (ne_of_none e n)]
  exact g.2 b v h1 h3 e
theorem small_line {n : Nat} (h : n ≤ 10000) : n < sizeLine := Nat.lt_of_le_of_lt h (by decide)
theorem small_le {n : Nat} (h : n ≤ 10000) : n ≤ sizeLine := Nat.le_of_lt (small_line h)
theorem flat_take {α β : Type} {f : α → List β} (l : List α) (j : Nat) : ((l.take j).flatMap f).length ≤ (l.flatMap f).length := by
  have e : l.flatMap f = (l.take j).flatMap f ++ (l.drop j).flatMap f := by rw [← List.flatMap_append, List.take_append_drop]
  rw [e, List.length_append]
  omega
theorem flat_succ {α β : Type} {f : α → List β} {l : List α} {j : Nat} {x : α} (h : l[j]? = some x) : (l.take (j + 1)).flatMap f = (l.take j).flatMap f ++ f x := by
  rw [List.take_add_one, h, List.flatMap_append]
  simp
/-- C and D together -/
def plus (C : Addr → Bool) (D : Addr) : Addr → Bool := fun a => C a || decide (a = D)
theorem plus_D {C : Addr → Bool} {D : Addr} : plus C D D = true := by simp [plus]
theorem plus_le {C : Addr → Bool} {D : Addr} : ∀ a, C a = true → plus C D a = true := fun a h => by simp [plus, h]
theorem plus_no {C : Addr → Bool} {D p : Addr} (h : C p = false) (n : p ≠ D) : plus C D p = false := by simp [plus, h, n]
/-- a history, its patches off C -/
def HistAt (K : PySem.W.Frag) (C : Addr → Bool) (H : Hp) (h : V) (hist : List Pat) : Prop := ∃ a xs, h = .ref a ∧ SqL K H a xs ∧ DpAll K (cut C H) xs (hist.map eP)
structure HistOk (hist : List Pat) : Prop where
  len : hist.length ≤ 100
  each : ∀ p ∈ hist, p.ok ∧ p.small
/-- C's places are taken -/
def Held (C : Addr → Bool) (H : Hp) : Prop := ∀ a, C a = true → H a ≠ none
theorem Held.no {C : Addr → Bool} {H : Hp} {p : Addr} (h : Held C H) (e : H p = none) : C p = false := Bool.eq_false_iff.mpr fun z => h p z e
theorem sub_go {T : Tp} {H H' : Hp} (g : Go T D0 H H') (t : TG T H) : Sub H H' := Sub.go g t fun _ z => z.elim
theorem HistAt.go {K : PySem.W.Frag} {C : Addr → Bool} {T : Tp} {H H' : Hp} {h : V} {hist : List Pat} (x : HistAt K C H h hist) (g : Go T D0 H H') (t : TG T H) : HistAt K C H' h hist := by
  obtain ⟨a, xs, e, s, d⟩ := x
  exact ⟨a, xs, e, g.seqL t (fun _ _ z => z) s, Dp.subs (sub_go g t).cuts _ _ d⟩
theorem dp_cut {K : PySem.W.Frag} {C : Addr → Bool} {H : Hp} {v : V} {d : PyData} (h : Dp K (cut C H) v d) : Dp K H v d := Dp.sub Sub.cut _ _ h
theorem at_map {α : Type} {f : α → PyData} {l : List α} {i : Nat} {x : PyData} (h : (l.map f)[i]? = some x) : ∃ p, l[i]? = some p ∧ x = f p := by
  rw [List.getElem?_map] at h
  cases e : l[i]? with
  | none => rw [e] at h; cases h
  | some p =>
    rw [e] at h
    exact ⟨p, rfl, (Option.some.inj h).symm⟩

section
variable {P : Program} {w : World} {K : PySem.W.Frag} {mg : Str → Option Value} {base : Heap} {T : Tp}

/-! ### _law_lines -/
def spLines (K : PySem.W.Frag) (T : Tp) : Sp := fun vs H Q _ => ∃ (h ns : V) (hist : List Pat) (names : List Nm) (C : Addr → Bool), vs = [h, ns] ∧ HistAt K C H h hist ∧ HistOk hist ∧ Dp K H ns (.list (names.map eN)) ∧ (∀ n ∈ names, NmOk n) ∧ Held C H ∧ TG T H ∧
  ∀ H' p xs, Go T D0 H H' → H p = none → H' p = some (.lst xs) → DpAll K (cut C H') xs ((linesIn hist names).map eLT) → Q (.ref p) H'
theorem strs_of {K : PySem.W.Frag} {H : Hp} : ∀ {us : List V} {ts : List Str}, DpAll K H us (ts.map .str) → us = ts.map V.str
  | _, [], h => by cases h; rfl
  | _, t :: r, h => by
    cases h with
    | cons a b =>
      cases Dp.strI a
      rw [strs_of b]
      rfl
theorem txt_of {d : Deed} : ∀ {K : PySem.W.Frag} {H : Hp} {v : V}, Dp K H v (eD d) → ∃ a k r, v = .ref a ∧ SqT K H a (.str k :: r) ∧ ((k = "put" ∧ ∃ x y t us, r = [x, y, .ref t] ∧ SqT K H t (us.map V.str) ∧ us = d.texts) ∨ (k ≠ "put" ∧ d.texts = [])) := by
  intro K H v h
  cases d with
  | put a b ts =>
    obtain ⟨p, xs, rfl, s, q⟩ := Dp.tupI h
    obtain ⟨x, y, z, u, rfl, q1, q2, q3, q4⟩ := DpAll.i4 q
    cases Dp.strI q1
    obtain ⟨t, us, rfl, s2, q5⟩ := Dp.tupI q4
    refine ⟨p, "put", _, rfl, s, .inl ⟨rfl, y, z, t, ts, rfl, ?_, rfl⟩⟩
    have : us = ts.map V.str := by
      exact strs_of q5
    rw [← this]
    exact s2
  | order a b =>
    obtain ⟨p, xs, rfl, s, q⟩ := Dp.tupI h
    obtain ⟨x, y, z, rfl, q1, q2, q3⟩ := DpAll.i3 q
    cases Dp.strI q1
    exact ⟨p, "order", _, rfl, s, .inr ⟨by decide +kernel, rfl⟩⟩
  | one k a =>
    obtain ⟨p, xs, rfl, s, q⟩ := Dp.tupI h
    obtain ⟨x, y, rfl, q1, q2⟩ := DpAll.i2 q
    cases Dp.strI q1
    exact ⟨p, kindS k, _, rfl, s, .inr ⟨by cases k <;> decide +kernel, rfl⟩⟩
theorem ok_llines {f : Addr} {fd : FuncData} {k : Nat} (F : Fun K "_law_lines" "_law_lines" sLLines f fd) (M : Mg K mg) : FnOk P w K mg base CX0 (k + 1) f fd ["_law_history_here", "_law_names"] (spLines K T) := by
  refine F.ok scLLines (fun vs H Q E h => ?_) (fun cdv A outer s H vs Q E hr h => ?_)
  · obtain ⟨h, ns, hist, names, C, rfl, _⟩ := h
    rfl
  · obtain ⟨hv, nv, hist, names, C, rfl, hh, hok, hn, nok, held, tg, q⟩ := h
    refine ⟨_, pss_cons (ps_set (i := 2) scLLines.nd rfl (.inl rfl) (pe_lst pa_nil))
      (pss_cons (ps_for PassesOwn.never rfl (pi_list (pv 0)) (pg_tup rfl (pgs_cons (pg_name (i := 3) scLLines.nd rfl (.inr rfl)) (pgs_cons (pg_name (i := 4) scLLines.nd rfl (.inl rfl)) (pgs_cons (pg_name (i := 5) scLLines.nd rfl (.inl rfl)) pgs_nil))))
        (pss_cons (ps_set (i := 6) scLLines.nd rfl (.inl rfl) (pe_lst pa_nil))
        (pss_cons (ps_for PassesOwn.never rfl (pi_list (pv 5)) (pg_name (i := 7) scLLines.nd rfl (.inl rfl))
          (pss_one (ps_set (i := 6) scLLines.nd rfl (.inl rfl) (pe_op op_cat (pv 6) (pe_ifExp (pt_cmpR op_eq (pe_ix ix_tup (pv 7) pe_int (fun _ _ => rfl)) pe_str (nomark _))
            (pe_callTy call_list_of (by rfl) M.list_ (by decide +kernel) (pa_cons (pe_ix ix_tup (pv 7) pe_int (fun _ _ => rfl)) pa_nil)) (pe_lst pa_nil))))))
        (pss_one (ps_if (pt_cmpR (op_inD (units65 hr)) (pv 3) (pv 1) (by rfl))
          (pss_one (ps_set (i := 2) scLLines.nd rfl (.inl rfl) (pe_op op_cat (pv 2) (pe_lc (own := [("_law_k", 8), ("_law_text", 9)]) (g := gTup K 2 (gCons (gName 8) (gCons (gName 9) gNil))) (tt := tYes) rfl scLLines.nd (pi_enum (by rfl) M.enum_ (pa_cons (pv 6) pa_nil))
            (blkOk_by (N := ["_law_history_here", "_law_names", "_law_found", "_law_name", "_law_knows", "_law_deeds", "_law_texts", "_law_deed_here", "_law_k", "_law_text"]) (sc := defScope sLLines) (by decide +kernel))
            (fun _ _ _ _ _ => pg_tup rfl (pgs_cons (pg_name (i := 8) scLLines.nd rfl (Or.inl rfl)) (pgs_cons (pg_name (i := 9) scLLines.nd rfl (Or.inl rfl)) pgs_nil)))
            (fun _ _ _ _ _ => pts_nil) (fun _ _ _ _ _ => pe_tup (pa_cons (pe_op (show OpR _ _ (rCatA K) from op_catA) (pv 3) (pe_tup (pa_cons (pe_op op_add (pv 8) pe_int) pa_nil))) (pa_cons (pv 9) pa_nil))))))) pss_nil)))))
      (pss_one (ps_ret (pv 2)))), ?_⟩
    obtain ⟨a, xs, rfl, hS, hD⟩ := hh
    have hlen : xs.length = hist.length := by rw [DpAll.len hD, List.length_map]
    refine ⟨Nat.zero_le _, fun p0 hp0 => ?_⟩
    have g0 : Go T D0 H (upd H p0 (.lst [])) := (Go.rfl' tg).new hp0
    have e0 : (upd H p0 (.lst [])) p0 = some (.lst []) := upd_same
    generalize upd H p0 (.lst []) = H0 at g0 e0 ⊢
    have subC : ∀ {H'}, Go T D0 H H' → Sub (cut C H) (cut C H') := fun g => (sub_go g tg).cuts
    -- the history's turns
    refine ⟨.ref a, rfl, a, rfl, ⟨xs, g0.seqL tg (fun _ _ z => z) hS⟩, ?_⟩
    refine for_list (K := K) (a := a) (xs := xs) (fun i σ H1 => ∃ (p : Addr) (fs : List V) (y3 y4 y5 y6 y7 : Option V), σ = [some (.ref a), some nv, some (.ref p), y3, y4, y5, y6, y7, none, none] ∧ Go T D0 H H1 ∧ H p = none ∧ H1 p = some (.lst fs) ∧
      DpAll K (cut C H1) fs ((linesIn (hist.take i) names).map eLT)) ?_ ?_ ?_ ?_
    · exact ⟨p0, [], _, _, _, _, _, rfl, g0, hp0, e0, .nil⟩
    · rintro i σ H1 hi ⟨_, _, _, _, _, _, _, rfl, g, _⟩
      exact g.seqL tg (fun _ _ z => z) hS
    · rintro i v σ H1 hv ⟨p, fs, y3, y4, y5, y6, y7, rfl, g, hp, ep, hf⟩
      obtain ⟨d, hd, hv'⟩ := DpAll.at' hD hv
      obtain ⟨pat, hpat, rfl⟩ := at_map hd
      have pm := List.mem_of_getElem? hpat
      obtain ⟨pok, psm⟩ := hok.each pat pm
      obtain ⟨av, _, rfl, sv, dv⟩ := Dp.tupI hv'
      obtain ⟨vn, vk, vd, rfl, dn, dk, dd⟩ := DpAll.i3 dv
      obtain ⟨an, _, rfl, sn, dn2⟩ := Dp.tupI dn
      obtain ⟨u1, u2, rfl, du1, du2⟩ := DpAll.i2 dn2
      cases Dp.strI du1
      cases Dp.intI du2
      obtain ⟨ad, dsv, rfl, sd, dds⟩ := Dp.lstI dd
      have dlen : dsv.length = pat.deeds.length := by rw [DpAll.len dds, List.length_map]
      have toH : ∀ {H'}, Go T D0 H H' → Sub (cut C H) H' := fun g => (subC g).trans Sub.cut
      refine ⟨av, _, rfl, (toH g).seqT sv, rfl, _, _, rfl, vk, _, rfl, _, _, rfl, rfl, ?_⟩
      refine ⟨Nat.zero_le _, fun t0 ht0 => ?_⟩
      have g1 : Go T D0 H1 (upd H1 t0 (.lst [])) := (Go.rfl' g.1).new ht0
      have e1 : (upd H1 t0 (.lst [])) t0 = some (.lst []) := upd_same
      generalize upd H1 t0 (.lst []) = H2 at g1 e1 ⊢
      refine ⟨.ref ad, rfl, ad, rfl, ⟨dsv, (toH (g.trans g1)).seqL sd⟩, ?_⟩
      have tlen : (textsOf pat).length ≤ 9 := textsOf_len psm
      refine for_list (K := K) (a := ad) (xs := dsv) (fun j σ H3 => ∃ (t : Addr) (y7 : Option V), σ = [some (.ref a), some nv, some (.ref p), some (.ref an), some vk, some (.ref ad), some (.ref t), y7, none, none] ∧ Go T D0 H1 H3 ∧
        H3 t = some (.lst (((pat.deeds.take j).flatMap Deed.texts).map V.str))) ?_ ?_ ?_ ?_
      · exact ⟨t0, _, rfl, g1, e1⟩
      · rintro j σ H3 hj ⟨_, _, rfl, g3, _⟩
        exact (toH (g.trans g3)).seqL sd
      · rintro j x σ H3 hx ⟨t, y7, rfl, g3, et⟩
        obtain ⟨dd', hdd, hx'⟩ := DpAll.at' dds hx
        obtain ⟨deed, hdeed, rfl⟩ := at_map hdd
        obtain ⟨a', k', r, rfl, s', hcase⟩ := txt_of hx'
        have S' : SqT K H3 a' (.str k' :: r) := (toH (g.trans g3)).seqT s'
        have tle := flat_take (f := Deed.texts) pat.deeds j
        have dle := psm.texts deed (List.mem_of_getElem? hdeed)
        have tl9 : (pat.deeds.flatMap Deed.texts).length ≤ 9 := tlen
        have fin : ∀ (H4 : Hp) (l : Addr), Go T D0 H1 H4 → H4 t = some (.lst (((pat.deeds.take j).flatMap Deed.texts).map V.str)) → H4 l = some (.lst (deed.texts.map V.str)) →
            rCat (.ref t) (.ref l) H4 (fun z H5 => ∃ (t : Addr) (y7 : Option V), [some (.ref a), some nv, some (.ref p), some (.ref an), some vk, some (.ref ad), some z, some (.ref a'), none, none] = [some (.ref a), some nv, some (.ref p), some (.ref an), some vk, some (.ref ad), some (V.ref t), y7, none, none] ∧ Go T D0 H1 H5 ∧
              H5 t = some (.lst (((pat.deeds.take (j + 1)).flatMap Deed.texts).map V.str))) := by
          intro H4 l g4 et4 el4
          refine ⟨t, l, _, _, rfl, rfl, et4, el4, small_le (by rw [List.length_map, List.length_map]; omega), fun q hq => ⟨q, _, rfl, g4.new hq, ?_⟩⟩
          rw [upd_same, flat_succ hdeed, List.map_append]
        refine ⟨.ref t, rfl, .ref a', rfl, a', _, 0, .str k', rfl, rfl, S', atI_nat (j := 0) rfl, rfl, _, rfl, ite2 (fun e => ?_) (fun e => ?_)⟩
        · have ek : k' = "put" := V.str.inj (of_decide_eq_true e)
          rcases hcase with ⟨_, x1, x2, tt, us, rfl, s2, hus⟩ | ⟨z, _⟩
          · refine ⟨.ref a', rfl, a', _, 3, .ref tt, rfl, rfl, S', atI_nat (j := 3) rfl, tt, _, rfl, .inr ((toH (g.trans g3)).seqT s2), fun l hl => ?_⟩
            exact fin _ l (g3.new hl) (by rw [upd_ne (ne_of_none et hl)]; exact et) (by rw [upd_same, hus])
          · exact absurd ek z
        · have ek : ¬ k' = "put" := fun z => e (decide_eq_true (by rw [z]))
          rcases hcase with ⟨z, _⟩ | ⟨_, hus⟩
          · exact absurd z ek
          · refine ⟨Nat.zero_le _, fun l hl => ?_⟩
            exact fin _ l (g3.new hl) (by rw [upd_ne (ne_of_none et hl)]; exact et) (by rw [upd_same, hus]; rfl)
      · rintro σ H3 ⟨t, y7, rfl, g3, et⟩
        rw [dlen, List.take_length] at et
        have g03 := g.trans g3
        have ep3 := g3.at g.1 (fun z => z) ep
        have hf3 : DpAll K (cut C H3) fs ((linesIn (hist.take i) names).map eLT) := Dp.subs (sub_go g3 g.1).cuts _ _ hf
        have step : linesIn (hist.take (i + 1)) names = linesIn (hist.take i) names ++ (if pat.name ∈ names then linesOf pat else []) := flat_succ hpat
        refine ⟨.ref an, rfl, nv, rfl, eN pat.name, names.map eN, Dp.sub (toH g03) _ _ dn, Dp.sub (sub_go g03 tg) _ _ hn, pok.name.sh, nms_sh nok, _, rfl, ite2 (fun e => ?_) (fun e => ?_)⟩
        · rw [eN_any] at e
          rw [if_pos (of_decide_eq_true e)] at step
          have tl9 : (pat.deeds.flatMap Deed.texts).length ≤ 9 := tlen
          have St : SqL K H3 t (((pat.deeds.flatMap Deed.texts)).map V.str) := .inl (.inl et)
          refine ⟨.ref p, rfl, .ref t, rfl, t, _, rfl, St, fun D hD => ?_⟩
          have nDp : p ≠ D := ne_of_none ep3 hD
          have CD : C D = false := held.no (g03.free tg (fun z => z) hD)
          refine lc_it (walk_enum (K := K) (a := t) (xs := (textsOf pat).map V.str)) (fun n H4 => Go T D0 H3 H4 ∧ ∃ acc, H4 D = some (.lst acc) ∧ acc.length = n ∧ DpAll K (cut (plus C D) H4) acc (((List.range n).map fun k => (lnAt pat.name k, (textsOf pat).getD k "")).map eLT)) ?_ ?_ ?_ ?_
          · exact ⟨(Go.rfl' g03.1).new hD, [], upd_same, rfl, .nil⟩
          · rintro n H4 hn ⟨g4, _⟩
            exact g4.seqL g03.1 (fun _ _ z => z) St
          · rintro n x H4 H4' hn ⟨g4, acc, eD, hacc, hda⟩ ⟨T', x', y', rfl, hT, rfl, hx', hy'⟩
            cases hx'
            have hy' : ((textsOf pat).map V.str)[n]? = some y' := hy'
            have hn' : n < (textsOf pat).length := by rw [List.length_map] at hn; exact hn
            have ey : y' = .str ((textsOf pat).getD n "") := by
              rw [List.getElem?_map, List.getElem?_eq_getElem hn'] at hy'
              rw [List.getD_eq_getElem?_getD, List.getElem?_eq_getElem hn']
              exact (Option.some.inj hy').symm
            subst ey
            have nDT : D ≠ T' := ne_of_none eD hT
            have g5 := g4.new (o := .tup [V.int (n : Nat), .str ((textsOf pat).getD n "")]) hT
            have eD5 := (upd_ne (o := .tup [V.int (n : Nat), .str ((textsOf pat).getD n "")]) nDT).trans eD
            have hda5 : DpAll K (cut (plus C D) (upd H4 T' (.tup [V.int (n : Nat), .str ((textsOf pat).getD n "")]))) acc _ := Dp.subs (Sub.new hT).cuts _ _ hda
            refine ⟨T', _, rfl, .inl (.inl upd_same), rfl, _, _, rfl, _, _, rfl, rfl, rfl, ?_⟩
            generalize upd H4 T' (.tup [V.int (n : Nat), .str ((textsOf pat).getD n "")]) = H5 at g5 eD5 hda5 ⊢
            refine ⟨.ref an, rfl, .int (n : Nat), rfl, (n : Nat), 1, rfl, rfl, small_le (by show 1 ≤ 10000; decide), fun t1 ht1 => ?_⟩
            have g6 := g5.new (o := .tup [V.int ((n : Nat) + 1 : Int)]) ht1
            have eD6 := (upd_ne (o := .tup [V.int ((n : Nat) + 1 : Int)]) (ne_of_none eD5 ht1)).trans eD5
            have hda6 : DpAll K (cut (plus C D) (upd H5 t1 (.tup [V.int ((n : Nat) + 1 : Int)]))) acc _ := Dp.subs (Sub.new ht1).cuts _ _ hda5
            have sn6 : SqT K (upd H5 t1 (.tup [V.int ((n : Nat) + 1 : Int)])) an [.str pat.name.1, .int pat.name.2] := (toH (g03.trans g6)).seqT sn
            have e16 : (upd H5 t1 (.tup [V.int ((n : Nat) + 1 : Int)])) t1 = some (.tup [V.int ((n : Nat) + 1 : Int)]) := upd_same
            generalize upd H5 t1 (.tup [V.int ((n : Nat) + 1 : Int)]) = H6 at g6 eD6 hda6 sn6 e16 ⊢
            refine ⟨an, t1, _, _, rfl, rfl, sn6, .inl (.inl e16), small_le (by show 3 ≤ 10000; decide), (fun z => by cases z), (fun _ z => by cases z), fun _ _ t2 ht2 => ?_⟩
            have g7 := g6.new (o := .tup ([V.str pat.name.1, .int pat.name.2] ++ [V.int ((n : Nat) + 1 : Int)])) ht2
            have eD7 := (upd_ne (o := .tup ([V.str pat.name.1, .int pat.name.2] ++ [V.int ((n : Nat) + 1 : Int)])) (ne_of_none eD6 ht2)).trans eD6
            have hda7 : DpAll K (cut (plus C D) (upd H6 t2 (.tup ([V.str pat.name.1, .int pat.name.2] ++ [V.int ((n : Nat) + 1 : Int)])))) acc _ := Dp.subs (Sub.new ht2).cuts _ _ hda6
            have e27 : (upd H6 t2 (.tup ([V.str pat.name.1, .int pat.name.2] ++ [V.int ((n : Nat) + 1 : Int)]))) t2 = some (.tup [V.str pat.name.1, .int pat.name.2, V.int ((n : Nat) + 1 : Int)]) := upd_same
            have nD2 : t2 ≠ D := fun z => ne_of_none eD6 ht2 z.symm
            have C2 : C t2 = false := held.no ((g03.trans g6).free tg (fun z => z) ht2)
            generalize upd H6 t2 (.tup ([V.str pat.name.1, .int pat.name.2] ++ [V.int ((n : Nat) + 1 : Int)])) = H7 at g7 eD7 hda7 e27 ⊢
            refine ⟨.str ((textsOf pat).getD n ""), rfl, small_le (by show 2 ≤ 10000; decide), fun t3 ht3 => ?_⟩
            have nD3 : t3 ≠ D := fun z => ne_of_none eD7 ht3 z.symm
            have C3 : C t3 = false := held.no ((g03.trans g7).free tg (fun z => z) ht3)
            have n23 : t2 ≠ t3 := ne_of_none e27 ht3
            refine ⟨acc, (upd_ne nD3.symm).trans eD7, small_line (by omega), (g7.new ht3).put hD ((upd_ne nD3.symm).trans eD7), acc ++ [.ref t3], upd_same, by rw [List.length_append, hacc]; rfl, ?_⟩
            rw [cut_out plus_D, List.range_succ, List.map_append, List.map_append]
            refine DpAll.app (Dp.subs (Sub.new ht3).cuts _ _ hda7) (.one ?_)
            show Dp K (cut (plus C D) (upd H7 t3 (.tup [V.ref t2, .str ((textsOf pat).getD n "")]))) (.ref t3) (.tuple [eL (lnAt pat.name n), .str ((textsOf pat).getD n "")])
            refine .tup (.inl (.inl ((cut_at (plus_no C3 nD3)).trans upd_same))) (.cons (.tup (.inl (.inl ((cut_at (plus_no C2 nD2)).trans ((upd_ne n23).trans e27)))) (.cons (.str _) (.cons (.int _) (.cons (.int _) .nil)))) (.cons (.str _) .nil))
          · rintro H4 ⟨g4, acc, eD, hacc, hda⟩
            rw [List.length_map] at hacc hda
            have ep4 := g4.at g03.1 (fun z => z) ep3
            have l1 := linesIn_len (names := names) (hist := hist.take i) fun p m => (hok.each p (List.mem_of_mem_take m)).2
            have l2 : (hist.take i).length ≤ 100 := by rw [List.length_take]; have := hok.len; omega
            have l3 : fs.length ≤ 900 := by rw [DpAll.len hf3, List.length_map]; omega
            refine ⟨p, D, fs, acc, rfl, rfl, ep4, eD, small_le (by omega), fun q hq => ?_⟩
            refine ⟨q, fs ++ acc, _, _, _, _, _, rfl, (g03.trans g4).new hq, (g03.trans g4).free tg (fun z => z) hq, upd_same, ?_⟩
            rw [step, List.map_append]
            refine DpAll.app (Dp.subs ((Sub.trans (sub_go g4 g03.1) (Sub.new hq)).cuts) _ _ hf3) (Dp.subs (Sub.trans (Sub.less (H := H4) (plus_le (C := C) (D := D))) (Sub.new hq).cuts) _ _ hda)
        · rw [eN_any] at e
          rw [if_neg (fun z => e (decide_eq_true z)), List.append_nil] at step
          rw [← step] at hf3
          exact ⟨p, fs, _, _, _, _, _, rfl, g03, hp, ep3, hf3⟩
    · rintro σ H1 ⟨p, fs, y3, y4, y5, y6, y7, rfl, g, hp, ep, hf⟩
      rw [hlen, List.take_length] at hf
      exact ⟨.ref p, rfl, q H1 p fs g hp ep hf⟩
end
end K1
set_option Elab.async false
set_option linter.all false
set_option maxRecDepth 100000
set_option maxHeartbeats 4000000
/-! The law's defs: what is known. -/
namespace K1
open PySem PySem.Spec PyProof.Rows L2

theorem knownStep_ok {found : List Nm} {p : Pat} (h : ∀ n ∈ found, NmOk n) (hp : p.ok) : ∀ n ∈ knownStep found p, NmOk n := by
  unfold knownStep
  split
  · intro n hn
    rcases List.mem_append.mp hn with hn | hn
    · exact h n hn
    · exact hp.knows n (List.mem_filter.mp hn).1
  · exact h
theorem knownStep_len {found : List Nm} {p : Pat} (hp : p.small) : (knownStep found p).length ≤ found.length + 4 := by
  unfold knownStep
  split
  · rw [List.length_append]
    have := List.length_filter_le (fun n => decide (n ∉ found)) p.knows
    have := hp.knows
    omega
  · omega
theorem fold_succ {α β : Type} {f : β → α → β} {b : β} {l : List α} {j : Nat} {x : α} (h : l[j]? = some x) : (l.take (j + 1)).foldl f b = f ((l.take j).foldl f b) x := by
  rw [List.take_add_one, h, List.foldl_append]
  rfl
theorem knownIn_ok {hist : List Pat} {knows : List Nm} (hk : ∀ n ∈ knows, NmOk n) : ∀ {l : List Pat}, (∀ p ∈ l, p.ok) → ∀ {found : List Nm}, (∀ n ∈ found, NmOk n) → ∀ n ∈ l.foldl knownStep found, NmOk n
  | [], _, _, h => h
  | p :: r, hl, _, h => knownIn_ok (hist := hist) hk (l := r) (fun q m => hl q (List.mem_cons_of_mem _ m)) (knownStep_ok h (hl p (List.mem_cons_self ..)))
theorem knownIn_len : ∀ {l : List Pat}, (∀ p ∈ l, p.small) → ∀ {found : List Nm}, (l.foldl knownStep found).length ≤ found.length + 4 * l.length
  | [], _, _ => Nat.le_refl _
  | p :: r, hl, found => by
    have h1 := knownIn_len (l := r) (fun q m => hl q (List.mem_cons_of_mem _ m)) (found := knownStep found p)
    have h2 := knownStep_len (found := found) (hl p (List.mem_cons_self ..))
    rw [List.foldl_cons, List.length_cons]
    omega

section
variable {P : Program} {w : World} {K : PySem.W.Frag} {mg : Str → Option Value} {base : Heap} {T : Tp}

/-! ### _law_known -/
def spKnown (K : PySem.W.Frag) (T : Tp) : Sp := fun vs H Q _ => ∃ (h : V) (b : Addr) (ks : List V) (hist : List Pat) (knows : List Nm) (C : Addr → Bool), vs = [h, .ref b] ∧ HistAt K C H h hist ∧ HistOk hist ∧ SqL K H b ks ∧ DpAll K (cut C H) ks (knows.map eN) ∧ (∀ n ∈ knows, NmOk n) ∧ knows.length ≤ 100 ∧ Held C H ∧ TG T H ∧
  ∀ H' p xs, Go T D0 H H' → H p = none → H' p = some (.lst xs) → DpAll K (cut C H') xs ((knownIn hist knows).map eN) → Q (.ref p) H'
theorem ok_lknown {f : Addr} {fd : FuncData} {k : Nat} (F : Fun K "_law_known" "_law_known" sLKnown f fd) (M : Mg K mg) : FnOk P w K mg base CX0 (k + 1) f fd ["_law_history_here", "_law_knows"] (spKnown K T) := by
  refine F.ok scLKnown (fun vs H Q E h => ?_) (fun cdv A outer s H vs Q E hr h => ?_)
  · obtain ⟨h, b, ks, hist, knows, C, rfl, _⟩ := h
    rfl
  · obtain ⟨hv, b, ks, hist, knows, C, rfl, hh, hok, hb, hks, nok, klen, held, tg, q⟩ := h
    refine ⟨_, pss_cons (ps_set (i := 2) scLKnown.nd rfl (.inr rfl) (pe_callTy call_list_of (by rfl) M.list_ (by decide +kernel) (pa_cons (pv 1) pa_nil)))
      (pss_cons (ps_for PassesOwn.never rfl (pi_list (pe_revL (pv 0))) (pg_tup rfl (pgs_cons (pg_name (i := 3) scLKnown.nd rfl (.inl rfl)) (pgs_cons (pg_name (i := 4) scLKnown.nd rfl (.inl rfl)) (pgs_cons (pg_name (i := 5) scLKnown.nd rfl (.inl rfl)) pgs_nil))))
        (pss_one (ps_if (pt_cmpR (op_inD (units65 hr)) (pv 3) (pv 2) (by rfl))
          (pss_one (ps_set (i := 2) scLKnown.nd rfl (.inr rfl) (pe_op op_cat (pv 2) (pe_lc (own := [("_law_one", 6)]) (g := gName 6) rfl scLKnown.nd (pi_list (pv 4))
            (blkOk_by (N := ["_law_history_here", "_law_knows", "_law_found", "_law_name", "_law_own", "_law_deeds", "_law_one"]) (sc := defScope sLKnown) (by decide +kernel))
            (fun _ _ _ _ _ => pg_name (i := 6) scLKnown.nd rfl (Or.inl rfl))
            (fun _ _ _ _ _ => pts_one (pt_cmpR (show OpR _ _ (rNotInD K) from op_notInD (units65 hr)) (pv 6) (pv 2) (by rfl))) (fun _ _ _ _ _ => pv 6))))) pss_nil)))
      (pss_one (ps_ret (pv 2)))), ?_⟩
    obtain ⟨a, xs, rfl, hS, hD⟩ := hh
    have hlen : xs.reverse.length = hist.reverse.length := by rw [List.length_reverse, List.length_reverse, DpAll.len hD, List.length_map]
    refine ⟨.ref b, rfl, b, ks, rfl, .inl hb, fun p0 hp0 => ?_⟩
    have g0 : Go T D0 H (upd H p0 (.lst ks)) := (Go.rfl' tg).new hp0
    have e0 : (upd H p0 (.lst ks)) p0 = some (.lst ks) := upd_same
    generalize upd H p0 (.lst ks) = H0 at g0 e0 ⊢
    have subC : ∀ {H'}, Go T D0 H H' → Sub (cut C H) (cut C H') := fun g => (sub_go g tg).cuts
    have toH : ∀ {H'}, Go T D0 H H' → Sub (cut C H) H' := fun g => (subC g).trans Sub.cut
    refine ⟨.ref a, rfl, a, xs, rfl, g0.seqL tg (fun _ _ z => z) hS, fun r hr' => ?_⟩
    have g1 := g0.new (o := .lst xs.reverse) hr'
    have e1 := (upd_ne (o := .lst xs.reverse) (ne_of_none e0 hr')).trans e0
    have er : (upd H0 r (.lst xs.reverse)) r = some (.lst xs.reverse) := upd_same
    have fr : H r = none := g0.free tg (fun z => z) hr'
    generalize upd H0 r (.lst xs.reverse) = H1 at g1 e1 er ⊢
    refine ⟨r, rfl, ⟨_, .inl (.inl er)⟩, ?_⟩
    have hDr : DpAll K (cut C H) xs.reverse (hist.reverse.map eP) := by
      rw [List.map_reverse]
      exact hD.rev
    refine for_list (K := K) (a := r) (xs := xs.reverse) (fun i σ H2 => ∃ (p : Addr) (fs : List V) (y3 y4 y5 : Option V), σ = [some (.ref a), some (.ref b), some (.ref p), y3, y4, y5, none] ∧ Go T D0 H H2 ∧ H2 r = some (.lst xs.reverse) ∧ H p = none ∧ H2 p = some (.lst fs) ∧
      DpAll K (cut C H2) fs (((hist.reverse.take i).foldl knownStep knows).map eN)) ?_ ?_ ?_ ?_
    · exact ⟨p0, ks, _, _, _, rfl, g1, er, hp0, e1, Dp.subs (subC g1) _ _ hks⟩
    · rintro i σ H2 hi ⟨_, _, _, _, _, rfl, g, er2, _⟩
      exact .inl (.inl er2)
    · rintro i v σ H2 hv ⟨p, fs, y3, y4, y5, rfl, g, er2, hp, ep, hf⟩
      obtain ⟨d, hd, hv'⟩ := DpAll.at' hDr hv
      obtain ⟨pat, hpat, rfl⟩ := at_map hd
      have pm : pat ∈ hist := List.mem_reverse.mp (List.mem_of_getElem? hpat)
      obtain ⟨pok, psm⟩ := hok.each pat pm
      obtain ⟨av, _, rfl, sv, dv⟩ := Dp.tupI hv'
      obtain ⟨vn, vk, vd, rfl, dn, dk, dd⟩ := DpAll.i3 dv
      obtain ⟨ak, kv, rfl, sk, dks⟩ := Dp.lstI dk
      have klen' : kv.length = pat.knows.length := by rw [DpAll.len dks, List.length_map]
      have small' : ∀ p ∈ hist.reverse.take i, p.small := fun p m => (hok.each p (List.mem_reverse.mp (List.mem_of_mem_take m))).2
      have ok' : ∀ p ∈ hist.reverse.take i, p.ok := fun p m => (hok.each p (List.mem_reverse.mp (List.mem_of_mem_take m))).1
      have fok := knownIn_ok (hist := hist) nok (l := hist.reverse.take i) ok' (found := knows) nok
      have flen := knownIn_len (l := hist.reverse.take i) small' (found := knows)
      have l2 : (hist.reverse.take i).length ≤ 100 := by rw [List.length_take, List.length_reverse]; have := hok.len; omega
      have step : (hist.reverse.take (i + 1)).foldl knownStep knows = knownStep ((hist.reverse.take i).foldl knownStep knows) pat := fold_succ hpat
      generalize (hist.reverse.take i).foldl knownStep knows = found at hf fok flen step ⊢
      have l3 : fs.length = found.length := by rw [DpAll.len hf, List.length_map]
      have Lp : Dp K H2 (.ref p) (.list (found.map eN)) := .lst (.inl (.inl ep)) (Dp.subs Sub.cut _ _ hf)
      refine ⟨av, _, rfl, (toH g).seqT sv, rfl, _, _, rfl, _, _, rfl, _, _, rfl, rfl, ?_⟩
      refine ⟨vn, rfl, .ref p, rfl, eN pat.name, found.map eN, Dp.sub (toH g) _ _ dn, Lp, pok.name.sh, nms_sh fok, _, rfl, ite2 (fun e => ?_) (fun e => ?_)⟩
      · rw [eN_any] at e
        rw [show knownStep found pat = found ++ pat.knows.filter (fun n => decide (n ∉ found)) from if_pos (of_decide_eq_true e)] at step
        refine ⟨.ref p, rfl, .ref ak, rfl, ak, rfl, ⟨_, (toH g).seqL sk⟩, fun D hD' => ?_⟩
        have nDp : p ≠ D := ne_of_none ep hD'
        refine lc_list (K := K) (a := ak) (xs := kv) (fun n H3 => Go T D0 H2 H3 ∧ ∃ acc, H3 D = some (.lst acc) ∧ acc.length ≤ n ∧ DpAll K (cut C H2) acc (((pat.knows.take n).filter fun m => decide (m ∉ found)).map eN)) ?_ ?_ ?_ ?_
        · exact ⟨(Go.rfl' g.1).new hD', [], upd_same, Nat.le_refl _, .nil⟩
        · rintro n H3 hn ⟨g3, _⟩
          exact (toH (g.trans g3)).seqL sk
        · rintro n x H3 hx ⟨g3, acc, eD, hacc, hda⟩
          obtain ⟨d', hd', hx'⟩ := DpAll.at' dks hx
          obtain ⟨m, hm, rfl⟩ := at_map hd'
          have mok := pok.knows m (List.mem_of_getElem? hm)
          have Lp3 : Dp K H3 (.ref p) (.list (found.map eN)) := Dp.sub (sub_go g3 g.1) _ _ Lp
          have tk : (pat.knows.take (n + 1)).filter (fun m => decide (m ∉ found)) = (pat.knows.take n).filter (fun m => decide (m ∉ found)) ++ [m].filter (fun m => decide (m ∉ found)) := by
            rw [List.take_add_one, hm, List.filter_append]
            rfl
          have hn : n < kv.length := (List.getElem?_eq_some_iff.mp hx).1
          refine ⟨rfl, x, rfl, .ref p, rfl, eN m, found.map eN, Dp.sub (toH (g.trans g3)) _ _ hx', Lp3, mok.sh, nms_sh fok, _, rfl, ite2 (fun e3 => ?_) (fun e3 => ?_)⟩
          · have n3 : m ∉ found := by
              rw [eN_any] at e3
              intro z
              rw [decide_eq_true z] at e3
              cases e3
            refine ⟨x, rfl, acc, eD, small_line (by have := psm.knows; omega), g3.put hD' eD, acc ++ [x], upd_same, by rw [List.length_append]; show acc.length + 1 ≤ n + 1; omega, ?_⟩
            rw [tk, List.filter_cons_of_pos (by simpa using n3), List.filter_nil, List.map_append]
            exact hda.app (.one (Dp.sub (subC g) _ _ hx'))
          · have n3 : m ∈ found := by
              rw [eN_any] at e3
              have : ¬ (!decide (m ∈ found)) = true := e3
              simpa using this
            refine ⟨g3, acc, eD, by omega, ?_⟩
            rw [tk, List.filter_cons_of_neg (by simpa using n3), List.filter_nil, List.append_nil]
            exact hda
        · rintro H3 ⟨g3, acc, eD, hacc, hda⟩
          rw [klen', List.take_length] at hda
          have ep3 := g3.at g.1 (fun z => z) ep
          refine ⟨p, D, fs, acc, rfl, rfl, ep3, eD, small_le (by have := psm.knows; omega), fun q' hq => ?_⟩
          have g4 := (g.trans g3).new (o := .lst (fs ++ acc)) hq
          refine ⟨q', fs ++ acc, _, _, _, rfl, g4, ?_, (g.trans g3).free tg (fun z => z) hq, upd_same, ?_⟩
          · have er3 := g3.at g.1 (fun z => z) er2
            exact (upd_ne (ne_of_none er3 hq)).trans er3
          · rw [step, List.map_append]
            have s4 : Sub (cut C H2) (cut C (upd H3 q' (.lst (fs ++ acc)))) := ((sub_go g3 g.1).trans (Sub.new hq)).cuts
            exact DpAll.app (Dp.subs s4 _ _ hf) (Dp.subs s4 _ _ hda)
      · rw [eN_any] at e
        rw [show knownStep found pat = found from if_neg (fun z => e (decide_eq_true z))] at step
        refine ⟨p, fs, _, _, _, rfl, g, er2, hp, ep, ?_⟩
        rw [step]
        exact hf
    · rintro σ H2 ⟨p, fs, y3, y4, y5, rfl, g, er2, hp, ep, hf⟩
      rw [hlen, List.take_length] at hf
      exact ⟨.ref p, rfl, q H2 p fs g hp ep hf⟩
end
end K1
set_option Elab.async false
set_option linter.all false
set_option maxRecDepth 100000
set_option maxHeartbeats 4000000
/-! The law's defs: a drawn deed. -/
namespace K1
open PySem PySem.Spec PyProof.Rows L2

theorem Go.dig {T : Tp} {D : Addr → Prop} {H H' : Hp} {d : Addr} {kvs : List (Key × V)} (t : TG T H) (hd : H d = some (.dK kvs)) (sm : ∀ x o, x ≠ d → H x = some o → H' x = some o) (dd : D d) : Go T D H H' := by
  have ne := t.neW hd (by intro ps z; cases z)
  refine ⟨fun P hP => ?_, fun b o _ h3 e => sm b o (fun z => h3 (by rw [z]; exact dd)) e⟩
  obtain ⟨ps, e, r⟩ := t P hP
  exact ⟨ps, sm _ _ (fun z => ne (z ▸ hP)) e, r⟩
theorem Go.drop {T : Tp} {H H' : Hp} {d : Addr} (g : Go T (· = d) H H') (h : H d = none) : Go T D0 H H' :=
  ⟨g.1, fun b o h1 _ e => g.2 b o h1 (ne_of_none e h) e⟩
theorem sub_god {T : Tp} {H H' : Hp} {d : Addr} {kvs : List (Key × V)} (g : Go T (· = d) H H') (t : TG T H) (h : H d = some (.dK kvs)) : Sub H H' := Sub.go g t fun a z xs => by
  subst z
  rw [h]
  refine ⟨fun z => ?_, fun z => ?_, fun u => ⟨fun z => ?_, fun z => ?_⟩⟩ <;> cases z
/-- the drawing state -/
def St (H : Hp) (d : Addr) : Prop := ∃ a b : Int, 0 ≤ a ∧ 0 ≤ b ∧ H d = some (.dK (stD a b))
theorem St.new {H : Hp} {d p : Addr} {o : HO} (s : St H d) (h : H p = none) : St (upd H p o) d := by
  obtain ⟨a, b, h1, h2, e⟩ := s
  exact ⟨a, b, h1, h2, (upd_ne (ne_of_none e h)).trans e⟩
theorem St.put {H : Hp} {d p : Addr} {o u : HO} (s : St H d) (h : H p = some u) (hu : ∀ k, u ≠ .dK k := by intro k z; cases z) : St (upd H p o) d := by
  obtain ⟨a, b, h1, h2, e⟩ := s
  refine ⟨a, b, h1, h2, (upd_ne ?_).trans e⟩
  rintro rfl
  rw [e] at h
  exact hu _ (Option.some.inj h).symm
theorem St.go {T : Tp} {H H' : Hp} {d : Addr} (s : St H d) (g : Go T D0 H H') (t : TG T H) : St H' d := by
  obtain ⟨a, b, h1, h2, e⟩ := s
  exact ⟨a, b, h1, h2, g.at t (fun z => z) e⟩
theorem St.sub {T : Tp} {H H' : Hp} {d : Addr} (s : St H d) (g : Go T (· = d) H H') (t : TG T H) : Sub H H' := by
  obtain ⟨a, b, h1, h2, e⟩ := s
  exact sub_god g t e
theorem St.ne {H : Hp} {d p : Addr} {u : HO} (s : St H d) (h : H p = some u) (hu : ∀ k, u ≠ .dK k := by intro k z; cases z) : ¬ p = d := by
  obtain ⟨a, b, h1, h2, e⟩ := s
  rintro rfl
  rw [e] at h
  exact hu _ (Option.some.inj h).symm
theorem freeD {T : Tp} {H H' : Hp} {d p : Addr} (g : Go T (· = d) H H') (t : TG T H) (s : St H' d) (h : H' p = none) : H p = none := g.free t (by
  rintro rfl
  obtain ⟨a, b, _, _, e⟩ := s
  rw [h] at e
  cases e) h
theorem headL_ne_foot : headL ≠ footL := by
  intro z
  have : (0 : Int) = 1 := congrArg (fun l : Ln => l.2.2) z
  cases this
theorem LnOk.ne_foot {l : Ln} (h : LnOk l) : l ≠ footL := by
  rintro rfl
  have := h.1.1
  revert this
  decide +kernel
/-- a digit drawn: what the def's promise gives, in one word -/
theorem dg {T : Tp} {H : Hp} {d : Addr} {m : Int} {kvs : List (Key × V)} {R : Int → Hp → Prop} (t : TG T H) (e : H d = some (.dK kvs)) (q : ∀ r H', 0 ≤ r → r < m → Go T (· = d) H H' → St H' d → R r H') :
    ∀ r a' b' H', 0 ≤ r → r < m → 0 ≤ a' → 0 ≤ b' → H' d = some (.dK (stD a' b')) → (∀ x o, x ≠ d → H x = some o → H' x = some o) → R r H' :=
  fun r a' b' H' r0 r1 ha hb hd sm => q r H' r0 r1 (Go.dig t e sm rfl) ⟨a', b', ha, hb, hd⟩
/-- the rest of two branches, told once -/
theorem twice {A G : Hp → Prop} {P : Prop} (h : ∀ H2, A H2 → G H2) (use : (∀ H2, A H2 → G H2) → P) : P := use h
theorem atI_int {α : Type} {xs : List α} {j : Int} (h0 : 0 ≤ j) (h1 : j < xs.length) : ∃ x, xs[j.toNat]? = some x ∧ atI xs j = some x := by
  have hj : j.toNat < xs.length := by omega
  refine ⟨xs[j.toNat], List.getElem?_eq_getElem hj, ?_⟩
  have := atI_nat (xs := xs) (j := j.toNat) (List.getElem?_eq_getElem hj)
  rwa [show ((j.toNat : Nat) : Int) = j by omega] at this

def menuT : List Str := ["a", "b", "", "c c"]
/-- a deed drawn out of good lines -/
inductive DeedFrom (goods : List Ln) : Deed → Prop
  | put (a b : Ln) (ts : List Str) (ha : a = headL ∨ a ∈ goods) (hb : b = footL ∨ b ∈ goods) (ne : a ≠ b) (h0 : 1 ≤ ts.length) (h1 : ts.length ≤ 3) (ht : ∀ t ∈ ts, t ∈ menuT) : DeedFrom goods (.put a b ts)
  | order (a b : Ln) (ha : a ∈ goods) (hb : b ∈ goods) (ne : a ≠ b) : DeedFrom goods (.order a b)
  | one (k : Bool) (a : Ln) (ha : a ∈ goods) : DeedFrom goods (.one k a)

section
variable {P : Program} {w : World} {K : PySem.W.Frag} {mg : Str → Option Value} {base : Heap} {T : Tp}

def spDeed (K : PySem.W.Frag) (T : Tp) : Sp := fun vs H Q _ => ∃ (d l : Addr) (gs : List V) (goods : List Ln) (C : Addr → Bool), vs = [.ref d, .ref l] ∧ St H d ∧ H l = some (.lst gs) ∧ DpAll K (cut C H) gs (goods.map eL) ∧ (∀ g ∈ goods, LnOk g) ∧ goods.length ≤ 5000 ∧ Held C H ∧ TG T H ∧
  ∀ H' v deed, Go T (· = d) H H' → St H' d → Dp K (cut C H') v (eD deed) → DeedFrom goods deed → Q v H'
theorem ok_ldeed {f : Addr} {fd : FuncData} {k : Nat} (F : Fun K "_law_deed" "_law_deed" sLDeed f fd) (M : Mg K mg) (cD : Cal P w K mg base k "_law_digit" ["_law_state", "_law_many"] spDigit) : FnOk P w K mg base CX0 (k + 1) f fd ["_law_state", "_law_goods"] (spDeed K T) := by
  refine F.ok scLDeed (fun vs H Q E h => ?_) (fun cdv A outer s H vs Q E hr h => ?_)
  · obtain ⟨d, l, gs, goods, C, rfl, _⟩ := h
    rfl
  · obtain ⟨d, l, gs, goods, C, rfl, st, hl, hgs, gok, glen, held, tg, q⟩ := h
    refine ⟨_, (pss_cons (ps_set (i := 2) scLDeed.nd rfl (.inl rfl) (pe_cal cD hr (by rfl) (pa_cons (pv 0) (pa_cons pe_int pa_nil))))
      (pss_cons (ps_if (PW.pt (pw_or (pt_cmpR op_lt (pv 2) pe_int (nomark _)) (pw_or1 (pt_cmpR (op_eqD hr.units) (pv 1) (pe_lst pa_nil) (nomark _)))))
      (pss_cons (ps_set (i := 3) scLDeed.nd rfl (.inl rfl) (pe_ix ix_list (pe_op op_cat (pe_lst (pa_cons (pe_tup (pa_cons pe_str (pa_cons pe_int (pa_cons pe_int pa_nil)))) pa_nil)) (pv 1)) (pe_cal cD hr (by rfl) (pa_cons (pv 0) (pa_cons (pe_op op_add (pe_callB call_len_seq (by rfl) M.len_ PySem.boot_len (pa_cons (pv 1) pa_nil)) pe_int) pa_nil))) (fun _ _ => rfl)))
      (pss_cons (ps_set (i := 4) scLDeed.nd rfl (.inl rfl) (pe_ix ix_list (pe_op op_cat (pv 1) (pe_lst (pa_cons (pe_tup (pa_cons pe_str (pa_cons pe_int (pa_cons pe_int pa_nil)))) pa_nil))) (pe_cal cD hr (by rfl) (pa_cons (pv 0) (pa_cons (pe_op op_add (pe_callB call_len_seq (by rfl) M.len_ PySem.boot_len (pa_cons (pv 1) pa_nil)) pe_int) pa_nil))) (fun _ _ => rfl)))
      (pss_cons (ps_set (i := 6) scLDeed.nd rfl (.inl rfl) (pe_callTy call_tuple_of (by rfl) M.tuple_ (by decide +kernel) (pa_cons (pe_lc (own := [("_law_k", 5)]) (g := gName 5) (tt := tYes) rfl scLDeed.nd (pi_range1 (by rfl) M.range_ (pa_cons (pe_op op_add pe_int (pe_cal cD hr (by rfl) (pa_cons (pv 0) (pa_cons pe_int pa_nil)))) pa_nil)) (blkOk_by (N := ["_law_state", "_law_goods", "_law_kind", "_law_above", "_law_below", "_law_k", "_law_texts", "_law_one", "_law_line", "_law_others"]) (sc := defScope sLDeed) (by decide +kernel)) (fun _ _ _ _ _ => (pg_name (i := 5) scLDeed.nd rfl (Or.inl rfl))) (fun _ _ _ _ _ => pts_nil) (fun _ _ _ _ _ => (pe_ix (show IxR _ (rIxL K) from ix_list) (pe_lst (pa_cons pe_str (pa_cons pe_str (pa_cons pe_str (pa_cons pe_str pa_nil))))) (pe_cal cD hr (by rfl) (pa_cons (pv 0) (pa_cons pe_int pa_nil))) (fun _ _ => rfl)))) pa_nil)))
      (pss_one (ps_ret (pe_tup (pa_cons pe_str (pa_cons (pv 3) (pa_cons (pe_ifExp (pt_cmpR (op_neD hr.units) (pv 4) (pv 3) (nomark _)) (pv 4) (pe_tup (pa_cons pe_str (pa_cons pe_int (pa_cons pe_int pa_nil))))) (pa_cons (pv 6) pa_nil))))))))))
      pss_nil)
      (pss_cons (ps_set (i := 7) scLDeed.nd rfl (.inr rfl) (pe_ix ix_list (pv 1) (pe_cal cD hr (by rfl) (pa_cons (pv 0) (pa_cons (pe_callB call_len_seq (by rfl) M.len_ PySem.boot_len (pa_cons (pv 1) pa_nil)) pa_nil))) (fun _ _ => rfl)))
      (pss_cons (ps_setLc (i := 9) (own := [("_law_line", 8)]) (g := gName 8) rfl scLDeed.nd rfl rfl (sw_true rfl rfl rfl (by decide +kernel)) (pi_list (pv 1)) (blkOk_by (N := ["_law_state", "_law_goods", "_law_kind", "_law_above", "_law_below", "_law_k", "_law_texts", "_law_one", "_law_line", "_law_others"]) (sc := defScope sLDeed) (by decide +kernel)) (fun _ _ _ _ _ => (pg_name (i := 8) scLDeed.nd rfl (Or.inl rfl))) (fun _ _ _ _ _ => (pts_one (pt_cmpR (show OpR _ _ (rNeD K) from op_neD hr.units) (pv 8) (pv 7) (nomark _)))) (fun _ _ _ _ _ => (pv 8)))
      (pss_cons (ps_if (PW.pt (pw_and (pt_cmpR op_eq (pv 2) pe_int (nomark _)) (pw_and1 (pt_cmpR (op_neD hr.units) (pv 9) (pe_lst pa_nil) (nomark _)))))
      (pss_one (ps_ret (pe_tup (pa_cons pe_str (pa_cons (pv 7) (pa_cons (pe_ix ix_list (pv 9) (pe_cal cD hr (by rfl) (pa_cons (pv 0) (pa_cons (pe_callB call_len_seq (by rfl) M.len_ PySem.boot_len (pa_cons (pv 9) pa_nil)) pa_nil))) (fun _ _ => rfl)) pa_nil))))))
      pss_nil)
      (pss_one (ps_ret (pe_tup (pa_cons (pe_ix ix_list (pe_lst (pa_cons pe_str (pa_cons pe_str pa_nil))) (pe_op op_mod (pv 2) pe_int) (fun _ _ => rfl)) (pa_cons (pv 7) pa_nil)))))))))), ?_⟩
    have toG : ∀ {H'}, Go T (· = d) H H' → Sub H H' := fun g => st.sub g tg
    have goL : ∀ {H'}, Go T (· = d) H H' → H' l = some (.lst gs) := fun g => g.at tg (st.ne hl) hl
    have gsl : gs.length = goods.length := by rw [DpAll.len hgs, List.length_map]
    have gdp : ∀ {H'}, Go T (· = d) H H' → DpAll K (cut C H') gs (goods.map eL) := fun g => Dp.subs (toG g).cuts _ _ hgs
    have gsh : SeqAt.shaped (.list (goods.map eL)) = true := by
      refine shaped_of ?_ ?_
      · simp only [PyData.canLay0]
        exact layAll fun n m => eL_lay (handOk (gok n m).1.1).1
      · have := depAll (f := eL) (n := 1) (l := goods) fun n _ => by rw [eL_dep]; exact Nat.le_refl _
        simp only [PyData.depth]
        omega
    have gD : ∀ {H'}, Go T (· = d) H H' → Dp K H' (.ref l) (.list (goods.map eL)) := fun g => .lst (.inl (.inl (goL g))) (Dp.subs Sub.cut _ _ (gdp g))
    have nilsh : SeqAt.shaped (.list []) = true := rfl
    have nil_eqv : PyData.eqv (.list (goods.map eL)) (.list []) = goods.isEmpty := by
      cases goods with
      | nil => rfl
      | cons x r => simp [PyData.eqv, PyData.eqvAll]
    obtain ⟨a0, b0, p0, p1, ed⟩ := _root_.id st
    refine ⟨.ref d, rfl, d, a0, b0, 5, rfl, ed, p0, p1, by decide, by decide, dg tg ed fun kd H1 k0 k1 g1 s1 => ?_⟩
    refine twice (A := fun H2 => Go T (· = d) H H2 ∧ St H2 d) ?put (fun put => ⟨.int kd, rfl, kd, 2, rfl, rfl, _, rfl, ite2 (fun e => iteT (put H1 ⟨g1, s1⟩)) (fun e => ⟨.ref l, rfl, Nat.zero_le _, fun t ht => ?_⟩)⟩)
    case put =>
      rintro H2 ⟨g2, s2⟩
      have sm3 : 3 ≤ sizeLine := small_le (by decide)
      have sm1 : 1 ≤ sizeLine := small_le (by decide)
      have glen' : gs.length ≤ 5000 := by omega
      -- above
      refine ⟨sm3, fun th hth => ⟨sm1, fun p hp => ⟨.ref l, rfl, p, l, _, gs, rfl, rfl, upd_same, ?el, small_le (by show 1 + gs.length ≤ 10000; omega), fun z hz => ?_⟩⟩⟩
      case el => exact goL ((g2.new hth).new hp)
      have g3 := ((g2.new hth).new hp).new (o := .lst ([V.ref th] ++ gs)) hz
      have s3 := ((s2.new hth).new hp).new (o := .lst ([V.ref th] ++ gs)) hz
      have n1 : th ≠ p := ne_of_none upd_same hp
      have eth : (upd (upd (upd H2 th (.tup [V.str "", .int 0, .int 0])) p (.lst [V.ref th])) z (.lst ([V.ref th] ++ gs))) th = some (.tup [V.str "", .int 0, .int 0]) := by
        rw [upd_ne (ne_of_none ((upd_ne n1).trans upd_same) hz), upd_ne n1, upd_same]
      have ez : (upd (upd (upd H2 th (.tup [V.str "", .int 0, .int 0])) p (.lst [V.ref th])) z (.lst ([V.ref th] ++ gs))) z = some (.lst (V.ref th :: gs)) := upd_same
      have Cth : C th = false := held.no (freeD g2 tg s2 hth)
      generalize upd (upd (upd H2 th (.tup [V.str "", .int 0, .int 0])) p (.lst [V.ref th])) z (.lst ([V.ref th] ++ gs)) = H3 at g3 s3 eth ez ⊢
      have d3 : DpAll K (cut C H3) (V.ref th :: gs) ((headL :: goods).map eL) := .cons (.tup (.inl (.inl ((cut_at Cth).trans eth))) (.cons (.str _) (.cons (.int _) (.cons (.int _) .nil)))) (gdp g3)
      obtain ⟨a3, b3, p3, q3, ed3⟩ := _root_.id s3
      refine ⟨.ref d, rfl, .ref l, rfl, l, gs, rfl, .inl (.inl (.inl (goL g3))), _, 1, rfl, rfl, d, a3, b3, (gs.length : Int) + 1, rfl, ed3, p3, q3, by omega, by omega, dg g3.1 ed3 fun ra H4 ra0 ra1 g34 s4 => ?_⟩
      obtain ⟨xa, hxa, hata⟩ := atI_int (xs := V.ref th :: gs) (j := ra) ra0 (by rw [List.length_cons]; omega)
      obtain ⟨da, hda, dpa⟩ := DpAll.at' d3 hxa
      obtain ⟨la, hla, rfl⟩ := at_map hda
      have memA : la = headL ∨ la ∈ goods := List.mem_cons.mp (List.mem_of_getElem? hla)
      have g4 := g3.trans g34
      have dpa4 := Dp.sub (s3.sub g34 g3.1).cuts _ _ dpa
      have ez4 := g34.at g3.1 (s3.ne ez) ez
      refine ⟨z, _, ra, xa, rfl, rfl, .inl (.inl ez4), hata, ?_⟩
      -- below
      refine ⟨.ref l, rfl, sm3, fun tf htf => ⟨sm1, fun p' hp' => ⟨l, p', gs, _, rfl, rfl, ?el, upd_same, small_le (by show gs.length + 1 ≤ 10000; omega), fun z' hz' => ?_⟩⟩⟩
      case el => exact goL ((g4.new htf).new hp')
      have g5 := ((g4.new htf).new hp').new (o := .lst (gs ++ [V.ref tf])) hz'
      have s5 := ((s4.new htf).new hp').new (o := .lst (gs ++ [V.ref tf])) hz'
      have n5 : tf ≠ p' := ne_of_none upd_same hp'
      have etf : (upd (upd (upd H4 tf (.tup [V.str "", .int 0, .int 1])) p' (.lst [V.ref tf])) z' (.lst (gs ++ [V.ref tf]))) tf = some (.tup [V.str "", .int 0, .int 1]) := by
        rw [upd_ne (ne_of_none ((upd_ne n5).trans upd_same) hz'), upd_ne n5, upd_same]
      have ez' : (upd (upd (upd H4 tf (.tup [V.str "", .int 0, .int 1])) p' (.lst [V.ref tf])) z' (.lst (gs ++ [V.ref tf]))) z' = some (.lst (gs ++ [V.ref tf])) := upd_same
      have Ctf : C tf = false := held.no (freeD g4 tg s4 htf)
      have dpa5 := Dp.sub ((Sub.new htf).trans ((Sub.new hp').trans (Sub.new (o := .lst (gs ++ [V.ref tf])) hz'))).cuts _ _ dpa4
      generalize upd (upd (upd H4 tf (.tup [V.str "", .int 0, .int 1])) p' (.lst [V.ref tf])) z' (.lst (gs ++ [V.ref tf])) = H5 at g5 s5 etf ez' dpa5 ⊢
      have d5 : DpAll K (cut C H5) (gs ++ [V.ref tf]) ((goods ++ [footL]).map eL) := by
        rw [List.map_append]
        exact (gdp g5).app (.one (.tup (.inl (.inl ((cut_at Ctf).trans etf))) (.cons (.str _) (.cons (.int _) (.cons (.int _) .nil)))))
      obtain ⟨a5, b5, p5, q5, ed5⟩ := _root_.id s5
      refine ⟨.ref d, rfl, .ref l, rfl, l, gs, rfl, .inl (.inl (.inl (goL g5))), _, 1, rfl, rfl, d, a5, b5, (gs.length : Int) + 1, rfl, ed5, p5, q5, by omega, by omega, dg g5.1 ed5 fun rb H6 rb0 rb1 g56 s6 => ?_⟩
      obtain ⟨xb, hxb, hatb⟩ := atI_int (xs := gs ++ [V.ref tf]) (j := rb) rb0 (by rw [List.length_append]; show rb < ((gs.length + 1 : Nat) : Int); omega)
      obtain ⟨db, hdb, dpb⟩ := DpAll.at' d5 hxb
      obtain ⟨lb, hlb, rfl⟩ := at_map hdb
      have memB : lb = footL ∨ lb ∈ goods := by
        rcases List.mem_append.mp (List.mem_of_getElem? hlb) with h | h
        · exact .inr h
        · exact .inl (List.mem_singleton.mp h)
      have g6 := g5.trans g56
      have dpa6 := Dp.sub (s5.sub g56 g5.1).cuts _ _ dpa5
      have dpb6 := Dp.sub (s5.sub g56 g5.1).cuts _ _ dpb
      have ez6 := g56.at g5.1 (s5.ne ez') ez'
      refine ⟨z', _, rb, xb, rfl, rfl, .inl (.inl ez6), hatb, ?_⟩
      -- texts
      obtain ⟨a6, b6, p6, q6, ed6⟩ := _root_.id s6
      refine ⟨.ref d, rfl, d, a6, b6, 3, rfl, ed6, p6, q6, by decide, by decide, dg g6.1 ed6 fun rt H7 rt0 rt1 g67 s7 => ?_⟩
      have g7 := g6.trans g67
      have dpa7 := Dp.sub (s6.sub g67 g6.1).cuts _ _ dpa6
      have dpb7 := Dp.sub (s6.sub g67 g6.1).cuts _ _ dpb6
      refine ⟨1, rt, rfl, rfl, 1 + rt, rfl, by omega, by omega, fun D hD => ?_⟩
      refine lc_range (lo := 0) (n := (1 + rt).toNat) (fun i H8 => ∃ ts : List Str, Go T (· = d) H7 H8 ∧ St H8 d ∧ H8 D = some (.lst (ts.map V.str)) ∧ ts.length = i ∧ ∀ t ∈ ts, t ∈ menuT) ?_ ?_ ?_
      · exact ⟨[], (Go.rfl' g7.1).new hD, s7.new hD, upd_same, rfl, by simp⟩
      · rintro i H8 hi ⟨ts, g8, s8, eD, hts, hmt⟩
        refine ⟨rfl, small_le (by decide), fun m hm => ?_⟩
        have g9 := g8.new (o := .lst [V.str "a", .str "b", .str "", .str "c c"]) hm
        have s9 := s8.new (o := .lst [V.str "a", .str "b", .str "", .str "c c"]) hm
        have eD9 := (upd_ne (o := .lst [V.str "a", .str "b", .str "", .str "c c"]) (ne_of_none eD hm)).trans eD
        have em : (upd H8 m (.lst [V.str "a", .str "b", .str "", .str "c c"])) m = some (.lst (menuT.map V.str)) := upd_same
        generalize upd H8 m (.lst [V.str "a", .str "b", .str "", .str "c c"]) = H9 at g9 s9 eD9 em ⊢
        obtain ⟨a9, b9, p9, q9, ed9⟩ := _root_.id s9
        refine ⟨.ref d, rfl, d, a9, b9, 4, rfl, ed9, p9, q9, by decide, by decide, dg g9.1 ed9 fun rm H10 rm0 rm1 g910 s10 => ?_⟩
        obtain ⟨t, ht, hatm⟩ := atI_int (xs := menuT) (j := rm) rm0 rm1
        have hatv : atI (menuT.map V.str) rm = some (.str t) := by
          have := atI_nat (xs := menuT.map V.str) (j := rm.toNat) (v := .str t) (by rw [List.getElem?_map, ht]; rfl)
          rwa [show ((rm.toNat : Nat) : Int) = rm by omega] at this
        have eD10 := g910.at g9.1 (s9.ne eD9) eD9
        refine ⟨m, _, rm, .str t, rfl, rfl, .inl (.inl (g910.at g9.1 (s9.ne em) em)), hatv, ts.map V.str, eD10, small_line (by rw [List.length_map, hts]; omega), ?_⟩
        refine ⟨ts ++ [t], (g9.trans g910).put hD eD10, s10.put eD10, by rw [upd_same, List.map_append]; rfl, by rw [List.length_append, hts]; rfl, fun u hu => ?_⟩
        rcases List.mem_append.mp hu with h | h
        · exact hmt u h
        · rw [List.mem_singleton.mp h]
          exact List.mem_of_getElem? ht
      · rintro H8 ⟨ts, g8, s8, eD, hts, hmt⟩
        have g08 := g7.trans g8
        have dpa8 := Dp.sub (s7.sub g8 g7.1).cuts _ _ dpa7
        have dpb8 := Dp.sub (s7.sub g8 g7.1).cuts _ _ dpb7
        refine ⟨D, _, rfl, .inl ⟨.inl (.inl eD), fun tt htt => ?_⟩⟩
        have g9 := g08.new (o := .tup (ts.map V.str)) htt
        have s9 := s8.new (o := .tup (ts.map V.str)) htt
        have ett : (upd H8 tt (.tup (ts.map V.str))) tt = some (.tup (ts.map V.str)) := upd_same
        have Ctt : C tt = false := held.no (freeD g08 tg s8 htt)
        have dpa9 := Dp.sub (Sub.new (o := .tup (ts.map V.str)) htt).cuts _ _ dpa8
        have dpb9 := Dp.sub (Sub.new (o := .tup (ts.map V.str)) htt).cuts _ _ dpb8
        generalize upd H8 tt (.tup (ts.map V.str)) = H9 at g9 s9 ett dpa9 dpb9 ⊢
        have dstrs : ∀ {H'} (ts : List Str), DpAll K H' (ts.map V.str) (ts.map PyData.str) := by
          intro H' ts
          induction ts with
          | nil => exact .nil
          | cons t r ih => exact .cons (.str t) ih
        have fin : ∀ H' xc lc, Go T (· = d) H H' → St H' d → H' tt = some (.tup (ts.map V.str)) → Dp K (cut C H') xa (eL la) → Dp K (cut C H') xc (eL lc) → (lc = footL ∨ lc ∈ goods) → la ≠ lc → ∀ v, H' v = none → Q (.ref v) (upd H' v (.tup [V.str "put", xa, xc, .ref tt])) := by
          intro H' xc lc g' s' et' dpa' dpc' hc hne v hv
          have Cv : C v = false := held.no (freeD g' tg s' hv)
          have nv : tt ≠ v := ne_of_none et' hv
          refine q _ _ (.put la lc ts) (g'.new hv) (s'.new hv) ?_ (.put la lc ts memA hc hne (by omega) (by omega) hmt)
          refine .tup (xs := [V.str "put", xa, xc, .ref tt]) (.inl (.inl ((cut_at Cv).trans upd_same))) (.cons (.str _) (.cons (Dp.sub (Sub.new hv).cuts _ _ dpa') (.cons (Dp.sub (Sub.new hv).cuts _ _ dpc') (.one (.tup (.inl (.inl ((cut_at Ctt).trans ((upd_ne nv).trans et')))) (dstrs ts))))))
        have strA : PyData.strOk la.1 = true := by
          rcases memA with rfl | h
          · decide +kernel
          · exact (handOk (gok la h).1.1).1
        have strB : PyData.strOk lb.1 = true := by
          rcases memB with rfl | h
          · decide +kernel
          · exact (handOk (gok lb h).1.1).1
        have neF : la ≠ footL := by
          rcases memA with rfl | h
          · exact headL_ne_foot
          · exact (gok la h).ne_foot
        refine ⟨xa, rfl, xb, rfl, xa, rfl, eL lb, eL la, dp_cut dpb9, dp_cut dpa9, eL_sh strB, eL_sh strA, _, rfl, ?_⟩
        rw [eL_eqv]
        refine ite2 (fun e => ?_) (fun e => ?_)
        · have ne : ¬ lb = la := by simpa using e
          exact ⟨xb, rfl, .ref tt, rfl, small_le (by show 4 ≤ 10000; decide), fin H9 xb lb g9 s9 ett dpa9 dpb9 memB (fun z => ne z.symm)⟩
        · refine ⟨sm3, fun tf2 htf2 => ⟨.ref tt, rfl, small_le (by show 4 ≤ 10000; decide), ?_⟩⟩
          have C2 : C tf2 = false := held.no (freeD g9 tg s9 htf2)
          exact fin _ (.ref tf2) footL (g9.new htf2) (s9.new htf2) ((upd_ne (ne_of_none ett htf2)).trans ett) (Dp.sub (Sub.new htf2).cuts _ _ dpa9)
            (.tup (xs := [V.str "", .int 0, .int 1]) (.inl (.inl ((cut_at C2).trans upd_same))) (.cons (.str _) (.cons (.int _) (.cons (.int _) .nil)))) (.inl rfl) neF
    have g2 : Go T (· = d) H (upd H1 t (.lst [])) := g1.new ht
    have s2 : St (upd H1 t (.lst [])) d := s1.new ht
    refine ⟨_, _, gD g2, .lst (xs := []) (.inl (.inl upd_same)) .nil, gsh, nilsh, _, rfl, ?_⟩
    rw [nil_eqv]
    refine ite2 (fun e2 => put _ ⟨g2, s2⟩) (fun e2 => ?_)
    generalize upd H1 t (.lst []) = H2 at g2 s2 ⊢
    have gpos : 0 < gs.length := by
      rw [gsl]
      cases goods with
      | nil => exact absurd rfl e2
      | cons x r => exact Nat.succ_pos _
    have kd2 : 2 ≤ kd := by
      have : ¬ kd < 2 := of_decide_eq_false (Bool.eq_false_iff.mpr e)
      omega
    -- one
    obtain ⟨a2, b2, p2, q2, ed2⟩ := _root_.id s2
    refine ⟨.ref l, rfl, .ref d, rfl, .ref l, rfl, l, gs, rfl, .inl (.inl (.inl (goL g2))), d, a2, b2, (gs.length : Int), rfl, ed2, p2, q2, by omega, by omega, dg g2.1 ed2 fun r1 H3 r10 r11 g23 s3 => ?_⟩
    obtain ⟨x1, hx1, hat1⟩ := atI_int (xs := gs) (j := r1) r10 r11
    have g3 := g2.trans g23
    obtain ⟨d1, hd1, dp1⟩ := DpAll.at' (gdp g3) hx1
    obtain ⟨l1, hl1, rfl⟩ := at_map hd1
    have m1 : l1 ∈ goods := List.mem_of_getElem? hl1
    have str1 : PyData.strOk l1.1 = true := (handOk (gok l1 m1).1.1).1
    refine ⟨l, gs, r1, x1, rfl, rfl, .inl (.inl (goL g3)), hat1, ?_⟩
    -- others
    refine ⟨.ref l, rfl, l, rfl, ⟨gs, .inl (.inl (goL g3))⟩, fun D hD => ?_⟩
    have dl1 : ∀ {H4}, Go T D0 H3 H4 → Dp K (cut C H4) x1 (eL l1) := fun g4 => Dp.sub (sub_go g4 g3.1).cuts _ _ dp1
    refine lc_list (K := K) (a := l) (xs := gs) (fun i H4 => Go T D0 H3 H4 ∧ ∃ acc, H4 D = some (.lst acc) ∧ acc.length ≤ i ∧ DpAll K (cut C H3) acc (((goods.take i).filter fun m => decide (m ≠ l1)).map eL)) ?_ ?_ ?_ ?_
    · exact ⟨(Go.rfl' g3.1).new hD, [], upd_same, Nat.le_refl _, .nil⟩
    · rintro i H4 hi ⟨g4, _⟩
      exact g4.seqL g3.1 (fun _ _ z => z) (.inl (.inl (goL g3)))
    · rintro i x H4 hx ⟨g4, acc, eD, hacc, hda⟩
      obtain ⟨d', hd', hx'⟩ := DpAll.at' (gdp g3) hx
      obtain ⟨m, hm, rfl⟩ := at_map hd'
      have mm := List.mem_of_getElem? hm
      have hi : i < gs.length := (List.getElem?_eq_some_iff.mp hx).1
      have tk : (goods.take (i + 1)).filter (fun m => decide (m ≠ l1)) = (goods.take i).filter (fun m => decide (m ≠ l1)) ++ [m].filter (fun m => decide (m ≠ l1)) := by
        rw [List.take_add_one, hm, List.filter_append]
        rfl
      refine ⟨rfl, x, rfl, x1, rfl, eL m, eL l1, dp_cut (Dp.sub (sub_go g4 g3.1).cuts _ _ hx'), dp_cut (dl1 g4), eL_sh (handOk (gok m mm).1.1).1, eL_sh str1, _, rfl, ?_⟩
      rw [eL_eqv]
      refine ite2 (fun e3 => ?_) (fun e3 => ?_)
      · have n3 : m ≠ l1 := by simpa using e3
        refine ⟨x, rfl, acc, eD, small_line (by omega), g4.put hD eD, acc ++ [x], upd_same, by rw [List.length_append]; show acc.length + 1 ≤ i + 1; omega, ?_⟩
        rw [tk, List.filter_cons_of_pos (by simpa using n3), List.filter_nil, List.map_append]
        exact hda.app (.one hx')
      · have n3 : m = l1 := by simpa using e3
        refine ⟨g4, acc, eD, by omega, ?_⟩
        rw [tk, List.filter_cons_of_neg (by simpa using n3), List.filter_nil, List.append_nil]
        exact hda
    · rintro H4 ⟨g4, acc, eD, hacc, hda⟩
      rw [gsl, List.take_length] at hda
      have g04 : Go T (· = d) H H4 := g3.trans g4.up
      have s4 : St H4 d := s3.go g4 g3.1
      refine twice (A := fun H5 => Go T D0 H4 H5) ?rest (fun rest => ⟨.int kd, rfl, rfl, _, rfl, ite2 (fun e4 => ⟨.ref D, rfl, Nat.zero_le _, fun t2 ht2 => ?_⟩) (fun e4 => iteF (rest H4 (Go.rfl' g4.1)))⟩)
      case rest =>
        intro H5 g5
        refine ⟨small_le (by decide), fun m hm => ?_⟩
        have g6 := g5.new (o := .lst [V.str "cut", .str "keep"]) hm
        have em : (upd H5 m (.lst [V.str "cut", .str "keep"])) m = some (.lst [V.str "cut", .str "keep"]) := upd_same
        generalize upd H5 m (.lst [V.str "cut", .str "keep"]) = H6 at g6 em ⊢
        have two : ∃ k : Bool, atI [V.str "cut", V.str "keep"] (kd % 2) = some (.str (kindS k)) := by
          have h0 := Int.emod_nonneg kd (show (2 : Int) ≠ 0 by decide)
          have h1 := Int.emod_lt_of_pos kd (show (0 : Int) < 2 by decide)
          rcases (show kd % 2 = 0 ∨ kd % 2 = 1 by omega) with h | h
          · rw [h]
            exact ⟨false, rfl⟩
          · rw [h]
            exact ⟨true, rfl⟩
        obtain ⟨kb, hkb⟩ := two
        refine ⟨.int kd, rfl, kd, 2, rfl, rfl, (show (0 : Int) < 2 by decide), m, _, kd % 2, _, rfl, rfl, .inl (.inl em), hkb, x1, rfl, small_le (by show 2 ≤ 10000; decide), fun v hv => ?_⟩
        have g06 := g04.trans g6.up
        have s6 := s4.go g6 g4.1
        have Cv : C v = false := held.no (freeD g06 tg s6 hv)
        refine q _ _ (.one kb l1) (g06.new hv) (s6.new hv) ?_ (.one kb l1 m1)
        exact .tup (xs := [V.str (kindS kb), x1]) (.inl (.inl ((cut_at Cv).trans upd_same))) (.cons (.str _) (.one (Dp.sub (Sub.new hv).cuts _ _ (dl1 (g4.trans g6)))))
      have g5 : Go T D0 H4 (upd H4 t2 (.lst [])) := (Go.rfl' g4.1).new ht2
      have eD5 := (upd_ne (o := .lst []) (ne_of_none eD ht2)).trans eD
      have osub : ∀ x ∈ (goods.filter fun m => decide (m ≠ l1)), x ∈ goods ∧ x ≠ l1 := fun x hx => by
        have h := List.mem_filter.mp hx
        exact ⟨h.1, of_decide_eq_true h.2⟩
      generalize (goods.filter fun m => decide (m ≠ l1)) = others at hda osub
      have osh : SeqAt.shaped (.list (others.map eL)) = true := by
        refine shaped_of ?_ ?_
        · simp only [PyData.canLay0]
          exact layAll fun n m => eL_lay (handOk (gok n (osub n m).1).1.1).1
        · have := depAll (f := eL) (n := 1) (l := others) fun n _ => by rw [eL_dep]; exact Nat.le_refl _
          simp only [PyData.depth]
          omega
      have nil_eqv2 : PyData.eqv (.list (others.map eL)) (.list []) = others.isEmpty := by
        cases others with
        | nil => rfl
        | cons x r => simp [PyData.eqv, PyData.eqvAll]
      have hda5 : ∀ {H5}, Go T D0 H4 H5 → DpAll K (cut C H5) acc (others.map eL) := fun g => Dp.subs (sub_go (g4.trans g) g3.1).cuts _ _ hda
      refine ⟨_, _, .lst (.inl (.inl eD5)) (Dp.subs Sub.cut _ _ (hda5 g5)), .lst (xs := []) (.inl (.inl upd_same)) .nil, osh, nilsh, _, rfl, ?_⟩
      rw [nil_eqv2]
      refine ite2 (fun e5 => ?_) (fun e5 => rest _ g5)
      have olen : acc.length = others.length := by rw [DpAll.len hda, List.length_map]
      have opos : 0 < acc.length := by
        rw [olen]
        cases others with
        | nil => cases e5
        | cons x r => exact Nat.succ_pos _
      have g05 := g04.trans g5.up
      have s5 := s4.go g5 g4.1
      have aL : acc.length ≤ 5000 := by omega
      generalize upd H4 t2 (.lst []) = H5 at g5 eD5 g05 s5 ⊢
      obtain ⟨a5, b5, p5, q5, ed5⟩ := _root_.id s5
      refine ⟨x1, rfl, .ref D, rfl, .ref d, rfl, .ref D, rfl, D, acc, rfl, .inl (.inl (.inl eD5)), d, a5, b5, (acc.length : Int), rfl, ed5, p5, q5, by omega, by omega, dg g5.1 ed5 fun r2 H6 r20 r21 g56 s6 => ?_⟩
      obtain ⟨x2, hx2, hat2⟩ := atI_int (xs := acc) (j := r2) r20 r21
      obtain ⟨d2, hd2, dp2⟩ := DpAll.at' (hda5 g5) hx2
      obtain ⟨l2, hl2, rfl⟩ := at_map hd2
      have m2 := osub l2 (List.mem_of_getElem? hl2)
      have g06 := g05.trans g56
      have dl6 := Dp.sub (s5.sub g56 g5.1).cuts _ _ (dl1 (g4.trans g5))
      have dp6 := Dp.sub (s5.sub g56 g5.1).cuts _ _ dp2
      refine ⟨D, acc, r2, x2, rfl, rfl, .inl (.inl (g56.at g5.1 (s5.ne eD5) eD5)), hat2, small_le (by show 3 ≤ 10000; decide), fun v hv => ?_⟩
      have Cv : C v = false := held.no (freeD g06 tg s6 hv)
      refine q _ _ (.order l1 l2) (g06.new hv) (s6.new hv) ?_ (.order l1 l2 m1 m2.1 m2.2.symm)
      exact .tup (xs := [V.str "order", x1, x2]) (.inl (.inl ((cut_at Cv).trans upd_same))) (.cons (.str _) (.cons (Dp.sub (Sub.new hv).cuts _ _ dl6) (.one (Dp.sub (Sub.new hv).cuts _ _ dp6))))
end
end K1
set_option Elab.async false
set_option linter.all false
set_option maxRecDepth 100000
set_option maxHeartbeats 4000000
/-! Histories drawn: what is true of them. -/
namespace K1
open PySem PySem.Spec PyProof.Rows L2

abbrev nmLt (a b : Nm) : Bool := PySem.W.dataLt (eN a) (eN b)
def countH (hist : List Pat) (h : Str) : Nat := hist.countP fun p => decide (p.name.1 = h)
def ownLines (n : Nm) (many : Nat) : List Ln := (List.range many).map (lnAt n)
def goodsAt (hist : List Pat) (p : Pat) (many : Nat) : List Ln := (linesIn hist (knownIn hist p.knows)).map (·.1) ++ ownLines p.name many
def manyAt (deeds : List Deed) (i : Nat) : Nat := ((deeds.take i).flatMap Deed.texts).length
structure PatFrom (hands : List Str) (hist : List Pat) (p : Pat) : Prop where
  hand : p.name.1 ∈ hands
  num : p.name.2 = 1 + (countH hist p.name.1 : Nat)
  asc : p.knows.Pairwise fun a b => nmLt a b = true
  there : ∀ n ∈ p.knows, ∃ q ∈ hist, q.name = n
  four : p.knows.length ≤ 4
  least : 1 ≤ p.deeds.length
  three : p.deeds.length ≤ 3
  deeds : ∀ i d, p.deeds[i]? = some d → DeedFrom (goodsAt hist p (manyAt p.deeds i)) d
def HistFrom (hands : List Str) (hist : List Pat) : Prop := ∀ i p, hist[i]? = some p → PatFrom hands (hist.take i) p
def HandsOk (hands : List Str) : Prop := ∀ h ∈ hands, handV (.str h) = true

/-! order of names -/
theorem eN_alike (a b : Nm) : PySem.W.alike (eN a) (eN b) = true := by simp [eN, PySem.W.alike, PySem.W.alikeAll]
theorem nm_toks {a b : Nm} (h : PySem.W.keyToks (eN a) = PySem.W.keyToks (eN b)) : a = b := by
  obtain ⟨x, i⟩ := a
  obtain ⟨y, j⟩ := b
  simp [eN, PySem.W.keyToks, PySem.W.keyToksAll] at h
  obtain ⟨h1, h2⟩ := h
  rw [h2]
  congr 1
  exact PySem.W.str_of_cps (by rw [h1])
theorem nmLt_total {a b : Nm} (h1 : nmLt a b = false) (h2 : nmLt b a = false) : a = b := nm_toks (PyProof.Rows.lex_total (O := PyProof.Rows.itemOrd) _ _ h1 h2)
theorem nmLt_irr (a : Nm) : nmLt a a = false := PyProof.Rows.lex_irrefl (O := PyProof.Rows.itemOrd) _
theorem nmLt_trans {a b c : Nm} (h1 : nmLt a b = true) (h2 : nmLt b c = true) : nmLt a c = true := PyProof.Rows.lex_trans (O := PyProof.Rows.itemOrd) _ _ _ h1 h2

/-! lines -/
theorem linesIn_mem {hist : List Pat} {names : List Nm} {x : Ln × Str} (h : x ∈ linesIn hist names) : ∃ p ∈ hist, p.name ∈ names ∧ x ∈ linesOf p := by
  unfold linesIn at h
  obtain ⟨p, hp, hx⟩ := List.mem_flatMap.mp h
  split at hx
  · rename_i hn
    exact ⟨p, hp, hn, hx⟩
  · cases hx
theorem linesOf_mem {p : Pat} {x : Ln × Str} (h : x ∈ linesOf p) : ∃ k, k < (textsOf p).length ∧ x = (lnAt p.name k, (textsOf p).getD k "") := by
  unfold linesOf linesFrom at h
  obtain ⟨k, hk, rfl⟩ := List.mem_map.mp h
  exact ⟨k, List.mem_range.mp hk, rfl⟩
theorem lnAt_ok {n : Nm} (h : NmOk n) (k : Nat) : LnOk (lnAt n k) := ⟨h, by show (1 : Int) ≤ (k : Int) + 1; omega⟩
theorem goods_ok {hist : List Pat} {p : Pat} {many : Nat} (h : ∀ q ∈ hist, NmOk q.name) (hp : NmOk p.name) : ∀ g ∈ goodsAt hist p many, LnOk g := by
  intro g hg
  rcases List.mem_append.mp hg with hg | hg
  · obtain ⟨x, hx, rfl⟩ := List.mem_map.mp hg
    obtain ⟨q, hq, _, hx⟩ := linesIn_mem hx
    obtain ⟨k, _, rfl⟩ := linesOf_mem hx
    exact lnAt_ok (h q hq) k
  · obtain ⟨k, _, rfl⟩ := List.mem_map.mp hg
    exact lnAt_ok hp k
theorem menu_ok {t : Str} (h : t ∈ menuT) : TxOk t := by
  have e : menuT.all (fun t => (PyData.strOk t && decide (t.length ≤ 40)) && !decide (10 ∈ TL.tl t)) = true := by decide +kernel
  have := List.all_eq_true.mp e t h
  rw [Bool.and_eq_true, Bool.and_eq_true] at this
  exact ⟨this.1.1, of_decide_eq_true this.1.2, by simpa using this.2⟩
theorem DeedFrom.ok {goods : List Ln} {d : Deed} (h : DeedFrom goods d) (g : ∀ l ∈ goods, LnOk l) : d.ok ∧ d.texts.length ≤ 3 := by
  cases h with
  | put a b ts ha hb ne h0 h1 ht =>
    refine ⟨⟨?_, ?_, fun t m => menu_ok (ht t m)⟩, h1⟩
    · rcases ha with rfl | ha
      · exact .inr (.inl rfl)
      · exact .inl (g a ha)
    · rcases hb with rfl | hb
      · exact .inr (.inr rfl)
      · exact .inl (g b hb)
  | order a b ha hb ne => exact ⟨⟨g a ha, g b hb⟩, Nat.zero_le _⟩
  | one k a ha => exact ⟨g a ha, Nat.zero_le _⟩
theorem PatFrom.nm {hands : List Str} {hist : List Pat} {p : Pat} (h : PatFrom hands hist p) (ho : HandsOk hands) (hl : hist.length ≤ 200) : NmOk p.name := by
  have c : countH hist p.name.1 ≤ hist.length := List.countP_le_length
  have := h.num
  exact ⟨ho _ h.hand, by omega, by omega⟩
theorem PatFrom.ok {hands : List Str} {hist : List Pat} {p : Pat} (h : PatFrom hands hist p) (ho : HandsOk hands) (hl : hist.length ≤ 200) (hn : ∀ q ∈ hist, NmOk q.name) : p.ok ∧ p.small := by
  have nm := h.nm ho hl
  have dd : ∀ d ∈ p.deeds, d.ok ∧ d.texts.length ≤ 3 := fun d hd => by
    obtain ⟨i, hi⟩ := List.mem_iff_getElem?.mp hd
    exact (h.deeds i d hi).ok (goods_ok hn nm)
  refine ⟨⟨nm, fun n m => ?_, fun d m => (dd d m).1⟩, ⟨h.four, h.three, fun d m => (dd d m).2⟩⟩
  obtain ⟨q, hq, rfl⟩ := h.there n m
  exact hn q hq
theorem HistFrom.nms {hands : List Str} {hist : List Pat} (h : HistFrom hands hist) (ho : HandsOk hands) (hl : hist.length ≤ 200) : ∀ q ∈ hist, NmOk q.name := by
  intro q hq
  obtain ⟨i, hi⟩ := List.mem_iff_getElem?.mp hq
  exact (h i q hi).nm ho (by rw [List.length_take]; omega)
theorem HistFrom.ok {hands : List Str} {hist : List Pat} (h : HistFrom hands hist) (ho : HandsOk hands) (hl : hist.length ≤ 100) : HistOk hist := by
  refine ⟨hl, fun q hq => ?_⟩
  obtain ⟨i, hi⟩ := List.mem_iff_getElem?.mp hq
  exact (h i q hi).ok ho (by rw [List.length_take]; omega) fun r hr => h.nms ho (by omega) r (List.mem_of_mem_take hr)
theorem HistFrom.snoc {hands : List Str} {hist : List Pat} {p : Pat} (h : HistFrom hands hist) (hp : PatFrom hands hist p) : HistFrom hands (hist ++ [p]) := by
  intro i q hi
  rcases Nat.lt_trichotomy i hist.length with hlt | heq | hgt
  · rw [List.getElem?_append_left hlt] at hi
    rw [List.take_append_of_le_length (Nat.le_of_lt hlt)]
    exact h i q hi
  · subst heq
    have e : q = p := by
      rw [List.getElem?_append_right (Nat.le_refl _), Nat.sub_self] at hi
      exact (Option.some.inj hi).symm
    subst e
    rw [List.take_left]
    exact hp
  · rw [List.getElem?_eq_none (by rw [List.length_append]; show hist.length + 1 ≤ i; omega)] at hi
    cases hi
/-- the names of a history differ -/
theorem HistFrom.nodup {hands : List Str} {hist : List Pat} (h : HistFrom hands hist) : (hist.map (·.name)).Nodup := by
  refine List.pairwise_iff_getElem.mpr fun i j hi hj hij e => ?_
  rw [List.length_map] at hi hj
  have e' : hist[i].name = hist[j].name := by simpa using e
  have h1 := (h i _ (List.getElem?_eq_getElem hi)).num
  have h2 := (h j _ (List.getElem?_eq_getElem hj)).num
  have c : countH (hist.take i) hist[i].name.1 + 1 ≤ countH (hist.take j) hist[i].name.1 := by
    have s : hist.take j = hist.take (i + 1) ++ (hist.drop (i + 1)).take (j - (i + 1)) := by
      conv => lhs; rw [show j = (i + 1) + (j - (i + 1)) by omega, List.take_add]
    have t : hist.take (i + 1) = hist.take i ++ [hist[i]] := by
      rw [List.take_add_one, List.getElem?_eq_getElem hi]
      rfl
    unfold countH
    have one : List.countP (fun p : Pat => decide (p.name.1 = hist[i].name.1)) [hist[i]] = 1 := by simp
    rw [s, List.countP_append, t, List.countP_append, one]
    omega
  rw [← e'] at h2
  omega
/-- a name to come is not there -/
theorem PatFrom.fresh {hands : List Str} {hist : List Pat} {p : Pat} (h : HistFrom hands hist) (hp : PatFrom hands hist p) : ∀ q ∈ hist, q.name ≠ p.name := by
  have n := (h.snoc hp).nodup
  rw [List.map_append, List.nodup_append] at n
  intro q hq z
  exact n.2.2 q.name (List.mem_map.mpr ⟨q, hq, rfl⟩) p.name (by simp) z

/-! names sorted -/
theorem leN_total : PySem.W.TotalLe fun (a b : V × Nm) => PySem.W.dataLe false (fun x : V × Nm => eN x.2) a b := PySem.W.sortLe_total _ _ _
theorem sorted_asc {qs : List (V × Nm)} (nd : (qs.map (·.2)).Nodup) : ((qs.mergeSort (PySem.W.dataLe false fun x : V × Nm => eN x.2)).map (·.2)).Pairwise fun a b => nmLt a b = true := by
  have T := leN_total
  have s := List.pairwise_mergeSort (le := PySem.W.dataLe false fun x : V × Nm => eN x.2) (fun a b c h1 h2 => T.trans a b c h1 h2) (fun a b => Bool.or_eq_true_iff.mpr (T.total a b)) qs
  have n2 : ((qs.mergeSort (PySem.W.dataLe false fun x : V × Nm => eN x.2)).map (·.2)).Nodup := ((List.mergeSort_perm qs _).map _).nodup_iff.mpr nd
  rw [List.pairwise_map]
  have n3 := List.pairwise_map.mp n2
  refine List.Pairwise.imp₂ ?_ s n3
  intro a b h1 h2
  have h1' : nmLt b.2 a.2 = false := by
    have : (!nmLt b.2 a.2) = true := h1
    simpa using this
  cases h3 : nmLt a.2 b.2 with
  | true => rfl
  | false => exact absurd (nmLt_total h3 h1') h2
end K1
set_option Elab.async false
set_option linter.all false
set_option maxRecDepth 100000
set_option maxHeartbeats 4000000
/-! The law's defs: a drawn patch. -/
namespace K1
open PySem PySem.Spec PyProof.Rows L2

section
variable {P : Program} {w : World} {K : PySem.W.Frag} {mg : Str → Option Value} {base : Heap} {T : Tp}

theorem Held.god {C : Addr → Bool} {T : Tp} {H H' : Hp} {d : Addr} (h : Held C H) (g : Go T (· = d) H H') (t : TG T H) (s : St H' d) : Held C H' := by
  intro a ha z
  exact h a ha (freeD g t s z)
theorem Held.go {C : Addr → Bool} {T : Tp} {H H' : Hp} (h : Held C H) (g : Go T D0 H H') (t : TG T H) : Held C H' := fun a ha z => h a ha (g.free t (fun z => z) z)
theorem Held.plus {C : Addr → Bool} {H : Hp} {p : Addr} {o : HO} (h : Held C H) (e : H p = some o) : Held (plus C p) H := by
  intro a ha z
  unfold K1.plus at ha
  rcases Bool.or_eq_true_iff.mp ha with h1 | h1
  · exact h a h1 z
  · rw [of_decide_eq_true h1, e] at z
    cases z
theorem Sub.plus {C : Addr → Bool} {H : Hp} {p : Addr} {o : HO} (h : H p = none) : Sub (K1.cut C H) (K1.cut (K1.plus C p) (upd H p o)) := by
  intro a u e k
  obtain ⟨e1, e2⟩ := cut_some e
  have n := ne_of_none e2 h
  rw [cut_at (plus_no e1 n), upd_ne n]
  exact e2
def menuH : List Str := ["b", "abe", "cy"]
theorem menuH_ok : HandsOk menuH := by
  have e : menuH.all (fun h => handV (.str h)) = true := by decide +kernel
  exact fun h m => List.all_eq_true.mp e h m
def spPatch (K : PySem.W.Frag) (T : Tp) : Sp := fun vs H Q _ => ∃ (h : V) (d : Addr) (hist : List Pat) (C : Addr → Bool), vs = [h, .ref d] ∧ St H d ∧ HistAt K C H h hist ∧ HistFrom menuH hist ∧ hist.length ≤ 100 ∧ Held C H ∧ TG T H ∧
  ∀ H' v p, Go T (· = d) H H' → St H' d → Dp K (cut C H') v (eP p) → PatFrom menuH hist p → Q v H'
theorem ok_lpatch {f : Addr} {fd : FuncData} {k : Nat} (F : Fun K "_law_patch" "_law_patch" sLPatch f fd) (M : Mg K mg) (hs : mg "sorted" = none) (cD : Cal P w K mg base k "_law_digit" ["_law_state", "_law_many"] spDigit)
    (cL : Cal P w K mg base k "_law_lines" ["_law_history_here", "_law_names"] (spLines K T)) (cK : Cal P w K mg base k "_law_known" ["_law_history_here", "_law_knows"] (spKnown K T)) (cDe : Cal P w K mg base k "_law_deed" ["_law_state", "_law_goods"] (spDeed K T)) :
    FnOk P w K mg base CX0 (k + 1) f fd ["_law_history_here", "_law_state"] (spPatch K T) := by
  refine F.ok scLPatch (fun vs H Q E h => ?_) (fun cdv A outer s H vs Q E hr h => ?_)
  · obtain ⟨h, d, hist, C, rfl, _⟩ := h
    rfl
  · obtain ⟨hv, d, hist, C, rfl, st, hh, hfr, hlen, held, tg, q⟩ := h
    refine ⟨_, (pss_cons (ps_set (i := 2) scLPatch.nd rfl (.inr rfl) (pe_ix ix_list (pe_lst (pa_cons pe_str (pa_cons pe_str (pa_cons pe_str pa_nil)))) (pe_cal cD hr (by rfl) (pa_cons (pv 1) (pa_cons pe_int pa_nil))) (fun _ _ => rfl)))
      (pss_cons (ps_set (i := 6) scLPatch.nd rfl (.inr rfl) (pe_tup (pa_cons (pv 2) (pa_cons (pe_op op_add pe_int (pe_callB call_len_seq (by rfl) M.len_ PySem.boot_len (pa_cons (pe_lc (own := [("_law_one", 3), ("_law_knows", 4), ("_law_deeds", 5)]) (g := (gTup K 3 (gCons (gName 3) (gCons (gName 4) (gCons (gName 5) gNil))))) rfl scLPatch.nd (pi_list (pv 0)) (blkOk_by (N := ["_law_history_here", "_law_state", "_law_hand", "_law_one", "_law_knows", "_law_deeds", "_law_name", "_law_own", "_law_line", "_law_text", "_law_goods", "_law_many", "_law_k", "_law_deed_here", "_law_j"]) (sc := defScope sLPatch) (by decide +kernel)) (fun _ _ _ _ _ => (pg_tup rfl (pgs_cons (pg_name (i := 3) scLPatch.nd rfl (Or.inl rfl)) (pgs_cons (pg_name (i := 4) scLPatch.nd rfl (Or.inl rfl)) (pgs_cons (pg_name (i := 5) scLPatch.nd rfl (Or.inl rfl)) pgs_nil))))) (fun _ _ _ _ _ => (pts_one (pt_cmpR op_eq (pe_ix (show IxR _ (rIxT K) from ix_tup) (pv 3) pe_int (fun _ _ => rfl)) (pv 2) (nomark _)))) (fun _ _ _ _ _ => (pv 3))) pa_nil))) pa_nil))))
      (pss_cons (ps_set (i := 4) scLPatch.nd rfl (.inl rfl) (pe_callB (cr_sortedD hr.units) (by rfl) hs (by decide +kernel) (pa_cons (pe_lc (own := [("_law_one", 3), ("_law_own", 7), ("_law_deeds", 5)]) (g := (gTup K 3 (gCons (gName 3) (gCons (gName 7) (gCons (gName 5) gNil))))) rfl scLPatch.nd (pi_list (pe_slice sl_list (pv 0) (po_some (pe_un un_neg pe_int)) po_none)) (blkOk_by (N := ["_law_history_here", "_law_state", "_law_hand", "_law_one", "_law_knows", "_law_deeds", "_law_name", "_law_own", "_law_line", "_law_text", "_law_goods", "_law_many", "_law_k", "_law_deed_here", "_law_j"]) (sc := defScope sLPatch) (by decide +kernel)) (fun _ _ _ _ _ => (pg_tup rfl (pgs_cons (pg_name (i := 3) scLPatch.nd rfl (Or.inl rfl)) (pgs_cons (pg_name (i := 7) scLPatch.nd rfl (Or.inl rfl)) (pgs_cons (pg_name (i := 5) scLPatch.nd rfl (Or.inl rfl)) pgs_nil))))) (fun _ _ _ _ _ => (pts_one (pt_cmpR op_eq (pe_cal cD hr (by rfl) (pa_cons (pv 1) (pa_cons pe_int pa_nil))) pe_int (nomark _)))) (fun _ _ _ _ _ => (pv 3))) pa_nil)))
      (pss_cons (ps_setLc (i := 10) (own := [("_law_line", 8), ("_law_text", 9)]) (g := (gTup K 2 (gCons (gName 8) (gCons (gName 9) gNil)))) (tt := tYes) rfl scLPatch.nd rfl rfl (sw_true rfl rfl rfl (by decide +kernel)) (pi_list (pe_cal cL hr (by rfl) (pa_cons (pv 0) (pa_cons (pe_cal cK hr (by rfl) (pa_cons (pv 0) (pa_cons (pv 4) pa_nil))) pa_nil)))) (blkOk_by (N := ["_law_history_here", "_law_state", "_law_hand", "_law_one", "_law_knows", "_law_deeds", "_law_name", "_law_own", "_law_line", "_law_text", "_law_goods", "_law_many", "_law_k", "_law_deed_here", "_law_j"]) (sc := defScope sLPatch) (by decide +kernel)) (fun _ _ _ _ _ => (pg_tup rfl (pgs_cons (pg_name (i := 8) scLPatch.nd rfl (Or.inl rfl)) (pgs_cons (pg_name (i := 9) scLPatch.nd rfl (Or.inl rfl)) pgs_nil)))) (fun _ _ _ _ _ => pts_nil) (fun _ _ _ _ _ => (pv 8)))
      (pss_cons (ps_set (i := 5) scLPatch.nd rfl (.inl rfl) (pe_lst pa_nil))
      (pss_cons (ps_set (i := 11) scLPatch.nd rfl (.inr rfl) pe_int)
      (pss_cons (ps_for PassesOwn.never rfl (pi_range1 (by rfl) M.range_ (pa_cons (pe_op op_add pe_int (pe_cal cD hr (by rfl) (pa_cons (pv 1) (pa_cons pe_int pa_nil)))) pa_nil)) (pg_name (i := 12) scLPatch.nd rfl (.inl rfl))
      (pss_cons (ps_set (i := 13) scLPatch.nd rfl (.inl rfl) (pe_cal cDe hr (by rfl) (pa_cons (pv 1) (pa_cons (pv 10) pa_nil))))
      (pss_cons (ps_if (pt_cmpR op_eq (pe_ix ix_tup (pv 13) pe_int (fun _ _ => rfl)) pe_str (nomark _))
      (pss_cons (ps_set (i := 10) scLPatch.nd rfl (.inl rfl) (pe_op op_cat (pv 10) (pe_lc (own := [("_law_j", 14)]) (g := gName 14) (tt := tYes) rfl scLPatch.nd (pi_range1 (by rfl) M.range_ (pa_cons (pe_callB call_len_seq (by rfl) M.len_ PySem.boot_len (pa_cons (pe_ix ix_tup (pv 13) pe_int (fun _ _ => rfl)) pa_nil)) pa_nil)) (blkOk_by (N := ["_law_history_here", "_law_state", "_law_hand", "_law_one", "_law_knows", "_law_deeds", "_law_name", "_law_own", "_law_line", "_law_text", "_law_goods", "_law_many", "_law_k", "_law_deed_here", "_law_j"]) (sc := defScope sLPatch) (by decide +kernel)) (fun _ _ _ _ _ => (pg_name (i := 14) scLPatch.nd rfl (Or.inl rfl))) (fun _ _ _ _ _ => pts_nil) (fun _ _ _ _ _ => (pe_op (show OpR _ _ (rCatA K) from op_catA) (pv 6) (pe_tup (pa_cons (pe_op op_add (pe_op op_add (pv 11) (pv 14)) pe_int) pa_nil)))))))
      (pss_one (ps_set (i := 11) scLPatch.nd rfl (.inr rfl) (pe_op op_add (pv 11) (pe_callB call_len_seq (by rfl) M.len_ PySem.boot_len (pa_cons (pe_ix ix_tup (pv 13) pe_int (fun _ _ => rfl)) pa_nil))))))
      pss_nil)
      (pss_one (ps_expr (pe_bm PySem.F.plainAttrs_list PySem.F.slot_list_append PySem.F.type_list_append mt_append (pv 5) (pa_cons (pv 13) pa_nil)))))))
      (pss_one (ps_ret (pe_tup (pa_cons (pv 6) (pa_cons (pv 4) (pa_cons (pv 5) pa_nil))))))))))))), ?_⟩
    have toG : ∀ {H'}, Go T (· = d) H H' → Sub H H' := fun g => st.sub g tg
    obtain ⟨a, xs, rfl, hS, hD⟩ := hh
    have hok := hfr.ok menuH_ok hlen
    have xlen : xs.length = hist.length := by rw [DpAll.len hD, List.length_map]
    have toC : ∀ {H'}, Go T (· = d) H H' → Sub (cut C H) (cut C H') := fun g => (toG g).cuts
    have toH : ∀ {H'}, Go T (· = d) H H' → Sub (cut C H) H' := fun g => (toC g).trans Sub.cut
    have hist' : ∀ {H'}, Go T (· = d) H H' → HistAt K C H' (.ref a) hist := fun g => ⟨a, xs, rfl, (toG g).seqL hS, Dp.subs (toC g) _ _ hD⟩
    have sm3 : 3 ≤ sizeLine := small_le (by decide)
    have sm2 : 2 ≤ sizeLine := small_le (by decide)
    -- the hand
    refine ⟨sm3, fun m hm => ?_⟩
    have g1 : Go T (· = d) H (upd H m (.lst [V.str "b", .str "abe", .str "cy"])) := (Go.rfl' tg).new hm
    have s1 : St (upd H m (.lst [V.str "b", .str "abe", .str "cy"])) d := st.new hm
    have em : (upd H m (.lst [V.str "b", .str "abe", .str "cy"])) m = some (.lst (menuH.map V.str)) := upd_same
    generalize upd H m (.lst [V.str "b", .str "abe", .str "cy"]) = H1 at g1 s1 em ⊢
    obtain ⟨a1, b1, p1, q1, ed1⟩ := _root_.id s1
    refine ⟨.ref d, rfl, d, a1, b1, 3, rfl, ed1, p1, q1, by decide, by decide, dg g1.1 ed1 fun rh H2 rh0 rh1 g12 s2 => ?_⟩
    obtain ⟨hand, hhand, hath⟩ := atI_int (xs := menuH) (j := rh) rh0 rh1
    have hathv : atI (menuH.map V.str) rh = some (.str hand) := by
      have := atI_nat (xs := menuH.map V.str) (j := rh.toNat) (v := .str hand) (by rw [List.getElem?_map, hhand]; rfl)
      rwa [show ((rh.toNat : Nat) : Int) = rh by omega] at this
    have hmem : hand ∈ menuH := List.mem_of_getElem? hhand
    have g2 := g1.trans g12
    refine ⟨m, _, rh, .str hand, rfl, rfl, .inl (.inl (g12.at g1.1 (s1.ne em) em)), hathv, ?_⟩
    -- the name
    refine ⟨.str hand, rfl, .ref a, rfl, a, rfl, ⟨xs, (toG g2).seqL hS⟩, fun D hD' => ?_⟩
    refine lc_list (K := K) (a := a) (xs := xs) (fun i H3 => Go T D0 H2 H3 ∧ ∃ acc, H3 D = some (.lst acc) ∧ acc.length = countH (hist.take i) hand) ?_ ?_ ?_ ?_
    · exact ⟨(Go.rfl' g2.1).new hD', [], upd_same, rfl⟩
    · rintro i H3 hi ⟨g3, _⟩
      exact (toG (g2.trans g3.up)).seqL hS
    · rintro i v H3 hv ⟨g3, acc, eD, hacc⟩
      obtain ⟨d', hd', hv'⟩ := DpAll.at' hD hv
      obtain ⟨pat, hpat, rfl⟩ := at_map hd'
      obtain ⟨av, _, rfl, sv, dv⟩ := Dp.tupI hv'
      obtain ⟨vn, vk, vd, rfl, dn, dk, dd⟩ := DpAll.i3 dv
      obtain ⟨an, _, rfl, sn, dn2⟩ := Dp.tupI dn
      obtain ⟨u1, u2, rfl, du1, du2⟩ := DpAll.i2 dn2
      cases Dp.strI du1
      cases Dp.intI du2
      have gg := g2.trans g3.up
      have cs : countH (hist.take (i + 1)) hand = countH (hist.take i) hand + countH [pat] hand := by
        unfold countH
        rw [List.take_add_one, hpat, List.countP_append]
        rfl
      have cl : countH (hist.take i) hand ≤ 100 := Nat.le_trans List.countP_le_length (by rw [List.length_take]; omega)
      refine ⟨av, _, rfl, (toH gg).seqT sv, rfl, _, _, rfl, _, _, rfl, _, _, rfl, rfl, rfl, ?_⟩
      refine ⟨.ref an, rfl, an, _, 0, .str pat.name.1, rfl, rfl, (toH gg).seqT sn, atI_nat (j := 0) rfl, .str hand, rfl, rfl, _, rfl, ite2 (fun e => ?_) (fun e => ?_)⟩
      · have e' : pat.name.1 = hand := V.str.inj (of_decide_eq_true e)
        refine ⟨.ref an, rfl, acc, eD, small_line (by omega), g3.put hD' eD, acc ++ [.ref an], upd_same, ?_⟩
        rw [List.length_append, hacc, cs]
        unfold countH
        simp [e']
      · have e' : ¬ pat.name.1 = hand := fun z => e (decide_eq_true (by rw [z]))
        refine ⟨g3, acc, eD, ?_⟩
        rw [hacc, cs]
        unfold countH
        simp [e']
    · rintro H3 ⟨g3, acc, eD, hacc⟩
      rw [xlen, List.take_length] at hacc
      refine ⟨D, acc, rfl, .inl (.inl (.inl eD)), 1, _, rfl, rfl, sm2, fun nm hnm => ?_⟩
      have g23 : Go T (· = d) H H3 := g2.trans g3.up
      have s3 := s2.go g3 g2.1
      have Cnm : C nm = false := held.no (freeD g23 tg s3 hnm)
      rw [hacc]
      have g4 := g23.new (o := .tup [V.str hand, .int (1 + (countH hist hand : Nat))]) hnm
      have s4 := s3.new (o := .tup [V.str hand, .int (1 + (countH hist hand : Nat))]) hnm
      have enm : (upd H3 nm (.tup [V.str hand, .int (1 + (countH hist hand : Nat))])) nm = some (.tup [V.str hand, .int (1 + (countH hist hand : Nat))]) := upd_same
      generalize upd H3 nm (.tup [V.str hand, .int (1 + (countH hist hand : Nat))]) = H4 at g4 s4 enm ⊢
      -- what is known directly
      have cut4 : cutV xs (some (-4)) none = xs.drop (xs.length - 4) := by
        have e1 : HT.sIx xs.length 0 (some (-4)) = xs.length - 4 := by
          show (if (-4 : Int) < 0 then ((-4 : Int) + (xs.length : Int)).toNat else min (-4 : Int).toNat xs.length) = _
          rw [if_pos (by decide)]
          omega
        unfold cutV
        rw [e1, HT.sIx_none]
        exact List.take_of_length_le (by rw [List.length_drop]; omega)
      refine ⟨.ref a, rfl, (4 : Int), rfl, (-4 : Int), rfl, a, xs, rfl, (toG g4).seqL hS, fun s hs' => ?_⟩
      rw [cut4]
      have g5 := g4.new (o := .lst (xs.drop (xs.length - 4))) hs'
      have s5 := s4.new (o := .lst (xs.drop (xs.length - 4))) hs'
      have enm5 := (upd_ne (o := .lst (xs.drop (xs.length - 4))) (ne_of_none enm hs')).trans enm
      have es : (upd H4 s (.lst (xs.drop (xs.length - 4)))) s = some (.lst (xs.drop (xs.length - 4))) := upd_same
      generalize upd H4 s (.lst (xs.drop (xs.length - 4))) = H5 at g5 s5 enm5 es ⊢
      refine ⟨s, rfl, ⟨_, .inl (.inl es)⟩, fun D2 hD2 => ?_⟩
      have dT : DpAll K (cut C H) (xs.drop (xs.length - 4)) ((hist.drop (xs.length - 4)).map eP) := by
        rw [List.map_drop]
        exact hD.drop _
      refine lc_list (K := K) (a := s) (xs := xs.drop (xs.length - 4)) (fun i H6 => ∃ qs : List (V × Nm), Go T (· = d) H5 H6 ∧ St H6 d ∧ H6 D2 = some (.lst (qs.map (·.1))) ∧ (∀ x ∈ qs, Dp K (cut C H) x.1 (eN x.2)) ∧ (qs.map (·.2)).Sublist (((hist.drop (xs.length - 4)).take i).map (·.name)) ∧ qs.length ≤ i) ?_ ?_ ?_ ?_
      · exact ⟨[], (Go.rfl' g5.1).new hD2, s5.new hD2, upd_same, (fun x hx => by cases hx), .slnil, Nat.le_refl _⟩
      · rintro i H6 hi ⟨qs, g6, s6, _⟩
        exact .inl (.inl (g6.at g5.1 (s5.ne es) es))
      · rintro i v H6 hv ⟨qs, g6, s6, eD, hqs, hsub, hql⟩
        obtain ⟨d', hd', hv'⟩ := DpAll.at' dT hv
        obtain ⟨pat, hpat, rfl⟩ := at_map hd'
        obtain ⟨av, _, rfl, sv, dv⟩ := Dp.tupI hv'
        obtain ⟨vn, vk, vd, rfl, dn, dk, dd⟩ := DpAll.i3 dv
        have hi : i < (xs.drop (xs.length - 4)).length := (List.getElem?_eq_some_iff.mp hv).1
        rw [List.length_drop] at hi
        have ts : ((hist.drop (xs.length - 4)).take (i + 1)).map (·.name) = ((hist.drop (xs.length - 4)).take i).map (·.name) ++ [pat.name] := by
          rw [List.take_add_one, hpat, List.map_append]
          rfl
        obtain ⟨a6, b6, p6, q6, ed6⟩ := _root_.id s6
        refine ⟨av, _, rfl, (toH (g5.trans g6)).seqT sv, rfl, _, _, rfl, _, _, rfl, _, _, rfl, rfl, rfl, ?_⟩
        refine ⟨.ref d, rfl, d, a6, b6, 2, rfl, ed6, p6, q6, by decide, by decide, dg g6.1 ed6 fun rz H7 rz0 rz1 g67 s7 => ?_⟩
        have eD7 := g67.at g6.1 (s6.ne eD) eD
        refine ⟨rfl, _, rfl, ite2 (fun e => ?_) (fun e => ?_)⟩
        · refine ⟨vn, rfl, qs.map (·.1), eD7, small_line (by rw [List.length_map]; omega), qs ++ [(vn, pat.name)], (g6.trans g67).put hD2 eD7, s7.put eD7, by rw [upd_same, List.map_append]; rfl, fun x hx => ?_, ?_, by rw [List.length_append]; show qs.length + 1 ≤ i + 1; omega⟩
          · rcases List.mem_append.mp hx with h | h
            · exact hqs x h
            · rw [List.mem_singleton.mp h]
              exact dn
          · rw [ts, List.map_append]
            exact List.Sublist.append hsub (List.Sublist.refl _)
        · refine ⟨qs, g6.trans g67, s7, eD7, hqs, ?_, by omega⟩
          rw [ts]
          exact hsub.trans (List.sublist_append_left _ _)
      · rintro H6 ⟨qs, g6, s6, eD, hqs, hsub, hql⟩
        have hsub' : (qs.map (·.2)).Sublist (hist.map (·.name)) := by
          refine hsub.trans ?_
          exact List.Sublist.map _ ((List.take_sublist _ _).trans (List.drop_sublist _ _))
        have hq4 : qs.length ≤ 4 := by
          rw [List.length_drop] at hql
          omega
        clear hsub hql
        have nd : (qs.map (·.2)).Nodup := hfr.nodup.sublist hsub'
        have asc := sorted_asc nd
        have mp : ∀ x, x ∈ qs.mergeSort (PySem.W.dataLe false fun x : V × Nm => eN x.2) ↔ x ∈ qs := fun x => (List.mergeSort_perm qs _).mem_iff
        have ml : (qs.mergeSort (PySem.W.dataLe false fun x : V × Nm => eN x.2)).length = qs.length := (List.mergeSort_perm qs _).length_eq
        have mm : ((qs.map fun x => (x.1, eN x.2)).mergeSort (PySem.W.dataLe false (·.2))).map (·.1) = (qs.mergeSort (PySem.W.dataLe false fun x : V × Nm => eN x.2)).map (·.1) := by
          rw [← List.map_mergeSort (r := PySem.W.dataLe false fun x : V × Nm => eN x.2) (s := PySem.W.dataLe false (·.2)) (f := fun x : V × Nm => (x.1, eN x.2)) (l := qs) (fun a _ b _ => rfl), List.map_map]
          rfl
        refine ⟨D2, qs.map (fun x => (x.1, eN x.2)), rfl, .inl (.inl (by rw [List.map_map]; exact eD)), ?_, ?_, ?_, ?_, fun l hl => ?_⟩
        · intro p hp
          obtain ⟨x, hx, rfl⟩ := List.mem_map.mp hp
          exact Dp.sub (toH (g5.trans g6)) _ _ (hqs x hx)
        · rw [List.map_map]
          exact PySem.W.AllAlike.of (enc := fun x : V × Nm => eN x.2) fun a b => eN_alike _ _
        · rw [List.map_map]
          exact PySem.W.Sortable.tuples (enc := fun x : V × Nm => eN x.2) fun b => ⟨_, _, rfl⟩
        · intro p hp
          obtain ⟨x, hx, rfl⟩ := List.mem_map.mp hp
          rw [show ((x.1, eN x.2) : V × PyData).2 = eN x.2 from rfl, eN_dep]
          decide
        rw [mm]
        generalize hsq : qs.mergeSort (PySem.W.dataLe false fun x : V × Nm => eN x.2) = sq at asc mp ml ⊢
        have g07 := (g5.trans g6).new (o := .lst (sq.map (·.1))) hl
        have s7 := s6.new (o := .lst (sq.map (·.1))) hl
        have enm7 := (upd_ne (o := .lst (sq.map (·.1))) (ne_of_none (g6.at g5.1 (s5.ne enm5) enm5) hl)).trans (g6.at g5.1 (s5.ne enm5) enm5)
        have el : (upd H6 l (.lst (sq.map (·.1)))) l = some (.lst (sq.map (·.1))) := upd_same
        have Cl : C l = false := held.no (freeD (g5.trans g6) tg s6 hl)
        generalize upd H6 l (.lst (sq.map (·.1))) = H7 at g07 s7 enm7 el ⊢
        have dsq : ∀ (l : List (V × Nm)), (∀ x ∈ l, x ∈ qs) → DpAll K (cut C H) (l.map (·.1)) ((l.map (·.2)).map eN) := by
          intro l
          induction l with
          | nil => intro _; exact .nil
          | cons x r ih => exact fun h => .cons (hqs x (h x (List.mem_cons_self ..))) (ih fun y m => h y (List.mem_cons_of_mem _ m))
        have dks := dsq sq fun x hx => (mp x).mp hx
        have kn : ∀ n ∈ sq.map (·.2), ∃ q ∈ hist, q.name = n := by
          intro n hn
          obtain ⟨x, hx, rfl⟩ := List.mem_map.mp hn
          have h2 : x.2 ∈ qs.map (·.2) := List.mem_map.mpr ⟨x, (mp x).mp hx, rfl⟩
          obtain ⟨q, hq, e⟩ := List.mem_map.mp (hsub'.subset h2)
          exact ⟨q, hq, e⟩
        have kl : (sq.map (·.2)).length ≤ 4 := by rw [List.length_map, ml]; exact hq4
        generalize sq.map (·.2) = knows at asc dks kn kl
        generalize sq.map (·.1) = ks at el dks ⊢
        clear mm dsq mp ml nd hsub' hqs eD
        have nmok := hfr.nms menuH_ok (by omega)
        have knok : ∀ n ∈ knows, NmOk n := fun n hn => by
          obtain ⟨q, hq, rfl⟩ := kn n hn
          exact nmok q hq
        have nmOwn : NmOk (hand, 1 + (countH hist hand : Nat)) := by
          have c : countH hist hand ≤ hist.length := List.countP_le_length
          exact ⟨menuH_ok _ hmem, by show (1 : Int) ≤ 1 + (countH hist hand : Nat); omega, by show 1 + ((countH hist hand : Nat) : Int) ≤ 999; omega⟩
        -- the good lines
        refine ⟨.ref a, rfl, .ref a, rfl, .ref l, rfl, .ref a, l, ks, hist, knows, C, rfl, hist' g07, hok, .inl (.inl el), Dp.subs (toC g07) _ _ dks, knok, by omega, held.god g07 tg s7, g07.1, fun H8 p8 xs8 g78 _ e8 d8 => ?_⟩
        have g08 := g07.trans g78.up
        have s8 := s7.go g78 g07.1
        have knok2 := knownIn_ok (hist := hist) knok (l := hist.reverse) (fun p m => (hok.each p (List.mem_reverse.mp m)).1) (found := knows) knok
        refine ⟨.ref a, .ref p8, hist, knownIn hist knows, C, rfl, hist' g08, hok, .lst (.inl (.inl e8)) (Dp.subs Sub.cut _ _ d8), knok2, held.god g08 tg s8, g08.1, fun H9 p9 xs9 g89 _ e9 d9 => ?_⟩
        have g09 := g08.trans g89.up
        have s9 := s8.go g89 g08.1
        have llen := linesIn_len (names := knownIn hist knows) (hist := hist) fun p m => (hok.each p m).2
        refine ⟨p9, rfl, ⟨_, .inl (.inl e9)⟩, fun D3 hD3 => ?_⟩
        have enm9 := g89.at g08.1 (fun z => z) (g78.at g07.1 (fun z => z) enm7)
        have el9 := g89.at g08.1 (fun z => z) (g78.at g07.1 (fun z => z) el)
        refine lc_list (K := K) (a := p9) (xs := xs9) (fun i H10 => Go T D0 H9 H10 ∧ ∃ acc, H10 D3 = some (.lst acc) ∧ acc.length = i ∧ DpAll K (cut C H9) acc (((linesIn hist (knownIn hist knows)).take i).map fun x => eL x.1)) ?_ ?_ ?_ ?_
        · exact ⟨(Go.rfl' g09.1).new hD3, [], upd_same, rfl, .nil⟩
        · rintro i H10 hi ⟨g10, _⟩
          exact .inl (.inl (g10.at g09.1 (fun z => z) e9))
        · rintro i v H10 hv ⟨g10, acc, eD, hacc, hda⟩
          obtain ⟨d', hd', hv'⟩ := DpAll.at' d9 hv
          obtain ⟨x, hx, rfl⟩ := at_map hd'
          obtain ⟨ax, _, rfl, sx, dx⟩ := Dp.tupI hv'
          obtain ⟨x1, x2, rfl, dx1, dx2⟩ := DpAll.i2 dx
          have hi : i < xs9.length := (List.getElem?_eq_some_iff.mp hv).1
          have l9 : xs9.length ≤ 900 := by rw [DpAll.len d9, List.length_map]; omega
          refine ⟨ax, _, rfl, ((sub_go g10 g09.1).seqT (Sub.cut.seqT sx)), rfl, _, _, rfl, _, _, rfl, rfl, rfl, ?_⟩
          refine ⟨x1, rfl, acc, eD, small_line (by omega), g10.put hD3 eD, acc ++ [x1], upd_same, by rw [List.length_append, hacc]; rfl, ?_⟩
          rw [List.take_add_one, hx, List.map_append]
          exact hda.app (.one dx1)
        · rintro H10 ⟨g10, gs0, eD, hgl, hgs⟩
          have l9 : xs9.length = (linesIn hist (knownIn hist knows)).length := by rw [DpAll.len d9, List.length_map]
          rw [l9, List.take_length] at hgs
          have g010 := g09.trans g10.up
          have s10 := s9.go g10 g09.1
          have enm10 := g10.at g09.1 (fun z => z) enm9
          have el10 := g10.at g09.1 (fun z => z) el9
          -- the deeds
          refine ⟨Nat.zero_le _, fun de hde => ?_⟩
          have Cde : C de = false := held.no (freeD g010 tg s10 hde)
          have g11 := g010.new (o := .lst []) hde
          have s11 := s10.new (o := .lst []) hde
          have enm11 := (upd_ne (o := .lst []) (ne_of_none enm10 hde)).trans enm10
          have el11 := (upd_ne (o := .lst []) (ne_of_none el10 hde)).trans el10
          have eg11 := (upd_ne (o := .lst []) (ne_of_none eD hde)).trans eD
          have ede : (upd H10 de (.lst [])) de = some (.lst []) := upd_same
          have hgs11 : DpAll K (cut (plus C de) (upd H10 de (.lst []))) gs0 ((goodsAt hist ⟨(hand, 1 + (countH hist hand : Nat)), knows, []⟩ 0).map eL) := by
            have e : (goodsAt hist ⟨(hand, 1 + (countH hist hand : Nat)), knows, []⟩ 0).map eL = (linesIn hist (knownIn hist knows)).map fun x => eL x.1 := by
              unfold goodsAt ownLines
              rw [List.range_zero, List.map_nil, List.append_nil, List.map_map]
              rfl
            rw [e]
            exact Dp.subs ((sub_go g10 g09.1).cuts.trans (Sub.plus hde)) _ _ hgs
          have held11 : Held (plus C de) (upd H10 de (.lst [])) := (held.god g11 tg s11).plus ede
          generalize upd H10 de (.lst []) = H11 at g11 s11 enm11 el11 eg11 ede hgs11 held11 ⊢
          obtain ⟨a11, b11, p11, q11, ed11⟩ := _root_.id s11
          refine ⟨.ref d, rfl, d, a11, b11, 3, rfl, ed11, p11, q11, by decide, by decide, dg g11.1 ed11 fun rd H12 rd0 rd1 g1112 s12 => ?_⟩
          refine ⟨1, rd, rfl, rfl, 1 + rd, rfl, by omega, by omega, ?_⟩
          have hfree : H de = none := freeD g010 tg s10 hde
          have nle : l ≠ de := ne_of_none el10 hde
          have nge : D3 ≠ de := ne_of_none eD hde
          have g012 := g11.trans g1112
          have en12 := g1112.at g11.1 (s11.ne enm11) enm11
          have el12 := g1112.at g11.1 (s11.ne el11) el11
          have eg12 := g1112.at g11.1 (s11.ne eg11) eg11
          have ed12 := g1112.at g11.1 (s11.ne ede) ede
          have hgs12 := Dp.subs (s11.sub g1112 g11.1).cuts _ _ hgs11
          generalize hown : ((hand, 1 + (countH hist hand : Nat)) : Nm) = own at nmOwn hgs12
          have enm12 : H12 nm = some (.tup [V.str own.1, .int own.2]) := by rw [← hown]; exact en12
          refine for_range (lo := 0) (n := (1 + rd).toNat) (fun i σ H13 => ∃ (gl : Addr) (gs dv : List V) (deeds : List Deed) (many : Nat) (y12 y13 : Option V),
            σ = [some (.ref a), some (.ref d), some (.str hand), none, some (.ref l), some (.ref de), some (.ref nm), none, none, none, some (.ref gl), some (.int (many : Nat)), y12, y13, none] ∧ Go T (· = d) H H13 ∧ St H13 d ∧ H13 nm = some (.tup [V.str own.1, .int own.2]) ∧ H13 l = some (.lst ks) ∧
            gl ≠ de ∧ H13 gl = some (.lst gs) ∧ DpAll K (cut (plus C de) H13) gs ((goodsAt hist ⟨own, knows, []⟩ many).map eL) ∧ H13 de = some (.lst dv) ∧ DpAll K (cut (plus C de) H13) dv (deeds.map K1.eD) ∧ deeds.length = i ∧ many = (deeds.flatMap Deed.texts).length ∧ many ≤ 3 * i ∧
            ∀ j dd, deeds[j]? = some dd → DeedFrom (goodsAt hist ⟨own, knows, []⟩ (manyAt deeds j)) dd) ?_ ?_ ?_
          · exact ⟨D3, gs0, [], [], 0, none, none, rfl, g012, s12, enm12, el12, nge, eg12, hgs12, ed12, .nil, rfl, rfl, Nat.zero_le _, fun j dd h => by cases h⟩
          · rintro i σ H13 hi ⟨gl, gs, dv, deeds, many, y12, y13, rfl, g13, s13, en, el', ng, eg, hgs', ed, hdv, hdl, hmany, hml, hdf⟩
            have gok := goods_ok (p := ⟨own, knows, []⟩) (many := many) nmok nmOwn
            have gl5 : (goodsAt hist ⟨own, knows, []⟩ many).length ≤ 5000 := by
              unfold goodsAt ownLines
              rw [List.length_append, List.length_map, List.length_map, List.length_range]
              show (linesIn hist (knownIn hist knows)).length + many ≤ 5000
              omega
            refine ⟨.ref d, rfl, .ref gl, rfl, d, gl, gs, goodsAt hist ⟨own, knows, []⟩ many, plus C de, rfl, s13, eg, hgs', gok, gl5, (held.god g13 tg s13).plus ed, g13.1, fun H14 v deed g1314 s14 dpv hfrom => ?_⟩
            have dok := hfrom.ok gok
            have g14 := g13.trans g1314
            have en14 := g1314.at g13.1 (s13.ne en) en
            have el14 := g1314.at g13.1 (s13.ne el') el'
            have eg14 := g1314.at g13.1 (s13.ne eg) eg
            have ed14 := g1314.at g13.1 (s13.ne ed) ed
            have hgs14 := Dp.subs (s13.sub g1314 g13.1).cuts _ _ hgs'
            have hdv14 := Dp.subs (s13.sub g1314 g13.1).cuts _ _ hdv
            obtain ⟨a', k', r, rfl, S', hcase⟩ := txt_of dpv
            have dvl : dv.length = deeds.length := by rw [DpAll.len hdv, List.length_map]
            have fin : ∀ (H15 : Hp) (gl' : Addr) (gs' : List V) (m' : Int) (y12 : Option V), Go T D0 H14 H15 → gl' ≠ de → H15 gl' = some (.lst gs') → DpAll K (cut (plus C de) H15) gs' ((goodsAt hist ⟨own, knows, []⟩ (many + deed.texts.length)).map eL) → m' = ((many + deed.texts.length : Nat) : Int) →
              ∃ (gl : Addr) (gs dv' : List V) (deeds : List Deed) (many : Nat) (y12' y13 : Option V),
              [some (.ref a), some (.ref d), some (.str hand), none, some (.ref l), some (.ref de), some (.ref nm), none, none, none, some (.ref gl'), some (.int m'), y12, some (.ref a'), none] = [some (.ref a), some (.ref d), some (.str hand), none, some (.ref l), some (.ref de), some (.ref nm), none, none, none, some (V.ref gl), some (.int (many : Nat)), y12', y13, none] ∧
              Go T (· = d) H (upd H15 de (.lst (dv ++ [.ref a']))) ∧ St (upd H15 de (.lst (dv ++ [.ref a']))) d ∧ (upd H15 de (.lst (dv ++ [.ref a']))) nm = some (.tup [V.str own.1, .int own.2]) ∧ (upd H15 de (.lst (dv ++ [.ref a']))) l = some (.lst ks) ∧
              gl ≠ de ∧ (upd H15 de (.lst (dv ++ [.ref a']))) gl = some (.lst gs) ∧ DpAll K (cut (plus C de) (upd H15 de (.lst (dv ++ [.ref a'])))) gs ((goodsAt hist ⟨own, knows, []⟩ many).map eL) ∧ (upd H15 de (.lst (dv ++ [.ref a']))) de = some (.lst dv') ∧ DpAll K (cut (plus C de) (upd H15 de (.lst (dv ++ [.ref a'])))) dv' (deeds.map K1.eD) ∧ deeds.length = i + 1 ∧ many = (deeds.flatMap Deed.texts).length ∧ many ≤ 3 * (i + 1) ∧
              ∀ j dd, deeds[j]? = some dd → DeedFrom (goodsAt hist ⟨own, knows, []⟩ (manyAt deeds j)) dd := by
              intro H15 gl' gs' m' y12 g15 ng' eg' hgs'' hm'
              subst hm'
              have ed15 := g15.at g14.1 (fun z => z) ed14
              have en15 := g15.at g14.1 (fun z => z) en14
              have el15 := g15.at g14.1 (fun z => z) el14
              have nn : nm ≠ de := ne_of en15 ed15 (by intro z; cases z)
              refine ⟨gl', gs', dv ++ [.ref a'], deeds ++ [deed], many + deed.texts.length, _, _, rfl, (g14.trans g15.up).put hfree ed15, (s14.go g15 g14.1).put ed15, (upd_ne nn).trans en15, (upd_ne nle).trans el15, ng', (upd_ne ng').trans eg', ?_, upd_same, ?_, by rw [List.length_append, hdl]; rfl, ?_, by have := dok.2; omega, ?_⟩
              · rw [cut_out plus_D]
                exact hgs''
              · rw [cut_out plus_D, List.map_append]
                exact (Dp.subs (sub_go g15 g14.1).cuts _ _ hdv14).app (.one (Dp.sub (sub_go g15 g14.1).cuts _ _ dpv))
              · rw [List.flatMap_append, List.length_append, hmany]
                simp
              · intro j dd hj
                rcases Nat.lt_trichotomy j deeds.length with hlt | heq | hgt
                · rw [List.getElem?_append_left hlt] at hj
                  have e : manyAt (deeds ++ [deed]) j = manyAt deeds j := by
                    unfold manyAt
                    rw [List.take_append_of_le_length (Nat.le_of_lt hlt)]
                  rw [e]
                  exact hdf j dd hj
                · subst heq
                  have e1 : dd = deed := by
                    rw [List.getElem?_append_right (Nat.le_refl _), Nat.sub_self] at hj
                    exact (Option.some.inj hj).symm
                  have e : manyAt (deeds ++ [deed]) deeds.length = many := by
                    unfold manyAt
                    rw [List.take_left, hmany]
                  rw [e1, e]
                  exact hfrom
                · rw [List.getElem?_eq_none (by rw [List.length_append]; show deeds.length + 1 ≤ j; omega)] at hj
                  cases hj
            have SH : SqT K H14 a' (.str k' :: r) := Sub.cut.seqT S'
            refine ⟨.ref a', rfl, a', _, 0, .str k', rfl, rfl, SH, atI_nat (j := 0) rfl, rfl, _, rfl, ite2 (fun e => ?_) (fun e => ?_)⟩
            · have ek : k' = "put" := V.str.inj (of_decide_eq_true e)
              rcases hcase with ⟨_, x1, x2, t, us, rfl, s2', hus⟩ | ⟨z, _⟩
              · have St2 : SqT K H14 t (us.map V.str) := Sub.cut.seqT s2'
                have ul : us.length ≤ 3 := by rw [hus]; exact dok.2
                refine ⟨.ref gl, rfl, .ref a', rfl, a', _, 3, .ref t, rfl, rfl, SH, atI_nat (j := 3) rfl, t, _, rfl, .inr St2, _, rfl, by omega, by rw [List.length_map]; omega, fun D4 hD4 => ?_⟩
                have nD4 : de ≠ D4 := ne_of_none ed14 hD4
                have CD4 : plus C de D4 = false := plus_no (held.no (freeD g14 tg s14 hD4)) nD4.symm
                have un : (((us.map V.str).length : Nat) : Int).toNat = us.length := by rw [List.length_map]; omega
                have heldde : Held (plus C de) H14 := (held.god g14 tg s14).plus ed14
                refine lc_range (lo := 0) (n := (((us.map V.str).length : Nat) : Int).toNat) (fun j H16 => Go T D0 H14 H16 ∧ ∃ acc, H16 D4 = some (.lst acc) ∧ acc.length = j ∧ DpAll K (cut (plus (plus C de) D4) H16) acc (((List.range j).map fun x => lnAt own (many + x)).map eL)) ?_ ?_ ?_
                · exact ⟨(Go.rfl' g14.1).new hD4, [], upd_same, rfl, .nil⟩
                · rintro j H16 hj ⟨g16, acc, eD4, hacc, hda⟩
                  rw [un] at hj
                  have en16 := g16.at g14.1 (fun z => z) en14
                  refine ⟨rfl, .ref nm, rfl, .int (many : Nat), rfl, .int (0 + (j : Nat)), rfl, (many : Nat), 0 + (j : Nat), rfl, rfl, ((many : Nat) : Int) + (0 + (j : Nat)), 1, rfl, rfl, small_le (by show 1 ≤ 10000; decide), fun t1 ht1 => ?_⟩
                  have g17 := g16.new (o := .tup [V.int (((many : Nat) : Int) + (0 + (j : Nat)) + 1)]) ht1
                  have en17 := (upd_ne (o := .tup [V.int (((many : Nat) : Int) + (0 + (j : Nat)) + 1)]) (ne_of_none en16 ht1)).trans en16
                  have eD17 := (upd_ne (o := .tup [V.int (((many : Nat) : Int) + (0 + (j : Nat)) + 1)]) (ne_of_none eD4 ht1)).trans eD4
                  have e17 : (upd H16 t1 (.tup [V.int (((many : Nat) : Int) + (0 + (j : Nat)) + 1)])) t1 = some (.tup [V.int (((many + j : Nat) : Int) + 1)]) := by rw [upd_same, show ((many : Nat) : Int) + (0 + (j : Nat)) + 1 = ((many + j : Nat) : Int) + 1 by omega]
                  have hda17 : DpAll K (cut (plus (plus C de) D4) (upd H16 t1 (.tup [V.int (((many : Nat) : Int) + (0 + (j : Nat)) + 1)]))) acc _ := Dp.subs (Sub.new ht1).cuts _ _ hda
                  generalize upd H16 t1 (.tup [V.int (((many : Nat) : Int) + (0 + (j : Nat)) + 1)]) = H17 at g17 en17 eD17 e17 hda17 ⊢
                  refine ⟨nm, t1, _, _, rfl, rfl, .inl (.inl en17), .inl (.inl e17), small_le (by show 3 ≤ 10000; decide), (fun z => by cases z), (fun _ z => by cases z), fun _ _ t2 ht2 => ?_⟩
                  have n2 : t2 ≠ D4 := fun z => ne_of_none eD17 ht2 z.symm
                  have C2 : plus C de t2 = false := heldde.no (g17.free g14.1 (fun z => z) ht2)
                  have eD18 := (upd_ne (o := .tup ([V.str own.1, .int own.2] ++ [V.int (((many + j : Nat) : Int) + 1)])) n2.symm).trans eD17
                  refine ⟨acc, eD18, small_line (by omega), (g17.new ht2).put hD4 eD18, acc ++ [.ref t2], upd_same, by rw [List.length_append, hacc]; rfl, ?_⟩
                  rw [cut_out plus_D, List.range_succ, List.map_append, List.map_append]
                  refine DpAll.app (Dp.subs (Sub.new ht2).cuts _ _ hda17) (.one ?_)
                  show Dp K (cut (plus (plus C de) D4) (upd H17 t2 (.tup [V.str own.1, .int own.2, V.int (((many + j : Nat) : Int) + 1)]))) (.ref t2) (.tuple [.str own.1, .int own.2, .int (((many + j : Nat) : Int) + 1)])
                  exact .tup (.inl (.inl ((cut_at (plus_no C2 n2)).trans upd_same))) (.cons (.str _) (.cons (.int _) (.cons (.int _) .nil)))
                · rintro H16 ⟨g16, acc, eD4, hacc, hda⟩
                  rw [un] at hacc hda
                  have eg16 := g16.at g14.1 (fun z => z) eg14
                  have ed16 := g16.at g14.1 (fun z => z) ed14
                  have gsl : gs.length ≤ 5000 := by rw [DpAll.len hgs', List.length_map]; exact gl5
                  refine ⟨gl, D4, gs, acc, rfl, rfl, eg16, eD4, small_le (by omega), fun q4 hq4 => ?_⟩
                  have g18 := g16.new (o := .lst (gs ++ acc)) hq4
                  have S18 : SqT K (upd H16 q4 (.lst (gs ++ acc))) a' [.str k', x1, x2, .ref t] := g18.seqT g14.1 (fun _ _ z => z) SH
                  have T18 : SqT K (upd H16 q4 (.lst (gs ++ acc))) t (us.map V.str) := g18.seqT g14.1 (fun _ _ z => z) St2
                  have ed18 := (upd_ne (o := .lst (gs ++ acc)) (ne_of_none ed16 hq4)).trans ed16
                  have n18 : q4 ≠ de := fun z => ne_of_none ed16 hq4 z.symm
                  have hg18 : DpAll K (cut (plus C de) (upd H16 q4 (.lst (gs ++ acc)))) (gs ++ acc) ((goodsAt hist ⟨own, knows, []⟩ (many + deed.texts.length)).map eL) := by
                    have e1 : goodsAt hist ⟨own, knows, []⟩ (many + deed.texts.length) = goodsAt hist ⟨own, knows, []⟩ many ++ (List.range us.length).map fun x => lnAt own (many + x) := by
                      unfold goodsAt ownLines
                      rw [List.range_add, List.map_append, List.append_assoc, List.map_map, hus]
                      rfl
                    rw [e1, List.map_append]
                    refine DpAll.app (Dp.subs ((sub_go g16 g14.1).trans (Sub.new hq4)).cuts _ _ hgs14) (Dp.subs ((Sub.less (H := H16) (plus_le (C := plus C de) (D := D4))).trans (Sub.new hq4).cuts) _ _ hda)
                  have e18 : (upd H16 q4 (.lst (gs ++ acc))) q4 = some (.lst (gs ++ acc)) := upd_same
                  generalize upd H16 q4 (.lst (gs ++ acc)) = H18 at g18 S18 T18 ed18 hg18 e18 ⊢
                  refine ⟨.int (many : Nat), rfl, .ref a', rfl, a', _, 3, .ref t, rfl, rfl, S18, atI_nat (j := 3) rfl, t, _, rfl, .inr T18, (many : Nat), _, rfl, rfl, ?_⟩
                  refine ⟨.ref de, rfl, .inl ⟨rfl, _, .inl (.inl ed18)⟩, .ref a', rfl, de, dv, .ref a', rfl, rfl, ed18, small_line (by omega), ?_⟩
                  refine fin H18 q4 (gs ++ acc) _ _ g18 n18 e18 hg18 ?_
                  rw [List.length_map, hus]
                  omega
              · exact absurd ek z
            · have ek : ¬ k' = "put" := fun z => e (decide_eq_true (by rw [z]))
              rcases hcase with ⟨z, _⟩ | ⟨_, hus⟩
              · exact absurd z ek
              · refine ⟨.ref de, rfl, .inl ⟨rfl, _, .inl (.inl ed14)⟩, .ref a', rfl, de, dv, .ref a', rfl, rfl, ed14, small_line (by omega), ?_⟩
                refine fin H14 gl gs _ _ (Go.rfl' g14.1) ng eg14 ?_ ?_
                · rw [hus]
                  exact hgs14
                · rw [hus]
                  rfl
          · rintro σ H13 ⟨gl, gs, dv, deeds, many, y12, y13, rfl, g13, s13, en, el', ng, eg, hgs', ed, hdv, hdl, hmany, hml, hdf⟩
            refine ⟨.ref nm, rfl, .ref l, rfl, .ref de, rfl, sm3, fun v hv => ?_⟩
            have Cv : C v = false := held.no (freeD g13 tg s13 hv)
            have sv := (Sub.new (o := .tup [V.ref nm, .ref l, .ref de]) hv)
            refine q _ _ ⟨own, knows, deeds⟩ (g13.new hv) (s13.new hv) ?_ ?_
            · refine .tup (xs := [V.ref nm, .ref l, .ref de]) (.inl (.inl ((cut_at Cv).trans upd_same))) (.cons ?_ (.cons ?_ (.one ?_)))
              · exact Dp.sub sv.cuts _ _ (.tup (.inl (.inl ((cut_at Cnm).trans en))) (.cons (.str _) (.cons (.int _) .nil)))
              · exact Dp.sub sv.cuts _ _ (.lst (.inl (.inl ((cut_at Cl).trans el'))) (Dp.subs (toC g13) _ _ dks))
              · exact Dp.sub sv.cuts _ _ (.lst (.inl (.inl ((cut_at Cde).trans ed))) (Dp.subs (Sub.less (plus_le (C := C) (D := de))) _ _ hdv))
            · refine ⟨by rw [← hown]; exact hmem, by rw [← hown], asc, kn, kl, by show 1 ≤ deeds.length; omega, by show deeds.length ≤ 3; omega, hdf⟩
end
end K1
set_option Elab.async false
set_option linter.all false
set_option maxRecDepth 100000
set_option maxHeartbeats 4000000
/-! The law's defs: a drawn history. -/
namespace K1
open PySem PySem.Spec PyProof.Rows L2

/-- list + list, either of any standing -/
def rCatS (K : PySem.W.Frag) : R2 := fun x y H Q => ∃ l b xs zs, x = .ref l ∧ y = .ref b ∧ SqL K H l xs ∧ SqL K H b zs ∧ xs.length + zs.length ≤ sizeLine ∧ ∀ p, H p = none → Q (.ref p) (upd H p (.lst (xs ++ zs)))
theorem op_catS {X : Cx} : OpR X (binaryOp .Add) (rCatS X.K) := by
  intro pins s σ H x y v u Q I rx ry h
  obtain ⟨l, b, xs, zs, rfl, rfl, hH, hB, hz, q⟩ := h
  cases rx
  cases ry
  obtain ⟨its, r, ⟨⟨cls, dd, data, sl⟩, n, ho, hc, hdn, hdt⟩, hl⟩ := I.list hH
  obtain ⟨its2, r2, ⟨⟨cls2, dd2, data2, sl2⟩, n2, ho2, hc2, hdn2, hdt2⟩, hl2⟩ := I.list hB
  simp only at hc hdt hc2 hdt2
  subst hc hdt hc2 hdt2
  have l1 := r.length
  have l2 := r2.length
  refine concat_meets ⟨_, ho, rfl⟩ ⟨_, ho2, rfl⟩ noFill_list_add seq_list_add PySem.F.slot_list_add PySem.F.entry_list_add (PySem.F.args_list_add_2 _ _) (PyProof.Rows.list_addW l b its.toArray its2.toArray n n2 dd dd2 sl sl2 (by rw [List.size_toArray, List.size_toArray]; omega)) ⟨ho, ho2, ?_⟩
  have ea : its.toArray ++ its2.toArray = (its ++ its2).toArray := by simp
  rw [ea]
  exact ⟨.ref _, _, I.lnew (t' := s.toks) (r.append r2) (by rw [List.length_append]; omega), rfl, q _ I.fresh⟩

section
variable {P : Program} {w : World} {K : PySem.W.Frag} {mg : Str → Option Value} {base : Heap} {T : Tp}

def spHist (K : PySem.W.Frag) (T : Tp) : Sp := fun vs H Q _ => ∃ (a : Addr) (ns : List Int) (m : Nat), vs = [.ref a, .int (m : Nat)] ∧ SqL K H a (ns.map V.int) ∧ ns.length ≤ 63 ∧ m ≤ 64 ∧ TG T H ∧
  ∀ H' p xs hist, Go T D0 H H' → H p = none → H' p = some (.lst xs) → DpAll K (cut (plus C0 p) H') xs (hist.map eP) → HistFrom menuH hist → hist.length = min m (ns.length + 1) → Q (.ref p) H'
theorem ok_lhist {f : Addr} {fd : FuncData} {k : Nat} (F : Fun K "_law_history" "_law_history" sLHist f fd) (M : Mg K mg) (cDr : Cal P w K mg base k "_law_draw" ["_law_cell", "_law_k"] spDraw)
    (cP : Cal P w K mg base k "_law_patch" ["_law_history_here", "_law_state"] (spPatch K T)) : FnOk P w K mg base CX0 (k + 1) f fd ["_law_script", "_law_most"] (spHist K T) := by
  refine F.ok scLHist (fun vs H Q E h => ?_) (fun cdv A outer s H vs Q E hr h => ?_)
  · obtain ⟨a, ns, m, rfl, _⟩ := h
    rfl
  · obtain ⟨a, ns, m, rfl, hS, nl, ml, tg, q⟩ := h
    refine ⟨_, (pss_cons (ps_set (i := 2) scLHist.nd rfl (.inl rfl) (pe_lst pa_nil))
      (pss_cons (ps_for PassesOwn.never rfl (pi_enum (by rfl) M.enum_ (pa_cons (pe_slice sl_list (pe_op op_catS (pv 0) (pe_lst (pa_cons (pe_callB (cr_sum rfl) (by rfl) M.sum_ (by decide +kernel) (pa_cons (pv 0) pa_nil)) pa_nil))) po_none (po_some (pv 1))) pa_nil)) (pg_tup rfl (pgs_cons (pg_name (i := 3) scLHist.nd rfl (.inl rfl)) (pgs_cons (pg_name (i := 4) scLHist.nd rfl (.inl rfl)) pgs_nil)))
      (pss_one (ps_expr (pe_bm PySem.F.plainAttrs_list PySem.F.slot_list_append PySem.F.type_list_append mt_append (pv 2) (pa_cons (pe_cal cP hr (by rfl) (pa_cons (pv 2) (pa_cons (pe_cal cDr hr (by rfl) (pa_cons (pv 4) (pa_cons (pe_op op_add pe_int (pv 3)) pa_nil))) pa_nil))) pa_nil)))))
      (pss_one (ps_ret (pv 2))))), ?_⟩
    refine ⟨Nat.zero_le _, fun p hp => ?_⟩
    have g1 : Go T D0 H (upd H p (.lst [])) := (Go.rfl' tg).new hp
    have e1 : (upd H p (.lst [])) p = some (.lst []) := upd_same
    generalize upd H p (.lst []) = H1 at g1 e1 ⊢
    have S1 := g1.seqL tg (fun _ _ z => z) hS
    refine ⟨.ref a, rfl, .ref a, rfl, a, ns, rfl, S1, small_le (by show 1 ≤ 10000; decide), fun b hb => ?_⟩
    have g2 := g1.new (o := .lst [V.int ns.sum]) hb
    have e2 := (upd_ne (o := .lst [V.int ns.sum]) (ne_of_none e1 hb)).trans e1
    have eb : (upd H1 b (.lst [V.int ns.sum])) b = some (.lst [V.int ns.sum]) := upd_same
    generalize upd H1 b (.lst [V.int ns.sum]) = H2 at g2 e2 eb ⊢
    refine ⟨a, b, _, _, rfl, rfl, g2.seqL tg (fun _ _ z => z) hS, .inl (.inl eb), small_le (by rw [List.length_map]; show ns.length + 1 ≤ 10000; omega), fun z hz => ?_⟩
    have g3 := g2.new (o := .lst (ns.map V.int ++ [V.int ns.sum])) hz
    have e3 := (upd_ne (o := .lst (ns.map V.int ++ [V.int ns.sum])) (ne_of_none e2 hz)).trans e2
    have ez : (upd H2 z (.lst (ns.map V.int ++ [V.int ns.sum]))) z = some (.lst ((ns ++ [ns.sum]).map V.int)) := by rw [upd_same, List.map_append]; rfl
    generalize upd H2 z (.lst (ns.map V.int ++ [V.int ns.sum])) = H3 at g3 e3 ez ⊢
    refine ⟨.int (m : Nat), rfl, (m : Nat), rfl, z, _, rfl, .inl (.inl ez), fun z2 hz2 => ?_⟩
    have ct : cutV ((ns ++ [ns.sum]).map V.int) none (some ((m : Nat) : Int)) = ((ns ++ [ns.sum]).take m).map V.int := by
      unfold cutV
      rw [HT.sIx_none, HT.sIx_nat, List.drop_zero, Nat.sub_zero, List.map_take]
      by_cases h : m ≤ ((ns ++ [ns.sum]).map V.int).length
      · rw [Nat.min_eq_left h]
      · rw [Nat.min_eq_right (by omega), List.take_of_length_le (Nat.le_refl _), List.take_of_length_le (by omega)]
    rw [ct]
    generalize hzs : (ns ++ [ns.sum]).take m = zs
    have zlen : zs.length = min m (ns.length + 1) := by rw [← hzs, List.length_take, List.length_append]; rfl
    have g4 := g3.new (o := .lst (zs.map V.int)) hz2
    have e4 := (upd_ne (o := .lst (zs.map V.int)) (ne_of_none e3 hz2)).trans e3
    have ez2 : (upd H3 z2 (.lst (zs.map V.int))) z2 = some (.lst (zs.map V.int)) := upd_same
    have nzp : z2 ≠ p := fun q => ne_of_none e3 hz2 q.symm
    generalize upd H3 z2 (.lst (zs.map V.int)) = H4 at g4 e4 ez2 ⊢
    refine ⟨z2, _, rfl, .inl (.inl ez2), ?_⟩
    refine for_it (walk_enum (K := K) (a := z2) (xs := zs.map V.int)) (fun i σ H5 => ∃ (xs : List V) (hist : List Pat) (y3 y4 : Option V), σ = [some (.ref a), some (.int (m : Nat)), some (.ref p), y3, y4] ∧ Go T D0 H H5 ∧ H5 z2 = some (.lst (zs.map V.int)) ∧ H5 p = some (.lst xs) ∧
      DpAll K (cut (plus C0 p) H5) xs (hist.map eP) ∧ HistFrom menuH hist ∧ hist.length = i) ?_ ?_ ?_ ?_
    · exact ⟨[], [], _, _, rfl, g4, ez2, e4, .nil, (fun i p h => by cases h), rfl⟩
    · rintro i σ H5 hi ⟨xs, hist, y3, y4, rfl, g5, ez5, _⟩
      exact .inl (.inl ez5)
    · rintro i v σ H5 H5' hi ⟨xs, hist, y3, y4, rfl, g5, ez5, ep5, hd5, hf, hl⟩ ⟨T', x', y', rfl, hT, rfl, hx', hy'⟩
      cases hx'
      have hy' : (zs.map V.int)[i]? = some y' := hy'
      have hi' : i < zs.length := by rw [List.length_map] at hi; exact hi
      rw [List.getElem?_map, List.getElem?_eq_getElem hi'] at hy'
      cases hy'
      have i64 : i ≤ 64 := by omega
      have g6 := g5.new (o := .tup [V.int (i : Nat), .int zs[i]]) hT
      have ez6 := (upd_ne (o := .tup [V.int (i : Nat), .int zs[i]]) (ne_of_none ez5 hT)).trans ez5
      have ep6 := (upd_ne (o := .tup [V.int (i : Nat), .int zs[i]]) (ne_of_none ep5 hT)).trans ep5
      have hd6 := Dp.subs (Sub.new (o := .tup [V.int (i : Nat), .int zs[i]]) hT).cuts _ _ hd5
      refine ⟨T', _, rfl, .inl (.inl upd_same), rfl, _, _, rfl, _, _, rfl, rfl, ?_⟩
      generalize upd H5 T' (.tup [V.int (i : Nat), .int zs[i]]) = H6 at g6 ez6 ep6 hd6 ⊢
      refine ⟨.ref p, rfl, .inl ⟨rfl, _, .inl (.inl ep6)⟩, .ref p, rfl, .int zs[i], rfl, .int (i : Nat), rfl, 10, (i : Nat), rfl, rfl, zs[i], 10 + ((i : Nat) : Int), rfl, by omega, by omega, fun dd ra rb ha hb hdd => ?_⟩
      have g7 : Go T (· = dd) H (upd H6 dd (.dK (stD ra rb))) := (g6.new hdd).up
      have ez7 := (upd_ne (o := .dK (stD ra rb)) (ne_of_none ez6 hdd)).trans ez6
      have ep7 := (upd_ne (o := .dK (stD ra rb)) (ne_of_none ep6 hdd)).trans ep6
      have hd7 := Dp.subs (Sub.new (o := .dK (stD ra rb)) hdd).cuts _ _ hd6
      have s7 : St (upd H6 dd (.dK (stD ra rb))) dd := ⟨ra, rb, ha, hb, upd_same⟩
      have fd : H dd = none := g6.free tg (fun z => z) hdd
      generalize upd H6 dd (.dK (stD ra rb)) = H7 at g7 ez7 ep7 hd7 s7 ⊢
      have held7 : Held (plus C0 p) H7 := Held.plus (fun a ha => by cases ha) ep7
      refine ⟨.ref p, dd, hist, plus C0 p, rfl, s7, ⟨p, xs, rfl, .inl (.inl ep7), hd7⟩, hf, by omega, held7, g7.1, fun H8 v pat g8 s8 dp hpat => ?_⟩
      have ez8 := g8.at g7.1 (s7.ne ez7) ez7
      have ep8 := g8.at g7.1 (s7.ne ep7) ep7
      have hd8 := Dp.subs (s7.sub g8 g7.1).cuts _ _ hd7
      have xl : xs.length = hist.length := by rw [DpAll.len hd8, List.length_map]
      have g08 : Go T D0 H H8 := (g7.trans g8).drop fd
      refine ⟨p, xs, v, rfl, rfl, ep8, small_line (by omega), xs ++ [v], hist ++ [pat], _, _, rfl, g08.put hp ep8, (upd_ne nzp).trans ez8, upd_same, ?_, hf.snoc hpat, by rw [List.length_append, hl]; rfl⟩
      rw [cut_out plus_D, List.map_append]
      exact hd8.app (.one dp)
    · rintro σ H5 ⟨xs, hist, y3, y4, rfl, g5, ez5, ep5, hd5, hf, hl⟩
      rw [List.length_map] at hl
      exact ⟨.ref p, rfl, q H5 p xs hist g5 hp ep5 hd5 hf (hl.trans zlen)⟩
end
end K1
set_option Elab.async false
set_option linter.all false
set_option maxRecDepth 100000
set_option maxHeartbeats 4000000
/-! The law's defs: rows of patches. -/
namespace K1
open PySem PySem.Spec PyProof.Rows L2

abbrev num (i : Int) : Str := Str.ofString (toString i)
def nmTxt (n : Nm) : Str := n.1 ++ "." ++ num n.2
def lnTxt (l : Ln) : Str := if l = headL then "head" else if l = footL then "foot" else l.1 ++ "." ++ num l.2.1 ++ "." ++ num l.2.2
def Deed.kind : Deed → Str
  | .put _ _ _ => "put"
  | .order _ _ => "order"
  | .one k _ => kindS k
def Deed.lines : Deed → List Ln
  | .put a b _ => [a, b]
  | .order a b => [a, b]
  | .one _ a => [a]
def deedRows (d : Deed) : List Str := Txt.join " " (d.kind :: d.lines.map lnTxt) :: d.texts.map fun t => "+" ++ t
def knownWords (ns : List Nm) : List Str := if ns = [] then ["none"] else ns.map nmTxt
def rowsOf (p : Pat) : List Str := ("patch " ++ p.name.1 ++ " " ++ num p.name.2) :: Txt.join " " ("knows" :: knownWords p.knows) :: p.deeds.flatMap deedRows
theorem twice2 {A G : Addr → Hp → Prop} {P : Prop} (h : ∀ z H2, A z H2 → G z H2) (use : (∀ z H2, A z H2 → G z H2) → P) : P := use h
theorem len_app (a b : Str) : (a ++ b).length = a.length + b.length := by rw [TL.len_tl, TL.tl_append, List.length_append, ← TL.len_tl, ← TL.len_tl]
theorem asc_num {i : Int} (h0 : 0 ≤ i) : Asc (Str.ofString (toString i)) := by
  obtain ⟨n, rfl⟩ := Int.eq_ofNat_of_zero_le h0
  intro c hc
  rw [TL.tl_num] at hc
  have := TL.numL_digits n c hc
  omega
theorem asc_app {a b : Str} (h : Asc a) (h' : Asc b) : Asc (a ++ b) := by
  intro c hc
  rw [TL.tl_append] at hc
  rcases List.mem_append.mp hc with h1 | h1
  · exact h c h1
  · exact h' c h1
theorem asc_dot : Asc "." := by
  have e : (TL.tl ("." : Str)).all (fun c => decide (c < 128)) = true := by decide +kernel
  exact fun c hc => of_decide_eq_true (List.all_eq_true.mp e c hc)
theorem hand_asc {x : Str} (h : handV (.str x) = true) : Asc x := by
  have w : wordOk x = true := (Bool.and_eq_true_iff.mp h).1
  have w1 := Bool.and_eq_true_iff.mp w
  intro c hc
  have := of_decide_eq_true (List.all_eq_true.mp w1.2 c hc)
  have e : ltrs.cps.toList.all (fun c => decide (c < 128)) = true := by decide +kernel
  exact of_decide_eq_true (List.all_eq_true.mp e c this)
theorem nmTxt_ok {n : Nm} (h : NmOk n) : PyData.strOk (nmTxt n) = true :=
  Asc.ok (asc_app (asc_app (hand_asc h.1) asc_dot) (asc_num (Int.le_trans (by decide) h.2.1)))
theorem sum_le {c : Nat} : ∀ {l : List Str}, (∀ x ∈ l, x.length ≤ c) → (l.map (·.length)).sum ≤ c * l.length
  | [], _ => Nat.zero_le _
  | x :: r, h => by
    have h1 := h x (List.mem_cons_self ..)
    have h2 := sum_le (l := r) fun y m => h y (List.mem_cons_of_mem _ m)
    rw [List.map_cons, List.sum_cons, List.length_cons, Nat.mul_add, Nat.mul_one]
    omega
theorem lnTxt_len {l : Ln} (h : EdOk l) (s : l.2.2 < 1000000) : (lnTxt l).length ≤ 30 := by
  have dot : ("." : Str).length = 1 := by decide +kernel
  rcases h with h | rfl | rfl
  · unfold lnTxt
    have h8 : l.1.length ≤ 8 := (handOk h.1.1).2
    have n1 := len_num (i := l.2.1) (by have := h.1.2.1; exact Int.le_trans (by decide) this) (by have := h.1.2.2; exact Int.lt_of_le_of_lt this (by decide))
    have n2 := len_num (i := l.2.2) (by have := h.2; omega) s
    split
    · decide +kernel
    · split
      · decide +kernel
      · show (l.1 ++ "." ++ Str.ofString (toString l.2.1) ++ "." ++ Str.ofString (toString l.2.2) : Str).length ≤ 30
        simp only [len_app, dot]
        omega
  · decide +kernel
  · decide +kernel
theorem kind_len (d : Deed) : d.kind.length ≤ 5 := by
  cases d with
  | put => show ("put" : Str).length ≤ 5; decide +kernel
  | order => show ("order" : Str).length ≤ 5; decide +kernel
  | one k => show (kindS k).length ≤ 5; cases k <;> decide +kernel
theorem lines_len : ∀ d : Deed, d.lines.length ≤ 2
  | .put _ _ _ => Nat.le_refl 2
  | .order _ _ => Nat.le_refl 2
  | .one _ _ => Nat.le_succ 1
theorem kindS_put (k : Bool) : kindS k ≠ "put" := by cases k <;> decide +kernel
theorem kindS_order (k : Bool) : kindS k ≠ "order" := by cases k <;> decide +kernel
theorem deed_ed {d : Deed} (h : d.ok) : ∀ l ∈ d.lines, EdOk l := by
  cases d with
  | put a b ts =>
    intro l hl
    simp only [Deed.lines, List.mem_cons, List.not_mem_nil, or_false] at hl
    rcases hl with rfl | rfl
    · exact h.1
    · exact h.2.1
  | order a b =>
    intro l hl
    simp only [Deed.lines, List.mem_cons, List.not_mem_nil, or_false] at hl
    rcases hl with rfl | rfl
    · exact .inl h.1
    · exact .inl h.2
  | one k a =>
    intro l hl
    simp only [Deed.lines, List.mem_cons, List.not_mem_nil, or_false] at hl
    rw [hl]
    exact .inl h
theorem deed_tx {d : Deed} (h : d.ok) : ∀ t ∈ d.texts, TxOk t := by
  cases d with
  | put a b ts => exact h.2.2
  | order a b => intro t ht; cases ht
  | one k a => intro t ht; cases ht
theorem deed_parts {K : PySem.W.Frag} {H : Hp} {v : V} : ∀ {d : Deed}, Dp K H v (eD d) → ∃ a lvs tl, v = .ref a ∧ SqT K H a (.str d.kind :: (lvs ++ tl)) ∧ DpAll K H lvs (d.lines.map eL) ∧
    ((d.kind = "put" ∧ lvs.length = 2 ∧ ∃ t, tl = [.ref t] ∧ SqT K H t (d.texts.map V.str)) ∨ (d.kind = "order" ∧ lvs.length = 2 ∧ tl = [] ∧ d.texts = []) ∨ (d.kind ≠ "put" ∧ d.kind ≠ "order" ∧ lvs.length = 1 ∧ tl = [] ∧ d.texts = []))
  | .put a b ts, h => by
    obtain ⟨p, xs, rfl, s, q⟩ := Dp.tupI h
    obtain ⟨x, y, z, u, rfl, q1, q2, q3, q4⟩ := DpAll.i4 q
    cases Dp.strI q1
    obtain ⟨t, us, rfl, s2, q5⟩ := Dp.tupI q4
    rw [strs_of q5] at s2
    exact ⟨p, [y, z], [.ref t], rfl, s, .cons q2 (.one q3), .inl ⟨rfl, rfl, t, rfl, s2⟩⟩
  | .order a b, h => by
    obtain ⟨p, xs, rfl, s, q⟩ := Dp.tupI h
    obtain ⟨x, y, z, rfl, q1, q2, q3⟩ := DpAll.i3 q
    cases Dp.strI q1
    exact ⟨p, [y, z], [], rfl, s, .cons q2 (.one q3), .inr (.inl ⟨rfl, rfl, rfl, rfl⟩)⟩
  | .one k a, h => by
    obtain ⟨p, xs, rfl, s, q⟩ := Dp.tupI h
    obtain ⟨x, y, rfl, q1, q2⟩ := DpAll.i2 q
    cases Dp.strI q1
    exact ⟨p, [y], [], rfl, s, .one q2, .inr (.inr ⟨kindS_put k, kindS_order k, rfl, rfl, rfl⟩)⟩
theorem deedRows_len (d : Deed) : (deedRows d).length = 1 + d.texts.length := by
  unfold deedRows
  rw [List.length_cons, List.length_map]
  omega
theorem rows_len (ds : List Deed) : (ds.flatMap deedRows).length = ds.length + (ds.flatMap Deed.texts).length := by
  induction ds with
  | nil => rfl
  | cons d r ih =>
    rw [List.flatMap_cons, List.flatMap_cons, List.length_append, List.length_append, ih, deedRows_len, List.length_cons]
    omega
/-- a line whose place is small -/
def EdS (l : Ln) : Prop := EdOk l ∧ l.2.2 < 1000000

section
variable {P : Program} {w : World} {K : PySem.W.Frag} {mg : Str → Option Value} {base : Heap} {T : Tp}

def spLineW (K : PySem.W.Frag) (T : Tp) : Sp := fun vs H Q _ => ∃ v l, vs = [v] ∧ Dp K H v (eL l) ∧ EdS l ∧ TG T H ∧ ∀ H', Go T D0 H H' → Q (.str (lnTxt l)) H'
def spRows (K : PySem.W.Frag) (T : Tp) : Sp := fun vs H Q _ => ∃ (n kv dv : V) (p : Pat), vs = [n, kv, dv] ∧ Dp K H n (eN p.name) ∧ Dp K H kv (.list (p.knows.map eN)) ∧ Dp K H dv (.list (p.deeds.map eD)) ∧ p.ok ∧ (∀ d ∈ p.deeds, ∀ l ∈ d.lines, l.2.2 < 1000000) ∧ p.knows.length ≤ 1000 ∧ (textsOf p).length ≤ 1000 ∧ p.deeds.length ≤ 1000 ∧ TG T H ∧
  ∀ H' l, Go T D0 H H' → H l = none → H' l = some (.lst ((rowsOf p).map V.str)) → Q (.ref l) H'
end
end K1
set_option Elab.async false
set_option linter.all false
set_option maxRecDepth 100000
set_option maxHeartbeats 4000000
/-! The law's defs: a text of all signs. -/
namespace K1
open PySem PySem.Spec PyProof.Rows L2

def allSigns : Str := " !\"#$&'()*+,-./0123456789:;<=>?@ABCXYZ[\\]^_`abcxyz{|}~"
theorem allSigns_len : 0 < allSigns.length ∧ allSigns.length ≤ 1000 := by decide +kernel
theorem allSigns_ok : ∀ c ∈ TL.tl allSigns, c < 128 ∧ c ≠ 10 := by
  have e : (TL.tl allSigns).all (fun c => decide (c < 128) && decide (c ≠ 10)) = true := by decide +kernel
  intro c hc
  have := Bool.and_eq_true_iff.mp (List.all_eq_true.mp e c hc)
  exact ⟨of_decide_eq_true this.1, of_decide_eq_true this.2⟩
theorem signs_ok {y : Str} (hl : y.length ≤ 40) (h : ∀ c ∈ TL.tl y, c ∈ TL.tl allSigns) : TxOk y :=
  ⟨Asc.ok fun c hc => (allSigns_ok c (h c hc)).1, hl, fun hc => (allSigns_ok 10 (h 10 hc)).2 rfl⟩
namespace K1
open PySem PySem.Spec PyProof.Rows L2

/-! ### one-sign texts -/
def one (c : Nat) : Str := ⟨#[c]⟩
theorem tl_one (c : Nat) : TL.tl (one c) = [c] := rfl
theorem join_ones : ∀ cs : List Nat, TL.joinL [] (cs.map fun c => [c]) = cs
  | [] => rfl
  | [c] => rfl
  | c :: d :: r => by
    show [c] ++ ([] ++ TL.joinL [] ((d :: r).map fun c => [c])) = _
    rw [join_ones (d :: r)] <;> rfl
theorem tl_joined (cs : List Nat) : TL.tl (Txt.join "" (cs.map one)) = cs := by
  have e0 : TL.tl ("" : Str) = [] := by decide +kernel
  rw [TL.join_eq, TL.tl_join, e0, List.map_map]
  exact join_ones cs
theorem ones_sum (cs : List Nat) : ((cs.map one).map (·.length)).sum = cs.length := by
  induction cs with
  | nil => rfl
  | cons c r ih =>
    rw [List.map_cons, List.map_cons, List.sum_cons, ih]
    show 1 + r.length = r.length + 1
    omega

section
variable {P : Program} {w : World} {K : PySem.W.Frag} {mg : Str → Option Value} {base : Heap} {T : Tp}
def spSigns (T : Tp) : Sp := fun vs H Q _ => ∃ d, vs = [.ref d] ∧ St H d ∧ TG T H ∧ ∀ H' y, Go T (· = d) H H' → St H' d → TxOk y → Q (.str y) H'
end
end K1
end K1
set_option Elab.async false
set_option linter.all false
set_option maxRecDepth 100000
set_option maxHeartbeats 4000000
/-! The program's def patch_rows. -/
namespace K1
open PySem PySem.Spec PyProof.Rows L2

/-- the class of patches -/
structure PCls (K : PySem.W.Frag) (C : Addr) : Prop where
  cls : Cls K C
  name : NoAttr K C "name"
  knows : NoAttr K C "knows"
  deeds : NoAttr K C "deeds"
  many : NoAttr K C "many"
  place : NoAttr K C "place"
  known : NoAttr K C "known"
  work : NoAttr K C "work"
/-- a patch made -/
def PatAt (K : PySem.W.Frag) (C : Addr) (H : Hp) (v : V) (p : Pat) : Prop := ∃ a dx fs nv kv dv, v = .ref a ∧ H a = some (.ins C dx fs) ∧ fs.lookup ("name" : Str) = some nv ∧ fs.lookup ("knows" : Str) = some kv ∧ fs.lookup ("deeds" : Str) = some dv ∧
  Dp K H nv (eN p.name) ∧ Dp K H kv (.tuple (p.knows.map eN)) ∧ Dp K H dv (.tuple (p.deeds.map eD))
/-- what the rows of a patch ask of its sizes -/
structure Pat.sized (p : Pat) : Prop where
  ok : p.ok
  lines : ∀ d ∈ p.deeds, ∀ l ∈ d.lines, l.2.2 < 1000000
  knows : p.knows.length ≤ 1000
  texts : (textsOf p).length ≤ 1000
  deeds : p.deeds.length ≤ 1000
theorem lineTxt_ln (l : Ln) : lineTxt [.str l.1, .int l.2.1, .int l.2.2] = some (lnTxt l) := by
  obtain ⟨a, i, j⟩ := l
  unfold lineTxt lnTxt headL footL
  by_cases h1 : (a, i, j) = (("", 0, 0) : Ln)
  · cases h1
    rfl
  · have n1 : ¬ [V.str a, .int i, .int j] = [.str "", .int 0, .int 0] := fun z => h1 (by injection z with a1 a2; injection a2 with a2 a3; injection a3 with a3 _; cases a1; cases a2; cases a3; rfl)
    by_cases h2 : (a, i, j) = (("", 0, 1) : Ln)
    · cases h2
      rfl
    · have n2 : ¬ [V.str a, .int i, .int j] = [.str "", .int 0, .int 1] := fun z => h2 (by injection z with a1 a2; injection a2 with a2 a3; injection a3 with a3 _; cases a1; cases a2; cases a3; rfl)
      simp only [if_neg n1, if_neg n2, if_neg h1, if_neg h2]
theorem ed_nums {l : Ln} (h : EdOk l) (s : l.2.2 < 1000000) : l.1.length ≤ 8 ∧ 0 ≤ l.2.1 ∧ l.2.1 < 1000000 ∧ 0 ≤ l.2.2 := by
  rcases h with h | rfl | rfl
  · exact ⟨(handOk h.1.1).2, Int.le_trans (by decide) h.1.2.1, Int.lt_of_le_of_lt h.1.2.2 (by decide), Int.le_trans (by decide) h.2⟩
  · exact ⟨by decide +kernel, by decide, by decide, by decide⟩
  · exact ⟨by decide +kernel, by decide, by decide, by decide⟩
section
variable {P : Program} {w : World} {K : PySem.W.Frag} {mg : Str → Option Value} {base : Heap} {T : Tp}
def spPRows (K : PySem.W.Frag) (C : Addr) (T : Tp) : Sp := fun vs H Q _ => ∃ (v : V) (p : Pat), vs = [v] ∧ PatAt K C H v p ∧ p.sized ∧ TG T H ∧ ∀ H' l, Go T D0 H H' → H l = none → H' l = some (.lst ((rowsOf p).map V.str)) → Q (.ref l) H'
end
end K1
set_option Elab.async false
set_option linter.all false
set_option maxRecDepth 100000
set_option maxHeartbeats 4000000
/-! The program's def patches_text. -/
namespace K1
open PySem PySem.Spec PyProof.Rows L2

theorem join_le (s : Str) (ts : List Str) : (Txt.join s ts).length ≤ (ts.map (·.length)).sum + ts.length * s.length := by
  rw [TL.join_eq]
  exact PySem.StrLaws.join_length_le s ts
theorem deedRows_sum {d : Deed} (h : d.ok) (s : ∀ l ∈ d.lines, l.2.2 < 1000000) : ((deedRows d).map (·.length)).sum ≤ 100 + 41 * d.texts.length := by
  have bl : (" " : Str).length = 1 := by decide +kernel
  have pl : ("+" : Str).length = 1 := by decide +kernel
  unfold deedRows
  rw [List.map_cons, List.sum_cons]
  have h1 := join_le " " (d.kind :: d.lines.map lnTxt)
  have k30 : ∀ x ∈ (d.kind :: d.lines.map lnTxt), x.length ≤ 30 := by
    intro x hx
    rcases List.mem_cons.mp hx with rfl | hx
    · have := kind_len d
      omega
    · obtain ⟨l, hl, rfl⟩ := List.mem_map.mp hx
      exact lnTxt_len (deed_ed h l hl) (s l hl)
  have h2 := sum_le k30
  have l2 := lines_len d
  have kc : (d.kind :: d.lines.map lnTxt).length ≤ 3 := by rw [List.length_cons, List.length_map]; omega
  have h3 : ((d.texts.map fun t => ("+" ++ t : Str)).map (·.length)).sum ≤ 41 * (d.texts.map fun t => ("+" ++ t : Str)).length := by
    refine sum_le fun x hx => ?_
    obtain ⟨t, ht, rfl⟩ := List.mem_map.mp hx
    have := (deed_tx h t ht).2.1
    rw [len_app, pl]
    omega
  rw [List.length_map] at h3
  rw [bl] at h1
  omega
theorem rowsSum {ds : List Deed} (h : ∀ d ∈ ds, d.ok) (s : ∀ d ∈ ds, ∀ l ∈ d.lines, l.2.2 < 1000000) : ((ds.flatMap deedRows).map (·.length)).sum ≤ 100 * ds.length + 41 * (ds.flatMap Deed.texts).length := by
  induction ds with
  | nil => exact Nat.zero_le _
  | cons d r ih =>
    rw [List.flatMap_cons, List.flatMap_cons, List.map_append, List.sum_append, List.length_append, List.length_cons]
    have h1 := deedRows_sum (h d (List.mem_cons_self ..)) (s d (List.mem_cons_self ..))
    have h2 := ih (fun x m => h x (List.mem_cons_of_mem _ m)) (fun x m => s x (List.mem_cons_of_mem _ m))
    omega
/-- what stands in the text of patches -/
structure Pats.sized (ps : List Pat) : Prop where
  each : ∀ p ∈ ps, p.sized ∧ p.knows.length ≤ 100 ∧ (textsOf p).length ≤ 100 ∧ p.deeds.length ≤ 100
  len : ps.length ≤ 100
theorem knownSum {ns : List Nm} (h : ∀ n ∈ ns, NmOk n) : ((("knows" :: knownWords ns : List Str)).map (·.length)).sum ≤ 19 * (ns.length + 2) ∧ (("knows" :: knownWords ns : List Str)).length ≤ ns.length + 2 := by
  have dot : ("." : Str).length = 1 := by decide +kernel
  have k19 : ∀ x ∈ ("knows" :: knownWords ns : List Str), x.length ≤ 19 := by
    intro x hx
    rcases List.mem_cons.mp hx with rfl | hx
    · decide +kernel
    · unfold knownWords at hx
      split at hx
      · rw [List.mem_singleton.mp hx]
        decide +kernel
      · obtain ⟨n, hn, rfl⟩ := List.mem_map.mp hx
        have nok := h n hn
        have h2 := len_num (Int.le_trans (by decide) nok.2.1) (Int.lt_of_le_of_lt nok.2.2 (by decide))
        have h3 := (handOk nok.1).2
        show (n.1 ++ "." ++ Str.ofString (toString n.2) : Str).length ≤ 19
        simp only [len_app, dot]
        omega
  have kc : ("knows" :: knownWords ns : List Str).length ≤ ns.length + 2 := by
    unfold knownWords
    split
    · show 2 ≤ _
      omega
    · rw [List.length_cons, List.length_map]
      omega
  have := sum_le k19
  exact ⟨by omega, kc⟩
theorem patSum {p : Pat} (h : p.sized) : ((rowsOf p).map (·.length)).sum ≤ 100 + 20 * p.knows.length + 100 * p.deeds.length + 41 * (textsOf p).length ∧ (rowsOf p).length = 2 + p.deeds.length + (textsOf p).length := by
  have pl : ("patch " : Str).length = 6 := by decide +kernel
  have bl : (" " : Str).length = 1 := by decide +kernel
  have h1 := join_le " " ("knows" :: knownWords p.knows)
  have h2 := knownSum h.ok.knows
  have h3 := rowsSum h.ok.deeds h.lines
  have h4 := (handOk h.ok.name.1).2
  have h5 := len_num (Int.le_trans (by decide) h.ok.name.2.1) (Int.lt_of_le_of_lt h.ok.name.2.2 (by decide))
  have h6 := rows_len p.deeds
  rw [bl] at h1
  unfold rowsOf
  rw [List.map_cons, List.sum_cons, List.map_cons, List.sum_cons, List.length_cons, List.length_cons]
  have h7 : ("patch " ++ p.name.1 ++ " " ++ num p.name.2 : Str).length ≤ 25 := by
    show ("patch " ++ p.name.1 ++ " " ++ Str.ofString (toString p.name.2) : Str).length ≤ 25
    simp only [len_app, pl, bl]
    omega
  unfold textsOf
  constructor <;> omega
theorem patsSum : ∀ {ps : List Pat}, (∀ p ∈ ps, p.sized ∧ p.knows.length ≤ 100 ∧ (textsOf p).length ≤ 100 ∧ p.deeds.length ≤ 100) → ((ps.flatMap rowsOf).map (·.length)).sum ≤ 20000 * ps.length ∧ (ps.flatMap rowsOf).length ≤ 202 * ps.length
  | [], _ => ⟨Nat.zero_le _, Nat.zero_le _⟩
  | p :: r, h => by
    have h1 := patSum (h p (List.mem_cons_self ..)).1
    have h2 := (h p (List.mem_cons_self ..)).2
    have h3 := patsSum (ps := r) fun x m => h x (List.mem_cons_of_mem _ m)
    rw [List.flatMap_cons, List.map_append, List.sum_append, List.length_append, List.length_cons]
    omega
section
variable {P : Program} {w : World} {K : PySem.W.Frag} {mg : Str → Option Value} {base : Heap} {T : Tp}
def PatsAt (K : PySem.W.Frag) (C : Addr) (H : Hp) (vs : List V) (ps : List Pat) : Prop := vs.length = ps.length ∧ ∀ (i : Nat) (v : V) (p : Pat), vs[i]? = some v → ps[i]? = some p → PatAt K C H v p
def textOf (ps : List Pat) : Str := Txt.join "\n" (ps.flatMap rowsOf)
def spPText (K : PySem.W.Frag) (C : Addr) (T : Tp) : Sp := fun vs H Q _ => ∃ (a : Addr) (xs : List V) (ps : List Pat), vs = [.ref a] ∧ SqL K H a xs ∧ PatsAt K C H xs ps ∧ Pats.sized ps ∧ TG T H ∧ ∀ H', Go T D0 H H' → Q (.str (textOf ps)) H'
theorem PatAt.go {C : Addr} {H H' : Hp} {v : V} {p : Pat} (h : PatAt K C H v p) (g : Go T D0 H H') (t : TG T H) : PatAt K C H' v p := by
  obtain ⟨a, dx, fs, nv, kv, dv, e, ep, l1, l2, l3, d1, d2, d3⟩ := h
  have s := sub_go g t
  exact ⟨a, dx, fs, nv, kv, dv, e, g.at t (fun z => z) ep, l1, l2, l3, Dp.sub s _ _ d1, Dp.sub s _ _ d2, Dp.sub s _ _ d3⟩
end
end K1
set_option Elab.async false
set_option linter.all false
set_option maxRecDepth 100000
set_option maxHeartbeats 4000000
/-! The program's method told, and _is_text. -/
namespace K1
open PySem PySem.Spec PyProof.Rows L2
section
variable {P : Program} {w : World} {K : PySem.W.Frag} {mg : Str → Option Value} {base : Heap} {T : Tp}
/-- what told tells: new lists of the very items -/
def spTold (K : PySem.W.Frag) (C : Addr) (T : Tp) : Sp := fun vs H Q _ => ∃ (v : V) (p : Pat), vs = [v] ∧ PatAt K C H v p ∧ TG T H ∧
  ∀ H' t nv kl dl kvs dvs, Go T D0 H H' → H t = none → H kl = none → H dl = none → kl ≠ dl → H' t = some (.tup [nv, .ref kl, .ref dl]) → H' kl = some (.lst kvs) → H' dl = some (.lst dvs) → Dp K H nv (eN p.name) → DpAll K H kvs (p.knows.map eN) → DpAll K H dvs (p.deeds.map eD) → Q (.ref t) H'
theorem ok_told {f C : Addr} {fd : FuncData} {k : Nat} (F : Fun K "told" "Patch.told" sPatch_told f fd) (M : Mg K mg) (PC : PCls K C) : FnOk P w K mg base CX0 (k + 1) f fd ["self"] (spTold K C T) := by
  refine F.ok scPatch_told (fun vs H Q E h => ?_) (fun cdv A outer s H vs Q E hr h => ?_)
  · obtain ⟨v, p, rfl, _⟩ := h
    rfl
  · obtain ⟨v, p, rfl, pat, tg, q⟩ := h
    refine ⟨_, pss_one (ps_ret (pe_tup (pa_cons (pe_fld (pv 0) (by rfl)) (pa_cons (pe_callTy call_list_of (by rfl) M.list_ (by decide +kernel) (pa_cons (pe_fld (pv 0) (by rfl)) pa_nil)) (pa_cons (pe_callTy call_list_of (by rfl) M.list_ (by decide +kernel) (pa_cons (pe_fld (pv 0) (by rfl)) pa_nil)) pa_nil))))), ?_⟩
    obtain ⟨a, dx, fs, nv, kv, dv, rfl, ep, ln_, lk_, ld_, dn, dk, dd⟩ := pat
    obtain ⟨ak, kvs, rfl, Sk, dks⟩ := Dp.tupI dk
    obtain ⟨ad, dvs, rfl, Sd, dds⟩ := Dp.tupI dd
    refine ⟨.ref a, rfl, a, C, dx, fs, nv, rfl, ep, PC.cls, PC.name, ln_, .ref a, rfl, a, C, dx, fs, .ref ak, rfl, ep, PC.cls, PC.knows, lk_, ak, _, rfl, .inr Sk, fun kl hkl => ?_⟩
    have g1 : Go T D0 H (upd H kl (.lst kvs)) := (Go.rfl' tg).new hkl
    have ep1 := g1.at tg (fun z => z) ep
    refine ⟨.ref a, rfl, a, C, dx, fs, .ref ad, rfl, ep1, PC.cls, PC.deeds, ld_, ad, _, rfl, .inr ((sub_go g1 tg).seqT Sd), fun dl hdl => ?_⟩
    have g2 := g1.new (o := .lst dvs) hdl
    have n1 : kl ≠ dl := ne_of_none upd_same hdl
    refine ⟨small_le (by show 3 ≤ 10000; decide), fun t ht => ?_⟩
    have ek : (upd (upd H kl (.lst kvs)) dl (.lst dvs)) kl = some (.lst kvs) := (upd_ne n1).trans upd_same
    have nk : kl ≠ t := ne_of_none ek ht
    have nd : dl ≠ t := ne_of_none upd_same ht
    exact q _ t nv kl dl kvs dvs (g2.new ht) (g2.free tg (fun z => z) ht) hkl (g1.free tg (fun z => z) hdl) n1 upd_same ((upd_ne nk).trans ek) ((upd_ne nd).trans upd_same) dn dks dds
end
end K1
set_option Elab.async false
set_option linter.all false
set_option maxRecDepth 100000
set_option maxHeartbeats 400000
/-! The refusals' own __init__: BadPatch(deed). -/
namespace K1
open PySem PySem.Spec PyProof.Rows L2
/-- what the written part says of HeadsError -/
structure HErr (K : PySem.W.Frag) (mg : Str → Option Value) : Prop where
  ex : ∃ (B : Addr) (mc : Value), mg "HeadsError" = some (.ref B) ∧ PySem.W.keepIn K (.ref B) = true ∧ ClX.CRead K B mc ∧ PySem.W.findCls K (.ref B) mc "__init__" = some (.val (.builtin "ValueError.__init__"))
section
variable {P : Program} {w : World} {K : PySem.W.Frag} {mg : Str → Option Value} {base : Heap}
def spNumInit (K : PySem.W.Frag) (C : Addr) (x : Str) : Sp := fun vs H Q _ => ∃ (a : Addr) (n : Int), vs = [.ref a, .int n] ∧ 0 ≤ n ∧ n < 1000000 ∧ OexC K C ∧ PySem.W.findIn K (.ref C) x = some none ∧ H a = some (exo a C none) ∧
  ∀ dx, H dx = none → dx ≠ a → Q .non (upd (upd H dx (exd dx [(x, .int n)])) a (exo a C (some dx)))
theorem ok_badpatch {f C : Addr} {fd : FuncData} {k : Nat} (F : Fun K "__init__" "BadPatch.__init__" sBadPatch_init f fd) (HE : HErr K mg) : FnOk P w K mg base CX0 (k + 1) f fd ["self", "deed"] (spNumInit K C "deed") := by
  obtain ⟨B, mc, mB, kB, RB, vB⟩ := HE.ex
  refine F.ok scBadPatch_init (fun vs H Q E h => ?_) (fun cdv A outer s H vs Q E hr h => ?_)
  · obtain ⟨a, n, rfl, _⟩ := h
    rfl
  · obtain ⟨a, n, rfl, n0, n1, T, hno, ea, q⟩ := h
    refine ⟨_, (pss_cons (ps_expr (pe_heinit (by rfl) mB kB RB vB (pa_cons (pv 0) (pa_cons (pe_joined (.cons pe_str (.cons (pe_fmt (pv 1)) .nil))) pa_nil))))
      (pss_one (ps_ost (pv 0) (pv 1)))), ?_⟩
    have pl : ("deed " : Str).length = 5 := by decide +kernel
    have b4 := len_num n0 n1
    refine ⟨.ref a, rfl, "deed ", rfl, small_le (by simp only [empty_app, pl]; omega), .int n, rfl, .inr ⟨n, rfl, log_small n0 n1, Str.ofString (toString n), rfl, small_le (by simp only [empty_app, len_app, pl]; omega), ?_⟩⟩
    refine ⟨a, C, _, rfl, by show 1 ≤ 1000; decide, T, ea, ?_⟩
    exact ⟨.int n, rfl, .ref a, rfl, a, C, rfl, T, hno, .inl ⟨ea, fun dx h1 h2 => q dx h1 h2⟩⟩
end
end K1
set_option Elab.async false
set_option linter.all false
set_option maxRecDepth 100000
set_option maxHeartbeats 4000000
/-! Written names, lines and rows, read back. -/
namespace K1
open PySem PySem.Spec PyProof.Rows L2

theorem numL_head : ∀ m : Nat, 1 ≤ m → ∃ c r, TL.numL m = c :: r ∧ c ≠ 48 := by
  intro m
  induction m using Nat.strongRecOn with
  | _ m ih =>
    intro h
    by_cases h10 : m < 10
    · rw [TL.numL_lt h10]
      exact ⟨48 + m, [], rfl, by omega⟩
    · obtain ⟨c, r, e, n⟩ := ih (m / 10) (by omega) (by omega)
      rw [TL.numL_step (by omega), e]
      exact ⟨c, r ++ [48 + m % 10], rfl, n⟩
theorem numT_num {n : Int} (h0 : 1 ≤ n) (h1 : n < 1000000) : numT (num n) = some n := by
  obtain ⟨m, rfl⟩ := Int.eq_ofNat_of_zero_le (show 0 ≤ n by omega)
  obtain ⟨c, r, e, hc⟩ := numL_head m (by omega)
  unfold numT
  rw [show TL.tl (num ((m : Nat) : Int)) = TL.numL m from TL.tl_num m, e]
  have l6 : (c :: r).length ≤ 6 := by rw [← e]; exact TL.numL_len (by decide) (show m < 10 ^ 6 by omega)
  have al : (c :: r).all (fun c => decide (c ∈ TL.tl figs)) = true := by
    refine List.all_eq_true.mpr fun d hd => ?_
    rw [← e] at hd
    exact decide_eq_true (fig_iff.mpr (TL.numL_digits m d hd))
  have v : NumText.digitsVal (c :: r) = m := by rw [← e]; exact TL.numL_val m
  show (if (decide ((c :: r).length ≤ 6) && (decide (c ≠ 48) && (c :: r).all (fun c => decide (c ∈ TL.tl figs)))) = true then some ((NumText.digitsVal (c :: r) : Nat) : Int) else none) = _
  rw [decide_eq_true l6, decide_eq_true hc, al, v]
  rfl
theorem numV_num {n : Int} (h0 : 1 ≤ n) (h1 : n < 1000000) : numV (.str (num n)) = .int n := by
  show (match numT (num n) with | some n => V.int n | none => .non) = _
  rw [numT_num h0 h1]
theorem num_no {n : Int} (h0 : 0 ≤ n) {s : Nat} (h : s < 48 ∨ 57 < s) : s ∉ TL.tl (num n) := by
  obtain ⟨m, rfl⟩ := Int.eq_ofNat_of_zero_le h0
  rw [show TL.tl (num ((m : Nat) : Int)) = TL.numL m from TL.tl_num m]
  exact TL.numL_free h
theorem hand_no {x : Str} (h : handV (.str x) = true) {s : Nat} (hs : s < 97 ∨ 122 < s) : s ∉ TL.tl x := by
  have w : wordOk x = true := (Bool.and_eq_true_iff.mp h).1
  have w1 := Bool.and_eq_true_iff.mp w
  intro hc
  have := of_decide_eq_true (List.all_eq_true.mp w1.2 s hc)
  have e : ltrs.cps.toList.all (fun c => decide (97 ≤ c) && decide (c ≤ 122)) = true := by decide +kernel
  have r := Bool.and_eq_true_iff.mp (List.all_eq_true.mp e s this)
  have r1 := of_decide_eq_true r.1
  have r2 := of_decide_eq_true r.2
  omega
theorem join2 (y a b : Str) : a ++ y ++ b = Txt.join y [a, b] := by
  refine TL.ext_tl ?_
  rw [TL.join_eq, TL.tl_join, TL.tl_append, TL.tl_append]
  show _ = TL.tl a ++ (TL.tl y ++ TL.tl b)
  rw [List.append_assoc]
theorem join3 (y a b c : Str) : a ++ y ++ b ++ y ++ c = Txt.join y [a, b, c] := by
  refine TL.ext_tl ?_
  rw [TL.join_eq, TL.tl_join, TL.tl_append, TL.tl_append, TL.tl_append, TL.tl_append]
  show _ = TL.tl a ++ (TL.tl y ++ (TL.tl b ++ (TL.tl y ++ TL.tl c)))
  simp only [List.append_assoc]
theorem split_nm {n : Nm} (h : NmOk n) : Txt.split (nmTxt n) "." = [n.1, num n.2] := by
  unfold nmTxt
  rw [join2]
  refine TL.split_join (S := []) sepDot.tl sepDot.low (by simp) fun p hp => ?_
  rcases List.mem_cons.mp hp with rfl | hp
  · exact hand_no h.1 (by omega)
  · rw [List.mem_singleton.mp hp]
    exact num_no (Int.le_trans (by decide) h.2.1) (by omega)
theorem nameS_back {n : Nm} (h : NmOk n) : nameS (nmTxt n) = some [.str n.1, .int n.2] := by
  unfold nameS
  rw [split_nm h]
  show (if nameL (some [.str n.1, numV (.str (num n.2))]) = true then some [V.str n.1, numV (.str (num n.2))] else none) = _
  rw [numV_num h.2.1 (Int.lt_of_le_of_lt h.2.2 (by decide)), if_pos]
  show (handV (.str n.1) && (decide (1 ≤ n.2) && decide (n.2 ≤ 999))) = true
  rw [h.1, decide_eq_true h.2.1, decide_eq_true h.2.2]
  rfl
theorem split_ln {l : Ln} (h : LnOk l) : Txt.split (l.1 ++ "." ++ num l.2.1 ++ "." ++ num l.2.2) "." = [l.1, num l.2.1, num l.2.2] := by
  rw [join3]
  refine TL.split_join (S := []) sepDot.tl sepDot.low (by simp) fun p hp => ?_
  rcases List.mem_cons.mp hp with rfl | hp
  · exact hand_no h.1.1 (by omega)
  rcases List.mem_cons.mp hp with rfl | hp
  · exact num_no (Int.le_trans (by decide) h.1.2.1) (by omega)
  · rw [List.mem_singleton.mp hp]
    exact num_no (Int.le_trans (by decide) h.2) (by omega)
theorem lineS_back {l : Ln} (h : EdOk l) (s : l.2.2 < 1000000) : lineS (lnTxt l) = some [.str l.1, .int l.2.1, .int l.2.2] := by
  rcases h with h | rfl | rfl
  · have e2 : lnTxt l = l.1 ++ "." ++ num l.2.1 ++ "." ++ num l.2.2 := by
      unfold lnTxt
      rw [if_neg, if_neg]
      · exact h.ne_foot
      · rintro rfl
        have := h.1.1
        revert this
        decide +kernel
    have dot : (46 : Nat) ∈ TL.tl (lnTxt l) := by
      rw [e2]
      simp only [TL.tl_append, sepDot.tl]
      simp
    have n1 : lnTxt l ≠ "head" := by
      intro z
      rw [z] at dot
      revert dot
      decide +kernel
    have n2 : lnTxt l ≠ "foot" := by
      intro z
      rw [z] at dot
      revert dot
      decide +kernel
    unfold lineS
    rw [if_neg n1, if_neg n2, e2, split_ln h]
    show (if putL (some [.str l.1, numV (.str (num l.2.1)), numV (.str (num l.2.2))]) = true then some [V.str l.1, numV (.str (num l.2.1)), numV (.str (num l.2.2))] else none) = _
    have a1 : handV (.str l.1) = true := h.1.1
    have a2 : (1 : Int) ≤ l.2.1 := h.1.2.1
    have a3 : l.2.1 ≤ 999 := h.1.2.2
    rw [numV_num a2 (Int.lt_of_le_of_lt a3 (by decide)), numV_num h.2 s, if_pos]
    show ((handV (.str l.1) && (decide (1 ≤ l.2.1) && decide (l.2.1 ≤ 999))) && decide (1 ≤ l.2.2)) = true
    rw [a1, decide_eq_true a2, decide_eq_true a3, decide_eq_true h.2]
    rfl
  · decide +kernel
  · decide +kernel
/-! rows and words -/
theorem sepNl : Sep "\n" 10 := ⟨by decide +kernel, by decide +kernel⟩
theorem joinL_no {s c : Nat} (hs : s ≠ c) : ∀ {L : List (List Nat)}, (∀ p ∈ L, c ∉ p) → c ∉ TL.joinL [s] L
  | [], _ => fun h => by cases h
  | [p], h => h p (List.mem_cons_self ..)
  | p :: q :: r, h => by
    show c ∉ p ++ ([s] ++ TL.joinL [s] (q :: r))
    intro hm
    rcases List.mem_append.mp hm with hm | hm
    · exact h p (List.mem_cons_self ..) hm
    rcases List.mem_append.mp hm with hm | hm
    · exact hs (List.mem_singleton.mp hm).symm
    · exact joinL_no hs (L := q :: r) (fun z hz => h z (List.mem_cons_of_mem _ hz)) hm
theorem row_no {ws : List Str} (h : ∀ w ∈ ws, 10 ∉ TL.tl w) : 10 ∉ TL.tl (Txt.join " " ws) := by
  rw [TL.join_eq, TL.tl_join, sepBlank.tl]
  refine joinL_no (by decide) fun p hp => ?_
  obtain ⟨w, hw, rfl⟩ := List.mem_map.mp hp
  exact h w hw
theorem nmTxt_no {n : Nm} (h : NmOk n) {s : Nat} (hs : s < 46) : s ∉ TL.tl (nmTxt n) := by
  unfold nmTxt
  simp only [TL.tl_append, sepDot.tl]
  intro hm
  rcases List.mem_append.mp hm with hm | hm
  · rcases List.mem_append.mp hm with hm | hm
    · exact hand_no h.1 (by omega) hm
    · have := List.mem_singleton.mp hm
      omega
  · exact num_no (Int.le_trans (by decide) h.2.1) (by omega) hm
theorem lnTxt_no {l : Ln} (h : EdOk l) (sm : 0 ≤ l.2.2) {s : Nat} (hs : s < 46) : s ∉ TL.tl (lnTxt l) := by
  have a1 : ∀ x : Str, (TL.tl x).all (fun c => decide (46 ≤ c)) = true → s ∉ TL.tl x := fun x e hm => by
    have := of_decide_eq_true (List.all_eq_true.mp e s hm)
    omega
  rcases h with h | rfl | rfl
  · unfold lnTxt
    split
    · exact a1 _ (by decide +kernel)
    · split
      · exact a1 _ (by decide +kernel)
      · simp only [TL.tl_append, sepDot.tl]
        intro hm
        rcases List.mem_append.mp hm with hm | hm
        · rcases List.mem_append.mp hm with hm | hm
          · rcases List.mem_append.mp hm with hm | hm
            · rcases List.mem_append.mp hm with hm | hm
              · exact hand_no h.1.1 (by omega) hm
              · have := List.mem_singleton.mp hm
                omega
            · exact num_no (Int.le_trans (by decide) h.1.2.1) (by omega) hm
          · have := List.mem_singleton.mp hm
            omega
        · exact num_no sm (by omega) hm
  · exact a1 _ (by decide +kernel)
  · exact a1 _ (by decide +kernel)
/-- no row of a patch has a line feed -/
theorem rows_no {p : Pat} (h : p.sized) : ∀ r ∈ rowsOf p, 10 ∉ TL.tl r := by
  have plain : ∀ x : Str, (TL.tl x).all (fun c => decide (c ≠ 10)) = true → 10 ∉ TL.tl x := fun x e hm => (of_decide_eq_true (List.all_eq_true.mp e 10 hm)) rfl
  intro r hr
  unfold rowsOf at hr
  rcases List.mem_cons.mp hr with rfl | hr
  · simp only [TL.tl_append]
    intro hm
    rcases List.mem_append.mp hm with hm | hm
    · rcases List.mem_append.mp hm with hm | hm
      · rcases List.mem_append.mp hm with hm | hm
        · exact plain "patch " (by decide +kernel) hm
        · exact hand_no h.ok.name.1 (by omega) hm
      · exact plain " " (by decide +kernel) hm
    · exact num_no (Int.le_trans (by decide) h.ok.name.2.1) (by omega) hm
  rcases List.mem_cons.mp hr with rfl | hr
  · refine row_no fun w hw => ?_
    rcases List.mem_cons.mp hw with rfl | hw
    · exact plain _ (by decide +kernel)
    · unfold knownWords at hw
      split at hw
      · rw [List.mem_singleton.mp hw]
        exact plain _ (by decide +kernel)
      · obtain ⟨n, hn, rfl⟩ := List.mem_map.mp hw
        exact nmTxt_no (h.ok.knows n hn) (by omega)
  · obtain ⟨d, hd, hr⟩ := List.mem_flatMap.mp hr
    unfold deedRows at hr
    rcases List.mem_cons.mp hr with rfl | hr
    · refine row_no fun w hw => ?_
      rcases List.mem_cons.mp hw with rfl | hw
      · cases d with
        | put => exact plain "put" (by decide +kernel)
        | order => exact plain "order" (by decide +kernel)
        | one k =>
          show 10 ∉ TL.tl (kindS k)
          cases k
          · exact plain "cut" (by decide +kernel)
          · exact plain "keep" (by decide +kernel)
      · obtain ⟨l, hl, rfl⟩ := List.mem_map.mp hw
        have eo := deed_ed (h.ok.deeds d hd) l hl
        exact lnTxt_no eo (ed_nums eo (h.lines d hd l hl)).2.2.2 (by omega)
    · obtain ⟨t, ht, rfl⟩ := List.mem_map.mp hr
      rw [TL.tl_append]
      intro hm
      rcases List.mem_append.mp hm with hm | hm
      · exact plain "+" (by decide +kernel) hm
      · exact (deed_tx (h.ok.deeds d hd) t ht).2.2 hm
/-- the rows of a text of patches, read back -/
theorem split_text {ps : List Pat} (h : ∀ p ∈ ps, p.sized) (ne : ps ≠ []) : Txt.split (textOf ps) "\n" = ps.flatMap rowsOf := by
  refine TL.split_join (S := []) sepNl.tl sepNl.low ?_ fun r hr => ?_
  · cases ps with
    | nil => exact absurd rfl ne
    | cons p r => simp [rowsOf]
  · obtain ⟨p, hp, hr⟩ := List.mem_flatMap.mp hr
    exact rows_no (h p hp) r hr
end K1
set_option Elab.async false
set_option linter.all false
set_option maxRecDepth 100000
set_option maxHeartbeats 4000000
/-! The words of written rows, read back. -/
namespace K1
open PySem PySem.Spec PyProof.Rows L2
theorem words_back {ws : List Str} (ne : ws ≠ []) (h : ∀ w ∈ ws, 32 ∉ TL.tl w ∧ w ≠ "") : wordsV (.str (Txt.join " " ws)) = some ws := by
  have e : Txt.split (Txt.join " " ws) " " = ws := TL.split_join (S := []) sepBlank.tl sepBlank.low ne fun w hw => (h w hw).1
  show (if inV (.str "") ((Txt.split (Txt.join " " ws) " ").map V.str) = true then none else some (Txt.split (Txt.join " " ws) " ")) = _
  rw [e, if_neg]
  intro hi
  have : ∀ l : List Str, (∀ w ∈ l, w ≠ "") → inV (.str "") (l.map V.str) = false := by
    intro l
    induction l with
    | nil => intro _; rfl
    | cons w r ih =>
      intro hl
      show (eqV (.str w) (.str "") || inV (.str "") (r.map V.str)) = false
      rw [ih fun z m => hl z (List.mem_cons_of_mem _ m), Bool.or_false]
      exact beq_eq_false_iff_ne.mpr (hl w (List.mem_cons_self ..))
  rw [this ws fun w hw => (h w hw).2] at hi
  cases hi
theorem ne_of_tl {x : Str} (h : TL.tl x ≠ []) : x ≠ "" := by
  rintro rfl
  exact h (by decide +kernel)
theorem num_ne {n : Int} (h : 0 ≤ n) : num n ≠ "" := by
  obtain ⟨m, rfl⟩ := Int.eq_ofNat_of_zero_le h
  refine ne_of_tl ?_
  rw [show TL.tl (num ((m : Nat) : Int)) = TL.numL m from TL.tl_num m]
  exact TL.numL_ne m
theorem hand_ne {x : Str} (h : handV (.str x) = true) : x ≠ "" := by
  rintro rfl
  revert h
  decide +kernel
theorem nmTxt_ne {n : Nm} (h : NmOk n) : nmTxt n ≠ "" := by
  refine ne_of_tl ?_
  unfold nmTxt
  simp only [TL.tl_append, sepDot.tl]
  simp
theorem lnTxt_ne (l : Ln) : lnTxt l ≠ "" := by
  unfold lnTxt
  split
  · decide +kernel
  · split
    · decide +kernel
    · refine ne_of_tl ?_
      simp only [TL.tl_append, sepDot.tl]
      simp
theorem kind_word (d : Deed) : 32 ∉ TL.tl d.kind ∧ d.kind ≠ "" := by
  cases d with
  | put => exact ⟨show 32 ∉ TL.tl ("put" : Str) by decide +kernel, show ("put" : Str) ≠ "" by decide +kernel⟩
  | order => exact ⟨show 32 ∉ TL.tl ("order" : Str) by decide +kernel, show ("order" : Str) ≠ "" by decide +kernel⟩
  | one k =>
    show 32 ∉ TL.tl (kindS k) ∧ kindS k ≠ ""
    cases k
    · exact ⟨by decide +kernel, by decide +kernel⟩
    · exact ⟨by decide +kernel, by decide +kernel⟩
/-- the first row's words -/
theorem first_words {n : Nm} (h : NmOk n) : wordsV (.str ("patch " ++ n.1 ++ " " ++ num n.2)) = some (["patch", n.1, num n.2] : List Str) := by
  have e : ("patch " ++ n.1 ++ " " ++ num n.2 : Str) = Txt.join " " ["patch", n.1, num n.2] := by
    rw [← join3]
    have : ("patch " : Str) = "patch" ++ " " := by decide +kernel
    rw [this]
  rw [e]
  refine words_back (by simp) fun w hw => ?_
  rcases List.mem_cons.mp hw with rfl | hw
  · exact ⟨by decide +kernel, by decide +kernel⟩
  rcases List.mem_cons.mp hw with rfl | hw
  · exact ⟨hand_no h.1 (by omega), hand_ne h.1⟩
  · rw [List.mem_singleton.mp hw]
    have := Int.le_trans (show (0 : Int) ≤ 1 by decide) h.2.1
    exact ⟨num_no this (by omega), num_ne this⟩
/-- the second row's words -/
theorem second_words {ns : List Nm} (h : ∀ n ∈ ns, NmOk n) : wordsV (.str (Txt.join " " ("knows" :: knownWords ns))) = some ("knows" :: knownWords ns : List Str) := by
  refine words_back (by simp) fun w hw => ?_
  rcases List.mem_cons.mp hw with rfl | hw
  · exact ⟨by decide +kernel, by decide +kernel⟩
  · unfold knownWords at hw
    split at hw
    · rw [List.mem_singleton.mp hw]
      exact ⟨by decide +kernel, by decide +kernel⟩
    · obtain ⟨n, hn, rfl⟩ := List.mem_map.mp hw
      exact ⟨nmTxt_no (h n hn) (by omega), nmTxt_ne (h n hn)⟩
/-- a deed's words -/
theorem deed_words {d : Deed} (h : d.ok) (s : ∀ l ∈ d.lines, l.2.2 < 1000000) : wordsV (.str (Txt.join " " (d.kind :: d.lines.map lnTxt))) = some (d.kind :: d.lines.map lnTxt) := by
  refine words_back (by simp) fun w hw => ?_
  rcases List.mem_cons.mp hw with rfl | hw
  · exact kind_word d
  · obtain ⟨l, hl, rfl⟩ := List.mem_map.mp hw
    have eo := deed_ed h l hl
    exact ⟨lnTxt_no eo (ed_nums eo (s l hl)).2.2.2 (by omega), lnTxt_ne l⟩
end K1
set_option Elab.async false
set_option linter.all false
set_option maxRecDepth 100000
set_option maxHeartbeats 400000
/-! for x, y in enumerate(list, start=k). -/
namespace K1
open PySem PySem.Spec PyProof.Rows L2

section
variable {M : Model} {A : Around} {E : Value → Shared → Prop} {s : Shared} {env : Env}
theorem callWith_typeK {pos : Pos} {T : String} {first : List Value} {args : List (Bool × Sem Value)} {keywords : List (Option Str × Sem Value)} {Q : Value → Shared → Prop}
    (hplain : args.any (·.1) = false) (hkw : keywords.any (·.1.isNone) = false)
    (h : wpAny M A (evalArgs (.type T) true args keywords) (fun a s₁ => wpAny M A (call (.type T) (first ++ a.pos) a.kw) Q E s₁) E s) :
    wpAny M A (callWith pos (.type T) first args keywords) Q E s := by
  unfold callWith
  refine wpAny_bind (wpAny_holding (wpAny_mono h (fun a s₁ h₁ => wpAny_bind (wpAny_standAt ?_)) fun _ _ x => x))
  simp only [hplain, hkw, Bool.or_false]
  refine wpAny_bind (wpAny_pure ?_)
  exact wpAny_bind (wpAny_mono h₁ (fun r s₂ hr => wpAny_bind (wpAny_holding (wpAny_point (wpAny_pure hr)))) fun _ _ x => x)
end
section
variable {prog : Program} {w : World} {A : Around} {E : Value → Shared → Prop} {s : Shared}
theorem pyNext_enum_end {e it l : Addr} {i : Nat} {c : Int} {items : Array Value} {old : Value} {Q : Option Value → Shared → Prop} (hh : A.handled = none)
    (he : IsEnum s.heap e it c old) (hit : s.heap.IsListIter it l i) (hl : s.heap.IsList l items) (hx : items[i]? = none)
    (hQ : ∀ h', Heap.ExtBut it s.heap h' → Q none { s with heap := h' }) : wpAny (model prog w) A (pyNext (.ref e)) Q E s := by
  have hT : s.TypeIs (.ref e) "enumerate" := ⟨_, he, rfl⟩
  unfold pyNext
  refine wpAny_bind (wpAny_attempt (wpAny_callSpecial?_slot (name := Str.ofString "__next__") hT PySem.F.slot_enumerate_next
    (wpAny_call_entry PySem.F.slot_enumerate_next hT PySem.F.entry_enumerate_next ?_ (PySem.F.args_enumerate_next_1 _))))
  show wpAny _ _ (field (.ref e) 2 >>= _) _ _ _
  refine wpAny_bind (wpAny_field he rfl (x := .ref it) rfl ?_)
  refine wpAny_bind (wpAny_nextOf_list_end hh hit hl hx fun h' x he' hx' => ?_)
  obtain ⟨o, ho, hc⟩ := hx'
  refine wpAny_bind (wpAny_isInstance (T := "StopIteration") (b := true) ⟨o, ho, hc⟩ isSubtype_stop ?_)
  exact wpAny_pure (hQ _ he')
theorem pyNext_enum_item {e it l : Addr} {i : Nat} {c : Int} {items : Array Value} {x old : Value} {Q : Option Value → Shared → Prop} (hh : A.handled = none)
    (he : IsEnum s.heap e it c old) (hit : s.heap.IsListIter it l i) (hl : s.heap.IsList l items) (hx : items[i]? = some x) (hne : e ≠ it)
    (hQ : ∀ h' tk, IsEnumOut h' e it (c + 1) x s.heap.objs.size → h'.IsListIter it l (i + 1) →
      h'.get? s.heap.objs.size = some { cls := .type "tuple", data := .seq #[.int c tk, x] } → h'.objs.size = s.heap.objs.size + 1 →
      (∀ b o, b ≠ e → b ≠ it → s.heap.get? b = some o → h'.get? b = some o) → Q (some (.ref s.heap.objs.size)) { s with heap := h', toks := tk + 1 }) :
    wpAny (model prog w) A (pyNext (.ref e)) Q E s := by
  have n1 : l ≠ it := by
    rintro rfl
    obtain ⟨o, ho, hc, _⟩ := hl
    obtain ⟨o', ho', hc', _⟩ := hit
    rw [ho] at ho'
    cases ho'
    rw [hc] at hc'
    exact absurd hc' (by decide)
  have n2 : e ≠ l := by
    rintro rfl
    obtain ⟨o, ho, hc, _⟩ := hl
    have he' : s.heap.get? e = some _ := he
    rw [ho] at he'
    cases he'
    exact absurd (show (Value.type "enumerate") = .type "list" from hc) (by decide)
  have hlt : i < items.size := by
    rcases Nat.lt_or_ge i items.size with h | h
    · exact h
    · rw [Array.getElem?_eq_none h] at hx
      cases hx
  refine wpAny_pyNext_enum_itemC (Draws.list (A := A.in1) hh it l n1 items) he ⟨hit, hl⟩ hlt hne (by simp [hne, n2]) fun y h' tk hy ho st ht hz hk => ?_
  rw [hx] at hy
  cases hy
  exact hQ h' tk ho st.1 ht hz hk
end
/-- the list at a as it stands at each turn, each item in a new pair, counted from k -/
def IteK (K : PySem.W.Frag) (a : Addr) (k : Nat) : It :=
  ⟨fun i H => ∃ (xs : List V) (x : V), SqL K H a xs ∧ xs[i]? = some x, fun i H v H' => ∃ T x, v = .ref T ∧ H T = none ∧ H' = upd H T (.tup [.int ((k + i : Nat)), x]) ∧ ∀ xs, SqL K H a xs → xs[i]? = some x, fun i H => ∃ xs : List V, SqL K H a xs ∧ xs.length ≤ i⟩
theorem turn_enumK {P : Program} {w : World} {K : PySem.W.Frag} {elts : List Expr} {kk : Nat} {tpos : Pos} (a e it : Addr) (k : Nat) :
    Turn P w K (.Tuple elts kk tpos) (IteK K a k) [e, it] e (fun i h => (∃ old, IsEnum h e it (((k + i : Nat)) : Int) old) ∧ h.IsListIter it a i ∧ e ≠ it) where
  mem := by simp
  obj := fun i h st b hb => by
    obtain ⟨⟨old, he⟩, ⟨o, ho, hc, hd⟩, _⟩ := st
    have e' : b = e ∨ b = it := by simpa using hb
    rcases e' with z | z
    · rw [z]; exact ⟨_, he, fun v q => nomatch q⟩
    · rw [z]; exact ⟨o, ho, fun v q => by rw [hd] at q; cases q⟩
  keep := fun i h h' st g => let ⟨⟨old, he⟩, hi, hne⟩ := st; ⟨⟨old, g e (by simp) _ he⟩, hi.at fun o q => g it (by simp) o q, hne⟩
  item := by
    intro X hP hw hK hc i pins s σ H E I hf st hg
    subst hP hw hK
    obtain ⟨⟨old, he⟩, hit, hne⟩ := st
    obtain ⟨xs, x, hq, hx⟩ := hg
    obtain ⟨its, rv, p, hz⟩ := I.list hq
    obtain ⟨u, hu, ru⟩ := rv.get hx
    have hel : e < s.heap.objs.size := Heap.lt_size he
    have hil : it < s.heap.objs.size := by obtain ⟨_, q, _⟩ := hit; exact Heap.lt_size q
    refine pyNext_enum_item (I.ok.hd hc) he hit p.isList (x := u) (by simpa using hu) hne fun h' tk ho hit' hT hsz hk => ?_
    refine ⟨_, rfl, wpAny_letOwnedTupleGo_enum (s := { s with heap := h', toks := tk + 1 }) ho fun h'' he' sb => ?_⟩
    have hT2 : h''.get? s.heap.objs.size = some { cls := .type "tuple", data := .seq #[.int ((k + i : Nat)) tk, u] } := (sb.2 _ (Nat.ne_of_gt hel)).trans hT
    have new : ObjOk X.prog X.w (upd H s.heap.objs.size (.tup [.int ((k + i : Nat)), x])) h'' s.heap.objs.size (.tup [.int ((k + i : Nat)), x]) :=
      ⟨by show 2 ≤ sizeLine; decide, [.int ((k + i : Nat)) tk, u], .cons ⟨_, rfl⟩ (.cons ru .nil), ⟨_, hT2, rfl, _, rfl⟩⟩
    have I1 : Inv X pins σ (upd H s.heap.objs.size (.tup [.int ((k + i : Nat)), x])) { s with heap := h'', toks := tk + 1 } :=
      I.turnedNew (ch := [e, it]) (fun b ob hb q => (sb.2 b (fun z => hb (by simp [z]))).trans (hk b ob (fun z => hb (by simp [z])) (fun z => hb (by simp [z])) q)) hf (Nat.le_refl _) new
    refine ⟨.ref s.heap.objs.size, _, I1, rfl, ⟨_, x, rfl, I.hok.fresh (Nat.le_refl _), rfl, fun ys hy => by rw [I.list_inj hy hq]; exact hx⟩, ⟨⟨u, ?_⟩, hit'.at fun o q => (sb.2 it (Ne.symm hne)).trans q, hne⟩, fun b hb => ?_⟩
    · have e1 : ((k + (i + 1) : Nat) : Int) = ((k + i : Nat) : Int) + 1 := by omega
      rw [e1]; exact he'
    · have hb' : b < s.heap.objs.size := by
        have e' : b = e ∨ b = it := by simpa using hb
        rcases e' with z | z
        · rw [z]; exact hel
        · rw [z]; exact hil
      rw [upd_ne (Nat.ne_of_lt hb')]
      exact (hf b hb).1
  done := by
    intro X hP hw hK hc i pins s σ H E I hf st hg
    subst hP hw hK
    obtain ⟨⟨old, he⟩, hit, hne⟩ := st
    obtain ⟨xs, hq, hx⟩ := hg
    obtain ⟨its, rv, p, hz⟩ := I.list hq
    obtain ⟨f0, f1, f2, f3, f4, f5⟩ := hf it (by simp)
    have hl := rv.length
    exact pyNext_enum_end (I.ok.hd hc) he hit p.isList (by simp; omega) fun h' eb => ⟨rfl, I.turned (t' := s.toks) (fun b o hb q => eb b o hb q) f0 f1 f3 f4 f5⟩
  self := fun A i s Q E st h => let ⟨⟨_, he⟩, _⟩ := st; wpAny_pyIter_enum he h
def iEnumK (K : PySem.W.Frag) (k : Nat) (ta : TA) : TI := fun σ H R => ta σ H fun vs H1 => ∃ a xs, vs = [.ref a] ∧ SqL K H1 a xs ∧ R (IteK K a k) H1
theorem pi_enumK {X : Cx} {e : Expr} {ta : TA} {p pos tpos kp cp : Pos} {elts : List Expr} {kk j : Nat} (k : Nat) (hk : k ≤ 1000) (hg : Gl X "enumerate") (hm : X.mg "enumerate" = none) (ha : PA X [e] ta) (hs : starEach [e] X.env = [(false, eval e X.env)] := by rfl) :
    PI X (.Tuple elts kk tpos) (.Call (.Name "enumerate" p) [e] [⟨some "start", .Constant (.int k) j cp, kp⟩] pos) (iEnumK X.K k ta) := by
  refine ⟨fun pins s σ H R I h => ?_⟩
  show wpAny _ _ (do callWith pos (← eval (.Name "enumerate" p) X.env) [] (backTo pos (starEach [e] X.env)) (backToKw pos (keywordEach [⟨some "start", .Constant (.int k) j cp, kp⟩] X.env))) _ _ s
  refine wpAny_bind (ld_blt I hg hm boot_enumerate ?_)
  rw [hs]
  refine callWith_typeK rfl rfl (evalArgs_kwB (x := eval e X.env) (rest := []) rfl ?_)
  have h1 : wpAny (model X.prog X.w) X.A (spliced [(false, eval e X.env)]) (AP X pins σ fun vs H1 => ∃ a xs, vs = [V.ref a] ∧ SqL X.K H1 a xs ∧ R (IteK X.K a k) H1) X.xe s := by
    have h2 := ha.run pos pins s σ H _ I h
    rw [hs] at h2
    exact h2
  refine thn h1 fun us s1 ⟨vs, H1, I1, r1, a, xs, ex, hq, q⟩ => ?_
  subst ex
  cases r1 with
  | cons r rr =>
    cases rr
    cases r
    have I1' := I1
    refine kws_cons (thn (pe_int.run pins s1 σ H1 (fun v H2 => v = V.int k ∧ H2 = H1) I1 ⟨rfl, rfl⟩) fun u s2 ⟨v, H2, I2, rv2, ev, eH⟩ => kws_nil ?_)
    subst ev eH
    obtain ⟨t, rfl⟩ := rv2
    obtain ⟨its, rv, p', hz⟩ := I2.list hq
    refine enum_begins_start (begins_list a its.toArray) (by exact p'.isList) (by omega) (by omega) fun h' he hit hsz hk2 => wpAny_pyIter_enum he ?_
    have I3 : Inv X pins σ H2 { s2 with heap := h' } := I2.kept (t' := s2.toks) hk2
    refine ⟨s2.heap.objs.size + 1, [s2.heap.objs.size + 1, s2.heap.objs.size], _, _, H2, rfl, I3, turn_enumK a (s2.heap.objs.size + 1) s2.heap.objs.size k, ⟨⟨.none, by simpa using he⟩, ?_, Nat.succ_ne_self _⟩, fun b hb => ?_, q⟩
    · exact ⟨_, hit, rfl, rfl⟩
    · have e' : b = s2.heap.objs.size + 1 ∨ b = s2.heap.objs.size := by simpa using hb
      have hle : s2.heap.objs.size ≤ b := by
        rcases e' with z | z
        · rw [z]; exact Nat.le_add_right _ _
        · rw [z]; exact Nat.le_refl _
      exact I2.fpOk hle (I2.hok.fresh hle)
theorem walk_enumK {K : PySem.W.Frag} {a : Addr} {xs : List V} {k : Nat} : Walk (IteK K a k) xs.length (fun H => SqL K H a xs) (YPair (fun i => some (.int ((k + i : Nat)))) (fun i => xs[i]?)) := by
  refine ⟨fun i _ hi q => ⟨xs, xs[i], q, by simp [hi]⟩, fun _ q => ⟨xs, q, Nat.le_refl _⟩, fun i H v H' _ q y => ?_⟩
  obtain ⟨T, x, h1, h2, h3, h4⟩ := y
  exact ⟨T, .int ((k + i : Nat)), x, h1, h2, h3, rfl, h4 xs q⟩
end K1
set_option Elab.async false
set_option linter.all false
set_option maxRecDepth 100000
set_option maxHeartbeats 400000
/-! The program's defs: is_text, _can_put, _is_deed, _many_deeds: of good deeds. -/
namespace K1
open PySem PySem.Spec PyProof.Rows L2

/-- the numbers of the module of patches -/
structure Mp (mg : Str → Option Value) : Prop where
  mostD : ∃ t, mg "MOST_DEEDS" = some (.int 400 t)
  mostT : ∃ t, mg "MOST_TEXTS" = some (.int 200 t)
  mostS : ∃ t, mg "MOST_SIGNS" = some (.int 40 t)
def textV : V → Bool
  | .str x => decide ((x.length : Int) ≤ 40) && !decide (10 ∈ TL.tl x)
  | _ => false
theorem TxOk.v {x : Str} (h : TxOk x) : textV (.str x) = true := by
  show (decide ((x.length : Int) ≤ 40) && !decide (10 ∈ TL.tl x)) = true
  rw [decide_eq_true (by have := h.2.1; omega), decide_eq_false h.2.2]
  rfl
theorem nl_one : ("\n" : Str) = ⟨#[10]⟩ := by decide +kernel
theorem LnOk.put {l : Ln} (h : LnOk l) : putL (some [.str l.1, .int l.2.1, .int l.2.2]) = true := by
  show ((handV (.str l.1) && (decide (1 ≤ l.2.1) && decide (l.2.1 ≤ 999))) && decide (1 ≤ l.2.2)) = true
  rw [show handV (.str l.1) = true from h.1.1, decide_eq_true (show 1 ≤ l.2.1 from h.1.2.1), decide_eq_true (show l.2.1 ≤ 999 from h.1.2.2), decide_eq_true h.2]
  rfl
theorem EdOk.v {l : Ln} (h : EdOk l) : putL (some [.str l.1, .int l.2.1, .int l.2.2]) = true ∨ endL (some [.str l.1, .int l.2.1, .int l.2.2]) = true := by
  rcases h with h | rfl | rfl
  · exact .inl h.put
  · exact .inr (by decide +kernel)
  · exact .inr (by decide +kernel)
theorem NmOk.v {n : Nm} (h : NmOk n) : nameL (some [.str n.1, .int n.2]) = true := by
  show (handV (.str n.1) && (decide (1 ≤ n.2) && decide (n.2 ≤ 999))) = true
  rw [show handV (.str n.1) = true from h.1, decide_eq_true h.2.1, decide_eq_true h.2.2]
  rfl
/-- a line's tuple is a thing -/
theorem ln_th {K : PySem.W.Frag} {H : Hp} {v : V} {l : Ln} (d : Dp K H v (eL l)) (h : l.1.length ≤ 1000) : Th K H v "tuple" (some [.str l.1, .int l.2.1, .int l.2.2]) ∧ ThAll K H (some [.str l.1, .int l.2.1, .int l.2.2]) := by
  obtain ⟨a, xs, rfl, S, q⟩ := Dp.tupI d
  obtain ⟨x, y, z, rfl, q1, q2, q3⟩ := DpAll.i3 q
  cases Dp.strI q1
  cases Dp.intI q2
  cases Dp.intI q3
  refine ⟨.tup S, ?_⟩
  intro ys hy z hz
  cases hy
  rcases List.mem_cons.mp hz with rfl | hz
  · exact ⟨_, _, .str _ (small_le (by omega))⟩
  · rcases List.mem_cons.mp hz with rfl | hz
    · exact ⟨_, _, .int _⟩
    · obtain rfl := List.mem_singleton.mp hz
      exact ⟨_, _, .int _⟩
theorem nm_th {K : PySem.W.Frag} {H : Hp} {v : V} {n : Nm} (d : Dp K H v (eN n)) (h : n.1.length ≤ 1000) : Th K H v "tuple" (some [.str n.1, .int n.2]) ∧ ThAll K H (some [.str n.1, .int n.2]) := by
  obtain ⟨a, xs, rfl, S, q⟩ := Dp.tupI d
  obtain ⟨x, y, rfl, q1, q2⟩ := DpAll.i2 q
  cases Dp.strI q1
  cases Dp.intI q2
  refine ⟨.tup S, ?_⟩
  intro ys hy z hz
  cases hy
  rcases List.mem_cons.mp hz with rfl | hz
  · exact ⟨_, _, .str _ (small_le (by omega))⟩
  · obtain rfl := List.mem_singleton.mp hz
    exact ⟨_, _, .int _⟩
theorem ln_st {l : Ln} (h : EdOk l) : StAll (some [.str l.1, .int l.2.1, .int l.2.2]) := by
  intro xs e x m
  cases e
  have m' : x = l.1 := by
    rcases List.mem_cons.mp m with z | m
    · exact V.str.inj z
    · rcases List.mem_cons.mp m with z | m
      · cases z
      · cases List.mem_singleton.mp m
  rw [m']
  exact h.str
theorem EdOk.len {l : Ln} (h : EdOk l) : l.1.length ≤ 1000 := by
  rcases h with h | rfl | rfl
  · have := (handOk h.1.1).2
    exact Nat.le_trans this (by decide)
  · decide +kernel
  · decide +kernel
section
variable {P : Program} {w : World} {K : PySem.W.Frag} {mg : Str → Option Value} {base : Heap} {T : Tp}

/-! ### is_text -/
def spIsText (K : PySem.W.Frag) : Sp := fun vs H Q _ => ∃ v n o, vs = [v] ∧ Th K H v n o ∧ Q (.bl (textV v)) H
theorem ok_istext {f : Addr} {fd : FuncData} {k : Nat} (F : Fun K "is_text" "is_text" sIsText f fd) (M : Mg K mg) (N : Mp mg) : FnOk P w K mg base CX0 (k + 1) f fd ["thing"] (spIsText K) := by
  obtain ⟨tk, hS⟩ := N.mostS
  refine F.ok scIsText (fun vs H Q E h => ?_) (fun cdv A outer s H vs Q E hr h => ?_)
  · obtain ⟨v, n, o, rfl, _⟩ := h
    rfl
  · obtain ⟨v, n, o, rfl, th, q⟩ := h
    refine ⟨_, (pss_one (ps_ret (pe_and (pe_callB call_isi (by rfl) M.ins boot_isinstance (pa_cons (pv 0) (pa_cons (pe_bltn (v := .ty "str") (by rfl) M.str_ boot_str rfl) pa_nil))) (pe_and (pe_cmpR op_le (pe_callB call_len_str (by rfl) M.len_ PySem.boot_len (pa_cons (pv 0) pa_nil)) (pe_glob (v := .int 40) (by rfl) hS ⟨_, rfl⟩) (nomark _)) (pe_one (pe_cmpR op_notIn_sign pe_str (pv 0) (by rfl))))))), ?_⟩
    refine ⟨v, rfl, v, .ty "str", .type n, .type "str", _, rfl, .ty _, th.ty, kit_ty th.kstr, _, rfl, ite2 (fun e => ?_) (fun e => ?_)⟩
    · obtain ⟨x, rfl, hx⟩ := th.strOf e
      refine ⟨.str x, rfl, x, rfl, hx, _, _, rfl, rfl, _, rfl, ite2 (fun e1 => ⟨.str x, rfl, 10, x, congrArg V.str nl_one, rfl, ?_⟩) (fun e1 => ?_)⟩
      · have e2 : (!decide (10 ∈ x.cps.toList)) = textV (.str x) := by
          show _ = (decide ((x.length : Int) ≤ 40) && !decide (10 ∈ TL.tl x))
          rw [e1, Bool.true_and]
        rw [← e2] at q
        exact q
      · have e2 : false = textV (.str x) := by
          show _ = (decide ((x.length : Int) ≤ 40) && !decide (10 ∈ TL.tl x))
          rw [Bool.eq_false_iff.mpr e1, Bool.false_and]
        rw [← e2] at q
        exact q
    · have e2 : textV v = false := by
        cases v with
        | str x => exact absurd rfl e
        | _ => rfl
      rw [e2] at q
      exact q

/-! ### _can_put -/
def spCanPut (K : PySem.W.Frag) (T : Tp) : Sp := fun vs H Q _ => ∃ (a b t : V) (la lb : Ln) (ts : List Str), vs = [a, b, t] ∧ Dp K H a (eL la) ∧ EdOk la ∧ Dp K H b (eL lb) ∧ EdOk lb ∧ Dp K H t (.tuple (ts.map .str)) ∧ (∀ x ∈ ts, TxOk x) ∧ 1 ≤ ts.length ∧ ts.length ≤ 200 ∧ TG T H ∧
  ∀ H', Go T D0 H H' → Q (.bl true) H'
theorem ok_canput {f : Addr} {fd : FuncData} {k : Nat} (F : Fun K "_can_put" "_can_put" sCanPut f fd) (M : Mg K mg) (N : Mp mg) (cP : Cal P w K mg base k "is_put_line" ["thing"] (spPut K T)) (cE : Cal P w K mg base k "is_end" ["thing"] (spEnd K))
    (cT : Cal P w K mg base k "is_text" ["thing"] (spIsText K)) : FnOk P w K mg base CX0 (k + 1) f fd ["above", "below", "texts"] (spCanPut K T) := by
  obtain ⟨tk, hT⟩ := N.mostT
  refine F.ok scCanPut (fun vs H Q E h => ?_) (fun cdv A outer s H vs Q E hr h => ?_)
  · obtain ⟨a, b, t, la, lb, ts, rfl, _⟩ := h
    rfl
  · obtain ⟨a, b, t, la, lb, ts, rfl, da, oa, db, ob, dt, tx, l1, l2, tg, q⟩ := h
    refine ⟨_, (pss_cons (ps_if (PW.pt (pw_or (pt_not (pt_val (pe_callB call_isi (by rfl) M.ins boot_isinstance (pa_cons (pv 2) (pa_cons (pe_bltn (v := .ty "tuple") (by rfl) M.tuple_ (by decide +kernel) rfl) pa_nil))))) (pw_or1 (pt_not (pt_chain op_le op_le pe_int (pe_callB call_len_seq (by rfl) M.len_ PySem.boot_len (pa_cons (pv 2) pa_nil)) (pe_glob (v := .int 200) (by rfl) hT ⟨_, rfl⟩))))))
      (pss_one (ps_ret pe_bl))
      pss_nil)
      (pss_cons (ps_if (PW.pt (pw_or (PW.pt (pw_and (pt_not (pt_val (pe_cal cP hr (by rfl) (pa_cons (pv 0) pa_nil)))) (pw_and1 (pt_not (pt_val (pe_cal cE hr (by rfl) (pa_cons (pv 0) pa_nil))))))) (pw_or1 (PW.pt (pw_and (pt_not (pt_val (pe_cal cP hr (by rfl) (pa_cons (pv 1) pa_nil)))) (pw_and1 (pt_not (pt_val (pe_cal cE hr (by rfl) (pa_cons (pv 1) pa_nil))))))))))
      (pss_one (ps_ret pe_bl))
      pss_nil)
      (pss_one (ps_ret (pe_callB (cr_all rfl) (by rfl) M.all_ (by decide +kernel) (pa_cons (pe_lc (own := [("text", 3)]) (g := gName 3) (tt := tYes) rfl scCanPut.nd (pi_tup (pv 2)) (blkOk_by (N := ["above", "below", "texts", "text"]) (sc := defScope sCanPut) (by decide +kernel)) (fun _ _ _ _ _ => (pg_name (i := 3) scCanPut.nd rfl (Or.inl rfl))) (fun _ _ _ _ _ => pts_nil) (fun _ _ _ _ _ => (pe_cal cT hr (by rfl) (pa_cons (pv 3) pa_nil)))) pa_nil)))))), ?_⟩
    obtain ⟨at_, txs, rfl, St, dts⟩ := Dp.tupI dt
    have et : txs = ts.map V.str := strs_of dts
    subst et
    refine ⟨.ref at_, rfl, .ref at_, .ty "tuple", .type "tuple", .type "tuple", _, rfl, .ty _, (Th.tup St).ty, kit_ty (Th.tup St).ktup, _, rfl, iteF ?_⟩
    have e1 : decide ((1 : Int) ≤ (((ts.map V.str).length : Nat) : Int)) = true := decide_eq_true (by rw [List.length_map]; omega)
    have e2 : decide ((((ts.map V.str).length : Nat) : Int) ≤ 200) = true := decide_eq_true (by rw [List.length_map]; omega)
    have toH : ∀ {H'}, Go T D0 H H' → Sub H H' := fun g => sub_go g tg
    have tl1 : ∀ {H' v l}, Go T D0 H H' → Dp K H v (eL l) → EdOk l → Th K H' v "tuple" (some [.str l.1, .int l.2.1, .int l.2.2]) ∧ ThAll K H' (some [.str l.1, .int l.2.1, .int l.2.2]) := fun g d o => ln_th (Dp.sub (toH g) _ _ d) o.len
    refine ⟨.ref at_, rfl, at_, _, rfl, .inr St, _, _, rfl, rfl, _, rfl, ite2 (fun _ => ⟨_, _, rfl, rfl, _, rfl, ite2 (fun e => ?_) (fun _ => ?_)⟩) (fun e => absurd e1 e)⟩
    · rw [e2] at e
      cases e
    · have t0 := tl1 (Go.rfl' tg) da oa
      refine twice (A := fun H2 => Go T D0 H H2) ?rest (fun rest => ⟨a, rfl, a, "tuple", _, rfl, t0.1, t0.2, tg, fun H1 g1 => ⟨_, rfl, ite2 (fun e => ⟨a, rfl, a, "tuple", _, rfl, (tl1 g1 da oa).1, (tl1 g1 da oa).2, ln_st oa, _, rfl, ite2 (fun e' => ?no) (fun e' => rest H1 g1)⟩) (fun e => rest H1 g1)⟩⟩)
      case no =>
        rcases oa.v with h | h
        · rw [h] at e
          cases e
        · rw [h] at e'
          cases e'
      case rest =>
        intro H2 g2
        have t2 := tl1 g2 db ob
        refine twice (A := fun H3 => Go T D0 H H3) ?rest2 (fun rest2 => ⟨b, rfl, b, "tuple", _, rfl, t2.1, t2.2, g2.1, fun H3 g3 => ⟨_, rfl, ite2 (fun e => ⟨b, rfl, b, "tuple", _, rfl, (tl1 (g2.trans g3) db ob).1, (tl1 (g2.trans g3) db ob).2, ln_st ob, _, rfl, ite2 (fun e' => ?no2) (fun e' => rest2 H3 (g2.trans g3))⟩) (fun e => rest2 H3 (g2.trans g3))⟩⟩)
        case no2 =>
          rcases ob.v with h | h
          · rw [h] at e
            cases e
          · rw [h] at e'
            cases e'
        case rest2 =>
          intro H4 g4
          have S4 := (toH g4).seqT St
          refine ⟨.ref at_, rfl, at_, rfl, ⟨_, S4⟩, fun D hD => ?_⟩
          refine lc_tup (K := K) (a := at_) (xs := ts.map V.str) (fun j H5 => Go T D0 H4 H5 ∧ H5 D = some (.lst (((ts.take j).map fun _ => true).map V.bl))) ?_ ?_ ?_ ?_
          · exact ⟨(Go.rfl' g4.1).new hD, upd_same⟩
          · rintro j H5 hj ⟨g5, _⟩
            exact g5.seqT g4.1 (fun _ _ z => z) S4
          · rintro j x H5 hx ⟨g5, eD⟩
            rw [List.getElem?_map] at hx
            cases htx : ts[j]? with
            | none => rw [htx] at hx; cases hx
            | some y =>
              rw [htx] at hx
              cases hx
              have oy := tx y (List.mem_of_getElem? htx)
              refine ⟨rfl, .str y, rfl, .str y, "str", none, rfl, .str y (small_le (by have := oy.2.1; omega)), _, eD, small_line (by rw [List.length_map, List.length_map, List.length_take]; omega), g5.put hD eD, ?_⟩
              rw [upd_same, oy.v, List.take_add_one, htx, List.map_append, List.map_append]
              rfl
          · rintro H5 ⟨g5, eD⟩
            rw [List.length_map, List.take_length] at eD
            refine ⟨D, ts.map fun _ => true, rfl, .inl (.inl eD), ?_⟩
            have ea : (ts.map fun _ => true).all id = true := by rw [List.all_map]; exact List.all_eq_true.mpr fun _ _ => rfl
            rw [ea]
            exact q _ (g4.trans g5)
end
end K1
set_option Elab.async false
set_option linter.all false
set_option maxRecDepth 100000
set_option maxHeartbeats 400000
/-! The program's defs: _is_deed, _many_deeds, _can_do, _many_put, _can_know: of good ones. -/
namespace K1
open PySem PySem.Spec PyProof.Rows L2

/-- what a deed asks of its parts together -/
def Deed.fit : Deed → Prop
  | .put a b ts => a ≠ b ∧ a ≠ footL ∧ b ≠ headL ∧ 1 ≤ ts.length ∧ ts.length ≤ 200
  | .order a b => a ≠ b
  | .one _ _ => True
theorem iteTd {c : Bool} {A B : Prop} (h : A) (e : c = true := by decide +kernel) : if c = true then A else B := by
  rw [if_pos e]
  exact h
theorem iteFd {c : Bool} {A B : Prop} (h : B) (e : c = false := by decide +kernel) : if c = true then A else B := by
  rw [e]
  exact h
section
variable {P : Program} {w : World} {K : PySem.W.Frag} {mg : Str → Option Value} {base : Heap} {T : Tp}

/-! ### _is_deed -/
def spIsDeed (K : PySem.W.Frag) (T : Tp) : Sp := fun vs H Q _ => ∃ (v : V) (d : Deed), vs = [v] ∧ Dp K H v (eD d) ∧ d.ok ∧ d.fit ∧ TG T H ∧ ∀ H', Go T D0 H H' → Q (.bl true) H'
theorem ok_isdeed {f : Addr} {fd : FuncData} {k : Nat} (F : Fun K "_is_deed" "_is_deed" sIsDeed f fd) (M : Mg K mg) (cP : Cal P w K mg base k "is_put_line" ["thing"] (spPut K T)) (cC : Cal P w K mg base k "_can_put" ["above", "below", "texts"] (spCanPut K T)) :
    FnOk P w K mg base CX0 (k + 1) f fd ["thing"] (spIsDeed K T) := by
  refine F.ok scIsDeed (fun vs H Q E h => ?_) (fun cdv A outer s H vs Q E hr h => ?_)
  · obtain ⟨v, d, rfl, _⟩ := h
    rfl
  · obtain ⟨v, d, rfl, dd, ok, fit, tg, q⟩ := h
    refine ⟨_, (pss_cons (ps_if (PW.pt (pw_or (pt_not (pt_val (pe_callB call_isi (by rfl) M.ins boot_isinstance (pa_cons (pv 0) (pa_cons (pe_bltn (v := .ty "tuple") (by rfl) M.tuple_ (by decide +kernel) rfl) pa_nil))))) (pw_or (pt_cmpR op_lt (pe_callB call_len_seq (by rfl) M.len_ PySem.boot_len (pa_cons (pv 0) pa_nil)) pe_int (nomark _)) (pw_or1 (pt_not (pt_val (pe_callB call_isi (by rfl) M.ins boot_isinstance (pa_cons (pe_ix ix_tup (pv 0) pe_int (fun _ _ => rfl)) (pa_cons (pe_bltn (v := .ty "str") (by rfl) M.str_ boot_str rfl) pa_nil)))))))))
      (pss_one (ps_ret pe_bl))
      pss_nil)
      (pss_cons (ps_if (pt_cmpR op_in_seq (pe_ix ix_tup (pv 0) pe_int (fun _ _ => rfl)) (pe_tup (pa_cons pe_str (pa_cons pe_str pa_nil))) (by rfl))
      (pss_one (ps_ret (pe_and (pe_cmpR op_eq (pe_callB call_len_seq (by rfl) M.len_ PySem.boot_len (pa_cons (pv 0) pa_nil)) pe_int (nomark _)) (pe_one (pe_cal cP hr (by rfl) (pa_cons (pe_ix ix_tup (pv 0) pe_int (fun _ _ => rfl)) pa_nil))))))
      pss_nil)
      (pss_cons (ps_if (pt_cmpR op_eq (pe_ix ix_tup (pv 0) pe_int (fun _ _ => rfl)) pe_str (nomark _))
      (pss_one (ps_ret (pe_and (pe_cmpR op_eq (pe_callB call_len_seq (by rfl) M.len_ PySem.boot_len (pa_cons (pv 0) pa_nil)) pe_int (nomark _)) (pe_and (pe_cal cP hr (by rfl) (pa_cons (pe_ix ix_tup (pv 0) pe_int (fun _ _ => rfl)) pa_nil)) (pe_one (pe_cal cP hr (by rfl) (pa_cons (pe_ix ix_tup (pv 0) pe_int (fun _ _ => rfl)) pa_nil)))))))
      pss_nil)
      (pss_one (ps_ret (pe_and (pe_cmpR op_eq (pe_ix ix_tup (pv 0) pe_int (fun _ _ => rfl)) pe_str (nomark _)) (pe_and (pe_cmpR op_eq (pe_callB call_len_seq (by rfl) M.len_ PySem.boot_len (pa_cons (pv 0) pa_nil)) pe_int (nomark _)) (pe_one (pe_cal cC hr (by rfl) (pa_cons (pe_ix ix_tup (pv 0) pe_int (fun _ _ => rfl)) (pa_cons (pe_ix ix_tup (pv 0) pe_int (fun _ _ => rfl)) (pa_cons (pe_ix ix_tup (pv 0) pe_int (fun _ _ => rfl)) pa_nil)))))))))))), ?_⟩
    have toH : ∀ {H'}, Go T D0 H H' → Sub H H' := fun g => sub_go g tg
    have lth : ∀ {H' v l}, Go T D0 H H' → Dp K H v (eL l) → EdOk l → Th K H' v "tuple" (some [.str l.1, .int l.2.1, .int l.2.2]) ∧ ThAll K H' (some [.str l.1, .int l.2.1, .int l.2.2]) := fun g d o => ln_th (Dp.sub (toH g) _ _ d) o.len
    have g0 : Go T D0 H H := Go.rfl' tg
    cases d with
    | one kp l =>
      obtain ⟨a, _, rfl, S, ds⟩ := Dp.tupI dd
      obtain ⟨x, y, rfl, q1, q2⟩ := DpAll.i2 ds
      cases Dp.strI q1
      have hk : Th K H (.str (kindS kp)) "str" none := .str _ (small_le (by cases kp <;> decide +kernel))
      refine ⟨.ref a, rfl, .ref a, .ty "tuple", .type "tuple", .type "tuple", _, rfl, .ty _, (Th.tup S).ty, kit_ty (Th.tup S).ktup, _, rfl, iteF ?_⟩
      refine ⟨.ref a, rfl, a, _, rfl, .inr S, _, _, rfl, rfl, _, rfl, iteF ?_⟩
      refine ⟨.ref a, rfl, a, _, 0, .str (kindS kp), rfl, rfl, S, atI_nat (j := 0) rfl, _, .ty "str", .type "str", .type "str", _, rfl, .ty _, hk.ty, kit_ty hk.kstr, _, rfl, iteF ?_⟩
      refine ⟨.ref a, rfl, a, _, 0, .str (kindS kp), rfl, rfl, S, atI_nat (j := 0) rfl, small_le (by decide), fun t ht => ⟨t, _, rfl, .inr (.inl (.inl upd_same)), rfl, rfl, _, rfl, ite2 (fun e => ?_) (fun e => ?_)⟩⟩
      · have g1 := g0.new (o := .tup [V.str "cut", .str "keep"]) ht
        have S1 := (toH g1).seqT S
        refine ⟨.ref a, rfl, a, _, rfl, .inr S1, rfl, _, rfl, iteT ?_⟩
        have t1 := lth g1 q2 (.inl ok)
        refine ⟨.ref a, rfl, a, _, 1, y, rfl, rfl, S1, atI_nat (j := 1) rfl, y, "tuple", _, rfl, t1.1, t1.2, g1.1, fun H2 g2 => ?_⟩
        rw [LnOk.put ok]
        exact q _ (g1.trans g2)
      · cases kp <;> exact absurd (by decide +kernel) e
    | order la lb =>
      obtain ⟨a, _, rfl, S, ds⟩ := Dp.tupI dd
      obtain ⟨x, y, z, rfl, q1, q2, q3⟩ := DpAll.i3 ds
      cases Dp.strI q1
      have hk : Th K H (.str "order") "str" none := .str _ (small_le (by decide +kernel))
      refine ⟨.ref a, rfl, .ref a, .ty "tuple", .type "tuple", .type "tuple", _, rfl, .ty _, (Th.tup S).ty, kit_ty (Th.tup S).ktup, _, rfl, iteF ?_⟩
      refine ⟨.ref a, rfl, a, _, rfl, .inr S, _, _, rfl, rfl, _, rfl, iteF ?_⟩
      refine ⟨.ref a, rfl, a, _, 0, .str "order", rfl, rfl, S, atI_nat (j := 0) rfl, _, .ty "str", .type "str", .type "str", _, rfl, .ty _, hk.ty, kit_ty hk.kstr, _, rfl, iteF ?_⟩
      refine ⟨.ref a, rfl, a, _, 0, .str "order", rfl, rfl, S, atI_nat (j := 0) rfl, small_le (by decide), fun t ht => ⟨t, _, rfl, .inr (.inl (.inl upd_same)), rfl, rfl, _, rfl, ite2 (fun e => ?_) (fun e => ?_)⟩⟩
      · exact absurd e (by decide +kernel)
      · have g1 := g0.new (o := .tup [V.str "cut", .str "keep"]) ht
        have S1 := (toH g1).seqT S
        refine ⟨.ref a, rfl, a, _, 0, .str "order", rfl, rfl, S1, atI_nat (j := 0) rfl, rfl, _, rfl, iteTd ?_⟩
        refine ⟨.ref a, rfl, a, _, rfl, .inr S1, rfl, _, rfl, iteT ?_⟩
        have t1 := lth g1 q2 (.inl ok.1)
        refine ⟨.ref a, rfl, a, _, 1, y, rfl, rfl, S1, atI_nat (j := 1) rfl, y, "tuple", _, rfl, t1.1, t1.2, g1.1, fun H2 g2 => ⟨_, rfl, ?_⟩⟩
        rw [LnOk.put ok.1]
        have g12 := g1.trans g2
        have t2 := lth g12 q3 (.inl ok.2)
        refine iteT ⟨.ref a, rfl, a, _, 2, z, rfl, rfl, (toH g12).seqT S, atI_nat (j := 2) rfl, z, "tuple", _, rfl, t2.1, t2.2, g12.1, fun H3 g3 => ?_⟩
        rw [LnOk.put ok.2]
        exact q _ (g12.trans g3)
    | put la lb ts =>
      obtain ⟨a, _, rfl, S, ds⟩ := Dp.tupI dd
      obtain ⟨x, y, z, u, rfl, q1, q2, q3, q4⟩ := DpAll.i4 ds
      cases Dp.strI q1
      have hk : Th K H (.str "put") "str" none := .str _ (small_le (by decide +kernel))
      refine ⟨.ref a, rfl, .ref a, .ty "tuple", .type "tuple", .type "tuple", _, rfl, .ty _, (Th.tup S).ty, kit_ty (Th.tup S).ktup, _, rfl, iteF ?_⟩
      refine ⟨.ref a, rfl, a, _, rfl, .inr S, _, _, rfl, rfl, _, rfl, iteF ?_⟩
      refine ⟨.ref a, rfl, a, _, 0, .str "put", rfl, rfl, S, atI_nat (j := 0) rfl, _, .ty "str", .type "str", .type "str", _, rfl, .ty _, hk.ty, kit_ty hk.kstr, _, rfl, iteF ?_⟩
      refine ⟨.ref a, rfl, a, _, 0, .str "put", rfl, rfl, S, atI_nat (j := 0) rfl, small_le (by decide), fun t ht => ⟨t, _, rfl, .inr (.inl (.inl upd_same)), rfl, rfl, _, rfl, ite2 (fun e => ?_) (fun e => ?_)⟩⟩
      · exact absurd e (by decide +kernel)
      · have g1 := g0.new (o := .tup [V.str "cut", .str "keep"]) ht
        have S1 := (toH g1).seqT S
        refine ⟨.ref a, rfl, a, _, 0, .str "put", rfl, rfl, S1, atI_nat (j := 0) rfl, rfl, _, rfl, iteFd ?_⟩
        refine ⟨.ref a, rfl, a, _, 0, .str "put", rfl, rfl, S1, atI_nat (j := 0) rfl, rfl, _, rfl, iteTd ?_⟩
        refine ⟨.ref a, rfl, a, _, rfl, .inr S1, rfl, _, rfl, iteT ?_⟩
        refine ⟨.ref a, rfl, a, _, 1, y, rfl, rfl, S1, atI_nat (j := 1) rfl, .ref a, rfl, a, _, 2, z, rfl, rfl, S1, atI_nat (j := 2) rfl, .ref a, rfl, a, _, 3, u, rfl, rfl, S1, atI_nat (j := 3) rfl, ?_⟩
        exact ⟨y, z, u, la, lb, ts, rfl, Dp.sub (toH g1) _ _ q2, ok.1, Dp.sub (toH g1) _ _ q3, ok.2.1, Dp.sub (toH g1) _ _ q4, ok.2.2, fit.2.2.2.1, fit.2.2.2.2, g1.1, fun H2 g2 => q _ (g1.trans g2)⟩
end
end K1
set_option Elab.async false
set_option linter.all false
set_option maxRecDepth 100000
set_option maxHeartbeats 400000
/-! The program's defs: _many_deeds, _can_do: of good deeds. -/
namespace K1
open PySem PySem.Spec PyProof.Rows L2
section
variable {P : Program} {w : World} {K : PySem.W.Frag} {mg : Str → Option Value} {base : Heap} {T : Tp}

/-! ### _many_deeds -/
def spManyD (K : PySem.W.Frag) (T : Tp) : Sp := fun vs H Q _ => ∃ (l : Addr) (dvs : List V) (ds : List Deed), vs = [.ref l] ∧ SqL K H l dvs ∧ DpAll K H dvs (ds.map eD) ∧ (∀ d ∈ ds, d.ok ∧ d.fit) ∧ ds.length ≤ 1000 ∧ TG T H ∧ ∀ H', Go T D0 H H' → Q (.int (ds.length : Nat)) H'
theorem ok_manyd {f : Addr} {fd : FuncData} {k : Nat} (F : Fun K "_many_deeds" "_many_deeds" sManyDeeds f fd) (M : Mg K mg) (cD : Cal P w K mg base k "_is_deed" ["thing"] (spIsDeed K T)) : FnOk P w K mg base CX0 (k + 1) f fd ["things"] (spManyD K T) := by
  refine F.ok scManyDeeds (fun vs H Q E h => ?_) (fun cdv A outer s H vs Q E hr h => ?_)
  · obtain ⟨l, dvs, ds, rfl, _⟩ := h
    rfl
  · obtain ⟨l, dvs, ds, rfl, S, dds, ok, len, tg, q⟩ := h
    refine ⟨_, (pss_cons (ps_for PassesOwn.never rfl (pi_enum (by rfl) M.enum_ (pa_cons (pv 0) pa_nil)) (pg_tup rfl (pgs_cons (pg_name (i := 1) scManyDeeds.nd rfl (.inl rfl)) (pgs_cons (pg_name (i := 2) scManyDeeds.nd rfl (.inl rfl)) pgs_nil)))
      (pss_one (ps_if (pt_not (pt_val (pe_cal cD hr (by rfl) (pa_cons (pv 2) pa_nil))))
      (pss_one ps_never)
      pss_nil)))
      (pss_one (ps_ret (pe_callB call_len_seq (by rfl) M.len_ PySem.boot_len (pa_cons (pv 0) pa_nil))))), ?_⟩
    have toH : ∀ {H'}, Go T D0 H H' → Sub H H' := fun g => sub_go g tg
    have g0 : Go T D0 H H := Go.rfl' tg
    have dlen : dvs.length = ds.length := by rw [DpAll.len dds, List.length_map]
    refine ⟨.ref l, rfl, l, dvs, rfl, S, ?_⟩
    refine for_it (walk_enum (K := K) (a := l) (xs := dvs)) (fun i σ H5 => ∃ (y1 y2 : Option V), σ = [some (.ref l), y1, y2] ∧ Go T D0 H H5) ?_ ?_ ?_ ?_
    · exact ⟨_, _, rfl, g0⟩
    · rintro i σ H5 hi ⟨y1, y2, rfl, g5⟩
      exact (toH g5).seqL S
    · rintro i v σ H5 H5' hi ⟨y1, y2, rfl, g5⟩ ⟨T', x', y', rfl, hT, rfl, hx', hy'⟩
      cases hx'
      have hy' : dvs[i]? = some y' := hy'
      obtain ⟨d0, hd0, dp⟩ := DpAll.at' dds hy'
      rw [List.getElem?_map] at hd0
      cases hdi : ds[i]? with
      | none => rw [hdi] at hd0; cases hd0
      | some d =>
        rw [hdi] at hd0
        cases hd0
        have g6 := g5.new (o := .tup [V.int (i : Nat), y']) hT
        have okd := ok d (List.mem_of_getElem? hdi)
        refine ⟨T', _, rfl, .inl (.inl upd_same), rfl, _, _, rfl, _, _, rfl, rfl, ?_⟩
        exact ⟨y', rfl, y', d, rfl, Dp.sub (toH g6) _ _ dp, okd.1, okd.2, g6.1, fun H7 g7 => ⟨_, rfl, iteF ⟨_, _, rfl, g6.trans g7⟩⟩⟩
    · rintro σ H5 ⟨y1, y2, rfl, g5⟩
      refine ⟨.ref l, rfl, l, dvs, rfl, .inl ((toH g5).seqL S), ?_⟩
      rw [dlen]
      exact q _ g5

/-! ### _can_do -/
def ownOk (n : Nm) (m : Int) (d : Deed) : Prop := ∀ l ∈ d.lines, nmOf l = n → l.2.2 ≤ m
def spCanDo (K : PySem.W.Frag) (T : Tp) : Sp := fun vs H Q _ => ∃ (v nv : V) (d : Deed) (n : Nm) (m : Int), vs = [v, nv, .int m] ∧ Dp K H v (eD d) ∧ Dp K H nv (eN n) ∧ NmOk n ∧ d.ok ∧ d.fit ∧ ownOk n m d ∧ TG T H ∧ ∀ H', Go T D0 H H' → Q (.bl true) H'
theorem ok_cando {f : Addr} {fd : FuncData} {k : Nat} (F : Fun K "can_do" "can_do" sCanDo f fd) (M : Mg K mg) : FnOk P w K mg base CX0 (k + 1) f fd ["deed", "own", "many"] (spCanDo K T) := by
  obtain ⟨aH, mH, sH⟩ := M.hd
  obtain ⟨aF, mF, sF⟩ := M.ft
  refine F.ok scCanDo (fun vs H Q E h => ?_) (fun cdv A outer s H vs Q E hr h => ?_)
  · obtain ⟨v, nv, d, n, m, rfl, _⟩ := h
    rfl
  · obtain ⟨v, nv, d, n, m, rfl, dd, dn, on_, ok, fit, own, tg, q⟩ := h
    refine ⟨_, (pss_cons (ps_set (i := 3) scCanDo.nd rfl (.inl rfl) (pe_ix ix_tup (pv 0) pe_int (fun _ _ => rfl)))
      (pss_cons (ps_if (PW.pt (pw_and (pt_cmpR op_gt (pe_ix ix_tup (pv 3) pe_int (fun _ _ => rfl)) (pv 2) (nomark _)) (pw_and1 (pt_cmpR (op_eqD hr.units) (pe_slice sl_tupA (pv 3) po_none (po_some pe_int)) (pv 1) (nomark _)))))
      (pss_one (ps_ret pe_bl))
      pss_nil)
      (pss_cons (ps_if (pt_cmpR op_eq (pe_callB call_len_seq (by rfl) M.len_ PySem.boot_len (pa_cons (pv 0) pa_nil)) pe_int (nomark _))
      (pss_one (ps_ret pe_bl))
      pss_nil)
      (pss_cons (ps_set (i := 4) scCanDo.nd rfl (.inl rfl) (pe_ix ix_tup (pv 0) pe_int (fun _ _ => rfl)))
      (pss_cons (ps_if (PW.pt (pw_and (pt_cmpR op_gt (pe_ix ix_tup (pv 4) pe_int (fun _ _ => rfl)) (pv 2) (nomark _)) (pw_and1 (pt_cmpR (op_eqD hr.units) (pe_slice sl_tupA (pv 4) po_none (po_some pe_int)) (pv 1) (nomark _)))))
      (pss_one (ps_ret pe_bl))
      pss_nil)
      (pss_one (ps_ret (pe_and (pe_cmpR (op_neD hr.units) (pv 3) (pv 4) (nomark _)) (pe_and (pe_cmpR (op_neD hr.units) (pv 3) (pe_glob (v := .ref aF) (by rfl) mF rfl) (nomark _)) (pe_one (pe_cmpR (op_neD hr.units) (pv 4) (pe_glob (v := .ref aH) (by rfl) mH rfl) (nomark _)))))))))))), ?_⟩
    have toH : ∀ {H'}, Go T D0 H H' → Sub H H' := fun g => sub_go g tg
    have g0 : Go T D0 H H := Go.rfl' tg
    have shL : ∀ {l}, EdOk l → SeqAt.shaped (eL l) = true := fun o => eL_sh o.str
    have shN : ∀ {l}, EdOk l → SeqAt.shaped (eN (nmOf l)) = true := fun o => shaped_of (eN_lay (by exact o.str)) (by rw [eN_dep]; decide)
    have dH : ∀ H', Dp K H' (.ref aH) (eL headL) := fun H' => .tup (sH H') (.cons (.str _) (.cons (.int _) (.one (.int _))))
    have dF : ∀ H', Dp K H' (.ref aF) (eL footL) := fun H' => .tup (sF H') (.cons (.str _) (.cons (.int _) (.one (.int _))))
    have cut_ : ∀ {H' : Hp} {t : Addr} {l : Ln}, H' t = some (.tup (cutV [V.str l.1, .int l.2.1, .int l.2.2] none (some 2))) → Dp K H' (.ref t) (eN (nmOf l)) := fun e => .tup (.inl (.inl e)) (.cons (.str _) (.one (.int _)))
    have lnI : ∀ {H' v l}, Dp K H' v (eL l) → ∃ a, v = .ref a ∧ SqT K H' a [V.str l.1, .int l.2.1, .int l.2.2] := fun dl => by
      obtain ⟨a, xs, rfl, S, q⟩ := Dp.tupI dl
      obtain ⟨x, y, z, rfl, q1, q2, q3⟩ := DpAll.i3 q
      cases Dp.strI q1
      cases Dp.intI q2
      cases Dp.intI q3
      exact ⟨a, rfl, S⟩
    have lnNe : ∀ {l : Ln}, LnOk l → l ≠ headL ∧ l ≠ footL := fun h => by
      have h1 := h.1.2.1
      constructor
      · rintro rfl
        exact absurd h1 (by decide)
      · rintro rfl
        exact absurd h1 (by decide)
    have no : ∀ {l : Ln}, l ∈ d.lines → decide (m < l.2.2) = true → ¬ (PyData.eqv (eN (nmOf l)) (eN n)) = true := fun hl e z => by
      rw [eN_eqv] at z
      have := own _ hl (of_decide_eq_true z)
      have := of_decide_eq_true e
      omega
    have parts : ∃ a kd y tl l0, v = .ref a ∧ SqT K H a (V.str kd :: y :: tl) ∧ Dp K H y (eL l0) ∧ EdOk l0 ∧ l0 ∈ d.lines ∧ (tl = [] ∨ ∃ z tl' l1, tl = z :: tl' ∧ Dp K H z (eL l1) ∧ EdOk l1 ∧ l1 ∈ d.lines ∧ l0 ≠ l1 ∧ l0 ≠ footL ∧ l1 ≠ headL) := by
      cases d with
      | one kp l =>
        obtain ⟨a, _, rfl, S, ds⟩ := Dp.tupI dd
        obtain ⟨x, y, rfl, q1, q2⟩ := DpAll.i2 ds
        cases Dp.strI q1
        exact ⟨a, _, y, [], l, rfl, S, q2, .inl ok, by simp [Deed.lines], .inl rfl⟩
      | order la lb =>
        obtain ⟨a, _, rfl, S, ds⟩ := Dp.tupI dd
        obtain ⟨x, y, z, rfl, q1, q2, q3⟩ := DpAll.i3 ds
        cases Dp.strI q1
        exact ⟨a, _, y, [z], la, rfl, S, q2, .inl ok.1, by simp [Deed.lines], .inr ⟨z, [], lb, rfl, q3, .inl ok.2, by simp [Deed.lines], fit, (lnNe ok.1).2, (lnNe ok.2).1⟩⟩
      | put la lb ts =>
        obtain ⟨a, _, rfl, S, ds⟩ := Dp.tupI dd
        obtain ⟨x, y, z, u, rfl, q1, q2, q3, q4⟩ := DpAll.i4 ds
        cases Dp.strI q1
        exact ⟨a, _, y, [z, u], la, rfl, S, q2, ok.1, by simp [Deed.lines], .inr ⟨z, [u], lb, rfl, q3, ok.2.1, by simp [Deed.lines], fit.1, fit.2.1, fit.2.2.1⟩⟩
    obtain ⟨a, kd, y, tl, l0, rfl, S, dy, o0, i0, more⟩ := parts
    obtain ⟨ay, rfl, Sy⟩ := lnI dy
    refine ⟨.ref a, rfl, a, _, 1, .ref ay, rfl, rfl, S, atI_nat (j := 1) rfl, ?_⟩
    apply twice (A := fun H2 => Go T D0 H H2)
    case use =>
      intro rest
      refine ⟨.ref ay, rfl, ay, _, 2, .int l0.2.2, rfl, rfl, Sy, atI_nat (j := 2) rfl, .int m, rfl, _, _, rfl, rfl, _, rfl, ite2 (fun e => ⟨.ref ay, rfl, 2, rfl, ay, _, rfl, Sy, fun z => absurd z (show ¬ (HT.sIx 3 0 none = 0 ∧ HT.sIx 3 3 (some 2) = 3) by decide), fun _ t ht => ?u1⟩) (fun e => ?u2)⟩
      case u1 =>
        have g2 := g0.new (o := .tup (cutV [V.str l0.1, .int l0.2.1, .int l0.2.2] none (some 2))) ht
        have et : (upd H t (.tup (cutV [V.str l0.1, .int l0.2.1, .int l0.2.2] none (some 2)))) t = _ := upd_same
        generalize upd H t (.tup (cutV [V.str l0.1, .int l0.2.1, .int l0.2.2] none (some 2))) = H2 at g2 et ⊢
        exact ⟨nv, rfl, _, _, cut_ et, Dp.sub (toH g2) _ _ dn, shN o0, on_.sh, _, rfl, ite2 (fun e' => absurd e' (no i0 e)) (fun e' => rest H2 g2)⟩
      case u2 => exact rest H g0
    case h =>
      intro H2 g2
      have S2 := (toH g2).seqT S
      rcases more with rfl | ⟨z, tl', l1, rfl, dz, o1, i1, n1, n2, n3⟩
      · exact ⟨.ref a, rfl, a, _, rfl, .inr S2, rfl, _, rfl, iteT (q H2 g2)⟩
      · obtain ⟨az, rfl, Sz⟩ := lnI dz
        refine ⟨.ref a, rfl, a, _, rfl, .inr S2, rfl, _, rfl, ite2 (fun e => ?bad) (fun e => ?_)⟩
        case bad =>
          have e3 : ((tl'.length + 1 + 1 + 1 : Nat) : Int) = 2 := V.int.inj (of_decide_eq_true e)
          omega
        have Sz2 := (toH g2).seqT Sz
        refine ⟨.ref a, rfl, a, _, 2, .ref az, rfl, rfl, S2, atI_nat (j := 2) rfl, ?_⟩
        apply twice (A := fun H3 => Go T D0 H H3)
        case use =>
          intro rest2
          refine ⟨.ref az, rfl, az, _, 2, .int l1.2.2, rfl, rfl, Sz2, atI_nat (j := 2) rfl, .int m, rfl, _, _, rfl, rfl, _, rfl, ite2 (fun e => ⟨.ref az, rfl, 2, rfl, az, _, rfl, Sz2, fun z => absurd z (show ¬ (HT.sIx 3 0 none = 0 ∧ HT.sIx 3 3 (some 2) = 3) by decide), fun _ t ht => ?u3⟩) (fun e => ?u4)⟩
          case u3 =>
            have g3 := g2.new (o := .tup (cutV [V.str l1.1, .int l1.2.1, .int l1.2.2] none (some 2))) ht
            have et : (upd H2 t (.tup (cutV [V.str l1.1, .int l1.2.1, .int l1.2.2] none (some 2)))) t = _ := upd_same
            generalize upd H2 t (.tup (cutV [V.str l1.1, .int l1.2.1, .int l1.2.2] none (some 2))) = H3 at g3 et ⊢
            exact ⟨nv, rfl, _, _, cut_ et, Dp.sub (toH g3) _ _ dn, shN o1, on_.sh, _, rfl, ite2 (fun e' => absurd e' (no i1 e)) (fun e' => rest2 H3 g3)⟩
          case u4 => exact rest2 H2 g2
        case h =>
          intro H3 g3
          have dy3 := Dp.sub (toH g3) _ _ dy
          have dz3 := Dp.sub (toH g3) _ _ dz
          refine ⟨.ref ay, rfl, .ref az, rfl, _, _, dy3, dz3, shL o0, shL o1, _, rfl, ?_⟩
          rw [eL_eqv, decide_eq_false n1]
          refine iteT ⟨.ref ay, rfl, _, _, dy3, dF H3, shL o0, shL (.inr (.inr rfl)), _, rfl, ?_⟩
          rw [eL_eqv, decide_eq_false n2]
          refine iteT ⟨.ref az, rfl, _, _, dz3, dH H3, shL o1, shL (.inr (.inl rfl)), ?_⟩
          rw [eL_eqv, decide_eq_false n3]
          exact q H3 g3
end
end K1
set_option Elab.async false
set_option linter.all false
set_option maxRecDepth 100000
set_option maxHeartbeats 400000
/-! The program's defs: _many_put, _can_know: of good ones. -/
namespace K1
open PySem PySem.Spec PyProof.Rows L2
theorem manyAt_succ {ds : List Deed} {i : Nat} {d : Deed} (h : ds[i]? = some d) : manyAt ds (i + 1) = manyAt ds i + d.texts.length := by
  unfold manyAt
  rw [List.take_add_one, h, List.flatMap_append, List.length_append]
  simp
section
variable {P : Program} {w : World} {K : PySem.W.Frag} {mg : Str → Option Value} {base : Heap} {T : Tp}

/-! ### _many_put -/
def spManyP (K : PySem.W.Frag) (T : Tp) : Sp := fun vs H Q _ => ∃ (nv : V) (l : Addr) (dvs : List V) (n : Nm) (ds : List Deed), vs = [nv, .ref l] ∧ Dp K H nv (eN n) ∧ NmOk n ∧ SqL K H l dvs ∧ DpAll K H dvs (ds.map eD) ∧ (∀ d ∈ ds, d.ok ∧ d.fit) ∧
  (∀ i d, ds[i]? = some d → ownOk n (manyAt ds i : Nat) d) ∧ TG T H ∧ ∀ H', Go T D0 H H' → Q (.int (manyAt ds ds.length : Nat)) H'
theorem ok_manyp {f : Addr} {fd : FuncData} {k : Nat} (F : Fun K "_many_put" "_many_put" sManyPut f fd) (M : Mg K mg) (cD : Cal P w K mg base k "can_do" ["deed", "own", "many"] (spCanDo K T)) : FnOk P w K mg base CX0 (k + 1) f fd ["name", "deeds"] (spManyP K T) := by
  refine F.ok scManyPut (fun vs H Q E h => ?_) (fun cdv A outer s H vs Q E hr h => ?_)
  · obtain ⟨nv, l, dvs, n, ds, rfl, _⟩ := h
    rfl
  · obtain ⟨nv, l, dvs, n, ds, rfl, dn, on_, S, dds, ok, own, tg, q⟩ := h
    refine ⟨_, (pss_cons (ps_set (i := 2) scManyPut.nd rfl (.inl rfl) pe_int)
      (pss_cons (ps_for PassesOwn.never rfl (pi_enumK 1 (by decide) (by rfl) M.enum_ (pa_cons (pv 1) pa_nil)) (pg_tup rfl (pgs_cons (pg_name (i := 3) scManyPut.nd rfl (.inl rfl)) (pgs_cons (pg_name (i := 4) scManyPut.nd rfl (.inl rfl)) pgs_nil)))
      (pss_cons (ps_if (pt_not (pt_val (pe_cal cD hr (by rfl) (pa_cons (pv 4) (pa_cons (pv 0) (pa_cons (pv 2) pa_nil))))))
      (pss_one ps_never)
      pss_nil)
      (pss_one (ps_if (pt_cmpR op_eq (pe_ix ix_tup (pv 4) pe_int (fun _ _ => rfl)) pe_str (nomark _))
      (pss_one (ps_aug (i := 2) scManyPut.nd rfl (.inl rfl) (pe_callB call_len_seq (by rfl) M.len_ PySem.boot_len (pa_cons (pe_ix ix_tup (pv 4) pe_int (fun _ _ => rfl)) pa_nil)) ip_add))
      pss_nil))))
      (pss_one (ps_ret (pv 2))))), ?_⟩
    have toH : ∀ {H'}, Go T D0 H H' → Sub H H' := fun g => sub_go g tg
    have g0 : Go T D0 H H := Go.rfl' tg
    have dlen : dvs.length = ds.length := by rw [DpAll.len dds, List.length_map]
    refine ⟨.ref l, rfl, l, dvs, rfl, S, ?_⟩
    refine for_it (walk_enumK (K := K) (a := l) (xs := dvs) (k := 1)) (fun i σ H5 => ∃ (y1 y2 : Option V), σ = [some nv, some (.ref l), some (.int (manyAt ds i : Nat)), y1, y2] ∧ Go T D0 H H5) ?_ ?_ ?_ ?_
    · exact ⟨_, _, rfl, g0⟩
    · rintro i σ H5 hi ⟨y1, y2, rfl, g5⟩
      exact (toH g5).seqL S
    · rintro i v σ H5 H5' hi ⟨y1, y2, rfl, g5⟩ ⟨T', x', y', rfl, hT, rfl, hx', hy'⟩
      cases hx'
      have hy' : dvs[i]? = some y' := hy'
      obtain ⟨d0, hd0, dp⟩ := DpAll.at' dds hy'
      rw [List.getElem?_map] at hd0
      cases hdi : ds[i]? with
      | none => rw [hdi] at hd0; cases hd0
      | some d =>
        rw [hdi] at hd0
        cases hd0
        have g6 := g5.new (o := .tup [V.int ((1 + i : Nat)), y']) hT
        have okd := ok d (List.mem_of_getElem? hdi)
        have own' := own i d hdi
        have ms := manyAt_succ hdi
        refine ⟨T', _, rfl, .inl (.inl upd_same), rfl, _, _, rfl, _, _, rfl, rfl, ?_⟩
        generalize upd H5 T' (.tup [V.int ((1 + i : Nat)), y']) = H6 at g6 ⊢
        refine ⟨y', rfl, nv, rfl, _, rfl, y', nv, d, n, _, rfl, Dp.sub (toH g6) _ _ dp, Dp.sub (toH g6) _ _ dn, on_, okd.1, okd.2, own', g6.1, fun H7 g7 => ⟨_, rfl, iteF ?_⟩⟩
        have g8 := g6.trans g7
        obtain ⟨a, lvs, tl, rfl, Sd, dl, hc⟩ := deed_parts (Dp.sub (toH g8) _ _ dp)
        refine ⟨.ref a, rfl, a, _, 0, .str d.kind, rfl, rfl, Sd, atI_nat (j := 0) rfl, rfl, _, rfl, ite2 (fun e => ?_) (fun e => ?_)⟩
        · have ek : d.kind = "put" := V.str.inj (of_decide_eq_true e)
          rcases hc with ⟨_, h2, t, rfl, St⟩ | ⟨n1, _⟩ | ⟨n1, _⟩
          · obtain ⟨x, y, rfl⟩ := len2 h2
            refine ⟨_, rfl, .ref a, rfl, a, _, 3, .ref t, rfl, rfl, Sd, atI_nat (j := 3) rfl, t, _, rfl, .inr St, _, _, rfl, rfl, some (V.int ((1 + i : Nat))), some (V.ref a), ?_, g8⟩
            rw [ms, List.length_map]
            rfl
          · rw [ek] at n1
            exact absurd n1 (by decide +kernel)
          · exact absurd ek n1
        · have ek : ¬ d.kind = "put" := fun z => e (decide_eq_true (by rw [z]))
          have e0 : d.texts = [] := by
            rcases hc with ⟨h, _⟩ | ⟨_, _, _, h⟩ | ⟨_, _, _, _, h⟩
            · exact absurd h ek
            · exact h
            · exact h
          refine ⟨some (V.int ((1 + i : Nat))), some (V.ref a), ?_, g8⟩
          rw [ms, e0]
          rfl
    · rintro σ H5 ⟨y1, y2, rfl, g5⟩
      rw [dlen]
      exact ⟨_, rfl, q _ g5⟩

/-! ### _can_know -/
def spCanKnow (K : PySem.W.Frag) (T : Tp) : Sp := fun vs H Q _ => ∃ (nv : V) (l : Addr) (kvs : List V) (n : Nm) (ns : List Nm), vs = [nv, .ref l] ∧ Dp K H nv (eN n) ∧ NmOk n ∧ SqL K H l kvs ∧ DpAll K H kvs (ns.map eN) ∧ (∀ m ∈ ns, NmOk m) ∧
  ns.Pairwise (fun a b => nmLt a b = true) ∧ n ∉ ns ∧ TG T H ∧ ∀ H', Go T D0 H H' → Q (.bl true) H'
theorem ok_canknow {f : Addr} {fd : FuncData} {k : Nat} (F : Fun K "can_know" "can_know" sCanKnow f fd) (M : Mg K mg) (cN : Cal P w K mg base k "is_name" ["thing"] (spName K T)) : FnOk P w K mg base CX0 (k + 1) f fd ["own", "knows"] (spCanKnow K T) := by
  refine F.ok scCanKnow (fun vs H Q E h => ?_) (fun cdv A outer s H vs Q E hr h => ?_)
  · obtain ⟨nv, l, kvs, n, ns, rfl, _⟩ := h
    rfl
  · obtain ⟨nv, l, kvs, n, ns, rfl, dn, on_, S, dks, ok, asc, nin, tg, q⟩ := h
    refine ⟨_, (pss_cons (ps_if (pt_not (pt_val (pe_callB call_isi (by rfl) M.ins boot_isinstance (pa_cons (pv 1) (pa_cons (pe_bltn (v := .ty "list") (by rfl) M.list_ (by decide +kernel) rfl) pa_nil)))))
      (pss_one (ps_ret pe_bl))
      pss_nil)
      (pss_cons (ps_set (i := 2) scCanKnow.nd rfl (.inl rfl) pe_non)
      (pss_cons (ps_for PassesOwn.never rfl (pi_list (pv 1)) (pg_name (i := 3) scCanKnow.nd rfl (.inl rfl))
      (pss_cons (ps_if (PW.pt (pw_or (pt_not (pt_val (pe_cal cN hr (by rfl) (pa_cons (pv 3) pa_nil)))) (pw_or (pt_cmpR (op_eqD hr.units) (pv 3) (pv 0) (nomark _)) (pw_or1 (PW.pt (pw_and (pt_cmpR op_notN (pv 2) pe_non (nomark _)) (pw_and1 (pt_cmpR (op_leD hr.units) (pv 3) (pv 2) (nomark _)))))))))
      (pss_one (ps_ret pe_bl))
      pss_nil)
      (pss_one (ps_set (i := 2) scCanKnow.nd rfl (.inl rfl) (pv 3)))))
      (pss_one (ps_ret pe_bl))))), ?_⟩
    have toH : ∀ {H'}, Go T D0 H H' → Sub H H' := fun g => sub_go g tg
    have g0 : Go T D0 H H := Go.rfl' tg
    have klen : kvs.length = ns.length := by rw [DpAll.len dks, List.length_map]
    refine ⟨.ref l, rfl, .ref l, .ty "list", .type "list", .type "list", _, rfl, .ty _, (Th.lst S).ty, kit_ty (Th.lst S).klst, _, rfl, iteF ?_⟩
    refine ⟨.ref l, rfl, l, rfl, ⟨_, S⟩, ?_⟩
    refine for_list (K := K) (a := l) (xs := kvs) (fun i σ H5 => ∃ (bv : V) (y1 : Option V), σ = [some nv, some (.ref l), some bv, y1] ∧ Go T D0 H H5 ∧ ((i = 0 ∧ bv = .non) ∨ ∃ j m, i = j + 1 ∧ ns[j]? = some m ∧ bv ≠ .non ∧ Dp K H bv (eN m))) ?_ ?_ ?_ ?_
    · exact ⟨_, _, rfl, g0, .inl ⟨rfl, rfl⟩⟩
    · rintro i σ H5 hi ⟨bv, y1, rfl, g5, _⟩
      exact (toH g5).seqL S
    · rintro i x σ H5 hx ⟨bv, y1, rfl, g5, hb⟩
      obtain ⟨d0, hd0, dp⟩ := DpAll.at' dks hx
      rw [List.getElem?_map] at hd0
      cases hdi : ns[i]? with
      | none => rw [hdi] at hd0; cases hd0
      | some m =>
        rw [hdi] at hd0
        cases hd0
        have okm := ok m (List.mem_of_getElem? hdi)
        have t5 := nm_th (Dp.sub (toH g5) _ _ dp) (by have := (handOk okm.1).2; omega)
        refine ⟨x, rfl, x, "tuple", _, rfl, t5.1, t5.2, g5.1, fun H6 g6 => ⟨_, rfl, ?_⟩⟩
        rw [okm.v]
        have g7 := g5.trans g6
        refine iteF ⟨x, rfl, nv, rfl, _, _, Dp.sub (toH g7) _ _ dp, Dp.sub (toH g7) _ _ dn, okm.sh, on_.sh, _, rfl, ?_⟩
        rw [eN_eqv, decide_eq_false (show ¬ m = n from fun z => nin (z ▸ List.mem_of_getElem? hdi))]
        have xnon : x ≠ .non := by
          obtain ⟨a, xs, rfl, _⟩ := Dp.tupI dp
          exact fun z => nomatch z
        have fin : ∃ (bv' : V) (y1 : Option V), [some nv, some (.ref l), some x, some x] = [some nv, some (.ref l), some bv', y1] ∧ Go T D0 H H6 ∧ ((i + 1 = 0 ∧ bv' = .non) ∨ ∃ j m, i + 1 = j + 1 ∧ ns[j]? = some m ∧ bv' ≠ .non ∧ Dp K H bv' (eN m)) :=
          ⟨x, some x, rfl, g7, .inr ⟨i, m, rfl, hdi, xnon, dp⟩⟩
        refine iteF ⟨bv, rfl, rfl, _, rfl, ite2 (fun e => ?_) (fun e => ⟨x, rfl, fin⟩)⟩
        rcases hb with ⟨_, rfl⟩ | ⟨j, m', rfl, hj, nb, db⟩
        · exact absurd e (by decide)
        · have lt : nmLt m' m = true := by
            obtain ⟨h1, e1⟩ := List.getElem?_eq_some_iff.mp hj
            obtain ⟨h2, e2⟩ := List.getElem?_eq_some_iff.mp hdi
            have := List.pairwise_iff_getElem.mp asc j (j + 1) h1 h2 (Nat.lt_succ_self _)
            rw [e1, e2] at this
            exact this
          refine ⟨x, rfl, bv, rfl, _, _, Dp.sub (toH g7) _ _ dp, Dp.sub (toH g7) _ _ db, eN_alike m m', (by unfold eN; intro z; cases z), by rw [eN_dep]; decide, _, rfl, ?_⟩
          rw [show PySem.W.dataLt (eN m') (eN m) = true from lt]
          exact iteF ⟨x, rfl, fin⟩
    · rintro σ H5 ⟨bv, y1, rfl, g5, _⟩
      exact q _ g5
end
end K1
set_option Elab.async false
set_option linter.all false
set_option maxRecDepth 100000
set_option maxHeartbeats 400000
/-! The program's Patch, _patch_with, patch_of_parts: of good parts. -/
namespace K1
open PySem PySem.Spec PyProof.Rows L2
/-- what a patch must keep -/
structure Pat.good (p : Pat) : Prop where
  ok : p.ok
  fit : ∀ d ∈ p.deeds, d.fit
  own : ∀ i d, p.deeds[i]? = some d → ownOk p.name (manyAt p.deeds i : Nat) d
  asc : p.knows.Pairwise fun a b => nmLt a b = true
  nin : p.name ∉ p.knows
  most : p.deeds.length ≤ 400
def manyOf (p : Pat) : Nat := manyAt p.deeds p.deeds.length
/-- the object at x is a patch with p's parts -/
def MadeN (n : Nat) (K : PySem.W.Frag) (C : Addr) (H : Hp) (x : Addr) (p : Pat) : Prop := ∃ dx fs nv kv dv, H x = some (.ins C dx fs) ∧ fs.length ≤ n ∧ fs.lookup ("name" : Str) = some nv ∧ fs.lookup ("knows" : Str) = some kv ∧ fs.lookup ("deeds" : Str) = some dv ∧ fs.lookup ("many" : Str) = some (.int (manyOf p : Nat)) ∧ fs.lookup ("told" : Str) = none ∧
  Dp K H nv (eN p.name) ∧ Dp K H kv (.tuple (p.knows.map eN)) ∧ Dp K H dv (.tuple (p.deeds.map eD))
abbrev Made := MadeN 10
theorem Made.pat {K : PySem.W.Frag} {C : Addr} {H : Hp} {x : Addr} {p : Pat} (m : Made K C H x p) : PatAt K C H (.ref x) p := by
  obtain ⟨dx, fs, nv, kv, dv, h1, _, h2, h3, h4, _, _, h5, h6, h7⟩ := m
  exact ⟨x, dx, fs, nv, kv, dv, rfl, h1, h2, h3, h4, h5, h6, h7⟩
theorem cut_all (xs : List V) : cutV xs none (some ((xs.length : Nat) : Int)) = xs := by
  unfold cutV
  have e1 : HT.sIx xs.length 0 none = 0 := rfl
  have e2 : HT.sIx xs.length xs.length (some ((xs.length : Nat) : Int)) = xs.length := by rw [HT.sIx_nat, Nat.min_self]
  rw [e1, e2, List.drop_zero, Nat.sub_zero, List.take_length]
theorem lk {fs : List (Str × V)} {f g : Str} {v : V} (h : (g = f) = False) : (putF f v fs).lookup g = fs.lookup g := by rw [lookup_putF, if_neg (by rw [h]; exact id)]
theorem lk' {fs : List (Str × V)} {f : Str} {v : V} : (putF f v fs).lookup f = some v := by rw [lookup_putF, if_pos rfl]
theorem lns {fs : List (Str × V)} {f : Str} {v : V} {n : Nat} (h : fs.length ≤ n) : (putF f v fs).length ≤ n + 1 := Nat.le_trans (length_putF f v fs) (Nat.add_le_add_right h 1)
section
variable {P : Program} {w : World} {K : PySem.W.Frag} {mg : Str → Option Value} {base : Heap} {T : Tp}

/-! ### Patch.__init__ -/
def spInit (K : PySem.W.Frag) (C : Addr) (T : Tp) : Sp := fun vs H Q _ => ∃ (x dx : Addr) (nv : V) (kl dl : Addr) (kvs dvs : List V) (p : Pat), vs = [.ref x, nv, .ref kl, .ref dl] ∧ H x = some (.ins C dx []) ∧ Dp K H nv (eN p.name) ∧ SqL K H kl kvs ∧ DpAll K H kvs (p.knows.map eN) ∧
  SqL K H dl dvs ∧ DpAll K H dvs (p.deeds.map eD) ∧ p.good ∧ TG T H ∧ ∀ H', Go T (· = x) H H' → MadeN 7 K C H' x p → Q .non H'
theorem ok_init {f C : Addr} {fd : FuncData} {k : Nat} (F : Fun K "__init__" "Patch.__init__" sPatch_init f fd) (M : Mg K mg) (N : Mp mg) (PC : PCls K C) (cN : Cal P w K mg base k "is_name" ["thing"] (spName K T)) (cK : Cal P w K mg base k "can_know" ["own", "knows"] (spCanKnow K T))
    (cD : Cal P w K mg base k "_many_deeds" ["things"] (spManyD K T)) (cM : Cal P w K mg base k "_many_put" ["name", "deeds"] (spManyP K T)) : FnOk P w K mg base CX0 (k + 1) f fd ["self", "name", "knows", "deeds"] (spInit K C T) := by
  obtain ⟨tk, hD⟩ := N.mostD
  refine F.ok scPatch_init (fun vs H Q E h => ?_) (fun cdv A outer s H vs Q E hr h => ?_)
  · obtain ⟨x, dx, nv, kl, dl, kvs, dvs, p, rfl, _⟩ := h
    rfl
  · obtain ⟨x, dx, nv, kl, dl, kvs, dvs, p, rfl, ex, dn, Sk, dks, Sd, dds, gd, tg, q⟩ := h
    refine ⟨_, (pss_cons (ps_if (PW.pt (pw_or (pt_not (pt_val (pe_cal cN hr (by rfl) (pa_cons (pv 1) pa_nil)))) (pw_or1 (pt_not (pt_val (pe_cal cK hr (by rfl) (pa_cons (pv 1) (pa_cons (pv 2) pa_nil))))))))
      (pss_one ps_never)
      pss_nil)
      (pss_cons (ps_if (PW.pt (pw_or (pt_not (pt_val (pe_callB call_isi (by rfl) M.ins boot_isinstance (pa_cons (pv 3) (pa_cons (pe_bltn (v := .ty "list") (by rfl) M.list_ (by decide +kernel) rfl) pa_nil))))) (pw_or1 (pt_cmpR op_gt (pe_callB call_len_seq (by rfl) M.len_ PySem.boot_len (pa_cons (pv 3) pa_nil)) (pe_glob (v := .int 400) (by rfl) hD ⟨_, rfl⟩) (nomark _)))))
      (pss_one ps_never)
      pss_nil)
      (pss_cons (ps_set (i := 4) scPatch_init.nd rfl (.inl rfl) (pe_cal cD hr (by rfl) (pa_cons (pv 3) pa_nil)))
      (pss_cons (ps_fld (pv 0) (pe_cal cM hr (by rfl) (pa_cons (pv 1) (pa_cons (pe_slice sl_list (pv 3) po_none (po_some (pv 4))) pa_nil))) (by rfl))
      (pss_cons (ps_if (pt_cmpR op_lt (pv 4) (pe_callB call_len_seq (by rfl) M.len_ PySem.boot_len (pa_cons (pv 3) pa_nil)) (nomark _))
      (pss_one ps_never)
      pss_nil)
      (pss_cons (ps_fld (pv 0) (pv 1) (by rfl))
      (pss_cons (ps_fld (pv 0) (pe_callTy call_tuple_of (by rfl) M.tuple_ (by decide +kernel) (pa_cons (pv 2) pa_nil)) (by rfl))
      (pss_cons (ps_fld (pv 0) (pe_callTy call_tuple_of (by rfl) M.tuple_ (by decide +kernel) (pa_cons (pv 3) pa_nil)) (by rfl))
      (pss_cons (ps_fld (pv 0) pe_non (by rfl))
      (pss_cons (ps_fld (pv 0) pe_non (by rfl))
      (pss_one (ps_fld (pv 0) pe_non (by rfl))))))))))))), ?_⟩
    have toH : ∀ {H'}, Go T D0 H H' → Sub H H' := fun g => sub_go g tg
    have g0 : Go T D0 H H := Go.rfl' tg
    have dlen : dvs.length = p.deeds.length := by rw [DpAll.len dds, List.length_map]
    have th0 := nm_th dn (by have := (handOk gd.ok.name.1).2; omega)
    have ex' : ∀ {H'}, Go T D0 H H' → H' x = some (.ins C dx []) := fun g => g.at tg (fun z => z) ex
    refine ⟨nv, rfl, nv, "tuple", _, rfl, th0.1, th0.2, tg, fun H1 g1 => ⟨_, rfl, ?_⟩⟩
    rw [gd.ok.name.v]
    refine iteF ⟨nv, rfl, .ref kl, rfl, nv, kl, kvs, p.name, p.knows, rfl, Dp.sub (toH g1) _ _ dn, gd.ok.name, (toH g1).seqL Sk, Dp.subs (toH g1) _ _ dks, gd.ok.knows, gd.asc, gd.nin, g1.1, fun H2 g2 => ⟨_, rfl, iteF ?_⟩⟩
    have g12 := g1.trans g2
    have S2 := (toH g12).seqL Sd
    refine ⟨.ref dl, rfl, .ref dl, .ty "list", .type "list", .type "list", _, rfl, .ty _, (Th.lst S2).ty, kit_ty (Th.lst S2).klst, _, rfl, iteF ?_⟩
    refine ⟨.ref dl, rfl, dl, _, rfl, .inl S2, _, _, rfl, rfl, _, rfl, ite2 (fun e => ?bad1) (fun _ => ?_)⟩
    case bad1 =>
      have := of_decide_eq_true e
      have := gd.most
      omega
    have okd : ∀ d ∈ p.deeds, d.ok ∧ d.fit := fun d hd => ⟨gd.ok.deeds d hd, gd.fit d hd⟩
    refine ⟨.ref dl, rfl, dl, dvs, p.deeds, rfl, S2, Dp.subs (toH g12) _ _ dds, okd, by have := gd.most; omega, g12.1, fun H3 g3 => ?_⟩
    have g13 := g12.trans g3
    have S3 := (toH g13).seqL Sd
    refine ⟨nv, rfl, .ref dl, rfl, .int _, rfl, _, rfl, dl, dvs, rfl, S3, fun t ht => ?_⟩
    rw [← dlen, cut_all]
    have g4 := g13.new (o := .lst dvs) ht
    have et : (upd H3 t (.lst dvs)) t = some (.lst dvs) := upd_same
    generalize upd H3 t (.lst dvs) = H4 at g4 et ⊢
    refine ⟨nv, t, dvs, p.name, p.deeds, rfl, Dp.sub (toH g4) _ _ dn, gd.ok.name, .inl (.inl et), Dp.subs (toH g4) _ _ dds, okd, gd.own, g4.1, fun H5 g5 => ?_⟩
    have g05 := g4.trans g5
    refine ⟨.ref x, rfl, x, C, dx, [], rfl, ex' g05, PC.cls, PC.many, by decide, ?_⟩
    have g6 : Go T (· = x) H (upd H5 x (.ins C dx (putF "many" (.int (manyAt p.deeds p.deeds.length : Nat)) []))) := g05.up.set rfl (ex' g05) (by intro ps z; cases z)
    have e6 : (upd H5 x (.ins C dx (putF "many" (.int (manyAt p.deeds p.deeds.length : Nat)) []))) x = _ := upd_same
    generalize upd H5 x (.ins C dx (putF "many" (.int (manyAt p.deeds p.deeds.length : Nat)) [])) = H6 at g6 e6 ⊢
    have subX : ∀ {H'}, Go T (· = x) H H' → Sub H H' := fun g => Sub.go g tg fun a z xs => by
      rw [z, ex]
      refine ⟨fun z => ?_, fun z => ?_, fun u => ⟨fun z => ?_, fun z => ?_⟩⟩ <;> cases z
    have S6 := (subX g6).seqL Sd
    refine ⟨.int _, rfl, .ref dl, rfl, dl, dvs, rfl, .inl S6, _, _, rfl, rfl, _, rfl, ite2 (fun e => ?bad2) (fun _ => ?_)⟩
    case bad2 =>
      have := of_decide_eq_true e
      omega
    refine ⟨nv, rfl, .ref x, rfl, x, C, dx, _, rfl, e6, PC.cls, PC.name, Nat.lt_of_le_of_lt (lns (Nat.le_of_eq rfl)) (by decide), ?_⟩
    have l1 : (putF "many" (.int (manyAt p.deeds p.deeds.length : Nat)) ([] : List (Str × V))).length ≤ 1 := lns (Nat.le_refl 0)
    generalize hf1 : putF "many" (.int (manyAt p.deeds p.deeds.length : Nat)) ([] : List (Str × V)) = f1 at e6 l1 ⊢
    have g7 : Go T (· = x) H (upd H6 x (.ins C dx (putF "name" nv f1))) := g6.set rfl e6 (by intro ps z; cases z)
    have e7 : (upd H6 x (.ins C dx (putF "name" nv f1))) x = _ := upd_same
    have l2 := lns (f := "name") (v := nv) l1
    generalize upd H6 x (.ins C dx (putF "name" nv f1)) = H7 at g7 e7 ⊢
    refine ⟨.ref kl, rfl, kl, kvs, rfl, .inl ⟨(subX g7).seqL Sk, fun kt hkt => ?_⟩⟩
    have g8 := g7.new (o := .tup kvs) hkt
    have e8 := (upd_ne (o := .tup kvs) (ne_of_none e7 hkt)).trans e7
    have k8 : (upd H7 kt (.tup kvs)) kt = some (.tup kvs) := upd_same
    generalize upd H7 kt (.tup kvs) = H8 at g8 e8 k8 ⊢
    refine ⟨.ref x, rfl, x, C, dx, _, rfl, e8, PC.cls, PC.knows, Nat.lt_of_le_of_lt l2 (by decide), ?_⟩
    have nk : x ≠ kt := fun z => by rw [z, k8] at e8; cases e8
    have g9 : Go T (· = x) H (upd H8 x (.ins C dx (putF "knows" (.ref kt) (putF "name" nv f1)))) := g8.set rfl e8 (by intro ps z; cases z)
    have e9 : (upd H8 x (.ins C dx (putF "knows" (.ref kt) (putF "name" nv f1)))) x = _ := upd_same
    have k9 := (upd_ne (o := .ins C dx (putF "knows" (.ref kt) (putF "name" nv f1))) nk.symm).trans k8
    have l3 := lns (f := "knows") (v := .ref kt) l2
    generalize upd H8 x (.ins C dx (putF "knows" (.ref kt) (putF "name" nv f1))) = H9 at g9 e9 k9 ⊢
    refine ⟨.ref dl, rfl, dl, dvs, rfl, .inl ⟨(subX g9).seqL Sd, fun dt hdt => ?_⟩⟩
    have g10 := g9.new (o := .tup dvs) hdt
    have e10 := (upd_ne (o := .tup dvs) (ne_of_none e9 hdt)).trans e9
    have k10 := (upd_ne (o := .tup dvs) (ne_of_none k9 hdt)).trans k9
    have d10 : (upd H9 dt (.tup dvs)) dt = some (.tup dvs) := upd_same
    generalize upd H9 dt (.tup dvs) = H10 at g10 e10 k10 d10 ⊢
    refine ⟨.ref x, rfl, x, C, dx, _, rfl, e10, PC.cls, PC.deeds, Nat.lt_of_le_of_lt l3 (by decide), ?_⟩
    have nd : x ≠ dt := fun z => by rw [z, d10] at e10; cases e10
    have g11 : Go T (· = x) H (upd H10 x (.ins C dx (putF "deeds" (.ref dt) (putF "knows" (.ref kt) (putF "name" nv f1))))) := g10.set rfl e10 (by intro ps z; cases z)
    have e11 : (upd H10 x (.ins C dx (putF "deeds" (.ref dt) (putF "knows" (.ref kt) (putF "name" nv f1))))) x = _ := upd_same
    have k11 := (upd_ne (o := .ins C dx (putF "deeds" (.ref dt) (putF "knows" (.ref kt) (putF "name" nv f1)))) nk.symm).trans k10
    have d11 := (upd_ne (o := .ins C dx (putF "deeds" (.ref dt) (putF "knows" (.ref kt) (putF "name" nv f1)))) nd.symm).trans d10
    have l4 := lns (f := "deeds") (v := .ref dt) l3
    generalize upd H10 x (.ins C dx (putF "deeds" (.ref dt) (putF "knows" (.ref kt) (putF "name" nv f1)))) = H11 at g11 e11 k11 d11 ⊢
    generalize hf4 : putF "deeds" (.ref dt) (putF "knows" (.ref kt) (putF "name" nv f1)) = f4 at e11 l4
    have lkD : f4.lookup ("deeds" : Str) = some (.ref dt) := by rw [← hf4, lk']
    have lkK : f4.lookup ("knows" : Str) = some (.ref kt) := by rw [← hf4, lk (by decide), lk']
    have lkN : f4.lookup ("name" : Str) = some nv := by rw [← hf4, lk (by decide), lk (by decide), lk']
    have lkM : f4.lookup ("many" : Str) = f1.lookup ("many" : Str) := by rw [← hf4, lk (by decide), lk (by decide), lk (by decide)]
    have lkT : f4.lookup ("told" : Str) = f1.lookup ("told" : Str) := by rw [← hf4, lk (by decide), lk (by decide), lk (by decide)]
    refine ⟨.ref x, rfl, x, C, dx, _, rfl, e11, PC.cls, PC.place, Nat.lt_of_le_of_lt l4 (by decide), ?_⟩
    have g12 : Go T (· = x) H (upd H11 x (.ins C dx (putF "place" .non f4))) := g11.set rfl e11 (by intro ps z; cases z)
    have e12 : (upd H11 x (.ins C dx (putF "place" .non f4))) x = _ := upd_same
    have k12 := (upd_ne (o := .ins C dx (putF "place" .non f4)) nk.symm).trans k11
    have d12 := (upd_ne (o := .ins C dx (putF "place" .non f4)) nd.symm).trans d11
    have l5 := lns (f := "place") (v := .non) l4
    generalize upd H11 x (.ins C dx (putF "place" .non f4)) = H12 at g12 e12 k12 d12 ⊢
    refine ⟨.ref x, rfl, x, C, dx, _, rfl, e12, PC.cls, PC.known, Nat.lt_of_le_of_lt l5 (by decide), ?_⟩
    have g13' : Go T (· = x) H (upd H12 x (.ins C dx (putF "known" .non (putF "place" .non f4)))) := g12.set rfl e12 (by intro ps z; cases z)
    have e13 : (upd H12 x (.ins C dx (putF "known" .non (putF "place" .non f4)))) x = _ := upd_same
    have k13 := (upd_ne (o := .ins C dx (putF "known" .non (putF "place" .non f4))) nk.symm).trans k12
    have d13 := (upd_ne (o := .ins C dx (putF "known" .non (putF "place" .non f4))) nd.symm).trans d12
    have l6 := lns (f := "known") (v := .non) l5
    generalize upd H12 x (.ins C dx (putF "known" .non (putF "place" .non f4))) = H13 at g13' e13 k13 d13 ⊢
    refine ⟨.ref x, rfl, x, C, dx, _, rfl, e13, PC.cls, PC.work, Nat.lt_of_le_of_lt l6 (by decide), ?_⟩
    have g14 : Go T (· = x) H (upd H13 x (.ins C dx (putF "work" .non (putF "known" .non (putF "place" .non f4))))) := g13'.set rfl e13 (by intro ps z; cases z)
    have e14 : (upd H13 x (.ins C dx (putF "work" .non (putF "known" .non (putF "place" .non f4))))) x = _ := upd_same
    have k14 := (upd_ne (o := .ins C dx (putF "work" .non (putF "known" .non (putF "place" .non f4)))) nk.symm).trans k13
    have d14 := (upd_ne (o := .ins C dx (putF "work" .non (putF "known" .non (putF "place" .non f4)))) nd.symm).trans d13
    have l7 := lns (f := "work") (v := .non) l6
    generalize upd H13 x (.ins C dx (putF "work" .non (putF "known" .non (putF "place" .non f4)))) = H14 at g14 e14 k14 d14 ⊢
    refine q H14 g14 ⟨dx, _, nv, .ref kt, .ref dt, e14, l7, ?_, ?_, ?_, ?_, ?_, Dp.sub (subX g14) _ _ dn, .tup (.inl (.inl k14)) (Dp.subs (subX g14) _ _ dks), .tup (.inl (.inl d14)) (Dp.subs (subX g14) _ _ dds)⟩
    · rw [lk (by decide), lk (by decide), lk (by decide), lkN]
    · rw [lk (by decide), lk (by decide), lk (by decide), lkK]
    · rw [lk (by decide), lk (by decide), lk (by decide), lkD]
    · rw [lk (by decide), lk (by decide), lk (by decide), lkM, ← hf1, lk']
      rfl
    · rw [lk (by decide), lk (by decide), lk (by decide), lkT, ← hf1, lk (by decide)]
      rfl
end
end K1
set_option Elab.async false
set_option linter.all false
set_option maxRecDepth 100000
set_option maxHeartbeats 400000
/-! The program's defs: _patch_with, patch_of_parts: of good parts. -/
namespace K1
open PySem PySem.Spec PyProof.Rows L2
section
variable {P : Program} {w : World} {K : PySem.W.Frag} {mg : Str → Option Value} {base : Heap} {T : Tp}
/-- the class of patches, made by its name -/
structure MakP (P : Program) (w : World) (K : PySem.W.Frag) (mg : Str → Option Value) (base : Heap) (k : Nat) (C : Addr) (T : Tp) : Prop where
  ex : ∃ (f : Addr) (fd : FuncData), Mk K C f ∧ FnOk P w K mg base CX0 k f fd ["self", "name", "knows", "deeds"] (spInit K C T) ∧ mg "Patch" = some (.ref C) ∧ Binds K fd ["self", "name", "knows", "deeds"] []
theorem pe_mkP {X : Cx} {K0 : PySem.W.Frag} {k j : Nat} {C : Addr} {T : Tp} {p pos : Pos} {e : Expr} {es : List Expr} {t : TA} (c : MakP X.prog X.w K0 X.mg X.base k C T) (hr : Room j X.A) (hk : k + 1 ≤ j) (hg : Gl X "Patch") (ha : PA X (e :: es) t) (hK : X.K = K0 := by rfl)
    (hdb : (("Patch" : Str) == ("__debug__" : Str)) = false := by decide) (he : starEach (e :: es) X.env = (false, eval e X.env) :: starEach es X.env := by rfl) (hpl : (backTo pos (starEach es X.env)).any (·.1) = false := by rfl) :
    PE X (.Call (.Name "Patch" p) (e :: es) [] pos) (tMake C (spInit K0 C T) [] E0 t) := by
  subst hK
  obtain ⟨f, fd, M, F, hm, b⟩ := c.ex
  exact pe_make M F (hr.mono hk) hg hm b .nil pass0 ha hdb he hpl
theorem MakP.up {k j : Nat} {C : Addr} (c : MakP P w K mg base j C T) (h : j ≤ k) : MakP P w K mg base k C T := by
  obtain ⟨f, fd, M, F, r⟩ := c.ex
  exact ⟨f, fd, M, F.mono h, r⟩
theorem good0 {n : Nm} (h : NmOk n) : (Pat.mk n [] []).good := ⟨⟨h, (fun _ h => by cases h), (fun _ h => by cases h)⟩, (fun _ h => by cases h), (fun i d h => by cases h), .nil, (by simp), (Nat.zero_le _)⟩
/-- a new object, and what is done to it, from ahead -/
theorem Go.born {H H2 : Hp} {x dx : Addr} {o o' : HO} (tg : TG T H) (hx : H x = none) (hd : H dx = none) (ne : dx ≠ x) (g : Go T (· = x) (upd (upd H dx o) x o') H2) : Go T D0 H H2 := by
  have g1 : Go T (· = x) H (upd (upd H dx o) x o') := ((Go.rfl' tg).new hd).new (by rw [upd_ne ne.symm]; exact hx)
  exact (g1.trans g).drop hx
theorem TG.born {H : Hp} {x dx : Addr} {o o' : HO} (tg : TG T H) (hx : H x = none) (hd : H dx = none) (ne : dx ≠ x) : TG T (upd (upd H dx o) x o') := (tg.new hd).new (by rw [upd_ne ne.symm]; exact hx)

/-! ### _patch_with -/
def spWith (K : PySem.W.Frag) (C : Addr) (T : Tp) : Sp := fun vs H Q _ => ∃ (nv kv dv : V) (p : Pat), vs = [nv, kv, dv, .int (manyOf p : Nat)] ∧ Dp K H nv (eN p.name) ∧ NmOk p.name ∧ Dp K H kv (.tuple (p.knows.map eN)) ∧ Dp K H dv (.tuple (p.deeds.map eD)) ∧ TG T H ∧
  ∀ H' x, Go T D0 H H' → H x = none → Made K C H' x p → Q (.ref x) H'
/-! ### patch_of_parts -/
def spParts (K : PySem.W.Frag) (C : Addr) (T : Tp) : Sp := fun vs H Q _ => ∃ (nv : V) (kl dl : Addr) (kvs dvs : List V) (p : Pat), vs = [nv, .ref kl, .ref dl] ∧ Dp K H nv (eN p.name) ∧ SqL K H kl kvs ∧ DpAll K H kvs (p.knows.map eN) ∧ SqL K H dl dvs ∧ DpAll K H dvs (p.deeds.map eD) ∧ p.good ∧ TG T H ∧
  ∀ H' x, Go T D0 H H' → H x = none → Made K C H' x p → Q (.ref x) H'
end
end K1
set_option Elab.async false
set_option linter.all false
set_option maxRecDepth 100000
set_option maxHeartbeats 400000
/-! raise X(n), X an own refusal with a field that is a number. -/
namespace K1
open PySem PySem.Spec PyProof.Rows L2
section
variable {P : Program} {w : World} {K : PySem.W.Frag} {mg : Str → Option Value} {base : Heap}
/-- what is wanted of the class x, at C, whose field is f -/
structure NumX (P : Program) (w : World) (K : PySem.W.Frag) (mg : Str → Option Value) (base : Heap) (k : Nat) (x f : Str) (C : Addr) : Prop where
  T : OexC K C
  no : PySem.W.findIn K (.ref C) f = some none
  at_ : mg x = some (.ref C)
  ex : ∃ (fI : Addr) (fd : FuncData), PySem.W.findIn K (.ref C) "__init__" = some (some (.ref fI)) ∧ PySem.W.typeIn K (.ref fI) = some (.type "function") ∧ FnOk P w K mg base CX0 k fI fd ["self", f] (spNumInit K C f) ∧ Binds K fd ["self", f] []
theorem pmk_num {X : Cx} {K0 : PySem.W.Frag} {k j : Nat} {x f : Str} {C : Addr} {e : Expr} {te : TE} {p pos : Pos} (N : NumX X.prog X.w K0 X.mg X.base k x f C) (hr : Room j X.A) (hk : k + 1 ≤ j) (hg : Gl X x) (he : PE X e te) (hK : X.K = K0 := by rfl)
    (hdb : (x == ("__debug__" : Str)) = false := by decide) (hs : starEach (e :: []) X.env = (false, eval e X.env) :: starEach [] X.env := by rfl) (hpl : (backTo pos (starEach [] X.env)).any (·.1) = false := by rfl) :
    PMk X (.Call (.Name x p) [e] [] pos) (tMkO C (spNumInit K0 C f) [] (tCons te tNil)) := by
  subst hK
  obtain ⟨fI, fd, iC, tI, F1, b⟩ := N.ex
  exact pmk_oex N.T iC tI F1 (hr.mono hk) b .nil pass0 hg N.at_ (pa_cons he pa_nil hs) hdb hs hpl
theorem del_upd {H1 : Hp} {a dx : Addr} {o1 o2 o3 o4 : HO} (ha : H1 a = none) (ne : dx ≠ a) : upd (del (upd (upd (upd H1 a o1) dx o2) a o3) a) dx o4 = upd H1 dx o4 := by
  funext b
  by_cases h1 : b = dx
  · subst h1
    rw [upd_same, upd_same]
  · rw [upd_ne h1, upd_ne h1]
    by_cases h2 : b = a
    · subst h2
      rw [del_same, ha]
    · rw [del_ne h2, upd_ne h2, upd_ne h1, upd_ne h2]
/-- the end of the reading of raise x(n) -/
theorem num_leaf {f : Str} {C : Addr} {H1 : Hp} {n : Int} {Q : XK} (T : OexC K C) (hno : PySem.W.findIn K (.ref C) f = some none) (n0 : 0 ≤ n) (n1 : n < 1000000) (q : ∀ d, H1 d = none → Q (.ref C) (some d) (upd H1 d (.xd [(f, .int n)]))) :
    ([V.int n]).length ≤ 1000 ∧ ∀ a, H1 a = none → spNumInit K C f (.ref a :: ([V.int n] ++ [])) (upd H1 a (exo a C none))
      (fun v H2 => v = .non ∧ ∃ (d : Addr) (fs : List (Str × V)), H2 a = some (exo a C (some d)) ∧ H2 d = some (exd d fs) ∧ H1 d = none ∧ Q (.ref C) (some d) (upd (del H2 a) d (.xd fs))) (fun _ _ _ => False) := by
  refine ⟨by show 1 ≤ 1000; decide, fun a ha => ⟨a, n, rfl, n0, n1, T, hno, upd_same, fun dx hdx ne => ⟨rfl, dx, [(f, .int n)], upd_same, (upd_ne ne).trans upd_same, ?_, ?_⟩⟩⟩
  · rw [upd_ne ne] at hdx
    exact hdx
  · rw [del_upd ha ne]
    refine q dx ?_
    rw [upd_ne ne] at hdx
    exact hdx
end
end K1
set_option Elab.async false
set_option linter.all false
set_option maxRecDepth 100000
set_option maxHeartbeats 400000
/-! Data without lists, off a list that is being filled. -/
namespace K1
open PySem PySem.Spec PyProof.Rows L2
theorem sqT_cut {K : PySem.W.Frag} {H : Hp} {t D : Addr} {xs ys : List V} (h : SqT K H t xs) (e : H D = some (.lst ys)) : SqT K (cut (plus C0 D) H) t xs := by
  have ne : ∀ {o}, H t = some o → (∀ zs, o ≠ .lst zs) → plus C0 D t = false := fun h1 h2 => by
    have : t ≠ D := fun z => by
      rw [z, e] at h1
      exact h2 _ (Option.some.inj h1).symm
    simp [plus, this]
  rcases h with (h | ⟨o, h⟩) | h
  · exact .inl (.inl ((cut_at (ne h (fun zs z => by cases z))).trans h))
  · exact .inl (.inr ⟨o, (cut_at (ne h (fun zs z => by cases z))).trans h⟩)
  · exact .inr h
end K1
namespace L2
open PySem PySem.Spec PyProof.Rows
/-- no list in it -/
def noLst : PyData → Bool
  | .list _ => false
  | .tuple ds => noLsts ds
  | _ => true
where noLsts : List PyData → Bool
  | [] => true
  | d :: r => noLst d && noLsts r
mutual
theorem Dp.cutD {K : PySem.W.Frag} {H : Hp} {D : Addr} {ys : List V} (e : H D = some (.lst ys)) : ∀ (d : PyData) (v : V), noLst d = true → Dp K H v d → Dp K (K1.cut (K1.plus K1.C0 D) H) v d
  | .none, _, _, q => by cases q; exact .non
  | .bool b, _, _, q => by cases q; exact .bl b
  | .int i, _, _, q => by cases q; exact .int i
  | .str x, _, _, q => by cases q; exact .str x
  | .list ds, _, n, q => by unfold noLst at n; cases n
  | .tuple ds, _, n, q => by
    unfold noLst at n
    cases q with
    | tup s a => exact .tup (K1.sqT_cut s e) (Dp.cutDs e ds _ n a)
  | .dict _, _, _, q => by cases q
theorem Dp.cutDs {K : PySem.W.Frag} {H : Hp} {D : Addr} {ys : List V} (e : H D = some (.lst ys)) : ∀ (ds : List PyData) (vs : List V), noLst.noLsts ds = true → DpAll K H vs ds → DpAll K (K1.cut (K1.plus K1.C0 D) H) vs ds
  | [], _, _, q => by cases q; exact .nil
  | d :: ds, _, n, q => by
    unfold noLst.noLsts at n
    have n2 := Bool.and_eq_true_iff.mp n
    cases q with
    | cons a b => exact .cons (Dp.cutD e d _ n2.1 a) (Dp.cutDs e ds _ n2.2 b)
end
end L2
namespace K1
open PySem PySem.Spec PyProof.Rows L2
theorem eN_nol (n : Nm) : noLst (eN n) = true := rfl
theorem strs_nol : ∀ ts : List Str, noLst.noLsts (ts.map PyData.str) = true
  | [] => rfl
  | t :: r => by
    show (true && noLst.noLsts (r.map PyData.str)) = true
    rw [strs_nol r]
    rfl
theorem eD_nol : ∀ d : Deed, noLst (eD d) = true
  | .put a b ts => by
    show (true && (true && (true && (noLst.noLsts (ts.map PyData.str) && true)))) = true
    rw [strs_nol]
    rfl
  | .order a b => rfl
  | .one k a => rfl
theorem all_nol {α : Type} {f : α → PyData} (h : ∀ x, noLst (f x) = true) : ∀ l : List α, noLst.noLsts (l.map f) = true
  | [] => rfl
  | x :: r => by
    show (noLst (f x) && noLst.noLsts (r.map f)) = true
    rw [h x, all_nol h r]
    rfl
end K1
set_option Elab.async false
set_option linter.all false
set_option maxRecDepth 100000
set_option maxHeartbeats 400000
/-! Data of any form as a thing, and the program's questions of it. -/
namespace K1
open PySem PySem.Spec PyProof.Rows L2
/-- texts of some length at most, no dicts -/
def okD : PyData → Bool
  | .str x => decide (x.length ≤ 1000) && PyData.strOk x
  | .list ds => okDs ds
  | .tuple ds => okDs ds
  | .dict _ => false
  | _ => true
where okDs : List PyData → Bool
  | [] => true
  | d :: r => okD d && okDs r
def handD : PyData → Bool
  | .str x => handV (.str x)
  | _ => false
def amgD (d : PyData) (lo hi : Int) : Bool := match d with
  | .int i => decide (lo ≤ i) && decide (i ≤ hi)
  | _ => false
def geD : PyData → Bool
  | .int i => decide (1 ≤ i)
  | _ => false
def emD : PyData → Bool
  | .str x => decide (V.str x = .str "")
  | _ => false
def nameD : PyData → Bool
  | .tuple [a, b] => handD a && amgD b 1 999
  | _ => false
def putD : PyData → Bool
  | .tuple [a, b, c] => (handD a && amgD b 1 999) && geD c
  | _ => false
def endD : PyData → Bool
  | .tuple [a, b, c] => (emD a && amgD b 0 0) && amgD c 0 1
  | _ => false
def textD : PyData → Bool
  | .str x => textV (.str x)
  | _ => false
def canPutD (a b : PyData) : PyData → Bool
  | .tuple ts => (decide (1 ≤ ts.length) && decide (ts.length ≤ 200)) && (((putD a || endD a) && (putD b || endD b)) && ts.all textD)
  | _ => false
section
variable {K : PySem.W.Frag} {H : Hp} {v : V} {d : PyData}
theorem handD_of (h : Dp K H v d) : handV v = handD d := by cases h <;> rfl
theorem amgD_of {lo hi : Int} (h : Dp K H v d) : amgV v lo hi = amgD d lo hi := by cases h <;> rfl
theorem geD_of (h : Dp K H v d) : geOne v = geD d := by cases h <;> rfl
theorem textD_of (h : Dp K H v d) : textV v = textD d := by cases h <;> rfl
theorem emD_of (h : Dp K H v d) : decide (v = .str "") = emD d := by
  cases h with
  | str x => rfl
  | _ => exact decide_eq_false fun z => by cases z
theorem th_one (ok : okD d = true) (h : Dp K H v d) : ∃ n o, Th K H v n o ∧ (∀ xs, o = some xs → ∃ ds, d = .tuple ds ∧ DpAll K H xs ds) ∧ (o = none → ∀ ds, d ≠ .tuple ds) := by
  cases h with
  | non => exact ⟨_, _, .non, (fun _ z => by cases z), fun _ _ z => by cases z⟩
  | bl b => exact ⟨_, _, .bl b, (fun _ z => by cases z), fun _ _ z => by cases z⟩
  | int i => exact ⟨_, _, .int i, (fun _ z => by cases z), fun _ _ z => by cases z⟩
  | str x => exact ⟨_, _, .str x (small_le (by have := of_decide_eq_true (Bool.and_eq_true_iff.mp (show (decide (x.length ≤ 1000) && PyData.strOk x) = true from ok)).1; omega)), (fun _ z => by cases z), fun _ _ z => by cases z⟩
  | lst s a => exact ⟨_, _, .lst s, (fun _ z => by cases z), fun _ _ z => by cases z⟩
  | tup s a => exact ⟨_, _, .tup s, (fun xs z => by cases z; exact ⟨_, rfl, a⟩), fun z => by cases z⟩
theorem ok_items {ds : List PyData} (h : okD.okDs ds = true) : ∀ d ∈ ds, okD d = true := by
  induction ds with
  | nil => intro d m; cases m
  | cons e r ih =>
    intro d m
    unfold okD.okDs at h
    have h2 := Bool.and_eq_true_iff.mp h
    rcases List.mem_cons.mp m with rfl | m
    · exact h2.1
    · exact ih h2.2 d m
theorem nameL_no : ∀ xs : List V, xs.length ≠ 2 → nameL (some xs) = false
  | [], _ => rfl
  | [_], _ => rfl
  | [_, _], h => absurd rfl h
  | _ :: _ :: _ :: _, _ => rfl
theorem nameD_no : ∀ xs : List PyData, xs.length ≠ 2 → nameD (.tuple xs) = false
  | [], _ => rfl
  | [_], _ => rfl
  | [_, _], h => absurd rfl h
  | _ :: _ :: _ :: _, _ => rfl
theorem putL_no : ∀ xs : List V, xs.length ≠ 3 → putL (some xs) = false ∧ endL (some xs) = false
  | [], _ => ⟨rfl, rfl⟩
  | [_], _ => ⟨rfl, rfl⟩
  | [_, _], _ => ⟨rfl, rfl⟩
  | [_, _, _], h => absurd rfl h
  | _ :: _ :: _ :: _ :: _, _ => ⟨rfl, rfl⟩
theorem putD_no : ∀ xs : List PyData, xs.length ≠ 3 → putD (.tuple xs) = false ∧ endD (.tuple xs) = false
  | [], _ => ⟨rfl, rfl⟩
  | [_], _ => ⟨rfl, rfl⟩
  | [_, _], _ => ⟨rfl, rfl⟩
  | [_, _, _], h => absurd rfl h
  | _ :: _ :: _ :: _ :: _, _ => ⟨rfl, rfl⟩
theorem nameL_of {xs : List V} {ds : List PyData} (q : DpAll K H xs ds) : nameL (some xs) = nameD (.tuple ds) := by
  have l := DpAll.len q
  by_cases h : ds.length = 2
  · obtain ⟨a, b, rfl⟩ : ∃ a b, ds = [a, b] := by
      match ds, h with
      | [a, b], _ => exact ⟨a, b, rfl⟩
    obtain ⟨x, y, rfl, p1, p2⟩ := DpAll.i2 q
    show (handV x && amgV y 1 999) = (handD a && amgD b 1 999)
    rw [handD_of p1, amgD_of p2]
  · rw [nameD_no ds h, nameL_no xs (by omega)]
theorem three {α : Type} {ds : List α} (h : ds.length = 3) : ∃ a b c, ds = [a, b, c] := by
  match ds, h with
  | [a, b, c], _ => exact ⟨a, b, c, rfl⟩
theorem putL_of {xs : List V} {ds : List PyData} (q : DpAll K H xs ds) : putL (some xs) = putD (.tuple ds) := by
  have l := DpAll.len q
  by_cases h : ds.length = 3
  · obtain ⟨a, b, c, rfl⟩ := three h
    obtain ⟨x, y, z, rfl, p1, p2, p3⟩ := DpAll.i3 q
    show ((handV x && amgV y 1 999) && geOne z) = ((handD a && amgD b 1 999) && geD c)
    rw [handD_of p1, amgD_of p2, geD_of p3]
  · rw [(putD_no ds h).1, (putL_no xs (by omega)).1]
theorem endL_of {xs : List V} {ds : List PyData} (q : DpAll K H xs ds) : endL (some xs) = endD (.tuple ds) := by
  have l := DpAll.len q
  by_cases h : ds.length = 3
  · obtain ⟨a, b, c, rfl⟩ := three h
    obtain ⟨x, y, z, rfl, p1, p2, p3⟩ := DpAll.i3 q
    show ((decide (x = .str "") && amgV y 0 0) && amgV z 0 1) = ((emD a && amgD b 0 0) && amgD c 0 1)
    rw [emD_of p1, amgD_of p2, amgD_of p3]
  · rw [(putD_no ds h).2, (putL_no xs (by omega)).2]
theorem Dp.strV {x : Str} (h : Dp K H (.str x) d) : d = .str x := by
  cases h
  rfl
theorem th_of (ok : okD d = true) (h : Dp K H v d) : ∃ n o, Th K H v n o ∧ ThAll K H o ∧ nameL o = nameD d ∧ putL o = putD d ∧ endL o = endD d ∧ StAll o := by
  by_cases ht : ∃ ds, d = .tuple ds
  · obtain ⟨ds, rfl⟩ := ht
    obtain ⟨a, xs, rfl, S, q⟩ := Dp.tupI h
    have ok' : okD.okDs ds = true := by unfold okD at ok; exact ok
    refine ⟨_, _, .tup S, ?_, ?_, ?_, ?_, ?_⟩
    · intro ys z x hx
      cases z
      obtain ⟨e, he, dx⟩ := DpAll.mem q hx
      obtain ⟨n, o, t, _⟩ := th_one (ok_items ok' e he) dx
      exact ⟨n, o, t⟩
    · exact nameL_of q
    · exact putL_of q
    · exact endL_of q
    · intro ys z x hx
      cases z
      obtain ⟨e, he, dx⟩ := DpAll.mem q hx
      cases Dp.strV dx
      exact (Bool.and_eq_true_iff.mp (show (decide (x.length ≤ 1000) && PyData.strOk x) = true from ok_items ok' _ he)).2
  · obtain ⟨n, o, t, hq, _⟩ := th_one ok h
    have on_ : o = none := by
      cases o with
      | none => rfl
      | some xs =>
        obtain ⟨ds, e, _⟩ := hq xs rfl
        exact absurd ⟨ds, e⟩ ht
    subst on_
    refine ⟨n, none, t, (fun _ z => by cases z), ?_, ?_, ?_, (fun _ z => by cases z)⟩
    all_goals
      cases d with
      | tuple ds => exact absurd ⟨ds, rfl⟩ ht
      | _ => rfl
end
end K1
set_option Elab.async false
set_option linter.all false
set_option maxRecDepth 100000
set_option maxHeartbeats 4000000
/-! The program's def _can_put, of anything. -/
namespace K1
open PySem PySem.Spec PyProof.Rows L2
section
variable {P : Program} {w : World} {K : PySem.W.Frag} {mg : Str → Option Value} {base : Heap} {T : Tp}
def spCanPutD (K : PySem.W.Frag) (T : Tp) : Sp := fun vs H Q _ => ∃ (a b t : V) (da db dt : PyData), vs = [a, b, t] ∧ Dp K H a da ∧ Dp K H b db ∧ Dp K H t dt ∧ okD da = true ∧ okD db = true ∧ okD dt = true ∧ TG T H ∧ ∀ H', Go T D0 H H' → Q (.bl (canPutD da db dt)) H'
theorem ok_canputD {f : Addr} {fd : FuncData} {k : Nat} (F : Fun K "_can_put" "_can_put" sCanPut f fd) (M : Mg K mg) (N : Mp mg) (cP : Cal P w K mg base k "is_put_line" ["thing"] (spPut K T)) (cE : Cal P w K mg base k "is_end" ["thing"] (spEnd K))
    (cT : Cal P w K mg base k "is_text" ["thing"] (spIsText K)) : FnOk P w K mg base CX0 (k + 1) f fd ["above", "below", "texts"] (spCanPutD K T) := by
  obtain ⟨tk, hT⟩ := N.mostT
  refine F.ok scCanPut (fun vs H Q E h => ?_) (fun cdv A outer s H vs Q E hr h => ?_)
  · obtain ⟨a, b, t, da, db, dt, rfl, _⟩ := h
    rfl
  · obtain ⟨a, b, t, da, db, dt, rfl, d1, d2, d3, o1, o2, o3, tg, q⟩ := h
    refine ⟨_, (pss_cons (ps_if (PW.pt (pw_or (pt_not (pt_val (pe_callB call_isi (by rfl) M.ins boot_isinstance (pa_cons (pv 2) (pa_cons (pe_bltn (v := .ty "tuple") (by rfl) M.tuple_ (by decide +kernel) rfl) pa_nil))))) (pw_or1 (pt_not (pt_chain op_le op_le pe_int (pe_callB call_len_seq (by rfl) M.len_ PySem.boot_len (pa_cons (pv 2) pa_nil)) (pe_glob (v := .int 200) (by rfl) hT ⟨_, rfl⟩))))))
      (pss_one (ps_ret pe_bl))
      pss_nil)
      (pss_cons (ps_if (PW.pt (pw_or (PW.pt (pw_and (pt_not (pt_val (pe_cal cP hr (by rfl) (pa_cons (pv 0) pa_nil)))) (pw_and1 (pt_not (pt_val (pe_cal cE hr (by rfl) (pa_cons (pv 0) pa_nil))))))) (pw_or1 (PW.pt (pw_and (pt_not (pt_val (pe_cal cP hr (by rfl) (pa_cons (pv 1) pa_nil)))) (pw_and1 (pt_not (pt_val (pe_cal cE hr (by rfl) (pa_cons (pv 1) pa_nil))))))))))
      (pss_one (ps_ret pe_bl))
      pss_nil)
      (pss_one (ps_ret (pe_callB (cr_all rfl) (by rfl) M.all_ (by decide +kernel) (pa_cons (pe_lc (own := [("text", 3)]) (g := gName 3) (tt := tYes) rfl scCanPut.nd (pi_tup (pv 2)) (blkOk_by (N := ["above", "below", "texts", "text"]) (sc := defScope sCanPut) (by decide +kernel)) (fun _ _ _ _ _ => (pg_name (i := 3) scCanPut.nd rfl (Or.inl rfl))) (fun _ _ _ _ _ => pts_nil) (fun _ _ _ _ _ => (pe_cal cT hr (by rfl) (pa_cons (pv 3) pa_nil)))) pa_nil)))))), ?_⟩
    have toH : ∀ {H'}, Go T D0 H H' → Sub H H' := fun g => sub_go g tg
    have g0 : Go T D0 H H := Go.rfl' tg
    obtain ⟨nt, ot, tht, hq, hn⟩ := th_one o3 d3
    refine ⟨t, rfl, t, .ty "tuple", .type nt, .type "tuple", _, rfl, .ty _, tht.ty, kit_ty tht.ktup, _, rfl, ite2 (fun e => iteT ?_) (fun e => ?_)⟩
    · have e2 : ot = none := by
        cases ot with
        | none => rfl
        | some _ => cases e
      have e3 : canPutD da db dt = false := by
        cases dt with
        | tuple ds => exact absurd rfl (hn e2 ds)
        | _ => rfl
      rw [e3] at q
      exact q H g0
    · obtain ⟨at_, xs, rfl, St, et⟩ := tht.tupOf (notnot e)
      obtain ⟨ds, rfl, dts⟩ := hq xs et
      have xl : xs.length = ds.length := DpAll.len dts
      have eq_ : canPutD da db (.tuple ds) = ((decide (1 ≤ ds.length) && decide (ds.length ≤ 200)) && (((putD da || endD da) && (putD db || endD db)) && ds.all textD)) := rfl
      rw [eq_] at q
      have o3' : okD.okDs ds = true := by unfold okD at o3; exact o3
      have b1 : decide ((1 : Int) ≤ ((xs.length : Nat) : Int)) = decide (1 ≤ ds.length) := decide_eq_decide.mpr (by omega)
      have b2 : decide (((xs.length : Nat) : Int) ≤ 200) = decide (ds.length ≤ 200) := decide_eq_decide.mpr (by omega)
      refine ⟨.ref at_, rfl, at_, _, rfl, .inr St, _, _, rfl, rfl, _, rfl, ?_⟩
      rw [b1]
      refine ite2 (fun e1 => ⟨_, _, rfl, rfl, _, rfl, ?_⟩) (fun e1 => ?_)
      · rw [b2]
        rw [e1, Bool.true_and] at q
        refine ite2 (fun e2 => ?_) (fun e2 => ?_)
        · have e3 : decide (ds.length ≤ 200) = false := by
            cases h : decide (ds.length ≤ 200) with
            | false => rfl
            | true => rw [h] at e2; cases e2
          rw [e3, Bool.false_and] at q
          exact q H g0
        · rw [notnot e2, Bool.true_and] at q
          have thA : ∀ {H'}, Go T D0 H H' → ∃ n o, Th K H' a n o ∧ ThAll K H' o ∧ nameL o = nameD da ∧ putL o = putD da ∧ endL o = endD da ∧ StAll o := fun g => th_of o1 (Dp.sub (toH g) _ _ d1)
          have thB : ∀ {H'}, Go T D0 H H' → ∃ n o, Th K H' b n o ∧ ThAll K H' o ∧ nameL o = nameD db ∧ putL o = putD db ∧ endL o = endD db ∧ StAll o := fun g => th_of o2 (Dp.sub (toH g) _ _ d2)
          obtain ⟨n1, p1, t1, al1, _, ep1, _⟩ := thA g0
          apply twice (A := fun H2 => Go T D0 H H2 ∧ (putD da || endD da) = true)
          case use =>
            intro rest
            refine ⟨a, rfl, a, n1, p1, rfl, t1, al1, tg, fun H1 g1 => ⟨_, rfl, ?_⟩⟩
            rw [ep1]
            refine ite2 (fun e4 => ?_) (fun e4 => ?_)
            · obtain ⟨n2, p2, t2, al2, _, _, ee2, es2⟩ := thA g1
              refine ⟨a, rfl, a, n2, p2, rfl, t2, al2, es2, _, rfl, ?_⟩
              rw [ee2]
              refine ite2 (fun e5 => ?_) (fun e5 => ?_)
              · have f1 : putD da = false := by
                  cases h : putD da with
                  | false => rfl
                  | true => rw [h] at e4; cases e4
                have f2 : endD da = false := by
                  cases h : endD da with
                  | false => rfl
                  | true => rw [h] at e5; cases e5
                rw [f1, f2] at q
                exact q H1 g1
              · exact rest H1 ⟨g1, by rw [notnot e5, Bool.or_true]⟩
            · exact rest H1 ⟨g1, by rw [notnot e4, Bool.true_or]⟩
          case h =>
            rintro H2 ⟨g2, okA⟩
            rw [okA, Bool.true_and] at q
            obtain ⟨n1, p1, t1, al1, _, ep1, _⟩ := thB g2
            apply twice (A := fun H3 => Go T D0 H H3 ∧ (putD db || endD db) = true)
            case use =>
              intro rest2
              refine ⟨b, rfl, b, n1, p1, rfl, t1, al1, g2.1, fun H3 g3 => ⟨_, rfl, ?_⟩⟩
              rw [ep1]
              refine ite2 (fun e4 => ?_) (fun e4 => ?_)
              · obtain ⟨n2, p2, t2, al2, _, _, ee2, es2⟩ := thB (g2.trans g3)
                refine ⟨b, rfl, b, n2, p2, rfl, t2, al2, es2, _, rfl, ?_⟩
                rw [ee2]
                refine ite2 (fun e5 => ?_) (fun e5 => ?_)
                · have f1 : putD db = false := by
                    cases h : putD db with
                    | false => rfl
                    | true => rw [h] at e4; cases e4
                  have f2 : endD db = false := by
                    cases h : endD db with
                    | false => rfl
                    | true => rw [h] at e5; cases e5
                  rw [f1, f2] at q
                  exact q H3 (g2.trans g3)
                · exact rest2 H3 ⟨g2.trans g3, by rw [notnot e5, Bool.or_true]⟩
              · exact rest2 H3 ⟨g2.trans g3, by rw [notnot e4, Bool.true_or]⟩
            case h =>
              rintro H4 ⟨g4, okB⟩
              rw [okB, Bool.true_and] at q
              have S4 := (toH g4).seqT St
              refine ⟨.ref at_, rfl, at_, rfl, ⟨_, S4⟩, fun D hD => ?_⟩
              refine lc_tup (K := K) (a := at_) (xs := xs) (fun j H5 => Go T D0 H4 H5 ∧ H5 D = some (.lst (((ds.take j).map textD).map V.bl))) ?_ ?_ ?_ ?_
              · exact ⟨(Go.rfl' g4.1).new hD, upd_same⟩
              · rintro j H5 hj ⟨g5, _⟩
                exact g5.seqT g4.1 (fun _ _ z => z) S4
              · rintro j x H5 hx ⟨g5, eD⟩
                obtain ⟨d', hd', hx'⟩ := DpAll.at' dts hx
                have hjl : j < ds.length := (List.getElem?_eq_some_iff.mp hd').1
                obtain ⟨n3, p3, t3, _⟩ := th_one (ok_items o3' d' (List.mem_of_getElem? hd')) (Dp.sub (toH (g4.trans g5)) _ _ hx')
                have l200 : ds.length ≤ 200 := of_decide_eq_true (notnot e2)
                refine ⟨rfl, x, rfl, x, n3, p3, rfl, t3, _, eD, small_line (by rw [List.length_map, List.length_map, List.length_take]; omega), g5.put hD eD, ?_⟩
                rw [upd_same, List.take_add_one, hd', List.map_append, List.map_append, textD_of hx']
                rfl
              · rintro H5 ⟨g5, eD⟩
                rw [xl, List.take_length] at eD
                refine ⟨D, ds.map textD, rfl, .inl (.inl eD), ?_⟩
                have ea : (ds.map textD).all id = ds.all textD := by rw [List.all_map]; rfl
                rw [ea]
                exact q H5 (g4.trans g5)
      · have e3 : decide (1 ≤ ds.length) = false := Bool.eq_false_iff.mpr e1
        rw [e3] at q
        exact ⟨_, rfl, ite2 (fun _ => q H g0) (fun z => absurd rfl z)⟩
end
end K1
set_option Elab.async false
set_option linter.all false
set_option maxRecDepth 100000
set_option maxHeartbeats 4000000
/-! The program's def _is_deed, of anything. -/
namespace K1
open PySem PySem.Spec PyProof.Rows L2
def cutKeep (k : Str) : Bool := inV (.str k) [.str "cut", .str "keep"]
def orderD (x : PyData) : List PyData → Bool
  | [y] => putD x && putD y
  | _ => false
def put4D (x : PyData) : List PyData → Bool
  | [y, t] => canPutD x y t
  | _ => false
def kindD (k : Str) (x : PyData) (r : List PyData) : Bool := if cutKeep k = true then decide (r.length = 0) && putD x else if k = "order" then orderD x r else decide (k = "put") && put4D x r
def isDeedD : PyData → Bool
  | .tuple (.str k :: x :: r) => kindD k x r
  | _ => false
theorem int_len {n : Nat} {m : Int} (e : decide (V.int (n : Int) = V.int m) = true) : (n : Int) = m := V.int.inj (of_decide_eq_true e)
theorem int_len' {n : Nat} {m : Int} (e : ¬ decide (V.int (n : Int) = V.int m) = true) : (n : Int) ≠ m := fun z => e (decide_eq_true (by rw [z]))
section
variable {P : Program} {w : World} {K : PySem.W.Frag} {mg : Str → Option Value} {base : Heap} {T : Tp}
def spIsDeedD (K : PySem.W.Frag) (T : Tp) : Sp := fun vs H Q _ => ∃ (v : V) (d : PyData), vs = [v] ∧ Dp K H v d ∧ okD d = true ∧ TG T H ∧ ∀ H', Go T D0 H H' → Q (.bl (isDeedD d)) H'
theorem ok_isdeedD {f : Addr} {fd : FuncData} {k : Nat} (F : Fun K "_is_deed" "_is_deed" sIsDeed f fd) (M : Mg K mg) (cP : Cal P w K mg base k "is_put_line" ["thing"] (spPut K T)) (cC : Cal P w K mg base k "_can_put" ["above", "below", "texts"] (spCanPutD K T)) :
    FnOk P w K mg base CX0 (k + 1) f fd ["thing"] (spIsDeedD K T) := by
  refine F.ok scIsDeed (fun vs H Q E h => ?_) (fun cdv A outer s H vs Q E hr h => ?_)
  · obtain ⟨v, d, rfl, _⟩ := h
    rfl
  · obtain ⟨v, d, rfl, dd, okd, tg, q⟩ := h
    refine ⟨_, (pss_cons (ps_if (PW.pt (pw_or (pt_not (pt_val (pe_callB call_isi (by rfl) M.ins boot_isinstance (pa_cons (pv 0) (pa_cons (pe_bltn (v := .ty "tuple") (by rfl) M.tuple_ (by decide +kernel) rfl) pa_nil))))) (pw_or (pt_cmpR op_lt (pe_callB call_len_seq (by rfl) M.len_ PySem.boot_len (pa_cons (pv 0) pa_nil)) pe_int (nomark _)) (pw_or1 (pt_not (pt_val (pe_callB call_isi (by rfl) M.ins boot_isinstance (pa_cons (pe_ix ix_tup (pv 0) pe_int (fun _ _ => rfl)) (pa_cons (pe_bltn (v := .ty "str") (by rfl) M.str_ boot_str rfl) pa_nil)))))))))
      (pss_one (ps_ret pe_bl))
      pss_nil)
      (pss_cons (ps_if (pt_cmpR op_in_seq (pe_ix ix_tup (pv 0) pe_int (fun _ _ => rfl)) (pe_tup (pa_cons pe_str (pa_cons pe_str pa_nil))) (by rfl))
      (pss_one (ps_ret (pe_and (pe_cmpR op_eq (pe_callB call_len_seq (by rfl) M.len_ PySem.boot_len (pa_cons (pv 0) pa_nil)) pe_int (nomark _)) (pe_one (pe_cal cP hr (by rfl) (pa_cons (pe_ix ix_tup (pv 0) pe_int (fun _ _ => rfl)) pa_nil))))))
      pss_nil)
      (pss_cons (ps_if (pt_cmpR op_eq (pe_ix ix_tup (pv 0) pe_int (fun _ _ => rfl)) pe_str (nomark _))
      (pss_one (ps_ret (pe_and (pe_cmpR op_eq (pe_callB call_len_seq (by rfl) M.len_ PySem.boot_len (pa_cons (pv 0) pa_nil)) pe_int (nomark _)) (pe_and (pe_cal cP hr (by rfl) (pa_cons (pe_ix ix_tup (pv 0) pe_int (fun _ _ => rfl)) pa_nil)) (pe_one (pe_cal cP hr (by rfl) (pa_cons (pe_ix ix_tup (pv 0) pe_int (fun _ _ => rfl)) pa_nil)))))))
      pss_nil)
      (pss_one (ps_ret (pe_and (pe_cmpR op_eq (pe_ix ix_tup (pv 0) pe_int (fun _ _ => rfl)) pe_str (nomark _)) (pe_and (pe_cmpR op_eq (pe_callB call_len_seq (by rfl) M.len_ PySem.boot_len (pa_cons (pv 0) pa_nil)) pe_int (nomark _)) (pe_one (pe_cal cC hr (by rfl) (pa_cons (pe_ix ix_tup (pv 0) pe_int (fun _ _ => rfl)) (pa_cons (pe_ix ix_tup (pv 0) pe_int (fun _ _ => rfl)) (pa_cons (pe_ix ix_tup (pv 0) pe_int (fun _ _ => rfl)) pa_nil)))))))))))), ?_⟩
    have toH : ∀ {H'}, Go T D0 H H' → Sub H H' := fun g => sub_go g tg
    have g0 : Go T D0 H H := Go.rfl' tg
    obtain ⟨nt, ot, th, hq, hn⟩ := th_one okd dd
    refine ⟨v, rfl, v, .ty "tuple", .type nt, .type "tuple", _, rfl, .ty _, th.ty, kit_ty th.ktup, _, rfl, ite2 (fun e => iteT ?_) (fun e => ?_)⟩
    · have e2 : ot = none := by
        cases ot with
        | none => rfl
        | some _ => cases e
      have e3 : isDeedD d = false := by
        cases d with
        | tuple ds => exact absurd rfl (hn e2 ds)
        | _ => rfl
      rw [e3] at q
      exact q H g0
    · obtain ⟨a, xs, rfl, S, et⟩ := th.tupOf (notnot e)
      obtain ⟨ds, rfl, q0⟩ := hq xs et
      have xl : xs.length = ds.length := DpAll.len q0
      have okd' : okD.okDs ds = true := by unfold okD at okd; exact okd
      have oki := ok_items okd'
      refine ⟨.ref a, rfl, a, _, rfl, .inr S, _, _, rfl, rfl, _, rfl, ite2 (fun e1 => iteT ?_) (fun e1 => ?_)⟩
      · have l1 : ds.length < 2 := by
          have := of_decide_eq_true e1
          omega
        have e3 : isDeedD (.tuple ds) = false := by
          match ds, l1 with
          | [], _ => rfl
          | [x], _ => cases x <;> rfl
        rw [e3] at q
        exact q H g0
      · have l1 : ¬ ds.length < 2 := fun z => e1 (decide_eq_true (by omega))
        obtain ⟨d0, d1, r, rfl⟩ : ∃ d0 d1 r, ds = d0 :: d1 :: r := by
          match ds, l1 with
          | [], l => exact absurd (by decide) l
          | [x], l => exact absurd (by show 1 < 2; decide) l
          | d0 :: d1 :: r, _ => exact ⟨d0, d1, r, rfl⟩
        obtain ⟨x0, x1, rr, rfl, p0, p1, pr⟩ : ∃ x0 x1 rr, xs = x0 :: x1 :: rr ∧ Dp K H x0 d0 ∧ Dp K H x1 d1 ∧ DpAll K H rr r := by
          cases q0 with
          | cons a b =>
            cases b with
            | cons b c => exact ⟨_, _, _, rfl, a, b, c⟩
        obtain ⟨n0, o0, t0, _⟩ := th_one (oki d0 (List.mem_cons_self ..)) p0
        have ok1 : okD d1 = true := oki d1 (List.mem_cons_of_mem _ (List.mem_cons_self ..))
        have okr : ∀ e ∈ r, okD e = true := fun e m => oki e (List.mem_cons_of_mem _ (List.mem_cons_of_mem _ m))
        have rl : rr.length = r.length := DpAll.len pr
        have thp : ∀ {H' : Hp} {v : V} {d : PyData}, Go T D0 H H' → okD d = true → Dp K H v d → ∃ n o, Th K H' v n o ∧ ThAll K H' o ∧ putL o = putD d := fun g o d => by
          obtain ⟨n, o', t, al, _, ep, _⟩ := th_of o (Dp.sub (toH g) _ _ d)
          exact ⟨n, o', t, al, ep⟩
        refine ⟨.ref a, rfl, a, _, 0, x0, rfl, rfl, S, atI_nat (j := 0) rfl, x0, .ty "str", .type n0, .type "str", _, rfl, .ty _, t0.ty, kit_ty t0.kstr, _, rfl, ite2 (fun e2 => ?_) (fun e2 => ?_)⟩
        · have e3 : isDeedD (.tuple (d0 :: d1 :: r)) = false := by
            cases p0 with
            | str x => cases e2
            | _ => rfl
          rw [e3] at q
          exact q H g0
        · obtain ⟨k, rfl, hk⟩ := t0.strOf (notnot e2)
          cases p0
          have eD : isDeedD (.tuple (.str k :: d1 :: r)) = kindD k d1 r := rfl
          rw [eD] at q
          unfold kindD at q
          refine ⟨.ref a, rfl, a, _, 0, .str k, rfl, rfl, S, atI_nat (j := 0) rfl, small_le (by decide), fun t ht => ⟨t, _, rfl, .inr (.inl (.inl upd_same)), rfl, rfl, _, rfl, ite2 (fun e => ?_) (fun e => ?_)⟩⟩
          · have g1 := g0.new (o := .tup [V.str "cut", .str "keep"]) ht
            have S1 := (toH g1).seqT S
            rw [if_pos (show cutKeep k = true from e)] at q
            refine ⟨.ref a, rfl, a, _, rfl, .inr S1, rfl, _, rfl, ite2 (fun e3 => ?_) (fun e3 => ?_)⟩
            · have l2 := int_len e3
              rw [List.length_cons, List.length_cons] at l2
              rw [decide_eq_true (show r.length = 0 by omega), Bool.true_and] at q
              obtain ⟨n1, o1, t1, al1, ep1⟩ := thp g1 ok1 p1
              refine ⟨.ref a, rfl, a, _, 1, x1, rfl, rfl, S1, atI_nat (j := 1) rfl, x1, n1, o1, rfl, t1, al1, g1.1, fun H2 g2 => ?_⟩
              rw [ep1]
              exact q _ (g1.trans g2)
            · have l2 := int_len' e3
              rw [List.length_cons, List.length_cons] at l2
              rw [decide_eq_false (show ¬ r.length = 0 by omega), Bool.false_and] at q
              exact q _ g1
          · have g1 := g0.new (o := .tup [V.str "cut", .str "keep"]) ht
            have S1 := (toH g1).seqT S
            rw [if_neg (show ¬ cutKeep k = true from e)] at q
            refine ⟨.ref a, rfl, a, _, 0, .str k, rfl, rfl, S1, atI_nat (j := 0) rfl, rfl, _, rfl, ite2 (fun e4 => ?_) (fun e4 => ?_)⟩
            · have ek : k = "order" := V.str.inj (of_decide_eq_true e4)
              rw [if_pos ek] at q
              refine ⟨.ref a, rfl, a, _, rfl, .inr S1, rfl, _, rfl, ite2 (fun e3 => ?_) (fun e3 => ?_)⟩
              · have l2 := int_len e3
                rw [List.length_cons, List.length_cons] at l2
                obtain ⟨y, rfl⟩ : ∃ y, r = [y] := by
                  have l3 : r.length = 1 := by omega
                  match r, l3 with
                  | [y], _ => exact ⟨y, rfl⟩
                obtain ⟨z, rfl, pz⟩ := DpAll.i1 pr
                obtain ⟨n1, o1, t1, al1, ep1⟩ := thp g1 ok1 p1
                refine ⟨.ref a, rfl, a, _, 1, x1, rfl, rfl, S1, atI_nat (j := 1) rfl, x1, n1, o1, rfl, t1, al1, g1.1, fun H2 g2 => ⟨_, rfl, ?_⟩⟩
                rw [ep1]
                have g12 := g1.trans g2
                have eo : orderD d1 [y] = (putD d1 && putD y) := rfl
                rw [eo] at q
                refine ite2 (fun e5 => ?_) (fun e5 => ?_)
                · rw [e5, Bool.true_and] at q
                  obtain ⟨n2, o2, t2, al2, ep2⟩ := thp g12 (okr y (List.mem_cons_self ..)) pz
                  refine ⟨.ref a, rfl, a, _, 2, z, rfl, rfl, (toH g12).seqT S, atI_nat (j := 2) rfl, z, n2, o2, rfl, t2, al2, g12.1, fun H3 g3 => ?_⟩
                  rw [ep2]
                  exact q _ (g12.trans g3)
                · have f1 : putD d1 = false := Bool.eq_false_iff.mpr e5
                  rw [f1, Bool.false_and] at q
                  exact q _ g12
              · have l2 := int_len' e3
                rw [List.length_cons, List.length_cons] at l2
                have f1 : orderD d1 r = false := by
                  have l3 : r.length ≠ 1 := by omega
                  match r, l3 with
                  | [], _ => rfl
                  | [_], l => exact absurd rfl l
                  | _ :: _ :: _, _ => rfl
                rw [f1] at q
                exact q _ g1
            · have ek : ¬ k = "order" := fun z => e4 (decide_eq_true (by rw [z]))
              rw [if_neg ek] at q
              refine ⟨.ref a, rfl, a, _, 0, .str k, rfl, rfl, S1, atI_nat (j := 0) rfl, rfl, _, rfl, ite2 (fun e5 => ?_) (fun e5 => ?_)⟩
              · have ek2 : k = "put" := V.str.inj (of_decide_eq_true e5)
                rw [decide_eq_true ek2, Bool.true_and] at q
                refine ⟨.ref a, rfl, a, _, rfl, .inr S1, rfl, _, rfl, ite2 (fun e3 => ?_) (fun e3 => ?_)⟩
                · have l2 := int_len e3
                  rw [List.length_cons, List.length_cons] at l2
                  obtain ⟨y, u, rfl⟩ : ∃ y u, r = [y, u] := by
                    have l3 : r.length = 2 := by omega
                    match r, l3 with
                    | [y, u], _ => exact ⟨y, u, rfl⟩
                  obtain ⟨z, z2, rfl, pz, pz2⟩ := DpAll.i2 pr
                  refine ⟨.ref a, rfl, a, _, 1, x1, rfl, rfl, S1, atI_nat (j := 1) rfl, .ref a, rfl, a, _, 2, z, rfl, rfl, S1, atI_nat (j := 2) rfl, .ref a, rfl, a, _, 3, z2, rfl, rfl, S1, atI_nat (j := 3) rfl, ?_⟩
                  exact ⟨x1, z, z2, d1, y, u, rfl, Dp.sub (toH g1) _ _ p1, Dp.sub (toH g1) _ _ pz, Dp.sub (toH g1) _ _ pz2, ok1, okr y (List.mem_cons_self ..), okr u (List.mem_cons_of_mem _ (List.mem_cons_self ..)), g1.1, fun H2 g2 => q _ (g1.trans g2)⟩
                · have l2 := int_len' e3
                  rw [List.length_cons, List.length_cons] at l2
                  have f1 : put4D d1 r = false := by
                    have l3 : r.length ≠ 2 := by omega
                    match r, l3 with
                    | [], _ => rfl
                    | [_], _ => rfl
                    | [_, _], l => exact absurd rfl l
                    | _ :: _ :: _ :: _, _ => rfl
                  rw [f1] at q
                  exact q _ g1
              · have ek2 : ¬ k = "put" := fun z => e5 (decide_eq_true (by rw [z]))
                rw [decide_eq_false ek2, Bool.false_and] at q
                exact q _ g1
end
end K1
set_option Elab.async false
set_option linter.all false
set_option maxRecDepth 100000
set_option maxHeartbeats 4000000
/-! The program's def _many_deeds, of anything. -/
namespace K1
open PySem PySem.Spec PyProof.Rows L2
/-- how many stand ahead of the first that is none -/
def firstBad : List PyData → Nat
  | [] => 0
  | d :: r => if isDeedD d = true then firstBad r + 1 else 0
theorem firstBad_at : ∀ {ds : List PyData} {i : Nat} {d : PyData}, (∀ e ∈ ds.take i, isDeedD e = true) → ds[i]? = some d → isDeedD d = false → firstBad ds = i
  | [], _, _, _, h, _ => by simp at h
  | e :: r, 0, d, _, h, hd => by
    have : e = d := by simpa using h
    subst this
    show (if isDeedD e = true then _ else 0) = 0
    rw [hd]
    rfl
  | e :: r, i + 1, d, ha, h, hd => by
    have he : isDeedD e = true := ha e (by simp)
    have := firstBad_at (ds := r) (i := i) (d := d) (fun x m => ha x (by rw [List.take_succ_cons]; exact List.mem_cons_of_mem _ m)) (by simpa using h) hd
    show (if isDeedD e = true then firstBad r + 1 else 0) = i + 1
    rw [if_pos he, this]
theorem firstBad_all : ∀ {ds : List PyData}, (∀ e ∈ ds, isDeedD e = true) → firstBad ds = ds.length
  | [], _ => rfl
  | e :: r, ha => by
    show (if isDeedD e = true then firstBad r + 1 else 0) = r.length + 1
    rw [if_pos (ha e (List.mem_cons_self ..)), firstBad_all fun x m => ha x (List.mem_cons_of_mem _ m)]
section
variable {P : Program} {w : World} {K : PySem.W.Frag} {mg : Str → Option Value} {base : Heap} {T : Tp}
def spManyDD (K : PySem.W.Frag) (T : Tp) : Sp := fun vs H Q _ => ∃ (l : Addr) (dvs : List V) (ds : List PyData), vs = [.ref l] ∧ SqL K H l dvs ∧ DpAll K H dvs ds ∧ (∀ d ∈ ds, okD d = true) ∧ TG T H ∧ ∀ H', Go T D0 H H' → Q (.int (firstBad ds : Nat)) H'
theorem ok_manydD {f : Addr} {fd : FuncData} {k : Nat} (F : Fun K "_many_deeds" "_many_deeds" sManyDeeds f fd) (M : Mg K mg) (cD : Cal P w K mg base k "_is_deed" ["thing"] (spIsDeedD K T)) : FnOk P w K mg base CX0 (k + 1) f fd ["things"] (spManyDD K T) := by
  refine F.ok scManyDeeds (fun vs H Q E h => ?_) (fun cdv A outer s H vs Q E hr h => ?_)
  · obtain ⟨l, dvs, ds, rfl, _⟩ := h
    rfl
  · obtain ⟨l, dvs, ds, rfl, S, dds, ok, tg, q⟩ := h
    refine ⟨_, (pss_cons (ps_for PassesOwn.never rfl (pi_enum (by rfl) M.enum_ (pa_cons (pv 0) pa_nil)) (pg_tup rfl (pgs_cons (pg_name (i := 1) scManyDeeds.nd rfl (.inl rfl)) (pgs_cons (pg_name (i := 2) scManyDeeds.nd rfl (.inl rfl)) pgs_nil)))
      (pss_one (ps_if (pt_not (pt_val (pe_cal cD hr (by rfl) (pa_cons (pv 2) pa_nil))))
      (pss_one (ps_ret (pv 1)))
      pss_nil)))
      (pss_one (ps_ret (pe_callB call_len_seq (by rfl) M.len_ PySem.boot_len (pa_cons (pv 0) pa_nil))))), ?_⟩
    have toH : ∀ {H'}, Go T D0 H H' → Sub H H' := fun g => sub_go g tg
    have g0 : Go T D0 H H := Go.rfl' tg
    have dlen : dvs.length = ds.length := DpAll.len dds
    refine ⟨.ref l, rfl, l, dvs, rfl, S, ?_⟩
    refine for_it (walk_enum (K := K) (a := l) (xs := dvs)) (fun i σ H5 => ∃ (y1 y2 : Option V), σ = [some (.ref l), y1, y2] ∧ Go T D0 H H5 ∧ ∀ e ∈ ds.take i, isDeedD e = true) ?_ ?_ ?_ ?_
    · exact ⟨_, _, rfl, g0, fun e m => by rw [List.take_zero] at m; cases m⟩
    · rintro i σ H5 hi ⟨y1, y2, rfl, g5, _⟩
      exact (toH g5).seqL S
    · rintro i v σ H5 H5' hi ⟨y1, y2, rfl, g5, al⟩ ⟨T', x', y', rfl, hT, rfl, hx', hy'⟩
      cases hx'
      have hy' : dvs[i]? = some y' := hy'
      obtain ⟨d, hd, dp⟩ := DpAll.at' dds hy'
      have g6 := g5.new (o := .tup [V.int (i : Nat), y']) hT
      refine ⟨T', _, rfl, .inl (.inl upd_same), rfl, _, _, rfl, _, _, rfl, rfl, ?_⟩
      refine ⟨y', rfl, y', d, rfl, Dp.sub (toH g6) _ _ dp, ok d (List.mem_of_getElem? hd), g6.1, fun H7 g7 => ⟨_, rfl, ite2 (fun e => ?_) (fun e => ?_)⟩⟩
      · have f1 : isDeedD d = false := by
          cases h : isDeedD d with
          | false => rfl
          | true => rw [h] at e; cases e
        have := q H7 (g6.trans g7)
        rw [firstBad_at al hd f1] at this
        exact ⟨_, rfl, this⟩
      · refine ⟨_, _, rfl, g6.trans g7, fun x m => ?_⟩
        rw [List.take_add_one, hd] at m
        rcases List.mem_append.mp m with m | m
        · exact al x m
        · obtain rfl := List.mem_singleton.mp m
          exact notnot e
    · rintro σ H5 ⟨y1, y2, rfl, g5, al⟩
      rw [dlen, List.take_length] at al
      refine ⟨.ref l, rfl, l, dvs, rfl, .inl ((toH g5).seqL S), ?_⟩
      have := q _ g5
      rw [firstBad_all al, ← dlen] at this
      exact this
end
end K1
set_option Elab.async false
set_option linter.all false
set_option maxRecDepth 100000
set_option maxHeartbeats 4000000
/-! The program's def _can_know, of anything. -/
namespace K1
open PySem PySem.Spec PyProof.Rows L2
def nmOfD : PyData → Option Nm
  | .tuple [.str x, .int i] => if nameD (.tuple [.str x, .int i]) = true then some (x, i) else none
  | _ => none
theorem nmOf_no {d : PyData} (h : nameD d = false) : nmOfD d = none := by
  unfold nmOfD
  split
  · rw [h]
    rfl
  · rfl
theorem nmOf_yes {d : PyData} (h : nameD d = true) : ∃ n, d = eN n ∧ NmOk n ∧ nmOfD d = some n := by
  unfold nameD at h
  split at h
  · rename_i a b
    have h2 := Bool.and_eq_true_iff.mp h
    obtain ⟨x, rfl⟩ : ∃ x, a = .str x := by
      cases a with
      | str x => exact ⟨x, rfl⟩
      | _ => exact absurd (show false = true from h2.1) (by decide)
    obtain ⟨i, rfl⟩ : ∃ i, b = .int i := by
      cases b with
      | int i => exact ⟨i, rfl⟩
      | _ => exact absurd (show false = true from h2.2) (by decide)
    have h3 := Bool.and_eq_true_iff.mp h2.2
    refine ⟨(x, i), rfl, ⟨h2.1, of_decide_eq_true h3.1, of_decide_eq_true h3.2⟩, ?_⟩
    show (if nameD (.tuple [.str x, .int i]) = true then some (x, i) else none) = _
    rw [if_pos]
    exact h
  · cases h
/-- what is known can be known -/
def knowNext (own : Nm) (b : Option Nm) (m : Nm) (rest : Bool) : Bool := if m = own then false else match b with
  | some c => if nmLt c m = true then rest else false
  | none => rest
def knowOk (own : Nm) : Option Nm → List PyData → Bool
  | _, [] => true
  | b, d :: r => match nmOfD d with
    | none => false
    | some m => knowNext own b m (knowOk own (some m) r)
def canKnowD (own : Nm) : PyData → Bool
  | .list ds => knowOk own none ds
  | _ => false
theorem th_lst {K : PySem.W.Frag} {H : Hp} {v : V} {d : PyData} (ok : okD d = true) (h : Dp K H v d) : ∃ n o, Th K H v n o ∧ (n = "list" → ∃ ds, d = .list ds) ∧ (n ≠ "list" → ∀ ds, d ≠ .list ds) := by
  cases h with
  | non => exact ⟨_, _, .non, (fun z => absurd z (by decide)), fun _ _ z => by cases z⟩
  | bl b => exact ⟨_, _, .bl b, (fun z => absurd z (by decide)), fun _ _ z => by cases z⟩
  | int i => exact ⟨_, _, .int i, (fun z => absurd z (by decide)), fun _ _ z => by cases z⟩
  | str x => exact ⟨_, _, .str x (small_le (by have := of_decide_eq_true (Bool.and_eq_true_iff.mp (show (decide (x.length ≤ 1000) && PyData.strOk x) = true from ok)).1; omega)), (fun z => absurd z (by decide)), fun _ _ z => by cases z⟩
  | lst s a => exact ⟨_, _, .lst s, (fun _ => ⟨_, rfl⟩), fun z => absurd rfl z⟩
  | tup s a => exact ⟨_, _, .tup s, (fun z => absurd z (by decide)), fun _ _ z => by cases z⟩
section
variable {P : Program} {w : World} {K : PySem.W.Frag} {mg : Str → Option Value} {base : Heap} {T : Tp}
def spCanKnowD (K : PySem.W.Frag) (T : Tp) : Sp := fun vs H Q _ => ∃ (nv kv : V) (n : Nm) (d : PyData), vs = [nv, kv] ∧ Dp K H nv (eN n) ∧ NmOk n ∧ Dp K H kv d ∧ okD d = true ∧ TG T H ∧ ∀ H', Go T D0 H H' → Q (.bl (canKnowD n d)) H'
theorem ok_canknowD {f : Addr} {fd : FuncData} {k : Nat} (F : Fun K "can_know" "can_know" sCanKnow f fd) (M : Mg K mg) (cN : Cal P w K mg base k "is_name" ["thing"] (spName K T)) : FnOk P w K mg base CX0 (k + 1) f fd ["own", "knows"] (spCanKnowD K T) := by
  refine F.ok scCanKnow (fun vs H Q E h => ?_) (fun cdv A outer s H vs Q E hr h => ?_)
  · obtain ⟨nv, kv, n, d, rfl, _⟩ := h
    rfl
  · obtain ⟨nv, kv, n, d, rfl, dn, on_, dk, okd, tg, q⟩ := h
    refine ⟨_, (pss_cons (ps_if (pt_not (pt_val (pe_callB call_isi (by rfl) M.ins boot_isinstance (pa_cons (pv 1) (pa_cons (pe_bltn (v := .ty "list") (by rfl) M.list_ (by decide +kernel) rfl) pa_nil)))))
      (pss_one (ps_ret pe_bl))
      pss_nil)
      (pss_cons (ps_set (i := 2) scCanKnow.nd rfl (.inl rfl) pe_non)
      (pss_cons (ps_for PassesOwn.never rfl (pi_list (pv 1)) (pg_name (i := 3) scCanKnow.nd rfl (.inl rfl))
      (pss_cons (ps_if (PW.pt (pw_or (pt_not (pt_val (pe_cal cN hr (by rfl) (pa_cons (pv 3) pa_nil)))) (pw_or (pt_cmpR (op_eqD hr.units) (pv 3) (pv 0) (nomark _)) (pw_or1 (PW.pt (pw_and (pt_cmpR op_notN (pv 2) pe_non (nomark _)) (pw_and1 (pt_cmpR (op_leD hr.units) (pv 3) (pv 2) (nomark _)))))))))
      (pss_one (ps_ret pe_bl))
      pss_nil)
      (pss_one (ps_set (i := 2) scCanKnow.nd rfl (.inl rfl) (pv 3)))))
      (pss_one (ps_ret pe_bl))))), ?_⟩
    have toH : ∀ {H'}, Go T D0 H H' → Sub H H' := fun g => sub_go g tg
    have g0 : Go T D0 H H := Go.rfl' tg
    obtain ⟨nk, ok_, tk, hl, hnl⟩ := th_lst okd dk
    refine ⟨kv, rfl, kv, .ty "list", .type nk, .type "list", _, rfl, .ty _, tk.ty, kit_ty tk.klst, _, rfl, ite2 (fun e => ?_) (fun e => ?_)⟩
    · have ne : nk ≠ "list" := fun z => by rw [decide_eq_true z] at e; cases e
      have f1 : canKnowD n d = false := by
        cases d with
        | list ds => exact absurd rfl (hnl ne ds)
        | _ => rfl
      rw [f1] at q
      exact q H g0
    · obtain ⟨ds, rfl⟩ := hl (of_decide_eq_true (notnot e))
      obtain ⟨l, kvs, rfl, S, dks⟩ := Dp.lstI dk
      have okds : okD.okDs ds = true := by unfold okD at okd; exact okd
      have klen : kvs.length = ds.length := DpAll.len dks
      have eq_ : canKnowD n (.list ds) = knowOk n none ds := rfl
      rw [eq_] at q
      refine ⟨.ref l, rfl, l, rfl, ⟨_, S⟩, ?_⟩
      refine for_list (K := K) (a := l) (xs := kvs) (fun i σ H5 => ∃ (bv : V) (b : Option Nm) (y1 : Option V), σ = [some nv, some (.ref l), some bv, y1] ∧ Go T D0 H H5 ∧ knowOk n none ds = knowOk n b (ds.drop i) ∧ ((b = none ∧ bv = .non) ∨ ∃ m, b = some m ∧ bv ≠ .non ∧ Dp K H bv (eN m))) ?_ ?_ ?_ ?_
      · exact ⟨_, none, _, rfl, g0, rfl, .inl ⟨rfl, rfl⟩⟩
      · rintro i σ H5 hi ⟨bv, b, y1, rfl, g5, _⟩
        exact (toH g5).seqL S
      · rintro i x σ H5 hx ⟨bv, b, y1, rfl, g5, ek, hb⟩
        obtain ⟨d, hd, dp⟩ := DpAll.at' dks hx
        have hdr : ds.drop i = d :: ds.drop (i + 1) := by
          obtain ⟨h1, h2⟩ := List.getElem?_eq_some_iff.mp hd
          rw [← h2]
          exact List.drop_eq_getElem_cons h1
        rw [hdr] at ek
        obtain ⟨nx, ox, tx, alx, enx, _, _⟩ := th_of (ok_items okds d (List.mem_of_getElem? hd)) (Dp.sub (toH g5) _ _ dp)
        refine ⟨x, rfl, x, nx, ox, rfl, tx, alx, g5.1, fun H6 g6 => ⟨_, rfl, ?_⟩⟩
        rw [enx]
        have g7 := g5.trans g6
        refine ite2 (fun e1 => ?_) (fun e1 => ?_)
        · have f1 : nameD d = false := by
            cases h : nameD d with
            | false => rfl
            | true => rw [h] at e1; cases e1
          have f2 : knowOk n b (d :: ds.drop (i + 1)) = false := by
            unfold knowOk
            rw [nmOf_no f1]
          rw [ek, f2] at q
          exact iteT (q H6 g7)
        · obtain ⟨m, rfl, okm, em⟩ := nmOf_yes (notnot e1)
          have kstep : knowOk n b (eN m :: ds.drop (i + 1)) = knowNext n b m (knowOk n (some m) (ds.drop (i + 1))) := by
            show (match nmOfD (eN m) with | none => false | some m => knowNext n b m (knowOk n (some m) (ds.drop (i + 1)))) = _
            rw [em]
          rw [kstep] at ek
          unfold knowNext at ek
          refine ⟨x, rfl, nv, rfl, _, _, Dp.sub (toH g7) _ _ dp, Dp.sub (toH g7) _ _ dn, okm.sh, on_.sh, _, rfl, ?_⟩
          rw [eN_eqv]
          refine ite2 (fun e2 => ?_) (fun e2 => ?_)
          · rw [if_pos (of_decide_eq_true e2)] at ek
            rw [ek] at q
            exact iteT (q H6 g7)
          · rw [if_neg (fun z => e2 (decide_eq_true z))] at ek
            have xnon : x ≠ .non := by
              obtain ⟨a, xs, rfl, _⟩ := Dp.tupI dp
              exact fun z => nomatch z
            refine ⟨bv, rfl, rfl, _, rfl, ?_⟩
            rcases hb with ⟨rfl, rfl⟩ | ⟨m', rfl, nb, db⟩
            · refine iteF ?_
              exact ⟨x, rfl, x, some m, some x, rfl, g7, ek, .inr ⟨m, rfl, xnon, dp⟩⟩
            · have ek : knowOk n none ds = (if nmLt m' m = true then knowOk n (some m) (ds.drop (i + 1)) else false) := ek
              refine ite2 (fun e5 => ?_) (fun e5 => absurd (by rw [decide_eq_false nb]; rfl) e5)
              refine ⟨x, rfl, bv, rfl, _, _, Dp.sub (toH g7) _ _ dp, Dp.sub (toH g7) _ _ db, eN_alike m m', (by unfold eN; intro z; cases z), by rw [eN_dep]; decide, _, rfl, ?_⟩
              cases lt : nmLt m' m with
              | true =>
                rw [show PySem.W.dataLt (eN m') (eN m) = true from lt]
                rw [if_pos lt] at ek
                exact iteF ⟨x, rfl, x, some m, some x, rfl, g7, ek, .inr ⟨m, rfl, xnon, dp⟩⟩
              | false =>
                rw [show PySem.W.dataLt (eN m') (eN m) = false from lt]
                rw [if_neg (by rw [lt]; decide)] at ek
                rw [ek] at q
                exact iteT (q H6 g7)
      · rintro σ H5 ⟨bv, b, y1, rfl, g5, ek, _⟩
        rw [klen, List.drop_length] at ek
        rw [ek] at q
        exact q _ g5
end
end K1
set_option Elab.async false
set_option linter.all false
set_option maxRecDepth 100000
set_option maxHeartbeats 4000000
/-! What passes as a deed is one. -/
namespace K1
open PySem PySem.Spec PyProof.Rows L2
/-- its lines are lines -/
def Deed.lok : Deed → Prop
  | .put a b ts => EdOk a ∧ EdOk b ∧ 1 ≤ ts.length ∧ ts.length ≤ 200
  | .order a b => LnOk a ∧ LnOk b
  | .one _ a => LnOk a
theorem amg_is {d : PyData} {lo hi : Int} (h : amgD d lo hi = true) : ∃ i, d = .int i ∧ lo ≤ i ∧ i ≤ hi := by
  cases d with
  | int i =>
    have h2 := Bool.and_eq_true_iff.mp (show (decide (lo ≤ i) && decide (i ≤ hi)) = true from h)
    exact ⟨i, rfl, of_decide_eq_true h2.1, of_decide_eq_true h2.2⟩
  | _ => exact absurd (show false = true from h) (by decide)
theorem hand_is {d : PyData} (h : handD d = true) : ∃ x, d = .str x ∧ handV (.str x) = true := by
  cases d with
  | str x => exact ⟨x, rfl, h⟩
  | _ => exact absurd (show false = true from h) (by decide)
theorem ge_is {d : PyData} (h : geD d = true) : ∃ i, d = .int i ∧ 1 ≤ i := by
  cases d with
  | int i => exact ⟨i, rfl, of_decide_eq_true (show decide (1 ≤ i) = true from h)⟩
  | _ => exact absurd (show false = true from h) (by decide)
theorem put_is {d : PyData} (h : putD d = true) : ∃ l, d = eL l ∧ LnOk l := by
  unfold putD at h
  split at h
  · rename_i a b c
    have h2 := Bool.and_eq_true_iff.mp h
    have h3 := Bool.and_eq_true_iff.mp h2.1
    obtain ⟨x, rfl, hx⟩ := hand_is h3.1
    obtain ⟨i, rfl, i1, i2⟩ := amg_is h3.2
    obtain ⟨j, rfl, j1⟩ := ge_is h2.2
    exact ⟨(x, i, j), rfl, ⟨hx, i1, i2⟩, j1⟩
  · cases h
theorem end_is {d : PyData} (h : endD d = true) : ∃ l, d = eL l ∧ (l = headL ∨ l = footL) := by
  unfold endD at h
  split at h
  · rename_i a b c
    have h2 := Bool.and_eq_true_iff.mp h
    have h3 := Bool.and_eq_true_iff.mp h2.1
    obtain ⟨x, rfl⟩ : ∃ x, a = .str x := by
      cases a with
      | str x => exact ⟨x, rfl⟩
      | _ => exact absurd (show false = true from h3.1) (by decide)
    have hx : x = "" := V.str.inj (of_decide_eq_true (show decide (V.str x = .str "") = true from h3.1))
    obtain ⟨i, rfl, i1, i2⟩ := amg_is h3.2
    obtain ⟨j, rfl, j1, j2⟩ := amg_is h2.2
    obtain rfl : i = 0 := by omega
    subst hx
    refine ⟨("", 0, j), rfl, ?_⟩
    rcases (show j = 0 ∨ j = 1 by omega) with rfl | rfl
    · exact .inl rfl
    · exact .inr rfl
  · cases h
theorem ed_is {d : PyData} (h : (putD d || endD d) = true) : ∃ l, d = eL l ∧ EdOk l := by
  cases hp : putD d with
  | true =>
    obtain ⟨l, e, o⟩ := put_is hp
    exact ⟨l, e, .inl o⟩
  | false =>
    rw [hp, Bool.false_or] at h
    obtain ⟨l, e, o⟩ := end_is h
    exact ⟨l, e, .inr o⟩
theorem texts_is : ∀ {ds : List PyData}, ds.all textD = true → ∃ ts : List Str, ds = ts.map .str
  | [], _ => ⟨[], rfl⟩
  | d :: r, h => by
    rw [List.all_cons] at h
    have h2 := Bool.and_eq_true_iff.mp h
    obtain ⟨ts, rfl⟩ := texts_is h2.2
    cases d with
    | str x => exact ⟨x :: ts, rfl⟩
    | _ => exact absurd (show false = true from h2.1) (by decide)
theorem cutKeep_is {k : Str} (h : cutKeep k = true) : ∃ b, k = kindS b := by
  unfold cutKeep inV at h
  rw [List.any_cons, List.any_cons, List.any_nil, Bool.or_false] at h
  cases h1 : eqV (.str "cut") (.str k) with
  | true =>
    have : ("cut" : Str) = k := by simpa [eqV] using h1
    exact ⟨false, this.symm⟩
  | false =>
    rw [h1, Bool.false_or] at h
    have : ("keep" : Str) = k := by simpa [eqV] using h
    exact ⟨true, this.symm⟩
theorem isDeed_is {d : PyData} (h : isDeedD d = true) : ∃ D : Deed, d = eD D ∧ D.lok := by
  unfold isDeedD at h
  split at h
  · rename_i k x r
    unfold kindD at h
    by_cases hc : cutKeep k = true
    · rw [if_pos hc] at h
      have h2 := Bool.and_eq_true_iff.mp h
      have r0 : r = [] := List.eq_nil_of_length_eq_zero (of_decide_eq_true h2.1)
      subst r0
      obtain ⟨l, rfl, o⟩ := put_is h2.2
      obtain ⟨b, rfl⟩ := cutKeep_is hc
      exact ⟨.one b l, rfl, o⟩
    · rw [if_neg hc] at h
      by_cases ho : k = "order"
      · rw [if_pos ho] at h
        subst ho
        unfold orderD at h
        split at h
        · rename_i y
          have h2 := Bool.and_eq_true_iff.mp h
          obtain ⟨l, rfl, o⟩ := put_is h2.1
          obtain ⟨m, rfl, o2⟩ := put_is h2.2
          exact ⟨.order l m, rfl, o, o2⟩
        · cases h
      · rw [if_neg ho] at h
        have h2 := Bool.and_eq_true_iff.mp h
        have hk : k = "put" := of_decide_eq_true h2.1
        subst hk
        have h3 := h2.2
        unfold put4D at h3
        split at h3
        · rename_i y t
          unfold canPutD at h3
          split at h3
          · rename_i ts
            have a1 := Bool.and_eq_true_iff.mp h3
            have a2 := Bool.and_eq_true_iff.mp a1.1
            have a3 := Bool.and_eq_true_iff.mp a1.2
            have a4 := Bool.and_eq_true_iff.mp a3.1
            obtain ⟨l, rfl, o⟩ := ed_is a4.1
            obtain ⟨m, rfl, o2⟩ := ed_is a4.2
            obtain ⟨us, rfl⟩ := texts_is a3.2
            have l1 := of_decide_eq_true a2.1
            have l2 := of_decide_eq_true a2.2
            rw [List.length_map] at l1 l2
            exact ⟨.put l m us, rfl, o, o2, l1, l2⟩
          · cases h3
        · cases h3
  · cases h
end K1
set_option Elab.async false
set_option linter.all false
set_option maxRecDepth 100000
set_option maxHeartbeats 4000000
/-! The program's def _can_do, of anything that passes as a deed. -/
namespace K1
open PySem PySem.Spec PyProof.Rows L2
def ownBad (n : Nm) (m : Int) (l : Ln) : Bool := decide (m < l.2.2) && decide (nmOf l = n)
def twoOk (n : Nm) (m : Int) (a b : Ln) : Bool := !ownBad n m a && (!ownBad n m b && (decide (a ≠ b) && (decide (a ≠ footL) && decide (b ≠ headL))))
def canDoB (n : Nm) (m : Int) : Deed → Bool
  | .one _ a => !ownBad n m a
  | .order a b => twoOk n m a b
  | .put a b _ => twoOk n m a b
section
variable {P : Program} {w : World} {K : PySem.W.Frag} {mg : Str → Option Value} {base : Heap} {T : Tp}
def spCanDoD (K : PySem.W.Frag) (T : Tp) : Sp := fun vs H Q _ => ∃ (v nv : V) (d : Deed) (n : Nm) (m : Int), vs = [v, nv, .int m] ∧ Dp K H v (eD d) ∧ Dp K H nv (eN n) ∧ NmOk n ∧ d.lok ∧ TG T H ∧ ∀ H', Go T D0 H H' → Q (.bl (canDoB n m d)) H'
theorem ok_candoD {f : Addr} {fd : FuncData} {k : Nat} (F : Fun K "can_do" "can_do" sCanDo f fd) (M : Mg K mg) : FnOk P w K mg base CX0 (k + 1) f fd ["deed", "own", "many"] (spCanDoD K T) := by
  obtain ⟨aH, mH, sH⟩ := M.hd
  obtain ⟨aF, mF, sF⟩ := M.ft
  refine F.ok scCanDo (fun vs H Q E h => ?_) (fun cdv A outer s H vs Q E hr h => ?_)
  · obtain ⟨v, nv, d, n, m, rfl, _⟩ := h
    rfl
  · obtain ⟨v, nv, d, n, m, rfl, dd, dn, on_, ok, tg, q⟩ := h
    refine ⟨_, (pss_cons (ps_set (i := 3) scCanDo.nd rfl (.inl rfl) (pe_ix ix_tup (pv 0) pe_int (fun _ _ => rfl)))
      (pss_cons (ps_if (PW.pt (pw_and (pt_cmpR op_gt (pe_ix ix_tup (pv 3) pe_int (fun _ _ => rfl)) (pv 2) (nomark _)) (pw_and1 (pt_cmpR (op_eqD hr.units) (pe_slice sl_tupA (pv 3) po_none (po_some pe_int)) (pv 1) (nomark _)))))
      (pss_one (ps_ret pe_bl))
      pss_nil)
      (pss_cons (ps_if (pt_cmpR op_eq (pe_callB call_len_seq (by rfl) M.len_ PySem.boot_len (pa_cons (pv 0) pa_nil)) pe_int (nomark _))
      (pss_one (ps_ret pe_bl))
      pss_nil)
      (pss_cons (ps_set (i := 4) scCanDo.nd rfl (.inl rfl) (pe_ix ix_tup (pv 0) pe_int (fun _ _ => rfl)))
      (pss_cons (ps_if (PW.pt (pw_and (pt_cmpR op_gt (pe_ix ix_tup (pv 4) pe_int (fun _ _ => rfl)) (pv 2) (nomark _)) (pw_and1 (pt_cmpR (op_eqD hr.units) (pe_slice sl_tupA (pv 4) po_none (po_some pe_int)) (pv 1) (nomark _)))))
      (pss_one (ps_ret pe_bl))
      pss_nil)
      (pss_one (ps_ret (pe_and (pe_cmpR (op_neD hr.units) (pv 3) (pv 4) (nomark _)) (pe_and (pe_cmpR (op_neD hr.units) (pv 3) (pe_glob (v := .ref aF) (by rfl) mF rfl) (nomark _)) (pe_one (pe_cmpR (op_neD hr.units) (pv 4) (pe_glob (v := .ref aH) (by rfl) mH rfl) (nomark _)))))))))))), ?_⟩
    have toH : ∀ {H'}, Go T D0 H H' → Sub H H' := fun g => sub_go g tg
    have g0 : Go T D0 H H := Go.rfl' tg
    have shL : ∀ {l}, EdOk l → SeqAt.shaped (eL l) = true := fun o => eL_sh o.str
    have shN : ∀ {l}, EdOk l → SeqAt.shaped (eN (nmOf l)) = true := fun o => shaped_of (eN_lay (by exact o.str)) (by rw [eN_dep]; decide)
    have dH : ∀ H', Dp K H' (.ref aH) (eL headL) := fun H' => .tup (sH H') (.cons (.str _) (.cons (.int _) (.one (.int _))))
    have dF : ∀ H', Dp K H' (.ref aF) (eL footL) := fun H' => .tup (sF H') (.cons (.str _) (.cons (.int _) (.one (.int _))))
    have cut_ : ∀ {H' : Hp} {t : Addr} {l : Ln}, H' t = some (.tup (cutV [V.str l.1, .int l.2.1, .int l.2.2] none (some 2))) → Dp K H' (.ref t) (eN (nmOf l)) := fun e => .tup (.inl (.inl e)) (.cons (.str _) (.one (.int _)))
    have lnI : ∀ {H' v l}, Dp K H' v (eL l) → ∃ a, v = .ref a ∧ SqT K H' a [V.str l.1, .int l.2.1, .int l.2.2] := fun dl => by
      obtain ⟨a, xs, rfl, S, q⟩ := Dp.tupI dl
      obtain ⟨x, y, z, rfl, q1, q2, q3⟩ := DpAll.i3 q
      cases Dp.strI q1
      cases Dp.intI q2
      cases Dp.intI q3
      exact ⟨a, rfl, S⟩
    have qv : ∀ {b : Bool}, canDoB n m d = b → ∀ H', Go T D0 H H' → Q (.bl b) H' := fun e H' g => e ▸ q H' g
    have obT : ∀ {l : Ln}, decide (m < l.2.2) = true → PyData.eqv (eN (nmOf l)) (eN n) = true → ownBad n m l = true := fun e z => by
      rw [eN_eqv] at z
      unfold ownBad
      rw [e, z]
      rfl
    have obF : ∀ {l : Ln}, ¬ decide (m < l.2.2) = true → ownBad n m l = false := fun e => by
      unfold ownBad
      rw [Bool.eq_false_iff.mpr e, Bool.false_and]
    have obF' : ∀ {l : Ln}, ¬ PyData.eqv (eN (nmOf l)) (eN n) = true → ownBad n m l = false := fun e => by
      rw [eN_eqv] at e
      unfold ownBad
      rw [Bool.eq_false_iff.mpr e, Bool.and_false]
    have parts : ∃ a kd y tl l0, v = .ref a ∧ SqT K H a (V.str kd :: y :: tl) ∧ Dp K H y (eL l0) ∧ EdOk l0 ∧ ((tl = [] ∧ canDoB n m d = !ownBad n m l0) ∨ ∃ z tl' l1, tl = z :: tl' ∧ Dp K H z (eL l1) ∧ EdOk l1 ∧ canDoB n m d = twoOk n m l0 l1) := by
      cases d with
      | one kp l =>
        obtain ⟨a, _, rfl, S, ds⟩ := Dp.tupI dd
        obtain ⟨x, y, rfl, q1, q2⟩ := DpAll.i2 ds
        cases Dp.strI q1
        exact ⟨a, _, y, [], l, rfl, S, q2, .inl ok, .inl ⟨rfl, rfl⟩⟩
      | order la lb =>
        obtain ⟨a, _, rfl, S, ds⟩ := Dp.tupI dd
        obtain ⟨x, y, z, rfl, q1, q2, q3⟩ := DpAll.i3 ds
        cases Dp.strI q1
        exact ⟨a, _, y, [z], la, rfl, S, q2, .inl ok.1, .inr ⟨z, [], lb, rfl, q3, .inl ok.2, rfl⟩⟩
      | put la lb ts =>
        obtain ⟨a, _, rfl, S, ds⟩ := Dp.tupI dd
        obtain ⟨x, y, z, u, rfl, q1, q2, q3, q4⟩ := DpAll.i4 ds
        cases Dp.strI q1
        exact ⟨a, _, y, [z, u], la, rfl, S, q2, ok.1, .inr ⟨z, [u], lb, rfl, q3, ok.2.1, rfl⟩⟩
    obtain ⟨a, kd, y, tl, l0, rfl, S, dy, o0, more⟩ := parts
    have bad0 : ownBad n m l0 = true → canDoB n m d = false := fun e => by
      rcases more with ⟨_, h⟩ | ⟨_, _, l1, _, _, _, h⟩
      · rw [h, e]
        rfl
      · rw [h]
        unfold twoOk
        rw [e]
        rfl
    obtain ⟨ay, rfl, Sy⟩ := lnI dy
    refine ⟨.ref a, rfl, a, _, 1, .ref ay, rfl, rfl, S, atI_nat (j := 1) rfl, ?_⟩
    apply twice (A := fun H2 => Go T D0 H H2 ∧ ownBad n m l0 = false)
    case use =>
      intro rest
      refine ⟨.ref ay, rfl, ay, _, 2, .int l0.2.2, rfl, rfl, Sy, atI_nat (j := 2) rfl, .int m, rfl, _, _, rfl, rfl, _, rfl, ite2 (fun e => ⟨.ref ay, rfl, 2, rfl, ay, _, rfl, Sy, fun z => absurd z (show ¬ (HT.sIx 3 0 none = 0 ∧ HT.sIx 3 3 (some 2) = 3) by decide), fun _ t ht => ?u1⟩) (fun e => ?u2)⟩
      case u1 =>
        have g2 := g0.new (o := .tup (cutV [V.str l0.1, .int l0.2.1, .int l0.2.2] none (some 2))) ht
        have et : (upd H t (.tup (cutV [V.str l0.1, .int l0.2.1, .int l0.2.2] none (some 2)))) t = _ := upd_same
        generalize upd H t (.tup (cutV [V.str l0.1, .int l0.2.1, .int l0.2.2] none (some 2))) = H2 at g2 et ⊢
        exact ⟨nv, rfl, _, _, cut_ et, Dp.sub (toH g2) _ _ dn, shN o0, on_.sh, _, rfl, ite2 (fun e' => qv (bad0 (obT e e')) H2 g2) (fun e' => rest H2 ⟨g2, obF' e'⟩)⟩
      case u2 => exact rest H ⟨g0, obF e⟩
    case h =>
      rintro H2 ⟨g2, ob0⟩
      have S2 := (toH g2).seqT S
      rcases more with ⟨rfl, hv⟩ | ⟨z, tl', l1, rfl, dz, o1, hv⟩
      · exact ⟨.ref a, rfl, a, _, rfl, .inr S2, rfl, _, rfl, iteT (qv (by rw [hv, ob0]; rfl) H2 g2)⟩
      · obtain ⟨az, rfl, Sz⟩ := lnI dz
        unfold twoOk at hv
        rw [ob0, Bool.not_false, Bool.true_and] at hv
        refine ⟨.ref a, rfl, a, _, rfl, .inr S2, rfl, _, rfl, ite2 (fun e => ?bad) (fun e => ?_)⟩
        case bad =>
          have e3 : ((tl'.length + 1 + 1 + 1 : Nat) : Int) = 2 := V.int.inj (of_decide_eq_true e)
          omega
        have Sz2 := (toH g2).seqT Sz
        refine ⟨.ref a, rfl, a, _, 2, .ref az, rfl, rfl, S2, atI_nat (j := 2) rfl, ?_⟩
        apply twice (A := fun H3 => Go T D0 H H3 ∧ ownBad n m l1 = false)
        case use =>
          intro rest2
          refine ⟨.ref az, rfl, az, _, 2, .int l1.2.2, rfl, rfl, Sz2, atI_nat (j := 2) rfl, .int m, rfl, _, _, rfl, rfl, _, rfl, ite2 (fun e => ⟨.ref az, rfl, 2, rfl, az, _, rfl, Sz2, fun z => absurd z (show ¬ (HT.sIx 3 0 none = 0 ∧ HT.sIx 3 3 (some 2) = 3) by decide), fun _ t ht => ?u3⟩) (fun e => ?u4)⟩
          case u3 =>
            have g3 := g2.new (o := .tup (cutV [V.str l1.1, .int l1.2.1, .int l1.2.2] none (some 2))) ht
            have et : (upd H2 t (.tup (cutV [V.str l1.1, .int l1.2.1, .int l1.2.2] none (some 2)))) t = _ := upd_same
            generalize upd H2 t (.tup (cutV [V.str l1.1, .int l1.2.1, .int l1.2.2] none (some 2))) = H3 at g3 et ⊢
            exact ⟨nv, rfl, _, _, cut_ et, Dp.sub (toH g3) _ _ dn, shN o1, on_.sh, _, rfl, ite2 (fun e' => qv (by rw [hv, obT e e']; rfl) H3 g3) (fun e' => rest2 H3 ⟨g3, obF' e'⟩)⟩
          case u4 => exact rest2 H2 ⟨g2, obF e⟩
        case h =>
          rintro H3 ⟨g3, ob1⟩
          rw [ob1, Bool.not_false, Bool.true_and] at hv
          have dy3 := Dp.sub (toH g3) _ _ dy
          have dz3 := Dp.sub (toH g3) _ _ dz
          refine ⟨.ref ay, rfl, .ref az, rfl, _, _, dy3, dz3, shL o0, shL o1, _, rfl, ?_⟩
          rw [eL_eqv]
          by_cases n1 : l0 = l1
          · rw [decide_eq_true n1]
            rw [decide_eq_false (fun z => z n1), Bool.false_and] at hv
            exact iteF (qv hv H3 g3)
          · rw [decide_eq_false n1]
            rw [decide_eq_true n1, Bool.true_and] at hv
            refine iteT ⟨.ref ay, rfl, _, _, dy3, dF H3, shL o0, shL (.inr (.inr rfl)), _, rfl, ?_⟩
            rw [eL_eqv]
            by_cases n2 : l0 = footL
            · rw [decide_eq_true n2]
              rw [decide_eq_false (fun z => z n2), Bool.false_and] at hv
              exact iteF (qv hv H3 g3)
            · rw [decide_eq_false n2]
              rw [decide_eq_true n2, Bool.true_and] at hv
              refine iteT ⟨.ref az, rfl, _, _, dz3, dH H3, shL o1, shL (.inr (.inl rfl)), ?_⟩
              rw [eL_eqv]
              refine qv ?_ H3 g3
              rw [hv]
              by_cases n3 : l1 = headL
              · rw [decide_eq_true n3, decide_eq_false (fun z => z n3)]
                rfl
              · rw [decide_eq_false n3, decide_eq_true n3]
                rfl
end
end K1
set_option Elab.async false
set_option linter.all false
set_option maxRecDepth 100000
set_option maxHeartbeats 4000000
/-! The program's def _many_put, refusals and all. -/
namespace K1
open PySem PySem.Spec PyProof.Rows L2
/-- the place of the first deed that can't be done -/
def putStop (n : Nm) : Nat → List Deed → Option Nat
  | _, [] => none
  | m, d :: r => if canDoB n m d = true then (putStop n (m + d.texts.length) r).map (· + 1) else some 0
theorem manyAt_cons (d : Deed) (r : List Deed) (j : Nat) : manyAt (d :: r) (j + 1) = d.texts.length + manyAt r j := by
  unfold manyAt
  rw [List.take_succ_cons, List.flatMap_cons, List.length_append]
theorem putStop_at {n : Nm} : ∀ {ds : List Deed} {i m : Nat} {d : Deed}, (∀ j e, j < i → ds[j]? = some e → canDoB n ((m + manyAt ds j : Nat) : Int) e = true) → ds[i]? = some d → canDoB n ((m + manyAt ds i : Nat) : Int) d = false → putStop n m ds = some i
  | [], _, _, _, _, h, _ => by simp at h
  | e :: r, 0, m, d, _, h, hd => by
    have : e = d := by simpa using h
    subst this
    have hd : canDoB n (m : Nat) e = false := hd
    show (if canDoB n m e = true then _ else _) = _
    rw [hd]
    rfl
  | e :: r, i + 1, m, d, ha, h, hd => by
    have he : canDoB n (m : Nat) e = true := ha 0 e (Nat.succ_pos _) rfl
    have := putStop_at (ds := r) (i := i) (m := m + e.texts.length) (d := d) (fun j x hj hx => by
      have := ha (j + 1) x (Nat.succ_lt_succ hj) hx
      rw [manyAt_cons, ← Nat.add_assoc] at this
      exact this) (by simpa using h) (by rw [manyAt_cons, ← Nat.add_assoc] at hd; exact hd)
    show (if canDoB n m e = true then (putStop n (m + e.texts.length) r).map (· + 1) else some 0) = _
    rw [if_pos he, this]
    rfl
theorem putStop_none {n : Nm} : ∀ {ds : List Deed} {m : Nat}, (∀ j e, ds[j]? = some e → canDoB n ((m + manyAt ds j : Nat) : Int) e = true) → putStop n m ds = none
  | [], _, _ => rfl
  | e :: r, m, ha => by
    have he : canDoB n (m : Nat) e = true := ha 0 e rfl
    have := putStop_none (ds := r) (m := m + e.texts.length) (fun j x hx => by
      have := ha (j + 1) x hx
      rw [manyAt_cons, ← Nat.add_assoc] at this
      exact this)
    show (if canDoB n m e = true then (putStop n (m + e.texts.length) r).map (· + 1) else some 0) = _
    rw [if_pos he, this]
    rfl
section
variable {P : Program} {w : World} {K : PySem.W.Frag} {mg : Str → Option Value} {base : Heap} {T : Tp}
def spManyPX (K : PySem.W.Frag) (C : Addr) (T : Tp) : Sp := fun vs H Q E => ∃ (nv : V) (l : Addr) (dvs : List V) (n : Nm) (ds : List Deed), vs = [nv, .ref l] ∧ Dp K H nv (eN n) ∧ NmOk n ∧ SqL K H l dvs ∧ DpAll K H dvs (ds.map eD) ∧ (∀ d ∈ ds, d.lok) ∧ ds.length ≤ 1000 ∧ TG T H ∧
  (putStop n 0 ds = none → ∀ H', Go T D0 H H' → Q (.int (manyAt ds ds.length : Nat)) H') ∧
  (∀ i, putStop n 0 ds = some i → ∀ H' d, Go T D0 H H' → H' d = none → E (.ref C) (some d) (upd H' d (.xd [("deed", .int ((1 + i : Nat) : Int))])))
theorem ok_manypX {f C : Addr} {fd : FuncData} {k k1 : Nat} (F : Fun K "_many_put" "_many_put" sManyPut f fd) (M : Mg K mg) (NX : NumX P w K mg base k1 "BadPatch" "deed" C) (hk1 : k1 + 1 ≤ k) (cD : Cal P w K mg base k "can_do" ["deed", "own", "many"] (spCanDoD K T)) :
    FnOk P w K mg base (L2.CX P w) (k + 1) f fd ["name", "deeds"] (spManyPX K C T) := by
  refine F.okX scManyPut (fun vs H Q E h => ?_) (fun cdv A outer s H vs Q E hr h => ?_)
  · obtain ⟨nv, l, dvs, n, ds, rfl, _⟩ := h
    rfl
  · obtain ⟨nv, l, dvs, n, ds, rfl, dn, on_, S, dds, ok, len, tg, q, qe⟩ := h
    refine ⟨_, (pss_cons (ps_set (i := 2) scManyPut.nd rfl (.inl rfl) pe_int)
      (pss_cons (ps_for (passes_of rfl) rfl (pi_enumK 1 (by decide) (by rfl) M.enum_ (pa_cons (pv 1) pa_nil)) (pg_tup rfl (pgs_cons (pg_name (i := 3) scManyPut.nd rfl (.inl rfl)) (pgs_cons (pg_name (i := 4) scManyPut.nd rfl (.inl rfl)) pgs_nil)))
      (pss_cons (ps_if (pt_not (pt_val (pe_cal cD hr (by rfl) (pa_cons (pv 4) (pa_cons (pv 0) (pa_cons (pv 2) pa_nil))))))
      (pss_one (ps_raise rfl (takes_of rfl rfl rfl rfl) (pmk_num NX hr hk1 (by rfl) (pv 3))))
      pss_nil)
      (pss_one (ps_if (pt_cmpR op_eq (pe_ix ix_tup (pv 4) pe_int (fun _ _ => rfl)) pe_str (nomark _))
      (pss_one (ps_aug (i := 2) scManyPut.nd rfl (.inl rfl) (pe_callB call_len_seq (by rfl) M.len_ PySem.boot_len (pa_cons (pe_ix ix_tup (pv 4) pe_int (fun _ _ => rfl)) pa_nil)) ip_add))
      pss_nil))))
      (pss_one (ps_ret (pv 2))))), ?_⟩
    have toH : ∀ {H'}, Go T D0 H H' → Sub H H' := fun g => sub_go g tg
    have g0 : Go T D0 H H := Go.rfl' tg
    have dlen : dvs.length = ds.length := by rw [DpAll.len dds, List.length_map]
    refine ⟨.ref l, rfl, l, dvs, rfl, S, ?_⟩
    refine for_it (walk_enumK (K := K) (a := l) (xs := dvs) (k := 1)) (fun i σ H5 => ∃ (y1 y2 : Option V), σ = [some nv, some (.ref l), some (.int (manyAt ds i : Nat)), y1, y2] ∧ Go T D0 H H5 ∧ ∀ j e, j < i → ds[j]? = some e → canDoB n ((0 + manyAt ds j : Nat) : Int) e = true) ?_ ?_ ?_ ?_
    · exact ⟨_, _, rfl, g0, fun j e h => absurd h (Nat.not_lt_zero _)⟩
    · rintro i σ H5 hi ⟨y1, y2, rfl, g5, _⟩
      exact (toH g5).seqL S
    · rintro i v σ H5 H5' hi ⟨y1, y2, rfl, g5, al⟩ ⟨T', x', y', rfl, hT, rfl, hx', hy'⟩
      cases hx'
      have hy' : dvs[i]? = some y' := hy'
      obtain ⟨d0, hd0, dp⟩ := DpAll.at' dds hy'
      obtain ⟨d, hdi, rfl⟩ := at_map hd0
      have hil : i < ds.length := (List.getElem?_eq_some_iff.mp hdi).1
      have g6 := g5.new (o := .tup [V.int ((1 + i : Nat)), y']) hT
      have okd := ok d (List.mem_of_getElem? hdi)
      have ms := manyAt_succ hdi
      refine ⟨T', _, rfl, .inl (.inl upd_same), rfl, _, _, rfl, _, _, rfl, rfl, ?_⟩
      generalize upd H5 T' (.tup [V.int ((1 + i : Nat)), y']) = H6 at g6 ⊢
      refine ⟨y', rfl, nv, rfl, _, rfl, y', nv, d, n, _, rfl, Dp.sub (toH g6) _ _ dp, Dp.sub (toH g6) _ _ dn, on_, okd, g6.1, fun H7 g7 => ⟨_, rfl, ite2 (fun e => ?_) (fun e => ?_)⟩⟩
      · have f1 : canDoB n ((0 + manyAt ds i : Nat) : Int) d = false := by
          rw [Nat.zero_add]
          cases h : canDoB n (manyAt ds i : Nat) d with
          | false => rfl
          | true => rw [h] at e; cases e
        have st := putStop_at al hdi f1
        refine ⟨_, rfl, num_leaf NX.T NX.no (by omega) (by omega) fun dd hdd => qe i st H7 dd (g6.trans g7) hdd⟩
      · have al' : ∀ j e, j < i + 1 → ds[j]? = some e → canDoB n ((0 + manyAt ds j : Nat) : Int) e = true := fun j x hj hx => by
          by_cases hji : j = i
          · subst hji
            rw [hdi] at hx
            cases hx
            rw [Nat.zero_add]
            exact notnot e
          · exact al j x (by omega) hx
        have g8 := g6.trans g7
        obtain ⟨a, lvs, tl, rfl, Sd, dl, hc⟩ := deed_parts (Dp.sub (toH g8) _ _ dp)
        refine ⟨.ref a, rfl, a, _, 0, .str d.kind, rfl, rfl, Sd, atI_nat (j := 0) rfl, rfl, _, rfl, ite2 (fun e => ?_) (fun e => ?_)⟩
        · have ek : d.kind = "put" := V.str.inj (of_decide_eq_true e)
          rcases hc with ⟨_, h2, t, rfl, St⟩ | ⟨n1, _⟩ | ⟨n1, _⟩
          · obtain ⟨x, y, rfl⟩ := len2 h2
            refine ⟨_, rfl, .ref a, rfl, a, _, 3, .ref t, rfl, rfl, Sd, atI_nat (j := 3) rfl, t, _, rfl, .inr St, _, _, rfl, rfl, some (V.int ((1 + i : Nat))), some (V.ref a), ?_, g8, al'⟩
            rw [ms, List.length_map]
            rfl
          · rw [ek] at n1
            exact absurd n1 (by decide +kernel)
          · exact absurd ek n1
        · have ek : ¬ d.kind = "put" := fun z => e (decide_eq_true (by rw [z]))
          have e0 : d.texts = [] := by
            rcases hc with ⟨h, _⟩ | ⟨_, _, _, h⟩ | ⟨_, _, _, _, h⟩
            · exact absurd h ek
            · exact h
            · exact h
          refine ⟨some (V.int ((1 + i : Nat))), some (V.ref a), ?_, g8, al'⟩
          rw [ms, e0]
          rfl
    · rintro σ H5 ⟨y1, y2, rfl, g5, al⟩
      rw [dlen]
      rw [dlen] at al
      exact ⟨_, rfl, q (putStop_none fun j e hj => al j e (List.getElem?_eq_some_iff.mp hj).1 hj) _ g5⟩
end
end K1
set_option Elab.async false
set_option linter.all false
set_option maxRecDepth 100000
set_option maxHeartbeats 4000000
/-! Patch.__init__, of anything, refusals and all. -/
namespace K1
open PySem PySem.Spec PyProof.Rows L2
/-- a def of the module that may raise -/
structure CalX (P : Program) (w : World) (K : PySem.W.Frag) (mg : Str → Option Value) (base : Heap) (k : Nat) (x : Str) (ps : List Str) (sp : Sp) : Prop where
  ex : ∃ (f : Addr) (fd : FuncData), FnOk P w K mg base (L2.CX P w) k f fd ps sp ∧ mg x = some (.ref f) ∧ PySem.W.keepIn K (.ref f) = true ∧ Binds K fd ps []
theorem pe_calX {X : Cx} {W : WX} {k : Nat} {x : Str} {ps : List Str} {sp : Sp} {e : Expr} {es : List Expr} {t : TA} {p pos : Pos} (tk : Takes X W) (C : CalX X.prog X.w X.K X.mg X.base k x ps sp) (hr : Room k X.A) (hg : Gl X x) (ha : PA X (e :: es) t)
    (hdb : (x == ("__debug__" : Str)) = false := by decide) (he : starEach (e :: es) X.env = (false, eval e X.env) :: starEach es X.env := by rfl) (hpl : (backTo pos (starEach es X.env)).any (·.1) = false := by rfl) :
    PE X (.Call (.Name x p) (e :: es) [] pos) (tCallS sp (WE W) t) := by
  obtain ⟨f, fd, F, hm, hk, hb⟩ := C.ex
  exact pe_callS F hr hg hm hk hb (fun σ => passAt tk σ) ha hdb he hpl
theorem deeds_is : ∀ {l : List PyData}, (∀ e ∈ l, isDeedD e = true) → ∃ Ds : List Deed, l = Ds.map eD ∧ ∀ d ∈ Ds, d.lok
  | [], _ => ⟨[], rfl, fun _ h => by cases h⟩
  | e :: r, h => by
    obtain ⟨Ds, rfl, al⟩ := deeds_is fun x m => h x (List.mem_cons_of_mem _ m)
    obtain ⟨D, rfl, o⟩ := isDeed_is (h e (List.mem_cons_self ..))
    exact ⟨D :: Ds, rfl, fun d m => by
      rcases List.mem_cons.mp m with rfl | m
      · exact o
      · exact al d m⟩
theorem firstBad_le : ∀ ds : List PyData, firstBad ds ≤ ds.length
  | [] => Nat.le_refl _
  | d :: r => by
    show (if isDeedD d = true then firstBad r + 1 else 0) ≤ r.length + 1
    by_cases h : isDeedD d = true
    · rw [if_pos h]
      exact Nat.succ_le_succ (firstBad_le r)
    · rw [if_neg h]
      exact Nat.zero_le _
theorem firstBad_take : ∀ ds : List PyData, ∀ e ∈ ds.take (firstBad ds), isDeedD e = true
  | [] => fun e m => by simp at m
  | d :: r => fun e m => by
    by_cases h : isDeedD d = true
    · have e1 : firstBad (d :: r) = firstBad r + 1 := if_pos h
      rw [e1, List.take_succ_cons] at m
      rcases List.mem_cons.mp m with rfl | m
      · exact h
      · exact firstBad_take r e m
    · have e1 : firstBad (d :: r) = 0 := if_neg h
      rw [e1] at m
      simp at m
theorem knowOk_is {n : Nm} : ∀ {ds : List PyData} {b : Option Nm}, knowOk n b ds = true → ∃ ns : List Nm, ds = ns.map eN
  | [], _, _ => ⟨[], rfl⟩
  | d :: r, b, h => by
    unfold knowOk at h
    cases hn : nameD d with
    | false =>
      rw [nmOf_no hn] at h
      cases h
    | true =>
      obtain ⟨m, rfl, _, em⟩ := nmOf_yes hn
      rw [em] at h
      have h2 : knowOk n (some m) r = true := by
        have h : knowNext n b m (knowOk n (some m) r) = true := h
        unfold knowNext at h
        split at h
        · cases h
        · split at h
          · split at h
            · exact h
            · cases h
          · exact h
      obtain ⟨ns, rfl⟩ := knowOk_is h2
      exact ⟨m :: ns, rfl⟩
theorem cut_take (xs : List V) (g : Nat) (h : g ≤ xs.length) : cutV xs none (some ((g : Nat) : Int)) = xs.take g := by
  unfold cutV
  have e1 : HT.sIx xs.length 0 none = 0 := rfl
  have e2 : HT.sIx xs.length xs.length (some ((g : Nat) : Int)) = g := by rw [HT.sIx_nat, Nat.min_eq_left h]
  rw [e1, e2, List.drop_zero, Nat.sub_zero]
/-- data, or a dict (which stands for any) -/
def ThgD (K : PySem.W.Frag) (H : Hp) (v : V) (d : PyData) : Prop := (Dp K H v d ∧ okD d = true) ∨ (d = .dict [] ∧ ∃ (a : Addr) (kvs : List (Key × V)), v = .ref a ∧ H a = some (.dK kvs))
theorem ThgD.kp {K : PySem.W.Frag} {H H' : Hp} {v : V} {d : PyData} (h : ThgD K H v d) (k : ∀ b o, H b = some o → H' b = some o) : ThgD K H' v d := by
  rcases h with ⟨p, o⟩ | ⟨e, a, kvs, e2, e3⟩
  · exact .inl ⟨Dp.sub (fun b o e _ => k b o e) _ _ p, o⟩
  · exact .inr ⟨e, a, kvs, e2, k _ _ e3⟩
theorem ThgD.go {K : PySem.W.Frag} {T : Tp} {H H' : Hp} {v : V} {d : PyData} (h : ThgD K H v d) (g : Go T D0 H H') (t : TG T H) : ThgD K H' v d := by
  rcases h with ⟨p, o⟩ | ⟨e, a, kvs, e2, e3⟩
  · exact .inl ⟨Dp.sub (sub_go g t) _ _ p, o⟩
  · exact .inr ⟨e, a, kvs, e2, g.at t (fun z => z) e3⟩
theorem ThgD.lst {K : PySem.W.Frag} {H : Hp} {v : V} {d : PyData} (h : ThgD K H v d) : ∃ n o, Th K H v n o ∧ (n = "list" → ∃ ds, d = .list ds) ∧ (n ≠ "list" → ∀ ds, d ≠ .list ds) := by
  rcases h with ⟨p, o⟩ | ⟨e, a, kvs, e2, e3⟩
  · exact th_lst o p
  · subst e e2
    exact ⟨_, _, .dK e3, (fun z => absurd z (by decide)), fun _ _ z => by cases z⟩
theorem ThgD.data {K : PySem.W.Frag} {H : Hp} {v : V} {ds : List PyData} (h : ThgD K H v (.list ds)) : Dp K H v (.list ds) ∧ okD (.list ds) = true := by
  rcases h with h | ⟨e, _⟩
  · exact h
  · cases e
section
variable {P : Program} {w : World} {K : PySem.W.Frag} {mg : Str → Option Value} {base : Heap} {T : Tp}
/-- the object at x holds these -/
def MadeX (K : PySem.W.Frag) (C : Addr) (H : Hp) (x : Addr) (dn : PyData) (ks ds : List PyData) (many : Nat) : Prop := ∃ dx fs nv kv dv, H x = some (.ins C dx fs) ∧ fs.length ≤ 7 ∧ fs.lookup ("name" : Str) = some nv ∧ fs.lookup ("knows" : Str) = some kv ∧ fs.lookup ("deeds" : Str) = some dv ∧ fs.lookup ("many" : Str) = some (.int (many : Nat)) ∧ fs.lookup ("told" : Str) = none ∧
  Dp K H nv dn ∧ Dp K H kv (.tuple ks) ∧ Dp K H dv (.tuple ds)
/-- what the making of anything comes to -/
structure InitX (K : PySem.W.Frag) (C B : Addr) (T : Tp) (x : Addr) (H : Hp) (dn dk dd : PyData) (Q : VK) (E : Nat → Prop) : Prop where
  name : nameD dn = false → E 0
  know : ∀ n, dn = eN n → NmOk n → canKnowD n dk = false → E 0
  list : ∀ n, dn = eN n → NmOk n → canKnowD n dk = true → (∀ ds, dd = .list ds → 400 < ds.length) → E 0
  stop : ∀ n ds Ds i, dn = eN n → NmOk n → canKnowD n dk = true → dd = .list ds → ds.length ≤ 400 → ds.take (firstBad ds) = Ds.map eD → (∀ d ∈ Ds, d.lok) → putStop n 0 Ds = some i → E (1 + i)
  bad : ∀ n ds Ds, dn = eN n → NmOk n → canKnowD n dk = true → dd = .list ds → ds.length ≤ 400 → ds.take (firstBad ds) = Ds.map eD → (∀ d ∈ Ds, d.lok) → putStop n 0 Ds = none → firstBad ds < ds.length → E (firstBad ds + 1)
  good : ∀ n ks Ds, dn = eN n → NmOk n → canKnowD n dk = true → dk = .list ks → dd = .list (Ds.map eD) → (∀ e ∈ Ds.map eD, isDeedD e = true) → Ds.length ≤ 400 → (∀ d ∈ Ds, d.lok) → putStop n 0 Ds = none → ∀ H', Go T (· = x) H H' → MadeX K C H' x dn ks (Ds.map eD) (manyAt Ds Ds.length) → Q .non H'
def spInitX (K : PySem.W.Frag) (C B : Addr) (T : Tp) : Sp := fun vs H Q E => ∃ (x dx : Addr) (nv kv dv : V) (dn dk dd : PyData), vs = [.ref x, nv, kv, dv] ∧ H x = some (.ins C dx []) ∧ Dp K H nv dn ∧ Dp K H kv dk ∧ ThgD K H dv dd ∧ okD dn = true ∧ okD dk = true ∧ TG T H ∧
  InitX K C B T x H dn dk dd Q (fun k => ∀ H' d, Go T (· = x) H H' → H' d = none → E (.ref B) (some d) (upd H' d (.xd [("deed", .int (k : Nat))])))
theorem ok_initX {f C B : Addr} {fd : FuncData} {k k1 : Nat} (F : Fun K "__init__" "Patch.__init__" sPatch_init f fd) (M : Mg K mg) (N : Mp mg) (PC : PCls K C) (NX : NumX P w K mg base k1 "BadPatch" "deed" B) (hk1 : k1 + 1 ≤ k) (cN : Cal P w K mg base k "is_name" ["thing"] (spName K T))
    (cK : Cal P w K mg base k "can_know" ["own", "knows"] (spCanKnowD K T)) (cD : Cal P w K mg base k "_many_deeds" ["things"] (spManyDD K T)) (cM : CalX P w K mg base k "_many_put" ["name", "deeds"] (spManyPX K B T)) :
    FnOk P w K mg base (L2.CX P w) (k + 1) f fd ["self", "name", "knows", "deeds"] (spInitX K C B T) := by
  obtain ⟨tk, hD⟩ := N.mostD
  refine F.okX scPatch_init (fun vs H Q E h => ?_) (fun cdv A outer s H vs Q E hr h => ?_)
  · obtain ⟨x, dx, nv, kv, dv, dn, dk, dd, rfl, _⟩ := h
    rfl
  · obtain ⟨x, dx, nv, kv, dv, dn, dk, dd, rfl, ex, pn, pk, pd, on_, ok_, tg, I⟩ := h
    refine ⟨_, (pss_cons (ps_if (PW.pt (pw_or (pt_not (pt_val (pe_cal cN hr (by rfl) (pa_cons (pv 1) pa_nil)))) (pw_or1 (pt_not (pt_val (pe_cal cK hr (by rfl) (pa_cons (pv 1) (pa_cons (pv 2) pa_nil))))))))
      (pss_one (ps_raise rfl (takes_of rfl rfl rfl rfl) (pmk_num NX hr hk1 (by rfl) pe_int)))
      pss_nil)
      (pss_cons (ps_if (PW.pt (pw_or (pt_not (pt_val (pe_callB call_isi (by rfl) M.ins boot_isinstance (pa_cons (pv 3) (pa_cons (pe_bltn (v := .ty "list") (by rfl) M.list_ (by decide +kernel) rfl) pa_nil))))) (pw_or1 (pt_cmpR op_gt (pe_callB call_len_seq (by rfl) M.len_ PySem.boot_len (pa_cons (pv 3) pa_nil)) (pe_glob (v := .int 400) (by rfl) hD ⟨_, rfl⟩) (nomark _)))))
      (pss_one (ps_raise rfl (takes_of rfl rfl rfl rfl) (pmk_num NX hr hk1 (by rfl) pe_int)))
      pss_nil)
      (pss_cons (ps_set (i := 4) scPatch_init.nd rfl (.inl rfl) (pe_cal cD hr (by rfl) (pa_cons (pv 3) pa_nil)))
      (pss_cons (ps_fld (pv 0) (pe_calX (takes_of rfl rfl rfl rfl) cM hr (by rfl) (pa_cons (pv 1) (pa_cons (pe_slice sl_list (pv 3) po_none (po_some (pv 4))) pa_nil))) (by rfl))
      (pss_cons (ps_if (pt_cmpR op_lt (pv 4) (pe_callB call_len_seq (by rfl) M.len_ PySem.boot_len (pa_cons (pv 3) pa_nil)) (nomark _))
      (pss_one (ps_raise rfl (takes_of rfl rfl rfl rfl) (pmk_num NX hr hk1 (by rfl) (pe_op op_add (pv 4) pe_int))))
      pss_nil)
      (pss_cons (ps_fld (pv 0) (pv 1) (by rfl))
      (pss_cons (ps_fld (pv 0) (pe_callTy call_tuple_of (by rfl) M.tuple_ (by decide +kernel) (pa_cons (pv 2) pa_nil)) (by rfl))
      (pss_cons (ps_fld (pv 0) (pe_callTy call_tuple_of (by rfl) M.tuple_ (by decide +kernel) (pa_cons (pv 3) pa_nil)) (by rfl))
      (pss_cons (ps_fld (pv 0) pe_non (by rfl))
      (pss_cons (ps_fld (pv 0) pe_non (by rfl))
      (pss_one (ps_fld (pv 0) pe_non (by rfl))))))))))))), ?_⟩
    have toH : ∀ {H'}, Go T D0 H H' → Sub H H' := fun g => sub_go g tg
    have g0 : Go T D0 H H := Go.rfl' tg
    have ex' : ∀ {H'}, Go T D0 H H' → H' x = some (.ins C dx []) := fun g => g.at tg (fun z => z) ex
    obtain ⟨n1, o1, t1, al1, en1, _, _⟩ := th_of on_ pn
    refine ⟨nv, rfl, nv, n1, o1, rfl, t1, al1, tg, fun H1 g1 => ⟨_, rfl, ?_⟩⟩
    rw [en1]
    refine ite2 (fun e => iteT ?_) (fun e => ?_)
    · have f1 : nameD dn = false := by
        cases h : nameD dn with
        | false => rfl
        | true => rw [h] at e; cases e
      exact num_leaf NX.T NX.no (by decide) (by decide) fun d hd => I.name f1 H1 d g1.up hd
    obtain ⟨n, rfl, okn, _⟩ := nmOf_yes (notnot e)
    refine ⟨nv, rfl, kv, rfl, nv, kv, n, dk, rfl, Dp.sub (toH g1) _ _ pn, okn, Dp.sub (toH g1) _ _ pk, ok_, g1.1, fun H2 g2 => ⟨_, rfl, ?_⟩⟩
    have g12 := g1.trans g2
    refine ite2 (fun e2 => ?_) (fun e2 => ?_)
    · have f1 : canKnowD n dk = false := by
        cases h : canKnowD n dk with
        | false => rfl
        | true => rw [h] at e2; cases e2
      exact num_leaf NX.T NX.no (by decide) (by decide) fun d hd => I.know n rfl okn f1 H2 d g12.up hd
    have ck := notnot e2
    obtain ⟨n3, o3, t3, hl, hnl⟩ := (pd.go g12 tg).lst
    refine ⟨dv, rfl, dv, .ty "list", .type n3, .type "list", _, rfl, .ty _, t3.ty, kit_ty t3.klst, _, rfl, ite2 (fun e3 => iteT ?_) (fun e3 => ?_)⟩
    · have ne : n3 ≠ "list" := fun z => by rw [decide_eq_true z] at e3; cases e3
      exact num_leaf NX.T NX.no (by decide) (by decide) fun d hd => I.list n rfl okn ck (fun ds z => absurd z (hnl ne ds)) H2 d g12.up hd
    obtain ⟨ds, rfl⟩ := hl (of_decide_eq_true (notnot e3))
    obtain ⟨pd, od⟩ := pd.data
    obtain ⟨dl, dvs, rfl, Sd, dds⟩ := Dp.lstI pd
    have okds : okD.okDs ds = true := by unfold okD at od; exact od
    have dlen : dvs.length = ds.length := DpAll.len dds
    have S2 := (toH g12).seqL Sd
    refine ⟨.ref dl, rfl, dl, _, rfl, .inl S2, _, _, rfl, rfl, _, rfl, ite2 (fun e4 => ?_) (fun e4 => ?_)⟩
    · have l4 : 400 < ds.length := by
        have := of_decide_eq_true e4
        omega
      exact num_leaf NX.T NX.no (by decide) (by decide) fun d hd => I.list n rfl okn ck (fun ds' z => by cases z; exact l4) H2 d g12.up hd
    have l4 : ds.length ≤ 400 := by
      by_cases h : ds.length ≤ 400
      · exact h
      · exact absurd (decide_eq_true (by omega)) e4
    refine ⟨.ref dl, rfl, dl, dvs, ds, rfl, S2, Dp.subs (toH g12) _ _ dds, ok_items okds, g12.1, fun H3 g3 => ?_⟩
    have g13 := g12.trans g3
    have S3 := (toH g13).seqL Sd
    have fle := firstBad_le ds
    obtain ⟨Ds, eDs, lok⟩ := deeds_is (firstBad_take ds)
    have Dl : Ds.length = firstBad ds := by
      have := congrArg List.length eDs
      rw [List.length_take, List.length_map] at this
      omega
    refine ⟨nv, rfl, .ref dl, rfl, .int _, rfl, _, rfl, dl, dvs, rfl, S3, fun t ht => ?_⟩
    rw [cut_take dvs _ (by omega)]
    have g4 := g13.new (o := .lst (dvs.take (firstBad ds))) ht
    have et : (upd H3 t (.lst (dvs.take (firstBad ds)))) t = some (.lst (dvs.take (firstBad ds))) := upd_same
    generalize upd H3 t (.lst (dvs.take (firstBad ds))) = H4 at g4 et ⊢
    have dds4 : DpAll K H4 (dvs.take (firstBad ds)) (Ds.map eD) := eDs ▸ DpAll.take (Dp.subs (toH g4) _ _ dds) _
    refine ⟨nv, t, dvs.take (firstBad ds), n, Ds, rfl, Dp.sub (toH g4) _ _ pn, okn, .inl (.inl et), dds4, lok, by omega, g4.1, fun hput => ?_, fun i hi H' d g' hd => ?_⟩
    case refine_2 => exact I.stop n ds Ds i rfl okn ck rfl l4 eDs lok hi H' d (g4.trans g').up hd
    intro H5 g5
    have g05 := g4.trans g5
    refine ⟨.ref x, rfl, x, C, dx, [], rfl, ex' g05, PC.cls, PC.many, by decide, ?_⟩
    have g6 : Go T (· = x) H (upd H5 x (.ins C dx (putF "many" (.int (manyAt Ds Ds.length : Nat)) []))) := g05.up.set rfl (ex' g05) (by intro ps z; cases z)
    have e6 : (upd H5 x (.ins C dx (putF "many" (.int (manyAt Ds Ds.length : Nat)) []))) x = _ := upd_same
    generalize upd H5 x (.ins C dx (putF "many" (.int (manyAt Ds Ds.length : Nat)) [])) = H6 at g6 e6 ⊢
    have subX : ∀ {H'}, Go T (· = x) H H' → Sub H H' := fun g => Sub.go g tg fun a z xs => by
      rw [z, ex]
      refine ⟨fun z => ?_, fun z => ?_, fun u => ⟨fun z => ?_, fun z => ?_⟩⟩ <;> cases z
    have S6 := (subX g6).seqL Sd
    refine ⟨.int _, rfl, .ref dl, rfl, dl, dvs, rfl, .inl S6, _, _, rfl, rfl, _, rfl, ite2 (fun e => ?_) (fun e => ?_)⟩
    · have lt : firstBad ds < ds.length := by
        have := of_decide_eq_true e
        omega
      exact ⟨_, rfl, _, _, rfl, rfl, num_leaf NX.T NX.no (by omega) (by omega) fun d hd => I.bad n ds Ds rfl okn ck rfl l4 eDs lok hput lt H6 d g6 hd⟩
    have fe : firstBad ds = ds.length := by
      by_cases h : firstBad ds < ds.length
      · exact absurd (decide_eq_true (by omega)) e
      · omega
    have eds : ds = Ds.map eD := by rw [← eDs, fe, List.take_length]
    obtain ⟨ks, rfl⟩ : ∃ ks, dk = .list ks := by
      cases dk with
      | list ks => exact ⟨ks, rfl⟩
      | _ => exact absurd (show false = true from ck) (by decide)
    obtain ⟨kl, kvs, rfl, Sk, dks⟩ := Dp.lstI pk
    refine ⟨nv, rfl, .ref x, rfl, x, C, dx, _, rfl, e6, PC.cls, PC.name, Nat.lt_of_le_of_lt (lns (Nat.le_of_eq rfl)) (by decide), ?_⟩
    have l1 : (putF "many" (.int (manyAt Ds Ds.length : Nat)) ([] : List (Str × V))).length ≤ 1 := lns (Nat.le_refl 0)
    generalize hf1 : putF "many" (.int (manyAt Ds Ds.length : Nat)) ([] : List (Str × V)) = f1 at e6 l1 ⊢
    have g7 : Go T (· = x) H (upd H6 x (.ins C dx (putF "name" nv f1))) := g6.set rfl e6 (by intro ps z; cases z)
    have e7 : (upd H6 x (.ins C dx (putF "name" nv f1))) x = _ := upd_same
    have l2 := lns (f := "name") (v := nv) l1
    generalize upd H6 x (.ins C dx (putF "name" nv f1)) = H7 at g7 e7 ⊢
    refine ⟨.ref kl, rfl, kl, kvs, rfl, .inl ⟨(subX g7).seqL Sk, fun kt hkt => ?_⟩⟩
    have g8 := g7.new (o := .tup kvs) hkt
    have e8 := (upd_ne (o := .tup kvs) (ne_of_none e7 hkt)).trans e7
    have k8 : (upd H7 kt (.tup kvs)) kt = some (.tup kvs) := upd_same
    generalize upd H7 kt (.tup kvs) = H8 at g8 e8 k8 ⊢
    refine ⟨.ref x, rfl, x, C, dx, _, rfl, e8, PC.cls, PC.knows, Nat.lt_of_le_of_lt l2 (by decide), ?_⟩
    have nk : x ≠ kt := fun z => by rw [z, k8] at e8; cases e8
    have g9 : Go T (· = x) H (upd H8 x (.ins C dx (putF "knows" (.ref kt) (putF "name" nv f1)))) := g8.set rfl e8 (by intro ps z; cases z)
    have e9 : (upd H8 x (.ins C dx (putF "knows" (.ref kt) (putF "name" nv f1)))) x = _ := upd_same
    have k9 := (upd_ne (o := .ins C dx (putF "knows" (.ref kt) (putF "name" nv f1))) nk.symm).trans k8
    have l3 := lns (f := "knows") (v := .ref kt) l2
    generalize upd H8 x (.ins C dx (putF "knows" (.ref kt) (putF "name" nv f1))) = H9 at g9 e9 k9 ⊢
    refine ⟨.ref dl, rfl, dl, dvs, rfl, .inl ⟨(subX g9).seqL Sd, fun dt hdt => ?_⟩⟩
    have g10 := g9.new (o := .tup dvs) hdt
    have e10 := (upd_ne (o := .tup dvs) (ne_of_none e9 hdt)).trans e9
    have k10 := (upd_ne (o := .tup dvs) (ne_of_none k9 hdt)).trans k9
    have d10 : (upd H9 dt (.tup dvs)) dt = some (.tup dvs) := upd_same
    generalize upd H9 dt (.tup dvs) = H10 at g10 e10 k10 d10 ⊢
    refine ⟨.ref x, rfl, x, C, dx, _, rfl, e10, PC.cls, PC.deeds, Nat.lt_of_le_of_lt l3 (by decide), ?_⟩
    have nd : x ≠ dt := fun z => by rw [z, d10] at e10; cases e10
    have g11 : Go T (· = x) H (upd H10 x (.ins C dx (putF "deeds" (.ref dt) (putF "knows" (.ref kt) (putF "name" nv f1))))) := g10.set rfl e10 (by intro ps z; cases z)
    have e11 : (upd H10 x (.ins C dx (putF "deeds" (.ref dt) (putF "knows" (.ref kt) (putF "name" nv f1))))) x = _ := upd_same
    have k11 := (upd_ne (o := .ins C dx (putF "deeds" (.ref dt) (putF "knows" (.ref kt) (putF "name" nv f1)))) nk.symm).trans k10
    have d11 := (upd_ne (o := .ins C dx (putF "deeds" (.ref dt) (putF "knows" (.ref kt) (putF "name" nv f1)))) nd.symm).trans d10
    have l4' := lns (f := "deeds") (v := .ref dt) l3
    generalize upd H10 x (.ins C dx (putF "deeds" (.ref dt) (putF "knows" (.ref kt) (putF "name" nv f1)))) = H11 at g11 e11 k11 d11 ⊢
    generalize hf4 : putF "deeds" (.ref dt) (putF "knows" (.ref kt) (putF "name" nv f1)) = f4 at e11 l4'
    have lkD : f4.lookup ("deeds" : Str) = some (.ref dt) := by rw [← hf4, lk']
    have lkK : f4.lookup ("knows" : Str) = some (.ref kt) := by rw [← hf4, lk (by decide), lk']
    have lkN : f4.lookup ("name" : Str) = some nv := by rw [← hf4, lk (by decide), lk (by decide), lk']
    have lkM : f4.lookup ("many" : Str) = f1.lookup ("many" : Str) := by rw [← hf4, lk (by decide), lk (by decide), lk (by decide)]
    have lkT : f4.lookup ("told" : Str) = f1.lookup ("told" : Str) := by rw [← hf4, lk (by decide), lk (by decide), lk (by decide)]
    refine ⟨.ref x, rfl, x, C, dx, _, rfl, e11, PC.cls, PC.place, Nat.lt_of_le_of_lt l4' (by decide), ?_⟩
    have g12 : Go T (· = x) H (upd H11 x (.ins C dx (putF "place" .non f4))) := g11.set rfl e11 (by intro ps z; cases z)
    have e12 : (upd H11 x (.ins C dx (putF "place" .non f4))) x = _ := upd_same
    have k12 := (upd_ne (o := .ins C dx (putF "place" .non f4)) nk.symm).trans k11
    have d12 := (upd_ne (o := .ins C dx (putF "place" .non f4)) nd.symm).trans d11
    have l5 := lns (f := "place") (v := .non) l4'
    generalize upd H11 x (.ins C dx (putF "place" .non f4)) = H12 at g12 e12 k12 d12 ⊢
    refine ⟨.ref x, rfl, x, C, dx, _, rfl, e12, PC.cls, PC.known, Nat.lt_of_le_of_lt l5 (by decide), ?_⟩
    have g13' : Go T (· = x) H (upd H12 x (.ins C dx (putF "known" .non (putF "place" .non f4)))) := g12.set rfl e12 (by intro ps z; cases z)
    have e13 : (upd H12 x (.ins C dx (putF "known" .non (putF "place" .non f4)))) x = _ := upd_same
    have k13 := (upd_ne (o := .ins C dx (putF "known" .non (putF "place" .non f4))) nk.symm).trans k12
    have d13 := (upd_ne (o := .ins C dx (putF "known" .non (putF "place" .non f4))) nd.symm).trans d12
    have l6 := lns (f := "known") (v := .non) l5
    generalize upd H12 x (.ins C dx (putF "known" .non (putF "place" .non f4))) = H13 at g13' e13 k13 d13 ⊢
    refine ⟨.ref x, rfl, x, C, dx, _, rfl, e13, PC.cls, PC.work, Nat.lt_of_le_of_lt l6 (by decide), ?_⟩
    have g14 : Go T (· = x) H (upd H13 x (.ins C dx (putF "work" .non (putF "known" .non (putF "place" .non f4))))) := g13'.set rfl e13 (by intro ps z; cases z)
    have e14 : (upd H13 x (.ins C dx (putF "work" .non (putF "known" .non (putF "place" .non f4))))) x = _ := upd_same
    have k14 := (upd_ne (o := .ins C dx (putF "work" .non (putF "known" .non (putF "place" .non f4)))) nk.symm).trans k13
    have d14 := (upd_ne (o := .ins C dx (putF "work" .non (putF "known" .non (putF "place" .non f4)))) nd.symm).trans d13
    have l7 := lns (f := "work") (v := .non) l6
    generalize upd H13 x (.ins C dx (putF "work" .non (putF "known" .non (putF "place" .non f4)))) = H14 at g14 e14 k14 d14 ⊢
    refine I.good n ks Ds rfl okn ck rfl (by rw [eds]) (by rw [← eDs]; exact firstBad_take ds) (by omega) lok hput H14 g14 ⟨dx, _, nv, .ref kt, .ref dt, e14, l7, ?_, ?_, ?_, ?_, ?_, Dp.sub (subX g14) _ _ pn, .tup (.inl (.inl k14)) (Dp.subs (subX g14) _ _ dks), .tup (.inl (.inl d14)) (eds ▸ Dp.subs (subX g14) _ _ dds)⟩
    · rw [lk (by decide), lk (by decide), lk (by decide), lkN]
    · rw [lk (by decide), lk (by decide), lk (by decide), lkK]
    · rw [lk (by decide), lk (by decide), lk (by decide), lkD]
    · rw [lk (by decide), lk (by decide), lk (by decide), lkM, ← hf1, lk']
    · rw [lk (by decide), lk (by decide), lk (by decide), lkT, ← hf1, lk (by decide)]
      rfl
end
end K1
set_option Elab.async false
set_option linter.all false
set_option maxRecDepth 100000
set_option maxHeartbeats 4000000
/-! C(..) where C's __init__ may raise. -/
namespace K1
open PySem PySem.Spec PyProof.Rows L2
section
variable {X : Cx} {CX : CXT} {k : Nat} {f C : Addr} {fd : FuncData} {ps : List Str} {sp : Sp} {E : L2.St → XK} {x : Str} {p pos : Pos} {e : Expr} {es : List Expr} {t : TA}
theorem run_makeS {pins : List (Addr × Obj)} {σ : L2.St} {H : Hp} {s : Shared} {Q : VK} {us : List Value} {vs : List V} (M : Mk X.K C f) (F : FnOk X.prog X.w X.K X.mg X.base CX k f fd ps sp) (hr : Room (k + 1) X.A) (hb : Binds X.K fd ps [])
    (hx : PassesAt CX X σ (E σ)) (I : Inv X pins σ H s) (r : Vals vs us)
    (h : ∀ x dx, H x = none → H dx = none → dx ≠ x → sp (.ref x :: vs) (upd (upd H dx (.own x)) x (.ins C dx [])) (fun v H2 => v = .non ∧ Q (.ref x) H2) (E σ)) :
    wpAny (model X.prog X.w) X.A (call (.ref C) us) (EP X pins σ Q) X.xe s := by
  have hq := h (s.heap.objs.size + 1) s.heap.objs.size (I.hok.fresh (Nat.le_succ _)) (I.hok.fresh (Nat.le_refl _)) (Nat.ne_of_lt (Nat.lt_succ_self _))
  have I2 := Inv.made (C := C) I
  have r2 : Vals (V.ref (s.heap.objs.size + 1) :: vs) (Value.ref (s.heap.objs.size + 1) :: us) := .cons rfl r
  have hl : (Value.ref (s.heap.objs.size + 1) :: us).length = ps.length := by
    have e := r2.length
    rw [F.len _ _ _ _ hq] at e
    exact e.symm
  have b := hb _ (Value.ref (s.heap.objs.size + 1) :: us) I2.kIn (by rw [List.append_nil]; exact hl)
  rw [List.append_nil] at b
  refine wpAny_call (make_map (f := f) I.kIn M.makes M.init (beq_iff_eq.mp M.fn) (codeAny_mono (F.run _ X.stack _ _ ⟨Value.ref (s.heap.objs.size + 1) :: us, []⟩ (Value.ref (s.heap.objs.size + 1) :: us) _ _ (E σ) (hr.make C us [])
    (I2.env0.make C us []) b r2 hq) fun r s' hq' => ?_))
  cases r with
  | error e => exact hx pins _ _ e s' I2 hq'
  | ok fl =>
    cases fl with
    | ret u =>
      obtain ⟨v, H', I3, rv, ev, q3⟩ := I2.after hq'
      subst ev
      exact ⟨rv, ⟨V.ref (s.heap.objs.size + 1), H', I3, rfl, q3⟩⟩
    | next => exact False.elim hq'
    | brk => exact False.elim hq'
    | cont => exact False.elim hq'
/-- C(..), its ways out told by the slots -/
def tMakeS (C : Addr) (sp : Sp) (E : L2.St → XK) (t : TA) : TE := fun σ H Q => t σ H fun vs H1 => ∀ x dx, H1 x = none → H1 dx = none → dx ≠ x → sp (.ref x :: vs) (upd (upd H1 dx (.own x)) x (.ins C dx [])) (fun v H2 => v = .non ∧ Q (.ref x) H2) (E σ)
theorem pe_makeS (M : Mk X.K C f) (F : FnOk X.prog X.w X.K X.mg X.base CX k f fd ps sp) (hr : Room (k + 1) X.A) (hg : Gl X x) (hm : X.mg x = some (.ref C)) (hb : Binds X.K fd ps []) (hx : ∀ σ, PassesAt CX X σ (E σ))
    (ha : PA X (e :: es) t) (hdb : (x == ("__debug__" : Str)) = false := by decide) (he : starEach (e :: es) X.env = (false, eval e X.env) :: starEach es X.env := by rfl) (hpl : (backTo pos (starEach es X.env)).any (·.1) = false := by rfl) :
    PE X (.Call (.Name x p) (e :: es) [] pos) (tMakeS C sp E t) := by
  refine ⟨fun pins s σ H Q I h => ?_⟩
  refine wpAny_Call_Name_kw (ld_glob I hg hm ?_ hdb)
  refine PySem.W.callWith_K (h₀ := X.base) I.ok.mod.kin M.kp (thn (ha.run pos pins s σ H _ I h) fun us s1 ⟨vs, H1, I1, r, q⟩ => ⟨I1.kIn, ?_⟩) he hpl
  exact run_makeS M F hr hb (hx σ) I1 r q
end
end K1
set_option Elab.async false
set_option linter.all false
set_option maxRecDepth 100000
set_option maxHeartbeats 4000000
/-! An object that stands in the heap is taken up as tracked. -/
namespace K1
open PySem PySem.Spec PyProof.Rows L2
/-- at a: an object of the class cls with the dict d -/
def Exh (cls : Value) (d : Option Addr) (a : Addr) : HO := .ext fun h => ∃ (oe : Obj) (vs : Array Value), h.get? a = some oe ∧ Zc cls d oe ∧ oe.data = .fields vs
theorem exh_ok {P : Program} {w : World} {H : Hp} {h : Heap} {a : Addr} {cls : Value} {d : Option Addr} {oe : Obj} {vs : Array Value} (e : h.get? a = some oe) (z : Zc cls d oe) (dt : oe.data = .fields vs) : ObjOk P w H h a (Exh cls d a) :=
  ⟨⟨oe, vs, e, z, dt⟩, ⟨oe, e⟩, fun _ _ ⟨o, v, q, r⟩ k => ⟨o, v, k o q, r⟩⟩
section
variable {X : Cx} {pins : List (Addr × Obj)} {σ : L2.St} {H : Hp} {s : Shared}
theorem Inv.track {a : Addr} {o : HO} (I : Inv X pins σ H s) (hn : H a = none) (n0 : X.s_0.heap.get? a = none) (hl : a ≠ X.env.locals) (hc : ∀ x c, X.env.cells.lookup x = some c → c ≠ a) (hp : ∀ p, p ∈ X.pn ++ pins → p.1 ≠ a)
    (new : ObjOk X.prog X.w (upd H a o) s.heap a o) : Inv X pins σ (upd H a o) s := by
  have ne0 : ∀ b u, X.s_0.heap.get? b = some u → b ≠ a := fun b u e z => by
    rw [z, n0] at e
    cases e
  refine ⟨I.ok, I.os, I.bare, ⟨I.base.keep, I.base.slot, fun b u e n hq => ?_, I.base.there, fun b xs e => ?_, fun b o u e => ?_, fun b ps e => ?_⟩, I.loc, I.cell, ?_, fun x c e => ?_, fun p hp' => ?_, fun b u e => ?_, I.len⟩
  · rw [upd_ne (ne0 b u e)]
    exact I.base.free b u e n hq
  · have q := I.base.tups b xs e
    rw [upd_ne (ne_of_none q hn)]
    exact q
  · have q := I.base.frzs b o u e
    rw [upd_ne (ne_of_none q hn)]
    exact q
  · obtain ⟨m, q⟩ := I.base.tbls b ps e
    exact ⟨m, by rw [upd_ne (ne_of_none q hn)]; exact q⟩
  · rw [upd_ne hl.symm]
    exact I.free
  · rw [upd_ne (hc x c e)]
    exact I.freeC x c e
  · obtain ⟨e, n, ne, nf, d⟩ := I.pin p hp'
    exact ⟨e, by rw [upd_ne (hp p hp')]; exact n, ne, nf, d⟩
  · by_cases hb : b = a
    · subst hb
      rw [upd_same] at e
      cases e
      exact new
    · rw [upd_ne hb] at e
      exact (I.hok b u e).stay (fun c v _ q => q) (fun c q => by rw [upd_ne (ne_of_none q hn)]; exact q) fun c xs q => by rw [upd_ne (ne_of_none q hn)]; exact q
end
end K1
set_option Elab.async false
set_option linter.all false
set_option maxRecDepth 100000
set_option maxHeartbeats 4000000
/-! Exceptions held as values: their class, their fields, made by hand. -/
namespace K1
open PySem PySem.Spec PyProof.Rows L2
/-- the fields of an exception -/
def ExF (H : Hp) (d : Addr) (fs : List (Str × V)) : Prop := H d = some (exd d fs) ∨ H d = some (.xd fs)
/-- at a an exception of the class at C, its dict d -/
def ExA (H : Hp) (a C : Addr) (d : Option Addr) : Prop := (H a = some (exo a C d) ∨ H a = some (Exh (.ref C) d a) ∨ (d = none ∧ H a = some (ExO (.ref C) a))) ∧ ∀ dd, d = some dd → ∃ fs, ExF H dd fs
/-- what the written part says of such a class -/
structure ExC (K : PySem.W.Frag) (C : Addr) : Prop where
  xf : XfC K C
  cls : (PySem.W.clsIn K C).isSome = true
  ca : PySem.W.findIn K (.ref C) "__class__" = some (some (.builtin "object.__class__"))
  cn : PySem.W.specialIn K (.builtin "object.__class__") "__get__" = some (some (.builtin "getset_descriptor.__get__"))
  ct : PySem.W.takesIn K (.builtin "object.__class__") = some true
  mo : PySem.W.mroIn K C (.type "object") = some true
section
variable {X : Cx} {pins : List (Addr × Obj)} {σ : L2.St} {H : Hp} {s : Shared} {a C : Addr} {d : Option Addr}
theorem exf_at {dd : Addr} {fs : List (Str × V)} (I : Inv X pins σ H s) (h : ExF H dd fs) : ∃ mA, s.heap.Ns1 dd mA ∧ ∀ f, RelO (fs.lookup f) (mA f) := by
  rcases h with h | h
  · exact exd_at I.hok h
  · exact (show ObjOk X.prog X.w H s.heap dd (.xd fs) from I.hok dd _ h)
theorem exa_at (I : Inv X pins σ H s) (h : ExA H a C d) : ∃ (oe : Obj) (od : Option Obj), PySem.W.InstAt s.heap a oe C od ∧ ∀ dd, d = some dd → ∃ o, od = some o ∧ s.heap.get? dd = some o := by
  obtain ⟨oe, vs, e, z, dt⟩ : ∃ (oe : Obj) (vs : Array Value), s.heap.get? a = some oe ∧ Zc (.ref C) d oe ∧ oe.data = .fields vs := by
    rcases h.1 with h1 | h1 | ⟨hd0, h1⟩
    · obtain ⟨t1, e⟩ := exo_at I.hok h1
      exact ⟨_, _, e, ⟨rfl, rfl⟩, rfl⟩
    · exact (show ObjOk X.prog X.w H s.heap a (Exh (.ref C) d a) from I.hok a _ h1).1
    · obtain ⟨oe, vs, e, z, dt, _⟩ := (show ObjOk X.prog X.w H s.heap a (ExO (.ref C) a) from I.hok a _ h1).1
      rw [hd0]
      exact ⟨oe, vs, e, z, dt⟩
  cases hd : d with
  | none =>
    refine ⟨oe, none, ⟨e, z.1, by unfold PySem.W.notCls; rw [dt] <;> rfl, ?_⟩, fun dd z => by cases z⟩
    rw [z.2, hd]
    trivial
  | some dd =>
    obtain ⟨fs, hf⟩ := h.2 dd hd
    obtain ⟨mA, hns, _⟩ := exf_at I hf
    obtain ⟨od, ho, _⟩ := lookIn_ns hns
    refine ⟨oe, some od, ⟨e, z.1, by unfold PySem.W.notCls; rw [dt] <;> rfl, ?_⟩, fun d2 z => ⟨od, rfl, by cases z; exact ho⟩⟩
    rw [z.2, hd]
    exact ho
end
/-- isinstance(e, c), e an exception held -/
def rIsiE (K : PySem.W.Frag) : List V → Hp → VK → Prop := fun xs H Q => ∃ (a C : Addr) (d : Option Addr) (c : V) (u : Value) (b : Bool), xs = [.ref a, c] ∧ ClsV c u ∧ ExA H a C d ∧ ExC K C ∧ PySem.W.kitOne K (.ref C) u = some b ∧ Q (.bl b) H
section
variable {X : Cx}
theorem call_isiE : CallR X (.builtin "isinstance") (rIsiE X.K) := by
  intro pins s σ H xs us Q I r h
  obtain ⟨a, C, d, c, u, b, rfl, k, ex, T, e, q⟩ := h
  obtain ⟨u1, u2, rfl, r1, r2⟩ := vals2 r
  have e2 := k.eq r2
  subst e2
  cases (show u1 = Value.ref a from r1)
  obtain ⟨oe, od, J, _⟩ := exa_at I ex
  exact PySem.W.kia_one (PySem.W.kitx_exc T.cls T.xf.ga T.xf.gg T.xf.exC T.ca T.cn T.ct T.mo) I.kIn J e (fun z => nomatch z) fun tk => ⟨.bl b, H, I.tok tk, rfl, q⟩
/-- e.f, e an exception held -/
def tExf (K : PySem.W.Frag) (f : Str) (te : TE) : TE := fun σ H Q => te σ H fun x H1 => ∃ (a C dd : Addr) (fs : List (Str × V)) (v : V), x = .ref a ∧ ExA H1 a C (some dd) ∧ ExC K C ∧ PySem.W.findIn K (.ref C) f = some none ∧ ExF H1 dd fs ∧ fs.lookup f = some v ∧ Q v H1
theorem pe_exf {K0 : PySem.W.Frag} {e : Expr} {te : TE} {pos : Pos} {n : Str} (he : PE X e te) (hK : X.K = K0 := by rfl) (hb : attributeBase e n X.env (eval e X.env) = eval e X.env := by rfl) : PE X (.Attribute e n pos) (tExf K0 n te) := by
  subst hK
  refine ⟨fun pins s σ H Q I h => ?_⟩
  refine attr_of hb (thn (he.run pins s σ H _ I h) fun u s1 hh => ?_)
  obtain ⟨x, H1, I1, rx, a, C, dd, fs, v, ex, ea, T, hno, ef, l, q⟩ := hh
  subst ex
  obtain rfl : u = Value.ref a := rx
  obtain ⟨oe, od, J, hod⟩ := exa_at I1 ea
  obtain ⟨o, rfl, ho⟩ := hod dd rfl
  obtain ⟨mA, hns, hr⟩ := exf_at I1 ef
  obtain ⟨od2, ho2, hl⟩ := lookIn_ns hns
  rw [ho] at ho2
  cases ho2
  obtain ⟨u, hu, ru⟩ := RelO.some_of (v := v) (o := mA n) (by rw [← l]; exact hr n)
  exact HandSPX.exc_get I1.kIn J T.xf.ga T.xf.gg T.xf.exC (PySem.W.findObj_own T.xf.hdC hno rfl (by rw [hl, hu])) (handed_of ru) ⟨v, H1, I1.tok _, ru, q⟩
/-- C(e, ..), C's own __init__ keeping sp: a new exception held -/
def tMkE (C : Addr) (sp : Sp) (ta : TA) : TE := fun σ H Q => ta σ H fun vs H1 => vs.length ≤ 1000 ∧ ∀ a, H1 a = none → sp (.ref a :: vs) (upd H1 a (exo a C none)) (fun v H2 => v = .non ∧ Q (.ref a) H2) (fun _ _ _ => False)
theorem pe_mkE {CX : CXT} {x : Str} {C fI : Addr} {k : Nat} {fd : FuncData} {ps : List Str} {sp : Sp} {e : Expr} {es : List Expr} {ta : TA} {p pos : Pos} (T : OexC X.K C) (iC : PySem.W.findIn X.K (.ref C) "__init__" = some (some (.ref fI))) (tI : PySem.W.typeIn X.K (.ref fI) = some (.type "function"))
    (F1 : FnOk X.prog X.w X.K X.mg X.base CX k fI fd ps sp) (hr : Room (k + 1) X.A) (hb : Binds X.K fd ps []) (hx : Passes CX X (fun _ _ _ => False)) (hg : Gl X x) (hm : X.mg x = some (.ref C)) (ha : PA X (e :: es) ta)
    (hdb : (x == ("__debug__" : Str)) = false := by decide) (he : starEach (e :: es) X.env = (false, eval e X.env) :: starEach es X.env := by rfl) (hpl : (backTo pos (starEach es X.env)).any (·.1) = false := by rfl) :
    PE X (.Call (.Name x p) (e :: es) [] pos) (tMkE C sp ta) := by
  refine ⟨fun pins s σ H Q I h => ?_⟩
  obtain ⟨nm, q, N, bs, bm, sn, sub, ab, col, dd, k0, k1, k2, k3, k5, hC, hbm⟩ := T.cls
  refine wpAny_Call_Name_kw (ld_glob I hg hm ?_ hdb)
  refine PySem.W.callWith_K (h₀ := X.base) I.ok.mod.kin T.kC (thn (ha.run pos pins s σ H _ I h) fun us s1 ⟨vs, H1, I1, r1, hz, q1⟩ => ⟨I1.kIn, ?_⟩) he hpl
  show wpAny _ _ (call (.ref C) us) _ _ _
  obtain ⟨hp, g, dr, tk, os⟩ := s1
  have hsz : hp.objs.size ≤ hp.objs.size + 1 := Nat.le_succ _
  have hn : H1 (hp.objs.size + 1) = none := I1.hok.fresh hsz
  have hq := q1 (hp.objs.size + 1) hn
  have kk : ∀ b o, hp.get? b = some o → ((hp.push (PySem.W.kdv_tup us)).push (PySem.HandSPX.excO C hp.objs.size)).get? b = some o := fun b o e => Heap.get?_push_of_some _ (Heap.get?_push_of_some _ e)
  have hget : ((hp.push (PySem.W.kdv_tup us)).push (PySem.HandSPX.excO C hp.objs.size)).get? (hp.objs.size + 1) = some (PySem.HandSPX.excO C hp.objs.size) := by heap_get
  have I2 : Inv X pins σ (upd H1 (hp.objs.size + 1) (exo (hp.objs.size + 1) C none)) ⟨(hp.push (PySem.W.kdv_tup us)).push (PySem.HandSPX.excO C hp.objs.size), g, dr, tk, os⟩ :=
    I1.laid (t' := tk) (a := hp.objs.size + 1) (o := exo (hp.objs.size + 1) C none) (h' := (hp.push (PySem.W.kdv_tup us)).push (PySem.HandSPX.excO C hp.objs.size)) kk hsz (exo_ok hget)
  have r2 : Vals (V.ref (hp.objs.size + 1) :: vs) (Value.ref (hp.objs.size + 1) :: us) := .cons rfl r1
  have hl : (Value.ref (hp.objs.size + 1) :: us).length = ps.length := by
    have e := r2.length
    rw [F1.len _ _ _ _ hq] at e
    exact e.symm
  have hus : us.length ≤ sizeLine := by
    rw [← Paired.length r1, sizeLine_eq]
    omega
  have b := hb _ (Value.ref (hp.objs.size + 1) :: us) I2.kIn (by rw [List.append_nil]; exact hl)
  rw [List.append_nil] at b
  refine wpAny_call (PySem.HandSPX.call_own F.excBase_ValueError (fun Y => PySem.HandSPX.refsVE_contains Y bm hbm) (I1.kIn _ _ hC) (PySem.W.looks_findIn I1.kIn iC) (fun self => PySem.W.bind_fn I1.kIn self tI) hus
    (codeAny_mono (F1.run _ X.stack _ _ ⟨Value.ref (hp.objs.size + 1) :: us, []⟩ (Value.ref (hp.objs.size + 1) :: us) _ _ (fun _ _ _ => False) (hr.make C us []) (I2.env0.make C us []) b r2 hq) fun r s' hq' => ?_))
  cases r with
  | error er => exact hx pins σ _ _ er s' I2 hq'
  | ok fl =>
    cases fl with
    | ret u =>
      obtain ⟨v, H2, I3, rv, ev, q3⟩ := I2.after hq'
      subst ev
      exact ⟨rv, ⟨V.ref (hp.objs.size + 1), H2, I3, rfl, q3⟩⟩
    | next => exact False.elim hq'
    | brk => exact False.elim hq'
    | cont => exact False.elim hq'
end
end K1
set_option Elab.async false
set_option linter.all false
set_option maxRecDepth 100000
set_option maxHeartbeats 4000000
/-! except C as e: what is caught is taken up as a tracked thing behind the suite. -/
namespace K1
open PySem PySem.Spec PyProof.Rows L2
/-- the wish of such a clause: behind its suite the exception stands in the heap -/
def wHeld (K : PySem.W.Frag) (c : Value) (i : Nat) (ts : Addr → Value → Option Addr → TS) (Wout : WX) (D : Ends) : WX := fun cls d σ H =>
  ∃ b, PySem.W.exmOne K cls c = some b ∧ (b = true → ∀ a, H a = none → ts a cls d ⟨fun σ1 H1 => D.nx (σ1.set i none) (upd H1 a (Exh cls d a)), fun v H1 => D.rt v H1, fun σ1 H1 => D.bk (σ1.set i none) H1, fun σ1 H1 => D.ct (σ1.set i none) H1⟩ (σ.set i (some (.ref a))) H) ∧ (b = false → Wout cls d σ H)
section
variable {X : Cx}
/-- a caught exception's object isn't among what stood ahead of it -/
theorem caught_new {pins : List (Addr × Obj)} {σ : L2.St} {H : Hp} {sI : Shared} {B h : Heap} {a : Addr} {oe : Obj} {vs : Array Value} (J : Inv X pins σ H sI) (hex : X.ex = []) (nb : ∀ b o, sI.heap.get? b = some o → b ∉ frs X.stack → B.get? b = some o)
    (hB : B.get? a = none) (nf : a ∉ frs X.stack) : X.s_0.heap.get? a = none ∧ ∀ p, p ∈ X.pn ++ pins → p.1 ≠ a := by
  have no : ∀ o, sI.heap.get? a ≠ some o := fun o e => by
    have := nb a o e nf
    rw [hB] at this
    cases this
  refine ⟨?_, fun p hp z => ?_⟩
  · cases e : X.s_0.heap.get? a with
    | none => rfl
    | some o =>
      obtain ⟨o', e'⟩ := J.base.there a o e (by rw [hex]; exact fun z => nomatch z)
      exact absurd e' (no o')
  · obtain ⟨e, _⟩ := J.pin p hp
    rw [z] at e
    exact no _ e
/-- behind the suite: the pinned exception is tracked -/
theorem take_up {pins : List (Addr × Obj)} {σ : L2.St} {H : Hp} {s : Shared} {a : Addr} {oe : Obj} {cls : Value} {d : Option Addr} {vs : Array Value} (ok : X.Ok) (S : Inv (X.suite a ((a, oe) :: (X.pn ++ pins))) [] σ H s) (z : Zc cls d oe) (dt : oe.data = .fields vs)
    (n0 : X.s_0.heap.get? a = none) (np : ∀ p, p ∈ X.pn ++ pins → p.1 ≠ a) (nL : a ≠ X.env.locals) : Inv X pins σ (upd H a (Exh cls d a)) s := by
  obtain ⟨e, n, _⟩ := S.pin (a, oe) (List.mem_append_left _ List.mem_cons_self)
  refine Inv.track (S.unsuite ok) n n0 nL (fun x c hc w => ?_) np (exh_ok e z dt)
  obtain ⟨v, o, ho, hd⟩ := S.cell x c hc
  have e : s.heap.get? a = some oe := e
  rw [w, e] at ho
  cases ho
  rw [dt] at hd
  cases hd
end
section
variable {X : Cx} {x n : Str} {c : Value} {i : Nat} {body suite : List Stmt} {b₀ : Stmt} {np pos pos' : Pos} {tb : WX → TS} {ts : Addr → Value → Option Addr → TS} {Wout : WX}
/-- try: body / except x as n: suite, what is caught being held behind it -/
theorem ps_try_held (hs : X.stack = X.env :: X.outer) (hf : X.env.frame = some X.env.locals) (hex : X.ex = []) (hN : X.N.Nodup) (hi : X.N[i]? = some n) (hln : X.env.kindOf n = some .local) (hc : Names X x c) (tk : Takes X Wout)
    (hb : ∀ (W : WX) (pn : List (Addr × Obj)) (xe : Value → Shared → Prop), Takes (X.tr pn xe) W → PassesOwn (model X.prog X.w) X.A X.env xe → PSs (X.tr pn xe) body (tb W))
    (hsu : ∀ (a : Addr) (oe : Obj) (cls : Value) (d : Option Addr) (pn : List (Addr × Obj)), Zc cls d oe → (∃ vs, oe.data = .fields vs) → PSs (X.suite a ((a, oe) :: pn)) (b₀ :: suite) (ts a cls d)) :
    PS X (.Try body [.ExceptHandler (some (.Name x np)) (some n) (b₀ :: suite) pos'] [] [] pos) (fun D σ H => tb (wHeld X.K c i ts Wout D) D σ H) := by
  refine ⟨fun pins s σ H D I h => wpAny_Try_except ?_⟩
  have ok := I.ok
  have frames : X.A.frames = some (X.env :: X.outer) := by rw [ok.frames, hs]
  -- where the body lets something out
  have caught : ∀ u s', XE (X.tr (X.pn ++ pins) fun e s₁ => wpAny (model X.prog X.w) X.A (noteFrame e X.env) (fun _ s₂ => wpAny (model X.prog X.w) X.A (setFlight e none) (fun _ s₃ =>
      wpAny (model X.prog X.w) X.A (handleBy e X.env [.ExceptHandler (some (.Name x np)) (some n) (b₀ :: suite) pos']) (SP X pins D) X.xe s₃) X.xe s₂) X.xe s₁) (wHeld X.K c i ts Wout D) u s' →
      wpAny (model X.prog X.w) X.A (noteFrame u X.env) (fun _ s₂ => wpAny (model X.prog X.w) X.A (setFlight u none) (fun _ s₃ => wpAny (model X.prog X.w) X.A (handleBy u X.env [.ExceptHandler (some (.Name x np)) (some n) (b₀ :: suite) pos']) (SP X pins D) X.xe s₃) X.xe s₂) X.xe s' := by
    rintro u s' ⟨a, B, sI, pins', σ1, H1, cls, d, rfl, Jt, nb, up, sky, na, os, ag, b, is_c, yes, no⟩
    have J : Inv X pins σ1 H1 sI := Jt.ofTry ok
    have sky1 : Sky B (X.env :: X.outer) a (Zc cls d) X.env.locals s'.heap := hs ▸ sky
    refine Sky.land Zc.steady frames hf sky1 fun g1 fly1 up1 => ?_
    have L1 : Inv X pins σ1 H1 { s' with heap := g1 } := J.landed nb fly1.1 (up.trans up1) os ag
    obtain ⟨o1, v1, at1, z1, dt1⟩ := fly1.there
    have off : a ∉ frs (X.env :: X.outer) := fun hm => by
      obtain ⟨_, o', e', q⟩ := fly1.2.2.1.mem hm
      rw [at1] at e'
      cases e'
      exact q _ dt1
    have offL : a ≠ X.env.locals := fun z => off (List.mem_filterMap.mpr ⟨X.env, List.mem_cons_self, by rw [hf, z]⟩)
    have offF : a ∉ X.fs := fun hm => by
      obtain ⟨e, he, q⟩ := List.mem_filterMap.mp hm
      exact off (List.mem_filterMap.mpr ⟨e, List.mem_cons_of_mem _ he, q⟩)
    obtain ⟨n0, npin⟩ := caught_new (vs := v1) (h := g1) (oe := o1) J hex nb fly1.2.1 (by rw [hs]; exact off)
    have U1 := L1.suite at1 dt1 na offL offF
    have ty : PySem.W.Looks (model X.prog X.w) g1 (typeOf (.ref a)) cls := fun A Q E s k q => wpAny_typeOf_ref (k _ _ at1) (by rw [z1.1]; exact q)
    refine wpAny_handleBy_cons (codeAny_handlers_test ?_) (by intro q; cases q)
    have named : ∀ {Q E : Value → Shared → Prop}, Q c { s' with heap := g1 } → wpAny (model X.prog X.w) (X.A.mark (some (.ref a))) (eval (.Name x np) X.env) Q E { s' with heap := g1 } := fun {Q E} q => by
      obtain ⟨hg, hdbg, hm | ⟨hm, hv, hnn⟩⟩ := hc
      · exact ld_glob (X := X.suite a ((a, o1) :: (X.pn ++ pins))) U1 hg hm q hdbg
      · exact ld_blt (X := X.suite a ((a, o1) :: (X.pn ++ pins))) U1 hg hm hv q hnn hdbg
    refine named ((PySem.W.exm_one (M := model X.prog X.w) L1.kIn ty is_c).here ?_)
    cases b with
    | false =>
      refine wpAny_handleBy_nil ?_
      obtain ⟨_, _, _, oe, vs, T, oT, ts', he, hz, hd, h1, hr⟩ := id fly1
      unfold PySem.passOn
      refine wpAny_bind (wpAny_field he hd h1 ?_)
      rw [if_neg (show ¬ ((Value.ref T == Value.none) = true) from by simp)]
      have on : wpAny (model X.prog X.w) X.A (setFlight (.ref a) X.env.frame) (fun _ s4 => wpAny (model X.prog X.w) X.A (throw (.ref a) : Sem Flow) (SP X pins D) X.xe s4) X.xe { s' with heap := g1 } := by
        rw [hf]
        exact HandSPX.setFlight_upZ fly1 fun g2 held up2 => wpAny_throw (tk _ _ ⟨a, B, sI, pins, σ1, H1, cls, d, rfl, J, nb, (up.trans up1).trans up2, .inr (.inr (by rw [hs]; exact held)), na, os, ag, no rfl⟩)
      first
        | exact wpAny_bind (wpAny_pure (wpAny_bind on))
        | exact wpAny_bind on
    | true =>
      refine codeAny_handlers_suite_as (HandSPX.lands_againZ fly1 fun g2 fly2 up2 => ?_)
      have L2 : Inv X pins σ1 H1 { s' with heap := g2 } := J.landed nb fly2.1 ((up.trans up1).trans up2) os ag
      obtain ⟨o2, v2, at2, z2, dt2⟩ := fly2.there
      have U2 := L2.suite at2 dt2 na offL offF
      refine store_ok (X := X.suite a ((a, o2) :: (X.pn ++ pins))) (v := .ref a) U2 hN hi (.inl hln) rfl (fun s5 U5 => ?_) (.inr hln)
      refine wpAny_mono ((hsu a o2 cls d (X.pn ++ pins) z2 ⟨_, dt2⟩).run [] s5 _ H1 _ U5 (yes rfl a na)) (fun f s6 sp => ?_) (fun _ _ z => z.elim)
      cases f with
      | next =>
        obtain ⟨σ6, H6, U6, q6⟩ := sp
        exact gone_ok (take_up ok U6 z2 dt2 n0 npin offL) hN hi hln fun s7 J7 => ⟨_, _, J7, q6⟩
      | brk =>
        obtain ⟨σ6, H6, U6, q6⟩ := sp
        exact gone_ok (U6.unsuite ok) hN hi hln fun s7 J7 => ⟨_, _, J7, q6⟩
      | cont =>
        obtain ⟨σ6, H6, U6, q6⟩ := sp
        exact gone_ok (U6.unsuite ok) hN hi hln fun s7 J7 => ⟨_, _, J7, q6⟩
      | ret v =>
        obtain ⟨v6, σ6, H6, U6, r6, q6⟩ := sp
        exact gone_ok (U6.unsuite ok) hN hi hln fun s7 J7 => ⟨_, _, _, J7, r6, q6⟩
  refine wpAny_mono ((hb (wHeld X.K c i ts Wout D) (X.pn ++ pins) _ (fun u s' xx => caught u s' xx) PassesOwn.looking).run [] s σ H D (I.toTry _) h) (fun f s1 sp => ?_) (fun e s1 he => he)
  cases f with
  | next =>
    obtain ⟨σ1, H1, J, q⟩ := sp
    exact wpAny_execs_nil ⟨σ1, H1, J.ofTry ok, q⟩
  | brk =>
    obtain ⟨σ1, H1, J, q⟩ := sp
    exact ⟨σ1, H1, J.ofTry ok, q⟩
  | cont =>
    obtain ⟨σ1, H1, J, q⟩ := sp
    exact ⟨σ1, H1, J.ofTry ok, q⟩
  | ret v =>
    obtain ⟨v, σ1, H1, J, r, q⟩ := sp
    exact ⟨v, σ1, H1, J.ofTry ok, r, q⟩
end
end K1
set_option Elab.async false
set_option linter.all false
set_option maxRecDepth 100000
set_option maxHeartbeats 400000
/-! for x, y, z in zip(list, list, list). -/
namespace K1
open PySem PySem.Spec PyProof.Rows L2
/-- the lists at a, b, c as they stand at each turn, the items in new triples -/
def Itz3 (K : PySem.W.Frag) (a b c : Addr) : It :=
  ⟨fun i H => ∃ (xs ys zs : List V) (x y z : V), SqL K H a xs ∧ SqL K H b ys ∧ SqL K H c zs ∧ xs[i]? = some x ∧ ys[i]? = some y ∧ zs[i]? = some z,
    fun i H v H' => ∃ T x y z, v = .ref T ∧ H T = none ∧ H' = upd H T (.tup [x, y, z]) ∧ (∀ xs, SqL K H a xs → xs[i]? = some x) ∧ (∀ ys, SqL K H b ys → ys[i]? = some y) ∧ ∀ zs, SqL K H c zs → zs[i]? = some z,
    fun i H => ∃ xs ys zs : List V, SqL K H a xs ∧ SqL K H b ys ∧ SqL K H c zs ∧ i ≤ xs.length ∧ i ≤ ys.length ∧ i ≤ zs.length ∧ (i = xs.length ∨ i = ys.length ∨ i = zs.length)⟩
theorem turn_zip3 {P : Program} {w : World} {K : PySem.W.Frag} {elts : List Expr} {kk : Nat} {tpos : Pos} {a b c z TI TO i1 i2 i3 : Addr} (D : ZipSep3 z TI TO i1 i2 i3 [i1, a] [i2, b] [i3, c]) (na : a ≠ i1) (nb : b ≠ i2) (nc : c ≠ i3) :
    Turn P w K (.Tuple elts kk tpos) (Itz3 K a b c) [z, TI, TO, i1, i2, i3] z (fun i h => IsZip h z TI TO .none ∧ IsTupOf3 h TI (.ref i1) (.ref i2) (.ref i3) ∧ (∃ x y u, IsTupOf3 h TO x y u) ∧ h.IsListIter i1 a i ∧ h.IsListIter i2 b i ∧ h.IsListIter i3 c i) where
  mem := by simp
  obj := fun i h st e hc => by
    obtain ⟨hz, hTI, ⟨x, y, u, hTO⟩, ⟨o1, e1, _, d1⟩, ⟨o2, e2, _, d2⟩, ⟨o3, e3, _, d3⟩⟩ := st
    have e' : e = z ∨ e = TI ∨ e = TO ∨ e = i1 ∨ e = i2 ∨ e = i3 := by simpa using hc
    rcases e' with q | q | q | q | q | q
    · rw [q]; exact ⟨_, hz, fun v q => nomatch q⟩
    · rw [q]; exact ⟨_, hTI, fun v q => nomatch q⟩
    · rw [q]; exact ⟨_, hTO, fun v q => nomatch q⟩
    · rw [q]; exact ⟨o1, e1, fun v q => by rw [d1] at q; cases q⟩
    · rw [q]; exact ⟨o2, e2, fun v q => by rw [d2] at q; cases q⟩
    · rw [q]; exact ⟨o3, e3, fun v q => by rw [d3] at q; cases q⟩
  keep := fun i h h' st k => by
    obtain ⟨hz, hTI, ⟨x, y, u, hTO⟩, h1, h2, h3⟩ := st
    exact ⟨k z (by simp) _ hz, k TI (by simp) _ hTI, ⟨x, y, u, k TO (by simp) _ hTO⟩, h1.at fun o q => k i1 (by simp) o q, h2.at fun o q => k i2 (by simp) o q, h3.at fun o q => k i3 (by simp) o q⟩
  item := by
    intro X hP hw hK hc i pins s σ H E I hf st hg
    subst hP hw hK
    obtain ⟨hz, hTI, ⟨x0, y0, u0, hTO⟩, h1, h2, h3⟩ := st
    obtain ⟨xs, ys, zs, x, y, u, hqx, hqy, hqz, hx, hy, hu⟩ := hg
    obtain ⟨its, rv, p, _⟩ := I.list hqx
    obtain ⟨its2, rv2, p2, _⟩ := I.list hqy
    obtain ⟨its3, rv3, p3, _⟩ := I.list hqz
    obtain ⟨v1, hv1, r1⟩ := rv.get hx
    obtain ⟨v2, hv2, r2⟩ := rv2.get hy
    obtain ⟨v3, hv3, r3⟩ := rv3.get hu
    have hzl : z < s.heap.objs.size := Heap.lt_size hz
    have lt : ∀ {l : List Value} {v : Value}, l[i]? = some v → i < l.toArray.size := fun h => by
      have := (List.getElem?_eq_some_iff.mp h).1
      simpa using this
    refine wpAny_pyNext_zipD3_item D (Draws.list (A := X.A.in1) (I.ok.hd hc) i1 a na its.toArray) (Draws.list (A := X.A.in1) (I.ok.hd hc) i2 b nb its2.toArray) (Draws.list (A := X.A.in1) (I.ok.hd hc) i3 c nc its3.toArray) hz hTI hTO ⟨h1, p.isList⟩ ⟨h2, p2.isList⟩ ⟨h3, p3.isList⟩ (lt hv1) (lt hv2) (lt hv3)
      fun x1 x2 x3 h' tk y1 y2 y3 z' TO' d1 d2 d3 hT hsz hk => ?_
    have ex1 : x1 = v1 := by
      have y1' : its.toArray[i]? = some x1 := y1
      rw [List.getElem?_toArray, hv1] at y1'
      exact (Option.some.inj y1').symm
    have ex2 : x2 = v2 := by
      have y1' : its2.toArray[i]? = some x2 := y2
      rw [List.getElem?_toArray, hv2] at y1'
      exact (Option.some.inj y1').symm
    have ex3 : x3 = v3 := by
      have y1' : its3.toArray[i]? = some x3 := y3
      rw [List.getElem?_toArray, hv3] at y1'
      exact (Option.some.inj y1').symm
    subst ex1 ex2 ex3
    refine ⟨_, rfl, wpAny_letOwnedTupleGo_zip (s := { s with heap := h', toks := tk }) z' fun h'' z'' sb => ?_⟩
    have hT2 : h''.get? s.heap.objs.size = some { cls := .type "tuple", data := .seq #[x1, x2, x3] } := (sb.2 _ (Nat.ne_of_gt hzl)).trans hT
    have new : ObjOk X.prog X.w (upd H s.heap.objs.size (.tup [x, y, u])) h'' s.heap.objs.size (.tup [x, y, u]) :=
      ⟨by show 3 ≤ sizeLine; decide, [x1, x2, x3], .cons r1 (.cons r2 (.cons r3 .nil)), ⟨_, hT2, rfl, _, rfl⟩⟩
    have I1 : Inv X pins σ (upd H s.heap.objs.size (.tup [x, y, u])) { s with heap := h'', toks := tk } :=
      I.turnedNew (t' := tk) (ch := [z, TI, TO, i1, i2, i3]) (fun e o hb q => (sb.2 e (fun q' => hb (by simp [q']))).trans (hk e o (fun q' => hb (by simp [q'])) (fun q' => hb (by simp [q'])) (fun q' => hb (by simp [q'])) (fun q' => hb (by simp [q'])) (fun q' => hb (by simp [q'])) q)) hf (Nat.le_refl _) new
    have TIf : ∀ {e o}, e ≠ z → h'.get? e = some o → h''.get? e = some o := fun n q => (sb.2 _ n).trans q
    have z1 : i1 ≠ z := fun q => D.zf1 (by rw [← q]; exact List.mem_cons_self ..)
    have z2 : i2 ≠ z := fun q => D.zf2 (by rw [← q]; exact List.mem_cons_self ..)
    have z3 : i3 ≠ z := fun q => D.zf3 (by rw [← q]; exact List.mem_cons_self ..)
    refine ⟨.ref s.heap.objs.size, _, I1, rfl, ⟨_, x, y, u, rfl, I.hok.fresh (Nat.le_refl _), rfl, fun l hl => by rw [I.list_inj hl hqx]; exact hx, fun l hl => by rw [I.list_inj hl hqy]; exact hy, fun l hl => by rw [I.list_inj hl hqz]; exact hu⟩, ⟨z'', ?_, ⟨x1, x2, x3, ?_⟩, ?_, ?_, ?_⟩, fun e hcm => ?_⟩
    · exact TIf D.TIz (hk _ _ D.TIz D.TITO D.TIi1 D.TIi2 D.TIi3 hTI)
    · exact TIf D.TOz TO'
    · exact d1.1.at fun o q => TIf z1 q
    · exact d2.1.at fun o q => TIf z2 q
    · exact d3.1.at fun o q => TIf z3 q
    · have hlt : e < s.heap.objs.size := by
        have e' : e = z ∨ e = TI ∨ e = TO ∨ e = i1 ∨ e = i2 ∨ e = i3 := by simpa using hcm
        rcases e' with q | q | q | q | q | q
        · rw [q]; exact hzl
        · rw [q]; exact Heap.lt_size hTI
        · rw [q]; exact Heap.lt_size hTO
        · rw [q]; obtain ⟨_, e1, _⟩ := h1; exact Heap.lt_size e1
        · rw [q]; obtain ⟨_, e2, _⟩ := h2; exact Heap.lt_size e2
        · rw [q]; obtain ⟨_, e3, _⟩ := h3; exact Heap.lt_size e3
      rw [upd_ne (Nat.ne_of_lt hlt)]
      exact (hf e hcm).1
  done := by
    intro X hP hw hK hc i pins s σ H E I hf st hg
    subst hP hw hK
    obtain ⟨hz, hTI, ⟨x0, y0, u0, hTO⟩, h1, h2, h3⟩ := st
    obtain ⟨xs, ys, zs, hqx, hqy, hqz, m1, m2, m3, hend⟩ := hg
    obtain ⟨its, rv, p, _⟩ := I.list hqx
    obtain ⟨its2, rv2, p2, _⟩ := I.list hqy
    obtain ⟨its3, rv3, p3, _⟩ := I.list hqz
    have l1 : its.toArray.size = xs.length := by have := rv.length; simp; omega
    have l2 : its2.toArray.size = ys.length := by have := rv2.length; simp; omega
    have l3 : its3.toArray.size = zs.length := by have := rv3.length; simp; omega
    exact wpAny_pyNext_zipD3_end D (Draws.list (A := X.A.in1) (I.ok.hd hc) i1 a na its.toArray) (Draws.list (A := X.A.in1) (I.ok.hd hc) i2 b nb its2.toArray) (Draws.list (A := X.A.in1) (I.ok.hd hc) i3 c nc its3.toArray) hz hTI hTO ⟨h1, p.isList⟩ ⟨h2, p2.isList⟩ ⟨h3, p3.isList⟩
      (by omega) (by omega) (by omega) (by omega) fun h' tk hk => ⟨rfl, I.turnedL (t' := tk) (ch := [z, TI, TO, i1, i2, i3]) (fun e o hb q => hk e o (fun q' => hb (by simp [q'])) (fun q' => hb (by simp [q'])) (fun q' => hb (by simp [q'])) (fun q' => hb (by simp [q'])) (fun q' => hb (by simp [q'])) q) hf⟩
  self := fun A i s Q E st h => wpAny_pyIter_zip st.1 h
def iZip3 (K : PySem.W.Frag) (ta : TA) : TI := fun σ H R => ta σ H fun vs H1 => ∃ a b c xs ys zs, vs = [.ref a, .ref b, .ref c] ∧ SqL K H1 a xs ∧ SqL K H1 b ys ∧ SqL K H1 c zs ∧ R (Itz3 K a b c) H1
theorem pi_zip3 {X : Cx} {e e2 e3 : Expr} {ta : TA} {p pos tpos : Pos} {elts : List Expr} {kk : Nat} (hg : Gl X "zip") (hm : X.mg "zip" = none) (ha : PA X [e, e2, e3] ta)
    (hs : starEach [e, e2, e3] X.env = (false, eval e X.env) :: starEach [e2, e3] X.env := by rfl) (hpl : (backTo pos (starEach [e2, e3] X.env)).any (·.1) = false := by rfl) :
    PI X (.Tuple elts kk tpos) (.Call (.Name "zip" p) [e, e2, e3] [] pos) (iZip3 X.K ta) := by
  refine ⟨fun pins s σ H R I h => ?_⟩
  refine Call_ (ld_blt I hg hm PyProof.Rows.boot_zip (PyProof.Rows.callWith_type1 (thn (ha.run pos pins s σ H _ I h) fun us s1 ⟨vs, H1, I1, r1, q1⟩ => ?_) hs hpl))
  obtain ⟨a, b, c, xs, ys, zs, ex, hqx, hqy, hqz, q⟩ := q1
  subst ex
  cases r1 with
  | cons r rr =>
    cases rr with
    | cons r' rr =>
      cases rr with
      | cons r'' rr =>
        cases rr
        cases r
        cases r'
        cases r''
        obtain ⟨its, rv, p1, _⟩ := I1.list hqx
        obtain ⟨its2, rv2, p2, _⟩ := I1.list hqy
        obtain ⟨its3, rv3, p3, _⟩ := I1.list hqz
        have la : a < s1.heap.objs.size := p1.lt
        have lb : b < s1.heap.objs.size := p2.lt
        have lc : c < s1.heap.objs.size := p3.lt
        refine zip_begins3 (begins_list a its.toArray) (begins_list b its2.toArray) (begins_list c its3.toArray) (by exact p1.isList) (by exact p2.isList) (by exact p3.isList) fun h' hz hTI hTO h1 h2 h3 hsz hk => wpAny_pyIter_zip hz ?_
        have I2 : Inv X pins σ H1 { s1 with heap := h' } := I1.kept (t' := s1.toks) hk
        refine ⟨s1.heap.objs.size + 5, [s1.heap.objs.size + 5, s1.heap.objs.size + 3, s1.heap.objs.size + 4, s1.heap.objs.size, s1.heap.objs.size + 1, s1.heap.objs.size + 2], _, _, H1, rfl, I2,
          turn_zip3 (zip_sep3 (N := s1.heap.objs.size) (fp1 := [a]) (fp2 := [b]) (fp3 := [c]) (fun x hx => by rw [List.mem_singleton.mp hx]; exact la) (fun x hx => by rw [List.mem_singleton.mp hx]; exact lb) (fun x hx => by rw [List.mem_singleton.mp hx]; exact lc)) (Nat.ne_of_lt la) (Nat.ne_of_lt (Nat.lt_succ_of_lt lb)) (Nat.ne_of_lt (Nat.lt_succ_of_lt (Nat.lt_succ_of_lt lc))),
          ⟨hz, hTI, ⟨_, _, _, hTO⟩, ⟨_, h1, rfl, rfl⟩, ⟨_, h2, rfl, rfl⟩, ⟨_, h3, rfl, rfl⟩⟩, fun e hcm => ?_, q⟩
        have e' : e = s1.heap.objs.size + 5 ∨ e = s1.heap.objs.size + 3 ∨ e = s1.heap.objs.size + 4 ∨ e = s1.heap.objs.size ∨ e = s1.heap.objs.size + 1 ∨ e = s1.heap.objs.size + 2 := by simpa using hcm
        have hle : s1.heap.objs.size ≤ e := by
          rcases e' with z | z | z | z | z | z
          · rw [z]; exact Nat.le_add_right _ _
          · rw [z]; exact Nat.le_add_right _ _
          · rw [z]; exact Nat.le_add_right _ _
          · rw [z]; exact Nat.le_refl _
          · rw [z]; exact Nat.le_add_right _ _
          · rw [z]; exact Nat.le_add_right _ _
        exact I1.fpOk hle (I1.hok.fresh hle)
/-- a new triple of the i-th ones -/
def YTri (xs ys zs : Nat → Option V) : Nat → Hp → V → Hp → Prop := fun i H v H' => ∃ T x y z, v = .ref T ∧ H T = none ∧ H' = upd H T (.tup [x, y, z]) ∧ xs i = some x ∧ ys i = some y ∧ zs i = some z
theorem walk_zip3 {K : PySem.W.Frag} {a b c : Addr} {xs ys zs : List V} {n : Nat} (h1 : xs.length = n) (h2 : ys.length = n) (h3 : zs.length = n) : Walk (Itz3 K a b c) n (fun H => SqL K H a xs ∧ SqL K H b ys ∧ SqL K H c zs) (YTri (fun i => xs[i]?) (fun i => ys[i]?) (fun i => zs[i]?)) := by
  refine ⟨fun i _ hi q => ⟨xs, ys, zs, xs[i], ys[i], zs[i], q.1, q.2.1, q.2.2, by simp [h1, hi], by simp [h2, hi], by simp [h3, hi]⟩, fun _ q => ⟨xs, ys, zs, q.1, q.2.1, q.2.2, by omega, by omega, by omega, .inl h1.symm⟩, fun i H v H' _ q y => ?_⟩
  obtain ⟨T, x, y, z, e1, e2, e3, e4, e5, e6⟩ := y
  exact ⟨T, x, y, z, e1, e2, e3, e4 xs q.1, e5 ys q.2.1, e6 zs q.2.2⟩
end K1
set_option Elab.async false
set_option linter.all false
set_option maxRecDepth 100000
set_option maxHeartbeats 400000
/-! Expressions that make data: read as a whole, whatever they lay in the heap. -/
namespace K1
open PySem PySem.Spec PyProof.Rows L2
/-- all that stood stands -/
def Kp (H H' : Hp) : Prop := ∀ b o, H b = some o → H' b = some o
theorem Kp.rfl' {H : Hp} : Kp H H := fun _ _ e => e
theorem Kp.trans {H H1 H2 : Hp} (a : Kp H H1) (b : Kp H1 H2) : Kp H H2 := fun x o e => b x o (a x o e)
theorem Kp.new {H : Hp} {p : Addr} {o : HO} (h : H p = none) : Kp H (upd H p o) := fun _ _ e => (upd_ne (ne_of_none e h)).trans e
theorem Kp.sub {H H' : Hp} (k : Kp H H') : Sub H H' := fun a o e _ => k a o e
theorem Kp.go {T : Tp} {H H' : Hp} (k : Kp H H') (t : TG T H) : Go T D0 H H' :=
  ⟨fun P hP => let ⟨ps, e, r⟩ := t P hP; ⟨ps, k _ _ e, r⟩, fun b o _ _ e => k b o e⟩
theorem Kp.free {H H' : Hp} {b : Addr} (k : Kp H H') (h : H' b = none) : H b = none := by
  cases e : H b with
  | none => rfl
  | some o =>
    rw [k b o e] at h
    cases h
theorem _root_.L2.PE.con {X : Cx} {e : Expr} {t t' : TE} (h : PE X e t) (c : ∀ σ H Q, t' σ H Q → t σ H Q) : PE X e t' := ⟨fun pins s σ H Q I w => h.run pins s σ H Q I (c σ H Q w)⟩
theorem _root_.L2.PA.con {X : Cx} {es : List Expr} {t t' : TA} (h : PA X es t) (c : ∀ σ H Q, t' σ H Q → t σ H Q) : PA X es t' := ⟨fun pos pins s σ H Q I w => h.run pos pins s σ H Q I (c σ H Q w)⟩
section
variable {R : Type}
/-- facts that stay while the heap grows -/
def Mon (A : R → L2.St → Hp → Prop) : Prop := ∀ r σ H H', A r σ H → Kp H H' → A r σ H'
/-- where A holds, e makes the datum b r -/
def DE (X : Cx) (K : PySem.W.Frag) (A : R → L2.St → Hp → Prop) (e : Expr) (b : R → PyData) : Prop := ∀ r, PE X e (fun σ H Q => A r σ H ∧ ∀ v H', Kp H H' → Dp K H' v (b r) → Q v H')
def DA (X : Cx) (K : PySem.W.Frag) (A : R → L2.St → Hp → Prop) (es : List Expr) (bs : R → List PyData) : Prop := ∀ r, PA X es (fun σ H Q => A r σ H ∧ ∀ vs H', Kp H H' → DpAll K H' vs (bs r) → Q vs H')
/-- the reading as a whole -/
def tDat (K : PySem.W.Frag) (A : R → L2.St → Hp → Prop) (b : R → PyData) : TE := fun σ H Q => ∃ r, A r σ H ∧ ∀ v H', Kp H H' → Dp K H' v (b r) → Q v H'
variable {X : Cx} {K : PySem.W.Frag} {A : R → L2.St → Hp → Prop} {e e2 : Expr} {es : List Expr} {b b2 : R → PyData} {bs : R → List PyData} {pos : Pos}
theorem DE.pe (h : DE X K A e b) : PE X e (tDat K A b) := ⟨fun pins s σ H Q I w => by
  obtain ⟨r, a, q⟩ := w
  exact (h r).run pins s σ H Q I ⟨a, q⟩⟩
/-- out of any reading -/
theorem de_of {t : TE} (h : PE X e t) (c : ∀ r σ H Q, A r σ H → (∀ v H', Kp H H' → Dp K H' v (b r) → Q v H') → t σ H Q) : DE X K A e b := fun r => h.con fun σ H Q w => c r σ H Q w.1 w.2
theorem de_str {x : Str} {j} : DE X K A (.Constant (.str x) j pos) (fun _ => .str x) := de_of pe_str fun _ _ H _ _ q => q _ _ Kp.rfl' (.str x)
theorem de_int {i : Int} {j} : DE X K A (.Constant (.int i) j pos) (fun _ => .int i) := de_of pe_int fun _ _ H _ _ q => q _ _ Kp.rfl' (.int i)
theorem da_nil : DA X K A [] (fun _ => []) := fun r => pa_nil.con fun σ H Q w => w.2 _ _ Kp.rfl' .nil
theorem da_cons (m : Mon A) (h : DE X K A e b) (hr : DA X K A es bs) (hs : starEach (e :: es) X.env = (false, eval e X.env) :: starEach es X.env := by rfl) : DA X K A (e :: es) (fun r => b r :: bs r) := fun r =>
  (pa_cons (h r) (hr r) hs).con fun σ H Q w => ⟨w.1, fun v H1 k1 d1 => ⟨m r σ H H1 w.1 k1, fun vs H2 k2 d2 => w.2 _ _ (k1.trans k2) (.cons (Dp.sub k2.sub _ _ d1) d2)⟩⟩
theorem da_len {vs : List V} {ds : List PyData} {H : Hp} (h : DpAll K H vs ds) (l : ds.length ≤ 10000) : vs.length ≤ sizeLine := small_le (by rw [DpAll.len h]; exact l)
theorem de_tup {x1} (h : DA X K A es bs) (l : ∀ r, (bs r).length ≤ 10000) : DE X K A (.Tuple es x1 pos) (fun r => .tuple (bs r)) := fun r =>
  (pe_tup (h r)).con fun σ H Q w => ⟨w.1, fun vs H1 k1 d1 => ⟨da_len d1 (l r), fun p hp => w.2 _ _ (k1.trans (Kp.new hp)) (.tup (.inl (.inl upd_same)) (Dp.subs (Sub.new hp) _ _ d1))⟩⟩
theorem de_lst (h : DA X K A es bs) (l : ∀ r, (bs r).length ≤ 10000) : DE X K A (.List es pos) (fun r => .list (bs r)) := fun r =>
  (pe_lst (h r)).con fun σ H Q w => ⟨w.1, fun vs H1 k1 d1 => ⟨da_len d1 (l r), fun p hp => w.2 _ _ (k1.trans (Kp.new hp)) (.lst (.inl (.inl upd_same)) (Dp.subs (Sub.new hp) _ _ d1))⟩⟩
/-- list + list -/
theorem de_cat {bs2 : R → List PyData} (m : Mon A) (h : DE X K A e (fun r => .list (bs r))) (h2 : DE X K A e2 (fun r => .list (bs2 r))) (l : ∀ r, (bs r).length + (bs2 r).length ≤ 10000) (hK : X.K = K := by rfl) : DE X K A (.BinOp e .Add e2 pos) (fun r => .list (bs r ++ bs2 r)) := fun r => by
  subst hK
  refine (pe_op op_catS (h r) (h2 r)).con fun σ H Q w => ⟨w.1, fun v H1 k1 d1 => ⟨m r σ H H1 w.1 k1, fun v2 H2 k2 d2 => ?_⟩⟩
  obtain ⟨a, xs, rfl, S1, q1⟩ := Dp.lstI (Dp.sub k2.sub _ _ d1)
  obtain ⟨a2, ys, rfl, S2, q2⟩ := Dp.lstI d2
  refine ⟨a, a2, xs, ys, rfl, rfl, S1, S2, small_le (by rw [DpAll.len q1, DpAll.len q2]; exact l r), fun p hp => w.2 _ _ ((k1.trans k2).trans (Kp.new hp)) (.lst (.inl (.inl upd_same)) (Dp.subs (Sub.new hp) _ _ (q1.app q2)))⟩
end
end K1
set_option Elab.async false
set_option linter.all false
set_option maxRecDepth 100000
set_option maxHeartbeats 400000
/-! More expressions that make data: names, sums, repetitions. -/
namespace K1
open PySem PySem.Spec PyProof.Rows L2
def strRep (z : Str) (k : Int) : Str := ⟨(List.replicate k.toNat z.cps).foldl (· ++ ·) #[]⟩
def rStrRep : R2 := fun x y H Q => ∃ z k, x = .str z ∧ y = .int k ∧ 1 ≤ z.length ∧ 2 ≤ k ∧ k ≤ 1000 ∧ z.length * k.toNat ≤ 10000 ∧ (strRep z k).length ≤ sizeLine ∧ Q (.str (strRep z k)) H
section
variable {X : Cx}
theorem op_strRep : OpR X (binaryOp .Mult) rStrRep := by
  intro pins s σ H x y v u Q I rx ry h
  obtain ⟨z, k, rfl, rfl, z1, k2, k1, zl, hl, q⟩ := h
  obtain ⟨t, rfl⟩ := rx
  obtain ⟨t2, rfl⟩ := ry
  have two : ((k == 1) || (z.length == 0)) = false := by
    have h1 : (k == 1) = false := by simp; omega
    have h2 : (z.length == 0) = false := by simp; omega
    rw [h1, h2]
    rfl
  refine P.mul_str ?_ (fun _ _ => ?_) (fun _ _ => ?_) ?_
  · have a1 : ¬ k < -(2 ^ 63 : Int) := by omega
    have a2 : ¬ k ≥ 2 ^ 63 := by omega
    rw [decide_eq_false a1, decide_eq_false a2]
    rfl
  · have e2 : (10000 : Int) ≤ (2 ^ 63 - 1 : Int) / k := Int.le_ediv_of_mul_le (by omega) (by omega)
    have : z.length ≤ 10000 := Nat.le_trans (Nat.le_mul_of_pos_right _ (by omega)) zl
    omega
  · exact decide_eq_false (Nat.not_lt.mpr (small_le zl))
  · rw [if_neg (by omega), two]
    exact ⟨hl, ⟨V.str (strRep z k), H, I.tok _, ⟨_, rfl⟩, q⟩⟩
end
section
variable {R : Type} {X : Cx} {K : PySem.W.Frag} {A : R → L2.St → Hp → Prop} {e e2 : Expr} {es : List Expr} {b b2 : R → PyData} {pos : Pos}
/-- the slots' data -/
def EnvA (K : PySem.W.Frag) (vars : List (Nat × (R → PyData))) : R → L2.St → Hp → Prop := fun r σ H => ∀ p ∈ vars, ∃ v, σ[p.1]? = some (some v) ∧ Dp K H v (p.2 r)
theorem env_nil {r : R} {σ : L2.St} {H : Hp} : EnvA K [] r σ H := fun _ z => nomatch z
theorem env_cons {r : R} {σ : L2.St} {H : Hp} {i : Nat} {vs : List (Nat × (R → PyData))} (h : ∃ v, σ[i]? = some (some v) ∧ Dp K H v (b r)) (t : EnvA K vs r σ H) : EnvA K ((i, b) :: vs) r σ H := fun p hp => by
  rcases List.mem_cons.mp hp with rfl | hp
  · exact h
  · exact t p hp
theorem mon_env {vars : List (Nat × (R → PyData))} : Mon (EnvA K vars) := fun r σ H H' a k p hp => by
  obtain ⟨v, e, d⟩ := a p hp
  exact ⟨v, e, Dp.sub k.sub _ _ d⟩
theorem de_var (i : Nat) {x : Str} (h : ∀ r σ H, A r σ H → ∃ v, σ[i]? = some (some v) ∧ Dp K H v (b r)) (hN : X.N[i]? = some x := by rfl) (hv : Vis X.env.scope x := by first | exact Or.inl rfl | exact Or.inr (Or.inl rfl) | exact Or.inr (Or.inr rfl)) (hd : (x == ("__debug__" : Str)) = false := by decide)
    (hcd : (x == ("__classdict__" : Str)) = false := by decide) : DE X K A (.Name x pos) b := de_of (pv i hN hv hd hcd) fun r σ H Q a q => by
  obtain ⟨v, e, d⟩ := h r σ H a
  exact ⟨v, e, q v H Kp.rfl' d⟩
theorem de_env {vars : List (Nat × (R → PyData))} {i : Nat} {x : Str} (h : (i, b) ∈ vars) (hN : X.N[i]? = some x := by rfl) (hv : Vis X.env.scope x := by first | exact Or.inl rfl | exact Or.inr (Or.inl rfl) | exact Or.inr (Or.inr rfl)) (hd : (x == ("__debug__" : Str)) = false := by decide)
    (hcd : (x == ("__classdict__" : Str)) = false := by decide) : DE X K (EnvA K vars) (.Name x pos) b := de_var i (fun r σ H a => a _ h) hN hv hd hcd
/-- tuple + a tuple that isn't empty -/
theorem de_catT {bs bs2 : R → List PyData} (m : Mon A) (h : DE X K A e (fun r => .tuple (bs r))) (h2 : DE X K A e2 (fun r => .tuple (bs2 r))) (l : ∀ r, (bs r).length + (bs2 r).length ≤ 10000) (n1 : ∀ r, bs r ≠ []) (n2 : ∀ r, bs2 r ≠ []) (hK : X.K = K := by rfl) : DE X K A (.BinOp e .Add e2 pos) (fun r => .tuple (bs r ++ bs2 r)) := fun r => by
  subst hK
  refine (pe_op op_catA (h r) (h2 r)).con fun σ H Q w => ⟨w.1, fun v H1 k1 d1 => ⟨m r σ H H1 w.1 k1, fun v2 H2 k2 d2 => ?_⟩⟩
  obtain ⟨a, xs, rfl, S1, q1⟩ := Dp.tupI (Dp.sub k2.sub _ _ d1)
  obtain ⟨a2, ys, rfl, S2, q2⟩ := Dp.tupI d2
  have x1 : xs ≠ [] := fun z => n1 r (List.eq_nil_of_length_eq_zero (by rw [← DpAll.len q1, z]; rfl))
  have y1 : ys ≠ [] := fun z => n2 r (List.eq_nil_of_length_eq_zero (by rw [← DpAll.len q2, z]; rfl))
  exact ⟨a, a2, xs, ys, rfl, rfl, S1, S2, small_le (by rw [DpAll.len q1, DpAll.len q2]; exact l r), fun z => absurd z x1, fun _ z => absurd z y1, fun _ _ p hp => w.2 _ _ ((k1.trans k2).trans (Kp.new hp)) (.tup (.inl (.inl upd_same)) (Dp.subs (Sub.new hp) _ _ (q1.app q2)))⟩
theorem de_add {i j : R → Int} (m : Mon A) (h : DE X K A e (fun r => .int (i r))) (h2 : DE X K A e2 (fun r => .int (j r))) : DE X K A (.BinOp e .Add e2 pos) (fun r => .int (i r + j r)) := fun r =>
  (pe_op op_add (h r) (h2 r)).con fun σ H Q w => ⟨w.1, fun v H1 k1 d1 => ⟨m r σ H H1 w.1 k1, fun v2 H2 k2 d2 => by
    cases Dp.intI d1
    cases Dp.intI d2
    exact ⟨_, _, rfl, rfl, w.2 _ _ (k1.trans k2) (.int _)⟩⟩⟩
theorem de_strRep {z : Str} {k : Int} (m : Mon A) (h : DE X K A e (fun _ => .str z)) (h2 : DE X K A e2 (fun _ => .int k)) (z1 : 1 ≤ z.length := by decide +kernel) (k2 : 2 ≤ k := by decide) (k1 : k ≤ 1000 := by decide) (zl : z.length * k.toNat ≤ 10000 := by decide +kernel) (hl : (strRep z k).length ≤ 10000 := by decide +kernel) :
    DE X K A (.BinOp e .Mult e2 pos) (fun _ => .str (strRep z k)) := fun r =>
  (pe_op op_strRep (h r) (h2 r)).con fun σ H Q w => ⟨w.1, fun v H1 k1' d1 => ⟨m r σ H H1 w.1 k1', fun v2 H2 k2' d2 => by
    cases Dp.strI d1
    cases Dp.intI d2
    exact ⟨z, k, rfl, rfl, z1, k2, k1, zl, small_le hl, w.2 _ _ (k1'.trans k2') (.str _)⟩⟩⟩
theorem rep_all {H : Hp} {xs : List V} {ds : List PyData} (h : DpAll K H xs ds) : ∀ n, DpAll K H (List.replicate n xs).flatten (List.replicate n ds).flatten
  | 0 => .nil
  | n + 1 => by
    rw [List.replicate_succ, List.replicate_succ, List.flatten_cons, List.flatten_cons]
    exact h.app (rep_all h n)
theorem de_tupRep {bs : R → List PyData} {k : Int} (m : Mon A) (h : DE X K A e (fun r => .tuple (bs r))) (h2 : DE X K A e2 (fun _ => .int k)) (n1 : ∀ r, bs r ≠ []) (l : ∀ r, (bs r).length ≤ 1000) (k2 : 2 ≤ k := by decide) (k1 : k ≤ 1000 := by decide) (hK : X.K = K := by rfl) :
    DE X K A (.BinOp e .Mult e2 pos) (fun r => .tuple (List.replicate k.toNat (bs r)).flatten) := fun r => by
  subst hK
  refine (pe_op op_repT (h r) (h2 r)).con fun σ H Q w => ⟨w.1, fun v H1 k1' d1 => ⟨m r σ H H1 w.1 k1', fun v2 H2 k2' d2 => ?_⟩⟩
  obtain ⟨a, xs, rfl, S1, q1⟩ := Dp.tupI (Dp.sub k2'.sub _ _ d1)
  cases Dp.intI d2
  have x1 : xs ≠ [] := fun z => n1 r (List.eq_nil_of_length_eq_zero (by rw [← DpAll.len q1, z]; rfl))
  exact ⟨a, k, xs, rfl, rfl, S1, x1, k2, k1, by rw [DpAll.len q1]; exact l r, fun p hp => w.2 _ _ ((k1'.trans k2').trans (Kp.new hp)) (.tup (.inl (.inl upd_same)) (Dp.subs (Sub.new hp) _ _ (rep_all q1 _)))⟩
theorem de_non {j} : DE X K A (.Constant .none j pos) (fun _ => .none) := de_of pe_non fun _ _ H _ _ q => q _ _ Kp.rfl' .non
theorem de_bl {c : Bool} {j} : DE X K A (.Constant (.bool c) j pos) (fun _ => .bool c) := de_of pe_bl fun _ _ H _ _ q => q _ _ Kp.rfl' (.bl c)
/-- a new list of data, that may be changed later -/
def tLstD (K : PySem.W.Frag) (A : R → L2.St → Hp → Prop) (bs : R → List PyData) : TE := fun σ H Q => ∃ r, A r σ H ∧ ∀ l xs H', Kp H H' → H l = none → H' l = some (.lst xs) → DpAll K (cut (plus C0 l) H') xs (bs r) → Q (.ref l) H'
theorem cut_new {H : Hp} {l : Addr} {o : HO} (h : H l = none) : cut (plus C0 l) (upd H l o) = H := by
  rw [cut_out plus_D]
  funext a
  unfold cut
  by_cases e : a = l
  · rw [e, if_pos plus_D, h]
  · rw [if_neg (by simp [plus, e])]
theorem pe_lstD {bs : R → List PyData} (h : DA X K A es bs) (l : ∀ r, (bs r).length ≤ 10000) : PE X (.List es pos) (tLstD K A bs) := ⟨fun pins s σ H Q I w => by
  obtain ⟨r, a, q⟩ := w
  exact (pe_lst (h r)).run pins s σ H Q I ⟨a, fun vs H1 k1 d1 => ⟨da_len d1 (l r), fun p hp => q p vs _ (k1.trans (Kp.new hp)) (k1.free hp) upd_same (by rw [cut_new hp]; exact d1)⟩⟩⟩
theorem pe_catD {bs bs2 : R → List PyData} (m : Mon A) (h : DE X K A e (fun r => .list (bs r))) (h2 : DE X K A e2 (fun r => .list (bs2 r))) (l : ∀ r, (bs r).length + (bs2 r).length ≤ 10000) (hK : X.K = K := by rfl) : PE X (.BinOp e .Add e2 pos) (tLstD K A (fun r => bs r ++ bs2 r)) := ⟨fun pins s σ H Q I w => by
  subst hK
  obtain ⟨r, a, q⟩ := w
  refine (pe_op op_catS (h r) (h2 r)).run pins s σ H Q I ⟨a, fun v H1 k1 d1 => ⟨m r σ H H1 a k1, fun v2 H2 k2 d2 => ?_⟩⟩
  obtain ⟨a, xs, rfl, S1, q1⟩ := Dp.lstI (Dp.sub k2.sub _ _ d1)
  obtain ⟨a2, ys, rfl, S2, q2⟩ := Dp.lstI d2
  refine ⟨a, a2, xs, ys, rfl, rfl, S1, S2, small_le (by rw [DpAll.len q1, DpAll.len q2]; exact l r), fun p hp => q p (xs ++ ys) _ ((k1.trans k2).trans (Kp.new hp)) ((k1.trans k2).free hp) upd_same ?_⟩
  rw [cut_new hp]
  exact q1.app q2⟩
end
end K1
set_option Elab.async false
set_option linter.all false
set_option maxRecDepth 100000
set_option maxHeartbeats 8000000
/-! The law's def _law_kinds. -/
namespace K1
open PySem PySem.Spec PyProof.Rows L2
theorem op_eqDK {X : Cx} {K0 : PySem.W.Frag} (hu : X.A.units + 64 < cLine) (hK : X.K = K0 := by rfl) : OpR X (compareOp .Eq) (rEqD K0) := hK ▸ op_eqD hu
theorem op_neDK {X : Cx} {K0 : PySem.W.Frag} (hu : X.A.units + 64 < cLine) (hK : X.K = K0 := by rfl) : OpR X (compareOp .NotEq) (rNeD K0) := hK ▸ op_neD hu
theorem ix_listK {X : Cx} {K0 : PySem.W.Frag} (hK : X.K = K0 := by rfl) : IxR X (rIxL K0) := hK ▸ ix_list
theorem ix_tupK {X : Cx} {K0 : PySem.W.Frag} (hK : X.K = K0 := by rfl) : IxR X (rIxT K0) := hK ▸ ix_tup
theorem op_inK {X : Cx} {K0 : PySem.W.Frag} (hK : X.K = K0 := by rfl) : OpR X (compareOp .In) (rIn K0 false) := hK ▸ op_in_seq
theorem pi_listK {X : Cx} {K0 : PySem.W.Frag} {l tg : Expr} {tl : TE} (hl : PE X l tl) (hK : X.K = K0 := by rfl) : PI X tg l (iList K0 tl) := hK ▸ pi_list hl
theorem call_isiEK {X : Cx} {K0 : PySem.W.Frag} (hK : X.K = K0 := by rfl) : CallR X (.builtin "isinstance") (rIsiE K0) := hK ▸ call_isiE
/-- what is changed was free before: nothing that stood is otherwise -/
theorem Go.past {T : Tp} {D : Addr → Prop} {H0 H H' : Hp} (g : Go T D0 H0 H) (g' : Go T D H H') (fr : ∀ b, D b → H0 b = none) : Go T D0 H0 H' :=
  ⟨g'.1, fun b o h1 _ e => g'.2 b o h1 (fun z => by rw [fr b z] at e; cases e) (g.2 b o h1 (fun z => z) e)⟩
theorem exh_tbl {cls : Value} {d : Option Addr} {a : Addr} {ps : Array Value} : Exh cls d a ≠ .tbl ps := fun z => by
  have z' : HO.ext _ = HO.tbl ps := z
  cases z'
theorem exO_tbl {cls : Value} {a : Addr} {ps : Array Value} : ExO cls a ≠ .tbl ps := fun z => by
  have z' : HO.ext _ = HO.tbl ps := z
  cases z'
theorem exd_tbl {e : Addr} {fs : List (Str × V)} {ps : Array Value} : exd e fs ≠ .tbl ps := fun z => by
  have z' : HO.ext _ = HO.tbl ps := z
  cases z'
theorem ExF.go {T : Tp} {H H' : Hp} {d : Addr} {fs : List (Str × V)} (h : ExF H d fs) (g : Go T D0 H H') (t : TG T H) : ExF H' d fs := by
  rcases h with h | h
  · exact .inl (g.at t (fun z => z) h (fun ps => exd_tbl))
  · exact .inr (g.at t (fun z => z) h)
theorem ExA.go {T : Tp} {H H' : Hp} {a C : Addr} {d : Option Addr} (h : ExA H a C d) (g : Go T D0 H H') (t : TG T H) : ExA H' a C d := by
  refine ⟨?_, fun dd e => (h.2 dd e).elim fun fs q => ⟨fs, q.go g t⟩⟩
  rcases h.1 with h | h | ⟨e, h⟩
  · exact .inl (g.at t (fun z => z) h (fun ps => exo_tbl))
  · exact .inr (.inl (g.at t (fun z => z) h (fun ps => exh_tbl)))
  · exact .inr (.inr ⟨e, g.at t (fun z => z) h (fun ps => exO_tbl)⟩)
/-- the classes of refusals -/
structure Kinds (K : PySem.W.Frag) (mg : Str → Option Value) (cl : Nat → Addr) (he : Addr) : Prop where
  at0 : mg "BadRow" = some (.ref (cl 0))
  at1 : mg "BadPatch" = some (.ref (cl 1))
  at2 : mg "NotClosed" = some (.ref (cl 2))
  at3 : mg "Unlike" = some (.ref (cl 3))
  at4 : mg "Hindered" = some (.ref (cl 4))
  at5 : mg "BadPaper" = some (.ref (cl 5))
  at6 : mg "BadPack" = some (.ref (cl 6))
  at7 : mg "BadHunt" = some (.ref (cl 7))
  at8 : mg "BadMessage" = some (.ref (cl 8))
  at9 : mg "OutOfPlace" = some (.ref (cl 9))
  atH : mg "HeadsError" = some (.ref he)
  atV : mg "ValueError" = none
  one : ∀ i j, i < 10 → j < 10 → PySem.W.kitOne K (.ref (cl i)) (.ref (cl j)) = some (decide (i = j))
  heads : ∀ i, i < 10 → PySem.W.kitOne K (.ref (cl i)) (.ref he) = some true
  value : ∀ i, i < 10 → PySem.W.kitOne K (.ref (cl i)) (.type "ValueError") = some true
  exc : ∀ i, i < 10 → ExC K (cl i)
def kname (i : Nat) : Str := [("row" : Str), ("patch" : Str), ("closed" : Str), ("unlike" : Str), ("hindered" : Str), ("paper" : Str), ("pack" : Str), ("hunt" : Str), ("message" : Str), ("place" : Str)].getD i ""
def kinds (i : Nat) : List (Str × Bool) := [("row", decide (i = 0)), ("patch", decide (i = 1)), ("closed", decide (i = 2)), ("unlike", decide (i = 3)), ("hindered", decide (i = 4)), ("paper", decide (i = 5)), ("pack", decide (i = 6)), ("hunt", decide (i = 7)), ("message", decide (i = 8)), ("place", decide (i = 9)), ("other", false)]
theorem kinds_one : ∀ i, i < 10 → ((kinds i).filter (·.2)).map (·.1) = [kname i] := by
  intro i h
  match i, h with
  | 0, _ => rfl
  | 1, _ => rfl
  | 2, _ => rfl
  | 3, _ => rfl
  | 4, _ => rfl
  | 5, _ => rfl
  | 6, _ => rfl
  | 7, _ => rfl
  | 8, _ => rfl
  | 9, _ => rfl
  | n + 10, h => omega
def ePB (p : Str × Bool) : PyData := .tuple [.str p.1, .bool p.2]
theorem ePB_nol (p : Str × Bool) : noLst (ePB p) = true := rfl
theorem nols_mapB : ∀ l : List (Str × Bool), noLst.noLsts (l.map ePB) = true
  | [] => by simp [noLst.noLsts]
  | x :: r => by
    rw [List.map_cons]
    unfold noLst.noLsts
    rw [ePB_nol, nols_mapB r]
    rfl
theorem cut_updD {C : Addr → Bool} {D : Addr} {H : Hp} {o : HO} : cut (plus C D) (upd H D o) = cut (plus C D) H := cut_out plus_D
/-- what stands while the kinds are asked -/
structure KindR where
  a : Addr
  i : Nat
  d : Option Addr
  L : List PyData
  few : L.length ≤ 100
def KindA (K : PySem.W.Frag) (cl : Nat → Addr) (r : KindR) (σ : L2.St) (H : Hp) : Prop := σ[0]? = some (some (.ref r.a)) ∧ r.i < 10 ∧ ExA H r.a (cl r.i) r.d ∧ ∃ v, σ[1]? = some (some v) ∧ Dp K H v (.list r.L)
def KindB (K : PySem.W.Frag) (cl : Nat → Addr) (r : KindR) (σ : L2.St) (H : Hp) : Prop := σ[0]? = some (some (.ref r.a)) ∧ r.i < 10 ∧ ExA H r.a (cl r.i) r.d
theorem ExF.kp {H H' : Hp} {d : Addr} {fs : List (Str × V)} (h : ExF H d fs) (k : Kp H H') : ExF H' d fs := h.imp (k _ _) (k _ _)
theorem ExA.kp {H H' : Hp} {a C : Addr} {d : Option Addr} (h : ExA H a C d) (k : Kp H H') : ExA H' a C d :=
  ⟨h.1.imp (k _ _) (Or.imp (k _ _) fun ⟨e, q⟩ => ⟨e, k _ _ q⟩), fun dd e => (h.2 dd e).elim fun fs q => ⟨fs, q.kp k⟩⟩
theorem mon_kind {K : PySem.W.Frag} {cl : Nat → Addr} : Mon (KindA K cl) := fun r σ H H' h k => ⟨h.1, h.2.1, h.2.2.1.kp k, h.2.2.2.elim fun v q => ⟨v, q.1, Dp.sub k.sub _ _ q.2⟩⟩
theorem mon_kindB {K : PySem.W.Frag} {cl : Nat → Addr} : Mon (KindB K cl) := fun r σ H H' h k => ⟨h.1, h.2.1, h.2.2.kp k⟩
section
variable {P : Program} {w : World} {K : PySem.W.Frag} {mg : Str → Option Value} {base : Heap} {T : Tp}
def spKinds (K : PySem.W.Frag) (T : Tp) (cl : Nat → Addr) : Sp := fun vs H Q _ => ∃ (a : Addr) (i : Nat) (d : Option Addr), vs = [.ref a] ∧ i < 10 ∧ ExA H a (cl i) d ∧ TG T H ∧ ∀ H' l, Go T D0 H H' → H l = none → H' l = some (.lst [.str (kname i)]) → Q (.ref l) H'
theorem ok_lkinds {f : Addr} {fd : FuncData} {k : Nat} {cl : Nat → Addr} {he : Addr} (Fn : Fun K "_law_kinds" "_law_kinds" sLKinds f fd) (M : Mg K mg) (KD : Kinds K mg cl he) : FnOk P w K mg base CX0 (k + 1) f fd ["_law_error"] (spKinds K T cl) := by
  refine Fn.ok scLKinds (fun vs H Q E h => ?_) (fun cdv A outer s H vs Q E hr h => ?_)
  · obtain ⟨a, i, d, rfl, _⟩ := h
    rfl
  · obtain ⟨a, i, d, rfl, hi, ex, tg, q⟩ := h
    refine ⟨_, (pss_cons (ps_set (i := 1) scLKinds.nd rfl (.inl rfl) (DE.pe (K := K) (A := KindB K cl) (de_lst (da_cons mon_kindB (de_tup (da_cons mon_kindB de_str (da_cons mon_kindB (de_of (A := KindB K cl) (b := fun r : KindR => .bool (decide (r.i = 0))) (pe_callB (show CallR _ (.builtin "isinstance") (rIsiE K) from call_isiE) (by rfl) M.ins boot_isinstance (pa_cons (pv 0) (pa_cons (pe_glob (v := .ref (cl 0)) (by rfl) KD.at0 rfl) pa_nil))) (fun r σ H Q h q => ⟨.ref r.a, h.1, r.a, cl r.i, r.d, .ref (cl 0), .ref (cl 0), decide (r.i = 0), rfl, .own _, h.2.2, KD.exc r.i h.2.1, KD.one r.i 0 h.2.1 (by decide), q _ _ Kp.rfl' (.bl _)⟩)) da_nil)) (fun _ => by show 2 ≤ 10000; decide)) (da_cons mon_kindB (de_tup (da_cons mon_kindB de_str (da_cons mon_kindB (de_of (A := KindB K cl) (b := fun r : KindR => .bool (decide (r.i = 1))) (pe_callB (show CallR _ (.builtin "isinstance") (rIsiE K) from call_isiE) (by rfl) M.ins boot_isinstance (pa_cons (pv 0) (pa_cons (pe_glob (v := .ref (cl 1)) (by rfl) KD.at1 rfl) pa_nil))) (fun r σ H Q h q => ⟨.ref r.a, h.1, r.a, cl r.i, r.d, .ref (cl 1), .ref (cl 1), decide (r.i = 1), rfl, .own _, h.2.2, KD.exc r.i h.2.1, KD.one r.i 1 h.2.1 (by decide), q _ _ Kp.rfl' (.bl _)⟩)) da_nil)) (fun _ => by show 2 ≤ 10000; decide)) da_nil)) (fun _ => by show 2 ≤ 10000; decide))))
      (pss_cons (ps_set (i := 1) scLKinds.nd rfl (.inl rfl) (DE.pe (K := K) (A := KindA K cl) (de_cat mon_kind (de_var (b := fun r : KindR => .list r.L) 1 (fun r σ H h => h.2.2.2)) (de_lst (da_cons mon_kind (de_tup (da_cons mon_kind de_str (da_cons mon_kind (de_of (A := KindA K cl) (b := fun r : KindR => .bool (decide (r.i = 2))) (pe_callB (show CallR _ (.builtin "isinstance") (rIsiE K) from call_isiE) (by rfl) M.ins boot_isinstance (pa_cons (pv 0) (pa_cons (pe_glob (v := .ref (cl 2)) (by rfl) KD.at2 rfl) pa_nil))) (fun r σ H Q h q => ⟨.ref r.a, h.1, r.a, cl r.i, r.d, .ref (cl 2), .ref (cl 2), decide (r.i = 2), rfl, .own _, h.2.2.1, KD.exc r.i h.2.1, KD.one r.i 2 h.2.1 (by decide), q _ _ Kp.rfl' (.bl _)⟩)) da_nil)) (fun _ => by show 2 ≤ 10000; decide)) (da_cons mon_kind (de_tup (da_cons mon_kind de_str (da_cons mon_kind (de_of (A := KindA K cl) (b := fun r : KindR => .bool (decide (r.i = 3))) (pe_callB (show CallR _ (.builtin "isinstance") (rIsiE K) from call_isiE) (by rfl) M.ins boot_isinstance (pa_cons (pv 0) (pa_cons (pe_glob (v := .ref (cl 3)) (by rfl) KD.at3 rfl) pa_nil))) (fun r σ H Q h q => ⟨.ref r.a, h.1, r.a, cl r.i, r.d, .ref (cl 3), .ref (cl 3), decide (r.i = 3), rfl, .own _, h.2.2.1, KD.exc r.i h.2.1, KD.one r.i 3 h.2.1 (by decide), q _ _ Kp.rfl' (.bl _)⟩)) da_nil)) (fun _ => by show 2 ≤ 10000; decide)) da_nil)) (fun _ => by show 2 ≤ 10000; decide)) (fun r => by have := r.few; show r.L.length + 2 ≤ 10000; omega))))
      (pss_cons (ps_set (i := 1) scLKinds.nd rfl (.inl rfl) (DE.pe (K := K) (A := KindA K cl) (de_cat mon_kind (de_var (b := fun r : KindR => .list r.L) 1 (fun r σ H h => h.2.2.2)) (de_lst (da_cons mon_kind (de_tup (da_cons mon_kind de_str (da_cons mon_kind (de_of (A := KindA K cl) (b := fun r : KindR => .bool (decide (r.i = 4))) (pe_callB (show CallR _ (.builtin "isinstance") (rIsiE K) from call_isiE) (by rfl) M.ins boot_isinstance (pa_cons (pv 0) (pa_cons (pe_glob (v := .ref (cl 4)) (by rfl) KD.at4 rfl) pa_nil))) (fun r σ H Q h q => ⟨.ref r.a, h.1, r.a, cl r.i, r.d, .ref (cl 4), .ref (cl 4), decide (r.i = 4), rfl, .own _, h.2.2.1, KD.exc r.i h.2.1, KD.one r.i 4 h.2.1 (by decide), q _ _ Kp.rfl' (.bl _)⟩)) da_nil)) (fun _ => by show 2 ≤ 10000; decide)) (da_cons mon_kind (de_tup (da_cons mon_kind de_str (da_cons mon_kind (de_of (A := KindA K cl) (b := fun r : KindR => .bool (decide (r.i = 5))) (pe_callB (show CallR _ (.builtin "isinstance") (rIsiE K) from call_isiE) (by rfl) M.ins boot_isinstance (pa_cons (pv 0) (pa_cons (pe_glob (v := .ref (cl 5)) (by rfl) KD.at5 rfl) pa_nil))) (fun r σ H Q h q => ⟨.ref r.a, h.1, r.a, cl r.i, r.d, .ref (cl 5), .ref (cl 5), decide (r.i = 5), rfl, .own _, h.2.2.1, KD.exc r.i h.2.1, KD.one r.i 5 h.2.1 (by decide), q _ _ Kp.rfl' (.bl _)⟩)) da_nil)) (fun _ => by show 2 ≤ 10000; decide)) da_nil)) (fun _ => by show 2 ≤ 10000; decide)) (fun r => by have := r.few; show r.L.length + 2 ≤ 10000; omega))))
      (pss_cons (ps_set (i := 1) scLKinds.nd rfl (.inl rfl) (DE.pe (K := K) (A := KindA K cl) (de_cat mon_kind (de_var (b := fun r : KindR => .list r.L) 1 (fun r σ H h => h.2.2.2)) (de_lst (da_cons mon_kind (de_tup (da_cons mon_kind de_str (da_cons mon_kind (de_of (A := KindA K cl) (b := fun r : KindR => .bool (decide (r.i = 6))) (pe_callB (show CallR _ (.builtin "isinstance") (rIsiE K) from call_isiE) (by rfl) M.ins boot_isinstance (pa_cons (pv 0) (pa_cons (pe_glob (v := .ref (cl 6)) (by rfl) KD.at6 rfl) pa_nil))) (fun r σ H Q h q => ⟨.ref r.a, h.1, r.a, cl r.i, r.d, .ref (cl 6), .ref (cl 6), decide (r.i = 6), rfl, .own _, h.2.2.1, KD.exc r.i h.2.1, KD.one r.i 6 h.2.1 (by decide), q _ _ Kp.rfl' (.bl _)⟩)) da_nil)) (fun _ => by show 2 ≤ 10000; decide)) (da_cons mon_kind (de_tup (da_cons mon_kind de_str (da_cons mon_kind (de_of (A := KindA K cl) (b := fun r : KindR => .bool (decide (r.i = 7))) (pe_callB (show CallR _ (.builtin "isinstance") (rIsiE K) from call_isiE) (by rfl) M.ins boot_isinstance (pa_cons (pv 0) (pa_cons (pe_glob (v := .ref (cl 7)) (by rfl) KD.at7 rfl) pa_nil))) (fun r σ H Q h q => ⟨.ref r.a, h.1, r.a, cl r.i, r.d, .ref (cl 7), .ref (cl 7), decide (r.i = 7), rfl, .own _, h.2.2.1, KD.exc r.i h.2.1, KD.one r.i 7 h.2.1 (by decide), q _ _ Kp.rfl' (.bl _)⟩)) da_nil)) (fun _ => by show 2 ≤ 10000; decide)) da_nil)) (fun _ => by show 2 ≤ 10000; decide)) (fun r => by have := r.few; show r.L.length + 2 ≤ 10000; omega))))
      (pss_cons (ps_set (i := 1) scLKinds.nd rfl (.inl rfl) (pe_catD (K := K) (A := KindA K cl) mon_kind (de_var (b := fun r : KindR => .list r.L) 1 (fun r σ H h => h.2.2.2)) (de_lst (da_cons mon_kind (de_tup (da_cons mon_kind de_str (da_cons mon_kind (de_of (A := KindA K cl) (b := fun r : KindR => .bool (decide (r.i = 8))) (pe_callB (show CallR _ (.builtin "isinstance") (rIsiE K) from call_isiE) (by rfl) M.ins boot_isinstance (pa_cons (pv 0) (pa_cons (pe_glob (v := .ref (cl 8)) (by rfl) KD.at8 rfl) pa_nil))) (fun r σ H Q h q => ⟨.ref r.a, h.1, r.a, cl r.i, r.d, .ref (cl 8), .ref (cl 8), decide (r.i = 8), rfl, .own _, h.2.2.1, KD.exc r.i h.2.1, KD.one r.i 8 h.2.1 (by decide), q _ _ Kp.rfl' (.bl _)⟩)) da_nil)) (fun _ => by show 2 ≤ 10000; decide)) (da_cons mon_kind (de_tup (da_cons mon_kind de_str (da_cons mon_kind (de_of (A := KindA K cl) (b := fun r : KindR => .bool (decide (r.i = 9))) (pe_callB (show CallR _ (.builtin "isinstance") (rIsiE K) from call_isiE) (by rfl) M.ins boot_isinstance (pa_cons (pv 0) (pa_cons (pe_glob (v := .ref (cl 9)) (by rfl) KD.at9 rfl) pa_nil))) (fun r σ H Q h q => ⟨.ref r.a, h.1, r.a, cl r.i, r.d, .ref (cl 9), .ref (cl 9), decide (r.i = 9), rfl, .own _, h.2.2.1, KD.exc r.i h.2.1, KD.one r.i 9 h.2.1 (by decide), q _ _ Kp.rfl' (.bl _)⟩)) da_nil)) (fun _ => by show 2 ≤ 10000; decide)) da_nil)) (fun _ => by show 2 ≤ 10000; decide)) (fun r => by have := r.few; show r.L.length + 2 ≤ 10000; omega)))
      (pss_cons (ps_expr (pe_bm PySem.F.plainAttrs_list PySem.F.slot_list_append PySem.F.type_list_append mt_append (pv 1) (pa_cons (pe_tup (pa_cons pe_str (pa_cons (pe_or (pe_not (pe_callB (show CallR _ (.builtin "isinstance") (rIsiE K) from call_isiE) (by rfl) M.ins boot_isinstance (pa_cons (pv 0) (pa_cons (pe_bltn (v := .ty "ValueError") (by rfl) KD.atV (by decide +kernel) rfl) pa_nil)))) (pe_one (pe_not (pe_callB (show CallR _ (.builtin "isinstance") (rIsiE K) from call_isiE) (by rfl) M.ins boot_isinstance (pa_cons (pv 0) (pa_cons (pe_glob (v := .ref (he)) (by rfl) KD.atH rfl) pa_nil)))))) pa_nil))) pa_nil)))
      (pss_one (ps_ret (pe_lc (own := [("_law_name", 2), ("_law_fits", 3)]) (g := (gTup K 2 (gCons (gName 2) (gCons (gName 3) gNil)))) rfl scLKinds.nd (pi_list (pv 1)) (blkOk_by (N := ["_law_error", "_law_kinds_here", "_law_name", "_law_fits"]) (sc := defScope sLKinds) (by decide +kernel)) (fun _ _ _ _ _ => (pg_tup rfl (pgs_cons (pg_name (i := 2) scLKinds.nd rfl (Or.inl rfl)) (pgs_cons (pg_name (i := 3) scLKinds.nd rfl (Or.inl rfl)) pgs_nil)))) (fun _ _ _ _ _ => (pts_one (pt_val (pv 3)))) (fun _ _ _ _ _ => (pv 2))))))))))), ?_⟩
    refine ⟨⟨a, i, d, [], Nat.zero_le _⟩, ⟨rfl, hi, ex⟩, fun v0 H0 k0 d0 => ?_⟩
    have d0' : Dp K H0 v0 (.list [.tuple [.str "row", .bool (decide (i = 0))], .tuple [.str "patch", .bool (decide (i = 1))]]) := d0
    refine ⟨⟨a, i, d, [.tuple [.str "row", .bool (decide (i = 0))], .tuple [.str "patch", .bool (decide (i = 1))]], by show 2 ≤ 100; decide⟩, ⟨rfl, hi, ex.kp k0, v0, rfl, d0'⟩, fun v1 H1 j1 d1 => ?_⟩
    have k1 := k0.trans j1
    clear d0 d0'
    have d1' : Dp K H1 v1 (.list [.tuple [.str "row", .bool (decide (i = 0))], .tuple [.str "patch", .bool (decide (i = 1))], .tuple [.str "closed", .bool (decide (i = 2))], .tuple [.str "unlike", .bool (decide (i = 3))]]) := d1
    refine ⟨⟨a, i, d, [.tuple [.str "row", .bool (decide (i = 0))], .tuple [.str "patch", .bool (decide (i = 1))], .tuple [.str "closed", .bool (decide (i = 2))], .tuple [.str "unlike", .bool (decide (i = 3))]], by show 4 ≤ 100; decide⟩, ⟨rfl, hi, ex.kp k1, v1, rfl, d1'⟩, fun v2 H2 j2 d2 => ?_⟩
    have k2 := k1.trans j2
    clear d1 d1'
    have d2' : Dp K H2 v2 (.list [.tuple [.str "row", .bool (decide (i = 0))], .tuple [.str "patch", .bool (decide (i = 1))], .tuple [.str "closed", .bool (decide (i = 2))], .tuple [.str "unlike", .bool (decide (i = 3))], .tuple [.str "hindered", .bool (decide (i = 4))], .tuple [.str "paper", .bool (decide (i = 5))]]) := d2
    refine ⟨⟨a, i, d, [.tuple [.str "row", .bool (decide (i = 0))], .tuple [.str "patch", .bool (decide (i = 1))], .tuple [.str "closed", .bool (decide (i = 2))], .tuple [.str "unlike", .bool (decide (i = 3))], .tuple [.str "hindered", .bool (decide (i = 4))], .tuple [.str "paper", .bool (decide (i = 5))]], by show 6 ≤ 100; decide⟩, ⟨rfl, hi, ex.kp k2, v2, rfl, d2'⟩, fun v3 H3 j3 d3 => ?_⟩
    have k3 := k2.trans j3
    clear d2 d2'
    have d3' : Dp K H3 v3 (.list [.tuple [.str "row", .bool (decide (i = 0))], .tuple [.str "patch", .bool (decide (i = 1))], .tuple [.str "closed", .bool (decide (i = 2))], .tuple [.str "unlike", .bool (decide (i = 3))], .tuple [.str "hindered", .bool (decide (i = 4))], .tuple [.str "paper", .bool (decide (i = 5))], .tuple [.str "pack", .bool (decide (i = 6))], .tuple [.str "hunt", .bool (decide (i = 7))]]) := d3
    refine ⟨⟨a, i, d, [.tuple [.str "row", .bool (decide (i = 0))], .tuple [.str "patch", .bool (decide (i = 1))], .tuple [.str "closed", .bool (decide (i = 2))], .tuple [.str "unlike", .bool (decide (i = 3))], .tuple [.str "hindered", .bool (decide (i = 4))], .tuple [.str "paper", .bool (decide (i = 5))], .tuple [.str "pack", .bool (decide (i = 6))], .tuple [.str "hunt", .bool (decide (i = 7))]], by show 8 ≤ 100; decide⟩, ⟨rfl, hi, ex.kp k3, v3, rfl, d3'⟩, fun l xs H4 j4 hl el dl => ?_⟩
    have k4 := k3.trans j4
    have dl' : DpAll K (cut (plus C0 l) H4) xs (((kinds i).take 10).map ePB) := dl
    have xl : xs.length = 10 := by rw [DpAll.len dl']; rfl
    have ex4 := ex.kp k4
    have g4 : Go T D0 H H4 := k4.go tg
    refine ⟨.ref l, rfl, .inl ⟨rfl, _, .inl (.inl el)⟩, .ref a, rfl, a, cl i, d, .ty "ValueError", .type "ValueError", true, rfl, .ty _, ex4, KD.exc i hi, KD.value i hi, true, rfl, false, rfl, ?_⟩
    refine iteF ⟨.ref a, rfl, a, cl i, d, .ref he, .ref he, true, rfl, .own _, ex4, KD.exc i hi, KD.heads i hi, true, rfl, small_le (by show 2 ≤ 10000; decide), fun t ht => ?_⟩
    have nl := ne_of_none el ht
    have g5 := g4.new (o := .tup [V.str "other", .bl (!true)]) ht
    have e5 := (upd_ne (o := .tup [V.str "other", .bl (!true)]) nl).trans el
    have t5 : (upd H4 t (.tup [V.str "other", .bl (!true)])) t = some (.tup [V.str "other", .bl (!true)]) := upd_same
    have d5 := Dp.subs (Sub.new (o := .tup [V.str "other", .bl (!true)]) ht).cuts _ _ dl'
    generalize upd H4 t (.tup [V.str "other", .bl (!true)]) = H5 at g5 e5 t5 d5 ⊢
    refine ⟨l, xs, _, rfl, rfl, e5, small_line (by omega), ?_⟩
    have hl0 : H l = none := k3.free hl
    have g6 := g5.put (o := .lst (xs ++ [.ref t])) hl0 e5
    have e6 : (upd H5 l (.lst (xs ++ [.ref t]))) l = some (.lst (xs ++ [.ref t])) := upd_same
    have d6 : DpAll K (cut (plus C0 l) (upd H5 l (.lst (xs ++ [.ref t])))) (xs ++ [.ref t]) ((kinds i).map ePB) := by
      rw [cut_out plus_D]
      exact DpAll.app d5 (.one (.tup (.inl (.inl ((cut_at (plus_no rfl nl.symm)).trans t5))) (.cons (.str _) (.one (.bl _)))))
    generalize upd H5 l (.lst (xs ++ [.ref t])) = H6 at g6 e6 d6 ⊢
    have yl : (xs ++ [V.ref t]).length = 11 := by rw [List.length_append, xl]; rfl
    generalize xs ++ [V.ref t] = ys at e6 d6 yl
    have d6' := Dp.subs Sub.cut _ _ d6
    refine ⟨.ref l, rfl, l, rfl, ⟨ys, .inl (.inl e6)⟩, fun D hD => ?_⟩
    refine lc_list (K := K) (a := l) (xs := ys) (fun j H7 => Go T D0 H6 H7 ∧ H7 D = some (.lst (((((kinds i).take j).filter (·.2)).map (·.1)).map V.str))) ?_ ?_ ?_ ?_
    · exact ⟨(Go.rfl' g6.1).new hD, upd_same⟩
    · rintro j H7 hj ⟨g7, _⟩
      exact .inl (.inl (g7.at g6.1 (fun z => z) e6))
    · rintro j x H7 hx ⟨g7, eD⟩
      obtain ⟨d7, hd7, hv7⟩ := DpAll.at' d6' hx
      obtain ⟨r, hr, rfl⟩ := at_map hd7
      obtain ⟨t7, us, rfl, S7, du⟩ := Dp.tupI hv7
      obtain ⟨u, m, rfl, d8, d9⟩ := DpAll.i2 du
      cases Dp.strI d8
      have eb : m = .bl r.2 := by
        cases d9
        rfl
      subst eb
      have hj := (List.getElem?_eq_some_iff.mp hr).1
      have kl : (kinds i).length = 11 := rfl
      have step : ((kinds i).take (j + 1)).filter (·.2) = ((kinds i).take j).filter (·.2) ++ (if r.2 = true then [r] else []) := by
        rw [List.take_add_one, hr, Option.toList_some, List.filter_append]
        congr 1
        by_cases h : r.2 = true
        · rw [if_pos h]
          exact List.filter_cons_of_pos (p := fun r : Str × Bool => r.2) (l := []) h
        · rw [if_neg h]
          exact List.filter_cons_of_neg (p := fun r : Str × Bool => r.2) (l := []) h
      have fl : ((((kinds i).take j).filter (·.2)).map (·.1)).length ≤ 11 := by
        have h1 := List.length_filter_le (fun r : Str × Bool => r.2) ((kinds i).take j)
        rw [List.length_take] at h1
        rw [List.length_map]
        omega
      refine ⟨t7, _, rfl, (sub_go g7 g6.1).seqT S7, rfl, _, _, rfl, _, _, rfl, rfl, rfl, .bl r.2, rfl, r.2, rfl, ?_⟩
      rw [step]
      refine ite2 (fun e => ?_) (fun e => ?_)
      · rw [if_pos e]
        refine ⟨.str r.1, rfl, _, eD, small_line (by rw [List.length_map]; omega), g7.put hD eD, ?_⟩
        rw [upd_same, List.map_append, List.map_append]
        rfl
      · rw [if_neg e, List.append_nil]
        exact ⟨g7, eD⟩
    · rintro H7 ⟨g7, eD⟩
      rw [yl, List.take_of_length_le (show (kinds i).length ≤ 11 from Nat.le_refl _), kinds_one i hi] at eD
      exact q H7 D (g6.trans g7) (g6.free tg (fun z => z) hD) eD
end
end K1
set_option Elab.async false
set_option linter.all false
set_option maxRecDepth 100000
set_option maxHeartbeats 4000000
/-! The law's def _law_refused. -/
namespace K1
open PySem PySem.Spec PyProof.Rows L2
/-- what the making of anything comes to: the number refused, none if it is made -/
structure RefX (dn dk dd : PyData) (G : Option Nat → Prop) : Prop where
  name : nameD dn = false → G (some 0)
  know : ∀ n, dn = eN n → NmOk n → canKnowD n dk = false → G (some 0)
  list : ∀ n, dn = eN n → NmOk n → canKnowD n dk = true → (∀ ds, dd = .list ds → 400 < ds.length) → G (some 0)
  stop : ∀ n ds Ds i, dn = eN n → NmOk n → canKnowD n dk = true → dd = .list ds → ds.length ≤ 400 → ds.take (firstBad ds) = Ds.map eD → (∀ d ∈ Ds, d.lok) → putStop n 0 Ds = some i → G (some (1 + i))
  bad : ∀ n ds Ds, dn = eN n → NmOk n → canKnowD n dk = true → dd = .list ds → ds.length ≤ 400 → ds.take (firstBad ds) = Ds.map eD → (∀ d ∈ Ds, d.lok) → putStop n 0 Ds = none → firstBad ds < ds.length → G (some (firstBad ds + 1))
  good : ∀ n ks Ds, dn = eN n → NmOk n → canKnowD n dk = true → dk = .list ks → dd = .list (Ds.map eD) → (∀ e ∈ Ds.map eD, isDeedD e = true) → Ds.length ≤ 400 → (∀ d ∈ Ds, d.lok) → putStop n 0 Ds = none → G none
theorem RefX.init {K : PySem.W.Frag} {C B : Addr} {T : Tp} {x : Addr} {H : Hp} {dn dk dd : PyData} {G : Option Nat → Prop} {Q : VK} {E : Nat → Prop} (r : RefX dn dk dd G) (e : ∀ k, G (some k) → E k) (q : G none → ∀ H', Go T (· = x) H H' → Q .non H') : InitX K C B T x H dn dk dd Q E :=
  ⟨fun h => e _ (r.name h), fun n h1 h2 h3 => e _ (r.know n h1 h2 h3), fun n h1 h2 h3 h4 => e _ (r.list n h1 h2 h3 h4), fun n ds Ds i h1 h2 h3 h4 h5 h6 h7 h8 => e _ (r.stop n ds Ds i h1 h2 h3 h4 h5 h6 h7 h8),
    fun n ds Ds h1 h2 h3 h4 h5 h6 h7 h8 h9 => e _ (r.bad n ds Ds h1 h2 h3 h4 h5 h6 h7 h8 h9), fun n ks Ds h1 h2 h3 h4 h5 h6 h7 h8 h9 H' g _ => q (r.good n ks Ds h1 h2 h3 h4 h5 h6 h7 h8 h9) H' g⟩
def retN : Option Nat → V
  | none => .non
  | some k => .int (k : Nat)
section
variable {P : Program} {w : World} {K : PySem.W.Frag} {mg : Str → Option Value} {base : Heap} {T : Tp}
/-- the class Patch, its making of anything -/
structure MakX (P : Program) (w : World) (K : PySem.W.Frag) (mg : Str → Option Value) (base : Heap) (k : Nat) (C B : Addr) (T : Tp) : Prop where
  ex : ∃ (f : Addr) (fd : FuncData), Mk K C f ∧ FnOk P w K mg base (L2.CX P w) k f fd ["self", "name", "knows", "deeds"] (spInitX K C B T) ∧ mg "Patch" = some (.ref C) ∧ Binds K fd ["self", "name", "knows", "deeds"] []
theorem pe_mkX {X : Cx} {W : WX} {K0 : PySem.W.Frag} {k j : Nat} {C B : Addr} {T : Tp} {p pos : Pos} {e : Expr} {es : List Expr} {t : TA} (tk : Takes X W) (c : MakX X.prog X.w K0 X.mg X.base k C B T) (hr : Room j X.A) (hk : k + 1 ≤ j) (hg : Gl X "Patch") (ha : PA X (e :: es) t) (hK : X.K = K0 := by rfl)
    (hdb : (("Patch" : Str) == ("__debug__" : Str)) = false := by decide) (he : starEach (e :: es) X.env = (false, eval e X.env) :: starEach es X.env := by rfl) (hpl : (backTo pos (starEach es X.env)).any (·.1) = false := by rfl) :
    PE X (.Call (.Name "Patch" p) (e :: es) [] pos) (tMakeS C (spInitX K0 C B T) (WE W) t) := by
  subst hK
  obtain ⟨f, fd, M, F, hm, b⟩ := c.ex
  exact pe_makeS M F (hr.mono hk) hg hm b (fun σ => passAt tk σ) ha hdb he hpl
def spRefused (K : PySem.W.Frag) (T : Tp) : Sp := fun vs H Q _ => ∃ (nv kv dv : V) (dn dk dd : PyData) (G : Option Nat → Prop), vs = [nv, kv, dv] ∧ Dp K H nv dn ∧ Dp K H kv dk ∧ ThgD K H dv dd ∧ okD dn = true ∧ okD dk = true ∧ TG T H ∧ RefX dn dk dd G ∧
  ∀ r, G r → ∀ H', Go T D0 H H' → Q (retN r) H'
theorem ok_lrefused {f C he : Addr} {fd : FuncData} {k k1 : Nat} {cl : Nat → Addr} (Fn : Fun K "_law_refused" "_law_refused" sLRefused f fd) (M : Mg K mg) (KD : Kinds K mg cl he) (exm : PySem.W.exmOne K (.ref (cl 1)) (.ref he) = some true) (hno : PySem.W.findIn K (.ref (cl 1)) "deed" = some none)
    (c : MakX P w K mg base k1 C (cl 1) T) (hk1 : k1 + 1 ≤ k) (cK : Cal P w K mg base k "_law_kinds" ["_law_error"] (spKinds K T cl)) : FnOk P w K mg base CX0 (k + 1) f fd ["_law_name", "_law_knows", "_law_deeds"] (spRefused K T) := by
  refine Fn.ok scLRefused (fun vs H Q E h => ?_) (fun cdv A outer s H vs Q E hr h => ?_)
  · obtain ⟨nv, kv, dv, dn, dk, dd, G, rfl, _⟩ := h
    rfl
  · obtain ⟨nv, kv, dv, dn, dk, dd, G, rfl, pn, pk, pd, on_, ok_, tg, rx, q⟩ := h
    refine ⟨_, (pss_cons (ps_set (i := 3) scLRefused.nd rfl (.inl rfl) pe_non)
      (pss_cons (ps_try_held (i := 4) rfl rfl rfl scLRefused.nd rfl rfl ⟨by rfl, by decide, .inl KD.atH⟩ takes0 (fun W pn xe tk _ => (pss_one (ps_expr (pe_mkX tk c hr hk1 (by rfl) (pa_cons (pv 0) (pa_cons (pv 1) (pa_cons (pv 2) pa_nil))))))) (fun a oe cls d pn hz hf => (pss_one (ps_set (i := 3) scLRefused.nd rfl (.inl rfl) (pv 4)))))
      (pss_cons (ps_if (pt_cmpR op_isN (pv 3) pe_non (nomark _))
      (pss_one (ps_ret pe_non))
      pss_nil)
      (pss_cons (ps_if (PW.pt (pw_or (pt_cmpR (op_neD hr.units) (pe_cal cK hr (by rfl) (pa_cons (pv 3) pa_nil)) (pe_lst (pa_cons pe_str pa_nil)) (nomark _)) (pw_or1 (pt_val (pe_callB call_isi (by rfl) M.ins boot_isinstance (pa_cons (pe_exf (pv 3)) (pa_cons (pe_bltn (v := .ty "bool") (by rfl) M.bool_ (by decide +kernel) rfl) pa_nil)))))))
      (pss_one (ps_ret (pe_un un_neg pe_int)))
      pss_nil)
      (pss_one (ps_ret (pe_exf (pv 3)))))))), ?_⟩
    refine ⟨nv, rfl, kv, rfl, dv, rfl, ?_⟩
    intro y dy hy hdy ne
    have tg3 := tg.born (o := .own y) (o' := .ins C dy []) hy hdy ne
    have k3 : Kp H (upd (upd H dy (.own y)) y (.ins C dy [])) := (Kp.new hdy).trans (Kp.new (by rw [upd_ne ne.symm]; exact hy))
    have s3 : Sub H (upd (upd H dy (.own y)) y (.ins C dy [])) := (Sub.new hdy).trans (Sub.new (by rw [upd_ne ne.symm]; exact hy))
    refine ⟨y, dy, nv, kv, dv, dn, dk, dd, rfl, upd_same, Dp.sub s3 _ _ pn, Dp.sub s3 _ _ pk, pd.kp k3, on_, ok_, tg3, rx.init (fun k gk H4 d4 g4 hd4 => ?_) (fun gn H4 g4 => ?_)⟩
    · -- refused
      have g04 : Go T D0 H H4 := Go.born tg hy hdy ne g4
      have g5 := g04.new (o := .xd [("deed", .int (k : Nat))]) hd4
      have e5 : (upd H4 d4 (.xd [("deed", .int (k : Nat))])) d4 = some (.xd [("deed", .int (k : Nat))]) := upd_same
      generalize upd H4 d4 (.xd [("deed", .int (k : Nat))]) = H5 at g5 e5 ⊢
      refine ⟨true, exm, fun _ a ha => ?_, fun z => nomatch z⟩
      have g6 := g5.new (o := Exh (.ref (cl 1)) (some d4) a) ha
      have e6 : (upd H5 a (Exh (.ref (cl 1)) (some d4) a)) a = some (Exh (.ref (cl 1)) (some d4) a) := upd_same
      have f6 : ExF (upd H5 a (Exh (.ref (cl 1)) (some d4) a)) d4 [("deed", .int (k : Nat))] := .inr ((upd_ne (ne_of_none e5 ha)).trans e5)
      refine ⟨.ref a, rfl, .ref a, rfl, rfl, _, rfl, ite2 (fun e => absurd (of_decide_eq_true e) (fun z => nomatch z)) (fun _ => ?_)⟩
      generalize upd H5 a (Exh (.ref (cl 1)) (some d4) a) = H6 at g6 e6 f6 ⊢
      have ex6 : ExA H6 a (cl 1) (some d4) := ⟨.inr (.inl e6), fun dd z => by cases z; exact ⟨_, f6⟩⟩
      refine ⟨.ref a, rfl, a, 1, some d4, rfl, by decide, ex6, g6.1, fun H7 l g7 hl el => ?_⟩
      have g67 := g6.trans g7
      refine ⟨small_le (by show 1 ≤ 10000; decide), fun l2 hl2 => ?_⟩
      have g8 := g67.new (o := .lst [.str "patch"]) hl2
      have k8 : Go T D0 H6 (upd H7 l2 (.lst [.str "patch"])) := g7.new hl2
      have e8 := (upd_ne (o := .lst [.str "patch"]) (ne_of_none el hl2)).trans el
      have l8 : (upd H7 l2 (.lst [.str "patch"])) l2 = some (.lst [.str "patch"]) := upd_same
      generalize upd H7 l2 (.lst [.str "patch"]) = H8 at g8 k8 e8 l8 ⊢
      have sh : SeqAt.shaped (.list [PyData.str "patch"]) = true := by decide +kernel
      refine ⟨.list [.str "patch"], .list [.str "patch"], .lst (.inl (.inl e8)) (.one (.str _)), .lst (.inl (.inl l8)) (.one (.str _)), sh, sh, _, rfl, ?_⟩
      rw [eqv_self sh]
      have ex8 := ex6.go k8 g6.1
      have f8 := f6.go k8 g6.1
      have thi : Th K H8 (.int (k : Nat)) "int" none := .int _
      refine iteF ⟨.ref a, rfl, a, cl 1, d4, _, .int (k : Nat), rfl, ex8, KD.exc 1 (by decide), hno, f8, rfl, .int (k : Nat), .ty "bool", .type "int", .type "bool", _, rfl, .ty _, thi.ty, kit_ty thi.kbool, _, rfl, ite2 (fun e => absurd e (show ¬ false = true by decide)) (fun _ => ?_)⟩
      exact ⟨.ref a, rfl, a, cl 1, d4, _, .int (k : Nat), rfl, ex8, KD.exc 1 (by decide), hno, f8, rfl, q (some k) gk H8 g8⟩
    · -- made
      have g04 : Go T D0 H H4 := Go.born tg hy hdy ne g4
      exact ⟨rfl, .non, rfl, rfl, _, rfl, ite2 (fun _ => q none gn H4 g04) (fun e => absurd (decide_eq_true rfl) e)⟩
end
end K1
set_option Elab.async false
set_option linter.all false
set_option maxRecDepth 100000
set_option maxHeartbeats 4000000
/-! The law's def _law_bad_deed. -/
namespace K1
open PySem PySem.Spec PyProof.Rows L2
def badLine : PyData := .tuple [.str "q", .int 1, .int 1]
def badLate (n : Nm) (m : Nat) : PyData := .tuple [.str n.1, .int n.2, .int ((m : Int) + 1)]
def bad1 (n : Nm) (m : Nat) : List PyData := [.tuple [.str "put", badLine, badLine, .tuple [.str "a"]], .tuple [.str "put", .tuple [.str "", .int 0, .int 1], badLine, .tuple [.str "a"]], .tuple [.str "put", badLine, .tuple [.str "", .int 0, .int 0], .tuple [.str "a"]]]
def bad2 (n : Nm) (m : Nat) : List PyData := bad1 n m ++ [.tuple [.str "put", badLine, .tuple [.str "q", .int 1, .int 2], .tuple []], .tuple [.str "put", badLine, .tuple [.str "q", .int 1, .int 2], .list [.str "a"]], .tuple [.str "put", badLine, (badLate n m), .tuple [.str "a"]]]
def bad3 (n : Nm) (m : Nat) : List PyData := bad2 n m ++ [.tuple [.str "put", badLine, .tuple [.str "q", .int 1, .int 2], .tuple [.str "a\nb"]], .tuple [.str "put", badLine, .tuple [.str "q", .int 1, .int 2], .tuple [.str (strRep "a" 41)]], .tuple [.str "cut", (badLate n m)]]
def bad4 (n : Nm) (m : Nat) : List PyData := bad3 n m ++ [.tuple [.str "put", badLine, .tuple [.str "q", .int 1, .int 2], .tuple [.int 7]], .tuple [.str "put", badLine, .tuple [.str "q", .int 1, .int 2]], .tuple [.str "cut", .tuple [.str "", .int 0, .int 0]], .tuple [.str "keep", (badLate n m)]]
def bad5 (n : Nm) (m : Nat) : List PyData := bad4 n m ++ [.tuple [.str "order", badLine, badLine], .tuple [.str "order", badLine, .tuple [.str "", .int 0, .int 1]], .tuple [.str "order", .tuple [.str "", .int 0, .int 0], badLine], .tuple [.str "cut"], .tuple []]
def bad6 (n : Nm) (m : Nat) : List PyData := bad5 n m ++ [.tuple [.str "drop", badLine], .list [.str "cut", badLine], .none, .tuple [.str "cut", .tuple [.str "q", .int 0, .int 1]], .tuple [.str "put", badLine, .tuple [.str "q", .int 1, .int 2], .tuple (List.replicate 201 [.str "a"]).flatten]]
def bad7 (n : Nm) (m : Nat) : List PyData := bad6 n m ++ [.tuple [.str "cut", .tuple [.str "q", .int 1, .bool true]], .tuple [.str "order", (badLate n m), badLine], .tuple [.int 7, badLine]]
structure BadR where
  n : Nm
  m : Nat
section
variable {P : Program} {w : World} {K : PySem.W.Frag} {mg : Str → Option Value} {base : Heap} {T : Tp}
def spBadDeed (K : PySem.W.Frag) (T : Tp) : Sp := fun vs H Q _ => ∃ (d : Addr) (nv : V) (n : Nm) (m : Nat), vs = [.ref d, nv, .int (m : Nat)] ∧ St H d ∧ Dp K H nv (eN n) ∧ TG T H ∧
  ∀ (H' : Hp) (v : V) (k : Nat) (x : PyData), (bad7 n m)[k]? = some x → Go T (· = d) H H' → St H' d → Dp K H' v x → Q v H'
theorem ok_lbad {f : Addr} {fd : FuncData} {k : Nat} (Fn : Fun K "_law_bad_deed" "_law_bad_deed" sLBadDeed f fd) (M : Mg K mg) (cD : Cal P w K mg base k "_law_digit" ["_law_state", "_law_many"] spDigit) : FnOk P w K mg base CX0 (k + 1) f fd ["_law_state", "_law_name", "_law_many"] (spBadDeed K T) := by
  refine Fn.ok scLBadDeed (fun vs H Q E h => ?_) (fun cdv A outer s H vs Q E hr h => ?_)
  · obtain ⟨d, nv, n, m, rfl, _⟩ := h
    rfl
  · obtain ⟨d, nv, n, m, rfl, st, dn, tg, q⟩ := h
    refine ⟨_, (pss_cons (ps_set (i := 3) scLBadDeed.nd rfl (.inl rfl) (DE.pe (K := K) (A := EnvA K [(1, fun r : BadR => .tuple [.str r.n.1, .int r.n.2]), (2, fun r : BadR => .int (r.m : Nat))]) (de_tup (da_cons mon_env de_str (da_cons mon_env de_int (da_cons mon_env de_int da_nil))) (fun _ => by show 3 ≤ 10000; decide))))
      (pss_cons (ps_set (i := 4) scLBadDeed.nd rfl (.inl rfl) (DE.pe (K := K) (A := EnvA K [(1, fun r : BadR => .tuple [.str r.n.1, .int r.n.2]), (2, fun r : BadR => .int (r.m : Nat))]) (de_catT mon_env (de_env (i := 1) (.head _)) (de_tup (da_cons mon_env (de_add mon_env (i := fun r : BadR => ((r.m : Nat) : Int)) (de_env (i := 2) (.tail _ (.head _))) de_int) da_nil) (fun _ => by show 1 ≤ 10000; decide)) (fun _ => by show 2 + 1 ≤ 10000; decide) (fun _ z => nomatch z) (fun _ z => nomatch z))))
      (pss_cons (ps_set (i := 5) scLBadDeed.nd rfl (.inl rfl) (DE.pe (K := K) (A := EnvA K [(3, fun r : BadR => badLine), (4, fun r : BadR => badLate r.n r.m)]) (de_lst (da_cons mon_env (de_tup (da_cons mon_env de_str (da_cons mon_env (de_env (i := 3) (.head _)) (da_cons mon_env (de_env (i := 3) (.head _)) (da_cons mon_env (de_tup (da_cons mon_env de_str da_nil) (fun _ => by show 1 ≤ 10000; decide)) da_nil)))) (fun _ => by show 4 ≤ 10000; decide)) (da_cons mon_env (de_tup (da_cons mon_env de_str (da_cons mon_env (de_tup (da_cons mon_env de_str (da_cons mon_env de_int (da_cons mon_env de_int da_nil))) (fun _ => by show 3 ≤ 10000; decide)) (da_cons mon_env (de_env (i := 3) (.head _)) (da_cons mon_env (de_tup (da_cons mon_env de_str da_nil) (fun _ => by show 1 ≤ 10000; decide)) da_nil)))) (fun _ => by show 4 ≤ 10000; decide)) (da_cons mon_env (de_tup (da_cons mon_env de_str (da_cons mon_env (de_env (i := 3) (.head _)) (da_cons mon_env (de_tup (da_cons mon_env de_str (da_cons mon_env de_int (da_cons mon_env de_int da_nil))) (fun _ => by show 3 ≤ 10000; decide)) (da_cons mon_env (de_tup (da_cons mon_env de_str da_nil) (fun _ => by show 1 ≤ 10000; decide)) da_nil)))) (fun _ => by show 4 ≤ 10000; decide)) da_nil))) (fun _ => by show 3 ≤ 10000; decide))))
      (pss_cons (ps_set (i := 5) scLBadDeed.nd rfl (.inl rfl) (DE.pe (K := K) (A := EnvA K [(3, fun r : BadR => badLine), (4, fun r : BadR => badLate r.n r.m), (5, fun r : BadR => .list (bad1 r.n r.m))]) (de_cat mon_env (de_env (i := 5) (.tail _ (.tail _ (.head _)))) (de_lst (da_cons mon_env (de_tup (da_cons mon_env de_str (da_cons mon_env (de_env (i := 3) (.head _)) (da_cons mon_env (de_tup (da_cons mon_env de_str (da_cons mon_env de_int (da_cons mon_env de_int da_nil))) (fun _ => by show 3 ≤ 10000; decide)) (da_cons mon_env (de_tup da_nil (fun _ => by show 0 ≤ 10000; decide)) da_nil)))) (fun _ => by show 4 ≤ 10000; decide)) (da_cons mon_env (de_tup (da_cons mon_env de_str (da_cons mon_env (de_env (i := 3) (.head _)) (da_cons mon_env (de_tup (da_cons mon_env de_str (da_cons mon_env de_int (da_cons mon_env de_int da_nil))) (fun _ => by show 3 ≤ 10000; decide)) (da_cons mon_env (de_lst (da_cons mon_env de_str da_nil) (fun _ => by show 1 ≤ 10000; decide)) da_nil)))) (fun _ => by show 4 ≤ 10000; decide)) (da_cons mon_env (de_tup (da_cons mon_env de_str (da_cons mon_env (de_env (i := 3) (.head _)) (da_cons mon_env (de_env (i := 4) (.tail _ (.head _))) (da_cons mon_env (de_tup (da_cons mon_env de_str da_nil) (fun _ => by show 1 ≤ 10000; decide)) da_nil)))) (fun _ => by show 4 ≤ 10000; decide)) da_nil))) (fun _ => by show 3 ≤ 10000; decide)) (fun r => show 3 + 3 ≤ 10000 by decide))))
      (pss_cons (ps_set (i := 5) scLBadDeed.nd rfl (.inl rfl) (DE.pe (K := K) (A := EnvA K [(3, fun r : BadR => badLine), (4, fun r : BadR => badLate r.n r.m), (5, fun r : BadR => .list (bad2 r.n r.m))]) (de_cat mon_env (de_env (i := 5) (.tail _ (.tail _ (.head _)))) (de_lst (da_cons mon_env (de_tup (da_cons mon_env de_str (da_cons mon_env (de_env (i := 3) (.head _)) (da_cons mon_env (de_tup (da_cons mon_env de_str (da_cons mon_env de_int (da_cons mon_env de_int da_nil))) (fun _ => by show 3 ≤ 10000; decide)) (da_cons mon_env (de_tup (da_cons mon_env de_str da_nil) (fun _ => by show 1 ≤ 10000; decide)) da_nil)))) (fun _ => by show 4 ≤ 10000; decide)) (da_cons mon_env (de_tup (da_cons mon_env de_str (da_cons mon_env (de_env (i := 3) (.head _)) (da_cons mon_env (de_tup (da_cons mon_env de_str (da_cons mon_env de_int (da_cons mon_env de_int da_nil))) (fun _ => by show 3 ≤ 10000; decide)) (da_cons mon_env (de_tup (da_cons mon_env (de_strRep mon_env de_str de_int) da_nil) (fun _ => by show 1 ≤ 10000; decide)) da_nil)))) (fun _ => by show 4 ≤ 10000; decide)) (da_cons mon_env (de_tup (da_cons mon_env de_str (da_cons mon_env (de_env (i := 4) (.tail _ (.head _))) da_nil)) (fun _ => by show 2 ≤ 10000; decide)) da_nil))) (fun _ => by show 3 ≤ 10000; decide)) (fun r => show 6 + 3 ≤ 10000 by decide))))
      (pss_cons (ps_set (i := 5) scLBadDeed.nd rfl (.inl rfl) (DE.pe (K := K) (A := EnvA K [(3, fun r : BadR => badLine), (4, fun r : BadR => badLate r.n r.m), (5, fun r : BadR => .list (bad3 r.n r.m))]) (de_cat mon_env (de_env (i := 5) (.tail _ (.tail _ (.head _)))) (de_lst (da_cons mon_env (de_tup (da_cons mon_env de_str (da_cons mon_env (de_env (i := 3) (.head _)) (da_cons mon_env (de_tup (da_cons mon_env de_str (da_cons mon_env de_int (da_cons mon_env de_int da_nil))) (fun _ => by show 3 ≤ 10000; decide)) (da_cons mon_env (de_tup (da_cons mon_env de_int da_nil) (fun _ => by show 1 ≤ 10000; decide)) da_nil)))) (fun _ => by show 4 ≤ 10000; decide)) (da_cons mon_env (de_tup (da_cons mon_env de_str (da_cons mon_env (de_env (i := 3) (.head _)) (da_cons mon_env (de_tup (da_cons mon_env de_str (da_cons mon_env de_int (da_cons mon_env de_int da_nil))) (fun _ => by show 3 ≤ 10000; decide)) da_nil))) (fun _ => by show 3 ≤ 10000; decide)) (da_cons mon_env (de_tup (da_cons mon_env de_str (da_cons mon_env (de_tup (da_cons mon_env de_str (da_cons mon_env de_int (da_cons mon_env de_int da_nil))) (fun _ => by show 3 ≤ 10000; decide)) da_nil)) (fun _ => by show 2 ≤ 10000; decide)) (da_cons mon_env (de_tup (da_cons mon_env de_str (da_cons mon_env (de_env (i := 4) (.tail _ (.head _))) da_nil)) (fun _ => by show 2 ≤ 10000; decide)) da_nil)))) (fun _ => by show 4 ≤ 10000; decide)) (fun r => show 9 + 4 ≤ 10000 by decide))))
      (pss_cons (ps_set (i := 5) scLBadDeed.nd rfl (.inl rfl) (DE.pe (K := K) (A := EnvA K [(3, fun r : BadR => badLine), (4, fun r : BadR => badLate r.n r.m), (5, fun r : BadR => .list (bad4 r.n r.m))]) (de_cat mon_env (de_env (i := 5) (.tail _ (.tail _ (.head _)))) (de_lst (da_cons mon_env (de_tup (da_cons mon_env de_str (da_cons mon_env (de_env (i := 3) (.head _)) (da_cons mon_env (de_env (i := 3) (.head _)) da_nil))) (fun _ => by show 3 ≤ 10000; decide)) (da_cons mon_env (de_tup (da_cons mon_env de_str (da_cons mon_env (de_env (i := 3) (.head _)) (da_cons mon_env (de_tup (da_cons mon_env de_str (da_cons mon_env de_int (da_cons mon_env de_int da_nil))) (fun _ => by show 3 ≤ 10000; decide)) da_nil))) (fun _ => by show 3 ≤ 10000; decide)) (da_cons mon_env (de_tup (da_cons mon_env de_str (da_cons mon_env (de_tup (da_cons mon_env de_str (da_cons mon_env de_int (da_cons mon_env de_int da_nil))) (fun _ => by show 3 ≤ 10000; decide)) (da_cons mon_env (de_env (i := 3) (.head _)) da_nil))) (fun _ => by show 3 ≤ 10000; decide)) (da_cons mon_env (de_tup (da_cons mon_env de_str da_nil) (fun _ => by show 1 ≤ 10000; decide)) (da_cons mon_env (de_tup da_nil (fun _ => by show 0 ≤ 10000; decide)) da_nil))))) (fun _ => by show 5 ≤ 10000; decide)) (fun r => show 13 + 5 ≤ 10000 by decide))))
      (pss_cons (ps_set (i := 5) scLBadDeed.nd rfl (.inl rfl) (DE.pe (K := K) (A := EnvA K [(3, fun r : BadR => badLine), (4, fun r : BadR => badLate r.n r.m), (5, fun r : BadR => .list (bad5 r.n r.m))]) (de_cat mon_env (de_env (i := 5) (.tail _ (.tail _ (.head _)))) (de_lst (da_cons mon_env (de_tup (da_cons mon_env de_str (da_cons mon_env (de_env (i := 3) (.head _)) da_nil)) (fun _ => by show 2 ≤ 10000; decide)) (da_cons mon_env (de_lst (da_cons mon_env de_str (da_cons mon_env (de_env (i := 3) (.head _)) da_nil)) (fun _ => by show 2 ≤ 10000; decide)) (da_cons mon_env de_non (da_cons mon_env (de_tup (da_cons mon_env de_str (da_cons mon_env (de_tup (da_cons mon_env de_str (da_cons mon_env de_int (da_cons mon_env de_int da_nil))) (fun _ => by show 3 ≤ 10000; decide)) da_nil)) (fun _ => by show 2 ≤ 10000; decide)) (da_cons mon_env (de_tup (da_cons mon_env de_str (da_cons mon_env (de_env (i := 3) (.head _)) (da_cons mon_env (de_tup (da_cons mon_env de_str (da_cons mon_env de_int (da_cons mon_env de_int da_nil))) (fun _ => by show 3 ≤ 10000; decide)) (da_cons mon_env (de_tupRep mon_env (de_tup (da_cons mon_env de_str da_nil) (fun _ => by show 1 ≤ 10000; decide)) de_int (fun _ z => nomatch z) (fun _ => by show 1 ≤ 1000; decide)) da_nil)))) (fun _ => by show 4 ≤ 10000; decide)) da_nil))))) (fun _ => by show 5 ≤ 10000; decide)) (fun r => show 18 + 5 ≤ 10000 by decide))))
      (pss_one (ps_ret (pe_ix ix_list (DE.pe (K := K) (A := EnvA K [(3, fun r : BadR => badLine), (4, fun r : BadR => badLate r.n r.m), (5, fun r : BadR => .list (bad6 r.n r.m))]) (de_cat mon_env (de_env (i := 5) (.tail _ (.tail _ (.head _)))) (de_lst (da_cons mon_env (de_tup (da_cons mon_env de_str (da_cons mon_env (de_tup (da_cons mon_env de_str (da_cons mon_env de_int (da_cons mon_env de_bl da_nil))) (fun _ => by show 3 ≤ 10000; decide)) da_nil)) (fun _ => by show 2 ≤ 10000; decide)) (da_cons mon_env (de_tup (da_cons mon_env de_str (da_cons mon_env (de_env (i := 4) (.tail _ (.head _))) (da_cons mon_env (de_env (i := 3) (.head _)) da_nil))) (fun _ => by show 3 ≤ 10000; decide)) (da_cons mon_env (de_tup (da_cons mon_env de_int (da_cons mon_env (de_env (i := 3) (.head _)) da_nil)) (fun _ => by show 2 ≤ 10000; decide)) da_nil))) (fun _ => by show 3 ≤ 10000; decide)) (fun r => show 23 + 3 ≤ 10000 by decide))) (pe_cal cD hr (by rfl) (pa_cons (pv 0) (pa_cons pe_int pa_nil))) (fun _ _ => rfl)))))))))))), ?_⟩
    refine ⟨⟨n, m⟩, env_cons ⟨nv, rfl, dn⟩ (env_cons ⟨_, rfl, .int _⟩ env_nil), fun v3 H3 k3 p3 => ?_⟩
    refine ⟨⟨n, m⟩, env_cons ⟨nv, rfl, Dp.sub k3.sub _ _ dn⟩ (env_cons ⟨_, rfl, .int _⟩ env_nil), fun v4 H4 k4 p4 => ?_⟩
    have p3' : ∀ {G : Hp}, Kp H4 G → Dp K G v3 badLine := fun j => Dp.sub (k4.trans j).sub _ _ p3
    have p4' : ∀ {G : Hp}, Kp H4 G → Dp K G v4 (badLate n m) := fun j => Dp.sub j.sub _ _ (show Dp K H4 v4 (badLate n m) from p4)
    refine ⟨⟨n, m⟩, env_cons ⟨v3, rfl, p3' Kp.rfl'⟩ (env_cons ⟨v4, rfl, p4' Kp.rfl'⟩ env_nil), fun s1 G1 j1 q1 => ?_⟩
    have q1' : Dp K G1 s1 (.list (bad1 n m)) := q1
    refine ⟨⟨n, m⟩, env_cons ⟨v3, rfl, p3' j1⟩ (env_cons ⟨v4, rfl, p4' j1⟩ (env_cons ⟨s1, rfl, q1'⟩ env_nil)), fun s2 G2 i2 q2 => ?_⟩
    have j2 := j1.trans i2
    clear q1 q1' i2
    have q2' : Dp K G2 s2 (.list (bad2 n m)) := q2
    refine ⟨⟨n, m⟩, env_cons ⟨v3, rfl, p3' j2⟩ (env_cons ⟨v4, rfl, p4' j2⟩ (env_cons ⟨s2, rfl, q2'⟩ env_nil)), fun s3 G3 i3 q3 => ?_⟩
    have j3 := j2.trans i3
    clear q2 q2' i3
    have q3' : Dp K G3 s3 (.list (bad3 n m)) := q3
    refine ⟨⟨n, m⟩, env_cons ⟨v3, rfl, p3' j3⟩ (env_cons ⟨v4, rfl, p4' j3⟩ (env_cons ⟨s3, rfl, q3'⟩ env_nil)), fun s4 G4 i4 q4 => ?_⟩
    have j4 := j3.trans i4
    clear q3 q3' i4
    have q4' : Dp K G4 s4 (.list (bad4 n m)) := q4
    refine ⟨⟨n, m⟩, env_cons ⟨v3, rfl, p3' j4⟩ (env_cons ⟨v4, rfl, p4' j4⟩ (env_cons ⟨s4, rfl, q4'⟩ env_nil)), fun s5 G5 i5 q5 => ?_⟩
    have j5 := j4.trans i5
    clear q4 q4' i5
    have q5' : Dp K G5 s5 (.list (bad5 n m)) := q5
    refine ⟨⟨n, m⟩, env_cons ⟨v3, rfl, p3' j5⟩ (env_cons ⟨v4, rfl, p4' j5⟩ (env_cons ⟨s5, rfl, q5'⟩ env_nil)), fun s6 G6 i6 q6 => ?_⟩
    have j6 := j5.trans i6
    clear q5 q5' i6
    have q6' : Dp K G6 s6 (.list (bad6 n m)) := q6
    refine ⟨⟨n, m⟩, env_cons ⟨v3, rfl, p3' j6⟩ (env_cons ⟨v4, rfl, p4' j6⟩ (env_cons ⟨s6, rfl, q6'⟩ env_nil)), fun s7 G7 i7 q7 => ?_⟩
    have j7 := j6.trans i7
    clear q6 q6' i7
    have q7' : Dp K G7 s7 (.list (bad7 n m)) := q7
    have kk : Kp H G7 := (k3.trans k4).trans j7
    have g7 : Go T D0 H G7 := kk.go tg
    have st7 := st.go g7 tg
    obtain ⟨a1, b1, a0, b0, ed⟩ := _root_.id st7
    refine ⟨.ref d, rfl, d, a1, b1, 26, rfl, ed, a0, b0, by decide, by decide, dg g7.1 ed fun rh H2 rh0 rh1 g12 s2 => ?_⟩
    have sub2 := st7.sub g12 g7.1
    obtain ⟨l, xs, rfl, S, dx⟩ := Dp.lstI (Dp.sub sub2 _ _ q7')
    have xl : xs.length = 26 := by rw [DpAll.len dx]; rfl
    obtain ⟨x, hx, ax⟩ := atI_int (xs := xs) (j := rh) rh0 (by omega)
    obtain ⟨y, hy, hv⟩ := DpAll.at' dx hx
    exact ⟨l, xs, rh, x, rfl, rfl, S, ax, q H2 x rh.toNat y hy ((g7.mono fun _ z => z.elim).trans g12) s2 hv⟩
end
end K1
set_option Elab.async false
set_option linter.all false
set_option maxRecDepth 100000
set_option maxHeartbeats 400000
/-! Drawn histories, and the patch of many signs: they are good. -/
namespace K1
open PySem PySem.Spec PyProof.Rows L2
/-- all that the laws' patches keep -/
structure Pat.fine (p : Pat) : Prop where
  good : p.good
  sized : p.sized
  k4 : p.knows.length ≤ 4
  d3 : p.deeds.length ≤ 3
  t41 : (textsOf p).length ≤ 41
theorem fine_sum : ∀ {ps : List Pat}, (∀ p ∈ ps, p.fine) → ((ps.flatMap rowsOf).map (·.length)).sum ≤ 2200 * ps.length ∧ (ps.flatMap rowsOf).length ≤ 46 * ps.length ∧ (ps.map fun p => p.deeds.length).sum ≤ 3 * ps.length
  | [], _ => ⟨Nat.zero_le _, Nat.zero_le _, Nat.zero_le _⟩
  | p :: r, h => by
    have f := h p (List.mem_cons_self ..)
    have h1 := patSum f.sized
    have h2 := f.k4
    have h4 := f.d3
    have h5 := f.t41
    have h3 := fine_sum (ps := r) fun x m => h x (List.mem_cons_of_mem _ m)
    rw [List.flatMap_cons, List.map_append, List.sum_append, List.length_append, List.length_cons, List.map_cons, List.sum_cons]
    omega
theorem le_sum : ∀ {l : List Str} {x : Str}, x ∈ l → x.length ≤ (l.map (·.length)).sum
  | y :: r, x, h => by
    rw [List.map_cons, List.sum_cons]
    rcases List.mem_cons.mp h with rfl | h
    · omega
    · have := le_sum h
      omega
theorem LnOk.ne_head {l : Ln} (h : LnOk l) : l ≠ headL := by
  rintro rfl
  exact absurd h.1.2.1 (by decide)
theorem DeedFrom.fit {goods : List Ln} {d : Deed} (h : DeedFrom goods d) (g : ∀ l ∈ goods, LnOk l) : d.fit := by
  cases h with
  | put a b ts ha hb ne h0 h1 ht =>
    refine ⟨ne, ?_, ?_, h0, by omega⟩
    · rcases ha with rfl | ha
      · exact headL_ne_foot
      · exact (g a ha).ne_foot
    · rcases hb with rfl | hb
      · exact fun z => headL_ne_foot z.symm
      · exact (g b hb).ne_head
  | order a b ha hb ne => exact ne
  | one k a ha => trivial
theorem DeedFrom.lines {goods : List Ln} {d : Deed} (h : DeedFrom goods d) : ∀ l ∈ d.lines, l = headL ∨ l = footL ∨ l ∈ goods := by
  cases h with
  | put a b ts ha hb ne h0 h1 ht =>
    intro l hl
    simp only [Deed.lines, List.mem_cons, List.not_mem_nil, or_false] at hl
    rcases hl with rfl | rfl
    · rcases ha with h | h
      · exact .inl h
      · exact .inr (.inr h)
    · rcases hb with h | h
      · exact .inr (.inl h)
      · exact .inr (.inr h)
  | order a b ha hb ne =>
    intro l hl
    simp only [Deed.lines, List.mem_cons, List.not_mem_nil, or_false] at hl
    rcases hl with rfl | rfl
    · exact .inr (.inr ha)
    · exact .inr (.inr hb)
  | one k a ha =>
    intro l hl
    rw [List.mem_singleton.mp hl]
    exact .inr (.inr ha)
theorem PatFrom.fine {hands : List Str} {hist : List Pat} {p : Pat} (h : PatFrom hands hist p) (ho : HandsOk hands) (hh : HistFrom hands hist) (hl : hist.length ≤ 100) : p.fine := by
  have hn := hh.nms ho (by omega)
  have nm := h.nm ho (by omega)
  have ok := h.ok ho (by omega) hn
  have fr := h.fresh hh
  have gk : ∀ m, ∀ g ∈ goodsAt hist p m, LnOk g := fun m => goods_ok hn nm
  have hs := (hh.ok ho hl).each
  have tl := textsOf_len ok.2
  have many : ∀ i, manyAt p.deeds i ≤ 9 := fun i => by
    have : manyAt p.deeds i ≤ (textsOf p).length := by
      unfold manyAt textsOf
      exact flat_take _ _
    omega
  have place : ∀ i, ∀ l ∈ goodsAt hist p (manyAt p.deeds i), l.2.2 ≤ 9 ∧ (nmOf l = p.name → l.2.2 ≤ (manyAt p.deeds i : Nat)) := by
    intro i l hl'
    rcases List.mem_append.mp hl' with hg | hg
    · obtain ⟨x, hx, rfl⟩ := List.mem_map.mp hg
      obtain ⟨q, hq, _, hx⟩ := linesIn_mem hx
      obtain ⟨k, hk, rfl⟩ := linesOf_mem hx
      have := textsOf_len (hs q hq).2
      refine ⟨by show (k : Int) + 1 ≤ 9; omega, fun z => absurd z (fr q hq)⟩
    · obtain ⟨k, hk, rfl⟩ := List.mem_map.mp hg
      have hk' := List.mem_range.mp hk
      have := many i
      exact ⟨by show (k : Int) + 1 ≤ 9; omega, fun _ => by show (k : Int) + 1 ≤ _; omega⟩
  refine ⟨⟨ok.1, fun d hd => ?_, fun i d hd l hl' e => ?_, h.asc, fun hk => ?_, by have := h.three; omega⟩, ⟨ok.1, fun d hd l hl' => ?_, by have := h.four; omega, by omega, by have := h.three; omega⟩, h.four, h.three, by omega⟩
  · obtain ⟨i, hi⟩ := List.mem_iff_getElem?.mp hd
    exact (h.deeds i d hi).fit (gk _)
  · rcases (h.deeds i d hd).lines l hl' with rfl | rfl | hg
    · show (0 : Int) ≤ _
      omega
    · have : nmOf footL = p.name := e
      have n1 := nm.2.1
      rw [← this] at n1
      exact absurd n1 (by decide)
    · exact (place i l hg).2 e
  · obtain ⟨q, hq, e⟩ := h.there _ hk
    exact fr q hq e
  · obtain ⟨i, hi⟩ := List.mem_iff_getElem?.mp hd
    rcases (h.deeds i d hi).lines l hl' with rfl | rfl | hg
    · decide
    · decide
    · have := (place i l hg).1
      omega
theorem HistFrom.take {hands : List Str} {hist : List Pat} (h : HistFrom hands hist) (n : Nat) : HistFrom hands (hist.take n) := by
  intro i p hi
  have hin : i < n := by
    have := (List.getElem?_eq_some_iff.mp hi).1
    rw [List.length_take] at this
    omega
  rw [List.getElem?_take_of_lt hin] at hi
  rw [List.take_take, Nat.min_eq_left (Nat.le_of_lt hin)]
  exact h i p hi
theorem HistFrom.fine {hands : List Str} {hist : List Pat} (h : HistFrom hands hist) (ho : HandsOk hands) (hl : hist.length ≤ 100) : ∀ p ∈ hist, p.fine := by
  intro p hp
  obtain ⟨i, hi⟩ := List.mem_iff_getElem?.mp hp
  exact (h i p hi).fine ho (h.take i) (by rw [List.length_take]; omega)
/-- the patch of many signs -/
def patZ (n : Nm) (ts : List Str) : Pat := ⟨("zz", 999), [n], [.put headL footL ts, .one true ("zz", 999, 1)]⟩
theorem zz_ok : NmOk (("zz", 999) : Nm) := ⟨by decide +kernel, by decide, by decide⟩
theorem patZ_fine {n : Nm} {ts : List Str} (hn : NmOk n) (ne : n ≠ (("zz", 999) : Nm)) (ht : ∀ t ∈ ts, TxOk t) (l1 : 1 ≤ ts.length) (l2 : ts.length ≤ 41) : (patZ n ts).fine := by
  have lz : LnOk ("zz", 999, 1) := ⟨zz_ok, by decide⟩
  have okz : (patZ n ts).ok := ⟨zz_ok, fun m hm => by rw [List.mem_singleton.mp hm]; exact hn, fun d hd => by
    rcases List.mem_cons.mp hd with rfl | hd
    · exact ⟨.inr (.inl rfl), .inr (.inr rfl), ht⟩
    · rw [List.mem_singleton.mp hd]
      exact lz⟩
  have tx : (textsOf (patZ n ts)).length = ts.length := by
    show ((ts ++ ([] ++ [])) : List Str).length = _
    simp
  refine ⟨⟨okz, fun d hd => ?_, fun i d hd l hl e => ?_, List.pairwise_singleton _ _, fun hm => ne (List.mem_singleton.mp hm).symm, by show 2 ≤ 400; decide⟩, ⟨okz, fun d hd l hl => ?_, by show 1 ≤ 1000; decide, by omega, by show 2 ≤ 1000; decide⟩, by show 1 ≤ 4; decide, by show 2 ≤ 3; decide, by omega⟩
  · rcases List.mem_cons.mp hd with rfl | hd
    · exact ⟨headL_ne_foot, headL_ne_foot, fun z => headL_ne_foot z.symm, l1, by omega⟩
    · rw [List.mem_singleton.mp hd]
      trivial
  · match i, hd with
    | 0, hd =>
      cases hd
      simp only [Deed.lines, List.mem_cons, List.not_mem_nil, or_false] at hl
      rcases hl with rfl | rfl
      · exact absurd (show nmOf headL = (("zz", 999) : Nm) from e) (by decide +kernel)
      · exact absurd (show nmOf footL = (("zz", 999) : Nm) from e) (by decide +kernel)
    | 1, hd =>
      cases hd
      rw [List.mem_singleton.mp hl]
      show (1 : Int) ≤ ((manyAt (patZ n ts).deeds 1 : Nat) : Int)
      have : manyAt (patZ n ts).deeds 1 = ts.length := by
        show ((ts ++ []) : List Str).length = _
        simp
      omega
    | (k + 2), hd => cases hd
  · rcases List.mem_cons.mp hd with rfl | hd
    · simp only [Deed.lines, List.mem_cons, List.not_mem_nil, or_false] at hl
      rcases hl with rfl | rfl
      · decide
      · decide
    · rw [List.mem_singleton.mp hd] at hl
      rw [List.mem_singleton.mp hl]
      decide
end K1
set_option Elab.async false
set_option linter.all false
set_option maxRecDepth 100000
set_option maxHeartbeats 4000000
/-! The math of what is refused. -/
namespace K1
open PySem PySem.Spec PyProof.Rows L2
theorem eL_inj {a b : Ln} (h : eL a = eL b) : a = b := by
  obtain ⟨x, i, k⟩ := a
  obtain ⟨y, j, l⟩ := b
  simp [eL] at h
  obtain ⟨h1, h2, h3⟩ := h
  rw [h1, h2, h3]
theorem eN_inj {a b : Nm} (h : eN a = eN b) : a = b := by
  obtain ⟨x, i⟩ := a
  obtain ⟨y, j⟩ := b
  simp [eN] at h
  obtain ⟨h1, h2⟩ := h
  rw [h1, h2]
theorem strs_inj : ∀ {a b : List Str}, a.map PyData.str = b.map PyData.str → a = b
  | [], [], _ => rfl
  | [], _ :: _, h => by cases h
  | _ :: _, [], h => by cases h
  | x :: r, y :: s, h => by
    have h1 := (List.cons.inj h).1
    rw [strs_inj (List.cons.inj h).2, PyData.str.inj h1]
theorem kind_ne : ∀ (c : Bool) (x : Str), x = "put" ∨ x = "order" → kindS c ≠ x := by
  intro c x h
  rcases h with rfl | rfl <;> cases c <;> decide +kernel
theorem eD_inj : ∀ {a b : Deed}, eD a = eD b → a = b
  | .put a b ts, .put a' b' ts', h => by
    simp only [eD, PyData.tuple.injEq, List.cons.injEq, PyData.str.injEq, and_true, true_and] at h
    obtain ⟨h1, h2, h3⟩ := h
    rw [eL_inj h1, eL_inj h2, strs_inj h3]
  | .order a b, .order a' b', h => by
    simp only [eD, PyData.tuple.injEq, List.cons.injEq, PyData.str.injEq, and_true, true_and] at h
    obtain ⟨h1, h2⟩ := h
    rw [eL_inj h1, eL_inj h2]
  | .one c a, .one c' a', h => by
    simp only [eD, PyData.tuple.injEq, List.cons.injEq, PyData.str.injEq, and_true, true_and] at h
    obtain ⟨h1, h2⟩ := h
    have hc : c = c' := by
      cases c <;> cases c' <;> first | rfl | (exact absurd h1 (by decide +kernel))
    rw [eL_inj h2, hc]
  | .put a b ts, .order a' b', h => by
    simp [eD] at h
  | .order a b, .put a' b' ts, h => by
    simp [eD] at h
  | .put a b ts, .one c x, h => by
    simp [eD] at h
  | .one c x, .put a b ts, h => by
    simp [eD] at h
  | .order a b, .one c x, h => by
    simp [eD] at h
  | .one c x, .order a b, h => by
    simp [eD] at h
theorem eDs_inj : ∀ {a b : List Deed}, a.map eD = b.map eD → a = b
  | [], [], _ => rfl
  | [], _ :: _, h => by cases h
  | _ :: _, [], h => by cases h
  | x :: r, y :: s, h => by rw [eDs_inj (List.cons.inj h).2, eD_inj (List.cons.inj h).1]
theorem can_good {n : Nm} {m : Int} {d : Deed} (nm : NmOk n) (f : d.fit) (o : ownOk n m d) (k : d.ok) : canDoB n m d = true := by
  have no : ∀ l ∈ d.lines, ownBad n m l = false := fun l hl => by
    unfold ownBad
    by_cases h : nmOf l = n
    · have := o l hl h
      rw [decide_eq_false (show ¬ m < l.2.2 by omega)]
      rfl
    · rw [decide_eq_false h, Bool.and_false]
  cases d with
  | one c a => show (!ownBad n m a) = true; rw [no a (List.mem_singleton.mpr rfl)]; rfl
  | order a b =>
    show twoOk n m a b = true
    unfold twoOk
    rw [no a List.mem_cons_self, no b (List.mem_cons_of_mem _ List.mem_cons_self), decide_eq_true (show a ≠ b from f), decide_eq_true (show a ≠ footL from LnOk.ne_foot k.1), decide_eq_true (show b ≠ headL from LnOk.ne_head k.2)]
    rfl
  | put a b ts =>
    show twoOk n m a b = true
    unfold twoOk
    rw [no a List.mem_cons_self, no b (List.mem_cons_of_mem _ List.mem_cons_self), decide_eq_true f.1, decide_eq_true f.2.1, decide_eq_true f.2.2.1]
    rfl
end K1
set_option Elab.async false
set_option linter.all false
set_option maxRecDepth 100000
set_option maxHeartbeats 4000000
/-! Each of the deeds that can't be. -/
namespace K1
open PySem PySem.Spec PyProof.Rows L2
theorem isDeed_one (c : Bool) (x : PyData) : isDeedD (.tuple [.str (kindS c), x]) = putD x := by
  show kindD (kindS c) x [] = putD x
  unfold kindD
  rw [if_pos (show cutKeep (kindS c) = true by cases c <;> decide +kernel)]
  rfl
theorem isDeed_order (x y : PyData) : isDeedD (.tuple [.str "order", x, y]) = (putD x && putD y) := by
  show kindD "order" x [y] = _
  unfold kindD
  rw [if_neg (show ¬ cutKeep "order" = true by decide +kernel), if_pos rfl]
  rfl
theorem isDeed_put (x y t : PyData) : isDeedD (.tuple [.str "put", x, y, t]) = canPutD x y t := by
  show kindD "put" x [y, t] = _
  unfold kindD
  rw [if_neg (show ¬ cutKeep "put" = true by decide +kernel), if_neg (show ¬ ("put" : Str) = "order" by decide +kernel), decide_eq_true (rfl : ("put" : Str) = "put")]
  rfl
def lineQ : Ln := ("q", 1, 1)
def lateL (n : Nm) (m : Nat) : Ln := (n.1, n.2, (m : Int) + 1)
theorem q_ok : LnOk lineQ := ⟨⟨by decide +kernel, by decide, by decide⟩, by decide⟩
section
variable {n : Nm} {m : Nat}
theorem late_ok (h : NmOk n) : LnOk (lateL n m) := ⟨h, by show 1 ≤ (m : Int) + 1; omega⟩
theorem late_put (h : NmOk n) : putD (badLate n m) = true := by
  show (handV (.str n.1) && (decide (1 ≤ n.2) && decide (n.2 ≤ 999)) && decide (1 ≤ (m : Int) + 1)) = true
  rw [h.1, decide_eq_true h.2.1, decide_eq_true h.2.2, decide_eq_true (show 1 ≤ (m : Int) + 1 by omega)]
  rfl
theorem late_okD (h : NmOk n) : okD (badLate n m) = true := by
  have := handOk h.1
  show ((decide (n.1.length ≤ 1000) && PyData.strOk n.1) && (true && (true && true))) = true
  rw [this.1, decide_eq_true (show n.1.length ≤ 1000 by omega)]
  rfl
theorem late_bad : ownBad n m (lateL n m) = true := by
  unfold ownBad
  rw [decide_eq_true (show (m : Int) < (lateL n m).2.2 by show (m : Int) < m + 1; omega), decide_eq_true (show nmOf (lateL n m) = n from rfl)]
  rfl
theorem two_a {a b : Ln} (h : ownBad n m a = true) : twoOk n m a b = false := by
  unfold twoOk
  rw [h]
  rfl
theorem two_b {a b : Ln} (h : ownBad n m b = true) : twoOk n m a b = false := by
  unfold twoOk
  rw [h]
  cases ownBad n m a <;> rfl
theorem two_eq {a : Ln} : twoOk n m a a = false := by
  unfold twoOk
  rw [decide_eq_false (show ¬ a ≠ a from fun z => z rfl)]
  cases ownBad n m a <;> rfl
theorem two_foot {b : Ln} : twoOk n m footL b = false := by
  unfold twoOk
  rw [decide_eq_false (show ¬ footL ≠ footL from fun z => z rfl)]
  cases ownBad n m footL <;> cases ownBad n m b <;> cases decide (footL ≠ b) <;> rfl
theorem two_head {a : Ln} : twoOk n m a headL = false := by
  unfold twoOk
  rw [decide_eq_false (show ¬ headL ≠ headL from fun z => z rfl)]
  cases ownBad n m a <;> cases ownBad n m headL <;> cases decide (a ≠ headL) <;> cases decide (a ≠ footL) <;> rfl
/-- what is wrong with it -/
def BadAt (n : Nm) (m : Nat) (x : PyData) : Prop := okD x = true ∧ (isDeedD x = false ∨ ∃ D : Deed, x = eD D ∧ isDeedD x = true ∧ D.lok ∧ canDoB n m D = false)
theorem bad_each (h : NmOk n) : ∀ x ∈ bad7 n m, BadAt n m x := by
  have lo := late_okD (m := m) h
  have lp := late_put (m := m) h
  have no : ∀ {x : PyData}, okD x = true → isDeedD x = false → BadAt n m x := fun a b => ⟨a, .inl b⟩
  have yes : ∀ {x : PyData} (D : Deed), okD x = true → x = eD D → isDeedD x = true → D.lok → canDoB n m D = false → BadAt n m x := fun D a b c d e => ⟨a, .inr ⟨D, b, c, d, e⟩⟩
  have lo1 : okD.okDs [badLate n m] = true := by show (okD (badLate n m) && true) = true; rw [lo]; rfl
  have one : ∀ c : Bool, BadAt n m (.tuple [.str (kindS c), badLate n m]) := fun c => by
    refine yes (.one c (lateL n m)) ?_ rfl (by rw [isDeed_one]; exact lp) (late_ok h) (by show (!ownBad n m (lateL n m)) = false; rw [late_bad]; rfl)
    show (okD (.str (kindS c)) && okD.okDs [badLate n m]) = true
    rw [lo1]
    cases c <;> decide +kernel
  intro x hx
  have e : bad7 n m = bad7 n m := rfl
  simp only [bad7, bad6, bad5, bad4, bad3, bad2, bad1, List.cons_append, List.nil_append, List.mem_cons, List.not_mem_nil, or_false] at hx
  rcases hx with rfl | rfl | rfl | rfl | rfl | rfl | rfl | rfl | rfl | rfl | rfl | rfl | rfl | rfl | rfl | rfl | rfl | rfl | rfl | rfl | rfl | rfl | rfl | rfl | rfl | rfl
  · exact yes (.put lineQ lineQ ["a"]) (by decide +kernel) rfl (by decide +kernel) ⟨.inl q_ok, .inl q_ok, by decide, by decide⟩ two_eq
  · exact yes (.put footL lineQ ["a"]) (by decide +kernel) rfl (by decide +kernel) ⟨.inr (.inr rfl), .inl q_ok, by decide, by decide⟩ two_foot
  · exact yes (.put lineQ headL ["a"]) (by decide +kernel) rfl (by decide +kernel) ⟨.inl q_ok, .inr (.inl rfl), by decide, by decide⟩ two_head
  · exact no (by decide +kernel) (by decide +kernel)
  · exact no (by decide +kernel) (by decide +kernel)
  · refine yes (.put lineQ (lateL n m) ["a"]) ?_ rfl ?_ ⟨.inl q_ok, .inl (late_ok h), by decide, by decide⟩ (two_b late_bad)
    · show (okD (.str "put") && (okD badLine && (okD (badLate n m) && okD.okDs [.tuple [.str "a"]]))) = true
      rw [lo]
      decide +kernel
    · rw [isDeed_put]
      show ((decide (1 ≤ 1) && decide (1 ≤ 200)) && (((putD badLine || endD badLine) && (putD (badLate n m) || endD (badLate n m))) && [PyData.str "a"].all textD)) = true
      rw [lp, Bool.true_or]
      decide +kernel
  · exact no (by decide +kernel) (by decide +kernel)
  · exact no (by decide +kernel) (by decide +kernel)
  · exact one false
  · exact no (by decide +kernel) (by decide +kernel)
  · exact no (by decide +kernel) (by decide +kernel)
  · exact no (by decide +kernel) (by decide +kernel)
  · exact one true
  · exact yes (.order lineQ lineQ) (by decide +kernel) rfl (by decide +kernel) ⟨q_ok, q_ok⟩ two_eq
  · exact no (by decide +kernel) (by decide +kernel)
  · exact no (by decide +kernel) (by decide +kernel)
  · exact no (by decide +kernel) (by decide +kernel)
  · exact no (by decide +kernel) (by decide +kernel)
  · exact no (by decide +kernel) (by decide +kernel)
  · exact no (by decide +kernel) (by decide +kernel)
  · exact no (by decide +kernel) (by decide +kernel)
  · exact no (by decide +kernel) (by decide +kernel)
  · exact no (by decide +kernel) (by decide +kernel)
  · exact no (by decide +kernel) (by decide +kernel)
  · refine yes (.order (lateL n m) lineQ) ?_ rfl ?_ ⟨late_ok h, q_ok⟩ (two_a late_bad)
    · show (okD (.str "order") && (okD (badLate n m) && okD.okDs [badLine])) = true
      rw [lo]
      decide +kernel
    · rw [isDeed_order, lp]
      decide +kernel
  · exact no (by decide +kernel) (by decide +kernel)
end
end K1
set_option Elab.async false
set_option linter.all false
set_option maxRecDepth 100000
set_option maxHeartbeats 4000000
/-! What a patch with something that can't be comes to. -/
namespace K1
open PySem PySem.Spec PyProof.Rows L2
theorem nmOf_eN {n : Nm} (h : NmOk n) : nmOfD (eN n) = some n := by
  obtain ⟨m, e, _, q⟩ := nmOf_yes (d := eN n) (by
    show (handV (.str n.1) && (decide (1 ≤ n.2) && decide (n.2 ≤ 999))) = true
    rw [h.1, decide_eq_true h.2.1, decide_eq_true h.2.2]
    rfl)
  rw [q, eN_inj e]
theorem nameD_eN {n : Nm} (h : NmOk n) : nameD (eN n) = true := by
  show (handV (.str n.1) && (decide (1 ≤ n.2) && decide (n.2 ≤ 999))) = true
  rw [h.1, decide_eq_true h.2.1, decide_eq_true h.2.2]
  rfl
theorem know_ok {n : Nm} : ∀ {ks : List Nm} {b : Option Nm}, (∀ k ∈ ks, NmOk k) → ks.Pairwise (fun a b => nmLt a b = true) → n ∉ ks → (∀ c, b = some c → ∀ k ∈ ks, nmLt c k = true) → knowOk n b (ks.map eN) = true
  | [], _, _, _, _, _ => by simp [knowOk]
  | k :: r, b, ok, asc, nin, lo => by
    rw [List.map_cons]
    unfold knowOk
    rw [nmOf_eN (ok k List.mem_cons_self)]
    have asc' := List.pairwise_cons.mp asc
    have rest : knowOk n (some k) (r.map eN) = true := know_ok (fun x hx => ok x (List.mem_cons_of_mem _ hx)) asc'.2 (fun hx => nin (List.mem_cons_of_mem _ hx)) (fun c hc x hx => by cases hc; exact asc'.1 x hx)
    show knowNext n b k (knowOk n (some k) (r.map eN)) = true
    unfold knowNext
    rw [if_neg (fun z => nin (by rw [← z]; exact List.mem_cons_self)), rest]
    cases b with
    | none => rfl
    | some c =>
      show (if nmLt c k = true then true else false) = true
      rw [if_pos (lo c rfl k List.mem_cons_self)]
theorem canKnow_good {q : Pat} (g : q.good) : canKnowD q.name (.list (q.knows.map eN)) = true := know_ok g.ok.knows g.asc g.nin (fun _ z => nomatch z)
theorem putD_eL {l : Ln} (h : LnOk l) : putD (eL l) = true := by
  show ((handV (.str l.1) && (decide (1 ≤ l.2.1) && decide (l.2.1 ≤ 999))) && decide (1 ≤ l.2.2)) = true
  rw [show handV (.str l.1) = true from h.1.1, decide_eq_true (show 1 ≤ l.2.1 from h.1.2.1), decide_eq_true (show l.2.1 ≤ 999 from h.1.2.2), decide_eq_true h.2]
  rfl
theorem edD_eL {l : Ln} (h : EdOk l) : (putD (eL l) || endD (eL l)) = true := by
  rcases h with h | rfl | rfl
  · rw [putD_eL h]; rfl
  · decide +kernel
  · decide +kernel
theorem texts_all : ∀ {ts : List Str}, (∀ t ∈ ts, TxOk t) → (ts.map PyData.str).all textD = true
  | [], _ => rfl
  | t :: r, h => by
    rw [List.map_cons, List.all_cons, texts_all fun x hx => h x (List.mem_cons_of_mem _ hx)]
    have o := h t List.mem_cons_self
    have : textD (.str t) = true := o.v
    rw [this]
    rfl
theorem isDeed_good {d : Deed} (o : d.ok) (f : d.fit) : isDeedD (eD d) = true ∧ d.lok := by
  cases d with
  | one c a => exact ⟨by show isDeedD (.tuple [.str (kindS c), eL a]) = true; rw [isDeed_one]; exact putD_eL o, o⟩
  | order a b => exact ⟨by show isDeedD (.tuple [.str "order", eL a, eL b]) = true; rw [isDeed_order, putD_eL o.1, putD_eL o.2]; rfl, o⟩
  | put a b ts =>
    refine ⟨?_, o.1, o.2.1, f.2.2.2.1, f.2.2.2.2⟩
    show isDeedD (.tuple [.str "put", eL a, eL b, .tuple (ts.map .str)]) = true
    rw [isDeed_put]
    show ((decide (1 ≤ (ts.map PyData.str).length) && decide ((ts.map PyData.str).length ≤ 200)) && (((putD (eL a) || endD (eL a)) && (putD (eL b) || endD (eL b))) && (ts.map PyData.str).all textD)) = true
    rw [edD_eL o.1, edD_eL o.2.1, texts_all o.2.2, List.length_map, decide_eq_true f.2.2.2.1, decide_eq_true f.2.2.2.2]
    rfl
theorem at_split {α : Type} (a : List α) (x : α) (b : List α) : (a ++ [x] ++ b)[a.length]? = some x := by
  rw [List.append_assoc, List.getElem?_append_right (Nat.le_refl _), Nat.sub_self]
  rfl
theorem take_split {α : Type} (a : List α) (x : α) (b : List α) : (a ++ [x] ++ b).take a.length = a := by
  rw [List.append_assoc, List.take_left]
theorem manyAt_take {ds : List Deed} {i j : Nat} (h : j ≤ i) : manyAt (ds.take i) j = manyAt ds j := by
  unfold manyAt
  rw [List.take_take, Nat.min_eq_left h]
theorem manyAt_app {a b : List Deed} {j : Nat} (h : j ≤ a.length) : manyAt (a ++ b) j = manyAt a j := by
  unfold manyAt
  rw [List.take_append_of_le_length h]
/-- at the place at: one that can't be, anything good behind it -/
theorem bad_ref {q : Pat} (g : q.good) {at_ : Nat} (hat : at_ ≤ q.deeds.length) {x : PyData} (hx : BadAt q.name (manyAt q.deeds at_) x) {j : Nat} (few : q.deeds.length ≤ 100) : RefX (eN q.name) (.list (q.knows.map eN)) (.list ((q.deeds.take at_).map eD ++ [x] ++ (q.deeds.drop j).map eD)) (fun r => r = some (at_ + 1)) := by
  have nm := g.ok.name
  have ck := canKnow_good g
  have isn : ∀ {n : Nm}, eN q.name = eN n → n = q.name := fun e => (eN_inj e).symm
  have dg : ∀ d ∈ q.deeds, isDeedD (eD d) = true ∧ d.lok := fun d hd => isDeed_good (g.ok.deeds d hd) (g.fit d hd)
  have tk : ∀ d ∈ q.deeds.take at_, d ∈ q.deeds := fun d hd => List.mem_of_mem_take hd
  have alen : ((q.deeds.take at_).map eD).length = at_ := by rw [List.length_map, List.length_take, Nat.min_eq_left hat]
  have can : ∀ i d, q.deeds[i]? = some d → canDoB q.name ((manyAt q.deeds i : Nat) : Int) d = true := fun i d hd => can_good nm (g.fit d (List.mem_of_getElem? hd)) (g.own i d hd) (g.ok.deeds d (List.mem_of_getElem? hd))
  generalize hL : (q.deeds.take at_).map eD ++ [x] ++ (q.deeds.drop j).map eD = L
  have hLlen : L.length ≤ 400 := by
    rw [← hL, List.length_append, List.length_append, alen, List.length_map, List.length_drop]
    show at_ + 1 + _ ≤ 400
    omega
  have hLat : L[at_]? = some x := by
    have := at_split ((q.deeds.take at_).map eD) x ((q.deeds.drop j).map eD)
    rw [alen, hL] at this
    exact this
  have hLtk : L.take at_ = (q.deeds.take at_).map eD := by
    have := take_split ((q.deeds.take at_).map eD) x ((q.deeds.drop j).map eD)
    rw [alen, hL] at this
    exact this
  have frontOk : ∀ e ∈ L.take at_, isDeedD e = true := fun e he => by
    rw [hLtk] at he
    obtain ⟨d, hd, rfl⟩ := List.mem_map.mp he
    exact (dg d (tk d hd)).1
  have atL : at_ < L.length := (List.getElem?_eq_some_iff.mp hLat).1
  obtain ⟨_, no | ⟨D, rfl, isD, lokD, cd⟩⟩ := hx
  · -- it is no deed by itself
    have fb : firstBad L = at_ := firstBad_at frontOk hLat no
    have stopN : ∀ Ds : List Deed, L.take (firstBad L) = Ds.map eD → Ds = q.deeds.take at_ := fun Ds e => by
      rw [fb, hLtk] at e
      exact (eDs_inj e).symm
    have pn : putStop q.name 0 (q.deeds.take at_) = none := putStop_none fun i d hd => by
      have hi : i < at_ := by
        have := (List.getElem?_eq_some_iff.mp hd).1
        rw [List.length_take] at this
        omega
      rw [List.getElem?_take_of_lt hi] at hd
      rw [Nat.zero_add, manyAt_take (Nat.le_of_lt hi)]
      exact can i d hd
    refine ⟨fun e => ?_, fun n e1 _ e3 => ?_, fun n _ _ _ e4 => ?_, fun n ds Ds i e1 _ _ e4 _ e6 _ e8 => ?_, fun n ds Ds e1 _ _ e4 _ _ _ _ _ => ?_, fun n ks Ds _ _ _ _ e5 e6 _ _ _ => ?_⟩
    · rw [nameD_eN nm] at e; cases e
    · rw [isn e1, ck] at e3; cases e3
    · have := e4 L rfl; omega
    · cases e4
      rw [isn e1, stopN Ds e6, pn] at e8
      cases e8
    · cases e4
      rw [fb]
    · have := e6 x (by rw [← PyData.list.inj e5]; exact List.mem_of_getElem? hLat)
      rw [no] at this
      cases this
  · -- a deed by itself
    have all : ∀ e ∈ L, isDeedD e = true := fun e he => by
      rw [← hL] at he
      rcases List.mem_append.mp he with he | he
      · rcases List.mem_append.mp he with he | he
        · obtain ⟨d, hd, rfl⟩ := List.mem_map.mp he
          exact (dg d (tk d hd)).1
        · rw [List.mem_singleton.mp he]
          exact isD
      · obtain ⟨d, hd, rfl⟩ := List.mem_map.mp he
        exact (dg d (List.mem_of_mem_drop hd)).1
    have fb : firstBad L = L.length := firstBad_all all
    have hLm : L = (q.deeds.take at_ ++ [D] ++ q.deeds.drop j).map eD := by rw [← hL, List.map_append, List.map_append]; rfl
    have tlen : (q.deeds.take at_).length = at_ := by rw [List.length_take, Nat.min_eq_left hat]
    have stopAt : putStop q.name 0 (q.deeds.take at_ ++ [D] ++ q.deeds.drop j) = some at_ := by
      refine putStop_at (d := D) (fun i d hi hd => ?_) ?_ ?_
      · rw [List.append_assoc, List.getElem?_append_left (by omega), List.getElem?_take_of_lt hi] at hd
        rw [Nat.zero_add, List.append_assoc, manyAt_app (by omega), manyAt_take (Nat.le_of_lt hi)]
        exact can i d hd
      · have := at_split (q.deeds.take at_) D (q.deeds.drop j)
        rwa [tlen] at this
      · rw [Nat.zero_add, List.append_assoc, manyAt_app (by omega), manyAt_take (Nat.le_refl _)]
        exact cd
    have isDs : ∀ Ds : List Deed, L = Ds.map eD → Ds = q.deeds.take at_ ++ [D] ++ q.deeds.drop j := fun Ds e => (eDs_inj (hLm.symm.trans e)).symm
    refine ⟨fun e => ?_, fun n e1 _ e3 => ?_, fun n _ _ _ e4 => ?_, fun n ds Ds i e1 _ _ e4 _ e6 _ e8 => ?_, fun n ds Ds e1 _ _ e4 _ _ _ _ e9 => ?_, fun n ks Ds e1 _ _ _ e5 _ _ _ e8 => ?_⟩
    · rw [nameD_eN nm] at e; cases e
    · rw [isn e1, ck] at e3; cases e3
    · have := e4 L rfl; omega
    · cases e4
      rw [fb, List.take_length] at e6
      rw [isn e1, isDs Ds e6, stopAt] at e8
      have := Option.some.inj e8
      show some (1 + i) = some (at_ + 1)
      rw [← this, Nat.add_comm]
    · cases e4
      omega
    · have := PyData.list.inj e5
      rw [isn e1, isDs Ds this, stopAt] at e8
      cases e8
end K1
set_option Elab.async false
set_option linter.all false
set_option maxRecDepth 100000
set_option maxHeartbeats 400000
/-! tuple(..), list(..), [..] * n as expressions that make data. -/
namespace K1
open PySem PySem.Spec PyProof.Rows L2
section
variable {R : Type} {X : Cx} {K : PySem.W.Frag} {A : R → L2.St → Hp → Prop} {e e2 : Expr} {es : List Expr} {b b2 : R → PyData} {bs : R → List PyData} {pos : Pos}
theorem de_lstRep {k : Int} {pos2 : Pos} (m : Mon A) (h : DA X K A es bs) (h2 : DE X K A e2 (fun _ => .int k)) (l : ∀ r, (bs r).length ≤ 10) (k0 : 0 ≤ k := by decide) (k1 : k ≤ 1000 := by decide) :
    DE X K A (.BinOp (.List es pos2) .Mult e2 pos) (fun r => .list (List.replicate k.toNat (bs r)).flatten) := fun r =>
  (pe_op op_rep (pe_lst (h r)) (h2 r)).con fun σ H Q w => ⟨w.1, fun vs H1 k1' d1 => ⟨da_len d1 (by have := l r; omega), fun p hp => ⟨m r σ H _ w.1 (k1'.trans (Kp.new hp)), fun v2 H2 k2' d2 => by
    cases Dp.intI d2
    have hl : H2 p = some (.lst vs) := k2' _ _ upd_same
    have dv := Dp.subs ((Kp.new (o := .lst vs) hp).trans k2').sub _ _ d1
    refine ⟨p, k, vs, rfl, rfl, hl, by omega, by omega, ?_, fun q hq => w.2 _ _ (((k1'.trans (Kp.new hp)).trans k2').trans (Kp.new hq)) (.lst (.inl (.inl upd_same)) (Dp.subs (Sub.new hq) _ _ (rep_all dv _)))⟩
    have h1 := l r
    rw [DpAll.len d1]
    exact small_le (Nat.le_trans (Nat.mul_le_mul h1 (show k.toNat ≤ 1000 by omega)) (by decide))⟩⟩⟩
theorem de_tupOf {bs : R → List PyData} {p : Pos} (h : DE X K A e (fun r => .list (bs r))) (hg : Gl X "tuple") (hm : X.mg "tuple" = none) (hv : bootBuiltins "tuple" = some (.type "tuple") := by decide +kernel) (hK : X.K = K := by rfl)
    (he : starEach (e :: []) X.env = (false, eval e X.env) :: starEach [] X.env := by rfl) (hpl : (backTo pos (starEach [] X.env)).any (·.1) = false := by rfl) : DE X K A (.Call (.Name "tuple" p) [e] [] pos) (fun r => .tuple (bs r)) := fun r => by
  subst hK
  refine (pe_callTy call_tuple_of hg hm hv (pa_cons (h r) pa_nil he) (by decide) (by decide) he hpl).con fun σ H Q w => ⟨w.1, fun v H1 k1 d1 => ?_⟩
  obtain ⟨a, xs, rfl, S1, q1⟩ := Dp.lstI d1
  exact ⟨a, xs, rfl, .inl ⟨S1, fun p hp => w.2 _ _ (k1.trans (Kp.new hp)) (.tup (.inl (.inl upd_same)) (Dp.subs (Sub.new hp) _ _ q1))⟩⟩
end
end K1
set_option Elab.async false
set_option linter.all false
set_option maxRecDepth 100000
set_option maxHeartbeats 4000000
/-! What is refused at 0, and what isn't refused. -/
namespace K1
open PySem PySem.Spec PyProof.Rows L2
theorem ref_name {dn dk dd : PyData} (h : nameD dn = false) : RefX dn dk dd (fun r => r = some 0) := by
  have no : ∀ {n : Nm}, dn = eN n → NmOk n → False := fun e o => by
    rw [e, nameD_eN o] at h
    cases h
  exact ⟨fun _ => rfl, fun n e o _ => (no e o).elim, fun n e o _ _ => (no e o).elim, fun n ds Ds i e o _ _ _ _ _ _ => (no e o).elim, fun n ds Ds e o _ _ _ _ _ _ _ => (no e o).elim, fun n ks Ds e o _ _ _ _ _ _ _ => (no e o).elim⟩
theorem ref_know {n : Nm} {dk dd : PyData} (o : NmOk n) (h : canKnowD n dk = false) : RefX (eN n) dk dd (fun r => r = some 0) := by
  have no : ∀ {m : Nm}, eN n = eN m → canKnowD m dk = true → False := fun e c => by
    rw [← eN_inj e, h] at c
    cases c
  exact ⟨fun _ => rfl, fun m _ _ _ => rfl, fun m e _ c _ => (no e c).elim, fun m ds Ds i e _ c _ _ _ _ _ => (no e c).elim, fun m ds Ds e _ c _ _ _ _ _ _ => (no e c).elim, fun m ks Ds e _ c _ _ _ _ _ _ => (no e c).elim⟩
theorem ref_list {n : Nm} {dk dd : PyData} (o : NmOk n) (h : ∀ ds, dd = .list ds → 400 < ds.length) : RefX (eN n) dk dd (fun r => r = some 0) := by
  exact ⟨fun _ => rfl, fun m _ _ _ => rfl, fun m _ _ _ _ => rfl, fun m ds Ds i _ _ _ e l _ _ _ => absurd (h ds e) (by omega), fun m ds Ds _ _ _ e l _ _ _ _ => absurd (h ds e) (by omega), fun m ks Ds _ _ _ _ e _ l _ _ => absurd (h _ e) (by rw [List.length_map]; omega)⟩
theorem rep_one {α : Type} (x : α) : ∀ n, (List.replicate n [x]).flatten = List.replicate n x
  | 0 => rfl
  | n + 1 => by rw [List.replicate_succ, List.flatten_cons, rep_one x n]; rfl
theorem putStop_rep {n : Nm} {d : Deed} (h : ∀ m : Int, canDoB n m d = true) : ∀ (c m : Nat), putStop n m (List.replicate c d) = none
  | 0, _ => rfl
  | c + 1, m => by
    rw [List.replicate_succ]
    unfold putStop
    rw [if_pos (h m), putStop_rep h c]
    rfl
def cutQ : PyData := .tuple [.str "cut", .tuple [.str "q", .int 1, .int 1]]
theorem cutQ_is : cutQ = eD (.one false lineQ) := rfl
def nmQ : Nm := ("q", 1)
theorem nmQ_ok : NmOk nmQ := ⟨by decide +kernel, by decide, by decide⟩
theorem ref_good {n : Nm} (o : NmOk n) (ne : n ≠ nmQ) : RefX (eN n) (.list [eN nmQ]) (.list (List.replicate 400 cutQ)) (fun r => r = none) := by
  have isn : ∀ {m : Nm}, eN n = eN m → m = n := fun e => (eN_inj e).symm
  have ck : canKnowD n (.list [eN nmQ]) = true := know_ok (ks := [nmQ]) (b := none) (fun k hk => by rw [List.mem_singleton.mp hk]; exact nmQ_ok) (List.pairwise_singleton _ _) (fun hk => ne (List.mem_singleton.mp hk)) (fun _ z => nomatch z)
  have can : ∀ m : Int, canDoB n m (.one false lineQ) = true := fun m => by
    show (!ownBad n m lineQ) = true
    unfold ownBad
    rw [decide_eq_false (show ¬ nmOf lineQ = n from fun z => ne z.symm), Bool.and_false]
    rfl
  have all : ∀ e ∈ List.replicate 400 cutQ, isDeedD e = true := fun e he => by
    rw [List.eq_of_mem_replicate he]
    decide +kernel
  have fb : firstBad (List.replicate 400 cutQ) = 400 := by rw [firstBad_all all, List.length_replicate]
  have rm : List.replicate 400 cutQ = (List.replicate 400 (Deed.one false lineQ)).map eD := by rw [List.map_replicate]; rfl
  have isDs : ∀ Ds : List Deed, List.replicate 400 cutQ = Ds.map eD → Ds = List.replicate 400 (Deed.one false lineQ) := fun Ds e => (eDs_inj (rm.symm.trans e)).symm
  refine ⟨fun e => ?_, fun m e1 _ e3 => ?_, fun m _ _ _ e4 => ?_, fun m ds Ds i e1 _ _ e4 _ e6 _ e8 => ?_, fun m ds Ds e1 _ _ e4 _ _ _ _ e9 => ?_, fun m ks Ds e1 _ _ _ e5 _ _ _ e8 => rfl⟩
  · rw [nameD_eN o] at e; cases e
  · rw [isn e1, ck] at e3; cases e3
  · have := e4 _ rfl
    rw [List.length_replicate] at this
    omega
  · cases e4
    rw [fb, List.take_of_length_le (by rw [List.length_replicate]; exact Nat.le_refl _)] at e6
    rw [isn e1, isDs Ds e6, putStop_rep can] at e8
    cases e8
  · cases e4
    rw [fb, List.length_replicate] at e9
    omega
/-- what is no name -/
def odds : List PyData := [.tuple [.str "a", .int 0], .tuple [.str "a", .int 1000], .tuple [.str "none", .int 1], .list [.str "a", .int 1], .tuple [.str "a", .bool true], .tuple [.str "a"], .none, .str "a.1"]
theorem odds_no : ∀ x ∈ odds, nameD x = false ∧ okD x = true := by decide +kernel
/-- what can't be known -/
def others (n : Nm) (ks : List PyData) : List PyData := [.tuple ks, .list [eN n], .list [.tuple [.str "b", .int 2], .tuple [.str "a", .int 2]], .list [.tuple [.str "q", .int 1], .tuple [.str "q", .int 1]], .list [.none], .none, .list [.str "q.1"]]
theorem knowNext_no {n m : Nm} {b : Option Nm} {r : Bool} (h : r = false) : knowNext n b m r = false := by
  unfold knowNext
  split
  · rfl
  · split
    · split
      · exact h
      · rfl
    · exact h
theorem others_no {n : Nm} {ks : List PyData} (o : NmOk n) (ok : okD.okDs ks = true) : ∀ x ∈ others n ks, canKnowD n x = false ∧ okD x = true := by
  have two : ∀ {a b : Nm}, NmOk a → NmOk b → nmLt a b = false → knowOk n none [eN a, eN b] = false := fun {a b} oa ob lt => by
    unfold knowOk
    rw [nmOf_eN oa]
    refine knowNext_no ?_
    unfold knowOk
    rw [nmOf_eN ob]
    show knowNext n (some a) b _ = false
    unfold knowNext
    split
    · rfl
    · show (if nmLt a b = true then _ else false) = false
      rw [lt]
      rfl
  intro x hx
  simp only [others, List.mem_cons, List.not_mem_nil, or_false] at hx
  rcases hx with rfl | rfl | rfl | rfl | rfl | rfl | rfl
  · exact ⟨rfl, ok⟩
  · refine ⟨?_, ?_⟩
    · show knowOk n none [eN n] = false
      unfold knowOk
      rw [nmOf_eN o]
      show knowNext n none n _ = false
      unfold knowNext
      rw [if_pos rfl]
    · have := handOk o.1
      show (((decide (n.1.length ≤ 1000) && PyData.strOk n.1) && (true && true)) && true) = true
      rw [this.1, decide_eq_true (show n.1.length ≤ 1000 by omega)]
      rfl
  · exact ⟨two (a := ("b", 2)) (b := ("a", 2)) ⟨by decide +kernel, by decide, by decide⟩ ⟨by decide +kernel, by decide, by decide⟩ (by decide +kernel), by decide +kernel⟩
  · exact ⟨two nmQ_ok nmQ_ok (by decide +kernel), by decide +kernel⟩
  · exact ⟨rfl, by decide +kernel⟩
  · exact ⟨rfl, by decide +kernel⟩
  · exact ⟨rfl, by decide +kernel⟩
theorem okDs_map {α : Type} {f : α → PyData} : ∀ {l : List α}, (∀ x ∈ l, okD (f x) = true) → okD.okDs (l.map f) = true
  | [], _ => by simp [okD.okDs]
  | x :: r, h => by
    rw [List.map_cons]
    unfold okD.okDs
    rw [h x List.mem_cons_self, okDs_map fun y hy => h y (List.mem_cons_of_mem _ hy)]
    rfl
theorem okD_eN {n : Nm} (o : NmOk n) : okD (eN n) = true := by
  have := handOk o.1
  show ((decide (n.1.length ≤ 1000) && PyData.strOk n.1) && (true && true)) = true
  rw [this.1, decide_eq_true (show n.1.length ≤ 1000 by omega)]
  rfl
theorem okD_eL {l : Ln} (o : EdOk l) : okD (eL l) = true := by
  rcases o with o | rfl | rfl
  · have := handOk o.1.1
    have h1 : PyData.strOk l.1 = true := this.1
    have h2 : l.1.length ≤ 8 := this.2
    show ((decide (l.1.length ≤ 1000) && PyData.strOk l.1) && (true && (true && true))) = true
    rw [h1, decide_eq_true (show l.1.length ≤ 1000 by omega)]
    rfl
  · decide +kernel
  · decide +kernel
theorem okD_eD {d : Deed} (o : d.ok) : okD (eD d) = true := by
  cases d with
  | one c a =>
    show (okD (.str (kindS c)) && (okD (eL a) && true)) = true
    rw [okD_eL (.inl o)]
    cases c <;> decide +kernel
  | order a b =>
    show (okD (.str "order") && (okD (eL a) && (okD (eL b) && true))) = true
    rw [okD_eL (.inl o.1), okD_eL (.inl o.2)]
    decide +kernel
  | put a b ts =>
    have ht : okD.okDs (ts.map PyData.str) = true := okDs_map fun t m => by
      have := o.2.2 t m
      show (decide (t.length ≤ 1000) && PyData.strOk t) = true
      rw [this.1, decide_eq_true (show t.length ≤ 1000 by have := this.2.1; omega)]
      rfl
    show (okD (.str "put") && (okD (eL a) && (okD (eL b) && (okD.okDs (ts.map PyData.str) && true)))) = true
    rw [okD_eL o.1, okD_eL o.2.1, ht]
    decide +kernel
end K1
set_option Elab.async false
set_option linter.all false
set_option maxRecDepth 100000
set_option maxHeartbeats 4000000
/-! The law's def _law_heads_refused. -/
namespace K1
open PySem PySem.Spec PyProof.Rows L2
structure HeadR where
  n : Nm
  ks : List PyData
section
variable {P : Program} {w : World} {K : PySem.W.Frag} {mg : Str → Option Value} {base : Heap} {T : Tp}
def spHeads (K : PySem.W.Frag) (T : Tp) : Sp := fun vs H Q _ => ∃ (d : Addr) (nv kv dv : V) (q : Pat), vs = [.ref d, nv, kv, dv] ∧ St H d ∧ Dp K H nv (eN q.name) ∧ Dp K H kv (.list (q.knows.map eN)) ∧ Dp K H dv (.list (q.deeds.map eD)) ∧ q.good ∧ q.name ≠ nmQ ∧ TG T H ∧
  ∀ H', Go T (· = d) H H' → St H' d → Q (.bl true) H'
theorem ok_lheads {f : Addr} {fd : FuncData} {k : Nat} (Fn : Fun K "_law_heads_refused" "_law_heads_refused" sLHeadsRefused f fd) (M : Mg K mg) (cD : Cal P w K mg base k "_law_digit" ["_law_state", "_law_many"] spDigit) (cR : Cal P w K mg base k "_law_refused" ["_law_name", "_law_knows", "_law_deeds"] (spRefused K T)) :
    FnOk P w K mg base CX0 (k + 1) f fd ["_law_state", "_law_name", "_law_knows", "_law_deeds"] (spHeads K T) := by
  refine Fn.ok scLHeadsRefused (fun vs H Q E h => ?_) (fun cdv A outer s H vs Q E hr h => ?_)
  · obtain ⟨d, nv, kv, dv, q, rfl, _⟩ := h
    rfl
  · obtain ⟨d, nv, kv, dv, q, rfl, st, dn, dk, dd, good, ne, tg, qq⟩ := h
    refine ⟨_, (pss_cons (ps_set (i := 4) scLHeadsRefused.nd rfl (.inl rfl) (pe_ix ix_list (DE.pe (K := K) (A := EnvA K ([] : List (Nat × (HeadR → PyData)))) (de_lst (da_cons mon_env (de_tup (da_cons mon_env de_str (da_cons mon_env de_int da_nil)) (fun _ => by show 2 ≤ 10000; decide)) (da_cons mon_env (de_tup (da_cons mon_env de_str (da_cons mon_env de_int da_nil)) (fun _ => by show 2 ≤ 10000; decide)) (da_cons mon_env (de_tup (da_cons mon_env de_str (da_cons mon_env de_int da_nil)) (fun _ => by show 2 ≤ 10000; decide)) (da_cons mon_env (de_lst (da_cons mon_env de_str (da_cons mon_env de_int da_nil)) (fun _ => by show 2 ≤ 10000; decide)) (da_cons mon_env (de_tup (da_cons mon_env de_str (da_cons mon_env de_bl da_nil)) (fun _ => by show 2 ≤ 10000; decide)) (da_cons mon_env (de_tup (da_cons mon_env de_str da_nil) (fun _ => by show 1 ≤ 10000; decide)) (da_cons mon_env de_non (da_cons mon_env de_str da_nil)))))))) (fun _ => by show 8 ≤ 10000; decide))) (pe_cal cD hr (by rfl) (pa_cons (pv 0) (pa_cons pe_int pa_nil))) (fun _ _ => rfl)))
      (pss_cons (ps_set (i := 5) scLHeadsRefused.nd rfl (.inl rfl) (DE.pe (K := K) (A := EnvA K ([(1, fun r : HeadR => eN r.n), (2, fun r : HeadR => .list r.ks)] : List (Nat × (HeadR → PyData)))) (de_lst (da_cons mon_env (de_tupOf (de_env (i := 2) (.tail _ (.head _))) (by rfl) M.tuple_) (da_cons mon_env (de_lst (da_cons mon_env (de_env (i := 1) (.head _)) da_nil) (fun _ => by show 1 ≤ 10000; decide)) (da_cons mon_env (de_lst (da_cons mon_env (de_tup (da_cons mon_env de_str (da_cons mon_env de_int da_nil)) (fun _ => by show 2 ≤ 10000; decide)) (da_cons mon_env (de_tup (da_cons mon_env de_str (da_cons mon_env de_int da_nil)) (fun _ => by show 2 ≤ 10000; decide)) da_nil)) (fun _ => by show 2 ≤ 10000; decide)) (da_cons mon_env (de_lst (da_cons mon_env (de_tup (da_cons mon_env de_str (da_cons mon_env de_int da_nil)) (fun _ => by show 2 ≤ 10000; decide)) (da_cons mon_env (de_tup (da_cons mon_env de_str (da_cons mon_env de_int da_nil)) (fun _ => by show 2 ≤ 10000; decide)) da_nil)) (fun _ => by show 2 ≤ 10000; decide)) (da_cons mon_env (de_lst (da_cons mon_env de_non da_nil) (fun _ => by show 1 ≤ 10000; decide)) (da_cons mon_env de_non (da_cons mon_env (de_lst (da_cons mon_env de_str da_nil) (fun _ => by show 1 ≤ 10000; decide)) da_nil))))))) (fun _ => by show 7 ≤ 10000; decide))))
      (pss_cons (ps_set (i := 6) scLHeadsRefused.nd rfl (.inl rfl) (pe_ix ix_list (pv 5) (pe_cal cD hr (by rfl) (pa_cons (pv 0) (pa_cons pe_int pa_nil))) (fun _ _ => rfl)))
      (pss_cons (ps_if (PW.pt (pw_or (pt_cmpR op_ne (pe_cal cR hr (by rfl) (pa_cons (pv 4) (pa_cons (pv 2) (pa_cons (pv 3) pa_nil)))) pe_int (nomark _)) (pw_or1 (pt_cmpR op_ne (pe_cal cR hr (by rfl) (pa_cons (pv 1) (pa_cons (pv 6) (pa_cons (pv 3) pa_nil)))) pe_int (nomark _)))))
      (pss_one (ps_ret pe_bl))
      pss_nil)
      (pss_cons (ps_set (i := 7) scLHeadsRefused.nd rfl (.inl rfl) (pe_ix ix_list (pe_lst (pa_cons (pe_callTy call_tuple_of (by rfl) M.tuple_ (by decide +kernel) (pa_cons (pv 3) pa_nil)) (pa_cons pe_non (pa_cons pe_dnewK (pa_cons (DE.pe (K := K) (A := EnvA K ([] : List (Nat × (HeadR → PyData)))) (de_lstRep mon_env (da_cons mon_env (de_tup (da_cons mon_env de_str (da_cons mon_env (de_tup (da_cons mon_env de_str (da_cons mon_env de_int (da_cons mon_env de_int da_nil))) (fun _ => by show 3 ≤ 10000; decide)) da_nil)) (fun _ => by show 2 ≤ 10000; decide)) da_nil) de_int (fun _ => by show 1 ≤ 10; decide))) pa_nil))))) (pe_cal cD hr (by rfl) (pa_cons (pv 0) (pa_cons pe_int pa_nil))) (fun _ _ => rfl)))
      (pss_one (ps_ret (pe_and (pe_cmpR op_eq (pe_cal cR hr (by rfl) (pa_cons (pv 1) (pa_cons (pv 2) (pa_cons (pv 7) pa_nil)))) pe_int (nomark _)) (pe_one (pe_cmpR op_isN (pe_cal cR hr (by rfl) (pa_cons (pv 1) (pa_cons (DE.pe (K := K) (A := EnvA K ([] : List (Nat × (HeadR → PyData)))) (de_lst (da_cons mon_env (de_tup (da_cons mon_env de_str (da_cons mon_env de_int da_nil)) (fun _ => by show 2 ≤ 10000; decide)) da_nil) (fun _ => by show 1 ≤ 10000; decide))) (pa_cons (DE.pe (K := K) (A := EnvA K ([] : List (Nat × (HeadR → PyData)))) (de_lstRep mon_env (da_cons mon_env (de_tup (da_cons mon_env de_str (da_cons mon_env (de_tup (da_cons mon_env de_str (da_cons mon_env de_int (da_cons mon_env de_int da_nil))) (fun _ => by show 3 ≤ 10000; decide)) da_nil)) (fun _ => by show 2 ≤ 10000; decide)) da_nil) de_int (fun _ => by show 1 ≤ 10; decide))) pa_nil)))) pe_non (nomark _))))))))))), ?_⟩
    have nm := good.ok.name
    have oN := okD_eN nm
    have oK : okD (.list (q.knows.map eN)) = true := okDs_map fun n hn => okD_eN (good.ok.knows n hn)
    have oD : okD (.list (q.deeds.map eD)) = true := okDs_map fun d hd => okD_eD (good.ok.deeds d hd)
    have toD : ∀ {H'}, Go T (· = d) H H' → Sub H H' := fun g => st.sub g tg
    have up : ∀ {H1 H2 : Hp}, Go T D0 H1 H2 → Go T (· = d) H1 H2 := fun g => g.mono fun _ z => z.elim
    -- odd
    refine ⟨⟨q.name, q.knows.map eN⟩, env_nil, fun v1 H1 k1 p1 => ?_⟩
    have p1' : Dp K H1 v1 (.list odds) := p1
    have g1 : Go T (· = d) H H1 := up (k1.go tg)
    have st1 := st.go (k1.go tg) tg
    obtain ⟨a1, b1, a0, b0, ed⟩ := _root_.id st1
    refine ⟨.ref d, rfl, d, a1, b1, 8, rfl, ed, a0, b0, by decide, by decide, dg g1.1 ed fun r1 H2 r10 r11 g12 st2 => ?_⟩
    obtain ⟨l1, xs1, rfl, S1, dx1⟩ := Dp.lstI (Dp.sub (st1.sub g12 g1.1) _ _ p1')
    have xl1 : xs1.length = 8 := by rw [DpAll.len dx1]; rfl
    obtain ⟨x1, hx1, ax1⟩ := atI_int (xs := xs1) (j := r1) r10 (by omega)
    obtain ⟨y1, hy1, hv1⟩ := DpAll.at' dx1 hx1
    obtain ⟨no1, ok1⟩ := odds_no y1 (List.mem_of_getElem? hy1)
    have g2 := g1.trans g12
    refine ⟨l1, xs1, r1, x1, rfl, rfl, S1, ax1, ?_⟩
    clear p1 p1' dx1 S1 ax1 hx1
    -- others
    refine ⟨⟨q.name, q.knows.map eN⟩, env_cons ⟨nv, rfl, Dp.sub (toD g2) _ _ dn⟩ (env_cons ⟨kv, rfl, Dp.sub (toD g2) _ _ dk⟩ env_nil), fun v3 H3 k3 p3 => ?_⟩
    have p3' : Dp K H3 v3 (.list (others q.name (q.knows.map eN))) := p3
    have g3 : Go T (· = d) H H3 := g2.trans (up (k3.go g2.1))
    have st3 := st2.go (k3.go g2.1) g2.1
    have hv3 := Dp.sub k3.sub _ _ hv1
    obtain ⟨a3, b3, a30, b30, ed3⟩ := _root_.id st3
    refine ⟨v3, rfl, .ref d, rfl, d, a3, b3, 7, rfl, ed3, a30, b30, by decide, by decide, dg g3.1 ed3 fun r3 H4 r30 r31 g34 st4 => ?_⟩
    have s34 := st3.sub g34 g3.1
    obtain ⟨l3, xs3, rfl, S3, dx3⟩ := Dp.lstI (Dp.sub s34 _ _ p3')
    have xl3 : xs3.length = 7 := by rw [DpAll.len dx3]; rfl
    obtain ⟨x3, hx3, ax3⟩ := atI_int (xs := xs3) (j := r3) r30 (by omega)
    obtain ⟨y3, hy3, hw3⟩ := DpAll.at' dx3 hx3
    obtain ⟨no3, ok3⟩ := others_no nm oK y3 (List.mem_of_getElem? hy3)
    have hv4 := Dp.sub s34 _ _ hv3
    have g4 := g3.trans g34
    refine ⟨l3, xs3, r3, x3, rfl, rfl, S3, ax3, ?_⟩
    clear p3 p3' dx3 S3 ax3 hx3 hv3 hv1
    -- the two refusals
    refine ⟨x1, rfl, kv, rfl, dv, rfl, x1, kv, dv, y1, _, _, (fun r => r = some 0), rfl, hv4, Dp.sub (toD g4) _ _ dk, .inl ⟨Dp.sub (toD g4) _ _ dd, oD⟩, ok1, oK, g4.1, ref_name no1, fun r hr5 H5 g5 => ?_⟩
    subst hr5
    have g45 := g4.trans (up g5)
    have hw5 := Dp.sub (sub_go g5 g4.1) _ _ hw3
    have st5 := st4.go g5 g4.1
    refine ⟨rfl, _, rfl, ite2 (fun e => absurd e (by decide +kernel)) (fun _ => ?_)⟩
    refine ⟨nv, rfl, x3, rfl, dv, rfl, nv, x3, dv, _, y3, _, (fun r => r = some 0), rfl, Dp.sub (toD g45) _ _ dn, hw5, .inl ⟨Dp.sub (toD g45) _ _ dd, oD⟩, oN, ok3, g45.1, ref_know nm no3, fun r hr6 H6 g6 => ?_⟩
    subst hr6
    have g7 := g45.trans (up g6)
    have st6 := st5.go g6 g45.1
    refine ⟨rfl, _, rfl, ite2 (fun e => absurd e (by decide +kernel)) (fun _ => ?_)⟩
    -- rest
    have dd6 := Dp.sub (toD g7) _ _ dd
    obtain ⟨dl, dvs, rfl, Sd, dds⟩ := Dp.lstI dd6
    refine ⟨.ref dl, rfl, dl, dvs, rfl, .inl ⟨Sd, fun t ht => ?_⟩⟩
    have g8 := g7.new (o := .tup dvs) ht
    have st8 := st6.new (o := .tup dvs) ht
    have t8 : (upd H6 t (.tup dvs)) t = some (.tup dvs) := upd_same
    have dds8 := Dp.subs (Sub.new (o := .tup dvs) ht) _ _ dds
    generalize upd H6 t (.tup dvs) = H8 at g8 st8 t8 dds8 ⊢
    intro e he
    have g9 := g8.new (o := .dK []) he
    have st9 := st8.new (o := .dK []) he
    have t9 := (upd_ne (o := .dK []) (ne_of_none t8 he)).trans t8
    have e9 : (upd H8 e (.dK [])) e = some (.dK []) := upd_same
    have dds9 := Dp.subs (Sub.new (o := .dK []) he) _ _ dds8
    have ned : e ≠ d := by
      obtain ⟨a, b, _, _, z⟩ := st8
      intro w
      rw [w, z] at he
      cases he
    generalize upd H8 e (.dK []) = H9 at g9 st9 t9 e9 dds9 ⊢
    refine ⟨⟨q.name, q.knows.map eN⟩, env_nil, fun v10 H10 k10 p10 => ?_⟩
    have p10' : Dp K H10 v10 (.list (List.replicate 401 cutQ)) := by
      have z : Dp K H10 v10 (.list (List.replicate 401 [cutQ]).flatten) := p10
      rwa [rep_one] at z
    have st10 := st9.go (k10.go g9.1) g9.1
    have g10 := g9.trans (up (k10.go g9.1))
    have t10 := k10 _ _ t9
    have e10 := k10 _ _ e9
    have dds10 := Dp.subs k10.sub _ _ dds9
    refine ⟨small_le (by show 4 ≤ 10000; decide), fun L hL => ?_⟩
    have g11 := g10.new (o := .lst [.ref t, .non, .ref e, v10]) hL
    have st11 := st10.new (o := .lst [.ref t, .non, .ref e, v10]) hL
    have t11 := (upd_ne (o := .lst [.ref t, .non, .ref e, v10]) (ne_of_none t10 hL)).trans t10
    have e11 := (upd_ne (o := .lst [.ref t, .non, .ref e, v10]) (ne_of_none e10 hL)).trans e10
    have dds11 := Dp.subs (Sub.new (o := .lst [.ref t, .non, .ref e, v10]) hL) _ _ dds10
    have p11 := Dp.sub (Sub.new (o := .lst [.ref t, .non, .ref e, v10]) hL) _ _ p10'
    have L11 : (upd H10 L (.lst [.ref t, .non, .ref e, v10])) L = some (.lst [.ref t, .non, .ref e, v10]) := upd_same
    generalize upd H10 L (.lst [.ref t, .non, .ref e, v10]) = H11 at g11 st11 t11 e11 dds11 p11 L11 ⊢
    clear p10 p10' st10 t10 e10 dds10 dds9 t9 e9 st9 g9 dds8 t8 st8 g8
    obtain ⟨a4, b4, a40, b40, ed4⟩ := _root_.id st11
    refine ⟨.ref d, rfl, d, a4, b4, 4, rfl, ed4, a40, b40, by decide, by decide, dg g11.1 ed4 fun r4 H12 r40 r41 g1112 st12 => ?_⟩
    have s12 := st11.sub g1112 g11.1
    have g12' := g11.trans g1112
    obtain ⟨u, hu, au⟩ := atI_int (xs := [V.ref t, .non, .ref e, v10]) (j := r4) r40 (by show r4 < 4; omega)
    refine ⟨L, _, r4, u, rfl, rfl, s12.seqL (.inl (.inl L11)), au, ?_⟩
    obtain ⟨du, thu, nou⟩ : ∃ du, ThgD K H12 u du ∧ ∀ ds, du = .list ds → 400 < ds.length := by
      have m := List.mem_of_getElem? hu
      simp only [List.mem_cons, List.not_mem_nil, or_false] at m
      rcases m with rfl | rfl | rfl | rfl
      · exact ⟨.tuple (q.deeds.map eD), .inl ⟨.tup (s12.seqT (.inl (.inl t11))) (Dp.subs s12 _ _ dds11), oD⟩, fun _ z => nomatch z⟩
      · exact ⟨.none, .inl ⟨.non, rfl⟩, fun _ z => nomatch z⟩
      · exact ⟨.dict [], .inr ⟨rfl, e, [], rfl, g1112.at g11.1 ned e11⟩, fun _ z => nomatch z⟩
      · refine ⟨.list (List.replicate 401 cutQ), .inl ⟨Dp.sub s12 _ _ p11, by decide +kernel⟩, fun ds z => ?_⟩
        rw [← PyData.list.inj z, List.length_replicate]
        decide
    clear t11 e11 dds11 p11 L11 hu au
    -- the last two
    refine ⟨nv, rfl, kv, rfl, u, rfl, nv, kv, u, _, _, du, (fun r => r = some 0), rfl, Dp.sub (toD g12') _ _ dn, Dp.sub (toD g12') _ _ dk, thu, oN, oK, g12'.1, ref_list nm nou, fun r hr7 H13 g13 => ?_⟩
    subst hr7
    have g14 := g12'.trans (up g13)
    have st13 := st12.go g13 g12'.1
    refine ⟨rfl, _, rfl, ite2 (fun _ => ?_) (fun e => absurd (show decide (V.int ((0 : Nat) : Int) = V.int 0) = true by decide +kernel) e)⟩
    refine ⟨nv, rfl, ⟨q.name, q.knows.map eN⟩, env_nil, fun v15 H15 k15 p15 => ⟨⟨q.name, q.knows.map eN⟩, env_nil, fun v16 H16 k16 p16 => ?_⟩⟩
    have p16' : Dp K H16 v16 (.list (List.replicate 400 cutQ)) := by
      have z : Dp K H16 v16 (.list (List.replicate 400 [cutQ]).flatten) := p16
      rwa [rep_one] at z
    have k1516 := k15.trans k16
    have g16 := g14.trans (up (k1516.go g14.1))
    have st16 := st13.go (k1516.go g14.1) g14.1
    refine ⟨nv, v15, v16, _, .list [eN nmQ], _, (fun r => r = none), rfl, Dp.sub (toD g16) _ _ dn, Dp.sub k16.sub _ _ p15, .inl ⟨p16', by decide +kernel⟩, oN, by decide +kernel, g16.1, ref_good nm ne, fun r hr8 H17 g17 => ?_⟩
    subst hr8
    refine ⟨rfl, ?_⟩
    have := qq H17 (g16.trans (up g17)) (st16.go g17 g16.1)
    rwa [show decide (retN none = V.non) = true from decide_eq_true rfl]
end
end K1
set_option Elab.async false
set_option linter.all false
set_option maxRecDepth 100000
set_option maxHeartbeats 1000000
/-! The other refusals' own __init__. -/
namespace K1
open PySem PySem.Spec PyProof.Rows L2
section
variable {P : Program} {w : World} {K : PySem.W.Frag} {mg : Str → Option Value} {base : Heap}
def spTextInit (K : PySem.W.Frag) (C : Addr) (x : Str) : Sp := fun vs H Q _ => ∃ (a : Addr) (v : V), vs = [.ref a, v] ∧ OexC K C ∧ PySem.W.findIn K (.ref C) x = some none ∧ H a = some (exo a C none) ∧
  ∀ dx, H dx = none → dx ≠ a → Q .non (upd (upd H dx (exd dx [(x, v)])) a (exo a C (some dx)))
def spListInit (K : PySem.W.Frag) (C : Addr) (x : Str) : Sp := fun vs H Q _ => ∃ (a l : Addr) (xs : List V), vs = [.ref a, .ref l] ∧ SqL K H l xs ∧ OexC K C ∧ PySem.W.findIn K (.ref C) x = some none ∧ H a = some (exo a C none) ∧
  ∀ p dx, H p = none → p ≠ a → H dx = none → dx ≠ p → dx ≠ a → Q .non (upd (upd (upd H p (.lst xs)) dx (exd dx [(x, .ref p)])) a (exo a C (some dx)))
def spRowInit (K : PySem.W.Frag) (C : Addr) : Sp := fun vs H Q _ => ∃ (a : Addr) (n m : Int), vs = [.ref a, .int n, .int m] ∧ 0 ≤ n ∧ n < 1000000 ∧ 0 ≤ m ∧ m < 1000000 ∧ OexC K C ∧ PySem.W.findIn K (.ref C) "row" = some none ∧ PySem.W.findIn K (.ref C) "word" = some none ∧ H a = some (exo a C none) ∧
  ∀ dx, H dx = none → dx ≠ a → Q .non (upd (upd (upd H dx (exd dx [("row", .int n)])) a (exo a C (some dx))) dx (exd dx [("word", .int m), ("row", .int n)]))
theorem ok_badpaper {f C : Addr} {fd : FuncData} {k : Nat} (F : Fun K "__init__" "BadPaper.__init__" sBadPaper_init f fd) (HE : HErr K mg) : FnOk P w K mg base CX0 (k + 1) f fd ["self", "step"] (spNumInit K C "step") := by
  obtain ⟨B, mc, mB, kB, RB, vB⟩ := HE.ex
  refine F.ok scBadPaper_init (fun vs H Q E h => ?_) (fun cdv A outer s H vs Q E hr h => ?_)
  · obtain ⟨a, n, rfl, _⟩ := h
    rfl
  · obtain ⟨a, n, rfl, n0, n1, T, hno, ea, q⟩ := h
    refine ⟨_, (pss_cons (ps_expr (pe_heinit (by rfl) mB kB RB vB (pa_cons (pv 0) (pa_cons (pe_joined (.cons pe_str (.cons (pe_fmt (pv 1)) .nil))) pa_nil))))
      (pss_one (ps_ost (pv 0) (pv 1)))), ?_⟩
    have pl : ("step " : Str).length = 5 := by decide +kernel
    have b4 := len_num n0 n1
    refine ⟨.ref a, rfl, "step ", rfl, small_le (by simp only [empty_app, pl]; omega), .int n, rfl, .inr ⟨n, rfl, log_small n0 n1, Str.ofString (toString n), rfl, small_le (by simp only [empty_app, len_app, pl]; omega), ?_⟩⟩
    refine ⟨a, C, _, rfl, by show 1 ≤ 1000; decide, T, ea, ?_⟩
    exact ⟨.int n, rfl, .ref a, rfl, a, C, rfl, T, hno, .inl ⟨ea, fun dx h1 h2 => q dx h1 h2⟩⟩
theorem ok_badpack {f C : Addr} {fd : FuncData} {k : Nat} (F : Fun K "__init__" "BadPack.__init__" sBadPack_init f fd) (HE : HErr K mg) : FnOk P w K mg base CX0 (k + 1) f fd ["self", "row"] (spNumInit K C "row") := by
  obtain ⟨B, mc, mB, kB, RB, vB⟩ := HE.ex
  refine F.ok scBadPack_init (fun vs H Q E h => ?_) (fun cdv A outer s H vs Q E hr h => ?_)
  · obtain ⟨a, n, rfl, _⟩ := h
    rfl
  · obtain ⟨a, n, rfl, n0, n1, T, hno, ea, q⟩ := h
    refine ⟨_, (pss_cons (ps_expr (pe_heinit (by rfl) mB kB RB vB (pa_cons (pv 0) (pa_cons (pe_joined (.cons pe_str (.cons (pe_fmt (pv 1)) .nil))) pa_nil))))
      (pss_one (ps_ost (pv 0) (pv 1)))), ?_⟩
    have pl : ("row " : Str).length = 4 := by decide +kernel
    have b4 := len_num n0 n1
    refine ⟨.ref a, rfl, "row ", rfl, small_le (by simp only [empty_app, pl]; omega), .int n, rfl, .inr ⟨n, rfl, log_small n0 n1, Str.ofString (toString n), rfl, small_le (by simp only [empty_app, len_app, pl]; omega), ?_⟩⟩
    refine ⟨a, C, _, rfl, by show 1 ≤ 1000; decide, T, ea, ?_⟩
    exact ⟨.int n, rfl, .ref a, rfl, a, C, rfl, T, hno, .inl ⟨ea, fun dx h1 h2 => q dx h1 h2⟩⟩
theorem ok_unlike {f C : Addr} {fd : FuncData} {k : Nat} (F : Fun K "__init__" "Unlike.__init__" sUnlike_init f fd) (HE : HErr K mg) : FnOk P w K mg base CX0 (k + 1) f fd ["self", "name"] (spTextInit K C "name") := by
  obtain ⟨B, mc, mB, kB, RB, vB⟩ := HE.ex
  refine F.ok scUnlike_init (fun vs H Q E h => ?_) (fun cdv A outer s H vs Q E hr h => ?_)
  · obtain ⟨a, v, rfl, _⟩ := h
    rfl
  · obtain ⟨a, v, rfl, T, hno, ea, q⟩ := h
    refine ⟨_, (pss_cons (ps_expr (pe_heinit (by rfl) mB kB RB vB (pa_cons (pv 0) (pa_cons pe_str pa_nil))))
      (pss_one (ps_ost (pv 0) (pv 1)))), ?_⟩
    refine ⟨.ref a, rfl, a, C, _, rfl, by show 1 ≤ 1000; decide, T, ea, ?_⟩
    exact ⟨v, rfl, .ref a, rfl, a, C, rfl, T, hno, .inl ⟨ea, fun dx h1 h2 => q dx h1 h2⟩⟩
theorem ok_notclosed {f C : Addr} {fd : FuncData} {k : Nat} (F : Fun K "__init__" "NotClosed.__init__" sNotClosed_init f fd) (M : Mg K mg) (HE : HErr K mg) : FnOk P w K mg base CX0 (k + 1) f fd ["self", "lacking"] (spListInit K C "lacking") := by
  obtain ⟨B, mc, mB, kB, RB, vB⟩ := HE.ex
  refine F.ok scNotClosed_init (fun vs H Q E h => ?_) (fun cdv A outer s H vs Q E hr h => ?_)
  · obtain ⟨a, l, xs, rfl, _⟩ := h
    rfl
  · obtain ⟨a, l, xs, rfl, S, T, hno, ea, q⟩ := h
    refine ⟨_, (pss_cons (ps_expr (pe_heinit (by rfl) mB kB RB vB (pa_cons (pv 0) (pa_cons pe_str pa_nil))))
      (pss_one (ps_ost (pv 0) (pe_callTy call_list_of (by rfl) M.list_ (by decide +kernel) (pa_cons (pv 1) pa_nil))))), ?_⟩
    refine ⟨.ref a, rfl, a, C, _, rfl, by show 1 ≤ 1000; decide, T, ea, ?_⟩
    refine ⟨.ref l, rfl, l, xs, rfl, .inl S, fun p hp => ?_⟩
    have npa : p ≠ a := fun z => by rw [z, ea] at hp; cases hp
    refine ⟨.ref a, rfl, a, C, rfl, T, hno, .inl ⟨(upd_ne npa.symm).trans ea, fun dx h1 h2 => ?_⟩⟩
    have ndp : dx ≠ p := fun z => by rw [z, upd_same] at h1; cases h1
    rw [upd_ne ndp] at h1
    exact q p dx hp npa h1 ndp h2
theorem ok_hindered {f C : Addr} {fd : FuncData} {k : Nat} (F : Fun K "__init__" "Hindered.__init__" sHindered_init f fd) (M : Mg K mg) (HE : HErr K mg) : FnOk P w K mg base CX0 (k + 1) f fd ["self", "knowing"] (spListInit K C "knowing") := by
  obtain ⟨B, mc, mB, kB, RB, vB⟩ := HE.ex
  refine F.ok scHindered_init (fun vs H Q E h => ?_) (fun cdv A outer s H vs Q E hr h => ?_)
  · obtain ⟨a, l, xs, rfl, _⟩ := h
    rfl
  · obtain ⟨a, l, xs, rfl, S, T, hno, ea, q⟩ := h
    refine ⟨_, (pss_cons (ps_expr (pe_heinit (by rfl) mB kB RB vB (pa_cons (pv 0) (pa_cons pe_str pa_nil))))
      (pss_one (ps_ost (pv 0) (pe_callTy call_list_of (by rfl) M.list_ (by decide +kernel) (pa_cons (pv 1) pa_nil))))), ?_⟩
    refine ⟨.ref a, rfl, a, C, _, rfl, by show 1 ≤ 1000; decide, T, ea, ?_⟩
    refine ⟨.ref l, rfl, l, xs, rfl, .inl S, fun p hp => ?_⟩
    have npa : p ≠ a := fun z => by rw [z, ea] at hp; cases hp
    refine ⟨.ref a, rfl, a, C, rfl, T, hno, .inl ⟨(upd_ne npa.symm).trans ea, fun dx h1 h2 => ?_⟩⟩
    have ndp : dx ≠ p := fun z => by rw [z, upd_same] at h1; cases h1
    rw [upd_ne ndp] at h1
    exact q p dx hp npa h1 ndp h2
theorem ok_badrow {f C : Addr} {fd : FuncData} {k : Nat} (F : Fun K "__init__" "BadRow.__init__" sBadRow_init f fd) (HE : HErr K mg) : FnOk P w K mg base CX0 (k + 1) f fd ["self", "row", "word"] (spRowInit K C) := by
  obtain ⟨B, mc, mB, kB, RB, vB⟩ := HE.ex
  refine F.ok scBadRow_init (fun vs H Q E h => ?_) (fun cdv A outer s H vs Q E hr h => ?_)
  · obtain ⟨a, n, m, rfl, _⟩ := h
    rfl
  · obtain ⟨a, n, m, rfl, n0, n1, m0, m1, T, hno, hno2, ea, q⟩ := h
    refine ⟨_, (pss_cons (ps_expr (pe_heinit (by rfl) mB kB RB vB (pa_cons (pv 0) (pa_cons (pe_joined (.cons pe_str (.cons (pe_fmt (pv 1)) (.cons pe_str (.cons (pe_fmt (pv 2)) .nil))))) pa_nil))))
      (pss_cons (ps_ost (pv 0) (pv 1))
      (pss_one (ps_ost (pv 0) (pv 2))))), ?_⟩
    have pl : ("row " : Str).length = 4 := by decide +kernel
    have pl2 : (", word " : Str).length = 7 := by decide +kernel
    have b4 := len_num n0 n1
    have b5 := len_num m0 m1
    refine ⟨.ref a, rfl, "row ", rfl, small_le (by simp only [empty_app, pl]; omega), .int n, rfl, .inr ⟨n, rfl, log_small n0 n1, Str.ofString (toString n), rfl, small_le (by simp only [empty_app, len_app, pl]; omega), ?_⟩⟩
    refine ⟨", word ", rfl, small_le (by simp only [empty_app, len_app, pl, pl2]; omega), .int m, rfl, .inr ⟨m, rfl, log_small m0 m1, Str.ofString (toString m), rfl, small_le (by simp only [empty_app, len_app, pl, pl2]; omega), ?_⟩⟩
    refine ⟨a, C, _, rfl, by show 1 ≤ 1000; decide, T, ea, ?_⟩
    refine ⟨.int n, rfl, .ref a, rfl, a, C, rfl, T, hno, .inl ⟨ea, fun dx h1 h2 => ?_⟩⟩
    refine ⟨.int m, rfl, .ref a, rfl, a, C, rfl, T, hno2, .inr ⟨dx, _, upd_same, (upd_ne h2).trans upd_same, by show 1 ≤ 900; decide, q dx h1 h2⟩⟩
end
end K1
set_option Elab.async false
set_option linter.all false
set_option maxRecDepth 100000
set_option maxHeartbeats 1000000
/-! Refusals made by hand, as values. -/
namespace K1
open PySem PySem.Spec PyProof.Rows L2
/-- the class x at C, its own __init__ keeping sp -/
structure HeldC (P : Program) (w : World) (K : PySem.W.Frag) (mg : Str → Option Value) (base : Heap) (k : Nat) (x : Str) (ps : List Str) (C : Addr) (sp : Sp) : Prop where
  T : OexC K C
  at_ : mg x = some (.ref C)
  ex : ∃ (fI : Addr) (fd : FuncData), PySem.W.findIn K (.ref C) "__init__" = some (some (.ref fI)) ∧ PySem.W.typeIn K (.ref fI) = some (.type "function") ∧ FnOk P w K mg base CX0 k fI fd ps sp ∧ Binds K fd ps []
section
variable {X : Cx} {k j : Nat} {x f : Str} {C : Addr} {e e2 : Expr} {es : List Expr} {te te2 : TE} {ta : TA} {p pos : Pos} {sp : Sp} {ps : List Str}
theorem pe_held (N : HeldC X.prog X.w X.K X.mg X.base k x ps C sp) (hr : Room j X.A) (hk : k + 1 ≤ j) (hg : Gl X x) (ha : PA X (e :: es) ta)
    (hdb : (x == ("__debug__" : Str)) = false := by decide) (hs : starEach (e :: es) X.env = (false, eval e X.env) :: starEach es X.env := by rfl) (hpl : (backTo pos (starEach es X.env)).any (·.1) = false := by rfl) :
    PE X (.Call (.Name x p) (e :: es) [] pos) (tMkE C sp ta) := by
  obtain ⟨fI, fd, iC, tI, F1, b⟩ := N.ex
  exact pe_mkE N.T iC tI F1 (hr.mono hk) b pass0 hg N.at_ ha hdb hs hpl
theorem held_end {H : Hp} {a dx : Addr} {fs : List (Str × V)} (ha : H a = none) (hd : H dx = none) (ne : dx ≠ a) {G : Hp} (hG : ∀ b, b ≠ a → b ≠ dx → G b = H b) (ea : G a = some (exo a C (some dx))) (ed : G dx = some (exd dx fs)) : Kp H G ∧ ExA G a C (some dx) ∧ ExF G dx fs := by
  refine ⟨fun b o e => ?_, ⟨.inl ea, fun dd z => by cases z; exact ⟨fs, .inl ed⟩⟩, .inl ed⟩
  rw [hG b (fun z => by rw [z, ha] at e; cases e) (fun z => by rw [z, hd] at e; cases e)]
  exact e
variable {R : Type} {K : PySem.W.Frag} {A : R → L2.St → Hp → Prop}
/-- X(e), e's datum its field -/
def tHeldH (K : PySem.W.Frag) (C : Addr) (f : Str) (A : R → L2.St → Hp → Prop) (b : R → PyData) : TE := fun σ H Q => ∃ r, A r σ H ∧ ∀ H' a dd v, Kp H H' → ExA H' a C (some dd) → ExF H' dd [(f, v)] → Dp K H' v (b r) → Q (.ref a) H'
theorem pe_numH {n : R → Int} (N : HeldC X.prog X.w X.K X.mg X.base k x ["self", f] C (spNumInit X.K C f)) (no : PySem.W.findIn X.K (.ref C) f = some none) (hr : Room j X.A) (hk : k + 1 ≤ j) (hg : Gl X x) (he : DE X K A e (fun r => .int (n r))) (hn : ∀ r σ H, A r σ H → 0 ≤ n r ∧ n r < 1000000)
    (hdb : (x == ("__debug__" : Str)) = false := by decide) (hs : starEach (e :: []) X.env = (false, eval e X.env) :: starEach [] X.env := by rfl) (hpl : (backTo pos (starEach [] X.env)).any (·.1) = false := by rfl) : PE X (.Call (.Name x p) [e] [] pos) (tHeldH K C f A (fun r => .int (n r))) := ⟨fun pins s σ H Q I w => by
  obtain ⟨r, a, q⟩ := w
  refine (pe_held N hr hk hg (pa_cons (he r) pa_nil hs) hdb hs hpl).run pins s σ H Q I ⟨a, fun v H1 k1 d1 => ?_⟩
  cases Dp.intI d1
  refine ⟨by show 1 ≤ 1000; decide, fun y hy => ⟨y, n r, rfl, (hn r σ H a).1, (hn r σ H a).2, N.T, no, upd_same, fun dx hdx ne => ⟨rfl, ?_⟩⟩⟩
  have hdx' : H1 dx = none := by rw [upd_ne ne] at hdx; exact hdx
  obtain ⟨h1, h2, h3⟩ := held_end (C := C) (fs := [(f, V.int (n r))]) hy hdx' ne (G := upd (upd (upd H1 y (exo y C none)) dx (exd dx [(f, .int (n r))])) y (exo y C (some dx))) (fun b hb hb2 => by rw [upd_ne hb, upd_ne hb2, upd_ne hb]) upd_same ((upd_ne ne).trans upd_same)
  exact q _ y dx _ (k1.trans h1) h2 h3 (.int _)⟩
theorem pe_textH {b : R → PyData} (N : HeldC X.prog X.w X.K X.mg X.base k x ["self", f] C (spTextInit X.K C f)) (no : PySem.W.findIn X.K (.ref C) f = some none) (hr : Room j X.A) (hk : k + 1 ≤ j) (hg : Gl X x) (he : DE X K A e b)
    (hdb : (x == ("__debug__" : Str)) = false := by decide) (hs : starEach (e :: []) X.env = (false, eval e X.env) :: starEach [] X.env := by rfl) (hpl : (backTo pos (starEach [] X.env)).any (·.1) = false := by rfl) : PE X (.Call (.Name x p) [e] [] pos) (tHeldH K C f A b) := ⟨fun pins s σ H Q I w => by
  obtain ⟨r, a, q⟩ := w
  refine (pe_held N hr hk hg (pa_cons (he r) pa_nil hs) hdb hs hpl).run pins s σ H Q I ⟨a, fun v H1 k1 d1 => ?_⟩
  refine ⟨by show 1 ≤ 1000; decide, fun y hy => ⟨y, v, rfl, N.T, no, upd_same, fun dx hdx ne => ⟨rfl, ?_⟩⟩⟩
  have hdx' : H1 dx = none := by rw [upd_ne ne] at hdx; exact hdx
  obtain ⟨h1, h2, h3⟩ := held_end (C := C) (fs := [(f, v)]) hy hdx' ne (G := upd (upd (upd H1 y (exo y C none)) dx (exd dx [(f, v)])) y (exo y C (some dx))) (fun b hb hb2 => by rw [upd_ne hb, upd_ne hb2, upd_ne hb]) upd_same ((upd_ne ne).trans upd_same)
  exact q _ y dx _ (k1.trans h1) h2 h3 (Dp.sub h1.sub _ _ d1)⟩
theorem pe_listH {bs : R → List PyData} (N : HeldC X.prog X.w X.K X.mg X.base k x ["self", f] C (spListInit X.K C f)) (no : PySem.W.findIn X.K (.ref C) f = some none) (hr : Room j X.A) (hk : k + 1 ≤ j) (hg : Gl X x) (he : DE X K A e (fun r => .list (bs r))) (hK : X.K = K := by rfl)
    (hdb : (x == ("__debug__" : Str)) = false := by decide) (hs : starEach (e :: []) X.env = (false, eval e X.env) :: starEach [] X.env := by rfl) (hpl : (backTo pos (starEach [] X.env)).any (·.1) = false := by rfl) : PE X (.Call (.Name x p) [e] [] pos) (tHeldH K C f A (fun r => .list (bs r))) := ⟨fun pins s σ H Q I w => by
  subst hK
  obtain ⟨r, a, q⟩ := w
  refine (pe_held N hr hk hg (pa_cons (he r) pa_nil hs) hdb hs hpl).run pins s σ H Q I ⟨a, fun v H1 k1 d1 => ?_⟩
  obtain ⟨l, xs, rfl, S, dx1⟩ := Dp.lstI d1
  refine ⟨by show 1 ≤ 1000; decide, fun y hy => ⟨y, l, xs, rfl, (Sub.new hy).seqL S, N.T, no, upd_same, fun p dx hp npy hdx ndp ne => ⟨rfl, ?_⟩⟩⟩
  have hp' : H1 p = none := by rw [upd_ne npy] at hp; exact hp
  have hdx' : H1 dx = none := by rw [upd_ne ne] at hdx; exact hdx
  have kp : Kp H1 (upd H1 p (.lst xs)) := Kp.new hp'
  obtain ⟨h1, h2, h3⟩ := held_end (C := C) (fs := [(f, V.ref p)]) (H := upd H1 p (.lst xs)) ((upd_ne npy.symm).trans hy) ((upd_ne ndp).trans hdx') ne (G := upd (upd (upd (upd H1 y (exo y C none)) p (.lst xs)) dx (exd dx [(f, .ref p)])) y (exo y C (some dx)))
    (fun b hb hb2 => by
      rw [upd_ne hb, upd_ne hb2]
      by_cases z : b = p
      · rw [z, upd_same, upd_same]
      · rw [upd_ne z, upd_ne z, upd_ne hb]) upd_same ((upd_ne ne).trans upd_same)
  refine q _ y dx _ ((k1.trans kp).trans h1) h2 h3 (.lst (.inl (.inl (h1 _ _ upd_same))) (Dp.subs (kp.trans h1).sub _ _ dx1))⟩
/-- BadRow(n, m) -/
def tRowH (K : PySem.W.Frag) (C : Addr) (A : R → L2.St → Hp → Prop) (n m : R → Int) : TE := fun σ H Q => ∃ r, A r σ H ∧ ∀ H' a dd, Kp H H' → ExA H' a C (some dd) → ExF H' dd [("word", .int (m r)), ("row", .int (n r))] → Q (.ref a) H'
theorem pe_rowH {n m : R → Int} (mn : Mon A) (N : HeldC X.prog X.w X.K X.mg X.base k x ["self", "row", "word"] C (spRowInit X.K C)) (no : PySem.W.findIn X.K (.ref C) "row" = some none) (no2 : PySem.W.findIn X.K (.ref C) "word" = some none) (hr : Room j X.A) (hk : k + 1 ≤ j) (hg : Gl X x) (he : DE X K A e (fun r => .int (n r))) (he2 : DE X K A e2 (fun r => .int (m r)))
    (hn : ∀ r σ H, A r σ H → (0 ≤ n r ∧ n r < 1000000) ∧ (0 ≤ m r ∧ m r < 1000000))
    (hdb : (x == ("__debug__" : Str)) = false := by decide) (hs2 : starEach (e2 :: []) X.env = (false, eval e2 X.env) :: starEach [] X.env := by rfl) (hs : starEach (e :: [e2]) X.env = (false, eval e X.env) :: starEach [e2] X.env := by rfl) (hpl : (backTo pos (starEach [e2] X.env)).any (·.1) = false := by rfl) : PE X (.Call (.Name x p) [e, e2] [] pos) (tRowH K C A n m) := ⟨fun pins s σ H Q I w => by
  obtain ⟨r, a, q⟩ := w
  refine (pe_held N hr hk hg (pa_cons (he r) (pa_cons (he2 r) pa_nil hs2) hs) hdb hs hpl).run pins s σ H Q I ⟨a, fun v H1 k1 d1 => ⟨mn r σ H H1 a k1, fun v2 H2 k2 d2 => ?_⟩⟩
  cases Dp.intI d1
  cases Dp.intI d2
  have b := hn r σ H a
  refine ⟨by show 2 ≤ 1000; decide, fun y hy => ⟨y, n r, m r, rfl, b.1.1, b.1.2, b.2.1, b.2.2, N.T, no, no2, upd_same, fun dx hdx ne => ⟨rfl, ?_⟩⟩⟩
  have hdx' : H2 dx = none := by rw [upd_ne ne] at hdx; exact hdx
  obtain ⟨h1, h2, h3⟩ := held_end (C := C) (fs := [("word", V.int (m r)), ("row", .int (n r))]) hy hdx' ne (G := upd (upd (upd (upd H2 y (exo y C none)) dx (exd dx [("row", .int (n r))])) y (exo y C (some dx))) dx (exd dx [("word", .int (m r)), ("row", .int (n r))])) (fun b hb hb2 => by rw [upd_ne hb2, upd_ne hb, upd_ne hb2, upd_ne hb]) ((upd_ne ne.symm).trans upd_same) upd_same
  exact q _ y dx ((k1.trans k2).trans h1) h2 h3⟩
end
end K1
set_option Elab.async false
set_option linter.all false
set_option maxRecDepth 100000
set_option maxHeartbeats 8000000
/-! The law's def _law_by_hand. -/
namespace K1
open PySem PySem.Spec PyProof.Rows L2
def NumR := { n : Int // 0 ≤ n ∧ n < 900 }
/-- a refusal without a making of its own -/
structure ExcI (K : PySem.W.Frag) (C : Addr) : Prop where
  ex : PySem.W.excIn K C [.type "ValueError", .type "Exception", .type "BaseException", .type "object"] "ValueError.__new__" = true
  kp : PySem.W.keepIn K (.ref C) = true
/-- the classes of refusals, their making -/
structure HandC (P : Program) (w : World) (K : PySem.W.Frag) (mg : Str → Option Value) (base : Heap) (k : Nat) (cl : Nat → Addr) : Prop where
  h0 : HeldC P w K mg base k "BadRow" ["self", "row", "word"] (cl 0) (spRowInit K (cl 0))
  h1 : HeldC P w K mg base k "BadPatch" ["self", "deed"] (cl 1) (spNumInit K (cl 1) "deed")
  h2 : HeldC P w K mg base k "NotClosed" ["self", "lacking"] (cl 2) (spListInit K (cl 2) "lacking")
  h3 : HeldC P w K mg base k "Unlike" ["self", "name"] (cl 3) (spTextInit K (cl 3) "name")
  h4 : HeldC P w K mg base k "Hindered" ["self", "knowing"] (cl 4) (spListInit K (cl 4) "knowing")
  h5 : HeldC P w K mg base k "BadPaper" ["self", "step"] (cl 5) (spNumInit K (cl 5) "step")
  h6 : HeldC P w K mg base k "BadPack" ["self", "row"] (cl 6) (spNumInit K (cl 6) "row")
  n0 : PySem.W.findIn K (.ref (cl 0)) "row" = some none
  n0' : PySem.W.findIn K (.ref (cl 0)) "word" = some none
  n1 : PySem.W.findIn K (.ref (cl 1)) "deed" = some none
  n2 : PySem.W.findIn K (.ref (cl 2)) "lacking" = some none
  n3 : PySem.W.findIn K (.ref (cl 3)) "name" = some none
  n4 : PySem.W.findIn K (.ref (cl 4)) "knowing" = some none
  n5 : PySem.W.findIn K (.ref (cl 5)) "step" = some none
  n6 : PySem.W.findIn K (.ref (cl 6)) "row" = some none
  e7 : ExcI K (cl 7)
  e8 : ExcI K (cl 8)
  e9 : ExcI K (cl 9)
section
variable {P : Program} {w : World} {K : PySem.W.Frag} {mg : Str → Option Value} {base : Heap} {T : Tp}
def spByHand (K : PySem.W.Frag) (T : Tp) : Sp := fun vs H Q _ => ∃ n : Int, vs = [.int n] ∧ 0 ≤ n ∧ n < 900 ∧ TG T H ∧ ∀ H', Go T D0 H H' → Q (.bl true) H'
theorem ok_lbyhand {f he : Addr} {fd : FuncData} {k : Nat} {cl : Nat → Addr} (Fn : Fun K "_law_by_hand" "_law_by_hand" sLByHand f fd) (KD : Kinds K mg cl he) (C : HandC P w K mg base k cl) (cK : Cal P w K mg base (k + 1) "_law_kinds" ["_law_error"] (spKinds K T cl)) : FnOk P w K mg base CX0 (k + 2) f fd ["_law_number"] (spByHand K T) := by
  refine Fn.ok scLByHand (fun vs H Q E h => ?_) (fun cdv A outer s H vs Q E hr h => ?_)
  · obtain ⟨n, rfl, _⟩ := h
    rfl
  · obtain ⟨n, rfl, n0, n1, tg, q⟩ := h
    have rN : NumR := ⟨n, n0, n1⟩
    refine ⟨_, (pss_cons (ps_set (i := 1) scLByHand.nd rfl (.inl rfl) (pe_lst (pa_cons (pe_rowH (K := K) (A := EnvA K ([(0, fun r : NumR => .int r.1)] : List (Nat × (NumR → PyData)))) (n := fun r : NumR => r.1) (m := fun r : NumR => r.1 + 1) mon_env C.h0 C.n0 C.n0' hr (Nat.le_refl _) (by rfl) (de_env (i := 0) (.head _)) (de_add mon_env (i := fun r : NumR => r.1) (de_env (i := 0) (.head _)) de_int) (fun r _ _ _ => ⟨⟨r.2.1, by have := r.2.2; omega⟩, by have := r.2.1; have := r.2.2; omega⟩)) (pa_cons (pe_numH (K := K) (A := EnvA K ([(0, fun r : NumR => .int r.1)] : List (Nat × (NumR → PyData)))) (n := fun r : NumR => r.1) C.h1 C.n1 hr (Nat.le_refl _) (by rfl) (de_env (i := 0) (.head _)) (fun r _ _ _ => ⟨r.2.1, by have := r.2.2; omega⟩)) (pa_cons (pe_listH (K := K) (A := EnvA K ([(0, fun r : NumR => .int r.1)] : List (Nat × (NumR → PyData)))) C.h2 C.n2 hr (Nat.le_refl _) (by rfl) (de_lst (da_cons mon_env (de_tup (da_cons mon_env de_str (da_cons mon_env de_int da_nil)) (fun _ => by show 2 ≤ 10000; decide)) da_nil) (fun _ => by show 1 ≤ 10000; decide))) (pa_cons (pe_textH (K := K) (A := EnvA K ([(0, fun r : NumR => .int r.1)] : List (Nat × (NumR → PyData)))) C.h3 C.n3 hr (Nat.le_refl _) (by rfl) (de_tup (da_cons mon_env de_str (da_cons mon_env de_int da_nil)) (fun _ => by show 2 ≤ 10000; decide))) pa_nil))))))
      (pss_cons (ps_if (pt_cmpR (op_neD hr.units) (pe_lst (pa_cons (pe_exf (pe_ix ix_list (pv 1) pe_int (fun _ _ => rfl))) (pa_cons (pe_exf (pe_ix ix_list (pv 1) pe_int (fun _ _ => rfl))) (pa_cons (pe_exf (pe_ix ix_list (pv 1) pe_int (fun _ _ => rfl))) (pa_cons (pe_exf (pe_ix ix_list (pv 1) pe_int (fun _ _ => rfl))) pa_nil))))) (DE.pe (K := K) (A := EnvA K ([(0, fun r : NumR => .int r.1)] : List (Nat × (NumR → PyData)))) (de_lst (da_cons mon_env (de_env (i := 0) (.head _)) (da_cons mon_env (de_add mon_env (i := fun r : NumR => r.1) (de_env (i := 0) (.head _)) de_int) (da_cons mon_env (de_env (i := 0) (.head _)) (da_cons mon_env (de_lst (da_cons mon_env (de_tup (da_cons mon_env de_str (da_cons mon_env de_int da_nil)) (fun _ => by show 2 ≤ 10000; decide)) da_nil) (fun _ => by show 1 ≤ 10000; decide)) da_nil)))) (fun _ => by show 4 ≤ 10000; decide))) (nomark _))
      (pss_one (ps_ret pe_bl))
      pss_nil)
      (pss_cons (ps_set (i := 1) scLByHand.nd rfl (.inl rfl) (pe_op op_catS (pv 1) (pe_lst (pa_cons (pe_listH (K := K) (A := EnvA K ([(0, fun r : NumR => .int r.1)] : List (Nat × (NumR → PyData)))) C.h4 C.n4 hr (Nat.le_refl _) (by rfl) (de_lst (da_cons mon_env (de_tup (da_cons mon_env de_str (da_cons mon_env de_int da_nil)) (fun _ => by show 2 ≤ 10000; decide)) da_nil) (fun _ => by show 1 ≤ 10000; decide))) (pa_cons (pe_numH (K := K) (A := EnvA K ([(0, fun r : NumR => .int r.1)] : List (Nat × (NumR → PyData)))) (n := fun r : NumR => r.1) C.h5 C.n5 hr (Nat.le_refl _) (by rfl) (de_env (i := 0) (.head _)) (fun r _ _ _ => ⟨r.2.1, by have := r.2.2; omega⟩)) (pa_cons (pe_numH (K := K) (A := EnvA K ([(0, fun r : NumR => .int r.1)] : List (Nat × (NumR → PyData)))) (n := fun r : NumR => r.1) C.h6 C.n6 hr (Nat.le_refl _) (by rfl) (de_env (i := 0) (.head _)) (fun r _ _ _ => ⟨r.2.1, by have := r.2.2; omega⟩)) pa_nil))))))
      (pss_cons (ps_if (pt_cmpR (op_neD hr.units) (pe_lst (pa_cons (pe_exf (pe_ix ix_list (pv 1) pe_int (fun _ _ => rfl))) (pa_cons (pe_exf (pe_ix ix_list (pv 1) pe_int (fun _ _ => rfl))) (pa_cons (pe_exf (pe_ix ix_list (pv 1) pe_int (fun _ _ => rfl))) (pa_cons (pe_exf (pe_ix ix_list (pv 1) pe_int (fun _ _ => rfl))) pa_nil))))) (DE.pe (K := K) (A := EnvA K ([(0, fun r : NumR => .int r.1)] : List (Nat × (NumR → PyData)))) (de_lst (da_cons mon_env (de_tup (da_cons mon_env de_str (da_cons mon_env de_int da_nil)) (fun _ => by show 2 ≤ 10000; decide)) (da_cons mon_env (de_lst (da_cons mon_env (de_tup (da_cons mon_env de_str (da_cons mon_env de_int da_nil)) (fun _ => by show 2 ≤ 10000; decide)) da_nil) (fun _ => by show 1 ≤ 10000; decide)) (da_cons mon_env (de_env (i := 0) (.head _)) (da_cons mon_env (de_env (i := 0) (.head _)) da_nil)))) (fun _ => by show 4 ≤ 10000; decide))) (nomark _))
      (pss_one (ps_ret pe_bl))
      pss_nil)
      (pss_cons (ps_set (i := 1) scLByHand.nd rfl (.inl rfl) (pe_op op_catS (pv 1) (pe_lst (pa_cons (pe_exc1 PySem.F.excBase_ValueError C.e7.ex KD.at7 C.e7.kp (by rfl) pe_str) (pa_cons (pe_exc1 PySem.F.excBase_ValueError C.e8.ex KD.at8 C.e8.kp (by rfl) pe_str) (pa_cons (pe_exc1 PySem.F.excBase_ValueError C.e9.ex KD.at9 C.e9.kp (by rfl) pe_str) pa_nil))))))
      (pss_cons (ps_set (i := 2) scLByHand.nd rfl (.inl rfl) (DE.pe (K := K) (A := EnvA K ([(0, fun r : NumR => .int r.1)] : List (Nat × (NumR → PyData)))) (de_lst (da_cons mon_env de_str (da_cons mon_env de_str (da_cons mon_env de_str (da_cons mon_env de_str (da_cons mon_env de_str (da_cons mon_env de_str (da_cons mon_env de_str (da_cons mon_env de_str (da_cons mon_env de_str (da_cons mon_env de_str da_nil)))))))))) (fun _ => by show 10 ≤ 10000; decide))))
      (pss_one (ps_ret (pe_cmpR (op_eqD hr.units) (pe_lc (own := [("_law_error", 3)]) (g := gName 3) (tt := tYes) rfl scLByHand.nd (pi_list (pv 1)) (blkOk_by (N := ["_law_number", "_law_made", "_law_names", "_law_error", "_law_name"]) (sc := defScope sLByHand) (by decide +kernel)) (fun _ _ _ _ _ => (pg_name (i := 3) scLByHand.nd rfl (Or.inl rfl))) (fun _ _ _ _ _ => pts_nil) (fun _ _ _ _ _ => (pe_cal cK hr (by rfl) (pa_cons (pv 3) pa_nil)))) (pe_lc (own := [("_law_name", 4)]) (g := gName 4) (tt := tYes) rfl scLByHand.nd (pi_list (pv 2)) (blkOk_by (N := ["_law_number", "_law_made", "_law_names", "_law_error", "_law_name"]) (sc := defScope sLByHand) (by decide +kernel)) (fun _ _ _ _ _ => (pg_name (i := 4) scLByHand.nd rfl (Or.inl rfl))) (fun _ _ _ _ _ => pts_nil) (fun _ _ _ _ _ => (pe_lst (pa_cons (pv 4) pa_nil)))) (nomark _)))))))))), ?_⟩
    have kk : Kp H H := Kp.rfl'
    refine ⟨(⟨n, n0, n1⟩ : NumR), (env_cons ⟨.int n, rfl, .int n⟩ env_nil), fun H0 a0 d0 k0 x0 f0 => ?_⟩
    replace kk := kk.trans k0
    refine ⟨(⟨n, n0, n1⟩ : NumR), (env_cons ⟨.int n, rfl, .int n⟩ env_nil), fun H1 a1 d1 v1 k1 x1 f1 p1 => ?_⟩
    replace p1 : Dp K H1 v1 (.int n) := p1
    replace kk := kk.trans k1
    replace x0 := x0.kp k1
    replace f0 := f0.kp k1
    refine ⟨(⟨n, n0, n1⟩ : NumR), (env_cons ⟨.int n, rfl, .int n⟩ env_nil), fun H2 a2 d2 v2 k2 x2 f2 p2 => ?_⟩
    replace p2 : Dp K H2 v2 (.list [.tuple [.str "a", .int 1]]) := p2
    replace kk := kk.trans k2
    replace x0 := x0.kp k2
    replace x1 := x1.kp k2
    replace f0 := f0.kp k2
    replace f1 := f1.kp k2
    replace p1 := Dp.sub k2.sub _ _ p1
    refine ⟨(⟨n, n0, n1⟩ : NumR), (env_cons ⟨.int n, rfl, .int n⟩ env_nil), fun H3 a3 d3 v3 k3 x3 f3 p3 => ?_⟩
    replace p3 : Dp K H3 v3 (.tuple [.str "a", .int 1]) := p3
    replace kk := kk.trans k3
    replace x0 := x0.kp k3
    replace x1 := x1.kp k3
    replace x2 := x2.kp k3
    replace f0 := f0.kp k3
    replace f1 := f1.kp k3
    replace f2 := f2.kp k3
    replace p1 := Dp.sub k3.sub _ _ p1
    replace p2 := Dp.sub k3.sub _ _ p2
    cases Dp.intI p1
    refine ⟨small_le (by show 4 ≤ 10000; decide), fun l hl => ?_⟩
    have k_G0 : Kp H3 (upd H3 l (.lst [.ref a0, .ref a1, .ref a2, .ref a3])) := Kp.new hl
    have e_G0 : (upd H3 l (.lst [.ref a0, .ref a1, .ref a2, .ref a3])) l = some (.lst [.ref a0, .ref a1, .ref a2, .ref a3]) := upd_same
    replace kk := kk.trans k_G0
    replace x0 := x0.kp k_G0
    replace x1 := x1.kp k_G0
    replace x2 := x2.kp k_G0
    replace x3 := x3.kp k_G0
    replace f0 := f0.kp k_G0
    replace f1 := f1.kp k_G0
    replace f2 := f2.kp k_G0
    replace f3 := f3.kp k_G0
    replace p2 := Dp.sub k_G0.sub _ _ p2
    replace p3 := Dp.sub k_G0.sub _ _ p3
    generalize upd H3 l (.lst [.ref a0, .ref a1, .ref a2, .ref a3]) = G0 at kk k_G0 e_G0 x0 x1 x2 x3 f0 f1 f2 f3 p2 p3  ⊢
    refine ⟨.ref l, rfl, l, _, 0, .ref a0, rfl, rfl, .inl (.inl e_G0), atI_nat (j := 0) rfl, a0, cl 0, d0, _, .int n, rfl, x0, KD.exc 0 (by decide), C.n0, f0, rfl, .ref l, rfl, l, _, 0, .ref a0, rfl, rfl, .inl (.inl e_G0), atI_nat (j := 0) rfl, a0, cl 0, d0, _, .int (n + 1), rfl, x0, KD.exc 0 (by decide), C.n0', f0, rfl, .ref l, rfl, l, _, 1, .ref a1, rfl, rfl, .inl (.inl e_G0), atI_nat (j := 1) rfl, a1, cl 1, d1, _, .int n, rfl, x1, KD.exc 1 (by decide), C.n1, f1, rfl, .ref l, rfl, l, _, 2, .ref a2, rfl, rfl, .inl (.inl e_G0), atI_nat (j := 2) rfl, a2, cl 2, d2, _, v2, rfl, x2, KD.exc 2 (by decide), C.n2, f2, rfl, small_le (by show 4 ≤ 10000; decide), fun m hm => ?_⟩
    have k_G1 : Kp G0 (upd G0 m (.lst [.int n, .int (n + 1), .int n, v2])) := Kp.new hm
    have e_G1 : (upd G0 m (.lst [.int n, .int (n + 1), .int n, v2])) m = some (.lst [.int n, .int (n + 1), .int n, v2]) := upd_same
    replace kk := kk.trans k_G1
    replace x0 := x0.kp k_G1
    replace x1 := x1.kp k_G1
    replace x2 := x2.kp k_G1
    replace x3 := x3.kp k_G1
    replace f0 := f0.kp k_G1
    replace f1 := f1.kp k_G1
    replace f2 := f2.kp k_G1
    replace f3 := f3.kp k_G1
    replace p2 := Dp.sub k_G1.sub _ _ p2
    replace p3 := Dp.sub k_G1.sub _ _ p3
    replace e_G0 := k_G1 _ _ e_G0
    generalize upd G0 m (.lst [.int n, .int (n + 1), .int n, v2]) = G1 at kk k_G1 e_G1 x0 x1 x2 x3 f0 f1 f2 f3 p2 p3 e_G0 ⊢
    refine ⟨(⟨n, n0, n1⟩ : NumR), (env_cons ⟨.int n, rfl, .int n⟩ env_nil), fun v_G2 G2 k_G2 p_G2 => ?_⟩
    replace p_G2 : Dp K G2 v_G2 (.list [.int n, .int (n + 1), .int n, .list [.tuple [.str "a", .int 1]]]) := p_G2
    replace kk := kk.trans k_G2
    replace x0 := x0.kp k_G2
    replace x1 := x1.kp k_G2
    replace x2 := x2.kp k_G2
    replace x3 := x3.kp k_G2
    replace f0 := f0.kp k_G2
    replace f1 := f1.kp k_G2
    replace f2 := f2.kp k_G2
    replace f3 := f3.kp k_G2
    replace p2 := Dp.sub k_G2.sub _ _ p2
    replace p3 := Dp.sub k_G2.sub _ _ p3
    replace e_G0 := k_G2 _ _ e_G0
    replace e_G1 := k_G2 _ _ e_G1
    have sh1 : SeqAt.shaped (.list [.int n, .int (n + 1), .int n, .list [.tuple [.str "a", .int 1]]]) = true := shaped_of (by simp [PyData.canLay0, PyData.canLayAll0, show PyData.strOk "a" = true by decide +kernel, show PyData.strOk "b" = true by decide +kernel]) (by simp [PyData.depth, PyData.depthAll])
    refine ⟨.list [.int n, .int (n + 1), .int n, .list [.tuple [.str "a", .int 1]]], .list [.int n, .int (n + 1), .int n, .list [.tuple [.str "a", .int 1]]], .lst (.inl (.inl e_G1)) (.cons (.int _) (.cons (.int _) (.cons (.int _) (.one p2)))), p_G2, sh1, sh1, _, rfl, ?_⟩
    rw [eqv_self sh1]
    refine iteF ?_
    clear e_G1 p_G2 sh1
    refine ⟨.ref l, rfl, ?_⟩
    refine ⟨(⟨n, n0, n1⟩ : NumR), (env_cons ⟨.int n, rfl, .int n⟩ env_nil), fun H4 a4 d4 v4 k4 x4 f4 p4 => ?_⟩
    replace p4 : Dp K H4 v4 (.list [.tuple [.str "b", .int 1]]) := p4
    replace kk := kk.trans k4
    replace x0 := x0.kp k4
    replace x1 := x1.kp k4
    replace x2 := x2.kp k4
    replace x3 := x3.kp k4
    replace f0 := f0.kp k4
    replace f1 := f1.kp k4
    replace f2 := f2.kp k4
    replace f3 := f3.kp k4
    replace p2 := Dp.sub k4.sub _ _ p2
    replace p3 := Dp.sub k4.sub _ _ p3
    replace e_G0 := k4 _ _ e_G0
    refine ⟨(⟨n, n0, n1⟩ : NumR), (env_cons ⟨.int n, rfl, .int n⟩ env_nil), fun H5 a5 d5 v5 k5 x5 f5 p5 => ?_⟩
    replace p5 : Dp K H5 v5 (.int n) := p5
    replace kk := kk.trans k5
    replace x0 := x0.kp k5
    replace x1 := x1.kp k5
    replace x2 := x2.kp k5
    replace x3 := x3.kp k5
    replace x4 := x4.kp k5
    replace f0 := f0.kp k5
    replace f1 := f1.kp k5
    replace f2 := f2.kp k5
    replace f3 := f3.kp k5
    replace f4 := f4.kp k5
    replace p2 := Dp.sub k5.sub _ _ p2
    replace p3 := Dp.sub k5.sub _ _ p3
    replace p4 := Dp.sub k5.sub _ _ p4
    replace e_G0 := k5 _ _ e_G0
    refine ⟨(⟨n, n0, n1⟩ : NumR), (env_cons ⟨.int n, rfl, .int n⟩ env_nil), fun H6 a6 d6 v6 k6 x6 f6 p6 => ?_⟩
    replace p6 : Dp K H6 v6 (.int n) := p6
    replace kk := kk.trans k6
    replace x0 := x0.kp k6
    replace x1 := x1.kp k6
    replace x2 := x2.kp k6
    replace x3 := x3.kp k6
    replace x4 := x4.kp k6
    replace x5 := x5.kp k6
    replace f0 := f0.kp k6
    replace f1 := f1.kp k6
    replace f2 := f2.kp k6
    replace f3 := f3.kp k6
    replace f4 := f4.kp k6
    replace f5 := f5.kp k6
    replace p2 := Dp.sub k6.sub _ _ p2
    replace p3 := Dp.sub k6.sub _ _ p3
    replace p4 := Dp.sub k6.sub _ _ p4
    replace p5 := Dp.sub k6.sub _ _ p5
    replace e_G0 := k6 _ _ e_G0
    cases Dp.intI p5
    cases Dp.intI p6
    refine ⟨small_le (by show 3 ≤ 10000; decide), fun m2 hm2 => ?_⟩
    have k_G3 : Kp H6 (upd H6 m2 (.lst [.ref a4, .ref a5, .ref a6])) := Kp.new hm2
    have e_G3 : (upd H6 m2 (.lst [.ref a4, .ref a5, .ref a6])) m2 = some (.lst [.ref a4, .ref a5, .ref a6]) := upd_same
    replace kk := kk.trans k_G3
    replace x0 := x0.kp k_G3
    replace x1 := x1.kp k_G3
    replace x2 := x2.kp k_G3
    replace x3 := x3.kp k_G3
    replace x4 := x4.kp k_G3
    replace x5 := x5.kp k_G3
    replace x6 := x6.kp k_G3
    replace f0 := f0.kp k_G3
    replace f1 := f1.kp k_G3
    replace f2 := f2.kp k_G3
    replace f3 := f3.kp k_G3
    replace f4 := f4.kp k_G3
    replace f5 := f5.kp k_G3
    replace f6 := f6.kp k_G3
    replace p2 := Dp.sub k_G3.sub _ _ p2
    replace p3 := Dp.sub k_G3.sub _ _ p3
    replace p4 := Dp.sub k_G3.sub _ _ p4
    replace e_G0 := k_G3 _ _ e_G0
    generalize upd H6 m2 (.lst [.ref a4, .ref a5, .ref a6]) = G3 at kk k_G3 e_G3 x0 x1 x2 x3 x4 x5 x6 f0 f1 f2 f3 f4 f5 f6 p2 p3 p4 e_G0 ⊢
    refine ⟨l, m2, _, _, rfl, rfl, .inl (.inl e_G0), .inl (.inl e_G3), small_le (by show 4 + 3 ≤ 10000; decide), fun l2 hl2 => ?_⟩
    have k_G4 : Kp G3 (upd G3 l2 (.lst ([.ref a0, .ref a1, .ref a2, .ref a3] ++ [.ref a4, .ref a5, .ref a6]))) := Kp.new hl2
    have e_G4 : (upd G3 l2 (.lst ([.ref a0, .ref a1, .ref a2, .ref a3] ++ [.ref a4, .ref a5, .ref a6]))) l2 = some (.lst ([.ref a0, .ref a1, .ref a2, .ref a3] ++ [.ref a4, .ref a5, .ref a6])) := upd_same
    replace kk := kk.trans k_G4
    replace x0 := x0.kp k_G4
    replace x1 := x1.kp k_G4
    replace x2 := x2.kp k_G4
    replace x3 := x3.kp k_G4
    replace x4 := x4.kp k_G4
    replace x5 := x5.kp k_G4
    replace x6 := x6.kp k_G4
    replace f0 := f0.kp k_G4
    replace f1 := f1.kp k_G4
    replace f2 := f2.kp k_G4
    replace f3 := f3.kp k_G4
    replace f4 := f4.kp k_G4
    replace f5 := f5.kp k_G4
    replace f6 := f6.kp k_G4
    replace p2 := Dp.sub k_G4.sub _ _ p2
    replace p3 := Dp.sub k_G4.sub _ _ p3
    replace p4 := Dp.sub k_G4.sub _ _ p4
    replace e_G0 := k_G4 _ _ e_G0
    replace e_G3 := k_G4 _ _ e_G3
    generalize upd G3 l2 (.lst ([.ref a0, .ref a1, .ref a2, .ref a3] ++ [.ref a4, .ref a5, .ref a6])) = G4 at kk k_G4 e_G4 x0 x1 x2 x3 x4 x5 x6 f0 f1 f2 f3 f4 f5 f6 p2 p3 p4 e_G0 e_G3 ⊢
    clear e_G0 e_G3
    refine ⟨.ref l2, rfl, l2, _, 3, .ref a3, rfl, rfl, .inl (.inl e_G4), atI_nat (j := 3) rfl, a3, cl 3, d3, _, v3, rfl, x3, KD.exc 3 (by decide), C.n3, f3, rfl, .ref l2, rfl, l2, _, 4, .ref a4, rfl, rfl, .inl (.inl e_G4), atI_nat (j := 4) rfl, a4, cl 4, d4, _, v4, rfl, x4, KD.exc 4 (by decide), C.n4, f4, rfl, .ref l2, rfl, l2, _, 5, .ref a5, rfl, rfl, .inl (.inl e_G4), atI_nat (j := 5) rfl, a5, cl 5, d5, _, .int n, rfl, x5, KD.exc 5 (by decide), C.n5, f5, rfl, .ref l2, rfl, l2, _, 6, .ref a6, rfl, rfl, .inl (.inl e_G4), atI_nat (j := 6) rfl, a6, cl 6, d6, _, .int n, rfl, x6, KD.exc 6 (by decide), C.n6, f6, rfl, small_le (by show 4 ≤ 10000; decide), fun m3 hm3 => ?_⟩
    have k_G5 : Kp G4 (upd G4 m3 (.lst [v3, v4, .int n, .int n])) := Kp.new hm3
    have e_G5 : (upd G4 m3 (.lst [v3, v4, .int n, .int n])) m3 = some (.lst [v3, v4, .int n, .int n]) := upd_same
    replace kk := kk.trans k_G5
    replace x0 := x0.kp k_G5
    replace x1 := x1.kp k_G5
    replace x2 := x2.kp k_G5
    replace x3 := x3.kp k_G5
    replace x4 := x4.kp k_G5
    replace x5 := x5.kp k_G5
    replace x6 := x6.kp k_G5
    replace f0 := f0.kp k_G5
    replace f1 := f1.kp k_G5
    replace f2 := f2.kp k_G5
    replace f3 := f3.kp k_G5
    replace f4 := f4.kp k_G5
    replace f5 := f5.kp k_G5
    replace f6 := f6.kp k_G5
    replace p2 := Dp.sub k_G5.sub _ _ p2
    replace p3 := Dp.sub k_G5.sub _ _ p3
    replace p4 := Dp.sub k_G5.sub _ _ p4
    replace e_G4 := k_G5 _ _ e_G4
    generalize upd G4 m3 (.lst [v3, v4, .int n, .int n]) = G5 at kk k_G5 e_G5 x0 x1 x2 x3 x4 x5 x6 f0 f1 f2 f3 f4 f5 f6 p2 p3 p4 e_G4 ⊢
    refine ⟨(⟨n, n0, n1⟩ : NumR), (env_cons ⟨.int n, rfl, .int n⟩ env_nil), fun v_G6 G6 k_G6 p_G6 => ?_⟩
    replace p_G6 : Dp K G6 v_G6 (.list [.tuple [.str "a", .int 1], .list [.tuple [.str "b", .int 1]], .int n, .int n]) := p_G6
    replace kk := kk.trans k_G6
    replace x0 := x0.kp k_G6
    replace x1 := x1.kp k_G6
    replace x2 := x2.kp k_G6
    replace x3 := x3.kp k_G6
    replace x4 := x4.kp k_G6
    replace x5 := x5.kp k_G6
    replace x6 := x6.kp k_G6
    replace f0 := f0.kp k_G6
    replace f1 := f1.kp k_G6
    replace f2 := f2.kp k_G6
    replace f3 := f3.kp k_G6
    replace f4 := f4.kp k_G6
    replace f5 := f5.kp k_G6
    replace f6 := f6.kp k_G6
    replace p2 := Dp.sub k_G6.sub _ _ p2
    replace p3 := Dp.sub k_G6.sub _ _ p3
    replace p4 := Dp.sub k_G6.sub _ _ p4
    replace e_G4 := k_G6 _ _ e_G4
    replace e_G5 := k_G6 _ _ e_G5
    have sh2 : SeqAt.shaped (.list [.tuple [.str "a", .int 1], .list [.tuple [.str "b", .int 1]], .int n, .int n]) = true := shaped_of (by simp [PyData.canLay0, PyData.canLayAll0, show PyData.strOk "a" = true by decide +kernel, show PyData.strOk "b" = true by decide +kernel]) (by simp [PyData.depth, PyData.depthAll])
    refine ⟨.list [.tuple [.str "a", .int 1], .list [.tuple [.str "b", .int 1]], .int n, .int n], .list [.tuple [.str "a", .int 1], .list [.tuple [.str "b", .int 1]], .int n, .int n], .lst (.inl (.inl e_G5)) (.cons p3 (.cons p4 (.cons (.int _) (.one (.int _))))), p_G6, sh2, sh2, _, rfl, ?_⟩
    rw [eqv_self sh2]
    refine iteF ?_
    clear e_G5 p_G6 sh2
    refine ⟨.ref l2, rfl, ?_⟩
    intro a7 h7
    have k_E7 : Kp G6 (upd G6 a7 (ExO (.ref (cl 7)) a7)) := Kp.new h7
    have e_E7 : (upd G6 a7 (ExO (.ref (cl 7)) a7)) a7 = some (ExO (.ref (cl 7)) a7) := upd_same
    replace kk := kk.trans k_E7
    replace x0 := x0.kp k_E7
    replace x1 := x1.kp k_E7
    replace x2 := x2.kp k_E7
    replace x3 := x3.kp k_E7
    replace x4 := x4.kp k_E7
    replace x5 := x5.kp k_E7
    replace x6 := x6.kp k_E7
    replace f0 := f0.kp k_E7
    replace f1 := f1.kp k_E7
    replace f2 := f2.kp k_E7
    replace f3 := f3.kp k_E7
    replace f4 := f4.kp k_E7
    replace f5 := f5.kp k_E7
    replace f6 := f6.kp k_E7
    replace p2 := Dp.sub k_E7.sub _ _ p2
    replace p3 := Dp.sub k_E7.sub _ _ p3
    replace p4 := Dp.sub k_E7.sub _ _ p4
    replace e_G4 := k_E7 _ _ e_G4
    generalize upd G6 a7 (ExO (.ref (cl 7)) a7) = E7 at kk k_E7 e_E7 x0 x1 x2 x3 x4 x5 x6 f0 f1 f2 f3 f4 f5 f6 p2 p3 p4 e_G4 ⊢
    have x7 : ExA E7 a7 (cl 7) none := ⟨.inr (.inr ⟨rfl, e_E7⟩), fun dd z => nomatch z⟩
    intro a8 h8
    have k_E8 : Kp E7 (upd E7 a8 (ExO (.ref (cl 8)) a8)) := Kp.new h8
    have e_E8 : (upd E7 a8 (ExO (.ref (cl 8)) a8)) a8 = some (ExO (.ref (cl 8)) a8) := upd_same
    replace kk := kk.trans k_E8
    replace x0 := x0.kp k_E8
    replace x1 := x1.kp k_E8
    replace x2 := x2.kp k_E8
    replace x3 := x3.kp k_E8
    replace x4 := x4.kp k_E8
    replace x5 := x5.kp k_E8
    replace x6 := x6.kp k_E8
    replace x7 := x7.kp k_E8
    replace f0 := f0.kp k_E8
    replace f1 := f1.kp k_E8
    replace f2 := f2.kp k_E8
    replace f3 := f3.kp k_E8
    replace f4 := f4.kp k_E8
    replace f5 := f5.kp k_E8
    replace f6 := f6.kp k_E8
    replace p2 := Dp.sub k_E8.sub _ _ p2
    replace p3 := Dp.sub k_E8.sub _ _ p3
    replace p4 := Dp.sub k_E8.sub _ _ p4
    replace e_G4 := k_E8 _ _ e_G4
    generalize upd E7 a8 (ExO (.ref (cl 8)) a8) = E8 at kk k_E8 e_E8 x0 x1 x2 x3 x4 x5 x6 x7 f0 f1 f2 f3 f4 f5 f6 p2 p3 p4 e_G4 ⊢
    have x8 : ExA E8 a8 (cl 8) none := ⟨.inr (.inr ⟨rfl, e_E8⟩), fun dd z => nomatch z⟩
    intro a9 h9
    have k_E9 : Kp E8 (upd E8 a9 (ExO (.ref (cl 9)) a9)) := Kp.new h9
    have e_E9 : (upd E8 a9 (ExO (.ref (cl 9)) a9)) a9 = some (ExO (.ref (cl 9)) a9) := upd_same
    replace kk := kk.trans k_E9
    replace x0 := x0.kp k_E9
    replace x1 := x1.kp k_E9
    replace x2 := x2.kp k_E9
    replace x3 := x3.kp k_E9
    replace x4 := x4.kp k_E9
    replace x5 := x5.kp k_E9
    replace x6 := x6.kp k_E9
    replace x7 := x7.kp k_E9
    replace x8 := x8.kp k_E9
    replace f0 := f0.kp k_E9
    replace f1 := f1.kp k_E9
    replace f2 := f2.kp k_E9
    replace f3 := f3.kp k_E9
    replace f4 := f4.kp k_E9
    replace f5 := f5.kp k_E9
    replace f6 := f6.kp k_E9
    replace p2 := Dp.sub k_E9.sub _ _ p2
    replace p3 := Dp.sub k_E9.sub _ _ p3
    replace p4 := Dp.sub k_E9.sub _ _ p4
    replace e_G4 := k_E9 _ _ e_G4
    generalize upd E8 a9 (ExO (.ref (cl 9)) a9) = E9 at kk k_E9 e_E9 x0 x1 x2 x3 x4 x5 x6 x7 x8 f0 f1 f2 f3 f4 f5 f6 p2 p3 p4 e_G4 ⊢
    have x9 : ExA E9 a9 (cl 9) none := ⟨.inr (.inr ⟨rfl, e_E9⟩), fun dd z => nomatch z⟩
    refine ⟨small_le (by show 3 ≤ 10000; decide), fun m4 hm4 => ?_⟩
    have k_G7 : Kp E9 (upd E9 m4 (.lst [.ref a7, .ref a8, .ref a9])) := Kp.new hm4
    have e_G7 : (upd E9 m4 (.lst [.ref a7, .ref a8, .ref a9])) m4 = some (.lst [.ref a7, .ref a8, .ref a9]) := upd_same
    replace kk := kk.trans k_G7
    replace x0 := x0.kp k_G7
    replace x1 := x1.kp k_G7
    replace x2 := x2.kp k_G7
    replace x3 := x3.kp k_G7
    replace x4 := x4.kp k_G7
    replace x5 := x5.kp k_G7
    replace x6 := x6.kp k_G7
    replace x7 := x7.kp k_G7
    replace x8 := x8.kp k_G7
    replace x9 := x9.kp k_G7
    replace f0 := f0.kp k_G7
    replace f1 := f1.kp k_G7
    replace f2 := f2.kp k_G7
    replace f3 := f3.kp k_G7
    replace f4 := f4.kp k_G7
    replace f5 := f5.kp k_G7
    replace f6 := f6.kp k_G7
    replace p2 := Dp.sub k_G7.sub _ _ p2
    replace p3 := Dp.sub k_G7.sub _ _ p3
    replace p4 := Dp.sub k_G7.sub _ _ p4
    replace e_G4 := k_G7 _ _ e_G4
    generalize upd E9 m4 (.lst [.ref a7, .ref a8, .ref a9]) = G7 at kk k_G7 e_G7 x0 x1 x2 x3 x4 x5 x6 x7 x8 x9 f0 f1 f2 f3 f4 f5 f6 p2 p3 p4 e_G4 ⊢
    refine ⟨l2, m4, _, _, rfl, rfl, .inl (.inl e_G4), .inl (.inl e_G7), small_le (by show 7 + 3 ≤ 10000; decide), fun l3 hl3 => ?_⟩
    have k_G8 : Kp G7 (upd G7 l3 (.lst (([.ref a0, .ref a1, .ref a2, .ref a3] ++ [.ref a4, .ref a5, .ref a6]) ++ [.ref a7, .ref a8, .ref a9]))) := Kp.new hl3
    have e_G8 : (upd G7 l3 (.lst (([.ref a0, .ref a1, .ref a2, .ref a3] ++ [.ref a4, .ref a5, .ref a6]) ++ [.ref a7, .ref a8, .ref a9]))) l3 = some (.lst (([.ref a0, .ref a1, .ref a2, .ref a3] ++ [.ref a4, .ref a5, .ref a6]) ++ [.ref a7, .ref a8, .ref a9])) := upd_same
    replace kk := kk.trans k_G8
    replace x0 := x0.kp k_G8
    replace x1 := x1.kp k_G8
    replace x2 := x2.kp k_G8
    replace x3 := x3.kp k_G8
    replace x4 := x4.kp k_G8
    replace x5 := x5.kp k_G8
    replace x6 := x6.kp k_G8
    replace x7 := x7.kp k_G8
    replace x8 := x8.kp k_G8
    replace x9 := x9.kp k_G8
    replace f0 := f0.kp k_G8
    replace f1 := f1.kp k_G8
    replace f2 := f2.kp k_G8
    replace f3 := f3.kp k_G8
    replace f4 := f4.kp k_G8
    replace f5 := f5.kp k_G8
    replace f6 := f6.kp k_G8
    replace p2 := Dp.sub k_G8.sub _ _ p2
    replace p3 := Dp.sub k_G8.sub _ _ p3
    replace p4 := Dp.sub k_G8.sub _ _ p4
    replace e_G4 := k_G8 _ _ e_G4
    replace e_G7 := k_G8 _ _ e_G7
    generalize upd G7 l3 (.lst (([.ref a0, .ref a1, .ref a2, .ref a3] ++ [.ref a4, .ref a5, .ref a6]) ++ [.ref a7, .ref a8, .ref a9])) = G8 at kk k_G8 e_G8 x0 x1 x2 x3 x4 x5 x6 x7 x8 x9 f0 f1 f2 f3 f4 f5 f6 p2 p3 p4 e_G4 e_G7 ⊢
    refine ⟨(⟨n, n0, n1⟩ : NumR), (env_cons ⟨.int n, rfl, .int n⟩ env_nil), fun v_G9 G9 k_G9 p_G9 => ?_⟩
    replace p_G9 : Dp K G9 v_G9 (.list [.str "row", .str "patch", .str "closed", .str "unlike", .str "hindered", .str "paper", .str "pack", .str "hunt", .str "message", .str "place"]) := p_G9
    replace kk := kk.trans k_G9
    replace x0 := x0.kp k_G9
    replace x1 := x1.kp k_G9
    replace x2 := x2.kp k_G9
    replace x3 := x3.kp k_G9
    replace x4 := x4.kp k_G9
    replace x5 := x5.kp k_G9
    replace x6 := x6.kp k_G9
    replace x7 := x7.kp k_G9
    replace x8 := x8.kp k_G9
    replace x9 := x9.kp k_G9
    replace f0 := f0.kp k_G9
    replace f1 := f1.kp k_G9
    replace f2 := f2.kp k_G9
    replace f3 := f3.kp k_G9
    replace f4 := f4.kp k_G9
    replace f5 := f5.kp k_G9
    replace f6 := f6.kp k_G9
    replace p2 := Dp.sub k_G9.sub _ _ p2
    replace p3 := Dp.sub k_G9.sub _ _ p3
    replace p4 := Dp.sub k_G9.sub _ _ p4
    replace e_G8 := k_G9 _ _ e_G8
    clear e_G4 e_G7
    have hA : ∀ (i : Nat) (a : Addr), [a0, a1, a2, a3, a4, a5, a6, a7, a8, a9][i]? = some a → i < 10 ∧ ∃ d, ExA G9 a (cl i) d := fun i a h => by
      match i, h with
      | 0, h => cases h; exact ⟨by decide, _, x0⟩
      | 1, h => cases h; exact ⟨by decide, _, x1⟩
      | 2, h => cases h; exact ⟨by decide, _, x2⟩
      | 3, h => cases h; exact ⟨by decide, _, x3⟩
      | 4, h => cases h; exact ⟨by decide, _, x4⟩
      | 5, h => cases h; exact ⟨by decide, _, x5⟩
      | 6, h => cases h; exact ⟨by decide, _, x6⟩
      | 7, h => cases h; exact ⟨by decide, _, x7⟩
      | 8, h => cases h; exact ⟨by decide, _, x8⟩
      | 9, h => cases h; exact ⟨by decide, _, x9⟩
      | i + 10, h => cases h
    have g9 : Go T D0 H G9 := kk.go tg
    generalize hAS : [a0, a1, a2, a3, a4, a5, a6, a7, a8, a9] = AS at hA
    have el3 : G9 l3 = some (.lst (AS.map V.ref)) := by rw [← hAS]; exact e_G8
    have al : AS.length = 10 := by rw [← hAS]; rfl
    clear e_G8 hAS x0 x1 x2 x3 x4 x5 x6 x7 x8 x9 f0 f1 f2 f3 f4 f5 f6 p2 p3 p4
    have kn : DpAll K G9 ((List.range 10).map fun i => V.str (kname i)) ((List.range 10).map fun i => PyData.str (kname i)) := .cons (.str _) (.cons (.str _) (.cons (.str _) (.cons (.str _) (.cons (.str _) (.cons (.str _) (.cons (.str _) (.cons (.str _) (.cons (.str _) (.one (.str _))))))))))
    obtain ⟨lN, ns, rfl, SN, dN⟩ := Dp.lstI p_G9
    have dN' : DpAll K G9 ns ((List.range 10).map fun i => PyData.str (kname i)) := dN
    have nsl : ns.length = 10 := by rw [DpAll.len dN']; rfl
    -- the kinds
    refine ⟨.ref l3, rfl, l3, rfl, ⟨_, .inl (.inl el3)⟩, fun D hD => ?_⟩
    refine lc_list (K := K) (a := l3) (xs := AS.map V.ref) (fun j H1 => Go T D0 G9 H1 ∧ ∃ ks, H1 D = some (.lst ks) ∧ ks.length = j ∧ DpAll K (cut (plus C0 D) H1) ks ((List.range j).map fun i => .list [.str (kname i)])) ?_ ?_ ?_ ?_
    · exact ⟨(Go.rfl' g9.1).new hD, [], upd_same, rfl, .nil⟩
    · rintro j H1 hj ⟨g1, _⟩
      exact .inl (.inl (g1.at g9.1 (fun z => z) el3))
    · rintro j x H1 hx ⟨g1, ks, eD, kl, dk⟩
      rw [List.getElem?_map] at hx
      obtain ⟨a, ha, rfl⟩ := Option.map_eq_some_iff.mp hx
      obtain ⟨j10, d, xa⟩ := hA j a ha
      refine ⟨rfl, .ref a, rfl, a, j, d, rfl, j10, xa.go g1 g9.1, g1.1, fun H2 l' g2 hl' el' => ?_⟩
      have eD2 := g2.at g1.1 (fun z => z) eD
      have nl : l' ≠ D := fun z => by rw [z, eD] at hl'; cases hl'
      refine ⟨ks, eD2, small_line (by omega), (g1.trans g2).put hD eD2, ks ++ [.ref l'], upd_same, by rw [List.length_append, kl]; rfl, ?_⟩
      rw [cut_out plus_D, List.range_succ, List.map_append]
      exact DpAll.app (Dp.subs (sub_go g2 g1.1).cuts _ _ dk) (.one (.lst (.inl (.inl ((cut_at (plus_no rfl nl)).trans el'))) (.one (.str _))))
    rintro H1 ⟨g1, ks, eD, kl, dk⟩
    rw [List.length_map, al] at dk
    have dk' := Dp.subs Sub.cut _ _ dk
    -- the names
    have SN1 := (sub_go g1 g9.1).seqL SN
    refine ⟨.ref lN, rfl, lN, rfl, ⟨_, SN1⟩, fun D2 hD2 => ?_⟩
    refine lc_list (K := K) (a := lN) (xs := ns) (fun j H2 => Go T D0 H1 H2 ∧ ∃ ks, H2 D2 = some (.lst ks) ∧ ks.length = j ∧ DpAll K (cut (plus C0 D2) H2) ks ((List.range j).map fun i => .list [.str (kname i)])) ?_ ?_ ?_ ?_
    · exact ⟨(Go.rfl' g1.1).new hD2, [], upd_same, rfl, .nil⟩
    · rintro j H2 hj ⟨g2, _⟩
      exact (sub_go g2 g1.1).seqL SN1
    · rintro j x H2 hx ⟨g2, ks2, eD2, kl2, dk2⟩
      have hj := (List.getElem?_eq_some_iff.mp hx).1
      obtain ⟨y, hy, hv⟩ := DpAll.at' dN' hx
      rw [List.getElem?_map, List.getElem?_range (by omega)] at hy
      cases hy
      cases Dp.strI hv
      refine ⟨rfl, .str (kname j), rfl, small_le (by show 1 ≤ 10000; decide), fun t ht => ?_⟩
      have nt := ne_of_none eD2 ht
      refine ⟨ks2, (upd_ne nt).trans eD2, small_line (by omega), (g2.new ht).put hD2 ((upd_ne nt).trans eD2), ks2 ++ [.ref t], upd_same, by rw [List.length_append, kl2]; rfl, ?_⟩
      rw [cut_out plus_D, List.range_succ, List.map_append]
      exact DpAll.app (Dp.subs (Sub.new ht).cuts _ _ dk2) (.one (.lst (.inl (.inl ((cut_at (plus_no rfl nt.symm)).trans upd_same))) (.one (.str _))))
    rintro H2 ⟨g2, ks2, eD2, kl2, dk2⟩
    rw [nsl] at dk2
    have sh3 : SeqAt.shaped (.list ((List.range 10).map fun i => .list [.str (kname i)])) = true := by decide +kernel
    refine ⟨.list ((List.range 10).map fun i => .list [.str (kname i)]), .list ((List.range 10).map fun i => .list [.str (kname i)]), .lst (.inl (.inl (g2.at g1.1 (fun z => z) eD))) (Dp.subs (sub_go g2 g1.1) _ _ dk'), .lst (.inl (.inl eD2)) (Dp.subs Sub.cut _ _ dk2), sh3, sh3, ?_⟩
    rw [eqv_self sh3]
    exact q H2 ((g9.trans g1).trans g2)
end
end K1
set_option Elab.async false
set_option linter.all false
set_option maxRecDepth 100000
set_option maxHeartbeats 400000
/-! For the law: calls, shapes of patches. -/
namespace K1
open PySem PySem.Spec PyProof.Rows L2
def Sup (G H : Hp) : Prop := Sub G H ∧ ∀ a C dx fs, G a = some (.ins C dx fs) → H a = some (.ins C dx fs)
theorem Sup.rfl' {G : Hp} : Sup G G := ⟨Sub.rfl', fun _ _ _ _ e => e⟩
theorem Sup.trans {G H I : Hp} (a : Sup G H) (b : Sup H I) : Sup G I := ⟨a.1.trans b.1, fun x C dx fs e => b.2 x C dx fs (a.2 x C dx fs e)⟩
theorem Sup.go {T : Tp} {G H : Hp} (g : Go T D0 G H) (t : TG T G) : Sup G H := ⟨sub_go g t, fun _ _ _ _ e => g.at t (fun z => z) e⟩
theorem Sup.new {H : Hp} {p : Addr} {o : HO} (h : H p = none) : Sup H (upd H p o) := ⟨Sub.new h, fun _ _ _ _ e => (upd_ne (ne_of_none e h)).trans e⟩
theorem Sup.cut {C0' : Addr → Bool} {H : Hp} : Sup (K1.cut C0' H) H := ⟨Sub.cut, fun _ _ _ _ e => (cut_some e).2⟩
theorem Sup.cuts {C0' : Addr → Bool} {G H : Hp} (a : Sup G H) : Sup (K1.cut C0' G) (K1.cut C0' H) := ⟨a.1.cuts, fun x C dx fs e => by
  obtain ⟨e1, e2⟩ := cut_some e
  rw [cut_at e1]
  exact a.2 x C dx fs e2⟩
theorem MadeN.sup {n : Nat} {K : PySem.W.Frag} {C : Addr} {G H : Hp} {x : Addr} {p : Pat} (m : MadeN n K C G x p) (s : Sup G H) : MadeN n K C H x p := by
  obtain ⟨dx, fs, nv, kv, dv, h1, h2, h3, h4, h5, h6, ht, h7, h8, h9⟩ := m
  exact ⟨dx, fs, nv, kv, dv, s.2 _ _ _ _ h1, h2, h3, h4, h5, h6, ht, Dp.sub s.1 _ _ h7, Dp.sub s.1 _ _ h8, Dp.sub s.1 _ _ h9⟩
theorem MadeN.cutD {n : Nat} {K : PySem.W.Frag} {C : Addr} {H : Hp} {x D : Addr} {p : Pat} {ys : List V} (m : MadeN n K C H x p) (e : H D = some (.lst ys)) : MadeN n K C (cut (plus C0 D) H) x p := by
  obtain ⟨dx, fs, nv, kv, dv, h1, h2, h3, h4, h5, h6, ht, h7, h8, h9⟩ := m
  have nx : plus C0 D x = false := by
    have : x ≠ D := fun z => by rw [z, e] at h1; cases h1
    simp [plus, this]
  exact ⟨dx, fs, nv, kv, dv, (cut_at nx).trans h1, h2, h3, h4, h5, h6, ht, Dp.cutD e _ _ (eN_nol _) h7, Dp.cutD e _ _ (all_nol eN_nol _) h8, Dp.cutD e _ _ (all_nol eD_nol _) h9⟩
structure MetT (P : Program) (w : World) (K : PySem.W.Frag) (mg : Str → Option Value) (base : Heap) (k : Nat) (C : Addr) (T : Tp) : Prop where
  ex : ∃ (f : Addr) (fd : FuncData), Cls K C ∧ Meth K C "told" f ∧ FnOk P w K mg base CX0 k f fd ["self"] (spTold K C T) ∧ Binds K fd ["self"] []
theorem MadeN.up {K : PySem.W.Frag} {n m : Nat} {C : Addr} {H : Hp} {x : Addr} {p : Pat} (h : MadeN n K C H x p) (l : n ≤ m) : MadeN m K C H x p := by
  obtain ⟨dx, fs, nv, kv, dv, h1, h2, r⟩ := h
  exact ⟨dx, fs, nv, kv, dv, h1, Nat.le_trans h2 l, r⟩
theorem pe_told {X : Cx} {K0 : PySem.W.Frag} {k j : Nat} {C : Addr} {T : Tp} {o : Expr} {ta : TE} {apos pos : Pos} {pl : Sem Bool} (c : MetT X.prog X.w K0 X.mg X.base k C T) (hr : Room j X.A) (hk : k ≤ j) (he : PE X o ta) (hK : X.K = K0 := by rfl)
    (ht : eval (.Call (.Attribute o "told" apos) [] [] pos) X.env = (do
      let ov ← eval o X.env
      standAt apos.atName
      let (f, first) ← holding [ov] (getMethod ov "told" pl)
      callWith pos f first (backTo pos (starEach [] X.env)) (backToKw pos (keywordEach [] X.env))) := by rfl) :
    PE X (.Call (.Attribute o "told" apos) [] [] pos) (tMeth C "told" (spTold K0 C T) [] E0 ta tNil) := by
  subst hK
  obtain ⟨f, fd, hc, hm, F, b⟩ := c.ex
  exact pe_meth0 (pl := pl) he hc hm F (hr.mono hk) b .nil pass0 ht
theorem eP_lay {q : Pat} (h : q.ok) : (eP q).canLay0 = true := by
  have hD : ∀ d ∈ q.deeds, (eD d).canLay0 = true := fun d hd => by
    have o := h.deeds d hd
    cases d with
    | put a b ts =>
      have l1 := eL_lay o.1.str
      have l2 := eL_lay o.2.1.str
      have l3 : PyData.canLayAll0 (ts.map PyData.str) = true := layAll fun t ht => by simp [PyData.canLay0, (o.2.2 t ht).1]
      simp [eD, PyData.canLay0, PyData.canLayAll0, l1, l2, l3]
      decide +kernel
    | order a b =>
      have l1 := eL_lay (EdOk.str (.inl o.1))
      have l2 := eL_lay (EdOk.str (.inl o.2))
      simp [eD, PyData.canLay0, PyData.canLayAll0, l1, l2]
      decide +kernel
    | one k a =>
      have l1 := eL_lay (EdOk.str (.inl o))
      simp [eD, PyData.canLay0, PyData.canLayAll0, l1]
      cases k <;> decide +kernel
  have l1 := eN_lay (handOk h.name.1).1
  have l2 := layAll (f := eN) (l := q.knows) fun n hn => eN_lay (handOk (h.knows n hn).1).1
  have l3 := layAll (f := eD) (l := q.deeds) hD
  simp [eP, PyData.canLay0, PyData.canLayAll0, l1, l2, l3]
theorem eD_dep (d : Deed) : (eD d).depth ≤ 2 := by
  cases d with
  | put a b ts =>
    have h1 := eL_dep a
    have h2 := eL_dep b
    have h3 := depAll (f := PyData.str) (n := 0) (l := ts) fun t _ => by simp [PyData.depth]
    simp only [eD, PyData.depth, PyData.depthAll, h1, h2]
    omega
  | order a b =>
    have h1 := eL_dep a
    have h2 := eL_dep b
    simp only [eD, PyData.depth, PyData.depthAll, h1, h2]
    omega
  | one k a =>
    have h1 := eL_dep a
    simp only [eD, PyData.depth, PyData.depthAll, h1]
    omega
theorem eP_dep (q : Pat) : (eP q).depth ≤ 4 := by
  have h1 := eN_dep q.name
  have h2 := depAll (f := eN) (n := 1) (l := q.knows) fun n _ => Nat.le_of_eq (eN_dep n)
  have h3 := depAll (f := eD) (n := 2) (l := q.deeds) fun d _ => eD_dep d
  simp only [eP, PyData.depth, PyData.depthAll, h1]
  omega
theorem eP_sh {q : Pat} (h : q.ok) : SeqAt.shaped (eP q) = true := shaped_of (eP_lay h) (by have := eP_dep q; omega)
end K1
set_option Elab.async false
set_option linter.all false
set_option maxRecDepth 100000
set_option maxHeartbeats 2000000
/-! The law's def _law_told. -/
namespace K1
open PySem PySem.Spec PyProof.Rows L2
section
variable {P : Program} {w : World} {K : PySem.W.Frag} {mg : Str → Option Value} {base : Heap} {T : Tp}
def spLTold (K : PySem.W.Frag) (C : Addr) (T : Tp) : Sp := fun vs H Q _ => ∃ (y t : Addr) (q : Pat), vs = [.ref y, .ref t] ∧ MadeN 10 K C H y q ∧ q.ok ∧ q.knows.length ≤ 100 ∧ q.deeds.length ≤ 100 ∧ Dp K H (.ref t) (eP q) ∧ TG T H ∧ ∀ H', Go T D0 H H' → Q (.bl true) H'
theorem ok_ltold {f C : Addr} {fd : FuncData} {k : Nat} (Fn : Fun K "_law_told" "_law_told" sLTold f fd) (M : Mg K mg) (c : MetT P w K mg base k C T) : FnOk P w K mg base CX0 (k + 1) f fd ["_law_patch_here", "_law_due"] (spLTold K C T) := by
  refine Fn.ok scLTold (fun vs H Q E h => ?_) (fun cdv A outer s H vs Q E hr h => ?_)
  · obtain ⟨y, t, q, rfl, _⟩ := h
    rfl
  · obtain ⟨y, t, q, rfl, md, qok, kl, dl, dt, tg, qq⟩ := h
    refine ⟨_, (pss_cons (ps_for PassesOwn.never rfl (pi_range1 (by rfl) M.range_ (pa_cons pe_int pa_nil)) (pg_name (i := 2) scLTold.nd rfl (.inl rfl))
      (pss_cons (ps_set (i := 3) scLTold.nd rfl (.inl rfl) (pe_told c hr (Nat.le_refl _) (pv 0)))
      (pss_cons (ps_if (PW.pt (pw_or (pt_not (pt_val (pe_callB call_isi (by rfl) M.ins boot_isinstance (pa_cons (pv 3) (pa_cons (pe_bltn (v := .ty "tuple") (by rfl) M.tuple_ (by decide +kernel) rfl) pa_nil))))) (pw_or (pt_cmpR (op_neD hr.units) (pv 3) (pv 1) (nomark _)) (pw_or (pt_not (pt_val (pe_callB call_isi (by rfl) M.ins boot_isinstance (pa_cons (pe_ix ix_tup (pv 3) pe_int (fun _ _ => rfl)) (pa_cons (pe_bltn (v := .ty "list") (by rfl) M.list_ (by decide +kernel) rfl) pa_nil))))) (pw_or1 (pt_not (pt_val (pe_callB call_isi (by rfl) M.ins boot_isinstance (pa_cons (pe_ix ix_tup (pv 3) pe_int (fun _ _ => rfl)) (pa_cons (pe_bltn (v := .ty "list") (by rfl) M.list_ (by decide +kernel) rfl) pa_nil))))))))))
      (pss_one (ps_ret pe_bl))
      pss_nil)
      (pss_cons (ps_expr (pe_bm PySem.F.plainAttrs_list PySem.F.slot_list_append PySem.F.type_list_append mt_append (pe_ix ix_tup (pv 3) pe_int (fun _ _ => rfl)) (pa_cons pe_int pa_nil)))
      (pss_one (ps_expr (pe_bm PySem.F.plainAttrs_list PySem.F.slot_list_append PySem.F.type_list_append mt_append (pe_ix ix_tup (pv 3) pe_int (fun _ _ => rfl)) (pa_cons pe_int pa_nil))))))))
      (pss_one (ps_ret pe_bl))), ?_⟩
    refine ⟨2, rfl, by decide, by decide, ?_⟩
    refine for_range (lo := 0) (n := 2) (fun i σ H1 => ∃ (y2 y3 : Option V), σ = [some (.ref y), some (.ref t), y2, y3] ∧ Go T D0 H H1) ?_ ?_ ?_
    · exact ⟨_, _, rfl, Go.rfl' tg⟩
    · rintro i σ H1 hi ⟨y2, y3, rfl, g1⟩
      have m1 : MadeN 10 K C H1 y q := md.sup (Sup.go g1 tg)
      have m1' := m1
      obtain ⟨dx, fs', nv', kv', dv', hins, _, _, _, _, _, hnt, _⟩ := m1'
      refine ⟨.ref y, rfl, y, dx, fs', rfl, hins, hnt, .ref y, q, rfl, Made.pat m1, g1.1, fun H2 u nv kl' dl' kvs dvs g2 hu hkl hdl nkd eu ekl edl dn dk dd => ?_⟩
      have g12 := g1.trans g2
      have s2 := sub_go g2 g1.1
      have shq := eP_sh qok
      have tht : Th K H2 (.ref u) "tuple" (some [nv, .ref kl', .ref dl']) := .tup (.inl (.inl eu))
      have thk : Th K H2 (.ref kl') "list" none := .lst (.inl (.inl ekl))
      have thd : Th K H2 (.ref dl') "list" none := .lst (.inl (.inl edl))
      have Su : SqT K H2 u [nv, .ref kl', .ref dl'] := .inl (.inl eu)
      refine ⟨.ref u, rfl, .ref u, .ty "tuple", .type "tuple", .type "tuple", _, rfl, .ty _, tht.ty, kit_ty tht.ktup, _, rfl, iteF ⟨.ref u, rfl, .ref t, rfl, eP q, eP q, .tup Su (.cons (Dp.sub s2 _ _ dn) (.cons (.lst (.inl (.inl ekl)) (Dp.subs s2 _ _ dk)) (.one (.lst (.inl (.inl edl)) (Dp.subs s2 _ _ dd))))), Dp.sub (sub_go g12 tg) _ _ dt, shq, shq, _, rfl, ?_⟩⟩
      rw [eqv_self shq]
      have kvl : kvs.length ≤ 100 := by rw [DpAll.len dk, List.length_map]; exact kl
      have dvl : dvs.length ≤ 100 := by rw [DpAll.len dd, List.length_map]; exact dl
      refine iteF ⟨.ref u, rfl, u, _, 1, .ref kl', rfl, rfl, Su, atI_nat (j := 1) rfl, .ref kl', .ty "list", .type "list", .type "list", _, rfl, .ty _, thk.ty, kit_ty thk.klst, _, rfl, iteF ⟨.ref u, rfl, u, _, 2, .ref dl', rfl, rfl, Su, atI_nat (j := 2) rfl, .ref dl', .ty "list", .type "list", .type "list", _, rfl, .ty _, thd.ty, kit_ty thd.klst, _, rfl, iteF ?_⟩⟩
      refine ⟨.ref u, rfl, u, _, 1, .ref kl', rfl, rfl, Su, atI_nat (j := 1) rfl, .inl ⟨rfl, _, .inl (.inl ekl)⟩, kl', kvs, .int 7, rfl, rfl, ekl, small_line (by omega), ?_⟩
      have nuk : u ≠ kl' := fun z => by rw [z, ekl] at eu; cases eu
      have Su3 : SqT K (upd H2 kl' (.lst (kvs ++ [.int 7]))) u [nv, .ref kl', .ref dl'] := .inl (.inl ((upd_ne nuk).trans eu))
      have ed3 := (upd_ne (o := .lst (kvs ++ [.int 7])) nkd.symm).trans edl
      have hkl0 : H kl' = none := g1.free tg (fun z => z) hkl
      have hdl0 : H dl' = none := g1.free tg (fun z => z) hdl
      have g3 := g12.put (o := .lst (kvs ++ [.int 7])) hkl0 ekl
      generalize upd H2 kl' (.lst (kvs ++ [.int 7])) = H3 at Su3 ed3 g3 ⊢
      refine ⟨.ref u, rfl, u, _, 2, .ref dl', rfl, rfl, Su3, atI_nat (j := 2) rfl, .inl ⟨rfl, _, .inl (.inl ed3)⟩, dl', dvs, .int 7, rfl, rfl, ed3, small_line (by omega), ?_⟩
      exact ⟨_, _, rfl, g3.put hdl0 ed3⟩
    · rintro σ H1 ⟨y2, y3, rfl, g1⟩
      exact qq H1 g1
end
end K1
set_option Elab.async false
set_option linter.all false
set_option maxRecDepth 100000
set_option maxHeartbeats 20000000
/-! The law of k02. -/
namespace K1
open PySem PySem.Spec PyProof.Rows L2
theorem call_lenK {X : Cx} {K0 : PySem.W.Frag} (hK : X.K = K0 := by rfl) : CallR X (.builtin "len") (fun xs H Q => ∃ p ys, xs = [.ref p] ∧ (SqL K0 H p ys ∨ SqT K0 H p ys) ∧ Q (.int ys.length) H) := hK ▸ call_len_seq
theorem cut_drop' (xs : List V) (g : Nat) : cutV xs (some ((g : Nat) : Int)) none = xs.drop g := by
  unfold cutV
  rw [HT.sIx_none, HT.sIx_nat]
  by_cases h : g ≤ xs.length
  · rw [Nat.min_eq_left h]
    exact List.take_of_length_le (by rw [List.length_drop]; exact Nat.le_refl _)
  · rw [Nat.min_eq_right (by omega), List.drop_eq_nil_of_le (Nat.le_refl _), List.drop_eq_nil_of_le (by omega)]
    exact List.take_nil
theorem handed_sh {q : Pat} (h : q.ok) : SeqAt.shaped (.list [.list (q.knows.map eN), .list (q.deeds.map eD)]) = true := by
  have l1 := eP_lay h
  have l2 := eP_dep q
  simp only [eP, PyData.canLay0, PyData.canLayAll0, Bool.and_eq_true, Bool.and_true] at l1
  simp only [eP, PyData.depth, PyData.depthAll] at l2
  refine shaped_of ?_ ?_
  · simp only [PyData.canLay0, PyData.canLayAll0, Bool.and_eq_true, Bool.and_true]
    exact l1.2
  · simp only [PyData.depth, PyData.depthAll]
    omega
theorem okDs_all : ∀ {l : List PyData}, (∀ x ∈ l, okD x = true) → okD.okDs l = true
  | [], _ => by simp [okD.okDs]
  | x :: r, h => by
    unfold okD.okDs
    rw [h x List.mem_cons_self, okDs_all fun y hy => h y (List.mem_cons_of_mem _ hy)]
    rfl
structure Cals2 (P : Program) (w : World) (K : PySem.W.Frag) (mg : Str → Option Value) (base : Heap) (C : Addr) (T : Tp) (k : Nat) : Prop where
  hist : Cal P w K mg base k "_law_history" ["_law_script", "_law_most"] (spHist K T)
  draw : Cal P w K mg base k "_law_draw" ["_law_cell", "_law_k"] spDraw
  digit : Cal P w K mg base k "_law_digit" ["_law_state", "_law_many"] spDigit
  mixed : Cal P w K mg base k "_law_mixed" ["_law_cell", "_law_k"] spMixed
  bad : Cal P w K mg base k "_law_bad_deed" ["_law_state", "_law_name", "_law_many"] (spBadDeed K T)
  refused : Cal P w K mg base k "_law_refused" ["_law_name", "_law_knows", "_law_deeds"] (spRefused K T)
  heads : Cal P w K mg base k "_law_heads_refused" ["_law_state", "_law_name", "_law_knows", "_law_deeds"] (spHeads K T)
  told : Cal P w K mg base k "_law_told" ["_law_patch_here", "_law_due"] (spLTold K C T)
  byhand : Cal P w K mg base k "_law_by_hand" ["_law_number"] (spByHand K T)
  make : MakP P w K mg base k C T
section
variable {P : Program} {w : World} {K : PySem.W.Frag} {mg : Str → Option Value} {base : Heap} {T : Tp}
def spLaw (K : PySem.W.Frag) : Sp := fun vs H Q _ => ∃ (a : Addr) (ns : List Int), vs = [.ref a] ∧ SqL K H a (ns.map V.int) ∧ ns.length ≤ 63 ∧ TG ([] : Tp) H ∧ ∀ H', Q (.bl true) H'
theorem ok_law {f C : Addr} {fd : FuncData} {k : Nat} (F : Fun K "law" "law" sLaw f fd) (M : Mg K mg) (c : Cals2 P w K mg base C [] k) : FnOk P w K mg base CX0 (k + 2) f fd ["_law_script"] (spLaw K) := by
  refine F.ok scLaw (fun vs H Q E h => ?_) (fun cdv A outer s H vs Q E hr h => ?_)
  · obtain ⟨a, ns, rfl, _⟩ := h
    rfl
  · obtain ⟨a, ns, rfl, S, nl, tg, qq⟩ := h
    have hr' := hr.mono (show k ≤ k + 1 from Nat.le_succ k)
    refine ⟨_, (pss_cons (ps_for PassesOwn.never rfl (pi_enum (by rfl) M.enum_ (pa_cons (pe_cal c.hist hr' (by rfl) (pa_cons (pv 0) (pa_cons pe_int pa_nil))) pa_nil)) (pg_tup rfl (pgs_cons (pg_name (i := 1) scLaw.nd rfl (.inl rfl)) (pgs_cons (pg_tup rfl (pgs_cons (pg_name (i := 2) scLaw.nd rfl (.inl rfl)) (pgs_cons (pg_name (i := 3) scLaw.nd rfl (.inl rfl)) (pgs_cons (pg_name (i := 4) scLaw.nd rfl (.inl rfl)) pgs_nil)))) pgs_nil)))
      (pss_cons (ps_set (i := 5) scLaw.nd rfl (.inl rfl) (pe_lst (pa_cons (pe_callTy call_list_of (by rfl) M.list_ (by decide +kernel) (pa_cons (pv 3) pa_nil)) (pa_cons (pe_callTy call_list_of (by rfl) M.list_ (by decide +kernel) (pa_cons (pv 4) pa_nil)) pa_nil))))
      (pss_cons (ps_set (i := 6) scLaw.nd rfl (.inl rfl) (pe_mkP c.make hr (Nat.le_refl _) (by rfl) (pa_cons (pv 2) (pa_cons (pe_ix ix_list (pv 5) pe_int (fun _ _ => rfl)) (pa_cons (pe_ix ix_list (pv 5) pe_int (fun _ _ => rfl)) pa_nil)))))
      (pss_cons (ps_if (pt_cmpR (op_neD hr.units) (pv 5) (pe_lst (pa_cons (pv 3) (pa_cons (pv 4) pa_nil))) (nomark _))
      (pss_one (ps_ret pe_bl))
      pss_nil)
      (pss_cons (ps_expr (pe_bm PySem.F.plainAttrs_list PySem.F.slot_list_append PySem.F.type_list_append mt_append (pe_ix ix_list (pv 5) pe_int (fun _ _ => rfl)) (pa_cons pe_int pa_nil)))
      (pss_cons (ps_expr (pe_bm PySem.F.plainAttrs_list PySem.F.slot_list_append PySem.F.type_list_append mt_append (pe_ix ix_list (pv 5) pe_int (fun _ _ => rfl)) (pa_cons pe_int pa_nil)))
      (pss_cons (ps_if (pt_not (pt_val (pe_cal c.told hr' (by rfl) (pa_cons (pv 6) (pa_cons (pe_tup (pa_cons (pv 2) (pa_cons (pv 3) (pa_cons (pv 4) pa_nil)))) pa_nil)))))
      (pss_one (ps_ret pe_bl))
      pss_nil)
      (pss_cons (ps_set (i := 7) scLaw.nd rfl (.inl rfl) (pe_cal c.draw hr' (by rfl) (pa_cons (pe_op op_fdiv (pe_ix ix_list (pe_op op_catS (pv 0) (pe_lst (pa_cons (pe_callB (cr_sum rfl) (by rfl) M.sum_ (by decide +kernel) (pa_cons (pv 0) pa_nil)) pa_nil))) (pv 1) (fun _ _ => rfl)) pe_int) (pa_cons (pe_op op_add pe_int (pv 1)) pa_nil))))
      (pss_cons (ps_set (i := 8) scLaw.nd rfl (.inl rfl) (pe_cal c.digit hr' (by rfl) (pa_cons (pv 7) (pa_cons (pe_op op_add (pe_callB call_len_seq (by rfl) M.len_ PySem.boot_len (pa_cons (pv 4) pa_nil)) pe_int) pa_nil))))
      (pss_cons (ps_set (i := 10) scLaw.nd rfl (.inl rfl) (pe_callB (cr_sum rfl) (by rfl) M.sum_ (by decide +kernel) (pa_cons (pe_lc (own := [("_law_deed_here", 9)]) (g := gName 9) rfl scLaw.nd (pi_list (pe_slice sl_list (pv 4) po_none (po_some (pv 8)))) (blkOk_by (N := ["_law_script", "_law_k", "_law_name", "_law_knows", "_law_deeds", "_law_handed", "_law_patch_here", "_law_state", "_law_at", "_law_deed_here", "_law_many", "_law_bad"]) (sc := defScope sLaw) (by decide +kernel)) (fun _ _ _ _ _ => (pg_name (i := 9) scLaw.nd rfl (Or.inl rfl))) (fun _ _ _ _ _ => (pts_one (pt_cmpR op_eq (pe_ix (ix_tupK (K0 := K)) (pv 9) pe_int (fun _ _ => rfl)) pe_str (nomark _)))) (fun _ _ _ _ _ => (pe_callB (call_lenK (K0 := K)) (by rfl) M.len_ PySem.boot_len (pa_cons (pe_ix (ix_tupK (K0 := K)) (pv 9) pe_int (fun _ _ => rfl)) pa_nil)))) pa_nil)))
      (pss_cons (ps_set (i := 11) scLaw.nd rfl (.inl rfl) (pe_op op_catS (pe_op op_catS (pe_slice sl_list (pv 4) po_none (po_some (pv 8))) (pe_lst (pa_cons (pe_cal c.bad hr' (by rfl) (pa_cons (pv 7) (pa_cons (pv 2) (pa_cons (pv 10) pa_nil)))) pa_nil))) (pe_slice sl_list (pv 4) (po_some (pe_op op_add (pv 8) (pe_cal c.digit hr' (by rfl) (pa_cons (pv 7) (pa_cons pe_int pa_nil))))) po_none)))
      (pss_one (ps_if (PW.pt (pw_or (pt_cmpR op_ne (pe_cal c.refused hr' (by rfl) (pa_cons (pv 2) (pa_cons (pv 3) (pa_cons (pv 11) pa_nil)))) (pe_op op_add (pv 8) pe_int) (nomark _)) (pw_or1 (pt_not (pt_val (pe_cal c.heads hr' (by rfl) (pa_cons (pv 7) (pa_cons (pv 2) (pa_cons (pv 3) (pa_cons (pv 4) pa_nil))))))))))
      (pss_one (ps_ret pe_bl))
      pss_nil)))))))))))))
      (pss_one (ps_ret (pe_cal c.byhand hr' (by rfl) (pa_cons (pe_op op_mod (pe_cal c.mixed hr' (by rfl) (pa_cons (pe_callB (cr_sum rfl) (by rfl) M.sum_ (by decide +kernel) (pa_cons (pv 0) pa_nil)) (pa_cons pe_int pa_nil))) pe_int) pa_nil))))), ?_⟩
    refine ⟨.ref a, rfl, a, ns, 63, rfl, S, nl, by decide, tg, fun H1 p xs hist g1 hp ep dh hf hlen => ?_⟩
    have hfine := hf.fine menuH_ok (by omega)
    have hsmall := (hf.ok menuH_ok (by omega)).each
    have tg1 := g1.1
    have S1 := (sub_go g1 tg).seqL S
    have dX := Dp.subs Sub.cut _ _ dh
    have xlen : xs.length = hist.length := by rw [DpAll.len dX, List.length_map]
    refine ⟨p, xs, rfl, .inl (.inl ep), ?_⟩
    refine for_it (walk_enum (K := K) (a := p) (xs := xs)) (fun i σ H2 => ∃ (y1 y2 y3 y4 y5 y6 y7 y8 y10 y11 : Option V), σ = [some (.ref a), y1, y2, y3, y4, y5, y6, y7, y8, none, y10, y11] ∧ Go [] D0 H1 H2) ?_ ?_ ?_ ?_
    · exact ⟨_, _, _, _, _, _, _, _, _, _, rfl, Go.rfl' tg1⟩
    · rintro i σ H2 hi ⟨_, _, _, _, _, _, _, _, _, _, rfl, g⟩
      exact .inl (.inl (g.at tg1 (fun z => z) ep))
    · rintro i v σ H2 H2' hi ⟨y1, y2, y3, y4, y5, y6, y7, y8, y10, y11, rfl, g2⟩ ⟨T', x', y', rfl, hT, rfl, hx', hy'⟩
      cases Option.some.inj hx'
      have hy' : xs[i]? = some y' := hy'
      obtain ⟨d', hd', hv'⟩ := DpAll.at' (Dp.subs (sub_go g2 tg1) _ _ dX) hy'
      obtain ⟨q, hq, rfl⟩ := at_map hd'
      have qm := List.mem_of_getElem? hq
      have fq := hfine q qm
      have sq := (hsmall q qm).2
      have pf := hf i q hq
      have qok := fq.good.ok
      have neQ : q.name ≠ nmQ := fun z => by
        have h := pf.hand
        rw [z] at h
        exact absurd h (by decide +kernel)
      obtain ⟨u, us, rfl, Su, dus⟩ := Dp.tupI hv'
      obtain ⟨nv, kv, dv, rfl, dn, dk, dd⟩ := DpAll.i3 dus
      obtain ⟨kl, kvs, rfl, Sk, dks⟩ := Dp.lstI dk
      obtain ⟨dl, dvs, rfl, Sd, dds⟩ := Dp.lstI dd
      have kvl : kvs.length ≤ 4 := by rw [DpAll.len dks, List.length_map]; exact sq.knows
      have dvl' : dvs.length = q.deeds.length := by rw [DpAll.len dds, List.length_map]
      have dvl : dvs.length ≤ 3 := by rw [dvl']; exact sq.deeds
      have g3 := g2.new (o := .tup [V.int (i : Nat), .ref u]) hT
      have s3 := Sub.new (o := .tup [V.int (i : Nat), .ref u]) hT
      have t3 : (upd H2 T' (.tup [V.int (i : Nat), .ref u])) T' = some (.tup [V.int (i : Nat), .ref u]) := upd_same
      generalize upd H2 T' (.tup [V.int (i : Nat), .ref u]) = H3 at g3 s3 t3 ⊢
      have Su3 := s3.seqT Su
      have dn3 := Dp.sub s3 _ _ dn
      have Sk3 := s3.seqL Sk
      have dks3 := Dp.subs s3 _ _ dks
      have Sd3 := s3.seqL Sd
      have dds3 := Dp.subs s3 _ _ dds
      clear Su dn Sk dks Sd dds dus dk dd hv' hd'
      refine ⟨T', _, rfl, .inl (.inl t3), rfl, _, _, rfl, _, _, rfl, u, _, rfl, Su3, rfl, _, _, rfl, _, _, rfl, _, _, rfl, rfl, rfl, ?_⟩
      -- handed
      refine ⟨.ref kl, rfl, kl, kvs, rfl, .inl Sk3, fun kl2 hk2 => ?_⟩
      have tg3 := g3.1
      have g4 : Go [] D0 H3 (upd H3 kl2 (.lst kvs)) := (Go.rfl' tg3).new hk2
      have s4 := s3.trans (Sub.new (o := .lst kvs) hk2)
      have k4 := Sub.new (o := .lst kvs) hk2
      have ek4 : (upd H3 kl2 (.lst kvs)) kl2 = some (.lst kvs) := upd_same
      generalize upd H3 kl2 (.lst kvs) = H4 at g4 s4 k4 ek4 ⊢
      refine ⟨.ref dl, rfl, dl, dvs, rfl, .inl (k4.seqL Sd3), fun dl2 hd2 => ?_⟩
      have g5 := g4.new (o := .lst dvs) hd2
      have k5 := k4.trans (Sub.new (o := .lst dvs) hd2)
      have ek5 := (upd_ne (o := .lst dvs) (ne_of_none ek4 hd2)).trans ek4
      have ed5 : (upd H4 dl2 (.lst dvs)) dl2 = some (.lst dvs) := upd_same
      have nkd : kl2 ≠ dl2 := ne_of_none ek4 hd2
      generalize upd H4 dl2 (.lst dvs) = H5 at g5 k5 ek5 ed5 ⊢
      refine ⟨small_le (by show 2 ≤ 10000; decide), fun ha hha => ?_⟩
      have g6 := g5.new (o := .lst [.ref kl2, .ref dl2]) hha
      have nhk : ha ≠ kl2 := (ne_of_none ek5 hha).symm
      have k6 := k5.trans (Sub.new (o := .lst [.ref kl2, .ref dl2]) hha)
      have ek6 := (upd_ne (o := .lst [.ref kl2, .ref dl2]) (ne_of_none ek5 hha)).trans ek5
      have ed6 := (upd_ne (o := .lst [.ref kl2, .ref dl2]) (ne_of_none ed5 hha)).trans ed5
      have eh6 : (upd H5 ha (.lst [.ref kl2, .ref dl2])) ha = some (.lst [.ref kl2, .ref dl2]) := upd_same
      generalize upd H5 ha (.lst [.ref kl2, .ref dl2]) = H6 at g6 k6 ek6 ed6 eh6 ⊢
      have tg6 := g6.1
      have dn6 := Dp.sub k6 _ _ dn3
      have Sk6 := k6.seqL Sk3
      have dks6 := Dp.subs k6 _ _ dks3
      have Sd6 := k6.seqL Sd3
      have dds6 := Dp.subs k6 _ _ dds3
      have h3d : H3 dl2 = none := g4.free tg3 (fun z => z) hd2
      clear g4 g5 s4 k4 k5 ek4 ek5 ed5 k6
      -- the patch
      refine ⟨nv, rfl, .ref ha, rfl, ha, _, 0, .ref kl2, rfl, rfl, .inl (.inl eh6), atI_nat (j := 0) rfl, .ref ha, rfl, ha, _, 1, .ref dl2, rfl, rfl, .inl (.inl eh6), atI_nat (j := 1) rfl, ?_⟩
      intro y dy hy hdy ne
      have tg7 := tg6.born (o := .own y) (o' := .ins C dy []) hy hdy ne
      have s7 : Sub H6 (upd (upd H6 dy (.own y)) y (.ins C dy [])) := (Sub.new hdy).trans (Sub.new (by rw [upd_ne ne.symm]; exact hy))
      refine ⟨y, dy, nv, kl2, dl2, kvs, dvs, q, rfl, upd_same, Dp.sub s7 _ _ dn6, s7.seqL (.inl (.inl ek6)), Dp.subs s7 _ _ dks6, s7.seqL (.inl (.inl ed6)), Dp.subs s7 _ _ dds6, fq.good, tg7, fun H8 g68 mdy => ⟨rfl, ?_⟩⟩
      have g68' : Go [] D0 H6 H8 := g68.born tg6 hy hdy ne
      have g8 := g6.trans g68'
      have s8 := sub_go g68' tg6
      have dn8 := Dp.sub s8 _ _ dn6
      have Sk8 := s8.seqL Sk6
      have dks8 := Dp.subs s8 _ _ dks6
      have Sd8 := s8.seqL Sd6
      have dds8 := Dp.subs s8 _ _ dds6
      have ek8 := g68'.at tg6 (fun z => z) ek6
      have ed8 := g68'.at tg6 (fun z => z) ed6
      have eh8 := g68'.at tg6 (fun z => z) eh6
      clear tg7 s7 dn6 Sk6 dks6 Sd6 dds6 ek6 ed6 eh6 s8
      -- handed != [knows, deeds]
      refine ⟨.ref ha, rfl, .ref kl, rfl, .ref dl, rfl, small_le (by show 2 ≤ 10000; decide), fun m hm => ?_⟩
      have g9 := g8.new (o := .lst [.ref kl, .ref dl]) hm
      have k9 := Sub.new (o := .lst [.ref kl, .ref dl]) hm
      have ek9 := (upd_ne (o := .lst [.ref kl, .ref dl]) (ne_of_none ek8 hm)).trans ek8
      have ed9 := (upd_ne (o := .lst [.ref kl, .ref dl]) (ne_of_none ed8 hm)).trans ed8
      have eh9 := (upd_ne (o := .lst [.ref kl, .ref dl]) (ne_of_none eh8 hm)).trans eh8
      have em9 : (upd H8 m (.lst [.ref kl, .ref dl])) m = some (.lst [.ref kl, .ref dl]) := upd_same
      have md9 : MadeN 10 K C (upd H8 m (.lst [.ref kl, .ref dl])) y q := (mdy.up (by decide)).sup (Sup.new hm)
      have kp9 : Kp H8 (upd H8 m (.lst [.ref kl, .ref dl])) := Kp.new hm
      generalize upd H8 m (.lst [.ref kl, .ref dl]) = H9 at g9 k9 ek9 ed9 eh9 em9 md9 kp9 ⊢
      have dn9 := Dp.sub k9 _ _ dn8
      have Sk9 := k9.seqL Sk8
      have dks9 := Dp.subs k9 _ _ dks8
      have Sd9 := k9.seqL Sd8
      have dds9 := Dp.subs k9 _ _ dds8
      have shh := handed_sh qok
      refine ⟨.list [.list (q.knows.map eN), .list (q.deeds.map eD)], .list [.list (q.knows.map eN), .list (q.deeds.map eD)], .lst (.inl (.inl eh9)) (.cons (.lst (.inl (.inl ek9)) dks9) (.one (.lst (.inl (.inl ed9)) dds9))), .lst (.inl (.inl em9)) (.cons (.lst Sk9 dks9) (.one (.lst Sd9 dds9))), shh, shh, _, rfl, ?_⟩
      rw [eqv_self shh]
      refine iteF ?_
      clear em9 k9 kp9 shh dn8 Sk8 dks8 Sd8 dds8 ek8 ed8 eh8
      have put : ∀ {H H' : Hp} {D : Addr} {ys : List V} {o : HO}, MadeN 10 K C H y q → H D = some (.lst ys) → MadeN 10 K C (upd H D o) y q := fun {H H' D ys o} m e => by
        have h1 := m.cutD e
        rw [← cut_out (C := plus C0 D) (o := o) plus_D] at h1
        exact h1.sup Sup.cut
      refine ⟨.ref ha, rfl, ha, _, 0, .ref kl2, rfl, rfl, .inl (.inl eh9), atI_nat (j := 0) rfl, .inl ⟨rfl, _, .inl (.inl ek9)⟩, kl2, kvs, .int 7, rfl, rfl, ek9, small_line (by omega), ?_⟩
      have g10 := g9.put (o := .lst (kvs ++ [.int 7])) hk2 ek9
      have eh10 := (upd_ne (o := .lst (kvs ++ [.int 7])) nhk).trans eh9
      have ed10 := (upd_ne (o := .lst (kvs ++ [.int 7])) nkd.symm).trans ed9
      have md10 := put (H' := H9) (o := .lst (kvs ++ [.int 7])) md9 ek9
      generalize upd H9 kl2 (.lst (kvs ++ [.int 7])) = H10 at g10 eh10 ed10 md10 ⊢
      refine ⟨.ref ha, rfl, ha, _, 1, .ref dl2, rfl, rfl, .inl (.inl eh10), atI_nat (j := 1) rfl, .inl ⟨rfl, _, .inl (.inl ed10)⟩, dl2, dvs, .int 7, rfl, rfl, ed10, small_line (by omega), ?_⟩
      have g11 := g10.put (o := .lst (dvs ++ [.int 7])) h3d ed10
      have md11 := put (H' := H9) (o := .lst (dvs ++ [.int 7])) md10 ed10
      generalize upd H10 dl2 (.lst (dvs ++ [.int 7])) = H11 at g11 md11 ⊢
      clear g9 g10 ek9 ed9 eh9 eh10 ed10 md9 md10 dn9 Sk9 dks9 Sd9 dds9 g8 g68' g6
      -- told
      refine ⟨.ref y, rfl, nv, rfl, .ref kl, rfl, .ref dl, rfl, small_le (by show 3 ≤ 10000; decide), fun t ht => ?_⟩
      have g12 := g11.new (o := .tup [nv, .ref kl, .ref dl]) ht
      have t12 : (upd H11 t (.tup [nv, .ref kl, .ref dl])) t = some (.tup [nv, .ref kl, .ref dl]) := upd_same
      have md12 := md11.sup (Sup.new (o := .tup [nv, .ref kl, .ref dl]) ht)
      generalize upd H11 t (.tup [nv, .ref kl, .ref dl]) = H12 at g12 t12 md12 ⊢
      have s12 := sub_go g12 tg3
      have dP12 : Dp K H12 (.ref t) (eP q) := .tup (.inl (.inl t12)) (.cons (Dp.sub s12 _ _ dn3) (.cons (.lst (s12.seqL Sk3) (Dp.subs s12 _ _ dks3)) (.one (.lst (s12.seqL Sd3) (Dp.subs s12 _ _ dds3)))))
      refine ⟨y, t, q, rfl, md12, qok, by have := sq.knows; omega, by have := sq.deeds; omega, dP12, g12.1, fun H13 g1213 => ⟨_, rfl, iteF ?_⟩⟩
      have g13 := g12.trans g1213
      clear g12 g1213 t12 md12 s12 dP12 md11 g11
      -- the drawing state
      have S13 : SqL K H13 a (ns.map V.int) := (sub_go ((g1.trans g3).trans g13) tg).seqL S
      refine ⟨.ref a, rfl, .ref a, rfl, a, ns, rfl, S13, small_le (by show 1 ≤ 10000; decide), fun b hb => ?_⟩
      have g14 := g13.new (o := .lst [.int ns.sum]) hb
      have S14 := (Sub.new (o := .lst [.int ns.sum]) hb).seqL S13
      have b14 : (upd H13 b (.lst [.int ns.sum])) b = some (.lst [.int ns.sum]) := upd_same
      generalize upd H13 b (.lst [.int ns.sum]) = H14 at g14 S14 b14 ⊢
      refine ⟨a, b, _, _, rfl, rfl, S14, .inl (.inl b14), small_le (by rw [List.length_map]; show ns.length + 1 ≤ 10000; omega), fun z hz => ?_⟩
      have g15 := g14.new (o := .lst (ns.map V.int ++ [.int ns.sum])) hz
      have z15 : (upd H14 z (.lst (ns.map V.int ++ [.int ns.sum]))) z = some (.lst ((ns ++ [ns.sum]).map V.int)) := by rw [upd_same, List.map_append]; rfl
      generalize upd H14 z (.lst (ns.map V.int ++ [.int ns.sum])) = H15 at g15 z15 ⊢
      clear S13 S14 b14 g13 g14
      have iz : i < (ns ++ [ns.sum]).length := by
        rw [List.length_append]
        show i < ns.length + 1
        omega
      have hz15 : ((ns ++ [ns.sum]).map V.int)[i]? = some (.int (ns ++ [ns.sum])[i]) := by rw [List.getElem?_map, List.getElem?_eq_getElem iz]; rfl
      generalize (ns ++ [ns.sum])[i] = cell at hz15
      refine ⟨.int (i : Nat), rfl, z, _, (i : Nat), .int cell, rfl, rfl, .inl (.inl z15), atI_nat hz15, cell, 7, rfl, rfl, ⟨by decide, by decide⟩, ?_⟩
      refine ⟨.int (i : Nat), rfl, 200, (i : Nat), rfl, rfl, cell / 7, 200 + (i : Nat), rfl, by omega, by omega, fun d a1 b1 a10 b10 hd => ?_⟩
      have g16 := g15.new (o := .dK (stD a1 b1)) hd
      have st16 : St (upd H15 d (.dK (stD a1 b1))) d := ⟨a1, b1, a10, b10, upd_same⟩
      have hd3 : H3 d = none := g15.free tg3 (fun z => z) hd
      generalize upd H15 d (.dK (stD a1 b1)) = B at g16 st16 ⊢
      clear g15 z15 hz15
      have tgB := g16.1
      have sB := sub_go g16 tg3
      have dnB := Dp.sub sB _ _ dn3
      have SkB := sB.seqL Sk3
      have dksB := Dp.subs sB _ _ dks3
      have SdB := sB.seqL Sd3
      have ddsB := Dp.subs sB _ _ dds3
      have toB : ∀ {H' : Hp}, Go [] (· = d) B H' → Sub B H' := fun g => st16.sub g tgB
      have up : ∀ {H1 H2 : Hp}, Go [] D0 H1 H2 → Go [] (· = d) H1 H2 := fun g => g.mono fun _ z => z.elim
      have oN := okD_eN qok.name
      have oK : okD (.list (q.knows.map eN)) = true := okDs_map fun n hn => okD_eN (qok.knows n hn)
      -- the place
      obtain ⟨a2, b2, a20, b20, ed⟩ := _root_.id st16
      refine ⟨.ref d, rfl, .ref dl, rfl, dl, dvs, rfl, .inl SdB, _, _, rfl, rfl, d, a2, b2, (dvs.length : Int) + 1, rfl, ed, a20, b20, by omega, by omega, dg tgB ed fun r H17 r0 r1 g17 st17 => ?_⟩
      obtain ⟨at_, rfl⟩ : ∃ n : Nat, r = (n : Int) := ⟨r.toNat, by omega⟩
      have hat : at_ ≤ q.deeds.length := by omega
      -- many
      refine ⟨.ref dl, rfl, .int at_, rfl, _, rfl, dl, dvs, rfl, (toB g17).seqL SdB, fun L hL => ?_⟩
      rw [cut_take dvs _ (by omega)]
      have g18 := g17.new (o := .lst (dvs.take at_)) hL
      have st18 := st17.new (o := .lst (dvs.take at_)) hL
      have L18 : (upd H17 L (.lst (dvs.take at_))) L = some (.lst (dvs.take at_)) := upd_same
      generalize upd H17 L (.lst (dvs.take at_)) = H18 at g18 st18 L18 ⊢
      clear g17 st17 hL
      have ddT : DpAll K H18 (dvs.take at_) ((q.deeds.take at_).map eD) := by
        have := DpAll.take (Dp.subs (toB g18) _ _ ddsB) at_
        rwa [← List.map_take] at this
      refine ⟨L, rfl, ⟨_, .inl (.inl L18)⟩, fun D hD => ?_⟩
      refine lc_list (K := K) (a := L) (xs := dvs.take at_) (fun j H19 => Go [] D0 H18 H19 ∧ ∃ ms : List Int, H19 D = some (.lst (ms.map V.int)) ∧ ms.length ≤ j ∧ ms.sum = ((((q.deeds.take at_).take j).flatMap Deed.texts).length : Nat)) ?_ ?_ ?_ ?_
      · exact ⟨(Go.rfl' g18.1).new hD, [], upd_same, Nat.le_refl _, by rw [List.take_zero]; rfl⟩
      · rintro j H19 hj ⟨g19, _⟩
        exact .inl (.inl (g19.at g18.1 (fun z => z) L18))
      · rintro j x H19 hx ⟨g19, ms, eD, ml, msum⟩
        have hj := (List.getElem?_eq_some_iff.mp hx).1
        rw [List.length_take] at hj
        obtain ⟨d0, hd0, hv0⟩ := DpAll.at' ddT hx
        obtain ⟨dd, hdd, rfl⟩ := at_map hd0
        obtain ⟨a', lvs, tl', rfl, Sa, dl', hcase⟩ := deed_parts (Dp.sub (sub_go g19 g18.1) _ _ hv0)
        have step := flat_succ (f := Deed.texts) hdd
        rw [step, List.length_append]
        refine ⟨rfl, .ref a', rfl, a', _, 0, .str dd.kind, rfl, rfl, Sa, atI_nat (j := 0) rfl, rfl, _, rfl, ite2 (fun e => ?_) (fun e => ?_)⟩
        · have ek : dd.kind = "put" := V.str.inj (of_decide_eq_true e)
          rcases hcase with ⟨_, h2, t, rfl, st⟩ | ⟨n1, _⟩ | ⟨n1, _⟩
          · obtain ⟨x, y, rfl⟩ := len2 h2
            refine ⟨.ref a', rfl, a', _, 3, .ref t, rfl, rfl, Sa, atI_nat (j := 3) rfl, t, _, rfl, .inr st, _, eD, small_line (by rw [List.length_map]; omega), g19.put hD eD, ms ++ [((dd.texts.map V.str).length : Int)], by rw [upd_same, List.map_append]; rfl, by rw [List.length_append]; show _ + 1 ≤ _; omega, ?_⟩
            rw [List.sum_append, msum, List.length_map]
            simp
          · rw [ek] at n1
            exact absurd n1 (by decide +kernel)
          · exact absurd ek n1
        · have ek : ¬ dd.kind = "put" := fun z => e (decide_eq_true (by rw [z]))
          have tx : dd.texts = [] := by
            rcases hcase with ⟨n1, _⟩ | ⟨_, _, _, h⟩ | ⟨_, _, _, _, h⟩
            · exact absurd n1 ek
            · exact h
            · exact h
          exact ⟨g19, ms, eD, by omega, by rw [msum, tx]; rfl⟩
      rintro H19 ⟨g1819, ms, eD, ml, msum⟩
      have tl : (dvs.take at_).length = at_ := by rw [List.length_take, Nat.min_eq_left (by omega)]
      rw [tl, List.take_of_length_le (show (q.deeds.take at_).length ≤ at_ by rw [List.length_take]; omega)] at msum
      have msum' : ms.sum = (manyAt q.deeds at_ : Nat) := msum
      refine ⟨D, ms, rfl, .inl (.inl eD), ?_⟩
      rw [msum']
      have g19 := g18.trans (up g1819)
      have st19 := st18.go g1819 g18.1
      clear ddT msum g1819 eD ml L18 st18 g18
      -- the row with one that can't be
      refine ⟨.ref dl, rfl, .int at_, rfl, _, rfl, dl, dvs, rfl, (toB g19).seqL SdB, fun L1 hL1 => ?_⟩
      rw [cut_take dvs _ (by omega)]
      have g20 := g19.new (o := .lst (dvs.take at_)) hL1
      have st20 := st19.new (o := .lst (dvs.take at_)) hL1
      have L20 : (upd H19 L1 (.lst (dvs.take at_))) L1 = some (.lst (dvs.take at_)) := upd_same
      have nL1 : L1 ≠ d := by
        obtain ⟨_, _, _, _, z⟩ := st19
        exact (ne_of_none z hL1).symm
      generalize upd H19 L1 (.lst (dvs.take at_)) = H20 at g20 st20 L20 ⊢
      refine ⟨.ref d, rfl, nv, rfl, .int (manyAt q.deeds at_ : Nat), rfl, d, nv, q.name, manyAt q.deeds at_, rfl, st20, Dp.sub (toB g20) _ _ dnB, g20.1, fun H21 bv kb bx hbx g2021 st21 dbv => ?_⟩
      have g21 := g20.trans g2021
      have L21 := g2021.at g20.1 nL1 L20
      refine ⟨small_le (by show 1 ≤ 10000; decide), fun m2 hm2 => ?_⟩
      have g22 := g21.new (o := .lst [bv]) hm2
      have st22 := st21.new (o := .lst [bv]) hm2
      have L22 := (upd_ne (o := .lst [bv]) (ne_of_none L21 hm2)).trans L21
      have m22 : (upd H21 m2 (.lst [bv])) m2 = some (.lst [bv]) := upd_same
      have dbv22 := Dp.sub (Sub.new (o := .lst [bv]) hm2) _ _ dbv
      generalize upd H21 m2 (.lst [bv]) = H22 at g22 st22 L22 m22 dbv22 ⊢
      refine ⟨L1, m2, _, _, rfl, rfl, .inl (.inl L22), .inl (.inl m22), small_le (by rw [tl]; show at_ + 1 ≤ 10000; omega), fun z2 hz2 => ?_⟩
      have g23 := g22.new (o := .lst (dvs.take at_ ++ [bv])) hz2
      have st23 := st22.new (o := .lst (dvs.take at_ ++ [bv])) hz2
      have z23 : (upd H22 z2 (.lst (dvs.take at_ ++ [bv]))) z2 = some (.lst (dvs.take at_ ++ [bv])) := upd_same
      have dbv23 := Dp.sub (Sub.new (o := .lst (dvs.take at_ ++ [bv])) hz2) _ _ dbv22
      have nz2 : z2 ≠ d := by
        obtain ⟨_, _, _, _, z⟩ := st22
        exact (ne_of_none z hz2).symm
      generalize upd H22 z2 (.lst (dvs.take at_ ++ [bv])) = H23 at g23 st23 z23 dbv23 ⊢
      clear L20 L21 L22 m22 dbv dbv22 g2021 g20 g21 g22 st20 st21 st22 g19 st19
      obtain ⟨a3, b3, a30, b30, ed3⟩ := _root_.id st23
      refine ⟨.ref dl, rfl, .int at_, rfl, .ref d, rfl, d, a3, b3, 2, rfl, ed3, a30, b30, by decide, by decide, dg g23.1 ed3 fun r2 H24 r20 r21 g2324 st24 => ?_⟩
      obtain ⟨j2, rfl⟩ : ∃ n : Nat, r2 = (n : Int) := ⟨r2.toNat, by omega⟩
      have g24 := g23.trans g2324
      have z24 := g2324.at g23.1 nz2 z23
      have dbv24 := Dp.sub (st23.sub g2324 g23.1) _ _ dbv23
      refine ⟨(at_ : Int), (j2 : Int), rfl, rfl, _, rfl, dl, dvs, rfl, (toB g24).seqL SdB, fun L2 hL2 => ?_⟩
      rw [show (at_ : Int) + (j2 : Int) = ((at_ + j2 : Nat) : Int) by omega, cut_drop']
      have g25 := g24.new (o := .lst (dvs.drop (at_ + j2))) hL2
      have st25 := st24.new (o := .lst (dvs.drop (at_ + j2))) hL2
      have z25 := (upd_ne (o := .lst (dvs.drop (at_ + j2))) (ne_of_none z24 hL2)).trans z24
      have L25 : (upd H24 L2 (.lst (dvs.drop (at_ + j2)))) L2 = some (.lst (dvs.drop (at_ + j2))) := upd_same
      have dbv25 := Dp.sub (Sub.new (o := .lst (dvs.drop (at_ + j2))) hL2) _ _ dbv24
      generalize upd H24 L2 (.lst (dvs.drop (at_ + j2))) = H25 at g25 st25 z25 L25 dbv25 ⊢
      refine ⟨z2, L2, _, _, rfl, rfl, .inl (.inl z25), .inl (.inl L25), small_le (by rw [List.length_append, tl, List.length_drop]; show at_ + 1 + _ ≤ 10000; omega), fun bd hbd => ?_⟩
      have g26 := g25.new (o := .lst (dvs.take at_ ++ [bv] ++ dvs.drop (at_ + j2))) hbd
      have st26 := st25.new (o := .lst (dvs.take at_ ++ [bv] ++ dvs.drop (at_ + j2))) hbd
      have b26 : (upd H25 bd (.lst (dvs.take at_ ++ [bv] ++ dvs.drop (at_ + j2)))) bd = some (.lst (dvs.take at_ ++ [bv] ++ dvs.drop (at_ + j2))) := upd_same
      have dbv26 := Dp.sub (Sub.new (o := .lst (dvs.take at_ ++ [bv] ++ dvs.drop (at_ + j2))) hbd) _ _ dbv25
      generalize upd H25 bd (.lst (dvs.take at_ ++ [bv] ++ dvs.drop (at_ + j2))) = H26 at g26 st26 b26 dbv26 ⊢
      clear z25 L25 dbv25 g25 st25 z24 dbv24 g24 st24 g2324 g23 st23 z23 dbv23
      -- the refusals
      have dds26 := Dp.subs (toB g26) _ _ ddsB
      have hbad := bad_each (m := manyAt q.deeds at_) qok.name bx (List.mem_of_getElem? hbx)
      have dbad : Dp K H26 (.ref bd) (.list ((q.deeds.take at_).map eD ++ [bx] ++ (q.deeds.drop (at_ + j2)).map eD)) := by
        refine .lst (.inl (.inl b26)) (DpAll.app (DpAll.app ?_ (.one dbv26)) ?_)
        · rw [List.map_take]
          exact DpAll.take dds26 at_
        · rw [List.map_drop]
          exact DpAll.drop dds26 (at_ + j2)
      have okbad : okD (.list ((q.deeds.take at_).map eD ++ [bx] ++ (q.deeds.drop (at_ + j2)).map eD)) = true := okDs_all fun e he => by
        rcases List.mem_append.mp he with he | he
        · rcases List.mem_append.mp he with he | he
          · obtain ⟨d', hd', rfl⟩ := List.mem_map.mp he
            exact okD_eD (qok.deeds d' (List.mem_of_mem_take hd'))
          · rw [List.mem_singleton.mp he]
            exact hbad.1
        · obtain ⟨d', hd', rfl⟩ := List.mem_map.mp he
          exact okD_eD (qok.deeds d' (List.mem_of_mem_drop hd'))
      refine ⟨nv, rfl, .ref kl, rfl, .ref bd, rfl, nv, .ref kl, .ref bd, _, _, _, (fun r => r = some (at_ + 1)), rfl, Dp.sub (toB g26) _ _ dnB, .lst ((toB g26).seqL SkB) (Dp.subs (toB g26) _ _ dksB), .inl ⟨dbad, okbad⟩, oN, oK, g26.1, bad_ref fq.good hat hbad (by have := sq.deeds; omega), fun r hr27 H27 g2627 => ?_⟩
      subst hr27
      have g27 := g26.trans (up g2627)
      have st27 := st26.go g2627 g26.1
      refine ⟨.int at_, rfl, (at_ : Int), 1, rfl, rfl, rfl, _, rfl, ite2 (fun e => absurd e (by rw [show retN (some (at_ + 1)) = V.int ((at_ : Int) + 1) from rfl, decide_eq_true rfl]; decide)) (fun _ => ?_)⟩
      refine ⟨.ref d, rfl, nv, rfl, .ref kl, rfl, .ref dl, rfl, d, nv, .ref kl, .ref dl, q, rfl, st27, Dp.sub (toB g27) _ _ dnB, .lst ((toB g27).seqL SkB) (Dp.subs (toB g27) _ _ dksB), .lst ((toB g27).seqL SdB) (Dp.subs (toB g27) _ _ ddsB), fq.good, neQ, g27.1, fun H28 g2728 st28 => ⟨_, rfl, iteF ?_⟩⟩
      have gEnd : Go [] D0 H3 H28 := g16.past (g27.trans g2728) (fun b hb => by rw [hb]; exact hd3)
      exact ⟨_, _, _, _, _, _, _, _, _, _, rfl, g3.trans gEnd⟩
    · rintro σ H2 ⟨_, _, _, _, _, _, _, _, _, _, rfl, g2⟩
      have S2 := (sub_go g2 tg1).seqL S1
      refine ⟨.ref a, rfl, a, ns, rfl, S2, ns.sum, 3, rfl, by decide, by decide, fun r r0 r1 => ?_⟩
      exact ⟨r, 900, rfl, rfl, (show (0 : Int) < 900 by decide), r % 900, rfl, Int.emod_nonneg _ (by decide), Int.emod_lt_of_pos _ (by decide), g2.1, fun H' _ => qq H'⟩
end
end K1
set_option Elab.async false
set_option linter.all false
set_option maxRecDepth 100000
set_option maxHeartbeats 4000000
/-! The end: what the top has left, taken together. -/
namespace K1
open PySem PySem.Spec PyProof.Rows L2 PySem.W

/-- what the walk's end asks at a heap: a promise of the law, with tables -/
def EndAt (l : OpenLaw) (w : World) (K : Frag) (k n : Nat) (x : Str) (mg : Str → Option Value) (fa : Addr) (h : Heap) : Prop := LamX.LawAtS l w K L2.CX0 k n x mg fa h
theorem walk_tabs {l : OpenLaw} {n k : Nat} {q : Program} {loose : List Str} {XP : (Str → Option Value) → Heap → Prop} {YP : World → Heap → Prop} {d : DefRec} {K : Params → Frag} {x : Str}
    (hn : l.most = some n) (hn2 : n ≤ sizeLine) (hdf : d.params.defaults = []) (hr : Room k callerA) (hY : ∀ (w : World) (h : Heap), YP w h → (K w.params).In h)
    (F : ∀ (w : World) (lo : List Str) (mean : ExcName → Option Value) (mg mb : Str → Option Value) (fa : Addr) (h : Heap), (K w.params).In h → Top q lo mean mg mb h → mg d.name = some (.ref fa) → EndAt l w (K w.params) k n x mg fa h) :
    WalkO q loose XP YP l.row.toRowW d [] (fun f vs => PySem.call f vs) := by
  refine Att.attach_callB hn hdf ?_
  intro w s₀ s₁ mg mb fa o pm cd doc a vs ns G Y ho hd hcd hmg hobj hints hlen hbits hg
  have X := hY w _ Y
  obtain ⟨fd, cs, sp, c1, c2, c3, hb, hsp, hF⟩ := F w _ _ mg mb fa _ X G.T hmg
  refine LamX.law_callTs X G.T.g G.T.b G.T.builtins G.T.nolimit hg c1 c2 c3 G.T.bmain hobj hints (Nat.le_trans hlen hn2) hr hF hb ?_ ?_
  · intro H hH hS
    exact hsp H a ns hlen hbits hH hS
  · intro H e s' z
    exact z

section
variable {q : Program} {loose : List Str} {mean : ExcName → Option Value} {mg mb : Str → Option Value} {h : Heap} {K : Frag}
/-- a def of the module -/
structure DefAt (K : Frag) (mg : Str → Option Value) (x : Str) (st : Stmt) (ps : List Str) : Prop where
  ex : ∃ (f : Addr) (fd : FuncData), Fun K x x st f fd ∧ mg x = some (.ref f) ∧ Binds K fd ps []
theorem def_at {x : Str} {st : Stmt} {ps : List Str} {f : Addr} {oc kV doc pm cdv ct : Value} {od an : Option Addr} {osl : Array (Option Value)} (X : K.In h) (G : h.Ns mainGlobals mg)
    (a : nsIn K mainGlobals x = some (some (.ref f))) (l : K.lookup f = some ⟨oc, od, .func (fnOf x x (defArgs st) (defBody st) (defScope st) .none kV doc pm an cdv ct), osl⟩) (c : codeIn K cdv x = true) (k : keepIn K (.ref f) = true)
    (b : ∀ us : List Value, us.length = ps.length → bindArgs (fnOf x x (defArgs st) (defBody st) (defScope st) .none kV doc pm an cdv ct) ⟨us, []⟩ = pure (ps.zip us)) : DefAt K mg x st ps :=
  ⟨f, _, fun_mk l c k, mg_of X G a, .all b⟩
end
section
variable {P : Program} {w : World} {K : Frag} {mg : Str → Option Value} {base : Heap} {T : Tp}
theorem DefAt.cal {x : Str} {st : Stmt} {ps : List Str} {k j : Nat} {sp : Sp} (D : DefAt K mg x st ps) (ok : ∀ {f : Addr} {fd : FuncData}, Fun K x x st f fd → FnOk P w K mg base CX0 j f fd ps sp) (h : j ≤ k) : Cal P w K mg base k x ps sp := by
  obtain ⟨f, fd, F, m, b⟩ := D.ex
  exact ⟨f, fd, (ok F).mono h, m, F.kp, b⟩
theorem Cal.up {x : Str} {ps : List Str} {k j : Nat} {sp : Sp} (C : Cal P w K mg base j x ps sp) (h : j ≤ k) : Cal P w K mg base k x ps sp := by
  obtain ⟨f, fd, F, r⟩ := C.ex
  exact ⟨f, fd, F.mono h, r⟩
end
/-! The classes of refusals, out of the written part. -/
/-- HeadsError -/
structure HeAt (K : Frag) (mg : Str → Option Value) (he : Addr) : Prop where
  aH : mg "HeadsError" = some (.ref he)
  kp : keepIn K (.ref he) = true
  rd : ClX.CRead K he (.type "type")
  ini : findCls K (.ref he) (.type "type") "__init__" = some (.val (.builtin "ValueError.__init__"))
  ic : isClsIn K he = true
  ty : typeIn K (.ref he) = some (.type "type")
  sb : subIn K (.ref he) (.type "BaseException") = some true
  nv : mg "ValueError" = none
theorem HeAt.err {K : Frag} {mg : Str → Option Value} {he : Addr} (h : HeAt K mg he) : HErr K mg := ⟨he, _, h.aH, h.kp, h.rd, h.ini⟩
theorem he_at {K : Frag} {h : Heap} {mg : Str → Option Value} {he : Addr} (X : K.In h) (G : h.Ns mainGlobals mg) (a : nsIn K mainGlobals "HeadsError" = some (some (.ref he))) (k : keepIn K (.ref he) = true) (rd : readsIn K he (.type "type") = true) (ga : specialIn K (.ref he) "__getattribute__" = some (some (.builtin "type.__getattribute__")))
    (ini : findCls K (.ref he) (.type "type") "__init__" = some (.val (.builtin "ValueError.__init__"))) (ic : isClsIn K he = true) (ty : typeIn K (.ref he) = some (.type "type")) (sb : subIn K (.ref he) (.type "BaseException") = some true) (nv : nsIn K mainGlobals "ValueError" = some none) : HeAt K mg he :=
  ⟨mg_of X G a, k, ⟨rd, ga⟩, ini, ic, ty, sb, mg_none_of X G nv⟩
abbrev veT : List Value := [.type "ValueError", .type "Exception", .type "BaseException", .type "object"]
structure XAt (K : Frag) (mg : Str → Option Value) (x : Str) (C he : Addr) : Prop where
  at_ : mg x = some (.ref C)
  T : OexC K C
  mro : ∃ cd, clsIn K C = some cd ∧ cd.mro = .ref C :: .ref he :: veT
  ex : ExC K C
theorem x_at {K : Frag} {h : Heap} {mg : Str → Option Value} {x : Str} {C he : Addr} {nm q : Str} {N : Addr} {bs : List Value} {sn : List Str} {sub : List Value} {ab : Bool} {col : Option Bool} {dd : Option Addr} {m0 m1 m2 m3 m5 : Option Value} (X : K.In h) (G : h.Ns mainGlobals mg) (HA : HeAt K mg he)
    (a : nsIn K mainGlobals x = some (some (.ref C))) (l : K.lookup C = some (excClassObj nm q C N bs (.ref he :: veT) true sn sub ab col dd m0 m1 m2 m3 m5 "ValueError.__new__"))
    (sa : findIn K (.ref C) "__setattr__" = some (some (.builtin "object.__setattr__"))) (ga : findIn K (.ref C) "__getattribute__" = some (some (.builtin "BaseException.__getattribute__"))) (gg : findIn K (.ref C) "__getattr__" = some none)
    (kC : keepIn K (.ref C) = true) (eC : subIn K (.ref C) (.type "BaseException") = some true) (tC : typeIn K (.ref C) = some (.type "type")) (hC : hasDictIn K C = true)
    (ca : findIn K (.ref C) "__class__" = some (some (.builtin "object.__class__"))) (cn : specialIn K (.builtin "object.__class__") "__get__" = some (some (.builtin "getset_descriptor.__get__"))) (ct : takesIn K (.builtin "object.__class__") = some true) (mo : mroIn K C (.type "object") = some true) : XAt K mg x C he := by
  have hc : clsIn K C = some { name := nm, bases := bs, mro := .ref C :: .ref he :: veT, ns := N, qualname := q, hasDict := true, slotNames := sn, subclasses := sub, abstract := ab, collection := col, hasDel := false } := by
    unfold clsIn
    rw [l] <;> rfl
  exact ⟨mg_of X G a, ⟨⟨nm, q, N, bs, _, sn, sub, ab, col, dd, m0, m1, m2, m3, m5, l, by rfl⟩, sa, eC, tC, kC⟩, ⟨_, hc, rfl⟩, ⟨⟨ga, gg, eC, hC⟩, by rw [hc] <;> rfl, ca, cn, ct, mo⟩⟩
section
variable {K : Frag} {mg : Str → Option Value} {x y : Str} {C B he : Addr}
theorem XAt.sub (a : XAt K mg x C he) (v : Value) : subIn K (.ref C) v = some ((.ref C :: .ref he :: veT).contains v) := by
  obtain ⟨cd, hc, hm⟩ := a.mro
  show mroIn K C v = _
  unfold mroIn
  rw [hc, Option.bind_some, hm, if_neg (show ¬((.ref C :: .ref he :: veT : List Value).isEmpty = true) from Bool.false_ne_true)]
theorem XAt.one (a : XAt K mg x C he) (b : XAt K mg y B he) (ne : B ≠ he) : kitOne K (.ref C) (.ref B) = some (decide (C = B)) := by
  unfold kitOne
  by_cases h : C = B
  · subst h
    rw [if_pos (beq_self_eq_true _), decide_eq_true rfl]
  · have nb : ((.ref C : Value) == .ref B) = false := beq_false_of_ne fun z => h (by cases z; rfl)
    rw [if_neg (by rw [nb]; decide)]
    show (if ((clsIn K B).isSome && typeIn K (.ref B) == some (.type "type")) = true then subIn K (.ref C) (.ref B) else none) = _
    rw [b.ex.cls, b.T.tyC, if_pos (by rfl), a.sub, decide_eq_false h]
    have n1 : ((.ref B : Value) == .ref C) = false := beq_false_of_ne fun z => h (by cases z; rfl)
    have n2 : ((.ref B : Value) == .ref he) = false := beq_false_of_ne fun z => ne (by cases z; rfl)
    rw [List.contains_cons, n1, List.contains_cons, n2]
    rfl
theorem XAt.up (a : XAt K mg x C he) (hc : isClsIn K he = true) (ht : typeIn K (.ref he) = some (.type "type")) (ne : C ≠ he) : kitOne K (.ref C) (.ref he) = some true := by
  unfold kitOne
  have nb : ((.ref C : Value) == .ref he) = false := beq_false_of_ne fun z => ne (by cases z; rfl)
  rw [if_neg (by rw [nb]; decide)]
  show (if ((clsIn K he).isSome && typeIn K (.ref he) == some (.type "type")) = true then subIn K (.ref C) (.ref he) else none) = _
  have hc' : (clsIn K he).isSome = true := hc
  rw [hc', ht, if_pos (by rfl), a.sub, List.contains_cons, List.contains_cons, beq_self_eq_true, Bool.true_or, Bool.or_true]
theorem XAt.value (a : XAt K mg x C he) : kitOne K (.ref C) (.type "ValueError") = some true := by
  unfold kitOne
  have nb : ((.ref C : Value) == .type "ValueError") = false := beq_false_of_ne fun z => nomatch z
  rw [if_neg (by rw [nb]; decide)]
  show (if kitMeta "ValueError" = true then subIn K (.ref C) (.type "ValueError") else none) = _
  rw [if_pos (by decide +kernel), a.sub, List.contains_cons, List.contains_cons]
  show some (_ || (_ || true)) = _
  rw [Bool.or_true, Bool.or_true]
theorem XAt.exm (a : XAt K mg x C he) (hc : isClsIn K he = true) (ht : typeIn K (.ref he) = some (.type "type")) (hb : subIn K (.ref he) (.type "BaseException") = some true) : exmOne K (.ref C) (.ref he) = some true := by
  show (if (subIn K (.ref he) (.type "BaseException") == some true) = true then (if ((clsIn K he).isSome && typeIn K (.ref he) == some (.type "type")) = true then subIn K (.ref C) (.ref he) else none) else none) = _
  have hc' : (clsIn K he).isSome = true := hc
  rw [hb, if_pos (by rfl), hc', ht, if_pos (by rfl), a.sub, List.contains_cons, List.contains_cons, beq_self_eq_true, Bool.true_or, Bool.or_true]
end
def clOf (l : List Addr) (i : Nat) : Addr := l.getD i 0
theorem kinds_at {K : Frag} {mg : Str → Option Value} {c0 c1 c2 c3 c4 c5 c6 c7 c8 c9 he : Addr} (x0 : XAt K mg "BadRow" c0 he) (x1 : XAt K mg "BadPatch" c1 he) (x2 : XAt K mg "NotClosed" c2 he) (x3 : XAt K mg "Unlike" c3 he) (x4 : XAt K mg "Hindered" c4 he) (x5 : XAt K mg "BadPaper" c5 he) (x6 : XAt K mg "BadPack" c6 he) (x7 : XAt K mg "BadHunt" c7 he) (x8 : XAt K mg "BadMessage" c8 he) (x9 : XAt K mg "OutOfPlace" c9 he)
    (aH : mg "HeadsError" = some (.ref he)) (aV : mg "ValueError" = none) (hc : isClsIn K he = true) (ht : typeIn K (.ref he) = some (.type "type")) (nd : [c0, c1, c2, c3, c4, c5, c6, c7, c8, c9, he].Nodup) : Kinds K mg (clOf [c0, c1, c2, c3, c4, c5, c6, c7, c8, c9]) he := by
  have all : ∀ i, i < 10 → ∃ x, XAt K mg x (clOf [c0, c1, c2, c3, c4, c5, c6, c7, c8, c9] i) he := by
    intro i h
    match i, h with
    | 0, _ => exact ⟨_, x0⟩
    | 1, _ => exact ⟨_, x1⟩
    | 2, _ => exact ⟨_, x2⟩
    | 3, _ => exact ⟨_, x3⟩
    | 4, _ => exact ⟨_, x4⟩
    | 5, _ => exact ⟨_, x5⟩
    | 6, _ => exact ⟨_, x6⟩
    | 7, _ => exact ⟨_, x7⟩
    | 8, _ => exact ⟨_, x8⟩
    | 9, _ => exact ⟨_, x9⟩
    | n + 10, h => omega
  have nd' : ([c0, c1, c2, c3, c4, c5, c6, c7, c8, c9] ++ [he]).Nodup := nd
  obtain ⟨n1, _, n2⟩ := List.nodup_append.mp nd'
  have get : ∀ i (h : i < 10), clOf [c0, c1, c2, c3, c4, c5, c6, c7, c8, c9] i = [c0, c1, c2, c3, c4, c5, c6, c7, c8, c9][i]'h := fun i h => by
    unfold clOf
    rw [List.getD_eq_getElem?_getD, List.getElem?_eq_getElem h, Option.getD_some]
  have ne : ∀ i, i < 10 → clOf [c0, c1, c2, c3, c4, c5, c6, c7, c8, c9] i ≠ he := fun i h => by
    rw [get i h]
    exact n2 _ (List.getElem_mem _) he List.mem_cons_self
  have inj : ∀ i j, i < 10 → j < 10 → (clOf [c0, c1, c2, c3, c4, c5, c6, c7, c8, c9] i = clOf [c0, c1, c2, c3, c4, c5, c6, c7, c8, c9] j ↔ i = j) := fun i j hi hj => by
    rw [get i hi, get j hj]
    refine ⟨fun z => ?_, fun z => by subst z; rfl⟩
    have pw := List.pairwise_iff_getElem.mp n1
    rcases Nat.lt_trichotomy i j with l | l | l
    · exact absurd z (pw i j hi hj l)
    · exact l
    · exact absurd z.symm (pw j i hj hi l)
  exact ⟨x0.at_, x1.at_, x2.at_, x3.at_, x4.at_, x5.at_, x6.at_, x7.at_, x8.at_, x9.at_, aH, aV, fun i j hi hj => by
    obtain ⟨x, a⟩ := all i hi
    obtain ⟨y, b⟩ := all j hj
    rw [a.one b (ne j hj)]
    exact congrArg some (decide_eq_decide.mpr (inj i j hi hj)), fun i hi => (all i hi).elim fun _ a => a.up hc ht (ne i hi), fun i hi => (all i hi).elim fun _ a => a.value, fun i hi => (all i hi).elim fun _ a => a.ex⟩
/-- an own __init__ -/
structure InitAt (K : Frag) (C : Addr) (qual : Str) (st : Stmt) (ps : List Str) : Prop where
  ex : ∃ (f : Addr) (fd : FuncData), findIn K (.ref C) "__init__" = some (some (.ref f)) ∧ typeIn K (.ref f) = some (.type "function") ∧ Fun K "__init__" qual st f fd ∧ Binds K fd ps []
theorem init_at {K : Frag} {mg : Str → Option Value} {x : Str} {C f he : Addr} {qual : Str} {st : Stmt} {ps : List Str} {oc kV doc pm cdv ct : Value} {od an : Option Addr} {osl : Array (Option Value)}
    (xa : XAt K mg x C he) (a : findIn K (.ref C) "__init__" = some (some (.ref f))) (t : typeIn K (.ref f) = some (.type "function")) (l : K.lookup f = some ⟨oc, od, .func (fnOf "__init__" qual (defArgs st) (defBody st) (defScope st) .none kV doc pm an cdv ct), osl⟩) (c : codeIn K cdv qual = true) (k : keepIn K (.ref f) = true)
    (b : ∀ us : List Value, us.length = ps.length → bindArgs (fnOf "__init__" qual (defArgs st) (defBody st) (defScope st) .none kV doc pm an cdv ct) ⟨us, []⟩ = pure (ps.zip us)) : InitAt K C qual st ps :=
  ⟨f, _, a, t, fun_mk l c k, .all b⟩
theorem InitAt.held {P : Program} {w : World} {K : Frag} {mg : Str → Option Value} {base : Heap} {C : Addr} {x qual : Str} {st : Stmt} {ps : List Str} {k : Nat} {sp : Sp} (I : InitAt K C qual st ps) (T : OexC K C) (at_ : mg x = some (.ref C))
    (ok : ∀ {f : Addr} {fd : FuncData}, Fun K "__init__" qual st f fd → FnOk P w K mg base CX0 k f fd ps sp) : HeldC P w K mg base k x ps C sp := by
  obtain ⟨f, fd, a, t, F, b⟩ := I.ex
  exact ⟨T, at_, f, fd, a, t, ok F, b⟩
/-- the defs but the law -/
structure Defs (K : Frag) (mg : Str → Option Value) : Prop where
  triple : DefAt K mg "is_triple" sIsTriple ["thing"]
  word : DefAt K mg "is_word" sWord ["thing"]
  hand : DefAt K mg "is_hand" sHand ["thing"]
  name : DefAt K mg "is_name" sName ["thing"]
  put : DefAt K mg "is_put_line" sPut ["thing"]
  en : DefAt K mg "is_end" sEnd ["thing"]
  canKnow : DefAt K mg "can_know" sCanKnow ["own", "knows"]
  manyD : DefAt K mg "_many_deeds" sManyDeeds ["things"]
  isDeed : DefAt K mg "_is_deed" sIsDeed ["thing"]
  canPut : DefAt K mg "_can_put" sCanPut ["above", "below", "texts"]
  manyP : DefAt K mg "_many_put" sManyPut ["name", "deeds"]
  canDo : DefAt K mg "can_do" sCanDo ["deed", "own", "many"]
  isText : DefAt K mg "is_text" sIsText ["thing"]
  mixed : DefAt K mg "_law_mixed" sMixed ["_law_cell", "_law_k"]
  draw : DefAt K mg "_law_draw" sDraw ["_law_cell", "_law_k"]
  digit : DefAt K mg "_law_digit" sDigit ["_law_state", "_law_many"]
  llines : DefAt K mg "_law_lines" sLLines ["_law_history_here", "_law_names"]
  lknown : DefAt K mg "_law_known" sLKnown ["_law_history_here", "_law_knows"]
  ldeed : DefAt K mg "_law_deed" sLDeed ["_law_state", "_law_goods"]
  lpatch : DefAt K mg "_law_patch" sLPatch ["_law_history_here", "_law_state"]
  lhist : DefAt K mg "_law_history" sLHist ["_law_script", "_law_most"]
  lkinds : DefAt K mg "_law_kinds" sLKinds ["_law_error"]
  lrefused : DefAt K mg "_law_refused" sLRefused ["_law_name", "_law_knows", "_law_deeds"]
  lbad : DefAt K mg "_law_bad_deed" sLBadDeed ["_law_state", "_law_name", "_law_many"]
  lheads : DefAt K mg "_law_heads_refused" sLHeadsRefused ["_law_state", "_law_name", "_law_knows", "_law_deeds"]
  lbyhand : DefAt K mg "_law_by_hand" sLByHand ["_law_number"]
  ltold : DefAt K mg "_law_told" sLTold ["_law_patch_here", "_law_due"]
/-- the class of patches -/
structure ClsP (K : Frag) (mg : Str → Option Value) (C : Addr) : Prop where
  pc : PCls K C
  at_ : mg "Patch" = some (.ref C)
  init : ∃ (f : Addr) (fd : FuncData), Mk K C f ∧ Fun K "__init__" "Patch.__init__" sPatch_init f fd ∧ Binds K fd ["self", "name", "knows", "deeds"] []
  told : ∃ (f : Addr) (fd : FuncData), Meth K C "told" f ∧ Fun K "told" "Patch.told" sPatch_told f fd ∧ Binds K fd ["self"] []
/-- the refusals -/
structure Errs (K : Frag) (mg : Str → Option Value) (cl : Nat → Addr) (he : Addr) : Prop where
  kd : Kinds K mg cl he
  exm : exmOne K (.ref (cl 1)) (.ref he) = some true
  he : HErr K mg
  t0 : OexC K (cl 0)
  t1 : OexC K (cl 1)
  t2 : OexC K (cl 2)
  t3 : OexC K (cl 3)
  t4 : OexC K (cl 4)
  t5 : OexC K (cl 5)
  t6 : OexC K (cl 6)
  i0 : InitAt K (cl 0) "BadRow.__init__" sBadRow_init ["self", "row", "word"]
  i1 : InitAt K (cl 1) "BadPatch.__init__" sBadPatch_init ["self", "deed"]
  i2 : InitAt K (cl 2) "NotClosed.__init__" sNotClosed_init ["self", "lacking"]
  i3 : InitAt K (cl 3) "Unlike.__init__" sUnlike_init ["self", "name"]
  i4 : InitAt K (cl 4) "Hindered.__init__" sHindered_init ["self", "knowing"]
  i5 : InitAt K (cl 5) "BadPaper.__init__" sBadPaper_init ["self", "step"]
  i6 : InitAt K (cl 6) "BadPack.__init__" sBadPack_init ["self", "row"]
  n0 : findIn K (.ref (cl 0)) "row" = some none
  n0' : findIn K (.ref (cl 0)) "word" = some none
  n1 : findIn K (.ref (cl 1)) "deed" = some none
  n2 : findIn K (.ref (cl 2)) "lacking" = some none
  n3 : findIn K (.ref (cl 3)) "name" = some none
  n4 : findIn K (.ref (cl 4)) "knowing" = some none
  n5 : findIn K (.ref (cl 5)) "step" = some none
  n6 : findIn K (.ref (cl 6)) "row" = some none
  e7 : ExcI K (cl 7)
  e8 : ExcI K (cl 8)
  e9 : ExcI K (cl 9)
theorem errs_at {K : Frag} {mg : Str → Option Value} {c0 c1 c2 c3 c4 c5 c6 c7 c8 c9 he : Addr} (H : HeAt K mg he) (x0 : XAt K mg "BadRow" c0 he) (x1 : XAt K mg "BadPatch" c1 he) (x2 : XAt K mg "NotClosed" c2 he) (x3 : XAt K mg "Unlike" c3 he) (x4 : XAt K mg "Hindered" c4 he) (x5 : XAt K mg "BadPaper" c5 he) (x6 : XAt K mg "BadPack" c6 he) (x7 : XAt K mg "BadHunt" c7 he) (x8 : XAt K mg "BadMessage" c8 he) (x9 : XAt K mg "OutOfPlace" c9 he)
    (i0 : InitAt K c0 "BadRow.__init__" sBadRow_init ["self", "row", "word"]) (i1 : InitAt K c1 "BadPatch.__init__" sBadPatch_init ["self", "deed"]) (i2 : InitAt K c2 "NotClosed.__init__" sNotClosed_init ["self", "lacking"]) (i3 : InitAt K c3 "Unlike.__init__" sUnlike_init ["self", "name"]) (i4 : InitAt K c4 "Hindered.__init__" sHindered_init ["self", "knowing"]) (i5 : InitAt K c5 "BadPaper.__init__" sBadPaper_init ["self", "step"]) (i6 : InitAt K c6 "BadPack.__init__" sBadPack_init ["self", "row"])
    (n0 : findIn K (.ref c0) "row" = some none) (n0' : findIn K (.ref c0) "word" = some none) (n1 : findIn K (.ref c1) "deed" = some none) (n2 : findIn K (.ref c2) "lacking" = some none) (n3 : findIn K (.ref c3) "name" = some none) (n4 : findIn K (.ref c4) "knowing" = some none) (n5 : findIn K (.ref c5) "step" = some none) (n6 : findIn K (.ref c6) "row" = some none)
    (e7 : excIn K c7 veT "ValueError.__new__" = true) (e8 : excIn K c8 veT "ValueError.__new__" = true) (e9 : excIn K c9 veT "ValueError.__new__" = true) (nd : [c0, c1, c2, c3, c4, c5, c6, c7, c8, c9, he].Nodup) : Errs K mg (clOf [c0, c1, c2, c3, c4, c5, c6, c7, c8, c9]) he :=
  ⟨kinds_at x0 x1 x2 x3 x4 x5 x6 x7 x8 x9 H.aH H.nv H.ic H.ty nd, x1.exm H.ic H.ty H.sb, H.err, x0.T, x1.T, x2.T, x3.T, x4.T, x5.T, x6.T, i0, i1, i2, i3, i4, i5, i6, n0, n0', n1, n2, n3, n4, n5, n6, ⟨e7, x7.T.kC⟩, ⟨e8, x8.T.kC⟩, ⟨e9, x9.T.kC⟩⟩
section
variable {P : Program} {w : World} {K : Frag} {mg : Str → Option Value} {base : Heap} {T : Tp}
theorem cals {C he : Addr} {cl : Nat → Addr} (D : Defs K mg) (M : Mg K mg) (N : Mp mg) (CP : ClsP K mg C) (ER : Errs K mg cl he) (hsorted : mg "sorted" = none) : Cals2 P w K mg base C [] 11 := by
  have PC := CP.pc
  have HE := ER.he
  have KD := ER.kd
  have exm := ER.exm
  have hno := ER.n1
  have h0 : HeldC P w K mg base 1 "BadRow" ["self", "row", "word"] (cl 0) (spRowInit K (cl 0)) := ER.i0.held ER.t0 KD.at0 (fun F => ok_badrow (k := 0) F HE)
  have h1 : HeldC P w K mg base 1 "BadPatch" ["self", "deed"] (cl 1) (spNumInit K (cl 1) "deed") := ER.i1.held ER.t1 KD.at1 (fun F => ok_badpatch (k := 0) F HE)
  have h2 : HeldC P w K mg base 1 "NotClosed" ["self", "lacking"] (cl 2) (spListInit K (cl 2) "lacking") := ER.i2.held ER.t2 KD.at2 (fun F => ok_notclosed (k := 0) F M HE)
  have h3 : HeldC P w K mg base 1 "Unlike" ["self", "name"] (cl 3) (spTextInit K (cl 3) "name") := ER.i3.held ER.t3 KD.at3 (fun F => ok_unlike (k := 0) F HE)
  have h4 : HeldC P w K mg base 1 "Hindered" ["self", "knowing"] (cl 4) (spListInit K (cl 4) "knowing") := ER.i4.held ER.t4 KD.at4 (fun F => ok_hindered (k := 0) F M HE)
  have h5 : HeldC P w K mg base 1 "BadPaper" ["self", "step"] (cl 5) (spNumInit K (cl 5) "step") := ER.i5.held ER.t5 KD.at5 (fun F => ok_badpaper (k := 0) F HE)
  have h6 : HeldC P w K mg base 1 "BadPack" ["self", "row"] (cl 6) (spNumInit K (cl 6) "row") := ER.i6.held ER.t6 KD.at6 (fun F => ok_badpack (k := 0) F HE)
  have HC : HandC P w K mg base 1 cl := ⟨h0, h1, h2, h3, h4, h5, h6, ER.n0, ER.n0', ER.n1, ER.n2, ER.n3, ER.n4, ER.n5, ER.n6, ER.e7, ER.e8, ER.e9⟩
  have NX : NumX P w K mg base 1 "BadPatch" "deed" (cl 1) := ⟨h1.T, hno, h1.at_, h1.ex⟩
  have word : Cal P w K mg base 1 "is_word" ["thing"] (spWord K []) := D.word.cal (j := 1) (fun F => ok_word (k := 0) F M) (by omega)
  have triple : Cal P w K mg base 1 "is_triple" ["thing"] (spTriple K) := D.triple.cal (j := 1) (fun F => ok_triple (k := 0) F M) (by omega)
  have hand : Cal P w K mg base 2 "is_hand" ["thing"] (spHand K []) := D.hand.cal (j := 2) (fun F => ok_hand F word) (by omega)
  have name : Cal P w K mg base 3 "is_name" ["thing"] (spName K []) := D.name.cal (j := 3) (fun F => ok_name F M hand) (by omega)
  have put : Cal P w K mg base 3 "is_put_line" ["thing"] (spPut K []) := D.put.cal (j := 3) (fun F => ok_put F M hand) (by omega)
  have en : Cal P w K mg base 3 "is_end" ["thing"] (spEnd K) := D.en.cal (j := 3) (fun F => ok_end F M (triple.up (by omega))) (by omega)
  have isText : Cal P w K mg base 1 "is_text" ["thing"] (spIsText K) := D.isText.cal (j := 1) (fun F => ok_istext (k := 0) F M N) (by omega)
  have canPut : Cal P w K mg base 4 "_can_put" ["above", "below", "texts"] (spCanPut K []) := D.canPut.cal (j := 4) (fun F => ok_canput F M N put en (isText.up (by omega))) (by omega)
  have isDeed : Cal P w K mg base 5 "_is_deed" ["thing"] (spIsDeed K []) := D.isDeed.cal (j := 5) (fun F => ok_isdeed F M (put.up (by omega)) canPut) (by omega)
  have manyD : Cal P w K mg base 6 "_many_deeds" ["things"] (spManyD K []) := D.manyD.cal (j := 6) (fun F => ok_manyd F M isDeed) (by omega)
  have canDo : Cal P w K mg base 1 "can_do" ["deed", "own", "many"] (spCanDo K []) := D.canDo.cal (j := 1) (fun F => ok_cando (k := 0) F M) (by omega)
  have manyP : Cal P w K mg base 2 "_many_put" ["name", "deeds"] (spManyP K []) := D.manyP.cal (j := 2) (fun F => ok_manyp F M canDo) (by omega)
  have canKnow : Cal P w K mg base 4 "can_know" ["own", "knows"] (spCanKnow K []) := D.canKnow.cal (j := 4) (fun F => ok_canknow F M name) (by omega)
  have canPutD : Cal P w K mg base 4 "_can_put" ["above", "below", "texts"] (spCanPutD K []) := D.canPut.cal (j := 4) (fun F => ok_canputD F M N put en (isText.up (by omega))) (by omega)
  have isDeedD : Cal P w K mg base 5 "_is_deed" ["thing"] (spIsDeedD K []) := D.isDeed.cal (j := 5) (fun F => ok_isdeedD F M (put.up (by omega)) canPutD) (by omega)
  have manyDD : Cal P w K mg base 6 "_many_deeds" ["things"] (spManyDD K []) := D.manyD.cal (j := 6) (fun F => ok_manydD F M isDeedD) (by omega)
  have canDoD : Cal P w K mg base 1 "can_do" ["deed", "own", "many"] (spCanDoD K []) := D.canDo.cal (j := 1) (fun F => ok_candoD (k := 0) F M) (by omega)
  have canKnowD : Cal P w K mg base 4 "can_know" ["own", "knows"] (spCanKnowD K []) := D.canKnow.cal (j := 4) (fun F => ok_canknowD F M name) (by omega)
  have kindsC : Cal P w K mg base 1 "_law_kinds" ["_law_error"] (spKinds K [] cl) := D.lkinds.cal (j := 1) (fun F => ok_lkinds (k := 0) F M KD) (by omega)
  have manyPX : CalX P w K mg base 3 "_many_put" ["name", "deeds"] (spManyPX K (cl 1) []) := by
    obtain ⟨f, fd, F, m, b⟩ := D.manyP.ex
    exact ⟨f, fd, ok_manypX (k := 2) F M NX (by omega) (canDoD.up (by omega)), m, F.kp, b⟩
  have manyPX6 : CalX P w K mg base 6 "_many_put" ["name", "deeds"] (spManyPX K (cl 1) []) := by
    obtain ⟨f, fd, F, r⟩ := manyPX.ex
    exact ⟨f, fd, F.mono (by omega), r⟩
  have make : MakP P w K mg base 7 C [] := by
    obtain ⟨f, fd, m, F, b⟩ := CP.init
    exact ⟨f, fd, m, ok_init F M N PC (name.up (by omega)) (canKnow.up (by omega)) manyD (manyP.up (by omega)), CP.at_, b⟩
  have makeX : MakX P w K mg base 7 C (cl 1) [] := by
    obtain ⟨f, fd, m, F, b⟩ := CP.init
    exact ⟨f, fd, m, ok_initX (k := 6) F M N PC NX (by omega) (name.up (by omega)) (canKnowD.up (by omega)) manyDD manyPX6, CP.at_, b⟩
  have told : MetT P w K mg base 1 C [] := by
    obtain ⟨f, fd, m, F, b⟩ := CP.told
    exact ⟨f, fd, PC.cls, m, (ok_told (k := 0) F M PC).mono (by omega), b⟩
  have mixed : Cal P w K mg base 1 "_law_mixed" ["_law_cell", "_law_k"] (spMixed) := D.mixed.cal (j := 1) (fun F => ok_mixed (k := 0) F) (by omega)
  have draw : Cal P w K mg base 2 "_law_draw" ["_law_cell", "_law_k"] (spDraw) := D.draw.cal (j := 2) (fun F => ok_draw F mixed) (by omega)
  have digit : Cal P w K mg base 1 "_law_digit" ["_law_state", "_law_many"] (spDigit) := D.digit.cal (j := 1) (fun F => ok_digit (k := 0) F) (by omega)
  have llines : Cal P w K mg base 1 "_law_lines" ["_law_history_here", "_law_names"] (spLines K []) := D.llines.cal (j := 1) (fun F => ok_llines (k := 0) F M) (by omega)
  have lknown : Cal P w K mg base 1 "_law_known" ["_law_history_here", "_law_knows"] (spKnown K []) := D.lknown.cal (j := 1) (fun F => ok_lknown (k := 0) F M) (by omega)
  have ldeed : Cal P w K mg base 2 "_law_deed" ["_law_state", "_law_goods"] (spDeed K []) := D.ldeed.cal (j := 2) (fun F => ok_ldeed F M digit) (by omega)
  have lpatch : Cal P w K mg base 3 "_law_patch" ["_law_history_here", "_law_state"] (spPatch K []) := D.lpatch.cal (j := 3) (fun F => ok_lpatch F M hsorted (digit.up (by omega)) (llines.up (by omega)) (lknown.up (by omega)) ldeed) (by omega)
  have lhist : Cal P w K mg base 4 "_law_history" ["_law_script", "_law_most"] (spHist K []) := D.lhist.cal (j := 4) (fun F => ok_lhist F M (draw.up (by omega)) lpatch) (by omega)
  have lrefused : Cal P w K mg base 9 "_law_refused" ["_law_name", "_law_knows", "_law_deeds"] (spRefused K []) := D.lrefused.cal (j := 9) (fun F => ok_lrefused (k := 8) (k1 := 7) F M KD exm hno makeX (by omega) (kindsC.up (by omega))) (by omega)
  have lbad : Cal P w K mg base 2 "_law_bad_deed" ["_law_state", "_law_name", "_law_many"] (spBadDeed K []) := D.lbad.cal (j := 2) (fun F => ok_lbad F M digit) (by omega)
  have lheads : Cal P w K mg base 10 "_law_heads_refused" ["_law_state", "_law_name", "_law_knows", "_law_deeds"] (spHeads K []) := D.lheads.cal (j := 10) (fun F => ok_lheads F M (digit.up (by omega)) (lrefused.up (by omega))) (by omega)
  have ltold : Cal P w K mg base 2 "_law_told" ["_law_patch_here", "_law_due"] (spLTold K C []) := D.ltold.cal (j := 2) (fun F => ok_ltold F M told) (by omega)
  have lbyhand : Cal P w K mg base 3 "_law_by_hand" ["_law_number"] (spByHand K []) := D.lbyhand.cal (j := 3) (fun F => ok_lbyhand (k := 1) F KD HC (kindsC.up (by omega))) (by omega)
  exact ⟨lhist.up (by omega), draw.up (by omega), digit.up (by omega), mixed.up (by omega), lbad.up (by omega), lrefused.up (by omega), lheads.up (by omega), ltold.up (by omega), lbyhand.up (by omega), make.up (by omega)⟩
end
/-- a tuple of the written part -/
theorem seq_K {K : Frag} {a : Addr} {o : Obj} {its : Array Value} {n : Nat} {xs : List V} (l : K.lookup a = some o) (c : o.cls = .type "tuple") (d : o.data = .seq its n) (z : its.size ≤ sizeLine) (v : Vals xs its.toList) : ∀ H, SqT K H a xs :=
  fun _ => .inr ⟨o, its, n, l, c, d, z, v⟩
theorem const_at {K : Frag} {h : Heap} {mg : Str → Option Value} {x : Str} {xs : List V} {a : Addr} {o : Obj} {its : Array Value} {n : Nat} (X : K.In h) (G : h.Ns mainGlobals mg) (e : nsIn K mainGlobals x = some (some (.ref a)))
    (l : K.lookup a = some o) (c : o.cls = .type "tuple") (d : o.data = .seq its n) (z : its.size ≤ sizeLine) (v : Vals xs its.toList) : ∃ a, mg x = some (.ref a) ∧ ∀ H, SqT K H a xs := ⟨a, mg_of X G e, seq_K l c d z v⟩
theorem mg_at {K : Frag} {h : Heap} {mg : Str → Option Value} {v1 v2 : Value} {t1 t2 : Tok} (X : K.In h) (G : h.Ns mainGlobals mg) (e1 : nsIn K mainGlobals "isinstance" = some none) (e2 : nsIn K mainGlobals "int" = some none) (e3 : nsIn K mainGlobals "bool" = some none)
    (e4 : nsIn K mainGlobals "str" = some none) (e5 : nsIn K mainGlobals "tuple" = some none) (e6 : nsIn K mainGlobals "list" = some none) (e7 : nsIn K mainGlobals "len" = some none) (e8 : nsIn K mainGlobals "all" = some none) (e9 : nsIn K mainGlobals "range" = some none)
    (e10 : nsIn K mainGlobals "enumerate" = some none) (e11 : nsIn K mainGlobals "sum" = some none) (e12 : nsIn K mainGlobals "MOST_LETTERS" = some (some v1)) (h1 : v1 = .int 8 t1) (e13 : nsIn K mainGlobals "MOST_NUMBER" = some (some v2)) (h2 : v2 = .int 999 t2)
    (hd : ∃ a, mg "HEAD" = some (.ref a) ∧ ∀ H, SqT K H a [.str "", .int 0, .int 0]) (ft : ∃ a, mg "FOOT" = some (.ref a) ∧ ∀ H, SqT K H a [.str "", .int 0, .int 1]) : Mg K mg :=
  ⟨mg_none_of X G e1, mg_none_of X G e2, mg_none_of X G e3, mg_none_of X G e4, mg_none_of X G e5, mg_none_of X G e6, mg_none_of X G e7, mg_none_of X G e8, mg_none_of X G e9, mg_none_of X G e10, mg_none_of X G e11,
    ⟨t1, h1 ▸ mg_of X G e12⟩, ⟨t2, h2 ▸ mg_of X G e13⟩, hd, ft⟩
theorem mp_at {K : Frag} {h : Heap} {mg : Str → Option Value} {v1 v2 v3 : Value} {t1 t2 t3 : Tok} (X : K.In h) (G : h.Ns mainGlobals mg) (e1 : nsIn K mainGlobals "MOST_DEEDS" = some (some v1)) (h1 : v1 = .int 400 t1) (e2 : nsIn K mainGlobals "MOST_TEXTS" = some (some v2)) (h2 : v2 = .int 200 t2)
    (e3 : nsIn K mainGlobals "MOST_SIGNS" = some (some v3)) (h3 : v3 = .int 40 t3) : Mp mg := ⟨⟨t1, h1 ▸ mg_of X G e1⟩, ⟨t2, h2 ▸ mg_of X G e2⟩, ⟨t3, h3 ▸ mg_of X G e3⟩⟩
theorem cls_at {K : Frag} {h : Heap} {mg : Str → Option Value} {C f1 f2 : Addr} (X : K.In h) (G : h.Ns mainGlobals mg) {od1 an1 od2 an2 : Option Addr} {sl1 sl2 : Array (Option Value)} {oc1 kV1 dc1 pm1 cd1 ct1 oc2 kV2 dc2 pm2 cd2 ct2 : Value}
    (aC : nsIn K mainGlobals "Patch" = some (some (.ref C)))
    (a1 : findIn K (.ref C) "__init__" = some (some (.ref f1))) (i1 : isFn K (.ref f1) = true) (l1 : K.lookup f1 = some ⟨oc1, od1, .func (fnOf "__init__" "Patch.__init__" (defArgs sPatch_init) (defBody sPatch_init) (defScope sPatch_init) .none kV1 dc1 pm1 an1 cd1 ct1), sl1⟩) (c1 : codeIn K cd1 "Patch.__init__" = true) (k1 : keepIn K (.ref f1) = true)
    (a2 : findIn K (.ref C) "told" = some (some (.ref f2))) (i2 : isFn K (.ref f2) = true) (l2 : K.lookup f2 = some ⟨oc2, od2, .func (fnOf "told" "Patch.told" (defArgs sPatch_told) (defBody sPatch_told) (defScope sPatch_told) .none kV2 dc2 pm2 an2 cd2 ct2), sl2⟩) (c2 : codeIn K cd2 "Patch.told" = true) (k2 : keepIn K (.ref f2) = true)
    (pg : plainGet K C Str.empty = true) (hd : hasDictIn K C = true) (po : plainOver K C = true) (sa : findIn K (.ref C) "__setattr__" = some (some (.builtin "object.__setattr__"))) (mk : makesIn K C = true) (kc : keepIn K (.ref C) = true)
    (n1 : findIn K (.ref C) "name" = some none) (n2 : findIn K (.ref C) "knows" = some none) (n3 : findIn K (.ref C) "deeds" = some none) (n4 : findIn K (.ref C) "many" = some none) (n5 : findIn K (.ref C) "place" = some none) (n6 : findIn K (.ref C) "known" = some none) (n7 : findIn K (.ref C) "work" = some none) : ClsP K mg C := by
  have F1 := fun_mk (st := sPatch_init) l1 c1 k1
  have F2 := fun_mk (st := sPatch_told) l2 c2 k2
  exact ⟨⟨⟨pg, hd, po, sa⟩, n1, n2, n3, n4, n5, n6, n7⟩, mg_of X G aC, ⟨f1, _, ⟨mk, a1, i1, kc⟩, F1, F1.binds (ps := ["self", "name", "knows", "deeds"]) fun _ _ _ _ _ _ us hl => match us, hl with | [_, _, _, _], _ => rfl⟩,
    ⟨f2, _, ⟨a2, i2, k2⟩, F2, F2.binds (ps := ["self"]) fun _ _ _ _ _ _ us hl => match us, hl with | [_], _ => rfl⟩⟩
theorem law_end {q : Program} {lo : List Str} {mean : ExcName → Option Value} {mg mb : Str → Option Value} {h : Heap} {K : Frag} {l : OpenLaw} {w : World} {fa f C he : Addr} {cl : Nat → Addr} (X : K.In h) (T : Top q lo mean mg mb h) (hmg : mg "law" = some (.ref fa))
    (M : Mg K mg) (N : Mp mg) (CP : ClsP K mg C) (ER : Errs K mg cl he) (hs : nsIn K mainGlobals "sorted" = some none) (D : Defs K mg)
    {oc kV doc pm cdv ct : Value} {od an : Option Addr} {osl : Array (Option Value)} (a : nsIn K mainGlobals "law" = some (some (.ref f)))
    (lL : K.lookup f = some ⟨oc, od, .func (fnOf "law" "law" (defArgs sLaw) (defBody sLaw) (defScope sLaw) .none kV doc pm an cdv ct), osl⟩) (c : codeIn K cdv "law" = true) (k : keepIn K (.ref f) = true)
    (b : ∀ us : List Value, us.length = ["_law_script"].length → bindArgs (fnOf "law" "law" (defArgs sLaw) (defBody sLaw) (defScope sLaw) .none kV doc pm an cdv ct) ⟨us, []⟩ = pure ([("_law_script" : Str)].zip us)) :
    EndAt l w K 13 63 "_law_script" mg fa h := by
  have e := hmg.symm.trans (mg_of X T.g a)
  obtain rfl : fa = f := by
    injection e with z
    injection z
  refine ⟨_, [], spLaw K, ?_, ?_, ?_, fun s u => .of_eq (b [u] rfl), ?_, ?_⟩
  · intro p hp
    cases hp
  · intro p hp
    cases hp
  · intro p hp
    cases hp
  · intro H a' ns hl _ hT hS
    exact ⟨a', ns, rfl, hS, hl, (fun P hP => absurd hP (List.not_mem_nil)), fun _ => rfl⟩
  · intro base hK hns hTB
    exact ok_law (fun_mk lL c k) M (cals D M N CP ER (mg_none_of X T.g hs))
end K1
open PySem PySem.W PyProof.Rows
set_option Elab.async false
set_option maxRecDepth 100000 in
set_option maxHeartbeats 0 in
theorem PySem.Challenge.cw_manyheads_k02_patches_made_holds : PySem.Challenge.rw_manyheads_k02_patches_made.Holds := by
  w_on; o_law; k_head; (case hw => w_witness2)
  k_fill
  refine K1.walk_tabs (l := PySem.Challenge.rw_manyheads_k02_patches_made) (n := 63) (k := 13) (x := "_law_script") rfl (by decide) rfl ⟨rfl, by decide, by decide⟩ (fun w h Y => PySem.W.kIn_of Y) ?F
  case F =>
    intro w lo mean mg mb fa h X T hmg
    have G := T.g
    have d_triple := by
      refine' K1.def_at (x := "is_triple") (st := K1.sIsTriple) (ps := ["thing"]) X G ?a ?l ?c ?k (fun us hl => match us, hl with | [_], _ => rfl)
      (case a => k_is); (case l => k_is); (case c => k_is); (case k => k_is)
    have d_word := by
      refine' K1.def_at (x := "is_word") (st := K1.sWord) (ps := ["thing"]) X G ?a ?l ?c ?k (fun us hl => match us, hl with | [_], _ => rfl)
      (case a => k_is); (case l => k_is); (case c => k_is); (case k => k_is)
    have d_hand := by
      refine' K1.def_at (x := "is_hand") (st := K1.sHand) (ps := ["thing"]) X G ?a ?l ?c ?k (fun us hl => match us, hl with | [_], _ => rfl)
      (case a => k_is); (case l => k_is); (case c => k_is); (case k => k_is)
    have d_name := by
      refine' K1.def_at (x := "is_name") (st := K1.sName) (ps := ["thing"]) X G ?a ?l ?c ?k (fun us hl => match us, hl with | [_], _ => rfl)
      (case a => k_is); (case l => k_is); (case c => k_is); (case k => k_is)
    have d_put := by
      refine' K1.def_at (x := "is_put_line") (st := K1.sPut) (ps := ["thing"]) X G ?a ?l ?c ?k (fun us hl => match us, hl with | [_], _ => rfl)
      (case a => k_is); (case l => k_is); (case c => k_is); (case k => k_is)
    have d_en := by
      refine' K1.def_at (x := "is_end") (st := K1.sEnd) (ps := ["thing"]) X G ?a ?l ?c ?k (fun us hl => match us, hl with | [_], _ => rfl)
      (case a => k_is); (case l => k_is); (case c => k_is); (case k => k_is)
    have d_canKnow := by
      refine' K1.def_at (x := "can_know") (st := K1.sCanKnow) (ps := ["own", "knows"]) X G ?a ?l ?c ?k (fun us hl => match us, hl with | [_, _], _ => rfl)
      (case a => k_is); (case l => k_is); (case c => k_is); (case k => k_is)
    have d_manyD := by
      refine' K1.def_at (x := "_many_deeds") (st := K1.sManyDeeds) (ps := ["things"]) X G ?a ?l ?c ?k (fun us hl => match us, hl with | [_], _ => rfl)
      (case a => k_is); (case l => k_is); (case c => k_is); (case k => k_is)
    have d_isDeed := by
      refine' K1.def_at (x := "_is_deed") (st := K1.sIsDeed) (ps := ["thing"]) X G ?a ?l ?c ?k (fun us hl => match us, hl with | [_], _ => rfl)
      (case a => k_is); (case l => k_is); (case c => k_is); (case k => k_is)
    have d_canPut := by
      refine' K1.def_at (x := "_can_put") (st := K1.sCanPut) (ps := ["above", "below", "texts"]) X G ?a ?l ?c ?k (fun us hl => match us, hl with | [_, _, _], _ => rfl)
      (case a => k_is); (case l => k_is); (case c => k_is); (case k => k_is)
    have d_manyP := by
      refine' K1.def_at (x := "_many_put") (st := K1.sManyPut) (ps := ["name", "deeds"]) X G ?a ?l ?c ?k (fun us hl => match us, hl with | [_, _], _ => rfl)
      (case a => k_is); (case l => k_is); (case c => k_is); (case k => k_is)
    have d_canDo := by
      refine' K1.def_at (x := "can_do") (st := K1.sCanDo) (ps := ["deed", "own", "many"]) X G ?a ?l ?c ?k (fun us hl => match us, hl with | [_, _, _], _ => rfl)
      (case a => k_is); (case l => k_is); (case c => k_is); (case k => k_is)
    have d_isText := by
      refine' K1.def_at (x := "is_text") (st := K1.sIsText) (ps := ["thing"]) X G ?a ?l ?c ?k (fun us hl => match us, hl with | [_], _ => rfl)
      (case a => k_is); (case l => k_is); (case c => k_is); (case k => k_is)
    have d_mixed := by
      refine' K1.def_at (x := "_law_mixed") (st := K1.sMixed) (ps := ["_law_cell", "_law_k"]) X G ?a ?l ?c ?k (fun us hl => match us, hl with | [_, _], _ => rfl)
      (case a => k_is); (case l => k_is); (case c => k_is); (case k => k_is)
    have d_draw := by
      refine' K1.def_at (x := "_law_draw") (st := K1.sDraw) (ps := ["_law_cell", "_law_k"]) X G ?a ?l ?c ?k (fun us hl => match us, hl with | [_, _], _ => rfl)
      (case a => k_is); (case l => k_is); (case c => k_is); (case k => k_is)
    have d_digit := by
      refine' K1.def_at (x := "_law_digit") (st := K1.sDigit) (ps := ["_law_state", "_law_many"]) X G ?a ?l ?c ?k (fun us hl => match us, hl with | [_, _], _ => rfl)
      (case a => k_is); (case l => k_is); (case c => k_is); (case k => k_is)
    have d_llines := by
      refine' K1.def_at (x := "_law_lines") (st := K1.sLLines) (ps := ["_law_history_here", "_law_names"]) X G ?a ?l ?c ?k (fun us hl => match us, hl with | [_, _], _ => rfl)
      (case a => k_is); (case l => k_is); (case c => k_is); (case k => k_is)
    have d_lknown := by
      refine' K1.def_at (x := "_law_known") (st := K1.sLKnown) (ps := ["_law_history_here", "_law_knows"]) X G ?a ?l ?c ?k (fun us hl => match us, hl with | [_, _], _ => rfl)
      (case a => k_is); (case l => k_is); (case c => k_is); (case k => k_is)
    have d_ldeed := by
      refine' K1.def_at (x := "_law_deed") (st := K1.sLDeed) (ps := ["_law_state", "_law_goods"]) X G ?a ?l ?c ?k (fun us hl => match us, hl with | [_, _], _ => rfl)
      (case a => k_is); (case l => k_is); (case c => k_is); (case k => k_is)
    have d_lpatch := by
      refine' K1.def_at (x := "_law_patch") (st := K1.sLPatch) (ps := ["_law_history_here", "_law_state"]) X G ?a ?l ?c ?k (fun us hl => match us, hl with | [_, _], _ => rfl)
      (case a => k_is); (case l => k_is); (case c => k_is); (case k => k_is)
    have d_lhist := by
      refine' K1.def_at (x := "_law_history") (st := K1.sLHist) (ps := ["_law_script", "_law_most"]) X G ?a ?l ?c ?k (fun us hl => match us, hl with | [_, _], _ => rfl)
      (case a => k_is); (case l => k_is); (case c => k_is); (case k => k_is)
    have d_lkinds := by
      refine' K1.def_at (x := "_law_kinds") (st := K1.sLKinds) (ps := ["_law_error"]) X G ?a ?l ?c ?k (fun us hl => match us, hl with | [_], _ => rfl)
      (case a => k_is); (case l => k_is); (case c => k_is); (case k => k_is)
    have d_lrefused := by
      refine' K1.def_at (x := "_law_refused") (st := K1.sLRefused) (ps := ["_law_name", "_law_knows", "_law_deeds"]) X G ?a ?l ?c ?k (fun us hl => match us, hl with | [_, _, _], _ => rfl)
      (case a => k_is); (case l => k_is); (case c => k_is); (case k => k_is)
    have d_lbad := by
      refine' K1.def_at (x := "_law_bad_deed") (st := K1.sLBadDeed) (ps := ["_law_state", "_law_name", "_law_many"]) X G ?a ?l ?c ?k (fun us hl => match us, hl with | [_, _, _], _ => rfl)
      (case a => k_is); (case l => k_is); (case c => k_is); (case k => k_is)
    have d_lheads := by
      refine' K1.def_at (x := "_law_heads_refused") (st := K1.sLHeadsRefused) (ps := ["_law_state", "_law_name", "_law_knows", "_law_deeds"]) X G ?a ?l ?c ?k (fun us hl => match us, hl with | [_, _, _, _], _ => rfl)
      (case a => k_is); (case l => k_is); (case c => k_is); (case k => k_is)
    have d_lbyhand := by
      refine' K1.def_at (x := "_law_by_hand") (st := K1.sLByHand) (ps := ["_law_number"]) X G ?a ?l ?c ?k (fun us hl => match us, hl with | [_], _ => rfl)
      (case a => k_is); (case l => k_is); (case c => k_is); (case k => k_is)
    have d_ltold := by
      refine' K1.def_at (x := "_law_told") (st := K1.sLTold) (ps := ["_law_patch_here", "_law_due"]) X G ?a ?l ?c ?k (fun us hl => match us, hl with | [_, _], _ => rfl)
      (case a => k_is); (case l => k_is); (case c => k_is); (case k => k_is)
    have mH := by
      refine' K1.const_at (x := "HEAD") (xs := [.str "", .int 0, .int 0]) X G ?a ?l ?c ?d ?z ?v
      (case a => k_is); (case l => k_is); (case c => rfl); (case d => rfl); (case z => decide)
      (case v => exact .cons ⟨_, rfl⟩ (.cons ⟨_, rfl⟩ (.cons ⟨_, rfl⟩ .nil)))
    have mF := by
      refine' K1.const_at (x := "FOOT") (xs := [.str "", .int 0, .int 1]) X G ?a2 ?l2 ?c2 ?d2 ?z2 ?v2
      (case a2 => k_is); (case l2 => k_is); (case c2 => rfl); (case d2 => rfl); (case z2 => decide)
      (case v2 => exact .cons ⟨_, rfl⟩ (.cons ⟨_, rfl⟩ (.cons ⟨_, rfl⟩ .nil)))
    have M := by
      refine' K1.mg_at X G ?m1 ?m2 ?m3 ?m4 ?m5 ?m6 ?m7 ?m8 ?m9 ?m10 ?m11 ?m12 ?h1 ?m13 ?h2 mH mF
      (case m1 => k_is); (case m2 => k_is); (case m3 => k_is); (case m4 => k_is); (case m5 => k_is); (case m6 => k_is); (case m7 => k_is); (case m8 => k_is); (case m9 => k_is); (case m10 => k_is); (case m11 => k_is); (case m12 => k_is); (case m13 => k_is)
      (case h1 => rfl); (case h2 => rfl)
    have N := by
      refine' K1.mp_at X G ?m1 ?h1 ?m2 ?h2 ?m3 ?h3
      (case m1 => k_is); (case m2 => k_is); (case m3 => k_is); (case h1 => rfl); (case h2 => rfl); (case h3 => rfl)
    have CP := by
      refine' K1.cls_at X G ?aC ?a1 ?i1 ?l1 ?c1 ?k1 ?a2 ?i2 ?l2 ?c2 ?k2 ?pg ?hd ?po ?sa ?mk ?kc ?n1 ?n2 ?n3 ?n4 ?n5 ?n6 ?n7
      (case aC => k_is); (case a1 => k_is); (case i1 => k_is); (case l1 => k_is); (case c1 => k_is); (case k1 => k_is); (case a2 => k_is); (case i2 => k_is); (case l2 => k_is); (case c2 => k_is); (case k2 => k_is)
      (case pg => k_is); (case hd => k_is); (case po => k_is); (case sa => k_is); (case mk => k_is); (case kc => k_is); (case n1 => k_is); (case n2 => k_is); (case n3 => k_is); (case n4 => k_is); (case n5 => k_is); (case n6 => k_is); (case n7 => k_is)
    have HA := by
      refine' K1.he_at X G ?a ?k ?rd ?ga ?ini ?ic ?ty ?sb ?nv
      (case a => k_is)
      (case k => k_is)
      (case rd => k_is)
      (case ga => k_is)
      (case ini => k_is)
      (case ic => k_is)
      (case ty => k_is)
      (case sb => k_is)
      (case nv => k_is)
    have x0 := by
      refine' K1.x_at (x := "BadRow") X G HA ?a ?l ?sa ?ga ?gg ?kC ?eC ?tC ?hC ?ca ?cn ?ct ?mo
      (case a => k_is)
      (case l => k_is)
      (case sa => k_is)
      (case ga => k_is)
      (case gg => k_is)
      (case kC => k_is)
      (case eC => k_is)
      (case tC => k_is)
      (case hC => k_is)
      (case ca => k_is)
      (case cn => k_is)
      (case ct => k_is)
      (case mo => k_is)
    have x1 := by
      refine' K1.x_at (x := "BadPatch") X G HA ?a ?l ?sa ?ga ?gg ?kC ?eC ?tC ?hC ?ca ?cn ?ct ?mo
      (case a => k_is)
      (case l => k_is)
      (case sa => k_is)
      (case ga => k_is)
      (case gg => k_is)
      (case kC => k_is)
      (case eC => k_is)
      (case tC => k_is)
      (case hC => k_is)
      (case ca => k_is)
      (case cn => k_is)
      (case ct => k_is)
      (case mo => k_is)
    have x2 := by
      refine' K1.x_at (x := "NotClosed") X G HA ?a ?l ?sa ?ga ?gg ?kC ?eC ?tC ?hC ?ca ?cn ?ct ?mo
      (case a => k_is)
      (case l => k_is)
      (case sa => k_is)
      (case ga => k_is)
      (case gg => k_is)
      (case kC => k_is)
      (case eC => k_is)
      (case tC => k_is)
      (case hC => k_is)
      (case ca => k_is)
      (case cn => k_is)
      (case ct => k_is)
      (case mo => k_is)
    have x3 := by
      refine' K1.x_at (x := "Unlike") X G HA ?a ?l ?sa ?ga ?gg ?kC ?eC ?tC ?hC ?ca ?cn ?ct ?mo
      (case a => k_is)
      (case l => k_is)
      (case sa => k_is)
      (case ga => k_is)
      (case gg => k_is)
      (case kC => k_is)
      (case eC => k_is)
      (case tC => k_is)
      (case hC => k_is)
      (case ca => k_is)
      (case cn => k_is)
      (case ct => k_is)
      (case mo => k_is)
    have x4 := by
      refine' K1.x_at (x := "Hindered") X G HA ?a ?l ?sa ?ga ?gg ?kC ?eC ?tC ?hC ?ca ?cn ?ct ?mo
      (case a => k_is)
      (case l => k_is)
      (case sa => k_is)
      (case ga => k_is)
      (case gg => k_is)
      (case kC => k_is)
      (case eC => k_is)
      (case tC => k_is)
      (case hC => k_is)
      (case ca => k_is)
      (case cn => k_is)
      (case ct => k_is)
      (case mo => k_is)
    have x5 := by
      refine' K1.x_at (x := "BadPaper") X G HA ?a ?l ?sa ?ga ?gg ?kC ?eC ?tC ?hC ?ca ?cn ?ct ?mo
      (case a => k_is)
      (case l => k_is)
      (case sa => k_is)
      (case ga => k_is)
      (case gg => k_is)
      (case kC => k_is)
      (case eC => k_is)
      (case tC => k_is)
      (case hC => k_is)
      (case ca => k_is)
      (case cn => k_is)
      (case ct => k_is)
      (case mo => k_is)
    have x6 := by
      refine' K1.x_at (x := "BadPack") X G HA ?a ?l ?sa ?ga ?gg ?kC ?eC ?tC ?hC ?ca ?cn ?ct ?mo
      (case a => k_is)
      (case l => k_is)
      (case sa => k_is)
      (case ga => k_is)
      (case gg => k_is)
      (case kC => k_is)
      (case eC => k_is)
      (case tC => k_is)
      (case hC => k_is)
      (case ca => k_is)
      (case cn => k_is)
      (case ct => k_is)
      (case mo => k_is)
    have x7 := by
      refine' K1.x_at (x := "BadHunt") X G HA ?a ?l ?sa ?ga ?gg ?kC ?eC ?tC ?hC ?ca ?cn ?ct ?mo
      (case a => k_is)
      (case l => k_is)
      (case sa => k_is)
      (case ga => k_is)
      (case gg => k_is)
      (case kC => k_is)
      (case eC => k_is)
      (case tC => k_is)
      (case hC => k_is)
      (case ca => k_is)
      (case cn => k_is)
      (case ct => k_is)
      (case mo => k_is)
    have x8 := by
      refine' K1.x_at (x := "BadMessage") X G HA ?a ?l ?sa ?ga ?gg ?kC ?eC ?tC ?hC ?ca ?cn ?ct ?mo
      (case a => k_is)
      (case l => k_is)
      (case sa => k_is)
      (case ga => k_is)
      (case gg => k_is)
      (case kC => k_is)
      (case eC => k_is)
      (case tC => k_is)
      (case hC => k_is)
      (case ca => k_is)
      (case cn => k_is)
      (case ct => k_is)
      (case mo => k_is)
    have x9 := by
      refine' K1.x_at (x := "OutOfPlace") X G HA ?a ?l ?sa ?ga ?gg ?kC ?eC ?tC ?hC ?ca ?cn ?ct ?mo
      (case a => k_is)
      (case l => k_is)
      (case sa => k_is)
      (case ga => k_is)
      (case gg => k_is)
      (case kC => k_is)
      (case eC => k_is)
      (case tC => k_is)
      (case hC => k_is)
      (case ca => k_is)
      (case cn => k_is)
      (case ct => k_is)
      (case mo => k_is)
    have i0 := by
      refine' K1.init_at (qual := "BadRow.__init__") (st := K1.sBadRow_init) (ps := ["self", "row", "word"]) x0 ?a ?t ?l ?c ?k (fun us hl => match us, hl with | [_, _, _], _ => rfl)
      (case a => k_is)
      (case t => k_is)
      (case l => k_is)
      (case c => k_is)
      (case k => k_is)
    have i1 := by
      refine' K1.init_at (qual := "BadPatch.__init__") (st := K1.sBadPatch_init) (ps := ["self", "deed"]) x1 ?a ?t ?l ?c ?k (fun us hl => match us, hl with | [_, _], _ => rfl)
      (case a => k_is)
      (case t => k_is)
      (case l => k_is)
      (case c => k_is)
      (case k => k_is)
    have i2 := by
      refine' K1.init_at (qual := "NotClosed.__init__") (st := K1.sNotClosed_init) (ps := ["self", "lacking"]) x2 ?a ?t ?l ?c ?k (fun us hl => match us, hl with | [_, _], _ => rfl)
      (case a => k_is)
      (case t => k_is)
      (case l => k_is)
      (case c => k_is)
      (case k => k_is)
    have i3 := by
      refine' K1.init_at (qual := "Unlike.__init__") (st := K1.sUnlike_init) (ps := ["self", "name"]) x3 ?a ?t ?l ?c ?k (fun us hl => match us, hl with | [_, _], _ => rfl)
      (case a => k_is)
      (case t => k_is)
      (case l => k_is)
      (case c => k_is)
      (case k => k_is)
    have i4 := by
      refine' K1.init_at (qual := "Hindered.__init__") (st := K1.sHindered_init) (ps := ["self", "knowing"]) x4 ?a ?t ?l ?c ?k (fun us hl => match us, hl with | [_, _], _ => rfl)
      (case a => k_is)
      (case t => k_is)
      (case l => k_is)
      (case c => k_is)
      (case k => k_is)
    have i5 := by
      refine' K1.init_at (qual := "BadPaper.__init__") (st := K1.sBadPaper_init) (ps := ["self", "step"]) x5 ?a ?t ?l ?c ?k (fun us hl => match us, hl with | [_, _], _ => rfl)
      (case a => k_is)
      (case t => k_is)
      (case l => k_is)
      (case c => k_is)
      (case k => k_is)
    have i6 := by
      refine' K1.init_at (qual := "BadPack.__init__") (st := K1.sBadPack_init) (ps := ["self", "row"]) x6 ?a ?t ?l ?c ?k (fun us hl => match us, hl with | [_, _], _ => rfl)
      (case a => k_is)
      (case t => k_is)
      (case l => k_is)
      (case c => k_is)
      (case k => k_is)
    have ER := by
      refine' K1.errs_at HA x0 x1 x2 x3 x4 x5 x6 x7 x8 x9 i0 i1 i2 i3 i4 i5 i6 ?n0 ?n0b ?n1 ?n2 ?n3 ?n4 ?n5 ?n6 ?e7 ?e8 ?e9 (by decide)
      (case n0 => k_is)
      (case n0b => k_is)
      (case n1 => k_is)
      (case n2 => k_is)
      (case n3 => k_is)
      (case n4 => k_is)
      (case n5 => k_is)
      (case n6 => k_is)
      (case e7 => k_exc); (case e8 => k_exc); (case e9 => k_exc)
    have hmg' : mg "law" = some (.ref fa) := hmg
    refine' K1.law_end X T hmg' M N CP ER ?hs ⟨d_triple, d_word, d_hand, d_name, d_put, d_en, d_canKnow, d_manyD, d_isDeed, d_canPut, d_manyP, d_canDo, d_isText, d_mixed, d_draw, d_digit, d_llines, d_lknown, d_ldeed, d_lpatch, d_lhist, d_lkinds, d_lrefused, d_lbad, d_lheads, d_lbyhand, d_ltold⟩ ?a ?l ?c ?k (fun us hl => match us, hl with | [_], _ => rfl)
    (case hs => k_is); (case a => k_is); (case l => k_is); (case c => k_is); (case k => k_is)
