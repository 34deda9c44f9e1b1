import PyProof.Rows.All
import Wide.All
import OpenK.AllK
import Wide.FinOn
import PySem.Challenge.RW_manyheads_k31_whole_least_of_all_changes
import HandS.Words
import HandS.WordsList
import HandS.WordsDict
import HandS.AnyAll
import HandS.Text
import HandS.StrMore
import HandS.IsInst
import HandS.ForMost
import HandS.FStr
import HandS.TupLe
import HandS.Style
import HandS.SortRule
import HandS.SetKeys
import HandS.Zip
import HandS.Wide
import HandS.Flow
import HandS.Walk
import HandS.Deep
import KE.DatumOrd
import HandS.EndTab
import KE.KNest
set_option Elab.async false
set_option linter.all false
set_option maxRecDepth 100000
/-! The text of the row: the defs by their places, and their local names. -/
namespace K1
open PySem PySem.Spec PyProof.Rows L2
def topS (i : Nat) : Stmt := PySem.Challenge.pw_manyheads_k31_whole_least_of_all_changes.main.body.getD i (.Pass ⟨0, 0, 0, 0⟩)
def clsS (i j : Nat) : Stmt := match topS i with
  | .ClassDef _ _ _ b .. => b.getD j (.Pass ⟨0, 0, 0, 0⟩)
  | _ => .Pass ⟨0, 0, 0, 0⟩
abbrev sLeastChange : Stmt := topS 1
abbrev sLeastCost : Stmt := topS 2
abbrev sLevels : Stmt := topS 3
abbrev sKept : Stmt := topS 4
abbrev sLStarted : Stmt := topS 6
abbrev sDraw : Stmt := topS 7
abbrev sLOf : Stmt := topS 8
abbrev sLAlike : Stmt := topS 9
abbrev sLAll : Stmt := topS 10
abbrev sLChanged : Stmt := topS 11
abbrev sLaw : Stmt := topS 12
theorem scLeastChange : FnScope ["rows", "others"] ["rows", "others"] (defScope sLeastChange) := ⟨rfl, rfl, rfl, by decide +kernel, rfl, by decide +kernel, by decide +kernel⟩
theorem scLeastCost : FnScope ["rows", "others"] ["rows", "others"] (defScope sLeastCost) := ⟨rfl, rfl, rfl, by decide +kernel, rfl, by decide +kernel, by decide +kernel⟩
theorem scLevels : FnScope ["rows", "others", "places", "place", "text", "levels", "least", "at", "level"] ["rows", "others"] (defScope sLevels) := ⟨rfl, rfl, rfl, by decide +kernel, rfl, by decide +kernel, by decide +kernel⟩
theorem scKept : FnScope ["rows", "others", "kept", "level", "at", "place", "pairs"] ["rows", "others"] (defScope sKept) := ⟨rfl, rfl, rfl, by decide +kernel, rfl, by decide +kernel, by decide +kernel⟩
theorem scLStarted : FnScope ["_law_script", "_law_cell"] ["_law_script"] (defScope sLStarted) := ⟨rfl, rfl, rfl, by decide +kernel, rfl, by decide +kernel, by decide +kernel⟩
theorem scDraw : FnScope ["_law_m", "_law_many", "_law_k", "_law_cells", "_law_left", "_law_cell", "_law_number"] ["_law_m", "_law_many"] (defScope sDraw) := ⟨rfl, rfl, rfl, by decide +kernel, rfl, by decide +kernel, by decide +kernel⟩
theorem scLOf : FnScope ["_law_m", "_law_some"] ["_law_m", "_law_some"] (defScope sLOf) := ⟨rfl, rfl, rfl, by decide +kernel, rfl, by decide +kernel, by decide +kernel⟩
theorem scLAlike : FnScope ["_law_found", "_law_due", "_law_one", "_law_other"] ["_law_found", "_law_due"] (defScope sLAlike) := ⟨rfl, rfl, rfl, by decide +kernel, rfl, by decide +kernel, by decide +kernel⟩
theorem scLAll : FnScope ["_law_one", "_law_other", "_law_found", "_law_first", "_law_longer", "_law_row", "_law_second"] ["_law_one", "_law_other"] (defScope sLAll) := ⟨rfl, rfl, rfl, by decide +kernel, rfl, by decide +kernel, by decide +kernel⟩
theorem scLChanged : FnScope ["_law_one", "_law_other", "_law_pairs", "_law_found", "_law_cost", "_law_here", "_law_there", "_law_first", "_law_second"] ["_law_one", "_law_other", "_law_pairs"] (defScope sLChanged) := ⟨rfl, rfl, rfl, by decide +kernel, rfl, by decide +kernel, by decide +kernel⟩
theorem scLaw : FnScope ["_law_script", "_law_m", "_law_k", "_law_some", "_law_size", "_law_place", "_law_one", "_law_other", "_law_every", "_law_row", "_law_most", "_law_due", "_law_pairs", "_law_cost"] ["_law_script"] (defScope sLaw) := ⟨rfl, rfl, rfl, by decide +kernel, rfl, by decide +kernel, by decide +kernel⟩
end K1
set_option Elab.async false
set_option linter.all false
set_option maxRecDepth 100000
set_option maxHeartbeats 400000
/-! all(t for c in a text), where t reads a name of the module. -/
namespace K1
open PySem PySem.Spec PyProof.Rows L2

/-- a test of one sign, which may read the module's names -/
def SignTest (prog : Program) (w : World) (mg : Str → Option Value) (sc : Scope) (x : Str) (e : Expr) (p : Nat → Bool) : Prop :=
  ∀ (ge : Env) (B : Around) (F : Value → Shared → Prop) (c : Nat) (tk : Tok) (z : Shared) (lm : Str → Option Value),
    ge.scope = sc → ge.globals = mainGlobals → z.heap.Ns mainGlobals mg → z.heap.Ns ge.locals lm → lm x = some (.str ⟨#[c]⟩ tk) →
    wpAny (model prog w) B (eval e ge) (fun r z' => r = .bool (p c) ∧ Keeps z z') F z

/-- c in NAME, NAME a text of the module -/
theorem sign_in {prog : Program} {w : World} {mg : Str → Option Value} {sc : Scope} {x n : Str} {txt : Str} {tt : Tok} {q1 q2 q3 : Pos}
    (fk : sc.kind = .function) (lx : sc.names.lookup x = some .local) (ln : sc.names.lookup n = some .globalImplicit) (vn : mg n = some (.str txt tt))
    (dx : (x == ("__debug__" : Str)) = false) (dn : (n == ("__debug__" : Str)) = false) :
    SignTest prog w mg sc x (.Compare (.Name x q1) [.In] [.Name n q2] q3) (fun c => decide (c ∈ txt.cps.toList)) := by
  intro ge B F c tk z lm es eg hg hl hx
  have k1 : ge.scope.kind = .function := es ▸ fk
  have k2 : ge.kindOf x = some .local := by
    show ge.scope.names.lookup x = some .local
    rw [es]
    exact lx
  have k3 : ge.kindOf n = some .globalImplicit := by
    show ge.scope.names.lookup n = some .globalImplicit
    rw [es]
    exact ln
  refine wpAny_Compare1 ?_
  refine wpAny_Name ?_ dx
  refine wpAny_loadName_local k1 k2 hl hx ?_
  refine Calls.Name_function_global k1 k3 ?_ dn
  refine Calls.loadGlobal_global (mg := mg) (eg ▸ hg) vn ?_
  apply PyProof.Rows.in_str
  exact ⟨congrArg Value.bool (PySem.StrLaws.found_one txt c), GxR.keeps_refl _⟩

section
variable {X : Cx} {pins : List (Addr × Obj)} {σ : L2.St} {H : Hp} {s : Shared}

/-- what is known where the generator's code has been looked up: h3 is the heap s1.heap with the iterator o, the table at P longer -/
structure Mid (X : Cx) (s1 : Shared) (o : Obj) (P : Addr) (ps ps' : Array Value) (h3 : Heap) : Prop where
  ext : Heap.ExtBut P (s1.heap.push o) h3
  size : (s1.heap.push o).objs.size ≤ h3.objs.size
  tab : h3.get? P = some { cls := .none, data := .fields ps' }
  more : ∃ m, ps' = ps ++ m
  ok : TriplesOk ps'.toList

theorem gen_mid {cd P : Addr} {e it : Expr} {x : Str} {px gp : Pos} {sc : Scope} {p : Nat → Bool} {k : Nat} {Q' : Value → Shared → Prop} {a : Str} {H1 : Hp} {s1 : Shared} {o : Obj} {St : Nat → Heap → Prop} {ps ps' : Array Value} {h3 : Heap} {tk : Nat} {code : Value}
    (hr : Room k X.A) (TB : GxR.TabB X.base X.mg cd P) (hel : SignTest X.prog X.w X.mg sc x e p)
    (J : Inv X pins σ H1 s1) (hP : H1 P = some (.tbl ps)) (M : Mid X s1 o P ps ps' h3)
    (wk : ∀ A' : Around, A'.handled = none → Walks X.prog X.w A' s1.heap.objs.size [s1.heap.objs.size] [s1.heap.objs.size] a.cps.size (SignAt a) St) (st : St 0 (s1.heap.push o))
    (hQ : ∀ g s5, GxR.Ready X pins σ H1 P a p g s5 → Q' (.ref g) s5) :
    wpAny (model X.prog X.w) X.A (builtinsFor X.env.globals X.env.builtins) (fun bi s₄ =>
        ∃ I fp wr n₀ Pf St₀ pz F, Value.ref s1.heap.objs.size = .ref I ∧ (∀ A' : Around, A'.handled = none → Walks X.prog X.w A' I fp wr n₀ Pf St₀) ∧ St₀ 0 s₄.heap ∧
          (∀ b ∈ fp, b < s₄.heap.objs.size) ∧ s₄.heap.NoLimit ∧ cStatics ∉ wr ∧
          (∀ href : Heap, (∀ b o, s₄.heap.get? b = some o → href.get? b = some o) →
            QuietGen X.prog X.w (genEnv sc (cloFrom X.env.cells sc.names []) s₄.heap.objs.size code bi X.env) x [] e
              (List.range s₄.heap.objs.size) wr Pf pz F href) ∧
          (∀ a h₅ tk gs, gs.bare = true → s₄.heap.objs.size < a → h₅.objs.size = a + 1 → (∀ b o, s₄.heap.get? b = some o → h₅.get? b = some o) →
            WalksS X.prog X.w X.A.in4 a (a :: s₄.heap.objs.size :: List.range s₄.heap.objs.size) (s₄.heap.objs.size :: wr) (GenOnlyQ s₄.gens.size)
              (passing pz n₀ 0).length (fun j y => ∃ i, (passing pz n₀ 0)[j]? = some i ∧ F i y)
              (GenAt X.prog X.w X.A.in4 a s₄.gens.size s₄.heap.objs.size (List.range s₄.heap.objs.size) wr pz n₀ F) →
            GenAt X.prog X.w X.A.in4 a s₄.gens.size s₄.heap.objs.size (List.range s₄.heap.objs.size) wr pz n₀ F 0
              { s₄ with gens := s₄.gens.push gs, toks := tk, heap := h₅ } →
            Q' (.ref a) { s₄ with gens := s₄.gens.push gs, toks := tk, heap := h₅ })) X.xe { s1 with heap := h3, toks := tk } := by
  have pAt : s1.heap.get? P = some { cls := .none, data := .fields ps } := J.hok P _ hP
  have pLt : P < s1.heap.objs.size := Heap.lt_size pAt
  have up : (s1.heap.push o).objs.size = s1.heap.objs.size + 1 := Heap.size_push ..
  have carry : ∀ b u, b ≠ P → s1.heap.get? b = some u → h3.get? b = some u := by
    intro b u hb e
    exact M.ext b u hb (Heap.get?_push_of_some _ e)
  have lim1 := J.nolimit
  have stP : cStatics ≠ P := by
    rintro rfl
    obtain ⟨_, ⟨o', es, ep, h1, h2, _⟩, _⟩ := lim1
    rw [pAt] at h1
    cases h1
    cases h2
  have stLt : cStatics < s1.heap.objs.size := by
    obtain ⟨_, hns, _⟩ := lim1
    exact hns.lt
  have glob1 : s1.heap.Ns mainGlobals X.mg := J.mod.glob.keeps J.bk
  have glob3 : h3.Ns mainGlobals X.mg := (glob1.push o).extBut M.ext TB.gP
  have gm : X.env.globals = mainGlobals := J.ok.glob
  obtain ⟨bm, ob, e1, e2, _, e4, e5, e6, e7, e8⟩ := TB.bm
  refine wpAny_builtinsFor (m := X.mg) (by rw [gm]; exact glob3) e1 e2 (carry _ _ e4 (J.bk _ _ e5)) e6 e7 e8 ?_
  have newLt : s1.heap.objs.size < h3.objs.size := Nat.lt_of_lt_of_le (by rw [up]; exact Nat.lt_succ_self _) M.size
  refine ⟨_, _, _, _, SignAt a, St, (fun _ => true), (fun i y => ∃ c, a.cps[i]? = some c ∧ y = .bool (p c)), rfl, wk, ?_, ?_, ?_, ?_, ?_, ?_⟩
  · -- the text's iterator stands
    refine (wk X.A hr.hd).frame _ _ _ st ?_
    intro b hb u e
    obtain rfl : b = s1.heap.objs.size := by simpa using hb
    exact M.ext _ u (Nat.ne_of_gt pLt) e
  · intro b hb
    obtain rfl : b = s1.heap.objs.size := by simpa using hb
    exact newLt
  · exact (lim1.push o).extBut M.ext stP
  · intro hb
    have : cStatics = s1.heap.objs.size := by simpa using hb
    exact absurd this (Nat.ne_of_lt stLt)
  · -- the generator's element
    intro href hh
    constructor
    · intro A' E' i v s₂ m₂ _ _ _ _ _
      simp only [List.forIn_nil]
      exact wpAny_pure ⟨rfl, GxR.keeps_refl _⟩
    · intro A' E' i v s₂ m₂ _ hv _ hn hm hk
      obtain ⟨c, u, hc, rfl⟩ := hv
      have g2 : s₂.heap.Ns mainGlobals X.mg := by
        refine glob3.at' fun ob' eo => ?_
        refine hk mainGlobals (List.mem_range.mpr (Heap.lt_size eo)) ?_ ob' (hh _ _ eo)
        intro hb
        have q1 : mainGlobals = s1.heap.objs.size := by simpa using hb
        exact absurd q1 (Nat.ne_of_lt glob1.lt)
      refine wpAny_mono (hel _ A' E' c u s₂ m₂ rfl gm g2 hn hm) ?_ (fun _ _ z => z)
      rintro y s3 ⟨ey, ek⟩
      exact ⟨⟨c, hc, ey⟩, ek⟩
  · -- the generator as it is handed on
    intro g h5 tk5 gs bare hag sz5 keep5 W hat
    simp only [GxR.passing_true, List.length_range] at W
    refine hQ g _ ⟨_, _, _, _, _, W.in4_1, hat, ?_, ?_⟩
    · rintro j y sj Qj Ej ⟨i, hij, c, hc, rfl⟩ hq
      have hi : i = j := by
        obtain ⟨hj, ej⟩ := List.getElem?_eq_some_iff.mp hij
        simpa using ej.symm
      subst hi
      have hc' : a.cps.toList[i]? = some c := by simpa using hc
      have et : GxR.trF p a.cps.toList i = p c := GxR.trF_some hc'
      rw [et] at hq
      exact wpAny_truthy_bool hq
    · intro s' mv
      obtain ⟨m, rfl⟩ := M.more
      have old : ∀ b u, s1.heap.get? b = some u → ¬ b ∈ h3.objs.size :: [s1.heap.objs.size] := by
        intro b u e hb
        have lt := Heap.lt_size e
        have hb' : b = h3.objs.size ∨ b = s1.heap.objs.size := by simpa using hb
        rcases hb' with rfl | rfl
        · exact Nat.lt_irrefl _ (Nat.lt_trans lt newLt)
        · exact Nat.lt_irrefl _ lt
      have nI := GxR.inv_tab (more := m) (h' := s'.heap) (g' := s'.gens) (d' := s'.drawn) (t' := s'.toks) J hP
        (fun b u hb e => mv.heap b u (old b u e) (keep5 b u (carry b u hb e))) (mv.heap P _ (old P _ pAt) (keep5 P _ M.tab))
        (AllBare.movedS (J.bare.push bare) mv)
      rw [GxR.sh_eta s1 s' mv.os] at nI
      exact ⟨_, ⟨⟨_, upd_same, M.ok⟩, fun b hb => upd_ne hb⟩, nI⟩

theorem gen_text {cd P : Addr} {e it : Expr} {x : Str} {px gp : Pos} {sc : Scope} {p : Nat → Bool} {te : TE} {k : Nat} {Q' : Value → Shared → Prop} {R : Str → Hp → Prop}
    (hr : Room k X.A) (TB : GxR.TabB X.base X.mg cd P) (hcode : X.env.code = .ref cd) (S : GxR.GenS X.env sc x) (hi : PE X it te) (hel : SignTest X.prog X.w X.mg sc x e p)
    (hf : ∀ v, genFold it X.env v = pure v) (I : Inv X pins σ H s) (h : te σ H fun v H1 => ∃ a : Str, v = .str a ∧ GxR.TabG H1 P ∧ R a H1)
    (hQ : ∀ a H1 g s5, R a H1 → GxR.Ready X pins σ H1 P a p g s5 → Q' (.ref g) s5) :
    wpAny (model X.prog X.w) X.A (eval (.GeneratorExp e [⟨.Name x px, it, [], 0⟩] sc gp) X.env) Q' X.xe s := by
  have dl := hr.dp
  refine wpAny_GeneratorExp_walksQ hr.hd S.co (closure_ok S.free) S.cell S.dot S.loc S.kind (by omega) ?_ hf
  refine thn (hi.run pins s σ H _ I h) ?_
  rintro u s1 ⟨v, H1, J, ru, a, rfl, ⟨ps, hP, tok⟩, hR⟩
  obtain ⟨t, rfl⟩ := _root_.id ru
  apply wpAny_pyIter_str
  intro o St wk st
  have pAt : s1.heap.get? P = some { cls := .none, data := .fields ps } := J.hok P _ hP
  have pAt2 : (s1.heap.push o).get? P = some { cls := .none, data := .fields ps } := Heap.get?_push_of_some _ pAt
  have cAt : PySem.W.CodeHd (s1.heap.push o) cd P := TB.code.keeps fun b u e => Heap.get?_push_of_some _ (J.bk b u e)
  refine ⟨J.nolimit.push o, ?_⟩
  rcases hca : codeAmong gp ps.toList with _ | cv
  · refine wpAny_genexprCodeX hcode (cAt.code pAt2 tok) (cAt.tab pAt2) hca ?_
    intro c' h' tk hx hge hlt hco _ htab _
    have htr : TriplesOk (ps ++ #[rawInt gp.line, rawInt gp.col, .ref c']).toList := by
      obtain ⟨_, _, _, _, _, _, _, _, _, _, _, _, _, _, _, _, _, _, _, q, _⟩ := hco
      exact q
    exact gen_mid (it := it) (px := px) (gp := gp) hr TB hel J hP ⟨hx, Nat.le_trans hge (Nat.le_of_lt hlt), htab.2, ⟨_, rfl⟩, htr⟩ wk st fun g s5 => hQ a H1 g s5 hR
  · refine wpAny_genexprCode_hit hcode (cAt.code pAt2 tok) hca ?_
    exact gen_mid (it := it) (px := px) (gp := gp) hr TB hel J hP ⟨Heap.ExtBut.refl _ _, Nat.le_refl _, pAt2, ⟨#[], by simp⟩, tok⟩ wk st fun g s5 => hQ a H1 g s5 hR

theorem pe_allT {cd P : Addr} {e it : Expr} {x : Str} {px pa pos gp : Pos} {sc : Scope} {p : Nat → Bool} {te : TE} {k : Nat}
    (hr : Room k X.A) (hg : Gl X "all") (hm : X.mg "all" = none) (TB : GxR.TabB X.base X.mg cd P) (hcode : X.env.code = .ref cd) (S : GxR.GenS X.env sc x) (hi : PE X it te)
    (hel : SignTest X.prog X.w X.mg sc x e p) (hf : ∀ v, genFold it X.env v = pure v) (hb : bootBuiltins "all" = some (.builtin "all") := by decide +kernel)
    (he : starEach [.GeneratorExp e [⟨.Name x px, it, [], 0⟩] sc gp] X.env = (false, eval (.GeneratorExp e [⟨.Name x px, it, [], 0⟩] sc gp) X.env) :: starEach [] X.env := by rfl) :
    PE X (.Call (.Name "all" pa) [.GeneratorExp e [⟨.Name x px, it, [], 0⟩] sc gp] [] pos) (GxR.tAllS P p te) := by
  constructor
  intro pins s σ H Q I h
  apply wpAny_Call_Name_kw
  refine ld_blt I hg hm hb ?_
  refine PyProof.Rows.callWith_builtin1 ?_ he (by rfl)
  rw [he]
  show wpAny _ _ (spliced ((false, eval _ X.env) :: backTo pos (starEach [] X.env))) _ _ s
  apply Calls.spliced_cons
  refine gen_text (R := fun a H1 => ∀ H2, GxR.Tabbed P H1 H2 → Q (.bl (a.cps.toList.all p)) H2) hr TB hcode S hi hel hf I h ?_
  rintro a H1 g s5 hR ⟨fp, wr, G, F, St, W, hst, htr, hI⟩
  apply Calls.spliced_nil
  refine call_all_walkS (W.self 0 _ _ _ hst ⟨g, fp, wr, G, _, F, St, _, rfl, W, hst, htr, ?_⟩)
  intro s' mv
  obtain ⟨H2, hT, J⟩ := hI s' mv
  refine ⟨.bl _, H2, J, rfl, ?_⟩
  rw [GxR.all_signs]
  exact hR H2 hT
end
section
variable {X : Cx}
/-- x is not True, x a flat thing -/
theorem op_isnotB : OpR X (compareOp .IsNot) (fun x y H Q => ∃ b, flatV x = true ∧ y = .bl b ∧ Q (.bl (!decide (x = .bl b))) H) := by
  intro pins s σ H x y v u Q I rx ry h
  obtain ⟨b, fx, rfl, q⟩ := h
  cases (show u = Value.bool b from ry)
  cases x with
  | non =>
    cases (show v = Value.none from rx)
    exact wpAny_isNot_other rfl (fun z => nomatch z) ⟨.bl true, H, I, rfl, by simpa using q⟩
  | bl a =>
    cases (show v = Value.bool a from rx)
    by_cases e : a = b
    · subst e
      exact wpAny_isNot_self rfl ⟨.bl false, H, I, rfl, by simpa using q⟩
    · exact wpAny_isNot_other rfl (fun z => e (Value.bool.inj z)) ⟨.bl true, H, I, rfl, by simpa [e] using q⟩
  | int i =>
    obtain ⟨t, rfl⟩ := rx
    exact wpAny_isNot_other rfl (fun z => nomatch z) ⟨.bl true, H, I, rfl, by simpa using q⟩
  | str z =>
    obtain ⟨t, rfl⟩ := rx
    exact wpAny_isNot_other rfl (fun z => nomatch z) ⟨.bl true, H, I, rfl, by simpa using q⟩
  | _ => cases fx
/-- x is True, x a flat thing -/
theorem op_isB : OpR X (compareOp .Is) (fun x y H Q => ∃ b, flatV x = true ∧ y = .bl b ∧ Q (.bl (decide (x = .bl b))) H) := by
  intro pins s σ H x y v u Q I rx ry h
  obtain ⟨b, fx, rfl, q⟩ := h
  cases (show u = Value.bool b from ry)
  cases x with
  | non =>
    cases (show v = Value.none from rx)
    exact wpAny_is_other rfl (fun z => nomatch z) ⟨.bl false, H, I, rfl, by simpa using q⟩
  | bl a =>
    cases (show v = Value.bool a from rx)
    by_cases e : a = b
    · subst e
      exact wpAny_is_self rfl ⟨.bl true, H, I, rfl, by simpa using q⟩
    · exact wpAny_is_other rfl (fun z => e (Value.bool.inj z)) ⟨.bl false, H, I, rfl, by simpa [e] using q⟩
  | int i =>
    obtain ⟨t, rfl⟩ := rx
    exact wpAny_is_other rfl (fun z => nomatch z) ⟨.bl false, H, I, rfl, by simpa using q⟩
  | str z =>
    obtain ⟨t, rfl⟩ := rx
    exact wpAny_is_other rfl (fun z => nomatch z) ⟨.bl false, H, I, rfl, by simpa using q⟩
  | _ => cases fx
end

section
variable {prog : Program} {w : World} {A : Around} {E : Value → Shared → Prop} {s : Shared}
theorem gives_ge_bi (b : Bool) (a : Int) (t : Tok) : Gives (Builtin.«int.__ge__» ⟨[.bool b, .int a t], []⟩) (.val (.bool (decide (a ≤ if b then (1 : Int) else 0)))) := by
  cases b <;> exact .of_eq rfl
theorem le_int_bool {a : Int} {t : Tok} {b : Bool} {Q : Value → Shared → Prop} (h : Q (.bool (decide (a ≤ if b then (1 : Int) else 0))) s) : wpAny (model prog w) A (compareOp .LtE (.int a t) (.bool b)) Q E s := by
  have hop : compareOp .LtE (.int a t) (.bool b) = richCompare .LtE (.int a t) (.bool b) := by rfl
  rw [hop]
  exact SeqAt.rc_sub_first_or (op := .LtE) (typeIs_int s a t) (Tb := "bool") rfl (by decide) F.sub_bool_int F.slot_bool_ge_refl
    (call_gives F.slot_bool_ge_refl rfl F.entry_int_ge (F.args_int_ge_2 _ _) (gives_ge_bi b a t) ⟨nofun, h⟩) (.inl rfl)
theorem ge_bool_int {a : Bool} {b : Int} {u : Tok} {Q : Value → Shared → Prop} (h : Q (.bool (decide (b ≤ if a then (1 : Int) else 0))) s) : wpAny (model prog w) A (compareOp .GtE (.bool a) (.int b u)) Q E s := by
  have hop : compareOp .GtE (.bool a) (.int b u) = richCompare .GtE (.bool a) (.int b u) := by rfl
  rw [hop]
  exact SeqAt.rc_left_or (op := .GtE) (Ta := "bool") rfl (typeIs_int s b u) (by decide) F.sub_int_bool F.slot_bool_ge
    (call_gives F.slot_bool_ge rfl F.entry_int_ge (F.args_int_ge_2 _ _) (gives_ge_bi a b u) ⟨nofun, h⟩) (.inl rfl)
end
/-- the number of an int or a truth -/
def nmV : V → Option Int
  | .int i => some i
  | .bl b => some (if b then 1 else 0)
  | _ => none
section
variable {X : Cx}
theorem op_leN : OpR X (compareOp .LtE) (fun x y H Q => ∃ i j, x = .int i ∧ nmV y = some j ∧ Q (.bl (decide (i ≤ j))) H) := by
  intro pins s σ H x y v u Q I rx ry h
  obtain ⟨i, j, rfl, e, q⟩ := h
  obtain ⟨t, rfl⟩ := rx
  cases y with
  | int k =>
    obtain ⟨t', rfl⟩ := ry
    cases e
    exact P.le_int ⟨.bl _, H, I, rfl, q⟩
  | bl b =>
    cases (show u = Value.bool b from ry)
    cases e
    exact le_int_bool ⟨.bl _, H, I, rfl, q⟩
  | _ => cases e
theorem op_geN : OpR X (compareOp .GtE) (fun x y H Q => ∃ i j, nmV x = some i ∧ y = .int j ∧ Q (.bl (decide (j ≤ i))) H) := by
  intro pins s σ H x y v u Q I rx ry h
  obtain ⟨i, j, e, rfl, q⟩ := h
  obtain ⟨t, rfl⟩ := ry
  cases x with
  | int k =>
    obtain ⟨t', rfl⟩ := rx
    cases e
    exact P.ge_int ⟨.bl _, H, I, rfl, q⟩
  | bl b =>
    cases (show v = Value.bool b from rx)
    cases e
    exact ge_bool_int ⟨.bl _, H, I, rfl, q⟩
  | _ => cases e
end
end K1
set_option Elab.async false
set_option linter.all false
set_option maxRecDepth 100000
set_option maxHeartbeats 4000000
/-! What the promises speak of: kinds of things, the tables of code, heaps that have grown. -/
namespace K1
open PySem PySem.Spec PyProof.Rows L2

/-! ### kinds of things -/
/-- a thing, its kind, and its items if it is a tuple -/
inductive Th (K : PySem.W.Frag) (H : Hp) : V → String → Option (List V) → Prop
  | non : Th K H .non "NoneType" none
  | bl (b : Bool) : Th K H (.bl b) "bool" none
  | int (i : Int) : Th K H (.int i) "int" none
  | str (x : Str) (h : x.length ≤ sizeLine) : Th K H (.str x) "str" none
  | lst {a : Addr} {xs : List V} (e : SqL K H a xs) : Th K H (.ref a) "list" none
  | tup {a : Addr} {xs : List V} (e : SqT K H a xs) : Th K H (.ref a) "tuple" (some xs)
  | dK {a : Addr} {kvs : List (Key × V)} (e : H a = some (.dK kvs)) : Th K H (.ref a) "dict" none
theorem tyT {K : PySem.W.Frag} {H : Hp} {a : Addr} {xs : List V} (e : SqT K H a xs) : TyX K H (.ref a) (.type "tuple") := by
  rcases e with (e | ⟨o, e⟩) | ⟨o, its, n, e, c, _⟩
  · exact .base (.tup e)
  · exact .fTuple e
  · exact .kTuple e c
theorem tyL {K : PySem.W.Frag} {H : Hp} {a : Addr} {xs : List V} (e : SqL K H a xs) : TyX K H (.ref a) (.type "list") := by
  rcases e with (e | ⟨o, e⟩) | ⟨o, its, n, e, c, _⟩
  · exact .base (.lst e)
  · exact .base (.frz e)
  · exact .kList e c
theorem Th.ty {K : PySem.W.Frag} {H : Hp} {v : V} {n : String} {o : Option (List V)} (h : Th K H v n o) : TyX K H v (.type n) := by
  cases h with
  | non => exact .base .non
  | bl b => exact .base (.bl b)
  | int i => exact .base (.int i)
  | str x _ => exact .base (.str x)
  | lst e => exact tyL e
  | tup e => exact tyT e
  | dK e => exact .base (.dK e)
def isI : V → Bool
  | .int _ => true
  | _ => false
def isB : V → Bool
  | .bl _ => true
  | _ => false
def isS : V → Bool
  | .str _ => true
  | _ => false
theorem Th.kint {K : PySem.W.Frag} {H : Hp} {v : V} {n : String} {o : Option (List V)} (h : Th K H v n o) : kitB n "int" = some (isI v || isB v) := by
  cases h <;> (first | (show kitB _ _ = some true; decide +kernel) | (show kitB _ _ = some false; decide +kernel) | decide +kernel)
theorem Th.kbool {K : PySem.W.Frag} {H : Hp} {v : V} {n : String} {o : Option (List V)} (h : Th K H v n o) : kitB n "bool" = some (isB v) := by
  cases h <;> (first | (show kitB _ _ = some true; decide +kernel) | (show kitB _ _ = some false; decide +kernel) | decide +kernel)
theorem Th.kstr {K : PySem.W.Frag} {H : Hp} {v : V} {n : String} {o : Option (List V)} (h : Th K H v n o) : kitB n "str" = some (isS v) := by
  cases h <;> (first | (show kitB _ _ = some true; decide +kernel) | (show kitB _ _ = some false; decide +kernel) | decide +kernel)
theorem Th.ktup {K : PySem.W.Frag} {H : Hp} {v : V} {n : String} {o : Option (List V)} (h : Th K H v n o) : kitB n "tuple" = some o.isSome := by
  cases h <;> (first | (show kitB _ _ = some true; decide +kernel) | (show kitB _ _ = some false; decide +kernel) | decide +kernel)
theorem Th.klst {K : PySem.W.Frag} {H : Hp} {v : V} {n : String} {o : Option (List V)} (h : Th K H v n o) : kitB n "list" = some (decide (n = "list")) := by
  cases h <;> (first | (show kitB _ _ = some true; decide +kernel) | (show kitB _ _ = some false; decide +kernel) | decide +kernel)
/-- isinstance of a thing and a class, answered -/
theorem isi {K : PySem.W.Frag} {H : Hp} {v : V} {n m : String} {o : Option (List V)} {b : Bool} {Q : VK} (th : Th K H v n o) (k : kitB n m = some b) (q : Q (.bl b) H) : rIsi K [v, .ty m] H Q :=
  ⟨v, .ty m, .type n, .type m, b, rfl, .ty m, th.ty, kit_ty k, q⟩

/-! ### heaps -/
/-- the places of the tables of code objects that may come to be fuller -/
abbrev Tp := List Addr
def TG (T : Tp) (H : Hp) : Prop := ∀ P ∈ T, GxR.TabG H P
/-- H' is H, grown: the tables may be longer, what D tells may be otherwise -/
def Go (T : Tp) (D : Addr → Prop) (H H' : Hp) : Prop := TG T H' ∧ ∀ b o, b ∉ T → ¬ D b → H b = some o → H' b = some o
abbrev D0 : Addr → Prop := fun _ => False
section
variable {T : Tp} {D D' : Addr → Prop} {H H1 H2 : Hp}
theorem Go.rfl' (t : TG T H) : Go T D H H := ⟨t, fun _ _ _ _ e => e⟩
theorem Go.trans (g : Go T D H H1) (g' : Go T D H1 H2) : Go T D H H2 := ⟨g'.1, fun b o h1 h3 e => g'.2 b o h1 h3 (g.2 b o h1 h3 e)⟩
theorem Go.mono (g : Go T D H H1) (h : ∀ b, D b → D' b) : Go T D' H H1 := ⟨g.1, fun b o h1 h3 e => g.2 b o h1 (fun z => h3 (h b z)) e⟩
theorem Go.up (g : Go T D0 H H1) : Go T D H H1 := g.mono fun _ z => z.elim
theorem TabG.ne {P p : Addr} (t : GxR.TabG H P) (h : H p = none) : P ≠ p := by
  obtain ⟨ps, e, _⟩ := t
  exact ne_of_none e h
theorem TG.stay {p : Addr} {o : HO} (t : TG T H) (h1 : p ∉ T) : TG T (upd H p o) := by
  intro P hP
  obtain ⟨ps, e, r⟩ := t P hP
  exact ⟨ps, (upd_ne (fun z => h1 (by rw [← z]; exact hP))).trans e, r⟩
theorem TG.new {p : Addr} {o : HO} (t : TG T H) (h : H p = none) : TG T (upd H p o) := t.stay fun z => TabG.ne (t p z) h rfl
theorem Go.new {p : Addr} {o : HO} (g : Go T D H H1) (h : H1 p = none) : Go T D H (upd H1 p o) := by
  refine ⟨g.1.new h, fun b u h1 h3 e => ?_⟩
  have e1 := g.2 b u h1 h3 e
  rw [upd_ne (ne_of_none e1 h)]
  exact e1
theorem TG.neW {b : Addr} {o : HO} (t : TG T H) (e : H b = some o) (ho : ∀ ps, o ≠ .tbl ps) : b ∉ T := fun z => by
  obtain ⟨ps, e', _⟩ := t b z
  rw [e] at e'
  exact ho ps (Option.some.inj e')
/-- an object of D is changed -/
theorem Go.set {p : Addr} {o u : HO} (g : Go T D H H1) (d : D p) (h : H1 p = some u) (hu : ∀ ps, u ≠ .tbl ps) : Go T D H (upd H1 p o) := by
  refine ⟨g.1.stay (g.1.neW h hu), fun b v h1 h3 e => ?_⟩
  rw [upd_ne (fun z => h3 (by rw [z]; exact d))]
  exact g.2 b v h1 h3 e
/-- a table that is fuller -/
theorem Go.tab {P : Addr} (t : TG T H) (hP : P ∈ T) (x : GxR.Tabbed P H H1) : Go T D H H1 := by
  refine ⟨fun Q hQ => ?_, fun b o h1 _ e => (x.2 b (fun z => h1 (by rw [z]; exact hP))).trans e⟩
  by_cases z : Q = P
  · rw [z]; exact x.1
  · obtain ⟨qs, e, r⟩ := t Q hQ
    exact ⟨qs, (x.2 _ z).trans e, r⟩
theorem Go.at {b : Addr} {o : HO} (g : Go T D H H1) (t : TG T H) (d : ¬ D b) (e : H b = some o) (ho : ∀ ps, o ≠ .tbl ps := by intro ps z; cases z) : H1 b = some o :=
  g.2 b o (t.neW e ho) d e
/-- a free place was free -/
theorem Go.free {b : Addr} (g : Go T D H H1) (t : TG T H) (d : ¬ D b) (h : H1 b = none) : H b = none := by
  cases q : H b with
  | none => rfl
  | some o =>
    have h1 : b ∉ T := fun z => TabG.ne (g.1 b z) h rfl
    rw [g.2 b o h1 d q] at h
    cases h
/-- sequences stand -/
theorem Go.seqT {K : PySem.W.Frag} {a : Addr} {xs : List V} (g : Go T D H H1) (t : TG T H) (d : ∀ o, H a = some o → ¬ D a) (h : SqT K H a xs) : SqT K H1 a xs := by
  rcases h with (h | ⟨o, h⟩) | h
  · exact .inl (.inl (g.at t (d _ h) h))
  · exact .inl (.inr ⟨o, g.at t (d _ h) h⟩)
  · exact .inr h
theorem Go.seqL {K : PySem.W.Frag} {a : Addr} {xs : List V} (g : Go T D H H1) (t : TG T H) (d : ∀ o, H a = some o → ¬ D a) (h : SqL K H a xs) : SqL K H1 a xs := by
  rcases h with (h | ⟨o, h⟩) | h
  · exact .inl (.inl (g.at t (d _ h) h))
  · exact .inl (.inr ⟨o, g.at t (d _ h) h⟩)
  · exact .inr h
theorem Th.go {K : PySem.W.Frag} {v : V} {n : String} {o : Option (List V)} (h : Th K H v n o) (g : Go T D H H1) (t : TG T H) (d : ∀ a, v = .ref a → ¬ D a) : Th K H1 v n o := by
  cases h with
  | non => exact .non
  | bl b => exact .bl b
  | int i => exact .int i
  | str x h => exact .str x h
  | lst e => exact .lst (g.seqL t (fun _ _ => d _ rfl) e)
  | tup e => exact .tup (g.seqT t (fun _ _ => d _ rfl) e)
  | dK e => exact .dK (g.at t (d _ rfl) e)
/-- only a dict is otherwise -/
theorem dOne {d a : Addr} {kvs : List (Key × V)} (e : H d = some (.dK kvs)) {o : HO} (h : H a = some o) (ho : ∀ k, o ≠ .dK k) : ¬ a = d := by
  intro z
  rw [z, e] at h
  exact ho _ (Option.some.inj h).symm
end

/-! ### calls of the module's defs -/
structure Cal (P : Program) (w : World) (K : PySem.W.Frag) (mg : Str → Option Value) (base : Heap) (k : Nat) (x : Str) (ps : List Str) (sp : Sp) : Prop where
  ex : ∃ (f : Addr) (fd : FuncData), FnOk P w K mg base CX0 k f fd ps sp ∧ mg x = some (.ref f) ∧ PySem.W.keepIn K (.ref f) = true ∧ Binds K fd ps []
theorem pe_cal {X : Cx} {k : Nat} {x : Str} {ps : List Str} {sp : Sp} {e : Expr} {es : List Expr} {t : TA} {p pos : Pos} (C : Cal X.prog X.w X.K X.mg X.base k x ps sp) (hr : Room k X.A) (hg : Gl X x) (ha : PA X (e :: es) t)
    (hdb : (x == ("__debug__" : Str)) = false := by decide) (he : starEach (e :: es) X.env = (false, eval e X.env) :: starEach es X.env := by rfl) (hpl : (backTo pos (starEach es X.env)).any (·.1) = false := by rfl) :
    PE X (.Call (.Name x p) (e :: es) [] pos) (tCall sp [] E0 t) := by
  obtain ⟨f, fd, F, hm, hk, hb⟩ := C.ex
  exact pe_call F hr hg hm hk hb .nil pass0 ha hdb he hpl
end K1
set_option Elab.async false
set_option linter.all false
/-! Longest rows of like pairs: a table, its ends, chains. -/
namespace A1
abbrev Pr := Nat × Nat
/-- before, in both places -/
def Up (p q : Pr) : Prop := p.1 < q.1 ∧ p.2 < q.2
/-- before, by the first, then by the second place -/
def Lx (p q : Pr) : Prop := p.1 < q.1 ∨ (p.1 = q.1 ∧ p.2 < q.2)
instance (p q : Pr) : Decidable (Up p q) := inferInstanceAs (Decidable (_ ∧ _))
instance (p q : Pr) : Decidable (Lx p q) := inferInstanceAs (Decidable (_ ∨ _))
theorem Lx.irr {p : Pr} (h : Lx p p) : False := by
  unfold Lx at h
  omega
theorem Lx.asym {p q : Pr} (h : Lx p q) (h' : Lx q p) : False := by
  unfold Lx at h h'
  omega
theorem Lx.trans {p q r : Pr} (h : Lx p q) (h' : Lx q r) : Lx p r := by
  unfold Lx at h h' ⊢
  omega
theorem Lx.tot {p q : Pr} (h : ¬ Lx p q) : p = q ∨ Lx q p := by
  unfold Lx at h ⊢
  by_cases e : p = q
  · exact .inl e
  · right
    have : ¬ (p.1 = q.1 ∧ p.2 = q.2) := fun z => e (Prod.ext z.1 z.2)
    omega
/-- all pairs of places -/
def grid (n m : Nat) : List Pr := (List.range n).flatMap fun i => (List.range m).map fun j => (i, j)
theorem mem_grid {n m : Nat} {p : Pr} : p ∈ grid n m ↔ p.1 < n ∧ p.2 < m := by
  unfold grid
  simp only [List.mem_flatMap, List.mem_map, List.mem_range]
  constructor
  · rintro ⟨i, hi, j, hj, rfl⟩
    exact ⟨hi, hj⟩
  · rintro ⟨h1, h2⟩
    exact ⟨p.1, h1, p.2, h2, rfl⟩
theorem grid_sorted (n m : Nat) : (grid n m).Pairwise Lx := by
  unfold grid
  rw [List.pairwise_flatMap]
  refine ⟨fun i hi => ?_, ?_⟩
  · rw [List.pairwise_map]
    exact List.Pairwise.imp (fun {a b} (h : a < b) => .inr ⟨rfl, h⟩) List.pairwise_lt_range
  · refine List.Pairwise.imp (fun {a b} (h : a < b) x hx y hy => ?_) List.pairwise_lt_range
    obtain ⟨j, _, rfl⟩ := List.mem_map.mp hx
    obtain ⟨k, _, rfl⟩ := List.mem_map.mp hy
    exact .inl h
/-- sorted rows of the same pairs are one -/
theorem uniq : ∀ {l m : List Pr}, l.Perm m → l.Pairwise Lx → m.Pairwise (fun p q => ¬ Lx q p) → l = m
  | [], m, h, _, _ => h.nil_eq
  | p :: l, [], h, _, _ => by
    have := h.length_eq
    simp at this
  | p :: l, q :: m, h, hl, hm => by
    obtain ⟨l1, l2⟩ := List.pairwise_cons.mp hl
    obtain ⟨m1, m2⟩ := List.pairwise_cons.mp hm
    have e : p = q := by
      have hp : p ∈ q :: m := h.mem_iff.mp (List.mem_cons_self ..)
      have hq : q ∈ p :: l := h.mem_iff.mpr (List.mem_cons_self ..)
      rcases List.mem_cons.mp hp with e | hp
      · exact e
      · rcases List.mem_cons.mp hq with e | hq
        · exact e.symm
        · exact absurd (l1 q hq) (m1 p hp)
    subst e
    rw [uniq h.cons_inv l2 m2]

section
variable (P : Nat → Nat → Bool)
/-- the most that can be kept of the first i and the first j -/
def Mx : Nat → Nat → Nat
  | 0, _ => 0
  | _ + 1, 0 => 0
  | i + 1, j + 1 => max (max (Mx i (j + 1)) (Mx (i + 1) j)) (if P i j = true then Mx i j + 1 else 0)
termination_by i j => i + j
/-- the longest row that ends with a pair -/
def En (p : Pr) : Nat := if P p.1 p.2 = true then Mx P p.1 p.2 + 1 else 0
end
section
variable {P : Nat → Nat → Bool}
theorem Mx_0 {j : Nat} : Mx P 0 j = 0 := by rw [Mx]
theorem Mx_i0 {i : Nat} : Mx P i 0 = 0 := by
  cases i with
  | zero => rw [Mx]
  | succ i => rw [Mx]
theorem Mx_s {i j : Nat} : Mx P (i + 1) (j + 1) = max (max (Mx P i (j + 1)) (Mx P (i + 1) j)) (En P (i, j)) := by
  rw [Mx]
  rfl
theorem Mx_j {i j : Nat} : Mx P i j ≤ Mx P i (j + 1) := by
  cases i with
  | zero => rw [Mx_0]; exact Nat.zero_le _
  | succ i => rw [Mx_s]; omega
theorem Mx_i {i j : Nat} : Mx P i j ≤ Mx P (i + 1) j := by
  cases j with
  | zero => rw [Mx_i0]; exact Nat.zero_le _
  | succ j => rw [Mx_s]; omega
theorem Mx_mono {i i' j j' : Nat} (hi : i ≤ i') (hj : j ≤ j') : Mx P i j ≤ Mx P i' j' := by
  have a : Mx P i j ≤ Mx P i' j := by
    induction hi with
    | refl => exact Nat.le_refl _
    | step h ih => exact Nat.le_trans ih Mx_i
  have b : Mx P i' j ≤ Mx P i' j' := by
    induction hj with
    | refl => exact Nat.le_refl _
    | step h ih => exact Nat.le_trans ih Mx_j
  exact Nat.le_trans a b
theorem En_le {p : Pr} {i j : Nat} (h1 : p.1 < i) (h2 : p.2 < j) : En P p ≤ Mx P i j := by
  refine Nat.le_trans ?_ (Mx_mono (i := p.1 + 1) (j := p.2 + 1) h1 h2)
  rw [Mx_s]
  exact Nat.le_max_right _ _
theorem Mx_at : ∀ {i j k : Nat}, k < Mx P i j → ∃ p : Pr, p.1 < i ∧ p.2 < j ∧ P p.1 p.2 = true ∧ En P p = k + 1
  | 0, j, k, h => by rw [Mx_0] at h; cases h
  | i + 1, 0, k, h => by rw [Mx_i0] at h; cases h
  | i + 1, j + 1, k, h => by
    by_cases h1 : k < Mx P i (j + 1)
    · obtain ⟨p, a, b, c⟩ := Mx_at h1
      exact ⟨p, Nat.lt_succ_of_lt a, b, c⟩
    · by_cases h2 : k < Mx P (i + 1) j
      · obtain ⟨p, a, b, c⟩ := Mx_at h2
        exact ⟨p, a, Nat.lt_succ_of_lt b, c⟩
      · have h3 : k < En P (i, j) := by
          rw [Mx_s] at h
          omega
        have hP : P i j = true := by
          by_cases q : P i j = true
          · exact q
          · unfold En at h3
            rw [if_neg q] at h3
            cases h3
        by_cases h4 : k < Mx P i j
        · exact absurd (Nat.lt_of_lt_of_le h4 Mx_j) h1
        · refine ⟨(i, j), Nat.lt_succ_self _, Nat.lt_succ_self _, hP, ?_⟩
          have e : En P (i, j) = Mx P i j + 1 := if_pos hP
          rw [e] at h3 ⊢
          omega
termination_by i j => i + j
theorem En_pos {p : Pr} : 0 < En P p ↔ P p.1 p.2 = true := by
  unfold En
  by_cases h : P p.1 p.2 = true
  · rw [if_pos h]
    exact ⟨fun _ => h, fun _ => Nat.succ_pos _⟩
  · rw [if_neg h]
    exact ⟨fun z => absurd z (Nat.lt_irrefl _), fun z => absurd z h⟩
theorem En_up {p q : Pr} (h : Up p q) (hq : P q.1 q.2 = true) : En P p < En P q := by
  have e : En P q = Mx P q.1 q.2 + 1 := if_pos hq
  rw [e]
  exact Nat.lt_succ_of_le (En_le h.1 h.2)
/-- a row of like pairs that rises -/
structure Ch (P : Nat → Nat → Bool) (l : List Pr) : Prop where
  up : l.Pairwise Up
  like : ∀ p ∈ l, P p.1 p.2 = true
theorem Up.trans {p q r : Pr} (h : Up p q) (h' : Up q r) : Up p r := ⟨Nat.lt_trans h.1 h'.1, Nat.lt_trans h.2 h'.2⟩
/-- a row's length is at most its end's -/
theorem Ch.le : ∀ {r : List Pr} {p : Pr}, Ch P (r.reverse ++ [p]) → r.length + 1 ≤ En P p
  | [], p, c => En_pos.mpr (c.like p (by simp))
  | q :: r, p, c => by
    have c' : Ch P (r.reverse ++ [q]) := ⟨(List.pairwise_append.mp c.up).1 |> fun h => by rw [List.reverse_cons] at h; exact h, fun x hx => c.like x (by rw [List.reverse_cons]; exact List.mem_append_left _ hx)⟩
    have h1 := Ch.le c'
    have h2 : Up q p := (List.pairwise_append.mp c.up).2.2 q (by simp) p (by simp)
    have := En_up h2 (c.like p (by simp))
    rw [List.length_cons]
    omega
/-- there is one as long as its end says -/
theorem Ch.ex : ∀ {k : Nat} {p : Pr}, En P p = k + 1 → ∃ r : List Pr, r.length = k ∧ Ch P (r.reverse ++ [p])
  | 0, p, h => ⟨[], rfl, List.pairwise_singleton .., fun x hx => by obtain rfl := List.mem_singleton.mp hx; exact En_pos.mp (by omega)⟩
  | k + 1, p, h => by
    have hP : P p.1 p.2 = true := En_pos.mp (by omega)
    have e : En P p = Mx P p.1 p.2 + 1 := if_pos hP
    obtain ⟨q, a, b, c, d⟩ := Mx_at (P := P) (i := p.1) (j := p.2) (k := k) (by omega)
    obtain ⟨r, hl, cr⟩ := Ch.ex d
    refine ⟨q :: r, by rw [List.length_cons, hl], ?_, fun x hx => ?_⟩
    · rw [List.reverse_cons]
      refine List.pairwise_append.mpr ⟨cr.up, List.pairwise_singleton .., fun x hx y hy => ?_⟩
      obtain rfl := List.mem_singleton.mp hy
      rcases List.mem_append.mp hx with hx | hx
      · exact Up.trans ((List.pairwise_append.mp cr.up).2.2 x hx q (by simp)) ⟨a, b⟩
      · obtain rfl := List.mem_singleton.mp hx
        exact ⟨a, b⟩
    · rw [List.reverse_cons] at hx
      rcases List.mem_append.mp hx with hx | hx
      · exact cr.like x hx
      · obtain rfl := List.mem_singleton.mp hx
        exact hP
end
end A1
set_option Elab.async false
set_option linter.all false
/-! The kept pairs: from the start, by how long a row may go on. -/
namespace A1
/-- from the other end -/
def fl (n m : Nat) (p : Pr) : Pr := (n - 1 - p.1, m - 1 - p.2)
def Rv (P : Nat → Nat → Bool) (n m : Nat) (i j : Nat) : Bool := decide (i < n ∧ j < m) && P (n - 1 - i) (m - 1 - j)
/-- like pairs stand in the grid alone -/
def In (P : Nat → Nat → Bool) (n m : Nat) : Prop := ∀ i j, P i j = true → i < n ∧ j < m
section
variable {P : Nat → Nat → Bool} {n m : Nat}
theorem fl_fl {p : Pr} (h : p.1 < n ∧ p.2 < m) : fl n m (fl n m p) = p := by
  unfold fl
  refine Prod.ext ?_ ?_
  · show n - 1 - (n - 1 - p.1) = p.1
    omega
  · show m - 1 - (m - 1 - p.2) = p.2
    omega
theorem fl_in {p : Pr} (h : p.1 < n ∧ p.2 < m) : (fl n m p).1 < n ∧ (fl n m p).2 < m := by
  unfold fl
  show n - 1 - p.1 < n ∧ m - 1 - p.2 < m
  omega
theorem fl_up {p q : Pr} (h : Up p q) (hq : q.1 < n ∧ q.2 < m) : Up (fl n m q) (fl n m p) := by
  unfold Up at h
  show n - 1 - q.1 < n - 1 - p.1 ∧ m - 1 - q.2 < m - 1 - p.2
  omega
theorem Rv_in : In (Rv P n m) n m := fun i j h => by
  unfold Rv at h
  rw [Bool.and_eq_true, decide_eq_true_eq] at h
  exact h.1
theorem Rv_fl {p : Pr} (h : p.1 < n ∧ p.2 < m) : Rv P n m (fl n m p).1 (fl n m p).2 = P p.1 p.2 := by
  have a := fl_fl h
  have b := fl_in h
  unfold Rv
  rw [decide_eq_true b, Bool.true_and]
  have e1 : n - 1 - (fl n m p).1 = p.1 := congrArg Prod.fst a
  have e2 : m - 1 - (fl n m p).2 = p.2 := congrArg Prod.snd a
  rw [e1, e2]
theorem Rv_P {p : Pr} (h : Rv P n m p.1 p.2 = true) : P (fl n m p).1 (fl n m p).2 = true := by
  unfold Rv at h
  rw [Bool.and_eq_true] at h
  exact h.2
/-- a row told from the other end -/
theorem Ch.fl {l : List Pr} (hP : In P n m) (c : Ch P l) : Ch (Rv P n m) (l.map (fl n m)).reverse := by
  refine ⟨?_, fun p hp => ?_⟩
  · rw [List.pairwise_reverse, List.pairwise_map]
    exact List.Pairwise.imp_of_mem (fun {a b} _ hb h => fl_up h (hP _ _ (c.like b hb))) c.up
  · obtain ⟨q, hq, rfl⟩ := List.mem_map.mp (List.mem_reverse.mp hp)
    rw [Rv_fl (hP _ _ (c.like q hq))]
    exact c.like q hq
theorem Ch.fl' {l : List Pr} (c : Ch (Rv P n m) l) : Ch P (l.map (A1.fl n m)).reverse := by
  refine ⟨?_, fun p hp => ?_⟩
  · rw [List.pairwise_reverse, List.pairwise_map]
    exact List.Pairwise.imp_of_mem (fun {a b} _ hb h => fl_up h (Rv_in _ _ (c.like b hb))) c.up
  · obtain ⟨q, hq, rfl⟩ := List.mem_map.mp (List.mem_reverse.mp hp)
    exact Rv_P (c.like q hq)
/-- how long a row may be that starts with a pair -/
def Sn (P : Nat → Nat → Bool) (n m : Nat) (p : Pr) : Nat := En (Rv P n m) (fl n m p)
theorem Ch.ge {p : Pr} {r : List Pr} (hP : In P n m) (c : Ch P (p :: r)) : r.length + 1 ≤ Sn P n m p := by
  have c2 := c.fl hP
  rw [List.map_cons, List.reverse_cons] at c2
  have := Ch.le (r := r.map (A1.fl n m)) (p := A1.fl n m p) c2
  rw [List.length_map] at this
  exact this
theorem Sn.ex {p : Pr} {k : Nat} (hp : p.1 < n ∧ p.2 < m) (h : Sn P n m p = k + 1) : ∃ r : List Pr, r.length = k ∧ Ch P (p :: r) := by
  obtain ⟨r, hl, c⟩ := Ch.ex h
  have c2 := c.fl'
  rw [List.map_append, List.reverse_append, List.map_reverse, List.reverse_reverse, List.map_singleton, List.reverse_singleton, A1.fl_fl hp] at c2
  exact ⟨r.map (A1.fl n m), by rw [List.length_map, hl], c2⟩
/-- no row is longer than the table says -/
theorem Ch.most {l : List Pr} (hP : In P n m) (c : Ch P l) : l.length ≤ Mx P n m := by
  rcases List.eq_nil_or_concat l with rfl | ⟨l', p, rfl⟩
  · exact Nat.zero_le _
  · rw [List.concat_eq_append] at c ⊢
    have h1 := Ch.le (r := l'.reverse) (p := p) (by rw [List.reverse_reverse]; exact c)
    have h2 := hP _ _ (c.like p (by simp))
    have h3 := En_le (P := P) (p := p) h2.1 h2.2
    rw [List.length_append, List.length_singleton]
    rw [List.length_reverse] at h1
    omega
theorem most_ex (hP : In P n m) : ∃ l : List Pr, l.length = Mx P n m ∧ Ch P l := by
  cases h : Mx P n m with
  | zero => exact ⟨[], rfl, .nil, fun p hp => by cases hp⟩
  | succ k =>
    obtain ⟨p, _, _, _, e⟩ := Mx_at (P := P) (i := n) (j := m) (k := k) (by omega)
    obtain ⟨r, hl, c⟩ := Ch.ex e
    exact ⟨_, by rw [List.length_append, List.length_reverse, hl]; rfl, c⟩
theorem most_fl (hP : In P n m) : Mx (Rv P n m) n m = Mx P n m := by
  obtain ⟨l, h1, c1⟩ := most_ex (n := n) (m := m) hP
  obtain ⟨l', h2, c2⟩ := most_ex (P := Rv P n m) (n := n) (m := m) Rv_in
  have a := (c1.fl hP).most Rv_in
  have b := c2.fl'.most hP
  rw [List.length_reverse, List.length_map] at a b
  omega

/-! ### the kept pairs -/
def okBehind (acc : List Pr) (p : Pr) : Bool := match acc.getLast? with
  | none => true
  | some q => decide (q.1 < p.1) && decide (q.2 < p.2)
def stepK (P : Nat → Nat → Bool) (n m : Nat) (acc : List Pr) (s : Nat) : List Pr := match ((grid n m).filter fun p => decide (Sn P n m p = s)).find? (okBehind acc) with
  | some p => acc ++ [p]
  | none => acc
/-- the kept pairs, from the longest to go on to the shortest -/
def keptN (P : Nat → Nat → Bool) (n m : Nat) : Nat → List Pr → List Pr
  | 0, acc => acc
  | s + 1, acc => keptN P n m s (stepK P n m acc (s + 1))
def keptOf (P : Nat → Nat → Bool) (n m : Nat) : List Pr := keptN P n m (Mx P n m) []
/-- what holds of the pairs kept so far, where rows of s more are wanted -/
structure Kp (P : Nat → Nat → Bool) (n m s : Nat) (acc : List Pr) : Prop where
  ch : Ch P acc
  len : acc.length + s = Mx P n m
  last : ∀ q, acc.getLast? = some q → Sn P n m q = s + 1
theorem Ch.snoc {acc : List Pr} {p : Pr} (c : Ch P acc) (hp : P p.1 p.2 = true) (h : okBehind acc p = true) : Ch P (acc ++ [p]) := by
  refine ⟨List.pairwise_append.mpr ⟨c.up, List.pairwise_singleton .., fun x hx y hy => ?_⟩, fun x hx => ?_⟩
  · obtain rfl := List.mem_singleton.mp hy
    rcases List.eq_nil_or_concat acc with rfl | ⟨l', q, rfl⟩
    · cases hx
    · rw [List.concat_eq_append] at c h hx
      unfold okBehind at h
      rw [List.getLast?_append, List.getLast?_singleton] at h
      have h' : (decide (q.1 < y.1) && decide (q.2 < y.2)) = true := h
      rw [Bool.and_eq_true, decide_eq_true_eq, decide_eq_true_eq] at h'
      have uq : Up q y := h'
      rcases List.mem_append.mp hx with hx | hx
      · exact Up.trans ((List.pairwise_append.mp c.up).2.2 x hx q (by simp)) uq
      · obtain rfl := List.mem_singleton.mp hx
        exact uq
  · rcases List.mem_append.mp hx with hx | hx
    · exact c.like x hx
    · obtain rfl := List.mem_singleton.mp hx
      exact hp
theorem Sn_up {p q : Pr} (hP : In P n m) (h : Up p q) (hp : P p.1 p.2 = true) (hq : P q.1 q.2 = true) : Sn P n m q < Sn P n m p := by
  unfold Sn
  refine En_up (fl_up h (hP _ _ hq)) ?_
  rw [Rv_fl (hP _ _ hp)]
  exact hp
theorem Sn_pos {p : Pr} (h : p.1 < n ∧ p.2 < m) (h' : 0 < Sn P n m p) : P p.1 p.2 = true := by
  have := En_pos.mp h'
  rwa [Rv_fl h] at this
/-- the next pair is there -/
theorem Kp.there {s : Nat} {acc : List Pr} (hP : In P n m) (k : Kp P n m (s + 1) acc) : ∃ p, p.1 < n ∧ p.2 < m ∧ Sn P n m p = s + 1 ∧ okBehind acc p = true := by
  rcases List.eq_nil_or_concat acc with rfl | ⟨l', q, rfl⟩
  · have e : Mx (Rv P n m) n m = s + 1 := by
      rw [most_fl hP, ← k.len]
      simp
    obtain ⟨p, a, b, c, d⟩ := Mx_at (P := Rv P n m) (i := n) (j := m) (k := s) (by omega)
    refine ⟨fl n m p, (fl_in ⟨a, b⟩).1, (fl_in ⟨a, b⟩).2, ?_, rfl⟩
    unfold Sn
    rw [fl_fl ⟨a, b⟩]
    exact d
  · have k' := k
    rw [List.concat_eq_append] at k'
    have hq : P q.1 q.2 = true := k'.ch.like q (by simp)
    have eq_ := k'.last q (by rw [List.getLast?_append, List.getLast?_singleton]; rfl)
    obtain ⟨r, hl, c⟩ := Sn.ex (hP _ _ hq) eq_
    cases r with
    | nil => cases hl
    | cons p r =>
      have up : Up q p := (List.pairwise_cons.mp c.up).1 p (List.mem_cons_self ..)
      have hp : P p.1 p.2 = true := c.like p (by simp)
      have c' : Ch P (p :: r) := ⟨(List.pairwise_cons.mp c.up).2, fun x hx => c.like x (List.mem_cons_of_mem _ hx)⟩
      have h1 := Ch.ge (n := n) (m := m) hP c'
      have h2 := Sn_up hP up hq hp
      have h3 : r.length + 1 = s + 1 := hl
      refine ⟨p, (hP _ _ hp).1, (hP _ _ hp).2, by omega, ?_⟩
      unfold okBehind
      rw [List.concat_eq_append, List.getLast?_append, List.getLast?_singleton]
      show (decide (q.1 < p.1) && decide (q.2 < p.2)) = true
      rw [decide_eq_true up.1, decide_eq_true up.2]
      rfl
theorem Kp.step {s : Nat} {acc : List Pr} (hP : In P n m) (k : Kp P n m (s + 1) acc) : ∃ p, stepK P n m acc (s + 1) = acc ++ [p] ∧ ((grid n m).filter fun p => decide (Sn P n m p = s + 1)).find? (okBehind acc) = some p ∧ Kp P n m s (acc ++ [p]) := by
  obtain ⟨p0, a, b, c, d⟩ := k.there hP
  cases h : ((grid n m).filter fun p => decide (Sn P n m p = s + 1)).find? (okBehind acc) with
  | none =>
    have := List.find?_eq_none.mp h p0 (List.mem_filter.mpr ⟨mem_grid.mpr ⟨a, b⟩, decide_eq_true c⟩)
    exact absurd d this
  | some p =>
    have h1 := List.find?_some h
    have h2 := List.mem_filter.mp (List.mem_of_find?_eq_some h)
    have h3 := mem_grid.mp h2.1
    have h4 : Sn P n m p = s + 1 := of_decide_eq_true h2.2
    refine ⟨p, ?_, rfl, k.ch.snoc (Sn_pos h3 (by omega)) h1, ?_, fun q hq => ?_⟩
    · unfold stepK
      rw [h]
    · rw [List.length_append, List.length_singleton]
      have := k.len
      omega
    · rw [List.getLast?_append, List.getLast?_singleton] at hq
      have : p = q := Option.some.inj hq
      rw [← this]
      exact h4
theorem keptN_ok (hP : In P n m) : ∀ {s : Nat} {acc : List Pr}, Kp P n m s acc → Kp P n m 0 (keptN P n m s acc)
  | 0, acc, k => k
  | s + 1, acc, k => by
    obtain ⟨p, e, _, k'⟩ := k.step hP
    show Kp P n m 0 (keptN P n m s (stepK P n m acc (s + 1)))
    rw [e]
    exact keptN_ok hP k'
theorem Kp.start : Kp P n m (Mx P n m) [] := ⟨⟨.nil, fun p hp => by cases hp⟩, by simp, fun q hq => by cases hq⟩
theorem kept_ok (hP : In P n m) : Ch P (keptOf P n m) ∧ (keptOf P n m).length = Mx P n m := by
  have k := keptN_ok hP (Kp.start (P := P) (n := n) (m := m))
  exact ⟨k.ch, by have := k.len; unfold keptOf; omega⟩
/-- in a longest row the t-th ends rows of t + 1 -/
theorem Ch.ends {l : List Pr} (hP : In P n m) (c : Ch P l) (hl : l.length = Mx P n m) {t : Nat} {p : Pr} (h : l[t]? = some p) : En P p = t + 1 := by
  obtain ⟨ht, e⟩ := List.getElem?_eq_some_iff.mp h
  have hs : l = l.take t ++ p :: l.drop (t + 1) := by
    rw [← e, List.getElem_cons_drop, List.take_append_drop]
  have cp : P p.1 p.2 = true := c.like p (List.mem_of_getElem? h)
  have cu := c.up
  rw [hs] at cu
  obtain ⟨u1, u2, u3⟩ := List.pairwise_append.mp cu
  have lo : t + 1 ≤ En P p := by
    have := Ch.le (P := P) (r := (l.take t).reverse) (p := p) ⟨by
      rw [List.reverse_reverse]
      exact List.pairwise_append.mpr ⟨u1, List.pairwise_singleton .., fun x hx y hy => by
        obtain rfl := List.mem_singleton.mp hy
        exact u3 x hx y (List.mem_cons_self ..)⟩, fun x hx => by
      rw [List.reverse_reverse] at hx
      rcases List.mem_append.mp hx with hx | hx
      · exact c.like x (List.mem_of_mem_take hx)
      · obtain rfl := List.mem_singleton.mp hx
        exact cp⟩
    rw [List.length_reverse, List.length_take] at this
    omega
  obtain ⟨k, hk⟩ : ∃ k, En P p = k + 1 := ⟨En P p - 1, by omega⟩
  obtain ⟨r, hr, cr⟩ := Ch.ex hk
  have big : Ch P ((r.reverse ++ [p]) ++ l.drop (t + 1)) := by
    refine ⟨List.pairwise_append.mpr ⟨cr.up, (List.pairwise_cons.mp u2).2, fun x hx y hy => ?_⟩, fun x hx => ?_⟩
    · have py := (List.pairwise_cons.mp u2).1 y hy
      rcases List.mem_append.mp hx with hx | hx
      · exact Up.trans ((List.pairwise_append.mp cr.up).2.2 x hx p (by simp)) py
      · obtain rfl := List.mem_singleton.mp hx
        exact py
    · rcases List.mem_append.mp hx with hx | hx
      · exact cr.like x hx
      · exact c.like x (List.mem_of_mem_drop hx)
  have := big.most hP
  rw [List.length_append, List.length_append, List.length_reverse, List.length_singleton, List.length_drop] at this
  omega
end
end A1
set_option Elab.async false
set_option linter.all false
/-! The levels: how they are filled. -/
namespace A1
/-- the pairs that end rows of k + 1 -/
def lev (P : Nat → Nat → Bool) (n m k : Nat) : List Pr := (grid n m).filter fun p => decide (En P p = k + 1)
def levels (P : Nat → Nat → Bool) (n m : Nat) : List (List Pr) := (List.range (Mx P n m)).map (lev P n m)
theorem lev_sorted (P : Nat → Nat → Bool) (n m k : Nat) : (lev P n m k).Pairwise Lx := (grid_sorted n m).filter _
theorem mem_lev {P : Nat → Nat → Bool} {n m k : Nat} {p : Pr} : p ∈ lev P n m k ↔ (p.1 < n ∧ p.2 < m) ∧ En P p = k + 1 := by
  unfold lev
  rw [List.mem_filter, mem_grid, decide_eq_true_eq]
theorem nodup_of {l : List Pr} (h : l.Pairwise Lx) : l.Nodup := List.Pairwise.imp (fun {a b} (h : Lx a b) (e : a = b) => by subst e; exact h.irr) h
/-- rows without a pair twice, of the same pairs -/
theorem perm_of : ∀ {l m : List Pr}, l.Nodup → m.Nodup → (∀ p, p ∈ l ↔ p ∈ m) → l.Perm m := fun {l m} h1 h2 h => by
  rw [List.perm_iff_count]
  intro p
  rw [h1.count, h2.count]
  by_cases hp : p ∈ l
  · rw [if_pos hp, if_pos ((h p).mp hp)]
  · rw [if_neg hp, if_neg fun z => hp ((h p).mpr z)]
section
variable {P : Nat → Nat → Bool} {n m : Nat}
/-- the pairs seen: of the rows ahead, and of this one from b on -/
def Seen (P : Nat → Nat → Bool) (a b : Nat) (p : Pr) : Prop := P p.1 p.2 = true ∧ (p.1 < a ∨ (p.1 = a ∧ b ≤ p.2))
structure LvI (P : Nat → Nat → Bool) (a b : Nat) (ls : List (List Pr)) (le : List Nat) : Prop where
  len : le.length = ls.length
  mem : ∀ k l, ls[k]? = some l → l.Nodup ∧ ∀ p, p ∈ l ↔ Seen P a b p ∧ En P p = k + 1
  most : ∀ p, Seen P a b p → En P p ≤ ls.length
  least : ∀ k v, le[k]? = some v → (∃ i, Seen P a b (i, v) ∧ En P (i, v) = k + 1) ∧ ∀ p, Seen P a b p → En P p = k + 1 → v ≤ p.2
theorem LvI.start {b : Nat} (h : ∀ j, b ≤ j → P 0 j = false) : LvI P 0 b [] [] := by
  have no : ∀ p, ¬ Seen P 0 b p := fun p ⟨h1, h2⟩ => by
    rcases h2 with h2 | ⟨h2, h3⟩
    · cases h2
    · have := h p.2 h3
      rw [h2, this] at h1
      cases h1
  exact ⟨rfl, (fun k l e => by cases e), (fun p hp => absurd hp (no p)), (fun k v e => by cases e)⟩
variable {a b : Nat} {ls : List (List Pr)} {le : List Nat}
theorem LvI.lt_iff (I : LvI P a b ls le) {place : Nat} (hb : place < b) {k v : Nat} (h : le[k]? = some v) : v < place ↔ k < Mx P a place := by
  obtain ⟨⟨i, s, e⟩, l⟩ := I.least k v h
  constructor
  · intro hv
    have hi : i < a := by
      rcases s.2 with s | ⟨_, s⟩
      · exact s
      · have s' : b ≤ v := s
        omega
    have := En_le (P := P) (p := (i, v)) (i := a) (j := place) hi hv
    omega
  · intro hk
    obtain ⟨p, h1, h2, h3, h4⟩ := Mx_at hk
    have := l p ⟨h3, .inl h1⟩ h4
    omega
theorem LvI.le_len (I : LvI P a b ls le) {place : Nat} : Mx P a place ≤ ls.length := by
  by_cases h : 0 < Mx P a place
  · obtain ⟨p, h1, h2, h3, h4⟩ := Mx_at (P := P) (i := a) (j := place) (k := Mx P a place - 1) (by omega)
    have := I.most p ⟨h3, .inl h1⟩
    omega
  · omega
/-- the next row -/
theorem LvI.row (I : LvI P a b ls le) (h1 : ∀ j, j < b → P a j = false) {b' : Nat} (h2 : ∀ j, b' ≤ j → P (a + 1) j = false) : LvI P (a + 1) b' ls le := by
  have same : ∀ p, Seen P (a + 1) b' p ↔ Seen P a b p := fun p => by
    constructor
    · rintro ⟨x, y | ⟨y, z⟩⟩
      · refine ⟨x, ?_⟩
        by_cases q : p.1 < a
        · exact .inl q
        · have q' : p.1 = a := by omega
          refine .inr ⟨q', Nat.le_of_not_lt fun w => ?_⟩
          have := h1 p.2 w
          rw [q', this] at x
          cases x
      · have := h2 p.2 z
        rw [y, this] at x
        cases x
    · rintro ⟨x, y | ⟨y, z⟩⟩
      · exact ⟨x, .inl (by omega)⟩
      · exact ⟨x, .inl (by omega)⟩
  refine ⟨I.len, fun k l e => ?_, fun p hp => I.most p ((same p).mp hp), fun k v e => ?_⟩
  · obtain ⟨x, y⟩ := I.mem k l e
    exact ⟨x, fun p => by rw [same]; exact y p⟩
  · obtain ⟨⟨i, x, y⟩, z⟩ := I.least k v e
    exact ⟨⟨i, (same _).mpr x, y⟩, fun p hp => z p ((same p).mp hp)⟩
/-- a pair more -/
theorem LvI.pair (I : LvI P a b ls le) {c : Nat} (hc : c < b) (hP : P a c = true) (gap : ∀ j, c < j → j < b → P a j = false) :
    (Mx P a c = ls.length → LvI P a c (ls ++ [[(a, c)]]) (le ++ [c])) ∧
    (∀ l, ls[Mx P a c]? = some l → LvI P a c (ls.set (Mx P a c) (l ++ [(a, c)])) (le.set (Mx P a c) c)) := by
  have hE : En P (a, c) = Mx P a c + 1 := if_pos hP
  have sn : ∀ p, Seen P a c p ↔ Seen P a b p ∨ p = (a, c) := fun p => by
    constructor
    · rintro ⟨x, y | ⟨y, z⟩⟩
      · exact .inl ⟨x, .inl y⟩
      · by_cases q : b ≤ p.2
        · exact .inl ⟨x, .inr ⟨y, q⟩⟩
        · by_cases w : p.2 = c
          · exact .inr (Prod.ext y w)
          · have := gap p.2 (by omega) (by omega)
            rw [y, this] at x
            cases x
    · rintro (⟨x, y | ⟨y, z⟩⟩ | rfl)
      · exact ⟨x, .inl y⟩
      · exact ⟨x, .inr ⟨y, by omega⟩⟩
      · exact ⟨hP, .inr ⟨rfl, Nat.le_refl _⟩⟩
  have nS : ¬ Seen P a b (a, c) := fun ⟨_, y⟩ => by
    rcases y with y | ⟨_, y⟩
    · exact Nat.lt_irrefl _ y
    · have y' : b ≤ c := y
      omega
  have old : ∀ {k l}, ls[k]? = some l → k ≠ Mx P a c → l.Nodup ∧ ∀ p, p ∈ l ↔ Seen P a c p ∧ En P p = k + 1 := fun {k l} e ne => by
    obtain ⟨x, y⟩ := I.mem k l e
    refine ⟨x, fun p => ?_⟩
    rw [y p, sn p]
    constructor
    · rintro ⟨u, v⟩
      exact ⟨.inl u, v⟩
    · rintro ⟨u | rfl, v⟩
      · exact ⟨u, v⟩
      · omega
  have oldL : ∀ {k v}, le[k]? = some v → k ≠ Mx P a c → (∃ i, Seen P a c (i, v) ∧ En P (i, v) = k + 1) ∧ ∀ p, Seen P a c p → En P p = k + 1 → v ≤ p.2 := fun {k v} e ne => by
    obtain ⟨⟨i, x, y⟩, z⟩ := I.least k v e
    refine ⟨⟨i, (sn _).mpr (.inl x), y⟩, fun p hp he => ?_⟩
    rcases (sn p).mp hp with h | rfl
    · exact z p h he
    · omega
  constructor
  · intro full
    refine ⟨by rw [List.length_append, List.length_append, I.len]; rfl, fun k l e => ?_, fun p hp => ?_, fun k v e => ?_⟩
    · by_cases hk : k < ls.length
      · rw [List.getElem?_append_left hk] at e
        exact old e (by omega)
      · rw [List.getElem?_append_right (by omega)] at e
        have hk2 : k = ls.length := by
          by_cases h : k - ls.length = 0
          · omega
          · rw [List.getElem?_eq_none (by simp; omega)] at e
            cases e
        rw [hk2, Nat.sub_self] at e
        cases e
        refine ⟨List.pairwise_singleton .., fun p => ?_⟩
        rw [List.mem_singleton, sn p]
        constructor
        · rintro rfl
          exact ⟨.inr rfl, by omega⟩
        · rintro ⟨u | u, v⟩
          · have := I.most p u
            omega
          · exact u
    · rw [List.length_append, List.length_singleton]
      rcases (sn p).mp hp with h | rfl
      · have := I.most p h
        omega
      · omega
    · have il := I.len
      by_cases hk : k < le.length
      · rw [List.getElem?_append_left hk] at e
        exact oldL e (by omega)
      · rw [List.getElem?_append_right (by omega)] at e
        have hk2 : k = le.length := by
          by_cases h : k - le.length = 0
          · omega
          · rw [List.getElem?_eq_none (by simp; omega)] at e
            cases e
        rw [hk2, Nat.sub_self] at e
        cases e
        refine ⟨⟨a, (sn _).mpr (.inr rfl), by omega⟩, fun p hp he => ?_⟩
        rcases (sn p).mp hp with h | rfl
        · have := I.most p h
          omega
        · exact Nat.le_refl _
  · intro l hl
    have hlt := (List.getElem?_eq_some_iff.mp hl).1
    obtain ⟨lx, ly⟩ := I.mem _ l hl
    have il := I.len
    refine ⟨by rw [List.length_set, List.length_set, I.len], fun k l' e => ?_, fun p hp => ?_, fun k v e => ?_⟩
    · by_cases hk : k = Mx P a c
      · rw [hk, List.getElem?_set_self hlt] at e
        cases e
        rw [hk]
        refine ⟨List.nodup_append.mpr ⟨lx, List.pairwise_singleton .., fun x hx y hy z => ?_⟩, fun p => ?_⟩
        · obtain rfl := List.mem_singleton.mp hy
          rw [z] at hx
          exact nS ((ly _).mp hx).1
        · rw [List.mem_append, List.mem_singleton, ly p, sn p]
          constructor
          · rintro (⟨u, v⟩ | rfl)
            · exact ⟨.inl u, v⟩
            · exact ⟨.inr rfl, hE⟩
          · rintro ⟨u | u, v⟩
            · exact .inl ⟨u, v⟩
            · exact .inr u
      · rw [List.getElem?_set_ne (Ne.symm hk)] at e
        exact old e hk
    · rw [List.length_set]
      rcases (sn p).mp hp with h | rfl
      · exact I.most p h
      · omega
    · by_cases hk : k = Mx P a c
      · rw [hk, List.getElem?_set_self (by omega)] at e
        cases e
        rw [hk]
        refine ⟨⟨a, (sn _).mpr (.inr rfl), hE⟩, fun p hp he => ?_⟩
        rcases (sn p).mp hp with h | rfl
        · rcases h.2 with h2 | ⟨_, h3⟩
          · refine Nat.le_of_not_lt fun w => ?_
            have := En_le (P := P) (p := p) (i := a) (j := c) h2 w
            omega
          · omega
        · exact Nat.le_refl _
      · rw [List.getElem?_set_ne (Ne.symm hk)] at e
        exact oldL e hk
/-- at the end -/
theorem LvI.done (hI : In P n m) (I : LvI P n b ls le) (hb : ∀ j, b ≤ j → P n j = false) : ls.length = Mx P n m ∧ ∀ (k : Nat) (l : List Pr), ls[k]? = some l → l.Perm (lev P n m k) := by
  have all : ∀ p, Seen P n b p ↔ P p.1 p.2 = true := fun p => by
    constructor
    · exact fun h => h.1
    · exact fun h => ⟨h, .inl (hI _ _ h).1⟩
  have h1 : Mx P n m ≤ ls.length := I.le_len
  have h2 : ls.length ≤ Mx P n m := by
    by_cases h : 0 < ls.length
    · have hl : le[ls.length - 1]? = some (le[ls.length - 1]'(by have := I.len; omega)) := List.getElem?_eq_getElem _
      obtain ⟨⟨i, x, y⟩, _⟩ := I.least _ _ hl
      have z := hI _ _ x.1
      have := En_le (P := P) (i := n) (j := m) z.1 z.2
      omega
    · omega
  refine ⟨by omega, fun k l e => ?_⟩
  obtain ⟨x, y⟩ := I.mem k l e
  refine perm_of x (nodup_of (lev_sorted ..)) fun p => ?_
  rw [y p, all p, mem_lev]
  constructor
  · rintro ⟨u, v⟩
    exact ⟨hI _ _ u, v⟩
  · rintro ⟨u, v⟩
    exact ⟨En_pos.mp (by omega), v⟩
end
end A1
set_option Elab.async false
set_option linter.all false
/-! The places of a thing in a list, from the last to the first. -/
namespace A1
theorem Mx_le {P : Nat → Nat → Bool} : ∀ {i j : Nat}, Mx P i j ≤ i
  | 0, j => by rw [Mx_0]; exact Nat.le_refl _
  | i + 1, 0 => by rw [Mx_i0]; exact Nat.zero_le _
  | i + 1, j + 1 => by
    have h1 := Mx_le (P := P) (i := i) (j := j + 1)
    have h2 := Mx_le (P := P) (i := i + 1) (j := j)
    have h3 : En P (i, j) ≤ i + 1 := by
      have h4 := Mx_le (P := P) (i := i) (j := j)
      unfold En
      split
      · show Mx P i j + 1 ≤ i + 1
        omega
      · exact Nat.zero_le _
    rw [Mx_s]
    omega
termination_by i j => i + j
theorem grid_len (n m : Nat) : (grid n m).length = n * m := by
  unfold grid
  rw [List.length_flatMap]
  have : ((List.range n).map fun i => ((List.range m).map fun j => ((i, j) : Pr)).length) = (List.range n).map fun _ => m := List.map_congr_left fun i _ => by rw [List.length_map, List.length_range]
  rw [this, List.map_const', List.length_range, List.sum_replicate_nat]
theorem len_of {l g : List Pr} (h : l.Nodup) (hg : ∀ p ∈ l, p ∈ g) : l.length ≤ g.length := by
  induction l generalizing g with
  | nil => exact Nat.zero_le _
  | cons p l ih =>
    obtain ⟨h1, h2⟩ := List.nodup_cons.mp h
    have hp := hg p (List.mem_cons_self ..)
    have := ih (g := g.erase p) h2 fun x hx => by
      have ne : x ≠ p := fun z => h1 (z ▸ hx)
      exact (List.mem_erase_of_ne ne).mpr (hg x (List.mem_cons_of_mem _ hx))
    rw [List.length_erase_of_mem hp] at this
    have := List.length_pos_of_mem hp
    rw [List.length_cons]
    omega
section
variable {α : Type} [DecidableEq α]
/-- the places of t -/
def pos (t : α) (l : List α) : List Nat := (List.range l.length).filter fun i => decide (l[i]? = some t)
theorem mem_pos {t : α} {l : List α} {i : Nat} : i ∈ pos t l ↔ l[i]? = some t := by
  unfold pos
  rw [List.mem_filter, List.mem_range, decide_eq_true_eq]
  constructor
  · exact fun h => h.2
  · exact fun h => ⟨(List.getElem?_eq_some_iff.mp h).1, h⟩
theorem pos_up (t : α) (l : List α) : (pos t l).Pairwise (· < ·) := List.pairwise_lt_range.filter _
theorem pos_nil (t : α) : pos t [] = [] := rfl
theorem pos_snoc (t x : α) (l : List α) : pos t (l ++ [x]) = pos t l ++ (if x = t then [l.length] else []) := by
  unfold pos
  rw [List.length_append, List.length_singleton, List.range_succ, List.filter_append]
  congr 1
  · refine List.filter_congr fun i hi => ?_
    rw [List.getElem?_append_left (List.mem_range.mp hi)]
  · rw [List.filter_cons, List.filter_nil, List.getElem?_append_right (Nat.le_refl _), Nat.sub_self]
    by_cases h : x = t
    · rw [if_pos (by simp [h]), if_pos h]
    · rw [if_neg (by simp [h]), if_neg h]
theorem pos_len (t : α) (l : List α) : (pos t l).length ≤ l.length := by
  have := List.length_filter_le (fun i => decide (l[i]? = some t)) (List.range l.length)
  rw [List.length_range] at this
  exact this
/-- like things of two lists -/
def like (ts us : List α) (i j : Nat) : Bool := match ts[i]?, us[j]? with
  | some x, some y => decide (x = y)
  | _, _ => false
theorem like_iff {ts us : List α} {i j : Nat} : like ts us i j = true ↔ ∃ x, ts[i]? = some x ∧ us[j]? = some x := by
  unfold like
  cases h1 : ts[i]? with
  | none => simp
  | some x =>
    cases h2 : us[j]? with
    | none => simp
    | some y =>
      simp only [decide_eq_true_eq]
      constructor
      · rintro rfl
        exact ⟨x, rfl, rfl⟩
      · rintro ⟨z, e1, e2⟩
        cases e1
        cases e2
        rfl
theorem like_in (ts us : List α) : In (like ts us) ts.length us.length := fun i j h => by
  obtain ⟨x, h1, h2⟩ := like_iff.mp h
  exact ⟨(List.getElem?_eq_some_iff.mp h1).1, (List.getElem?_eq_some_iff.mp h2).1⟩
theorem like_pos {ts us : List α} {i : Nat} {t : α} (h : ts[i]? = some t) {j : Nat} : like ts us i j = true ↔ j ∈ pos t us := by
  rw [like_iff, mem_pos]
  constructor
  · rintro ⟨x, e1, e2⟩
    rw [h] at e1
    cases e1
    exact e2
  · exact fun e => ⟨t, h, e⟩
theorem like_rev (ts us : List α) : like ts.reverse us.reverse = Rv (like ts us) ts.length us.length := by
  funext i j
  rw [Bool.eq_iff_iff]
  unfold Rv
  rw [Bool.and_eq_true, decide_eq_true_eq, like_iff, like_iff]
  constructor
  · rintro ⟨x, h1, h2⟩
    have l1 := (List.getElem?_eq_some_iff.mp h1).1
    have l2 := (List.getElem?_eq_some_iff.mp h2).1
    rw [List.length_reverse] at l1 l2
    rw [List.getElem?_reverse l1] at h1
    rw [List.getElem?_reverse l2] at h2
    exact ⟨⟨l1, l2⟩, x, h1, h2⟩
  · rintro ⟨⟨l1, l2⟩, x, h1, h2⟩
    exact ⟨x, by rw [List.getElem?_reverse l1]; exact h1, by rw [List.getElem?_reverse l2]; exact h2⟩
/-- from where on the places have been seen, behind r of them from the last one on -/
def bnd (ps : List Nat) (m r : Nat) : Nat := if r = 0 then m else ps.getD (ps.length - r) 0
theorem up_at {ps : List Nat} (h : ps.Pairwise (· < ·)) {i j a b : Nat} (ha : ps[i]? = some a) (hb : ps[j]? = some b) : i < j ↔ a < b := by
  obtain ⟨h1, e1⟩ := List.getElem?_eq_some_iff.mp ha
  obtain ⟨h2, e2⟩ := List.getElem?_eq_some_iff.mp hb
  have q := List.pairwise_iff_getElem.mp h
  constructor
  · intro hij
    rw [← e1, ← e2]
    exact q i j h1 h2 hij
  · intro hab
    refine Nat.lt_of_not_le fun hji => ?_
    by_cases e : i = j
    · subst e
      rw [e1] at e2
      omega
    · have := q j i h2 h1 (by omega)
      omega
theorem bnd_succ {ps : List Nat} {m r c : Nat} (h : ps[ps.length - 1 - r]? = some c) (hr : r < ps.length) : bnd ps m (r + 1) = c := by
  unfold bnd
  rw [if_neg (by omega), show ps.length - (r + 1) = ps.length - 1 - r by omega]
  rw [List.getD_eq_getElem?_getD, h]
  rfl
section
variable {t : α} {us : List α} {r c : Nat}
theorem bnd_lt (hr : r < (pos t us).length) (hc : (pos t us)[(pos t us).length - 1 - r]? = some c) : c < bnd (pos t us) us.length r := by
  unfold bnd
  split
  · exact (List.getElem?_eq_some_iff.mp (mem_pos.mp (List.mem_of_getElem? hc))).1
  · rename_i h
    have hb : (pos t us)[(pos t us).length - r]? = some ((pos t us)[(pos t us).length - r]'(by omega)) := List.getElem?_eq_getElem _
    rw [List.getD_eq_getElem?_getD, hb]
    exact (up_at (pos_up t us) hc hb).mp (by omega)
theorem bnd_gap (hr : r < (pos t us).length) (hc : (pos t us)[(pos t us).length - 1 - r]? = some c) {j : Nat} (h1 : c < j) (h2 : j < bnd (pos t us) us.length r) : j ∉ pos t us := fun hj => by
  obtain ⟨i, hi⟩ := List.getElem?_of_mem hj
  have h3 := (up_at (pos_up t us) hc hi).mpr h1
  have hil := (List.getElem?_eq_some_iff.mp hi).1
  unfold bnd at h2
  split at h2
  · omega
  · rename_i h
    have hb : (pos t us)[(pos t us).length - r]? = some ((pos t us)[(pos t us).length - r]'(by omega)) := List.getElem?_eq_getElem _
    rw [List.getD_eq_getElem?_getD, hb] at h2
    have := (up_at (pos_up t us) hi hb).mpr h2
    omega
theorem bnd_end {j : Nat} (h : j < bnd (pos t us) us.length (pos t us).length) : j ∉ pos t us := fun hj => by
  obtain ⟨i, hi⟩ := List.getElem?_of_mem hj
  have hil := (List.getElem?_eq_some_iff.mp hi).1
  unfold bnd at h
  rw [if_neg (by omega), Nat.sub_self] at h
  have hb : (pos t us)[0]? = some ((pos t us)[0]'(by omega)) := List.getElem?_eq_getElem _
  rw [List.getD_eq_getElem?_getD, hb] at h
  have := (up_at (pos_up t us) hi hb).mpr h
  omega
end
end
end A1
set_option Elab.async false
set_option linter.all false
set_option maxRecDepth 100000
set_option maxHeartbeats 400000
/-! Heaps that keep, pairs in lists, sorted; the module's names. -/
namespace K1
open PySem PySem.Spec PyProof.Rows L2 A1

/-- H' keeps what H has, but for D -/
def Ke (D : Addr → Prop) (H H' : Hp) : Prop := ∀ b o, ¬ D b → H b = some o → H' b = some o
section
variable {D D' : Addr → Prop} {H H1 H2 : Hp}
theorem Ke.rfl' : Ke D H H := fun _ _ _ e => e
theorem Ke.trans (g : Ke D H H1) (g' : Ke D H1 H2) : Ke D H H2 := fun b o h e => g' b o h (g b o h e)
theorem Ke.mono (g : Ke D H H1) (h : ∀ b, D b → D' b) : Ke D' H H1 := fun b o n e => g b o (fun z => n (h b z)) e
theorem Ke.up (g : Ke D0 H H1) : Ke D H H1 := g.mono fun _ z => z.elim
theorem Ke.new {p : Addr} {o : HO} (g : Ke D H H1) (h : H1 p = none) : Ke D H (upd H1 p o) := fun b u n e => by
  have e1 := g b u n e
  rw [upd_ne (ne_of_none e1 h)]
  exact e1
theorem Ke.put {p : Addr} {o : HO} (g : Ke D H H1) (n : H p = none) : Ke D H (upd H1 p o) := fun b u h e => by
  rw [upd_ne (ne_of_none e n)]
  exact g b u h e
theorem Ke.set {p : Addr} {o : HO} (g : Ke D H H1) (d : D p) : Ke D H (upd H1 p o) := fun b u h e => by
  rw [upd_ne (fun z => h (by rw [z]; exact d))]
  exact g b u h e
theorem Ke.free {b : Addr} (g : Ke D H H1) (d : ¬ D b) (h : H1 b = none) : H b = none := by
  cases q : H b with
  | none => rfl
  | some o =>
    rw [g b o d q] at h
    cases h
theorem Ke.drop {p : Addr} (g : Ke (· = p) H H1) (n : H p = none) : Ke D0 H H1 := fun b u _ e => g b u (ne_of_none e n) e
theorem Ke.seqT {K : PySem.W.Frag} {a : Addr} {xs : List V} (g : Ke D H H1) (d : ∀ o, H a = some o → ¬ D a) (h : SqT K H a xs) : SqT K H1 a xs := by
  rcases h with (h | ⟨o, h⟩) | h
  · exact .inl (.inl (g a _ (d _ h) h))
  · exact .inl (.inr ⟨o, g a _ (d _ h) h⟩)
  · exact .inr h
theorem Ke.seqL {K : PySem.W.Frag} {a : Addr} {xs : List V} (g : Ke D H H1) (d : ∀ o, H a = some o → ¬ D a) (h : SqL K H a xs) : SqL K H1 a xs := by
  rcases h with (h | ⟨o, h⟩) | h
  · exact .inl (.inl (g a _ (d _ h) h))
  · exact .inl (.inr ⟨o, g a _ (d _ h) h⟩)
  · exact .inr h
theorem Ke.seqL0 {K : PySem.W.Frag} {a : Addr} {xs : List V} (g : Ke D0 H H1) (h : SqL K H a xs) : SqL K H1 a xs := g.seqL (fun _ _ z => z) h
theorem Ke.seqT0 {K : PySem.W.Frag} {a : Addr} {xs : List V} (g : Ke D0 H H1) (h : SqT K H a xs) : SqT K H1 a xs := g.seqT (fun _ _ z => z) h
end
theorem sL {n : Nat} (h : n ≤ 10000) : n < sizeLine := Nat.lt_of_le_of_lt h (by decide)
theorem sLe {n : Nat} (h : n ≤ 10000) : n ≤ sizeLine := Nat.le_of_lt (sL h)
theorem iteFe {b : Bool} {A B : Prop} (h : b = false) (q : B) : if b = true then A else B := by
  rw [h, if_neg Bool.false_ne_true]
  exact q
theorem iteTe {b : Bool} {A B : Prop} (h : b = true) (q : A) : if b = true then A else B := by
  rw [h, if_pos rfl]
  exact q
theorem tw {A G : Hp → Prop} {P : Prop} (h : ∀ H2, A H2 → G H2) (use : (∀ H2, A H2 → G H2) → P) : P := use h
theorem tw2 {A G : Addr → Hp → Prop} {P : Prop} (h : ∀ z H2, A z H2 → G z H2) (use : (∀ z H2, A z H2 → G z H2) → P) : P := use h

/-! ### pairs -/
def PrAt (H : Hp) (x : V) (p : Pr) : Prop := ∃ t, x = .ref t ∧ H t = some (.tup [.int (p.1 : Nat), .int (p.2 : Nat)])
abbrev PrL (H : Hp) (xs : List V) (ps : List Pr) : Prop := Paired (PrAt H) xs ps
section
variable {H H1 : Hp} {xs : List V} {ps : List Pr} {D : Addr → Prop}
theorem PrAt.ke {x : V} {p : Pr} (h : PrAt H x p) (g : Ke D H H1) (d : ∀ t, x = .ref t → ¬ D t) : PrAt H1 x p := by
  obtain ⟨t, rfl, e⟩ := h
  exact ⟨t, rfl, g t _ (d t rfl) e⟩
theorem PrAt.ke0 {x : V} {p : Pr} (h : PrAt H x p) (g : Ke D0 H H1) : PrAt H1 x p := h.ke g fun _ _ z => z
theorem PrL.ke0 (h : PrL H xs ps) (g : Ke D0 H H1) : PrL H1 xs ps := Paired.mono (fun _ _ q => PrAt.ke0 q g) h
theorem pr_get : ∀ {xs : List V} {ps : List Pr}, PrL H xs ps → ∀ {i : Nat} {x : V}, xs[i]? = some x → ∃ p, ps[i]? = some p ∧ PrAt H x p
  | _, _, .nil, i, x, h => by cases h
  | _, _, .cons r t, 0, x, h => by cases h; exact ⟨_, rfl, r⟩
  | _, _, .cons r t, i + 1, x, h => pr_get t (i := i) h
theorem pr_get' : ∀ {xs : List V} {ps : List Pr}, PrL H xs ps → ∀ {i : Nat} {p : Pr}, ps[i]? = some p → ∃ x, xs[i]? = some x ∧ PrAt H x p
  | _, _, .nil, i, x, h => by cases h
  | _, _, .cons r t, 0, x, h => by cases h; exact ⟨_, rfl, r⟩
  | _, _, .cons r t, i + 1, x, h => pr_get' t (i := i) h
theorem pr_mem : ∀ {xs : List V} {ps : List Pr}, PrL H xs ps → ∀ {x : V}, x ∈ xs → ∃ p ∈ ps, PrAt H x p
  | _, _, .cons r t, x, h => by
    rcases List.mem_cons.mp h with rfl | h
    · exact ⟨_, List.mem_cons_self .., r⟩
    · obtain ⟨p, m, q⟩ := pr_mem t h
      exact ⟨p, List.mem_cons_of_mem _ m, q⟩
theorem PrL.app : ∀ {xs : List V} {ps : List Pr}, PrL H xs ps → ∀ {ys : List V} {qs : List Pr}, PrL H ys qs → PrL H (xs ++ ys) (ps ++ qs)
  | _, _, .nil, _, _, h => h
  | _, _, .cons r t, _, _, h => .cons r (PrL.app t h)
theorem PrL.one {x : V} {p : Pr} (h : PrAt H x p) : PrL H [x] [p] := .cons h .nil
/-- the pair that stands at a value -/
def kI (H : Hp) : V → Int × Int
  | .ref t => match H t with
    | some (.tup [.int i, .int j]) => (i, j)
    | _ => (0, 0)
  | _ => (0, 0)
def kN (H : Hp) (v : V) : Pr := ((kI H v).1.toNat, (kI H v).2.toNat)
theorem kI_at {x : V} {p : Pr} (h : PrAt H x p) : kI H x = (((p.1 : Nat) : Int), ((p.2 : Nat) : Int)) := by
  obtain ⟨t, rfl, e⟩ := h
  show (match H t with | some (.tup [.int i, .int j]) => (i, j) | _ => (0, 0)) = _
  rw [e]
theorem kN_at {x : V} {p : Pr} (h : PrAt H x p) : kN H x = p := by
  unfold kN
  rw [kI_at h]
  exact Prod.ext (Int.toNat_natCast _) (Int.toNat_natCast _)
theorem kN_list : ∀ {xs : List V} {ps : List Pr}, PrL H xs ps → xs.map (kN H) = ps
  | _, _, .nil => rfl
  | _, _, .cons r t => by rw [List.map_cons, kN_at r, kN_list t]
theorem prl_of : ∀ {xs : List V}, (∀ x ∈ xs, ∃ p, PrAt H x p) → PrL H xs (xs.map (kN H))
  | [], _ => .nil
  | x :: xs, h => by
    obtain ⟨p, hp⟩ := h x (List.mem_cons_self ..)
    rw [List.map_cons, kN_at hp]
    exact .cons hp (prl_of fun y hy => h y (List.mem_cons_of_mem _ hy))
end
/-- sorted(xs), xs a list of pairs -/
def rSortN (K : PySem.W.Frag) : List V → Hp → VK → Prop := fun vs H Q => ∃ (a : Addr) (xs : List V) (ps : List Pr), vs = [V.ref a] ∧ SqL K H a xs ∧ PrL H xs ps ∧
  ∀ ys qs p, qs.Perm ps → qs.Pairwise (fun p q => ¬ Lx q p) → PrL H ys qs → H p = none → Q (.ref p) (upd H p (.lst ys))
section
variable {X : Cx}
theorem cr_sortN : CallR X (.builtin "sorted") (rSortN X.K) := by
  intro pins s σ H vs us Q I r h
  obtain ⟨a, xs, ps, rfl, hs, hp, q⟩ := h
  refine cr_sortedPO pins s σ H _ us Q I r ⟨a, xs, kI H, rfl, hs, fun x hx => ?_, fun ys p so st hn => ?_⟩
  · obtain ⟨p, _, hx'⟩ := pr_mem hp hx
    obtain ⟨t, e, ht⟩ := id hx'
    refine ⟨t, e, ?_⟩
    rw [kI_at hx']
    exact ht
  · have pm := st.perm
    have hy : ∀ y ∈ ys, ∃ p, PrAt H y p := fun y hy => by
      obtain ⟨p, _, h⟩ := pr_mem hp (pm.mem_iff.mp hy)
      exact ⟨p, h⟩
    refine q ys (ys.map (kN H)) p ?_ ?_ (prl_of hy) hn
    · rw [← kN_list hp]
      exact pm.map _
    · rw [List.pairwise_map]
      refine List.Pairwise.imp_of_mem (fun {x y} hx hy' hlt hL => ?_) so
      obtain ⟨p1, h1⟩ := hy x hx
      obtain ⟨p2, h2⟩ := hy y hy'
      rw [kN_at h1, kN_at h2] at hL
      have z := SrtO.lexB_no.mp hlt
      rw [kI_at h1, kI_at h2] at z
      refine z ?_
      rcases hL with h | ⟨h, h'⟩
      · exact .inl (by show ((p2.1 : Nat) : Int) < ((p1.1 : Nat) : Int); omega)
      · exact .inr ⟨by show ((p2.1 : Nat) : Int) = ((p1.1 : Nat) : Int); omega, by show ((p2.2 : Nat) : Int) < ((p1.2 : Nat) : Int); omega⟩
end

/-- the module's names -/
structure Mg (mg : Str → Option Value) : Prop where
  ins : mg "isinstance" = none
  int_ : mg "int" = none
  bool_ : mg "bool" = none
  tuple_ : mg "tuple" = none
  list_ : mg "list" = none
  len_ : mg "len" = none
  all_ : mg "all" = none
  range_ : mg "range" = none
  enum_ : mg "enumerate" = none
  sorted_ : mg "sorted" = none
  max_ : mg "max" = none
  min_ : mg "min" = none
  zip_ : mg "zip" = none
  rev_ : mg "reversed" = none
end K1
set_option Elab.async false
set_option linter.all false
set_option maxRecDepth 100000
set_option maxHeartbeats 400000
/-! The dict of places. -/
namespace K1
open PySem PySem.Spec PyProof.Rows L2 A1
abbrev intsV (l : List Nat) : List V := l.map fun i => V.int (i : Nat)
structure PlI (H0 H : Hp) (kvs : List (Key × V)) (l : List Str) : Prop where
  no : ∀ t, valV kvs (.inr t) = none → pos t l = []
  at_ : ∀ t v, valV kvs (.inr t) = some v → ∃ a, v = .ref a ∧ H0 a = none ∧ H a = some (.lst (intsV (pos t l)))
  inj : ∀ t t' v, valV kvs (.inr t) = some v → valV kvs (.inr t') = some v → t = t'
section
variable {H0 H : Hp} {kvs : List (Key × V)} {l : List Str}
theorem PlI.start : PlI H0 H [] [] := ⟨fun t _ => rfl, (fun t v e => by cases e), (fun t t' v e => by cases e)⟩
theorem PlI.ke {H1 : Hp} (I : PlI H0 H kvs l) (g : Ke D0 H H1) : PlI H0 H1 kvs l := ⟨I.no, fun t v e => by
  obtain ⟨a, h1, h2, h3⟩ := I.at_ t v e
  exact ⟨a, h1, h2, g a _ (fun z => z) h3⟩, I.inj⟩
/-- the dict itself is stored to -/
theorem PlI.setD {d : Addr} {k0 k1 : List (Key × V)} (I : PlI H0 H kvs l) (e : H d = some (.dK k0)) : PlI H0 (upd H d (.dK k1)) kvs l := ⟨I.no, fun t v ev => by
  obtain ⟨a, h1, h2, h3⟩ := I.at_ t v ev
  refine ⟨a, h1, h2, ?_⟩
  rw [upd_ne (fun z => by rw [z, e] at h3; cases h3)]
  exact h3, I.inj⟩
theorem PlI.fresh {t : Str} {L : Addr} (I : PlI H0 H kvs l) (hn : valV kvs (.inr t) = none) (hL : H L = some (.lst [])) (h0 : H0 L = none) (nw : ∀ t' a, valV kvs (.inr t') = some (.ref a) → a ≠ L) : PlI H0 H (putK kvs (.inr t) (.ref L)) l := by
  refine ⟨fun t' e => ?_, fun t' v e => ?_, fun t1 t2 v e1 e2 => ?_⟩
  · rw [valV_put] at e
    split at e
    · cases e
    · exact I.no t' e
  · rw [valV_put] at e
    split at e
    · rename_i z
      cases e
      cases z
      refine ⟨L, rfl, h0, ?_⟩
      rw [I.no t hn]
      exact hL
    · exact I.at_ t' v e
  · rw [valV_put] at e1 e2
    split at e1 <;> split at e2
    · rename_i z1 z2
      cases z1
      cases z2
      rfl
    · cases e1
      exact absurd rfl (nw t2 L e2)
    · cases e2
      exact absurd rfl (nw t1 L e1)
    · exact I.inj t1 t2 v e1 e2
theorem PlI.app {t : Str} {a : Addr} (I : PlI H0 H kvs l) (e : valV kvs (.inr t) = some (.ref a)) : PlI H0 (upd H a (.lst (intsV (pos t l) ++ [V.int (l.length : Nat)]))) kvs (l ++ [t]) := by
  refine ⟨fun t' e' => ?_, fun t' v e' => ?_, I.inj⟩
  · have ne : ¬ t = t' := fun z => by
      rw [z, e'] at e
      cases e
    rw [pos_snoc, if_neg ne, List.append_nil]
    exact I.no t' e'
  · obtain ⟨b, h1, h2, h3⟩ := I.at_ t' v e'
    subst h1
    by_cases z : t = t'
    · subst z
      rw [e] at e'
      cases e'
      refine ⟨a, rfl, h2, ?_⟩
      rw [upd_same, pos_snoc, if_pos rfl]
      show some (HO.lst _) = some (.lst (intsV (pos t l ++ [l.length])))
      unfold intsV
      rw [List.map_append]
      rfl
    · refine ⟨b, rfl, h2, ?_⟩
      have ne : b ≠ a := fun w => by
        rw [w] at e'
        exact z (I.inj t t' _ e e')
      rw [upd_ne ne, pos_snoc, if_neg z, List.append_nil]
      exact h3
end
end K1
set_option Elab.async false
set_option linter.all false
set_option maxRecDepth 100000
set_option maxHeartbeats 400000
/-! Lists of lists of pairs that are being filled. -/
namespace K1
open PySem PySem.Spec PyProof.Rows L2 A1
/-- len of a list or a tuple -/
def rLen (K : PySem.W.Frag) : List V → Hp → VK → Prop := fun xs H Q => ∃ p ys, xs = [V.ref p] ∧ (SqL K H p ys ∨ SqT K H p ys) ∧ Q (.int ys.length) H
/-- item by item -/
def Ix {α β : Type} (F : α → β → Prop) (as : List α) (ls : List β) : Prop := as.length = ls.length ∧ ∀ (k : Nat) (a : α) (l : β), as[k]? = some a → ls[k]? = some l → F a l
theorem Ix.mono {α β : Type} {F G : α → β → Prop} {as : List α} {ls : List β} (h : Ix F as ls) (q : ∀ a l, F a l → G a l) : Ix G as ls := ⟨h.1, fun k a l e1 e2 => q a l (h.2 k a l e1 e2)⟩
theorem Ix.get {α β : Type} {F : α → β → Prop} {as : List α} {ls : List β} (h : Ix F as ls) {k : Nat} {a : α} (e : as[k]? = some a) : ∃ l, ls[k]? = some l ∧ F a l := by
  have hk := (List.getElem?_eq_some_iff.mp e).1
  have e2 : ls[k]? = some (ls[k]'(by have := h.1; omega)) := List.getElem?_eq_getElem _
  exact ⟨_, e2, h.2 k a _ e e2⟩
theorem Ix.get' {α β : Type} {F : α → β → Prop} {as : List α} {ls : List β} (h : Ix F as ls) {k : Nat} {l : β} (e : ls[k]? = some l) : ∃ a, as[k]? = some a ∧ F a l := by
  have hk := (List.getElem?_eq_some_iff.mp e).1
  have e2 : as[k]? = some (as[k]'(by have := h.1; omega)) := List.getElem?_eq_getElem _
  exact ⟨_, e2, h.2 k _ l e2 e⟩
theorem at_end {α : Type} {l : List α} {x y : α} {k : Nat} (h : (l ++ [x])[k]? = some y) : (k < l.length ∧ l[k]? = some y) ∨ (k = l.length ∧ x = y) := by
  by_cases hk : k < l.length
  · rw [List.getElem?_append_left hk] at h
    exact .inl ⟨hk, h⟩
  · have hl := (List.getElem?_eq_some_iff.mp h).1
    rw [List.length_append, List.length_singleton] at hl
    have e : k = l.length := by omega
    subst e
    rw [List.getElem?_append_right (Nat.le_refl _), Nat.sub_self] at h
    exact .inr ⟨rfl, Option.some.inj h⟩
theorem Ix.snoc {α β : Type} {F : α → β → Prop} {as : List α} {ls : List β} {a : α} {l : β} (h : Ix F as ls) (q : F a l) : Ix F (as ++ [a]) (ls ++ [l]) := by
  refine ⟨by rw [List.length_append, List.length_append, h.1]; rfl, fun k b m e1 e2 => ?_⟩
  rcases at_end e1 with ⟨h1, e1⟩ | ⟨h1, rfl⟩
  · rcases at_end e2 with ⟨h2, e2⟩ | ⟨h2, rfl⟩
    · exact h.2 k b m e1 e2
    · have := h.1
      omega
  · rcases at_end e2 with ⟨h2, e2⟩ | ⟨h2, rfl⟩
    · have := h.1
      omega
    · exact q
def PrLs (H : Hp) (a : Addr) (l : List Pr) : Prop := ∃ xs, H a = some (.lst xs) ∧ PrL H xs l
/-- a new list at L of new lists of pairs -/
def Lvs (H0 H : Hp) (L : Addr) (lss : List (List Pr)) : Prop := ∃ as : List Addr, H L = some (.lst (as.map V.ref)) ∧ H0 L = none ∧ (∀ a ∈ as, H0 a = none ∧ a ≠ L) ∧ Ix (PrLs H) as lss
theorem PrLs.ke0 {H H1 : Hp} {a : Addr} {l : List Pr} (h : PrLs H a l) (g : Ke D0 H H1) : PrLs H1 a l := by
  obtain ⟨xs, e, p⟩ := h
  exact ⟨xs, g a _ (fun z => z) e, p.ke0 g⟩
theorem Lvs.ke0 {H0 H H1 : Hp} {L : Addr} {lss : List (List Pr)} (h : Lvs H0 H L lss) (g : Ke D0 H H1) : Lvs H0 H1 L lss := by
  obtain ⟨as, e, n, na, p⟩ := h
  exact ⟨as, g L _ (fun z => z) e, n, na, p.mono fun _ _ q => q.ke0 g⟩
/-- pairs stand where a list is stored to -/
theorem PrL.updL {H : Hp} {a : Addr} {ys : List V} {o : HO} {xs : List V} {ps : List Pr} (h : PrL H xs ps) (e : H a = some (.lst ys)) : PrL (upd H a o) xs ps :=
  Paired.mono (fun _ _ ⟨t, e1, e2⟩ => ⟨t, e1, by rw [upd_ne (fun z => by rw [z, e] at e2; cases e2)]; exact e2⟩) h
theorem PrLs.updL {H : Hp} {a c : Addr} {ys : List V} {o : HO} {l : List Pr} (h : PrLs H c l) (e : H a = some (.lst ys)) (ne : c ≠ a) : PrLs (upd H a o) c l := by
  obtain ⟨xs, e1, p⟩ := h
  exact ⟨xs, (upd_ne ne).trans e1, p.updL e⟩
/-- the levels while they are filled: at A the lists as of the pairs ls, at B the least places le -/
structure St2 (H5 H : Hp) (A B : Addr) (as : List Addr) (ls : List (List Pr)) (le : List Nat) : Prop where
  ke : Ke D0 H5 H
  nA : H5 A = none
  nB : H5 B = none
  ab : A ≠ B
  a : H A = some (.lst (as.map V.ref))
  b : H B = some (.lst (intsV le))
  new : ∀ c ∈ as, H5 c = none ∧ c ≠ A ∧ c ≠ B
  one : ∀ (j k : Nat) (c : Addr), as[j]? = some c → as[k]? = some c → j = k
  ix : Ix (PrLs H) as ls
section
variable {H5 H : Hp} {A B : Addr} {as : List Addr} {ls : List (List Pr)} {le : List Nat}
theorem St2.k (S : St2 H5 H A B as ls le) {H' : Hp} (g : Ke D0 H H') : St2 H5 H' A B as ls le :=
  ⟨S.ke.trans g, S.nA, S.nB, S.ab, g _ _ (fun z => z) S.a, g _ _ (fun z => z) S.b, S.new, S.one, S.ix.mono fun _ _ q => q.ke0 g⟩
theorem St2.more {C : Addr} (S : St2 H5 H A B as ls le) (hC : H C = some (.lst [])) (nC : H5 C = none) (nx : ∀ c ∈ as, c ≠ C) (hA : C ≠ A) (hB : C ≠ B) :
    St2 H5 (upd H A (.lst (as.map V.ref ++ [.ref C]))) A B (as ++ [C]) (ls ++ [[]]) le := by
  refine ⟨S.ke.put S.nA, S.nA, S.nB, S.ab, ?_, (upd_ne S.ab.symm).trans S.b, fun c hc => ?_, fun j k c e1 e2 => ?_, ?_⟩
  · rw [upd_same, List.map_append]
    rfl
  · rcases List.mem_append.mp hc with hc | hc
    · exact S.new c hc
    · obtain rfl := List.mem_singleton.mp hc
      exact ⟨nC, hA, hB⟩
  · rcases at_end e1 with ⟨h1, e1⟩ | ⟨h1, z1⟩
    · rcases at_end e2 with ⟨h2, e2⟩ | ⟨h2, z2⟩
      · exact S.one j k c e1 e2
      · exact absurd z2.symm (nx c (List.mem_of_getElem? e1))
    · rcases at_end e2 with ⟨h2, e2⟩ | ⟨h2, z2⟩
      · exact absurd z1.symm (nx c (List.mem_of_getElem? e2))
      · omega
  · refine Ix.snoc ?_ ⟨[], (upd_ne hA).trans hC, .nil⟩
    exact ⟨S.ix.1, fun k c l e1 e2 => (S.ix.2 k c l e1 e2).updL S.a (S.new c (List.mem_of_getElem? e1)).2.1⟩
theorem St2.least {v : Nat} (S : St2 H5 H A B as ls le) : St2 H5 (upd H B (.lst (intsV le ++ [V.int (v : Nat)]))) A B as ls (le ++ [v]) := by
  refine ⟨S.ke.put S.nB, S.nA, S.nB, S.ab, (upd_ne S.ab).trans S.a, ?_, S.new, S.one, S.ix.1, fun k c l e1 e2 => (S.ix.2 k c l e1 e2).updL S.b (S.new c (List.mem_of_getElem? e1)).2.2⟩
  rw [upd_same]
  unfold intsV
  rw [List.map_append]
  rfl
theorem St2.set {v k : Nat} (S : St2 H5 H A B as ls le) : St2 H5 (upd H B (.lst ((intsV le).set k (V.int (v : Nat))))) A B as ls (le.set k v) := by
  refine ⟨S.ke.put S.nB, S.nA, S.nB, S.ab, (upd_ne S.ab).trans S.a, ?_, S.new, S.one, S.ix.1, fun k c l e1 e2 => (S.ix.2 k c l e1 e2).updL S.b (S.new c (List.mem_of_getElem? e1)).2.2⟩
  rw [upd_same]
  unfold intsV
  rw [List.map_set]
theorem St2.inner {C : Addr} {k : Nat} {xs : List V} {l : List Pr} {t : Addr} {p : Pr} (S : St2 H5 H A B as ls le) (e : as[k]? = some C) (el : ls[k]? = some l) (hC : H C = some (.lst xs)) (hp : PrL H xs l) (ht : PrAt H (.ref t) p) :
    St2 H5 (upd H C (.lst (xs ++ [.ref t]))) A B as (ls.set k (l ++ [p])) le := by
  obtain ⟨n0, nA, nB⟩ := S.new C (List.mem_of_getElem? e)
  refine ⟨S.ke.put n0, S.nA, S.nB, S.ab, (upd_ne nA.symm).trans S.a, (upd_ne nB.symm).trans S.b, S.new, S.one, by rw [List.length_set]; exact S.ix.1, fun j c l' e1 e2 => ?_⟩
  have hk := (List.getElem?_eq_some_iff.mp el).1
  by_cases z : j = k
  · subst z
    rw [List.getElem?_set_self hk] at e2
    cases e2
    rw [e] at e1
    cases e1
    exact ⟨_, upd_same, PrL.app (hp.updL hC) (.one (by
      obtain ⟨t', e3, e4⟩ := ht
      exact ⟨t', e3, (upd_ne (fun z => by rw [z, hC] at e4; cases e4)).trans e4⟩))⟩
  · rw [List.getElem?_set_ne (Ne.symm z)] at e2
    exact (S.ix.2 j c l' e1 e2).updL hC fun w => z (S.one j k C (w ▸ e1) e)
end
end K1
set_option Elab.async false
set_option linter.all false
set_option maxRecDepth 100000
set_option maxHeartbeats 1600000
/-! The program's def _levels. -/
namespace K1
open PySem PySem.Spec PyProof.Rows L2 A1
section
variable {P : Program} {w : World} {K : PySem.W.Frag} {mg : Str → Option Value} {base : Heap}
def spLevels (K : PySem.W.Frag) : Sp := fun vs H Q _ => ∃ (a b : Addr) (ts us : List Str), vs = [.ref a, .ref b] ∧ SqL K H a (ts.map V.str) ∧ SqL K H b (us.map V.str) ∧ ts.length ≤ 100 ∧ us.length ≤ 100 ∧
  ∀ H' L, Ke D0 H H' → Lvs H H' L (levels (like ts us) ts.length us.length) → Q (.ref L) H'
theorem ok_levels {f : Addr} {fd : FuncData} {k : Nat} (F : Fun K "_levels" "_levels" sLevels f fd) (M : Mg mg) : FnOk P w K mg base CX0 (k + 1) f fd ["rows", "others"] (spLevels K) := by
  refine F.ok scLevels (fun vs H Q E h => ?_) (fun cdv A outer s H vs Q E hr h => ?_)
  · obtain ⟨a, b, ts, us, rfl, _⟩ := h
    rfl
  · obtain ⟨a, b, ts, us, rfl, Sa, Sb, lt, lu, q⟩ := h
    refine ⟨_, (pss_cons (ps_set (i := 2) scLevels.nd rfl (.inl rfl) pe_dnewK)
      (pss_cons (ps_for PassesOwn.never rfl (pi_enum (by rfl) M.enum_ (pa_cons (pv 1) pa_nil)) (pg_tup rfl (pgs_cons (pg_name (i := 3) scLevels.nd rfl (.inl rfl)) (pgs_cons (pg_name (i := 4) scLevels.nd rfl (.inl rfl)) pgs_nil)))
      (pss_one (ps_expr (pe_bm PySem.F.plainAttrs_list PySem.F.slot_list_append PySem.F.type_list_append mt_append (pe_dsetd (pv 2) (pv 4) (pe_lst pa_nil) ⟨by rfl, by rfl, by rfl, by rfl⟩) (pa_cons (pv 3) pa_nil)))))
      (pss_cons (ps_set (i := 5) scLevels.nd rfl (.inl rfl) (pe_lst pa_nil))
      (pss_cons (ps_set (i := 6) scLevels.nd rfl (.inl rfl) (pe_lst pa_nil))
      (pss_cons (ps_for PassesOwn.never rfl (pi_enum (by rfl) M.enum_ (pa_cons (pv 0) pa_nil)) (pg_tup rfl (pgs_cons (pg_name (i := 7) scLevels.nd rfl (.inl rfl)) (pgs_cons (pg_name (i := 4) scLevels.nd rfl (.inl rfl)) pgs_nil)))
      (pss_cons (ps_set (i := 8) scLevels.nd rfl (.inl rfl) (pe_callB call_len_seq (by rfl) M.len_ PySem.boot_len (pa_cons (pv 5) pa_nil)))
      (pss_one (ps_for PassesOwn.never rfl (pi_reversed (by rfl) M.rev_ (pa_cons (pe_dget2 (hu_of hr) (pv 2) (pv 4) (pe_lst pa_nil) ⟨by rfl, by rfl, by rfl, by rfl⟩) pa_nil)) (pg_name (i := 3) scLevels.nd rfl (.inl rfl))
      (pss_cons (ps_while PassesOwn.never (PW.pt (pw_and (pt_cmpR op_gt (pv 8) pe_int (nomark _)) (pw_and1 (pt_cmpR op_ge (pe_ix ix_list (pv 6) (pe_op op_sub (pv 8) pe_int) (fun _ _ => rfl)) (pv 3) (nomark _))))) (pss_one (ps_aug (i := 8) scLevels.nd rfl (.inl rfl) pe_int ip_sub)))
      (pss_cons (ps_if (pt_cmpR op_eq (pv 8) (pe_callB call_len_seq (by rfl) M.len_ PySem.boot_len (pa_cons (pv 5) pa_nil)) (nomark _))
      (pss_cons (ps_expr (pe_bm PySem.F.plainAttrs_list PySem.F.slot_list_append PySem.F.type_list_append mt_append (pv 5) (pa_cons (pe_lst pa_nil) pa_nil)))
      (pss_one (ps_expr (pe_bm PySem.F.plainAttrs_list PySem.F.slot_list_append PySem.F.type_list_append mt_append (pv 6) (pa_cons (pv 3) pa_nil)))))
      pss_nil)
      (pss_cons (ps_expr (pe_bm PySem.F.plainAttrs_list PySem.F.slot_list_append PySem.F.type_list_append mt_append (pe_ix ix_list (pv 5) (pv 8) (fun _ _ => rfl)) (pa_cons (pe_tup (pa_cons (pv 7) (pa_cons (pv 3) pa_nil))) pa_nil)))
      (pss_one (ps_asg (pv 3) (pg_sub (pv 6) (pv 8) set_list))))))))))
      (pss_one (ps_ret (pe_lc (own := [("level", 8)]) (g := gName 8) (tt := tYes) rfl scLevels.nd (pi_list (pv 5)) (blkOk_by (N := ["rows", "others", "places", "place", "text", "levels", "least", "at", "level"]) (sc := defScope sLevels) (by decide +kernel)) (fun _ _ _ _ _ => (pg_name (i := 8) scLevels.nd rfl (Or.inl rfl))) (fun _ _ _ _ _ => pts_nil) (fun _ _ _ _ _ => (pe_callB (show CallR _ (.builtin "sorted") (rSortN K) from cr_sortN) (by rfl) M.sorted_ (by decide +kernel) (pa_cons (pv 8) pa_nil))))))))))), ?_⟩
    intro d hd
    have g0 : Ke D0 H (upd H d (.dK [])) := Ke.rfl'.new hd
    have d0 : (upd H d (.dK [])) d = some (.dK []) := upd_same
    generalize upd H d (.dK []) = H1 at g0 d0 ⊢
    refine ⟨.ref b, rfl, b, us.map V.str, rfl, g0.seqL0 Sb, ?_⟩
    refine for_it (walk_enum (K := K) (a := b) (xs := us.map V.str)) (fun j σ H5 => ∃ (kvs : List (Key × V)) (y3 y4 : Option V), σ = [some (.ref a), some (.ref b), some (.ref d), y3, y4, none, none, none, none] ∧ Ke D0 H H5 ∧ H5 d = some (.dK kvs) ∧ PlI H H5 kvs (us.take j) ∧ kvs.length ≤ j) ?_ ?_ ?_ ?_
    · exact ⟨[], none, none, rfl, g0, d0, .start, Nat.le_refl _⟩
    · rintro j σ H5 hj ⟨_, _, _, _, g5, _⟩
      exact g5.seqL0 Sb
    · rintro j x σ H5 H5' hj ⟨kvs, y3, y4, rfl, g5, d5, I5, kl5⟩ ⟨T', x', y', rfl, hT, rfl, hx', hy'⟩
      cases hx'
      have hy' : (us.map V.str)[j]? = some y' := hy'
      rw [List.getElem?_map] at hy'
      rw [List.length_map] at hj
      have hu : us[j]? = some us[j] := List.getElem?_eq_getElem hj
      rw [hu] at hy'
      cases hy'
      generalize us[j] = t at hu ⊢
      have g6 := g5.new (o := .tup [V.int (j : Nat), .str t]) hT
      have d6 := (upd_ne (o := .tup [V.int (j : Nat), .str t]) (ne_of_none d5 hT)).trans d5
      have I6 := I5.ke (Ke.rfl'.new (o := .tup [V.int (j : Nat), .str t]) hT)
      refine ⟨T', _, rfl, .inl (.inl upd_same), rfl, _, _, rfl, _, _, rfl, rfl, ?_⟩
      generalize upd H5 T' (.tup [V.int (j : Nat), .str t]) = H6 at g6 d6 I6 ⊢
      have tl : (us.take j).length = j := by rw [List.length_take]; omega
      apply tw2 (A := fun e H7 => ∃ kvs7, Ke D0 H H7 ∧ H7 d = some (.dK kvs7) ∧ PlI H H7 kvs7 (us.take j) ∧ kvs7.length ≤ j + 1 ∧ valV kvs7 (.inr t) = some (.ref e) ∧ H e = none ∧ H7 e = some (.lst (intsV (pos t (us.take j)))))
      case use =>
        intro rest
        refine ⟨.ref d, rfl, d, rfl, .inl ⟨kvs, .inl d6⟩, .str t, rfl, Nat.zero_le _, fun L hL => ?_⟩
        have g7 := g6.new (o := .lst []) hL
        have d7 := (upd_ne (o := .lst []) (ne_of_none d6 hL)).trans d6
        have I7 := I6.ke (Ke.rfl'.new (o := .lst []) hL)
        have L7 : (upd H6 L (.lst [])) L = some (.lst []) := upd_same
        have nw : ∀ t' a, valV kvs (.inr t') = some (.ref a) → a ≠ L := fun t' a e => by
          obtain ⟨a', e1, _, e3⟩ := I6.at_ t' _ e
          cases e1
          exact ne_of_none e3 hL
        have h0L : H L = none := g6.free (fun z => z) hL
        generalize upd H6 L (.lst []) = H7 at g7 d7 I7 L7 ⊢
        refine ⟨kvs, .inr t, d7, rfl, sL (by omega), fun v hv => ?u1, fun hn => ?u2⟩
        case u2 =>
          have g8 : Ke D0 H (upd H7 d (.dK (putK kvs (.inr t) (.ref L)))) := g7.put hd
          have d8 : (upd H7 d (.dK (putK kvs (.inr t) (.ref L)))) d = some (.dK (putK kvs (.inr t) (.ref L))) := upd_same
          have nLd : L ≠ d := fun z => by rw [z, d7] at L7; cases L7
          have L8 := (upd_ne (o := .dK (putK kvs (.inr t) (.ref L))) nLd).trans L7
          have I8 := (I7.setD (k1 := putK kvs (.inr t) (.ref L)) d7).fresh hn L8 h0L nw
          have e8 : valV (putK kvs (.inr t) (.ref L)) (.inr t) = some (.ref L) := by rw [valV_put, if_pos rfl]
          have p8 : intsV (pos t (us.take j)) = [] := by rw [I7.no t hn]; rfl
          generalize upd H7 d (.dK (putK kvs (.inr t) (.ref L))) = H8 at g8 d8 L8 I8 ⊢
          exact rest L H8 ⟨_, g8, d8, I8, Nat.le_trans (length_putK _ _ _) (by omega), e8, h0L, by rw [p8]; exact L8⟩
        case u1 =>
          obtain ⟨e, rfl, h1, h2⟩ := I7.at_ t v hv
          exact rest e H7 ⟨kvs, g7, d7, I7, by omega, hv, h1, h2⟩
      case h =>
        rintro e H7 ⟨kvs7, g7, d7, I7, kl7, v7, e0, e7⟩
        have pl := pos_len t (us.take j)
        refine ⟨.inl ⟨rfl, _, .inl (.inl e7)⟩, .int (j : Nat), rfl, e, _, _, rfl, rfl, e7, sL (by rw [List.length_map]; omega), ?_⟩
        have I8 := I7.app v7
        rw [tl] at I8
        have nde : d ≠ e := fun z => by rw [← z, d7] at e7; cases e7
        refine ⟨kvs7, _, _, rfl, g7.put e0, (upd_ne nde).trans d7, ?_, kl7⟩
        rw [List.take_add_one, hu, Option.toList_some]
        exact I8
    · rintro σ H5 ⟨kvs, y3, y4, rfl, g5, d5, I5, kl5⟩
      rw [List.length_map, List.take_length] at I5
      rw [List.length_map] at kl5
      refine ⟨Nat.zero_le _, fun A hA => ?_⟩
      have g6 := g5.new (o := .lst []) hA
      have k6 : Ke D0 H5 (upd H5 A (.lst [])) := Ke.rfl'.new hA
      have A6 : (upd H5 A (.lst [])) A = some (.lst []) := upd_same
      generalize upd H5 A (.lst []) = H6 at g6 k6 A6 ⊢
      refine ⟨Nat.zero_le _, fun B hB => ?_⟩
      have k7 : Ke D0 H5 (upd H6 B (.lst [])) := k6.new hB
      have A7 := (upd_ne (o := .lst []) (ne_of_none A6 hB)).trans A6
      have B7 : (upd H6 B (.lst [])) B = some (.lst []) := upd_same
      have nAB : A ≠ B := ne_of_none A6 hB
      have hB5 : H5 B = none := k6.free (fun z => z) hB
      generalize upd H6 B (.lst []) = H7 at k7 A7 B7 ⊢
      have S7 : St2 H5 H7 A B [] [] [] := ⟨k7, hA, hB5, nAB, A7, B7, (fun c hc => by cases hc), (fun j k c e => by cases e), rfl, (fun k a l e => by cases e)⟩
      clear A7 B7 k7 k6 A6 g6 hA hB hB5 nAB
      refine ⟨.ref a, rfl, a, ts.map V.str, rfl, (g5.trans S7.ke).seqL0 Sa, ?_⟩
      have noP : ∀ i j, us.length ≤ j → like ts us i j = false := fun i j hj => by
        cases h : like ts us i j with
        | false => rfl
        | true =>
          have := (like_in ts us i j h).2
          omega
      have big : ∀ {i : Nat} {bb : Nat} {ls : List (List Pr)} {le : List Nat}, LvI (like ts us) i bb ls le → ls.length ≤ 100 := fun {i bb ls le} L => by
        by_cases h : 0 < ls.length
        · have hl : le[ls.length - 1]? = some (le[ls.length - 1]'(by have := L.len; omega)) := List.getElem?_eq_getElem _
          obtain ⟨⟨i', x, y⟩, _⟩ := L.least _ _ hl
          have z := like_in ts us _ _ x.1
          have h1 := En_le (P := like ts us) (i := ts.length) (j := us.length) z.1 z.2
          have h3 := Mx_le (P := like ts us) (i := ts.length) (j := us.length)
          omega
        · omega
      refine for_it (walk_enum (K := K) (a := a) (xs := ts.map V.str)) (fun i σ H8 => ∃ (y3 y4 y7 y8 : Option V) (as : List Addr) (ls : List (List Pr)) (le : List Nat), σ = [some (.ref a), some (.ref b), some (.ref d), y3, y4, some (.ref A), some (.ref B), y7, y8] ∧ St2 H5 H8 A B as ls le ∧ LvI (like ts us) i us.length ls le) ?_ ?_ ?_ ?_
      · exact ⟨_, _, _, _, [], [], [], rfl, S7, LvI.start (noP 0)⟩
      · rintro i σ H8 hi ⟨_, _, _, _, _, _, _, _, S8, _⟩
        exact (g5.trans S8.ke).seqL0 Sa
      · rintro i x σ H8 H8' hi ⟨y3, y4, y7, y8, as, ls, le, rfl, S8, L8⟩ ⟨T', x', y', rfl, hT, rfl, hx', hy'⟩
        cases hx'
        have hy' : (ts.map V.str)[i]? = some y' := hy'
        rw [List.getElem?_map] at hy'
        rw [List.length_map] at hi
        have ht : ts[i]? = some ts[i] := List.getElem?_eq_getElem hi
        rw [ht] at hy'
        cases hy'
        generalize ts[i] = t at ht ⊢
        have S9 := S8.k (Ke.rfl'.new (o := .tup [V.int (i : Nat), .str t]) hT)
        refine ⟨T', _, rfl, .inl (.inl upd_same), rfl, _, _, rfl, _, _, rfl, rfl, ?_⟩
        generalize upd H8 T' (.tup [V.int (i : Nat), .str t]) = H9 at S9 ⊢
        have asl := S9.ix.1
        have d9 := S9.ke d _ (fun z => z) d5
        have I9 := I5.ke S9.ke
        have dSome : H5 d = some (.dK kvs) := d5
        refine ⟨.ref A, rfl, A, _, rfl, .inl (.inl (.inl S9.a)), ?_⟩
        refine ⟨.ref d, rfl, d, rfl, .inl ⟨kvs, .inl d9⟩, .str t, rfl, Nat.zero_le _, fun L hL => ?_⟩
        have SX := S9.k (Ke.rfl'.new (o := .lst []) hL)
        have dX := (upd_ne (o := .lst []) (ne_of_none d9 hL)).trans d9
        have LX : (upd H9 L (.lst [])) L = some (.lst []) := upd_same
        have nL : L ≠ A ∧ L ≠ B ∧ ∀ c ∈ as, L ≠ c := by
          refine ⟨fun z => ?_, fun z => ?_, fun c hc z => ?_⟩
          · rw [z, S9.a] at hL
            cases hL
          · rw [z, S9.b] at hL
            cases hL
          · obtain ⟨j, hj⟩ := List.getElem?_of_mem hc
            obtain ⟨l, _, xs, e, _⟩ := S9.ix.get hj
            rw [z, e] at hL
            cases hL
        have IX := I9.ke (Ke.rfl'.new (o := .lst []) hL)
        generalize upd H9 L (.lst []) = HX at SX dX LX IX ⊢
        obtain ⟨e, ee, eX, nE⟩ : ∃ e, (valV kvs (.inr t)).getD (.ref L) = .ref e ∧ HX e = some (.lst (intsV (pos t us))) ∧ (e ≠ A ∧ e ≠ B ∧ ∀ c ∈ as, e ≠ c) := by
          cases hv : valV kvs (.inr t) with
          | none =>
            refine ⟨L, rfl, ?_, nL⟩
            rw [IX.no t hv]
            exact LX
          | some v =>
            obtain ⟨e, rfl, _, h2⟩ := IX.at_ t v hv
            obtain ⟨e', z, _, h3⟩ := I5.at_ t _ hv
            cases z
            refine ⟨e, rfl, h2, fun z => ?_, fun z => ?_, fun c hc z => ?_⟩
            · rw [z, SX.nA] at h3
              cases h3
            · rw [z, SX.nB] at h3
              cases h3
            · rw [z, (SX.new c hc).1] at h3
              cases h3
        refine ⟨valV kvs (.inr t), DGet.k (k := .inr t) dX, ?_⟩
        rw [ee]
        have lkp : ∀ {j}, like ts us i j = true ↔ j ∈ pos t us := like_pos ht
        refine ⟨e, intsV (pos t us), rfl, .inl (.inl eX), ?_⟩
        refine for_it (walk_rev (K := K) (a := e) (xs := intsV (pos t us))) (fun r σ H10 => ∃ (y3 : Option V) (lvl : Nat) (as : List Addr) (ls : List (List Pr)) (le : List Nat), σ = [some (.ref a), some (.ref b), some (.ref d), y3, some (.str t), some (.ref A), some (.ref B), some (.int (i : Nat)), some (.int (lvl : Nat))] ∧ St2 H5 H10 A B as ls le ∧
          LvI (like ts us) i (bnd (pos t us) us.length r) ls le ∧ Mx (like ts us) i (bnd (pos t us) us.length r) ≤ lvl ∧ lvl ≤ ls.length ∧ H10 e = some (.lst (intsV (pos t us))) ∧ (e ≠ A ∧ e ≠ B ∧ ∀ c ∈ as, e ≠ c)) ?_ ?_ ?_ ?_
        · refine ⟨y3, ls.length, as, ls, le, ?_, SX, L8, L8.le_len, Nat.le_refl _, eX, nE⟩
          rw [← asl, List.length_map]
          rfl
        · rintro r σ H10 hr' ⟨_, _, _, _, _, _, _, _, _, _, e10, _⟩
          exact .inl (.inl e10)
        · rintro r x σ H10 H10' hr' ⟨y3, lvl, as, ls, le, rfl, S10, L10, ml, ll, e10, nE⟩ ⟨rfl, hx⟩
          rw [List.length_map] at hr'
          rw [List.length_map, List.getElem?_map] at hx
          have hc : (pos t us)[(pos t us).length - 1 - r]? = some ((pos t us)[(pos t us).length - 1 - r]'(by omega)) := List.getElem?_eq_getElem _
          rw [hc] at hx
          cases hx
          generalize (pos t us)[(pos t us).length - 1 - r] = c at hc ⊢
          have c1 := bnd_lt hr' hc
          have c2 : ∀ j, c < j → j < bnd (pos t us) us.length r → like ts us i j = false := fun j h1 h2 => by
            cases h : like ts us i j with
            | false => rfl
            | true => exact absurd (lkp.mp h) (bnd_gap hr' hc h1 h2)
          have c3 : like ts us i c = true := lkp.mpr (List.mem_of_getElem? hc)
          rw [bnd_succ hc hr']
          have mono : Mx (like ts us) i c ≤ lvl := Nat.le_trans (Mx_mono (Nat.le_refl _) (Nat.le_of_lt c1)) ml
          have bL := big L10
          generalize hlv : Mx (like ts us) i c = lv at mono ⊢
          apply tw (A := fun H12 => H12 = H10')
          case use =>
            intro rest
            refine ⟨fun m σ H11 => H10' = H11 ∧ σ = [some (.ref a), some (.ref b), some (.ref d), some (.int (c : Nat)), some (.str t), some (.ref A), some (.ref B), some (.int (i : Nat)), some (.int (m : Nat))] ∧ lv ≤ m ∧ m ≤ ls.length, ⟨lvl, rfl, rfl, mono, ll⟩, ?_⟩
            rintro m σ H11 ⟨e11, rfl, m1, m2⟩
            have S11 : St2 H5 H11 A B as ls le := e11 ▸ S10
            refine ⟨.int (m : Nat), rfl, _, _, rfl, rfl, _, rfl, ite2 (fun e1 => ?pos) (fun e1 => ?zero)⟩
            case zero =>
              have e2 : lv = m := by
                have := of_decide_eq_false (Bool.eq_false_iff.mpr e1)
                omega
              subst e2
              exact iteF (rest H11 e11.symm)
            case pos =>
              have m0 : 0 < m := by
                have := of_decide_eq_true e1
                omega
              have lel := L10.len
              have hv : le[m - 1]? = some (le[m - 1]'(by omega)) := List.getElem?_eq_getElem _
              generalize le[m - 1] = v at hv ⊢
              have em : ((m : Nat) : Int) - 1 = ((m - 1 : Nat) : Int) := by omega
              have iff_ := L10.lt_iff c1 hv
              rw [hlv] at iff_
              refine ⟨.ref B, rfl, .int (m : Nat), rfl, _, _, rfl, rfl, B, _, _, .int (v : Nat), rfl, rfl, .inl (.inl S11.b), (by rw [em]; exact atI_nat (by unfold intsV; rw [List.getElem?_map, hv]; rfl)), .int (c : Nat), rfl, _, _, rfl, rfl, _, rfl, ite2 (fun e2 => ?go) (fun e2 => ?stop)⟩
              case stop =>
                have := of_decide_eq_false (Bool.eq_false_iff.mpr e2)
                have e3 : lv = m := by
                  have := iff_.mp (by omega)
                  omega
                subst e3
                exact rest H11 e11.symm
              case go =>
                have h3 := of_decide_eq_true e2
                have h4 : ¬ m - 1 < lv := fun z => by
                  have := iff_.mpr z
                  omega
                refine ⟨fun σ' H' => H10' = H' ∧ σ' = [some (.ref a), some (.ref b), some (.ref d), some (.int (c : Nat)), some (.str t), some (.ref A), some (.ref B), some (.int (i : Nat)), some (.int (((m : Nat) : Int) - 1))], ?_, ?_⟩
                · rintro σ' H' ⟨z1, rfl⟩
                  exact ⟨m - 1, by omega, z1, by rw [em], by omega, by omega⟩
                · exact ⟨_, rfl, _, _, rfl, rfl, e11, rfl⟩
          case h =>
            intro HN eN
            have eN' := eN.symm
            subst eN'
            have step := L10.pair c1 c3 c2
            rw [hlv] at step
            have lvl_ : lv ≤ ls.length := by rw [← hlv]; exact L10.le_len
            have lel := L10.len
            apply tw (A := fun H12 => ∃ (as' : List Addr) (lsA : List (List Pr)) (le' : List Nat) (l : List Pr) (xs : List V) (C : Addr), St2 H5 H12 A B as' lsA le' ∧ as'[lv]? = some C ∧ lsA[lv]? = some l ∧ H12 C = some (.lst xs) ∧ PrL H12 xs l ∧
              LvI (like ts us) i c (lsA.set lv (l ++ [(i, c)])) (le'.set lv c) ∧ lv < le'.length ∧ H12 e = some (.lst (intsV (pos t us))) ∧ (e ≠ A ∧ e ≠ B ∧ ∀ c ∈ as', e ≠ c))
            case use =>
              intro rest
              refine ⟨.int (lv : Nat), rfl, .ref A, rfl, A, _, rfl, .inl (.inl (.inl S10.a)), rfl, _, rfl, ite2 (fun e1 => ?full) (fun e1 => ?has)⟩
              case has =>
                have ne : lv ≠ ls.length := fun z => by
                  rw [List.length_map, S10.ix.1, z, decide_eq_true rfl] at e1
                  exact e1 rfl
                have hl : ls[lv]? = some (ls[lv]'(by omega)) := List.getElem?_eq_getElem _
                obtain ⟨C, hC, xs, hx, px⟩ := S10.ix.get' hl
                exact rest H10' ⟨as, ls, le, _, xs, C, S10, hC, hl, hx, px, step.2 _ hl, by omega, e10, nE⟩
              case full =>
                have el : lv = ls.length := by
                  have z := of_decide_eq_true e1
                  rw [List.length_map, S10.ix.1] at z
                  have z2 := V.int.inj z
                  omega
                refine ⟨.ref A, rfl, .inl ⟨rfl, _, .inl (.inl S10.a)⟩, Nat.zero_le _, fun C hC => ?_⟩
                have S13 := S10.k (Ke.rfl'.new (o := .lst []) hC)
                have C13 : (upd H10' C (.lst [])) C = some (.lst []) := upd_same
                have e13 := (upd_ne (o := .lst []) (ne_of_none e10 hC)).trans e10
                have nC : C ≠ A ∧ C ≠ B ∧ C ≠ e ∧ ∀ c ∈ as, c ≠ C := by
                  refine ⟨fun z => ?_, fun z => ?_, fun z => ?_, fun c hc z => ?_⟩
                  · rw [z, S10.a] at hC
                    cases hC
                  · rw [z, S10.b] at hC
                    cases hC
                  · rw [z, e10] at hC
                    cases hC
                  · obtain ⟨j, hj⟩ := List.getElem?_of_mem hc
                    obtain ⟨l, _, xs, e, _⟩ := S10.ix.get hj
                    rw [← z, e] at hC
                    cases hC
                have n5 : H5 C = none := S10.ke.free (fun z => z) hC
                generalize upd H10' C (.lst []) = H13 at S13 C13 e13 ⊢
                refine ⟨A, _, _, rfl, rfl, S13.a, sL (by rw [List.length_map, S13.ix.1]; omega), ?_⟩
                have S14 := S13.more C13 n5 nC.2.2.2 nC.1 nC.2.1
                have e14 := (upd_ne (o := .lst (as.map V.ref ++ [.ref C])) nE.1).trans e13
                have C14 := (upd_ne (o := .lst (as.map V.ref ++ [.ref C])) nC.1).trans C13
                generalize upd H13 A (.lst (as.map V.ref ++ [.ref C])) = H14 at S14 e14 C14 ⊢
                refine ⟨.ref B, rfl, .inl ⟨rfl, _, .inl (.inl S14.b)⟩, .int (c : Nat), rfl, B, _, _, rfl, rfl, S14.b, sL (by rw [List.length_map]; omega), ?_⟩
                have S15 := S14.least (v := c)
                have e15 := (upd_ne (o := .lst (intsV le ++ [V.int (c : Nat)])) nE.2.1).trans e14
                have C15 := (upd_ne (o := .lst (intsV le ++ [V.int (c : Nat)])) nC.2.1).trans C14
                generalize upd H14 B (.lst (intsV le ++ [V.int (c : Nat)])) = H15 at S15 e15 C15 ⊢
                refine rest H15 ⟨as ++ [C], ls ++ [[]], le ++ [c], [], [], C, S15, ?_, ?_, C15, .nil, ?_, ?_, e15, nE.1, nE.2.1, fun c' hc' => ?_⟩
                · rw [el, ← S10.ix.1, List.getElem?_append_right (Nat.le_refl _), Nat.sub_self]
                  rfl
                · rw [el, List.getElem?_append_right (Nat.le_refl _), Nat.sub_self]
                  rfl
                · have z := step.1 el
                  rw [el, List.set_append_right _ _ (Nat.le_refl _), Nat.sub_self, List.set_append_right _ _ (by omega), lel, Nat.sub_self]
                  exact z
                · rw [List.length_append, List.length_singleton]
                  omega
                · rcases List.mem_append.mp hc' with hc' | hc'
                  · exact nE.2.2 c' hc'
                  · rw [List.mem_singleton.mp hc']
                    exact nC.2.2.1.symm
            case h =>
              rintro H12 ⟨as', lsA, le', l, xs, C, S12, hC, hl, C12, p12, L12, lv', e12, nE'⟩
              obtain ⟨_, _, nCB⟩ := S12.new C (List.mem_of_getElem? hC)
              have xl : xs.length ≤ 10000 := by
                have h1 := Paired.length p12
                have h2 : l.length ≤ (grid ts.length us.length).length := by
                  have hk := (List.getElem?_eq_some_iff.mp hl).1
                  obtain ⟨nd, mm⟩ := L12.mem lv (l ++ [(i, c)]) (List.getElem?_set_self hk)
                  refine len_of (List.nodup_append.mp nd).1 fun p hp => ?_
                  exact mem_grid.mpr (like_in ts us _ _ ((mm p).mp (List.mem_append_left _ hp)).1.1)
                rw [grid_len] at h2
                have h3 := Nat.mul_le_mul lt lu
                omega
              refine ⟨.ref A, rfl, .int (lv : Nat), rfl, A, _, _, .ref C, rfl, rfl, .inl (.inl S12.a), atI_nat (j := lv) (by rw [List.getElem?_map, hC]; rfl), .inl ⟨rfl, _, .inl (.inl C12)⟩, .int (i : Nat), rfl, .int (c : Nat), rfl, by show 2 ≤ sizeLine; decide, fun tt htt => ?_⟩
              have k16 : Ke D0 H12 (upd H12 tt (.tup [V.int (i : Nat), .int (c : Nat)])) := Ke.rfl'.new htt
              have S16 := S12.k k16
              have C16 := k16 _ _ (fun z => z) C12
              have p16 := p12.ke0 k16
              have e16 := k16 _ _ (fun z => z) e12
              have t16 : PrAt (upd H12 tt (.tup [V.int (i : Nat), .int (c : Nat)])) (.ref tt) (i, c) := ⟨tt, rfl, upd_same⟩
              generalize upd H12 tt (.tup [V.int (i : Nat), .int (c : Nat)]) = H16 at S16 C16 p16 e16 t16 ⊢
              refine ⟨C, _, _, rfl, rfl, C16, sL xl, ?_⟩
              have S17 := S16.inner hC hl C16 p16 t16
              have e17 := (upd_ne (o := .lst (xs ++ [.ref tt])) (nE'.2.2 C (List.mem_of_getElem? hC))).trans e16
              generalize upd H16 C (.lst (xs ++ [.ref tt])) = H17 at S17 e17 ⊢
              refine ⟨.int (c : Nat), rfl, .ref B, rfl, .int (lv : Nat), rfl, B, _, _, lv, rfl, rfl, S17.b, ?_, ?_⟩
              · unfold ixN
                rw [if_pos (by omega), if_pos (by rw [List.length_map]; omega), Int.toNat_natCast]
              have S18 := S17.set (v := c) (k := lv)
              have e18 := (upd_ne (o := .lst ((intsV le').set lv (V.int (c : Nat)))) nE'.2.1).trans e17
              exact ⟨_, lv, as', _, _, rfl, S18, L12, Nat.le_refl _, by rw [List.length_set]; have := (List.getElem?_eq_some_iff.mp hl).1; omega, e18, nE'⟩
        · rintro σ H10 ⟨y3, lvl, as, ls, le, rfl, S10, L10, _⟩
          rw [List.length_map] at L10
          refine ⟨_, _, _, _, as, ls, le, rfl, S10, L10.row (fun j hj => ?_) (noP (i + 1))⟩
          cases h : like ts us i j with
          | false => rfl
          | true => exact absurd (lkp.mp h) (bnd_end hj)
      · rintro σ H8 ⟨y3, y4, y7, y8, as, ls, le, rfl, S8, L8⟩
        rw [List.length_map] at L8
        obtain ⟨dl, dp⟩ := L8.done (like_in ts us) (noP ts.length)
        have bL := big L8
        have asl := S8.ix.1
        have g8 := g5.trans S8.ke
        refine ⟨.ref A, rfl, A, rfl, ⟨_, .inl (.inl S8.a)⟩, fun D hD => ?_⟩
        have hDH : H D = none := g8.free (fun z => z) hD
        refine lc_list (K := K) (a := A) (xs := as.map V.ref) (fun j H9 => Ke D0 H8 H9 ∧ ∃ acc : List Addr, H9 D = some (.lst (acc.map V.ref)) ∧ acc.length = j ∧ (∀ c ∈ acc, H8 c = none ∧ c ≠ D) ∧ ∀ (k : Nat) (c : Addr), acc[k]? = some c → PrLs H9 c (lev (like ts us) ts.length us.length k)) ?_ ?_ ?_ ?_
        · exact ⟨Ke.rfl'.new hD, [], upd_same, rfl, (fun c hc => by cases hc), (fun k c e => by cases e)⟩
        · rintro j H9 hj ⟨g9, _⟩
          exact .inl (.inl (g9 _ _ (fun z => z) S8.a))
        · rintro j x H9 hx ⟨g9, acc, D9, al, nw, pa_⟩
          rw [List.getElem?_map] at hx
          cases hC : as[j]? with
          | none => rw [hC] at hx; cases hx
          | some C =>
            rw [hC] at hx
            cases hx
            obtain ⟨l, hl, xs, C8, p8⟩ := S8.ix.get hC
            have jl : j < as.length := (List.getElem?_eq_some_iff.mp hC).1
            refine ⟨rfl, .ref C, rfl, C, xs, l, rfl, .inl (.inl (g9 _ _ (fun z => z) C8)), p8.ke0 g9, fun ys qs p pm pw pq hp => ?_⟩
            have eq_ : qs = lev (like ts us) ts.length us.length j := (uniq ((pm.trans (dp j l hl)).symm) (lev_sorted ..) pw).symm
            have k10 : Ke D0 H9 (upd H9 p (.lst ys)) := Ke.rfl'.new hp
            have D10 := k10 _ _ (fun z => z) D9
            have p10 : (upd H9 p (.lst ys)) p = some (.lst ys) := upd_same
            have q10 := pq.ke0 k10
            have npD : p ≠ D := fun z => by rw [z, D9] at hp; cases hp
            have h8p : H8 p = none := g9.free (fun z => z) hp
            have g10 := g9.trans k10
            have pa10 : ∀ (k : Nat) (c : Addr), acc[k]? = some c → PrLs (upd H9 p (.lst ys)) c (lev (like ts us) ts.length us.length k) := fun k c e => (pa_ k c e).ke0 k10
            generalize upd H9 p (.lst ys) = H10 at D10 p10 q10 g10 pa10 ⊢
            refine ⟨_, D10, sL (by rw [List.length_map]; omega), g10.put hD, acc ++ [p], ?_, by rw [List.length_append, al]; rfl, fun c hc => ?_, fun k c e => ?_⟩
            · rw [upd_same, List.map_append]
              rfl
            · rcases List.mem_append.mp hc with hc | hc
              · exact nw c hc
              · rw [List.mem_singleton.mp hc]
                exact ⟨h8p, npD⟩
            · rcases at_end e with ⟨_, e⟩ | ⟨z, rfl⟩
              · exact (pa10 k c e).updL D10 (nw c (List.mem_of_getElem? e)).2
              · rw [z, al]
                exact ⟨ys, (upd_ne npD).trans p10, by rw [← eq_]; exact q10.updL D10⟩
        · rintro H9 ⟨g9, acc, D9, al, nw, pa_⟩
          rw [List.length_map] at al
          refine q H9 D (g8.trans g9) ⟨acc, D9, hDH, fun c hc => ⟨g8.free (fun z => z) (nw c hc).1, (nw c hc).2⟩, ?_, fun k c l e1 e2 => ?_⟩
          · unfold levels
            rw [List.length_map, List.length_range]
            omega
          · unfold levels at e2
            rw [List.getElem?_map] at e2
            have hk : k < acc.length := (List.getElem?_eq_some_iff.mp e1).1
            rw [List.getElem?_range (by omega)] at e2
            cases e2
            exact pa_ k c e1
end
end K1
set_option Elab.async false
set_option linter.all false
set_option maxRecDepth 100000
set_option maxHeartbeats 1600000
/-! The program's def _kept. -/
namespace K1
open PySem PySem.Spec PyProof.Rows L2 A1
/-- the pairs kept behind r steps -/
def kseq (P : Nat → Nat → Bool) (n m : Nat) : Nat → List Pr
  | 0 => []
  | r + 1 => A1.stepK P n m (kseq P n m r) (Mx P n m - r)
theorem kseq_kept {P : Nat → Nat → Bool} {n m : Nat} : ∀ {r : Nat}, r ≤ Mx P n m → keptN P n m (Mx P n m - r) (kseq P n m r) = keptOf P n m
  | 0, _ => rfl
  | r + 1, h => by
    rw [← kseq_kept (r := r) (by omega)]
    have e : Mx P n m - r = (Mx P n m - (r + 1)) + 1 := by omega
    show keptN P n m (Mx P n m - (r + 1)) (stepK P n m (kseq P n m r) (Mx P n m - r)) = _
    rw [e]
    rfl
theorem kseq_end {P : Nat → Nat → Bool} {n m : Nat} : kseq P n m (Mx P n m) = keptOf P n m := by
  have := kseq_kept (P := P) (n := n) (m := m) (Nat.le_refl _)
  rw [Nat.sub_self] at this
  exact this
theorem stepK_len {P : Nat → Nat → Bool} {n m s : Nat} {acc : List Pr} : (A1.stepK P n m acc s).length ≤ acc.length + 1 := by
  unfold A1.stepK
  split
  · rw [List.length_append]
    exact Nat.le_refl _
  · exact Nat.le_succ _
theorem kseq_len {P : Nat → Nat → Bool} {n m : Nat} : ∀ {r : Nat}, (kseq P n m r).length ≤ r
  | 0 => Nat.le_refl _
  | r + 1 => Nat.le_trans stepK_len (Nat.succ_le_succ kseq_len)
/-- the pairs that start rows of k + 1, out of the reversed levels -/
theorem sel_perm {P : Nat → Nat → Bool} {n m k : Nat} : ((lev (Rv P n m) n m k).map (fl n m)).Perm ((grid n m).filter fun p => decide (Sn P n m p = k + 1)) := by
  refine perm_of ?_ (nodup_of ((grid_sorted n m).filter _)) fun p => ?_
  · have nd := nodup_of (lev_sorted (Rv P n m) n m k)
    refine List.pairwise_map.mpr (List.Pairwise.imp_of_mem (fun {a b} ha hb ne e => ne ?_) nd)
    have h1 := fl_fl (mem_lev.mp ha).1
    have h2 := fl_fl (mem_lev.mp hb).1
    rw [← h1, ← h2, e]
  · rw [List.mem_filter, mem_grid, decide_eq_true_eq, List.mem_map]
    constructor
    · rintro ⟨q, hq, rfl⟩
      obtain ⟨a, b⟩ := mem_lev.mp hq
      refine ⟨fl_in a, ?_⟩
      unfold Sn
      rw [fl_fl a]
      exact b
    · rintro ⟨a, b⟩
      exact ⟨fl n m p, mem_lev.mpr ⟨fl_in a, b⟩, fl_fl a⟩
theorem find_at {α : Type} {f : α → Bool} : ∀ {l : List α} {j : Nat} {p : α}, (∀ q ∈ l.take j, f q = false) → l[j]? = some p → f p = true → l.find? f = some p
  | x :: l, 0, p, _, e, h => by
    cases e
    rw [List.find?_cons, h]
  | x :: l, j + 1, p, ha, e, h => by
    rw [List.find?_cons, ha x (by rw [List.take_succ_cons]; exact List.mem_cons_self ..)]
    exact find_at (fun q hq => ha q (by rw [List.take_succ_cons]; exact List.mem_cons_of_mem _ hq)) (j := j) e h
theorem at_m1 {α : Type} {xs : List α} {v : α} (h : xs[xs.length - 1]? = some v) (hl : 0 < xs.length) : atI xs (-1) = some v := by
  have e : ixN xs.length (-1) = some (xs.length - 1) := by
    unfold ixN
    rw [if_neg (by omega), if_pos (by omega)]
    congr 1
    omega
  unfold atI
  rw [e]
  exact h
theorem prl_last {H : Hp} {xs : List V} {ps : List Pr} (h : PrL H xs ps) (ne : xs.isEmpty = false) : ∃ t q, xs[xs.length - 1]? = some (V.ref t) ∧ H t = some (.tup [.int (q.1 : Nat), .int (q.2 : Nat)]) ∧ ps.getLast? = some q ∧ 0 < xs.length := by
  have hl : 0 < xs.length := by
    cases xs with
    | nil => cases ne
    | cons x xs => exact Nat.succ_pos _
  have e : xs[xs.length - 1]? = some (xs[xs.length - 1]'(by omega)) := List.getElem?_eq_getElem _
  obtain ⟨q, hq, t, e1, e2⟩ := pr_get h e
  refine ⟨t, q, by rw [e, e1], e2, ?_, hl⟩
  rw [List.getLast?_eq_getElem?, ← Paired.length h]
  exact hq
section
variable {P : Program} {w : World} {K : PySem.W.Frag} {mg : Str → Option Value} {base : Heap}
def spKept (K : PySem.W.Frag) : Sp := fun vs H Q _ => ∃ (a b : Addr) (ts us : List Str), vs = [.ref a, .ref b] ∧ SqL K H a (ts.map V.str) ∧ SqL K H b (us.map V.str) ∧ ts.length ≤ 100 ∧ us.length ≤ 100 ∧
  ∀ H' L xs, Ke D0 H H' → H L = none → H' L = some (.lst xs) → PrL H' xs (keptOf (like ts us) ts.length us.length) → Q (.ref L) H'
theorem ok_kept {f : Addr} {fd : FuncData} {k : Nat} (F : Fun K "_kept" "_kept" sKept f fd) (M : Mg mg) (cL : Cal P w K mg base k "_levels" ["rows", "others"] (spLevels K)) : FnOk P w K mg base CX0 (k + 1) f fd ["rows", "others"] (spKept K) := by
  refine F.ok scKept (fun vs H Q E h => ?_) (fun cdv A outer s H vs Q E hr h => ?_)
  · obtain ⟨a, b, ts, us, rfl, _⟩ := h
    rfl
  · obtain ⟨a, b, ts, us, rfl, Sa, Sb, lt, lu, q⟩ := h
    refine ⟨_, (pss_cons (ps_set (i := 2) scKept.nd rfl (.inl rfl) (pe_lst pa_nil))
      (pss_cons (ps_for PassesOwn.never rfl (pi_reversed (by rfl) M.rev_ (pa_cons (pe_cal cL hr (by rfl) (pa_cons (pe_revL (pv 0)) (pa_cons (pe_revL (pv 1)) pa_nil))) pa_nil)) (pg_name (i := 3) scKept.nd rfl (.inl rfl))
      (pss_cons (ps_set (i := 6) scKept.nd rfl (.inl rfl) (pe_callB (show CallR _ (.builtin "sorted") (rSortN K) from cr_sortN) (by rfl) M.sorted_ (by decide +kernel) (pa_cons (pe_lc (own := [("at", 4), ("place", 5)]) (g := (gTup K 2 (gCons (gName 4) (gCons (gName 5) gNil)))) (tt := tYes) rfl scKept.nd (pi_list (pv 3)) (blkOk_by (N := ["rows", "others", "kept", "level", "at", "place", "pairs"]) (sc := defScope sKept) (by decide +kernel)) (fun _ _ _ _ _ => (pg_tup rfl (pgs_cons (pg_name (i := 4) scKept.nd rfl (Or.inl rfl)) (pgs_cons (pg_name (i := 5) scKept.nd rfl (Or.inl rfl)) pgs_nil)))) (fun _ _ _ _ _ => pts_nil) (fun _ _ _ _ _ => (pe_tup (pa_cons (pe_op op_sub (pe_op op_sub (pe_callB (show CallR _ (.builtin "len") (rLen K) from call_len_seq) (by rfl) M.len_ PySem.boot_len (pa_cons (pv 0) pa_nil)) pe_int) (pv 4)) (pa_cons (pe_op op_sub (pe_op op_sub (pe_callB (show CallR _ (.builtin "len") (rLen K) from call_len_seq) (by rfl) M.len_ PySem.boot_len (pa_cons (pv 1) pa_nil)) pe_int) (pv 5)) pa_nil))))) pa_nil)))
      (pss_one (ps_for PassesOwn.never rfl (pi_list (pv 6)) (pg_tup rfl (pgs_cons (pg_name (i := 4) scKept.nd rfl (.inl rfl)) (pgs_cons (pg_name (i := 5) scKept.nd rfl (.inl rfl)) pgs_nil)))
      (pss_one (ps_if (PW.pt (pw_or (pt_not (pt_truth (pv 2) (by intro _; rfl))) (pw_or1 (PW.pt (pw_and (pt_cmpR op_gt (pv 4) (pe_ix ix_tup (pe_ix (show IxR _ (rIxL K) from ix_list) (pv 2) (pe_un un_neg pe_int) (fun _ _ => rfl)) pe_int (fun _ _ => rfl)) (nomark _)) (pw_and1 (pt_cmpR op_gt (pv 5) (pe_ix ix_tup (pe_ix (show IxR _ (rIxL K) from ix_list) (pv 2) (pe_un un_neg pe_int) (fun _ _ => rfl)) pe_int (fun _ _ => rfl)) (nomark _))))))))
      (pss_cons (ps_expr (pe_bm PySem.F.plainAttrs_list PySem.F.slot_list_append PySem.F.type_list_append mt_append (pv 2) (pa_cons (pe_tup (pa_cons (pv 4) (pa_cons (pv 5) pa_nil))) pa_nil)))
      (pss_one ps_break))
      pss_nil))))))
      (pss_one (ps_ret (pv 2))))), ?_⟩
    refine ⟨Nat.zero_le _, fun L hL => ?_⟩
    have g0 : Ke D0 H (upd H L (.lst [])) := Ke.rfl'.new hL
    have L0 : (upd H L (.lst [])) L = some (.lst []) := upd_same
    generalize upd H L (.lst []) = H0 at g0 L0 ⊢
    refine ⟨.ref a, rfl, a, _, rfl, g0.seqL0 Sa, fun p1 hp1 => ?_⟩
    have g1 := g0.new (o := .lst (ts.map V.str).reverse) hp1
    have k1 : Ke D0 H0 (upd H0 p1 (.lst (ts.map V.str).reverse)) := Ke.rfl'.new hp1
    have p1e : (upd H0 p1 (.lst (ts.map V.str).reverse)) p1 = some (.lst (ts.map V.str).reverse) := upd_same
    generalize upd H0 p1 (.lst (ts.map V.str).reverse) = H1 at g1 k1 p1e ⊢
    refine ⟨.ref b, rfl, b, _, rfl, g1.seqL0 Sb, fun p2 hp2 => ?_⟩
    have g2 := g1.new (o := .lst (us.map V.str).reverse) hp2
    have k2 := k1.new (o := .lst (us.map V.str).reverse) hp2
    have p1e2 := (upd_ne (o := .lst (us.map V.str).reverse) (ne_of_none p1e hp2)).trans p1e
    have p2e : (upd H1 p2 (.lst (us.map V.str).reverse)) p2 = some (.lst (us.map V.str).reverse) := upd_same
    generalize upd H1 p2 (.lst (us.map V.str).reverse) = H2 at g2 k2 p1e2 p2e ⊢
    refine ⟨p1, p2, ts.reverse, us.reverse, rfl, .inl (.inl (by rw [List.map_reverse]; exact p1e2)), .inl (.inl (by rw [List.map_reverse]; exact p2e)), by rw [List.length_reverse]; exact lt, by rw [List.length_reverse]; exact lu, fun H3 W g3 lv => ?_⟩
    rw [like_rev, List.length_reverse, List.length_reverse] at lv
    obtain ⟨as, W3, nW, nas, six⟩ := lv
    have L3 := (k2.trans g3) _ _ (fun z => z) L0
    have G3 := g2.trans g3
    have asl : as.length = Mx (like ts us) ts.length us.length := by
      have := six.1
      unfold levels at this
      rw [List.length_map, List.length_range, most_fl (like_in ts us)] at this
      exact this
    have Nle : Mx (like ts us) ts.length us.length ≤ 100 := Nat.le_trans Mx_le lt
    generalize hPP : like ts us = PP at *
    refine ⟨W, as.map V.ref, rfl, .inl (.inl W3), ?_⟩
    refine for_it (walk_rev (K := K) (a := W) (xs := as.map V.ref)) (fun r σ H9 => ∃ (y3 y4 y5 y6 : Option V) (xs : List V), σ = [some (.ref a), some (.ref b), some (.ref L), y3, y4, y5, y6] ∧ Ke (· = L) H3 H9 ∧ H9 L = some (.lst xs) ∧ PrL H9 xs (kseq PP ts.length us.length r)) ?_ ?_ ?_ ?_
    · exact ⟨_, _, _, _, [], rfl, Ke.rfl', L3, .nil⟩
    · rintro r σ H9 hr' ⟨_, _, _, _, _, _, g9, _⟩
      exact .inl (.inl (g9 _ _ (fun z => by rw [z, L3] at W3; have := ne_of_none L0 (k2.free (fun z => z) nW); exact this z.symm) W3))
    · rintro r x σ H9 H9' hr' ⟨y3, y4, y5, y6, xs, rfl, g9, L9, p9⟩ ⟨e9, hx⟩
      have e9' := e9.symm
      subst e9'
      rw [List.length_map] at hr'
      rw [List.length_map, List.getElem?_map] at hx
      have hC : as[as.length - 1 - r]? = some (as[as.length - 1 - r]'(by omega)) := List.getElem?_eq_getElem _
      rw [hC] at hx
      cases hx
      generalize as[as.length - 1 - r] = C at hC ⊢
      obtain ⟨lR, hlR, xsC, C3, pC⟩ := six.get hC
      have elR : lR = lev (Rv PP ts.length us.length) ts.length us.length (as.length - 1 - r) := by
        unfold levels at hlR
        rw [List.getElem?_map, List.getElem?_range (by have := most_fl (P := PP) (n := ts.length) (m := us.length) (hPP ▸ like_in ts us); omega)] at hlR
        exact (Option.some.inj hlR).symm
      have es : as.length - 1 - r + 1 = Mx PP ts.length us.length - r := by omega
      have nCL : C ≠ L := fun z => by
        have := k2 _ _ (fun z => z) L0
        rw [← z, (nas C (List.mem_of_getElem? hC)).1] at this
        cases this
      have C9 := g9 _ _ nCL C3
      have pC9 : PrL H9 xsC lR := Paired.mono (fun x p ⟨t, e1, e2⟩ => ⟨t, e1, g9 _ _ (fun z => by rw [z, L3] at e2; cases e2) e2⟩) pC
      have xl9 : xsC.length ≤ 10000 := by
        rw [Paired.length pC, elR]
        unfold lev
        have h1 := List.length_filter_le (fun p => decide (En (Rv PP ts.length us.length) p = as.length - 1 - r + 1)) (grid ts.length us.length)
        rw [grid_len] at h1
        have h3 := Nat.mul_le_mul lt lu
        omega
      refine ⟨.ref C, rfl, C, rfl, ⟨xsC, .inl (.inl C9)⟩, fun D hD => ?_⟩
      have SaG : ∀ {H' : Hp}, Ke D0 H9 H' → SqL K H' a (ts.map V.str) := fun g => (show Ke D0 H _ from fun b o _ e => g b o (fun z => z) (g9 b o (ne_of_none e hL) (G3 b o (fun z => z) e))).seqL0 Sa
      have SbG : ∀ {H' : Hp}, Ke D0 H9 H' → SqL K H' b (us.map V.str) := fun g => (show Ke D0 H _ from fun b o _ e => g b o (fun z => z) (g9 b o (ne_of_none e hL) (G3 b o (fun z => z) e))).seqL0 Sb
      refine lc_list (K := K) (a := C) (xs := xsC) (fun j H10 => Ke D0 H9 H10 ∧ ∃ acc : List V, H10 D = some (.lst acc) ∧ acc.length = j ∧ PrL H10 acc ((lR.take j).map (fl ts.length us.length))) ?_ ?_ ?_ ?_
      · exact ⟨Ke.rfl'.new hD, [], upd_same, rfl, .nil⟩
      · rintro j H10 hj ⟨g10, _⟩
        exact .inl (.inl (g10 _ _ (fun z => z) C9))
      · rintro j x H10 hx ⟨g10, acc, D10, al, pa_⟩
        obtain ⟨p, hp, t, rfl, et⟩ := pr_get pC9 hx
        have hin := (mem_lev.mp (elR ▸ List.mem_of_getElem? hp)).1
        have e1 : (((ts.map V.str).length : Nat) : Int) - 1 - (p.1 : Nat) = ((ts.length - 1 - p.1 : Nat) : Int) := by rw [List.length_map]; omega
        have e2 : (((us.map V.str).length : Nat) : Int) - 1 - (p.2 : Nat) = ((us.length - 1 - p.2 : Nat) : Int) := by rw [List.length_map]; omega
        refine ⟨t, _, rfl, .inl (.inl (g10 _ _ (fun z => z) et)), rfl, _, _, rfl, _, _, rfl, rfl, rfl, .ref a, rfl, a, _, rfl, .inl (SaG g10), _, _, rfl, rfl, .int (p.1 : Nat), rfl, _, _, rfl, rfl, .ref b, rfl, b, _, rfl, .inl (SbG g10), _, _, rfl, rfl, .int (p.2 : Nat), rfl, _, _, rfl, rfl, by show 2 ≤ sizeLine; decide, fun tt htt => ?_⟩
        dsimp only
        rw [e1, e2]
        have k11 : Ke D0 H10 (upd H10 tt (.tup [V.int (ts.length - 1 - p.1 : Nat), .int (us.length - 1 - p.2 : Nat)])) := Ke.rfl'.new htt
        have D11 := k11 _ _ (fun z => z) D10
        have t11 : PrAt (upd H10 tt (.tup [V.int (ts.length - 1 - p.1 : Nat), .int (us.length - 1 - p.2 : Nat)])) (.ref tt) (fl ts.length us.length p) := ⟨tt, rfl, upd_same⟩
        have p11 := pa_.ke0 k11
        have g11 := g10.trans k11
        generalize upd H10 tt (.tup [V.int (ts.length - 1 - p.1 : Nat), .int (us.length - 1 - p.2 : Nat)]) = H11 at D11 t11 p11 g11 ⊢
        have jl := (List.getElem?_eq_some_iff.mp hx).1
        refine ⟨acc, D11, sL (by have := xl9; omega), g11.put hD, _, upd_same, by rw [List.length_append, al]; rfl, ?_⟩
        rw [List.take_add_one, hp, List.map_append]
        exact PrL.app (p11.updL D11) (.one (by
          obtain ⟨t', e3, e4⟩ := t11
          exact ⟨t', e3, (upd_ne (fun z => by rw [z, D11] at e4; cases e4)).trans e4⟩))
      · rintro H10 ⟨g10, acc, D10, al, pa_⟩
        rw [Paired.length pC, List.take_length] at pa_
        refine ⟨D, acc, _, rfl, .inl (.inl D10), pa_, fun ys qs p6 pm pw pq hp6 => ?_⟩
        have eqs : qs = (grid ts.length us.length).filter fun p => decide (Sn PP ts.length us.length p = Mx PP ts.length us.length - r) := by
          rw [← es]
          exact (uniq ((pm.trans (elR ▸ sel_perm)).symm) ((grid_sorted ..).filter _) pw).symm
        have k11 : Ke D0 H9 (upd H10 p6 (.lst ys)) := g10.new hp6
        have e11 : (upd H10 p6 (.lst ys)) p6 = some (.lst ys) := upd_same
        have q11 := pq.ke0 (Ke.rfl'.new (o := .lst ys) hp6)
        have n6 : p6 ≠ L := fun z => by
          have := g10 _ _ (fun z => z) L9
          rw [← z, hp6] at this
          cases this
        generalize upd H10 p6 (.lst ys) = H11 at k11 e11 q11 ⊢
        have L11 := k11 _ _ (fun z => z) L9
        have p11 := p9.ke0 k11
        have g11 : Ke (· = L) H3 H11 := g9.trans k11.up
        subst eqs
        refine ⟨.ref p6, rfl, p6, rfl, ⟨ys, .inl (.inl e11)⟩, ?_⟩
        refine for_list (K := K) (a := p6) (xs := ys) (fun j σ H12 => ∃ (y4 y5 : Option V), σ = [some (.ref a), some (.ref b), some (.ref L), some (.ref C), y4, y5, some (.ref p6)] ∧ Ke D0 H11 H12 ∧ ∀ q ∈ ((grid ts.length us.length).filter fun p => decide (Sn PP ts.length us.length p = Mx PP ts.length us.length - r)).take j, okBehind (kseq PP ts.length us.length r) q = false) ?_ ?_ ?_ ?_
        · exact ⟨_, _, rfl, Ke.rfl', fun q hq => by rw [List.take_zero] at hq; cases hq⟩
        · rintro j σ H12 hj ⟨_, _, _, k12, _⟩
          exact .inl (.inl (k12 _ _ (fun z => z) e11))
        · rintro j x σ H12 hx ⟨y4, y5, rfl, k12, hno⟩
          obtain ⟨p, hp, t, rfl, et⟩ := pr_get q11 hx
          have L12 := k12 _ _ (fun z => z) L11
          have p12 := p11.ke0 k12
          have g12 : Ke (· = L) H3 H12 := g11.trans k12.up
          refine ⟨t, _, rfl, .inl (.inl (k12 _ _ (fun z => z) et)), rfl, _, _, rfl, _, _, rfl, rfl, ?_⟩
          have nxt : okBehind (kseq PP ts.length us.length r) p = false → ∀ q ∈ ((grid ts.length us.length).filter fun p => decide (Sn PP ts.length us.length p = Mx PP ts.length us.length - r)).take (j + 1), okBehind (kseq PP ts.length us.length r) q = false := fun h q hq => by
            rw [List.take_add_one, hp] at hq
            rcases List.mem_append.mp hq with hq | hq
            · exact hno q hq
            · obtain rfl := List.mem_singleton.mp hq
              exact h
          refine ⟨.ref L, rfl, !xs.isEmpty, .inl ⟨xs, .inl (.inl L12), rfl⟩, ite2 (fun e => iteT ?yes1) (fun e => ?more)⟩
          case yes1 =>
            have hok : okBehind (kseq PP ts.length us.length r) p = true := by
              have : xs = [] := by
                cases xs with
                | nil => rfl
                | cons x xs => cases e
              rw [this] at p12
              have : kseq PP ts.length us.length r = [] := List.eq_nil_of_length_eq_zero (Paired.length p12).symm
              rw [this]
              rfl
            have fnd : ((grid ts.length us.length).filter fun p => decide (Sn PP ts.length us.length p = Mx PP ts.length us.length - r)).find? (okBehind (kseq PP ts.length us.length r)) = some p := find_at hno hp hok
            refine ⟨.ref L, rfl, .inl ⟨rfl, _, .inl (.inl L12)⟩, .int (p.1 : Nat), rfl, .int (p.2 : Nat), rfl, by show 2 ≤ sizeLine; decide, fun tt htt => ?_⟩
            have k13 : Ke D0 H12 (upd H12 tt (.tup [V.int (p.1 : Nat), .int (p.2 : Nat)])) := Ke.rfl'.new htt
            have L13 := k13 _ _ (fun z => z) L12
            have t13 : PrAt (upd H12 tt (.tup [V.int (p.1 : Nat), .int (p.2 : Nat)])) (.ref tt) p := ⟨tt, rfl, upd_same⟩
            have p13 := p12.ke0 k13
            have g13 := g12.trans k13.up
            generalize upd H12 tt (.tup [V.int (p.1 : Nat), .int (p.2 : Nat)]) = H13 at L13 t13 p13 g13 ⊢
            refine ⟨L, _, _, rfl, rfl, L13, sL (by have := Paired.length p13; have := kseq_len (P := PP) (n := ts.length) (m := us.length) (r := r); omega), ?_⟩
            refine ⟨_, _, _, _, _, rfl, g13.set rfl, upd_same, ?_⟩
            show PrL _ _ (A1.stepK PP ts.length us.length (kseq PP ts.length us.length r) (Mx PP ts.length us.length - r))
            unfold A1.stepK
            rw [fnd]
            exact PrL.app (p13.updL L13) (.one (by
              obtain ⟨t', e3, e4⟩ := t13
              exact ⟨t', e3, (upd_ne (fun z => by rw [z, L13] at e4; cases e4)).trans e4⟩))
          case more =>
            have ne : xs.isEmpty = false := by
              cases h : xs.isEmpty with
              | false => rfl
              | true => rw [h] at e; exact absurd rfl e
            obtain ⟨tl, ql, h1, h2, h3, h4⟩ := prl_last p12 ne
            have eok : okBehind (kseq PP ts.length us.length r) p = (decide (ql.1 < p.1) && decide (ql.2 < p.2)) := by
              unfold okBehind
              rw [h3]
            have ixl : atI xs (-1) = some (.ref tl) := at_m1 h1 h4
            refine ⟨.int (p.1 : Nat), rfl, .ref L, rfl, 1, rfl, L, xs, -1, .ref tl, rfl, rfl, .inl (.inl L12), ixl, tl, _, 0, .int (ql.1 : Nat), rfl, rfl, .inl (.inl h2), atI_nat (j := 0) rfl, _, _, rfl, rfl, _, rfl, ite2 (fun e2 => ?snd) (fun e2 => iteF ?no1)⟩
            case no1 =>
              have z := of_decide_eq_false (Bool.eq_false_iff.mpr e2)
              exact ⟨_, _, rfl, k12, nxt (by rw [eok, decide_eq_false (by omega), Bool.false_and])⟩
            case snd =>
              refine ⟨.int (p.2 : Nat), rfl, .ref L, rfl, 1, rfl, L, xs, -1, .ref tl, rfl, rfl, .inl (.inl L12), ixl, tl, _, 1, .int (ql.2 : Nat), rfl, rfl, .inl (.inl h2), atI_nat (j := 1) rfl, _, _, rfl, rfl, _, rfl, ite2 (fun e3 => ?yes2) (fun e3 => ?no2)⟩
              case no2 =>
                have z := of_decide_eq_false (Bool.eq_false_iff.mpr e3)
                exact ⟨_, _, rfl, k12, nxt (by rw [eok, decide_eq_false (p := ql.2 < p.2) (by omega), Bool.and_false])⟩
              case yes2 =>
                have hok : okBehind (kseq PP ts.length us.length r) p = true := by
                  have z1 := of_decide_eq_true e2
                  have z2 := of_decide_eq_true e3
                  rw [eok, decide_eq_true (p := ql.1 < p.1) (by omega), decide_eq_true (p := ql.2 < p.2) (by omega)]
                  rfl
                have fnd : ((grid ts.length us.length).filter fun p => decide (Sn PP ts.length us.length p = Mx PP ts.length us.length - r)).find? (okBehind (kseq PP ts.length us.length r)) = some p := find_at hno hp hok
                refine ⟨.ref L, rfl, .inl ⟨rfl, _, .inl (.inl L12)⟩, .int (p.1 : Nat), rfl, .int (p.2 : Nat), rfl, by show 2 ≤ sizeLine; decide, fun tt htt => ?_⟩
                have k13 : Ke D0 H12 (upd H12 tt (.tup [V.int (p.1 : Nat), .int (p.2 : Nat)])) := Ke.rfl'.new htt
                have L13 := k13 _ _ (fun z => z) L12
                have t13 : PrAt (upd H12 tt (.tup [V.int (p.1 : Nat), .int (p.2 : Nat)])) (.ref tt) p := ⟨tt, rfl, upd_same⟩
                have p13 := p12.ke0 k13
                have g13 := g12.trans k13.up
                generalize upd H12 tt (.tup [V.int (p.1 : Nat), .int (p.2 : Nat)]) = H13 at L13 t13 p13 g13 ⊢
                refine ⟨L, _, _, rfl, rfl, L13, sL (by have := Paired.length p13; have := kseq_len (P := PP) (n := ts.length) (m := us.length) (r := r); omega), ?_⟩
                refine ⟨_, _, _, _, _, rfl, g13.set rfl, upd_same, ?_⟩
                show PrL _ _ (A1.stepK PP ts.length us.length (kseq PP ts.length us.length r) (Mx PP ts.length us.length - r))
                unfold A1.stepK
                rw [fnd]
                exact PrL.app (p13.updL L13) (.one (by
                  obtain ⟨t', e3, e4⟩ := t13
                  exact ⟨t', e3, (upd_ne (fun z => by rw [z, L13] at e4; cases e4)).trans e4⟩))
        · rintro σ H12 ⟨y4, y5, rfl, k12, hno⟩
          refine ⟨_, _, _, _, xs, rfl, g11.trans k12.up, k12 _ _ (fun z => z) L11, ?_⟩
          show PrL _ _ (A1.stepK PP ts.length us.length (kseq PP ts.length us.length r) (Mx PP ts.length us.length - r))
          have fn : ((grid ts.length us.length).filter fun p => decide (Sn PP ts.length us.length p = Mx PP ts.length us.length - r)).find? (okBehind (kseq PP ts.length us.length r)) = none := by
            refine List.find?_eq_none.mpr fun q hq => ?_
            have ly := Paired.length q11
            rw [ly, List.take_length] at hno
            rw [hno q hq]
            exact Bool.false_ne_true
          unfold A1.stepK
          rw [fn]
          exact p11.ke0 k12
    · rintro σ H9 ⟨y3, y4, y5, y6, xs, rfl, g9, L9, p9⟩
      rw [List.length_map, asl, kseq_end] at p9
      exact ⟨.ref L, rfl, q H9 L xs (fun b o _ e => g9 b o (ne_of_none e hL) (G3 b o (fun z => z) e)) hL L9 p9⟩
end
end K1
set_option Elab.async false
set_option linter.all false
set_option maxRecDepth 100000
set_option maxHeartbeats 1600000
/-! The program's defs least_change, least_cost; the law's drawing defs. -/
namespace K1
open PySem PySem.Spec PyProof.Rows L2 A1
section
variable {P : Program} {w : World} {K : PySem.W.Frag} {mg : Str → Option Value} {base : Heap}
/-- what least_change tells -/
def Chg (P : Nat → Nat → Bool) (n m : Nat) (H0 H : Hp) (t : Addr) : Prop := ∃ (L W : Addr) (xs : List V) (H1 : Hp), H0 t = none ∧ H t = some (.tup [.ref L, .ref W]) ∧ Ke D0 H0 H1 ∧ H0 L = none ∧ H1 L = some (.lst xs) ∧ PrL H1 xs (keptOf P n m) ∧ Ke D0 H1 H ∧ Lvs H1 H W (levels P n m)
def spLC (K : PySem.W.Frag) : Sp := fun vs H Q _ => ∃ (a b : Addr) (ts us : List Str), vs = [.ref a, .ref b] ∧ SqL K H a (ts.map V.str) ∧ SqL K H b (us.map V.str) ∧ ts.length ≤ 100 ∧ us.length ≤ 100 ∧
  ∀ H' t, Ke D0 H H' → Chg (like ts us) ts.length us.length H H' t → Q (.ref t) H'
theorem ok_lchange {f : Addr} {fd : FuncData} {k : Nat} (F : Fun K "least_change" "least_change" sLeastChange f fd) (cK : Cal P w K mg base k "_kept" ["rows", "others"] (spKept K)) (cL : Cal P w K mg base k "_levels" ["rows", "others"] (spLevels K)) : FnOk P w K mg base CX0 (k + 1) f fd ["rows", "others"] (spLC K) := by
  refine F.ok scLeastChange (fun vs H Q E h => ?_) (fun cdv A outer s H vs Q E hr h => ?_)
  · obtain ⟨a, b, ts, us, rfl, _⟩ := h
    rfl
  · obtain ⟨a, b, ts, us, rfl, Sa, Sb, lt, lu, q⟩ := h
    refine ⟨_, (pss_one (ps_ret (pe_tup (pa_cons (pe_cal cK hr (by rfl) (pa_cons (pv 0) (pa_cons (pv 1) pa_nil))) (pa_cons (pe_cal cL hr (by rfl) (pa_cons (pv 0) (pa_cons (pv 1) pa_nil))) pa_nil))))), ?_⟩
    refine ⟨.ref a, rfl, .ref b, rfl, a, b, ts, us, rfl, Sa, Sb, lt, lu, fun H1 L xs g1 nL L1 p1 => ?_⟩
    refine ⟨.ref a, rfl, .ref b, rfl, a, b, ts, us, rfl, g1.seqL0 Sa, g1.seqL0 Sb, lt, lu, fun H2 W g2 lv => ⟨by show 2 ≤ sizeLine; decide, fun t ht => ?_⟩⟩
    have k3 : Ke D0 H2 (upd H2 t (.tup [.ref L, .ref W])) := Ke.rfl'.new ht
    refine q _ t ((g1.trans g2).trans k3) ⟨L, W, xs, H1, (g1.trans g2).free (fun z => z) ht, upd_same, g1, nL, L1, p1, g2.trans k3, lv.ke0 k3⟩
def spCost (K : PySem.W.Frag) : Sp := fun vs H Q _ => ∃ (a b : Addr) (ts us : List Str), vs = [.ref a, .ref b] ∧ SqL K H a (ts.map V.str) ∧ SqL K H b (us.map V.str) ∧ ts.length ≤ 100 ∧ us.length ≤ 100 ∧
  ∀ H', Ke D0 H H' → Q (.int ((ts.length : Nat) + (us.length : Nat) - 2 * (Mx (like ts us) ts.length us.length : Nat))) H'
theorem ok_lcost {f : Addr} {fd : FuncData} {k : Nat} (F : Fun K "least_cost" "least_cost" sLeastCost f fd) (M : Mg mg) (cL : Cal P w K mg base k "_levels" ["rows", "others"] (spLevels K)) : FnOk P w K mg base CX0 (k + 1) f fd ["rows", "others"] (spCost K) := by
  refine F.ok scLeastCost (fun vs H Q E h => ?_) (fun cdv A outer s H vs Q E hr h => ?_)
  · obtain ⟨a, b, ts, us, rfl, _⟩ := h
    rfl
  · obtain ⟨a, b, ts, us, rfl, Sa, Sb, lt, lu, q⟩ := h
    refine ⟨_, (pss_one (ps_ret (pe_op op_sub (pe_op op_add (pe_callB call_len_seq (by rfl) M.len_ PySem.boot_len (pa_cons (pv 0) pa_nil)) (pe_callB call_len_seq (by rfl) M.len_ PySem.boot_len (pa_cons (pv 1) pa_nil))) (pe_op op_mul pe_int (pe_callB call_len_seq (by rfl) M.len_ PySem.boot_len (pa_cons (pe_cal cL hr (by rfl) (pa_cons (pv 0) (pa_cons (pv 1) pa_nil))) pa_nil)))))), ?_⟩
    refine ⟨.ref a, rfl, a, _, rfl, .inl Sa, .ref b, rfl, b, _, rfl, .inl Sb, _, _, rfl, rfl, .ref a, rfl, .ref b, rfl, a, b, ts, us, rfl, Sa, Sb, lt, lu, fun H2 W g2 lv => ?_⟩
    obtain ⟨as, eW, _, _, ix⟩ := lv
    have al : as.length = Mx (like ts us) ts.length us.length := by
      have := ix.1
      unfold levels at this
      rw [List.length_map, List.length_range] at this
      exact this
    refine ⟨W, _, rfl, .inl (.inl (.inl eW)), _, _, rfl, rfl, .inl (by decide), _, _, rfl, rfl, ?_⟩
    have q2 := q H2 g2
    rw [List.length_map, List.length_map, List.length_map, al]
    exact q2

/-! ### the drawing -/
/-- what the law keeps of its drawing -/
def stM (S : Addr) (k : Nat) (R : Addr) : List (Key × V) := [(.inr ("script" : Str), .ref S), (.inr ("at" : Str), .int (k : Nat)), (.inr ("rest" : Str), .ref R)]
/-- the script at S, which is not the list at R -/
def Scr (K : PySem.W.Frag) (H : Hp) (S R : Addr) (xs : List V) : Prop := (H S = some (.lst xs) ∧ S ≠ R) ∨ (∃ u, H S = some (.frz u (.lst xs)) ∧ S ≠ R) ∨ ∀ H', SqL K H' S xs
theorem Scr.sq {H : Hp} {S R : Addr} {xs : List V} (h : Scr K H S R xs) : SqL K H S xs := by
  rcases h with ⟨h, _⟩ | ⟨u, h, _⟩ | h
  · exact .inl (.inl h)
  · exact .inl (.inr ⟨u, h⟩)
  · exact h H
theorem Scr.of {H : Hp} {S R : Addr} {xs : List V} (h : SqL K H S xs) (hR : H R = none) : Scr K H S R xs := by
  rcases h with (e | ⟨u, e⟩) | h
  · exact .inl ⟨e, ne_of_none e hR⟩
  · exact .inr (.inl ⟨u, e, ne_of_none e hR⟩)
  · exact .inr (.inr fun H' => .inr h)
theorem Scr.ke {H H' : Hp} {D : Addr → Prop} {S R : Addr} {xs : List V} (h : Scr K H S R xs) (nd : ∀ b, D b → b = R ∨ ∃ kvs, H b = some (.dK kvs)) (g : Ke D H H') : Scr K H' S R xs := by
  rcases h with ⟨h, ne⟩ | ⟨u, h, ne⟩ | h
  · refine .inl ⟨g S _ (fun z => ?_) h, ne⟩
    rcases nd S z with z | ⟨kvs, z⟩
    · exact ne z
    · rw [h] at z
      cases z
  · refine .inr (.inl ⟨u, g S _ (fun z => ?_) h, ne⟩)
    rcases nd S z with z | ⟨kvs, z⟩
    · exact ne z
    · rw [h] at z
      cases z
  · exact .inr (.inr h)
structure MS (K : PySem.W.Frag) (H : Hp) (m S R : Addr) (k n : Nat) : Prop where
  m : H m = some (.dK (stM S k R))
  s : ∃ cells : List Int, Scr K H S R (cells.map V.int) ∧ cells.length = n
  r : ∃ rest : List Int, H R = some (.lst (rest.map V.int)) ∧ rest.length = n
  few : n ≤ 64
theorem st_s (S : Addr) (k : Nat) (R : Addr) : valV (stM S k R) (.inr ("script" : Str)) = some (.ref S) := by rfl
theorem st_a (S : Addr) (k : Nat) (R : Addr) : valV (stM S k R) (.inr ("at" : Str)) = some (.int (k : Nat)) := by rfl
theorem st_r (S : Addr) (k : Nat) (R : Addr) : valV (stM S k R) (.inr ("rest" : Str)) = some (.ref R) := by rfl
theorem st_put (S : Addr) (k : Nat) (R : Addr) (j : Nat) : putK (stM S k R) (Sum.inr ("at" : Str) : Key) (.int (j : Nat)) = stM S j R := by rfl
theorem twI {A G : Int → Hp → Prop} {P : Prop} (h : ∀ z H2, A z H2 → G z H2) (use : (∀ z H2, A z H2 → G z H2) → P) : P := use h
theorem shp_ints : ∀ ns : List Int, SeqAt.shaped (.list (ns.map PyData.int)) = true := fun ns => by
  have a : ∀ ns : List Int, PyData.canLayAll0 (ns.map PyData.int) = true := fun ns => by
    induction ns with
    | nil => rfl
    | cons n ns ih =>
      show ((PyData.int n).canLay0 && PyData.canLayAll0 (ns.map PyData.int)) = true
      rw [ih]
      rfl
  have b : ∀ ns : List Int, PyData.depthAll (ns.map PyData.int) = 0 := fun ns => by
    induction ns with
    | nil => rfl
    | cons n ns ih =>
      show max (PyData.int n).depth (PyData.depthAll (ns.map PyData.int)) = 0
      rw [ih]
      rfl
  show (PyData.canLayAll0 (ns.map PyData.int) && decide (PyData.depthAll (ns.map PyData.int) + 1 ≤ 64)) = true
  rw [a, b]
  rfl
theorem dp_ints {H : Hp} : ∀ ns : List Int, DpAll K H (ns.map V.int) (ns.map PyData.int)
  | [] => .nil
  | n :: ns => .cons (.int n) (dp_ints ns)
theorem ne_ints (ns : List Int) : (!PyData.eqv (.list (ns.map PyData.int)) (.list [])) = !ns.isEmpty := by
  cases ns <;> rfl
theorem ms_put {H : Hp} {m S R : Addr} {k : Nat} (e : H m = some (.dK (stM S k R))) : DPut H m (.str "at") (.int ((k : Nat) + 1)) (upd H m (.dK (stM S (k + 1) R))) := by
  have z := DPut.k (k := .inr ("at" : Str)) (v := .int ((k + 1 : Nat) : Int)) e (by show 3 < sizeLine; decide)
  rw [st_put] at z
  exact z
theorem MS.scr {H : Hp} {m S R : Addr} {k n : Nat} {xs : List V} (ms : MS K H m S R k n) (Sc : Scr K H S R xs) {H' : Hp} (g : Ke (fun b => b = m ∨ b = R) H H') : Scr K H' S R xs :=
  Sc.ke (fun b z => z.elim (fun z => .inr ⟨_, by rw [z]; exact ms.m⟩) .inl) g
theorem MS.ke0 {H H' : Hp} {m S R : Addr} {k n : Nat} (ms : MS K H m S R k n) (g : Ke D0 H H') : MS K H' m S R k n := by
  obtain ⟨cells, Sc, cl⟩ := ms.s
  obtain ⟨rest, eR, rl⟩ := ms.r
  exact ⟨g _ _ (fun z => z) ms.m, ⟨cells, Sc.ke (fun b z => z.elim) g, cl⟩, ⟨rest, g _ _ (fun z => z) eR, rl⟩, ms.few⟩
def spDr (K : PySem.W.Frag) : Sp := fun vs H Q _ => ∃ (m S R : Addr) (k n : Nat) (j : Int), vs = [.ref m, .int j] ∧ MS K H m S R k n ∧ k ≤ 1000000 ∧ 0 < j ∧ j ≤ 1000 ∧
  ∀ H' r, Ke (fun b => b = m ∨ b = R) H H' → MS K H' m S R (k + 1) n → 0 ≤ r → r < j → Q (.int r) H'
theorem ok_dr {f : Addr} {fd : FuncData} {k : Nat} (F : Fun K "_law_draw" "_law_draw" sDraw f fd) (M : Mg mg) : FnOk P w K mg base CX0 (k + 1) f fd ["_law_m", "_law_many"] (spDr K) := by
  refine F.ok scDraw (fun vs H Q E h => ?_) (fun cdv A outer s H vs Q E hr h => ?_)
  · obtain ⟨m, S, R, k, n, j, rfl, _⟩ := h
    rfl
  · obtain ⟨m, S, R, k, n, j, rfl, ms, kk, j0, j1, q⟩ := h
    have hu := hu_of hr
    refine ⟨_, (pss_cons (ps_set (i := 2) scDraw.nd rfl (.inl rfl) (pe_dget hu (pv 0) pe_str (fun _ _ => rfl)))
      (pss_cons (ps_dput hu (pv 0) pe_str (pe_op op_add (pv 2) pe_int) rfl)
      (pss_cons (ps_set (i := 3) scDraw.nd rfl (.inl rfl) (pe_dget hu (pv 0) pe_str (fun _ _ => rfl)))
      (pss_cons (ps_set (i := 4) scDraw.nd rfl (.inl rfl) (pe_ifExp (pt_cmpR (op_neD hr.units) (pe_dget hu (pv 0) pe_str (fun _ _ => rfl)) (pe_lst pa_nil) (nomark _)) (pe_ix ix_list (pe_dget hu (pv 0) pe_str (fun _ _ => rfl)) (pe_op op_mod (pv 2) (pe_callB call_len_seq (by rfl) M.len_ PySem.boot_len (pa_cons (pv 3) pa_nil))) (fun _ _ => rfl)) pe_int))
      (pss_cons (ps_if (pt_cmpR op_gt (pv 4) pe_int (nomark _))
      (pss_cons (ps_asg (pe_op op_fdivN (pv 4) (pv 1)) (pg_sub (pe_dget hu (pv 0) pe_str (fun _ _ => rfl)) (pe_op op_mod (pv 2) (pe_callB call_len_seq (by rfl) M.len_ PySem.boot_len (pa_cons (pv 3) pa_nil))) set_list))
      (pss_one (ps_ret (pe_op op_mod (pv 4) (pv 1)))))
      pss_nil)
      (pss_cons (ps_set (i := 5) scDraw.nd rfl (.inl rfl) (pe_ifExp (pt_cmpR (op_neD hr.units) (pv 3) (pe_lst pa_nil) (nomark _)) (pe_ix ix_list (pv 3) (pe_op op_mod (pv 2) (pe_callB call_len_seq (by rfl) M.len_ PySem.boot_len (pa_cons (pv 3) pa_nil))) (fun _ _ => rfl)) pe_int))
      (pss_cons (ps_set (i := 6) scDraw.nd rfl (.inl rfl) (pe_op op_mod (pe_op op_add (pe_op op_add (pe_op op_mul (pe_op op_mod (pv 5) pe_int) pe_int) (pe_op op_mul (pe_op op_mul pe_int (pv 2)) (pv 2))) pe_int) pe_int))
      (pss_cons (ps_set (i := 6) scDraw.nd rfl (.inl rfl) (pe_op op_mod (pe_op op_mul (pv 6) (pe_op op_add pe_int (pe_op op_mul pe_int (pv 2)))) pe_int))
      (pss_one (ps_ret (pe_op op_mod (pe_op op_fdiv (pe_op op_mod (pe_op op_mul (pv 6) (pv 6)) pe_int) pe_int) (pv 1)))))))))))), ?_⟩
    obtain ⟨cells, Sc, cl⟩ := ms.s
    obtain ⟨rest, eR, rl⟩ := ms.r
    have nmR : m ≠ R := fun z => by
      have := ms.m
      rw [z, eR] at this
      cases this
    have few := ms.few
    refine ⟨.ref m, rfl, m, _, rfl, st_a S k R ▸ DGet.k (k := .inr ("at" : Str)) ms.m, ?_⟩
    refine ⟨.int (k : Nat), rfl, _, _, rfl, rfl, .ref m, rfl, m, _, rfl, ms_put ms.m, ?_⟩
    have g1 : Ke (fun b => b = m ∨ b = R) H (upd H m (.dK (stM S (k + 1) R))) := Ke.rfl'.set (.inl rfl)
    have m1 : (upd H m (.dK (stM S (k + 1) R))) m = some (.dK (stM S (k + 1) R)) := upd_same
    have R1 := (upd_ne (o := .dK (stM S (k + 1) R)) nmR.symm).trans eR
    have keepS : ∀ {H' : Hp}, Ke (fun b => b = m ∨ b = R) H H' → SqL K H' S (cells.map V.int) := fun g => (ms.scr Sc g).sq
    generalize upd H m (.dK (stM S (k + 1) R)) = H1 at g1 m1 R1 ⊢
    have ds : DGet H1 m (.str "script") (some (.ref S)) := st_s S (k + 1) R ▸ DGet.k (k := .inr ("script" : Str)) m1
    have dr : ∀ {H' : Hp}, H' m = some (.dK (stM S (k + 1) R)) → DGet H' m (.str "rest") (some (.ref R)) := fun e => st_r S (k + 1) R ▸ DGet.k (k := .inr ("rest" : Str)) e
    refine ⟨.ref m, rfl, m, _, rfl, ds, ?_⟩
    have ixk : ∀ {ns : List Int}, ns.length = n → ∀ v, ns[k % n]? = some v → atI (ns.map V.int) (((k : Nat) : Int) % (((cells.map V.int).length : Nat) : Int)) = some (.int v) := fun {ns} hl v hv => by
      rw [List.length_map, cl]
      exact atI_nat (j := k % n) (by rw [List.getElem?_map, hv]; rfl)
    -- what is left of this cell
    have lp : 0 < n → (0 : Int) < (((cells.map V.int).length : Nat) : Int) := fun h => by
      rw [List.length_map, cl]
      omega
    apply twI (A := fun v H2 => Ke (fun b => b = m ∨ b = R) H H2 ∧ H2 m = some (.dK (stM S (k + 1) R)) ∧ H2 R = some (.lst (rest.map V.int)) ∧ (0 < v → 0 < n))
    case use =>
      intro rest_
      refine ⟨.ref m, rfl, m, _, rfl, dr m1, Nat.zero_le _, fun L hL => ?_⟩
      have g2 := g1.new (o := .lst []) hL
      have m2 := (upd_ne (o := .lst []) (ne_of_none m1 hL)).trans m1
      have R2 := (upd_ne (o := .lst []) (ne_of_none R1 hL)).trans R1
      have L2 : (upd H1 L (.lst [])) L = some (.lst []) := upd_same
      generalize upd H1 L (.lst []) = H2 at g2 m2 R2 L2 ⊢
      refine ⟨.list (rest.map PyData.int), .list [], .lst (.inl (.inl R2)) (dp_ints rest), .lst (.inl (.inl L2)) .nil, shp_ints rest, by decide, ?_⟩
      rw [ne_ints]
      refine ⟨_, rfl, ite2 (fun e => ?some_) (fun e => ?none_)⟩
      case some_ =>
        have h0 : 0 < n := by
          rw [← rl]
          cases rest with
          | nil => cases e
          | cons x r => exact Nat.succ_pos _
        obtain ⟨v, hv⟩ : ∃ v, rest[k % n]? = some v := ⟨_, List.getElem?_eq_getElem (by rw [rl]; exact Nat.mod_lt _ h0)⟩
        refine ⟨.ref m, rfl, m, _, rfl, dr m2, .int (k : Nat), rfl, .ref S, rfl, S, _, rfl, .inl (keepS g2), _, _, rfl, rfl, lp h0, R, _, _, .int v, rfl, rfl, .inl (.inl R2), ixk rl v hv, ?_⟩
        exact rest_ v H2 ⟨g2, m2, R2, fun _ => h0⟩
      case none_ => exact rest_ 0 H2 ⟨g2, m2, R2, fun z => absurd z (by decide)⟩
    case h =>
      rintro v H2 ⟨g2, m2, R2, hv0⟩
      refine ⟨.int v, rfl, _, _, rfl, rfl, _, rfl, ite2 (fun e => ?pos) (fun e => ?zero)⟩
      case pos =>
        have h0 : 0 < n := hv0 (by have := of_decide_eq_true e; omega)
        refine ⟨.int v, rfl, .int j, rfl, _, _, rfl, rfl, ⟨by omega, by omega⟩, .ref m, rfl, m, _, rfl, dr m2, .int (k : Nat), rfl, .ref S, rfl, S, _, rfl, .inl (keepS g2), _, _, rfl, rfl, lp h0, R, _, _, k % n, rfl, rfl, R2, ?_, ?_⟩
        · unfold ixN
          have hlt : k % n < n := Nat.mod_lt _ h0
          have e1 : ((k : Nat) : Int) % (((cells.map V.int).length : Nat) : Int) = ((k % n : Nat) : Int) := by
            rw [List.length_map, cl]
            omega
          rw [e1, if_pos (by omega), if_pos (by rw [List.length_map, rl]; omega), Int.toNat_natCast]
        · have g3 : Ke (fun b => b = m ∨ b = R) H (upd H2 R (.lst ((rest.map V.int).set (k % n) (.int (v.fdiv j))))) := g2.set (.inr rfl)
          refine ⟨.int v, rfl, .int j, rfl, _, _, rfl, rfl, j0, ?_⟩
          refine q _ _ g3 ⟨(upd_ne nmR).trans m2, ⟨cells, ms.scr Sc g3, cl⟩, ⟨rest.set (k % n) (v.fdiv j), ?_, by rw [List.length_set, rl]⟩, few⟩ (Int.emod_nonneg _ (by omega)) (Int.emod_lt_of_pos _ j0)
          rw [List.map_set]
          exact upd_same
      case zero =>
        apply twI (A := fun c H3 => Ke (fun b => b = m ∨ b = R) H H3 ∧ H3 m = some (.dK (stM S (k + 1) R)) ∧ H3 R = some (.lst (rest.map V.int)))
        case use =>
          intro rest_
          refine ⟨.ref S, rfl, Nat.zero_le _, fun L hL => ?_⟩
          have g3 := g2.new (o := .lst []) hL
          have m3 := (upd_ne (o := .lst []) (ne_of_none m2 hL)).trans m2
          have R3 := (upd_ne (o := .lst []) (ne_of_none R2 hL)).trans R2
          have L3 : (upd H2 L (.lst [])) L = some (.lst []) := upd_same
          generalize upd H2 L (.lst []) = H3 at g3 m3 R3 L3 ⊢
          refine ⟨.list (cells.map PyData.int), .list [], .lst (keepS g3) (dp_ints cells), .lst (.inl (.inl L3)) .nil, shp_ints cells, by decide, ?_⟩
          rw [ne_ints]
          refine ⟨_, rfl, ite2 (fun e => ?some_) (fun e => ?none_)⟩
          case some_ =>
            have h0 : 0 < n := by
              rw [← cl]
              cases cells with
              | nil => cases e
              | cons x r => exact Nat.succ_pos _
            obtain ⟨c, hv⟩ : ∃ c, cells[k % n]? = some c := ⟨_, List.getElem?_eq_getElem (by rw [cl]; exact Nat.mod_lt _ h0)⟩
            refine ⟨.ref S, rfl, .int (k : Nat), rfl, .ref S, rfl, S, _, rfl, .inl (keepS g3), _, _, rfl, rfl, lp h0, S, _, _, .int c, rfl, rfl, keepS g3, ixk cl c hv, ?_⟩
            exact rest_ c H3 ⟨g3, m3, R3⟩
          case none_ => exact rest_ 0 H3 ⟨g3, m3, R3⟩
        case h =>
          rintro c H3 ⟨g3, m3, R3⟩
          have a0 := Int.emod_nonneg c (show (2147483629 : Int) ≠ 0 by decide)
          have a1 := Int.emod_lt_of_pos c (show (0 : Int) < 2147483629 by decide)
          refine ⟨.int c, rfl, _, _, rfl, rfl, (show (0 : Int) < 2147483629 by decide), _, _, rfl, rfl, .inl ⟨by omega, by omega⟩, .int (k : Nat), rfl, _, _, rfl, rfl, .inl (by decide), .int (k : Nat), rfl, _, _, rfl, rfl, .inl ⟨by omega, by omega⟩, _, _, rfl, rfl, _, _, rfl, rfl, _, _, rfl, rfl, (show (0 : Int) < 2147483647 by decide), ?_⟩
          have b0 : ∀ z : Int, 0 ≤ z % 2147483647 := fun z => Int.emod_nonneg z (by decide)
          have b1 : ∀ z : Int, z % 2147483647 < 2147483647 := fun z => Int.emod_lt_of_pos z (by decide)
          refine ⟨_, rfl, .int (k : Nat), rfl, _, _, rfl, rfl, .inl (by decide), _, _, rfl, rfl, _, _, rfl, rfl, .inl ⟨by have := b0 (c % 2147483629 * 48271 + 69621 * (k : Nat) * (k : Nat) + 104729); omega, by have := b1 (c % 2147483629 * 48271 + 69621 * (k : Nat) * (k : Nat) + 104729); omega⟩, _, _, rfl, rfl, (show (0 : Int) < 2147483629 by decide), ?_⟩
          generalize (c % 2147483629 * 48271 + 69621 * ((k : Nat) : Int) * ((k : Nat) : Int) + 104729) % 2147483647 * (16807 + 2 * ((k : Nat) : Int)) = z
          have c0 := Int.emod_nonneg z (show (2147483629 : Int) ≠ 0 by decide)
          have c1 := Int.emod_lt_of_pos z (show (0 : Int) < 2147483629 by decide)
          refine ⟨_, rfl, _, rfl, _, _, rfl, rfl, .inl ⟨by omega, by omega⟩, _, _, rfl, rfl, (show (0 : Int) < 1000000007 by decide), _, _, rfl, rfl, ⟨by decide, by decide⟩, .int j, rfl, _, _, rfl, rfl, j0, ?_⟩
          exact q H3 _ g3 ⟨m3, ⟨cells, ms.scr Sc g3, cl⟩, ⟨rest, R3, rl⟩, few⟩ (Int.emod_nonneg _ (by omega)) (Int.emod_lt_of_pos _ j0)
end
end K1
set_option Elab.async false
set_option linter.all false
set_option maxRecDepth 100000
set_option maxHeartbeats 4000000
/-! Data of any depth, kept while the heap grows. -/
namespace K1
open PySem PySem.Spec PyProof.Rows L2

/-- G's sequences stand in H -/
def Sub (G H : Hp) : Prop := ∀ a o, G a = some o → (∃ xs, o = .lst xs ∨ o = .tup xs ∨ (∃ u, o = .frz u (.lst xs) ∨ o = .frz u (.tup xs))) → H a = some o
section
variable {G H G' : Hp}
theorem Sub.rfl' : Sub G G := fun _ _ e _ => e
theorem Sub.trans (h : Sub G H) (h' : Sub H G') : Sub G G' := fun a o e k => h' a o (h a o e k) k
theorem Sub.new {p : Addr} {o : HO} (h : H p = none) : Sub H (upd H p o) := fun a u e _ => by
  rw [upd_ne (ne_of_none e h)]
  exact e
theorem Sub.seqT {K : PySem.W.Frag} {a : Addr} {xs : List V} (h : Sub G H) (e : SqT K G a xs) : SqT K H a xs := by
  rcases e with (e | ⟨u, e⟩) | e
  · exact .inl (.inl (h _ _ e ⟨xs, .inr (.inl rfl)⟩))
  · exact .inl (.inr ⟨u, h _ _ e ⟨xs, .inr (.inr ⟨u, .inr rfl⟩)⟩⟩)
  · exact .inr e
theorem Sub.seqL {K : PySem.W.Frag} {a : Addr} {xs : List V} (h : Sub G H) (e : SqL K G a xs) : SqL K H a xs := by
  rcases e with (e | ⟨u, e⟩) | e
  · exact .inl (.inl (h _ _ e ⟨xs, .inl rfl⟩))
  · exact .inl (.inr ⟨u, h _ _ e ⟨xs, .inr (.inr ⟨u, .inl rfl⟩)⟩⟩)
  · exact .inr e
end
end K1
namespace L2
open PySem PySem.Spec PyProof.Rows
mutual
theorem Dp.sub {K : PySem.W.Frag} {G H : Hp} (h : K1.Sub G H) : ∀ (d : PyData) (v : V), Dp K G v d → Dp K H v d
  | .none, _, q => by cases q; exact .non
  | .bool b, _, q => by cases q; exact .bl b
  | .int i, _, q => by cases q; exact .int i
  | .str x, _, q => by cases q; exact .str x
  | .list ds, _, q => by
    cases q with
    | lst e a => exact .lst (h.seqL e) (Dp.subs h ds _ a)
  | .tuple ds, _, q => by
    cases q with
    | tup e a => exact .tup (h.seqT e) (Dp.subs h ds _ a)
  | .dict _, _, q => by cases q
theorem Dp.subs {K : PySem.W.Frag} {G H : Hp} (h : K1.Sub G H) : ∀ (ds : List PyData) (vs : List V), DpAll K G vs ds → DpAll K H vs ds
  | [], _, q => by cases q; exact .nil
  | d :: ds, _, q => by
    cases q with
    | cons a b => exact .cons (Dp.sub h d _ a) (Dp.subs h ds _ b)
end
section
variable {K : PySem.W.Frag} {H : Hp}
theorem DpAll.len : ∀ {vs : List V} {ds : List PyData}, DpAll K H vs ds → vs.length = ds.length
  | _, _, .nil => rfl
  | _, _, .cons _ b => congrArg (· + 1) (DpAll.len b)
theorem DpAll.at : ∀ {vs : List V} {ds : List PyData}, DpAll K H vs ds → ∀ {i : Nat} {d : PyData}, ds[i]? = some d → ∃ v, vs[i]? = some v ∧ Dp K H v d
  | _, _, .nil, _, _, e => by cases e
  | _, _, .cons a b, 0, _, e => by cases e; exact ⟨_, rfl, a⟩
  | _, _, .cons a b, i + 1, _, e => DpAll.at b (i := i) e
theorem DpAll.at' : ∀ {vs : List V} {ds : List PyData}, DpAll K H vs ds → ∀ {i : Nat} {v : V}, vs[i]? = some v → ∃ d, ds[i]? = some d ∧ Dp K H v d
  | _, _, .nil, _, _, e => by cases e
  | _, _, .cons a b, 0, _, e => by cases e; exact ⟨_, rfl, a⟩
  | _, _, .cons a b, i + 1, _, e => DpAll.at' b (i := i) e
theorem DpAll.app : ∀ {vs : List V} {ds : List PyData}, DpAll K H vs ds → ∀ {us : List V} {es : List PyData}, DpAll K H us es → DpAll K H (vs ++ us) (ds ++ es)
  | _, _, .nil, _, _, h => h
  | _, _, .cons a b, _, _, h => .cons a (DpAll.app b h)
theorem DpAll.one {v : V} {d : PyData} (h : Dp K H v d) : DpAll K H [v] [d] := .cons h .nil
theorem DpAll.take : ∀ {vs : List V} {ds : List PyData}, DpAll K H vs ds → ∀ n, DpAll K H (vs.take n) (ds.take n)
  | _, _, .nil, n => by rw [List.take_nil, List.take_nil]; exact .nil
  | _, _, .cons a b, 0 => .nil
  | _, _, .cons a b, n + 1 => .cons a (DpAll.take b n)
theorem DpAll.drop : ∀ {vs : List V} {ds : List PyData}, DpAll K H vs ds → ∀ n, DpAll K H (vs.drop n) (ds.drop n)
  | _, _, .nil, n => by rw [List.drop_nil, List.drop_nil]; exact .nil
  | _, _, .cons a b, 0 => .cons a b
  | _, _, .cons a b, n + 1 => DpAll.drop b n
theorem DpAll.mem : ∀ {vs : List V} {ds : List PyData}, DpAll K H vs ds → ∀ {v : V}, v ∈ vs → ∃ d ∈ ds, Dp K H v d
  | _, _, .cons a b, v, h => by
    rcases List.mem_cons.mp h with rfl | h
    · exact ⟨_, List.mem_cons_self .., a⟩
    · obtain ⟨d, m, q⟩ := DpAll.mem b h
      exact ⟨d, List.mem_cons_of_mem _ m, q⟩
theorem DpAll.rev : ∀ {vs : List V} {ds : List PyData}, DpAll K H vs ds → DpAll K H vs.reverse ds.reverse
  | _, _, .nil => .nil
  | _, _, .cons a b => by
    rw [List.reverse_cons, List.reverse_cons]
    exact (DpAll.rev b).app (.one a)
theorem Dp.tupI {v : V} {ds : List PyData} (h : Dp K H v (.tuple ds)) : ∃ a xs, v = .ref a ∧ SqT K H a xs ∧ DpAll K H xs ds := by
  cases h with
  | tup e a => exact ⟨_, _, rfl, e, a⟩
theorem Dp.lstI {v : V} {ds : List PyData} (h : Dp K H v (.list ds)) : ∃ a xs, v = .ref a ∧ SqL K H a xs ∧ DpAll K H xs ds := by
  cases h with
  | lst e a => exact ⟨_, _, rfl, e, a⟩
theorem Dp.strI {v : V} {x : Str} (h : Dp K H v (.str x)) : v = .str x := by
  cases h
  rfl
theorem Dp.intI {v : V} {i : Int} (h : Dp K H v (.int i)) : v = .int i := by
  cases h
  rfl
theorem DpAll.i1 {vs : List V} {a : PyData} (h : DpAll K H vs [a]) : ∃ x, vs = [x] ∧ Dp K H x a := by
  cases h with
  | cons h1 h2 =>
    cases h2
    exact ⟨_, rfl, h1⟩
theorem DpAll.i2 {vs : List V} {a b : PyData} (h : DpAll K H vs [a, b]) : ∃ x y, vs = [x, y] ∧ Dp K H x a ∧ Dp K H y b := by
  cases h with
  | cons h1 h2 =>
    obtain ⟨y, rfl, q⟩ := h2.i1
    exact ⟨_, _, rfl, h1, q⟩
theorem DpAll.i3 {vs : List V} {a b c : PyData} (h : DpAll K H vs [a, b, c]) : ∃ x y z, vs = [x, y, z] ∧ Dp K H x a ∧ Dp K H y b ∧ Dp K H z c := by
  cases h with
  | cons h1 h2 =>
    obtain ⟨y, z, rfl, q⟩ := h2.i2
    exact ⟨_, _, _, rfl, h1, q⟩
theorem DpAll.i4 {vs : List V} {a b c d : PyData} (h : DpAll K H vs [a, b, c, d]) : ∃ x y z u, vs = [x, y, z, u] ∧ Dp K H x a ∧ Dp K H y b ∧ Dp K H z c ∧ Dp K H u d := by
  cases h with
  | cons h1 h2 =>
    obtain ⟨y, z, u, rfl, q⟩ := h2.i3
    exact ⟨_, _, _, _, rfl, h1, q⟩
end

end L2
set_option Elab.async false
set_option linter.all false
set_option maxRecDepth 100000
set_option maxHeartbeats 1600000
/-! The law's defs _law_of, _law_started, _law_alike. -/
namespace K1
open PySem PySem.Spec PyProof.Rows L2 A1
theorem walk_zipT {K : PySem.W.Frag} {a b : Addr} {xs ys : List V} {n : Nat} (hn : xs.length = n ∧ ys.length = n) : Walk (RZ.ItzT K a b) n (fun H => SqT K H a xs ∧ SqT K H b ys) (YPair (fun i => xs[i]?) (fun i => ys[i]?)) where
  goes := fun i H hi q => ⟨xs, ys, xs[i]'(by omega), ys[i]'(by omega), q.1, q.2, List.getElem?_eq_getElem _, List.getElem?_eq_getElem _⟩
  stops := fun H q => ⟨xs, ys, q.1, q.2, by omega⟩
  yields := fun i H v H' _ q y => by
    obtain ⟨T, u, z, e1, e2, e3, e4, e5⟩ := y
    exact ⟨T, u, z, e1, e2, e3, e4 xs q.1, e5 ys q.2⟩
/-- data of lists, tuples and numbers, of some depth -/
def okA : Nat → PyData → Bool
  | 0, _ => false
  | _ + 1, .int _ => true
  | n + 1, .list ds => ds.all (okA n) && decide (ds.length ≤ 1000)
  | n + 1, .tuple ds => ds.all (okA n) && decide (ds.length ≤ 1000)
  | _ + 1, _ => false
section
variable {P : Program} {w : World} {K : PySem.W.Frag} {mg : Str → Option Value} {base : Heap}
theorem Dp.ke0 {H H' : Hp} (g : Ke D0 H H') : ∀ {d : PyData} {v : V}, Dp K H v d → Dp K H' v d := fun {d v} h => Dp.sub (fun a o e _ => g a o (fun z => z) e) d v h
theorem DpA.ke0 {H H' : Hp} (g : Ke D0 H H') : ∀ {ds : List PyData} {vs : List V}, DpAll K H vs ds → DpAll K H' vs ds := fun {ds vs} h => Dp.subs (fun a o e _ => g a o (fun z => z) e) ds vs h
def spOf (K : PySem.W.Frag) : Sp := fun vs H Q _ => ∃ (m S R : Addr) (k n : Nat) (l : Addr) (xs : List V), vs = [.ref m, .ref l] ∧ MS K H m S R k n ∧ k ≤ 1000000 ∧ H l = some (.lst xs) ∧ l ≠ R ∧ 0 < xs.length ∧ xs.length ≤ 1000 ∧
  ∀ (H' : Hp) (i : Nat) (v : V), Ke (fun b => b = m ∨ b = R) H H' → MS K H' m S R (k + 1) n → xs[i]? = some v → Q v H'
theorem ok_of {f : Addr} {fd : FuncData} {k : Nat} (F : Fun K "_law_of" "_law_of" sLOf f fd) (M : Mg mg) (cD : Cal P w K mg base k "_law_draw" ["_law_m", "_law_many"] (spDr K)) : FnOk P w K mg base CX0 (k + 1) f fd ["_law_m", "_law_some"] (spOf K) := by
  refine F.ok scLOf (fun vs H Q E h => ?_) (fun cdv A outer s H vs Q E hr h => ?_)
  · obtain ⟨m, S, R, k, n, l, xs, rfl, _⟩ := h
    rfl
  · obtain ⟨m, S, R, k, n, l, xs, rfl, ms, kk, el, nR, x0, x1, q⟩ := h
    refine ⟨_, (pss_one (ps_ret (pe_ix ix_list (pv 1) (pe_cal cD hr (by rfl) (pa_cons (pv 0) (pa_cons (pe_callB call_len_seq (by rfl) M.len_ PySem.boot_len (pa_cons (pv 1) pa_nil)) pa_nil))) (fun _ _ => rfl)))), ?_⟩
    refine ⟨.ref l, rfl, .ref m, rfl, .ref l, rfl, l, _, rfl, .inl (.inl (.inl el)), m, S, R, k, n, _, rfl, ms, kk, by omega, by omega, fun H' r g ms' r0 r1 => ?_⟩
    have nm : l ≠ m := fun z => by
      have := ms.m
      rw [← z, el] at this
      cases this
    obtain ⟨i, hi⟩ : ∃ i : Nat, r = (i : Nat) := ⟨r.toNat, by omega⟩
    subst hi
    obtain ⟨v, hv⟩ : ∃ v, xs[i]? = some v := ⟨_, List.getElem?_eq_getElem (by omega)⟩
    exact ⟨l, xs, _, v, rfl, rfl, .inl (.inl (g _ _ (fun z => z.elim nm nR) el)), atI_nat hv, q H' i v g ms' hv⟩
def spStarted (K : PySem.W.Frag) : Sp := fun vs H Q _ => ∃ (S : Addr) (cells : List Int), vs = [.ref S] ∧ SqL K H S (cells.map V.int) ∧ cells.length ≤ 64 ∧ ∀ H' m R, Ke D0 H H' → H m = none → H R = none → MS K H' m S R 0 cells.length → Q (.ref m) H'
theorem ok_started {f : Addr} {fd : FuncData} {k : Nat} (F : Fun K "_law_started" "_law_started" sLStarted f fd) (M : Mg mg) : FnOk P w K mg base CX0 (k + 1) f fd ["_law_script"] (spStarted K) := by
  refine F.ok scLStarted (fun vs H Q E h => ?_) (fun cdv A outer s H vs Q E hr h => ?_)
  · obtain ⟨S, cells, rfl, _⟩ := h
    rfl
  · obtain ⟨S, cells, rfl, Sc, cl, q⟩ := h
    refine ⟨_, (pss_one (ps_ret (pe_disp (pps_cons pe_str (pv 0) (pps_cons pe_str pe_int (pps_cons pe_str (pe_lc (own := [("_law_cell", 1)]) (g := gName 1) (tt := tYes) rfl scLStarted.nd (pi_list (pv 0)) (blkOk_by (N := ["_law_script", "_law_cell"]) (sc := defScope sLStarted) (by decide +kernel)) (fun _ _ _ _ _ => (pg_name (i := 1) scLStarted.nd rfl (Or.inl rfl))) (fun _ _ _ _ _ => pts_nil) (fun _ _ _ _ _ => (pe_op op_mul (pv 1) (pe_callTy call_int1 (by rfl) M.int_ boot_int (pa_cons (pe_cmpR op_ge (pv 1) (pe_op op_pow pe_int pe_int) (nomark _)) pa_nil))))) pps_nil))) (by rfl) (by rfl) (fun z => by cases z) (by decide)))), ?_⟩
    intro m hm
    have g1 : Ke D0 H (upd H m (.dK [])) := Ke.rfl'.new hm
    have m1 : (upd H m (.dK [])) m = some (.dK []) := upd_same
    generalize upd H m (.dK []) = H1 at g1 m1 ⊢
    refine ⟨.ref S, rfl, .ref S, rfl, S, rfl, ⟨_, g1.seqL0 Sc⟩, fun R hR => ?_⟩
    have hR0 : H R = none := g1.free (fun z => z) hR
    refine lc_list (K := K) (a := S) (xs := cells.map V.int) (fun j H2 => Ke D0 H1 H2 ∧ ∃ ns : List Int, H2 R = some (.lst (ns.map V.int)) ∧ ns.length = j) ?_ ?_ ?_ ?_
    · exact ⟨Ke.rfl'.new hR, [], upd_same, rfl⟩
    · rintro j H2 hj ⟨g2, _⟩
      exact (g1.trans g2).seqL0 Sc
    · rintro j x H2 hx ⟨g2, ns, R2, nl⟩
      have jl := (List.getElem?_eq_some_iff.mp hx).1
      rw [List.length_map] at jl
      rw [List.getElem?_map] at hx
      cases hc : cells[j]? with
      | none => rw [hc] at hx; cases hx
      | some c =>
        rw [hc] at hx
        cases hx
        refine ⟨rfl, .int c, rfl, .int c, rfl, 10, 18, rfl, rfl, ⟨by decide, by decide, by decide⟩, _, _, rfl, rfl, .inr ⟨_, rfl, _, _, rfl, rfl, .inr ?_, _, R2, sL (by rw [List.length_map]; omega), g2.put hR, ns ++ [c * (if decide ((10 : Int) ^ (18 : Int).toNat ≤ c) = true then 1 else 0)], ?_, by rw [List.length_append, nl]; rfl⟩⟩
        · split <;> decide
        · rw [upd_same, List.map_append]
          rfl
    · rintro H2 ⟨g2, ns, R2, nl⟩
      rw [List.length_map] at nl
      have m2 := g2 _ _ (fun z => z) m1
      refine ⟨m2, stM S 0 R, rfl, by show 3 ≤ 15; decide, ?_⟩
      have e : mergeK [] (stM S 0 R) = stM S 0 R := by rfl
      rw [e]
      have g3 : Ke D0 H (upd H2 m (.dK (stM S 0 R))) := (g1.trans g2).put hm
      refine q _ m R g3 hm hR0 ⟨upd_same, ⟨cells, (Scr.of Sc hR0).ke (fun b z => z.elim) g3, rfl⟩, ⟨ns, (upd_ne (fun z => by rw [z, m2] at R2; cases R2)).trans R2, nl⟩, cl⟩

theorem kTL {K : PySem.W.Frag} {n : String} {b c : Bool} (h1 : kitB n "tuple" = some b) (h2 : kitB n "list" = some c) : PySem.W.kitAny K (.type n) [.type "tuple", .type "list"] = some (b || c) := by
  refine kitAny_cons (kit_ty h1) (fun e => ?_) (fun e => by rw [e]; rfl)
  rw [e]
  refine kitAny_cons (kit_ty h2) (fun e => ?_) (fun e => by rw [e]; rfl)
  rw [e]
  rfl
def spAlike (K : PySem.W.Frag) (n : Nat) : Sp := fun vs H Q _ => ∃ (v u : V) (d : PyData), vs = [v, u] ∧ Dp K H v d ∧ Dp K H u d ∧ okA n d = true ∧ ∀ H', Ke D0 H H' → Q (.bl true) H'
theorem ok_alike0 {f : Addr} {fd : FuncData} {k : Nat} (F : Fun K "_law_alike" "_law_alike" sLAlike f fd) : FnOk P w K mg base CX0 (k + 1) f fd ["_law_found", "_law_due"] (spAlike K 0) := by
  refine F.ok scLAlike (fun vs H Q E h => ?_) (fun cdv A outer s H vs Q E hr h => ?_)
  · obtain ⟨v, u, d, rfl, _⟩ := h
    rfl
  · obtain ⟨v, u, d, rfl, _, _, h, _⟩ := h
    cases h
theorem all_true (j : Nat) : (List.replicate j true).all id = true := by
  induction j with
  | zero => rfl
  | succ j ih => rw [List.replicate_succ, List.all_cons, ih]; rfl
theorem ok_alike {n : Nat} {f : Addr} {fd : FuncData} {k : Nat} (F : Fun K "_law_alike" "_law_alike" sLAlike f fd) (M : Mg mg) (cR : Cal P w K mg base k "_law_alike" ["_law_found", "_law_due"] (spAlike K n)) : FnOk P w K mg base CX0 (k + 1) f fd ["_law_found", "_law_due"] (spAlike K (n + 1)) := by
  refine F.ok scLAlike (fun vs H Q E h => ?_) (fun cdv A outer s H vs Q E hr h => ?_)
  · obtain ⟨v, u, d, rfl, _⟩ := h
    rfl
  · obtain ⟨v, u, d, rfl, dv, du, ok, q⟩ := h
    refine ⟨_, (pss_cons (ps_if (pt_val (pe_callB call_isiT (by rfl) M.ins boot_isinstance (pa_cons (pv 1) (pa_cons (pe_tup (pa_cons (pe_bltn (v := .ty "tuple") (by rfl) M.tuple_ (by decide +kernel) rfl) (pa_cons (pe_bltn (v := .ty "list") (by rfl) M.list_ (by decide +kernel) rfl) pa_nil))) pa_nil))))
      (pss_cons (ps_if (PW.pt (pw_or (pt_cmpR op_ne (pe_callB call_isi (by rfl) M.ins boot_isinstance (pa_cons (pv 0) (pa_cons (pe_bltn (v := .ty "list") (by rfl) M.list_ (by decide +kernel) rfl) pa_nil))) (pe_callB call_isi (by rfl) M.ins boot_isinstance (pa_cons (pv 1) (pa_cons (pe_bltn (v := .ty "list") (by rfl) M.list_ (by decide +kernel) rfl) pa_nil))) (nomark _)) (pw_or1 (pt_not (pt_val (pe_callB call_isiT (by rfl) M.ins boot_isinstance (pa_cons (pv 0) (pa_cons (pe_tup (pa_cons (pe_bltn (v := .ty "tuple") (by rfl) M.tuple_ (by decide +kernel) rfl) (pa_cons (pe_bltn (v := .ty "list") (by rfl) M.list_ (by decide +kernel) rfl) pa_nil))) pa_nil))))))))
      (pss_one (ps_ret pe_bl))
      pss_nil)
      (pss_one (ps_ret (pe_and (pe_cmpR op_eq (pe_callB call_len_seq (by rfl) M.len_ PySem.boot_len (pa_cons (pv 0) pa_nil)) (pe_callB call_len_seq (by rfl) M.len_ PySem.boot_len (pa_cons (pv 1) pa_nil)) (nomark _)) (pe_one (pe_callB (cr_all rfl) (by rfl) M.all_ (by decide +kernel) (pa_cons (pe_lc (own := [("_law_one", 2), ("_law_other", 3)]) (g := (gTup K 2 (gCons (gName 2) (gCons (gName 3) gNil)))) (tt := tYes) rfl scLAlike.nd (RZ.pi_zipA (by rfl) M.zip_ (pa_cons (pv 0) (pa_cons (pv 1) pa_nil))) (blkOk_by (N := ["_law_found", "_law_due", "_law_one", "_law_other"]) (sc := defScope sLAlike) (by decide +kernel)) (fun _ _ _ _ _ => (pg_tup rfl (pgs_cons (pg_name (i := 2) scLAlike.nd rfl (Or.inl rfl)) (pgs_cons (pg_name (i := 3) scLAlike.nd rfl (Or.inl rfl)) pgs_nil)))) (fun _ _ _ _ _ => pts_nil) (fun _ _ _ _ _ => (pe_cal cR hr (by rfl) (pa_cons (pv 2) (pa_cons (pv 3) pa_nil))))) pa_nil)))))))
      pss_nil)
      (pss_one (ps_ret (pe_and (pe_cmpR op_eq (pe_callB call_isi (by rfl) M.ins boot_isinstance (pa_cons (pv 0) (pa_cons (pe_bltn (v := .ty "bool") (by rfl) M.bool_ (by decide +kernel) rfl) pa_nil))) (pe_callB call_isi (by rfl) M.ins boot_isinstance (pa_cons (pv 1) (pa_cons (pe_bltn (v := .ty "bool") (by rfl) M.bool_ (by decide +kernel) rfl) pa_nil))) (nomark _)) (pe_one (pe_cmpR op_eq (pv 0) (pv 1) (nomark _))))))), ?_⟩
    cases d with
    | int i =>
      cases Dp.intI dv
      cases Dp.intI du
      refine ⟨.int i, rfl, by show 2 ≤ sizeLine; decide, fun T hT => ?_⟩
      have g1 : Ke D0 H (upd H T (.tup [.ty "tuple", .ty "list"])) := Ke.rfl'.new hT
      refine ⟨.int i, T, _, .type "int", _, false, rfl, upd_same, .cons (.ty _) (.cons (.ty _) .nil), .base (.int i), kTL (b := false) (c := false) (by decide +kernel) (by decide +kernel), _, rfl, iteF ?_⟩
      refine ⟨.int i, rfl, .int i, .ty "bool", .type "int", .type "bool", false, rfl, .ty _, .base (.int i), kit_ty (by decide +kernel), .int i, rfl, .int i, .ty "bool", .type "int", .type "bool", false, rfl, .ty _, .base (.int i), kit_ty (by decide +kernel), rfl, _, rfl, iteTe (by decide) ⟨.int i, rfl, .int i, rfl, rfl, ?_⟩⟩
      rw [decide_eq_true rfl]
      exact q _ g1
    | list ds =>
      obtain ⟨a, xs, rfl, Sa, da⟩ := Dp.lstI dv
      obtain ⟨b, ys, rfl, Sb, db⟩ := Dp.lstI du
      have lx := DpAll.len da
      have ly := DpAll.len db
      have ok2 : (ds.all (okA n) && decide (ds.length ≤ 1000)) = true := ok
      rw [Bool.and_eq_true, decide_eq_true_eq] at ok2
      refine ⟨.ref b, rfl, by show 2 ≤ sizeLine; decide, fun T hT => ?_⟩
      have g1 : Ke D0 H (upd H T (.tup [.ty "tuple", .ty "list"])) := Ke.rfl'.new hT
      refine ⟨.ref b, T, _, .type "list", _, true, rfl, upd_same, .cons (.ty _) (.cons (.ty _) .nil), tyL (g1.seqL0 Sb), kTL (b := false) (c := true) (by decide +kernel) (by decide +kernel), _, rfl, iteT ?_⟩
      generalize upd H T (.tup [.ty "tuple", .ty "list"]) = H1 at g1 ⊢
      refine ⟨.ref a, rfl, .ref a, .ty "list", .type "list", .type "list", true, rfl, .ty _, tyL (g1.seqL0 Sa), kit_ty (by decide +kernel), .ref b, rfl, .ref b, .ty "list", .type "list", .type "list", true, rfl, .ty _, tyL (g1.seqL0 Sb), kit_ty (by decide +kernel), rfl, _, rfl, iteFe (by decide) ?_⟩
      refine ⟨.ref a, rfl, by show 2 ≤ sizeLine; decide, fun T2 hT2 => ?_⟩
      have g2 := g1.new (o := .tup [.ty "tuple", .ty "list"]) hT2
      refine ⟨.ref a, T2, _, .type "list", _, true, rfl, upd_same, .cons (.ty _) (.cons (.ty _) .nil), tyL (g2.seqL0 Sa), kTL (b := false) (c := true) (by decide +kernel) (by decide +kernel), _, rfl, iteF ?_⟩
      generalize upd H1 T2 (.tup [.ty "tuple", .ty "list"]) = H2 at g2 ⊢
      refine ⟨.ref a, rfl, a, _, rfl, .inl (g2.seqL0 Sa), .ref b, rfl, b, _, rfl, .inl (g2.seqL0 Sb), rfl, _, rfl, iteTe (by rw [lx, ly]; exact decide_eq_true rfl) ?_⟩
      refine ⟨.ref a, rfl, .ref b, rfl, a, b, xs, ys, rfl, .inl ⟨g2.seqL0 Sa, g2.seqL0 Sb, fun D hD => ?_⟩⟩
      have hDH : H D = none := g2.free (fun z => z) hD
      refine lc_it (walk_zip (K := K) (a := a) (b := b) (xs := xs) (ys := ys) (n := ds.length) (by omega)) (fun j H5 => Ke D0 H H5 ∧ H5 D = some (.lst ((List.replicate j true).map V.bl))) ?_ ?_ ?_ ?_
      · exact ⟨g2.new hD, upd_same⟩
      · rintro j H5 hj ⟨g5, _⟩
        exact ⟨g5.seqL0 Sa, g5.seqL0 Sb⟩
      · rintro j x H5 H5' hj ⟨g5, D5⟩ ⟨T', x', y', rfl, hT', rfl, hx', hy'⟩
        have hx' : xs[j]? = some x' := hx'
        have hy' : ys[j]? = some y' := hy'
        obtain ⟨d', hd', dx⟩ := DpAll.at' da hx'
        obtain ⟨d'', hd'', dy⟩ := DpAll.at' db hy'
        rw [hd'] at hd''
        cases hd''
        have g6 := g5.new (o := .tup [x', y']) hT'
        have D6 := (upd_ne (o := .tup [x', y']) (ne_of_none D5 hT')).trans D5
        refine ⟨T', _, rfl, .inl (.inl upd_same), rfl, _, _, rfl, _, _, rfl, rfl, rfl, ?_⟩
        generalize upd H5 T' (.tup [x', y']) = H6 at g6 D6 ⊢
        refine ⟨x', rfl, y', rfl, x', y', d', rfl, Dp.ke0 g6 dx, Dp.ke0 g6 dy, List.all_eq_true.mp ok2.1 d' (List.mem_of_getElem? hd'), fun H7 g7 => ?_⟩
        refine ⟨_, g7 _ _ (fun z => z) D6, sL (by rw [List.length_map, List.length_replicate]; omega), (g6.trans g7).put hDH, ?_⟩
        rw [upd_same, List.replicate_succ', List.map_append]
        rfl
      · rintro H5 ⟨g5, D5⟩
        refine ⟨D, List.replicate ds.length true, rfl, .inl (.inl D5), ?_⟩
        rw [all_true]
        exact q H5 g5
    | tuple ds =>
      obtain ⟨a, xs, rfl, Sa, da⟩ := Dp.tupI dv
      obtain ⟨b, ys, rfl, Sb, db⟩ := Dp.tupI du
      have lx := DpAll.len da
      have ly := DpAll.len db
      have ok2 : (ds.all (okA n) && decide (ds.length ≤ 1000)) = true := ok
      rw [Bool.and_eq_true, decide_eq_true_eq] at ok2
      refine ⟨.ref b, rfl, by show 2 ≤ sizeLine; decide, fun T hT => ?_⟩
      have g1 : Ke D0 H (upd H T (.tup [.ty "tuple", .ty "list"])) := Ke.rfl'.new hT
      refine ⟨.ref b, T, _, .type "tuple", _, true, rfl, upd_same, .cons (.ty _) (.cons (.ty _) .nil), tyT (g1.seqT0 Sb), kTL (b := true) (c := false) (by decide +kernel) (by decide +kernel), _, rfl, iteT ?_⟩
      generalize upd H T (.tup [.ty "tuple", .ty "list"]) = H1 at g1 ⊢
      refine ⟨.ref a, rfl, .ref a, .ty "list", .type "tuple", .type "list", false, rfl, .ty _, tyT (g1.seqT0 Sa), kit_ty (by decide +kernel), .ref b, rfl, .ref b, .ty "list", .type "tuple", .type "list", false, rfl, .ty _, tyT (g1.seqT0 Sb), kit_ty (by decide +kernel), rfl, _, rfl, iteFe (by decide) ?_⟩
      refine ⟨.ref a, rfl, by show 2 ≤ sizeLine; decide, fun T2 hT2 => ?_⟩
      have g2 := g1.new (o := .tup [.ty "tuple", .ty "list"]) hT2
      refine ⟨.ref a, T2, _, .type "tuple", _, true, rfl, upd_same, .cons (.ty _) (.cons (.ty _) .nil), tyT (g2.seqT0 Sa), kTL (b := true) (c := false) (by decide +kernel) (by decide +kernel), _, rfl, iteF ?_⟩
      generalize upd H1 T2 (.tup [.ty "tuple", .ty "list"]) = H2 at g2 ⊢
      refine ⟨.ref a, rfl, a, _, rfl, .inr (g2.seqT0 Sa), .ref b, rfl, b, _, rfl, .inr (g2.seqT0 Sb), rfl, _, rfl, iteTe (by rw [lx, ly]; exact decide_eq_true rfl) ?_⟩
      refine ⟨.ref a, rfl, .ref b, rfl, a, b, xs, ys, rfl, .inr ⟨g2.seqT0 Sa, g2.seqT0 Sb, fun D hD => ?_⟩⟩
      have hDH : H D = none := g2.free (fun z => z) hD
      refine lc_it (walk_zipT (K := K) (a := a) (b := b) (xs := xs) (ys := ys) (n := ds.length) ⟨by omega, by omega⟩) (fun j H5 => Ke D0 H H5 ∧ H5 D = some (.lst ((List.replicate j true).map V.bl))) ?_ ?_ ?_ ?_
      · exact ⟨g2.new hD, upd_same⟩
      · rintro j H5 hj ⟨g5, _⟩
        exact ⟨g5.seqT0 Sa, g5.seqT0 Sb⟩
      · rintro j x H5 H5' hj ⟨g5, D5⟩ ⟨T', x', y', rfl, hT', rfl, hx', hy'⟩
        have hx' : xs[j]? = some x' := hx'
        have hy' : ys[j]? = some y' := hy'
        obtain ⟨d', hd', dx⟩ := DpAll.at' da hx'
        obtain ⟨d'', hd'', dy⟩ := DpAll.at' db hy'
        rw [hd'] at hd''
        cases hd''
        have g6 := g5.new (o := .tup [x', y']) hT'
        have D6 := (upd_ne (o := .tup [x', y']) (ne_of_none D5 hT')).trans D5
        refine ⟨T', _, rfl, .inl (.inl upd_same), rfl, _, _, rfl, _, _, rfl, rfl, rfl, ?_⟩
        generalize upd H5 T' (.tup [x', y']) = H6 at g6 D6 ⊢
        refine ⟨x', rfl, y', rfl, x', y', d', rfl, Dp.ke0 g6 dx, Dp.ke0 g6 dy, List.all_eq_true.mp ok2.1 d' (List.mem_of_getElem? hd'), fun H7 g7 => ?_⟩
        refine ⟨_, g7 _ _ (fun z => z) D6, sL (by rw [List.length_map, List.length_replicate]; omega), (g6.trans g7).put hDH, ?_⟩
        rw [upd_same, List.replicate_succ', List.map_append]
        rfl
      · rintro H5 ⟨g5, D5⟩
        refine ⟨D, List.replicate ds.length true, rfl, .inl (.inl D5), ?_⟩
        rw [all_true]
        exact q H5 g5
    | _ => cases ok
end
end K1
set_option Elab.async false
set_option linter.all false
set_option maxRecDepth 100000
set_option maxHeartbeats 3200000
/-! The law's def _law_rows. -/
namespace K1
open PySem PySem.Spec PyProof.Rows L2 A1
def TxG (t : Str) : Prop := PyData.strOk t = true ∧ t.length ≤ 3
def menu4 : List (List Str) := [["a"], ["a", "A"], ["a", "b", "B"], ["", "a", "b c", "B c", "A"]]
theorem menu4_ok {l : List Str} (h : l ∈ menu4) : (0 < l.length ∧ l.length ≤ 5) ∧ ∀ t ∈ l, TxG t := by
  have e : (menu4.all fun l => (decide (0 < l.length) && decide (l.length ≤ 5)) && l.all fun t => PyData.strOk t && decide (t.length ≤ 3)) = true := by decide +kernel
  have h2 := List.all_eq_true.mp e l h
  rw [Bool.and_eq_true, Bool.and_eq_true, decide_eq_true_eq, decide_eq_true_eq] at h2
  refine ⟨h2.1, fun t ht => ?_⟩
  have h3 := List.all_eq_true.mp h2.2 t ht
  rw [Bool.and_eq_true, decide_eq_true_eq] at h3
  exact h3
theorem cut_of (us : List Str) (lo hi : Option Int) : ∃ vs : List Str, cutV (us.map V.str) lo hi = vs.map V.str ∧ vs.length ≤ us.length ∧ ∀ t ∈ vs, t ∈ us := by
  refine ⟨(us.drop (HT.sIx us.length 0 lo)).take (HT.sIx us.length us.length hi - HT.sIx us.length 0 lo), ?_, ?_, fun t h => List.mem_of_mem_drop (List.mem_of_mem_take h)⟩
  · unfold cutV
    rw [List.length_map, List.map_take, List.map_drop]
  · rw [List.length_take, List.length_drop]
    omega
theorem cut12 (us : List Str) : ∃ vs : List Str, cutV (us.map V.str) none (some 12) = vs.map V.str ∧ vs.length ≤ 12 ∧ ∀ t ∈ vs, t ∈ us := by
  refine ⟨us.take 12, ?_, by rw [List.length_take]; omega, fun t h => List.mem_of_mem_take h⟩
  unfold cutV
  have e : HT.sIx (us.map V.str).length (us.map V.str).length (some 12) = min 12 us.length := by
    have := HT.sIx_nat (us.map V.str).length (us.map V.str).length 12
    rw [List.length_map] at this ⊢
    exact this
  rw [e, HT.sIx_none, List.drop_zero, Nat.sub_zero, List.map_take]
  rcases Nat.le_total 12 us.length with h | h
  · rw [Nat.min_eq_left h]
  · rw [Nat.min_eq_right h, List.take_of_length_le (by rw [List.length_map]; exact Nat.le_refl _), List.take_of_length_le (by rw [List.length_map]; exact h)]
section
variable {P : Program} {w : World} {K : PySem.W.Frag} {mg : Str → Option Value} {base : Heap}
abbrev DmR (m R : Addr) : Addr → Prop := fun b => b = m ∨ b = R
/-- while rows are drawn: what was there stands but for the drawing; the texts to choose from stand at l -/
structure RS (K : PySem.W.Frag) (H0 H : Hp) (m S R l : Addr) (k n : Nat) (sm : List Str) : Prop where
  ke : Ke (DmR m R) H0 H
  ms : MS K H m S R k n
  el : H l = some (.lst (sm.map V.str))
  nl : l ≠ R
  s0 : ∃ cells : List Int, Scr K H0 S R (cells.map V.int) ∧ cells.length = n
  m0 : ∃ kvs, H0 m = some (.dK kvs)
theorem RS.nm {H0 H : Hp} {m S R l : Addr} {k n : Nat} {sm : List Str} (r : RS K H0 H m S R l k n sm) : l ≠ m := fun z => by
  have := r.ms.m
  rw [← z, r.el] at this
  cases this
theorem RS.dr {H0 H H' : Hp} {m S R l : Addr} {k k' n : Nat} {sm : List Str} (r : RS K H0 H m S R l k n sm) (g : Ke (DmR m R) H H') (ms : MS K H' m S R k' n) : RS K H0 H' m S R l k' n sm :=
  ⟨r.ke.trans g, ms, g _ _ (fun z => z.elim r.nm r.nl) r.el, r.nl, r.s0, r.m0⟩
theorem RS.k0 {H0 H H' : Hp} {m S R l : Addr} {k n : Nat} {sm : List Str} (r : RS K H0 H m S R l k n sm) (g : Ke D0 H H') : RS K H0 H' m S R l k n sm :=
  ⟨r.ke.trans g.up, r.ms.ke0 g, g _ _ (fun z => z) r.el, r.nl, r.s0, r.m0⟩
/-- a list that is no part of the drawing is written -/
theorem RS.put {H0 H : Hp} {m S R l D : Addr} {k n : Nat} {sm : List Str} {xs : List V} {o : HO} (r : RS K H0 H m S R l k n sm) (hD : H0 D = none) (eD : H D = some (.lst xs)) (nl : D ≠ l) (nR : D ≠ R) : RS K H0 (upd H D o) m S R l k n sm := by
  have nm : D ≠ m := fun z => by
    have := r.ms.m
    rw [← z, eD] at this
    cases this
  obtain ⟨cells, Sc, cl⟩ := r.s0
  obtain ⟨rest, eR, rl⟩ := r.ms.r
  obtain ⟨kvs, em⟩ := r.m0
  have g : Ke (DmR m R) H0 (upd H D o) := r.ke.put hD
  exact ⟨g, ⟨(upd_ne nm.symm).trans r.ms.m, ⟨cells, Sc.ke (fun b z => z.elim (fun z => .inr ⟨kvs, by rw [z]; exact em⟩) .inl) g, cl⟩, ⟨rest, (upd_ne nR.symm).trans eR, rl⟩, r.ms.few⟩, (upd_ne nl.symm).trans r.el, r.nl, r.s0, r.m0⟩
theorem MS.notS {H : Hp} {m S R : Addr} {k n : Nat} (ms : MS K H m S R k n) {D : Addr} (h : H D = none) : D ≠ R ∧ D ≠ m := by
  obtain ⟨rest, eR, _⟩ := ms.r
  refine ⟨fun z => ?_, fun z => ?_⟩
  · rw [z, eR] at h
    cases h
  · rw [z, ms.m] at h
    cases h
end
end K1
set_option Elab.async false
set_option linter.all false
/-! All rows of like pairs that rise; the kept one is the least of the longest; the table of rows and others changed about. -/
namespace A1
/-- the first difference decides -/
def LxL (k y : List Pr) : Prop := ∃ (c : List Pr) (p q : Pr) (u v : List Pr), k = c ++ p :: u ∧ y = c ++ q :: v ∧ Lx p q
theorem find_first {f : Pr → Bool} {p q : Pr} : ∀ {l : List Pr}, l.Pairwise Lx → l.find? f = some p → q ∈ l → f q = true → p = q ∨ Lx p q
  | x :: l, hs, h, hq, fq => by
    obtain ⟨h1, h2⟩ := List.pairwise_cons.mp hs
    rw [List.find?_cons] at h
    cases e : f x with
    | true =>
      rw [e] at h
      obtain rfl : x = p := Option.some.inj h
      rcases List.mem_cons.mp hq with rfl | hq
      · exact .inl rfl
      · exact .inr (h1 q hq)
    | false =>
      rw [e] at h
      rcases List.mem_cons.mp hq with rfl | hq
      · rw [e] at fq
        cases fq
      · exact find_first h2 h hq fq
section
variable {P : Nat → Nat → Bool} {n m : Nat}
theorem keptN_pre : ∀ {s : Nat} {acc : List Pr}, ∃ u, keptN P n m s acc = acc ++ u
  | 0, acc => ⟨[], (List.append_nil _).symm⟩
  | s + 1, acc => by
    obtain ⟨u, e⟩ := keptN_pre (s := s) (acc := stepK P n m acc (s + 1))
    show ∃ u, keptN P n m s (stepK P n m acc (s + 1)) = acc ++ u
    rw [e]
    unfold stepK
    split
    · exact ⟨_ :: u, by rw [List.append_assoc]; rfl⟩
    · exact ⟨u, rfl⟩
theorem Ch.left {a b : List Pr} (c : Ch P (a ++ b)) : Ch P a := ⟨(List.pairwise_append.mp c.up).1, fun p hp => c.like p (List.mem_append_left _ hp)⟩
theorem Ch.right {a b : List Pr} (c : Ch P (a ++ b)) : Ch P b := ⟨(List.pairwise_append.mp c.up).2.1, fun p hp => c.like p (List.mem_append_right _ hp)⟩
theorem Ch.behind {a : List Pr} {q : Pr} {b : List Pr} (c : Ch P (a ++ q :: b)) : okBehind a q = true := by
  unfold okBehind
  cases h : a.getLast? with
  | none => rfl
  | some x =>
    have hx : x ∈ a := List.mem_of_getLast? h
    have u := (List.pairwise_append.mp c.up).2.2 x hx q (List.mem_cons_self ..)
    show (decide (x.1 < q.1) && decide (x.2 < q.2)) = true
    rw [decide_eq_true u.1, decide_eq_true u.2]
    rfl
theorem kept_least (hP : In P n m) : ∀ {s : Nat} {acc y : List Pr}, Kp P n m s acc → Ch P (acc ++ y) → y.length = s → acc ++ y = keptN P n m s acc ∨ LxL (keptN P n m s acc) (acc ++ y)
  | 0, acc, y, k, c, hl => by
    obtain rfl := List.eq_nil_of_length_eq_zero hl
    exact .inl (List.append_nil _)
  | s + 1, acc, [], k, c, hl => by cases hl
  | s + 1, acc, q :: y, k, c, hl => by
    have hl' : y.length = s := Nat.succ.inj hl
    obtain ⟨p, e1, e2, k'⟩ := k.step hP
    have cq : Ch P (q :: y) := c.right
    have hq := cq.like q (List.mem_cons_self ..)
    have lo := Ch.ge (n := n) (m := m) hP cq
    obtain ⟨j, hj⟩ : ∃ j, Sn P n m q = j + 1 := ⟨Sn P n m q - 1, by omega⟩
    obtain ⟨r, hr, cr⟩ := Sn.ex (hP _ _ hq) hj
    have big : Ch P (acc ++ q :: r) := by
      refine ⟨List.pairwise_append.mpr ⟨c.left.up, cr.up, fun x hx z hz => ?_⟩, fun x hx => ?_⟩
      · have u := (List.pairwise_append.mp c.up).2.2 x hx q (List.mem_cons_self ..)
        rcases List.mem_cons.mp hz with rfl | hz
        · exact u
        · exact Up.trans u ((List.pairwise_cons.mp cr.up).1 z hz)
      · rcases List.mem_append.mp hx with hx | hx
        · exact c.left.like x hx
        · exact cr.like x hx
    have most := big.most hP
    have kl := k.len
    rw [List.length_append, List.length_cons, hr] at most
    have sq : Sn P n m q = s + 1 := by omega
    have fst := find_first (q := q) ((grid_sorted n m).filter _) e2 (List.mem_filter.mpr ⟨mem_grid.mpr (hP _ _ hq), decide_eq_true sq⟩) c.behind
    show acc ++ q :: y = keptN P n m s (stepK P n m acc (s + 1)) ∨ LxL (keptN P n m s (stepK P n m acc (s + 1))) (acc ++ q :: y)
    rw [e1]
    rcases fst with rfl | lx
    · have z := kept_least hP (acc := acc ++ [p]) (y := y) k' (by rw [List.append_assoc]; exact c) hl'
      rw [List.append_assoc] at z
      exact z
    · obtain ⟨u, eu⟩ := keptN_pre (P := P) (n := n) (m := m) (s := s) (acc := acc ++ [p])
      exact .inr ⟨acc, p, q, u, y, by rw [eu, List.append_assoc]; rfl, rfl, lx⟩
theorem keptOf_least (hP : In P n m) {y : List Pr} (c : Ch P y) (hl : y.length = Mx P n m) : y = keptOf P n m ∨ LxL (keptOf P n m) y :=
  kept_least hP (acc := []) Kp.start c hl

/-! ### all rows -/
def okTail (l : List Pr) (j : Nat) : Bool := match l.getLast? with
  | none => true
  | some q => decide (q.2 < j)
def rowExt (P : Nat → Nat → Bool) (i : Nat) (l : List Pr) (j : Nat) : List (List Pr) := ((List.range j).filter fun j => P i j && okTail l j).map fun j => l ++ [(i, j)]
theorem rowExt_s {i : Nat} {l : List Pr} {j : Nat} : rowExt P i l (j + 1) = rowExt P i l j ++ (if (P i j && okTail l j) = true then [l ++ [(i, j)]] else []) := by
  unfold rowExt
  rw [List.range_succ, List.filter_append, List.map_append]
  congr 1
  rw [List.filter_cons, List.filter_nil]
  split <;> rfl
theorem rowExt_0 {i : Nat} {l : List Pr} : rowExt P i l 0 = [] := rfl
theorem rowExt_len {i : Nat} {l : List Pr} {j : Nat} : (rowExt P i l j).length ≤ j := by
  unfold rowExt
  rw [List.length_map]
  have := List.length_filter_le (fun j => P i j && okTail l j) (List.range j)
  rw [List.length_range] at this
  exact this
/-- the rows that the next place makes, of the first r rows -/
def extN (P : Nat → Nat → Bool) (m i : Nat) (ls : List (List Pr)) : List (List Pr) := ls.flatMap fun l => rowExt P i l m
theorem extN_snoc {i : Nat} {ls : List (List Pr)} {l : List Pr} : extN P m i (ls ++ [l]) = extN P m i ls ++ rowExt P i l m := by
  unfold extN
  rw [List.flatMap_append, List.flatMap_cons, List.flatMap_nil, List.append_nil]
theorem extN_len {i : Nat} : ∀ {ls : List (List Pr)}, (extN P m i ls).length ≤ ls.length * m
  | [] => Nat.zero_le _
  | l :: ls => by
    have h1 := extN_len (i := i) (ls := ls)
    have h2 := rowExt_len (P := P) (i := i) (l := l) (j := m)
    unfold extN at h1 ⊢
    rw [List.flatMap_cons, List.length_append, List.length_cons, Nat.succ_mul]
    omega
def allN (P : Nat → Nat → Bool) (m : Nat) : Nat → List (List Pr)
  | 0 => [[]]
  | i + 1 => allN P m i ++ extN P m i (allN P m i)
theorem allN_len : ∀ {i : Nat}, (allN P m i).length ≤ (m + 1) ^ i
  | 0 => Nat.le_refl _
  | i + 1 => by
    have h1 := allN_len (i := i)
    have h2 := extN_len (P := P) (m := m) (i := i) (ls := allN P m i)
    show (allN P m i ++ extN P m i (allN P m i)).length ≤ (m + 1) ^ (i + 1)
    rw [List.length_append, Nat.pow_succ]
    have h3 := Nat.mul_le_mul_right (m + 1) h1
    rw [Nat.mul_succ] at h3
    omega
theorem allN_ok : ∀ {i : Nat} {l : List Pr}, l ∈ allN P m i → Ch P l ∧ ∀ p ∈ l, p.1 < i ∧ p.2 < m
  | 0, l, h => by
    obtain rfl := List.mem_singleton.mp h
    exact ⟨⟨.nil, fun p hp => by cases hp⟩, fun p hp => by cases hp⟩
  | i + 1, l, h => by
    rcases List.mem_append.mp h with h | h
    · obtain ⟨c, b⟩ := allN_ok h
      exact ⟨c, fun p hp => ⟨Nat.lt_succ_of_lt (b p hp).1, (b p hp).2⟩⟩
    · obtain ⟨l', hl', h⟩ := List.mem_flatMap.mp h
      obtain ⟨c, b⟩ := allN_ok hl'
      obtain ⟨j, hj, rfl⟩ := List.mem_map.mp h
      obtain ⟨h1, h2⟩ := List.mem_filter.mp hj
      rw [Bool.and_eq_true] at h2
      refine ⟨c.snoc h2.1 ?_, fun p hp => ?_⟩
      · have h3 := h2.2
        unfold okTail at h3
        unfold okBehind
        cases e : l'.getLast? with
        | none => rfl
        | some q =>
          rw [e] at h3
          have := (b q (List.mem_of_getLast? e)).1
          show (decide (q.1 < i) && decide (q.2 < j)) = true
          rw [decide_eq_true this]
          exact h3
      · rcases List.mem_append.mp hp with hp | hp
        · exact ⟨Nat.lt_succ_of_lt (b p hp).1, (b p hp).2⟩
        · obtain rfl := List.mem_singleton.mp hp
          exact ⟨Nat.lt_succ_self _, List.mem_range.mp h1⟩
theorem allN_all : ∀ {i : Nat} {l : List Pr}, Ch P l → (∀ p ∈ l, p.1 < i ∧ p.2 < m) → l ∈ allN P m i
  | 0, l, c, b => by
    cases l with
    | nil => exact List.mem_singleton.mpr rfl
    | cons p l => exact absurd (b p (List.mem_cons_self ..)).1 (Nat.not_lt_zero _)
  | i + 1, l, c, b => by
    rcases List.eq_nil_or_concat l with rfl | ⟨l', q, rfl⟩
    · exact List.mem_append_left _ (allN_all c fun p hp => by cases hp)
    · rw [List.concat_eq_append] at c b ⊢
      have hq := b q (by simp)
      have old : ∀ p ∈ l', p.1 < q.1 ∧ p.2 < q.2 := fun p hp => (List.pairwise_append.mp c.up).2.2 p hp q (by simp)
      by_cases e : q.1 = i
      · refine List.mem_append_right _ (List.mem_flatMap.mpr ⟨l', allN_all c.left (fun p hp => ⟨by have := (old p hp).1; omega, (b p (List.mem_append_left _ hp)).2⟩), ?_⟩)
        refine List.mem_map.mpr ⟨q.2, List.mem_filter.mpr ⟨List.mem_range.mpr hq.2, ?_⟩, by rw [← e]⟩
        rw [Bool.and_eq_true]
        refine ⟨by rw [← e]; exact c.like q (by simp), ?_⟩
        unfold okTail
        cases h : l'.getLast? with
        | none => rfl
        | some x => exact decide_eq_true (old x (List.mem_of_getLast? h)).2
      · refine List.mem_append_left _ (allN_all c fun p hp => ⟨?_, (b p hp).2⟩)
        rcases List.mem_append.mp hp with hp | hp
        · have := (old p hp).1
          omega
        · obtain rfl := List.mem_singleton.mp hp
          omega
/-- the table, rows and others changed about -/
theorem Mx_swap {P' : Nat → Nat → Bool} (hP : In P n m) (hP' : In P' m n) (h : ∀ i j, P' j i = P i j) : Mx P' m n = Mx P n m := by
  have turn : ∀ {Q R : Nat → Nat → Bool} {l : List Pr}, (∀ i j, R j i = Q i j) → Ch Q l → Ch R (l.map fun p => (p.2, p.1)) := fun {Q R l} e c => by
    refine ⟨?_, fun p hp => ?_⟩
    · rw [List.pairwise_map]
      exact c.up.imp fun {a b} u => ⟨u.2, u.1⟩
    · obtain ⟨q, hq, rfl⟩ := List.mem_map.mp hp
      rw [e]
      exact c.like q hq
  obtain ⟨l, h1, c1⟩ := most_ex (n := n) (m := m) hP
  obtain ⟨l', h2, c2⟩ := most_ex (n := m) (m := n) hP'
  have a := (turn h c1).most hP'
  have b := (turn (fun i j => (h j i).symm) c2).most hP
  rw [List.length_map] at a b
  omega
end
end A1
set_option Elab.async false
set_option linter.all false
set_option maxRecDepth 100000
set_option maxHeartbeats 1600000
/-! What the law compares, as data; min of lists of pairs. -/
namespace K1
open PySem PySem.Spec PyProof.Rows L2 A1
def dP (p : Pr) : PyData := .tuple [.int (p.1 : Nat), .int (p.2 : Nat)]
def dL (ps : List Pr) : PyData := .list (ps.map dP)
section
variable {K : PySem.W.Frag} {H : Hp}
theorem dp_prl : ∀ {xs : List V} {ps : List Pr}, PrL H xs ps → DpAll K H xs (ps.map dP)
  | _, _, .nil => .nil
  | _, _, .cons ⟨t, rfl, e⟩ r => .cons (.tup (.inl (.inl e)) (.cons (.int _) (.cons (.int _) .nil))) (dp_prl r)
theorem dp_list {a : Addr} {xs : List V} {ps : List Pr} (e : H a = some (.lst xs)) (p : PrL H xs ps) : Dp K H (.ref a) (dL ps) := .lst (.inl (.inl e)) (dp_prl p)
theorem dp_ix : ∀ {as : List Addr} {lss : List (List Pr)}, Ix (PrLs H) as lss → DpAll K H (as.map V.ref) (lss.map dL)
  | [], [], _ => .nil
  | [], _ :: _, h => by cases h.1
  | _ :: _, [], h => by cases h.1
  | a :: as, l :: lss, h => by
    obtain ⟨xs, e, p⟩ := h.2 0 a l rfl rfl
    exact .cons (dp_list e p) (dp_ix ⟨Nat.succ.inj h.1, fun k a l e1 e2 => h.2 (k + 1) a l e1 e2⟩)
theorem dp_strs : ∀ ts : List Str, DpAll K H (ts.map V.str) (ts.map PyData.str)
  | [] => .nil
  | t :: ts => .cons (.str t) (dp_strs ts)
end
theorem okA_P {n : Nat} (p : Pr) : okA (n + 2) (dP p) = true := by
  show (([PyData.int (p.1 : Nat), .int (p.2 : Nat)]).all (okA (n + 1)) && decide (2 ≤ 1000)) = true
  rfl
theorem okA_L {n : Nat} {ps : List Pr} (h : ps.length ≤ 1000) : okA (n + 3) (dL ps) = true := by
  show ((ps.map dP).all (okA (n + 2)) && decide ((ps.map dP).length ≤ 1000)) = true
  rw [Bool.and_eq_true, decide_eq_true_eq, List.length_map, List.all_eq_true]
  refine ⟨fun d hd => ?_, h⟩
  obtain ⟨p, _, rfl⟩ := List.mem_map.mp hd
  exact okA_P p
theorem okA_Ls {lss : List (List Pr)} (h : lss.length ≤ 1000) (hs : ∀ l ∈ lss, l.length ≤ 1000) : okA 4 (.list (lss.map dL)) = true := by
  show ((lss.map dL).all (okA 3) && decide ((lss.map dL).length ≤ 1000)) = true
  rw [Bool.and_eq_true, decide_eq_true_eq, List.length_map, List.all_eq_true]
  refine ⟨fun d hd => ?_, h⟩
  obtain ⟨l, hl, rfl⟩ := List.mem_map.mp hd
  exact okA_L (hs l hl)
theorem lay_strs {ts : List Str} (h : ∀ t ∈ ts, PyData.strOk t = true) : (PyData.list (ts.map PyData.str)).canLay0 = true := by
  induction ts with
  | nil => rfl
  | cons t ts ih =>
    have := ih fun x hx => h x (List.mem_cons_of_mem _ hx)
    have h2 := h t (List.mem_cons_self ..)
    simp only [List.map_cons, PyData.canLay0, PyData.canLayAll0, Bool.and_eq_true] at this ⊢
    exact ⟨h2, this⟩
theorem dep_strs (ts : List Str) : (PyData.list (ts.map PyData.str)).depth = 1 := by
  have a : ∀ ts : List Str, PyData.depthAll (ts.map PyData.str) = 0 := fun ts => by
    induction ts with
    | nil => rfl
    | cons t ts ih =>
      show max (PyData.str t).depth (PyData.depthAll (ts.map PyData.str)) = 0
      rw [ih]
      rfl
  show PyData.depthAll (ts.map PyData.str) + 1 = 1
  rw [a]
/-- up in a row of pairs, by place -/
theorem up_at {l : List Pr} (h : l.Pairwise Up) {i j : Nat} {p q : Pr} (hij : i < j) (hp : l[i]? = some p) (hq : l[j]? = some q) : Up p q := by
  obtain ⟨h1, e1⟩ := List.getElem?_eq_some_iff.mp hp
  obtain ⟨h2, e2⟩ := List.getElem?_eq_some_iff.mp hq
  have := List.pairwise_iff_getElem.mp h i j h1 h2 hij
  rw [e1, e2] at this
  exact this
theorem up_lx {l : List Pr} (h : l.Pairwise Up) : l.Pairwise Lx := h.imp fun {a b} u => .inl u.1
theorem lay_pairs : ∀ ps : List Pr, PyData.canLayAll0 (ps.map dP) = true
  | [] => rfl
  | p :: ps => by
    show ((dP p).canLay0 && PyData.canLayAll0 (ps.map dP)) = true
    rw [lay_pairs ps]
    rfl
theorem dep_pairs : ∀ ps : List Pr, PyData.depthAll (ps.map dP) ≤ 1
  | [] => Nat.zero_le _
  | p :: ps => by
    show max (dP p).depth (PyData.depthAll (ps.map dP)) ≤ 1
    exact Nat.max_le.mpr ⟨Nat.le_refl _, dep_pairs ps⟩
theorem shp_pairs (ps : List Pr) : SeqAt.shaped (dL ps) = true := by
  unfold SeqAt.shaped
  rw [Bool.and_eq_true, decide_eq_true_eq]
  refine ⟨lay_pairs ps, ?_⟩
  show PyData.depthAll (ps.map dP) + 1 ≤ 64
  have := dep_pairs ps
  omega
theorem eqv_nil (ps : List Pr) : PyData.eqv (dL ps) (.list []) = ps.isEmpty := by
  cases ps <;> rfl

/-! ### min -/
def cI (p : Pr) : Int × Int := ((p.1 : Nat), (p.2 : Nat))
theorem dL_toD (ps : List Pr) : dL ps = PySem.W.Datum.toD (ps.map cI) := by
  show PyData.list (ps.map dP) = .list ((ps.map cI).map PySem.W.Datum.toD)
  rw [List.map_map]
  rfl
theorem cI_lt {p q : Pr} (h : Lx p q) : PySem.W.DatumOrd.lt (cI p) (cI q) = true := by
  show (if ((p.1 : Nat) : Int) = ((q.1 : Nat) : Int) then decide (((p.2 : Nat) : Int) < ((q.2 : Nat) : Int)) else decide (((p.1 : Nat) : Int) < ((q.1 : Nat) : Int))) = true
  rcases h with h | ⟨h, h'⟩
  · rw [if_neg (by omega), decide_eq_true_eq]
    omega
  · rw [if_pos (by omega), decide_eq_true_eq]
    omega
theorem cI_nlt {p q : Pr} (h : Lx p q) : PySem.W.DatumOrd.lt (cI q) (cI p) = false := by
  show (if ((q.1 : Nat) : Int) = ((p.1 : Nat) : Int) then decide (((q.2 : Nat) : Int) < ((p.2 : Nat) : Int)) else decide (((q.1 : Nat) : Int) < ((p.1 : Nat) : Int))) = false
  rcases h with h | ⟨h, h'⟩
  · rw [if_neg (by omega), decide_eq_false_iff_not]
    omega
  · rw [if_pos (by omega), decide_eq_false_iff_not]
    omega
theorem cI_inj {p q : Pr} (h : cI p = cI q) : p = q := by
  injection h with h1 h2
  exact Prod.ext (Int.ofNat.inj h1) (Int.ofNat.inj h2)
theorem lx_lt : ∀ (c : List Pr) {p q : Pr} {u v : List Pr}, Lx p q → PySem.W.DatumOrd.lt ((c ++ p :: u).map cI) ((c ++ q :: v).map cI) = true ∧ PySem.W.DatumOrd.lt ((c ++ q :: v).map cI) ((c ++ p :: u).map cI) = false
  | [], p, q, u, v, h => by
    have ne : ¬ cI p = cI q := fun z => by
      rw [cI_inj z] at h
      exact h.irr
    constructor
    · show (if cI p = cI q then _ else PySem.W.DatumOrd.lt (cI p) (cI q)) = true
      rw [if_neg ne]
      exact cI_lt h
    · show (if cI q = cI p then _ else PySem.W.DatumOrd.lt (cI q) (cI p)) = false
      rw [if_neg (fun z => ne z.symm)]
      exact cI_nlt h
  | x :: c, p, q, u, v, h => by
    obtain ⟨a, b⟩ := lx_lt c (u := u) (v := v) h
    constructor
    · show (if cI x = cI x then PySem.W.listLt ((c ++ p :: u).map cI) ((c ++ q :: v).map cI) else _) = true
      rw [if_pos rfl]
      exact a
    · show (if cI x = cI x then PySem.W.listLt ((c ++ q :: v).map cI) ((c ++ p :: u).map cI) else _) = false
      rw [if_pos rfl]
      exact b
theorem mapI_inj : ∀ {l k : List Pr}, l.map cI = k.map cI → l = k
  | [], [], _ => rfl
  | [], _ :: _, h => by cases h
  | _ :: _, [], h => by cases h
  | x :: l, y :: k, h => by
    rw [List.map_cons, List.map_cons] at h
    injection h with h1 h2
    rw [cI_inj h1, mapI_inj h2]
theorem lt_self (l : List Pr) : PySem.W.DatumOrd.lt (l.map cI) (l.map cI) = false := by
  rw [← PySem.W.DatumOrd.lt_eq]
  exact PySem.W.dataLt_self _
/-- the fold ends at what is before all others -/
theorem fold_least {α : Type} {lt : α → α → Bool} {k : α} : ∀ (xs : List α) (x : α), k ∈ x :: xs → (∀ y ∈ x :: xs, lt y k = false) → (∀ y ∈ x :: xs, y ≠ k → lt k y = true) → xs.foldl (fun a y => if lt y a = true then y else a) x = k
  | [], x, hk, _, _ => by
    obtain rfl := List.mem_singleton.mp hk
    rfl
  | y :: xs, x, hk, h1, h2 => by
    rw [List.foldl_cons]
    have hy := h1 y (List.mem_cons_of_mem _ (List.mem_cons_self ..))
    have hyk := h2 y (List.mem_cons_of_mem _ (List.mem_cons_self ..))
    have hx := h1 x (List.mem_cons_self ..)
    have hxk := h2 x (List.mem_cons_self ..)
    refine fold_least xs _ ?_ (fun z hz => ?_) (fun z hz => ?_)
    · rcases List.mem_cons.mp hk with e | hk
      · rw [← e, hy, if_neg Bool.false_ne_true]
        exact List.mem_cons_self ..
      · rcases List.mem_cons.mp hk with e | hk
        · by_cases z : x = k
          · rw [z, hy, if_neg Bool.false_ne_true]
            exact List.mem_cons_self ..
          · rw [← e, hxk z, if_pos rfl]
            exact List.mem_cons_self ..
        · exact List.mem_cons_of_mem _ hk
    · rcases List.mem_cons.mp hz with e | hz
      · rw [e]
        split
        · exact hy
        · exact hx
      · exact h1 z (List.mem_cons_of_mem _ (List.mem_cons_of_mem _ hz))
    · rcases List.mem_cons.mp hz with e | hz
      · rw [e]
        split
        · exact hyk
        · exact hxk
      · exact h2 z (List.mem_cons_of_mem _ (List.mem_cons_of_mem _ hz))
theorem vals_get : ∀ {xs : List V} {us : List Value}, Vals xs us → ∀ {i : Nat} {u : Value}, us[i]? = some u → ∃ x, xs[i]? = some x ∧ RelV x u
  | _, _, .nil, i, u, h => by cases h
  | _, _, .cons r t, 0, u, h => by
    have e := Option.some.inj h
    subst e
    exact ⟨_, rfl, r⟩
  | _, _, .cons r t, i + 1, u, h => vals_get t h
mutual
theorem rd_det {h : Heap} : ∀ (n : Nat) (d : PyData), okA n d = true → ∀ {v : Value} {d' : PyData} {as bs : List Addr}, Reads h v d as → Reads h v d' bs → d = d'
  | 0, _, ok, _, _, _, _, _, _ => by cases ok
  | n + 1, .int i, _, v, d', as, bs, r, r' => by
    cases r
    cases r'
    rfl
  | n + 1, .list ds, ok, v, d', as, bs, r, r' => by
    have ok2 : (ds.all (okA n) && decide (ds.length ≤ 1000)) = true := ok
    rw [Bool.and_eq_true] at ok2
    cases r with
    | list e1 c1 s1 ra =>
      cases r' with
      | list e2 c2 s2 rb =>
        rw [e1] at e2
        cases e2
        rw [s1] at s2
        cases s2
        rw [rd_dets n ds (List.all_eq_true.mp ok2.1) ra rb]
      | tuple e2 c2 s2 rb =>
        rw [e1] at e2
        cases e2
        rw [c1] at c2
        exact absurd (Value.type.inj c2) (by decide)
      | dict e2 c2 s2 rb rc =>
        rw [e1] at e2
        cases e2
        rw [c1] at c2
        exact absurd (Value.type.inj c2) (by decide)
  | n + 1, .tuple ds, ok, v, d', as, bs, r, r' => by
    have ok2 : (ds.all (okA n) && decide (ds.length ≤ 1000)) = true := ok
    rw [Bool.and_eq_true] at ok2
    cases r with
    | tuple e1 c1 s1 ra =>
      cases r' with
      | list e2 c2 s2 rb =>
        rw [e1] at e2
        cases e2
        rw [c1] at c2
        exact absurd (Value.type.inj c2) (by decide)
      | tuple e2 c2 s2 rb =>
        rw [e1] at e2
        cases e2
        rw [s1] at s2
        cases s2
        rw [rd_dets n ds (List.all_eq_true.mp ok2.1) ra rb]
      | dict e2 c2 s2 rb rc =>
        rw [e1] at e2
        cases e2
        rw [c1] at c2
        exact absurd (Value.type.inj c2) (by decide)
  | n + 1, .none, ok, _, _, _, _, _, _ => by cases ok
  | n + 1, .bool _, ok, _, _, _, _, _, _ => by cases ok
  | n + 1, .str _, ok, _, _, _, _, _, _ => by cases ok
  | n + 1, .dict _, ok, _, _, _, _, _, _ => by cases ok
theorem rd_dets {h : Heap} : ∀ (n : Nat) (ds : List PyData), (∀ d ∈ ds, okA n d = true) → ∀ {vs : List Value} {ds' : List PyData} {as bs : List Addr}, ReadsAll h vs ds as → ReadsAll h vs ds' bs → ds = ds'
  | n, [], _, vs, ds', as, bs, r, r' => by
    cases r
    cases r'
    rfl
  | n, d :: ds, ok, vs, ds', as, bs, r, r' => by
    cases r with
    | cons a b =>
      cases r' with
      | cons a' b' =>
        rw [rd_det n d (ok d (List.mem_cons_self ..)) a a', rd_dets n ds (fun x hx => ok x (List.mem_cons_of_mem _ hx)) b b']
end
/-- min of a list of lists of pairs: an item whose pairs are k's, where k is before all others -/
def rMinP (K : PySem.W.Frag) : List V → Hp → VK → Prop := fun vs H Q => ∃ (a : Addr) (rs : List V) (lss : List (List Pr)) (k : List Pr), vs = [V.ref a] ∧ SqL K H a rs ∧ DpAll K H rs (lss.map dL) ∧ k ∈ lss ∧ (∀ l ∈ lss, l.length ≤ 1000) ∧
  (∀ y ∈ lss, y = k ∨ LxL k y) ∧ ∀ (i : Nat) (y : V), rs[i]? = some y → lss[i]? = some k → Q y H
section
variable {X : Cx}
theorem cr_minP (hc : X.calm = true) (hu : X.A.units + 64 < cLine) : CallR X (.builtin "min") (rMinP X.K) := by
  intro pins s σ H vs us Q I r h
  obtain ⟨a, rs, lss, k, rfl, hs, dp, hk, sm, le, q⟩ := h
  obtain ⟨its, rv, hl, _⟩ := I.list hs
  rw [Vals.ref1 r]
  obtain ⟨as, ra⟩ := Dp.readsAll I _ _ _ dp rv
  cases lss with
  | nil => cases hk
  | cons x xs =>
    have e1 : (x :: xs).map dL = ((x :: xs).map fun l => l.map cI).map PySem.W.Datum.toD := by
      rw [List.map_map]
      exact List.map_congr_left fun l _ => dL_toD l
    have e2 : PySem.W.minOf (x.map cI) (xs.map fun l => l.map cI) = k.map cI := by
      refine fold_least _ _ ?_ ?_ ?_
      · exact List.mem_map.mpr ⟨k, hk, rfl⟩
      · intro y hy
        obtain ⟨l, hl, rfl⟩ := List.mem_map.mp (show y ∈ (x :: xs).map (fun l => l.map cI) from hy)
        rcases le l hl with rfl | ⟨c, p, q', u, v, rfl, rfl, lx⟩
        · exact lt_self _
        · exact (lx_lt c lx).2
      · intro y hy ne
        obtain ⟨l, hl, rfl⟩ := List.mem_map.mp (show y ∈ (x :: xs).map (fun l => l.map cI) from hy)
        rcases le l hl with rfl | ⟨c, p, q', u, v, rfl, rfl, lx⟩
        · exact absurd rfl ne
        · exact (lx_lt c lx).1
    refine PySem.W.min_list_datum (x := x.map cI) (xs := xs.map fun l => l.map cI) (I.ok.hd hc) hl.isList ⟨as, by rw [e1] at ra; exact ra⟩ (by show X.A.units + 1 + 2 < cLine; omega) fun i v h' tk hi hv hkk => ?_
    have hi' : its[i]? = some v := by
      rw [← hi]
      simp
    obtain ⟨y, hy, ry⟩ := vals_get rv hi'
    obtain ⟨d, hd, dy⟩ := DpAll.at' dp hy
    rw [List.getElem?_map] at hd
    cases hl2 : (x :: xs)[i]? with
    | none => rw [hl2] at hd; cases hd
    | some l =>
      rw [hl2] at hd
      cases hd
      have J := I.kept (t' := tk) hkk
      obtain ⟨bs, rb⟩ := Dp.reads J _ _ _ dy ry
      obtain ⟨cs, rc⟩ := hv
      rw [e2] at rc
      have ed := rd_det 3 (dL l) (okA_L (n := 0) (sm l (List.mem_of_getElem? hl2))) rb rc
      rw [dL_toD] at ed
      have el : l = k := by
        have z := PySem.W.Datum.eqv (l.map cI) (k.map cI)
        rw [ed, PySem.W.Datum.eqv, decide_eq_true rfl] at z
        have z2 : l.map cI = k.map cI := of_decide_eq_true z.symm
        exact mapI_inj z2
      subst el
      exact ⟨y, H, J, ry, q i y hy hl2⟩
end
end K1
set_option Elab.async false
set_option linter.all false
set_option maxRecDepth 100000
set_option maxHeartbeats 3200000
/-! The law's def _law_all. -/
namespace K1
open PySem PySem.Spec PyProof.Rows L2 A1
theorem pow7 {m i e : Nat} (hm : m ≤ 7) (hi : i ≤ e) : (m + 1) ^ i ≤ 8 ^ e := Nat.le_trans (Nat.pow_le_pow_left (by omega) i) (Nat.pow_le_pow_right (by decide) hi)
theorem take_s {α : Type} {l : List α} {r : Nat} {x : α} (h : l[r]? = some x) : l.take (r + 1) = l.take r ++ [x] := by
  rw [List.take_add_one, h]
  rfl
section
variable {P : Program} {w : World} {K : PySem.W.Frag} {mg : Str → Option Value} {base : Heap}
def spAll (K : PySem.W.Frag) : Sp := fun vs H Q _ => ∃ (a b : Addr) (ts us : List Str), vs = [.ref a, .ref b] ∧ SqL K H a (ts.map V.str) ∧ SqL K H b (us.map V.str) ∧ ts.length ≤ 7 ∧ us.length ≤ 7 ∧
  ∀ H' F as, Ke D0 H H' → H' F = some (.lst (as.map V.ref)) → Ix (PrLs H') as (allN (like ts us) us.length ts.length) → Q (.ref F) H'
theorem ok_all {f : Addr} {fd : FuncData} {k : Nat} (F : Fun K "_law_all" "_law_all" sLAll f fd) (M : Mg mg) : FnOk P w K mg base CX0 (k + 1) f fd ["_law_one", "_law_other"] (spAll K) := by
  refine F.ok scLAll (fun vs H Q E h => ?_) (fun cdv A outer s H vs Q E hr h => ?_)
  · obtain ⟨a, b, ts, us, rfl, _⟩ := h
    rfl
  · obtain ⟨a, b, ts, us, rfl, Sa, Sb, lt, lu, q⟩ := h
    refine ⟨_, (pss_cons (ps_set (i := 2) scLAll.nd rfl (.inl rfl) (pe_lst (pa_cons (pe_lst pa_nil) pa_nil)))
      (pss_cons (ps_for PassesOwn.never rfl (pi_range1 (by rfl) M.range_ (pa_cons (pe_callB call_len_seq (by rfl) M.len_ PySem.boot_len (pa_cons (pv 0) pa_nil)) pa_nil)) (pg_name (i := 3) scLAll.nd rfl (.inl rfl))
      (pss_cons (ps_set (i := 4) scLAll.nd rfl (.inl rfl) (pe_lst pa_nil))
      (pss_cons (ps_for PassesOwn.never rfl (pi_list (pv 2)) (pg_name (i := 5) scLAll.nd rfl (.inl rfl))
      (pss_one (ps_for PassesOwn.never rfl (pi_range1 (by rfl) M.range_ (pa_cons (pe_callB call_len_seq (by rfl) M.len_ PySem.boot_len (pa_cons (pv 1) pa_nil)) pa_nil)) (pg_name (i := 6) scLAll.nd rfl (.inl rfl))
      (pss_one (ps_if (PW.pt (pw_and (pt_cmpR op_eq (pe_ix ix_list (pv 0) (pv 3) (fun _ _ => rfl)) (pe_ix ix_list (pv 1) (pv 6) (fun _ _ => rfl)) (nomark _)) (pw_and1 (PW.pt (pw_or (pt_cmpR (op_eqD hr.units) (pv 5) (pe_lst pa_nil) (nomark _)) (pw_or1 (pt_cmpR op_lt (pe_ix ix_tup (pe_ix ix_list (pv 5) (pe_un un_neg pe_int) (fun _ _ => rfl)) pe_int (fun _ _ => rfl)) (pv 6) (nomark _))))))))
      (pss_one (ps_expr (pe_bm PySem.F.plainAttrs_list PySem.F.slot_list_append PySem.F.type_list_append mt_append (pv 4) (pa_cons (pe_op op_cat (pv 5) (pe_lst (pa_cons (pe_tup (pa_cons (pv 3) (pa_cons (pv 6) pa_nil))) pa_nil))) pa_nil))))
      pss_nil)))))
      (pss_one (ps_set (i := 2) scLAll.nd rfl (.inl rfl) (pe_op op_cat (pv 2) (pv 4)))))))
      (pss_one (ps_ret (pv 2))))), ?_⟩
    have sz : sizeLine = 16777216 := rfl
    generalize hPP : like ts us = PP at q
    refine ⟨Nat.zero_le _, fun c0 hc0 => ?_⟩
    have g1 : Ke D0 H (upd H c0 (.lst [])) := Ke.rfl'.new hc0
    have c1 : (upd H c0 (.lst [])) c0 = some (.lst []) := upd_same
    generalize upd H c0 (.lst []) = H1 at g1 c1 ⊢
    refine ⟨by show 1 ≤ sizeLine; decide, fun F0 hF0 => ?_⟩
    have g2 := g1.new (o := .lst [.ref c0]) hF0
    have c2 := (upd_ne (o := .lst [.ref c0]) (ne_of_none c1 hF0)).trans c1
    have F2 : (upd H1 F0 (.lst [.ref c0])) F0 = some (.lst ([c0].map V.ref)) := upd_same
    generalize upd H1 F0 (.lst [.ref c0]) = H2 at g2 c2 F2 ⊢
    refine ⟨.ref a, rfl, a, _, rfl, .inl (g2.seqL0 Sa), _, rfl, by omega, by rw [List.length_map]; omega, ?_⟩
    refine for_range (lo := 0) (n := (((ts.map V.str).length : Nat) : Int).toNat) (fun i σ H3 => ∃ (y3 y4 y5 y6 : Option V) (F : Addr) (as : List Addr), σ = [some (.ref a), some (.ref b), some (.ref F), y3, y4, y5, y6] ∧ Ke D0 H H3 ∧ H3 F = some (.lst (as.map V.ref)) ∧ Ix (PrLs H3) as (allN PP us.length i)) ?_ ?_ ?_
    · refine ⟨_, _, _, _, F0, [c0], rfl, g2, F2, rfl, fun k c l e1 e2 => ?_⟩
      cases k with
      | zero =>
        cases e1
        cases e2
        exact ⟨[], c2, .nil⟩
      | succ k => cases e1
    · rintro i σ H3 hi ⟨y3, y4, y5, y6, F, as, rfl, g3, F3, ix3⟩
      have hi' : i < ts.length := by rw [List.length_map] at hi; omega
      have z0 : (0 : Int) + (i : Nat) = (i : Nat) := by omega
      rw [z0]
      have al : (allN PP us.length i).length ≤ 262144 := Nat.le_trans allN_len (pow7 (e := 6) lu (by omega))
      have asl : as.length ≤ 262144 := by rw [ix3.1]; exact al
      refine ⟨Nat.zero_le _, fun G hG => ?_⟩
      have k4 : Ke D0 H3 (upd H3 G (.lst [])) := Ke.rfl'.new hG
      have G4 : (upd H3 G (.lst [])) G = some (.lst (([] : List Addr).map V.ref)) := upd_same
      generalize upd H3 G (.lst []) = H4 at k4 G4 ⊢
      refine ⟨.ref F, rfl, F, rfl, ⟨_, .inl (.inl (k4 _ _ (fun z => z) F3))⟩, ?_⟩
      refine for_list (K := K) (a := F) (xs := as.map V.ref) (fun r σ H5 => ∃ (y5 y6 : Option V) (bs : List Addr), σ = [some (.ref a), some (.ref b), some (.ref F), some (.int (i : Nat)), some (.ref G), y5, y6] ∧ Ke D0 H3 H5 ∧ H5 G = some (.lst (bs.map V.ref)) ∧ (∀ c ∈ bs, c ≠ G) ∧ Ix (PrLs H5) bs (extN PP us.length i ((allN PP us.length i).take r))) ?_ ?_ ?_ ?_
      · exact ⟨_, _, [], rfl, k4, G4, (fun c hc => by cases hc), rfl, (fun k c l e => by cases e)⟩
      · rintro r σ H5 hr5 ⟨_, _, _, _, g5, _⟩
        exact .inl (.inl (g5 _ _ (fun z => z) F3))
      · rintro r x σ H5 hx ⟨y5, y6, bs, rfl, g5, G5, nG, ix5⟩
        rw [List.getElem?_map] at hx
        cases hc : as[r]? with
        | none => rw [hc] at hx; cases hx
        | some c =>
          rw [hc] at hx
          cases hx
          obtain ⟨l, hl, xs, ec3, pc3⟩ := ix3.get hc
          have cG : c ≠ G := ne_of_none ec3 hG
          refine ⟨.ref b, rfl, b, _, rfl, .inl ((g3.trans g5).seqL0 Sb), _, rfl, by omega, by rw [List.length_map]; omega, ?_⟩
          refine for_range (lo := 0) (n := (((us.map V.str).length : Nat) : Int).toNat) (fun j σ H6 => ∃ (y6 : Option V) (bs : List Addr), σ = [some (.ref a), some (.ref b), some (.ref F), some (.int (i : Nat)), some (.ref G), some (.ref c), y6] ∧ Ke D0 H3 H6 ∧ H6 G = some (.lst (bs.map V.ref)) ∧ (∀ c ∈ bs, c ≠ G) ∧ Ix (PrLs H6) bs (extN PP us.length i ((allN PP us.length i).take r) ++ rowExt PP i l j)) ?_ ?_ ?_
          · exact ⟨_, bs, rfl, g5, G5, nG, by rw [rowExt_0, List.append_nil]; exact ix5⟩
          · rintro j σ H6 hj ⟨y6, bs, rfl, g6, G6, nG, ix6⟩
            have hj' : j < us.length := by rw [List.length_map] at hj; omega
            have z1 : (0 : Int) + (j : Nat) = (j : Nat) := by omega
            rw [z1]
            have ht : ts[i]? = some ts[i] := List.getElem?_eq_getElem hi'
            have hu' : us[j]? = some us[j] := List.getElem?_eq_getElem hj'
            generalize ts[i] = x at ht
            generalize us[j] = y at hu'
            have ec := g6 _ _ (fun z => z) ec3
            have pc := pc3.ke0 g6
            have Gsa := (g3.trans g6).seqL0 Sa
            have Gsb := (g3.trans g6).seqL0 Sb
            refine ⟨.ref a, rfl, .int (i : Nat), rfl, a, _, _, .str x, rfl, rfl, Gsa, atI_nat (by rw [List.getElem?_map, ht]; rfl), .ref b, rfl, .int (j : Nat), rfl, b, _, _, .str y, rfl, rfl, Gsb, atI_nat (by rw [List.getElem?_map, hu']; rfl), rfl, _, rfl, ite2 (fun e => ?same) (fun e => iteF ?other)⟩
            case other =>
              have np : PP i j = false := by
                cases h : PP i j with
                | false => rfl
                | true =>
                  rw [← hPP] at h
                  obtain ⟨w, e1, e2⟩ := like_iff.mp h
                  rw [ht] at e1
                  rw [hu'] at e2
                  cases e1
                  cases e2
                  exact absurd (decide_eq_true rfl) e
              refine ⟨_, bs, rfl, g6, G6, nG, ?_⟩
              rw [rowExt_s, np, Bool.false_and, if_neg Bool.false_ne_true, List.append_nil]
              exact ix6
            case same =>
              have exy : x = y := V.str.inj (of_decide_eq_true e)
              have hp : PP i j = true := by
                rw [← hPP]
                exact like_iff.mpr ⟨x, ht, by rw [exy]; exact hu'⟩
              apply tw (A := fun H7 => Ke D0 H6 H7 ∧ okTail l j = true)
              case use =>
                intro rest
                refine ⟨.ref c, rfl, Nat.zero_le _, fun z hz => ?_⟩
                have k7 : Ke D0 H6 (upd H6 z (.lst [])) := Ke.rfl'.new hz
                have z7 : (upd H6 z (.lst [])) z = some (.lst []) := upd_same
                generalize upd H6 z (.lst []) = H7 at k7 z7 ⊢
                refine ⟨dL l, .list [], dp_list (k7 _ _ (fun z => z) ec) (pc.ke0 k7), .lst (.inl (.inl z7)) .nil, shp_pairs l, rfl, PyData.eqv (dL l) (.list []), rfl, ite2 (fun e1 => iteT ?t1) (fun e1 => ?t2)⟩
                case t1 =>
                  rw [eqv_nil] at e1
                  refine rest H7 ⟨k7, ?_⟩
                  cases l with
                  | nil => rfl
                  | cons p l => cases e1
                case t2 =>
                  rw [eqv_nil] at e1
                  have ne : xs.isEmpty = false := by
                    cases xs with
                    | nil =>
                      cases pc
                      exact absurd rfl e1
                    | cons x xs => rfl
                  have ec7 := k7 _ _ (fun z => z) ec
                  obtain ⟨tl, ql, h1, h2, h3, h4⟩ := prl_last (pc.ke0 k7) ne
                  have ot : okTail l j = decide (ql.2 < j) := by
                    unfold okTail
                    rw [h3]
                  refine ⟨.ref c, rfl, 1, rfl, c, xs, -1, .ref tl, rfl, rfl, .inl (.inl ec7), at_m1 h1 h4, tl, _, 1, .int (ql.2 : Nat), rfl, rfl, .inl (.inl h2), atI_nat (j := 1) rfl, .int (j : Nat), rfl, _, _, rfl, rfl, _, rfl, ite2 (fun e2 => rest H7 ⟨k7, ?_⟩) (fun e2 => ?no)⟩
                  · have := of_decide_eq_true e2
                    rw [ot, decide_eq_true_eq]
                    omega
                  case no =>
                    have := of_decide_eq_false (Bool.eq_false_iff.mpr e2)
                    refine ⟨_, bs, rfl, g6.trans k7, k7 _ _ (fun z => z) G6, nG, ?_⟩
                    rw [rowExt_s, hp, ot, decide_eq_false (p := ql.2 < j) (by omega), Bool.and_false, if_neg Bool.false_ne_true, List.append_nil]
                    exact ix6.mono fun _ _ z => z.ke0 k7
              case h =>
                rintro H7 ⟨k7, ot⟩
                have g7 := g6.trans k7
                have G7 := k7 _ _ (fun z => z) G6
                have ec7 := k7 _ _ (fun z => z) ec
                have pc7 := pc.ke0 k7
                have ix7 := ix6.mono fun _ _ z => z.ke0 k7
                refine ⟨.ref G, rfl, .inl ⟨rfl, _, .inl (.inl G7)⟩, .ref c, rfl, .int (i : Nat), rfl, .int (j : Nat), rfl, by show 2 ≤ sizeLine; decide, fun tt htt => ?_⟩
                have k8 : Ke D0 H7 (upd H7 tt (.tup [V.int (i : Nat), .int (j : Nat)])) := Ke.rfl'.new htt
                have t8 : (upd H7 tt (.tup [V.int (i : Nat), .int (j : Nat)])) tt = some (.tup [V.int (i : Nat), .int (j : Nat)]) := upd_same
                generalize upd H7 tt (.tup [V.int (i : Nat), .int (j : Nat)]) = H8 at k8 t8 ⊢
                refine ⟨by show 1 ≤ sizeLine; decide, fun ll hll => ?_⟩
                have k9 : Ke D0 H8 (upd H8 ll (.lst [.ref tt])) := Ke.rfl'.new hll
                have l9 : (upd H8 ll (.lst [.ref tt])) ll = some (.lst [.ref tt]) := upd_same
                have t9 := k9 _ _ (fun z => z) t8
                have K9 := k8.trans k9
                generalize upd H8 ll (.lst [.ref tt]) = H9 at K9 l9 t9 ⊢
                have xl : xs.length ≤ 7 := by
                  have c5 := (allN_ok (List.mem_of_getElem? hl)).1.most (hPP ▸ like_in ts us)
                  rw [Paired.length pc]
                  exact Nat.le_trans c5 (Nat.le_trans Mx_le lt)
                refine ⟨c, ll, _, _, rfl, rfl, K9 _ _ (fun z => z) ec7, l9, by show xs.length + 1 ≤ sizeLine; omega, fun nn hnn => ?_⟩
                have k10 : Ke D0 H9 (upd H9 nn (.lst (xs ++ [.ref tt]))) := Ke.rfl'.new hnn
                have n10 : (upd H9 nn (.lst (xs ++ [.ref tt]))) nn = some (.lst (xs ++ [.ref tt])) := upd_same
                have t10 := k10 _ _ (fun z => z) t9
                have K10 := K9.trans k10
                have nnG : nn ≠ G := fun z => by
                  have := K9 _ _ (fun z => z) G7
                  rw [← z, hnn] at this
                  cases this
                generalize upd H9 nn (.lst (xs ++ [.ref tt])) = H10 at K10 n10 t10 ⊢
                have G10 := K10 _ _ (fun z => z) G7
                have bl : bs.length ≤ 2000000 := by
                  rw [ix6.1, List.length_append]
                  have h1 := extN_len (P := PP) (m := us.length) (i := i) (ls := (allN PP us.length i).take r)
                  have h2 := rowExt_len (P := PP) (i := i) (l := l) (j := j)
                  have h3 : ((allN PP us.length i).take r).length ≤ 262144 := by
                    rw [List.length_take]
                    omega
                  have h4 := Nat.mul_le_mul h3 lu
                  omega
                refine ⟨G, _, _, rfl, rfl, G10, by rw [List.length_map]; omega, ?_⟩
                refine ⟨_, bs ++ [nn], rfl, (g7.trans K10).put hG, by rw [upd_same, List.map_append]; rfl, fun d hd => ?_, ?_⟩
                · rcases List.mem_append.mp hd with hd | hd
                  · exact nG d hd
                  · rw [List.mem_singleton.mp hd]
                    exact nnG
                · rw [rowExt_s, hp, ot, Bool.and_true, if_pos rfl, ← List.append_assoc]
                  refine Ix.snoc ?_ ⟨xs ++ [.ref tt], (upd_ne nnG).trans n10, ?_⟩
                  · exact ⟨ix7.1, fun k c l e1 e2 => ((ix7.2 k c l e1 e2).ke0 K10).updL G10 (nG c (List.mem_of_getElem? e1))⟩
                  · exact PrL.updL (PrL.app (pc7.ke0 K10) (.one ⟨tt, rfl, t10⟩)) G10
          · rintro σ H6 ⟨y6, bs, rfl, g6, G6, nG, ix6⟩
            have e0 : (((us.map V.str).length : Nat) : Int).toNat = us.length := by rw [List.length_map]; omega
            rw [e0] at ix6
            refine ⟨_, _, bs, rfl, g6, G6, nG, ?_⟩
            rw [take_s hl, extN_snoc]
            exact ix6
      · rintro σ H5 ⟨y5, y6, bs, rfl, g5, G5, nG, ix5⟩
        rw [List.length_map, ix3.1, List.take_length] at ix5
        have bl : bs.length ≤ 2000000 := by
          rw [ix5.1]
          have h1 := extN_len (P := PP) (m := us.length) (i := i) (ls := allN PP us.length i)
          have h4 := Nat.mul_le_mul al lu
          omega
        have F5 := g5 _ _ (fun z => z) F3
        refine ⟨.ref F, rfl, .ref G, rfl, F, G, _, _, rfl, rfl, F5, G5, by rw [List.length_map, List.length_map]; omega, fun N hN => ?_⟩
        have k6 : Ke D0 H5 (upd H5 N (.lst (as.map V.ref ++ bs.map V.ref))) := Ke.rfl'.new hN
        refine ⟨_, _, _, _, N, as ++ bs, rfl, g3.trans (g5.trans k6), by rw [upd_same, List.map_append], ?_⟩
        have ixa := ix3.mono fun _ _ z => z.ke0 (g5.trans k6)
        have ixb := ix5.mono fun _ _ z => z.ke0 k6
        show Ix _ (as ++ bs) (allN PP us.length i ++ extN PP us.length i (allN PP us.length i))
        refine ⟨by rw [List.length_append, List.length_append, ixa.1, ixb.1], fun k c l e1 e2 => ?_⟩
        by_cases hk : k < as.length
        · rw [List.getElem?_append_left hk] at e1
          rw [List.getElem?_append_left (by rw [← ixa.1]; exact hk)] at e2
          exact ixa.2 k c l e1 e2
        · rw [List.getElem?_append_right (by omega)] at e1
          rw [List.getElem?_append_right (by rw [← ixa.1]; omega), ← ixa.1] at e2
          exact ixb.2 _ c l e1 e2
    · rintro σ H3 ⟨y3, y4, y5, y6, F, as, rfl, g3, F3, ix3⟩
      have e0 : (((ts.map V.str).length : Nat) : Int).toNat = ts.length := by rw [List.length_map]; omega
      rw [e0] at ix3
      exact ⟨.ref F, rfl, q H3 F as g3 F3 ix3⟩
end
end K1
set_option Elab.async false
set_option linter.all false
set_option maxRecDepth 100000
set_option maxHeartbeats 3200000
/-! The law's def _law_changed. -/
namespace K1
open PySem PySem.Spec PyProof.Rows L2 A1
theorem cut_nn (xs : List V) (x y : Nat) : cutV xs (some (x : Nat)) (some (y : Nat)) = (xs.drop x).take (y - x) := by
  unfold cutV
  rw [HT.sIx_nat, HT.sIx_nat]
  by_cases hx : x ≤ xs.length
  · rw [Nat.min_eq_left hx]
    by_cases hy : y ≤ xs.length
    · rw [Nat.min_eq_left hy]
    · rw [Nat.min_eq_right (by omega), List.take_of_length_le (by rw [List.length_drop]; exact Nat.le_refl _), List.take_of_length_le (by rw [List.length_drop]; omega)]
  · rw [List.drop_eq_nil_of_le (i := x) (by omega), List.drop_eq_nil_of_le (by omega), List.take_nil, List.take_nil]
theorem take_mid {α : Type} {l : List α} {x y : Nat} (h : x ≤ y) : l.take x ++ (l.drop x).take (y - x) = l.take y := by
  have e : y = x + (y - x) := by omega
  rw [e, List.take_add]
  congr 2
  omega
/-- behind r pairs: the next places here and there -/
def nxt (ps : List Pr) : Nat → Pr
  | 0 => (0, 0)
  | r + 1 => match ps[r]? with
    | some p => (p.1 + 1, p.2 + 1)
    | none => (0, 0)
theorem nxt_s {ps : List Pr} {r : Nat} {p : Pr} (h : ps[r]? = some p) : nxt ps (r + 1) = (p.1 + 1, p.2 + 1) := by
  show (match ps[r]? with | some p => (p.1 + 1, p.2 + 1) | none => (0, 0)) = _
  rw [h]
theorem nxt_le {P : Nat → Nat → Bool} {n m : Nat} {ps : List Pr} (hP : In P n m) (c : Ch P ps) : ∀ {r : Nat} {p : Pr}, (ps ++ [(n, m)])[r]? = some p → (nxt (ps ++ [(n, m)]) r).1 ≤ p.1 ∧ (nxt (ps ++ [(n, m)]) r).2 ≤ p.2
  | 0, p, h => ⟨Nat.zero_le _, Nat.zero_le _⟩
  | r + 1, p, h => by
    have up : (ps ++ [(n, m)]).Pairwise Up := List.pairwise_append.mpr ⟨c.up, List.pairwise_singleton .., fun x hx y hy => by
      obtain rfl := List.mem_singleton.mp hy
      exact hP _ _ (c.like x hx)⟩
    have hr := (List.getElem?_eq_some_iff.mp h).1
    have hq : (ps ++ [(n, m)])[r]? = some ((ps ++ [(n, m)])[r]'(by omega)) := List.getElem?_eq_getElem _
    generalize (ps ++ [(n, m)])[r] = q at hq
    rw [nxt_s hq]
    obtain ⟨h1, e1⟩ := List.getElem?_eq_some_iff.mp hq
    obtain ⟨h2, e2⟩ := List.getElem?_eq_some_iff.mp h
    have u := List.pairwise_iff_getElem.mp up r (r + 1) h1 h2 (Nat.lt_succ_self _)
    rw [e1, e2] at u
    exact u
section
variable {P : Program} {w : World} {K : PySem.W.Frag} {mg : Str → Option Value} {base : Heap}
def spChanged (K : PySem.W.Frag) : Sp := fun vs H Q _ => ∃ (a b c : Addr) (ts us : List Str) (xs : List V) (ps : List Pr), vs = [.ref a, .ref b, .ref c] ∧ SqL K H a (ts.map V.str) ∧ SqL K H b (us.map V.str) ∧ H c = some (.lst xs) ∧ PrL H xs ps ∧ Ch (like ts us) ps ∧ ts.length ≤ 7 ∧ us.length ≤ 7 ∧
  ∀ H' t f, Ke D0 H H' → H' t = some (.tup [.ref f, .int ((ts.length : Nat) + (us.length : Nat) - 2 * (ps.length : Nat))]) → H' f = some (.lst (us.map V.str)) → Q (.ref t) H'
theorem ok_changed {f : Addr} {fd : FuncData} {k : Nat} (F : Fun K "_law_changed" "_law_changed" sLChanged f fd) (M : Mg mg) : FnOk P w K mg base CX0 (k + 1) f fd ["_law_one", "_law_other", "_law_pairs"] (spChanged K) := by
  refine F.ok scLChanged (fun vs H Q E h => ?_) (fun cdv A outer s H vs Q E hr h => ?_)
  · obtain ⟨a, b, c, ts, us, xs, ps, rfl, _⟩ := h
    rfl
  · obtain ⟨a, b, c, ts, us, xs, ps, rfl, Sa, Sb, ec, pc, ch, lt, lu, q⟩ := h
    refine ⟨_, (pss_cons (ps_set (i := 3) scLChanged.nd rfl (.inl rfl) (pe_lst pa_nil))
      (pss_cons (ps_set (i := 4) scLChanged.nd rfl (.inl rfl) pe_int)
      (pss_cons (ps_asg (pe_tup (pa_cons pe_int (pa_cons pe_int pa_nil))) (pg_tup rfl (pgs_cons (pg_name (i := 5) scLChanged.nd rfl (.inl rfl)) (pgs_cons (pg_name (i := 6) scLChanged.nd rfl (.inl rfl)) pgs_nil))))
      (pss_cons (ps_for PassesOwn.never rfl (pi_list (pe_op op_cat (pv 2) (pe_lst (pa_cons (pe_tup (pa_cons (pe_callB call_len_seq (by rfl) M.len_ PySem.boot_len (pa_cons (pv 0) pa_nil)) (pa_cons (pe_callB call_len_seq (by rfl) M.len_ PySem.boot_len (pa_cons (pv 1) pa_nil)) pa_nil))) pa_nil)))) (pg_tup rfl (pgs_cons (pg_name (i := 7) scLChanged.nd rfl (.inl rfl)) (pgs_cons (pg_name (i := 8) scLChanged.nd rfl (.inl rfl)) pgs_nil)))
      (pss_cons (ps_set (i := 4) scLChanged.nd rfl (.inl rfl) (pe_op op_sub (pe_op op_add (pe_op op_sub (pe_op op_add (pv 4) (pv 7)) (pv 5)) (pv 8)) (pv 6)))
      (pss_cons (ps_set (i := 3) scLChanged.nd rfl (.inl rfl) (pe_op op_cat (pe_op op_cat (pv 3) (pe_slice sl_list (pv 1) (po_some (pv 6)) (po_some (pv 8)))) (pe_slice sl_list (pv 0) (po_some (pv 7)) (po_some (pe_op op_add (pv 7) pe_int)))))
      (pss_one (ps_par (i := 5) (j := 6) (by rfl) scLChanged.nd rfl rfl (by decide) rfl rfl (pa_cons (pe_op op_add (pv 7) pe_int) (pa_cons (pe_op op_add (pv 8) pe_int) pa_nil)) (by rfl))))))
      (pss_one (ps_ret (pe_tup (pa_cons (pv 3) (pa_cons (pv 4) pa_nil))))))))), ?_⟩
    have sz : sizeLine = 16777216 := rfl
    have hin := like_in ts us
    have pl : ps.length ≤ 7 := Nat.le_trans (ch.most hin) (Nat.le_trans Mx_le lt)
    have xl : xs.length ≤ 7 := by rw [Paired.length pc]; exact pl
    refine ⟨Nat.zero_le _, fun f0 hf0 => ?_⟩
    have g1 : Ke D0 H (upd H f0 (.lst [])) := Ke.rfl'.new hf0
    have f1 : (upd H f0 (.lst [])) f0 = some (.lst (([] : List Str).map V.str)) := upd_same
    generalize upd H f0 (.lst []) = H1 at g1 f1 ⊢
    refine ⟨by show 2 ≤ sizeLine; decide, fun T0 hT0 => ?_⟩
    have g1 := g1.new (o := .tup [V.int 0, .int 0]) hT0
    have f1 := (upd_ne (o := .tup [V.int 0, .int 0]) (ne_of_none f1 hT0)).trans f1
    have T1 : (upd H1 T0 (.tup [V.int 0, .int 0])) T0 = some (.tup [V.int 0, .int 0]) := upd_same
    generalize upd H1 T0 (.tup [V.int 0, .int 0]) = H1 at g1 f1 T1 ⊢
    refine ⟨T0, _, rfl, .inl (.inl T1), rfl, _, _, rfl, _, _, rfl, rfl, ?_⟩
    refine ⟨.ref c, rfl, .ref a, rfl, a, _, rfl, .inl (g1.seqL0 Sa), .ref b, rfl, b, _, rfl, .inl (g1.seqL0 Sb), by show 2 ≤ sizeLine; decide, fun tt htt => ?_⟩
    rw [List.length_map, List.length_map]
    have k2 : Ke D0 H1 (upd H1 tt (.tup [V.int (ts.length : Nat), .int (us.length : Nat)])) := Ke.rfl'.new htt
    have t2 : PrAt (upd H1 tt (.tup [V.int (ts.length : Nat), .int (us.length : Nat)])) (.ref tt) (ts.length, us.length) := ⟨tt, rfl, upd_same⟩
    generalize upd H1 tt (.tup [V.int (ts.length : Nat), .int (us.length : Nat)]) = H2 at k2 t2 ⊢
    refine ⟨by show 1 ≤ sizeLine; decide, fun ll hll => ?_⟩
    have k3 := k2.new (o := .lst [.ref tt]) hll
    have t3 := t2.ke0 (Ke.rfl'.new (o := .lst [.ref tt]) hll)
    have l3 : (upd H2 ll (.lst [.ref tt])) ll = some (.lst [.ref tt]) := upd_same
    generalize upd H2 ll (.lst [.ref tt]) = H3 at k3 t3 l3 ⊢
    have c3 := (g1.trans k3) _ _ (fun z => z) ec
    have p3 := pc.ke0 (g1.trans k3)
    refine ⟨c, ll, _, _, rfl, rfl, c3, l3, by show xs.length + 1 ≤ sizeLine; omega, fun L hL => ?_⟩
    have k4 := k3.new (o := .lst (xs ++ [.ref tt])) hL
    have q4 : PrL (upd H3 L (.lst (xs ++ [.ref tt]))) (xs ++ [.ref tt]) (ps ++ [(ts.length, us.length)]) := PrL.ke0 (PrL.app p3 (.one t3)) (Ke.rfl'.new (o := .lst (xs ++ [.ref tt])) hL)
    have L4 : (upd H3 L (.lst (xs ++ [.ref tt]))) L = some (.lst (xs ++ [.ref tt])) := upd_same
    generalize upd H3 L (.lst (xs ++ [.ref tt])) = H4 at k4 q4 L4 ⊢
    have g4 := g1.trans k4
    have f4 := k4 _ _ (fun z => z) f1
    refine ⟨L, rfl, ⟨_, .inl (.inl L4)⟩, ?_⟩
    generalize hZ : ps ++ [(ts.length, us.length)] = zs at q4
    refine for_list (K := K) (a := L) (xs := xs ++ [.ref tt]) (fun r σ H5 => ∃ (y7 y8 : Option V) (fr : Addr), σ = [some (.ref a), some (.ref b), some (.ref c), some (.ref fr), some (.int (((nxt zs r).1 : Nat) + ((nxt zs r).2 : Nat) - 2 * (r : Nat))), some (.int ((nxt zs r).1 : Nat)), some (.int ((nxt zs r).2 : Nat)), y7, y8] ∧ Ke D0 H4 H5 ∧ H5 fr = some (.lst ((us.take (nxt zs r).2).map V.str))) ?_ ?_ ?_ ?_
    · exact ⟨_, _, f0, rfl, Ke.rfl', f4⟩
    · rintro r σ H5 hr5 ⟨_, _, _, _, g5, _⟩
      exact .inl (.inl (g5 _ _ (fun z => z) L4))
    · rintro r x σ H5 hx ⟨y7, y8, fr, rfl, g5, f5⟩
      obtain ⟨p, hp, tp, rfl, etp⟩ := pr_get q4 hx
      have le := nxt_le hin ch (hZ ▸ hp)
      rw [hZ] at le
      have e2 := nxt_s hp
      rw [e2]
      generalize hx2 : nxt zs r = cur at le f5
      obtain ⟨he, th⟩ := cur
      have le1 : he ≤ p.1 := le.1
      have le2 : th ≤ p.2 := le.2
      have f5 : H5 fr = some (.lst ((us.take th).map V.str)) := f5
      have etp := g5 _ _ (fun z => z) etp
      have SaG : ∀ {H' : Hp}, Ke D0 H5 H' → SqL K H' a (ts.map V.str) := fun g => ((g4.trans g5).trans g).seqL0 Sa
      have SbG : ∀ {H' : Hp}, Ke D0 H5 H' → SqL K H' b (us.map V.str) := fun g => ((g4.trans g5).trans g).seqL0 Sb
      refine ⟨tp, _, rfl, .inl (.inl etp), rfl, _, _, rfl, _, _, rfl, rfl, ?_⟩
      refine ⟨.int _, rfl, .int (p.1 : Nat), rfl, _, _, rfl, rfl, .int (he : Nat), rfl, _, _, rfl, rfl, .int (p.2 : Nat), rfl, _, _, rfl, rfl, .int (th : Nat), rfl, _, _, rfl, rfl, ?_⟩
      refine ⟨.ref fr, rfl, .ref b, rfl, .int (th : Nat), rfl, _, rfl, .int (p.2 : Nat), rfl, _, rfl, b, _, rfl, SbG Ke.rfl', fun p1 hp1 => ?_⟩
      rw [cut_nn, ← List.map_drop, ← List.map_take]
      have k6 : Ke D0 H5 (upd H5 p1 (.lst (((us.drop th).take (p.2 - th)).map V.str))) := Ke.rfl'.new hp1
      have e6 : (upd H5 p1 (.lst (((us.drop th).take (p.2 - th)).map V.str))) p1 = some (.lst (((us.drop th).take (p.2 - th)).map V.str)) := upd_same
      generalize upd H5 p1 (.lst (((us.drop th).take (p.2 - th)).map V.str)) = H6 at k6 e6 ⊢
      have l1 : (us.take th).length ≤ 7 := by rw [List.length_take]; omega
      have l2 : ((us.drop th).take (p.2 - th)).length ≤ 7 := by rw [List.length_take, List.length_drop]; omega
      refine ⟨fr, p1, _, _, rfl, rfl, k6 _ _ (fun z => z) f5, e6, by rw [List.length_map, List.length_map]; omega, fun p2 hp2 => ?_⟩
      rw [← List.map_append, take_mid le2]
      have k7 := k6.new (o := .lst ((us.take p.2).map V.str)) hp2
      have e7 : (upd H6 p2 (.lst ((us.take p.2).map V.str))) p2 = some (.lst ((us.take p.2).map V.str)) := upd_same
      generalize upd H6 p2 (.lst ((us.take p.2).map V.str)) = H7 at k7 e7 ⊢
      refine ⟨.ref a, rfl, .int (p.1 : Nat), rfl, _, rfl, .int (p.1 : Nat), rfl, _, _, rfl, rfl, _, rfl, a, _, rfl, SaG k7, fun p3 hp3 => ?_⟩
      have z1 : ((p.1 : Nat) : Int) + 1 = ((p.1 + 1 : Nat) : Int) := by omega
      rw [z1, cut_nn, ← List.map_drop, ← List.map_take]
      have k8 := k7.new (o := .lst (((ts.drop p.1).take (p.1 + 1 - p.1)).map V.str)) hp3
      have e8 : (upd H7 p3 (.lst (((ts.drop p.1).take (p.1 + 1 - p.1)).map V.str))) p3 = some (.lst (((ts.drop p.1).take (p.1 + 1 - p.1)).map V.str)) := upd_same
      have e78 := (upd_ne (o := .lst (((ts.drop p.1).take (p.1 + 1 - p.1)).map V.str)) (ne_of_none e7 hp3)).trans e7
      generalize upd H7 p3 (.lst (((ts.drop p.1).take (p.1 + 1 - p.1)).map V.str)) = H8 at k8 e8 e78 ⊢
      have l3 : (us.take p.2).length ≤ 7 := by rw [List.length_take]; omega
      have l4 : ((ts.drop p.1).take (p.1 + 1 - p.1)).length ≤ 7 := by rw [List.length_take, List.length_drop]; omega
      refine ⟨p2, p3, _, _, rfl, rfl, e78, e8, by rw [List.length_map, List.length_map]; omega, fun p4 hp4 => ?_⟩
      have whole : us.take p.2 ++ (ts.drop p.1).take (p.1 + 1 - p.1) = us.take (p.2 + 1) := by
        rw [← hZ] at hp
        rcases at_end hp with ⟨h1, h2⟩ | ⟨h1, h2⟩
        · obtain ⟨t, e1, e2⟩ := like_iff.mp (ch.like p (List.mem_of_getElem? h2))
          have hd : ts.drop p.1 = t :: ts.drop (p.1 + 1) := by
            obtain ⟨h3, h4⟩ := List.getElem?_eq_some_iff.mp e1
            rw [List.drop_eq_getElem_cons h3, h4]
          have e3 : p.1 + 1 - p.1 = 0 + 1 := by omega
          rw [hd, e3, List.take_succ_cons, List.take_zero, List.take_add_one, e2]
          rfl
        · rw [← h2]
          show us.take us.length ++ (ts.drop ts.length).take (ts.length + 1 - ts.length) = us.take (us.length + 1)
          rw [List.drop_length, List.take_nil, List.append_nil, List.take_length, List.take_of_length_le (Nat.le_succ _)]
      rw [← List.map_append, whole]
      have k9 := k8.new (o := .lst ((us.take (p.2 + 1)).map V.str)) hp4
      have e9 : (upd H8 p4 (.lst ((us.take (p.2 + 1)).map V.str))) p4 = some (.lst ((us.take (p.2 + 1)).map V.str)) := upd_same
      generalize upd H8 p4 (.lst ((us.take (p.2 + 1)).map V.str)) = H9 at k9 e9 ⊢
      refine ⟨.int (p.1 : Nat), rfl, _, _, rfl, rfl, .int (p.2 : Nat), rfl, _, _, rfl, rfl, _, _, rfl, ?_⟩
      refine ⟨some (.int (p.1 : Nat)), some (.int (p.2 : Nat)), p4, ?_, g5.trans k9, e9⟩
      have w1 : (((he : Nat) : Int) + (th : Nat) - 2 * (r : Nat)) + (p.1 : Nat) - (he : Nat) + (p.2 : Nat) - (th : Nat) = ((p.1 + 1 : Nat) : Int) + ((p.2 + 1 : Nat) : Int) - 2 * ((r + 1 : Nat) : Int) := by omega
      have w2 : ((p.2 : Nat) : Int) + 1 = ((p.2 + 1 : Nat) : Int) := by omega
      show [some (V.ref a), some (V.ref b), some (V.ref c), some (V.ref p4), some (V.int ((((he : Nat) : Int) + (th : Nat) - 2 * (r : Nat)) + (p.1 : Nat) - (he : Nat) + (p.2 : Nat) - (th : Nat))), some (V.int (((p.1 : Nat) : Int) + 1)), some (V.int (((p.2 : Nat) : Int) + 1)), some (V.int (p.1 : Nat)), some (V.int (p.2 : Nat))]
        = [some (V.ref a), some (V.ref b), some (V.ref c), some (V.ref p4), some (V.int (((p.1 + 1 : Nat) : Int) + ((p.2 + 1 : Nat) : Int) - 2 * ((r + 1 : Nat) : Int))), some (V.int ((p.1 + 1 : Nat) : Int)), some (V.int ((p.2 + 1 : Nat) : Int)), some (V.int (p.1 : Nat)), some (V.int (p.2 : Nat))]
      rw [w1, z1, w2]
    · rintro σ H5 ⟨y7, y8, fr, rfl, g5, f5⟩
      have ln : (xs ++ [V.ref tt]).length = ps.length + 1 := by
        rw [List.length_append, Paired.length pc]
        rfl
      have hl : zs[ps.length]? = some (ts.length, us.length) := by
        rw [← hZ, List.getElem?_append_right (Nat.le_refl _), Nat.sub_self]
        rfl
      rw [ln, nxt_s hl] at f5
      have f5 : H5 fr = some (.lst ((us.take (us.length + 1)).map V.str)) := f5
      rw [List.take_of_length_le (Nat.le_succ _)] at f5
      refine ⟨.ref fr, rfl, .int _, rfl, by show 2 ≤ sizeLine; decide, fun t ht => ?_⟩
      have k6 : Ke D0 H5 (upd H5 t (.tup [.ref fr, .int (((nxt zs (xs ++ [V.ref tt]).length).1 : Nat) + ((nxt zs (xs ++ [V.ref tt]).length).2 : Nat) - 2 * ((xs ++ [V.ref tt]).length : Nat))])) := Ke.rfl'.new ht
      refine q _ t fr (g4.trans (g5.trans k6)) ?_ (k6 _ _ (fun z => z) f5)
      have wz : (((nxt zs (xs ++ [V.ref tt]).length).1 : Nat) : Int) + ((nxt zs (xs ++ [V.ref tt]).length).2 : Nat) - 2 * ((xs ++ [V.ref tt]).length : Nat) = (ts.length : Nat) + (us.length : Nat) - 2 * (ps.length : Nat) := by
        rw [ln, nxt_s hl]
        show ((ts.length + 1 : Nat) : Int) + ((us.length + 1 : Nat) : Int) - 2 * ((ps.length + 1 : Nat) : Int) = _
        omega
      rw [upd_same, wz]
end
end K1
set_option Elab.async false
set_option linter.all false
set_option maxRecDepth 100000
set_option maxHeartbeats 6400000
/-! The law. -/
namespace K1
open PySem PySem.Spec PyProof.Rows L2 A1
def menu41 : List (List Str) := [["a"], ["a", "A"], ["a", "b", "B"], ["", "a", "b c", "B c"]]
theorem menu41_ok {l : List Str} (h : l ∈ menu41) : (0 < l.length ∧ l.length ≤ 5) ∧ ∀ t ∈ l, TxG t := by
  have e : (menu41.all fun l => (decide (0 < l.length) && decide (l.length ≤ 5)) && l.all fun t => PyData.strOk t && decide (t.length ≤ 3)) = true := by decide +kernel
  have h2 := List.all_eq_true.mp e l h
  rw [Bool.and_eq_true, Bool.and_eq_true, decide_eq_true_eq, decide_eq_true_eq] at h2
  refine ⟨h2.1, fun t ht => ?_⟩
  have h3 := List.all_eq_true.mp h2.2 t ht
  rw [Bool.and_eq_true, decide_eq_true_eq] at h3
  exact h3
def dTI (us : List Str) (c : Int) : PyData := .tuple [.list (us.map PyData.str), .int c]
theorem shp_ti {us : List Str} {c : Int} (h : ∀ t ∈ us, PyData.strOk t = true) : SeqAt.shaped (dTI us c) = true := by
  have l1 := lay_strs h
  have d1 := dep_strs us
  unfold SeqAt.shaped dTI
  rw [Bool.and_eq_true, decide_eq_true_eq]
  refine ⟨?_, ?_⟩
  · show (PyData.canLay0 (.list (us.map PyData.str)) && (PyData.canLay0 (.int c) && true)) = true
    rw [l1]
    rfl
  · show max (PyData.depth (.list (us.map PyData.str))) (max (PyData.depth (.int c)) 0) + 1 ≤ 64
    rw [d1]
    exact (show 2 ≤ 64 by decide)
theorem eqv_ti {us : List Str} {c : Int} (h : ∀ t ∈ us, PyData.strOk t = true) : PyData.eqv (dTI us c) (dTI us c) = true := SeqAt.eqv_refl _ (SeqAt.canLay_of_shaped (shp_ti h))
theorem like_turn (ts us : List Str) (i j : Nat) : like us ts j i = like ts us i j := by
  rw [Bool.eq_iff_iff, like_iff, like_iff]
  constructor
  · rintro ⟨x, h1, h2⟩
    exact ⟨x, h2, h1⟩
  · rintro ⟨x, h1, h2⟩
    exact ⟨x, h2, h1⟩
theorem Mx_turn (ts us : List Str) : Mx (like us ts) us.length ts.length = Mx (like ts us) ts.length us.length := Mx_swap (like_in ts us) (like_in us ts) (like_turn ts us)
section
variable {P : Program} {w : World} {K : PySem.W.Frag} {mg : Str → Option Value} {base : Heap}
def spLaw (K : PySem.W.Frag) : Sp := fun vs H Q _ => ∃ (a : Addr) (ns : List Int), vs = [.ref a] ∧ SqL K H a (ns.map V.int) ∧ ns.length ≤ 63 ∧ ∀ H', Q (.bl true) H'
theorem ok_law {f : Addr} {fd : FuncData} {k : Nat} (F : Fun K "law" "law" sLaw f fd) (M : Mg mg) (cS : Cal P w K mg base k "_law_started" ["_law_script"] (spStarted K)) (cD : Cal P w K mg base k "_law_draw" ["_law_m", "_law_many"] (spDr K)) (cO : Cal P w K mg base k "_law_of" ["_law_m", "_law_some"] (spOf K))
    (cE : Cal P w K mg base k "_law_all" ["_law_one", "_law_other"] (spAll K)) (cC : Cal P w K mg base k "least_change" ["rows", "others"] (spLC K)) (cX : Cal P w K mg base k "least_cost" ["rows", "others"] (spCost K))
    (cA3 : Cal P w K mg base k "_law_alike" ["_law_found", "_law_due"] (spAlike K 3)) (cG : Cal P w K mg base k "_law_changed" ["_law_one", "_law_other", "_law_pairs"] (spChanged K)) : FnOk P w K mg base CX0 (k + 1) f fd ["_law_script"] (spLaw K) := by
  refine F.ok scLaw (fun vs H Q E h => ?_) (fun cdv A outer s H vs Q E hr h => ?_)
  · obtain ⟨a, ns, rfl, _⟩ := h
    rfl
  · obtain ⟨a, ns, rfl, Sa, ln, q⟩ := h
    refine ⟨_, (pss_cons (ps_set (i := 1) scLaw.nd rfl (.inr rfl) (pe_cal cS hr (by rfl) (pa_cons (pv 0) pa_nil)))
      (pss_cons (ps_for PassesOwn.never rfl (pi_range1 (by rfl) M.range_ (pa_cons (pe_callB (call_max2 rfl) (by rfl) M.max_ (by decide +kernel) (pa_cons pe_int (pa_cons (pe_callB (call_min2 rfl) (by rfl) M.min_ (by decide +kernel) (pa_cons pe_int (pa_cons (pe_callB call_len_seq (by rfl) M.len_ PySem.boot_len (pa_cons (pv 0) pa_nil)) pa_nil))) pa_nil))) pa_nil)) (pg_name (i := 2) scLaw.nd rfl (.inl rfl))
      (pss_cons (ps_set (i := 3) scLaw.nd rfl (.inr rfl) (pe_ix ix_list (pe_lst (pa_cons (pe_lst (pa_cons pe_str pa_nil)) (pa_cons (pe_lst (pa_cons pe_str (pa_cons pe_str pa_nil))) (pa_cons (pe_lst (pa_cons pe_str (pa_cons pe_str (pa_cons pe_str pa_nil)))) (pa_cons (pe_lst (pa_cons pe_str (pa_cons pe_str (pa_cons pe_str (pa_cons pe_str pa_nil))))) pa_nil))))) (pe_cal cD hr (by rfl) (pa_cons (pv 1) (pa_cons pe_int pa_nil))) (fun _ _ => rfl)))
      (pss_cons (ps_set (i := 4) scLaw.nd rfl (.inl rfl) (pe_op op_sub pe_int (pe_op op_mul pe_int (pe_callTy call_int1 (by rfl) M.int_ boot_int (pa_cons (pe_cmpR op_eq (pe_callB call_len_seq (by rfl) M.len_ PySem.boot_len (pa_cons (pv 3) pa_nil)) pe_int (nomark _)) pa_nil)))))
      (pss_cons (ps_setLc (i := 6) (own := [("_law_place", 5)]) (g := gName 5) (tt := tYes) rfl scLaw.nd rfl rfl (sw_true rfl rfl rfl (by decide +kernel)) (pi_range1 (by rfl) M.range_ (pa_cons (pe_cal cD hr (by rfl) (pa_cons (pv 1) (pa_cons (pv 4) pa_nil))) pa_nil)) (blkOk_by (N := ["_law_script", "_law_m", "_law_k", "_law_some", "_law_size", "_law_place", "_law_one", "_law_other", "_law_every", "_law_row", "_law_most", "_law_due", "_law_pairs", "_law_cost"]) (sc := defScope sLaw) (by decide +kernel)) (fun _ _ _ _ _ => (pg_name (i := 5) scLaw.nd rfl (Or.inl rfl))) (fun _ _ _ _ _ => pts_nil) (fun _ _ _ _ _ => (pe_cal cO hr (by rfl) (pa_cons (pv 1) (pa_cons (pv 3) pa_nil)))))
      (pss_cons (ps_setLc (i := 7) (own := [("_law_place", 5)]) (g := gName 5) (tt := tYes) rfl scLaw.nd rfl rfl (sw_true rfl rfl rfl (by decide +kernel)) (pi_range1 (by rfl) M.range_ (pa_cons (pe_cal cD hr (by rfl) (pa_cons (pv 1) (pa_cons (pv 4) pa_nil))) pa_nil)) (blkOk_by (N := ["_law_script", "_law_m", "_law_k", "_law_some", "_law_size", "_law_place", "_law_one", "_law_other", "_law_every", "_law_row", "_law_most", "_law_due", "_law_pairs", "_law_cost"]) (sc := defScope sLaw) (by decide +kernel)) (fun _ _ _ _ _ => (pg_name (i := 5) scLaw.nd rfl (Or.inl rfl))) (fun _ _ _ _ _ => pts_nil) (fun _ _ _ _ _ => (pe_cal cO hr (by rfl) (pa_cons (pv 1) (pa_cons (pv 3) pa_nil)))))
      (pss_cons (ps_set (i := 8) scLaw.nd rfl (.inl rfl) (pe_cal cE hr (by rfl) (pa_cons (pv 6) (pa_cons (pv 7) pa_nil))))
      (pss_cons (ps_set (i := 10) scLaw.nd rfl (.inr rfl) (pe_callB (cr_max rfl) (by rfl) M.max_ (by decide +kernel) (pa_cons (pe_lc (own := [("_law_row", 9)]) (g := gName 9) (tt := tYes) rfl scLaw.nd (pi_list (pv 8)) (blkOk_by (N := ["_law_script", "_law_m", "_law_k", "_law_some", "_law_size", "_law_place", "_law_one", "_law_other", "_law_every", "_law_row", "_law_most", "_law_due", "_law_pairs", "_law_cost"]) (sc := defScope sLaw) (by decide +kernel)) (fun _ _ _ _ _ => (pg_name (i := 9) scLaw.nd rfl (Or.inl rfl))) (fun _ _ _ _ _ => pts_nil) (fun _ _ _ _ _ => (pe_callB (show CallR _ (.builtin "len") (rLen K) from call_len_seq) (by rfl) M.len_ PySem.boot_len (pa_cons (pv 9) pa_nil)))) pa_nil)))
      (pss_cons (ps_set (i := 11) scLaw.nd rfl (.inl rfl) (pe_callB (cr_minP rfl hr.units) (by rfl) M.min_ (by decide +kernel) (pa_cons (pe_lc (own := [("_law_row", 9)]) (g := gName 9) rfl scLaw.nd (pi_list (pv 8)) (blkOk_by (N := ["_law_script", "_law_m", "_law_k", "_law_some", "_law_size", "_law_place", "_law_one", "_law_other", "_law_every", "_law_row", "_law_most", "_law_due", "_law_pairs", "_law_cost"]) (sc := defScope sLaw) (by decide +kernel)) (fun _ _ _ _ _ => (pg_name (i := 9) scLaw.nd rfl (Or.inl rfl))) (fun _ _ _ _ _ => (pts_one (pt_cmpR op_eq (pe_callB (show CallR _ (.builtin "len") (rLen K) from call_len_seq) (by rfl) M.len_ PySem.boot_len (pa_cons (pv 9) pa_nil)) (pv 10) (nomark _)))) (fun _ _ _ _ _ => (pv 9))) pa_nil)))
      (pss_cons (ps_set (i := 12) scLaw.nd rfl (.inl rfl) (pe_ix ix_tup (pe_cal cC hr (by rfl) (pa_cons (pe_callTy call_list_of (by rfl) M.list_ (by decide +kernel) (pa_cons (pv 6) pa_nil)) (pa_cons (pe_callTy call_list_of (by rfl) M.list_ (by decide +kernel) (pa_cons (pv 7) pa_nil)) pa_nil))) pe_int (fun _ _ => rfl)))
      (pss_cons (ps_set (i := 13) scLaw.nd rfl (.inl rfl) (pe_cal cX hr (by rfl) (pa_cons (pe_callTy call_list_of (by rfl) M.list_ (by decide +kernel) (pa_cons (pv 6) pa_nil)) (pa_cons (pe_callTy call_list_of (by rfl) M.list_ (by decide +kernel) (pa_cons (pv 7) pa_nil)) pa_nil))))
      (pss_cons (ps_if (PW.pt (pw_or (pt_not (pt_val (pe_cal cA3 hr (by rfl) (pa_cons (pv 12) (pa_cons (pv 11) pa_nil))))) (pw_or1 (pt_cmpR (op_neD hr.units) (pe_cal cG hr (by rfl) (pa_cons (pv 6) (pa_cons (pv 7) (pa_cons (pv 12) pa_nil)))) (pe_tup (pa_cons (pv 7) (pa_cons (pv 13) pa_nil))) (nomark _)))))
      (pss_one (ps_ret pe_bl))
      pss_nil)
      (pss_one (ps_if (pt_cmpR op_ne (pe_cal cX hr (by rfl) (pa_cons (pe_callTy call_list_of (by rfl) M.list_ (by decide +kernel) (pa_cons (pv 7) pa_nil)) (pa_cons (pe_callTy call_list_of (by rfl) M.list_ (by decide +kernel) (pa_cons (pv 6) pa_nil)) pa_nil))) (pv 13) (nomark _))
      (pss_one (ps_ret pe_bl))
      pss_nil)))))))))))))
      (pss_one (ps_ret pe_bl)))), ?_⟩
    have sz : sizeLine = 16777216 := rfl
    refine ⟨.ref a, rfl, a, ns, rfl, Sa, by omega, fun H1 m R g1 nm nR ms => ?_⟩
    refine ⟨.ref a, rfl, a, _, rfl, .inl (g1.seqL0 Sa), _, _, rfl, _, _, rfl, ?_⟩
    generalize hz : (if (if (((ns.map V.int).length : Nat) : Int) < 12 then (((ns.map V.int).length : Nat) : Int) else 12) > 3 then (if (((ns.map V.int).length : Nat) : Int) < 12 then (((ns.map V.int).length : Nat) : Int) else 12) else 3) = z
    have z0 : 0 ≤ z ∧ z ≤ 12 := by
      rw [← hz]
      split <;> split <;> omega
    refine ⟨z, rfl, by omega, by omega, ?_⟩
    refine for_range (lo := 0) (n := z.toNat) (fun i σ H2 => ∃ (y2 y3 y4 y5 y6 y7 y8 y9 y10 y11 y12 y13 : Option V) (k2 : Nat), σ = [some (.ref a), some (.ref m), y2, y3, y4, y5, y6, y7, y8, y9, y10, y11, y12, y13] ∧ MS K H2 m a R k2 ns.length ∧ k2 ≤ 100 * i) ?_ ?_ ?_
    · exact ⟨_, _, _, _, _, _, _, _, _, _, _, _, 0, rfl, ms, by omega⟩
    · rintro i σ H2 hi ⟨y2, y3, y4, y5, y6, y7, y8, y9, y10, y11, y12, y13, kb, rfl, ms, kl0⟩
      clear g1 nm nR Sa
      have s0 := ms.s
      have m0 : ∃ kvs, H2 m = some (.dK kvs) := ⟨_, ms.m⟩
      refine ⟨by show 1 ≤ sizeLine; decide, fun l1 h1 => ?_⟩
      have g1 : Ke D0 H2 (upd H2 l1 (.lst [V.str "a"])) := Ke.rfl'.new h1
      have a1 : (upd H2 l1 (.lst [V.str "a"])) l1 = some (.lst [V.str "a"]) := upd_same
      have q1 := (ms.notS h1).1
      generalize upd H2 l1 (.lst [V.str "a"]) = H1 at g1 a1 ⊢
      refine ⟨by show 2 ≤ sizeLine; decide, fun l2 h2 => ?_⟩
      have g2 := g1.new (o := .lst [V.str "a", .str "A"]) h2
      have a2 : (upd H1 l2 (.lst [V.str "a", .str "A"])) l2 = some (.lst [V.str "a", .str "A"]) := upd_same
      have b2 := (upd_ne (o := .lst [V.str "a", .str "A"]) (ne_of_none a1 h2)).trans a1
      have q2 := ((ms.ke0 g1).notS h2).1
      generalize upd H1 l2 (.lst [V.str "a", .str "A"]) = H2' at g2 a2 b2 ⊢
      refine ⟨by show 3 ≤ sizeLine; decide, fun l3 h3 => ?_⟩
      have g3 := g2.new (o := .lst [V.str "a", .str "b", .str "B"]) h3
      have a3 : (upd H2' l3 (.lst [V.str "a", .str "b", .str "B"])) l3 = some (.lst [V.str "a", .str "b", .str "B"]) := upd_same
      have b3 := (upd_ne (o := .lst [V.str "a", .str "b", .str "B"]) (ne_of_none a2 h3)).trans a2
      have c3 := (upd_ne (o := .lst [V.str "a", .str "b", .str "B"]) (ne_of_none b2 h3)).trans b2
      have q3 := ((ms.ke0 g2).notS h3).1
      generalize upd H2' l3 (.lst [V.str "a", .str "b", .str "B"]) = H3 at g3 a3 b3 c3 ⊢
      refine ⟨by show 4 ≤ sizeLine; decide, fun l4 h4 => ?_⟩
      have k4 : Ke D0 H3 (upd H3 l4 (.lst [V.str "", .str "a", .str "b c", .str "B c"])) := Ke.rfl'.new h4
      have a4 : (upd H3 l4 (.lst [V.str "", .str "a", .str "b c", .str "B c"])) l4 = some (.lst [V.str "", .str "a", .str "b c", .str "B c"]) := upd_same
      have q4 := ((ms.ke0 g3).notS h4).1
      have g4 := g3.trans k4
      have b4 := k4 _ _ (fun z => z) a3
      have c4 := k4 _ _ (fun z => z) b3
      have d4 := k4 _ _ (fun z => z) c3
      generalize upd H3 l4 (.lst [V.str "", .str "a", .str "b c", .str "B c"]) = H4 at g4 a4 b4 c4 d4 ⊢
      refine ⟨by show 4 ≤ sizeLine; decide, fun L hL => ?_⟩
      have k5 : Ke D0 H4 (upd H4 L (.lst [.ref l1, .ref l2, .ref l3, .ref l4])) := Ke.rfl'.new hL
      have a5 : (upd H4 L (.lst [.ref l1, .ref l2, .ref l3, .ref l4])) L = some (.lst [.ref l1, .ref l2, .ref l3, .ref l4]) := upd_same
      have q5 := (ms.ke0 g4).notS hL
      have g5 := g4.trans k5
      have ms5 := ms.ke0 g5
      have x1 := k5 _ _ (fun z => z) d4
      have x2 := k5 _ _ (fun z => z) c4
      have x3 := k5 _ _ (fun z => z) b4
      have x4 := k5 _ _ (fun z => z) a4
      generalize upd H4 L (.lst [.ref l1, .ref l2, .ref l3, .ref l4]) = H5 at g5 a5 ms5 x1 x2 x3 x4 ⊢
      refine ⟨.ref m, rfl, m, a, R, kb, ns.length, 4, rfl, ms5, by omega, by decide, by decide, fun H6 r g6 ms6 r0 r1 => ?_⟩
      obtain ⟨l, sm, hsm, hat, el, nl⟩ : ∃ (l : Addr) (sm : List Str), sm ∈ menu41 ∧ atI [V.ref l1, .ref l2, .ref l3, .ref l4] r = some (.ref l) ∧ H5 l = some (.lst (sm.map V.str)) ∧ l ≠ R := by
        have : r = 0 ∨ r = 1 ∨ r = 2 ∨ r = 3 := by omega
        rcases this with rfl | rfl | rfl | rfl
        · exact ⟨l1, _, List.mem_of_getElem? (i := 0) rfl, rfl, x1, q1⟩
        · exact ⟨l2, _, List.mem_of_getElem? (i := 1) rfl, rfl, x2, q2⟩
        · exact ⟨l3, _, List.mem_of_getElem? (i := 2) rfl, rfl, x3, q3⟩
        · exact ⟨l4, _, List.mem_of_getElem? (i := 3) rfl, rfl, x4, q4⟩
      refine ⟨L, _, r, .ref l, rfl, rfl, .inl (.inl (g6 _ _ (fun z => z.elim q5.2 q5.1) a5)), hat, ?_⟩
      obtain ⟨sm0, sm1⟩ := menu41_ok hsm
      have nlm : l ≠ m := fun z => by
        have := ms5.m
        rw [← z, el] at this
        cases this
      have R6 : RS K H2 H6 m a R l (kb + 1) ns.length sm := ⟨g5.up.trans g6, ms6, g6 _ _ (fun z => z.elim nlm nl) el, nl, s0, m0⟩
      clear a5 x1 x2 x3 x4 b4 c4 d4 a4 b3 c3 a3 a2 b2 a1 hat el k5 k4
      refine ⟨.ref l, rfl, l, _, rfl, .inl (.inl (.inl R6.el)), rfl, .inr ⟨_, rfl, _, _, rfl, rfl, .inl (by decide), _, _, rfl, rfl, ?_⟩⟩
      generalize hy : (8 : Int) - 2 * (if decide (V.int (((sm.map V.str).length : Nat) : Int) = V.int 1) = true then (1 : Int) else 0) = y
      have y0 : 6 ≤ y ∧ y ≤ 8 := by
        rw [← hy]
        split <;> omega
      refine ⟨.ref m, rfl, .int y, (by rw [← hy]; rfl), m, a, R, kb + 1, ns.length, y, rfl, R6.ms, by omega, by omega, by omega, fun H7 rd1 g7 ms7 rd10 rd11 => ?_⟩
      have R7 := R6.dr g7 ms7
      refine ⟨rd1, rfl, by omega, by omega, fun D1 hD1 => ?_⟩
      have nD1 := R7.ms.notS hD1
      have nlD1 : D1 ≠ l := fun z => by rw [z, R7.el] at hD1; cases hD1
      have h0D1 : H2 D1 = none := R7.ke.free (fun z => z.elim nD1.2 nD1.1) hD1
      refine lc_range (lo := 0) (n := (rd1).toNat) (fun j H9 => ∃ (k9 : Nat) (ts : List Str), RS K H2 H9 m a R l k9 ns.length sm ∧ k9 ≤ kb + 2 + j ∧ H9 D1 = some (.lst (ts.map V.str)) ∧ ts.length = j ∧ (∀ t ∈ ts, t ∈ sm)) ?_ ?_ ?_
      · exact ⟨_, [], R7.k0 (Ke.rfl'.new hD1), by omega, upd_same, rfl, (fun t ht => by cases ht)⟩
      · rintro j H9 hj ⟨k9, ts, r9, kl, eD, tl, tm⟩
        refine ⟨rfl, .ref m, rfl, .ref l, rfl, m, a, R, k9, ns.length, l, _, rfl, r9.ms, by omega, r9.el, r9.nl, by rw [List.length_map]; exact sm0.1, by rw [List.length_map]; omega, fun HA i v gA msA hv => ?_⟩
        rw [List.getElem?_map] at hv
        cases hx : sm[i]? with
        | none => rw [hx] at hv; cases hv
        | some x =>
          rw [hx] at hv
          cases hv
          have rA := r9.dr gA msA
          have DA := gA _ _ (fun z => z.elim nD1.2 nD1.1) eD
          refine ⟨_, DA, sL (by rw [List.length_map]; omega), k9 + 1, ts ++ [x], rA.put h0D1 DA nlD1 nD1.1, by omega, by rw [upd_same, List.map_append]; rfl, by rw [List.length_append, tl]; rfl, fun t ht => ?_⟩
          rcases List.mem_append.mp ht with ht | ht
          · exact tm t ht
          · rw [List.mem_singleton.mp ht]
            exact List.mem_of_getElem? hx
      · rintro H8 ⟨k8, ts, r8, kl8, e8, tl8, tm8⟩
        refine ⟨.ref m, rfl, .int y, (by rw [← hy]; rfl), m, a, R, k8, ns.length, y, rfl, r8.ms, by omega, by omega, by omega, fun HB rd2 gB msB rd20 rd21 => ?_⟩
        have rB := r8.dr gB msB
        have e1B := gB _ _ (fun z => z.elim nD1.2 nD1.1) e8
        have tl1 : ts.length ≤ 7 := by omega
        clear e8 r8
        generalize ts = ts1 at e1B tm8 tl1
        refine ⟨rd2, rfl, by omega, by omega, fun D2 hD2 => ?_⟩
        have nD2 := rB.ms.notS hD2
        have nlD2 : D2 ≠ l := fun z => by rw [z, rB.el] at hD2; cases hD2
        have h0D2 : H2 D2 = none := rB.ke.free (fun z => z.elim nD2.2 nD2.1) hD2
        refine lc_range (lo := 0) (n := (rd2).toNat) (fun j H9 => ∃ (k9 : Nat) (ts : List Str), RS K H2 H9 m a R l k9 ns.length sm ∧ k9 ≤ kb + 12 + j ∧ H9 D2 = some (.lst (ts.map V.str)) ∧ ts.length = j ∧ (∀ t ∈ ts, t ∈ sm) ∧ H9 D1 = some (.lst (ts1.map V.str))) ?_ ?_ ?_
        · exact ⟨_, [], rB.k0 (Ke.rfl'.new hD2), by omega, upd_same, rfl, (fun t ht => by cases ht), (upd_ne (ne_of_none e1B hD2)).trans e1B⟩
        · rintro j H9 hj ⟨k9, ts, r9, kl, eD, tl, tm, e19⟩
          refine ⟨rfl, .ref m, rfl, .ref l, rfl, m, a, R, k9, ns.length, l, _, rfl, r9.ms, by omega, r9.el, r9.nl, by rw [List.length_map]; exact sm0.1, by rw [List.length_map]; omega, fun HA i v gA msA hv => ?_⟩
          rw [List.getElem?_map] at hv
          cases hx : sm[i]? with
          | none => rw [hx] at hv; cases hv
          | some x =>
            rw [hx] at hv
            cases hv
            have rA := r9.dr gA msA
            have DA := gA _ _ (fun z => z.elim nD2.2 nD2.1) eD
            refine ⟨_, DA, sL (by rw [List.length_map]; omega), k9 + 1, ts ++ [x], rA.put h0D2 DA nlD2 nD2.1, by omega, by rw [upd_same, List.map_append]; rfl, by rw [List.length_append, tl]; rfl, fun t ht => ?_, (upd_ne (ne_of_none e1B hD2)).trans (gA _ _ (fun z => z.elim nD1.2 nD1.1) e19)⟩
            rcases List.mem_append.mp ht with ht | ht
            · exact tm t ht
            · rw [List.mem_singleton.mp ht]
              exact List.mem_of_getElem? hx
        · rintro HC ⟨kC, us, rC, klC, e2C, tlC, tmC, e1C⟩
          have lu : us.length ≤ 7 := by omega
          have ot : ∀ t ∈ ts1, PyData.strOk t = true := fun t ht => (sm1 t (tm8 t ht)).1
          have ou : ∀ t ∈ us, PyData.strOk t = true := fun t ht => (sm1 t (tmC t ht)).1
          have msC := rC.ms
          have kC' : kC ≤ 100 * (i + 1) := by omega
          clear rC klC
          -- all rows
          refine ⟨.ref D1, rfl, .ref D2, rfl, D1, D2, ts1, us, rfl, .inl (.inl e1C), .inl (.inl e2C), tl1, lu, fun HD Fa as gD eF ixF => ?_⟩
          have hin := like_in ts1 us
          have Mle : Mx (like ts1 us) ts1.length us.length ≤ ts1.length := Mx_le
          have kept := kept_ok hin
          have kmem : keptOf (like ts1 us) ts1.length us.length ∈ allN (like ts1 us) us.length ts1.length := allN_all kept.1 fun p hp => hin _ _ (kept.1.like p hp)
          have turn := Mx_turn ts1 us
          have least : ∀ y, Ch (like ts1 us) y → y.length = Mx (like ts1 us) ts1.length us.length → y = keptOf (like ts1 us) ts1.length us.length ∨ LxL (keptOf (like ts1 us) ts1.length us.length) y := fun y c h => keptOf_least hin c h
          generalize hPP : like ts1 us = PP at *
          have al : (allN PP us.length ts1.length).length ≤ 2097152 := Nat.le_trans allN_len (pow7 (e := 7) lu tl1)
          have sml : ∀ l ∈ allN PP us.length ts1.length, l.length ≤ 1000 := fun l hl => by
            have := (allN_ok hl).1.most hin
            omega
          have asl : as.length ≤ 2097152 := by rw [ixF.1]; exact al
          have eD1 := gD _ _ (fun z => z) e1C
          have eD2 := gD _ _ (fun z => z) e2C
          have msD := msC.ke0 gD
          clear e1C e2C msC gD
          -- the most
          refine ⟨.ref Fa, rfl, Fa, rfl, ⟨_, .inl (.inl eF)⟩, fun G hG => ?_⟩
          refine lc_list (K := K) (a := Fa) (xs := as.map V.ref) (fun r H5 => Ke D0 HD H5 ∧ H5 G = some (.lst ((((allN PP us.length ts1.length).take r).map fun l => ((l.length : Nat) : Int)).map V.int))) ?_ ?_ ?_ ?_
          · exact ⟨Ke.rfl'.new hG, upd_same⟩
          · rintro r H5 hr5 ⟨g5, _⟩
            exact .inl (.inl (g5 _ _ (fun z => z) eF))
          · rintro r x H5 hx ⟨g5, G5⟩
            rw [List.getElem?_map] at hx
            cases hc : as[r]? with
            | none => rw [hc] at hx; cases hx
            | some c =>
              rw [hc] at hx
              cases hx
              obtain ⟨l, hl, xs, ec, pc⟩ := ixF.get hc
              refine ⟨rfl, .ref c, rfl, c, _, rfl, .inl (.inl (.inl (g5 _ _ (fun z => z) ec))), ?_⟩
              refine ⟨_, G5, by rw [List.length_map, List.length_map, List.length_take]; omega, g5.put hG, ?_⟩
              rw [upd_same, take_s hl, List.map_append, List.map_append, Paired.length pc]
              rfl
          · rintro H5 ⟨g5, G5⟩
            rw [List.length_map, ixF.1, List.take_length] at G5
            refine ⟨G, _, rfl, .inl (.inl G5), by rw [List.length_map]; exact List.length_pos_of_mem kmem, fun mx h1 h2 => ?_⟩
            have emx : mx = (Mx PP ts1.length us.length : Nat) := by
              have up : mx ≤ (Mx PP ts1.length us.length : Nat) := by
                obtain ⟨l, hl, rfl⟩ := List.mem_map.mp h1
                have := (allN_ok hl).1.most hin
                omega
              have lo := h2 _ (List.mem_map.mpr ⟨_, kmem, rfl⟩)
              rw [kept.2] at lo
              omega
            subst emx
            clear h1 h2 G5
            have eF5 := g5 _ _ (fun z => z) eF
            have ix5 := ixF.mono fun _ _ z => z.ke0 g5
            have e51 := g5 _ _ (fun z => z) eD1
            have e52 := g5 _ _ (fun z => z) eD2
            have ms5 := msD.ke0 g5
            clear eF ixF eD1 eD2 msD
            -- the least of the longest
            refine ⟨.ref Fa, rfl, Fa, rfl, ⟨_, .inl (.inl eF5)⟩, fun G2 hG2 => ?_⟩
            refine lc_list (K := K) (a := Fa) (xs := as.map V.ref) (fun r H6 => Ke D0 H5 H6 ∧ ∃ cs : List Addr, H6 G2 = some (.lst (cs.map V.ref)) ∧ (∀ c ∈ cs, c ≠ G2) ∧ Ix (PrLs H6) cs (((allN PP us.length ts1.length).take r).filter fun l => decide (l.length = Mx PP ts1.length us.length))) ?_ ?_ ?_ ?_
            · exact ⟨Ke.rfl'.new hG2, [], upd_same, (fun c hc => by cases hc), rfl, (fun k c l e => by cases e)⟩
            · rintro r H6 hr6 ⟨g6, _⟩
              exact .inl (.inl (g6 _ _ (fun z => z) eF5))
            · rintro r x H6 hx ⟨g6, cs, G6, nG, ix6⟩
              rw [List.getElem?_map] at hx
              cases hc : as[r]? with
              | none => rw [hc] at hx; cases hx
              | some c =>
                rw [hc] at hx
                cases hx
                obtain ⟨l, hl, xs, ec5, pc5⟩ := ix5.get hc
                have ec := g6 _ _ (fun z => z) ec5
                have pc := pc5.ke0 g6
                have tk : ((allN PP us.length ts1.length).take (r + 1)).filter (fun l => decide (l.length = Mx PP ts1.length us.length)) = ((allN PP us.length ts1.length).take r).filter (fun l => decide (l.length = Mx PP ts1.length us.length)) ++ (if decide (l.length = Mx PP ts1.length us.length) = true then [l] else []) := by
                  rw [take_s hl, List.filter_append]
                  congr 1
                  rw [List.filter_cons, List.filter_nil]
                refine ⟨rfl, .ref c, rfl, c, _, rfl, .inl (.inl (.inl ec)), .int (Mx PP ts1.length us.length : Nat), rfl, rfl, _, rfl, ite2 (fun e => ?same) (fun e => ?other)⟩
                case other =>
                  have ne : ¬ l.length = Mx PP ts1.length us.length := fun z => e (decide_eq_true (by rw [Paired.length pc, z]))
                  refine ⟨g6, cs, G6, nG, ?_⟩
                  rw [tk, decide_eq_false ne, if_neg Bool.false_ne_true, List.append_nil]
                  exact ix6
                case same =>
                  have eql : l.length = Mx PP ts1.length us.length := by
                    have z := V.int.inj (of_decide_eq_true e)
                    have := Paired.length pc
                    omega
                  have csl : cs.length ≤ 2097152 := by
                    rw [ix6.1]
                    have h1 := List.length_filter_le (fun l : List Pr => decide (l.length = Mx PP ts1.length us.length)) ((allN PP us.length ts1.length).take r)
                    rw [List.length_take] at h1
                    omega
                  have nc : c ≠ G2 := ne_of_none ec5 hG2
                  refine ⟨.ref c, rfl, cs.map V.ref, G6, by rw [List.length_map]; omega, g6.put hG2, cs ++ [c], by rw [upd_same, List.map_append]; rfl, fun d hd => ?_, ?_⟩
                  · rcases List.mem_append.mp hd with hd | hd
                    · exact nG d hd
                    · rw [List.mem_singleton.mp hd]
                      exact nc
                  · rw [tk, decide_eq_true eql, if_pos rfl]
                    refine Ix.snoc ?_ ⟨xs, (upd_ne nc).trans ec, pc.updL G6⟩
                    exact ⟨ix6.1, fun k c l e1 e2 => (ix6.2 k c l e1 e2).updL G6 (nG c (List.mem_of_getElem? e1))⟩
            · rintro H6 ⟨g6, cs, G6, nG, ix6⟩
              rw [List.length_map, ix5.1, List.take_length] at ix6
              refine ⟨G2, cs.map V.ref, _, keptOf PP ts1.length us.length, rfl, .inl (.inl G6), dp_ix ix6, List.mem_filter.mpr ⟨kmem, decide_eq_true kept.2⟩, fun l hl => sml l (List.mem_filter.mp hl).1, fun y hy => ?_, fun iy y hy hl => ?_⟩
              · obtain ⟨h1, h2⟩ := List.mem_filter.mp hy
                exact least y (allN_ok h1).1 (of_decide_eq_true h2)
              rw [List.getElem?_map] at hy
              cases hc : cs[iy]? with
              | none => rw [hc] at hy; cases hy
              | some c =>
                rw [hc] at hy
                cases hy
                obtain ⟨xd, ed, pd⟩ := ix6.2 iy c _ hc hl
                have e61 := g6 _ _ (fun z => z) e51
                have e62 := g6 _ _ (fun z => z) e52
                have ms6 := ms5.ke0 g6
                clear ix6 ix5 eF5 e51 e52 ms5 G6 g6 g5
                -- what the program tells
                refine ⟨.ref D1, rfl, D1, _, rfl, .inl (.inl (.inl e61)), fun a1 ha1 => ?_⟩
                have k7 : Ke D0 H6 (upd H6 a1 (.lst (ts1.map V.str))) := Ke.rfl'.new ha1
                have a7 : (upd H6 a1 (.lst (ts1.map V.str))) a1 = some (.lst (ts1.map V.str)) := upd_same
                generalize upd H6 a1 (.lst (ts1.map V.str)) = H7 at k7 a7 ⊢
                refine ⟨.ref D2, rfl, D2, _, rfl, .inl (.inl (.inl (k7 _ _ (fun z => z) e62))), fun b1 hb1 => ?_⟩
                have k8 := k7.new (o := .lst (us.map V.str)) hb1
                have a8 := (upd_ne (o := .lst (us.map V.str)) (ne_of_none a7 hb1)).trans a7
                have b8 : (upd H7 b1 (.lst (us.map V.str))) b1 = some (.lst (us.map V.str)) := upd_same
                generalize upd H7 b1 (.lst (us.map V.str)) = H8 at k8 a8 b8 ⊢
                refine ⟨a1, b1, ts1, us, rfl, .inl (.inl a8), .inl (.inl b8), by omega, by omega, fun Ha t ga ch => ?_⟩
                rw [hPP] at ch
                obtain ⟨L, W, xs, Hm, nt, et, gm, nL, eL, pL, gm3, lv⟩ := ch
                have eL := gm3 _ _ (fun z => z) eL
                have pL := pL.ke0 gm3
                have kA := k8.trans ga
                clear gm gm3 lv nt nL
                refine ⟨t, _, 0, .ref L, rfl, rfl, .inl (.inl et), atI_nat (j := 0) rfl, ?_⟩
                have eA1 := kA _ _ (fun z => z) e61
                have eA2 := kA _ _ (fun z => z) e62
                refine ⟨.ref D1, rfl, D1, _, rfl, .inl (.inl (.inl eA1)), fun a2 ha2 => ?_⟩
                have k9 : Ke D0 Ha (upd Ha a2 (.lst (ts1.map V.str))) := Ke.rfl'.new ha2
                have a9 : (upd Ha a2 (.lst (ts1.map V.str))) a2 = some (.lst (ts1.map V.str)) := upd_same
                generalize upd Ha a2 (.lst (ts1.map V.str)) = H9 at k9 a9 ⊢
                refine ⟨.ref D2, rfl, D2, _, rfl, .inl (.inl (.inl (k9 _ _ (fun z => z) eA2))), fun b2 hb2 => ?_⟩
                have k10 := k9.new (o := .lst (us.map V.str)) hb2
                have a10 := (upd_ne (o := .lst (us.map V.str)) (ne_of_none a9 hb2)).trans a9
                have b10 : (upd H9 b2 (.lst (us.map V.str))) b2 = some (.lst (us.map V.str)) := upd_same
                generalize upd H9 b2 (.lst (us.map V.str)) = H10 at k10 a10 b10 ⊢
                refine ⟨a2, b2, ts1, us, rfl, .inl (.inl a10), .inl (.inl b10), by omega, by omega, fun Hb gb => ?_⟩
                rw [hPP]
                have kB := k10.trans gb
                have KB := kA.trans kB
                have eLb := kB _ _ (fun z => z) eL
                have pLb := pL.ke0 kB
                have edb := KB _ _ (fun z => z) ed
                have pdb := pd.ke0 KB
                refine ⟨.ref L, rfl, .ref c, rfl, .ref L, .ref c, dL (keptOf PP ts1.length us.length), rfl, dp_list eLb pLb, dp_list edb pdb, okA_L (by rw [kept.2]; omega), fun Hc gc => ⟨_, rfl, iteF ?_⟩⟩
                have KC := KB.trans gc
                have eC1 := KC _ _ (fun z => z) e61
                have eC2 := KC _ _ (fun z => z) e62
                refine ⟨.ref D1, rfl, .ref D2, rfl, .ref L, rfl, D1, D2, L, ts1, us, xs, _, rfl, .inl (.inl eC1), .inl (.inl eC2), gc _ _ (fun z => z) eLb, pLb.ke0 gc, hPP ▸ kept.1, tl1, lu, fun Hd tt ff gd ett eff => ?_⟩
                rw [kept.2] at ett
                have KD := KC.trans gd
                have eD2 := KD _ _ (fun z => z) e62
                refine ⟨.ref D2, rfl, .int ((ts1.length : Nat) + (us.length : Nat) - 2 * (Mx PP ts1.length us.length : Nat)), rfl, by show 2 ≤ sizeLine; decide, fun t2 ht2 => ?_⟩
                have k11 : Ke D0 Hd (upd Hd t2 (.tup [.ref D2, .int ((ts1.length : Nat) + (us.length : Nat) - 2 * (Mx PP ts1.length us.length : Nat))])) := Ke.rfl'.new ht2
                have t11 : (upd Hd t2 (.tup [.ref D2, .int ((ts1.length : Nat) + (us.length : Nat) - 2 * (Mx PP ts1.length us.length : Nat))])) t2 = some (.tup [.ref D2, .int ((ts1.length : Nat) + (us.length : Nat) - 2 * (Mx PP ts1.length us.length : Nat))]) := upd_same
                generalize upd Hd t2 (.tup [.ref D2, .int ((ts1.length : Nat) + (us.length : Nat) - 2 * (Mx PP ts1.length us.length : Nat))]) = He at k11 t11 ⊢
                have KE := KD.trans k11
                refine ⟨dTI us _, dTI us _, .tup (.inl (.inl (k11 _ _ (fun z => z) ett))) (.cons (.lst (.inl (.inl (k11 _ _ (fun z => z) eff))) (dp_strs us)) (.cons (.int _) .nil)), .tup (.inl (.inl t11)) (.cons (.lst (.inl (.inl (k11 _ _ (fun z => z) eD2))) (dp_strs us)) (.cons (.int _) .nil)), shp_ti ou, shp_ti ou, _, rfl, iteFe (by rw [eqv_ti ou]; rfl) ?_⟩
                have eE1 := KE _ _ (fun z => z) e61
                have eE2 := KE _ _ (fun z => z) e62
                refine ⟨.ref D2, rfl, D2, _, rfl, .inl (.inl (.inl eE2)), fun a3 ha3 => ?_⟩
                have k12 : Ke D0 He (upd He a3 (.lst (us.map V.str))) := Ke.rfl'.new ha3
                have a12 : (upd He a3 (.lst (us.map V.str))) a3 = some (.lst (us.map V.str)) := upd_same
                generalize upd He a3 (.lst (us.map V.str)) = H12 at k12 a12 ⊢
                refine ⟨.ref D1, rfl, D1, _, rfl, .inl (.inl (.inl (k12 _ _ (fun z => z) eE1))), fun b3 hb3 => ?_⟩
                have k13 := k12.new (o := .lst (ts1.map V.str)) hb3
                have a13 := (upd_ne (o := .lst (ts1.map V.str)) (ne_of_none a12 hb3)).trans a12
                have b13 : (upd H12 b3 (.lst (ts1.map V.str))) b3 = some (.lst (ts1.map V.str)) := upd_same
                generalize upd H12 b3 (.lst (ts1.map V.str)) = H13 at k13 a13 b13 ⊢
                refine ⟨a3, b3, us, ts1, rfl, .inl (.inl a13), .inl (.inl b13), by omega, by omega, fun Hf gf => ?_⟩
                rw [turn]
                have same : (us.length : Int) + (ts1.length : Int) - 2 * ((Mx PP ts1.length us.length : Nat) : Int) = (ts1.length : Int) + (us.length : Int) - 2 * ((Mx PP ts1.length us.length : Nat) : Int) := by omega
                rw [same]
                refine ⟨.int _, rfl, rfl, _, rfl, iteFe (by rw [decide_eq_true rfl]; rfl) ?_⟩
                exact ⟨_, _, _, _, _, _, _, _, _, _, _, _, kC, rfl, ms6.ke0 (KE.trans (k13.trans gf)), kC'⟩
    · rintro σ H2 ⟨y2, y3, y4, y5, y6, y7, y8, y9, y10, y11, y12, y13, k2, rfl, ms2, kl⟩
      exact q H2
end
end K1
set_option Elab.async false
set_option linter.all false
set_option maxRecDepth 100000
set_option maxHeartbeats 4000000
/-! The end: what the top has left, taken together. -/
namespace K1
open PySem PySem.Spec PyProof.Rows L2 PySem.W A1

/-- what the walk's end asks at a heap: a promise of the law, with tables -/
def EndAt (l : OpenLaw) (w : World) (K : Frag) (k n : Nat) (x : Str) (mg : Str → Option Value) (fa : Addr) (h : Heap) : Prop := LamX.LawAtS l w K L2.CX0 k n x mg fa h
theorem walk_tabs {l : OpenLaw} {n k : Nat} {q : Program} {loose : List Str} {XP : (Str → Option Value) → Heap → Prop} {YP : World → Heap → Prop} {d : DefRec} {K : Params → Frag} {x : Str}
    (hn : l.most = some n) (hn2 : n ≤ sizeLine) (hdf : d.params.defaults = []) (hr : Room k callerA) (hY : ∀ (w : World) (h : Heap), YP w h → (K w.params).In h)
    (F : ∀ (w : World) (lo : List Str) (mean : ExcName → Option Value) (mg mb : Str → Option Value) (fa : Addr) (h : Heap), (K w.params).In h → Top q lo mean mg mb h → mg d.name = some (.ref fa) → EndAt l w (K w.params) k n x mg fa h) :
    WalkO q loose XP YP l.row.toRowW d [] (fun f vs => PySem.call f vs) := by
  refine Att.attach_callB hn hdf ?_
  intro w s₀ s₁ mg mb fa o pm cd doc a vs ns G Y ho hd hcd hmg hobj hints hlen hbits hg
  have X := hY w _ Y
  obtain ⟨fd, cs, sp, c1, c2, c3, hb, hsp, hF⟩ := F w _ _ mg mb fa _ X G.T hmg
  refine LamX.law_callTs X G.T.g G.T.b G.T.builtins G.T.nolimit hg c1 c2 c3 G.T.bmain hobj hints (Nat.le_trans hlen hn2) hr hF hb ?_ ?_
  · intro H hH hS
    exact hsp H a ns hlen hbits hH hS
  · intro H e s' z
    exact z

section
variable {q : Program} {loose : List Str} {mean : ExcName → Option Value} {mg mb : Str → Option Value} {h : Heap} {K : Frag}
/-- a def of the view: its code object and the table of that, empty -/
theorem tab_mine {x : Str} {f c P : Addr} {o oc : Obj} {fd : FuncData} {vs : Array Value} (T : Top q loose mean mg mb h) (X : K.In h) (hx : ((recsOf q).any fun e => e.name == x) = true) (m : mg x = some (.ref f))
    (l : K.lookup f = some o) (ho : o.data = .func fd) (hc : fd.code = .ref c) (l2 : K.lookup c = some oc) (hd2 : oc.data = .fields vs) (hv : vs[11]? = some (.ref P)) :
    CodeHd h c P ∧ h.get? P = some (tabObj #[]) := by
  obtain ⟨e, he, hn⟩ := List.any_eq_true.mp hx
  have hn' : e.name = x := eq_of_beq hn
  obtain ⟨a, o', fd', c', P', h1, h2, h3, h4, h5, h6⟩ := T.tab e he
  rw [hn', m] at h1
  obtain rfl : f = a := by
    injection h1 with z
    injection z
  have e1 := X _ _ l
  rw [h2] at e1
  obtain rfl : o' = o := Option.some.inj e1
  rw [h3] at ho
  obtain rfl : fd' = fd := by injection ho
  rw [h4] at hc
  obtain rfl : c' = c := by injection hc
  have h6' := h6
  obtain ⟨⟨oc', vs', g1, g2, g3, g4⟩, g5⟩ := h6'
  rw [X _ _ l2] at g1
  obtain rfl : oc = oc' := Option.some.inj g1
  rw [hd2] at g3
  obtain rfl : vs = vs' := by injection g3
  rw [hv] at g4
  obtain rfl : P = P' := by
    injection g4 with z
    injection z
  exact ⟨CodeHd.of h5 h6, g5⟩
/-- a def of the module -/
structure DefAt (K : Frag) (mg : Str → Option Value) (x : Str) (st : Stmt) (ps : List Str) : Prop where
  ex : ∃ (f : Addr) (fd : FuncData), Fun K x x st f fd ∧ mg x = some (.ref f) ∧ Binds K fd ps []
theorem def_at {x : Str} {st : Stmt} {ps : List Str} {f : Addr} {oc kV doc pm cdv ct : Value} {od an : Option Addr} {osl : Array (Option Value)} (X : K.In h) (G : h.Ns mainGlobals mg)
    (a : nsIn K mainGlobals x = some (some (.ref f))) (l : K.lookup f = some ⟨oc, od, .func (fnOf x x (defArgs st) (defBody st) (defScope st) .none kV doc pm an cdv ct), osl⟩) (c : codeIn K cdv x = true) (k : keepIn K (.ref f) = true)
    (b : ∀ us : List Value, us.length = ps.length → bindArgs (fnOf x x (defArgs st) (defBody st) (defScope st) .none kV doc pm an cdv ct) ⟨us, []⟩ = pure (ps.zip us)) : DefAt K mg x st ps :=
  ⟨f, _, fun_mk l c k, mg_of X G a, .all b⟩
end
section
variable {P : Program} {w : World} {K : Frag} {mg : Str → Option Value} {base : Heap}
theorem DefAt.cal {x : Str} {st : Stmt} {ps : List Str} {k j : Nat} {sp : Sp} (D : DefAt K mg x st ps) (ok : ∀ {f : Addr} {fd : FuncData}, Fun K x x st f fd → FnOk P w K mg base CX0 j f fd ps sp) (h : j ≤ k) : Cal P w K mg base k x ps sp := by
  obtain ⟨f, fd, F, m, b⟩ := D.ex
  exact ⟨f, fd, (ok F).mono h, m, F.kp, b⟩
theorem Cal.up {x : Str} {ps : List Str} {k j : Nat} {sp : Sp} (C : Cal P w K mg base j x ps sp) (h : j ≤ k) : Cal P w K mg base k x ps sp := by
  obtain ⟨f, fd, F, r⟩ := C.ex
  exact ⟨f, fd, F.mono h, r⟩
/-- the defs but the law -/
structure Defs (K : Frag) (mg : Str → Option Value) : Prop where
  levels : DefAt K mg "_levels" sLevels ["rows", "others"]
  kept : DefAt K mg "_kept" sKept ["rows", "others"]
  lchange : DefAt K mg "least_change" sLeastChange ["rows", "others"]
  lcost : DefAt K mg "least_cost" sLeastCost ["rows", "others"]
  started : DefAt K mg "_law_started" sLStarted ["_law_script"]
  draw : DefAt K mg "_law_draw" sDraw ["_law_m", "_law_many"]
  of_ : DefAt K mg "_law_of" sLOf ["_law_m", "_law_some"]
  alike : DefAt K mg "_law_alike" sLAlike ["_law_found", "_law_due"]
  all_ : DefAt K mg "_law_all" sLAll ["_law_one", "_law_other"]
  changed : DefAt K mg "_law_changed" sLChanged ["_law_one", "_law_other", "_law_pairs"]
structure Cls (P : Program) (w : World) (K : Frag) (mg : Str → Option Value) (base : Heap) (k : Nat) : Prop where
  cS : Cal P w K mg base k "_law_started" ["_law_script"] (spStarted K)
  cD : Cal P w K mg base k "_law_draw" ["_law_m", "_law_many"] (spDr K)
  cO : Cal P w K mg base k "_law_of" ["_law_m", "_law_some"] (spOf K)
  cE : Cal P w K mg base k "_law_all" ["_law_one", "_law_other"] (spAll K)
  cC : Cal P w K mg base k "least_change" ["rows", "others"] (spLC K)
  cX : Cal P w K mg base k "least_cost" ["rows", "others"] (spCost K)
  cA3 : Cal P w K mg base k "_law_alike" ["_law_found", "_law_due"] (spAlike K 3)
  cG : Cal P w K mg base k "_law_changed" ["_law_one", "_law_other", "_law_pairs"] (spChanged K)
theorem cals (D : Defs K mg) (M : Mg mg) : Cls P w K mg base 6 := by
  have levels : Cal P w K mg base 1 "_levels" ["rows", "others"] (spLevels K) := D.levels.cal (j := 1) (fun F => ok_levels (k := 0) F M) (by omega)
  have kept : Cal P w K mg base 2 "_kept" ["rows", "others"] (spKept K) := D.kept.cal (j := 2) (fun F => ok_kept F M levels) (by omega)
  have lchange : Cal P w K mg base 3 "least_change" ["rows", "others"] (spLC K) := D.lchange.cal (j := 3) (fun F => ok_lchange F kept (levels.up (by omega))) (by omega)
  have lcost : Cal P w K mg base 2 "least_cost" ["rows", "others"] (spCost K) := D.lcost.cal (j := 2) (fun F => ok_lcost F M levels) (by omega)
  have started : Cal P w K mg base 1 "_law_started" ["_law_script"] (spStarted K) := D.started.cal (j := 1) (fun F => ok_started (k := 0) F M) (by omega)
  have draw : Cal P w K mg base 1 "_law_draw" ["_law_m", "_law_many"] (spDr K) := D.draw.cal (j := 1) (fun F => ok_dr (k := 0) F M) (by omega)
  have of_ : Cal P w K mg base 2 "_law_of" ["_law_m", "_law_some"] (spOf K) := D.of_.cal (j := 2) (fun F => ok_of F M draw) (by omega)
  have a0 : Cal P w K mg base 1 "_law_alike" ["_law_found", "_law_due"] (spAlike K 0) := D.alike.cal (j := 1) (fun F => ok_alike0 (k := 0) F) (by omega)
  have a1 : Cal P w K mg base 2 "_law_alike" ["_law_found", "_law_due"] (spAlike K 1) := D.alike.cal (j := 2) (fun F => ok_alike F M a0) (by omega)
  have a2 : Cal P w K mg base 3 "_law_alike" ["_law_found", "_law_due"] (spAlike K 2) := D.alike.cal (j := 3) (fun F => ok_alike F M a1) (by omega)
  have a3 : Cal P w K mg base 4 "_law_alike" ["_law_found", "_law_due"] (spAlike K 3) := D.alike.cal (j := 4) (fun F => ok_alike F M a2) (by omega)
  have all_ : Cal P w K mg base 1 "_law_all" ["_law_one", "_law_other"] (spAll K) := D.all_.cal (j := 1) (fun F => ok_all (k := 0) F M) (by omega)
  have changed : Cal P w K mg base 1 "_law_changed" ["_law_one", "_law_other", "_law_pairs"] (spChanged K) := D.changed.cal (j := 1) (fun F => ok_changed (k := 0) F M) (by omega)
  exact ⟨started.up (by omega), draw.up (by omega), of_.up (by omega), all_.up (by omega), lchange.up (by omega), lcost.up (by omega), a3.up (by omega), changed.up (by omega)⟩
end
theorem mg_at {K : Frag} {h : Heap} {mg : Str → Option Value} (X : K.In h) (G : h.Ns mainGlobals mg) (e0 : nsIn K mainGlobals "isinstance" = some none) (e1 : nsIn K mainGlobals "int" = some none) (e2 : nsIn K mainGlobals "bool" = some none) (e3 : nsIn K mainGlobals "tuple" = some none) (e4 : nsIn K mainGlobals "list" = some none) (e5 : nsIn K mainGlobals "len" = some none) (e6 : nsIn K mainGlobals "all" = some none) (e7 : nsIn K mainGlobals "range" = some none) (e8 : nsIn K mainGlobals "enumerate" = some none) (e9 : nsIn K mainGlobals "sorted" = some none) (e10 : nsIn K mainGlobals "max" = some none) (e11 : nsIn K mainGlobals "min" = some none) (e12 : nsIn K mainGlobals "zip" = some none) (e13 : nsIn K mainGlobals "reversed" = some none) : Mg mg :=
  ⟨mg_none_of X G e0, mg_none_of X G e1, mg_none_of X G e2, mg_none_of X G e3, mg_none_of X G e4, mg_none_of X G e5, mg_none_of X G e6, mg_none_of X G e7, mg_none_of X G e8, mg_none_of X G e9, mg_none_of X G e10, mg_none_of X G e11, mg_none_of X G e12, mg_none_of X G e13⟩
theorem law_end {q : Program} {lo : List Str} {mean : ExcName → Option Value} {mg mb : Str → Option Value} {h : Heap} {K : Frag} {l : OpenLaw} {w : World} {fa f : Addr} (X : K.In h) (T : Top q lo mean mg mb h) (hmg : mg "law" = some (.ref fa))
    (M : Mg mg) (D : Defs K mg)
    {oc kV doc pm cdv ct : Value} {od an : Option Addr} {osl : Array (Option Value)} (a : nsIn K mainGlobals "law" = some (some (.ref f)))
    (lL : K.lookup f = some ⟨oc, od, .func (fnOf "law" "law" (defArgs sLaw) (defBody sLaw) (defScope sLaw) .none kV doc pm an cdv ct), osl⟩) (c : codeIn K cdv "law" = true) (k : keepIn K (.ref f) = true)
    (b : ∀ us : List Value, us.length = ["_law_script"].length → bindArgs (fnOf "law" "law" (defArgs sLaw) (defBody sLaw) (defScope sLaw) .none kV doc pm an cdv ct) ⟨us, []⟩ = pure ([("_law_script" : Str)].zip us)) :
    EndAt l w K 7 63 "_law_script" mg fa h := by
  have e := hmg.symm.trans (mg_of X T.g a)
  obtain rfl : fa = f := by
    injection e with z
    injection z
  refine ⟨_, [], spLaw K, ?_, ?_, ?_, fun s u => .of_eq (b [u] rfl), ?_, ?_⟩
  · intro p hp
    cases hp
  · intro p hp
    cases hp
  · intro p hp
    cases hp
  · intro H a' ns hl _ hT hS
    exact ⟨a', ns, rfl, hS, hl, fun _ => rfl⟩
  · intro base hK hns hTB
    obtain ⟨c1, c2, c3, c4, c5, c6, c7, c8⟩ := cals (P := l.prog) (w := w) (base := base) D M
    exact ok_law (fun_mk lL c k) M c1 c2 c3 c4 c5 c6 c7 c8
end K1
open PySem PySem.W PyProof.Rows
set_option Elab.async false
set_option maxRecDepth 100000 in
set_option maxHeartbeats 0 in
theorem PySem.Challenge.cw_manyheads_k31_whole_least_of_all_changes_holds : PySem.Challenge.rw_manyheads_k31_whole_least_of_all_changes.Holds := by
  w_on; o_law; k_head; (case hw => w_witness2)
  k_fill
  refine K1.walk_tabs (l := PySem.Challenge.rw_manyheads_k31_whole_least_of_all_changes) (n := 63) (k := 7) (x := "_law_script") rfl (by decide) rfl ⟨rfl, by decide, by decide⟩ (fun w h Y => PySem.W.kIn_of Y) ?F
  case F =>
    intro w lo mean mg mb fa h X T hmg
    have G := T.g
    have d_levels := by
      refine' K1.def_at (x := "_levels") (st := K1.sLevels) (ps := ["rows", "others"]) X G ?a ?l ?c ?k (fun us hl => match us, hl with | [_, _], _ => rfl)
      (case a => k_is); (case l => k_is); (case c => k_is); (case k => k_is)
    have d_kept := by
      refine' K1.def_at (x := "_kept") (st := K1.sKept) (ps := ["rows", "others"]) X G ?a ?l ?c ?k (fun us hl => match us, hl with | [_, _], _ => rfl)
      (case a => k_is); (case l => k_is); (case c => k_is); (case k => k_is)
    have d_lchange := by
      refine' K1.def_at (x := "least_change") (st := K1.sLeastChange) (ps := ["rows", "others"]) X G ?a ?l ?c ?k (fun us hl => match us, hl with | [_, _], _ => rfl)
      (case a => k_is); (case l => k_is); (case c => k_is); (case k => k_is)
    have d_lcost := by
      refine' K1.def_at (x := "least_cost") (st := K1.sLeastCost) (ps := ["rows", "others"]) X G ?a ?l ?c ?k (fun us hl => match us, hl with | [_, _], _ => rfl)
      (case a => k_is); (case l => k_is); (case c => k_is); (case k => k_is)
    have d_started := by
      refine' K1.def_at (x := "_law_started") (st := K1.sLStarted) (ps := ["_law_script"]) X G ?a ?l ?c ?k (fun us hl => match us, hl with | [_], _ => rfl)
      (case a => k_is); (case l => k_is); (case c => k_is); (case k => k_is)
    have d_draw := by
      refine' K1.def_at (x := "_law_draw") (st := K1.sDraw) (ps := ["_law_m", "_law_many"]) X G ?a ?l ?c ?k (fun us hl => match us, hl with | [_, _], _ => rfl)
      (case a => k_is); (case l => k_is); (case c => k_is); (case k => k_is)
    have d_of_ := by
      refine' K1.def_at (x := "_law_of") (st := K1.sLOf) (ps := ["_law_m", "_law_some"]) X G ?a ?l ?c ?k (fun us hl => match us, hl with | [_, _], _ => rfl)
      (case a => k_is); (case l => k_is); (case c => k_is); (case k => k_is)
    have d_alike := by
      refine' K1.def_at (x := "_law_alike") (st := K1.sLAlike) (ps := ["_law_found", "_law_due"]) X G ?a ?l ?c ?k (fun us hl => match us, hl with | [_, _], _ => rfl)
      (case a => k_is); (case l => k_is); (case c => k_is); (case k => k_is)
    have d_all_ := by
      refine' K1.def_at (x := "_law_all") (st := K1.sLAll) (ps := ["_law_one", "_law_other"]) X G ?a ?l ?c ?k (fun us hl => match us, hl with | [_, _], _ => rfl)
      (case a => k_is); (case l => k_is); (case c => k_is); (case k => k_is)
    have d_changed := by
      refine' K1.def_at (x := "_law_changed") (st := K1.sLChanged) (ps := ["_law_one", "_law_other", "_law_pairs"]) X G ?a ?l ?c ?k (fun us hl => match us, hl with | [_, _, _], _ => rfl)
      (case a => k_is); (case l => k_is); (case c => k_is); (case k => k_is)
    have M := by
      refine' K1.mg_at X G ?m0 ?m1 ?m2 ?m3 ?m4 ?m5 ?m6 ?m7 ?m8 ?m9 ?m10 ?m11 ?m12 ?m13
      (case m0 => k_is); (case m1 => k_is); (case m2 => k_is); (case m3 => k_is); (case m4 => k_is); (case m5 => k_is); (case m6 => k_is); (case m7 => k_is); (case m8 => k_is); (case m9 => k_is); (case m10 => k_is); (case m11 => k_is); (case m12 => k_is); (case m13 => k_is)
    have hmg' : mg "law" = some (.ref fa) := hmg
    refine' K1.law_end X T hmg' M ⟨d_levels, d_kept, d_lchange, d_lcost, d_started, d_draw, d_of_, d_alike, d_all_, d_changed⟩ ?a ?l ?c ?k (fun us hl => match us, hl with | [_], _ => rfl)
    (case a => k_is); (case l => k_is); (case c => k_is); (case k => k_is)
