import PyProof.Rows.All
import Wide.All
import OpenK.AllK
import Wide.FinOn
import PySem.Challenge.RW_manyheads_k01_names
import HandS.Words
import HandS.WordsList
import HandS.WordsDict
import HandS.AnyAll
import HandS.Text
import HandS.StrMore
import HandS.IsInst
import HandS.ForMost
import HandS.FStr
import HandS.TupLe
import KE.IntTextLaws
import KE.IntTextText
import PyProof.Rows.StrIntSpec
import HandS.Small
import HandS.Replace
import HandS.Walk
import HandS.ReplaceLit
import HandS.ReplaceList
import HandS.EndTab
import KE.KNest
set_option Elab.async false
set_option linter.all false
set_option maxRecDepth 100000
/-! The text of the row: the defs by their places, and their local names. -/
namespace K1
open PySem PySem.Spec PyProof.Rows L2
def topS (i : Nat) : Stmt := PySem.Challenge.pw_manyheads_k01_names.main.body.getD i (.Pass ⟨0, 0, 0, 0⟩)
def clsS (i j : Nat) : Stmt := match topS i with
  | .ClassDef _ _ _ b .. => b.getD j (.Pass ⟨0, 0, 0, 0⟩)
  | _ => .Pass ⟨0, 0, 0, 0⟩
abbrev sWhole : Stmt := topS 6
abbrev sAmong : Stmt := topS 7
abbrev sWord : Stmt := topS 8
abbrev sHand : Stmt := topS 9
abbrev sIsTriple : Stmt := topS 10
abbrev sName : Stmt := topS 11
abbrev sPut : Stmt := topS 12
abbrev sEnd : Stmt := topS 13
abbrev sNumO : Stmt := topS 14
abbrev sNameO : Stmt := topS 15
abbrev sLineO : Stmt := topS 16
abbrev sNameT : Stmt := topS 17
abbrev sLineT : Stmt := topS 18
abbrev sWordsO : Stmt := topS 19
abbrev sMixed : Stmt := topS 21
abbrev sDraw : Stmt := topS 22
abbrev sDigit : Stmt := topS 23
abbrev sLWord : Stmt := topS 24
abbrev sLIsWord : Stmt := topS 25
abbrev sLNum : Stmt := topS 26
abbrev sLParts : Stmt := topS 27
abbrev sLOne : Stmt := topS 28
abbrev sLThings : Stmt := topS 29
abbrev sLRow : Stmt := topS 30
abbrev sLaw : Stmt := topS 31
theorem scWhole : FnScope ["thing"] ["thing"] (defScope sWhole) := ⟨rfl, rfl, rfl, by decide +kernel, rfl, by decide +kernel, by decide +kernel⟩
theorem scAmong : FnScope ["thing", "least", "most"] ["thing", "least", "most"] (defScope sAmong) := ⟨rfl, rfl, rfl, by decide +kernel, rfl, by decide +kernel, by decide +kernel⟩
theorem scWord : FnScope ["thing"] ["thing"] (defScope sWord) := ⟨rfl, rfl, rfl, by decide +kernel, rfl, by decide +kernel, by decide +kernel⟩
theorem scHand : FnScope ["thing"] ["thing"] (defScope sHand) := ⟨rfl, rfl, rfl, by decide +kernel, rfl, by decide +kernel, by decide +kernel⟩
theorem scIsTriple : FnScope ["thing", "hand", "number", "place"] ["thing"] (defScope sIsTriple) := ⟨rfl, rfl, rfl, by decide +kernel, rfl, by decide +kernel, by decide +kernel⟩
theorem scName : FnScope ["thing", "hand", "number"] ["thing"] (defScope sName) := ⟨rfl, rfl, rfl, by decide +kernel, rfl, by decide +kernel, by decide +kernel⟩
theorem scPut : FnScope ["thing", "hand", "number", "place"] ["thing"] (defScope sPut) := ⟨rfl, rfl, rfl, by decide +kernel, rfl, by decide +kernel, by decide +kernel⟩
theorem scEnd : FnScope ["thing"] ["thing"] (defScope sEnd) := ⟨rfl, rfl, rfl, by decide +kernel, rfl, by decide +kernel, by decide +kernel⟩
theorem scNumO : FnScope ["word"] ["word"] (defScope sNumO) := ⟨rfl, rfl, rfl, by decide +kernel, rfl, by decide +kernel, by decide +kernel⟩
theorem scNameO : FnScope ["word", "parts", "name"] ["word"] (defScope sNameO) := ⟨rfl, rfl, rfl, by decide +kernel, rfl, by decide +kernel, by decide +kernel⟩
theorem scLineO : FnScope ["word", "parts", "line"] ["word"] (defScope sLineO) := ⟨rfl, rfl, rfl, by decide +kernel, rfl, by decide +kernel, by decide +kernel⟩
theorem scNameT : FnScope ["name", "hand", "number"] ["name"] (defScope sNameT) := ⟨rfl, rfl, rfl, by decide +kernel, rfl, by decide +kernel, by decide +kernel⟩
theorem scLineT : FnScope ["line", "hand", "number", "place"] ["line"] (defScope sLineT) := ⟨rfl, rfl, rfl, by decide +kernel, rfl, by decide +kernel, by decide +kernel⟩
theorem scWordsO : FnScope ["row", "words"] ["row"] (defScope sWordsO) := ⟨rfl, rfl, rfl, by decide +kernel, rfl, by decide +kernel, by decide +kernel⟩
theorem scMixed : FnScope ["_law_cell", "_law_k"] ["_law_cell", "_law_k"] (defScope sMixed) := ⟨rfl, rfl, rfl, by decide +kernel, rfl, by decide +kernel, by decide +kernel⟩
theorem scDraw : FnScope ["_law_cell", "_law_k", "_law_first", "_law_more"] ["_law_cell", "_law_k"] (defScope sDraw) := ⟨rfl, rfl, rfl, by decide +kernel, rfl, by decide +kernel, by decide +kernel⟩
theorem scDigit : FnScope ["_law_state", "_law_many", "_law_found"] ["_law_state", "_law_many"] (defScope sDigit) := ⟨rfl, rfl, rfl, by decide +kernel, rfl, by decide +kernel, by decide +kernel⟩
theorem scLWord : FnScope ["_law_state", "_law_signs", "_law_k"] ["_law_state", "_law_signs"] (defScope sLWord) := ⟨rfl, rfl, rfl, by decide +kernel, rfl, by decide +kernel, by decide +kernel⟩
theorem scLIsWord : FnScope ["_law_word_here", "_law_letters", "_law_sign"] ["_law_word_here"] (defScope sLIsWord) := ⟨rfl, rfl, rfl, by decide +kernel, rfl, by decide +kernel, by decide +kernel⟩
theorem scLNum : FnScope ["_law_word_here", "_law_sign", "_law_found"] ["_law_word_here"] (defScope sLNum) := ⟨rfl, rfl, rfl, by decide +kernel, rfl, by decide +kernel, by decide +kernel⟩
theorem scLParts : FnScope ["_law_word_here", "_law_many", "_law_parts_here", "_law_numbers", "_law_part"] ["_law_word_here", "_law_many"] (defScope sLParts) := ⟨rfl, rfl, rfl, by decide +kernel, rfl, by decide +kernel, by decide +kernel⟩
theorem scLOne : FnScope ["_law_word_here", "_law_line", "_law_hand"] ["_law_word_here"] (defScope sLOne) := ⟨rfl, rfl, rfl, by decide +kernel, rfl, by decide +kernel, by decide +kernel⟩
theorem scLThings : FnScope ["_law_state", "_law_hand", "_law_number_here", "_law_place", "_law_good", "_law_fits", "_law_line", "_law_ends", "_law_due"] ["_law_state"] (defScope sLThings) := ⟨rfl, rfl, rfl, by decide +kernel, rfl, by decide +kernel, by decide +kernel⟩
theorem scLRow : FnScope ["_law_words", "_law_number_here", "_law_row_here", "_law_turn", "_law_found", "_law_at", "_law_parts_here"] ["_law_words", "_law_number_here"] (defScope sLRow) := ⟨rfl, rfl, rfl, by decide +kernel, rfl, by decide +kernel, by decide +kernel⟩
theorem scLaw : FnScope ["_law_script", "_law_words", "_law_k", "_law_cell", "_law_state", "_law_word_here", "_law_name", "_law_some", "_law_one_here", "_law_odd", "_law_told", "_law_due", "_law_big"] ["_law_script"] (defScope sLaw) := ⟨rfl, rfl, rfl, by decide +kernel, rfl, by decide +kernel, by decide +kernel⟩
end K1
set_option Elab.async false
set_option linter.all false
set_option maxRecDepth 100000
set_option maxHeartbeats 400000
/-! all(t for c in a text), where t reads a name of the module. -/
namespace K1
open PySem PySem.Spec PyProof.Rows L2

/-- a test of one sign, which may read the module's names -/
def SignTest (prog : Program) (w : World) (mg : Str → Option Value) (sc : Scope) (x : Str) (e : Expr) (p : Nat → Bool) : Prop :=
  ∀ (ge : Env) (B : Around) (F : Value → Shared → Prop) (c : Nat) (tk : Tok) (z : Shared) (lm : Str → Option Value),
    ge.scope = sc → ge.globals = mainGlobals → z.heap.Ns mainGlobals mg → z.heap.Ns ge.locals lm → lm x = some (.str ⟨#[c]⟩ tk) →
    wpAny (model prog w) B (eval e ge) (fun r z' => r = .bool (p c) ∧ Keeps z z') F z

/-- c in NAME, NAME a text of the module -/
theorem sign_in {prog : Program} {w : World} {mg : Str → Option Value} {sc : Scope} {x n : Str} {txt : Str} {tt : Tok} {q1 q2 q3 : Pos}
    (fk : sc.kind = .function) (lx : sc.names.lookup x = some .local) (ln : sc.names.lookup n = some .globalImplicit) (vn : mg n = some (.str txt tt))
    (dx : (x == ("__debug__" : Str)) = false) (dn : (n == ("__debug__" : Str)) = false) :
    SignTest prog w mg sc x (.Compare (.Name x q1) [.In] [.Name n q2] q3) (fun c => decide (c ∈ txt.cps.toList)) := by
  intro ge B F c tk z lm es eg hg hl hx
  have k1 : ge.scope.kind = .function := es ▸ fk
  have k2 : ge.kindOf x = some .local := by
    show ge.scope.names.lookup x = some .local
    rw [es]
    exact lx
  have k3 : ge.kindOf n = some .globalImplicit := by
    show ge.scope.names.lookup n = some .globalImplicit
    rw [es]
    exact ln
  refine wpAny_Compare1 ?_
  refine wpAny_Name ?_ dx
  refine wpAny_loadName_local k1 k2 hl hx ?_
  refine Calls.Name_function_global k1 k3 ?_ dn
  refine Calls.loadGlobal_global (mg := mg) (eg ▸ hg) vn ?_
  apply PyProof.Rows.in_str
  exact ⟨congrArg Value.bool (PySem.StrLaws.found_one txt c), GxR.keeps_refl _⟩

section
variable {X : Cx} {pins : List (Addr × Obj)} {σ : L2.St} {H : Hp} {s : Shared}

/-- what is known where the generator's code has been looked up: h3 is the heap s1.heap with the iterator o, the table at P longer -/
structure Mid (X : Cx) (s1 : Shared) (o : Obj) (P : Addr) (ps ps' : Array Value) (h3 : Heap) : Prop where
  ext : Heap.ExtBut P (s1.heap.push o) h3
  size : (s1.heap.push o).objs.size ≤ h3.objs.size
  tab : h3.get? P = some { cls := .none, data := .fields ps' }
  more : ∃ m, ps' = ps ++ m
  ok : TriplesOk ps'.toList

theorem gen_mid {cd P : Addr} {e it : Expr} {x : Str} {px gp : Pos} {sc : Scope} {p : Nat → Bool} {k : Nat} {Q' : Value → Shared → Prop} {a : Str} {H1 : Hp} {s1 : Shared} {o : Obj} {St : Nat → Heap → Prop} {ps ps' : Array Value} {h3 : Heap} {tk : Nat} {code : Value}
    (hr : Room k X.A) (TB : GxR.TabB X.base X.mg cd P) (hel : SignTest X.prog X.w X.mg sc x e p)
    (J : Inv X pins σ H1 s1) (hP : H1 P = some (.tbl ps)) (M : Mid X s1 o P ps ps' h3)
    (wk : ∀ A' : Around, A'.handled = none → Walks X.prog X.w A' s1.heap.objs.size [s1.heap.objs.size] [s1.heap.objs.size] a.cps.size (SignAt a) St) (st : St 0 (s1.heap.push o))
    (hQ : ∀ g s5, GxR.Ready X pins σ H1 P a p g s5 → Q' (.ref g) s5) :
    wpAny (model X.prog X.w) X.A (builtinsFor X.env.globals X.env.builtins) (fun bi s₄ =>
        ∃ I fp wr n₀ Pf St₀ pz F, Value.ref s1.heap.objs.size = .ref I ∧ (∀ A' : Around, A'.handled = none → Walks X.prog X.w A' I fp wr n₀ Pf St₀) ∧ St₀ 0 s₄.heap ∧
          (∀ b ∈ fp, b < s₄.heap.objs.size) ∧ s₄.heap.NoLimit ∧ cStatics ∉ wr ∧
          (∀ href : Heap, (∀ b o, s₄.heap.get? b = some o → href.get? b = some o) →
            QuietGen X.prog X.w (genEnv sc (cloFrom X.env.cells sc.names []) s₄.heap.objs.size code bi X.env) x [] e
              (List.range s₄.heap.objs.size) wr Pf pz F href) ∧
          (∀ a h₅ tk gs, gs.bare = true → s₄.heap.objs.size < a → h₅.objs.size = a + 1 → (∀ b o, s₄.heap.get? b = some o → h₅.get? b = some o) →
            WalksS X.prog X.w X.A.in4 a (a :: s₄.heap.objs.size :: List.range s₄.heap.objs.size) (s₄.heap.objs.size :: wr) (GenOnlyQ s₄.gens.size)
              (passing pz n₀ 0).length (fun j y => ∃ i, (passing pz n₀ 0)[j]? = some i ∧ F i y)
              (GenAt X.prog X.w X.A.in4 a s₄.gens.size s₄.heap.objs.size (List.range s₄.heap.objs.size) wr pz n₀ F) →
            GenAt X.prog X.w X.A.in4 a s₄.gens.size s₄.heap.objs.size (List.range s₄.heap.objs.size) wr pz n₀ F 0
              { s₄ with gens := s₄.gens.push gs, toks := tk, heap := h₅ } →
            Q' (.ref a) { s₄ with gens := s₄.gens.push gs, toks := tk, heap := h₅ })) X.xe { s1 with heap := h3, toks := tk } := by
  have pAt : s1.heap.get? P = some { cls := .none, data := .fields ps } := J.hok P _ hP
  have pLt : P < s1.heap.objs.size := Heap.lt_size pAt
  have up : (s1.heap.push o).objs.size = s1.heap.objs.size + 1 := Heap.size_push ..
  have carry : ∀ b u, b ≠ P → s1.heap.get? b = some u → h3.get? b = some u := by
    intro b u hb e
    exact M.ext b u hb (Heap.get?_push_of_some _ e)
  have lim1 := J.nolimit
  have stP : cStatics ≠ P := by
    rintro rfl
    obtain ⟨_, ⟨o', es, ep, h1, h2, _⟩, _⟩ := lim1
    rw [pAt] at h1
    cases h1
    cases h2
  have stLt : cStatics < s1.heap.objs.size := by
    obtain ⟨_, hns, _⟩ := lim1
    exact hns.lt
  have glob1 : s1.heap.Ns mainGlobals X.mg := J.mod.glob.keeps J.bk
  have glob3 : h3.Ns mainGlobals X.mg := (glob1.push o).extBut M.ext TB.gP
  have gm : X.env.globals = mainGlobals := J.ok.glob
  obtain ⟨bm, ob, e1, e2, _, e4, e5, e6, e7, e8⟩ := TB.bm
  refine wpAny_builtinsFor (m := X.mg) (by rw [gm]; exact glob3) e1 e2 (carry _ _ e4 (J.bk _ _ e5)) e6 e7 e8 ?_
  have newLt : s1.heap.objs.size < h3.objs.size := Nat.lt_of_lt_of_le (by rw [up]; exact Nat.lt_succ_self _) M.size
  refine ⟨_, _, _, _, SignAt a, St, (fun _ => true), (fun i y => ∃ c, a.cps[i]? = some c ∧ y = .bool (p c)), rfl, wk, ?_, ?_, ?_, ?_, ?_, ?_⟩
  · -- the text's iterator stands
    refine (wk X.A hr.hd).frame _ _ _ st ?_
    intro b hb u e
    obtain rfl : b = s1.heap.objs.size := by simpa using hb
    exact M.ext _ u (Nat.ne_of_gt pLt) e
  · intro b hb
    obtain rfl : b = s1.heap.objs.size := by simpa using hb
    exact newLt
  · exact (lim1.push o).extBut M.ext stP
  · intro hb
    have : cStatics = s1.heap.objs.size := by simpa using hb
    exact absurd this (Nat.ne_of_lt stLt)
  · -- the generator's element
    intro href hh
    constructor
    · intro A' E' i v s₂ m₂ _ _ _ _ _
      simp only [List.forIn_nil]
      exact wpAny_pure ⟨rfl, GxR.keeps_refl _⟩
    · intro A' E' i v s₂ m₂ _ hv _ hn hm hk
      obtain ⟨c, u, hc, rfl⟩ := hv
      have g2 : s₂.heap.Ns mainGlobals X.mg := by
        refine glob3.at' fun ob' eo => ?_
        refine hk mainGlobals (List.mem_range.mpr (Heap.lt_size eo)) ?_ ob' (hh _ _ eo)
        intro hb
        have q1 : mainGlobals = s1.heap.objs.size := by simpa using hb
        exact absurd q1 (Nat.ne_of_lt glob1.lt)
      refine wpAny_mono (hel _ A' E' c u s₂ m₂ rfl gm g2 hn hm) ?_ (fun _ _ z => z)
      rintro y s3 ⟨ey, ek⟩
      exact ⟨⟨c, hc, ey⟩, ek⟩
  · -- the generator as it is handed on
    intro g h5 tk5 gs bare hag sz5 keep5 W hat
    simp only [GxR.passing_true, List.length_range] at W
    refine hQ g _ ⟨_, _, _, _, _, W.in4_1, hat, ?_, ?_⟩
    · rintro j y sj Qj Ej ⟨i, hij, c, hc, rfl⟩ hq
      have hi : i = j := by
        obtain ⟨hj, ej⟩ := List.getElem?_eq_some_iff.mp hij
        simpa using ej.symm
      subst hi
      have hc' : a.cps.toList[i]? = some c := by simpa using hc
      have et : GxR.trF p a.cps.toList i = p c := GxR.trF_some hc'
      rw [et] at hq
      exact wpAny_truthy_bool hq
    · intro s' mv
      obtain ⟨m, rfl⟩ := M.more
      have old : ∀ b u, s1.heap.get? b = some u → ¬ b ∈ h3.objs.size :: [s1.heap.objs.size] := by
        intro b u e hb
        have lt := Heap.lt_size e
        have hb' : b = h3.objs.size ∨ b = s1.heap.objs.size := by simpa using hb
        rcases hb' with rfl | rfl
        · exact Nat.lt_irrefl _ (Nat.lt_trans lt newLt)
        · exact Nat.lt_irrefl _ lt
      have nI := GxR.inv_tab (more := m) (h' := s'.heap) (g' := s'.gens) (d' := s'.drawn) (t' := s'.toks) J hP
        (fun b u hb e => mv.heap b u (old b u e) (keep5 b u (carry b u hb e))) (mv.heap P _ (old P _ pAt) (keep5 P _ M.tab))
        (AllBare.movedS (J.bare.push bare) mv)
      rw [GxR.sh_eta s1 s' mv.os] at nI
      exact ⟨_, ⟨⟨_, upd_same, M.ok⟩, fun b hb => upd_ne hb⟩, nI⟩

theorem gen_text {cd P : Addr} {e it : Expr} {x : Str} {px gp : Pos} {sc : Scope} {p : Nat → Bool} {te : TE} {k : Nat} {Q' : Value → Shared → Prop} {R : Str → Hp → Prop}
    (hr : Room k X.A) (TB : GxR.TabB X.base X.mg cd P) (hcode : X.env.code = .ref cd) (S : GxR.GenS X.env sc x) (hi : PE X it te) (hel : SignTest X.prog X.w X.mg sc x e p)
    (hf : ∀ v, genFold it X.env v = pure v) (I : Inv X pins σ H s) (h : te σ H fun v H1 => ∃ a : Str, v = .str a ∧ GxR.TabG H1 P ∧ R a H1)
    (hQ : ∀ a H1 g s5, R a H1 → GxR.Ready X pins σ H1 P a p g s5 → Q' (.ref g) s5) :
    wpAny (model X.prog X.w) X.A (eval (.GeneratorExp e [⟨.Name x px, it, [], 0⟩] sc gp) X.env) Q' X.xe s := by
  have dl := hr.dp
  refine wpAny_GeneratorExp_walksQ hr.hd S.co (closure_ok S.free) S.cell S.dot S.loc S.kind (by omega) ?_ hf
  refine thn (hi.run pins s σ H _ I h) ?_
  rintro u s1 ⟨v, H1, J, ru, a, rfl, ⟨ps, hP, tok⟩, hR⟩
  obtain ⟨t, rfl⟩ := _root_.id ru
  apply wpAny_pyIter_str
  intro o St wk st
  have pAt : s1.heap.get? P = some { cls := .none, data := .fields ps } := J.hok P _ hP
  have pAt2 : (s1.heap.push o).get? P = some { cls := .none, data := .fields ps } := Heap.get?_push_of_some _ pAt
  have cAt : PySem.W.CodeHd (s1.heap.push o) cd P := TB.code.keeps fun b u e => Heap.get?_push_of_some _ (J.bk b u e)
  refine ⟨J.nolimit.push o, ?_⟩
  rcases hca : codeAmong gp ps.toList with _ | cv
  · refine wpAny_genexprCodeX hcode (cAt.code pAt2 tok) (cAt.tab pAt2) hca ?_
    intro c' h' tk hx hge hlt hco _ htab _
    have htr : TriplesOk (ps ++ #[rawInt gp.line, rawInt gp.col, .ref c']).toList := by
      obtain ⟨_, _, _, _, _, _, _, _, _, _, _, _, _, _, _, _, _, _, _, q, _⟩ := hco
      exact q
    exact gen_mid (it := it) (px := px) (gp := gp) hr TB hel J hP ⟨hx, Nat.le_trans hge (Nat.le_of_lt hlt), htab.2, ⟨_, rfl⟩, htr⟩ wk st fun g s5 => hQ a H1 g s5 hR
  · refine wpAny_genexprCode_hit hcode (cAt.code pAt2 tok) hca ?_
    exact gen_mid (it := it) (px := px) (gp := gp) hr TB hel J hP ⟨Heap.ExtBut.refl _ _, Nat.le_refl _, pAt2, ⟨#[], by simp⟩, tok⟩ wk st fun g s5 => hQ a H1 g s5 hR

theorem pe_allT {cd P : Addr} {e it : Expr} {x : Str} {px pa pos gp : Pos} {sc : Scope} {p : Nat → Bool} {te : TE} {k : Nat}
    (hr : Room k X.A) (hg : Gl X "all") (hm : X.mg "all" = none) (TB : GxR.TabB X.base X.mg cd P) (hcode : X.env.code = .ref cd) (S : GxR.GenS X.env sc x) (hi : PE X it te)
    (hel : SignTest X.prog X.w X.mg sc x e p) (hf : ∀ v, genFold it X.env v = pure v) (hb : bootBuiltins "all" = some (.builtin "all") := by decide +kernel)
    (he : starEach [.GeneratorExp e [⟨.Name x px, it, [], 0⟩] sc gp] X.env = (false, eval (.GeneratorExp e [⟨.Name x px, it, [], 0⟩] sc gp) X.env) :: starEach [] X.env := by rfl) :
    PE X (.Call (.Name "all" pa) [.GeneratorExp e [⟨.Name x px, it, [], 0⟩] sc gp] [] pos) (GxR.tAllS P p te) := by
  constructor
  intro pins s σ H Q I h
  apply wpAny_Call_Name_kw
  refine ld_blt I hg hm hb ?_
  refine PyProof.Rows.callWith_builtin1 ?_ he (by rfl)
  rw [he]
  show wpAny _ _ (spliced ((false, eval _ X.env) :: backTo pos (starEach [] X.env))) _ _ s
  apply Calls.spliced_cons
  refine gen_text (R := fun a H1 => ∀ H2, GxR.Tabbed P H1 H2 → Q (.bl (a.cps.toList.all p)) H2) hr TB hcode S hi hel hf I h ?_
  rintro a H1 g s5 hR ⟨fp, wr, G, F, St, W, hst, htr, hI⟩
  apply Calls.spliced_nil
  refine call_all_walkS (W.self 0 _ _ _ hst ⟨g, fp, wr, G, _, F, St, _, rfl, W, hst, htr, ?_⟩)
  intro s' mv
  obtain ⟨H2, hT, J⟩ := hI s' mv
  refine ⟨.bl _, H2, J, rfl, ?_⟩
  rw [GxR.all_signs]
  exact hR H2 hT
end
section
variable {X : Cx}
/-- x is not True, x a flat thing -/
theorem op_isnotB : OpR X (compareOp .IsNot) (fun x y H Q => ∃ b, flatV x = true ∧ y = .bl b ∧ Q (.bl (!decide (x = .bl b))) H) := by
  intro pins s σ H x y v u Q I rx ry h
  obtain ⟨b, fx, rfl, q⟩ := h
  cases (show u = Value.bool b from ry)
  cases x with
  | non =>
    cases (show v = Value.none from rx)
    exact wpAny_isNot_other rfl (fun z => nomatch z) ⟨.bl true, H, I, rfl, by simpa using q⟩
  | bl a =>
    cases (show v = Value.bool a from rx)
    by_cases e : a = b
    · subst e
      exact wpAny_isNot_self rfl ⟨.bl false, H, I, rfl, by simpa using q⟩
    · exact wpAny_isNot_other rfl (fun z => e (Value.bool.inj z)) ⟨.bl true, H, I, rfl, by simpa [e] using q⟩
  | int i =>
    obtain ⟨t, rfl⟩ := rx
    exact wpAny_isNot_other rfl (fun z => nomatch z) ⟨.bl true, H, I, rfl, by simpa using q⟩
  | str z =>
    obtain ⟨t, rfl⟩ := rx
    exact wpAny_isNot_other rfl (fun z => nomatch z) ⟨.bl true, H, I, rfl, by simpa using q⟩
  | _ => cases fx
/-- x is True, x a flat thing -/
theorem op_isB : OpR X (compareOp .Is) (fun x y H Q => ∃ b, flatV x = true ∧ y = .bl b ∧ Q (.bl (decide (x = .bl b))) H) := by
  intro pins s σ H x y v u Q I rx ry h
  obtain ⟨b, fx, rfl, q⟩ := h
  cases (show u = Value.bool b from ry)
  cases x with
  | non =>
    cases (show v = Value.none from rx)
    exact wpAny_is_other rfl (fun z => nomatch z) ⟨.bl false, H, I, rfl, by simpa using q⟩
  | bl a =>
    cases (show v = Value.bool a from rx)
    by_cases e : a = b
    · subst e
      exact wpAny_is_self rfl ⟨.bl true, H, I, rfl, by simpa using q⟩
    · exact wpAny_is_other rfl (fun z => e (Value.bool.inj z)) ⟨.bl false, H, I, rfl, by simpa [e] using q⟩
  | int i =>
    obtain ⟨t, rfl⟩ := rx
    exact wpAny_is_other rfl (fun z => nomatch z) ⟨.bl false, H, I, rfl, by simpa using q⟩
  | str z =>
    obtain ⟨t, rfl⟩ := rx
    exact wpAny_is_other rfl (fun z => nomatch z) ⟨.bl false, H, I, rfl, by simpa using q⟩
  | _ => cases fx
end

section
variable {prog : Program} {w : World} {A : Around} {E : Value → Shared → Prop} {s : Shared}
theorem gives_ge_bi (b : Bool) (a : Int) (t : Tok) : Gives (Builtin.«int.__ge__» ⟨[.bool b, .int a t], []⟩) (.val (.bool (decide (a ≤ if b then (1 : Int) else 0)))) := by
  cases b <;> exact .of_eq rfl
theorem le_int_bool {a : Int} {t : Tok} {b : Bool} {Q : Value → Shared → Prop} (h : Q (.bool (decide (a ≤ if b then (1 : Int) else 0))) s) : wpAny (model prog w) A (compareOp .LtE (.int a t) (.bool b)) Q E s := by
  have hop : compareOp .LtE (.int a t) (.bool b) = richCompare .LtE (.int a t) (.bool b) := by rfl
  rw [hop]
  exact SeqAt.rc_sub_first_or (op := .LtE) (typeIs_int s a t) (Tb := "bool") rfl (by decide) F.sub_bool_int F.slot_bool_ge_refl
    (call_gives F.slot_bool_ge_refl rfl F.entry_int_ge (F.args_int_ge_2 _ _) (gives_ge_bi b a t) ⟨nofun, h⟩) (.inl rfl)
theorem ge_bool_int {a : Bool} {b : Int} {u : Tok} {Q : Value → Shared → Prop} (h : Q (.bool (decide (b ≤ if a then (1 : Int) else 0))) s) : wpAny (model prog w) A (compareOp .GtE (.bool a) (.int b u)) Q E s := by
  have hop : compareOp .GtE (.bool a) (.int b u) = richCompare .GtE (.bool a) (.int b u) := by rfl
  rw [hop]
  exact SeqAt.rc_left_or (op := .GtE) (Ta := "bool") rfl (typeIs_int s b u) (by decide) F.sub_int_bool F.slot_bool_ge
    (call_gives F.slot_bool_ge rfl F.entry_int_ge (F.args_int_ge_2 _ _) (gives_ge_bi a b u) ⟨nofun, h⟩) (.inl rfl)
end
/-- the number of an int or a truth -/
def nmV : V → Option Int
  | .int i => some i
  | .bl b => some (if b then 1 else 0)
  | _ => none
section
variable {X : Cx}
theorem op_leN : OpR X (compareOp .LtE) (fun x y H Q => ∃ i j, x = .int i ∧ nmV y = some j ∧ Q (.bl (decide (i ≤ j))) H) := by
  intro pins s σ H x y v u Q I rx ry h
  obtain ⟨i, j, rfl, e, q⟩ := h
  obtain ⟨t, rfl⟩ := rx
  cases y with
  | int k =>
    obtain ⟨t', rfl⟩ := ry
    cases e
    exact P.le_int ⟨.bl _, H, I, rfl, q⟩
  | bl b =>
    cases (show u = Value.bool b from ry)
    cases e
    exact le_int_bool ⟨.bl _, H, I, rfl, q⟩
  | _ => cases e
theorem op_geN : OpR X (compareOp .GtE) (fun x y H Q => ∃ i j, nmV x = some i ∧ y = .int j ∧ Q (.bl (decide (j ≤ i))) H) := by
  intro pins s σ H x y v u Q I rx ry h
  obtain ⟨i, j, e, rfl, q⟩ := h
  obtain ⟨t, rfl⟩ := ry
  cases x with
  | int k =>
    obtain ⟨t', rfl⟩ := rx
    cases e
    exact P.ge_int ⟨.bl _, H, I, rfl, q⟩
  | bl b =>
    cases (show v = Value.bool b from rx)
    cases e
    exact ge_bool_int ⟨.bl _, H, I, rfl, q⟩
  | _ => cases e
end
end K1
set_option Elab.async false
set_option linter.all false
set_option maxRecDepth 100000
set_option maxHeartbeats 4000000
/-! What the promises speak of: kinds of things, the tables of code, heaps that have grown. -/
namespace K1
open PySem PySem.Spec PyProof.Rows L2

/-! ### kinds of things -/
inductive Th (H : Hp) : V → String → Prop
  | non : Th H .non "NoneType"
  | bl (b : Bool) : Th H (.bl b) "bool"
  | int (i : Int) : Th H (.int i) "int"
  | str (x : Str) (h : x.length ≤ sizeLine) : Th H (.str x) "str"
  | lst {a : Addr} {xs : List V} (e : H a = some (.lst xs)) : Th H (.ref a) "list"
  | tup {a : Addr} {xs : List V} (e : H a = some (.tup xs)) : Th H (.ref a) "tuple"
  | dK {a : Addr} {kvs : List (Key × V)} (e : H a = some (.dK kvs)) : Th H (.ref a) "dict"
theorem Th.ty {K : PySem.W.Frag} {H : Hp} {v : V} {n : String} (h : Th H v n) : TyX K H v (.type n) := by
  cases h with
  | non => exact .base .non
  | bl b => exact .base (.bl b)
  | int i => exact .base (.int i)
  | str x _ => exact .base (.str x)
  | lst e => exact .base (.lst e)
  | tup e => exact .base (.tup e)
  | dK e => exact .base (.dK e)
def isI : V → Bool
  | .int _ => true
  | _ => false
def isB : V → Bool
  | .bl _ => true
  | _ => false
def isS : V → Bool
  | .str _ => true
  | _ => false
/-- the items of a tuple -/
def tupOf (H : Hp) : V → Option (List V)
  | .ref a => match H a with
    | some (.tup xs) => some xs
    | _ => none
  | _ => none
def isL (H : Hp) : V → Bool
  | .ref a => match H a with
    | some (.lst _) => true
    | _ => false
  | _ => false
theorem tupOf_at {H : Hp} {a : Addr} {xs : List V} (e : H a = some (.tup xs)) : tupOf H (.ref a) = some xs := by
  show (match H a with | some (.tup xs) => some xs | _ => none) = some xs
  rw [e]
theorem Th.kint {H : Hp} {v : V} {n : String} (h : Th H v n) : kitB n "int" = some (isI v || isB v) := by
  cases h <;> (first | (show kitB _ _ = some true; decide +kernel) | (show kitB _ _ = some false; decide +kernel))
theorem Th.kbool {H : Hp} {v : V} {n : String} (h : Th H v n) : kitB n "bool" = some (isB v) := by
  cases h <;> (first | (show kitB _ _ = some true; decide +kernel) | (show kitB _ _ = some false; decide +kernel))
theorem Th.kstr {H : Hp} {v : V} {n : String} (h : Th H v n) : kitB n "str" = some (isS v) := by
  cases h <;> (first | (show kitB _ _ = some true; decide +kernel) | (show kitB _ _ = some false; decide +kernel))
theorem Th.ktup {H : Hp} {v : V} {n : String} (h : Th H v n) : kitB n "tuple" = some (tupOf H v).isSome := by
  cases h with
  | lst e => show _ = some (match H _ with | some (.tup xs) => some xs | _ => none).isSome; rw [e]; (first | (show kitB _ _ = some true; decide +kernel) | (show kitB _ _ = some false; decide +kernel))
  | tup e => rw [tupOf_at e]; (first | (show kitB _ _ = some true; decide +kernel) | (show kitB _ _ = some false; decide +kernel))
  | dK e => show _ = some (match H _ with | some (.tup xs) => some xs | _ => none).isSome; rw [e]; (first | (show kitB _ _ = some true; decide +kernel) | (show kitB _ _ = some false; decide +kernel))
  | _ => (first | (show kitB _ _ = some true; decide +kernel) | (show kitB _ _ = some false; decide +kernel))
theorem Th.klst {H : Hp} {v : V} {n : String} (h : Th H v n) : kitB n "list" = some (isL H v) := by
  cases h with
  | lst e => show _ = some (match H _ with | some (.lst _) => true | _ => false); rw [e]; (first | (show kitB _ _ = some true; decide +kernel) | (show kitB _ _ = some false; decide +kernel))
  | tup e => show _ = some (match H _ with | some (.lst _) => true | _ => false); rw [e]; (first | (show kitB _ _ = some true; decide +kernel) | (show kitB _ _ = some false; decide +kernel))
  | dK e => show _ = some (match H _ with | some (.lst _) => true | _ => false); rw [e]; (first | (show kitB _ _ = some true; decide +kernel) | (show kitB _ _ = some false; decide +kernel))
  | _ => (first | (show kitB _ _ = some true; decide +kernel) | (show kitB _ _ = some false; decide +kernel))
/-- isinstance of a thing and a class, answered -/
theorem isi {K : PySem.W.Frag} {H : Hp} {v : V} {n m : String} {b : Bool} {Q : VK} (th : Th H v n) (k : kitB n m = some b) (q : Q (.bl b) H) : rIsi K [v, .ty m] H Q :=
  ⟨v, .ty m, .type n, .type m, b, rfl, .ty m, th.ty, kit_ty k, q⟩

/-! ### heaps -/
/-- the places of the tables of code objects that may come to be fuller -/
abbrev Tp := List Addr
def TG (T : Tp) (H : Hp) : Prop := ∀ P ∈ T, GxR.TabG H P
/-- H' is H, grown: the tables may be longer, what D tells may be otherwise -/
def Go (T : Tp) (D : Addr → Prop) (H H' : Hp) : Prop := TG T H' ∧ ∀ b o, b ∉ T → ¬ D b → H b = some o → H' b = some o
abbrev D0 : Addr → Prop := fun _ => False
section
variable {T : Tp} {D D' : Addr → Prop} {H H1 H2 : Hp}
theorem Go.rfl' (t : TG T H) : Go T D H H := ⟨t, fun _ _ _ _ e => e⟩
theorem Go.trans (g : Go T D H H1) (g' : Go T D H1 H2) : Go T D H H2 := ⟨g'.1, fun b o h1 h3 e => g'.2 b o h1 h3 (g.2 b o h1 h3 e)⟩
theorem Go.mono (g : Go T D H H1) (h : ∀ b, D b → D' b) : Go T D' H H1 := ⟨g.1, fun b o h1 h3 e => g.2 b o h1 (fun z => h3 (h b z)) e⟩
theorem Go.up (g : Go T D0 H H1) : Go T D H H1 := g.mono fun _ z => z.elim
theorem TabG.ne {P p : Addr} (t : GxR.TabG H P) (h : H p = none) : P ≠ p := by
  obtain ⟨ps, e, _⟩ := t
  exact ne_of_none e h
theorem TG.stay {p : Addr} {o : HO} (t : TG T H) (h1 : p ∉ T) : TG T (upd H p o) := by
  intro P hP
  obtain ⟨ps, e, r⟩ := t P hP
  exact ⟨ps, (upd_ne (fun z => h1 (by rw [← z]; exact hP))).trans e, r⟩
theorem TG.new {p : Addr} {o : HO} (t : TG T H) (h : H p = none) : TG T (upd H p o) := t.stay fun z => TabG.ne (t p z) h rfl
theorem Go.new {p : Addr} {o : HO} (g : Go T D H H1) (h : H1 p = none) : Go T D H (upd H1 p o) := by
  refine ⟨g.1.new h, fun b u h1 h3 e => ?_⟩
  have e1 := g.2 b u h1 h3 e
  rw [upd_ne (ne_of_none e1 h)]
  exact e1
theorem TG.neW {b : Addr} {o : HO} (t : TG T H) (e : H b = some o) (ho : ∀ ps, o ≠ .tbl ps) : b ∉ T := fun z => by
  obtain ⟨ps, e', _⟩ := t b z
  rw [e] at e'
  exact ho ps (Option.some.inj e')
/-- an object of D is changed -/
theorem Go.set {p : Addr} {o u : HO} (g : Go T D H H1) (d : D p) (h : H1 p = some u) (hu : ∀ ps, u ≠ .tbl ps) : Go T D H (upd H1 p o) := by
  refine ⟨g.1.stay (g.1.neW h hu), fun b v h1 h3 e => ?_⟩
  rw [upd_ne (fun z => h3 (by rw [z]; exact d))]
  exact g.2 b v h1 h3 e
/-- a table that is fuller -/
theorem Go.tab {P : Addr} (t : TG T H) (hP : P ∈ T) (x : GxR.Tabbed P H H1) : Go T D H H1 := by
  refine ⟨fun Q hQ => ?_, fun b o h1 _ e => (x.2 b (fun z => h1 (by rw [z]; exact hP))).trans e⟩
  by_cases z : Q = P
  · rw [z]; exact x.1
  · obtain ⟨qs, e, r⟩ := t Q hQ
    exact ⟨qs, (x.2 _ z).trans e, r⟩
theorem Go.at {b : Addr} {o : HO} (g : Go T D H H1) (t : TG T H) (d : ¬ D b) (e : H b = some o) (ho : ∀ ps, o ≠ .tbl ps := by intro ps z; cases z) : H1 b = some o :=
  g.2 b o (t.neW e ho) d e
/-- a free place was free -/
theorem Go.free {b : Addr} (g : Go T D H H1) (t : TG T H) (d : ¬ D b) (h : H1 b = none) : H b = none := by
  cases q : H b with
  | none => rfl
  | some o =>
    have h1 : b ∉ T := fun z => TabG.ne (g.1 b z) h rfl
    rw [g.2 b o h1 d q] at h
    cases h
/-- sequences stand -/
theorem Go.seqT {K : PySem.W.Frag} {a : Addr} {xs : List V} (g : Go T D H H1) (t : TG T H) (d : ∀ o, H a = some o → ¬ D a) (h : SqT K H a xs) : SqT K H1 a xs := by
  rcases h with (h | ⟨o, h⟩) | h
  · exact .inl (.inl (g.at t (d _ h) h))
  · exact .inl (.inr ⟨o, g.at t (d _ h) h⟩)
  · exact .inr h
theorem Go.seqL {K : PySem.W.Frag} {a : Addr} {xs : List V} (g : Go T D H H1) (t : TG T H) (d : ∀ o, H a = some o → ¬ D a) (h : SqL K H a xs) : SqL K H1 a xs := by
  rcases h with (h | ⟨o, h⟩) | h
  · exact .inl (.inl (g.at t (d _ h) h))
  · exact .inl (.inr ⟨o, g.at t (d _ h) h⟩)
  · exact .inr h
theorem Th.go {v : V} {n : String} (h : Th H v n) (g : Go T D H H1) (t : TG T H) (d : ∀ a, v = .ref a → ¬ D a) : Th H1 v n := by
  cases h with
  | non => exact .non
  | bl b => exact .bl b
  | int i => exact .int i
  | str x h => exact .str x h
  | lst e => exact .lst (g.at t (d _ rfl) e)
  | tup e => exact .tup (g.at t (d _ rfl) e)
  | dK e => exact .dK (g.at t (d _ rfl) e)
/-- only a dict is otherwise -/
theorem dOne {d a : Addr} {kvs : List (Key × V)} (e : H d = some (.dK kvs)) {o : HO} (h : H a = some o) (ho : ∀ k, o ≠ .dK k) : ¬ a = d := by
  intro z
  rw [z, e] at h
  exact ho _ (Option.some.inj h).symm
end

/-! ### calls of the module's defs -/
structure Cal (P : Program) (w : World) (K : PySem.W.Frag) (mg : Str → Option Value) (base : Heap) (k : Nat) (x : Str) (ps : List Str) (sp : Sp) : Prop where
  ex : ∃ (f : Addr) (fd : FuncData), FnOk P w K mg base CX0 k f fd ps sp ∧ mg x = some (.ref f) ∧ PySem.W.keepIn K (.ref f) = true ∧ Binds K fd ps []
theorem pe_cal {X : Cx} {k : Nat} {x : Str} {ps : List Str} {sp : Sp} {e : Expr} {es : List Expr} {t : TA} {p pos : Pos} (C : Cal X.prog X.w X.K X.mg X.base k x ps sp) (hr : Room k X.A) (hg : Gl X x) (ha : PA X (e :: es) t)
    (hdb : (x == ("__debug__" : Str)) = false := by decide) (he : starEach (e :: es) X.env = (false, eval e X.env) :: starEach es X.env := by rfl) (hpl : (backTo pos (starEach es X.env)).any (·.1) = false := by rfl) :
    PE X (.Call (.Name x p) (e :: es) [] pos) (tCall sp [] E0 t) := by
  obtain ⟨f, fd, F, hm, hk, hb⟩ := C.ex
  exact pe_call F hr hg hm hk hb .nil pass0 ha hdb he hpl
end K1
set_option Elab.async false
set_option linter.all false
set_option maxRecDepth 100000
set_option maxHeartbeats 4000000
/-! The program's defs: is_whole, is_among, is_word, is_hand, is_name, is_put_line, is_end. -/
namespace K1
open PySem PySem.Spec PyProof.Rows L2

def ltrs : Str := "abcdefghijklmnopqrstuvwxyz"
def figs : Str := "0123456789"
def wordOk (x : Str) : Bool := (decide ((1 : Int) ≤ x.length) && decide ((x.length : Int) ≤ 8)) && x.cps.toList.all (fun c => decide (c ∈ ltrs.cps.toList))
def wordV : V → Bool
  | .str x => wordOk x
  | _ => false
def noHands : List V := [.str "head", .str "foot", .str "none"]
def handV (v : V) : Bool := wordV v && !inV v noHands
def amgV (v : V) (lo hi : Int) : Bool := match v with
  | .int i => decide (lo ≤ i) && decide (i ≤ hi)
  | _ => false
def geOne : V → Bool
  | .int i => decide (1 ≤ i)
  | _ => false
def nameL : Option (List V) → Bool
  | some [p, q] => handV p && amgV q 1 999
  | _ => false
def putL : Option (List V) → Bool
  | some [p, q, r] => (handV p && amgV q 1 999) && geOne r
  | _ => false
def endL : Option (List V) → Bool
  | some [p, q, r] => (decide (p = .str "") && amgV q 0 0) && amgV r 0 1
  | _ => false

/-- the module's names -/
structure Mg (K : PySem.W.Frag) (mg : Str → Option Value) : Prop where
  ins : mg "isinstance" = none
  int_ : mg "int" = none
  bool_ : mg "bool" = none
  str_ : mg "str" = none
  tuple_ : mg "tuple" = none
  list_ : mg "list" = none
  len_ : mg "len" = none
  all_ : mg "all" = none
  range_ : mg "range" = none
  enum_ : mg "enumerate" = none
  sum_ : mg "sum" = none
  mostL : ∃ t, mg "MOST_LETTERS" = some (.int 8 t)
  mostN : ∃ t, mg "MOST_NUMBER" = some (.int 999 t)
  mostF : ∃ t, mg "MOST_FIGURES" = some (.int 6 t)
  hd : ∃ a, mg "HEAD" = some (.ref a) ∧ ∀ H, SqT K H a [.str "", .int 0, .int 0]
  ft : ∃ a, mg "FOOT" = some (.ref a) ∧ ∀ H, SqT K H a [.str "", .int 0, .int 1]

theorem Th.strOf {H : Hp} {v : V} {n : String} (h : Th H v n) (e : isS v = true) : ∃ x, v = .str x ∧ x.length ≤ sizeLine := by
  cases h with
  | str x h => exact ⟨x, rfl, h⟩
  | _ => cases e
theorem wordV_no {v : V} (e : isS v = false) : wordV v = false := by
  cases v with
  | str x => cases e
  | _ => rfl
theorem intOf {v : V} (e : isI v = true) : ∃ i, v = .int i := by
  cases v with
  | int i => exact ⟨i, rfl⟩
  | _ => cases e
theorem amgV_no {v : V} {lo hi : Int} (e : isI v = false) : amgV v lo hi = false := by
  cases v with
  | int i => cases e
  | _ => rfl

theorem tl_ltrs : ltrs.cps.toList = [97, 98, 99, 100, 101, 102, 103, 104, 105, 106, 107, 108, 109, 110, 111, 112, 113, 114, 115, 116, 117, 118, 119, 120, 121, 122] := by decide +kernel
theorem ltr_iff {c : Nat} : c ∈ ltrs.cps.toList ↔ 97 ≤ c ∧ c ≤ 122 := by
  rw [tl_ltrs]
  simp only [List.mem_cons, List.not_mem_nil, or_false]
  omega
theorem cls_signs : ∀ c, c < 128 → Unicode.isAlpha c = (decide (97 ≤ c ∧ c ≤ 122) || decide (65 ≤ c ∧ c ≤ 90)) ∧ Unicode.isLower c = decide (97 ≤ c ∧ c ≤ 122) ∧ (Unicode.isUpper c || Unicode.isTitle c) = decide (65 ≤ c ∧ c ≤ 90) := by decide +kernel
/-- the program's three questions are one -/
theorem word_eq {x : Str} (h : decide ((x.length : Int) ≤ 8) = true) : wordOk x = (Txt.isascii x && (Txt.isalpha x && Txt.islower x)) := by
  have e0 : wordOk x = (decide ((1 : Int) ≤ x.length) && x.cps.toList.all (fun c => decide (c ∈ ltrs.cps.toList))) := by
    unfold wordOk
    rw [h, Bool.and_true]
  have lx : x.length = x.cps.toList.length := by rw [Array.length_toList]; rfl
  have ea : Txt.isascii x = x.cps.toList.all (fun c => decide (c < 128)) := by unfold Txt.isascii; rw [← Array.all_toList]
  have eb : Txt.isalpha x = (decide (x.length > 0) && x.cps.toList.all Unicode.isAlpha) := by unfold Txt.isalpha; rw [← Array.all_toList]
  have ec : Txt.islower x = (x.cps.toList.any Unicode.isLower && !x.cps.toList.any fun c => Unicode.isUpper c || Unicode.isTitle c) := by unfold Txt.islower; rw [← Array.any_toList, ← Array.any_toList]
  rw [e0, ea, eb, ec, lx]
  generalize x.cps.toList = l
  rw [Bool.eq_iff_iff]
  simp only [Bool.and_eq_true, decide_eq_true_eq, List.all_eq_true, List.any_eq_true, Bool.not_eq_true', List.any_eq_false, ltr_iff]
  constructor
  · rintro ⟨h1, h2⟩
    have a128 : ∀ c ∈ l, c < 128 := fun c hc => by have := h2 c hc; omega
    refine ⟨a128, ⟨by omega, fun c hc => ?_⟩, ?_, fun c hc => ?_⟩
    · rw [(cls_signs c (a128 c hc)).1, decide_eq_true (h2 c hc), Bool.true_or]
    · cases l with
      | nil => simp at h1
      | cons c r => exact ⟨c, by simp, by rw [(cls_signs c (a128 c (by simp))).2.1, decide_eq_true (h2 c (by simp))]⟩
    · rw [(cls_signs c (a128 c hc)).2.2, decide_eq_false (by have := h2 c hc; omega)]
      exact Bool.false_ne_true
  · rintro ⟨a128, ⟨h1, h2⟩, _, h4⟩
    refine ⟨by omega, fun c hc => ?_⟩
    have q1 := h2 c hc
    have q2 := h4 c hc
    rw [(cls_signs c (a128 c hc)).1] at q1
    rw [(cls_signs c (a128 c hc)).2.2] at q2
    simp only [Bool.or_eq_true, decide_eq_true_eq] at q1
    rcases q1 with q1 | q1
    · exact q1
    · exact absurd (decide_eq_true q1) q2

theorem noFree {l : List (Str × NameKind)} {p : Str × NameKind → Prop} (h : (l.all fun y => decide (y.2 ≠ NameKind.free)) = true) : ∀ y ∈ l, y.2 = NameKind.free → p y := fun y hy e =>
  absurd e (of_decide_eq_true (List.all_eq_true.mp h y hy))
section
variable {P : Program} {w : World} {K : PySem.W.Frag} {mg : Str → Option Value} {base : Heap}

/-! ### is_whole -/
def spWhole : Sp := fun vs H Q _ => ∃ v n, vs = [v] ∧ Th H v n ∧ Q (.bl (isI v)) H
theorem ok_whole {f : Addr} {fd : FuncData} {k : Nat} (F : Fun K "is_whole" "is_whole" sWhole f fd) (M : Mg K mg) : FnOk P w K mg base CX0 (k + 1) f fd ["thing"] spWhole := by
  refine F.ok scWhole (fun vs H Q E h => ?_) (fun cdv A outer s H vs Q E hr h => ?_)
  · obtain ⟨v, n, rfl, _⟩ := h
    rfl
  · obtain ⟨v, n, rfl, th, q⟩ := h
    refine ⟨_, pss_one (ps_ret (pe_and (pe_callB call_isi (by rfl) M.ins boot_isinstance (pa_cons (pv 0) (pa_cons (pe_bltn (v := .ty "int") (by rfl) M.int_ boot_int rfl) pa_nil)))
      (pe_one (pe_not (pe_callB call_isi (by rfl) M.ins boot_isinstance (pa_cons (pv 0) (pa_cons (pe_bltn (v := .ty "bool") (by rfl) M.bool_ (by decide +kernel) rfl) pa_nil))))))), ?_⟩
    refine ⟨v, rfl, v, .ty "int", .type n, .type "int", _, rfl, .ty _, th.ty, kit_ty th.kint, _, rfl, ite2 (fun e => ⟨v, rfl, v, .ty "bool", .type n, .type "bool", _, rfl, .ty _, th.ty, kit_ty th.kbool, _, rfl, ?_⟩) (fun e => ?_)⟩
    · have e2 : (!isB v) = isI v := by
        cases v <;> first | rfl | cases e
      rw [e2]
      exact q
    · have e2 : false = isI v := by
        cases v <;> first | rfl | exact absurd rfl e
      rw [e2]
      exact q

/-! ### is_among -/
def spAmong : Sp := fun vs H Q _ => ∃ v n lo hi, vs = [v, .int lo, .int hi] ∧ Th H v n ∧ Q (.bl (amgV v lo hi)) H
theorem ok_among {f : Addr} {fd : FuncData} {k : Nat} (F : Fun K "is_among" "is_among" sAmong f fd) (cW : Cal P w K mg base k "is_whole" ["thing"] spWhole) : FnOk P w K mg base CX0 (k + 1) f fd ["thing", "least", "most"] spAmong := by
  refine F.ok scAmong (fun vs H Q E h => ?_) (fun cdv A outer s H vs Q E hr h => ?_)
  · obtain ⟨v, n, lo, hi, rfl, _⟩ := h
    rfl
  · obtain ⟨v, n, lo, hi, rfl, th, q⟩ := h
    refine ⟨_, pss_one (ps_ret (pe_and (pe_cal cW hr (by rfl) (pa_cons (pv 0) pa_nil)) (pe_and (pe_cal cW hr (by rfl) (pa_cons (pv 1) pa_nil)) (pe_and (pe_cal cW hr (by rfl) (pa_cons (pv 2) pa_nil))
      (pe_one (pe_chain op_le op_le (pv 1) (pv 0) (pv 2))))))), ?_⟩
    refine ⟨v, rfl, v, n, rfl, th, _, rfl, ite2 (fun e => ?_) (fun e => ?_)⟩
    · obtain ⟨i, rfl⟩ := intOf e
      refine ⟨.int lo, rfl, .int lo, "int", rfl, .int lo, true, rfl, iteT ⟨.int hi, rfl, .int hi, "int", rfl, .int hi, true, rfl, iteT ?_⟩⟩
      refine ⟨.int lo, rfl, .int i, rfl, lo, i, rfl, rfl, _, rfl, ite2 (fun e1 => ⟨.int hi, rfl, i, hi, rfl, rfl, ?_⟩) (fun e1 => ?_)⟩
      · have e2 : decide (i ≤ hi) = amgV (.int i) lo hi := by
          show _ = (decide (lo ≤ i) && decide (i ≤ hi))
          rw [e1, Bool.true_and]
        show Q (.bl (decide (i ≤ hi))) H
        rw [e2]
        exact q
      · have e2 : false = amgV (.int i) lo hi := by
          show _ = (decide (lo ≤ i) && decide (i ≤ hi))
          rw [Bool.eq_false_iff.mpr e1, Bool.false_and]
        rw [e2]
        exact q
    · rw [amgV_no (Bool.eq_false_iff.mpr e)] at q
      exact q

/-! ### defs whose code object is known -/
theorem ok_code {x qual : Str} {st : Stmt} {f c : Addr} {oc kV doc pm ct : Value} {od an : Option Addr} {osl : Array (Option Value)} {N ps : List Str} {k : Nat} {sp : Sp}
    (l : K.lookup f = some ⟨oc, od, .func (PySem.W.fnOf x qual (defArgs st) (defBody st) (defScope st) .none kV doc pm an (.ref c) ct), osl⟩) (hc : PySem.W.codeIn K (.ref c) qual = true)
    (S : FnScope N ps (defScope st)) (len : ∀ vs H Q E, sp vs H Q E → vs.length = ps.length)
    (hb : ∀ (A : Around) (outer : List Env) (s : Shared) (H : Hp) (vs : List V) (Q : VK) (E : XK), Room k (A.deeper (envOfC qual (defScope st) s.heap.objs.size f (.ref c))) → sp vs H Q E →
      ∃ t, PSs (cxOf CX0 P w K mg base N qual (defScope st) f (.ref c) A outer s H E).nox (defBody st) t ∧ t { nx := fun _ H' => Q .non H', rt := Q } (start N vs) H) :
    FnOk P w K mg base CX0 (k + 1) f (PySem.W.fnOf x qual (defArgs st) (defBody st) (defScope st) .none kV doc pm an (.ref c) ct) ps sp := by
  refine fn_of l hc S len fun A outer s H vs Q E hr hsp => ?_
  obtain ⟨t, h, q⟩ := hb A outer s H vs Q E hr hsp
  exact ⟨t, h.nox, q⟩

/-! ### is_word -/
def spWord (T : Tp) : Sp := fun vs H Q _ => ∃ v n, vs = [v] ∧ Th H v n ∧ TG T H ∧ ∀ H', Go T D0 H H' → Q (.bl (wordV v)) H'
theorem ok_word {T : Tp} {f : Addr} {fd : FuncData} {k : Nat} (F : Fun K "is_word" "is_word" sWord f fd) (M : Mg K mg) : FnOk P w K mg base CX0 (k + 1) f fd ["thing"] (spWord T) := by
  obtain ⟨tk, hL⟩ := M.mostL
  refine F.ok scWord (fun vs H Q E h => ?_) (fun cdv A outer s H vs Q E hr h => ?_)
  · obtain ⟨v, n, rfl, _⟩ := h
    rfl
  · obtain ⟨v, n, rfl, th, tg, q⟩ := h
    refine ⟨_, pss_cons (ps_if (PW.pt (pw_or (pt_not (pt_val (pe_callB call_isi (by rfl) M.ins boot_isinstance (pa_cons (pv 0) (pa_cons (pe_bltn (v := .ty "str") (by rfl) M.str_ boot_str rfl) pa_nil)))))
        (pw_or1 (pt_cmpR op_gt (pe_callB call_len_str (by rfl) M.len_ PySem.boot_len (pa_cons (pv 0) pa_nil)) (pe_glob (v := .int 8) (by rfl) hL ⟨_, rfl⟩) (nomark _)))))
        (pss_one (ps_ret pe_bl)) pss_nil)
      (pss_one (ps_ret (pe_and (pe_m0 PySem.F.slot_str_isascii PySem.F.type_str_isascii mt_isascii (pv 0)) (pe_and (pe_m0 PySem.F.slot_str_isalpha PySem.F.type_str_isalpha mt_isalpha (pv 0)) (pe_one (pe_m0 PySem.F.slot_str_islower PySem.F.type_str_islower mt_islower (pv 0))))))), ?_⟩
    refine ⟨v, rfl, v, .ty "str", .type n, .type "str", _, rfl, .ty _, th.ty, kit_ty th.kstr, _, rfl, ite2 (fun e => iteT ?_) (fun e => ?_)⟩
    · rw [wordV_no (by simpa using e)] at q
      exact q H (Go.rfl' tg)
    · obtain ⟨x, rfl, hx⟩ := th.strOf (by simpa using e)
      have fin : ∀ b, wordOk x = b → Q (.bl b) H := fun b e => e ▸ q H (Go.rfl' tg)
      refine ⟨.str x, rfl, x, rfl, hx, _, _, rfl, rfl, _, rfl, ite2 (fun e1 => ?_) (fun e1 => ?_)⟩
      · have e2 : decide ((x.length : Int) ≤ 8) = false := decide_eq_false (by have := of_decide_eq_true e1; omega)
        refine fin _ ?_
        show (decide ((1 : Int) ≤ x.length) && decide ((x.length : Int) ≤ 8) && _) = false
        rw [e2, Bool.and_false, Bool.false_and]
      · have e2 : decide ((x.length : Int) ≤ 8) = true := decide_eq_true (by have := of_decide_eq_false (Bool.eq_false_iff.mpr e1); omega)
        have e3 := word_eq e2
        refine ⟨.str x, rfl, ⟨x, rfl⟩, x, rfl, rfl, trivial, _, rfl, ite2 (fun e4 => ⟨.str x, rfl, ⟨x, rfl⟩, x, rfl, rfl, trivial, _, rfl, ite2 (fun e5 => ⟨.str x, rfl, ⟨x, rfl⟩, x, rfl, rfl, trivial, fin _ ?_⟩) (fun e5 => fin _ ?_)⟩) (fun e4 => fin _ ?_)⟩
        · rw [e3, e4, e5, Bool.true_and, Bool.true_and]
        · rw [e3, e4, Bool.eq_false_iff.mpr e5, Bool.true_and, Bool.false_and]
        · rw [e3, Bool.eq_false_iff.mpr e4, Bool.false_and]
end
end K1
set_option Elab.async false
set_option linter.all false
set_option maxRecDepth 100000
set_option maxHeartbeats 400000
/-! The program's defs: is_hand, is_name, is_put_line, is_end. -/
namespace K1
open PySem PySem.Spec PyProof.Rows L2

theorem notnot {b : Bool} (e : ¬ (!b) = true) : b = true := by
  cases b with
  | true => rfl
  | false => exact absurd rfl e
theorem tupOf_inv {H : Hp} {v : V} (e : (tupOf H v).isSome = true) : ∃ a xs, v = .ref a ∧ H a = some (.tup xs) ∧ tupOf H v = some xs := by
  cases v with
  | ref a =>
    have e' : (match H a with | some (.tup xs) => some xs | _ => none : Option (List V)).isSome = true := e
    cases q : H a with
    | none => rw [q] at e'; cases e'
    | some o =>
      rw [q] at e'
      cases o with
      | tup xs => exact ⟨a, xs, rfl, q, tupOf_at q⟩
      | _ => cases e'
  | _ => cases e
theorem nameL_len {xs : List V} (h : ¬ xs.length = 2) : nameL (some xs) = false := by
  match xs with
  | [] => rfl
  | [_] => rfl
  | [_, _] => exact absurd rfl h
  | _ :: _ :: _ :: _ => rfl
theorem putL_len {xs : List V} (h : ¬ xs.length = 3) : putL (some xs) = false := by
  match xs with
  | [] => rfl
  | [_] => rfl
  | [_, _] => rfl
  | [_, _, _] => exact absurd rfl h
  | _ :: _ :: _ :: _ :: _ => rfl
theorem endL_len {xs : List V} (h : ¬ xs.length = 3) : endL (some xs) = false := by
  match xs with
  | [] => rfl
  | [_] => rfl
  | [_, _] => rfl
  | [_, _, _] => exact absurd rfl h
  | _ :: _ :: _ :: _ :: _ => rfl
theorem len2 {xs : List V} (h : xs.length = 2) : ∃ p q, xs = [p, q] := by
  match xs, h with
  | [p, q], _ => exact ⟨p, q, rfl⟩
theorem len3 {xs : List V} (h : xs.length = 3) : ∃ p q r, xs = [p, q, r] := by
  match xs, h with
  | [p, q, r], _ => exact ⟨p, q, r, rfl⟩
theorem strOfV {v : V} (e : isS v = true) : ∃ x, v = .str x := by
  cases v with
  | str x => exact ⟨x, rfl⟩
  | _ => cases e
theorem wordV_str {v : V} (e : wordV v = true) : ∃ x, v = .str x := by
  cases v with
  | str x => exact ⟨x, rfl⟩
  | _ => cases e

/-- an int or a truth -/
theorem numK {r : V} (h : (isI r || isB r) = true) : flatV r = true ∧ ∃ j, nmV r = some j ∧ (r = .bl true ∨ r = .int j ∨ (r = .bl false ∧ j = 0)) := by
  cases r with
  | int i => exact ⟨rfl, i, rfl, .inr (.inl rfl)⟩
  | bl b =>
    cases b with
    | true => exact ⟨rfl, 1, rfl, .inl rfl⟩
    | false => exact ⟨rfl, 0, rfl, .inr (.inr ⟨rfl, rfl⟩)⟩
  | _ => cases h
theorem amgV_num {r : V} {lo hi : Int} (h : ¬ (isI r || isB r) = true) : amgV r lo hi = false := by
  cases r with
  | int i => exact absurd rfl h
  | _ => rfl
theorem geOne_num {r : V} (h : ¬ (isI r || isB r) = true) : geOne r = false := by
  cases r with
  | int i => exact absurd rfl h
  | _ => rfl
theorem isB_num {r : V} (h : decide (r = .bl true) = true) : amgV r 1 999 = false ∧ geOne r = false := by
  rw [of_decide_eq_true h]
  exact ⟨rfl, rfl⟩

section
variable {P : Program} {w : World} {K : PySem.W.Frag} {mg : Str → Option Value} {base : Heap} {T : Tp}

/-! ### is_hand -/
def spHand (T : Tp) : Sp := fun vs H Q _ => ∃ v n, vs = [v] ∧ Th H v n ∧ TG T H ∧ ∀ H', Go T D0 H H' → Q (.bl (handV v)) H'
theorem ok_hand {f : Addr} {fd : FuncData} {k : Nat} (F : Fun K "is_hand" "is_hand" sHand f fd) (cW : Cal P w K mg base k "is_word" ["thing"] (spWord T)) : FnOk P w K mg base CX0 (k + 1) f fd ["thing"] (spHand T) := by
  refine F.ok scHand (fun vs H Q E h => ?_) (fun cdv A outer s H vs Q E hr h => ?_)
  · obtain ⟨v, n, rfl, _⟩ := h
    rfl
  · obtain ⟨v, n, rfl, th, tg, q⟩ := h
    refine ⟨_, pss_one (ps_ret (pe_and (pe_cal cW hr (by rfl) (pa_cons (pv 0) pa_nil)) (pe_one (pe_cmpR op_notIn_seq (pv 0) (pe_tup (pa_cons pe_str (pa_cons pe_str (pa_cons pe_str pa_nil)))) (by rfl))))), ?_⟩
    refine ⟨v, rfl, v, n, rfl, th, tg, fun H1 g1 => ⟨_, rfl, ite2 (fun e => ?_) (fun e => ?_)⟩⟩
    · refine ⟨v, rfl, by show 3 ≤ sizeLine; decide, fun t ht => ⟨t, noHands, rfl, .inr (.inl (.inl upd_same)), ?_, rfl, ?_⟩⟩
      · obtain ⟨x, rfl⟩ := wordV_str e
        rfl
      · have e2 : handV v = !inV v noHands := by
          unfold handV
          rw [e, Bool.true_and]
        have q2 := q (upd H1 t (.tup noHands)) (g1.new ht)
        rw [e2] at q2
        exact q2
    · have e2 : handV v = false := by
        unfold handV
        rw [Bool.eq_false_iff.mpr e, Bool.false_and]
      have q2 := q _ g1
      rw [e2] at q2
      exact q2

/-! ### is_name -/
def ThAll (H : Hp) (v : V) : Prop := ∀ xs, tupOf H v = some xs → ∀ x ∈ xs, ∃ m, Th H x m ∧ ∀ a, x ≠ .ref a
def spName (T : Tp) : Sp := fun vs H Q _ => ∃ v n, vs = [v] ∧ Th H v n ∧ ThAll H v ∧ TG T H ∧ ∀ H', Go T D0 H H' → Q (.bl (nameL (tupOf H v))) H'
theorem ok_name {f : Addr} {fd : FuncData} {k : Nat} (F : Fun K "is_name" "is_name" sName f fd) (M : Mg K mg) (cH : Cal P w K mg base k "is_hand" ["thing"] (spHand T)) :
    FnOk P w K mg base CX0 (k + 1) f fd ["thing"] (spName T) := by
  obtain ⟨tk, hN⟩ := M.mostN
  refine F.ok scName (fun vs H Q E h => ?_) (fun cdv A outer s H vs Q E hr h => ?_)
  · obtain ⟨v, n, rfl, _⟩ := h
    rfl
  · obtain ⟨v, n, rfl, th, al, tg, q⟩ := h
    refine ⟨_, pss_cons (ps_if (PW.pt (pw_or (pt_not (pt_val (pe_callB call_isi (by rfl) M.ins boot_isinstance (pa_cons (pv 0) (pa_cons (pe_bltn (v := .ty "tuple") (by rfl) M.tuple_ (by decide +kernel) rfl) pa_nil)))))
        (pw_or1 (pt_cmpR op_ne (pe_callB call_len_seq (by rfl) M.len_ PySem.boot_len (pa_cons (pv 0) pa_nil)) pe_int (nomark _)))))
        (pss_one (ps_ret pe_bl)) pss_nil)
      (pss_cons (ps_asg (pv 0) (pg_tup (by rfl) (pgs_cons (pg_name (i := 1) scName.nd rfl (.inl rfl)) (pgs_cons (pg_name (i := 2) scName.nd rfl (.inl rfl)) pgs_nil))))
      (pss_one (ps_ret (pe_and (pe_callB call_isi (by rfl) M.ins boot_isinstance (pa_cons (pv 2) (pa_cons (pe_bltn (v := .ty "int") (by rfl) M.int_ boot_int rfl) pa_nil)))
        (pe_and (pe_cmpR op_isnotB (pv 2) pe_bl (nomark _))
        (pe_and (pe_chain op_leN op_le pe_int (pv 2) (pe_glob (v := .int 999) (by rfl) hN ⟨_, rfl⟩))
          (pe_one (pe_cal cH hr (by rfl) (pa_cons (pv 1) pa_nil))))))))), ?_⟩
    refine ⟨v, rfl, v, .ty "tuple", .type n, .type "tuple", _, rfl, .ty _, th.ty, kit_ty th.ktup, _, rfl, ite2 (fun e => iteT ?_) (fun e => ?_)⟩
    · have e2 : tupOf H v = none := by simpa using e
      rw [e2] at q
      exact q H (Go.rfl' tg)
    · obtain ⟨a, xs, rfl, hx, et⟩ := tupOf_inv (notnot e)
      rw [et] at q
      have hS : SqT K H a xs := .inl (.inl hx)
      refine ⟨.ref a, rfl, a, xs, rfl, .inr hS, rfl, _, rfl, ite2 (fun e1 => ?_) (fun e1 => ?_)⟩
      · have e2 : ¬ xs.length = 2 := by
          intro z
          rw [z] at e1
          exact absurd e1 (by decide)
        rw [nameL_len e2] at q
        exact q H (Go.rfl' tg)
      · have e2 : (xs.length : Int) = 2 := by
          have e3 : decide (V.int (xs.length : Int) = V.int 2) = true := by simpa using e1
          exact V.int.inj (of_decide_eq_true e3)
        obtain ⟨p, r, rfl⟩ := len2 (xs := xs) (by omega)
        obtain ⟨m, tp, m1⟩ := al _ et p (by simp)
        obtain ⟨m', tr, m'1⟩ := al _ et r (by simp)
        have no : amgV r 1 999 = false → Q (.bl false) H := fun e => by
          have q2 := q H (Go.rfl' tg)
          have e4 : nameL (some [p, r]) = false := by
            show (handV p && amgV r 1 999) = _
            rw [e, Bool.and_false]
          rw [e4] at q2
          exact q2
        refine ⟨.ref a, rfl, a, _, rfl, hS, rfl, p, [r], rfl, r, [], rfl, rfl, r, rfl, r, .ty "int", .type m', .type "int", _, rfl, .ty _, tr.ty, kit_ty tr.kint, _, rfl, ite2 (fun e3 => ?_) (fun e3 => ?_)⟩
        · obtain ⟨fl, j, hj, hc⟩ := numK e3
          refine ⟨r, rfl, true, fl, rfl, _, rfl, ite2 (fun e4 => ⟨r, rfl, 1, j, rfl, hj, _, rfl, ite2 (fun e5 => ?_) (fun e5 => ⟨_, rfl, iteF ?_⟩)⟩) (fun e4 => ?_)⟩
          · obtain rfl : r = .int j := by
              rcases hc with rfl | rfl | ⟨rfl, rfl⟩
              · exact absurd e4 (by decide)
              · rfl
              · exact absurd e5 (by decide)
            refine ⟨j, 999, rfl, rfl, _, rfl, ite2 (fun e6 => ⟨p, rfl, p, m, rfl, tp, tg, fun H1 g1 => ?_⟩) (fun e6 => ?_)⟩
            · have q2 := q _ g1
              have e7 : nameL (some [p, .int j]) = handV p := by
                show (handV p && (decide (1 ≤ j) && decide (j ≤ 999))) = _
                rw [e5, e6, Bool.and_true, Bool.and_true]
              rw [e7] at q2
              exact q2
            · have e7 := Bool.eq_false_iff.mpr e6
              refine no ?_
              show (decide (1 ≤ j) && decide (j ≤ 999)) = false
              rw [e7, Bool.and_false]
          · have e7 := Bool.eq_false_iff.mpr e5
            refine no ?_
            rcases hc with rfl | rfl | ⟨rfl, rfl⟩
            · rfl
            · show (decide (1 ≤ j) && decide (j ≤ 999)) = false
              rw [e7, Bool.false_and]
            · rfl
          · refine no (isB_num ?_).1
            cases z : decide (r = V.bl true) with
            | true => rfl
            | false => exact absurd (by rw [z]; rfl) e4
        · exact no (amgV_num e3)

/-! ### is_put_line -/
def spPut (T : Tp) : Sp := fun vs H Q _ => ∃ v n, vs = [v] ∧ Th H v n ∧ ThAll H v ∧ TG T H ∧ ∀ H', Go T D0 H H' → Q (.bl (putL (tupOf H v))) H'
theorem cut2 (p q r : V) : cutV [p, q, r] none (some 2) = [p, q] := rfl
theorem ok_put {f : Addr} {fd : FuncData} {k : Nat} (F : Fun K "is_put_line" "is_put_line" sPut f fd) (M : Mg K mg) (cH : Cal P w K mg base k "is_hand" ["thing"] (spHand T)) :
    FnOk P w K mg base CX0 (k + 1) f fd ["thing"] (spPut T) := by
  obtain ⟨tk, hN⟩ := M.mostN
  refine F.ok scPut (fun vs H Q E h => ?_) (fun cdv A outer s H vs Q E hr h => ?_)
  · obtain ⟨v, n, rfl, _⟩ := h
    rfl
  · obtain ⟨v, n, rfl, th, al, tg, q⟩ := h
    refine ⟨_, pss_cons (ps_if (PW.pt (pw_or (pt_not (pt_val (pe_callB call_isi (by rfl) M.ins boot_isinstance (pa_cons (pv 0) (pa_cons (pe_bltn (v := .ty "tuple") (by rfl) M.tuple_ (by decide +kernel) rfl) pa_nil)))))
        (pw_or1 (pt_cmpR op_ne (pe_callB call_len_seq (by rfl) M.len_ PySem.boot_len (pa_cons (pv 0) pa_nil)) pe_int (nomark _)))))
        (pss_one (ps_ret pe_bl)) pss_nil)
      (pss_cons (ps_asg (pv 0) (pg_tup (by rfl) (pgs_cons (pg_name (i := 1) scPut.nd rfl (.inl rfl)) (pgs_cons (pg_name (i := 2) scPut.nd rfl (.inl rfl)) (pgs_cons (pg_name (i := 3) scPut.nd rfl (.inl rfl)) pgs_nil)))))
      (pss_cons (ps_if (PW.pt (pw_or (pt_not (pt_val (pe_callB call_isi (by rfl) M.ins boot_isinstance (pa_cons (pv 2) (pa_cons (pe_bltn (v := .ty "int") (by rfl) M.int_ boot_int rfl) pa_nil)))))
          (pw_or (pt_not (pt_val (pe_callB call_isi (by rfl) M.ins boot_isinstance (pa_cons (pv 3) (pa_cons (pe_bltn (v := .ty "int") (by rfl) M.int_ boot_int rfl) pa_nil)))))
          (pw_or (pt_cmpR op_isB (pv 2) pe_bl (nomark _)) (pw_or1 (pt_cmpR op_isB (pv 3) pe_bl (nomark _)))))))
        (pss_one (ps_ret pe_bl)) pss_nil)
      (pss_one (ps_ret (pe_and (pe_chain op_leN op_le pe_int (pv 2) (pe_glob (v := .int 999) (by rfl) hN ⟨_, rfl⟩))
        (pe_and (pe_cmpR op_geN (pv 3) pe_int (nomark _))
          (pe_one (pe_cal cH hr (by rfl) (pa_cons (pv 1) pa_nil))))))))), ?_⟩
    refine ⟨v, rfl, v, .ty "tuple", .type n, .type "tuple", _, rfl, .ty _, th.ty, kit_ty th.ktup, _, rfl, ite2 (fun e => iteT ?_) (fun e => ?_)⟩
    · have e2 : tupOf H v = none := by simpa using e
      rw [e2] at q
      exact q H (Go.rfl' tg)
    · obtain ⟨a, xs, rfl, hx, et⟩ := tupOf_inv (notnot e)
      rw [et] at q
      have hS : SqT K H a xs := .inl (.inl hx)
      refine ⟨.ref a, rfl, a, xs, rfl, .inr hS, rfl, _, rfl, ite2 (fun e1 => ?_) (fun e1 => ?_)⟩
      · have e2 : ¬ xs.length = 3 := by
          intro z
          rw [z] at e1
          exact absurd e1 (by decide)
        rw [putL_len e2] at q
        exact q H (Go.rfl' tg)
      · have e2 : (xs.length : Int) = 3 := by
          have e3 : decide (V.int (xs.length : Int) = V.int 3) = true := by simpa using e1
          exact V.int.inj (of_decide_eq_true e3)
        obtain ⟨p, r, l, rfl⟩ := len3 (xs := xs) (by omega)
        obtain ⟨m, tp, m1⟩ := al _ et p (by simp)
        obtain ⟨m', tr, m'1⟩ := al _ et r (by simp)
        obtain ⟨m'', tl', m''1⟩ := al _ et l (by simp)
        have no : (amgV r 1 999 && geOne l) = false → Q (.bl false) H := fun e => by
          have q2 := q H (Go.rfl' tg)
          have e4 : putL (some [p, r, l]) = false := by
            show ((handV p && amgV r 1 999) && geOne l) = _
            rw [Bool.and_assoc, e, Bool.and_false]
          rw [e4] at q2
          exact q2
        have no1 : amgV r 1 999 = false → Q (.bl false) H := fun e => no (by rw [e, Bool.false_and])
        have no2 : geOne l = false → Q (.bl false) H := fun e => no (by rw [e, Bool.and_false])
        refine ⟨.ref a, rfl, a, _, rfl, hS, rfl, p, [r, l], rfl, r, [l], rfl, l, [], rfl, rfl, r, rfl, r, .ty "int", .type m', .type "int", _, rfl, .ty _, tr.ty, kit_ty tr.kint, _, rfl, ite2 (fun e3 => iteT ?_) (fun e3 => ?_)⟩
        · exact no1 (amgV_num (fun z => by rw [z] at e3; cases e3))
        · obtain ⟨fr, i, hi, hci⟩ := numK (notnot e3)
          refine ⟨l, rfl, l, .ty "int", .type m'', .type "int", _, rfl, .ty _, tl'.ty, kit_ty tl'.kint, _, rfl, ite2 (fun e4 => iteT ?_) (fun e4 => ?_)⟩
          · exact no2 (geOne_num (fun z => by rw [z] at e4; cases e4))
          · obtain ⟨fl, j, hj, hcj⟩ := numK (notnot e4)
            refine ⟨r, rfl, true, fr, rfl, _, rfl, ite2 (fun e5 => iteT (no1 (isB_num e5).1)) (fun e5 => ⟨l, rfl, true, fl, rfl, _, rfl, ite2 (fun e6 => no2 (isB_num e6).2) (fun e6 => ?_)⟩)⟩
            refine ⟨r, rfl, 1, i, rfl, hi, _, rfl, ite2 (fun e7 => ?_) (fun e7 => ⟨_, rfl, iteF ?_⟩)⟩
            · obtain rfl : r = .int i := by
                rcases hci with rfl | rfl | ⟨rfl, rfl⟩
                · exact absurd rfl e5
                · rfl
                · exact absurd e7 (by decide)
              refine ⟨i, 999, rfl, rfl, _, rfl, ite2 (fun e8 => ?_) (fun e8 => ?_)⟩
              · refine ⟨l, rfl, j, 1, hj, rfl, _, rfl, ite2 (fun e9 => ⟨p, rfl, p, m, rfl, tp, tg, fun H1 g1 => ?_⟩) (fun e9 => ?_)⟩
                · obtain rfl : l = .int j := by
                    rcases hcj with rfl | rfl | ⟨rfl, rfl⟩
                    · exact absurd rfl e6
                    · rfl
                    · exact absurd e9 (by decide)
                  have q2 := q _ g1
                  have ea : putL (some [p, .int i, .int j]) = handV p := by
                    show ((handV p && (decide (1 ≤ i) && decide (i ≤ 999))) && decide (1 ≤ j)) = _
                    rw [e7, e8, e9, Bool.and_true, Bool.and_true, Bool.and_true]
                  rw [ea] at q2
                  exact q2
                · have ea := Bool.eq_false_iff.mpr e9
                  refine no2 ?_
                  rcases hcj with rfl | rfl | ⟨rfl, rfl⟩
                  · rfl
                  · exact ea
                  · rfl
              · have ea := Bool.eq_false_iff.mpr e8
                refine no1 ?_
                show (decide (1 ≤ i) && decide (i ≤ 999)) = false
                rw [ea, Bool.and_false]
            · have ea := Bool.eq_false_iff.mpr e7
              refine no1 ?_
              rcases hci with rfl | rfl | ⟨rfl, rfl⟩
              · rfl
              · show (decide (1 ≤ i) && decide (i ≤ 999)) = false
                rw [ea, Bool.false_and]
              · rfl

end
end K1
set_option Elab.async false
set_option linter.all false
set_option maxRecDepth 100000
set_option maxHeartbeats 4000000
/-! Texts: numbers, parts, data of flat things. -/
namespace K1
open PySem PySem.Spec PyProof.Rows L2 TL

/-! ### flat things as data -/
def pd : V → PyData
  | .non => .none
  | .bl b => .bool b
  | .int i => .int i
  | .str x => .str x
  | _ => .none
def okV : V → Bool
  | .non => true
  | .bl _ => true
  | .int _ => true
  | .str x => PyData.strOk x
  | _ => false
theorem pd_dp {K : PySem.W.Frag} {H : Hp} {v : V} (h : okV v = true) : Dp K H v (pd v) := by
  cases v with
  | non => exact .non
  | bl b => exact .bl b
  | int i => exact .int i
  | str x => exact .str x
  | _ => cases h
theorem pd_lay {v : V} (h : okV v = true) : (pd v).canLay0 = true := by
  cases v with
  | str x => exact h
  | _ => first | rfl | cases h
theorem pd_depth (v : V) : (pd v).depth = 0 := by
  cases v <;> rfl
theorem pd_all {K : PySem.W.Frag} {H : Hp} : ∀ {xs : List V}, xs.all okV = true → DpAll K H xs (xs.map pd)
  | [], _ => .nil
  | v :: xs, h => by
    rw [List.all_cons, Bool.and_eq_true] at h
    exact .cons (pd_dp h.1) (pd_all h.2)
theorem pd_layAll : ∀ {xs : List V}, xs.all okV = true → PyData.canLayAll0 (xs.map pd) = true
  | [], _ => rfl
  | v :: xs, h => by
    rw [List.all_cons, Bool.and_eq_true] at h
    show ((pd v).canLay0 && PyData.canLayAll0 (xs.map pd)) = true
    rw [pd_lay h.1, pd_layAll h.2] <;> rfl
theorem pd_depthAll : ∀ (xs : List V), PyData.depthAll (xs.map pd) = 0
  | [] => rfl
  | v :: xs => by
    show max (pd v).depth (PyData.depthAll (xs.map pd)) = 0
    rw [pd_depth, pd_depthAll xs] <;> rfl
theorem sh_flat {v : V} (h : okV v = true) : SeqAt.shaped (pd v) = true := by
  unfold SeqAt.shaped
  rw [pd_lay h, pd_depth] <;> rfl
theorem sh_tup {xs : List V} (h : xs.all okV = true) : SeqAt.shaped (.tuple (xs.map pd)) = true := by
  show (PyData.canLayAll0 (xs.map pd) && decide (PyData.depthAll (xs.map pd) + 1 ≤ 64)) = true
  rw [pd_layAll h, pd_depthAll] <;> rfl
theorem sh_lst {xs : List V} (h : xs.all okV = true) : SeqAt.shaped (.list (xs.map pd)) = true := sh_tup h
theorem dp_tup {K : PySem.W.Frag} {H : Hp} {a : Addr} {xs : List V} (s : SqT K H a xs) (h : xs.all okV = true) : Dp K H (.ref a) (.tuple (xs.map pd)) := .tup s (pd_all h)
theorem dp_lst {K : PySem.W.Frag} {H : Hp} {a : Addr} {xs : List V} (s : SqL K H a xs) (h : xs.all okV = true) : Dp K H (.ref a) (.list (xs.map pd)) := .lst s (pd_all h)
theorem eqv_self {d : PyData} (h : SeqAt.shaped d = true) : PyData.eqv d d = true := SeqAt.eqv_refl d (SeqAt.canLay_of_shaped h)

/-! ### numbers -/
def numT (x : Str) : Option Int := match tl x with
  | [] => none
  | c :: r => if decide ((c :: r).length ≤ 6) && (decide (c ≠ 48) && (c :: r).all (fun c => decide (c ∈ tl figs))) then some ((NumText.digitsVal (c :: r) : Nat) : Int) else none
def numV : V → V
  | .str x => match numT x with
    | some n => .int n
    | none => .non
  | _ => .non
theorem tl_figs : tl figs = [48, 49, 50, 51, 52, 53, 54, 55, 56, 57] := by decide +kernel
theorem fig_iff {c : Nat} : c ∈ tl figs ↔ 48 ≤ c ∧ c ≤ 57 := by
  rw [tl_figs]
  simp only [List.mem_cons, List.not_mem_nil, or_false]
  omega
theorem digits_of {l : List Nat} (h : (l.all fun c => decide (c ∈ tl figs)) = true) : NumText.AllDigits l := by
  intro c hc
  exact fig_iff.mp (of_decide_eq_true (List.all_eq_true.mp h c hc))
/-- a number that is told: its text -/
theorem numT_some {x : Str} {n : Int} (h : numT x = some n) : (Str.ofString (toString n) = x ∧ intText? x = some n) ∧ 1 ≤ n ∧ (n < 1000000 ∧ x.length ≤ 6) := by
  unfold numT at h
  cases e : tl x with
  | nil => rw [e] at h; cases h
  | cons c r =>
    rw [e] at h
    simp only at h
    by_cases q : (decide ((c :: r).length ≤ 6) && (decide (c ≠ 48) && (c :: r).all (fun c => decide (c ∈ tl figs)))) = true
    · rw [if_pos q] at h
      cases h
      rw [Bool.and_eq_true, Bool.and_eq_true] at q
      have q1 : (c :: r).length ≤ 6 := of_decide_eq_true q.1
      have q2 : c ≠ 48 := of_decide_eq_true q.2.1
      have q3 := digits_of q.2.2
      have hc := q3 c (List.mem_cons_self ..)
      have hlen : x.length = (c :: r).length := by rw [len_tl, e]
      have td := NumText.toDigits_digitsVal r.length (c :: r) rfl q3 (.inr ⟨c, r, rfl, by omega⟩)
      have back : Str.ofString (toString (((NumText.digitsVal (c :: r) : Nat) : Nat) : Int)) = x := by
        refine ext_tl ?_
        rw [tl_num]
        unfold numL
        rw [td, e, List.map_map]
        refine (List.map_congr_left fun d hd => ?_).trans (List.map_id _)
        have := q3 d hd
        show (Char.ofNat d).toNat = d
        have v : d.isValidChar := Or.inl (by omega)
        simp [Char.ofNat, v, Char.toNat, Char.ofNatAux]
      refine ⟨⟨back, ?_⟩, ?_, ?_, by omega⟩
      · have := PySem.intText_digits (x := x) (by show NumText.AllDigits (tl x); rw [e]; exact q3) (by show tl x ≠ []; rw [e]; simp) (by omega)
        rw [this]
        show some ((NumText.digitsVal (tl x) : Nat) : Int) = _
        rw [e]
      · have := NumText.digitsVal_pos (c := c) (cs := r) (by omega)
        omega
      · have lt : ∀ (l : List Nat) (a : Nat), NumText.AllDigits l → l.foldl (fun acc c => acc * 10 + (c - 48)) a < (a + 1) * 10 ^ l.length := by
          intro l
          induction l with
          | nil => intro a _; simp
          | cons d l ih =>
            intro a ha
            have hd := ha d (List.mem_cons_self ..)
            have i2 := ih (a * 10 + (d - 48)) (fun z hz => ha z (List.mem_cons_of_mem _ hz))
            rw [List.foldl_cons, List.length_cons, Nat.pow_succ]
            have m : (a * 10 + (d - 48) + 1) * 10 ^ l.length ≤ ((a + 1) * 10) * 10 ^ l.length := Nat.mul_le_mul_right _ (by omega)
            have e9 : (a + 1) * (10 ^ l.length * 10) = ((a + 1) * 10) * 10 ^ l.length := by
              rw [Nat.mul_comm (10 ^ l.length) 10, Nat.mul_assoc]
            omega
        have l1 := lt (c :: r) 0 q3
        have p6 : 10 ^ (c :: r).length ≤ 10 ^ 6 := Nat.pow_le_pow_right (by decide) q1
        have : NumText.digitsVal (c :: r) < 1000000 := by
          show (c :: r).foldl _ 0 < _
          omega
        omega
    · rw [if_neg q] at h
      cases h

/-! ### parts -/
theorem pre_one {s c : Nat} {r : List Nat} : pre [s] (c :: r) = decide (c = s) := by
  show ([c] == [s]) = decide (c = s)
  by_cases h : c = s
  · subst h
    simp
  · rw [decide_eq_false h]
    simpa using h
theorem spl_ne {s : Nat} : ∀ (l acc : List Nat), spl [s] 0 acc l ≠ []
  | [], acc => by rw [spl_nil]; simp
  | c :: r, acc => by
    by_cases h : c = s
    · rw [spl_hit (by rw [pre_one]; exact decide_eq_true h)]
      simp
    · rw [spl_miss (by rw [pre_one]; exact decide_eq_false h)]
      exact spl_ne r _
theorem joinL_cons {S p : List Nat} {L : List (List Nat)} (h : L ≠ []) : joinL S (p :: L) = p ++ (S ++ joinL S L) := by
  cases L with
  | nil => exact absurd rfl h
  | cons q r => rfl
theorem join_spl {s : Nat} : ∀ (l acc : List Nat), joinL [s] (spl [s] 0 acc l) = acc ++ l
  | [], acc => by rw [spl_nil]; show acc = acc ++ []; simp
  | c :: r, acc => by
    by_cases h : c = s
    · rw [spl_hit (by rw [pre_one]; exact decide_eq_true h)]
      show joinL [s] (acc :: spl [s] 0 [] r) = _
      rw [joinL_cons (spl_ne _ _)]
      show acc ++ ([s] ++ joinL [s] (spl [s] 0 [] r)) = _
      rw [join_spl r [], h]
      simp
    · rw [spl_miss (by rw [pre_one]; exact decide_eq_false h), join_spl r (acc ++ [c])]
      simp
theorem joinL_len {S p : List Nat} : ∀ {L : List (List Nat)}, p ∈ L → p.length ≤ (joinL S L).length
  | [], h => by simp at h
  | [q], h => by
    obtain rfl := List.mem_singleton.mp h
    exact Nat.le_refl _
  | q :: q' :: r, h => by
    show p.length ≤ (q ++ (S ++ joinL S (q' :: r))).length
    rw [List.length_append, List.length_append]
    rcases List.mem_cons.mp h with rfl | h
    · omega
    · have := joinL_len (S := S) h
      omega
theorem joinL_mem {S p : List Nat} {c : Nat} (hc : c ∈ p) : ∀ {L : List (List Nat)}, p ∈ L → c ∈ joinL S L
  | [], h => by simp at h
  | [q], h => by
    obtain rfl := List.mem_singleton.mp h
    exact hc
  | q :: q' :: r, h => by
    show c ∈ q ++ (S ++ joinL S (q' :: r))
    rcases List.mem_cons.mp h with rfl | h
    · exact List.mem_append_left _ hc
    · exact List.mem_append_right _ (List.mem_append_right _ (joinL_mem hc h))
/-- one sign as a separator -/
structure Sep (y : Str) (s : Nat) : Prop where
  tl : tl y = [s]
  low : y.cps.all (· < 256) = true
theorem Sep.spl {y : Str} {s : Nat} (h : Sep y s) (x : Str) : (Txt.split x y).map TL.tl = TL.spl [s] 0 [] (TL.tl x) := by
  rw [split_spl x y (by rw [h.tl]; simp) (kind_ok h.low), h.tl]
theorem Sep.join {y : Str} {s : Nat} (h : Sep y s) (x : Str) : joinL [s] ((Txt.split x y).map TL.tl) = TL.tl x := by
  rw [h.spl, join_spl, List.nil_append]
theorem Sep.len {y : Str} {s : Nat} (h : Sep y s) {x p : Str} (hp : p ∈ Txt.split x y) : p.length ≤ x.length := by
  have := joinL_len (S := [s]) (List.mem_map_of_mem (f := TL.tl) hp)
  rw [h.join] at this
  rw [len_tl, len_tl]
  exact this
theorem Sep.mem {y : Str} {s : Nat} (h : Sep y s) {x p : Str} (hp : p ∈ Txt.split x y) {c : Nat} (hc : c ∈ TL.tl p) : c ∈ TL.tl x := by
  have := joinL_mem (S := [s]) hc (List.mem_map_of_mem (f := TL.tl) hp)
  rw [h.join] at this
  exact this
theorem Sep.two {y : Str} {s : Nat} (h : Sep y s) {x a b : Str} (e : Txt.split x y = [a, b]) : a ++ y ++ b = x := by
  refine ext_tl ?_
  rw [← h.join x, e, tl_append, tl_append, h.tl]
  show _ = TL.tl a ++ ([s] ++ TL.tl b)
  rw [List.append_assoc]
theorem Sep.three {y : Str} {s : Nat} (h : Sep y s) {x a b c : Str} (e : Txt.split x y = [a, b, c]) : a ++ y ++ b ++ y ++ c = x := by
  refine ext_tl ?_
  rw [← h.join x, e, tl_append, tl_append, tl_append, tl_append, h.tl]
  show _ = TL.tl a ++ ([s] ++ (TL.tl b ++ ([s] ++ TL.tl c)))
  simp only [List.append_assoc]
theorem sepDot : Sep "." 46 := ⟨by decide +kernel, by decide +kernel⟩
theorem sepBlank : Sep " " 32 := ⟨by decide +kernel, by decide +kernel⟩
end K1
set_option Elab.async false
set_option linter.all false
set_option maxRecDepth 100000
set_option maxHeartbeats 400000
/-! The program's defs: number_of, name_of, line_of, name_text, line_text, words_of. -/
namespace K1
open PySem PySem.Spec PyProof.Rows L2

theorem isS_no {v : V} (e : isS v = false) : numV v = .non := by
  cases v with
  | str x => cases e
  | _ => rfl
theorem zero_txt {c : Nat} : decide (V.str ⟨#[c]⟩ = V.str "0") = decide (c = 48) := by
  have e0 : ("0" : Str) = ⟨#[48]⟩ := by decide +kernel
  rw [e0]
  by_cases h : c = 48
  · subst h
    rw [decide_eq_true rfl, decide_eq_true rfl]
  · rw [decide_eq_false h, decide_eq_false]
    intro z
    injection z with z
    injection z with z
    exact h (by simpa using z)
def nameS (x : Str) : Option (List V) := match Txt.split x "." with
  | [a, b] => if nameL (some [.str a, numV (.str b)]) then some [.str a, numV (.str b)] else none
  | _ => none
def nameV : V → Option (List V)
  | .str x => nameS x
  | _ => none
def lineS (x : Str) : Option (List V) := if x = "head" then some [.str "", .int 0, .int 0] else if x = "foot" then some [.str "", .int 0, .int 1] else match Txt.split x "." with
  | [a, b, c] => if putL (some [.str a, numV (.str b), numV (.str c)]) then some [.str a, numV (.str b), numV (.str c)] else none
  | _ => none
def lineV : V → Option (List V)
  | .str x => lineS x
  | _ => none
def wordsV : V → Option (List Str)
  | .str x => if inV (.str "") ((Txt.split x " ").map V.str) then none else some (Txt.split x " ")
  | _ => none
/-- a text is small -/
def Small (v : V) : Prop := ∀ x, v = .str x → x.length + 2 ≤ 1000000
theorem numV_th {H : Hp} (v : V) : ∃ m, Th H (numV v) m ∧ ∀ a, numV v ≠ .ref a := by
  cases v with
  | str x =>
    show ∃ m, Th H (match numT x with | some n => .int n | none => .non) m ∧ ∀ a, (match numT x with | some n => V.int n | none => .non) ≠ .ref a
    cases numT x with
    | none => exact ⟨_, .non, fun a z => by cases z⟩
    | some n => exact ⟨_, .int n, fun a z => by cases z⟩
  | _ => exact ⟨_, .non, fun a z => by cases z⟩
theorem lt_line {n : Nat} (h : n + 2 ≤ 1000000) : n + 2 ≤ sizeLine := Nat.le_trans h (by decide)
theorem le_line {n : Nat} (h : n + 2 ≤ 1000000) : n ≤ sizeLine := Nat.le_trans (Nat.le_add_right n 2) (lt_line h)
theorem atS (ws : List Str) (j : Nat) (h : j < ws.length) : atI (ws.map V.str) ((j : Nat) : Int) = some (.str ws[j]) := atI_nat (by rw [List.getElem?_map, List.getElem?_eq_getElem h]; rfl)

theorem cls_dig : ∀ c, c < 128 → Unicode.isDigit c = decide (48 ≤ c ∧ c ≤ 57) := by decide +kernel
/-- the program's two questions are one -/
theorem dig_eq (x : Str) : (Txt.isdigit x && Txt.isascii x) = (decide (0 < x.length) && (TL.tl x).all fun c => decide (c ∈ TL.tl figs)) := by
  have ea : Txt.isascii x = (TL.tl x).all (fun c => decide (c < 128)) := by unfold Txt.isascii; rw [← Array.all_toList]
  have eb : Txt.isdigit x = (decide (0 < x.length) && (TL.tl x).all Unicode.isDigit) := by unfold Txt.isdigit; rw [← Array.all_toList]
  rw [ea, eb, Bool.and_assoc]
  congr 1
  generalize TL.tl x = l
  rw [Bool.eq_iff_iff]
  simp only [Bool.and_eq_true, decide_eq_true_eq, List.all_eq_true, fig_iff]
  constructor
  · rintro ⟨h1, h2⟩ c hc
    have q := h1 c hc
    rw [cls_dig c (h2 c hc)] at q
    exact of_decide_eq_true q
  · intro h
    have h2 : ∀ c ∈ l, c < 128 := fun c hc => by have := h c hc; omega
    exact ⟨fun c hc => by rw [cls_dig c (h2 c hc)]; exact decide_eq_true (h c hc), h2⟩

section
variable {P : Program} {w : World} {K : PySem.W.Frag} {mg : Str → Option Value} {base : Heap} {T : Tp}

/-! ### number_of -/
def spNumO (T : Tp) : Sp := fun vs H Q _ => ∃ v n, vs = [v] ∧ Th H v n ∧ TG T H ∧ ∀ H', Go T D0 H H' → Q (numV v) H'
theorem ok_numO {f : Addr} {fd : FuncData} {k : Nat} (F : Fun K "number_of" "number_of" sNumO f fd) (M : Mg K mg) : FnOk P w K mg base CX0 (k + 1) f fd ["word"] (spNumO T) := by
  obtain ⟨tk, hF⟩ := M.mostF
  refine F.ok scNumO (fun vs H Q E h => ?_) (fun cdv A outer s H vs Q E hr h => ?_)
  · obtain ⟨v, n, rfl, _⟩ := h
    rfl
  · obtain ⟨v, n, rfl, th, tg, q⟩ := h
    refine ⟨_, pss_cons (ps_if (PW.pt (pw_or (pt_not (pt_val (pe_callB call_isi (by rfl) M.ins boot_isinstance (pa_cons (pv 0) (pa_cons (pe_bltn (v := .ty "str") (by rfl) M.str_ boot_str rfl) pa_nil)))))
        (pw_or (pt_cmpR op_gt (pe_callB call_len_str (by rfl) M.len_ PySem.boot_len (pa_cons (pv 0) pa_nil)) (pe_glob (v := .int 6) (by rfl) hF ⟨_, rfl⟩) (nomark _))
          (pw_or1 (pt_not (pt_val (pe_m0 PySem.F.slot_str_isdigit PySem.F.type_str_isdigit mt_isdigit (pv 0))))))))
        (pss_one (ps_ret pe_non)) pss_nil)
      (pss_cons (ps_if (PW.pt (pw_or (pt_cmpR op_eq (pe_ix ix_str (pv 0) pe_int (fun _ _ => rfl)) pe_str (nomark _))
          (pw_or1 (pt_not (pt_val (pe_m0 PySem.F.slot_str_isascii PySem.F.type_str_isascii mt_isascii (pv 0)))))))
        (pss_one (ps_ret pe_non)) pss_nil)
      (pss_one (ps_ret (pe_callTy call_int_str (by rfl) M.int_ boot_int (pa_cons (pv 0) pa_nil))))), ?_⟩
    refine ⟨v, rfl, v, .ty "str", .type n, .type "str", _, rfl, .ty _, th.ty, kit_ty th.kstr, _, rfl, ite2 (fun e => iteT ?_) (fun e => ?_)⟩
    · rw [isS_no (by simpa using e)] at q
      exact q H (Go.rfl' tg)
    · obtain ⟨x, rfl, hx⟩ := th.strOf (notnot e)
      have fin : ∀ b, numV (.str x) = b → Q b H := fun b e => e ▸ q H (Go.rfl' tg)
      have hl : x.length = (TL.tl x).length := TL.len_tl x
      have none_of : numT x = none → Q .non H := fun e => fin _ (by
        show (match numT x with | some n => V.int n | none => .non) = _
        rw [e])
      have dq := dig_eq x
      have def_ : ∀ c r, TL.tl x = c :: r → numT x = if (decide ((c :: r).length ≤ 6) && (decide (c ≠ 48) && (TL.tl x).all (fun z => decide (z ∈ TL.tl figs)))) = true then some ((NumText.digitsVal (c :: r) : Nat) : Int) else none := fun c r et => by
        unfold numT
        rw [et]
      refine ⟨.str x, rfl, x, rfl, hx, _, _, rfl, rfl, _, rfl, ite2 (fun e1 => iteT (none_of ?_)) (fun e1 => ⟨.str x, rfl, ⟨x, rfl⟩, x, rfl, rfl, trivial, _, rfl, ite2 (fun e2 => none_of ?_) (fun e2 => ?_)⟩)⟩
      · have e2 : (6 : Int) < x.length := of_decide_eq_true e1
        cases et : TL.tl x with
        | nil => unfold numT; rw [et]
        | cons c r =>
          rw [def_ c r et, decide_eq_false (p := (c :: r).length ≤ 6) (by rw [← et, ← hl]; omega), Bool.false_and, if_neg Bool.false_ne_true]
      · have e3 : Txt.isdigit x = false := by simpa using e2
        rw [e3, Bool.false_and] at dq
        cases et : TL.tl x with
        | nil => unfold numT; rw [et]
        | cons c r =>
          have h0 : x.length = r.length + 1 := by rw [hl, et]; rfl
          rw [decide_eq_true (show 0 < x.length by omega), Bool.true_and] at dq
          rw [def_ c r et, ← dq, Bool.and_false, Bool.and_false, if_neg Bool.false_ne_true]
      · have e3 : Txt.isdigit x = true := notnot e2
        rw [e3, Bool.true_and] at dq
        have e4 : ¬ (6 : Int) < x.length := of_decide_eq_false (Bool.eq_false_iff.mpr e1)
        cases et : TL.tl x with
        | nil =>
          have h0 : x.length = 0 := by rw [hl, et]; rfl
          have : Txt.isdigit x = false := by
            unfold Txt.isdigit
            rw [h0]
            rfl
          rw [e3] at this
          cases this
        | cons c r =>
          have h0 : x.length = r.length + 1 := by rw [hl, et]; rfl
          have e5 : (c :: r).length ≤ 6 := by
            show r.length + 1 ≤ 6
            omega
          refine ⟨.str x, rfl, x, 0, c, rfl, rfl, hx, atI_nat (j := 0) (by show (TL.tl x)[0]? = _; rw [et]; rfl), rfl, _, rfl, ?_⟩
          rw [zero_txt]
          refine ite2 (fun e6 => iteT (none_of ?_)) (fun e6 => ⟨.str x, rfl, ⟨x, rfl⟩, x, rfl, rfl, trivial, _, rfl, ite2 (fun e7 => none_of ?_) (fun e7 => ?_)⟩)
          · have e8 : c = 48 := of_decide_eq_true e6
            rw [def_ c r et, decide_eq_false (show ¬ (c ≠ 48) from fun z => z e8), Bool.false_and, Bool.and_false, if_neg Bool.false_ne_true]
          · have e8 : Txt.isascii x = false := by simpa using e7
            rw [e8, decide_eq_true (show 0 < x.length by omega), Bool.true_and] at dq
            rw [def_ c r et, ← dq, Bool.and_false, Bool.and_false, if_neg Bool.false_ne_true]
          · have e8 : Txt.isascii x = true := notnot e7
            rw [e8, decide_eq_true (show 0 < x.length by omega), Bool.true_and] at dq
            have e9 : c ≠ 48 := fun z => e6 (decide_eq_true z)
            have sum : numT x = some ((NumText.digitsVal (c :: r) : Nat) : Int) := by
              rw [def_ c r et, ← dq, decide_eq_true e5, decide_eq_true e9, Bool.true_and, Bool.true_and, if_pos rfl]
            obtain ⟨⟨_, ea⟩, _⟩ := numT_some sum
            refine ⟨.str x, rfl, x, _, rfl, ea, ?_, ?_⟩
            · rw [h0]
              show r.length + 1 ≤ 640
              have : r.length + 1 ≤ 6 := e5
              omega
            · refine fin _ ?_
              show (match numT x with | some n => V.int n | none => .non) = _
              rw [sum]

/-! ### name_of -/
def spNameO (T : Tp) : Sp := fun vs H Q _ => ∃ v n, vs = [v] ∧ Th H v n ∧ Small v ∧ TG T H ∧ (∀ H', Go T D0 H H' → nameV v = none → Q .non H') ∧ ∀ H' p xs, Go T D0 H H' → nameV v = some xs → SqT K H' p xs → Q (.ref p) H'
theorem ok_nameO {f : Addr} {fd : FuncData} {k : Nat} (F : Fun K "name_of" "name_of" sNameO f fd) (M : Mg K mg) (cN : Cal P w K mg base k "is_name" ["thing"] (spName T)) (cU : Cal P w K mg base k "number_of" ["word"] (spNumO T)) :
    FnOk P w K mg base CX0 (k + 1) f fd ["word"] (spNameO (K := K) T) := by
  refine F.ok scNameO (fun vs H Q E h => ?_) (fun cdv A outer s H vs Q E hr h => ?_)
  · obtain ⟨v, n, rfl, _⟩ := h
    rfl
  · obtain ⟨v, n, rfl, th, sm, tg, q0, q1⟩ := h
    refine ⟨_, pss_cons (ps_if (pt_not (pt_val (pe_callB call_isi (by rfl) M.ins boot_isinstance (pa_cons (pv 0) (pa_cons (pe_bltn (v := .ty "str") (by rfl) M.str_ boot_str rfl) pa_nil)))))
        (pss_one (ps_ret pe_non)) pss_nil)
      (pss_cons (ps_set (i := 1) scNameO.nd rfl (.inl rfl) (pe_split (pv 0) pe_str))
      (pss_cons (ps_if (pt_cmpR op_ne (pe_callB call_len_seq (by rfl) M.len_ PySem.boot_len (pa_cons (pv 1) pa_nil)) pe_int (nomark _)) (pss_one (ps_ret pe_non)) pss_nil)
      (pss_cons (ps_set (i := 2) scNameO.nd rfl (.inl rfl) (pe_tup (pa_cons (pe_ix ix_list (pv 1) pe_int (fun _ _ => rfl)) (pa_cons (pe_cal cU hr (by rfl) (pa_cons (pe_ix ix_list (pv 1) pe_int (fun _ _ => rfl)) pa_nil)) pa_nil))))
      (pss_one (ps_ret (pe_ifExp (pt_val (pe_cal cN hr (by rfl) (pa_cons (pv 2) pa_nil))) (pv 2) pe_non)))))), ?_⟩
    refine ⟨v, rfl, v, .ty "str", .type n, .type "str", _, rfl, .ty _, th.ty, kit_ty th.kstr, _, rfl, ite2 (fun e => ?_) (fun e => ?_)⟩
    · refine q0 H (Go.rfl' tg) ?_
      cases v with
      | str x => cases e
      | _ => rfl
    · obtain ⟨x, rfl, hx⟩ := th.strOf (notnot e)
      have hs := sm x rfl
      refine ⟨.str x, rfl, ⟨x, rfl⟩, x, ".", rfl, rfl, by decide +kernel, lt_line hs, fun o ho => ?_⟩
      have gO : Go T D0 H (upd H o (.lst ((Txt.split x ".").map V.str))) := (Go.rfl' tg).new ho
      generalize hH1 : upd H o (.lst ((Txt.split x ".").map V.str)) = H1 at gO ⊢
      have eo : H1 o = some (.lst ((Txt.split x ".").map V.str)) := by rw [← hH1]; exact upd_same
      have hO : SqL K H1 o ((Txt.split x ".").map V.str) := .inl (.inl eo)
      refine ⟨.ref o, rfl, o, _, rfl, .inl hO, rfl, _, rfl, ite2 (fun e1 => q0 _ gO ?_) (fun e1 => ?_)⟩
      · have e2 : ¬ (Txt.split x ".").length = 2 := by
          intro z
          rw [List.length_map, z] at e1
          exact absurd e1 (by decide)
        show nameS x = none
        unfold nameS
        split
        · rename_i a b h
          rw [h] at e2
          exact absurd rfl e2
        · rfl
      · have e3 : (((Txt.split x ".").map V.str).length : Int) = 2 := V.int.inj (of_decide_eq_true (notnot e1))
        rw [List.length_map] at e3
        obtain ⟨a, b, hab⟩ : ∃ a b, Txt.split x "." = [a, b] := by
          match hq : Txt.split x ".", e3 with
          | [a, b], _ => exact ⟨a, b, rfl⟩
          | [], h => simp at h
          | [_], h => simp at h
          | _ :: _ :: _ :: _, h => simp at h; omega
        rw [hab] at eo hO
        have la : a.length ≤ x.length := sepDot.len (by rw [hab]; simp)
        have lb : b.length ≤ x.length := sepDot.len (by rw [hab]; simp)
        refine ⟨.ref o, rfl, o, _, 0, .str a, rfl, rfl, hO, atI_nat (j := 0) rfl, .ref o, rfl, o, _, 1, .str b, rfl, rfl, hO, atI_nat (j := 1) rfl, .str b, "str", rfl, .str b (Nat.le_trans lb hx), gO.1, fun H2 g2 => ⟨by show 2 ≤ sizeLine; decide, fun t ht => ?_⟩⟩
        have g02 : Go T D0 H H2 := gO.trans g2
        have gT : Go T D0 H (upd H2 t (.tup [.str a, numV (.str b)])) := g02.new ht
        have al : ThAll (upd H2 t (.tup [.str a, numV (.str b)])) (.ref t) := by
          intro ys hy z hz
          rw [tupOf_at upd_same] at hy
          cases hy
          rcases List.mem_cons.mp hz with rfl | hz
          · exact ⟨_, .str a (Nat.le_trans la hx), fun a z => by cases z⟩
          · obtain rfl := List.mem_singleton.mp hz
            exact numV_th _
        refine ⟨.ref t, rfl, .ref t, "tuple", rfl, .tup upd_same, al, gT.1, fun H3 g3 => ⟨_, rfl, ?_⟩⟩
        rw [tupOf_at upd_same]
        have gE : Go T D0 H H3 := gT.trans g3
        have es : nameS x = if nameL (some [.str a, numV (.str b)]) then some [.str a, numV (.str b)] else none := by
          unfold nameS
          rw [hab]
        refine ite2 (fun e5 => ⟨.ref t, rfl, q1 H3 t _ gE ?_ (g3.seqT gT.1 (fun _ _ z => z) (.inl (.inl upd_same)))⟩) (fun e5 => q0 H3 gE ?_)
        · show nameS x = _
          rw [es, if_pos e5]
        · show nameS x = _
          rw [es, if_neg e5]

/-! ### line_of -/
def spLineO (T : Tp) : Sp := fun vs H Q _ => ∃ v n, vs = [v] ∧ Th H v n ∧ Small v ∧ TG T H ∧ (∀ H', Go T D0 H H' → lineV v = none → Q .non H') ∧ ∀ H' p xs, Go T D0 H H' → lineV v = some xs → SqT K H' p xs → Q (.ref p) H'
theorem ok_lineO {f : Addr} {fd : FuncData} {k : Nat} (F : Fun K "line_of" "line_of" sLineO f fd) (M : Mg K mg) (cN : Cal P w K mg base k "is_put_line" ["thing"] (spPut T)) (cU : Cal P w K mg base k "number_of" ["word"] (spNumO T)) :
    FnOk P w K mg base CX0 (k + 1) f fd ["word"] (spLineO (K := K) T) := by
  obtain ⟨aH, mH, sH⟩ := M.hd
  obtain ⟨aF, mF, sF⟩ := M.ft
  refine F.ok scLineO (fun vs H Q E h => ?_) (fun cdv A outer s H vs Q E hr h => ?_)
  · obtain ⟨v, n, rfl, _⟩ := h
    rfl
  · obtain ⟨v, n, rfl, th, sm, tg, q0, q1⟩ := h
    refine ⟨_, pss_cons (ps_if (pt_not (pt_val (pe_callB call_isi (by rfl) M.ins boot_isinstance (pa_cons (pv 0) (pa_cons (pe_bltn (v := .ty "str") (by rfl) M.str_ boot_str rfl) pa_nil)))))
        (pss_one (ps_ret pe_non)) pss_nil)
      (pss_cons (ps_if (pt_cmpR op_eq (pv 0) pe_str (nomark _)) (pss_one (ps_ret (pe_glob (v := .ref aH) (by rfl) mH rfl))) pss_nil)
      (pss_cons (ps_if (pt_cmpR op_eq (pv 0) pe_str (nomark _)) (pss_one (ps_ret (pe_glob (v := .ref aF) (by rfl) mF rfl))) pss_nil)
      (pss_cons (ps_set (i := 1) scLineO.nd rfl (.inl rfl) (pe_split (pv 0) pe_str))
      (pss_cons (ps_if (pt_cmpR op_ne (pe_callB call_len_seq (by rfl) M.len_ PySem.boot_len (pa_cons (pv 1) pa_nil)) pe_int (nomark _)) (pss_one (ps_ret pe_non)) pss_nil)
      (pss_cons (ps_set (i := 2) scLineO.nd rfl (.inl rfl) (pe_tup (pa_cons (pe_ix ix_list (pv 1) pe_int (fun _ _ => rfl)) (pa_cons (pe_cal cU hr (by rfl) (pa_cons (pe_ix ix_list (pv 1) pe_int (fun _ _ => rfl)) pa_nil)) (pa_cons (pe_cal cU hr (by rfl) (pa_cons (pe_ix ix_list (pv 1) pe_int (fun _ _ => rfl)) pa_nil)) pa_nil)))))
      (pss_one (ps_ret (pe_ifExp (pt_val (pe_cal cN hr (by rfl) (pa_cons (pv 2) pa_nil))) (pv 2) pe_non)))))))), ?_⟩
    refine ⟨v, rfl, v, .ty "str", .type n, .type "str", _, rfl, .ty _, th.ty, kit_ty th.kstr, _, rfl, ite2 (fun e => ?_) (fun e => ?_)⟩
    · refine q0 H (Go.rfl' tg) ?_
      cases v with
      | str x => cases e
      | _ => rfl
    · obtain ⟨x, rfl, hx⟩ := th.strOf (notnot e)
      have hs := sm x rfl
      have g0 : Go T D0 H H := Go.rfl' tg
      refine ⟨.str x, rfl, rfl, _, rfl, ite2 (fun e1 => ?_) (fun e1 => ?_)⟩
      · have e2 : x = "head" := V.str.inj (of_decide_eq_true e1)
        refine q1 H aH _ g0 ?_ (sH H)
        show lineS x = _
        unfold lineS
        rw [if_pos e2]
      have n1 : ¬ x = "head" := fun z => e1 (decide_eq_true (congrArg V.str z))
      refine ⟨.str x, rfl, rfl, _, rfl, ite2 (fun e1 => ?_) (fun e1 => ?_)⟩
      · have e2 : x = "foot" := V.str.inj (of_decide_eq_true e1)
        refine q1 H aF _ g0 ?_ (sF H)
        show lineS x = _
        unfold lineS
        rw [if_neg n1, if_pos e2]
      have n2 : ¬ x = "foot" := fun z => e1 (decide_eq_true (congrArg V.str z))
      refine ⟨.str x, rfl, ⟨x, rfl⟩, x, ".", rfl, rfl, by decide +kernel, lt_line hs, fun o ho => ?_⟩
      have gO : Go T D0 H (upd H o (.lst ((Txt.split x ".").map V.str))) := (Go.rfl' tg).new ho
      generalize hH1 : upd H o (.lst ((Txt.split x ".").map V.str)) = H1 at gO ⊢
      have eo : H1 o = some (.lst ((Txt.split x ".").map V.str)) := by rw [← hH1]; exact upd_same
      have hO : SqL K H1 o ((Txt.split x ".").map V.str) := .inl (.inl eo)
      refine ⟨.ref o, rfl, o, _, rfl, .inl hO, rfl, _, rfl, ite2 (fun e1 => q0 _ gO ?_) (fun e1 => ?_)⟩
      · have e2 : ¬ (Txt.split x ".").length = 3 := by
          intro z
          rw [List.length_map, z] at e1
          exact absurd e1 (by decide)
        show lineS x = none
        unfold lineS
        rw [if_neg n1, if_neg n2]
        split
        · rename_i a b c h
          rw [h] at e2
          exact absurd rfl e2
        · rfl
      · have e3 : (((Txt.split x ".").map V.str).length : Int) = 3 := V.int.inj (of_decide_eq_true (notnot e1))
        rw [List.length_map] at e3
        obtain ⟨a, b, c, hab⟩ : ∃ a b c, Txt.split x "." = [a, b, c] := by
          match hq : Txt.split x ".", e3 with
          | [a, b, c], _ => exact ⟨a, b, c, rfl⟩
          | [], h => simp at h
          | [_], h => simp at h
          | [_, _], h => simp at h
          | _ :: _ :: _ :: _ :: _, h => simp at h; omega
        rw [hab] at eo hO
        have la : a.length ≤ x.length := sepDot.len (by rw [hab]; simp)
        have lb : b.length ≤ x.length := sepDot.len (by rw [hab]; simp)
        have lc : c.length ≤ x.length := sepDot.len (by rw [hab]; simp)
        refine ⟨.ref o, rfl, o, _, 0, .str a, rfl, rfl, hO, atI_nat (j := 0) rfl, .ref o, rfl, o, _, 1, .str b, rfl, rfl, hO, atI_nat (j := 1) rfl, .str b, "str", rfl, .str b (Nat.le_trans lb hx), gO.1, fun H2 g2 => ?_⟩
        have hO2 := g2.seqL gO.1 (fun _ _ z => z) hO
        have g02 : Go T D0 H H2 := gO.trans g2
        refine ⟨.ref o, rfl, o, _, 2, .str c, rfl, rfl, hO2, atI_nat (j := 2) rfl, .str c, "str", rfl, .str c (Nat.le_trans lc hx), g02.1, fun H2' g2' => ⟨by show 3 ≤ sizeLine; decide, fun t ht => ?_⟩⟩
        have gT : Go T D0 H (upd H2' t (.tup [.str a, numV (.str b), numV (.str c)])) := (g02.trans g2').new ht
        have al : ThAll (upd H2' t (.tup [.str a, numV (.str b), numV (.str c)])) (.ref t) := by
          intro ys hy z hz
          rw [tupOf_at upd_same] at hy
          cases hy
          rcases List.mem_cons.mp hz with rfl | hz
          · exact ⟨_, .str a (Nat.le_trans la hx), fun a z => by cases z⟩
          rcases List.mem_cons.mp hz with rfl | hz
          · exact numV_th _
          · obtain rfl := List.mem_singleton.mp hz
            exact numV_th _
        refine ⟨.ref t, rfl, .ref t, "tuple", rfl, .tup upd_same, al, gT.1, fun H3 g3 => ⟨_, rfl, ?_⟩⟩
        rw [tupOf_at upd_same]
        have gE : Go T D0 H H3 := gT.trans g3
        have es : lineS x = if putL (some [.str a, numV (.str b), numV (.str c)]) then some [.str a, numV (.str b), numV (.str c)] else none := by
          unfold lineS
          rw [if_neg n1, if_neg n2, hab]
        refine ite2 (fun e5 => ⟨.ref t, rfl, q1 H3 t _ gE ?_ (g3.seqT gT.1 (fun _ _ z => z) (.inl (.inl upd_same)))⟩) (fun e5 => q0 H3 gE ?_)
        · show lineS x = _
          rw [es, if_pos e5]
        · show lineS x = _
          rw [es, if_neg e5]

/-! ### words_of -/
def spWordsO (T : Tp) : Sp := fun vs H Q _ => ∃ v n, vs = [v] ∧ Th H v n ∧ Small v ∧ TG T H ∧ (∀ H', Go T D0 H H' → wordsV v = none → Q .non H') ∧ ∀ H' p ws, Go T D0 H H' → H p = none → wordsV v = some ws → H' p = some (.lst (ws.map V.str)) → Q (.ref p) H'
theorem ok_wordsO {f : Addr} {fd : FuncData} {k : Nat} (F : Fun K "words_of" "words_of" sWordsO f fd) (M : Mg K mg) : FnOk P w K mg base CX0 (k + 1) f fd ["row"] (spWordsO T) := by
  refine F.ok scWordsO (fun vs H Q E h => ?_) (fun cdv A outer s H vs Q E hr h => ?_)
  · obtain ⟨v, n, rfl, _⟩ := h
    rfl
  · obtain ⟨v, n, rfl, th, sm, tg, q0, q1⟩ := h
    refine ⟨_, pss_cons (ps_if (pt_not (pt_val (pe_callB call_isi (by rfl) M.ins boot_isinstance (pa_cons (pv 0) (pa_cons (pe_bltn (v := .ty "str") (by rfl) M.str_ boot_str rfl) pa_nil)))))
        (pss_one (ps_ret pe_non)) pss_nil)
      (pss_cons (ps_set (i := 1) scWordsO.nd rfl (.inl rfl) (pe_split (pv 0) pe_str))
      (pss_one (ps_ret (pe_ifExp (pt_cmpR op_in_seq pe_str (pv 1) (by rfl)) pe_non (pv 1))))), ?_⟩
    refine ⟨v, rfl, v, .ty "str", .type n, .type "str", _, rfl, .ty _, th.ty, kit_ty th.kstr, _, rfl, ite2 (fun e => ?_) (fun e => ?_)⟩
    · refine q0 H (Go.rfl' tg) ?_
      cases v with
      | str x => cases e
      | _ => rfl
    · obtain ⟨x, rfl, hx⟩ := th.strOf (notnot e)
      have hs := sm x rfl
      refine ⟨.str x, rfl, ⟨x, rfl⟩, x, " ", rfl, rfl, by decide +kernel, lt_line hs, fun o ho => ?_⟩
      have gO : Go T D0 H (upd H o (.lst ((Txt.split x " ").map V.str))) := (Go.rfl' tg).new ho
      have allF : ∀ ws : List Str, (ws.map V.str).all flatV = true := fun ws => by
        rw [List.all_map]
        exact List.all_eq_true.mpr fun _ _ => rfl
      refine ⟨.ref o, rfl, o, _, rfl, .inl (.inl (.inl upd_same)), rfl, allF _, _, rfl, ite2 (fun e1 => q0 _ gO ?_) (fun e1 => ⟨.ref o, rfl, q1 _ o _ gO ho ?_ upd_same⟩)⟩
      · show (if inV (.str "") ((Txt.split x " ").map V.str) then none else _) = _
        exact if_pos e1
      · show (if inV (.str "") ((Txt.split x " ").map V.str) then none else _) = _
        exact if_neg e1

/-! ### name_text, line_text -/
theorem len_num {i : Int} (h0 : 0 ≤ i) (h1 : i < 1000000) : (Str.ofString (toString i)).length ≤ 10 := by
  obtain ⟨n, rfl⟩ := Int.eq_ofNat_of_zero_le h0
  rw [TL.len_tl, TL.tl_num]
  unfold TL.numL
  rw [List.length_map]
  exact Nat.le_trans (PyProof.Rows.digits10_le (k := 6) (by omega) (by omega)) (by omega)
theorem log_small {i : Int} (h0 : 0 ≤ i) (h1 : i < 1000000) : i.natAbs.log2 < 1920 := by
  by_cases z : i.natAbs = 0
  · rw [z]
    decide
  · have : i.natAbs.log2 < 20 := (Nat.log2_lt z).mpr (by omega)
    omega
def spNameT (K : PySem.W.Frag) : Sp := fun vs H Q _ => ∃ p a i, vs = [.ref p] ∧ SqT K H p [.str a, .int i] ∧ a.length ≤ 1000000 ∧ 0 ≤ i ∧ i < 1000000 ∧ Q (.str (a ++ "." ++ Str.ofString (toString i))) H
theorem empty_app (a : Str) : Str.empty ++ a = a := TL.ext_tl (by rw [TL.tl_append]; rfl)
theorem ok_nameT {f : Addr} {fd : FuncData} {k : Nat} (F : Fun K "name_text" "name_text" sNameT f fd) : FnOk P w K mg base CX0 (k + 1) f fd ["name"] (spNameT K) := by
  refine F.ok scNameT (fun vs H Q E h => ?_) (fun cdv A outer s H vs Q E hr h => ?_)
  · obtain ⟨p, a, i, rfl, _⟩ := h
    rfl
  · obtain ⟨p, a, i, rfl, hS, ha, h0, h1, q⟩ := h
    refine ⟨_, pss_cons (ps_asg (pv 0) (pg_tup (by rfl) (pgs_cons (pg_name (i := 1) scNameT.nd rfl (.inl rfl)) (pgs_cons (pg_name (i := 2) scNameT.nd rfl (.inl rfl)) pgs_nil))))
      (pss_one (ps_ret (pe_joined (.cons (pe_fmt (pv 1)) (.cons pe_str (.cons (pe_fmt (pv 2)) .nil)))))), ?_⟩
    have hn := len_num h0 h1
    have l1 : (Str.empty ++ a).length ≤ 1000000 := by rw [empty_app]; exact ha
    have big : 2000000 ≤ sizeLine := by decide
    refine ⟨.ref p, rfl, p, _, rfl, hS, rfl, .str a, [.int i], rfl, .int i, [], rfl, rfl, .str a, rfl, .inl ⟨a, rfl, by omega, a, rfl, by omega, ".", rfl, ?_, .int i, rfl, .inr ⟨i, rfl, log_small h0 h1, Str.ofString (toString i), rfl, ?_, ?_⟩⟩⟩
    · rw [empty_app, TL.len_tl, TL.tl_append, List.length_append, ← TL.len_tl]
      have : (TL.tl ".").length = 1 := by decide +kernel
      omega
    · rw [empty_app, TL.len_tl, TL.tl_append, TL.tl_append, List.length_append, List.length_append, ← TL.len_tl, ← TL.len_tl (Str.ofString (toString i))]
      have : (TL.tl ".").length = 1 := by decide +kernel
      omega
    · rw [empty_app]
      exact q

def lineTxt (xs : List V) : Option Str := match xs with
  | [.str a, .int i, .int j] => if xs = [.str "", .int 0, .int 0] then some "head" else if xs = [.str "", .int 0, .int 1] then some "foot" else some (a ++ "." ++ Str.ofString (toString i) ++ "." ++ Str.ofString (toString j))
  | _ => none
def spLineT (K : PySem.W.Frag) : Sp := fun vs H Q _ => ∃ p a i j, vs = [.ref p] ∧ SqT K H p [.str a, .int i, .int j] ∧ PyData.strOk a = true ∧ a.length ≤ 1000000 ∧ 0 ≤ i ∧ i < 1000000 ∧ 0 ≤ j ∧ j < 1000000 ∧
  ∀ z, lineTxt [.str a, .int i, .int j] = some z → Q (.str z) H
theorem eqv_line {a b : Str} {i j k l : Int} : PyData.eqv (.tuple [.str a, .int i, .int j]) (.tuple [.str b, .int k, .int l]) = decide ([V.str a, .int i, .int j] = [.str b, .int k, .int l]) := by
  show (a == b && (i == k && (j == l && true))) = _
  by_cases h : [V.str a, .int i, .int j] = [.str b, .int k, .int l]
  · rw [decide_eq_true h]
    cases h
    simp
  · rw [decide_eq_false h]
    by_cases h1 : a = b
    · by_cases h2 : i = k
      · by_cases h3 : j = l
        · exact absurd (by rw [h1, h2, h3]) h
        · simp [h3]
      · simp [h2]
    · simp [h1]
theorem ok_lineT {f : Addr} {fd : FuncData} {k : Nat} (F : Fun K "line_text" "line_text" sLineT f fd) (M : Mg K mg) : FnOk P w K mg base CX0 (k + 1) f fd ["line"] (spLineT K) := by
  obtain ⟨aH, mH, sH⟩ := M.hd
  obtain ⟨aF, mF, sF⟩ := M.ft
  refine F.ok scLineT (fun vs H Q E h => ?_) (fun cdv A outer s H vs Q E hr h => ?_)
  · obtain ⟨p, a, i, j, rfl, _⟩ := h
    rfl
  · obtain ⟨p, a, i, j, rfl, hS, ok, ha, h0, h1, h2, h3, q⟩ := h
    refine ⟨_, pss_cons (ps_if (pt_cmpR (op_eqD hr.units) (pv 0) (pe_glob (v := .ref aH) (by rfl) mH rfl) (nomark _)) (pss_one (ps_ret pe_str)) pss_nil)
      (pss_cons (ps_if (pt_cmpR (op_eqD hr.units) (pv 0) (pe_glob (v := .ref aF) (by rfl) mF rfl) (nomark _)) (pss_one (ps_ret pe_str)) pss_nil)
      (pss_cons (ps_asg (pv 0) (pg_tup (by rfl) (pgs_cons (pg_name (i := 1) scLineT.nd rfl (.inl rfl)) (pgs_cons (pg_name (i := 2) scLineT.nd rfl (.inl rfl)) (pgs_cons (pg_name (i := 3) scLineT.nd rfl (.inl rfl)) pgs_nil)))))
      (pss_one (ps_ret (pe_joined (.cons (pe_fmt (pv 1)) (.cons pe_str (.cons (pe_fmt (pv 2)) (.cons pe_str (.cons (pe_fmt (pv 3)) .nil)))))))))), ?_⟩
    have okL : [V.str a, .int i, .int j].all okV = true := by
      show (PyData.strOk a && true) = true
      rw [ok] <;> rfl
    have dL : Dp K H (.ref p) (.tuple [.str a, .int i, .int j]) := dp_tup hS okL
    have shL : SeqAt.shaped (.tuple [.str a, .int i, .int j]) = true := sh_tup (xs := [.str a, .int i, .int j]) okL
    refine ⟨.ref p, rfl, _, _, dL, dp_tup (sH H) (by decide +kernel), shL, by decide +kernel, ?_⟩
    show ∃ k, V.bl (PyData.eqv (.tuple [.str a, .int i, .int j]) (.tuple [.str "", .int 0, .int 0])) = .bl k ∧ _
    refine ⟨_, rfl, ?_⟩
    rw [eqv_line]
    refine ite2 (fun e => q _ ?_) (fun e => ?_)
    · show (if [V.str a, .int i, .int j] = [.str "", .int 0, .int 0] then _ else _) = _
      exact if_pos (of_decide_eq_true e)
    have n1 : ¬ [V.str a, .int i, .int j] = [.str "", .int 0, .int 0] := fun z => e (decide_eq_true z)
    refine ⟨.ref p, rfl, _, _, dL, dp_tup (sF H) (by decide +kernel), shL, by decide +kernel, ?_⟩
    show ∃ k, V.bl (PyData.eqv (.tuple [.str a, .int i, .int j]) (.tuple [.str "", .int 0, .int 1])) = .bl k ∧ _
    refine ⟨_, rfl, ?_⟩
    rw [eqv_line]
    refine ite2 (fun e => q _ ?_) (fun e => ?_)
    · show (if [V.str a, .int i, .int j] = [.str "", .int 0, .int 0] then _ else if [V.str a, .int i, .int j] = [.str "", .int 0, .int 1] then _ else _) = _
      rw [if_neg n1, if_pos (of_decide_eq_true e)]
    have n2 : ¬ [V.str a, .int i, .int j] = [.str "", .int 0, .int 1] := fun z => e (decide_eq_true z)
    have hi := len_num h0 h1
    have hj := len_num h2 h3
    have big : 2000000 ≤ sizeLine := by decide
    have dot : (TL.tl ".").length = 1 := by decide +kernel
    have la : (TL.tl a).length ≤ 1000000 := by rw [← TL.len_tl]; exact ha
    have li : (TL.tl (Str.ofString (toString i))).length ≤ 10 := by rw [← TL.len_tl]; exact hi
    have lj : (TL.tl (Str.ofString (toString j))).length ≤ 10 := by rw [← TL.len_tl]; exact hj
    refine ⟨.ref p, rfl, p, _, rfl, hS, rfl, .str a, [.int i, .int j], rfl, .int i, [.int j], rfl, .int j, [], rfl, rfl, .str a, rfl, .inl ⟨a, rfl, by omega, a, rfl, ?_, ".", rfl, ?_, .int i, rfl, .inr ⟨i, rfl, log_small h0 h1, Str.ofString (toString i), rfl, ?_, ".", rfl, ?_, .int j, rfl, .inr ⟨j, rfl, log_small h2 h3, Str.ofString (toString j), rfl, ?_, ?_⟩⟩⟩⟩
    iterate 5
      · rw [empty_app]
        simp only [TL.len_tl, TL.tl_append, List.length_append]
        omega
    · rw [empty_app]
      refine q _ ?_
      show (if [V.str a, .int i, .int j] = [.str "", .int 0, .int 0] then _ else if [V.str a, .int i, .int j] = [.str "", .int 0, .int 1] then _ else _) = _
      rw [if_neg n1, if_neg n2]
end
end K1
set_option Elab.async false
set_option linter.all false
set_option maxRecDepth 100000
set_option maxHeartbeats 4000000
/-! The program's defs: is_triple, is_end. -/
namespace K1
open PySem PySem.Spec PyProof.Rows L2

def triL : Option (List V) → Bool
  | some [p, q, r] => (isI q && isI r) && isS p
  | _ => false
theorem triL_len {xs : List V} (h : ¬ xs.length = 3) : triL (some xs) = false := by
  match xs with
  | [] => rfl
  | [_] => rfl
  | [_, _] => rfl
  | [_, _, _] => exact absurd rfl h
  | _ :: _ :: _ :: _ :: _ => rfl
/-- the texts of a tuple are texts -/
def StAll (o : Option (List V)) : Prop := ∀ xs, o = some xs → ∀ x, V.str x ∈ xs → PyData.strOk x = true
theorem endL_line (a : Str) (i j : Int) : endL (some [V.str a, .int i, .int j]) = (decide ([V.str a, .int i, .int j] = [.str "", .int 0, .int 0]) || decide ([V.str a, .int i, .int j] = [.str "", .int 0, .int 1])) := by
  show ((decide (V.str a = .str "") && (decide (0 ≤ i) && decide (i ≤ 0))) && (decide (0 ≤ j) && decide (j ≤ 1))) = _
  rw [Bool.eq_iff_iff]
  simp only [Bool.and_eq_true, Bool.or_eq_true, decide_eq_true_eq, List.cons.injEq, V.int.injEq, and_true]
  constructor
  · rintro ⟨⟨h1, h2, h3⟩, h4, h5⟩
    by_cases z : j = 0
    · exact .inl ⟨h1, by omega, z⟩
    · exact .inr ⟨h1, by omega, by omega⟩
  · rintro (⟨h1, h2, h3⟩ | ⟨h1, h2, h3⟩)
    · exact ⟨⟨h1, by omega, by omega⟩, by omega, by omega⟩
    · exact ⟨⟨h1, by omega, by omega⟩, by omega, by omega⟩
theorem endL_no {xs : List V} (h : triL (some xs) = false) : endL (some xs) = false := by
  match xs with
  | [] => rfl
  | [_] => rfl
  | [_, _] => rfl
  | _ :: _ :: _ :: _ :: _ => rfl
  | [p, q, r] =>
    have h' : ((isI q && isI r) && isS p) = false := h
    show ((decide (p = .str "") && amgV q 0 0) && amgV r 0 1) = false
    cases e1 : isI q with
    | false => rw [amgV_no e1, Bool.and_false, Bool.false_and]
    | true =>
      cases e2 : isI r with
      | false => rw [amgV_no e2, Bool.and_false]
      | true =>
        rw [e1, e2] at h'
        have e3 : decide (p = .str "") = false := by
          refine decide_eq_false fun z => ?_
          rw [z] at h'
          cases h'
        rw [e3, Bool.false_and, Bool.false_and]
theorem endL_none (h : triL none = false) : endL none = false := rfl

section
variable {P : Program} {w : World} {K : PySem.W.Frag} {mg : Str → Option Value} {base : Heap} {T : Tp}
/-! ### is_triple -/
def spTriple : Sp := fun vs H Q _ => ∃ v n, vs = [v] ∧ Th H v n ∧ ThAll H v ∧ Q (.bl (triL (tupOf H v))) H
theorem flat_b {r : V} (h : isI r = true) (b : Bool) : flatV r = true ∧ decide (r = .bl b) = false := by
  cases r with
  | int i => exact ⟨rfl, decide_eq_false fun z => by cases z⟩
  | _ => cases h
theorem flat_n {r : V} (h : (isI r || isB r) = true) : flatV r = true ∧ (isI r = true ∨ r = .bl true ∨ r = .bl false) := by
  cases r with
  | int i => exact ⟨rfl, .inl rfl⟩
  | bl b => cases b <;> exact ⟨rfl, by simp⟩
  | _ => cases h
theorem ok_triple {f : Addr} {fd : FuncData} {k : Nat} (F : Fun K "is_triple" "is_triple" sIsTriple f fd) (M : Mg K mg) :
    FnOk P w K mg base CX0 (k + 1) f fd ["thing"] spTriple := by
  refine F.ok scIsTriple (fun vs H Q E h => ?_) (fun cdv A outer s H vs Q E hr h => ?_)
  · obtain ⟨v, n, rfl, _⟩ := h
    rfl
  · obtain ⟨v, n, rfl, th, al, q⟩ := h
    refine ⟨_, pss_cons (ps_if (PW.pt (pw_or (pt_not (pt_val (pe_callB call_isi (by rfl) M.ins boot_isinstance (pa_cons (pv 0) (pa_cons (pe_bltn (v := .ty "tuple") (by rfl) M.tuple_ (by decide +kernel) rfl) pa_nil)))))
        (pw_or1 (pt_cmpR op_ne (pe_callB call_len_seq (by rfl) M.len_ PySem.boot_len (pa_cons (pv 0) pa_nil)) pe_int (nomark _)))))
        (pss_one (ps_ret pe_bl)) pss_nil)
      (pss_cons (ps_asg (pv 0) (pg_tup (by rfl) (pgs_cons (pg_name (i := 1) scIsTriple.nd rfl (.inl rfl)) (pgs_cons (pg_name (i := 2) scIsTriple.nd rfl (.inl rfl)) (pgs_cons (pg_name (i := 3) scIsTriple.nd rfl (.inl rfl)) pgs_nil)))))
      (pss_cons (ps_if (PW.pt (pw_or (pt_not (pt_val (pe_callB call_isi (by rfl) M.ins boot_isinstance (pa_cons (pv 2) (pa_cons (pe_bltn (v := .ty "int") (by rfl) M.int_ boot_int rfl) pa_nil)))))
          (pw_or (pt_not (pt_val (pe_callB call_isi (by rfl) M.ins boot_isinstance (pa_cons (pv 3) (pa_cons (pe_bltn (v := .ty "int") (by rfl) M.int_ boot_int rfl) pa_nil)))))
          (pw_or1 (pt_not (pt_val (pe_callB call_isi (by rfl) M.ins boot_isinstance (pa_cons (pv 1) (pa_cons (pe_bltn (v := .ty "str") (by rfl) M.str_ boot_str rfl) pa_nil)))))))))
        (pss_one (ps_ret pe_bl)) pss_nil)
      (pss_one (ps_ret (pe_and (pe_cmpR op_isnotB (pv 2) pe_bl (nomark _)) (pe_and (pe_cmpR op_isnotB (pv 2) pe_bl (nomark _)) (pe_and (pe_cmpR op_isnotB (pv 3) pe_bl (nomark _)) (pe_one (pe_cmpR op_isnotB (pv 3) pe_bl (nomark _)))))))))), ?_⟩
    refine ⟨v, rfl, v, .ty "tuple", .type n, .type "tuple", _, rfl, .ty _, th.ty, kit_ty th.ktup, _, rfl, ite2 (fun e => iteT ?_) (fun e => ?_)⟩
    · have e2 : tupOf H v = none := by simpa using e
      rw [e2] at q
      exact q
    · obtain ⟨a, xs, rfl, hx, et⟩ := tupOf_inv (notnot e)
      rw [et] at q
      have hS : SqT K H a xs := .inl (.inl hx)
      refine ⟨.ref a, rfl, a, xs, rfl, .inr hS, rfl, _, rfl, ite2 (fun e1 => ?_) (fun e1 => ?_)⟩
      · have e2 : ¬ xs.length = 3 := by
          intro z
          rw [z] at e1
          exact absurd e1 (by decide)
        rw [triL_len e2] at q
        exact q
      · have e2 : (xs.length : Int) = 3 := by
          have e3 : decide (V.int (xs.length : Int) = V.int 3) = true := by simpa using e1
          exact V.int.inj (of_decide_eq_true e3)
        obtain ⟨p, r, l, rfl⟩ := len3 (xs := xs) (by omega)
        obtain ⟨mp, tp, m'p⟩ := al _ et p (by simp)
        obtain ⟨mr, tr, m'r⟩ := al _ et r (by simp)
        obtain ⟨ml, tl, m'l⟩ := al _ et l (by simp)
        have fin : ∀ b, ((isI r && isI l) && isS p) = b → Q (.bl b) H := fun b e => by
          have q2 : Q (.bl ((isI r && isI l) && isS p)) H := q
          rw [e] at q2
          exact q2
        have nI : ∀ {r : V}, ¬ (isI r || isB r) = true → isI r = false := fun {r} h => by
          cases r with
          | int i => exact absurd rfl h
          | _ => rfl
        refine ⟨.ref a, rfl, a, _, rfl, hS, rfl, p, [r, l], rfl, r, [l], rfl, l, [], rfl, rfl, r, rfl, r, .ty "int", .type mr, .type "int", _, rfl, .ty _, tr.ty, kit_ty tr.kint, _, rfl, ite2 (fun e3 => iteT (fin _ ?_)) (fun e3 => ?_)⟩
        · rw [nI (fun z => by rw [z] at e3; cases e3), Bool.false_and, Bool.false_and]
        · obtain ⟨fr, hr'⟩ := flat_n (notnot e3)
          refine ⟨l, rfl, l, .ty "int", .type ml, .type "int", _, rfl, .ty _, tl.ty, kit_ty tl.kint, _, rfl, ite2 (fun e4 => iteT (fin _ ?_)) (fun e4 => ?_)⟩
          · rw [nI (r := l) (fun z => by rw [z] at e4; cases e4), Bool.and_false, Bool.false_and]
          · obtain ⟨fl, hl'⟩ := flat_n (notnot e4)
            refine ⟨p, rfl, p, .ty "str", .type mp, .type "str", _, rfl, .ty _, tp.ty, kit_ty tp.kstr, _, rfl, ite2 (fun e5 => fin _ ?_) (fun e5 => ?_)⟩
            · have e6 : isS p = false := by simpa using e5
              rw [e6, Bool.and_false]
            · have e6 : isS p = true := notnot e5
              refine ⟨r, rfl, true, fr, rfl, _, rfl, ite2 (fun e7 => ⟨r, rfl, false, fr, rfl, _, rfl, ite2 (fun e8 => ⟨l, rfl, true, fl, rfl, _, rfl, ite2 (fun e9 => ⟨l, rfl, false, fl, rfl, ?_⟩) (fun e9 => fin _ ?_)⟩) (fun e8 => fin _ ?_)⟩) (fun e7 => fin _ ?_)⟩
              · have ir : isI r = true := by
                  rcases hr' with h | rfl | rfl
                  · exact h
                  · exact absurd e7 (by decide)
                  · exact absurd e8 (by decide)
                rcases hl' with h | rfl | rfl
                · rw [(flat_b h false).2]
                  exact fin _ (by rw [ir, h, e6] <;> rfl)
                · exact absurd e9 (by decide)
                · exact fin _ (by rw [ir] <;> rfl)
              · rcases hl' with h | rfl | rfl
                · rw [(flat_b h true).2] at e9
                  exact absurd rfl e9
                · show ((isI r && false) && isS p) = false
                  rw [Bool.and_false, Bool.false_and]
                · show ((isI r && false) && isS p) = false
                  rw [Bool.and_false, Bool.false_and]
              · rcases hr' with h | rfl | rfl
                · rw [(flat_b h false).2] at e8
                  exact absurd rfl e8
                · rfl
                · rfl
              · rcases hr' with h | rfl | rfl
                · rw [(flat_b h true).2] at e7
                  exact absurd rfl e7
                · rfl
                · rfl

/-! ### is_end -/
def spEnd : Sp := fun vs H Q _ => ∃ v n, vs = [v] ∧ Th H v n ∧ ThAll H v ∧ StAll (tupOf H v) ∧ Q (.bl (endL (tupOf H v))) H
theorem ok_end {f : Addr} {fd : FuncData} {k : Nat} (F : Fun K "is_end" "is_end" sEnd f fd) (M : Mg K mg) (cT : Cal P w K mg base k "is_triple" ["thing"] spTriple) :
    FnOk P w K mg base CX0 (k + 1) f fd ["thing"] spEnd := by
  obtain ⟨aH, mH, sH⟩ := M.hd
  obtain ⟨aF, mF, sF⟩ := M.ft
  refine F.ok scEnd (fun vs H Q E h => ?_) (fun cdv A outer s H vs Q E hr h => ?_)
  · obtain ⟨v, n, rfl, _⟩ := h
    rfl
  · obtain ⟨v, n, rfl, th, al, st, q⟩ := h
    refine ⟨_, pss_one (ps_ret (pe_and (pe_cal cT hr (by rfl) (pa_cons (pv 0) pa_nil)) (pe_one (pe_or (pe_cmpR (op_eqD hr.units) (pv 0) (pe_glob (v := .ref aH) (by rfl) mH rfl) (nomark _)) (pe_one (pe_cmpR (op_eqD hr.units) (pv 0) (pe_glob (v := .ref aF) (by rfl) mF rfl) (nomark _))))))), ?_⟩
    refine ⟨v, rfl, v, n, rfl, th, al, _, rfl, ite2 (fun e => ?_) (fun e => ?_)⟩
    · obtain ⟨a, xs, rfl, hx, et⟩ := tupOf_inv (v := v) (H := H) (by cases z : tupOf H v with | none => rw [z] at e; cases e | some _ => rfl)
      rw [et] at q e st
      have hS : SqT K H a xs := .inl (.inl hx)
      have e3 : xs.length = 3 := Classical.byContradiction fun z => by
        rw [triL_len z] at e
        cases e
      obtain ⟨p, r, l, rfl⟩ := len3 e3
      have e' : ((isI r && isI l) && isS p) = true := e
      rw [Bool.and_eq_true, Bool.and_eq_true] at e'
      obtain ⟨i, rfl⟩ := intOf e'.1.1
      obtain ⟨j, rfl⟩ := intOf e'.1.2
      obtain ⟨x, rfl⟩ := strOfV e'.2
      have ok : PyData.strOk x = true := st _ rfl x (by simp)
      have okL : [V.str x, .int i, .int j].all okV = true := by
        show (PyData.strOk x && true) = true
        rw [ok] <;> rfl
      have dL : Dp K H (.ref a) (.tuple [.str x, .int i, .int j]) := dp_tup hS okL
      have shL : SeqAt.shaped (.tuple [.str x, .int i, .int j]) = true := sh_tup (xs := [.str x, .int i, .int j]) okL
      rw [endL_line] at q
      refine ⟨.ref a, rfl, _, _, dL, dp_tup (sH H) (by decide +kernel), shL, by decide +kernel, ?_⟩
      show ∃ k, V.bl (PyData.eqv (.tuple [.str x, .int i, .int j]) (.tuple [.str "", .int 0, .int 0])) = .bl k ∧ _
      refine ⟨_, rfl, ?_⟩
      rw [eqv_line]
      refine ite2 (fun e4 => ?_) (fun e4 => ?_)
      · rw [e4, Bool.true_or] at q
        exact q
      · rw [Bool.eq_false_iff.mpr e4, Bool.false_or] at q
        refine ⟨.ref a, rfl, _, _, dL, dp_tup (sF H) (by decide +kernel), shL, by decide +kernel, ?_⟩
        show Q (.bl (PyData.eqv (.tuple [.str x, .int i, .int j]) (.tuple [.str "", .int 0, .int 1]))) H
        rw [eqv_line]
        exact q
    · have e2 : endL (tupOf H v) = false := by
        cases z : (tupOf H v) with
        | none => rfl
        | some xs =>
          rw [z] at e
          exact endL_no (Bool.eq_false_iff.mpr e)
      rw [e2] at q
      exact q
end
end K1
set_option Elab.async false
set_option linter.all false
set_option maxRecDepth 100000
set_option maxHeartbeats 4000000
/-! The law's own defs: numbers mixed, digits drawn. -/
namespace K1
open PySem PySem.Spec PyProof.Rows L2

/-- the drawing state: what is left, and more -/
def stD (a b : Int) : List (Key × V) := [(.inr ("left" : Str), .int a), (.inr ("more" : Str), .int b)]
theorem neLM' : ¬ (("left" : Str) = ("more" : Str)) := by decide +kernel
theorem neML' : ¬ (("more" : Str) = ("left" : Str)) := by decide +kernel
theorem neLM : ¬ (Sum.inr ("left" : Str) : Key) = Sum.inr ("more" : Str) := fun z => neLM' (Sum.inr.inj z)
theorem st_left (a b : Int) : valV (stD a b) (.inr ("left" : Str)) = some (.int a) := valV_pos rfl
theorem st_more (a b : Int) : valV (stD a b) (.inr ("more" : Str)) = some (.int b) := (valV_neg neLM).trans (valV_pos rfl)
theorem st_putL (a b c : Int) : putK (stD a b) (.inr ("left" : Str)) (.int c) = stD c b := by
  simp [putK, stD, neML']
theorem st_putM (a b c : Int) : putK (stD a b) (.inr ("more" : Str)) (.int c) = stD a c := by
  simp [putK, stD, neLM', neML']
theorem st_small {n : Nat} (h : n ≤ 10) : n < sizeLine := Nat.lt_of_le_of_lt h (by decide)

section
variable {P : Program} {w : World} {K : PySem.W.Frag} {mg : Str → Option Value} {base : Heap} {T : Tp}

/-! ### _law_mixed -/
def spMixed : Sp := fun vs H Q _ => ∃ c k : Int, vs = [.int c, .int k] ∧ 0 ≤ k ∧ k ≤ 1000 ∧ ∀ r : Int, 0 ≤ r → r < 2147483647 → Q (.int r) H
theorem ok_mixed {f : Addr} {fd : FuncData} {k : Nat} (F : Fun K "_law_mixed" "_law_mixed" sMixed f fd) : FnOk P w K mg base CX0 (k + 1) f fd ["_law_cell", "_law_k"] spMixed := by
  refine F.ok scMixed (fun vs H Q E h => ?_) (fun cdv A outer s H vs Q E hr h => ?_)
  · obtain ⟨c, k, rfl, _⟩ := h
    rfl
  · obtain ⟨c, j, rfl, h0, h1, q⟩ := h
    refine ⟨_, pss_cons (ps_set (i := 0) scMixed.nd rfl (.inl rfl) (pe_op op_add (pe_op op_add (pe_op op_mod (pv 0) pe_int) (pe_op op_mul pe_int (pv 1))) pe_int))
      (pss_one (ps_ret (pe_op op_mod (pe_op op_mul (pe_op op_mod (pe_op op_mul (pv 0) (pv 0)) pe_int) pe_int) pe_int))), ?_⟩
    have m0 := Int.emod_nonneg c (show (1000000007 : Int) ≠ 0 by decide)
    have m1 := Int.emod_lt_of_pos c (show (0 : Int) < 1000000007 by decide)
    refine ⟨.int c, rfl, c, 1000000007, rfl, rfl, (show (0 : Int) < 1000000007 by decide), .int j, rfl, 7919, j, rfl, rfl, .inl (by decide), _, _, rfl, rfl, _, _, rfl, rfl, ?_⟩
    refine ⟨_, rfl, _, rfl, _, _, rfl, rfl, .inl ⟨by omega, by omega⟩, _, _, rfl, rfl, (show (0 : Int) < 1000000007 by decide), _, _, rfl, rfl, .inr (by decide), _, _, rfl, rfl, (show (0 : Int) < 2147483647 by decide), ?_⟩
    exact q _ (Int.emod_nonneg _ (by decide)) (Int.emod_lt_of_pos _ (by decide))

/-! ### _law_draw -/
def spDraw : Sp := fun vs H Q _ => ∃ c k : Int, vs = [.int c, .int k] ∧ 0 ≤ k ∧ k ≤ 900 ∧ ∀ d a b, 0 ≤ a → 0 ≤ b → H d = none → Q (.ref d) (upd H d (.dK (stD a b)))
theorem ok_draw {f : Addr} {fd : FuncData} {k : Nat} (F : Fun K "_law_draw" "_law_draw" sDraw f fd) (cM : Cal P w K mg base k "_law_mixed" ["_law_cell", "_law_k"] spMixed) : FnOk P w K mg base CX0 (k + 1) f fd ["_law_cell", "_law_k"] spDraw := by
  refine F.ok scDraw (fun vs H Q E h => ?_) (fun cdv A outer s H vs Q E hr h => ?_)
  · obtain ⟨c, k, rfl, _⟩ := h
    rfl
  · obtain ⟨c, j, rfl, h0, h1, q⟩ := h
    refine ⟨_, pss_cons (ps_set (i := 2) scDraw.nd rfl (.inl rfl) (pe_cal cM hr (by rfl) (pa_cons (pv 0) (pa_cons (pv 1) pa_nil))))
      (pss_cons (ps_set (i := 3) scDraw.nd rfl (.inl rfl) (pe_op op_add (pe_op op_add
        (pe_op op_mul (pe_cal cM hr (by rfl) (pa_cons (pv 2) (pa_cons (pe_op op_add (pv 1) pe_int) pa_nil))) (pe_op op_pow pe_int pe_int))
        (pe_op op_mul (pe_cal cM hr (by rfl) (pa_cons (pv 2) (pa_cons (pe_op op_add (pv 1) pe_int) pa_nil))) pe_int)) (pv 2)))
      (pss_one (ps_ret (pe_disp (pps_cons pe_str (pe_ifExp (pt_cmpR op_ge (pv 0) (pe_op op_pow pe_int pe_int) (nomark _)) (pv 0) (pv 3))
        (pps_cons pe_str (pe_ifExp (pt_cmpR op_ge (pv 0) (pe_op op_pow pe_int pe_int) (nomark _)) (pv 3) pe_int) pps_nil)) (by rfl) (by rfl) (fun z => by cases z) (by decide))))), ?_⟩
    refine ⟨.int c, rfl, .int j, rfl, c, j, rfl, h0, by omega, fun r r0 r1 => ?_⟩
    refine ⟨.int r, rfl, .int j, rfl, j, 1, rfl, rfl, r, j + 1, rfl, by omega, by omega, fun r2 a0 a1 => ?_⟩
    refine ⟨2147483647, 2, rfl, rfl, ⟨by decide, by decide, by decide⟩, r2, _, rfl, rfl, .inl (by omega), .int r, rfl, .int j, rfl, j, 2, rfl, rfl, r, j + 2, rfl, by omega, by omega, fun r3 b0 b1 => ?_⟩
    refine ⟨r3, 2147483647, rfl, rfl, .inl (by omega), _, _, rfl, rfl, .int r, rfl, _, r, rfl, rfl, ?_⟩
    have p0 : 0 ≤ r2 * 2147483647 ^ (2 : Int).toNat := Int.mul_nonneg a0 (by decide)
    have p1 : 0 ≤ r3 * 2147483647 := Int.mul_nonneg b0 (by decide)
    have m0 : 0 ≤ r2 * 2147483647 ^ (2 : Int).toNat + r3 * 2147483647 + r := by omega
    intro d hd
    have fin : ∀ a b : Int, 0 ≤ a → 0 ≤ b → (upd H d (.dK [])) d = some (.dK []) ∧ ∃ kvs : List (Key × V), [(V.str "left", V.int a), (V.str "more", V.int b)] = kvs.map (fun kv => (kV kv.1, kv.2)) ∧ kvs.length ≤ 15 ∧ Q (.ref d) (upd (upd H d (.dK [])) d (.dK (mergeK [] kvs))) := by
      intro a b ha hb
      refine ⟨upd_same, stD a b, rfl, by show 2 ≤ 15; decide, ?_⟩
      have e : mergeK [] (stD a b) = stD a b := by
        show putK (putK ([] : List (Key × V)) (Sum.inr ("left" : Str) : Key) (V.int a)) (Sum.inr ("more" : Str) : Key) (V.int b) = _
        rw [putK_new (κ := Key) (V.int a) valV_nil, List.nil_append, putK_new (κ := Key) (V.int b) ((valV_neg neLM).trans valV_nil)] <;> rfl
      rw [e, upd_upd]
      exact q d a b ha hb hd
    have ten : (10 : Int) ^ (18 : Int).toNat = 1000000000000000000 := by decide
    refine ⟨.int c, rfl, 10, 18, rfl, rfl, ⟨by decide, by decide, by decide⟩, c, _, rfl, rfl, _, rfl, ite2 (fun e => ⟨.int c, rfl, .int c, rfl, 10, 18, rfl, rfl, ⟨by decide, by decide, by decide⟩, c, _, rfl, rfl, _, rfl, ?_⟩) (fun e => ⟨_, rfl, .int c, rfl, 10, 18, rfl, rfl, ⟨by decide, by decide, by decide⟩, c, _, rfl, rfl, _, rfl, ?_⟩)⟩
    · have e1 : (10 : Int) ^ (18 : Int).toNat ≤ c := of_decide_eq_true e
      rw [ten] at e1
      exact ite2 (fun e2 => ⟨_, rfl, fin c _ (by omega) m0⟩) (fun e2 => absurd e e2)
    · exact ite2 (fun e2 => absurd e2 e) (fun e2 => fin _ 0 m0 (by omega))

/-! ### _law_digit -/
def spDigit : Sp := fun vs H Q _ => ∃ d a b m, vs = [.ref d, .int m] ∧ H d = some (.dK (stD a b)) ∧ 0 ≤ a ∧ 0 ≤ b ∧ 0 < m ∧ m < 1073741824 ∧
  ∀ r a' b' H', 0 ≤ r → r < m → 0 ≤ a' → 0 ≤ b' → H' d = some (.dK (stD a' b')) → (∀ x o, x ≠ d → H x = some o → H' x = some o) → Q (.int r) H'
theorem ok_digit {f : Addr} {fd : FuncData} {k : Nat} (F : Fun K "_law_digit" "_law_digit" sDigit f fd) : FnOk P w K mg base CX0 (k + 1) f fd ["_law_state", "_law_many"] spDigit := by
  refine F.ok scDigit (fun vs H Q E h => ?_) (fun cdv A outer s H vs Q E hr h => ?_)
  · obtain ⟨d, a, b, m, rfl, _⟩ := h
    rfl
  · obtain ⟨d, a, b, m, rfl, hd, ha, hb, m0, m1, q⟩ := h
    have hu := hu_of hr
    refine ⟨_, pss_cons (ps_if (pt_cmpR op_eq (pe_dget hu (pv 0) pe_str (fun _ _ => rfl)) pe_int (nomark _))
        (pss_one (ps_asg (pe_tup (pa_cons (pe_dget hu (pv 0) pe_str (fun _ _ => rfl)) (pa_cons pe_int pa_nil)))
          (pg_tup (by rfl) (pgs_cons (pg_sub (pv 0) pe_str (set_dict hu)) (pgs_cons (pg_sub (pv 0) pe_str (set_dict hu)) pgs_nil))))) pss_nil)
      (pss_cons (ps_set (i := 2) scDigit.nd rfl (.inl rfl) (pe_op op_mod (pe_dget hu (pv 0) pe_str (fun _ _ => rfl)) (pv 1)))
      (pss_cons (ps_dput hu (pv 0) pe_str (pe_op op_fdivN (pe_dget hu (pv 0) pe_str (fun _ _ => rfl)) (pv 1)) rfl)
      (pss_one (ps_ret (pv 2))))), ?_⟩
    have gl : ∀ {H1 : Hp} {a b : Int}, H1 d = some (.dK (stD a b)) → DGet H1 d (.str "left") (some (.int a)) := fun {H1 a b} e => st_left a b ▸ DGet.k (k := .inr ("left" : Str)) e
    have gm : ∀ {H1 : Hp} {a b : Int}, H1 d = some (.dK (stD a b)) → DGet H1 d (.str "more") (some (.int b)) := fun {H1 a b} e => st_more a b ▸ DGet.k (k := .inr ("more" : Str)) e
    have pl : ∀ {H1 : Hp} {a b c : Int}, H1 d = some (.dK (stD a b)) → DPut H1 d (.str "left") (.int c) (upd H1 d (.dK (stD c b))) := fun {H1 a b c} e => st_putL a b c ▸ DPut.k (k := .inr ("left" : Str)) e (by show 2 < sizeLine; decide)
    have pm : ∀ {H1 : Hp} {a b c : Int}, H1 d = some (.dK (stD a b)) → DPut H1 d (.str "more") (.int c) (upd H1 d (.dK (stD a c))) := fun {H1 a b c} e => st_putM a b c ▸ DPut.k (k := .inr ("more" : Str)) e (by show 2 < sizeLine; decide)
    have dv : ∀ z : Int, 0 ≤ z → 0 ≤ z.fdiv m := fun z hz => by
      rw [Int.fdiv_eq_ediv_of_nonneg z (by omega)]
      exact Int.ediv_nonneg hz (by omega)
    refine ⟨.ref d, rfl, d, .int a, rfl, gl hd, rfl, _, rfl, ite2 (fun e => ?_) (fun e => ?_)⟩
    · refine ⟨.ref d, rfl, d, .int b, rfl, gm hd, by show 2 ≤ sizeLine; decide, fun t ht => ?_⟩
      have nt : d ≠ t := ne_of_none hd ht
      have hd1 : (upd H t (.tup [.int b, .int 0])) d = some (.dK (stD a b)) := (upd_ne nt).trans hd
      refine ⟨t, _, rfl, .inl (.inl upd_same), rfl, .int b, [.int 0], rfl, .ref d, rfl, d, _, rfl, pl hd1, .int 0, [], rfl, .ref d, rfl, d, _, rfl, pm upd_same, rfl, ?_⟩
      rw [upd_upd]
      have hd2 : (upd (upd H t (.tup [.int b, .int 0])) d (.dK (stD b 0))) d = some (.dK (stD b 0)) := upd_same
      refine ⟨.ref d, rfl, d, .int b, rfl, gl hd2, .int m, rfl, b, m, rfl, rfl, m0, .ref d, rfl, d, .int b, rfl, gl hd2, .int m, rfl, b, m, rfl, rfl, ⟨by omega, by omega⟩, .ref d, rfl, d, _, rfl, pl hd2, .int (b % m), rfl, ?_⟩
      refine q _ _ _ _ (Int.emod_nonneg _ (by omega)) (Int.emod_lt_of_pos _ m0) (dv b hb) (Int.le_refl 0) upd_same fun x o hx e => ?_
      rw [upd_ne hx, upd_ne hx, upd_ne (ne_of_none e ht)]
      exact e
    · refine ⟨.ref d, rfl, d, .int a, rfl, gl hd, .int m, rfl, a, m, rfl, rfl, m0, .ref d, rfl, d, .int a, rfl, gl hd, .int m, rfl, a, m, rfl, rfl, ⟨by omega, by omega⟩, .ref d, rfl, d, _, rfl, pl hd, .int (a % m), rfl, ?_⟩
      refine q _ _ _ _ (Int.emod_nonneg _ (by omega)) (Int.emod_lt_of_pos _ m0) (dv a ha) hb upd_same fun x o hx e => ?_
      rw [upd_ne hx]
      exact e
end
end K1
set_option Elab.async false
set_option linter.all false
set_option maxRecDepth 100000
set_option maxHeartbeats 4000000
/-! The law's own defs: words drawn, its own reading of words and numbers. -/
namespace K1
open PySem PySem.Spec PyProof.Rows L2

/-! ### one-sign texts -/
def one (c : Nat) : Str := ⟨#[c]⟩
theorem tl_one (c : Nat) : TL.tl (one c) = [c] := rfl
theorem join_ones : ∀ cs : List Nat, TL.joinL [] (cs.map fun c => [c]) = cs
  | [] => rfl
  | [c] => rfl
  | c :: d :: r => by
    show [c] ++ ([] ++ TL.joinL [] ((d :: r).map fun c => [c])) = _
    rw [join_ones (d :: r)] <;> rfl
theorem tl_joined (cs : List Nat) : TL.tl (Txt.join "" (cs.map one)) = cs := by
  have e0 : TL.tl ("" : Str) = [] := by decide +kernel
  rw [TL.join_eq, TL.tl_join, e0, List.map_map]
  exact join_ones cs
theorem ones_sum (cs : List Nat) : ((cs.map one).map (·.length)).sum = cs.length := by
  induction cs with
  | nil => rfl
  | cons c r ih =>
    rw [List.map_cons, List.map_cons, List.sum_cons, ih]
    show 1 + r.length = r.length + 1
    omega
/-- all signs are plain -/
def Asc (x : Str) : Prop := ∀ c ∈ TL.tl x, c < 128
theorem Asc.ok {x : Str} (h : Asc x) : PyData.strOk x = true := by
  show x.cps.all _ = true
  rw [← Array.all_toList]
  refine List.all_eq_true.mpr fun c hc => ?_
  have := h c hc
  exact decide_eq_true (by omega)

section
variable {P : Program} {w : World} {K : PySem.W.Frag} {mg : Str → Option Value} {base : Heap} {T : Tp}

/-! ### _law_word -/
def spLWord : Sp := fun vs H Q _ => ∃ d a b z, vs = [.ref d, .str z] ∧ H d = some (.dK (stD a b)) ∧ 0 ≤ a ∧ 0 ≤ b ∧ 0 < z.length ∧ z.length ≤ 1000 ∧
  ∀ y a' b' H', y.length ≤ 10 → (∀ c ∈ TL.tl y, c ∈ TL.tl z) → 0 ≤ a' → 0 ≤ b' → H' d = some (.dK (stD a' b')) → (∀ x o, x ≠ d → H x = some o → H' x = some o) → Q (.str y) H'
theorem ok_lword {f : Addr} {fd : FuncData} {k : Nat} (F : Fun K "_law_word" "_law_word" sLWord f fd) (M : Mg K mg) (cD : Cal P w K mg base k "_law_digit" ["_law_state", "_law_many"] spDigit) : FnOk P w K mg base CX0 (k + 1) f fd ["_law_state", "_law_signs"] spLWord := by
  refine F.ok scLWord (fun vs H Q E h => ?_) (fun cdv A outer s H vs Q E hr h => ?_)
  · obtain ⟨d, a, b, z, rfl, _⟩ := h
    rfl
  · obtain ⟨d, a, b, z, rfl, hd, ha, hb, z0, z1, q⟩ := h
    refine ⟨_, pss_one (ps_ret (pe_join pe_str (pe_lc (own := [("_law_k", 2)]) (g := gName 2) (tt := tYes) rfl scLWord.nd (pi_range1 (by rfl) M.range_ (pa_cons (pe_cal cD hr (by rfl) (pa_cons (pv 0) (pa_cons pe_int pa_nil))) pa_nil))
      (blkOk_by (N := ["_law_state", "_law_signs", "_law_k"]) (sc := defScope sLWord) (by decide +kernel)) (fun _ _ _ _ _ => pg_name (i := 2) scLWord.nd rfl (Or.inl rfl)) (fun _ _ _ _ _ => pts_nil)
      (fun _ _ _ _ _ => pe_ix ix_str (pv 1) (pe_cal cD hr (by rfl) (pa_cons (pv 0) (pa_cons (pe_callB call_len_str (by rfl) M.len_ PySem.boot_len (pa_cons (pv 1) pa_nil)) pa_nil))) (fun _ _ => rfl))))), ?_⟩
    refine ⟨⟨"", rfl⟩, .ref d, rfl, d, a, b, 11, rfl, hd, ha, hb, by decide, by decide, fun r a' b' H1 r0 r1 ha' hb' hd1 sm1 => ?_⟩
    refine ⟨r, rfl, by omega, by omega, fun D hD => ?_⟩
    have nD : d ≠ D := ne_of_none hd1 hD
    refine lc_range (lo := 0) (n := r.toNat) (fun i H2 => ∃ (a2 b2 : Int) (cs : List Nat), H2 d = some (.dK (stD a2 b2)) ∧ 0 ≤ a2 ∧ 0 ≤ b2 ∧ H2 D = some (.lst ((cs.map one).map V.str)) ∧ cs.length = i ∧ (∀ c ∈ cs, c ∈ TL.tl z) ∧ ∀ x o, x ≠ d → H1 x = some o → H2 x = some o) ?_ ?_ ?_
    · refine ⟨a', b', [], (upd_ne nD).trans hd1, ha', hb', upd_same, rfl, by simp, fun x o hx e => ?_⟩
      rw [upd_ne (ne_of_none e hD)]
      exact e
    · rintro i H2 hi ⟨a2, b2, cs, hd2, ha2, hb2, hD2, hl, hm, sm2⟩
      refine ⟨rfl, .str z, rfl, .ref d, rfl, .str z, rfl, z, rfl, Nat.le_trans z1 (by decide), d, a2, b2, (z.length : Int), rfl, hd2, ha2, hb2, by omega, by omega, fun j a3 b3 H3 j0 j1 ha3 hb3 hd3 sm3 => ?_⟩
      have hj : j.toNat < (TL.tl z).length := by
        rw [← TL.len_tl]
        omega
      have ej : ((j.toNat : Nat) : Int) = j := by omega
      refine ⟨z, j, (TL.tl z)[j.toNat], rfl, rfl, Nat.le_trans z1 (by decide), ?_, (cs.map one).map V.str, sm3 _ _ nD.symm hD2, ?_, ?_⟩
      · have := atI_nat (xs := TL.tl z) (j := j.toNat) (List.getElem?_eq_getElem hj)
        rw [ej] at this
        exact this
      · rw [List.length_map, List.length_map, hl]
        exact Nat.lt_of_lt_of_le (show i < 11 by omega) (by decide)
      · refine ⟨a3, b3, cs ++ [(TL.tl z)[j.toNat]], (upd_ne nD).trans hd3, ha3, hb3, ?_, by rw [List.length_append, hl]; rfl, ?_, fun x o hx e => ?_⟩
        · rw [upd_same, List.map_append, List.map_append]
          rfl
        · intro c hc
          rcases List.mem_append.mp hc with h | h
          · exact hm c h
          · rw [List.mem_singleton.mp h]
            exact List.getElem_mem hj
        · rw [upd_ne (ne_of_none e hD)]
          exact sm3 _ _ hx (sm2 x o hx e)
    · rintro H2 ⟨a2, b2, cs, hd2, ha2, hb2, hD2, hl, hm, sm2⟩
      refine ⟨"", D, cs.map one, rfl, rfl, .inl (.inl (.inl hD2)), ?_, ?_⟩
      · rw [ones_sum, List.length_map]
        have e0 : ("" : Str).length = 0 := by decide +kernel
        rw [e0]
        omega
      · refine q _ a2 b2 H2 ?_ ?_ ha2 hb2 hd2 fun x o hx e => sm2 x o hx (sm1 x o hx e)
        · rw [TL.len_tl, tl_joined]
          omega
        · rw [tl_joined]
          exact hm

/-! ### _law_is_word -/
def isLt (c : Nat) : Bool := decide (c ∈ TL.tl ltrs)
theorem count_all {p : Nat → Bool} (l : List Nat) : (l.countP p = l.length) ↔ l.all p = true := by
  rw [List.countP_eq_length, List.all_eq_true]
def spLIsWord (T : Tp) : Sp := fun vs H Q _ => ∃ x : Str, vs = [.str x] ∧ x.length ≤ 1000 ∧ TG T H ∧ ∀ H', Go T D0 H H' → Q (.bl (wordOk x)) H'
theorem ok_lisword {f : Addr} {fd : FuncData} {k : Nat} (F : Fun K "_law_is_word" "_law_is_word" sLIsWord f fd) (M : Mg K mg) : FnOk P w K mg base CX0 (k + 1) f fd ["_law_word_here"] (spLIsWord T) := by
  refine F.ok scLIsWord (fun vs H Q E h => ?_) (fun cdv A outer s H vs Q E hr h => ?_)
  · obtain ⟨x, rfl, _⟩ := h
    rfl
  · obtain ⟨x, rfl, hx, tg, q⟩ := h
    refine ⟨_, pss_cons (ps_setLc (i := 1) (own := [("_law_sign", 2)]) (g := gName 2) rfl scLIsWord.nd rfl rfl (sw_true rfl rfl rfl (by decide +kernel)) (pi_str (pv 0))
        (blkOk_by (N := ["_law_word_here", "_law_letters", "_law_sign"]) (sc := defScope sLIsWord) (by decide +kernel)) (fun _ _ _ _ _ => pg_name (i := 2) scLIsWord.nd rfl (Or.inl rfl))
        (fun _ _ _ _ _ => pts_one (pt_cmpR op_in_sign (pv 2) pe_str (by rfl))) (fun _ _ _ _ _ => pv 2))
      (pss_one (ps_ret (pe_and (pe_chain op_le op_le pe_int (pe_callB call_len_str (by rfl) M.len_ PySem.boot_len (pa_cons (pv 0) pa_nil)) pe_int)
        (pe_one (pe_cmpR op_eq (pe_callB call_len_seq (by rfl) M.len_ PySem.boot_len (pa_cons (pv 1) pa_nil)) (pe_callB call_len_str (by rfl) M.len_ PySem.boot_len (pa_cons (pv 0) pa_nil)) (nomark _)))))), ?_⟩
    have hl : x.cps.size = x.length := rfl
    have sz : x.length ≤ sizeLine := Nat.le_trans hx (by decide)
    refine ⟨.str x, rfl, x, rfl, fun D hD => ?_⟩
    refine lc_it walk_str (fun i H2 => ∃ acc : List V, H2 = upd H D (.lst acc) ∧ acc.length = ((TL.tl x).take i).countP isLt ∧ acc.length ≤ i) ?_ ?_ ?_ ?_
    · exact ⟨[], rfl, rfl, Nat.le_refl _⟩
    · intro _ _ _ _
      trivial
    · rintro i v H2 H2' hi ⟨acc, rfl, hacc, hai⟩ ⟨rfl, c, hc, rfl⟩
      have hc' : (TL.tl x)[i]? = some c := by
        show x.cps.toList[i]? = some c
        simpa using hc
      have tk : (TL.tl x).take (i + 1) = (TL.tl x).take i ++ [c] := by
        rw [List.take_add_one, hc']
        rfl
      refine ⟨rfl, _, rfl, c, _, rfl, rfl, _, rfl, ite2 (fun e => ⟨_, rfl, acc, upd_same, ?_, ?_⟩) (fun e => ?_)⟩
      · have : acc.length ≤ 1000 := by omega
        exact Nat.lt_of_le_of_lt this (by decide)
      · rw [upd_upd]
        refine ⟨_, rfl, ?_, ?_⟩
        · rw [List.length_append, hacc, tk, List.countP_append]
          have : isLt c = true := e
          simp [this]
        · rw [List.length_append]
          show acc.length + 1 ≤ i + 1
          omega
      · refine ⟨acc, rfl, ?_, by omega⟩
        rw [hacc, tk, List.countP_append]
        have : isLt c = false := Bool.eq_false_iff.mpr e
        simp [this]
    · rintro H2 ⟨acc, rfl, hacc, _⟩
      rw [List.take_of_length_le (by rw [← TL.len_tl]; exact Nat.le_of_eq hl.symm)] at hacc
      have g1 : Go T D0 H (upd H D (.lst acc)) := (Go.rfl' tg).new hD
      have fin : ∀ b, wordOk x = b → Q (.bl b) (upd H D (.lst acc)) := fun b e => e ▸ q _ g1
      have fin0 : ∀ p q r : Bool, (p && q && r) = wordOk x → (p = false ∨ q = false ∨ r = false) → Q (.bl false) (upd H D (.lst acc)) := fun p q r e h => fin _ (by
        rw [← e]
        rcases h with h | h | h <;> rw [h] <;> simp)
      have w : wordOk x = ((decide ((1 : Int) ≤ x.length) && decide ((x.length : Int) ≤ 8)) && (TL.tl x).all isLt) := rfl
      refine ⟨.str x, rfl, x, rfl, sz, _, _, rfl, rfl, _, rfl, ite2 (fun e1 => ⟨_, _, rfl, rfl, _, rfl, ite2 (fun e2 => ?_) (fun e2 => fin0 _ _ _ w.symm (.inr (.inl (Bool.eq_false_iff.mpr e2))))⟩) (fun e1 => ⟨_, rfl, iteF (fin0 _ _ _ w.symm (.inl (Bool.eq_false_iff.mpr e1)))⟩)⟩
      refine ⟨.ref D, rfl, D, acc, rfl, .inl (.inl (.inl upd_same)), .str x, rfl, x, rfl, sz, rfl, fin _ ?_⟩
      rw [w, e1, e2, Bool.true_and, Bool.true_and]
      have c := count_all (p := isLt) (TL.tl x)
      rw [← hacc, ← TL.len_tl] at c
      by_cases z : acc.length = x.length
      · rw [c.mp z, z]
        exact (decide_eq_true rfl).symm
      · rw [Bool.eq_false_iff.mpr (fun y => z (c.mpr y)), decide_eq_false]
        intro y
        injection y with y
        exact z (by omega)

/-! ### _law_number -/
def noFig (c : Nat) : Bool := !decide (c ∈ TL.tl figs)
theorem idx_fig {c : Nat} (h : 48 ≤ c ∧ c ≤ 57) : ∃ rest, Builtin.Str.occurrences ("0123456789" : Str) (one c) 0 ("0123456789" : Str).length 1 = (c - 48) :: rest := by
  obtain ⟨h1, h2⟩ := h
  have : c = 48 ∨ c = 49 ∨ c = 50 ∨ c = 51 ∨ c = 52 ∨ c = 53 ∨ c = 54 ∨ c = 55 ∨ c = 56 ∨ c = 57 := by omega
  rcases this with rfl | rfl | rfl | rfl | rfl | rfl | rfl | rfl | rfl | rfl <;> exact ⟨[], by decide +kernel⟩
theorem digitsVal_app (l : List Nat) (c : Nat) : NumText.digitsVal (l ++ [c]) = NumText.digitsVal l * 10 + (c - 48) := by
  show (l ++ [c]).foldl _ 0 = _
  rw [List.foldl_append]
  rfl
def spLNum (T : Tp) : Sp := fun vs H Q _ => ∃ x : Str, vs = [.str x] ∧ x.length ≤ 1000 ∧ Asc x ∧ TG T H ∧ ∀ H', Go T D0 H H' → Q (numV (.str x)) H'
theorem ok_lnum {f : Addr} {fd : FuncData} {k : Nat} (F : Fun K "_law_number" "_law_number" sLNum f fd) (M : Mg K mg) : FnOk P w K mg base CX0 (k + 1) f fd ["_law_word_here"] (spLNum T) := by
  refine F.ok scLNum (fun vs H Q E h => ?_) (fun cdv A outer s H vs Q E hr h => ?_)
  · obtain ⟨x, rfl, _⟩ := h
    rfl
  · obtain ⟨x, rfl, hx, asc, tg, q⟩ := h
    refine ⟨_, pss_cons (ps_if (PW.pt (pw_or (pt_not (pt_chain op_le op_le pe_int (pe_callB call_len_str (by rfl) M.len_ PySem.boot_len (pa_cons (pv 0) pa_nil)) pe_int))
          (pw_or1 (pt_cmpR op_notIn_sign (pe_ix ix_str (pv 0) pe_int (fun _ _ => rfl)) pe_str (by rfl)))))
        (pss_one (ps_ret pe_non)) pss_nil)
      (pss_cons (ps_if (pt_cmpR (op_neD hr.units) (pe_lc (own := [("_law_sign", 1)]) (g := gName 1) rfl scLNum.nd (pi_str (pv 0))
          (blkOk_by (N := ["_law_word_here", "_law_sign", "_law_found"]) (sc := defScope sLNum) (by decide +kernel)) (fun _ _ _ _ _ => pg_name (i := 1) scLNum.nd rfl (Or.inl rfl))
          (fun _ _ _ _ _ => pts_one (pt_cmpR op_notIn_sign (pv 1) pe_str (by rfl))) (fun _ _ _ _ _ => pv 1)) (pe_lst pa_nil) (by rfl))
        (pss_one (ps_ret pe_non)) pss_nil)
      (pss_cons (ps_set (i := 2) scLNum.nd rfl (.inl rfl) pe_int)
      (pss_cons (ps_for PassesOwn.never rfl (pi_str (pv 0)) (pg_name (i := 1) scLNum.nd rfl (.inl rfl))
        (pss_one (ps_set (i := 2) scLNum.nd rfl (.inl rfl) (pe_op op_add (pe_op op_mul (pv 2) pe_int) (pe_bm PySem.F.plainAttrs_str PySem.F.slot_str_index PySem.F.type_str_index mt_sindex pe_str (pa_cons (pv 1) pa_nil))))))
      (pss_one (ps_ret (pv 2)))))), ?_⟩
    have sz : x.length ≤ sizeLine := Nat.le_trans hx (by decide)
    have hl : x.length = (TL.tl x).length := TL.len_tl x
    have none_of : ∀ H', Go T D0 H H' → numT x = none → Q .non H' := fun H' g e => by
      have q2 := q H' g
      have e2 : numV (.str x) = .non := by
        show (match numT x with | some n => V.int n | none => .non) = _
        rw [e]
      rw [e2] at q2
      exact q2
    cases et : TL.tl x with
    | nil =>
      have h0 : x.length = 0 := by rw [hl, et]; rfl
      refine ⟨.str x, rfl, x, rfl, sz, _, _, rfl, rfl, _, rfl, ite2 (fun e1 => ?_) (fun e1 => ⟨_, rfl, iteT (none_of H (Go.rfl' tg) ?_)⟩)⟩
      · rw [h0] at e1
        exact absurd e1 (by decide)
      · unfold numT
        rw [et]
    | cons c r =>
      have h0 : x.length = r.length + 1 := by rw [hl, et]; rfl
      have e1 : decide ((1 : Int) ≤ (x.length : Int)) = true := decide_eq_true (by omega)
      have sum : numT x = if (decide ((c :: r).length ≤ 6) && (decide (c ≠ 48) && (c :: r).all (fun c => decide (c ∈ TL.tl figs)))) = true then some ((NumText.digitsVal (c :: r) : Nat) : Int) else none := by
        unfold numT
        rw [et]
      have nine : TL.tl ("123456789" : Str) = [49, 50, 51, 52, 53, 54, 55, 56, 57] := by decide +kernel
      have no3 : ∀ p q r : Bool, (p = false ∨ q = false ∨ r = false) → (if (p && (q && r)) = true then some ((NumText.digitsVal (c :: ‹List Nat›) : Nat) : Int) else none) = none := by
        intro p q r h
        rcases h with h | h | h <;> rw [h] <;> simp
      refine ⟨.str x, rfl, x, rfl, sz, _, _, rfl, rfl, _, rfl, ite2 (fun _ => ⟨_, _, rfl, rfl, _, rfl, ite2 (fun e2 => iteT (none_of H (Go.rfl' tg) ?_)) (fun e2 => ?_)⟩) (fun e3 => absurd e1 e3)⟩
      · have e3 : decide ((x.length : Int) ≤ 6) = false := by simpa using e2
        have e4 : ¬ (c :: r).length ≤ 6 := by
          have := of_decide_eq_false e3
          show ¬ r.length + 1 ≤ 6
          omega
        rw [sum, decide_eq_false e4, Bool.false_and, if_neg Bool.false_ne_true]
      · have e3 : decide ((x.length : Int) ≤ 6) = true := notnot e2
        have e4 : (c :: r).length ≤ 6 := by
          have := of_decide_eq_true e3
          show r.length + 1 ≤ 6
          omega
        refine ⟨.str x, rfl, x, 0, c, rfl, rfl, sz, atI_nat (j := 0) (by show (TL.tl x)[0]? = _; rw [et]; rfl), c, _, rfl, rfl, _, rfl, ite2 (fun e5 => none_of H (Go.rfl' tg) ?_) (fun e5 => ?_)⟩
        · have e6 : ¬ c ∈ TL.tl ("123456789" : Str) := by simpa using e5
          have e7 : (decide (c ≠ 48) && (c :: r).all (fun c => decide (c ∈ TL.tl figs))) = false := by
            rw [Bool.eq_false_iff]
            intro z
            rw [Bool.and_eq_true] at z
            have z1 : c ≠ 48 := of_decide_eq_true z.1
            have z2 := fig_iff.mp (of_decide_eq_true (List.all_eq_true.mp z.2 c (List.mem_cons_self ..)))
            refine e6 ?_
            rw [nine]
            simp only [List.mem_cons, List.not_mem_nil, or_false]
            omega
          rw [sum, e7, Bool.and_false, if_neg Bool.false_ne_true]
        · have e6 : c ∈ TL.tl ("123456789" : Str) := of_decide_eq_true (notnot e5)
          have e7 : c ≠ 48 := by
            rintro rfl
            rw [nine] at e6
            revert e6
            decide
          have all_ : numT x = if ((TL.tl x).all (fun c => decide (c ∈ TL.tl figs))) = true then some ((NumText.digitsVal (TL.tl x) : Nat) : Int) else none := by
            rw [sum, et, decide_eq_true e4, decide_eq_true e7, Bool.true_and, Bool.true_and]
          -- the signs that are no figures
          refine ⟨.str x, rfl, x, rfl, fun D hD => ?_⟩
          refine lc_it walk_str (fun i H2 => ∃ acc : List Nat, H2 = upd H D (.lst ((acc.map one).map V.str)) ∧ acc = ((TL.tl x).take i).filter noFig ∧ acc.length ≤ i) ?_ ?_ ?_ ?_
          · exact ⟨[], rfl, rfl, Nat.le_refl _⟩
          · intro _ _ _ _
            trivial
          · rintro i v H2 H2' hi ⟨acc, rfl, hacc, hai⟩ ⟨rfl, d, hd, rfl⟩
            have hd' : (TL.tl x)[i]? = some d := by
              show x.cps.toList[i]? = some d
              simpa using hd
            have tk : (TL.tl x).take (i + 1) = (TL.tl x).take i ++ [d] := by
              rw [List.take_add_one, hd']
              rfl
            have hi2 : i < x.length := hi
            refine ⟨rfl, _, rfl, d, _, rfl, rfl, _, rfl, ite2 (fun e => ⟨_, rfl, _, upd_same, ?_, ?_⟩) (fun e => ?_)⟩
            · rw [List.length_map, List.length_map]
              have : acc.length ≤ 1000 := by omega
              exact Nat.lt_of_le_of_lt this (by decide)
            · rw [upd_upd]
              refine ⟨acc ++ [d], by rw [List.map_append, List.map_append]; rfl, ?_, ?_⟩
              · rw [hacc, tk, List.filter_append]
                have e' : noFig d = true := e
                simp [List.filter_cons, e']
              · rw [List.length_append]
                show acc.length + 1 ≤ i + 1
                omega
            · refine ⟨acc, rfl, ?_, by omega⟩
              rw [hacc, tk, List.filter_append]
              have e' : noFig d = false := Bool.eq_false_iff.mpr e
              simp [List.filter_cons, e']
          · rintro H2 ⟨acc, rfl, hacc, _⟩
            rw [List.take_of_length_le (show (TL.tl x).length ≤ x.cps.size by rw [← TL.len_tl]; exact Nat.le_refl _)] at hacc
            have g1 : Go T D0 H (upd H D (.lst ((acc.map one).map V.str))) := (Go.rfl' tg).new hD
            refine ⟨Nat.zero_le _, fun l hl' => ?_⟩
            have nDl : D ≠ l := ne_of_none upd_same hl'
            have okA : ((acc.map one).map V.str).all okV = true := by
              rw [List.all_map, List.all_map]
              refine List.all_eq_true.mpr fun d hd => ?_
              rw [hacc] at hd
              have := asc d (List.mem_filter.mp hd).1
              show PyData.strOk (one d) = true
              exact Asc.ok fun z hz => by
                rw [tl_one] at hz
                rw [List.mem_singleton.mp hz]
                exact this
            have g2 : Go T D0 H (upd (upd H D (.lst ((acc.map one).map V.str))) l (.lst [])) := g1.new hl'
            refine ⟨_, _, dp_lst (.inl (.inl ((upd_ne nDl).trans upd_same))) okA, dp_lst (xs := []) (.inl (.inl upd_same)) rfl, sh_lst okA, sh_lst (xs := []) rfl, _, rfl, ite2 (fun e => none_of _ g2 ?_) (fun e => ?_)⟩
            · rw [all_, if_neg]
              intro z
              have : acc = [] := by
                rw [hacc]
                refine List.filter_eq_nil_iff.mpr fun d hd => ?_
                have h := List.all_eq_true.mp z d hd
                show ¬ (!decide (d ∈ TL.tl figs)) = true
                rw [h]
                decide
              rw [this] at e
              exact absurd e (by decide)
            · have nil : acc = [] := by
                cases acc with
                | nil => rfl
                | cons d r => exact absurd rfl e
              have al : ((TL.tl x).all (fun c => decide (c ∈ TL.tl figs))) = true := by
                refine List.all_eq_true.mpr fun d hd => ?_
                have h : ¬ (!decide (d ∈ TL.tl figs)) = true := List.filter_eq_nil_iff.mp (hacc.symm.trans nil) d hd
                cases q : decide (d ∈ TL.tl figs) with
                | true => rfl
                | false =>
                  rw [q] at h
                  exact absurd rfl h
              rw [if_pos al] at all_
              generalize (upd (upd H D (.lst ((acc.map one).map V.str))) l (.lst [])) = H3 at g2 ⊢
              refine ⟨.str x, rfl, x, rfl, ?_⟩
              refine for_it walk_str (fun i σ H4 => (∃ y, σ = [some (.str x), y, some (.int ((NumText.digitsVal ((TL.tl x).take i) : Nat) : Int))]) ∧ H4 = H3) ⟨⟨_, rfl⟩, rfl⟩ (fun _ _ _ _ _ => trivial) ?_ ?_
              · rintro i v σ H4 H4' hi ⟨⟨y, rfl⟩, rfl⟩ ⟨rfl, d, hd, rfl⟩
                have hd' : (TL.tl x)[i]? = some d := by
                  show x.cps.toList[i]? = some d
                  simpa using hd
                have tk : (TL.tl x).take (i + 1) = (TL.tl x).take i ++ [d] := by
                  rw [List.take_add_one, hd']
                  rfl
                have hf := digits_of al d (List.mem_of_getElem? hd')
                obtain ⟨rest, ho⟩ := idx_fig hf
                refine ⟨_, rfl, _, _, rfl, rfl, .inr (by decide), rfl, _, rfl, _, _, d - 48, rest, rfl, rfl, ho, _, _, rfl, rfl, ⟨some (.str ⟨#[d]⟩), ?_⟩, rfl⟩
                rw [tk, digitsVal_app]
                rfl
              · rintro σ H4 ⟨⟨y, rfl⟩, rfl⟩
                refine ⟨_, rfl, ?_⟩
                have q2 := q _ g2
                have e2 : numV (.str x) = .int ((NumText.digitsVal (TL.tl x) : Nat) : Int) := by
                  show (match numT x with | some n => V.int n | none => .non) = _
                  rw [all_]
                rw [e2] at q2
                rw [List.take_of_length_le (show (TL.tl x).length ≤ x.cps.size by rw [← TL.len_tl]; exact Nat.le_refl _)]
                exact q2
end
end K1
set_option Elab.async false
set_option linter.all false
set_option maxRecDepth 100000
set_option maxHeartbeats 4000000
/-! The law's own defs: its reading of names and lines by their parts. -/
namespace K1
open PySem PySem.Spec PyProof.Rows L2

def nv (p : Str) : V := numV (.str p)
theorem nv_cases (p : Str) : nv p = .non ∨ ∃ n : Int, nv p = .int n ∧ 1 ≤ n ∧ n < 1000000 ∧ numT p = some n := by
  cases e : numT p with
  | none =>
    left
    show (match numT p with | some n => V.int n | none => .non) = _
    rw [e]
  | some n =>
    right
    obtain ⟨_, h1, h2, _⟩ := numT_some e
    refine ⟨n, ?_, h1, h2, rfl⟩
    show (match numT p with | some n => V.int n | none => .non) = _
    rw [e]
def line3 (x : Str) : Option (List V) := match Txt.split x "." with
  | [a, b, c] => if putL (some [.str a, numV (.str b), numV (.str c)]) then some [.str a, numV (.str b), numV (.str c)] else none
  | _ => none
def partsV (x : Str) (m : Int) : Option (List V) := if m = 2 then nameS x else line3 x
theorem lineS_eq (x : Str) : lineS x = if x = "head" then some [.str "", .int 0, .int 0] else if x = "foot" then some [.str "", .int 0, .int 1] else line3 x := rfl
/-- an object that is new since H, written again -/
theorem Go.put {T : Tp} {D : Addr → Prop} {H H1 : Hp} {p : Addr} {o u : HO} (g : Go T D H H1) (n : H p = none) (h : H1 p = some u) (hu : ∀ ps, u ≠ .tbl ps := by intro ps z; cases z) : Go T D H (upd H1 p o) := by
  have ne := g.1.neW h hu
  refine ⟨g.1.stay ne, fun b v h1 h3 e => ?_⟩
  rw [upd_ne (ne_of_none e n)]
  exact g.2 b v h1 h3 e

section
variable {P : Program} {w : World} {K : PySem.W.Frag} {mg : Str → Option Value} {base : Heap} {T : Tp}

def spLParts (T : Tp) : Sp := fun vs H Q _ => ∃ (x : Str) (m : Int), vs = [.str x, .int m] ∧ (m = 2 ∨ m = 3) ∧ x.length ≤ 1000 ∧ Asc x ∧ TG T H ∧ (∀ H', Go T D0 H H' → partsV x m = none → Q .non H') ∧
  ∀ H' p xs, Go T D0 H H' → partsV x m = some xs → H' p = some (.tup xs) → Q (.ref p) H'
/-- the parts, if there are so many -/
theorem parts_len {x : Str} {m : Int} (hm : m = 2 ∨ m = 3) (h : ¬ ((Txt.split x ".").length : Int) = m) : partsV x m = none := by
  unfold partsV
  rcases hm with rfl | rfl
  · rw [if_pos rfl]
    unfold nameS
    split
    · rename_i a b e
      rw [e] at h
      exact absurd rfl h
    · rfl
  · rw [if_neg (by decide)]
    unfold line3
    split
    · rename_i a b c e
      rw [e] at h
      exact absurd rfl h
    · rfl
theorem hand_no {a : Str} (h : handV (.str a) = false) {x : Str} {r : List Str} (e : Txt.split x "." = a :: r) (m : Int) : partsV x m = none := by
  unfold partsV nameS line3
  rw [e]
  match r with
  | [] => simp
  | [b] => simp [nameL, h]
  | [b, c] => simp [putL, h]
  | _ :: _ :: _ :: _ => simp
theorem numT_non {c : Str} (e : nv c = .non) : numT c = none := by
  cases q : numT c with
  | none => rfl
  | some z =>
    have : nv c = .int z := by
      show (match numT c with | some n => V.int n | none => .non) = _
      rw [q]
    rw [this] at e
    cases e
theorem res2 {a b : Str} (hA : handV (.str a) = true) :
    (if nameL (some [.str a, numV (.str b)]) = true then some [.str a, numV (.str b)] else none) = if (([b].all fun p => (numT p).isSome) && amgV (nv b) 1 999) = true then some (.str a :: [b].map nv) else none := by
  have e : nameL (some [.str a, nv b]) = amgV (nv b) 1 999 := by
    show (handV (.str a) && amgV (nv b) 1 999) = _
    rw [hA, Bool.true_and]
  show (if nameL (some [.str a, nv b]) = true then some [.str a, nv b] else none) = if (((numT b).isSome && true) && amgV (nv b) 1 999) = true then some [.str a, nv b] else none
  rw [e]
  rcases nv_cases b with e9 | ⟨n, e9, _, _, en⟩
  · have : amgV (nv b) 1 999 = false := by rw [e9]; rfl
    simp [this]
  · simp [en]
theorem res3 {a b c : Str} (hA : handV (.str a) = true) :
    (if putL (some [.str a, numV (.str b), numV (.str c)]) = true then some [.str a, numV (.str b), numV (.str c)] else none) =
      if (([b, c].all fun p => (numT p).isSome) && amgV (nv b) 1 999) = true then some (.str a :: [b, c].map nv) else none := by
  have e : putL (some [.str a, nv b, nv c]) = (amgV (nv b) 1 999 && geOne (nv c)) := by
    show ((handV (.str a) && amgV (nv b) 1 999) && geOne (nv c)) = _
    rw [hA, Bool.true_and]
  show (if putL (some [.str a, nv b, nv c]) = true then some [.str a, nv b, nv c] else none) = if (((numT b).isSome && ((numT c).isSome && true)) && amgV (nv b) 1 999) = true then some [.str a, nv b, nv c] else none
  rw [e]
  rcases nv_cases b with e9 | ⟨n, e9, _, _, en⟩
  · have : amgV (nv b) 1 999 = false := by rw [e9]; rfl
    simp [this]
  · rcases nv_cases c with e8 | ⟨n2, e8, h8, _, en2⟩
    · have : geOne (nv c) = false := by rw [e8]; rfl
      simp [this, numT_non e8]
    · have : geOne (nv c) = true := by rw [e8]; exact decide_eq_true h8
      simp [this, en, en2]
theorem noneIn (rest : List Str) : inV .non (rest.map nv) = !(rest.all fun p => (numT p).isSome) := by
  induction rest with
  | nil => rfl
  | cons p r ih =>
    show (eqV (nv p) .non || inV .non (r.map nv)) = !((numT p).isSome && _)
    rw [ih]
    rcases nv_cases p with e | ⟨n, e, _, _, en⟩
    · rw [e, numT_non e]
      rfl
    · rw [e, en]
      simp [eqV]
theorem ok_lparts {f : Addr} {fd : FuncData} {k : Nat} (F : Fun K "_law_parts" "_law_parts" sLParts f fd) (M : Mg K mg) (cI : Cal P w K mg base k "_law_is_word" ["_law_word_here"] (spLIsWord T)) (cN : Cal P w K mg base k "_law_number" ["_law_word_here"] (spLNum T)) :
    FnOk P w K mg base CX0 (k + 1) f fd ["_law_word_here", "_law_many"] (spLParts T) := by
  refine F.ok scLParts (fun vs H Q E h => ?_) (fun cdv A outer s H vs Q E hr h => ?_)
  · obtain ⟨x, m, rfl, _⟩ := h
    rfl
  · obtain ⟨x, m, rfl, hm, hx, asc, tg, q0, q1⟩ := h
    refine ⟨_, pss_cons (ps_set (i := 2) scLParts.nd rfl (.inl rfl) (pe_split (pv 0) pe_str))
      (pss_cons (ps_if (PW.pt (pw_or (pt_cmpR op_ne (pe_callB call_len_seq (by rfl) M.len_ PySem.boot_len (pa_cons (pv 2) pa_nil)) (pv 1) (nomark _))
          (pw_or (pt_not (pt_val (pe_cal cI hr (by rfl) (pa_cons (pe_ix ix_list (pv 2) pe_int (fun _ _ => rfl)) pa_nil))))
            (pw_or1 (pt_cmpR op_in_seq (pe_ix ix_list (pv 2) pe_int (fun _ _ => rfl)) (pe_lst (pa_cons pe_str (pa_cons pe_str (pa_cons pe_str pa_nil)))) (by rfl))))))
        (pss_one (ps_ret pe_non)) pss_nil)
      (pss_cons (ps_setLc (i := 3) (own := [("_law_part", 4)]) (g := gName 4) (tt := tYes) rfl scLParts.nd rfl rfl (sw_true rfl rfl rfl (by decide +kernel)) (pi_list (pe_slice sl_list (pv 2) (po_some pe_int) po_none))
        (blkOk_by (N := ["_law_word_here", "_law_many", "_law_parts_here", "_law_numbers", "_law_part"]) (sc := defScope sLParts) (by decide +kernel)) (fun _ _ _ _ _ => pg_name (i := 4) scLParts.nd rfl (Or.inl rfl))
        (fun _ _ _ _ _ => pts_nil) (fun _ _ _ _ _ => pe_cal cN hr (by rfl) (pa_cons (pv 4) pa_nil)))
      (pss_cons (ps_if (PW.pt (pw_or (pt_cmpR op_in_seq pe_non (pv 3) (by rfl)) (pw_or1 (pt_cmpR op_gt (pe_ix ix_list (pv 3) pe_int (fun _ _ => rfl)) pe_int (nomark _)))))
        (pss_one (ps_ret pe_non)) pss_nil)
      (pss_one (ps_ret (pe_callTy call_tuple_of (by rfl) M.tuple_ (by decide +kernel) (pa_cons (pe_op op_cat (pe_lst (pa_cons (pe_ix ix_list (pv 2) pe_int (fun _ _ => rfl)) pa_nil)) (pv 3)) pa_nil))))))), ?_⟩
    refine ⟨.str x, rfl, ⟨x, rfl⟩, x, ".", rfl, rfl, by decide +kernel, Nat.le_trans (show x.length + 2 ≤ 1002 by omega) (by decide), fun o ho => ?_⟩
    have gO : Go T D0 H (upd H o (.lst ((Txt.split x ".").map V.str))) := (Go.rfl' tg).new ho
    generalize hH1 : upd H o (.lst ((Txt.split x ".").map V.str)) = H1 at gO ⊢
    have eo : H1 o = some (.lst ((Txt.split x ".").map V.str)) := by rw [← hH1]; exact upd_same
    have hO : SqL K H1 o ((Txt.split x ".").map V.str) := .inl (.inl eo)
    refine ⟨.ref o, rfl, o, _, rfl, .inl hO, .int m, rfl, rfl, _, rfl, ite2 (fun e1 => iteT (q0 _ gO (parts_len hm ?_))) (fun e1 => ?_)⟩
    · intro z
      rw [List.length_map, z] at e1
      simp at e1
    have e2 : ((Txt.split x ".").length : Int) = m := by
      have := V.int.inj (of_decide_eq_true (notnot e1))
      rw [List.length_map] at this
      exact this
    obtain ⟨a, rest, hab⟩ : ∃ a rest, Txt.split x "." = a :: rest := by
      cases hq : Txt.split x "." with
      | nil =>
        rw [hq] at e2
        simp at e2
        omega
      | cons a r => exact ⟨a, r, rfl⟩
    have lenP : ∀ p ∈ a :: rest, p.length ≤ 1000 ∧ Asc p := fun p hp => by
      rw [← hab] at hp
      exact ⟨Nat.le_trans (sepDot.len hp) hx, fun c hc => asc c (sepDot.mem hp hc)⟩
    rw [hab] at eo hO
    refine ⟨.ref o, rfl, o, _, 0, .str a, rfl, rfl, hO, atI_nat (j := 0) rfl, a, rfl, (lenP a (List.mem_cons_self ..)).1, gO.1, fun H2 g2 => ⟨_, rfl, ite2 (fun e3 => iteT (q0 _ (gO.trans g2) (hand_no ?_ hab m))) (fun e3 => ?_)⟩⟩
    · have : wordOk a = false := by simpa using e3
      show (wordOk a && _) = false
      rw [this, Bool.false_and]
    have wA : wordOk a = true := notnot e3
    have g02 := gO.trans g2
    have hO2 : SqL K H2 o ((a :: rest).map V.str) := g2.seqL gO.1 (fun _ _ z => z) hO
    refine ⟨.ref o, rfl, o, _, 0, .str a, rfl, rfl, hO2, atI_nat (j := 0) rfl, by show 3 ≤ sizeLine; decide, fun l hl => ⟨l, noHands, rfl, .inl (.inl (.inl upd_same)), rfl, rfl, _, rfl, ?_⟩⟩
    have g03 : Go T D0 H (upd H2 l (.lst [V.str "head", V.str "foot", V.str "none"])) := g02.new hl
    have hO3 : SqL K (upd H2 l (.lst [V.str "head", V.str "foot", V.str "none"])) o ((a :: rest).map V.str) := ((Go.rfl' (D := D0) g02.1).new hl).seqL g02.1 (fun _ _ z => z) hO2
    generalize upd H2 l (.lst [V.str "head", V.str "foot", V.str "none"]) = H3 at g03 hO3 ⊢
    refine ite2 (fun e4 => q0 _ g03 (hand_no ?_ hab m)) (fun e4 => ?_)
    · show (wordOk a && !inV (.str a) noHands) = false
      rw [show inV (.str a) noHands = true from e4, Bool.not_true, Bool.and_false]
    have hA : handV (.str a) = true := by
      show (wordOk a && !inV (.str a) noHands) = true
      rw [wA, show inV (.str a) noHands = false from Bool.eq_false_iff.mpr e4] <;> rfl
    -- the numbers
    refine ⟨.ref o, rfl, 1, rfl, o, _, rfl, hO3, fun S hS => ?_⟩
    have cut : cutV ((a :: rest).map V.str) (some 1) none = rest.map V.str := by
      unfold cutV
      rw [show HT.sIx ((a :: rest).map V.str).length 0 (some 1) = min 1 ((a :: rest).map V.str).length from HT.sIx_nat _ 0 1, HT.sIx_none]
      rw [List.map_cons, List.length_cons, show min 1 ((rest.map V.str).length + 1) = 1 by omega, List.drop_succ_cons, List.drop_zero, Nat.add_sub_cancel]
      exact List.take_length
    rw [cut]
    have g04 : Go T D0 H (upd H3 S (.lst (rest.map V.str))) := g03.new hS
    have hO4 : SqL K (upd H3 S (.lst (rest.map V.str))) o ((a :: rest).map V.str) := ((Go.rfl' (D := D0) g03.1).new hS).seqL g03.1 (fun _ _ z => z) hO3
    have hS4 : SqL K (upd H3 S (.lst (rest.map V.str))) S (rest.map V.str) := .inl (.inl upd_same)
    generalize upd H3 S (.lst (rest.map V.str)) = H4 at g04 hO4 hS4 ⊢
    refine ⟨S, rfl, ⟨_, hS4⟩, fun D hD => ?_⟩
    refine lc_list (K := K) (a := S) (xs := rest.map V.str) (fun i H5 => Go T D0 H4 H5 ∧ H5 D = some (.lst ((rest.take i).map nv))) ⟨(Go.rfl' g04.1).new hD, upd_same⟩ (fun i H5 _ h => h.1.seqL g04.1 (fun _ _ z => z) hS4) ?_ ?_
    · rintro i v H5 hv ⟨g5, hD5⟩
      obtain ⟨hi, ev⟩ := List.getElem?_eq_some_iff.mp hv
      have hi' : i < rest.length := by rw [List.length_map] at hi; exact hi
      have ev' : v = .str rest[i] := by rw [← ev, List.getElem_map]
      subst ev'
      have lp := lenP rest[i] (List.mem_cons_of_mem _ (List.getElem_mem hi'))
      refine ⟨rfl, _, rfl, rest[i], rfl, lp.1, lp.2, g5.1, fun H6 g6 => ⟨(rest.take i).map nv, g6.at g5.1 (fun z => z) hD5, ?_, ?_, ?_⟩⟩
      · rw [List.length_map, List.length_take]
        have : rest.length ≤ 10 := by
          rw [hab] at e2
          simp at e2
          omega
        exact Nat.lt_of_le_of_lt (show min i rest.length ≤ 10 by omega) (by decide)
      · exact (g5.trans g6).put hD (g6.at g5.1 (fun z => z) hD5)
      · rw [upd_same, List.take_add_one, List.getElem?_eq_getElem hi', List.map_append]
        rfl
    · rintro H5 ⟨g5, hD5⟩
      rw [List.length_map, List.take_length] at hD5
      have g05 := g04.trans g5
      have hD5' : SqL K H5 D (rest.map nv) := .inl (.inl hD5)
      have hO5 := g5.seqL g04.1 (fun _ _ z => z) hO4
      have flat : (rest.map nv).all flatV = true := by
        rw [List.all_map]
        refine List.all_eq_true.mpr fun p _ => ?_
        show flatV (nv p) = true
        rcases nv_cases p with e | ⟨n, e, _⟩ <;> rw [e] <;> rfl
      refine ⟨.ref D, rfl, D, _, rfl, .inl hD5', rfl, flat, _, rfl, ?_⟩
      have two : (m = 2 ∧ ∃ b, rest = [b]) ∨ (m = 3 ∧ ∃ b c, rest = [b, c]) := by
        rw [hab] at e2
        simp only [List.length_cons] at e2
        rcases hm with rfl | rfl
        · left
          refine ⟨rfl, ?_⟩
          match rest, e2 with
          | [b], _ => exact ⟨b, rfl⟩
          | [], h => simp at h
          | _ :: _ :: _, h => simp at h; omega
        · right
          refine ⟨rfl, ?_⟩
          match rest, e2 with
          | [b, c], _ => exact ⟨b, c, rfl⟩
          | [], h => simp at h
          | [_], h => simp at h
          | _ :: _ :: _ :: _, h => simp at h; omega
      have res : partsV x m = if ((rest.all fun p => (numT p).isSome) && amgV (nv (rest.headD "")) 1 999) = true then some (.str a :: rest.map nv) else none := by
        rcases two with ⟨rfl, b, rfl⟩ | ⟨rfl, b, c, rfl⟩
        · unfold partsV nameS
          rw [if_pos rfl, hab]
          exact res2 hA
        · unfold partsV line3
          rw [if_neg (by decide), hab]
          exact res3 hA
      rw [show (if false = true then !inV V.non (rest.map nv) else inV V.non (rest.map nv)) = !(rest.all fun p => (numT p).isSome) from noneIn rest]
      refine ite2 (fun e5 => q0 _ g05 ?_) (fun e5 => ?_)
      · have : (rest.all fun p => (numT p).isSome) = false := by simpa using e5
        rw [res, this, Bool.false_and, if_neg Bool.false_ne_true]
      · have al : (rest.all fun p => (numT p).isSome) = true := notnot e5
        obtain ⟨b, r2, hb⟩ : ∃ b r2, rest = b :: r2 := by
          rcases two with ⟨_, b, rfl⟩ | ⟨_, b, c, rfl⟩
          · exact ⟨b, [], rfl⟩
          · exact ⟨b, [c], rfl⟩
        have hbs : (numT b).isSome = true := by
          rw [hb] at al
          exact (Bool.and_eq_true_iff.mp al).1
        obtain ⟨n, en, h1, h2, hn⟩ : ∃ n : Int, nv b = .int n ∧ 1 ≤ n ∧ n < 1000000 ∧ numT b = some n := by
          rcases nv_cases b with e | h
          · rw [numT_non e] at hbs
            cases hbs
          · exact h
        have hd : rest.headD "" = b := by rw [hb]; rfl
        refine ⟨.ref D, rfl, D, rest.map nv, 0, .int n, rfl, rfl, hD5', atI_nat (j := 0) (by rw [hb, ← en]; rfl), n, 999, rfl, rfl, _, rfl, ite2 (fun e6 => q0 _ g05 ?_) (fun e6 => ?_)⟩
        · have : amgV (nv (rest.headD "")) 1 999 = false := by
            rw [hd, en]
            show (decide (1 ≤ n) && decide (n ≤ 999)) = false
            have := of_decide_eq_true e6
            rw [decide_eq_false (show ¬ n ≤ 999 by omega), Bool.and_false]
          rw [res, this, Bool.and_false, if_neg Bool.false_ne_true]
        · have : amgV (nv (rest.headD "")) 1 999 = true := by
            rw [hd, en]
            show (decide (1 ≤ n) && decide (n ≤ 999)) = true
            have : ¬ (999 : Int) < n := fun z => e6 (decide_eq_true z)
            rw [decide_eq_true h1, decide_eq_true (show n ≤ 999 by omega)] <;> rfl
          rw [this, al] at res
          refine ⟨.ref o, rfl, o, _, 0, .str a, rfl, rfl, hO5, atI_nat (j := 0) rfl, by show 1 ≤ sizeLine; decide, fun L hL => ?_⟩
          have nLD : D ≠ L := ne_of_none hD5 hL
          have g06 : Go T D0 H (upd H5 L (.lst [.str a])) := g05.new hL
          refine ⟨.ref D, rfl, L, D, [.str a], rest.map nv, rfl, rfl, upd_same, (upd_ne nLD).trans hD5, ?_, fun L2 hL2 => ?_⟩
          · rw [List.length_map]
            have : rest.length ≤ 10 := by
              rw [hab] at e2
              simp at e2
              omega
            exact Nat.le_trans (show [V.str a].length + rest.length ≤ 11 by simp; omega) (by decide)
          · refine ⟨L2, _, rfl, .inl ⟨.inl (.inl upd_same), fun p hp => ?_⟩⟩
            exact q1 _ p _ ((g06.new hL2).new hp) res upd_same
end
end K1
set_option Elab.async false
set_option linter.all false
set_option maxRecDepth 100000
set_option maxHeartbeats 4000000
/-! The law's own defs: whether one text is told right. -/
namespace K1
open PySem PySem.Spec PyProof.Rows L2

/-- None, or a tuple of these -/
def Told (K : PySem.W.Frag) (H : Hp) (v : V) : Option (List V) → Prop
  | none => v = .non
  | some xs => ∃ p, v = .ref p ∧ SqT K H p xs
def dOf : Option (List V) → PyData
  | none => .none
  | some xs => .tuple (xs.map pd)
def OkO (o : Option (List V)) : Prop := ∀ xs, o = some xs → xs.all okV = true
theorem Told.go {K : PySem.W.Frag} {T : Tp} {H H1 : Hp} {v : V} {o : Option (List V)} (h : Told K H v o) (g : Go T D0 H H1) (t : TG T H) : Told K H1 v o := by
  cases o with
  | none => exact h
  | some xs =>
    obtain ⟨p, rfl, s⟩ := h
    exact ⟨p, rfl, g.seqT t (fun _ _ z => z) s⟩
theorem Told.dp {K : PySem.W.Frag} {H : Hp} {v : V} {o : Option (List V)} (h : Told K H v o) (k : OkO o) : Dp K H v (dOf o) := by
  cases o with
  | none =>
    cases (show v = .non from h)
    exact .non
  | some xs =>
    obtain ⟨p, rfl, s⟩ := h
    exact dp_tup s (k xs rfl)
theorem dOf_sh {o : Option (List V)} (k : OkO o) : SeqAt.shaped (dOf o) = true := by
  cases o with
  | none => rfl
  | some xs => exact sh_tup (k xs rfl)
theorem numV_ok (x : Str) : okV (numV (.str x)) = true := by
  rcases nv_cases x with e | ⟨n, e, _⟩
  · show okV (nv x) = true
    rw [e]
    rfl
  · show okV (nv x) = true
    rw [e]
    rfl
theorem word_asc {a : Str} (h : wordOk a = true) : Asc a := by
  intro c hc
  have h2 := (Bool.and_eq_true_iff.mp h).2
  have h3 : c ∈ TL.tl ltrs := of_decide_eq_true (List.all_eq_true.mp h2 c hc)
  have e : TL.tl ltrs = [97, 98, 99, 100, 101, 102, 103, 104, 105, 106, 107, 108, 109, 110, 111, 112, 113, 114, 115, 116, 117, 118, 119, 120, 121, 122] := by decide +kernel
  rw [e] at h3
  simp only [List.mem_cons, List.not_mem_nil, or_false] at h3
  omega
theorem hand_word {a : Str} (h : handV (.str a) = true) : wordOk a = true := (Bool.and_eq_true_iff.mp h).1
theorem word_ne {a : Str} (h : wordOk a = true) : ¬ a = "" := by
  rintro rfl
  revert h
  decide +kernel
/-- a name as it is told -/
theorem nameS_some {x : Str} {xs : List V} (h : nameS x = some xs) : ∃ a i, xs = [.str a, .int i] ∧ handV (.str a) = true ∧ a.length ≤ x.length ∧ 1 ≤ i ∧ i < 1000000 ∧ a ++ "." ++ Str.ofString (toString i) = x := by
  unfold nameS at h
  split at h
  · rename_i a b e
    split at h
    · rename_i q
      cases h
      have q1 := Bool.and_eq_true_iff.mp (show (handV (.str a) && amgV (nv b) 1 999) = true from q)
      rcases nv_cases b with e9 | ⟨n, e9, h1, h2, en⟩
      · rw [e9] at q1
        exact absurd q1.2 (by decide)
      · refine ⟨a, n, by show [V.str a, nv b] = _; rw [e9], q1.1, sepDot.len (by rw [e]; simp), h1, h2, ?_⟩
        rw [(numT_some en).1.1]
        exact sepDot.two e
    · cases h
  · cases h
theorem line3_some {x : Str} {xs : List V} (h : line3 x = some xs) : ∃ a i j, xs = [.str a, .int i, .int j] ∧ handV (.str a) = true ∧ a.length ≤ x.length ∧ (1 ≤ i ∧ i < 1000000) ∧ (1 ≤ j ∧ j < 1000000) ∧
    a ++ "." ++ Str.ofString (toString i) ++ "." ++ Str.ofString (toString j) = x := by
  unfold line3 at h
  split at h
  · rename_i a b c e
    split at h
    · rename_i q
      cases h
      have q0 := Bool.and_eq_true_iff.mp (show ((handV (.str a) && amgV (nv b) 1 999) && geOne (nv c)) = true from q)
      have q1 := Bool.and_eq_true_iff.mp q0.1
      rcases nv_cases b with e9 | ⟨n, e9, h1, h2, en⟩
      · rw [e9] at q1
        exact absurd q1.2 (by decide)
      rcases nv_cases c with e8 | ⟨n2, e8, h3, h4, en2⟩
      · rw [e8] at q0
        exact absurd q0.2 (by decide)
      refine ⟨a, n, n2, by show [V.str a, nv b, nv c] = _; rw [e9, e8], q1.1, sepDot.len (by rw [e]; simp), ⟨h1, h2⟩, ⟨h3, h4⟩, ?_⟩
      rw [(numT_some en).1.1, (numT_some en2).1.1]
      exact sepDot.three e
    · cases h
  · cases h
theorem lineS_some {x : Str} {xs : List V} (h : lineS x = some xs) (hx : x.length ≤ 1000) : ∃ a i j, xs = [.str a, .int i, .int j] ∧ PyData.strOk a = true ∧ a.length ≤ 1000000 ∧ (0 ≤ i ∧ i < 1000000) ∧ (0 ≤ j ∧ j < 1000000) ∧ lineTxt xs = some x := by
  rw [lineS_eq] at h
  split at h
  · rename_i e
    cases h
    exact ⟨"", 0, 0, rfl, by decide +kernel, by decide +kernel, by decide, by decide, by rw [e]; decide +kernel⟩
  · split at h
    · rename_i e
      cases h
      exact ⟨"", 0, 1, rfl, by decide +kernel, by decide +kernel, by decide, by decide, by rw [e]; decide +kernel⟩
    · obtain ⟨a, i, j, rfl, ha, hl, hi, hj, e⟩ := line3_some h
      have ne := word_ne (hand_word ha)
      refine ⟨a, i, j, rfl, (word_asc (hand_word ha)).ok, by omega, ⟨by omega, hi.2⟩, ⟨by omega, hj.2⟩, ?_⟩
      show (if [V.str a, .int i, .int j] = [.str "", .int 0, .int 0] then _ else if [V.str a, .int i, .int j] = [.str "", .int 0, .int 1] then _ else some _) = _
      rw [if_neg, if_neg, e]
      · intro z
        injection z with z _
        injection z with z
        exact ne z
      · intro z
        injection z with z _
        injection z with z
        exact ne z
theorem nameS_ok (x : Str) : OkO (nameS x) := by
  intro xs h
  obtain ⟨a, i, rfl, ha, _⟩ := nameS_some h
  show (PyData.strOk a && true) = true
  rw [(word_asc (hand_word ha)).ok] <;> rfl
theorem lineS_ok {x : Str} (hx : x.length ≤ 1000) : OkO (lineS x) := by
  intro xs h
  obtain ⟨a, i, j, rfl, ha, _⟩ := lineS_some h hx
  show (PyData.strOk a && true) = true
  rw [ha] <;> rfl

section
variable {P : Program} {w : World} {K : PySem.W.Frag} {mg : Str → Option Value} {base : Heap} {T : Tp}

/-! ### the promises, in one way each -/
def spParts2 (K : PySem.W.Frag) (T : Tp) : Sp := fun vs H Q _ => ∃ (x : Str) (m : Int), vs = [.str x, .int m] ∧ (m = 2 ∨ m = 3) ∧ x.length ≤ 1000 ∧ Asc x ∧ TG T H ∧ ∀ H' v, Go T D0 H H' → Told K H' v (partsV x m) → Q v H'
def spName2 (K : PySem.W.Frag) (T : Tp) : Sp := fun vs H Q _ => ∃ x : Str, vs = [.str x] ∧ x.length ≤ 1000 ∧ TG T H ∧ ∀ H' v, Go T D0 H H' → Told K H' v (nameS x) → Q v H'
def spLine2 (K : PySem.W.Frag) (T : Tp) : Sp := fun vs H Q _ => ∃ x : Str, vs = [.str x] ∧ x.length ≤ 1000 ∧ TG T H ∧ ∀ H' v, Go T D0 H H' → Told K H' v (lineS x) → Q v H'
theorem Cal.imp {k : Nat} {x : Str} {ps : List Str} {sp sp' : Sp} (C : Cal P w K mg base k x ps sp) (h : ∀ vs H Q E, sp' vs H Q E → sp vs H Q E) : Cal P w K mg base k x ps sp' := by
  obtain ⟨f, fd, F, r⟩ := C.ex
  exact ⟨f, fd, F.imp h, r⟩
theorem parts2 {k : Nat} (C : Cal P w K mg base k "_law_parts" ["_law_word_here", "_law_many"] (spLParts T)) : Cal P w K mg base k "_law_parts" ["_law_word_here", "_law_many"] (spParts2 K T) :=
  C.imp fun vs H Q E ⟨x, m, e, hm, hx, asc, tg, q⟩ => ⟨x, m, e, hm, hx, asc, tg, fun H' g h => q H' .non g (by rw [h]; rfl), fun H' p xs g h hp => q H' (.ref p) g (by rw [h]; exact ⟨p, rfl, .inl (.inl hp)⟩)⟩
theorem small_of {x : Str} (hx : x.length ≤ 1000) : Small (.str x) := fun y e => by
  cases e
  omega
theorem le_sz {n : Nat} (h : n ≤ 1000) : n ≤ sizeLine := Nat.le_trans h (by decide)
theorem name2 {k : Nat} (C : Cal P w K mg base k "name_of" ["word"] (spNameO (K := K) T)) : Cal P w K mg base k "name_of" ["word"] (spName2 K T) :=
  C.imp fun vs H Q E ⟨x, e, hx, tg, q⟩ => ⟨.str x, "str", e, .str x (le_sz hx), small_of hx, tg, fun H' g h => q H' .non g (by rw [show nameS x = none from h]; rfl), fun H' p xs g h hp => q H' (.ref p) g (by rw [show nameS x = some xs from h]; exact ⟨p, rfl, hp⟩)⟩
theorem line2 {k : Nat} (C : Cal P w K mg base k "line_of" ["word"] (spLineO (K := K) T)) : Cal P w K mg base k "line_of" ["word"] (spLine2 K T) :=
  C.imp fun vs H Q E ⟨x, e, hx, tg, q⟩ => ⟨.str x, "str", e, .str x (le_sz hx), small_of hx, tg, fun H' g h => q H' .non g (by rw [show lineS x = none from h]; rfl), fun H' p xs g h hp => q H' (.ref p) g (by rw [show lineS x = some xs from h]; exact ⟨p, rfl, hp⟩)⟩

/-! ### _law_one -/
def spLOne (T : Tp) : Sp := fun vs H Q _ => ∃ x : Str, vs = [.str x] ∧ x.length ≤ 1000 ∧ Asc x ∧ TG T H ∧ ∀ H', Go T D0 H H' → Q (.bl true) H'
def kvs2 (t1 t2 : Addr) : List (Key × V) := [(.inr ("head" : Str), .ref t1), (.inr ("foot" : Str), .ref t2)]
theorem merge2 (t1 t2 : Addr) : mergeK [] (kvs2 t1 t2) = kvs2 t1 t2 := by
  have ne : ¬ (Sum.inr ("head" : Str) : Key) = Sum.inr ("foot" : Str) := by decide +kernel
  show putK (putK ([] : List (Key × V)) (Sum.inr ("head" : Str) : Key) (V.ref t1)) (Sum.inr ("foot" : Str) : Key) (V.ref t2) = _
  rw [putK_new (κ := Key) (V.ref t1) valV_nil, List.nil_append, putK_new (κ := Key) (V.ref t2) ((valV_neg ne).trans valV_nil)] <;> rfl
theorem ok_lone {f : Addr} {fd : FuncData} {k : Nat} (F : Fun K "_law_one" "_law_one" sLOne f fd) (M : Mg K mg)
    (cP : Cal P w K mg base k "_law_parts" ["_law_word_here", "_law_many"] (spLParts T)) (cLN : Cal P w K mg base k "_law_number" ["_law_word_here"] (spLNum T)) (cLI : Cal P w K mg base k "_law_is_word" ["_law_word_here"] (spLIsWord T))
    (cU : Cal P w K mg base k "number_of" ["word"] (spNumO T)) (cNO : Cal P w K mg base k "name_of" ["word"] (spNameO (K := K) T)) (cLO : Cal P w K mg base k "line_of" ["word"] (spLineO (K := K) T))
    (cNT : Cal P w K mg base k "name_text" ["name"] (spNameT K)) (cLT : Cal P w K mg base k "line_text" ["line"] (spLineT K)) (cW : Cal P w K mg base k "is_word" ["thing"] (spWord T)) (cH : Cal P w K mg base k "is_hand" ["thing"] (spHand T)) :
    FnOk P w K mg base CX0 (k + 1) f fd ["_law_word_here"] (spLOne T) := by
  refine F.ok scLOne (fun vs H Q E h => ?_) (fun cdv A outer s H vs Q E hr h => ?_)
  · obtain ⟨x, rfl, _⟩ := h
    rfl
  · obtain ⟨x, rfl, hx, asc, tg, q⟩ := h
    have hu := hu_of hr
    refine ⟨_, pss_cons (ps_set (i := 1) scLOne.nd rfl (.inl rfl) (pe_dget2 hu (pe_disp (pps_cons pe_str (pe_tup (pa_cons pe_str (pa_cons pe_int (pa_cons pe_int pa_nil)))) (pps_cons pe_str (pe_tup (pa_cons pe_str (pa_cons pe_int (pa_cons pe_int pa_nil)))) pps_nil)) (by rfl) (by rfl) (fun z => by cases z) (by decide))
        (pv 0) (pe_cal (parts2 cP) hr (by rfl) (pa_cons (pv 0) (pa_cons pe_int pa_nil))) ⟨by rfl, by rfl, by rfl, by rfl⟩))
      (pss_cons (ps_if (PW.pt (pw_or (pt_cmpR (op_neD hr.units) (pe_cal cU hr (by rfl) (pa_cons (pv 0) pa_nil)) (pe_cal cLN hr (by rfl) (pa_cons (pv 0) pa_nil)) (nomark _))
          (pw_or (pt_cmpR (op_neD hr.units) (pe_cal (name2 cNO) hr (by rfl) (pa_cons (pv 0) pa_nil)) (pe_cal (parts2 cP) hr (by rfl) (pa_cons (pv 0) (pa_cons pe_int pa_nil))) (nomark _))
            (pw_or1 (pt_cmpR (op_neD hr.units) (pe_cal (line2 cLO) hr (by rfl) (pa_cons (pv 0) pa_nil)) (pv 1) (nomark _))))))
        (pss_one (ps_ret pe_bl)) pss_nil)
      (pss_cons (ps_if (PW.pt (pw_and (pt_cmpR op_notN (pv 1) pe_non (nomark _)) (pw_and1 (pt_cmpR op_ne (pe_cal cLT hr (by rfl) (pa_cons (pv 1) pa_nil)) (pv 0) (nomark _)))))
        (pss_one (ps_ret pe_bl)) pss_nil)
      (pss_cons (ps_if (PW.pt (pw_and (pt_cmpR op_notN (pe_cal (name2 cNO) hr (by rfl) (pa_cons (pv 0) pa_nil)) pe_non (nomark _)) (pw_and1 (pt_cmpR op_ne (pe_cal cNT hr (by rfl) (pa_cons (pe_cal (name2 cNO) hr (by rfl) (pa_cons (pv 0) pa_nil)) pa_nil)) (pv 0) (nomark _)))))
        (pss_one (ps_ret pe_bl)) pss_nil)
      (pss_cons (ps_set (i := 2) scLOne.nd rfl (.inl rfl) (pe_and (pe_cal cLI hr (by rfl) (pa_cons (pv 0) pa_nil)) (pe_one (pe_cmpR op_notIn_seq (pv 0) (pe_lst (pa_cons pe_str (pa_cons pe_str (pa_cons pe_str pa_nil)))) (by rfl)))))
      (pss_one (ps_ret (pe_and (pe_cmpR op_eq (pe_cal cW hr (by rfl) (pa_cons (pv 0) pa_nil)) (pe_cal cLI hr (by rfl) (pa_cons (pv 0) pa_nil)) (nomark _))
        (pe_one (pe_cmpR op_eq (pe_cal cH hr (by rfl) (pa_cons (pv 0) pa_nil)) (pv 2) (nomark _)))))))))), ?_⟩
    have thx : ∀ H1, Th H1 (.str x) "str" := fun H1 => .str x (le_sz hx)
    intro p hp
    have gp : Go T D0 H (upd H p (.dK [])) := (Go.rfl' tg).new hp
    generalize hHp : upd H p (.dK []) = Hp at gp ⊢
    have ep : Hp p = some (.dK []) := by rw [← hHp]; exact upd_same
    refine ⟨by show 3 ≤ sizeLine; decide, fun t1 h1 => ⟨by show 3 ≤ sizeLine; decide, fun t2 h2 => ?_⟩⟩
    have g1 := gp.new (o := .tup [V.str "", .int 0, .int 0]) h1
    have g2 := g1.new (o := .tup [V.str "", .int 0, .int 1]) h2
    have n1 : p ≠ t1 := ne_of_none ep h1
    have ep1 : (upd Hp t1 (.tup [V.str "", .int 0, .int 0])) p = some (.dK []) := (upd_ne n1).trans ep
    have n2 : p ≠ t2 := ne_of_none ep1 h2
    have ep2 : (upd (upd Hp t1 (.tup [V.str "", .int 0, .int 0])) t2 (.tup [V.str "", .int 0, .int 1])) p = some (.dK []) := (upd_ne n2).trans ep1
    have n12 : t1 ≠ t2 := ne_of_none upd_same h2
    refine ⟨ep2, kvs2 t1 t2, rfl, by show 2 ≤ 15; decide, ?_⟩
    rw [merge2]
    have g3 : Go T D0 H (upd (upd (upd Hp t1 (.tup [V.str "", .int 0, .int 0])) t2 (.tup [V.str "", .int 0, .int 1])) p (.dK (kvs2 t1 t2))) := g2.put hp ep2
    have e1 : (upd (upd (upd Hp t1 (.tup [V.str "", .int 0, .int 0])) t2 (.tup [V.str "", .int 0, .int 1])) p (.dK (kvs2 t1 t2))) t1 = some (.tup [V.str "", .int 0, .int 0]) := (upd_ne n1.symm).trans ((upd_ne n12).trans upd_same)
    have e2 : (upd (upd (upd Hp t1 (.tup [V.str "", .int 0, .int 0])) t2 (.tup [V.str "", .int 0, .int 1])) p (.dK (kvs2 t1 t2))) t2 = some (.tup [V.str "", .int 0, .int 1]) := (upd_ne n2.symm).trans upd_same
    have e3 : (upd (upd (upd Hp t1 (.tup [V.str "", .int 0, .int 0])) t2 (.tup [V.str "", .int 0, .int 1])) p (.dK (kvs2 t1 t2))) p = some (.dK (kvs2 t1 t2)) := upd_same
    generalize upd (upd (upd Hp t1 (.tup [V.str "", .int 0, .int 0])) t2 (.tup [V.str "", .int 0, .int 1])) p (.dK (kvs2 t1 t2)) = H3 at g3 e1 e2 e3 ⊢
    refine ⟨p, rfl, .inl ⟨_, .inl e3⟩, .str x, rfl, .str x, rfl, x, 3, rfl, .inr rfl, hx, asc, g3.1, fun H4 lv g4 tl4 => ?_⟩
    have g04 := g3.trans g4
    obtain ⟨o, dg, tl⟩ : ∃ o, DGet H4 p (.str x) o ∧ Told K H4 (o.getD lv) (lineS x) := by
      have d4 : H4 p = some (.dK (kvs2 t1 t2)) := g4.at g3.1 (fun z => z) e3
      refine ⟨_, DGet.k (k := .inr x) d4, ?_⟩
      have a4 : H4 t1 = some (.tup [V.str "", .int 0, .int 0]) := g4.at g3.1 (fun z => z) e1
      have b4 : H4 t2 = some (.tup [V.str "", .int 0, .int 1]) := g4.at g3.1 (fun z => z) e2
      rw [lineS_eq]
      by_cases q1 : x = "head"
      · rw [if_pos q1, show valV (kvs2 t1 t2) (Sum.inr x) = some (.ref t1) from valV_pos (by rw [q1])]
        exact ⟨t1, rfl, .inl (.inl a4)⟩
      · have nh : ¬ (Sum.inr ("head" : Str) : Key) = Sum.inr x := fun z => q1 (Sum.inr.inj z).symm
        rw [if_neg q1]
        by_cases q2 : x = "foot"
        · rw [if_pos q2, show valV (kvs2 t1 t2) (Sum.inr x) = some (.ref t2) from (valV_neg nh).trans (valV_pos (by rw [q2]))]
          exact ⟨t2, rfl, .inl (.inl b4)⟩
        · have nf : ¬ (Sum.inr ("foot" : Str) : Key) = Sum.inr x := fun z => q2 (Sum.inr.inj z).symm
          rw [if_neg q2, show valV (kvs2 t1 t2) (Sum.inr x) = none from (valV_neg nh).trans ((valV_neg nf).trans valV_nil)]
          have : partsV x 3 = line3 x := if_neg (by decide)
          rw [← this]
          exact tl4
    refine ⟨o, dg, ?_⟩
    generalize o.getD lv = ln at tl ⊢
    -- number_of
    refine ⟨.str x, rfl, .str x, "str", rfl, thx _, g04.1, fun H5 g5 => ⟨.str x, rfl, x, rfl, hx, asc, g5.1, fun H6 g6 => ?_⟩⟩
    have k1 := numV_ok x
    refine ⟨_, _, pd_dp k1, pd_dp k1, sh_flat k1, sh_flat k1, _, rfl, ?_⟩
    rw [eqv_self (sh_flat k1)]
    refine iteF ?_
    -- name_of
    refine ⟨.str x, rfl, x, rfl, hx, g6.1, fun H7 v7 g7 t7 => ⟨.str x, rfl, x, 2, rfl, .inl rfl, hx, asc, g7.1, fun H8 v8 g8 t8 => ?_⟩⟩
    have t8' : Told K H8 v8 (nameS x) := by
      have : partsV x 2 = nameS x := if_pos rfl
      rw [← this]
      exact t8
    refine ⟨_, _, (t7.go g8 g7.1).dp (nameS_ok x), t8'.dp (nameS_ok x), dOf_sh (nameS_ok x), dOf_sh (nameS_ok x), _, rfl, ?_⟩
    rw [eqv_self (dOf_sh (nameS_ok x))]
    refine iteF ?_
    -- line_of
    have g48 : Go T D0 H4 H8 := ((g5.trans g6).trans g7).trans g8
    refine ⟨.str x, rfl, x, rfl, hx, g8.1, fun H9 v9 g9 t9 => ⟨ln, rfl, ?_⟩⟩
    have tl9 : Told K H9 ln (lineS x) := tl.go (g48.trans g9) g04.1
    refine ⟨_, _, t9.dp (lineS_ok hx), tl9.dp (lineS_ok hx), dOf_sh (lineS_ok hx), dOf_sh (lineS_ok hx), _, rfl, ?_⟩
    rw [eqv_self (dOf_sh (lineS_ok hx))]
    refine iteF ?_
    have g09 := g04.trans (g48.trans g9)
    have lineStep : lineS x = none ∧ ln = .non ∨ ∃ p a i j, lineS x = some [.str a, .int i, .int j] ∧ ln = .ref p ∧ SqT K H9 p [.str a, .int i, .int j] ∧ PyData.strOk a = true ∧ a.length ≤ 1000000 ∧ (0 ≤ i ∧ i < 1000000) ∧ (0 ≤ j ∧ j < 1000000) ∧ lineTxt [.str a, .int i, .int j] = some x := by
      cases hL : lineS x with
      | none =>
        rw [hL] at tl9
        exact .inl ⟨rfl, tl9⟩
      | some xs =>
        rw [hL] at tl9
        obtain ⟨p, e, S⟩ := tl9
        obtain ⟨a, i, j, rfl, h1, h2, h3, h4, h5⟩ := lineS_some hL hx
        exact .inr ⟨p, a, i, j, rfl, e, S, h1, h2, h3, h4, h5⟩
    have same : ∀ z : Str, decide (V.str z = V.str z) = true := fun z => decide_eq_true rfl
    rcases lineStep with ⟨hL, rfl⟩ | ⟨p', a, i, j, hL, rfl, S, o1, o2, o3, o4, o5⟩
    · refine ⟨_, rfl, rfl, _, rfl, iteF (iteF ?_)⟩
      refine ⟨.str x, rfl, x, rfl, hx, g09.1, fun H10 v10 g10 t10 => ?_⟩
      have g010 := g09.trans g10
      cases hN : nameS x with
      | none =>
        rw [hN] at t10
        cases (show v10 = .non from t10)
        refine ⟨rfl, _, rfl, iteF (iteF ?_)⟩
        have gc := g010
        refine ⟨.str x, rfl, x, rfl, hx, gc.1, fun H12 g12 => ⟨_, rfl, ite2 (fun e => ?_) (fun e => ?_)⟩⟩
        · refine ⟨.str x, rfl, by show 3 ≤ sizeLine; decide, fun l hl => ⟨l, noHands, rfl, .inl (.inl (.inl upd_same)), rfl, rfl, ?_⟩⟩
          have g013 := (gc.trans g12).new (o := .lst [V.str "head", V.str "foot", V.str "none"]) hl
          refine ⟨.str x, rfl, .str x, "str", rfl, thx _, g013.1, fun H14 g14 => ⟨.str x, rfl, x, rfl, hx, g14.1, fun H15 g15 => ⟨rfl, _, rfl, ?_⟩⟩⟩
          rw [show decide (V.bl (wordV (.str x)) = V.bl (wordOk x)) = true from decide_eq_true rfl]
          refine iteT ⟨.str x, rfl, .str x, "str", rfl, thx _, g15.1, fun H16 g16 => ⟨_, rfl, rfl, ?_⟩⟩
          have qq := q H16 (((g013.trans g14).trans g15).trans g16)
          rw [show (true : Bool) = decide (V.bl (handV (.str x)) = V.bl (handV (.str x))) from (decide_eq_true rfl).symm] at qq
          have eh : (!inV (.str x) noHands) = handV (.str x) := by
            show _ = (wordOk x && !inV (.str x) noHands)
            rw [e, Bool.true_and]
          rw [← eh] at qq ⊢
          exact qq
        · have g013 := gc.trans g12
          refine ⟨.str x, rfl, .str x, "str", rfl, thx _, g013.1, fun H14 g14 => ⟨.str x, rfl, x, rfl, hx, g14.1, fun H15 g15 => ⟨rfl, _, rfl, ?_⟩⟩⟩
          rw [show decide (V.bl (wordV (.str x)) = V.bl (wordOk x)) = true from decide_eq_true rfl]
          refine iteT ⟨.str x, rfl, .str x, "str", rfl, thx _, g15.1, fun H16 g16 => ⟨_, rfl, rfl, ?_⟩⟩
          have qq := q H16 (((g013.trans g14).trans g15).trans g16)
          rw [show (true : Bool) = decide (V.bl (handV (.str x)) = V.bl (handV (.str x))) from (decide_eq_true rfl).symm] at qq
          have eh : false = handV (.str x) := by
            show _ = (wordOk x && !inV (.str x) noHands)
            rw [Bool.eq_false_iff.mpr e, Bool.false_and]
          rw [← eh] at qq ⊢
          exact qq
      | some xs =>
        rw [hN] at t10
        obtain ⟨p10, rfl, S10⟩ := t10
        refine ⟨rfl, _, rfl, iteT ⟨.str x, rfl, x, rfl, hx, g010.1, fun H11 v11 g11 t11 => ?_⟩⟩
        rw [hN] at t11
        obtain ⟨p11, rfl, S11⟩ := t11
        obtain ⟨na, ni, rfl, nh, nl, n1, n2, ne⟩ := nameS_some hN
        refine ⟨p11, na, ni, rfl, S11, by omega, by omega, n2, .str x, rfl, rfl, _, rfl, ?_⟩
        rw [ne, same]
        refine iteF ?_
        have gc := g010.trans g11
        refine ⟨.str x, rfl, x, rfl, hx, gc.1, fun H12 g12 => ⟨_, rfl, ite2 (fun e => ?_) (fun e => ?_)⟩⟩
        · refine ⟨.str x, rfl, by show 3 ≤ sizeLine; decide, fun l hl => ⟨l, noHands, rfl, .inl (.inl (.inl upd_same)), rfl, rfl, ?_⟩⟩
          have g013 := (gc.trans g12).new (o := .lst [V.str "head", V.str "foot", V.str "none"]) hl
          refine ⟨.str x, rfl, .str x, "str", rfl, thx _, g013.1, fun H14 g14 => ⟨.str x, rfl, x, rfl, hx, g14.1, fun H15 g15 => ⟨rfl, _, rfl, ?_⟩⟩⟩
          rw [show decide (V.bl (wordV (.str x)) = V.bl (wordOk x)) = true from decide_eq_true rfl]
          refine iteT ⟨.str x, rfl, .str x, "str", rfl, thx _, g15.1, fun H16 g16 => ⟨_, rfl, rfl, ?_⟩⟩
          have qq := q H16 (((g013.trans g14).trans g15).trans g16)
          rw [show (true : Bool) = decide (V.bl (handV (.str x)) = V.bl (handV (.str x))) from (decide_eq_true rfl).symm] at qq
          have eh : (!inV (.str x) noHands) = handV (.str x) := by
            show _ = (wordOk x && !inV (.str x) noHands)
            rw [e, Bool.true_and]
          rw [← eh] at qq ⊢
          exact qq
        · have g013 := gc.trans g12
          refine ⟨.str x, rfl, .str x, "str", rfl, thx _, g013.1, fun H14 g14 => ⟨.str x, rfl, x, rfl, hx, g14.1, fun H15 g15 => ⟨rfl, _, rfl, ?_⟩⟩⟩
          rw [show decide (V.bl (wordV (.str x)) = V.bl (wordOk x)) = true from decide_eq_true rfl]
          refine iteT ⟨.str x, rfl, .str x, "str", rfl, thx _, g15.1, fun H16 g16 => ⟨_, rfl, rfl, ?_⟩⟩
          have qq := q H16 (((g013.trans g14).trans g15).trans g16)
          rw [show (true : Bool) = decide (V.bl (handV (.str x)) = V.bl (handV (.str x))) from (decide_eq_true rfl).symm] at qq
          have eh : false = handV (.str x) := by
            show _ = (wordOk x && !inV (.str x) noHands)
            rw [Bool.eq_false_iff.mpr e, Bool.false_and]
          rw [← eh] at qq ⊢
          exact qq
    · refine ⟨_, rfl, rfl, _, rfl, iteT ⟨_, rfl, p', a, i, j, rfl, S, o1, o2, o3.1, o3.2, o4.1, o4.2, fun z hz => ?_⟩⟩
      have ez : z = x := Option.some.inj (hz.symm.trans o5)
      rw [ez]
      refine ⟨.str x, rfl, rfl, _, rfl, ?_⟩
      rw [same]
      refine iteF ?_
      refine ⟨.str x, rfl, x, rfl, hx, g09.1, fun H10 v10 g10 t10 => ?_⟩
      have g010 := g09.trans g10
      cases hN : nameS x with
      | none =>
        rw [hN] at t10
        cases (show v10 = .non from t10)
        refine ⟨rfl, _, rfl, iteF (iteF ?_)⟩
        have gc := g010
        refine ⟨.str x, rfl, x, rfl, hx, gc.1, fun H12 g12 => ⟨_, rfl, ite2 (fun e => ?_) (fun e => ?_)⟩⟩
        · refine ⟨.str x, rfl, by show 3 ≤ sizeLine; decide, fun l hl => ⟨l, noHands, rfl, .inl (.inl (.inl upd_same)), rfl, rfl, ?_⟩⟩
          have g013 := (gc.trans g12).new (o := .lst [V.str "head", V.str "foot", V.str "none"]) hl
          refine ⟨.str x, rfl, .str x, "str", rfl, thx _, g013.1, fun H14 g14 => ⟨.str x, rfl, x, rfl, hx, g14.1, fun H15 g15 => ⟨rfl, _, rfl, ?_⟩⟩⟩
          rw [show decide (V.bl (wordV (.str x)) = V.bl (wordOk x)) = true from decide_eq_true rfl]
          refine iteT ⟨.str x, rfl, .str x, "str", rfl, thx _, g15.1, fun H16 g16 => ⟨_, rfl, rfl, ?_⟩⟩
          have qq := q H16 (((g013.trans g14).trans g15).trans g16)
          rw [show (true : Bool) = decide (V.bl (handV (.str x)) = V.bl (handV (.str x))) from (decide_eq_true rfl).symm] at qq
          have eh : (!inV (.str x) noHands) = handV (.str x) := by
            show _ = (wordOk x && !inV (.str x) noHands)
            rw [e, Bool.true_and]
          rw [← eh] at qq ⊢
          exact qq
        · have g013 := gc.trans g12
          refine ⟨.str x, rfl, .str x, "str", rfl, thx _, g013.1, fun H14 g14 => ⟨.str x, rfl, x, rfl, hx, g14.1, fun H15 g15 => ⟨rfl, _, rfl, ?_⟩⟩⟩
          rw [show decide (V.bl (wordV (.str x)) = V.bl (wordOk x)) = true from decide_eq_true rfl]
          refine iteT ⟨.str x, rfl, .str x, "str", rfl, thx _, g15.1, fun H16 g16 => ⟨_, rfl, rfl, ?_⟩⟩
          have qq := q H16 (((g013.trans g14).trans g15).trans g16)
          rw [show (true : Bool) = decide (V.bl (handV (.str x)) = V.bl (handV (.str x))) from (decide_eq_true rfl).symm] at qq
          have eh : false = handV (.str x) := by
            show _ = (wordOk x && !inV (.str x) noHands)
            rw [Bool.eq_false_iff.mpr e, Bool.false_and]
          rw [← eh] at qq ⊢
          exact qq
      | some xs =>
        rw [hN] at t10
        obtain ⟨p10, rfl, S10⟩ := t10
        refine ⟨rfl, _, rfl, iteT ⟨.str x, rfl, x, rfl, hx, g010.1, fun H11 v11 g11 t11 => ?_⟩⟩
        rw [hN] at t11
        obtain ⟨p11, rfl, S11⟩ := t11
        obtain ⟨na, ni, rfl, nh, nl, n1, n2, ne⟩ := nameS_some hN
        refine ⟨p11, na, ni, rfl, S11, by omega, by omega, n2, .str x, rfl, rfl, _, rfl, ?_⟩
        rw [ne, same]
        refine iteF ?_
        have gc := g010.trans g11
        refine ⟨.str x, rfl, x, rfl, hx, gc.1, fun H12 g12 => ⟨_, rfl, ite2 (fun e => ?_) (fun e => ?_)⟩⟩
        · refine ⟨.str x, rfl, by show 3 ≤ sizeLine; decide, fun l hl => ⟨l, noHands, rfl, .inl (.inl (.inl upd_same)), rfl, rfl, ?_⟩⟩
          have g013 := (gc.trans g12).new (o := .lst [V.str "head", V.str "foot", V.str "none"]) hl
          refine ⟨.str x, rfl, .str x, "str", rfl, thx _, g013.1, fun H14 g14 => ⟨.str x, rfl, x, rfl, hx, g14.1, fun H15 g15 => ⟨rfl, _, rfl, ?_⟩⟩⟩
          rw [show decide (V.bl (wordV (.str x)) = V.bl (wordOk x)) = true from decide_eq_true rfl]
          refine iteT ⟨.str x, rfl, .str x, "str", rfl, thx _, g15.1, fun H16 g16 => ⟨_, rfl, rfl, ?_⟩⟩
          have qq := q H16 (((g013.trans g14).trans g15).trans g16)
          rw [show (true : Bool) = decide (V.bl (handV (.str x)) = V.bl (handV (.str x))) from (decide_eq_true rfl).symm] at qq
          have eh : (!inV (.str x) noHands) = handV (.str x) := by
            show _ = (wordOk x && !inV (.str x) noHands)
            rw [e, Bool.true_and]
          rw [← eh] at qq ⊢
          exact qq
        · have g013 := gc.trans g12
          refine ⟨.str x, rfl, .str x, "str", rfl, thx _, g013.1, fun H14 g14 => ⟨.str x, rfl, x, rfl, hx, g14.1, fun H15 g15 => ⟨rfl, _, rfl, ?_⟩⟩⟩
          rw [show decide (V.bl (wordV (.str x)) = V.bl (wordOk x)) = true from decide_eq_true rfl]
          refine iteT ⟨.str x, rfl, .str x, "str", rfl, thx _, g15.1, fun H16 g16 => ⟨_, rfl, rfl, ?_⟩⟩
          have qq := q H16 (((g013.trans g14).trans g15).trans g16)
          rw [show (true : Bool) = decide (V.bl (handV (.str x)) = V.bl (handV (.str x))) from (decide_eq_true rfl).symm] at qq
          have eh : false = handV (.str x) := by
            show _ = (wordOk x && !inV (.str x) noHands)
            rw [Bool.eq_false_iff.mpr e, Bool.false_and]
          rw [← eh] at qq ⊢
          exact qq
end
end K1
set_option Elab.async false
set_option linter.all false
set_option maxRecDepth 100000
set_option maxHeartbeats 4000000
/-! The law's own defs: whether names and lines with a part otherwise are told right. -/
namespace K1
open PySem PySem.Spec PyProof.Rows L2


/-- a small flat thing -/
def smV : V → Bool
  | .non => true
  | .bl _ => true
  | .int _ => true
  | .str x => PyData.strOk x && decide (x.length ≤ 100)
  | _ => false
theorem smV_th {v : V} (h : smV v = true) (H : Hp) : ∃ n, Th H v n ∧ ∀ a, v ≠ .ref a := by
  cases v with
  | non => exact ⟨_, .non, fun a z => nomatch z⟩
  | bl b => exact ⟨_, .bl b, fun a z => nomatch z⟩
  | int i => exact ⟨_, .int i, fun a z => nomatch z⟩
  | str x =>
    have : x.length ≤ 100 := of_decide_eq_true (Bool.and_eq_true_iff.mp h).2
    exact ⟨_, .str x (Nat.le_trans this (by decide)), fun a z => nomatch z⟩
  | _ => cases h
theorem smV_flat {v : V} (h : smV v = true) : flatV v = true := by
  cases v <;> first | rfl | cases h
theorem smV_ok {v : V} (h : smV v = true) : okV v = true := by
  cases v with
  | str x => exact (Bool.and_eq_true_iff.mp h).1
  | _ => first | rfl | cases h
theorem pick {xs : List V} {r : Int} (h0 : 0 ≤ r) (h1 : r < xs.length) : ∃ v, v ∈ xs ∧ atI xs r = some v := by
  have hr : r.toNat < xs.length := by omega
  have e : ((r.toNat : Nat) : Int) = r := by omega
  refine ⟨xs[r.toNat], List.getElem_mem hr, ?_⟩
  have := atI_nat (xs := xs) (j := r.toNat) (List.getElem?_eq_getElem hr)
  rw [e] at this
  exact this

def hands : List V := [.str "a", .str "none", .str "Bo", .str "", .str "head", .str "abcdefghi", .str "z", .int 7]
def nums : List V := [.int 1, .int 999, .int 0, .int 1000, .bl true, .str "1", .int 5, .int (-3)]
def places : List V := [.int 1, .int 0, .int 7, .bl true, .non, .int (10 ^ (30 : Int).toNat), .str "2", .int (-1)]
def ends1 : List V := [.int 0, .int 1, .bl false, .int 2]
def ends2 : List V := [.int 0, .int 1, .bl true, .bl false]
def goodV (h n : V) : Bool := if inV h [.str "a", .str "z"] = true then (if inV n [.int 1, .int 999, .int 5] = true then !decide (n = .bl true) else false) else false
def fitsV (h n p : V) : Bool := if goodV h n = true then (if inV p [.int 1, .int 7, .int (10 ^ (30 : Int).toNat)] = true then !decide (p = .bl true) else false) else false
def dueV (x y : V) : Bool := if PyData.eqv (.tuple [.str "", pd x, pd y]) (.tuple [.str "", .int 0, pd y]) = true then (if (!isB x) = true then !isB y else false) else false
theorem good_all : (hands.all fun h => nums.all fun n => nameL (some [h, n]) == goodV h n) = true := by decide +kernel
theorem fits_all : (hands.all fun h => nums.all fun n => places.all fun p => putL (some [h, n, p]) == fitsV h n p) = true := by decide +kernel
theorem due_all : (ends1.all fun x => ends2.all fun y => endL (some [.str "", x, y]) == dueV x y) = true := by decide +kernel
theorem good_eq {h n : V} (hh : h ∈ hands) (hn : n ∈ nums) : nameL (some [h, n]) = goodV h n := eq_of_beq (List.all_eq_true.mp (List.all_eq_true.mp good_all h hh) n hn)
theorem fits_eq {h n p : V} (hh : h ∈ hands) (hn : n ∈ nums) (hp : p ∈ places) : putL (some [h, n, p]) = fitsV h n p := eq_of_beq (List.all_eq_true.mp (List.all_eq_true.mp (List.all_eq_true.mp fits_all h hh) n hn) p hp)
theorem due_eq {x y : V} (hx : x ∈ ends1) (hy : y ∈ ends2) : endL (some [.str "", x, y]) = dueV x y := eq_of_beq (List.all_eq_true.mp (List.all_eq_true.mp due_all x hx) y hy)
theorem hands_sm {v : V} (h : v ∈ hands) : smV v = true := List.all_eq_true.mp (by decide +kernel : hands.all smV = true) v h
theorem nums_sm {v : V} (h : v ∈ nums) : smV v = true := List.all_eq_true.mp (by decide +kernel : nums.all smV = true) v h
theorem places_sm {v : V} (h : v ∈ places) : smV v = true := List.all_eq_true.mp (by decide +kernel : places.all smV = true) v h
theorem ends1_sm {v : V} (h : v ∈ ends1) : smV v = true := List.all_eq_true.mp (by decide +kernel : ends1.all smV = true) v h
theorem ends2_sm {v : V} (h : v ∈ ends2) : smV v = true := List.all_eq_true.mp (by decide +kernel : ends2.all smV = true) v h

/-- a digit has been drawn -/
theorem Go.dig {T : Tp} {D : Addr → Prop} {H H' : Hp} {d : Addr} {kvs : List (Key × V)} (t : TG T H) (hd : H d = some (.dK kvs)) (sm : ∀ x o, x ≠ d → H x = some o → H' x = some o) (dd : D d) : Go T D H H' := by
  have ne := t.neW hd (by intro ps z; cases z)
  refine ⟨fun P hP => ?_, fun b o _ h3 e => sm b o (fun z => h3 (by rw [z]; exact dd)) e⟩
  obtain ⟨ps, e, r⟩ := t P hP
  exact ⟨ps, sm _ _ (fun z => ne (z ▸ hP)) e, r⟩
theorem thAll_of {H : Hp} {a : Addr} {xs : List V} (e : H a = some (.tup xs)) (h : xs.all smV = true) : ThAll H (.ref a) := by
  intro ys hy x hx
  rw [tupOf_at e] at hy
  cases hy
  exact smV_th (List.all_eq_true.mp h x hx) H
theorem thAll_lst {H : Hp} {a : Addr} {xs : List V} (e : H a = some (.lst xs)) : ThAll H (.ref a) := by
  intro ys hy
  have : (match H a with | some (.tup xs) => some xs | _ => none : Option (List V)) = some ys := hy
  rw [e] at this
  cases this
theorem stAll_of {H : Hp} {a : Addr} {xs : List V} (e : H a = some (.tup xs)) (h : xs.all smV = true) : StAll (tupOf H (.ref a)) := by
  intro ys hy x hx
  rw [tupOf_at e] at hy
  cases hy
  exact smV_ok (List.all_eq_true.mp h _ hx)
theorem stAll_no {H : Hp} {v : V} (e : tupOf H v = none) : StAll (tupOf H v) := by
  intro ys hy
  rw [e] at hy
  cases hy
theorem tup_lst {H : Hp} {a : Addr} {xs : List V} (e : H a = some (.lst xs)) : tupOf H (.ref a) = none := by
  show (match H a with | some (.tup xs) => some xs | _ => none : Option (List V)) = none
  rw [e]

def rNotBl : R2 := fun x y H Q => ∃ b, flatV x = true ∧ y = .bl b ∧ Q (.bl (!decide (x = .bl b))) H
def teGood (K : PySem.W.Frag) : TE := tAndV (tOp (rIn K false) (tVar 1) (tLst (tCons (tC (.str "a")) (tCons (tC (.str "z")) tNil))))
  (tAndV (tOp (rIn K false) (tVar 2) (tLst (tCons (tC (.int 1)) (tCons (tC (.int 999)) (tCons (tC (.int 5)) tNil))))) (tOp rNotBl (tVar 2) (tC (.bl true))))
theorem good_te {K : PySem.W.Frag} {T : Tp} {σ : L2.St} {H H3 : Hp} {d : Addr} {kvs : List (Key × V)} {h n : V} {Q : VK} (s1 : σ[1]? = some (some h)) (s2 : σ[2]? = some (some n)) (fh : flatV h = true) (fn : flatV n = true)
    (g3 : Go T (· = d) H H3) (hd3 : H3 d = some (.dK kvs)) (q : ∀ H4, Go T (· = d) H H4 → H4 d = some (.dK kvs) → Q (.bl (goodV h n)) H4) : teGood K σ H3 Q := by
  refine ⟨h, s1, by show 2 ≤ sizeLine; decide, fun l4 hl4 => ⟨l4, _, rfl, .inl (.inl (.inl upd_same)), fh, rfl, _, rfl, ite2 (fun (e : inV h [V.str "a", V.str "z"] = true) => ?_) (fun (e : ¬ inV h [V.str "a", V.str "z"] = true) => ?_)⟩⟩
  · refine ⟨n, s2, by show 3 ≤ sizeLine; decide, fun l5 hl5 => ⟨l5, _, rfl, .inl (.inl (.inl upd_same)), fn, rfl, _, rfl, ite2 (fun (e2 : inV n [V.int 1, V.int 999, V.int 5] = true) => ?_) (fun (e2 : ¬ inV n [V.int 1, V.int 999, V.int 5] = true) => ?_)⟩⟩
    · refine ⟨n, s2, true, fn, rfl, ?_⟩
      have ev : goodV h n = !decide (n = .bl true) := by
        unfold goodV
        rw [if_pos e, if_pos e2]
      rw [← ev]
      exact q _ ((g3.new hl4).new hl5) ((upd_ne (ne_of_none ((upd_ne (ne_of_none hd3 hl4)).trans hd3) hl5)).trans ((upd_ne (ne_of_none hd3 hl4)).trans hd3))
    · have ev : goodV h n = false := by
        unfold goodV
        rw [if_pos e, if_neg e2]
      rw [← ev]
      exact q _ ((g3.new hl4).new hl5) ((upd_ne (ne_of_none ((upd_ne (ne_of_none hd3 hl4)).trans hd3) hl5)).trans ((upd_ne (ne_of_none hd3 hl4)).trans hd3))
  · have ev : goodV h n = false := by
      unfold goodV
      rw [if_neg e]
    rw [← ev]
    exact q _ (g3.new hl4) ((upd_ne (ne_of_none hd3 hl4)).trans hd3)
def teFits (K : PySem.W.Frag) : TE := tAndV (tVar 4) (tAndV (tOp (rIn K false) (tVar 3) (tLst (tCons (tC (.int 1)) (tCons (tC (.int 7)) (tCons (tOp (rI CPow fun i j => .int (i ^ j.toNat)) (tC (.int 10)) (tC (.int 30))) tNil)))))
  (tOp rNotBl (tVar 3) (tC (.bl true))))
theorem fits_te {K : PySem.W.Frag} {T : Tp} {σ : L2.St} {H H3 : Hp} {d : Addr} {kvs : List (Key × V)} {h n p : V} {Q : VK} (s4 : σ[4]? = some (some (.bl (goodV h n)))) (s3 : σ[3]? = some (some p)) (fp : flatV p = true)
    (g3 : Go T (· = d) H H3) (hd3 : H3 d = some (.dK kvs)) (q : ∀ H4, Go T (· = d) H H4 → H4 d = some (.dK kvs) → Q (.bl (fitsV h n p)) H4) : teFits K σ H3 Q := by
  refine ⟨_, s4, _, rfl, ite2 (fun e => ?_) (fun e => ?_)⟩
  · refine ⟨p, s3, 10, 30, rfl, rfl, ⟨by decide, by decide, by decide⟩, by show 3 ≤ sizeLine; decide, fun l5 hl5 => ⟨l5, _, rfl, .inl (.inl (.inl upd_same)), fp, rfl, _, rfl, ite2 (fun (e2 : inV p [V.int 1, V.int 7, V.int (10 ^ (30 : Int).toNat)] = true) => ?_) (fun (e2 : ¬ inV p [V.int 1, V.int 7, V.int (10 ^ (30 : Int).toNat)] = true) => ?_)⟩⟩
    · refine ⟨p, s3, true, fp, rfl, ?_⟩
      have ev : fitsV h n p = !decide (p = .bl true) := by
        unfold fitsV
        rw [if_pos e, if_pos e2]
      rw [← ev]
      exact q _ (g3.new hl5) ((upd_ne (ne_of_none hd3 hl5)).trans hd3)
    · have ev : fitsV h n p = false := by
        unfold fitsV
        rw [if_pos e, if_neg e2]
      rw [← ev]
      exact q _ (g3.new hl5) ((upd_ne (ne_of_none hd3 hl5)).trans hd3)
  · have ev : fitsV h n p = false := by
      unfold fitsV
      rw [if_neg e]
    rw [← ev]
    exact q _ g3 hd3
def teDue (K : PySem.W.Frag) : TE := tAndV (tOp (rEqD K) (tVar 7) (tTup (tCons (tC (.str "")) (tCons (tC (.int 0)) (tCons (tOp (rIxT K) (tVar 7) (tC (.int 2))) tNil)))))
  (tAndV (tNotV (tCB (rIsi K) (tCons (tOp (rIxT K) (tVar 7) (tC (.int 1))) (tCons (tC (.ty "bool")) tNil)))) (tNotV (tCB (rIsi K) (tCons (tOp (rIxT K) (tVar 7) (tC (.int 2))) (tCons (tC (.ty "bool")) tNil)))))
theorem due_te {K : PySem.W.Frag} {T : Tp} {σ : L2.St} {H H3 : Hp} {d t : Addr} {kvs : List (Key × V)} {x y : V} {Q : VK} (s7 : σ[7]? = some (some (.ref t))) (ht : H3 t = some (.tup [.str "", x, y])) (sx : smV x = true) (sy : smV y = true)
    (g3 : Go T (· = d) H H3) (hd3 : H3 d = some (.dK kvs)) (q : ∀ H4, Go T (· = d) H H4 → H4 d = some (.dK kvs) → H4 t = some (.tup [.str "", x, y]) → Q (.bl (dueV x y)) H4) : teDue K σ H3 Q := by
  have S3 : SqT K H3 t [.str "", x, y] := .inl (.inl ht)
  have okT : [V.str "", x, y].all okV = true := by
    show (okV (.str "") && (okV x && (okV y && true))) = true
    rw [smV_ok sx, smV_ok sy]
    decide +kernel
  have okT0 : [V.str "", .int 0, y].all okV = true := by
    show (okV (.str "") && (okV (.int 0) && (okV y && true))) = true
    rw [smV_ok sy]
    decide +kernel
  refine ⟨.ref t, s7, .ref t, s7, t, [.str "", x, y], 2, y, rfl, rfl, S3, atI_nat (j := 2) rfl, by show 3 ≤ sizeLine; decide, fun u hu => ?_⟩
  have nu : t ≠ u := ne_of_none ht hu
  have g4 : Go T (· = d) H (upd H3 u (.tup [V.str "", .int 0, y])) := g3.new hu
  have hd4 := (upd_ne (o := .tup [V.str "", .int 0, y]) (ne_of_none hd3 hu)).trans hd3
  have ht4 := (upd_ne (o := .tup [V.str "", .int 0, y]) nu).trans ht
  have S4 : SqT K (upd H3 u (.tup [V.str "", .int 0, y])) t [.str "", x, y] := .inl (.inl ht4)
  have S4u : SqT K (upd H3 u (.tup [V.str "", .int 0, y])) u [.str "", .int 0, y] := .inl (.inl upd_same)
  generalize upd H3 u (.tup [V.str "", .int 0, y]) = H4 at g4 hd4 ht4 S4 S4u ⊢
  obtain ⟨m1, t1, _⟩ := smV_th sx H4
  obtain ⟨m2, t2, _⟩ := smV_th sy H4
  refine ⟨_, _, dp_tup S4 okT, dp_tup S4u okT0, sh_tup okT, sh_tup okT0, _, rfl, ite2 (fun (e : PyData.eqv (.tuple [.str "", pd x, pd y]) (.tuple [.str "", .int 0, pd y]) = true) => ?_) (fun (e : ¬ PyData.eqv (.tuple [.str "", pd x, pd y]) (.tuple [.str "", .int 0, pd y]) = true) => ?_)⟩
  · refine ⟨.ref t, s7, t, [.str "", x, y], 1, x, rfl, rfl, S4, atI_nat (j := 1) rfl, x, .ty "bool", .type m1, .type "bool", _, rfl, .ty _, t1.ty, kit_ty t1.kbool, _, rfl, _, rfl, ite2 (fun e2 => ?_) (fun e2 => ?_)⟩
    · refine ⟨.ref t, s7, t, [.str "", x, y], 2, y, rfl, rfl, S4, atI_nat (j := 2) rfl, y, .ty "bool", .type m2, .type "bool", _, rfl, .ty _, t2.ty, kit_ty t2.kbool, _, rfl, ?_⟩
      have ev : dueV x y = !isB y := by
        unfold dueV
        rw [if_pos e, if_pos e2]
      rw [← ev]
      exact q _ g4 hd4 ht4
    · have ev : dueV x y = false := by
        unfold dueV
        rw [if_pos e, if_neg e2]
      rw [← ev]
      exact q _ g4 hd4 ht4
  · have ev : dueV x y = false := by
      unfold dueV
      rw [if_neg e]
    rw [← ev]
    exact q _ g4 hd4 ht4

section
variable {P : Program} {w : World} {K : PySem.W.Frag} {mg : Str → Option Value} {base : Heap} {T : Tp}

def spLThings (T : Tp) : Sp := fun vs H Q _ => ∃ d a b, vs = [.ref d] ∧ H d = some (.dK (stD a b)) ∧ 0 ≤ a ∧ 0 ≤ b ∧ TG T H ∧ ∀ H' a' b', Go T (· = d) H H' → H' d = some (.dK (stD a' b')) → 0 ≤ a' → 0 ≤ b' → Q (.bl true) H'
theorem ok_lthings {f : Addr} {fd : FuncData} {k : Nat} (F : Fun K "_law_things" "_law_things" sLThings f fd) (M : Mg K mg) (cD : Cal P w K mg base k "_law_digit" ["_law_state", "_law_many"] spDigit)
    (cN : Cal P w K mg base k "is_name" ["thing"] (spName T)) (cP : Cal P w K mg base k "is_put_line" ["thing"] (spPut T)) (cE : Cal P w K mg base k "is_end" ["thing"] spEnd) :
    FnOk P w K mg base CX0 (k + 1) f fd ["_law_state"] (spLThings T) := by
  refine F.ok scLThings (fun vs H Q E h => ?_) (fun cdv A outer s H vs Q E hr h => ?_)
  · obtain ⟨d, a, b, rfl, _⟩ := h
    rfl
  · obtain ⟨d, a, b, rfl, hd, ha, hb, tg, q⟩ := h
    have tenOk : CPow 10 30 := ⟨by decide, by decide, by decide⟩
    refine ⟨_, pss_cons (ps_set (i := 1) scLThings.nd rfl (.inl rfl) (pe_ix ix_list (pe_lst (pa_cons pe_str (pa_cons pe_str (pa_cons pe_str (pa_cons pe_str (pa_cons pe_str (pa_cons pe_str (pa_cons pe_str (pa_cons pe_int pa_nil)))))))))
          (pe_cal cD hr (by rfl) (pa_cons (pv 0) (pa_cons pe_int pa_nil))) (fun _ _ => rfl)))
      (pss_cons (ps_set (i := 2) scLThings.nd rfl (.inl rfl) (pe_ix ix_list (pe_lst (pa_cons pe_int (pa_cons pe_int (pa_cons pe_int (pa_cons pe_int (pa_cons pe_bl (pa_cons pe_str (pa_cons pe_int (pa_cons (pe_un un_neg pe_int) pa_nil)))))))))
          (pe_cal cD hr (by rfl) (pa_cons (pv 0) (pa_cons pe_int pa_nil))) (fun _ _ => rfl)))
      (pss_cons (ps_set (i := 3) scLThings.nd rfl (.inl rfl) (pe_ix ix_list (pe_lst (pa_cons pe_int (pa_cons pe_int (pa_cons pe_int (pa_cons pe_bl (pa_cons pe_non (pa_cons (pe_op op_pow pe_int pe_int) (pa_cons pe_str (pa_cons (pe_un un_neg pe_int) pa_nil)))))))))
          (pe_cal cD hr (by rfl) (pa_cons (pv 0) (pa_cons pe_int pa_nil))) (fun _ _ => rfl)))
      (pss_cons (ps_set (i := 4) scLThings.nd rfl (.inl rfl) (pe_and (pe_cmpR op_in_seq (pv 1) (pe_lst (pa_cons pe_str (pa_cons pe_str pa_nil))) (by rfl)) (pe_and (pe_cmpR op_in_seq (pv 2) (pe_lst (pa_cons pe_int (pa_cons pe_int (pa_cons pe_int pa_nil)))) (by rfl))
          (pe_one (pe_cmpR op_isnotB (pv 2) pe_bl (nomark _))))))
      (pss_cons (ps_if (PW.pt (pw_or (pt_cmpR op_ne (pe_cal cN hr (by rfl) (pa_cons (pe_tup (pa_cons (pv 1) (pa_cons (pv 2) pa_nil))) pa_nil)) (pv 4) (nomark _))
          (pw_or (pt_val (pe_cal cN hr (by rfl) (pa_cons (pe_lst (pa_cons (pv 1) (pa_cons (pv 2) pa_nil))) pa_nil)))
            (pw_or1 (pt_val (pe_cal cN hr (by rfl) (pa_cons (pe_tup (pa_cons (pv 1) (pa_cons (pv 2) (pa_cons (pv 3) pa_nil)))) pa_nil)))))))
        (pss_one (ps_ret pe_bl)) pss_nil)
      (pss_cons (ps_set (i := 5) scLThings.nd rfl (.inl rfl) (pe_and (pv 4) (pe_and (pe_cmpR op_in_seq (pv 3) (pe_lst (pa_cons pe_int (pa_cons pe_int (pa_cons (pe_op op_pow pe_int pe_int) pa_nil)))) (by rfl))
          (pe_one (pe_cmpR op_isnotB (pv 3) pe_bl (nomark _))))))
      (pss_cons (ps_set (i := 6) scLThings.nd rfl (.inl rfl) (pe_tup (pa_cons (pv 1) (pa_cons (pv 2) (pa_cons (pv 3) pa_nil)))))
      (pss_cons (ps_if (PW.pt (pw_or (pt_cmpR op_ne (pe_cal cP hr (by rfl) (pa_cons (pv 6) pa_nil)) (pv 5) (nomark _))
          (pw_or (pt_val (pe_cal cP hr (by rfl) (pa_cons (pe_callTy call_list_of (by rfl) M.list_ (by decide +kernel) (pa_cons (pv 6) pa_nil)) pa_nil)))
            (pw_or1 (pt_val (pe_cal cP hr (by rfl) (pa_cons (pe_slice sl_tup (pv 6) po_none (po_some pe_int)) pa_nil)))))))
        (pss_one (ps_ret pe_bl)) pss_nil)
      (pss_cons (ps_set (i := 7) scLThings.nd rfl (.inl rfl) (pe_tup (pa_cons pe_str (pa_cons (pe_ix ix_list (pe_lst (pa_cons pe_int (pa_cons pe_int (pa_cons pe_bl (pa_cons pe_int pa_nil))))) (pe_cal cD hr (by rfl) (pa_cons (pv 0) (pa_cons pe_int pa_nil))) (fun _ _ => rfl))
          (pa_cons (pe_ix ix_list (pe_lst (pa_cons pe_int (pa_cons pe_int (pa_cons pe_bl (pa_cons pe_bl pa_nil))))) (pe_cal cD hr (by rfl) (pa_cons (pv 0) (pa_cons pe_int pa_nil))) (fun _ _ => rfl)) pa_nil)))))
      (pss_cons (ps_set (i := 8) scLThings.nd rfl (.inl rfl) (pe_and (pe_cmpR (op_eqD hr.units) (pv 7) (pe_tup (pa_cons pe_str (pa_cons pe_int (pa_cons (pe_ix ix_tup (pv 7) pe_int (fun _ _ => rfl)) pa_nil)))) (nomark _))
          (pe_and (pe_not (pe_callB call_isi (by rfl) M.ins boot_isinstance (pa_cons (pe_ix ix_tup (pv 7) pe_int (fun _ _ => rfl)) (pa_cons (pe_bltn (v := .ty "bool") (by rfl) M.bool_ (by decide +kernel) rfl) pa_nil))))
            (pe_one (pe_not (pe_callB call_isi (by rfl) M.ins boot_isinstance (pa_cons (pe_ix ix_tup (pv 7) pe_int (fun _ _ => rfl)) (pa_cons (pe_bltn (v := .ty "bool") (by rfl) M.bool_ (by decide +kernel) rfl) pa_nil))))))))
      (pss_one (ps_ret (pe_and (pe_cmpR op_eq (pe_cal cE hr (by rfl) (pa_cons (pv 7) pa_nil)) (pv 8) (nomark _))
        (pe_and (pe_not (pe_cal cE hr (by rfl) (pa_cons (pe_callTy call_list_of (by rfl) M.list_ (by decide +kernel) (pa_cons (pv 7) pa_nil)) pa_nil)))
          (pe_and (pe_not (pe_cal cE hr (by rfl) (pa_cons (pe_tup (pa_cons pe_str (pa_cons pe_int (pa_cons pe_int pa_nil)))) pa_nil)))
            (pe_one (pe_not (pe_cal cE hr (by rfl) (pa_cons (pe_tup (pa_cons pe_str (pa_cons pe_int pa_nil))) pa_nil)))))))))))))))))), ?_⟩
    have smTH : ∀ {v : V}, smV v = true → ∀ H1, ∃ n, Th H1 v n := fun h H1 => let ⟨n, t, _⟩ := smV_th h H1; ⟨n, t⟩
    -- the hand
    refine ⟨by show 8 ≤ sizeLine; decide, fun l1 hl1 => ?_⟩
    have hdA := (upd_ne (o := .lst hands) (ne_of_none hd hl1)).trans hd
    have gA : Go T (· = d) H (upd H l1 (.lst hands)) := (Go.rfl' tg).new hl1
    refine ⟨.ref d, rfl, d, a, b, 8, rfl, hdA, ha, hb, by decide, by decide, fun r1 a1 b1 H1 r10 r11 ha1 hb1 hd1 sm1 => ?_⟩
    have g1 : Go T (· = d) H H1 := gA.trans (Go.dig gA.1 hdA sm1 rfl)
    obtain ⟨h, mh, ath⟩ := pick (xs := hands) r10 (by have : hands.length = 8 := rfl; omega)
    refine ⟨l1, hands, r1, h, rfl, rfl, .inl (.inl (sm1 l1 _ (ne_of_none hd hl1).symm upd_same)), ath, ?_⟩
    -- the number
    refine ⟨3, rfl, by show 8 ≤ sizeLine; decide, fun l2 hl2 => ?_⟩
    have hdB := (upd_ne (o := .lst nums) (ne_of_none hd1 hl2)).trans hd1
    have gB : Go T (· = d) H (upd H1 l2 (.lst nums)) := g1.new hl2
    refine ⟨.ref d, rfl, d, a1, b1, 8, rfl, hdB, ha1, hb1, by decide, by decide, fun r2 a2 b2 H2 r20 r21 ha2 hb2 hd2 sm2 => ?_⟩
    have g2 : Go T (· = d) H H2 := gB.trans (Go.dig gB.1 hdB sm2 rfl)
    obtain ⟨n, mn, atn⟩ := pick (xs := nums) r20 (by have : nums.length = 8 := rfl; omega)
    refine ⟨l2, nums, r2, n, rfl, rfl, .inl (.inl (sm2 l2 _ (ne_of_none hd1 hl2).symm upd_same)), atn, ?_⟩
    -- the place
    refine ⟨10, 30, rfl, rfl, tenOk, 1, rfl, by show 8 ≤ sizeLine; decide, fun l3 hl3 => ?_⟩
    have hdC := (upd_ne (o := .lst places) (ne_of_none hd2 hl3)).trans hd2
    have gC : Go T (· = d) H (upd H2 l3 (.lst places)) := g2.new hl3
    refine ⟨.ref d, rfl, d, a2, b2, 8, rfl, hdC, ha2, hb2, by decide, by decide, fun r3 a3 b3 H3 r30 r31 ha3 hb3 hd3 sm3 => ?_⟩
    have g3 : Go T (· = d) H H3 := gC.trans (Go.dig gC.1 hdC sm3 rfl)
    obtain ⟨pl, mp, atp⟩ := pick (xs := places) r30 (by have : places.length = 8 := rfl; omega)
    refine ⟨l3, places, r3, pl, rfl, rfl, .inl (.inl (sm3 l3 _ (ne_of_none hd2 hl3).symm upd_same)), atp, ?_⟩
    have sh := hands_sm mh
    have sn := nums_sm mn
    have sp := places_sm mp
    -- good
    refine good_te (K := K) rfl rfl (smV_flat sh) (smV_flat sn) g3 hd3 (fun H4 g4 hd4 => ?_)
    have allHN : [h, n].all smV = true := by
      show (smV h && (smV n && true)) = true
      rw [sh, sn] <;> rfl
    have allHNP : [h, n, pl].all smV = true := by
      show (smV h && (smV n && (smV pl && true))) = true
      rw [sh, sn, sp] <;> rfl
    have same : ∀ z : Bool, (!decide (V.bl z = V.bl z)) = false := fun z => by rw [decide_eq_true rfl]; rfl
    -- is_name of the pair, of the list, of the triple
    refine ⟨h, rfl, n, rfl, by show 2 ≤ sizeLine; decide, fun t5 ht5 => ?_⟩
    have g5 := g4.new (o := .tup [h, n]) ht5
    have hd5 := (upd_ne (o := .tup [h, n]) (ne_of_none hd4 ht5)).trans hd4
    refine ⟨.ref t5, "tuple", rfl, .tup upd_same, thAll_of upd_same allHN, g5.1, fun H6 g6 => ?_⟩
    rw [tupOf_at upd_same, good_eq mh mn]
    have g06 := g5.trans g6.up
    have hd6 := g6.at g5.1 (fun z => z) hd5
    refine ⟨.bl (goodV h n), rfl, rfl, _, rfl, ?_⟩
    rw [same]
    refine iteF ⟨h, rfl, n, rfl, by show 2 ≤ sizeLine; decide, fun t7 ht7 => ?_⟩
    have g7 := g06.new (o := .lst [h, n]) ht7
    have hd7 := (upd_ne (o := .lst [h, n]) (ne_of_none hd6 ht7)).trans hd6
    refine ⟨.ref t7, "list", rfl, .lst upd_same, thAll_lst upd_same, g7.1, fun H8 g8 => ?_⟩
    rw [tup_lst upd_same]
    have g08 := g7.trans g8.up
    have hd8 := g8.at g7.1 (fun z => z) hd7
    refine ⟨false, rfl, iteF ⟨h, rfl, n, rfl, pl, rfl, by show 3 ≤ sizeLine; decide, fun t9 ht9 => ?_⟩⟩
    have g9 := g08.new (o := .tup [h, n, pl]) ht9
    have hd9 := (upd_ne (o := .tup [h, n, pl]) (ne_of_none hd8 ht9)).trans hd8
    refine ⟨.ref t9, "tuple", rfl, .tup upd_same, thAll_of upd_same allHNP, g9.1, fun HA gA' => ?_⟩
    rw [tupOf_at upd_same]
    have g0A := g9.trans gA'.up
    have hdA' := gA'.at g9.1 (fun z => z) hd9
    refine ⟨false, rfl, iteF ?_⟩
    -- fits
    refine fits_te (K := K) (h := h) (n := n) rfl rfl (smV_flat sp) g0A hdA' (fun HB gB' hdB' => ?_)
    -- the line
    refine ⟨h, rfl, n, rfl, pl, rfl, by show 3 ≤ sizeLine; decide, fun tl htl => ?_⟩
    have gL := gB'.new (o := .tup [h, n, pl]) htl
    have hdL := (upd_ne (o := .tup [h, n, pl]) (ne_of_none hdB' htl)).trans hdB'
    have eL : (upd HB tl (.tup [h, n, pl])) tl = some (.tup [h, n, pl]) := upd_same
    have nL : tl ≠ d := fun z => by
      rw [z] at htl
      rw [hdB'] at htl
      cases htl
    generalize upd HB tl (.tup [h, n, pl]) = HL at gL hdL eL ⊢
    refine ⟨.ref tl, rfl, .ref tl, "tuple", rfl, .tup eL, thAll_of eL allHNP, gL.1, fun HM gM => ?_⟩
    rw [tupOf_at eL, fits_eq mh mn mp]
    have g0M := gL.trans gM.up
    have hdM := gM.at gL.1 (fun z => z) hdL
    have eM := gM.at gL.1 (fun z => z) eL
    refine ⟨.bl (fitsV h n pl), rfl, rfl, _, rfl, ?_⟩
    rw [same]
    refine iteF ⟨.ref tl, rfl, tl, _, rfl, .inr (.inl (.inl eM)), fun ln hln => ?_⟩
    have gN := g0M.new (o := .lst [h, n, pl]) hln
    have hdN := (upd_ne (o := .lst [h, n, pl]) (ne_of_none hdM hln)).trans hdM
    have eN := (upd_ne (o := .lst [h, n, pl]) (ne_of_none eM hln)).trans eM
    refine ⟨.ref ln, "list", rfl, .lst upd_same, thAll_lst upd_same, gN.1, fun HO' gO' => ?_⟩
    rw [tup_lst upd_same]
    have g0O := gN.trans gO'.up
    have hdO := gO'.at gN.1 (fun z => z) hdN
    have eO := gO'.at gN.1 (fun z => z) eN
    refine ⟨false, rfl, iteF ⟨.ref tl, rfl, 2, rfl, tl, _, rfl, .inl (.inl eO), (show ¬ (HT.sIx 3 0 none = 0 ∧ HT.sIx 3 3 (some 2) = 3) by decide), fun tp htp => ?_⟩⟩
    rw [cut2]
    have gP := g0O.new (o := .tup [h, n]) htp
    have hdP := (upd_ne (o := .tup [h, n]) (ne_of_none hdO htp)).trans hdO
    refine ⟨.ref tp, "tuple", rfl, .tup upd_same, thAll_of upd_same allHN, gP.1, fun HQ gQ => ?_⟩
    rw [tupOf_at upd_same]
    have g0Q := gP.trans gQ.up
    have hdQ := gQ.at gP.1 (fun z => z) hdP
    refine ⟨false, rfl, iteF ?_⟩
    -- the ends
    refine ⟨by show 4 ≤ sizeLine; decide, fun l8 hl8 => ?_⟩
    have hdR := (upd_ne (o := .lst ends1) (ne_of_none hdQ hl8)).trans hdQ
    have gR : Go T (· = d) H (upd HQ l8 (.lst ends1)) := g0Q.new hl8
    refine ⟨.ref d, rfl, d, a3, b3, 4, rfl, hdR, ha3, hb3, by decide, by decide, fun r5 a5 b5 HS r50 r51 ha5 hb5 hdS smS => ?_⟩
    have gS : Go T (· = d) H HS := gR.trans (Go.dig gR.1 hdR smS rfl)
    obtain ⟨x, mx, atx⟩ := pick (xs := ends1) r50 (by have : ends1.length = 4 := rfl; omega)
    refine ⟨l8, ends1, r5, x, rfl, rfl, .inl (.inl (smS l8 _ (ne_of_none hdQ hl8).symm upd_same)), atx, ?_⟩
    refine ⟨by show 4 ≤ sizeLine; decide, fun l9 hl9 => ?_⟩
    have hdT := (upd_ne (o := .lst ends2) (ne_of_none hdS hl9)).trans hdS
    have gT : Go T (· = d) H (upd HS l9 (.lst ends2)) := gS.new hl9
    refine ⟨.ref d, rfl, d, a5, b5, 4, rfl, hdT, ha5, hb5, by decide, by decide, fun r6 a6 b6 HU r60 r61 ha6 hb6 hdU smU => ?_⟩
    have gU : Go T (· = d) H HU := gT.trans (Go.dig gT.1 hdT smU rfl)
    obtain ⟨y, my, aty⟩ := pick (xs := ends2) r60 (by have : ends2.length = 4 := rfl; omega)
    refine ⟨l9, ends2, r6, y, rfl, rfl, .inl (.inl (smU l9 _ (ne_of_none hdS hl9).symm upd_same)), aty, by show 3 ≤ sizeLine; decide, fun te hte => ?_⟩
    have sx := ends1_sm mx
    have sy := ends2_sm my
    have gV := gU.new (o := .tup [V.str "", x, y]) hte
    have hdV := (upd_ne (o := .tup [V.str "", x, y]) (ne_of_none hdU hte)).trans hdU
    have eV : (upd HU te (.tup [V.str "", x, y])) te = some (.tup [V.str "", x, y]) := upd_same
    generalize upd HU te (.tup [V.str "", x, y]) = HV at gV hdV eV ⊢
    refine due_te (K := K) rfl eV sx sy gV hdV (fun HW gW hdW eW => ?_)
    have allE : [V.str "", x, y].all smV = true := by
      show (smV (.str "") && (smV x && (smV y && true))) = true
      rw [sx, sy]
      decide +kernel
    have same' : ∀ z : Bool, decide (V.bl z = V.bl z) = true := fun z => decide_eq_true rfl
    refine ⟨.ref te, rfl, .ref te, "tuple", rfl, .tup eW, thAll_of eW allE, stAll_of eW allE, ?_⟩
    rw [tupOf_at eW, due_eq mx my]
    refine ⟨.bl (dueV x y), rfl, rfl, _, rfl, ?_⟩
    rw [same']
    refine iteT ⟨.ref te, rfl, te, _, rfl, .inr (.inl (.inl eW)), fun l10 hl10 => ?_⟩
    have gX := gW.new (o := .lst [V.str "", x, y]) hl10
    have hdX := (upd_ne (o := .lst [V.str "", x, y]) (ne_of_none hdW hl10)).trans hdW
    refine ⟨.ref l10, "list", rfl, .lst upd_same, thAll_lst upd_same, stAll_no (tup_lst upd_same), ?_⟩
    rw [tup_lst upd_same]
    refine ⟨false, rfl, _, rfl, iteT ⟨by show 3 ≤ sizeLine; decide, fun t11 ht11 => ?_⟩⟩
    have gY := gX.new (o := .tup [V.str "a", .int 0, .int 0]) ht11
    have hdY := (upd_ne (o := .tup [V.str "a", .int 0, .int 0]) (ne_of_none hdX ht11)).trans hdX
    refine ⟨.ref t11, "tuple", rfl, .tup upd_same, thAll_of upd_same (by decide +kernel), stAll_of upd_same (by decide +kernel), ?_⟩
    rw [tupOf_at upd_same]
    have ea : endL (some [V.str "a", .int 0, .int 0]) = false := by decide +kernel
    rw [ea]
    refine ⟨false, rfl, _, rfl, iteT ⟨by show 2 ≤ sizeLine; decide, fun t12 ht12 => ?_⟩⟩
    have gZ := gY.new (o := .tup [V.str "", .int 0]) ht12
    have hdZ := (upd_ne (o := .tup [V.str "", .int 0]) (ne_of_none hdY ht12)).trans hdY
    refine ⟨.ref t12, "tuple", rfl, .tup upd_same, thAll_of upd_same (by decide +kernel), stAll_of upd_same (by decide +kernel), ?_⟩
    rw [tupOf_at upd_same]
    exact ⟨false, rfl, q _ a6 b6 gZ hdZ ha6 hb6⟩
end
end K1
set_option Elab.async false
set_option linter.all false
set_option maxRecDepth 100000
set_option maxHeartbeats 4000000
/-! The law's own defs: whether a row of words is told. -/
namespace K1
open PySem PySem.Spec PyProof.Rows L2

/-- words: not empty, without blanks, plain, short -/
structure Ws (ws : List Str) : Prop where
  ne : ws ≠ []
  len : ws.length ≤ 64
  each : ∀ p ∈ ws, p.length ≤ 11 ∧ p ≠ "" ∧ Asc p ∧ 32 ∉ TL.tl p
theorem blank_tl : TL.tl (" " : Str) = [32] := by decide +kernel
theorem joinL_size {n : Nat} : ∀ {L : List (List Nat)}, (∀ p ∈ L, p.length ≤ n) → (TL.joinL [32] L).length ≤ L.length * (n + 1)
  | [], _ => Nat.zero_le _
  | [p], h => by
    have := h p (List.mem_singleton.mpr rfl)
    show p.length ≤ 1 * (n + 1)
    omega
  | p :: q :: r, h => by
    have h1 := h p (List.mem_cons_self ..)
    have h2 := joinL_size (n := n) (L := q :: r) fun z hz => h z (List.mem_cons_of_mem _ hz)
    show (p ++ ([32] ++ TL.joinL [32] (q :: r))).length ≤ ((q :: r).length + 1) * (n + 1)
    rw [List.length_append, List.length_append, Nat.add_mul]
    show p.length + (1 + _) ≤ _
    omega
theorem joinL_in {c : Nat} : ∀ {L : List (List Nat)}, c ∈ TL.joinL [32] L → c = 32 ∨ ∃ p ∈ L, c ∈ p
  | [], h => by cases h
  | [p], h => .inr ⟨p, List.mem_singleton.mpr rfl, h⟩
  | p :: q :: r, h => by
    have h' : c ∈ p ++ ([32] ++ TL.joinL [32] (q :: r)) := h
    rcases List.mem_append.mp h' with h | h
    · exact .inr ⟨p, List.mem_cons_self .., h⟩
    · rcases List.mem_append.mp h with h | h
      · exact .inl (List.mem_singleton.mp h)
      · rcases joinL_in h with e | ⟨z, hz, e⟩
        · exact .inl e
        · exact .inr ⟨z, List.mem_cons_of_mem _ hz, e⟩
theorem tl_row (ws : List Str) : TL.tl (Txt.join " " ws) = TL.joinL [32] (ws.map TL.tl) := by rw [TL.join_eq, TL.tl_join, blank_tl]
theorem Ws.size {ws : List Str} (h : Ws ws) : (Txt.join " " ws).length ≤ 1000 := by
  rw [TL.len_tl, tl_row]
  have := joinL_size (n := 11) (L := ws.map TL.tl) fun p hp => by
    obtain ⟨z, hz, rfl⟩ := List.mem_map.mp hp
    rw [← TL.len_tl]
    exact (h.each z hz).1
  rw [List.length_map] at this
  have := h.len
  omega
theorem Ws.asc {ws : List Str} (h : Ws ws) : Asc (Txt.join " " ws) := by
  intro c hc
  rw [tl_row] at hc
  rcases joinL_in hc with rfl | ⟨p, hp, e⟩
  · decide
  · obtain ⟨z, hz, rfl⟩ := List.mem_map.mp hp
    exact (h.each z hz).2.2.1 c e
theorem Ws.split {ws : List Str} (h : Ws ws) : Txt.split (Txt.join " " ws) " " = ws :=
  TL.split_join blank_tl (by decide +kernel) h.ne fun p hp => (h.each p hp).2.2.2
theorem inV_strs (ws : List Str) : inV (.str "") (ws.map V.str) = ws.any (fun y => y == "") := by
  show (ws.map V.str).any (fun y => eqV y (.str "")) = _
  rw [List.any_map]
  rfl
theorem Ws.words {ws : List Str} (h : Ws ws) : wordsV (.str (Txt.join " " ws)) = some ws := by
  show (if inV (.str "") ((Txt.split (Txt.join " " ws) " ").map V.str) then none else some (Txt.split (Txt.join " " ws) " ")) = _
  rw [h.split, if_neg]
  rw [inV_strs]
  intro z
  obtain ⟨p, hp, e⟩ := List.any_eq_true.mp z
  exact (h.each p hp).2.1 (eq_of_beq e)
theorem strs_ok {ws : List Str} (h : ∀ p ∈ ws, Asc p) : (ws.map V.str).all okV = true := by
  rw [List.all_map]
  exact List.all_eq_true.mpr fun p hp => (h p hp).ok
theorem Ws.ok {ws : List Str} (h : Ws ws) : (ws.map V.str).all okV = true := strs_ok fun p hp => (h.each p hp).2.2.1
theorem cutS_in {z : Str} {lo hi : Option Int} {c : Nat} (h : c ∈ TL.tl (cutS z lo hi)) : c ∈ TL.tl z := by
  have h' : c ∈ (z.cps.toList.drop (HT.sIx z.length 0 lo)).take (HT.sIx z.length z.length hi - HT.sIx z.length 0 lo) := h
  exact List.mem_of_mem_drop (List.mem_of_mem_take h')

section
variable {P : Program} {w : World} {K : PySem.W.Frag} {mg : Str → Option Value} {base : Heap} {T : Tp}

def spLRow (K : PySem.W.Frag) (T : Tp) : Sp := fun vs H Q _ => ∃ (wl : Addr) (ws : List Str) (num : Int), vs = [.ref wl, .int num] ∧ SqL K H wl (ws.map V.str) ∧ Ws ws ∧ TG T H ∧ ∀ H', Go T D0 H H' → Q (.bl true) H'
theorem ok_lrow {f : Addr} {fd : FuncData} {k : Nat} (F : Fun K "_law_row" "_law_row" sLRow f fd) (M : Mg K mg) (cO : Cal P w K mg base k "words_of" ["row"] (spWordsO T)) :
    FnOk P w K mg base CX0 (k + 1) f fd ["_law_words", "_law_number_here"] (spLRow K T) := by
  refine F.ok scLRow (fun vs H Q E h => ?_) (fun cdv A outer s H vs Q E hr h => ?_)
  · obtain ⟨wl, ws, num, rfl, _⟩ := h
    rfl
  · obtain ⟨wl, ws, num, rfl, hS, hw, tg, q⟩ := h
    refine ⟨_, pss_cons (ps_set (i := 2) scLRow.nd rfl (.inl rfl) (pe_join pe_str (pv 0)))
      (pss_cons (ps_for PassesOwn.never rfl (pi_range1 (by rfl) M.range_ (pa_cons pe_int pa_nil)) (pg_name (i := 3) scLRow.nd rfl (.inl rfl))
        (pss_cons (ps_set (i := 4) scLRow.nd rfl (.inl rfl) (pe_cal cO hr (by rfl) (pa_cons (pv 2) pa_nil)))
        (pss_cons (ps_if (PW.pt (pw_or (pt_not (pt_val (pe_callB call_isi (by rfl) M.ins boot_isinstance (pa_cons (pv 4) (pa_cons (pe_bltn (v := .ty "list") (by rfl) M.list_ (by decide +kernel) rfl) pa_nil)))))
            (pw_or1 (pt_cmpR (op_neD hr.units) (pv 4) (pv 0) (nomark _))))) (pss_one (ps_ret pe_bl)) pss_nil)
        (pss_one (ps_expr (pe_bm PySem.F.plainAttrs_list PySem.F.slot_list_append PySem.F.type_list_append mt_append (pv 4) (pa_cons pe_str pa_nil)))))))
      (pss_cons (ps_set (i := 5) scLRow.nd rfl (.inl rfl) (pe_op op_mod (pv 1) (pe_op op_add (pe_callB call_len_str (by rfl) M.len_ PySem.boot_len (pa_cons (pv 2) pa_nil)) pe_int)))
      (pss_cons (ps_set (i := 6) scLRow.nd rfl (.inl rfl) (pe_split (pe_op op_add_str (pe_op op_add_str (pe_slice sl_str (pv 2) po_none (po_some (pv 5))) pe_str) (pe_slice sl_str (pv 2) (po_some (pv 5)) po_none)) pe_str))
      (pss_one (ps_ret (pe_cmpR (op_eqD hr.units) (pe_cal cO hr (by rfl) (pa_cons (pe_op op_add_str (pe_op op_add_str (pe_slice sl_str (pv 2) po_none (po_some (pv 5))) pe_str) (pe_slice sl_str (pv 2) (po_some (pv 5)) po_none)) pa_nil))
        (pe_ifExp (pt_cmpR op_in_seq pe_str (pv 6) (by rfl)) pe_non (pv 6)) (nomark _))))))), ?_⟩
    have hsz := hw.size
    have one' : (" " : Str).length = 1 := by decide +kernel
    generalize hrow : Txt.join " " ws = row at hsz
    have casc : Asc row := by rw [← hrow]; exact hw.asc
    have words : wordsV (.str row) = some ws := by rw [← hrow]; exact hw.words
    refine ⟨⟨" ", rfl⟩, .ref wl, rfl, " ", wl, ws, rfl, rfl, .inl hS, ?_, ?_⟩
    · have h1 : (ws.map (·.length)).sum ≤ ws.length * 11 := by
        have : ∀ l : List Str, (∀ p ∈ l, p.length ≤ 11) → (l.map (·.length)).sum ≤ l.length * 11 := by
          intro l
          induction l with
          | nil => intro _; exact Nat.le_refl 0
          | cons p r ih =>
            intro h
            have a := h p (List.mem_cons_self ..)
            have b := ih fun z hz => h z (List.mem_cons_of_mem _ hz)
            rw [List.map_cons, List.sum_cons, List.length_cons]
            omega
        exact this ws fun p hp => (hw.each p hp).1
      have := hw.len
      rw [one']
      omega
    rw [hrow]
    refine ⟨2, rfl, by decide, by decide, ?_⟩
    refine for_range (lo := 0) (n := 2) (fun i σ H2 => Go T D0 H H2 ∧ ∃ y3 y4, σ = [some (.ref wl), some (.int num), some (.str row), y3, y4, none, none]) ⟨Go.rfl' tg, none, none, rfl⟩ ?_ ?_
    · rintro i σ H2 hi ⟨g2, y3, y4, rfl⟩
      refine ⟨.str row, rfl, .str row, "str", rfl, .str row (le_sz hsz), small_of hsz, g2.1, fun H3 g3 e => ?_, fun H3 p ws' g3 hp e eH => ?_⟩
      · rw [words] at e
        cases e
      · rw [words] at e
        cases e
        have th : Th H3 (.ref p) "list" := .lst eH
        have eL : isL H3 (.ref p) = true := by
          show (match H3 p with | some (.lst _) => true | _ => false) = true
          rw [eH]
        refine ⟨.ref p, rfl, .ref p, .ty "list", .type "list", .type "list", _, rfl, .ty _, th.ty, kit_ty th.klst, _, rfl, ?_⟩
        rw [eL]
        have okW := hw.ok
        refine iteF ⟨.ref p, rfl, .ref wl, rfl, _, _, dp_lst (.inl (.inl eH)) okW, dp_lst ((g2.trans g3).seqL tg (fun _ _ z => z) hS) okW, sh_lst okW, sh_lst okW, _, rfl, ?_⟩
        rw [eqv_self (sh_lst okW)]
        refine iteF ⟨.ref p, rfl, .inl ⟨rfl, _, .inl (.inl eH)⟩, p, _, _, rfl, rfl, eH, ?_, ?_⟩
        · rw [List.length_map]
          exact Nat.lt_of_le_of_lt hw.len (by decide)
        · exact ⟨(g2.trans g3).put (g2.free tg (fun z => z) hp) eH, _, _, rfl⟩
    · rintro σ H2 ⟨g2, y3, y4, rfl⟩
      refine ⟨.int num, rfl, .str row, rfl, row, rfl, le_sz hsz, _, _, rfl, rfl, _, _, rfl, rfl, (show (0 : Int) < (row.length : Int) + 1 by omega), ?_⟩
      have c1 : (cutS row none (some (num % ((row.length : Int) + 1)))).length ≤ 1000 := Nat.le_trans (cutS_length _ _ _) hsz
      have c2 : (cutS row (some (num % ((row.length : Int) + 1))) none).length ≤ 1000 := Nat.le_trans (cutS_length _ _ _) hsz
      have c3 : (cutS row none (some (num % ((row.length : Int) + 1))) ++ " ").length ≤ 1001 := by
        rw [TL.len_tl, TL.tl_append, List.length_append, ← TL.len_tl, ← TL.len_tl, one']
        omega
      obtain ⟨row2, hr2⟩ : ∃ r, cutS row none (some (num % ((row.length : Int) + 1))) ++ " " ++ cutS row (some (num % ((row.length : Int) + 1))) none = r := ⟨_, rfl⟩
      have c4 : row2.length ≤ 2001 := by
        rw [← hr2, TL.len_tl, TL.tl_append, List.length_append, ← TL.len_tl, ← TL.len_tl]
        omega
      have asc2 : Asc row2 := by
        intro c hc
        rw [← hr2, TL.tl_append, TL.tl_append, blank_tl] at hc
        rcases List.mem_append.mp hc with hc | hc
        · rcases List.mem_append.mp hc with hc | hc
          · exact casc c (cutS_in hc)
          · rw [List.mem_singleton.mp hc]
            decide
        · exact casc c (cutS_in hc)
      have big : 3000 ≤ sizeLine := by decide
      refine ⟨.str row, rfl, .int (num % ((row.length : Int) + 1)), rfl, (num % ((row.length : Int) + 1)), rfl, row, rfl, le_sz hsz, _, _, rfl, rfl, by rw [one']; omega, .str row, rfl, .int (num % ((row.length : Int) + 1)), rfl, (num % ((row.length : Int) + 1)), rfl, row, rfl, le_sz hsz, _, _, rfl, rfl, by omega, ⟨_, rfl⟩, _, " ", rfl, rfl, by decide +kernel, ?_, ?_⟩
      · rw [hr2]
        omega
      rw [hr2]
      intro o ho
      have gO := g2.new (o := .lst ((Txt.split row2 " ").map V.str)) ho
      have ascP : ∀ p ∈ Txt.split row2 " ", Asc p := fun p hp c hc => asc2 c (sepBlank.mem hp hc)
      have okP : ((Txt.split row2 " ").map V.str).all okV = true := strs_ok ascP
      have eo : (upd H2 o (.lst ((Txt.split row2 " ").map V.str))) o = some (.lst ((Txt.split row2 " ").map V.str)) := upd_same
      generalize upd H2 o (.lst ((Txt.split row2 " ").map V.str)) = H3 at gO eo ⊢
      refine ⟨.str row, rfl, .int (num % ((row.length : Int) + 1)), rfl, (num % ((row.length : Int) + 1)), rfl, row, rfl, le_sz hsz, _, _, rfl, rfl, by rw [one']; omega, .str row, rfl, .int (num % ((row.length : Int) + 1)), rfl, (num % ((row.length : Int) + 1)), rfl, row, rfl, le_sz hsz, _, _, rfl, rfl, by omega, ?_⟩
      rw [hr2]
      have smR : Small (.str row2) := fun y e => by
        cases e
        omega
      have allF : ((Txt.split row2 " ").map V.str).all flatV = true := by
        rw [List.all_map]
        exact List.all_eq_true.mpr fun _ _ => rfl
      refine ⟨.str row2, "str", rfl, .str row2 (by omega), smR, gO.1, fun H4 g4 e => ?_, fun H4 p ws' g4 hp e eH => ?_⟩
      · have cond : inV (.str "") ((Txt.split row2 " ").map V.str) = true := by
          cases hc : inV (.str "") ((Txt.split row2 " ").map V.str) with
          | true => rfl
          | false =>
            have : wordsV (.str row2) = some (Txt.split row2 " ") := by
              show (if inV (.str "") ((Txt.split row2 " ").map V.str) then none else some (Txt.split row2 " ")) = _
              rw [hc]
              rfl
            rw [this] at e
            cases e
        have eo4 := g4.at gO.1 (fun z => z) eo
        refine ⟨.ref o, rfl, o, _, rfl, .inl (.inl (.inl eo4)), rfl, allF, _, rfl, ?_⟩
        rw [show (if false = true then !inV (.str "") ((Txt.split row2 " ").map V.str) else inV (.str "") ((Txt.split row2 " ").map V.str)) = true from cond]
        exact iteT ⟨.none, .none, .non, .non, rfl, rfl, q _ (gO.trans g4)⟩
      · have cond : inV (.str "") ((Txt.split row2 " ").map V.str) = false := by
          cases hc : inV (.str "") ((Txt.split row2 " ").map V.str) with
          | false => rfl
          | true =>
            have : wordsV (.str row2) = none := by
              show (if inV (.str "") ((Txt.split row2 " ").map V.str) then none else some (Txt.split row2 " ")) = _
              rw [hc]
              rfl
            rw [this] at e
            cases e
        have ew : ws' = Txt.split row2 " " := by
          have : wordsV (.str row2) = some (Txt.split row2 " ") := by
            show (if inV (.str "") ((Txt.split row2 " ").map V.str) then none else some (Txt.split row2 " ")) = _
            rw [cond]
            rfl
          rw [this] at e
          exact (Option.some.inj e).symm
        rw [ew] at eH
        have eo4 := g4.at gO.1 (fun z => z) eo
        refine ⟨.ref o, rfl, o, _, rfl, .inl (.inl (.inl eo4)), rfl, allF, _, rfl, ?_⟩
        rw [show (if false = true then !inV (.str "") ((Txt.split row2 " ").map V.str) else inV (.str "") ((Txt.split row2 " ").map V.str)) = false from cond]
        refine iteF ⟨.ref o, rfl, _, _, dp_lst (.inl (.inl eH)) okP, dp_lst (.inl (.inl eo4)) okP, sh_lst okP, sh_lst okP, ?_⟩
        rw [eqv_self (sh_lst okP)]
        exact q _ (gO.trans g4)
end
end K1
set_option Elab.async false
set_option linter.all false
set_option maxRecDepth 100000
set_option maxHeartbeats 8000000
/-! The law. -/
namespace K1
open PySem PySem.Spec PyProof.Rows L2

/-! ### a text plus a text replaced in -/
section
variable {X : Cx}
theorem pe_plusT {z : Str} {j : Nat} {e : Expr} {te : TE} {p0 pos : Pos} (h : PET X e te) : PE X (.BinOp (.Constant (.str z) j p0) .Add e pos) (tOp (fun x y H Q => ∃ i j, x = .str i ∧ y = .str j ∧ i.length + j.length ≤ sizeLine ∧ Q (.str (i ++ j)) H) (tC (.str z)) te) := by
  refine ⟨fun pins s σ H Q I hq => ?_⟩
  refine wpAny_BinOp (Calls.Constant_str ?_)
  refine thn (h pins { s with toks := s.toks + 1 } σ H _ (by show 1 ≤ s.toks + 1; omega) (I.tok _) hq) fun u s2 hu => ?_
  obtain ⟨y, H2, I2, r2, q2⟩ := hu
  exact op_add_str pins s2 σ H2 (.str z) y _ u Q I2 ⟨_, rfl⟩ r2 q2
end
def notB (c : Nat) : Bool := decide (c ≠ 32)
theorem repl_blank : ∀ l : List Nat, PySem.StrLaws.replL [32] [] l = l.filter notB
  | [] => PySem.StrLaws.replL_nil
  | c :: r => by
    by_cases h : c = 32
    · subst h
      rw [PySem.StrLaws.replL_hit (by simp) rfl, List.nil_append]
      show PySem.StrLaws.replL [32] [] r = _
      rw [repl_blank r, List.filter_cons_of_neg (by decide)]
    · rw [PySem.StrLaws.replL_miss (by
        intro z
        injection z with z
        exact h z), repl_blank r, List.filter_cons_of_pos (show notB c = true from decide_eq_true h)]
theorem tl_noBlank (y : Str) : TL.tl (Txt.replace y " " "") = (TL.tl y).filter notB := by
  have e := PySem.StrLaws.replace_list (x := y) (y := " ") (z := "") (by decide +kernel)
  have e0 : ("" : Str).cps.toList = [] := by decide +kernel
  rw [show (" " : Str).cps.toList = [32] from blank_tl, e0, repl_blank] at e
  exact e
theorem asc_num {i : Int} (h0 : 0 ≤ i) : Asc (Str.ofString (toString i)) := by
  obtain ⟨n, rfl⟩ := Int.eq_ofNat_of_zero_le h0
  intro c hc
  rw [TL.tl_num] at hc
  have := TL.numL_digits n c hc
  omega
theorem asc_app {a b : Str} (h : Asc a) (h' : Asc b) : Asc (a ++ b) := by
  intro c hc
  rw [TL.tl_append] at hc
  rcases List.mem_append.mp hc with h1 | h1
  · exact h c h1
  · exact h' c h1
theorem len_app (a b : Str) : (a ++ b).length = a.length + b.length := by
  rw [TL.len_tl, TL.tl_append, List.length_append, ← TL.len_tl, ← TL.len_tl]
/-- the next word of the row -/
theorem new_word {y : Str} (hl : y.length ≤ 10) (ha : Asc y) : ("a" ++ Txt.replace y " " "").length ≤ 11 ∧ ("a" ++ Txt.replace y " " "" : Str) ≠ "" ∧ Asc ("a" ++ Txt.replace y " " "") ∧ 32 ∉ TL.tl ("a" ++ Txt.replace y " " "") := by
  have ea : TL.tl ("a" : Str) = [97] := by decide +kernel
  have et : TL.tl ("a" ++ Txt.replace y " " "" : Str) = 97 :: (TL.tl y).filter notB := by
    rw [TL.tl_append, ea, tl_noBlank]
    rfl
  refine ⟨?_, ?_, ?_, ?_⟩
  · rw [TL.len_tl, et, List.length_cons]
    have := List.length_filter_le notB (TL.tl y)
    rw [← TL.len_tl] at this
    omega
  · intro z
    have := congrArg TL.tl z
    rw [et, show TL.tl ("" : Str) = [] by decide +kernel] at this
    cases this
  · intro c hc
    rw [et] at hc
    rcases List.mem_cons.mp hc with rfl | hc
    · decide
    · exact ha c (List.mem_filter.mp hc).1
  · rw [et]
    intro hc
    rcases List.mem_cons.mp hc with h | hc
    · cases h
    · exact absurd (List.mem_filter.mp hc).2 (by decide)
/-- an object that is new since H is changed -/
theorem Go.drop {T : Tp} {H H' : Hp} {d : Addr} (g : Go T (· = d) H H') (h : H d = none) : Go T D0 H H' :=
  ⟨g.1, fun b o h1 _ e => g.2 b o h1 (ne_of_none e h) e⟩

/-! ### the odd things -/
def OddAt (H : Hp) (o : V) (r : Int) : Prop :=
  (r = 0 ∧ o = .non) ∨ (r = 1 ∧ o = .bl true) ∨ (r = 2 ∧ o = .int 7) ∨ (r = 3 ∧ ∃ e, o = .ref e ∧ H e = some (.lst [])) ∨ (r = 4 ∧ ∃ e, o = .ref e ∧ H e = some (.lst [.str "a"])) ∨
    (r = 5 ∧ ∃ e, o = .ref e ∧ H e = some (.dK [])) ∨ (r = 6 ∧ ∃ e, o = .ref e ∧ H e = some (.tup [.str "a"])) ∨ (r = 7 ∧ o = .int (-2))
theorem OddAt.go {T : Tp} {H H' : Hp} {o : V} {r : Int} (h : OddAt H o r) (g : Go T D0 H H') (t : TG T H) : OddAt H' o r := by
  rcases h with h | h | h | ⟨hr, e, he, h⟩ | ⟨hr, e, he, h⟩ | ⟨hr, e, he, h⟩ | ⟨hr, e, he, h⟩ | h
  · exact .inl h
  · exact .inr (.inl h)
  · exact .inr (.inr (.inl h))
  · exact .inr (.inr (.inr (.inl ⟨hr, e, he, g.at t (fun z => z) h⟩)))
  · exact .inr (.inr (.inr (.inr (.inl ⟨hr, e, he, g.at t (fun z => z) h⟩))))
  · exact .inr (.inr (.inr (.inr (.inr (.inl ⟨hr, e, he, g.at t (fun z => z) h⟩)))))
  · exact .inr (.inr (.inr (.inr (.inr (.inr (.inl ⟨hr, e, he, g.at t (fun z => z) h⟩))))))
  · exact .inr (.inr (.inr (.inr (.inr (.inr (.inr h))))))
theorem tup_dict {H : Hp} {a : Addr} {kvs : List (Key × V)} (e : H a = some (.dK kvs)) : tupOf H (.ref a) = none := by
  show (match H a with | some (.tup xs) => some xs | _ => none : Option (List V)) = none
  rw [e]
structure OddF (H : Hp) (o : V) (r : Int) : Prop where
  th : ∃ n, Th H o n
  str : isS o = false
  all : ThAll H o
  name : nameL (tupOf H o) = false
  put : putL (tupOf H o) = false
  en : endL (tupOf H o) = false
  st : StAll (tupOf H o)
  int_ : isI o = inV (.int r) [.int 2, .int 7]
  am1 : amgV o (-2) 7 = inV (.int r) [.int 2, .int 7]
  am2 : amgV o (-1) 6 = false
theorem OddAt.facts {H : Hp} {o : V} {r : Int} (h : OddAt H o r) : OddF H o r := by
  have noT : ∀ {v : V}, tupOf H v = none → ThAll H v := fun e xs h => by
    rw [e] at h
    cases h
  rcases h with ⟨rfl, rfl⟩ | ⟨rfl, rfl⟩ | ⟨rfl, rfl⟩ | ⟨rfl, e, rfl, h⟩ | ⟨rfl, e, rfl, h⟩ | ⟨rfl, e, rfl, h⟩ | ⟨rfl, e, rfl, h⟩ | ⟨rfl, rfl⟩
  · exact ⟨⟨_, .non⟩, rfl, noT rfl, rfl, rfl, rfl, stAll_no rfl, by decide, by decide, rfl⟩
  · exact ⟨⟨_, .bl true⟩, rfl, noT rfl, rfl, rfl, rfl, stAll_no rfl, by decide, by decide, rfl⟩
  · exact ⟨⟨_, .int 7⟩, rfl, noT rfl, rfl, rfl, rfl, stAll_no rfl, by decide, by decide, by decide⟩
  · exact ⟨⟨_, .lst h⟩, rfl, noT (tup_lst h), by rw [tup_lst h]; rfl, by rw [tup_lst h]; rfl, by rw [tup_lst h]; rfl, stAll_no (tup_lst h), by show false = _; decide, by show false = _; decide, rfl⟩
  · exact ⟨⟨_, .lst h⟩, rfl, noT (tup_lst h), by rw [tup_lst h]; rfl, by rw [tup_lst h]; rfl, by rw [tup_lst h]; rfl, stAll_no (tup_lst h), by show false = _; decide, by show false = _; decide, rfl⟩
  · exact ⟨⟨_, .dK h⟩, rfl, noT (tup_dict h), by rw [tup_dict h]; rfl, by rw [tup_dict h]; rfl, by rw [tup_dict h]; rfl, stAll_no (tup_dict h), by show false = _; decide, by show false = _; decide, rfl⟩
  · exact ⟨⟨_, .tup h⟩, rfl, thAll_of h (by decide +kernel), by rw [tupOf_at h]; rfl, by rw [tupOf_at h]; rfl, by rw [tupOf_at h]; rfl, stAll_of h (by decide +kernel), by show false = _; decide, by show false = _; decide, rfl⟩
  · exact ⟨⟨_, .int (-2)⟩, rfl, noT rfl, rfl, rfl, rfl, stAll_no rfl, by decide, by decide, by decide⟩
end K1
set_option Elab.async false
set_option linter.all false
set_option maxRecDepth 100000
set_option maxHeartbeats 16000000
/-! The law: its body. -/
namespace K1
open PySem PySem.Spec PyProof.Rows L2
section
variable {P : Program} {w : World} {K : PySem.W.Frag} {mg : Str → Option Value} {base : Heap} {T : Tp}

/-- all defs that the law calls -/
structure Cals (P : Program) (w : World) (K : PySem.W.Frag) (mg : Str → Option Value) (base : Heap) (T : Tp) (k : Nat) : Prop where
  mixed : Cal P w K mg base k "_law_mixed" ["_law_cell", "_law_k"] spMixed
  draw : Cal P w K mg base k "_law_draw" ["_law_cell", "_law_k"] spDraw
  digit : Cal P w K mg base k "_law_digit" ["_law_state", "_law_many"] spDigit
  word : Cal P w K mg base k "_law_word" ["_law_state", "_law_signs"] spLWord
  one : Cal P w K mg base k "_law_one" ["_law_word_here"] (spLOne T)
  things : Cal P w K mg base k "_law_things" ["_law_state"] (spLThings T)
  row : Cal P w K mg base k "_law_row" ["_law_words", "_law_number_here"] (spLRow K T)
  num : Cal P w K mg base k "number_of" ["word"] (spNumO T)
  name : Cal P w K mg base k "name_of" ["word"] (spNameO (K := K) T)
  line : Cal P w K mg base k "line_of" ["word"] (spLineO (K := K) T)
  words : Cal P w K mg base k "words_of" ["row"] (spWordsO T)
  isWord : Cal P w K mg base k "is_word" ["thing"] (spWord T)
  isHand : Cal P w K mg base k "is_hand" ["thing"] (spHand T)
  isName : Cal P w K mg base k "is_name" ["thing"] (spName T)
  isPut : Cal P w K mg base k "is_put_line" ["thing"] (spPut T)
  isEnd : Cal P w K mg base k "is_end" ["thing"] spEnd
  isWhole : Cal P w K mg base k "is_whole" ["thing"] spWhole
  isAmong : Cal P w K mg base k "is_among" ["thing", "least", "most"] spAmong

def menu5 : List Str := ["ab.1", "a1.0", "012345", "abcz", "A -\n.1"]
theorem menu5_ok {z : Str} (h : z ∈ menu5) : (0 < z.length ∧ z.length ≤ 1000) ∧ Asc z := by
  have e : (menu5.all fun z => (decide (0 < z.length) && decide (z.length ≤ 1000)) && (TL.tl z).all (fun c => decide (c < 128))) = true := by decide +kernel
  have h2 := List.all_eq_true.mp e z h
  rw [Bool.and_eq_true, Bool.and_eq_true] at h2
  exact ⟨⟨of_decide_eq_true h2.1.1, of_decide_eq_true h2.1.2⟩, fun c hc => of_decide_eq_true (List.all_eq_true.mp h2.2 c hc)⟩

theorem iteFe {b : Bool} {A B : Prop} (h : b = false) (q : B) : if b = true then A else B := by
  rw [h]
  exact iteF q
theorem wordsV_no {v : V} (e : isS v = false) : wordsV v = none := by
  cases v with
  | str x => cases e
  | _ => rfl
theorem nameV_no {v : V} (e : isS v = false) : nameV v = none := by
  cases v with
  | str x => cases e
  | _ => rfl
theorem lineV_no {v : V} (e : isS v = false) : lineV v = none := by
  cases v with
  | str x => cases e
  | _ => rfl
theorem handV_no {v : V} (e : isS v = false) : handV v = false := by
  show (wordV v && _) = false
  rw [wordV_no e, Bool.false_and]
theorem small_no {v : V} (e : isS v = false) : Small v := fun x h => by
  rw [h] at e
  cases e
theorem pickA {α : Type} {xs : List α} {r : Int} (h0 : 0 ≤ r) (h1 : r < xs.length) : ∃ v, v ∈ xs ∧ atI xs r = some v := by
  have hr : r.toNat < xs.length := by omega
  have e : ((r.toNat : Nat) : Int) = r := by omega
  refine ⟨xs[r.toNat], List.getElem_mem hr, ?_⟩
  have := atI_nat (xs := xs) (j := r.toNat) (List.getElem?_eq_getElem hr)
  rw [e] at this
  exact this
theorem len_num9 {i : Int} (h0 : 0 ≤ i) (h1 : i < 1000000000) : (Str.ofString (toString i)).length ≤ 10 := by
  obtain ⟨n, rfl⟩ := Int.eq_ofNat_of_zero_le h0
  rw [TL.len_tl, TL.tl_num]
  exact Nat.le_trans (TL.numL_len (k := 9) (by omega) (by omega)) (by omega)
theorem log_small9 {i : Int} (h0 : 0 ≤ i) (h1 : i < 1000000000) : i.natAbs.log2 < 1920 := by
  by_cases z : i.natAbs = 0
  · rw [z]
    decide
  · have : i.natAbs.log2 < 30 := (Nat.log2_lt z).mpr (by omega)
    omega
theorem cut63 (xs : List V) (h : xs.length ≤ 63) : cutV xs none (some 63) = xs := by
  unfold cutV
  rw [show HT.sIx xs.length xs.length (some 63) = min 63 xs.length from HT.sIx_nat _ _ 63, HT.sIx_none, List.drop_zero, List.take_of_length_le (by omega)]
def WordOk (p : Str) : Prop := p.length ≤ 11 ∧ p ≠ "" ∧ Asc p ∧ 32 ∉ TL.tl p
def spLaw (K : PySem.W.Frag) (T : Tp) : Sp := fun vs H Q _ => ∃ (a : Addr) (ns : List Int), vs = [.ref a] ∧ SqL K H a (ns.map V.int) ∧ ns.length ≤ 63 ∧ TG T H ∧ ∀ H', Q (.bl true) H'
theorem ok_law {f : Addr} {fd : FuncData} {k : Nat} (F : Fun K "law" "law" sLaw f fd) (M : Mg K mg) (C : Cals P w K mg base T k) : FnOk P w K mg base CX0 (k + 1) f fd ["_law_script"] (spLaw K T) := by
  refine F.ok scLaw (fun vs H Q E h => ?_) (fun cdv A outer s H vs Q E hr h => ?_)
  · obtain ⟨a, ns, rfl, _⟩ := h
    rfl
  · obtain ⟨a, ns, rfl, hS, hlen, tg, q⟩ := h
    refine ⟨_, pss_cons (ps_set (i := 1) scLaw.nd rfl (.inl rfl) (pe_lst pa_nil))
      (pss_cons (ps_for PassesOwn.never rfl (pi_enum (by rfl) M.enum_ (pa_cons (pe_op op_cat (pe_slice sl_list (pv 0) po_none (po_some pe_int)) (pe_lst (pa_cons (pe_callB (cr_sum rfl) (by rfl) M.sum_ (by decide +kernel) (pa_cons (pv 0) pa_nil)) pa_nil))) pa_nil))
          (pg_tup rfl (pgs_cons (pg_name (i := 2) scLaw.nd rfl (.inl rfl)) (pgs_cons (pg_name (i := 3) scLaw.nd rfl (.inl rfl)) pgs_nil)))
        (pss_cons (ps_set (i := 4) scLaw.nd rfl (.inl rfl) (pe_cal C.draw hr (by rfl) (pa_cons (pv 3) (pa_cons (pv 2) pa_nil))))
        (pss_cons (ps_if (pt_not (pt_val (pe_cal C.things hr (by rfl) (pa_cons (pv 4) pa_nil)))) (pss_one (ps_ret pe_bl)) pss_nil)
        (pss_cons (ps_set (i := 5) scLaw.nd rfl (.inl rfl) (pe_cal C.word hr (by rfl) (pa_cons (pv 4) (pa_cons (pe_ix ix_list (pe_lst (pa_cons pe_str (pa_cons pe_str (pa_cons pe_str (pa_cons pe_str (pa_cons pe_str pa_nil)))))) (pe_cal C.digit hr (by rfl) (pa_cons (pv 4) (pa_cons pe_int pa_nil))) (fun _ _ => rfl)) pa_nil))))
        (pss_cons (ps_set (i := 6) scLaw.nd rfl (.inl rfl) (pe_op op_add_str (pe_op op_add_str (pe_ix ix_str pe_str (pe_cal C.digit hr (by rfl) (pa_cons (pv 4) (pa_cons pe_int pa_nil))) (fun _ _ => rfl)) pe_str)
            (pe_callTy call_str_int (by rfl) M.str_ boot_str (pa_cons (pe_cal C.digit hr (by rfl) (pa_cons (pv 4) (pa_cons pe_int pa_nil))) pa_nil))))
        (pss_cons (ps_set (i := 7) scLaw.nd rfl (.inl rfl) (pe_lst (pa_cons (pv 5) (pa_cons (pv 6) (pa_cons (pe_op op_add_str (pe_op op_add_str (pv 6) pe_str) (pe_callTy call_str_int (by rfl) M.str_ boot_str (pa_cons (pe_cal C.digit hr (by rfl) (pa_cons (pv 4) (pa_cons pe_int pa_nil))) pa_nil)))
            (pa_cons (pe_callTy call_str_int (by rfl) M.str_ boot_str (pa_cons (pe_cal C.digit hr (by rfl) (pa_cons (pv 4) (pa_cons pe_int pa_nil))) pa_nil)) pa_nil))))))
        (pss_cons (ps_for PassesOwn.never rfl (pi_list (pe_op op_cat (pv 7) (pe_lst (pa_cons pe_str (pa_cons pe_str pa_nil))))) (pg_name (i := 8) scLaw.nd rfl (.inl rfl))
          (pss_one (ps_if (pt_not (pt_val (pe_cal C.one hr (by rfl) (pa_cons (pv 8) pa_nil)))) (pss_one (ps_ret pe_bl)) pss_nil)))
        (pss_cons (ps_set (i := 1) scLaw.nd rfl (.inl rfl) (pe_op op_cat (pv 1) (pe_lst (pa_cons (pe_plusT (CwR.pet_replC (pv 5) (by decide +kernel))) pa_nil))))
        (pss_cons (ps_set (i := 9) scLaw.nd rfl (.inl rfl) (pe_ix ix_list (pe_lst (pa_cons pe_non (pa_cons pe_bl (pa_cons pe_int (pa_cons (pe_lst pa_nil) (pa_cons (pe_lst (pa_cons pe_str pa_nil)) (pa_cons pe_dnewK (pa_cons (pe_tup (pa_cons pe_str pa_nil)) (pa_cons (pe_un un_neg pe_int) pa_nil)))))))))
            (pe_op op_mod (pv 3) pe_int) (fun _ _ => rfl)))
        (pss_cons (ps_set (i := 10) scLaw.nd rfl (.inl rfl) (pe_lst (pa_cons (pe_cal C.num hr (by rfl) (pa_cons (pv 9) pa_nil)) (pa_cons (pe_cal C.words hr (by rfl) (pa_cons (pv 9) pa_nil)) (pa_cons (pe_cal C.name hr (by rfl) (pa_cons (pv 9) pa_nil)) (pa_cons (pe_cal C.line hr (by rfl) (pa_cons (pv 9) pa_nil)) pa_nil))))))
        (pss_cons (ps_if (PW.pt (pw_or (pt_cmpR (op_neD hr.units) (pv 10) (pe_op op_rep (pe_lst (pa_cons pe_non pa_nil)) pe_int) (nomark _))
            (pw_or (pt_val (pe_cal C.isWord hr (by rfl) (pa_cons (pv 9) pa_nil))) (pw_or (pt_val (pe_cal C.isHand hr (by rfl) (pa_cons (pv 9) pa_nil))) (pw_or (pt_val (pe_cal C.isName hr (by rfl) (pa_cons (pv 9) pa_nil)))
              (pw_or (pt_val (pe_cal C.isPut hr (by rfl) (pa_cons (pv 9) pa_nil))) (pw_or1 (pt_val (pe_cal C.isEnd hr (by rfl) (pa_cons (pv 9) pa_nil)))))))))) (pss_one (ps_ret pe_bl)) pss_nil)
        (pss_cons (ps_set (i := 11) scLaw.nd rfl (.inl rfl) (pe_cmpR op_in_seq (pe_op op_mod (pv 3) pe_int) (pe_tup (pa_cons pe_int (pa_cons pe_int pa_nil))) (by rfl)))
        (pss_cons (ps_if (PW.pt (pw_or (pt_cmpR op_ne (pe_cal C.isWhole hr (by rfl) (pa_cons (pv 9) pa_nil)) (pv 11) (nomark _))
            (pw_or (pt_cmpR op_ne (pe_cal C.isAmong hr (by rfl) (pa_cons (pv 9) (pa_cons (pe_un un_neg pe_int) (pa_cons pe_int pa_nil)))) (pv 11) (nomark _))
              (pw_or1 (pt_cmpR op_isnotB (pe_cal C.isAmong hr (by rfl) (pa_cons (pv 9) (pa_cons (pe_un un_neg pe_int) (pa_cons pe_int pa_nil)))) pe_bl (nomark _)))))) (pss_one (ps_ret pe_bl)) pss_nil)
        (pss_cons (ps_set (i := 12) scLaw.nd rfl (.inl rfl) (pe_op op_mod (pv 3) (pe_op op_pow pe_int pe_int)))
        (pss_one (ps_if (PW.pt (pw_or (pt_cmpR op_isnotB (pe_cal C.isAmong hr (by rfl) (pa_cons (pv 12) (pa_cons (pe_op op_sub (pv 12) pe_int) (pa_cons (pv 12) pa_nil)))) pe_bl (nomark _))
            (pw_or1 (pt_cmpR op_isnotB (pe_cal C.isAmong hr (by rfl) (pa_cons (pv 12) (pa_cons (pe_op op_add (pv 12) pe_int) (pa_cons (pe_op op_add (pv 12) pe_int) pa_nil)))) pe_bl (nomark _))))) (pss_one (ps_ret pe_bl)) pss_nil))))))))))))))))
      (pss_one (ps_ret (pe_and (pe_cmpR op_isN (pe_cal C.words hr (by rfl) (pa_cons pe_str pa_nil)) pe_non (nomark _))
        (pe_one (pe_cal C.row hr (by rfl) (pa_cons (pv 1) (pa_cons (pe_cal C.mixed hr (by rfl) (pa_cons (pe_callB (cr_sum rfl) (by rfl) M.sum_ (by decide +kernel) (pa_cons (pv 0) pa_nil)) (pa_cons pe_int pa_nil))) pa_nil)))))))), ?_⟩
    refine ⟨Nat.zero_le _, fun w0 hw0 => ?_⟩
    have gW0 : Go T D0 H (upd H w0 (.lst [])) := (Go.rfl' tg).new hw0
    have eW0 : (upd H w0 (.lst [])) w0 = some (.lst []) := upd_same
    generalize upd H w0 (.lst []) = H1 at gW0 eW0 ⊢
    have S1 := gW0.seqL tg (fun _ _ z => z) hS
    refine ⟨.ref a, rfl, 63, rfl, a, _, rfl, S1, fun s1 hs1 => ?_⟩
    rw [cut63 _ (by rw [List.length_map]; exact hlen)]
    have g2 := gW0.new (o := .lst (ns.map V.int)) hs1
    have eW2 := (upd_ne (o := .lst (ns.map V.int)) (ne_of_none eW0 hs1)).trans eW0
    have S2 := g2.seqL tg (fun _ _ z => z) hS
    have e2 : (upd H1 s1 (.lst (ns.map V.int))) s1 = some (.lst (ns.map V.int)) := upd_same
    generalize upd H1 s1 (.lst (ns.map V.int)) = H2 at g2 eW2 S2 e2 ⊢
    refine ⟨.ref a, rfl, a, ns, rfl, S2, by show 1 ≤ sizeLine; decide, fun s2 hs2 => ?_⟩
    have g3 := g2.new (o := .lst [V.int ns.sum]) hs2
    have eW3 := (upd_ne (o := .lst [V.int ns.sum]) (ne_of_none eW2 hs2)).trans eW2
    have e3 := (upd_ne (o := .lst [V.int ns.sum]) (ne_of_none e2 hs2)).trans e2
    refine ⟨s1, s2, _, _, rfl, rfl, e3, upd_same, ?_, fun L hL => ?_⟩
    · rw [List.length_map]
      exact Nat.le_trans (show ns.length + [V.int ns.sum].length ≤ 64 by simp; omega) (by decide)
    have eCells : ns.map V.int ++ [V.int ns.sum] = (ns ++ [ns.sum]).map V.int := by
      rw [List.map_append]
      rfl
    rw [eCells]
    generalize hcs : ns ++ [ns.sum] = cs
    have lcs : cs.length = ns.length + 1 := by rw [← hcs, List.length_append]; rfl
    have g4 := g3.new (o := .lst (cs.map V.int)) hL
    have eW4 := (upd_ne (o := .lst (cs.map V.int)) (ne_of_none eW3 hL)).trans eW3
    have e4 : (upd (upd H2 s2 (.lst [V.int ns.sum])) L (.lst (cs.map V.int))) L = some (.lst (cs.map V.int)) := upd_same
    generalize upd (upd H2 s2 (.lst [V.int ns.sum])) L (.lst (cs.map V.int)) = H4 at g4 eW4 e4 ⊢
    have tg4 := g4.1
    have SL : SqL K H4 L (cs.map V.int) := .inl (.inl e4)
    refine ⟨L, _, rfl, SL, ?_⟩
    refine for_it (walk_enum (K := K) (a := L) (xs := cs.map V.int)) (fun i σ H5 => Go T D0 H4 H5 ∧ ∃ (wl : Addr) (ws : List Str) (y2 y3 y4 y5 y6 y7 y8 y9 y10 y11 y12 : Option V), σ = [some (.ref a), some (.ref wl), y2, y3, y4, y5, y6, y7, y8, y9, y10, y11, y12] ∧
      H5 wl = some (.lst (ws.map V.str)) ∧ ws.length = i ∧ ∀ p ∈ ws, WordOk p) ?_ ?_ ?_ ?_
    · exact ⟨Go.rfl' tg4, w0, [], none, none, none, none, none, none, none, none, none, none, none, rfl, eW4, rfl, fun p hp => by cases hp⟩
    · rintro i σ H5 _ ⟨g5, _⟩
      exact g5.seqL tg4 (fun _ _ z => z) SL
    · rintro i v σ H5 H5' hi ⟨g5, wl, ws, y2, y3, y4, y5, y6, y7, y8, y9, y10, y11, y12, rfl, eW5, hwl, hws⟩ ⟨T', x1, x2, rfl, nT', rfl, ex1, ex2⟩
      rw [List.length_map] at hi
      obtain rfl : x1 = .int (i : Nat) := (Option.some.inj ex1).symm
      obtain ⟨c, rfl⟩ : ∃ c, x2 = .int c := by
        have ex3 : (cs.map V.int)[i]? = some x2 := ex2
        rw [List.getElem?_map, List.getElem?_eq_getElem hi] at ex3
        exact ⟨cs[i], (Option.some.inj ex3).symm⟩
      refine ⟨T', _, rfl, .inl (.inl upd_same), rfl, .int (i : Nat), [.int c], rfl, .int c, [], rfl, rfl, ?_⟩
      have gA := g5.new (o := .tup [V.int (i : Nat), V.int c]) nT'
      have eWA := (upd_ne (o := .tup [V.int (i : Nat), V.int c]) (ne_of_none eW5 nT')).trans eW5
      generalize upd H5 T' (.tup [V.int (i : Nat), V.int c]) = HA at gA eWA ⊢
      -- state
      refine ⟨.int c, rfl, .int (i : Nat), rfl, c, (i : Nat), rfl, by omega, by omega, fun d a0 b0 ha0 hb0 hd => ?_⟩
      have h4d : H4 d = none := gA.free tg4 (fun z => z) hd
      have gB := gA.new (o := .dK (stD a0 b0)) hd
      have eWB := (upd_ne (o := .dK (stD a0 b0)) (ne_of_none eWA hd)).trans eWA
      have hdB : (upd HA d (.dK (stD a0 b0))) d = some (.dK (stD a0 b0)) := upd_same
      have nwd : wl ≠ d := ne_of_none eWA hd
      generalize upd HA d (.dK (stD a0 b0)) = HB at gB eWB hdB ⊢
      have tgB := gB.1
      -- things
      refine ⟨.ref d, rfl, d, a0, b0, rfl, hdB, ha0, hb0, tgB, fun HC a1 b1 gC hdC ha1 hb1 => ⟨true, rfl, iteF ?_⟩⟩
      -- the word
      refine ⟨.ref d, rfl, by show 5 ≤ sizeLine; decide, fun m5 hm5 => ?_⟩
      have kD := gC.new (o := .lst (menu5.map V.str)) hm5
      have hdC2 := (upd_ne (o := .lst (menu5.map V.str)) (ne_of_none hdC hm5)).trans hdC
      refine ⟨.ref d, rfl, d, a1, b1, 5, rfl, hdC2, ha1, hb1, by decide, by decide, fun r1 a2 b2 HD r10 r11 ha2 hb2 hdD smD => ?_⟩
      have gD : Go T (· = d) HB HD := kD.trans (Go.dig kD.1 hdC2 smD rfl)
      obtain ⟨v1, mv1, at1⟩ := pick (xs := menu5.map V.str) r10 (by have : (menu5.map V.str).length = 5 := rfl; omega)
      obtain ⟨z, mz, rfl⟩ := List.mem_map.mp mv1
      obtain ⟨⟨z0, z1⟩, zasc⟩ := menu5_ok mz
      refine ⟨m5, menu5.map V.str, r1, .str z, rfl, rfl, .inl (.inl (smD m5 _ (ne_of_none hdC hm5).symm upd_same)), at1, d, a2, b2, z, rfl, hdD, ha2, hb2, z0, z1, fun y a3 b3 HE hy hyc ha3 hb3 hdE smE => ?_⟩
      have gE : Go T (· = d) HB HE := gD.trans (Go.dig gD.1 hdD smE rfl)
      have yasc : Asc y := fun c hc => zasc c (hyc c hc)
      -- the name
      refine ⟨.ref d, rfl, d, a3, b3, 3, rfl, hdE, ha3, hb3, by decide, by decide, fun r2 a4 b4 HF r20 r21 ha4 hb4 hdF smF => ?_⟩
      have gF : Go T (· = d) HB HF := gE.trans (Go.dig gE.1 hdE smF rfl)
      have abz : TL.tl ("abz" : Str) = [97, 98, 122] := by decide +kernel
      obtain ⟨cc, mcc, atc⟩ := pickA (xs := TL.tl ("abz" : Str)) r20 (by have : (TL.tl ("abz" : Str)).length = 3 := by rw [abz]; rfl
                                                                         omega)
      have lone : (one cc).length = 1 := rfl
      have ldot : ("." : Str).length = 1 := by decide +kernel
      have adot : Asc "." := fun c hc => by
        rw [show TL.tl ("." : Str) = [46] by decide +kernel] at hc
        rw [List.mem_singleton.mp hc]
        decide
      have aone : Asc (one cc) := fun c hc => by
        rw [tl_one] at hc
        rw [List.mem_singleton.mp hc]
        rw [abz] at mcc
        simp only [List.mem_cons, List.not_mem_nil, or_false] at mcc
        omega
      have big : 1000000 ≤ sizeLine := by decide
      refine ⟨"abz", r2, cc, rfl, rfl, by decide +kernel, atc, _, _, rfl, rfl, by show (one cc).length + ("." : Str).length ≤ sizeLine; omega, ?_⟩
      refine ⟨.ref d, rfl, d, a4, b4, 1200, rfl, hdF, ha4, hb4, by decide, by decide, fun r3 a5 b5 HG r30 r31 ha5 hb5 hdG smG => ?_⟩
      have gG : Go T (· = d) HB HG := gF.trans (Go.dig gF.1 hdF smG rfl)
      have l3 := len_num9 r30 (by omega)
      refine ⟨r3, rfl, log_small9 r30 (by omega), one cc ++ ".", Str.ofString (toString r3), rfl, rfl, by rw [len_app]; omega, ?_⟩
      obtain ⟨nm, hnm⟩ : ∃ nm, one cc ++ "." ++ Str.ofString (toString r3) = nm := ⟨_, rfl⟩
      have nml : nm.length ≤ 12 := by rw [← hnm, len_app, len_app]; omega
      have nma : Asc nm := by rw [← hnm]; exact asc_app (asc_app aone adot) (asc_num r30)
      rw [hnm]
      -- some
      refine ⟨.str y, rfl, .str nm, rfl, .str nm, rfl, nm, ".", rfl, rfl, by omega, .ref d, rfl, d, a5, b5, 12, rfl, hdG, ha5, hb5, by decide, by decide, fun r4 a6 b6 HH r40 r41 ha6 hb6 hdH smH => ?_⟩
      have gH : Go T (· = d) HB HH := gG.trans (Go.dig gG.1 hdG smH rfl)
      have l4 := len_num9 r40 (by omega)
      refine ⟨r4, rfl, log_small9 r40 (by omega), nm ++ ".", Str.ofString (toString r4), rfl, rfl, by rw [len_app]; omega, ?_⟩
      obtain ⟨ln, hln⟩ : ∃ ln, nm ++ "." ++ Str.ofString (toString r4) = ln := ⟨_, rfl⟩
      have lnl : ln.length ≤ 23 := by rw [← hln, len_app, len_app]; omega
      have lna : Asc ln := by rw [← hln]; exact asc_app (asc_app nma adot) (asc_num r40)
      rw [hln]
      refine ⟨.ref d, rfl, d, a6, b6, 10000000, rfl, hdH, ha6, hb6, by decide, by decide, fun r5 a7 b7 HI r50 r51 ha7 hb7 hdI smI => ?_⟩
      have gI : Go T (· = d) HB HI := gH.trans (Go.dig gH.1 hdH smI rfl)
      have l5 := len_num9 r50 (by omega)
      refine ⟨r5, rfl, log_small9 r50 (by omega), ?_⟩
      obtain ⟨nu, hnu⟩ : ∃ nu, Str.ofString (toString r5) = nu := ⟨_, rfl⟩
      have nul : nu.length ≤ 10 := by rw [← hnu]; exact l5
      have nua : Asc nu := by rw [← hnu]; exact asc_num r50
      rw [hnu]
      refine ⟨by show 4 ≤ sizeLine; decide, fun ls hls => ?_⟩
      have kS := gI.new (o := .lst [V.str y, .str nm, .str ln, .str nu]) hls
      have eS : (upd HI ls (.lst [V.str y, .str nm, .str ln, .str nu])) ls = some (.lst [V.str y, .str nm, .str ln, .str nu]) := upd_same
      generalize upd HI ls (.lst [V.str y, .str nm, .str ln, .str nu]) = HJ at kS eS ⊢
      refine ⟨.ref ls, rfl, by show 2 ≤ sizeLine; decide, fun l2 hl2 => ⟨ls, l2, _, _, rfl, rfl, (upd_ne (ne_of_none eS hl2)).trans eS, upd_same, by show 4 + 2 ≤ sizeLine; decide, fun l6 hl6 => ?_⟩⟩
      have eItems : [V.str y, .str nm, .str ln, .str nu] ++ [V.str "head", .str "none"] = [y, nm, ln, nu, "head", "none"].map V.str := rfl
      rw [eItems]
      have kK := (kS.new (o := .lst [V.str "head", .str "none"]) hl2).new (o := .lst ([y, nm, ln, nu, "head", "none"].map V.str)) hl6
      have e6 : (upd (upd HJ l2 (.lst [V.str "head", .str "none"])) l6 (.lst ([y, nm, ln, nu, "head", "none"].map V.str))) l6 = some (.lst ([y, nm, ln, nu, "head", "none"].map V.str)) := upd_same
      have itemsOk : ∀ p ∈ [y, nm, ln, nu, ("head" : Str), ("none" : Str)], p.length ≤ 1000 ∧ Asc p := by
        intro p hp
        simp only [List.mem_cons, List.not_mem_nil, or_false] at hp
        rcases hp with rfl | rfl | rfl | rfl | rfl | rfl
        · exact ⟨by omega, yasc⟩
        · exact ⟨by omega, nma⟩
        · exact ⟨by omega, lna⟩
        · exact ⟨by omega, nua⟩
        · refine ⟨by decide +kernel, fun c hc => ?_⟩
          exact of_decide_eq_true (List.all_eq_true.mp (by decide +kernel : (TL.tl ("head" : Str)).all (fun c => decide (c < 128)) = true) c hc)
        · refine ⟨by decide +kernel, fun c hc => ?_⟩
          exact of_decide_eq_true (List.all_eq_true.mp (by decide +kernel : (TL.tl ("none" : Str)).all (fun c => decide (c < 128)) = true) c hc)
      generalize [y, nm, ln, nu, ("head" : Str), ("none" : Str)] = items at kK e6 itemsOk ⊢
      generalize upd (upd HJ l2 (.lst [V.str "head", .str "none"])) l6 (.lst (items.map V.str)) = HK at kK e6 ⊢
      refine ⟨l6, rfl, ⟨_, .inl (.inl e6)⟩, ?_⟩
      refine for_list (K := K) (a := l6) (xs := items.map V.str) (fun j σ H6 => Go T D0 HK H6 ∧ ∃ z8, σ = [some (.ref a), some (.ref wl), some (.int (i : Nat)), some (.int c), some (.ref d), some (.str y), some (.str nm), some (.ref ls), z8, y9, y10, y11, y12]) ?_ ?_ ?_ ?_
      · exact ⟨Go.rfl' kK.1, _, rfl⟩
      · rintro j σ H6 _ ⟨g6, _⟩
        exact g6.seqL kK.1 (fun _ _ z => z) (.inl (.inl e6))
      · rintro j v σ H6 hv ⟨g6, z8, rfl⟩
        obtain ⟨hj, ev⟩ := List.getElem?_eq_some_iff.mp hv
        have hj' : j < items.length := by rw [List.length_map] at hj; exact hj
        have ev' : v = .str items[j] := by rw [← ev, List.getElem_map]
        subst ev'
        obtain ⟨i1, i2⟩ := itemsOk _ (List.getElem_mem hj')
        exact ⟨_, rfl, items[j], rfl, i1, i2, g6.1, fun H7 g7 => ⟨true, rfl, iteF ⟨g6.trans g7, _, rfl⟩⟩⟩
      · rintro σ H6 ⟨g6, z8, rfl⟩
        have hd4 : Go T D0 H4 H6 := ((gB.up.trans (kK.trans g6.up)).drop h4d)
        have kL : Go T (· = d) HB H6 := kK.trans g6.up
        have eW6 := kL.at tgB nwd eWB
        -- words
        have ry := new_word hy yasc
        refine ⟨.ref wl, rfl, .str y, rfl, y, rfl, ?_, "a", _, rfl, rfl, ?_, by show 1 ≤ sizeLine; decide, fun l7 hl7 => ⟨wl, l7, _, _, rfl, rfl, (upd_ne (ne_of_none eW6 hl7)).trans eW6, upd_same, ?_, fun wn hwn => ?_⟩⟩
        · have e0 : ("" : Str).length = 0 := by decide +kernel
          rw [e0]
          omega
        · have := ry.1
          rw [len_app] at this
          omega
        · rw [List.length_map, hwl]
          have : cs.length ≤ 64 := by omega
          exact Nat.le_trans (show i + [V.str ("a" ++ Txt.replace y " " "")].length ≤ 65 by simp; omega) (by decide)
        have eNew : ws.map V.str ++ [V.str ("a" ++ Txt.replace y " " "")] = (ws ++ ["a" ++ Txt.replace y " " ""]).map V.str := by
          rw [List.map_append]
          rfl
        rw [eNew]
        have hM := (hd4.new (o := .lst [V.str ("a" ++ Txt.replace y " " "")]) hl7).new (o := .lst ((ws ++ ["a" ++ Txt.replace y " " ""]).map V.str)) hwn
        have eWn : (upd (upd H6 l7 (.lst [V.str ("a" ++ Txt.replace y " " "")])) wn (.lst ((ws ++ ["a" ++ Txt.replace y " " ""]).map V.str))) wn = some (.lst ((ws ++ ["a" ++ Txt.replace y " " ""]).map V.str)) := upd_same
        have lenNew : (ws ++ ["a" ++ Txt.replace y " " ""]).length = i + 1 := by
          rw [List.length_append, hwl]
          rfl
        have okNew : ∀ p ∈ ws ++ ["a" ++ Txt.replace y " " ""], WordOk p := by
          intro p hp
          rcases List.mem_append.mp hp with hp | hp
          · exact hws p hp
          · rw [List.mem_singleton.mp hp]
            exact ry
        generalize ws ++ ["a" ++ Txt.replace y " " ""] = ws2 at hM eWn lenNew okNew ⊢
        generalize upd (upd H6 l7 (.lst [V.str ("a" ++ Txt.replace y " " "")])) wn (.lst (ws2.map V.str)) = HM at hM eWn ⊢
        -- odd
        refine ⟨Nat.zero_le _, fun q1 hq1 => ⟨by show 1 ≤ sizeLine; decide, fun q2 hq2 => fun q3 hq3 => ⟨by show 1 ≤ sizeLine; decide, fun q4 hq4 => ⟨2, rfl, by show 8 ≤ sizeLine; decide, fun lo hlo => ?_⟩⟩⟩⟩
        obtain ⟨HO, hHO⟩ : ∃ HO, upd (upd (upd (upd (upd HM q1 (.lst [])) q2 (.lst [V.str "a"])) q3 (.dK [])) q4 (.tup [V.str "a"])) lo (.lst [V.non, .bl true, .int 7, .ref q1, .ref q2, .ref q3, .ref q4, .int (-2)]) = HO := ⟨_, rfl⟩
        have hO5 : Go T D0 H4 HO := by
          rw [← hHO]
          exact ((((hM.new hq1).new hq2).new hq3).new hq4).new hlo
        have a1 : (upd HM q1 (.lst [])) q1 = some (.lst []) := upd_same
        have a2 := (upd_ne (o := .lst [V.str "a"]) (ne_of_none a1 hq2)).trans a1
        have a3 := (upd_ne (o := .dK []) (ne_of_none a2 hq3)).trans a2
        have a4 := (upd_ne (o := .tup [V.str "a"]) (ne_of_none a3 hq4)).trans a3
        have a5 := (upd_ne (o := .lst [V.non, .bl true, .int 7, .ref q1, .ref q2, .ref q3, .ref q4, .int (-2)]) (ne_of_none a4 hlo)).trans a4
        have b2 : (upd (upd HM q1 (.lst [])) q2 (.lst [V.str "a"])) q2 = some (.lst [V.str "a"]) := upd_same
        have b3 := (upd_ne (o := .dK []) (ne_of_none b2 hq3)).trans b2
        have b4 := (upd_ne (o := .tup [V.str "a"]) (ne_of_none b3 hq4)).trans b3
        have b5 := (upd_ne (o := .lst [V.non, .bl true, .int 7, .ref q1, .ref q2, .ref q3, .ref q4, .int (-2)]) (ne_of_none b4 hlo)).trans b4
        have c3 : (upd (upd (upd HM q1 (.lst [])) q2 (.lst [V.str "a"])) q3 (.dK [])) q3 = some (.dK []) := upd_same
        have c4 := (upd_ne (o := .tup [V.str "a"]) (ne_of_none c3 hq4)).trans c3
        have c5 := (upd_ne (o := .lst [V.non, .bl true, .int 7, .ref q1, .ref q2, .ref q3, .ref q4, .int (-2)]) (ne_of_none c4 hlo)).trans c4
        have d4 : (upd (upd (upd (upd HM q1 (.lst [])) q2 (.lst [V.str "a"])) q3 (.dK [])) q4 (.tup [V.str "a"])) q4 = some (.tup [V.str "a"]) := upd_same
        have d5 := (upd_ne (o := .lst [V.non, .bl true, .int 7, .ref q1, .ref q2, .ref q3, .ref q4, .int (-2)]) (ne_of_none d4 hlo)).trans d4
        have w1 := (upd_ne (o := .lst []) (ne_of_none eWn hq1)).trans eWn
        have w2 := (upd_ne (o := .lst [V.str "a"]) (ne_of_none w1 hq2)).trans w1
        have w3 := (upd_ne (o := .dK []) (ne_of_none w2 hq3)).trans w2
        have w4 := (upd_ne (o := .tup [V.str "a"]) (ne_of_none w3 hq4)).trans w3
        have w5 := (upd_ne (o := .lst [V.non, .bl true, .int 7, .ref q1, .ref q2, .ref q3, .ref q4, .int (-2)]) (ne_of_none w4 hlo)).trans w4
        have o5 : HO lo = some (.lst [V.non, .bl true, .int 7, .ref q1, .ref q2, .ref q3, .ref q4, .int (-2)]) := by
          rw [← hHO]
          exact upd_same
        rw [hHO] at a5 b5 c5 d5 w5
        obtain ⟨o, hat, odd⟩ : ∃ o, atI [V.non, .bl true, .int 7, .ref q1, .ref q2, .ref q3, .ref q4, .int (-2)] (c % 8) = some o ∧ OddAt HO o (c % 8) := by
          have m0 := Int.emod_nonneg c (show (8 : Int) ≠ 0 by decide)
          have m1 := Int.emod_lt_of_pos c (show (0 : Int) < 8 by decide)
          have cases8 : c % 8 = 0 ∨ c % 8 = 1 ∨ c % 8 = 2 ∨ c % 8 = 3 ∨ c % 8 = 4 ∨ c % 8 = 5 ∨ c % 8 = 6 ∨ c % 8 = 7 := by omega
          rcases cases8 with e | e | e | e | e | e | e | e
          · rw [e]; exact ⟨_, atI_nat (j := 0) rfl, .inl ⟨rfl, rfl⟩⟩
          · rw [e]; exact ⟨_, atI_nat (j := 1) rfl, .inr (.inl ⟨rfl, rfl⟩)⟩
          · rw [e]; exact ⟨_, atI_nat (j := 2) rfl, .inr (.inr (.inl ⟨rfl, rfl⟩))⟩
          · rw [e]; exact ⟨_, atI_nat (j := 3) rfl, .inr (.inr (.inr (.inl ⟨rfl, _, rfl, a5⟩)))⟩
          · rw [e]; exact ⟨_, atI_nat (j := 4) rfl, .inr (.inr (.inr (.inr (.inl ⟨rfl, _, rfl, b5⟩))))⟩
          · rw [e]; exact ⟨_, atI_nat (j := 5) rfl, .inr (.inr (.inr (.inr (.inr (.inl ⟨rfl, _, rfl, c5⟩)))))⟩
          · rw [e]; exact ⟨_, atI_nat (j := 6) rfl, .inr (.inr (.inr (.inr (.inr (.inr (.inl ⟨rfl, _, rfl, d5⟩))))))⟩
          · rw [e]; exact ⟨_, atI_nat (j := 7) rfl, .inr (.inr (.inr (.inr (.inr (.inr (.inr ⟨rfl, rfl⟩))))))⟩
        refine ⟨.int c, rfl, c, 8, rfl, rfl, (show (0 : Int) < 8 by decide), lo, _, c % 8, o, rfl, rfl, .inl (.inl (by rw [hHO]; exact o5)), hat, ?_⟩
        rw [hHO]
        clear a1 a2 a3 a4 a5 b2 b3 b4 b5 c3 c4 c5 d4 d5 w1 w2 w3 w4 o5 hHO hat
        have hs := odd.facts.str
        -- told
        obtain ⟨n1, t1⟩ := odd.facts.th
        refine ⟨o, rfl, o, n1, rfl, t1, hO5.1, fun HP gP => ?_⟩
        rw [isS_no hs]
        have oddP := odd.go gP hO5.1
        obtain ⟨n2, t2⟩ := oddP.facts.th
        refine ⟨o, rfl, o, n2, rfl, t2, small_no hs, gP.1, fun HQ gQ _ => ?_, fun HQ p' ws' _ _ e _ => by rw [wordsV_no hs] at e; cases e⟩
        have oddQ := oddP.go gQ gP.1
        obtain ⟨n3, t3⟩ := oddQ.facts.th
        refine ⟨o, rfl, o, n3, rfl, t3, small_no hs, gQ.1, fun HR gR _ => ?_, fun HR p' xs' _ e _ => by rw [nameV_no hs] at e; cases e⟩
        have oddR := oddQ.go gR gQ.1
        obtain ⟨n4, t4⟩ := oddR.facts.th
        refine ⟨o, rfl, o, n4, rfl, t4, small_no hs, gR.1, fun HS gS _ => ?_, fun HS p' xs' _ e _ => by rw [lineV_no hs] at e; cases e⟩
        refine ⟨by show 4 ≤ sizeLine; decide, fun tl htl => ?_⟩
        have hT : Go T D0 HO (upd HS tl (.lst [V.non, .non, .non, .non])) := (((gP.trans gQ).trans gR).trans gS).new htl
        refine ⟨.ref tl, rfl, by show 1 ≤ sizeLine; decide, fun l8 hl8 => ⟨l8, 4, [.non], rfl, rfl, upd_same, by decide, by decide, by show 1 * 4 ≤ sizeLine; decide, fun l9 hl9 => ?_⟩⟩
        have eT : (upd HS tl (.lst [V.non, .non, .non, .non])) tl = some (.lst [V.non, .non, .non, .non]) := upd_same
        have eT2 := (upd_ne (o := .lst [V.non]) (ne_of_none eT hl8)).trans eT
        have eT3 := (upd_ne (o := .lst (List.replicate (4 : Int).toNat [V.non]).flatten) (ne_of_none eT2 hl9)).trans eT2
        have hU := (hT.new (o := .lst [V.non]) hl8).new (o := .lst (List.replicate (4 : Int).toNat [V.non]).flatten) hl9
        have e9 : (upd (upd (upd HS tl (.lst [V.non, .non, .non, .non])) l8 (.lst [V.non])) l9 (.lst (List.replicate (4 : Int).toNat [V.non]).flatten)) l9 = some (.lst [V.non, .non, .non, .non]) := upd_same
        generalize upd (upd (upd HS tl (.lst [V.non, .non, .non, .non])) l8 (.lst [V.non])) l9 (.lst (List.replicate (4 : Int).toNat [V.non]).flatten) = HU at eT3 hU e9 ⊢
        have okN : [V.non, .non, .non, .non].all okV = true := rfl
        refine ⟨_, _, dp_lst (.inl (.inl eT3)) okN, dp_lst (.inl (.inl e9)) okN, sh_lst okN, sh_lst okN, _, rfl, ?_⟩
        rw [eqv_self (sh_lst okN)]
        have oddU := odd.go hU hO5.1
        obtain ⟨n5, t5⟩ := oddU.facts.th
        refine iteF ⟨o, rfl, o, n5, rfl, t5, hU.1, fun HV gV => ⟨_, rfl, iteFe (wordV_no hs) ?_⟩⟩
        have oddV := oddU.go gV hU.1
        obtain ⟨n6, t6⟩ := oddV.facts.th
        refine ⟨o, rfl, o, n6, rfl, t6, gV.1, fun HW gW => ⟨_, rfl, iteFe (handV_no hs) ?_⟩⟩
        have oddW := oddV.go gW gV.1
        obtain ⟨n7, t7⟩ := oddW.facts.th
        refine ⟨o, rfl, o, n7, rfl, t7, oddW.facts.all, gW.1, fun HX gX => ⟨_, rfl, iteFe oddW.facts.name ?_⟩⟩
        have oddX := oddW.go gX gW.1
        obtain ⟨n8, t8⟩ := oddX.facts.th
        refine ⟨o, rfl, o, n8, rfl, t8, oddX.facts.all, gX.1, fun HY gY => ⟨_, rfl, iteFe oddX.facts.put ?_⟩⟩
        have oddY := oddX.go gY gX.1
        obtain ⟨n9, t9⟩ := oddY.facts.th
        refine ⟨o, rfl, o, n9, rfl, t9, oddY.facts.all, oddY.facts.st, _, rfl, iteFe oddY.facts.en ?_⟩
        have kY : Go T D0 HO HY := (((hU.trans gV).trans gW).trans gX).trans gY
        -- due
        refine ⟨.int c, rfl, c, 8, rfl, rfl, (show (0 : Int) < 8 by decide), by show 2 ≤ sizeLine; decide, fun tt htt => ⟨tt, _, rfl, .inr (.inl (.inl upd_same)), rfl, rfl, ?_⟩⟩
        have kZ := kY.new (o := .tup [V.int 2, .int 7]) htt
        have oddZ := odd.go kZ hO5.1
        have wZ := kZ.at hO5.1 (fun z => z) w5
        have gZ4 := hO5.trans kZ
        generalize upd HY tt (.tup [V.int 2, .int 7]) = HZ at kZ oddZ wZ gZ4 ⊢
        obtain ⟨n10, t10⟩ := oddZ.facts.th
        have F := oddZ.facts
        have dueEq : ∀ b : Bool, b = inV (.int (c % 8)) [.int 2, .int 7] → (!decide (V.bl b = V.bl (inV (.int (c % 8)) [.int 2, .int 7]))) = false := fun b h => by
          rw [h, decide_eq_true rfl]
          rfl
        refine ⟨o, rfl, o, n10, rfl, t10, _, rfl, rfl, _, rfl, iteFe (dueEq _ F.int_) ?_⟩
        refine ⟨o, rfl, 2, rfl, o, n10, -2, 7, rfl, t10, _, rfl, rfl, _, rfl, iteFe (dueEq _ F.am1) ?_⟩
        refine ⟨o, rfl, 1, rfl, o, n10, -1, 6, rfl, t10, false, rfl, rfl, _, rfl, iteFe (by rw [F.am2]; rfl) ?_⟩
        -- big
        refine ⟨.int c, rfl, 10, 60, rfl, rfl, ⟨by decide, by decide, by decide⟩, c, _, rfl, rfl, (show (0 : Int) < 10 ^ (60 : Int).toNat by decide), ?_⟩
        have yes : ∀ b : Int, amgV (.int b) (b - 1) b = true := fun b => by
          show (decide (b - 1 ≤ b) && decide (b ≤ b)) = true
          rw [decide_eq_true (show b - 1 ≤ b by omega), decide_eq_true (Int.le_refl b)] <;> rfl
        have no : ∀ b : Int, amgV (.int b) (b + 1) (b + 2) = false := fun b => by
          show (decide (b + 1 ≤ b) && decide (b ≤ b + 2)) = false
          rw [decide_eq_false (show ¬ b + 1 ≤ b by omega), Bool.false_and]
        refine ⟨_, rfl, _, rfl, _, 1, rfl, rfl, _, rfl, _, "int", _, _, rfl, .int _, true, rfl, rfl, _, rfl, iteFe (by rw [yes]; rfl) ?_⟩
        refine ⟨_, rfl, _, rfl, _, 1, rfl, rfl, _, rfl, _, 2, rfl, rfl, _, "int", _, _, rfl, .int _, false, rfl, rfl, _, rfl, iteFe (by rw [no]; rfl) ?_⟩
        exact ⟨gZ4, wn, ws2, _, _, _, _, _, _, _, _, _, _, _, rfl, wZ, lenNew, okNew⟩
    · rintro σ H5 ⟨g5, wl, ws, y2, y3, y4, y5, y6, y7, y8, y9, y10, y11, y12, rfl, eW5, hwl, hws⟩
      rw [List.length_map] at hwl
      have we : wordsV (.str "") = none := by decide +kernel
      have l0 : ("" : Str).length = 0 := by decide +kernel
      refine ⟨.str "", "str", rfl, .str "" (by rw [l0]; exact Nat.zero_le _), small_of (by rw [l0]; exact Nat.zero_le _), g5.1, fun H6 g6 _ => ?_, fun H6 p' ws' _ _ e _ => by rw [we] at e; cases e⟩
      have g46 := g5.trans g6
      refine ⟨rfl, _, rfl, iteT ⟨.ref wl, rfl, .ref a, rfl, a, ns, rfl, (g4.trans g46).seqL tg (fun _ _ z => z) hS, ns.sum, 2, rfl, by decide, by decide, fun r _ _ => ?_⟩⟩
      refine ⟨wl, ws, r, rfl, .inl (.inl (g6.at g5.1 (fun z => z) eW5)), ⟨fun z => ?_, by omega, hws⟩, g6.1, fun H' _ => q H'⟩
      rw [z] at hwl
      have : ([] : List Str).length = 0 := rfl
      omega
end
end K1
set_option Elab.async false
set_option linter.all false
set_option maxRecDepth 100000
set_option maxHeartbeats 4000000
/-! The end: what the top has left, taken together. -/
namespace K1
open PySem PySem.Spec PyProof.Rows L2 PySem.W

/-- what the walk's end asks at a heap: a promise of the law, with tables -/
def EndAt (l : OpenLaw) (w : World) (K : Frag) (k n : Nat) (x : Str) (mg : Str → Option Value) (fa : Addr) (h : Heap) : Prop := LamX.LawAtS l w K L2.CX0 k n x mg fa h
theorem walk_tabs {l : OpenLaw} {n k : Nat} {q : Program} {loose : List Str} {XP : (Str → Option Value) → Heap → Prop} {YP : World → Heap → Prop} {d : DefRec} {K : Params → Frag} {x : Str}
    (hn : l.most = some n) (hn2 : n ≤ sizeLine) (hdf : d.params.defaults = []) (hr : Room k callerA) (hY : ∀ (w : World) (h : Heap), YP w h → (K w.params).In h)
    (F : ∀ (w : World) (lo : List Str) (mean : ExcName → Option Value) (mg mb : Str → Option Value) (fa : Addr) (h : Heap), (K w.params).In h → Top q lo mean mg mb h → mg d.name = some (.ref fa) → EndAt l w (K w.params) k n x mg fa h) :
    WalkO q loose XP YP l.row.toRowW d [] (fun f vs => PySem.call f vs) := by
  refine Att.attach_callB hn hdf ?_
  intro w s₀ s₁ mg mb fa o pm cd doc a vs ns G Y ho hd hcd hmg hobj hints hlen hbits hg
  have X := hY w _ Y
  obtain ⟨fd, cs, sp, c1, c2, c3, hb, hsp, hF⟩ := F w _ _ mg mb fa _ X G.T hmg
  refine LamX.law_callTs X G.T.g G.T.b G.T.builtins G.T.nolimit hg c1 c2 c3 G.T.bmain hobj hints (Nat.le_trans hlen hn2) hr hF hb ?_ ?_
  · intro H hH hS
    exact hsp H a ns hlen hbits hH hS
  · intro H e s' z
    exact z

section
variable {q : Program} {loose : List Str} {mean : ExcName → Option Value} {mg mb : Str → Option Value} {h : Heap} {K : Frag}
/-- a def of the view: its code object and the table of that, empty -/
theorem tab_mine {x : Str} {f c P : Addr} {o oc : Obj} {fd : FuncData} {vs : Array Value} (T : Top q loose mean mg mb h) (X : K.In h) (hx : ((recsOf q).any fun e => e.name == x) = true) (m : mg x = some (.ref f))
    (l : K.lookup f = some o) (ho : o.data = .func fd) (hc : fd.code = .ref c) (l2 : K.lookup c = some oc) (hd2 : oc.data = .fields vs) (hv : vs[11]? = some (.ref P)) :
    CodeHd h c P ∧ h.get? P = some (tabObj #[]) := by
  obtain ⟨e, he, hn⟩ := List.any_eq_true.mp hx
  have hn' : e.name = x := eq_of_beq hn
  obtain ⟨a, o', fd', c', P', h1, h2, h3, h4, h5, h6⟩ := T.tab e he
  rw [hn', m] at h1
  obtain rfl : f = a := by
    injection h1 with z
    injection z
  have e1 := X _ _ l
  rw [h2] at e1
  obtain rfl : o' = o := Option.some.inj e1
  rw [h3] at ho
  obtain rfl : fd' = fd := by injection ho
  rw [h4] at hc
  obtain rfl : c' = c := by injection hc
  have h6' := h6
  obtain ⟨⟨oc', vs', g1, g2, g3, g4⟩, g5⟩ := h6'
  rw [X _ _ l2] at g1
  obtain rfl : oc = oc' := Option.some.inj g1
  rw [hd2] at g3
  obtain rfl : vs = vs' := by injection g3
  rw [hv] at g4
  obtain rfl : P = P' := by
    injection g4 with z
    injection z
  exact ⟨CodeHd.of h5 h6, g5⟩
/-- a def of the module -/
structure DefAt (K : Frag) (mg : Str → Option Value) (x : Str) (st : Stmt) (ps : List Str) : Prop where
  ex : ∃ (f : Addr) (fd : FuncData), Fun K x x st f fd ∧ mg x = some (.ref f) ∧ Binds K fd ps []
theorem def_at {x : Str} {st : Stmt} {ps : List Str} {f : Addr} {oc kV doc pm cdv ct : Value} {od an : Option Addr} {osl : Array (Option Value)} (X : K.In h) (G : h.Ns mainGlobals mg)
    (a : nsIn K mainGlobals x = some (some (.ref f))) (l : K.lookup f = some ⟨oc, od, .func (fnOf x x (defArgs st) (defBody st) (defScope st) .none kV doc pm an cdv ct), osl⟩) (c : codeIn K cdv x = true) (k : keepIn K (.ref f) = true)
    (b : ∀ us : List Value, us.length = ps.length → bindArgs (fnOf x x (defArgs st) (defBody st) (defScope st) .none kV doc pm an cdv ct) ⟨us, []⟩ = pure (ps.zip us)) : DefAt K mg x st ps :=
  ⟨f, _, fun_mk l c k, mg_of X G a, .all b⟩
end
section
variable {P : Program} {w : World} {K : Frag} {mg : Str → Option Value} {base : Heap} {T : Tp}
theorem DefAt.cal {x : Str} {st : Stmt} {ps : List Str} {k j : Nat} {sp : Sp} (D : DefAt K mg x st ps) (ok : ∀ {f : Addr} {fd : FuncData}, Fun K x x st f fd → FnOk P w K mg base CX0 j f fd ps sp) (h : j ≤ k) : Cal P w K mg base k x ps sp := by
  obtain ⟨f, fd, F, m, b⟩ := D.ex
  exact ⟨f, fd, (ok F).mono h, m, F.kp, b⟩
theorem Cal.up {x : Str} {ps : List Str} {k j : Nat} {sp : Sp} (C : Cal P w K mg base j x ps sp) (h : j ≤ k) : Cal P w K mg base k x ps sp := by
  obtain ⟨f, fd, F, r⟩ := C.ex
  exact ⟨f, fd, F.mono h, r⟩
/-- the defs but the law -/
structure Defs (K : Frag) (mg : Str → Option Value) : Prop where
  whole : DefAt K mg "is_whole" sWhole ["thing"]
  word : DefAt K mg "is_word" sWord ["thing"]
  numO : DefAt K mg "number_of" sNumO ["word"]
  among : DefAt K mg "is_among" sAmong ["thing", "least", "most"]
  triple : DefAt K mg "is_triple" sIsTriple ["thing"]
  hand : DefAt K mg "is_hand" sHand ["thing"]
  name : DefAt K mg "is_name" sName ["thing"]
  put : DefAt K mg "is_put_line" sPut ["thing"]
  en : DefAt K mg "is_end" sEnd ["thing"]
  nameO : DefAt K mg "name_of" sNameO ["word"]
  lineO : DefAt K mg "line_of" sLineO ["word"]
  nameT : DefAt K mg "name_text" sNameT ["name"]
  lineT : DefAt K mg "line_text" sLineT ["line"]
  wordsO : DefAt K mg "words_of" sWordsO ["row"]
  mixed : DefAt K mg "_law_mixed" sMixed ["_law_cell", "_law_k"]
  draw : DefAt K mg "_law_draw" sDraw ["_law_cell", "_law_k"]
  digit : DefAt K mg "_law_digit" sDigit ["_law_state", "_law_many"]
  lword : DefAt K mg "_law_word" sLWord ["_law_state", "_law_signs"]
  lisWord : DefAt K mg "_law_is_word" sLIsWord ["_law_word_here"]
  lnum : DefAt K mg "_law_number" sLNum ["_law_word_here"]
  lparts : DefAt K mg "_law_parts" sLParts ["_law_word_here", "_law_many"]
  lone : DefAt K mg "_law_one" sLOne ["_law_word_here"]
  lthings : DefAt K mg "_law_things" sLThings ["_law_state"]
  lrow : DefAt K mg "_law_row" sLRow ["_law_words", "_law_number_here"]
theorem cals (D : Defs K mg) (M : Mg K mg) : Cals P w K mg base T 7 := by
  have whole : Cal P w K mg base 1 "is_whole" ["thing"] spWhole := D.whole.cal (j := 1) (fun F => ok_whole F M) (by omega)
  have W : Cal P w K mg base 1 "is_word" ["thing"] (spWord T) := D.word.cal (j := 1) (fun F => ok_word (k := 0) F M) (by omega)
  have N : Cal P w K mg base 1 "number_of" ["word"] (spNumO T) := D.numO.cal (j := 1) (fun F => ok_numO (k := 0) F M) (by omega)
  have among : Cal P w K mg base 2 "is_among" ["thing", "least", "most"] spAmong := D.among.cal (j := 2) (fun F => ok_among F whole) (by omega)
  have hand : Cal P w K mg base 2 "is_hand" ["thing"] (spHand T) := D.hand.cal (j := 2) (fun F => ok_hand F W) (by omega)
  have name : Cal P w K mg base 3 "is_name" ["thing"] (spName T) := D.name.cal (j := 3) (fun F => ok_name F M hand) (by omega)
  have put : Cal P w K mg base 4 "is_put_line" ["thing"] (spPut T) := D.put.cal (j := 4) (fun F => ok_put F M (hand.up (by omega))) (by omega)
  have triple : Cal P w K mg base 1 "is_triple" ["thing"] spTriple := D.triple.cal (j := 1) (fun F => ok_triple (k := 0) F M) (by omega)
  have en : Cal P w K mg base 3 "is_end" ["thing"] spEnd := D.en.cal (j := 3) (fun F => ok_end F M (triple.up (by omega))) (by omega)
  have nameO : Cal P w K mg base 4 "name_of" ["word"] (spNameO (K := K) T) := D.nameO.cal (j := 4) (fun F => ok_nameO F M name (N.up (by omega))) (by omega)
  have lineO : Cal P w K mg base 5 "line_of" ["word"] (spLineO (K := K) T) := D.lineO.cal (j := 5) (fun F => ok_lineO F M put (N.up (by omega))) (by omega)
  have nameT : Cal P w K mg base 1 "name_text" ["name"] (spNameT K) := D.nameT.cal (j := 1) (fun F => ok_nameT (k := 0) F) (by omega)
  have lineT : Cal P w K mg base 1 "line_text" ["line"] (spLineT K) := D.lineT.cal (j := 1) (fun F => ok_lineT (k := 0) F M) (by omega)
  have wordsO : Cal P w K mg base 1 "words_of" ["row"] (spWordsO T) := D.wordsO.cal (j := 1) (fun F => ok_wordsO (k := 0) F M) (by omega)
  have mixed : Cal P w K mg base 1 "_law_mixed" ["_law_cell", "_law_k"] spMixed := D.mixed.cal (j := 1) (fun F => ok_mixed (k := 0) F) (by omega)
  have draw : Cal P w K mg base 2 "_law_draw" ["_law_cell", "_law_k"] spDraw := D.draw.cal (j := 2) (fun F => ok_draw F mixed) (by omega)
  have digit : Cal P w K mg base 1 "_law_digit" ["_law_state", "_law_many"] spDigit := D.digit.cal (j := 1) (fun F => ok_digit (k := 0) F) (by omega)
  have lword : Cal P w K mg base 2 "_law_word" ["_law_state", "_law_signs"] spLWord := D.lword.cal (j := 2) (fun F => ok_lword F M digit) (by omega)
  have lisWord : Cal P w K mg base 1 "_law_is_word" ["_law_word_here"] (spLIsWord T) := D.lisWord.cal (j := 1) (fun F => ok_lisword (k := 0) F M) (by omega)
  have lnum : Cal P w K mg base 1 "_law_number" ["_law_word_here"] (spLNum T) := D.lnum.cal (j := 1) (fun F => ok_lnum (k := 0) F M) (by omega)
  have lparts : Cal P w K mg base 2 "_law_parts" ["_law_word_here", "_law_many"] (spLParts T) := D.lparts.cal (j := 2) (fun F => ok_lparts F M lisWord lnum) (by omega)
  have lone : Cal P w K mg base 6 "_law_one" ["_law_word_here"] (spLOne T) :=
    D.lone.cal (j := 6) (fun F => ok_lone F M (lparts.up (by omega)) (lnum.up (by omega)) (lisWord.up (by omega)) (N.up (by omega)) (nameO.up (by omega)) lineO (nameT.up (by omega)) (lineT.up (by omega)) (W.up (by omega)) (hand.up (by omega))) (by omega)
  have lthings : Cal P w K mg base 5 "_law_things" ["_law_state"] (spLThings T) := D.lthings.cal (j := 5) (fun F => ok_lthings F M (digit.up (by omega)) (name.up (by omega)) put (en.up (by omega))) (by omega)
  have lrow : Cal P w K mg base 2 "_law_row" ["_law_words", "_law_number_here"] (spLRow K T) := D.lrow.cal (j := 2) (fun F => ok_lrow F M wordsO) (by omega)
  exact ⟨mixed.up (by omega), draw.up (by omega), digit.up (by omega), lword.up (by omega), lone.up (by omega), lthings.up (by omega), lrow.up (by omega), N.up (by omega), nameO.up (by omega), lineO.up (by omega), wordsO.up (by omega),
    W.up (by omega), hand.up (by omega), name.up (by omega), put.up (by omega), en.up (by omega), whole.up (by omega), among.up (by omega)⟩
end
/-- a tuple of the written part -/
theorem seq_K {K : Frag} {a : Addr} {o : Obj} {its : Array Value} {n : Nat} {xs : List V} (l : K.lookup a = some o) (c : o.cls = .type "tuple") (d : o.data = .seq its n) (z : its.size ≤ sizeLine) (v : Vals xs its.toList) : ∀ H, SqT K H a xs :=
  fun _ => .inr ⟨o, its, n, l, c, d, z, v⟩
theorem const_at {K : Frag} {h : Heap} {mg : Str → Option Value} {x : Str} {xs : List V} {a : Addr} {o : Obj} {its : Array Value} {n : Nat} (X : K.In h) (G : h.Ns mainGlobals mg) (e : nsIn K mainGlobals x = some (some (.ref a)))
    (l : K.lookup a = some o) (c : o.cls = .type "tuple") (d : o.data = .seq its n) (z : its.size ≤ sizeLine) (v : Vals xs its.toList) : ∃ a, mg x = some (.ref a) ∧ ∀ H, SqT K H a xs := ⟨a, mg_of X G e, seq_K l c d z v⟩
theorem mg_at {K : Frag} {h : Heap} {mg : Str → Option Value} {v1 v2 v3 : Value} {t1 t2 t3 : Tok} (X : K.In h) (G : h.Ns mainGlobals mg) (e1 : nsIn K mainGlobals "isinstance" = some none) (e2 : nsIn K mainGlobals "int" = some none) (e3 : nsIn K mainGlobals "bool" = some none)
    (e4 : nsIn K mainGlobals "str" = some none) (e5 : nsIn K mainGlobals "tuple" = some none) (e6 : nsIn K mainGlobals "list" = some none) (e7 : nsIn K mainGlobals "len" = some none) (e8 : nsIn K mainGlobals "all" = some none) (e9 : nsIn K mainGlobals "range" = some none)
    (e10 : nsIn K mainGlobals "enumerate" = some none) (e11 : nsIn K mainGlobals "sum" = some none) (e12 : nsIn K mainGlobals "MOST_LETTERS" = some (some v1)) (h1 : v1 = .int 8 t1) (e13 : nsIn K mainGlobals "MOST_NUMBER" = some (some v2)) (h2 : v2 = .int 999 t2)
    (e14 : nsIn K mainGlobals "MOST_FIGURES" = some (some v3)) (h3 : v3 = .int 6 t3)
    (hd : ∃ a, mg "HEAD" = some (.ref a) ∧ ∀ H, SqT K H a [.str "", .int 0, .int 0]) (ft : ∃ a, mg "FOOT" = some (.ref a) ∧ ∀ H, SqT K H a [.str "", .int 0, .int 1]) : Mg K mg :=
  ⟨mg_none_of X G e1, mg_none_of X G e2, mg_none_of X G e3, mg_none_of X G e4, mg_none_of X G e5, mg_none_of X G e6, mg_none_of X G e7, mg_none_of X G e8, mg_none_of X G e9, mg_none_of X G e10, mg_none_of X G e11,
    ⟨t1, h1 ▸ mg_of X G e12⟩, ⟨t2, h2 ▸ mg_of X G e13⟩, ⟨t3, h3 ▸ mg_of X G e14⟩, hd, ft⟩
theorem law_end {q : Program} {lo : List Str} {mean : ExcName → Option Value} {mg mb : Str → Option Value} {h : Heap} {K : Frag} {l : OpenLaw} {w : World} {fa f : Addr} (X : K.In h) (T : Top q lo mean mg mb h) (hmg : mg "law" = some (.ref fa))
    (M : Mg K mg) (D : Defs K mg)
    {oc kV doc pm cdv ct : Value} {od an : Option Addr} {osl : Array (Option Value)} (a : nsIn K mainGlobals "law" = some (some (.ref f)))
    (lL : K.lookup f = some ⟨oc, od, .func (fnOf "law" "law" (defArgs sLaw) (defBody sLaw) (defScope sLaw) .none kV doc pm an cdv ct), osl⟩) (c : codeIn K cdv "law" = true) (k : keepIn K (.ref f) = true)
    (b : ∀ us : List Value, us.length = ["_law_script"].length → bindArgs (fnOf "law" "law" (defArgs sLaw) (defBody sLaw) (defScope sLaw) .none kV doc pm an cdv ct) ⟨us, []⟩ = pure ([("_law_script" : Str)].zip us)) :
    EndAt l w K 8 63 "_law_script" mg fa h := by
  have e := hmg.symm.trans (mg_of X T.g a)
  obtain rfl : fa = f := by
    injection e with z
    injection z
  refine ⟨_, [], spLaw K [], ?_, ?_, ?_, fun s u => .of_eq (b [u] rfl), ?_, ?_⟩
  · intro p hp
    cases hp
  · intro p hp
    cases hp
  · intro p hp
    cases hp
  · intro H a' ns hl _ hT hS
    exact ⟨a', ns, rfl, hS, hl, (fun P hP => absurd hP (List.not_mem_nil)), fun _ => rfl⟩
  · intro base hK hns hTB
    exact ok_law (fun_mk lL c k) M (cals D M)
end K1
open PySem PySem.W PyProof.Rows
set_option Elab.async false
set_option maxRecDepth 100000 in
set_option maxHeartbeats 0 in
theorem PySem.Challenge.cw_manyheads_k01_names_holds : PySem.Challenge.rw_manyheads_k01_names.Holds := by
  w_on; o_law; k_head; (case hw => w_witness2)
  k_fill
  refine K1.walk_tabs (l := PySem.Challenge.rw_manyheads_k01_names) (n := 63) (k := 8) (x := "_law_script") rfl (by decide) rfl ⟨rfl, by decide, by decide⟩ (fun w h Y => PySem.W.kIn_of Y) ?F
  case F =>
    intro w lo mean mg mb fa h X T hmg
    have G := T.g
    have dWhole := by
      refine' K1.def_at (x := "is_whole") (st := K1.sWhole) (ps := ["thing"]) X G ?a ?l ?c ?k (fun us hl => match us, hl with | [_], _ => rfl)
      (case a => k_is); (case l => k_is); (case c => k_is); (case k => k_is)
    have dAmong := by
      refine' K1.def_at (x := "is_among") (st := K1.sAmong) (ps := ["thing", "least", "most"]) X G ?a ?l ?c ?k (fun us hl => match us, hl with | [_, _, _], _ => rfl)
      (case a => k_is); (case l => k_is); (case c => k_is); (case k => k_is)
    have dTriple := by
      refine' K1.def_at (x := "is_triple") (st := K1.sIsTriple) (ps := ["thing"]) X G ?a ?l ?c ?k (fun us hl => match us, hl with | [_], _ => rfl)
      (case a => k_is); (case l => k_is); (case c => k_is); (case k => k_is)
    have dHand := by
      refine' K1.def_at (x := "is_hand") (st := K1.sHand) (ps := ["thing"]) X G ?a ?l ?c ?k (fun us hl => match us, hl with | [_], _ => rfl)
      (case a => k_is); (case l => k_is); (case c => k_is); (case k => k_is)
    have dName := by
      refine' K1.def_at (x := "is_name") (st := K1.sName) (ps := ["thing"]) X G ?a ?l ?c ?k (fun us hl => match us, hl with | [_], _ => rfl)
      (case a => k_is); (case l => k_is); (case c => k_is); (case k => k_is)
    have dPut := by
      refine' K1.def_at (x := "is_put_line") (st := K1.sPut) (ps := ["thing"]) X G ?a ?l ?c ?k (fun us hl => match us, hl with | [_], _ => rfl)
      (case a => k_is); (case l => k_is); (case c => k_is); (case k => k_is)
    have dEn := by
      refine' K1.def_at (x := "is_end") (st := K1.sEnd) (ps := ["thing"]) X G ?a ?l ?c ?k (fun us hl => match us, hl with | [_], _ => rfl)
      (case a => k_is); (case l => k_is); (case c => k_is); (case k => k_is)
    have dNameO := by
      refine' K1.def_at (x := "name_of") (st := K1.sNameO) (ps := ["word"]) X G ?a ?l ?c ?k (fun us hl => match us, hl with | [_], _ => rfl)
      (case a => k_is); (case l => k_is); (case c => k_is); (case k => k_is)
    have dLineO := by
      refine' K1.def_at (x := "line_of") (st := K1.sLineO) (ps := ["word"]) X G ?a ?l ?c ?k (fun us hl => match us, hl with | [_], _ => rfl)
      (case a => k_is); (case l => k_is); (case c => k_is); (case k => k_is)
    have dNameT := by
      refine' K1.def_at (x := "name_text") (st := K1.sNameT) (ps := ["name"]) X G ?a ?l ?c ?k (fun us hl => match us, hl with | [_], _ => rfl)
      (case a => k_is); (case l => k_is); (case c => k_is); (case k => k_is)
    have dLineT := by
      refine' K1.def_at (x := "line_text") (st := K1.sLineT) (ps := ["line"]) X G ?a ?l ?c ?k (fun us hl => match us, hl with | [_], _ => rfl)
      (case a => k_is); (case l => k_is); (case c => k_is); (case k => k_is)
    have dWordsO := by
      refine' K1.def_at (x := "words_of") (st := K1.sWordsO) (ps := ["row"]) X G ?a ?l ?c ?k (fun us hl => match us, hl with | [_], _ => rfl)
      (case a => k_is); (case l => k_is); (case c => k_is); (case k => k_is)
    have dMixed := by
      refine' K1.def_at (x := "_law_mixed") (st := K1.sMixed) (ps := ["_law_cell", "_law_k"]) X G ?a ?l ?c ?k (fun us hl => match us, hl with | [_, _], _ => rfl)
      (case a => k_is); (case l => k_is); (case c => k_is); (case k => k_is)
    have dDraw := by
      refine' K1.def_at (x := "_law_draw") (st := K1.sDraw) (ps := ["_law_cell", "_law_k"]) X G ?a ?l ?c ?k (fun us hl => match us, hl with | [_, _], _ => rfl)
      (case a => k_is); (case l => k_is); (case c => k_is); (case k => k_is)
    have dDigit := by
      refine' K1.def_at (x := "_law_digit") (st := K1.sDigit) (ps := ["_law_state", "_law_many"]) X G ?a ?l ?c ?k (fun us hl => match us, hl with | [_, _], _ => rfl)
      (case a => k_is); (case l => k_is); (case c => k_is); (case k => k_is)
    have dLWord := by
      refine' K1.def_at (x := "_law_word") (st := K1.sLWord) (ps := ["_law_state", "_law_signs"]) X G ?a ?l ?c ?k (fun us hl => match us, hl with | [_, _], _ => rfl)
      (case a => k_is); (case l => k_is); (case c => k_is); (case k => k_is)
    have dLIsWord := by
      refine' K1.def_at (x := "_law_is_word") (st := K1.sLIsWord) (ps := ["_law_word_here"]) X G ?a ?l ?c ?k (fun us hl => match us, hl with | [_], _ => rfl)
      (case a => k_is); (case l => k_is); (case c => k_is); (case k => k_is)
    have dLNum := by
      refine' K1.def_at (x := "_law_number") (st := K1.sLNum) (ps := ["_law_word_here"]) X G ?a ?l ?c ?k (fun us hl => match us, hl with | [_], _ => rfl)
      (case a => k_is); (case l => k_is); (case c => k_is); (case k => k_is)
    have dLParts := by
      refine' K1.def_at (x := "_law_parts") (st := K1.sLParts) (ps := ["_law_word_here", "_law_many"]) X G ?a ?l ?c ?k (fun us hl => match us, hl with | [_, _], _ => rfl)
      (case a => k_is); (case l => k_is); (case c => k_is); (case k => k_is)
    have dLOne := by
      refine' K1.def_at (x := "_law_one") (st := K1.sLOne) (ps := ["_law_word_here"]) X G ?a ?l ?c ?k (fun us hl => match us, hl with | [_], _ => rfl)
      (case a => k_is); (case l => k_is); (case c => k_is); (case k => k_is)
    have dLThings := by
      refine' K1.def_at (x := "_law_things") (st := K1.sLThings) (ps := ["_law_state"]) X G ?a ?l ?c ?k (fun us hl => match us, hl with | [_], _ => rfl)
      (case a => k_is); (case l => k_is); (case c => k_is); (case k => k_is)
    have dLRow := by
      refine' K1.def_at (x := "_law_row") (st := K1.sLRow) (ps := ["_law_words", "_law_number_here"]) X G ?a ?l ?c ?k (fun us hl => match us, hl with | [_, _], _ => rfl)
      (case a => k_is); (case l => k_is); (case c => k_is); (case k => k_is)
    have dWord := by
      refine' K1.def_at (x := "is_word") (st := K1.sWord) (ps := ["thing"]) X G ?a ?l ?c ?k (fun us hl => match us, hl with | [_], _ => rfl)
      (case a => k_is); (case l => k_is); (case c => k_is); (case k => k_is)
    have dNumO := by
      refine' K1.def_at (x := "number_of") (st := K1.sNumO) (ps := ["word"]) X G ?a ?l ?c ?k (fun us hl => match us, hl with | [_], _ => rfl)
      (case a => k_is); (case l => k_is); (case c => k_is); (case k => k_is)
    have mH := by
      refine' K1.const_at (x := "HEAD") (xs := [.str "", .int 0, .int 0]) X G ?a ?l ?c ?d ?z ?v
      (case a => k_is); (case l => k_is); (case c => rfl); (case d => rfl); (case z => decide)
      (case v => exact .cons ⟨_, rfl⟩ (.cons ⟨_, rfl⟩ (.cons ⟨_, rfl⟩ .nil)))
    have mF := by
      refine' K1.const_at (x := "FOOT") (xs := [.str "", .int 0, .int 1]) X G ?a2 ?l2 ?c2 ?d2 ?z2 ?v2
      (case a2 => k_is); (case l2 => k_is); (case c2 => rfl); (case d2 => rfl); (case z2 => decide)
      (case v2 => exact .cons ⟨_, rfl⟩ (.cons ⟨_, rfl⟩ (.cons ⟨_, rfl⟩ .nil)))
    have M := by
      refine' K1.mg_at X G ?m1 ?m2 ?m3 ?m4 ?m5 ?m6 ?m7 ?m8 ?m9 ?m10 ?m11 ?m12 ?h1 ?m13 ?h2 ?m14 ?h3 mH mF
      (case m1 => k_is); (case m2 => k_is); (case m3 => k_is); (case m4 => k_is); (case m5 => k_is); (case m6 => k_is); (case m7 => k_is); (case m8 => k_is); (case m9 => k_is); (case m10 => k_is); (case m11 => k_is); (case m12 => k_is); (case m13 => k_is); (case m14 => k_is)
      (case h1 => rfl); (case h2 => rfl); (case h3 => rfl)
    have hmg' : mg "law" = some (.ref fa) := hmg
    refine' K1.law_end X T hmg' M ⟨dWhole, dWord, dNumO, dAmong, dTriple, dHand, dName, dPut, dEn, dNameO, dLineO, dNameT, dLineT, dWordsO, dMixed, dDraw, dDigit, dLWord, dLIsWord, dLNum, dLParts, dLOne, dLThings, dLRow⟩ ?a ?l ?c ?k (fun us hl => match us, hl with | [_], _ => rfl)
    (case a => k_is); (case l => k_is); (case c => k_is); (case k => k_is)
