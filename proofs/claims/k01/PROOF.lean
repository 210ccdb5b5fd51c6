import PyProof.Rows.All
import Wide.All
import OpenK.AllK
import Wide.FinOn
import HandS.ForMost
import HandS.Walk
import HandS.Wide
import HandS.IsInst
import HandS.AnyAll
import HandS.Replace
import HandS.EndTab
import HandS.RaiseMore
import HandS.TupLe
import PyProof.ReprRoads
import PyProof.StrOps2
import HandS.StrMore
import HandS.Style
import PySem.Challenge.RW_sameface_k01_words_and_numbers
set_option Elab.async false
set_option linter.all false
set_option maxRecDepth 100000
/-! calls made where no repr is under way; repr of lists; all(..) over a text with a module's name in its test; the law's end -/
namespace SfG
open PySem PySem.Spec PyProof.Rows L2

/-! ### a def's promise where no repr is under way -/
structure FnG (P : Program) (w : World) (K : PySem.W.Frag) (mg : Str → Option Value) (base : Heap)
    (CX : CXT) (k : Nat) (f : Addr) (fd : FuncData) (ps : List Str) (sp : Sp) : Prop where
  size : ∀ vs H Q E, sp vs H Q E → vs.length = ps.length
  goes : ∀ (A : Around) (outer : List Env) (s : Shared) (H : Hp) (args : Args) (us : List Value)
    (vs : List V) (Q : VK) (E : XK), Room k A → A.guards = some [] → Env0 P w K mg base A outer s H →
    BindsTo s fd args (ps.zip us) → Vals vs us → sp vs H Q E →
    codeAny (model P w) A (.call (.ref f) args) (CR CX outer P w H s Q E) s

section
variable {P : Program} {w : World} {K : PySem.W.Frag} {mg : Str → Option Value} {base : Heap}
/-- a def by its body, where no repr is under way -/
theorem fng_of {x qual : Str} {st : Stmt} {f : Addr} {fd : FuncData} {N ps : List Str} {k : Nat} {sp : Sp}
    (F : Fun K x qual st f fd) (S : FnScope N ps (defScope st)) (len : ∀ vs H Q E, sp vs H Q E → vs.length = ps.length)
    (hbody : ∀ (cdv : Value) (A : Around) (outer : List Env) (s : Shared) (H : Hp) (vs : List V) (Q : VK) (E : XK),
      Room k (A.deeper (envOfC qual (defScope st) s.heap.objs.size f cdv)) → A.guards = some [] → sp vs H Q E →
      ∃ t, PSs (cxOf CX0 P w K mg base N qual (defScope st) f cdv A outer s H E).nox (defBody st) t ∧
        t { nx := fun _ H' => Q .non H', rt := Q } (start N vs) H) :
    FnG P w K mg base CX0 (k + 1) f fd ps sp := by
  obtain ⟨oc, od, kV, doc, pm, an, cdv, ct, osl, rfl, lk, hcd⟩ := F.ex
  refine ⟨len, ?_⟩
  intro A outer s H args us vs Q E hr hgd e0 hb r hsp
  refine LamX.run_ofS lk hcd S hr e0 hb r (len _ _ _ _ hsp) ?_
  intro hr'
  obtain ⟨t, h, q⟩ := hbody cdv A outer s H vs Q E hr' hgd hsp
  exact ⟨t, h.nox, q⟩
end

section
variable {X : Cx} {CX : CXT} {k : Nat} {f : Addr} {fd : FuncData} {ps : List Str} {sp : Sp} {dvs : List V}
  {ds : List Value} {E : XK} {x : Str} {p pos : Pos} {e : Expr} {es : List Expr} {t : TA}
theorem run_fng {pins : List (Addr × Obj)} {σ : L2.St} {H : Hp} {s : Shared} {Q : VK} {us : List Value} {vs : List V}
    (F : FnG X.prog X.w X.K X.mg X.base CX k f fd ps sp) (hr : Room k X.A) (hgd : X.A.guards = some [])
    (hb : Binds X.K fd ps ds) (hd : Vals dvs ds) (hx : Passes CX X E) (I : L2.Inv X pins σ H s) (r : Vals vs us)
    (h : sp (vs ++ dvs) H Q E) : wpAny (model X.prog X.w) X.A (call (.ref f) us) (EP X pins σ Q) X.xe s := by
  have r2 := r.append hd
  have hl : (us ++ ds).length = ps.length := r2.length.symm.trans (F.size _ _ _ _ h)
  have go := F.goes X.A X.stack s H ⟨us, []⟩ _ _ Q E hr hgd I.env0 (hb s us I.kIn hl) r2 h
  refine wpAny_call (codeAny_mono go ?_)
  intro res s' hq
  match res, hq with
  | .error e, hq => exact hx pins σ H s e s' I hq
  | .ok (.ret u), hq => exact I.after hq
  | .ok .next, hq => exact False.elim hq
  | .ok .brk, hq => exact False.elim hq
  | .ok .cont, hq => exact False.elim hq
theorem pe_callG (F : FnG X.prog X.w X.K X.mg X.base CX k f fd ps sp) (hr : Room k X.A) (hgd : X.A.guards = some [])
    (hg : Gl X x) (hm : X.mg x = some (.ref f)) (hk : PySem.W.keepIn X.K (.ref f) = true)
    (hb : Binds X.K fd ps ds) (hd : Vals dvs ds) (hx : Passes CX X E) (ha : PA X (e :: es) t)
    (hdb : (x == ("__debug__" : Str)) = false := by decide)
    (he : starEach (e :: es) X.env = (false, eval e X.env) :: starEach es X.env := by rfl)
    (hpl : (backTo pos (starEach es X.env)).any (·.1) = false := by rfl) :
    PE X (.Call (.Name x p) (e :: es) [] pos) (tCall sp dvs E t) := by
  constructor
  intro pins s σ H Q I h
  refine wpAny_Call_Name_kw (ld_glob I hg hm ?_ hdb)
  refine PySem.W.callWith_K (h₀ := X.base) I.ok.mod.kin hk ?_ he hpl
  refine thn (ha.run pos pins s σ H _ I h) ?_
  rintro us s1 ⟨vs, H1, I1, r, q⟩
  exact ⟨I1.kIn, run_fng F hr hgd hb hd hx I1 r q⟩
end

/-! ### repr of a list or a tuple of plain data -/
def rRepr (K : PySem.W.Frag) : List V → Hp → VK → Prop := fun xs H Q =>
  ∃ (a : Addr) (d : PyData) (S : Str), xs = [.ref a] ∧ Dp K H (.ref a) d ∧ d.showable = true ∧ d.hasDict = false ∧
    d.depth ≤ 30 ∧ d.shown = S ∧ S.length ≤ sizeLine ∧ Q (.str S) H
theorem call_repr {X : Cx} {k : Nat} (hr : Room k X.A) (hgd : X.A.guards = some []) :
    CallR X (.builtin "repr") (rRepr X.K) := by
  intro pins s σ H xs us Q I r h
  obtain ⟨a, d, S, rfl, hd, hs, hn, hdep, rfl, hz, q⟩ := h
  obtain ⟨u, rfl, ru⟩ := vals1 r
  cases (show u = Value.ref a from ru)
  obtain ⟨as, rd⟩ := Dp.reads I d _ _ hd (show RelV (.ref a) (.ref a) from rfl)
  have hun := hr.un
  refine repr_of_reads' rd hs (fun z => ?_) hgd (by omega) (fun _ _ z => z) (fun h' u' tk hk => ?_) hz
  · rw [hn] at z
    cases z
  · exact ⟨.str d.shown, H, I.kept hk, ⟨_, rfl⟩, q⟩

/-! ### all(test for x in e), e a text, the test may name what the module holds -/
/-- the test of one sign, run in the expression's own frame; the module's names are to be had -/
def EltG (X : Cx) (scope : Scope) (x : Str) (elt : Expr) (pb : Nat → Bool) : Prop :=
  ∀ (cenv : Env) (A' : Around) (E' : Value → Shared → Prop) (c : Nat) (t : Tok) (s2 : Shared) (m2 : Str → Option Value),
    cenv.scope = scope → cenv.globals = mainGlobals → s2.heap.Ns mainGlobals X.mg → s2.heap.Ns cenv.locals m2 →
    m2 x = some (.str ⟨#[c]⟩ t) →
    wpAny (model X.prog X.w) A' (eval elt cenv) (fun y s3 => y = .bool (pb c) ∧ Keeps s2 s3) E' s2
/-- x in NAME, NAME a text of the module -/
theorem elt_in {X : Cx} {scope : Scope} {x g : Str} {z : Str} {tz : Tok} {p1 p2 p3 : Pos} (hk : scope.kind = .function)
    (hl : scope.names.lookup x = some .local) (hgl : scope.names.lookup g = some .globalImplicit) (hz : X.mg g = some (.str z tz))
    (hd : (x == ("__debug__" : Str)) = false := by decide) (hd2 : (g == ("__debug__" : Str)) = false := by decide) :
    EltG X scope x (.Compare (.Name x p1) [.In] [.Name g p2] p3) (fun c => decide (c ∈ z.cps.toList)) := by
  intro cenv A' E' c t s2 m2 hs hgb hmn hn hm
  have kd : cenv.scope.kind = .function := by rw [hs]; exact hk
  refine wpAny_Compare1 ?_
  refine wpAny_Name (wpAny_loadName_local kd (show cenv.scope.names.lookup x = some .local by rw [hs]; exact hl) hn hm ?_) hd
  refine Calls.Name_function_global kd (show cenv.scope.names.lookup g = some .globalImplicit by rw [hs]; exact hgl) ?_ hd2
  refine Calls.loadGlobal_global (by rw [hgb]; exact hmn) hz ?_
  refine PyProof.Rows.in_str ?_
  exact ⟨congrArg Value.bool (PySem.StrLaws.found_one z c), GxR.keeps_refl _⟩
/-- the expression's code object: found in the def's table, or laid there -/
theorem gen_code {prog : Program} {w : World} {A : Around} {E : Value → Shared → Prop} {env : Env} {gpos : Pos} {q : Str} {scope : Scope}
    {c P : Addr} {ps : Array Value} {s2 : Shared} {Q : Value → Shared → Prop} (hcode : env.code = .ref c) (cd : PySem.W.CodeHd s2.heap c P)
    (hP : s2.heap.get? P = some { cls := .none, data := .fields ps }) (ht : TriplesOk ps.toList)
    (h : ∀ (code : Value) (h3 : Heap) (tk : Nat) (ps' : Array Value), Heap.ExtBut P s2.heap h3 → s2.heap.objs.size ≤ h3.objs.size →
      h3.get? P = some { cls := .none, data := .fields ps' } → (∃ more, ps' = ps ++ more) → TriplesOk ps'.toList →
      Q code { s2 with heap := h3, toks := tk }) : wpAny (model prog w) A (genexprCode env gpos q scope) Q E s2 := by
  cases hf : codeAmong gpos ps.toList with
  | some cv =>
    exact wpAny_genexprCode_hit hcode (cd.code hP ht) hf (h cv s2.heap s2.toks ps (Heap.ExtBut.refl _ _) (Nat.le_refl _) hP ⟨#[], by simp⟩ ht)
  | none =>
    refine wpAny_genexprCodeX hcode (cd.code hP ht) (cd.tab hP) hf ?_
    intro c' h' tk hx hge hlt hco' _ htab' _
    obtain ⟨o1, vs, f1, tf, fl, tg, inF, tx, tt, op, _, _, _, _, _, _, _, _, _, htr, _⟩ := hco'
    exact h _ h' tk _ hx (Nat.le_trans hge (Nat.le_of_lt hlt)) htab'.2 ⟨_, rfl⟩ htr
section
variable {X : Cx} {pins : List (Addr × Obj)} {σ : L2.St} {H : Hp} {s : Shared}
theorem gen_made {c P : Addr} {elt iter : Expr} {x : Str} {px gpos : Pos} {scope : Scope} {pb : Nat → Bool} {te : TE} {k : Nat}
    {Q' : Value → Shared → Prop} {R : Str → Hp → Prop} (hr : Room k X.A) (TB : GxR.TabB X.base X.mg c P) (hcode : X.env.code = .ref c)
    (S : GxR.GenS X.env scope x) (hi : PE X iter te) (hel : EltG X scope x elt pb) (hs : ∀ v, genFold iter X.env v = pure v)
    (I : L2.Inv X pins σ H s) (h : te σ H fun v H1 => ∃ a : Str, v = .str a ∧ GxR.TabG H1 P ∧ R a H1)
    (hQ : ∀ a H1 g s5, R a H1 → GxR.Ready X pins σ H1 P a pb g s5 → Q' (.ref g) s5) :
    wpAny (model X.prog X.w) X.A (eval (.GeneratorExp elt [⟨.Name x px, iter, [], 0⟩] scope gpos) X.env) Q' X.xe s := by
  have hdp := hr.dp
  refine wpAny_GeneratorExp_walksQ hr.hd S.co (closure_ok S.free) S.cell S.dot S.loc S.kind (by omega) ?_ hs
  refine thn (hi.run pins s σ H _ I h) ?_
  rintro xv s1 ⟨v, H1, I1, r1, a, rfl, ⟨ps, hP, ht⟩, q1⟩
  obtain ⟨t, rfl⟩ := _root_.id r1
  refine wpAny_pyIter_str ?_
  intro o St W hst
  have hPs : s1.heap.get? P = some { cls := .none, data := .fields ps } := I1.hok P _ hP
  have hPlt := Heap.lt_size hPs
  have lim2 : (s1.heap.push o).NoLimit := I1.nolimit.push o
  refine ⟨lim2, ?_⟩
  refine gen_code (s2 := { s1 with heap := s1.heap.push o }) hcode (TB.code.keeps fun b u e => Heap.get?_push_of_some _ (I1.bk b u e)) (Heap.get?_push_of_some _ hPs) ht ?_
  intro code h3 tk ps' hx hsz hP3 hmore ht3
  have hcl : cStatics < s1.heap.objs.size := by
    obtain ⟨_, hns, _⟩ := I1.nolimit
    exact hns.lt
  have hcP : cStatics ≠ P := by
    intro e
    obtain ⟨_, ⟨o', es, ep, ho, hd, _⟩, _⟩ := I1.nolimit
    rw [e, hPs] at ho
    cases ho
    cases hd
  have sz2 : (s1.heap.push o).objs.size = s1.heap.objs.size + 1 := Heap.size_push ..
  have keep3 : ∀ b u, b ≠ P → s1.heap.get? b = some u → h3.get? b = some u :=
    fun b u hb e => hx b u hb (Heap.get?_push_of_some _ e)
  have hsz' : s1.heap.objs.size + 1 ≤ h3.objs.size := by
    rw [← sz2]
    exact hsz
  have ns3 : h3.Ns mainGlobals X.mg := ((I1.mod.glob.keeps I1.bk).push o).extBut hx TB.gP
  obtain ⟨bm, ob, e1, e2, e3, e4, e5, e6, e7, e8⟩ := TB.bm
  refine wpAny_builtinsFor (m := X.mg) (by rw [I1.ok.glob]; exact ns3) e1 e2 (keep3 _ _ e4 (I1.bk _ _ e5)) e6 e7 e8 ?_
  refine ⟨s1.heap.objs.size, [s1.heap.objs.size], [s1.heap.objs.size], a.cps.size, SignAt a, St, fun _ => true,
    fun i y => ∃ cc, a.cps[i]? = some cc ∧ y = .bool (pb cc), rfl, W, ?_, ?_, lim2.extBut hx hcP, ?_, ?_, ?_⟩
  · refine (W X.A hr.hd).frame _ _ _ hst ?_
    intro b hb u e
    have eb : b = s1.heap.objs.size := by simpa using hb
    refine hx b u ?_ e
    intro z
    rw [← z, eb] at hPlt
    exact Nat.lt_irrefl _ hPlt
  · intro b hb
    have eb : b = s1.heap.objs.size := by simpa using hb
    rw [eb]
    show s1.heap.objs.size < h3.objs.size
    omega
  · intro z
    have eb : cStatics = s1.heap.objs.size := by simpa using z
    rw [eb] at hcl
    exact Nat.lt_irrefl _ hcl
  · intro href hhref
    constructor
    · intro A' E' i v s2 m2 hA hPv hn hm hk
      simp only [List.forIn_nil]
      exact wpAny_pure ⟨rfl, GxR.keeps_refl _⟩
    · intro A' E' i v s2 m2 hA hPv hp hn hm hk
      obtain ⟨cc, u, hcc, rfl⟩ := hPv
      have nsM : s2.heap.Ns mainGlobals X.mg := by
        obtain ⟨om, es, ep, g1, g2⟩ := ns3
        have glt : mainGlobals < s1.heap.objs.size := by
          obtain ⟨o9, _, _, g9, _⟩ := I1.mod.glob.keeps I1.bk
          exact Heap.lt_size g9
        refine ⟨om, es, ep, hk mainGlobals ?_ ?_ om (hhref _ _ g1), g2⟩
        · refine List.mem_range.mpr ?_
          show mainGlobals < h3.objs.size
          exact Heap.lt_size g1
        · intro z
          have eb : mainGlobals = s1.heap.objs.size := by simpa using z
          rw [eb] at glt
          exact Nat.lt_irrefl _ glt
      exact wpAny_mono (hel _ A' E' cc u s2 m2 rfl I1.ok.glob nsM hn hm) (fun y s3 r => ⟨⟨cc, hcc, r.1⟩, r.2⟩) (fun _ _ e => e)
  · intro g h5 tk5 gs hgb hag hsz5 hk5 W5 hat
    simp only [GxR.passing_true, List.length_range] at W5
    refine hQ a H1 g _ q1 ⟨_, _, _, _, _, W5.in4_1, hat, ?_, ?_⟩
    · intro j y sj Qj Ej hy hQj
      obtain ⟨i, hij, cc, hcc, rfl⟩ := hy
      obtain ⟨hj, ej⟩ := List.getElem?_eq_some_iff.mp hij
      rw [List.getElem_range] at ej
      subst ej
      have e9 : a.cps.toList[j]? = some cc := by rw [Array.getElem?_toList]; exact hcc
      have hQ2 : Qj (GxR.trF pb a.cps.toList j) sj := hQj
      rw [GxR.trF_some e9] at hQ2
      exact wpAny_truthy_bool hQ2
    · intro s' hmv
      obtain ⟨more, em⟩ := hmore
      have nwr : ∀ b u, s1.heap.get? b = some u → b ∉ h3.objs.size :: [s1.heap.objs.size] := by
        intro b u e hb
        have hl := Heap.lt_size e
        rcases List.mem_cons.mp hb with z | z
        · rw [z] at hl
          have h9 : (h3.objs.size : Nat) < s1.heap.objs.size := hl
          omega
        · have eb : b = s1.heap.objs.size := by simpa using z
          rw [eb] at hl
          exact Nat.lt_irrefl _ hl
      have J := GxR.inv_tab (more := more) (h' := s'.heap) (g' := s'.gens) (d' := s'.drawn) (t' := s'.toks) I1 hP
        (fun b u hb e => hmv.heap b u (nwr b u e) (hk5 b u (keep3 b u hb e)))
        (by rw [← em]; exact hmv.heap P _ (nwr P _ hPs) (hk5 P _ hP3)) (AllBare.movedS (I1.bare.push hgb) hmv)
      rw [GxR.sh_eta s1 s' hmv.os] at J
      exact ⟨upd H1 P (.tbl (ps ++ more)), ⟨⟨ps ++ more, upd_same, by rw [← em]; exact ht3⟩, fun b hb => upd_ne hb⟩, J⟩
theorem pe_allG {c P : Addr} {elt iter : Expr} {x : Str} {px p pos gpos : Pos} {scope : Scope} {pb : Nat → Bool} {te : TE} {k : Nat}
    (hr : Room k X.A) (hg : Gl X "all") (hm : X.mg "all" = none) (TB : GxR.TabB X.base X.mg c P) (hcode : X.env.code = .ref c)
    (S : GxR.GenS X.env scope x) (hi : PE X iter te) (hel : EltG X scope x elt pb) (hs : ∀ v, genFold iter X.env v = pure v)
    (he : starEach [.GeneratorExp elt [⟨.Name x px, iter, [], 0⟩] scope gpos] X.env =
      (false, eval (.GeneratorExp elt [⟨.Name x px, iter, [], 0⟩] scope gpos) X.env) :: starEach [] X.env := by rfl) :
    PE X (.Call (.Name "all" p) [.GeneratorExp elt [⟨.Name x px, iter, [], 0⟩] scope gpos] [] pos) (GxR.tAllS P pb te) := by
  constructor
  intro pins s σ H Q I h
  refine wpAny_Call_Name_kw (ld_blt I hg hm (show bootBuiltins "all" = some (.builtin "all") by decide +kernel) ?_)
  refine PyProof.Rows.callWith_builtin1 ?_ he (by rfl)
  rw [he]
  refine Calls.spliced_cons (gen_made (R := fun a H1 => ∀ H2, GxR.Tabbed P H1 H2 → Q (.bl (a.cps.toList.all pb)) H2) hr TB hcode S hi hel hs I h ?_)
  intro a H1 g s5 hR hG
  obtain ⟨fp, wr, G, F, St, W, hst, htr, hI⟩ := hG
  refine Calls.spliced_nil (call_all_walkS (W.self 0 _ _ _ hst ⟨g, fp, wr, G, _, F, St, _, rfl, W, hst, htr, ?_⟩))
  intro s' hmv
  obtain ⟨H2, hT, J⟩ := hI s' hmv
  refine ⟨.bl _, H2, J, rfl, ?_⟩
  rw [GxR.all_signs a pb]
  exact hR H2 hT
end
end SfG

namespace SfG
open PySem PySem.Spec PyProof.Rows L2
/-! ### the law's end: tables of code objects, no repr under way -/
theorem noneIn (b : Addr) (l : List Addr) (h : l = []) : ¬ b ∈ l := by
  rw [h]
  simp
section
variable {P : Program} {w : World} {K : PySem.W.Frag} {mg mb : Str → Option Value} {CX : CXT} {k : Nat} {fa a : Addr}
  {cs : List (Addr × Addr)} {fd : FuncData} {x : Str} {sp : Sp} {s1 : Shared} {vs : List Value} {ns : List Int}
/-- what stands at s1: the module, its tables, the script -/
structure Stands (K : PySem.W.Frag) (mg mb : Str → Option Value) (cs : List (Addr × Addr)) (s1 : Shared) (a : Addr) (vs : List Value) : Prop where
  kin : K.In s1.heap
  glob : s1.heap.Ns mainGlobals mg
  blt : s1.heap.Ns builtinsNs mb
  bltv : ∀ y : Str, y ≠ "__name__" → mb y = bootBuiltins y
  lim : s1.heap.NoLimit
  gens : s1.gens = #[]
  tab : ∀ p ∈ cs, s1.heap.get? p.2 = some { cls := .none, data := .fields #[] }
  ntab : ∀ p ∈ cs, K.lookup p.2 = none
  code : ∀ p ∈ cs, PySem.W.CodeHd s1.heap p.1 p.2
  bmain : ∃ (bm : Addr) (ob : Obj), mg "__builtins__" = some (.ref bm) ∧ bm ≠ builtinsNs ∧ s1.heap.get? bm = some ob ∧
    ob.cls = .type "module" ∧ ob.dict = some builtinsNs ∧ ob.data = .plain
  scr : s1.heap.get? a = some { cls := .type "list", data := .seq vs.toArray }
/-- what is tracked there: the tables, and the script where the written part doesn't hold it -/
def Tracks (K : PySem.W.Frag) (cs : List (Addr × Addr)) (a : Addr) (H : Hp) : Prop :=
  ∀ b u, H b = some u → (b ∈ cs.map (·.2) ∧ u = .tbl #[]) ∨ (b = a ∧ K.lookup a = none ∧ ∃ o xs, u = .frz o (.lst xs))
theorem Stands.untracked {H : Hp} (S : Stands K mg mb cs s1 a vs) (T : Tracks K cs a H) {b : Addr} {o : Obj} (e : s1.heap.get? b = some o)
    (h1 : ∀ us n, o.data ≠ .seq us n) (h2 : o.data ≠ .fields #[]) : H b = none := by
  cases q : H b with
  | none => rfl
  | some u =>
    exfalso
    rcases T b u q with ⟨hb, _⟩ | ⟨hb, _⟩
    · obtain ⟨p, hp, ep⟩ := List.mem_map.mp hb
      have z := S.tab p hp
      rw [ep, e] at z
      cases z
      exact h2 rfl
    · have z := S.scr
      rw [← hb, e] at z
      cases z
      exact h1 _ _ rfl
theorem end_core {H : Hp} (S : Stands K mg mb cs s1 a vs) (T : Tracks K cs a H) (hH : ∀ p ∈ cs, H p.2 = some (.tbl #[]))
    (hok : HOk P w H s1.heap) (hr : Room k callerA)
    (F : ∀ base : Heap, K.In base → base.Ns mainGlobals mg → (∀ p ∈ cs, GxR.TabB base mg p.1 p.2) → FnG P w K mg base CX k fa fd [x] sp)
    (hbind : ∀ (s : Shared) (u : Value), BindsTo s fd ⟨[u], []⟩ [(x, u)])
    (hsp : sp [.ref a] H (fun v _ => v = .bl true) fun _ _ _ => False)
    (hCX : ∀ H e s', CX [] H s1 (fun _ _ _ => False) e s' → False) :
    codeAny (model P w) callerA (.call (.ref fa) ⟨[.ref a], []⟩)
      (fun r s' => r = .ok (.ret (.bool true)) ∧ OldK s1.heap s'.heap ∧ s'.os = s1.os ∧ AllBare s'.gens) s1 := by
  have low : ∀ {b : Addr} {o : Obj}, s1.heap.get? b = some o → H b = none → (hidT s1.heap H).get? b = some o := fun e n => hidT_get e n
  have lowNs : ∀ {b : Addr} {m : Str → Option Value}, s1.heap.Ns b m → (hidT s1.heap H).Ns b m := by
    rintro b m ⟨o, es, ep, e, d, r⟩
    refine ⟨o, es, ep, low e (S.untracked T e ?_ ?_), d, r⟩
    · intro us n z
      rw [d] at z
      cases z
    · intro z
      rw [d] at z
      cases z
  have lowK : K.In (hidT s1.heap H) := by
    intro b o e
    refine low (S.kin b o e) ?_
    cases q : H b with
    | none => rfl
    | some u =>
      exfalso
      rcases T b u q with ⟨hb, _⟩ | ⟨hb, hk, _⟩
      · obtain ⟨p, hp, ep⟩ := List.mem_map.mp hb
        rw [← ep, S.ntab p hp] at e
        cases e
      · rw [hb, hk] at e
        cases e
  have lowT : ∀ p ∈ cs, GxR.TabB (hidT s1.heap H) mg p.1 p.2 := by
    intro p hp
    have tp := S.tab p hp
    constructor
    · obtain ⟨o, us, file, tf, flags, tg, inF, text, tt, e1, r1, r2, r3, rest⟩ := S.code p hp
      refine ⟨o, us, file, tf, flags, tg, inF, text, tt, low e1 (S.untracked T e1 ?_ ?_), r1, r2, r3, rest⟩
      · intro us n z
        rw [r2] at z
        cases z
      · intro z
        rw [r2] at z
        cases z
        simp at r3
    · obtain ⟨bm, ob, b1, b2, b3, b4, b5, b6⟩ := S.bmain
      refine ⟨bm, ob, b1, b2, ?_, ?_, low b3 (S.untracked T b3 ?_ ?_), b4, b5, b6⟩
      · intro q
        obtain ⟨o, es, ep, e, hd, _⟩ := S.glob
        rw [q, e] at b3
        cases b3
        rw [hd] at b6
        cases b6
      · intro q
        rw [q, tp] at b3
        cases b3
        cases b6
      · intro us n z
        rw [b6] at z
        cases z
      · intro z
        rw [b6] at z
        cases z
    · intro z
      obtain ⟨o, es, ep, e, hd, _⟩ := S.glob
      rw [z, tp] at e
      cases e
      cases hd
  have md : L2.Mod K mg (hidT s1.heap H) := by
    refine ⟨lowK, lowNs S.glob, ⟨mb, lowNs S.blt, S.bltv⟩, ?_⟩
    obtain ⟨mc, h1, h2⟩ := S.lim
    exact ⟨mc, lowNs h1, h2⟩
  have e0 : Env0 P w K mg (hidT s1.heap H) callerA [] s1 H :=
    ⟨rfl, md, fun b o e => of_hidT e, Nat.le_of_eq (hidT_size _ _), trivial, fun b hb => absurd hb (noneIn b _ rfl), hok, .of_eq S.gens⟩
  have go := (F _ lowK (lowNs S.glob) lowT).goes callerA [] s1 H ⟨[.ref a], []⟩ [.ref a] [.ref a] _ _ hr rfl e0 (hbind s1 (.ref a)) (.cons rfl .nil) hsp
  refine codeAny_mono go ?_
  intro res s' h
  match res, h with
  | .error e, h => exact (hCX H e s' h).elim
  | .ok .next, h => exact False.elim h
  | .ok .brk, h => exact False.elim h
  | .ok .cont, h => exact False.elim h
  | .ok (.ret u), h =>
    obtain ⟨v, H', os, bare, un, hok', r', q⟩ := h
    cases (show v = .bl true from q)
    cases (show u = Value.bool true from r')
    have stay : ∀ b o, b ∉ cs.map (·.2) → s1.heap.get? b = some o → s'.heap.get? b = some o := by
      intro b o nb e
      cases q : H b with
      | none => exact un.keep b o e q (noneIn b _ rfl) (by simp)
      | some u =>
        rcases T b u q with ⟨hb, _⟩ | ⟨_, _, ob, xs, z⟩
        · exact absurd hb nb
        · rw [z] at q
          obtain ⟨g1, _⟩ := hok b _ q
          obtain ⟨g2, _⟩ := hok' b _ (un.frzs b ob _ q)
          rw [e] at g1
          cases g1
          exact g2
    have tabs : ∀ p ∈ cs, ∃ more : Array Value, s'.heap.get? p.2 = some { cls := .none, data := .fields more } := by
      intro p hp
      obtain ⟨more, z⟩ := un.tbls p.2 #[] (hH p hp)
      exact ⟨_, hok' p.2 _ z⟩
    refine ⟨rfl, ⟨fun b o e => ?_, fun b o e => ?_⟩, os, bare⟩
    · by_cases hb : b ∈ cs.map (·.2)
      · obtain ⟨p, hp, ep⟩ := List.mem_map.mp hb
        subst ep
        obtain ⟨more, hm⟩ := tabs p hp
        rw [S.tab p hp] at e
        cases e
        refine .inr (.inl ⟨((S.code p hp).tab (S.tab p hp)).isCodeTable, rfl, #[], more, rfl, ?_⟩)
        rw [Array.empty_append]
        exact hm
      · exact .inl (stay b o hb e)
    · by_cases hb : b ∈ cs.map (·.2)
      · obtain ⟨p, hp, ep⟩ := List.mem_map.mp hb
        subst ep
        obtain ⟨more, hm⟩ := tabs p hp
        exact ⟨_, hm⟩
      · exact ⟨o, stay b o hb e⟩
/-- the abstract heap at the start -/
def hp0 (cs : List (Addr × Addr)) (sc : Option HO) (a : Addr) : Hp := fun b => if b ∈ cs.map (·.2) then some (.tbl #[]) else if b = a then sc else none
theorem end_call (S : Stands K mg mb cs s1 a vs) (hi : IntsAre vs ns) (hl : ns.length ≤ sizeLine) (hr : Room k callerA)
    (F : ∀ base : Heap, K.In base → base.Ns mainGlobals mg → (∀ p ∈ cs, GxR.TabB base mg p.1 p.2) → FnG P w K mg base CX k fa fd [x] sp)
    (hbind : ∀ (s : Shared) (u : Value), BindsTo s fd ⟨[u], []⟩ [(x, u)])
    (hsp : ∀ H : Hp, (∀ p ∈ cs, H p.2 = some (.tbl #[])) → SqL K H a (ns.map V.int) → sp [.ref a] H (fun v _ => v = .bl true) fun _ _ _ => False)
    (hCX : ∀ H e s', CX [] H s1 (fun _ _ _ => False) e s' → False) :
    codeAny (model P w) callerA (.call (.ref fa) ⟨[.ref a], []⟩)
      (fun r s' => r = .ok (.ret (.bool true)) ∧ OldK s1.heap s'.heap ∧ s'.os = s1.os ∧ AllBare s'.gens) s1 := by
  have rv := vals_ints hi
  have hH : ∀ sc, ∀ p ∈ cs, hp0 cs sc a p.2 = some (.tbl #[]) := fun sc p hp => if_pos (List.mem_map.mpr ⟨p, hp, rfl⟩)
  have na : a ∉ cs.map (·.2) := by
    intro z
    obtain ⟨p, hp, ep⟩ := List.mem_map.mp z
    have q := S.tab p hp
    rw [ep, S.scr] at q
    cases congrArg Obj.data (Option.some.inj q)
  have at_a : ∀ sc, hp0 cs sc a a = sc := fun sc => by
    unfold hp0
    rw [if_neg na, if_pos rfl]
  have cases_of : ∀ sc b u, hp0 cs sc a b = some u → (b ∈ cs.map (·.2) ∧ u = .tbl #[]) ∨ (b = a ∧ sc = some u) := by
    intro sc b u h
    unfold hp0 at h
    by_cases h1 : b ∈ cs.map (·.2)
    · rw [if_pos h1] at h
      exact .inl ⟨h1, (Option.some.inj h).symm⟩
    · rw [if_neg h1] at h
      by_cases h2 : b = a
      · rw [if_pos h2] at h
        exact .inr ⟨h2, h⟩
      · rw [if_neg h2] at h
        cases h
  have tabOk : ∀ (H : Hp) b, b ∈ cs.map (·.2) → ObjOk P w H s1.heap b (.tbl #[]) := by
    intro H b hb
    obtain ⟨p, hp, ep⟩ := List.mem_map.mp hb
    rw [← ep]
    exact S.tab p hp
  cases hk : K.lookup a with
  | some o =>
    have e := S.kin a o hk
    rw [S.scr] at e
    cases e
    refine end_core (H := hp0 cs none a) S ?_ (hH none) ?_ hr F hbind (hsp _ (hH none) (.inr ⟨_, vs.toArray, _, hk, rfl, rfl, rfl, ?_, ?_⟩)) hCX
    · intro b u h
      rcases cases_of none b u h with h | ⟨_, h⟩
      · exact .inl h
      · cases h
    · intro b u h
      rcases cases_of none b u h with ⟨h1, rfl⟩ | ⟨_, h⟩
      · exact tabOk _ b h1
      · cases h
    · rw [List.size_toArray, hi.length]
      exact hl
    · simpa using rv
  | none =>
    refine end_core (H := hp0 cs (some (.frz { cls := .type "list", data := .seq vs.toArray } (.lst (ns.map V.int)))) a) S ?_ (hH _) ?_ hr F hbind
      (hsp _ (hH _) (.inl (.inr ⟨{ cls := .type "list", data := .seq vs.toArray }, at_a _⟩))) hCX
    · intro b u h
      rcases cases_of _ b u h with h | ⟨h1, h2⟩
      · exact .inl h
      · exact .inr ⟨h1, hk, _, _, (Option.some.inj h2).symm⟩
    · intro b u h
      rcases cases_of _ b u h with ⟨h1, rfl⟩ | ⟨rfl, h2⟩
      · exact tabOk _ b h1
      · cases h2
        refine ⟨S.scr, ?_, vs, _, rv, S.scr⟩
        rw [List.length_map]
        exact hl
end
end SfG

namespace SfG
open PySem PySem.Spec PyProof.Rows L2
/-! ### a def whose code object is known -/
structure FunC (K : PySem.W.Frag) (x qual : Str) (st : Stmt) (f : Addr) (fd : FuncData) (c : Addr) : Prop where
  ex : ∃ (oc : Value) (od : Option Addr) (kV doc pm : Value) (an : Option Addr) (ct : Value) (osl : Array (Option Value)),
    fd = PySem.W.fnOf x qual (defArgs st) (defBody st) (defScope st) .none kV doc pm an (.ref c) ct ∧
      K.lookup f = some ⟨oc, od, .func fd, osl⟩ ∧ PySem.W.codeIn K (.ref c) qual = true
  kp : PySem.W.keepIn K (.ref f) = true
theorem FunC.fn {K : PySem.W.Frag} {x qual : Str} {st : Stmt} {f c : Addr} {fd : FuncData} (F : FunC K x qual st f fd c) : Fun K x qual st f fd := by
  obtain ⟨oc, od, kV, doc, pm, an, ct, osl, h1, h2, h3⟩ := F.ex
  exact ⟨⟨oc, od, kV, doc, pm, an, .ref c, ct, osl, h1, h2, h3⟩, F.kp⟩
section
variable {P : Program} {w : World} {K : PySem.W.Frag} {mg : Str → Option Value} {base : Heap}
theorem FunC.ok {x qual : Str} {st : Stmt} {f c : Addr} {fd : FuncData} {N ps : List Str} {k : Nat} {sp : Sp}
    (F : FunC K x qual st f fd c) (S : FnScope N ps (defScope st)) (len : ∀ vs H Q E, sp vs H Q E → vs.length = ps.length)
    (hbody : ∀ (A : Around) (outer : List Env) (s : Shared) (H : Hp) (vs : List V) (Q : VK) (E : XK),
      Room k (A.deeper (envOfC qual (defScope st) s.heap.objs.size f (.ref c))) → sp vs H Q E →
      ∃ t, PSs (cxOf CX0 P w K mg base N qual (defScope st) f (.ref c) A outer s H E).nox (defBody st) t ∧
        t { nx := fun _ H' => Q .non H', rt := Q } (start N vs) H) : FnOk P w K mg base CX0 (k + 1) f fd ps sp := by
  obtain ⟨oc, od, kV, doc, pm, an, ct, osl, rfl, lk, hcd⟩ := F.ex
  refine fn_of lk hcd S len ?_
  intro A outer s H vs Q E hr hsp
  obtain ⟨t, h, q⟩ := hbody A outer s H vs Q E hr hsp
  exact ⟨t, h.nox, q⟩
end
/-! ### heaps that grow: what stood stands, tables of code objects may be longer -/
structure Gr (H H' : Hp) : Prop where
  keep : ∀ b o, H b = some o → (∀ ps, o ≠ .tbl ps) → H' b = some o
  tab : ∀ P, GxR.TabG H P → GxR.TabG H' P
  back : ∀ l, H' l = none → H l = none
theorem Gr.refl (H : Hp) : Gr H H := ⟨fun _ _ h _ => h, fun _ h => h, fun _ h => h⟩
theorem Gr.trans {H H1 H2 : Hp} (a : Gr H H1) (b : Gr H1 H2) : Gr H H2 :=
  ⟨fun c o h n => b.keep c o (a.keep c o h n) n, fun P h => b.tab P (a.tab P h), fun l h => a.back l (b.back l h)⟩
theorem Gr.same {H H' : Hp} (e : Same H H') : Gr H H' := by
  refine ⟨fun b o h _ => e b o h, ?_, fun l h => e.free h⟩
  rintro P ⟨ps, h1, h2⟩
  exact ⟨ps, e P _ h1, h2⟩
theorem Gr.new {H : Hp} {p : Addr} {o : HO} (h : H p = none) : Gr H (upd H p o) := by
  refine Gr.same ?_
  intro b x e
  rw [upd_ne (ne_of_none e h)]
  exact e
theorem Gr.tabbed {P : Addr} {H H' : Hp} (t : GxR.TabG H P) (e : GxR.Tabbed P H H') : Gr H H' := by
  refine ⟨?_, ?_, ?_⟩
  · intro b o h n
    refine (e.2 b ?_).trans h
    intro z
    obtain ⟨ps, h1, _⟩ := t
    rw [z, h1] at h
    exact n ps (Option.some.inj h).symm
  · intro P' t'
    by_cases z : P' = P
    · rw [z]
      exact e.1
    · obtain ⟨ps, h1, h2⟩ := t'
      exact ⟨ps, (e.2 P' z).trans h1, h2⟩
  · intro l h
    by_cases z : l = P
    · obtain ⟨ps, h1, _⟩ := e.1
      rw [z, h1] at h
      cases h
    · rw [← e.2 l z]
      exact h
/-- a list that is changed in the heap: all else stays -/
theorem Gr.lst {H H' : Hp} (g : Gr H H') {b : Addr} {xs : List V} (h : H b = some (.lst xs)) : H' b = some (.lst xs) := g.keep b _ h (fun _ z => (by cases z))
theorem Gr.tup {H H' : Hp} (g : Gr H H') {b : Addr} {xs : List V} (h : H b = some (.tup xs)) : H' b = some (.tup xs) := g.keep b _ h (fun _ z => (by cases z))
theorem Gr.dic {H H' : Hp} (g : Gr H H') {b : Addr} {kvs : List (Key × V)} (h : H b = some (.dK kvs)) : H' b = some (.dK kvs) := g.keep b _ h (fun _ z => (by cases z))
theorem Gr.seq {K : PySem.W.Frag} {H H' : Hp} {a : Addr} {xs : List V} (e : Gr H H') (h : SqL K H a xs) : SqL K H' a xs := by
  rcases h with (h | ⟨o, h⟩) | h
  · exact .inl (.inl (e.lst h))
  · exact .inl (.inr ⟨o, e.keep _ _ h (fun _ z => (by cases z))⟩)
  · exact .inr h
/-! ### kinds of things -/
def kinds : List String := ["NoneType", "bool", "int", "str", "list", "tuple", "dict"]
theorem kit_int : ∀ T ∈ kinds, kitB T "int" = some (T == "int" || T == "bool") := by decide +kernel
theorem kit_bool : ∀ T ∈ kinds, kitB T "bool" = some (T == "bool") := by decide +kernel
theorem kit_str : ∀ T ∈ kinds, kitB T "str" = some (T == "str") := by decide +kernel
/-- x is a thing of the built-in type T -/
def Is (K : PySem.W.Frag) (H : Hp) (x : V) (T : String) : Prop := TyX K H x (.type T) ∧ T ∈ kinds
theorem tyx_is {K : PySem.W.Frag} {H : Hp} {x : V} {t : Value} {T : String} (h : TyX K H x t) (e : t = .type T) :
    (T = "int" → ∃ i, x = .int i) ∧ (T = "str" → ∃ z, x = .str z) ∧ (∀ i, x = .int i → T = "int") ∧ (∀ z, x = .str z → T = "str") := by
  cases h with
  | base b =>
    cases b with
    | int i => cases e; exact ⟨fun _ => ⟨i, rfl⟩, fun z => absurd z (by decide), fun _ _ => rfl, fun _ z => (by cases z)⟩
    | str i => cases e; exact ⟨fun z => absurd z (by decide), fun _ => ⟨i, rfl⟩, fun _ z => (by cases z), fun _ _ => rfl⟩
    | ins => cases e
    | _ => cases e; exact ⟨fun z => absurd z (by decide), fun z => absurd z (by decide), fun _ z => (by cases z), fun _ z => (by cases z)⟩
  | _ => cases e; exact ⟨fun z => absurd z (by decide), fun z => absurd z (by decide), fun _ z => (by cases z), fun _ z => (by cases z)⟩
section
variable {K : PySem.W.Frag} {H : Hp} {x : V} {T : String}
theorem Is.whole (h : Is K H x T) (e : T = "int") : ∃ i, x = .int i := (tyx_is h.1 rfl).1 e
theorem Is.text (h : Is K H x T) (e : T = "str") : ∃ z, x = .str z := (tyx_is h.1 rfl).2.1 e
theorem Is.nint (h : Is K H x T) (e : T ≠ "int") : ∀ i, x ≠ .int i := fun i z => e ((tyx_is h.1 rfl).2.2.1 i z)
theorem Is.ntext (h : Is K H x T) (e : T ≠ "str") : ∀ z, x ≠ .str z := fun i z => e ((tyx_is h.1 rfl).2.2.2 i z)
end
theorem is_int {K : PySem.W.Frag} {H : Hp} (i : Int) : Is K H (.int i) "int" := ⟨.base (.int i), by decide⟩
theorem is_str {K : PySem.W.Frag} {H : Hp} (z : Str) : Is K H (.str z) "str" := ⟨.base (.str z), by decide⟩
theorem is_bl {K : PySem.W.Frag} {H : Hp} (b : Bool) : Is K H (.bl b) "bool" := ⟨.base (.bl b), by decide⟩
theorem is_non {K : PySem.W.Frag} {H : Hp} : Is K H .non "NoneType" := ⟨.base .non, by decide⟩
/-! ### isinstance(x, T), x a name, T a built-in class -/
def tIsi (T : String) (K : PySem.W.Frag) (i : Nat) : TE := fun σ H Q => ∃ v, σ[i]? = some (some v) ∧ ∃ (T' : String) (b : Bool), TyX K H v (.type T') ∧ kitB T' T = some b ∧ Q (.bl b) H
theorem pe_isi {X : Cx} {x nm : Str} {p p1 p2 pos : Pos} (T : String) (i : Nat) (mi : X.mg "isinstance" = none) (mT : X.mg nm = none)
    (hv : bootBuiltins nm = some (.type T)) (hN : X.N[i]? = some x := by rfl) (hvis : Vis X.env.scope x := by first | exact Or.inl rfl | exact Or.inr (Or.inl rfl) | exact Or.inr (Or.inr rfl))
    (hg : Gl X "isinstance" := by rfl) (hgT : Gl X nm := by rfl) (hxd : (x == ("__debug__" : Str)) = false := by decide) (hxc : (x == ("__classdict__" : Str)) = false := by decide)
    (hn : nm ≠ "__name__" := by decide) (hd : (nm == ("__debug__" : Str)) = false := by decide) :
    PE X (.Call (.Name "isinstance" p) [.Name x p1, .Name nm p2] [] pos) (tIsi T X.K i) := by
  have h := pe_callB (p := p) (pos := pos) call_isi hg mi (show bootBuiltins "isinstance" = some (.builtin "isinstance") by decide +kernel)
    (pa_cons (pe_var (pos := p1) hN hvis hxd hxc) (pa_cons (pe_bltn (v := .ty T) (pos := p2) hgT mT hv rfl hn hd) pa_nil))
  constructor
  intro pins s σ H Q I hq
  refine h.run pins s σ H Q I ?_
  obtain ⟨v, hs, T', b, h1, h2, h3⟩ := hq
  exact ⟨v, hs, v, .ty T, .type T', .type T, b, rfl, .ty T, h1, kit_ty h2, h3⟩
end SfG

namespace SfG
open PySem PySem.Spec PyProof.Rows L2
/-! ### x is not True, x is not False, x a whole number or a truth -/
def rNotBx : R2 := fun x y H Q => ∃ b : Bool, y = .bl b ∧ ((∃ a : Bool, x = .bl a ∧ Q (.bl (!decide (a = b))) H) ∨ ∃ i : Int, x = .int i ∧ Q (.bl true) H)
theorem op_notBx {X : Cx} : OpR X (compareOp .IsNot) rNotBx := by
  intro pins s σ H x y v u Q I rx ry h
  obtain ⟨b, rfl, ⟨a, rfl, q⟩ | ⟨i, rfl, q⟩⟩ := h
  · exact op_notBl pins s σ H _ _ v u Q I rx ry ⟨a, b, rfl, rfl, q⟩
  · cases (show u = Value.bool b from ry)
    obtain ⟨t, rfl⟩ := _root_.id rx
    exact wpAny_isNot_other rfl (fun z => by cases z) ⟨.bl true, H, I, rfl, q⟩
theorem tyx_bool {K : PySem.W.Frag} {H : Hp} {x : V} {t : Value} (h : TyX K H x t) (e : t = .type "bool") : ∃ b, x = .bl b := by
  cases h with
  | base b =>
    cases b with
    | bl b => exact ⟨b, rfl⟩
    | ins => cases e
    | _ => exact absurd (Value.type.inj e) (by decide)
  | _ => exact absurd (Value.type.inj e) (by decide)
theorem is_truth {K : PySem.W.Frag} {H : Hp} {x : V} {T : String} (h : Is K H x T) (e : T = "bool") : ∃ b, x = .bl b := tyx_bool h.1 (by rw [e])
end SfG

namespace SfK
open PySem PySem.Spec PyProof.Rows L2 SfG
def topS (i : Nat) : Stmt := PySem.Challenge.pw_sameface_k01_words_and_numbers.main.body.getD i (.Pass ⟨0, 0, 0, 0⟩)
abbrev sWhole : Stmt := topS 1
abbrev sAmong : Stmt := topS 2
abbrev sName : Stmt := topS 3
abbrev sFigs : Stmt := topS 4
abbrev sNum : Stmt := topS 5
abbrev sWords : Stmt := topS 6
theorem scWhole : FnScope ["thing"] ["thing"] (defScope sWhole) := ⟨rfl, rfl, rfl, by decide +kernel, rfl, by decide +kernel, by decide +kernel⟩
theorem scAmong : FnScope ["thing", "least", "most"] ["thing", "least", "most"] (defScope sAmong) := ⟨rfl, rfl, rfl, by decide +kernel, rfl, by decide +kernel, by decide +kernel⟩
theorem scName : FnScope ["thing"] ["thing"] (defScope sName) := ⟨rfl, rfl, rfl, by decide +kernel, rfl, by decide +kernel, by decide +kernel⟩
theorem scFigs : FnScope ["word", "most"] ["word", "most"] (defScope sFigs) := ⟨rfl, rfl, rfl, by decide +kernel, rfl, by decide +kernel, by decide +kernel⟩
theorem scNum : FnScope ["word"] ["word"] (defScope sNum) := ⟨rfl, rfl, rfl, by decide +kernel, rfl, by decide +kernel, by decide +kernel⟩
theorem scWords : FnScope ["row", "words"] ["row"] (defScope sWords) := ⟨rfl, rfl, rfl, by decide +kernel, rfl, by decide +kernel, by decide +kernel⟩
section
variable {P : Program} {w : World} {K : PySem.W.Frag} {mg : Str → Option Value} {base : Heap}
/-! ### is_whole -/
def spWhole (K : PySem.W.Frag) : Sp := fun vs H Q _ => ∃ (x : V) (T : String), vs = [x] ∧ Is K H x T ∧ Q (.bl (T == "int")) H
theorem ok_whole {f : Addr} {fd : FuncData} {k : Nat} (F : Fun K "is_whole" "is_whole" sWhole f fd) (mi : mg "isinstance" = none) (m1 : mg "int" = none) :
    FnOk P w K mg base CX0 (k + 1) f fd ["thing"] (spWhole K) := by
  refine F.ok scWhole (fun vs H Q E h => ?_) (fun cdv A outer s H vs Q E hr h => ?_)
  · obtain ⟨x, T, rfl, _⟩ := h
    rfl
  · obtain ⟨x, T, rfl, hx, q⟩ := h
    refine ⟨_, pss_one (ps_ret (pe_and (pe_isi "int" 0 mi m1 (by decide +kernel)) (pe_and (pe_cmpR op_notBx (pv 0) pe_bl (nomark _)) (pe_one (pe_cmpR op_notBx (pv 0) pe_bl (nomark _)))))), ?_⟩
    refine ⟨x, rfl, T, _, hx.1, kit_int T hx.2, _, rfl, ?_⟩
    by_cases e : T = "int"
    · obtain ⟨i, rfl⟩ := hx.whole e
      subst e
      exact iteT ⟨_, rfl, true, rfl, .inr ⟨i, rfl, _, rfl, iteT ⟨_, rfl, false, rfl, .inr ⟨i, rfl, q⟩⟩⟩⟩
    · have e1 : (T == "int") = false := by simpa using e
      rw [e1] at q ⊢
      by_cases e2 : T = "bool"
      · obtain ⟨b, rfl⟩ := is_truth hx e2
        subst e2
        cases b with
        | true => exact iteT ⟨_, rfl, true, rfl, .inl ⟨true, rfl, _, rfl, iteF q⟩⟩
        | false => exact iteT ⟨_, rfl, true, rfl, .inl ⟨false, rfl, _, rfl, iteT ⟨_, rfl, false, rfl, .inl ⟨false, rfl, q⟩⟩⟩⟩
      · have e3 : (T == "bool") = false := by simpa using e2
        rw [e3]
        exact iteF q
/-! ### is_among -/
def amongV (x : V) (lo hi : Int) : Bool := match x with
  | .int i => decide (lo ≤ i) && decide (i ≤ hi)
  | _ => false
def spAmong (K : PySem.W.Frag) : Sp := fun vs H Q _ => ∃ (x : V) (T : String) (lo hi : Int), vs = [x, .int lo, .int hi] ∧ Is K H x T ∧ Q (.bl (amongV x lo hi)) H
theorem among_no {x : V} {lo hi : Int} (h : ∀ i, x ≠ .int i) : amongV x lo hi = false := by
  cases x with
  | int i => exact absurd rfl (h i)
  | _ => rfl
theorem ok_among {f fW : Addr} {fd fdW : FuncData} (F : Fun K "is_among" "is_among" sAmong f fd) (FW : Fun K "is_whole" "is_whole" sWhole fW fdW)
    (bW : Binds K fdW ["thing"] []) (gW : mg "is_whole" = some (.ref fW)) (GW : FnOk P w K mg base CX0 1 fW fdW ["thing"] (spWhole K)) :
    FnOk P w K mg base CX0 2 f fd ["thing", "least", "most"] (spAmong K) := by
  refine F.ok scAmong (fun vs H Q E h => ?_) (fun cdv A outer s H vs Q E hr h => ?_)
  · obtain ⟨x, T, lo, hi, rfl, _⟩ := h
    rfl
  · obtain ⟨x, T, lo, hi, rfl, hx, q⟩ := h
    refine ⟨_, pss_one (ps_ret (pe_and (pe_call GW hr (by rfl) gW FW.kp bW .nil pass0 (pa_cons (pv 0) pa_nil))
      (pe_and (pe_call GW hr (by rfl) gW FW.kp bW .nil pass0 (pa_cons (pv 1) pa_nil))
      (pe_and (pe_call GW hr (by rfl) gW FW.kp bW .nil pass0 (pa_cons (pv 2) pa_nil))
      (pe_one (pe_chain op_le op_le (pv 1) (pv 0) (pv 2))))))), ?_⟩
    refine ⟨x, rfl, x, T, rfl, hx, _, rfl, ?_⟩
    by_cases e : T = "int"
    · obtain ⟨i, rfl⟩ := hx.whole e
      subst e
      refine iteT ⟨_, rfl, _, "int", rfl, is_int lo, _, rfl, iteT ⟨_, rfl, _, "int", rfl, is_int hi, _, rfl, iteT ?_⟩⟩
      refine ⟨_, rfl, _, rfl, lo, i, rfl, rfl, _, rfl, ?_⟩
      have q' : Q (.bl (decide (lo ≤ i) && decide (i ≤ hi))) H := q
      cases h1 : decide (lo ≤ i) with
      | true =>
        rw [h1] at q'
        exact iteT ⟨_, rfl, i, hi, rfl, rfl, q'⟩
      | false =>
        rw [h1] at q'
        exact iteF q'
    · have e1 : (T == "int") = false := by simpa using e
      rw [e1]
      rw [among_no (hx.nint e)] at q
      exact iteF q
/-! ### is_name -/
abbrev letters : Str := "abcdefghijklmnopqrstuvwxyz"
abbrev figures : Str := "0123456789"
def isLet (c : Nat) : Bool := decide (c ∈ letters.cps.toList)
def isFig (c : Nat) : Bool := decide (c ∈ figures.cps.toList)
def nameV (x : V) : Bool := match x with
  | .str z => decide ((1 : Int) ≤ z.length) && (decide ((z.length : Int) ≤ 8) && z.cps.toList.all isLet)
  | _ => false
theorem name_no {x : V} (h : ∀ i, x ≠ .str i) : nameV x = false := by
  cases x with
  | str i => exact absurd rfl (h i)
  | _ => rfl
/-- x has a size that can be told -/
def Sized (x : V) : Prop := ∀ z, x = .str z → z.length + 2 ≤ sizeLine
def spName (K : PySem.W.Frag) (P1 : Addr) : Sp := fun vs H Q _ => ∃ (x : V) (T : String), vs = [x] ∧ Is K H x T ∧ Sized x ∧ True ∧ ∀ H', Gr H H' → Q (.bl (nameV x)) H'
theorem let_alpha : ∀ c, c < 128 → Unicode.isAlpha c = (isLet c || (Unicode.isUpper c || Unicode.isTitle c)) := by decide +kernel
theorem let_lower : ∀ c, c < 128 → Unicode.isLower c = isLet c := by decide +kernel
theorem let_upper : ∀ c, c < 128 → isLet c = true → (Unicode.isUpper c || Unicode.isTitle c) = false := by decide +kernel
theorem let_range {c : Nat} (h : isLet c = true) : c < 128 := by
  have h' : c ∈ letters.cps.toList := of_decide_eq_true h
  have e : ∀ d ∈ letters.cps.toList, d < 128 := by decide +kernel
  exact e c h'
theorem name_list : ∀ l : List Nat, (∀ c ∈ l, c < 128) → (l.all Unicode.isAlpha && !(l.any fun c => Unicode.isUpper c || Unicode.isTitle c)) = l.all isLet
  | [], _ => rfl
  | a :: r, h => by
    have ih := name_list r fun c hc => h c (.tail _ hc)
    have ha := h a (.head _)
    rw [List.all_cons, List.any_cons, List.all_cons, ← ih, let_alpha a ha]
    cases hl : isLet a with
    | true =>
      rw [let_upper a ha hl]
      simp
    | false =>
      cases (Unicode.isUpper a || Unicode.isTitle a) <;> simp
theorem name_txt (z : Str) : (Txt.isalpha z && (Txt.islower z && Txt.isascii z)) = (decide ((1 : Int) ≤ z.length) && z.cps.toList.all isLet) := by
  have hl : z.length = z.cps.toList.length := by simp [Str.length]
  unfold Txt.isalpha Txt.islower Txt.isascii
  rw [← Array.all_toList, ← Array.any_toList, ← Array.any_toList, ← Array.all_toList, hl]
  generalize z.cps.toList = l
  by_cases hc : ∀ c ∈ l, c < 128
  · have h1 : (l.all fun x => decide (x < 128)) = true := List.all_eq_true.mpr fun c h => decide_eq_true (hc c h)
    have e := name_list l hc
    rw [h1, ← e]
    cases l with
    | nil => rfl
    | cons a r =>
      have h2 : (decide ((a :: r).length > 0)) = true := decide_eq_true (by simp)
      have h3 : (decide ((1 : Int) ≤ ((a :: r).length : Int))) = true := decide_eq_true (by simp; omega)
      rw [h2, h3]
      cases hA : (a :: r).all isLet with
      | true =>
        rw [hA] at e
        have hla : isLet a = true := by
          rw [List.all_cons] at hA
          exact (Bool.and_eq_true_iff.mp hA).1
        have hlow : (a :: r).any Unicode.isLower = true := by
          rw [List.any_cons, let_lower a (hc a (.head _)), hla]
          rfl
        rw [hlow]
        simp
      | false =>
        rw [hA] at e
        rw [e]
        cases h4 : (a :: r).all Unicode.isAlpha with
        | false => rfl
        | true =>
          rw [h4] at e
          cases h5 : (a :: r).any fun c => Unicode.isUpper c || Unicode.isTitle c with
          | true => simp
          | false =>
            rw [h5] at e
            cases e
  · have h1 : (l.all fun x => decide (x < 128)) = false := by
      cases h : (l.all fun x => decide (x < 128)) with
      | false => rfl
      | true => exact absurd (fun c hc' => of_decide_eq_true (List.all_eq_true.mp h c hc')) hc
    have h2 : l.all isLet = false := by
      cases h : l.all isLet with
      | false => rfl
      | true => exact absurd (fun c hc' => let_range (List.all_eq_true.mp h c hc')) hc
    rw [h1, h2]
    simp
theorem name_eq (z : Str) : nameV (.str z) = (decide ((z.length : Int) ≤ 8) && (Txt.isalpha z && (Txt.islower z && Txt.isascii z))) := by
  rw [name_txt]
  show (decide ((1 : Int) ≤ z.length) && (decide ((z.length : Int) ≤ 8) && z.cps.toList.all isLet)) = _
  cases decide ((1 : Int) ≤ z.length) <;> cases decide ((z.length : Int) ≤ 8) <;> simp
theorem ok_name {f : Addr} {fd : FuncData} {k : Nat} {P1 : Addr} (F : Fun K "is_name" "is_name" sName f fd)
    (mi : mg "isinstance" = none) (m1 : mg "str" = none) (ml : mg "len" = none) :
    FnOk P w K mg base CX0 (k + 1) f fd ["thing"] (spName K P1) := by
  refine F.ok scName (fun vs H Q E h => ?_) (fun cdv A outer s H vs Q E hr h => ?_)
  · obtain ⟨x, T, rfl, _⟩ := h
    rfl
  · obtain ⟨x, T, rfl, hx, hz, ht, q⟩ := h
    have q := q H (Gr.refl H)
    refine ⟨_, pss_one (ps_ret (pe_and (pe_isi "str" 0 mi m1 (by decide +kernel))
      (pe_and (pe_cmpR op_le (pe_callB call_len_str (by rfl) ml PySem.boot_len (pa_cons (pv 0) pa_nil)) pe_int (nomark _))
      (pe_and (pe_m0 PySem.F.slot_str_isalpha PySem.F.type_str_isalpha mt_isalpha (pv 0))
      (pe_and (pe_m0 PySem.F.slot_str_islower PySem.F.type_str_islower mt_islower (pv 0))
      (pe_one (pe_m0 PySem.F.slot_str_isascii PySem.F.type_str_isascii mt_isascii (pv 0)))))))), ?_⟩
    refine ⟨x, rfl, T, _, hx.1, kit_str T hx.2, _, rfl, ?_⟩
    by_cases e : T = "str"
    · obtain ⟨z, rfl⟩ := hx.text e
      subst e
      have hz' : z.length ≤ sizeLine := by
        have := hz z rfl
        omega
      rw [name_eq] at q
      refine iteT ⟨_, rfl, z, rfl, hz', _, 8, rfl, rfl, _, rfl, ?_⟩
      cases h1 : decide ((z.length : Int) ≤ 8) with
      | false =>
        rw [h1] at q
        exact iteF q
      | true =>
        rw [h1] at q
        refine iteT ⟨_, rfl, ⟨z, rfl⟩, z, rfl, rfl, trivial, _, rfl, ?_⟩
        cases h2 : Txt.isalpha z with
        | false =>
          rw [h2] at q
          exact iteF q
        | true =>
          rw [h2] at q
          refine iteT ⟨_, rfl, ⟨z, rfl⟩, z, rfl, rfl, trivial, _, rfl, ?_⟩
          cases h3 : Txt.islower z with
          | false =>
            rw [h3] at q
            exact iteF q
          | true =>
            rw [h3] at q
            exact iteT ⟨_, rfl, ⟨z, rfl⟩, z, rfl, rfl, trivial, q⟩
    · have e1 : (T == "str") = false := by simpa using e
      rw [e1]
      rw [name_no (hx.ntext e)] at q
      exact iteF q
end
end SfK

namespace SfK
open PySem PySem.Spec PyProof.Rows L2 SfG
/-! ### the number of a word -/
def dec (l : List Nat) : Int := l.foldl (fun (a : Int) (c : Nat) => a * 10 + ((c : Int) - 48)) 0
def zeroAhead (z : Str) : Bool := decide (V.str ⟨#[z.cps.toList.headD 0]⟩ = V.str "0") && !decide (V.str z = V.str "0")
def numV (x : V) (m : Int) : V := match x with
  | .str z => if (decide ((1 : Int) ≤ z.length) && decide ((z.length : Int) ≤ m)) && (z.cps.toList.all isFig && !zeroAhead z) then .int (dec z.cps.toList) else .non
  | _ => .non
theorem num_no {x : V} {m : Int} (h : ∀ i, x ≠ .str i) : numV x m = .non := by
  cases x with
  | str i => exact absurd rfl (h i)
  | _ => rfl
theorem fig_range {c : Nat} (h : isFig c = true) : 48 ≤ c ∧ c < 58 := by
  have h' : c ∈ figures.cps.toList := of_decide_eq_true h
  have e : figures.cps.toList = [48, 49, 50, 51, 52, 53, 54, 55, 56, 57] := by decide +kernel
  rw [e] at h'
  simp at h'
  omega
theorem int1 : ∀ a, a < 10 → PySem.intText? ⟨#[48 + a]⟩ = some (a : Int) := by decide +kernel
theorem int2 : ∀ a, a < 10 → ∀ b, b < 10 → PySem.intText? ⟨#[48 + a, 48 + b]⟩ = some ((a * 10 + b : Nat) : Int) := by decide +kernel
theorem str_eta (z : Str) : z = ⟨z.cps.toList.toArray⟩ := by
  cases z with
  | mk c => simp
theorem int_of {z : Str} (h1 : (1 : Int) ≤ z.length) (h2 : (z.length : Int) ≤ 2) (hf : z.cps.toList.all isFig = true) : PySem.intText? z = some (dec z.cps.toList) := by
  have hl : z.length = z.cps.toList.length := by simp [Str.length]
  rw [str_eta z]
  rw [hl] at h1 h2
  generalize z.cps.toList = l at h1 h2 hf ⊢
  match l, h1, h2, hf with
  | [a], _, _, hf =>
    have ha := fig_range (by simpa using hf)
    obtain ⟨a', rfl⟩ : ∃ a', a = 48 + a' := ⟨a - 48, by omega⟩
    rw [show ([48 + a'] : List Nat).toArray = #[48 + a'] from rfl, int1 a' (by omega)]
    simp [dec]
    omega
  | [a, b], _, _, hf =>
    have hab : isFig a = true ∧ isFig b = true := by simpa using hf
    have ha := fig_range hab.1
    have hb := fig_range hab.2
    obtain ⟨a', rfl⟩ : ∃ a', a = 48 + a' := ⟨a - 48, by omega⟩
    obtain ⟨b', rfl⟩ : ∃ b', b = 48 + b' := ⟨b - 48, by omega⟩
    rw [show ([48 + a', 48 + b'] : List Nat).toArray = #[48 + a', 48 + b'] from rfl, int2 a' (by omega) b' (by omega)]
    simp [dec]
    omega
  | [], h1, _, _ => exact absurd h1 (by simp)
  | _ :: _ :: _ :: _, _, h2, _ => 
    exfalso
    simp at h2
    omega
section
variable {P : Program} {w : World} {K : PySem.W.Frag} {mg : Str → Option Value} {base : Heap}
def spFigs (K : PySem.W.Frag) (P2 : Addr) : Sp := fun vs H Q _ => ∃ (x : V) (T : String), vs = [x, .int 2] ∧ Is K H x T ∧ Sized x ∧ True ∧ ∀ H', Gr H H' → Q (numV x 2) H'
theorem fig_digit : ∀ c, c < 128 → Unicode.isDigit c = isFig c := by decide +kernel
theorem figs_list : ∀ l : List Nat, (∀ c ∈ l, c < 128) → l.all Unicode.isDigit = l.all isFig
  | [], _ => rfl
  | a :: r, h => by rw [List.all_cons, List.all_cons, figs_list r fun c hc => h c (.tail _ hc), fig_digit a (h a (.head _))]
theorem figs_txt (z : Str) : (Txt.isdigit z && Txt.isascii z) = (decide ((1 : Int) ≤ z.length) && z.cps.toList.all isFig) := by
  have hl : z.length = z.cps.toList.length := by simp [Str.length]
  unfold Txt.isdigit Txt.isascii
  rw [← Array.all_toList, ← Array.all_toList, hl]
  generalize z.cps.toList = l
  have e0 : decide (l.length > 0) = decide ((1 : Int) ≤ (l.length : Int)) := by
    by_cases h : l.length > 0
    · rw [decide_eq_true h, decide_eq_true (show (1 : Int) ≤ (l.length : Int) by omega)]
    · rw [decide_eq_false h, decide_eq_false (show ¬ (1 : Int) ≤ (l.length : Int) by omega)]
  rw [e0]
  by_cases hc : ∀ c ∈ l, c < 128
  · have h1 : (l.all fun x => decide (x < 128)) = true := List.all_eq_true.mpr fun c h => decide_eq_true (hc c h)
    rw [h1, figs_list l hc, Bool.and_true]
  · have h1 : (l.all fun x => decide (x < 128)) = false := by
      cases h : (l.all fun x => decide (x < 128)) with
      | false => rfl
      | true => exact absurd (fun c hc' => of_decide_eq_true (List.all_eq_true.mp h c hc')) hc
    have h2 : l.all isFig = false := by
      cases h : l.all isFig with
      | false => rfl
      | true =>
        refine absurd (fun c hc' => ?_) hc
        have := fig_range (List.all_eq_true.mp h c hc')
        omega
    rw [h1, h2]
    simp
theorem ok_figs {f : Addr} {fd : FuncData} {k : Nat} {P2 : Addr} (F : Fun K "number_by_figures" "number_by_figures" sFigs f fd)
    (mi : mg "isinstance" = none) (m1 : mg "str" = none) (ml : mg "len" = none) (mn : mg "int" = none) :
    FnOk P w K mg base CX0 (k + 1) f fd ["word", "most"] (spFigs K P2) := by
  refine F.ok scFigs (fun vs H Q E h => ?_) (fun cdv A outer s H vs Q E hr h => ?_)
  · obtain ⟨x, T, rfl, _⟩ := h
    rfl
  · obtain ⟨x, T, rfl, hx, hz, ht, q⟩ := h
    have q := q H (Gr.refl H)
    refine ⟨_, pss_cons (ps_if (PW.pt (pw_or (pt_not (pt_val (pe_isi "str" 0 mi m1 (by decide +kernel))))
        (pw_or (pt_cmpR op_gt (pe_callB call_len_str (by rfl) ml PySem.boot_len (pa_cons (pv 0) pa_nil)) (pv 1) (nomark _))
        (pw_or (pt_not (pt_val (pe_m0 PySem.F.slot_str_isdigit PySem.F.type_str_isdigit mt_isdigit (pv 0))))
        (pw_or1 (pt_not (pt_val (pe_m0 PySem.F.slot_str_isascii PySem.F.type_str_isascii mt_isascii (pv 0)))))))))
        (pss_one (ps_ret pe_non)) pss_nil)
      (pss_cons (ps_if (PW.pt (pw_and (pt_cmpR op_eq (pe_item_str (pv 0) pe_int (fun _ _ => rfl)) pe_str (nomark _)) (pw_and1 (pt_cmpR op_ne (pv 0) pe_str (nomark _)))))
        (pss_one (ps_ret pe_non)) pss_nil)
      (pss_one (ps_ret (pe_callTy call_int_str (by rfl) mn (by decide +kernel) (pa_cons (pv 0) pa_nil))))), ?_⟩
    refine ⟨x, rfl, T, _, hx.1, kit_str T hx.2, _, rfl, ?_⟩
    by_cases e : T = "str"
    · obtain ⟨z, rfl⟩ := hx.text e
      subst e
      have hz' : z.length ≤ sizeLine := by
        have := hz z rfl
        omega
      refine iteF ⟨_, rfl, z, rfl, hz', _, rfl, _, 2, rfl, rfl, _, rfl, ?_⟩
      have q1 : Q (if (decide ((1 : Int) ≤ z.length) && decide ((z.length : Int) ≤ 2)) && (z.cps.toList.all isFig && !zeroAhead z) then .int (dec z.cps.toList) else .non) H := q
      by_cases h2 : (z.length : Int) ≤ 2
      · rw [decide_eq_false (show ¬ (z.length : Int) > 2 by omega)]
        rw [decide_eq_true h2, Bool.and_true] at q1
        refine iteF ⟨_, rfl, ⟨z, rfl⟩, z, rfl, rfl, trivial, _, rfl, ?_⟩
        have ft := figs_txt z
        have q2 : Q (if (Txt.isdigit z && Txt.isascii z) && !zeroAhead z then .int (dec z.cps.toList) else .non) H := by
          rw [ft, Bool.and_assoc]
          exact q1
        cases h3 : Txt.isdigit z with
        | false =>
          rw [h3] at q2
          exact iteT (iteT q2)
        | true =>
          rw [h3] at q2 ft
          refine iteF ⟨_, rfl, ⟨z, rfl⟩, z, rfl, rfl, trivial, _, rfl, ?_⟩
          cases h4 : Txt.isascii z with
          | false =>
            rw [h4] at q2
            exact iteT q2
          | true =>
            rw [h4] at q2 ft
            have fb := Bool.and_eq_true_iff.mp ft.symm
            have g1 : (1 : Int) ≤ z.length := of_decide_eq_true fb.1
            have hl : z.length = z.cps.toList.length := by simp [Str.length]
            obtain ⟨c0, r0, e0⟩ : ∃ c0 r0, z.cps.toList = c0 :: r0 := by
              cases hq : z.cps.toList with
              | nil =>
                rw [hl, hq] at g1
                exact absurd g1 (by simp)
              | cons a r => exact ⟨a, r, rfl⟩
            have ec : z.cps[(0 : Int).toNat]? = some c0 := by
              rw [← Array.getElem?_toList, e0]
              rfl
            refine iteF ⟨_, rfl, z, 0, c0, rfl, rfl, by decide, by decide, by omega, ec, rfl, _, rfl, ?_⟩
            have hd : z.cps.toList.headD 0 = c0 := by rw [e0]; rfl
            have q3 : Q (if (!zeroAhead z) = true then V.int (dec z.cps.toList) else V.non) H := q2
            unfold zeroAhead at q3
            rw [hd] at q3
            have fin : Q (V.int (dec z.cps.toList)) H → tRet (tCB (fun xs H Q => ∃ a n, xs = [V.str a] ∧ PySem.intText? a = some n ∧ a.length ≤ 640 ∧ Q (.int n) H) (tCons (tVar 0) tNil)) { nx := fun _ H' => Q .non H', rt := Q } (L2.start ["word", "most"] [V.str z, V.int 2]) H :=
              fun qq => ⟨_, rfl, z, _, rfl, int_of g1 h2 fb.2, by omega, qq⟩
            cases h4 : decide (V.str ⟨#[c0]⟩ = V.str "0") with
            | false =>
              rw [h4] at q3
              exact iteF (iteF (fin q3))
            | true =>
              rw [h4] at q3
              refine iteT ⟨_, rfl, rfl, _, rfl, ?_⟩
              cases h5 : decide (V.str z = V.str "0") with
              | true =>
                rw [h5] at q3
                exact iteF (fin q3)
              | false =>
                rw [h5] at q3
                exact iteT q3
      · rw [decide_eq_true (show (z.length : Int) > 2 by omega)]
        rw [decide_eq_false h2, Bool.and_false] at q1
        exact iteT (iteT q1)
    · have e1 : (T == "str") = false := by simpa using e
      rw [e1]
      rw [num_no (hx.ntext e)] at q
      exact iteT (iteT q)
/-! ### number_of -/
def spNum (K : PySem.W.Frag) (P2 : Addr) : Sp := fun vs H Q _ => ∃ (x : V) (T : String), vs = [x] ∧ Is K H x T ∧ Sized x ∧ True ∧ ∀ H', Gr H H' → Q (numV x 2) H'
theorem ok_num {f fF P2 : Addr} {fd fdF : FuncData} (F : Fun K "number_of" "number_of" sNum f fd) (FF : Fun K "number_by_figures" "number_by_figures" sFigs fF fdF)
    (bF : Binds K fdF ["word", "most"] []) (gF : mg "number_by_figures" = some (.ref fF)) (GF : FnOk P w K mg base CX0 1 fF fdF ["word", "most"] (spFigs K P2)) :
    FnOk P w K mg base CX0 2 f fd ["word"] (spNum K P2) := by
  refine F.ok scNum (fun vs H Q E h => ?_) (fun cdv A outer s H vs Q E hr h => ?_)
  · obtain ⟨x, T, rfl, _⟩ := h
    rfl
  · obtain ⟨x, T, rfl, hx, hz, ht, q⟩ := h
    refine ⟨_, pss_one (ps_ret (pe_call GF hr (by rfl) gF FF.kp bF .nil pass0 (pa_cons (pv 0) (pa_cons pe_int pa_nil)))), ?_⟩
    exact ⟨x, rfl, x, T, rfl, hx, hz, ht, q⟩
/-! ### words_of -/
abbrev blank : Str := " "
abbrev nought : Str := ""
def wordsOf (z : Str) : List V := (Txt.split z blank).map V.str
def spWords (K : PySem.W.Frag) : Sp := fun vs H Q _ => ∃ (x : V) (T : String), vs = [x] ∧ Is K H x T ∧ Sized x ∧
  ((∀ z, x ≠ .str z) → Q .non H) ∧
  (∀ z H', x = .str z → inV (.str nought) (wordsOf z) = true → Gr H H' → Q .non H') ∧
  ∀ z H' (p : Addr), x = .str z → inV (.str nought) (wordsOf z) = false → H p = none → Gr H H' → H' p = some (.lst (wordsOf z)) → Q (.ref p) H'
theorem flat_words (z : Str) : (wordsOf z).all flatV = true := by
  unfold wordsOf
  rw [List.all_map]
  exact List.all_eq_true.mpr fun _ _ => rfl
theorem ok_words {f : Addr} {fd : FuncData} {k : Nat} (F : Fun K "words_of" "words_of" sWords f fd) (mi : mg "isinstance" = none) (m1 : mg "str" = none) :
    FnOk P w K mg base CX0 (k + 1) f fd ["row"] (spWords K) := by
  refine F.ok scWords (fun vs H Q E h => ?_) (fun cdv A outer s H vs Q E hr h => ?_)
  · obtain ⟨x, T, rfl, _⟩ := h
    rfl
  · obtain ⟨x, T, rfl, hx, hz, q1, q2, q3⟩ := h
    refine ⟨_, pss_cons (ps_if (pt_not (pt_val (pe_isi "str" 0 mi m1 (by decide +kernel)))) (pss_one (ps_ret pe_non)) pss_nil)
      (pss_cons (ps_set (i := 1) scWords.nd rfl (.inl rfl) (pe_split (pv 0) pe_str))
      (pss_cons (ps_if (pt_cmpR op_in_seq pe_str (pv 1) rfl) (pss_one (ps_ret pe_non)) pss_nil)
      (pss_one (ps_ret (pv 1))))), ?_⟩
    refine ⟨x, rfl, T, _, hx.1, kit_str T hx.2, _, rfl, ?_⟩
    by_cases e : T = "str"
    · obtain ⟨z, rfl⟩ := hx.text e
      subst e
      refine iteF ⟨_, rfl, ⟨z, rfl⟩, z, blank, rfl, rfl, by decide +kernel, hz z rfl, ?_⟩
      intro p np
      have g : Gr H (upd H p (.lst (wordsOf z))) := Gr.new np
      refine ⟨_, rfl, p, wordsOf z, rfl, .inl (.inl (.inl upd_same)), rfl, flat_words z, _, rfl, ?_⟩
      cases h1 : inV (.str nought) (wordsOf z) with
      | true => exact iteT (q2 z _ rfl h1 g)
      | false => exact iteF ⟨_, rfl, q3 z _ p rfl h1 np g upd_same⟩
    · have e1 : (T == "str") = false := by simpa using e
      rw [e1]
      exact iteT (q1 (hx.ntext e))
end
end SfK

namespace SfK
open PySem PySem.Spec PyProof.Rows L2 SfG
abbrev sMixed : Stmt := topS 8
abbrev sDraw : Stmt := topS 9
abbrev sDigit : Stmt := topS 10
theorem scMixed : FnScope ["_law_cell", "_law_k"] ["_law_cell", "_law_k"] (defScope sMixed) := ⟨rfl, rfl, rfl, by decide +kernel, rfl, by decide +kernel, by decide +kernel⟩
theorem scDraw : FnScope ["_law_cell", "_law_k"] ["_law_cell", "_law_k"] (defScope sDraw) := ⟨rfl, rfl, rfl, by decide +kernel, rfl, by decide +kernel, by decide +kernel⟩
theorem scDigit : FnScope ["_law_state", "_law_many", "_law_j", "_law_found"] ["_law_state", "_law_many"] (defScope sDigit) := ⟨rfl, rfl, rfl, by decide +kernel, rfl, by decide +kernel, by decide +kernel⟩
section
variable {P : Program} {w : World} {K : PySem.W.Frag} {mg : Str → Option Value} {base : Heap}
/-! ### the draws -/
def spMixed : Sp := fun vs H Q _ => ∃ a b : Int, vs = [.int a, .int b] ∧ 0 ≤ b ∧ b ≤ 1000000000 ∧ ∀ r, 0 ≤ r → r < 2147483647 → Q (.int r) H
theorem ok_mixed {f : Addr} {fd : FuncData} {k : Nat} (F : Fun K "_law_mixed" "_law_mixed" sMixed f fd) : FnOk P w K mg base CX0 (k + 1) f fd ["_law_cell", "_law_k"] spMixed := by
  refine F.ok scMixed (fun vs H Q E h => ?_) (fun cdv A outer s H vs Q E hr h => ?_)
  · obtain ⟨a, b, rfl, _⟩ := h
    rfl
  · obtain ⟨a, b, rfl, hb0, hb1, q⟩ := h
    refine ⟨_, pss_cons (ps_set (i := 0) scMixed.nd rfl (.inl rfl) (pe_op op_add (pe_op op_add (pe_op op_mod (pv 0) pe_int) (pe_op op_mul pe_int (pv 1))) pe_int))
      (pss_one (ps_ret (pe_op op_mod (pe_op op_mul (pe_op op_mod (pe_op op_mul (pv 0) (pv 0)) pe_int) pe_int) pe_int))), ?_⟩
    refine ⟨_, rfl, a, 1000000007, rfl, rfl, (by show (0 : Int) < 1000000007; decide), _, rfl, 7919, b, rfl, rfl, .inl ⟨by decide, by decide⟩, _, _, rfl, rfl, _, _, rfl, rfl, ?_⟩
    refine ⟨_, rfl, _, rfl, _, _, rfl, rfl, .inl ⟨?_, ?_⟩, _, 1000000007, rfl, rfl, (by show (0 : Int) < 1000000007; decide), _, 48271, rfl, rfl, .inr ⟨by decide, by decide⟩, _, 2147483647, rfl, rfl, (by show (0 : Int) < 2147483647; decide), q _ ?_ ?_⟩
    · have : (-(2 ^ 64) : Int) = -18446744073709551616 := by decide
      rw [this]
      omega
    · have : ((2 ^ 64) : Int) = 18446744073709551616 := by decide
      rw [this]
      omega
    · exact Int.emod_nonneg _ (by decide)
    · exact Int.emod_lt_of_pos _ (by decide)
/-- the state of a draw -/
abbrev kLeft : Key := Sum.inr ("left" : Str)
abbrev kSeed : Key := Sum.inr ("seed" : Str)
abbrev kTurns : Key := Sum.inr ("turns" : Str)
def kv3 (l s t : Int) : List (Key × V) := [(kLeft, .int l), (kSeed, .int s), (kTurns, .int t)]
def Drw (H : Hp) (p : Addr) (B : Int) : Prop := ∃ l s t, H p = some (.dK (kv3 l s t)) ∧ 0 ≤ l ∧ 0 ≤ t ∧ t ≤ B
theorem kv_left (l s t : Int) : valV (kv3 l s t) kLeft = some (.int l) := rfl
theorem kv_seed (l s t : Int) : valV (kv3 l s t) kSeed = some (.int s) := rfl
theorem kv_turns (l s t : Int) : valV (kv3 l s t) kTurns = some (.int t) := rfl
theorem put_left (l s t l' : Int) : putK (kv3 l s t) kLeft (.int l') = kv3 l' s t := rfl
theorem put_turns (l s t t' : Int) : putK (kv3 l s t) kTurns (.int t') = kv3 l s t' := rfl
theorem get_left {H : Hp} {p : Addr} {l s t : Int} (h : H p = some (.dK (kv3 l s t))) : DGet H p (.str "left") (some (.int l)) := DGet.k (k := kLeft) h
theorem get_seed {H : Hp} {p : Addr} {l s t : Int} (h : H p = some (.dK (kv3 l s t))) : DGet H p (.str "seed") (some (.int s)) := DGet.k (k := kSeed) h
theorem get_turns {H : Hp} {p : Addr} {l s t : Int} (h : H p = some (.dK (kv3 l s t))) : DGet H p (.str "turns") (some (.int t)) := DGet.k (k := kTurns) h
theorem set_left {H : Hp} {p : Addr} {l s t l' : Int} (h : H p = some (.dK (kv3 l s t))) : DPut H p (.str "left") (.int l') (upd H p (.dK (kv3 l' s t))) := DPut.k (k := kLeft) h (by show 3 < sizeLine; decide)
theorem set_turns {H : Hp} {p : Addr} {l s t t' : Int} (h : H p = some (.dK (kv3 l s t))) : DPut H p (.str "turns") (.int t') (upd H p (.dK (kv3 l s t'))) := DPut.k (k := kTurns) h (by show 3 < sizeLine; decide)
theorem gr_new2 {H : Hp} {p : Addr} {o o' : HO} (h : H p = none) : Gr H (upd (upd H p o) p o') := by
  refine Gr.same ?_
  intro b x e
  have n : b ≠ p := ne_of_none e h
  rw [upd_ne n, upd_ne n]
  exact e
def spDraw : Sp := fun vs H Q _ => ∃ a b : Int, vs = [.int a, .int b] ∧ 0 ≤ b ∧ b ≤ 1000 ∧ ∀ H' p, H p = none → Gr H H' → Drw H' p b → Q (.ref p) H'
theorem ok_draw {f fM : Addr} {fd fdM : FuncData} (F : Fun K "_law_draw" "_law_draw" sDraw f fd) (FM : Fun K "_law_mixed" "_law_mixed" sMixed fM fdM) (bM : Binds K fdM ["_law_cell", "_law_k"] []) (gM : mg "_law_mixed" = some (.ref fM)) :
    FnOk P w K mg base CX0 2 f fd ["_law_cell", "_law_k"] spDraw := by
  have GM : FnOk P w K mg base CX0 1 fM fdM ["_law_cell", "_law_k"] spMixed := ok_mixed FM
  refine F.ok scDraw (fun vs H Q E h => ?_) (fun cdv A outer s H vs Q E hr h => ?_)
  · obtain ⟨a, b, rfl, _⟩ := h
    rfl
  · obtain ⟨a, b, rfl, hb0, hb1, q⟩ := h
    refine ⟨_, pss_one (ps_ret (pe_disp (pps_cons pe_str (pe_ifExp (pt_cmpR op_ge (pv 0) (pe_op op_pow pe_int pe_int) (nomark _)) (pv 0) pe_int)
      (pps_cons pe_str (pe_call GM hr (by rfl) gM FM.kp bM .nil pass0 (pa_cons (pv 0) (pa_cons (pv 1) pa_nil)))
      (pps_cons pe_str (pv 1) pps_nil))) (by rfl) (by rfl) (fun z => by cases z) (by decide))), ?_⟩
    intro p np
    have key : ∀ l : Int, 0 ≤ l → tPairs [(tC (V.str "seed"), tCall spMixed [] E0 (tCons (tVar 0) (tCons (tVar 1) tNil))), (tC (V.str "turns"), tVar 1)] (L2.start ["_law_cell", "_law_k"] [V.int a, V.int b]) (upd H p (.dK []))
        (fun ps H3 => H3 p = some (.dK []) ∧ ∃ kvs : List (Key × V), (V.str "left", V.int l) :: ps = kvs.map (fun kv => (kV kv.1, kv.2)) ∧ kvs.length ≤ 15 ∧ Q (.ref p) (upd H3 p (.dK (mergeK [] kvs)))) := by
      intro l hl
      refine ⟨_, rfl, _, rfl, a, b, rfl, hb0, by omega, ?_⟩
      intro r h0 h1
      refine ⟨_, rfl, upd_same, kv3 l r b, rfl, by show 3 ≤ 15; decide, ?_⟩
      refine q _ p np ?_ ⟨l, r, b, ?_, hl, hb0, Int.le_refl b⟩
      · exact gr_new2 np
      · rw [upd_same]
        rfl
    refine ⟨_, rfl, 10, 18, rfl, rfl, ⟨by decide, by decide, by decide⟩, _, _, rfl, rfl, _, rfl, ite2 (fun e => ?_) (fun e => ?_)⟩
    · have e' : a ≥ 10 ^ 18 := of_decide_eq_true e
      refine ⟨_, rfl, key a ?_⟩
      have : (0 : Int) ≤ 10 ^ 18 := by decide
      omega
    · exact key 0 (by decide)
/-- all but p as it was -/
def But (p : Addr) (H H' : Hp) : Prop := ∀ b, b ≠ p → H' b = H b
theorem But.upd {p : Addr} {H H' : Hp} {o : HO} (h : But p H H') : But p H (upd H' p o) := fun b n => (upd_ne n).trans (h b n)
def spDigit : Sp := fun vs H Q _ => ∃ (p : Addr) (m B : Int), vs = [.ref p, .int m] ∧ Drw H p B ∧ B ≤ 100000 ∧ 0 < m ∧ m ≤ 1000000000 ∧
  ∀ H' d, But p H H' → Drw H' p (B + 1) → 0 ≤ d → d < m → Q (.int d) H'
theorem ok_digit {f fM : Addr} {fd fdM : FuncData} (F : Fun K "_law_digit" "_law_digit" sDigit f fd) (FM : Fun K "_law_mixed" "_law_mixed" sMixed fM fdM) (bM : Binds K fdM ["_law_cell", "_law_k"] []) (gM : mg "_law_mixed" = some (.ref fM)) (mr : mg "range" = none) :
    FnOk P w K mg base CX0 2 f fd ["_law_state", "_law_many"] spDigit := by
  have GM : FnOk P w K mg base CX0 1 fM fdM ["_law_cell", "_law_k"] spMixed := ok_mixed FM
  refine F.ok scDigit (fun vs H Q E h => ?_) (fun cdv A outer s H vs Q E hr h => ?_)
  · obtain ⟨p, m, B, rfl, _⟩ := h
    rfl
  · obtain ⟨p, m, B, rfl, ⟨l, sd, t, hp, hl, ht, htB⟩, hB, hm0, hm1, q⟩ := h
    refine ⟨_, pss_cons (ps_if (pt_cmpR op_eq (pe_dget (hu_of hr) (pv 0) pe_str (fun _ _ => rfl)) pe_int (nomark _))
        (pss_cons (ps_dput (hu_of hr) (pv 0) pe_str (pe_op op_add (pe_dget (hu_of hr) (pv 0) pe_str (fun _ _ => rfl)) pe_int) rfl)
        (pss_one (ps_for PassesOwn.never rfl (pi_range1 rfl mr (pa_cons pe_int pa_nil)) (pg_name (i := 2) scDigit.nd rfl (Or.inl rfl))
          (pss_one (ps_dput (hu_of hr) (pv 0) pe_str (pe_op op_add (pe_op op_mul (pe_dget (hu_of hr) (pv 0) pe_str (fun _ _ => rfl)) pe_int)
            (pe_call GM hr (by rfl) gM FM.kp bM .nil pass0 (pa_cons (pe_dget (hu_of hr) (pv 0) pe_str (fun _ _ => rfl)) (pa_cons (pe_op op_add (pe_op op_mul pe_int (pe_dget (hu_of hr) (pv 0) pe_str (fun _ _ => rfl))) (pv 2)) pa_nil)))) rfl))))) pss_nil)
      (pss_cons (ps_set (i := 3) scDigit.nd rfl (.inl rfl) (pe_op op_mod (pe_dget (hu_of hr) (pv 0) pe_str (fun _ _ => rfl)) (pv 1)))
      (pss_cons (ps_dput (hu_of hr) (pv 0) pe_str (pe_op op_fdivW (pe_dget (hu_of hr) (pv 0) pe_str (fun _ _ => rfl)) (pv 1)) rfl)
      (pss_one (ps_ret (pv 3))))), ?_⟩
    -- what follows the if
    have tail : ∀ (H1 : Hp) (l1 s1 t1 : Int) (y2 y3 : Option V), But p H H1 → H1 p = some (.dK (kv3 l1 s1 t1)) → 0 ≤ l1 → 0 ≤ t1 → t1 ≤ B + 1 →
        tSeq (tAsg (tOp (rI (fun _ j => 0 < j) fun i j => .int (i % j)) (tDGet (tVar 0) (tC (.str "left"))) (tVar 1)) (gName 3))
          (tSeq (sDPut (tVar 0) (tC (.str "left")) (tOp (rI CDivW fun i j => .int (i / j)) (tDGet (tVar 0) (tC (.str "left"))) (tVar 1))) (tRet (tVar 3)))
          { nx := fun _ H' => Q .non H', rt := Q } [some (.ref p), some (.int m), y2, y3] H1 := by
      intro H1 l1 s1 t1 y2 y3 hb h1 hl1 ht1 htb
      refine ⟨_, rfl, p, _, rfl, get_left h1, _, rfl, l1, m, rfl, rfl, hm0, ?_⟩
      refine ⟨_, rfl, p, _, rfl, get_left h1, _, rfl, l1, m, rfl, rfl, wide_div (b := 40) hm0 ?_ (by decide) (by decide), _, rfl, p, _, rfl, set_left h1, _, rfl, q _ _ hb.upd ⟨l1 / m, s1, t1, upd_same, ?_, ht1, htb⟩ ?_ ?_⟩
      · have : (2 : Nat) ^ 40 = 1099511627776 := by decide
        rw [this]
        omega
      · exact Int.ediv_nonneg hl1 (by omega)
      · exact Int.emod_nonneg _ (by omega)
      · exact Int.emod_lt_of_pos _ hm0
    refine ⟨_, rfl, p, _, rfl, get_left hp, rfl, _, rfl, ite2 (fun e => ?_) (fun e => ?_)⟩
    · -- state['turns'] = state['turns'] + 1
      refine ⟨_, rfl, p, _, rfl, get_turns hp, t, 1, rfl, rfl, _, rfl, p, _, rfl, set_turns hp, ?_⟩
      refine ⟨4, rfl, by decide, by decide, for_range (n := 4) (fun i σ H1 => ∃ (l1 : Int) (y2 : Option V), σ = [some (.ref p), some (.int m), y2, none] ∧ But p H H1 ∧ H1 p = some (.dK (kv3 l1 sd (t + 1))) ∧ 0 ≤ l1) ?_ ?_ ?_⟩
      · exact ⟨l, none, rfl, But.upd (fun _ _ => rfl), upd_same, hl⟩
      · rintro i σ H1 hi ⟨l1, y2, rfl, hb, h1, hl1⟩
        refine ⟨_, rfl, p, _, rfl, get_left h1, l1, 2147483647, rfl, rfl, .inr ⟨by decide, by decide⟩, ?_⟩
        refine ⟨_, rfl, p, _, rfl, get_seed h1, _, rfl, p, _, rfl, get_turns h1, 4, t + 1, rfl, rfl, .inl ⟨by decide, by decide⟩, _, rfl, _, _, rfl, rfl, sd, _, rfl, by omega, by omega, ?_⟩
        intro r h0 hr1
        refine ⟨_, _, rfl, rfl, _, rfl, p, _, rfl, set_left h1, _, _, rfl, hb.upd, upd_same, ?_⟩
        have : 0 ≤ l1 * 2147483647 := Int.mul_nonneg hl1 (by decide)
        omega
      · rintro σ H1 ⟨l1, y2, rfl, hb, h1, hl1⟩
        exact tail H1 l1 sd (t + 1) y2 none hb h1 hl1 (by omega) (by omega)
    · exact tail H l sd t none none (fun _ _ => rfl) hp hl ht (by omega)
end
end SfK

namespace SfK
open PySem PySem.Spec PyProof.Rows L2 SfG
abbrev sLNum : Stmt := topS 11
theorem scLNum : FnScope ["_law_word", "_law_sign", "_law_others", "_law_found"] ["_law_word"] (defScope sLNum) := ⟨rfl, rfl, rfl, by decide +kernel, rfl, by decide +kernel, by decide +kernel⟩
/-! ### the law's own number of a word -/
theorem len_list (z : Str) : z.length = z.cps.toList.length := by simp [Str.length]
/-- the signs of l that are none of S -/
def oth (S : Str) (l : List Nat) : List V := (l.filter fun c => !decide (c ∈ S.cps.toList)).map fun c => V.str ⟨#[c]⟩
def othD (S : Str) (l : List Nat) : List PyData := (l.filter fun c => !decide (c ∈ S.cps.toList)).map fun c => PyData.str ⟨#[c]⟩
theorem oth_dp {K : PySem.W.Frag} {H : Hp} (S : Str) (l : List Nat) : DpAll K H (oth S l) (othD S l) := by
  unfold oth othD
  induction l.filter fun c => !decide (c ∈ S.cps.toList) with
  | nil => exact .nil
  | cons a r ih => exact .cons (.str _) ih
theorem oth_snoc (S : Str) (l : List Nat) (c : Nat) : oth S (l ++ [c]) = if (!decide (c ∈ S.cps.toList)) = true then oth S l ++ [.str ⟨#[c]⟩] else oth S l := by
  unfold oth
  rw [List.filter_append, List.map_append]
  cases h : (!decide (c ∈ S.cps.toList)) with
  | true =>
    rw [if_pos rfl]
    simp only [List.filter_cons, h]
    rfl
  | false =>
    rw [if_neg (by decide)]
    simp only [List.filter_cons, h]
    simp
theorem oth_len (S : Str) (l : List Nat) : (oth S l).length ≤ l.length := by
  unfold oth
  rw [List.length_map]
  exact List.length_filter_le _ _
theorem oth_all (S : Str) (l : List Nat) : PyData.eqv (.list (othD S l)) (.list []) = l.all fun c => decide (c ∈ S.cps.toList) := by
  unfold othD
  induction l with
  | nil => rfl
  | cons a r ih =>
    cases h : decide (a ∈ S.cps.toList) with
    | true =>
      simp only [List.filter_cons, List.all_cons, h]
      exact ih
    | false =>
      simp only [List.filter_cons, List.all_cons, h]
      rfl
def Asc (z : Str) : Prop := ∀ c ∈ z.cps.toList, c < 128
theorem strOk_asc {z : Str} (h : Asc z) : PyData.strOk z = true := by
  unfold PyData.strOk
  rw [← Array.all_toList]
  refine List.all_eq_true.mpr ?_
  intro c hc
  have := h c hc
  exact decide_eq_true (by omega)
theorem canAll {l : List Str} (h : ∀ z ∈ l, Asc z) : PyData.canLayAll0 (l.map PyData.str) = true := by
  induction l with
  | nil => rfl
  | cons a r ih =>
    rw [List.map_cons, PyData.canLayAll0, ih fun z hz => h z (List.mem_cons_of_mem _ hz), PyData.canLay0, strOk_asc (h a List.mem_cons_self)]
    rfl
theorem depthAll_strs (l : List Str) : PyData.depthAll (l.map PyData.str) ≤ 1 := by
  induction l with
  | nil => decide
  | cons a r ih =>
    rw [List.map_cons, PyData.depthAll]
    have : PyData.depth (.str a) ≤ 1 := by simp [PyData.depth]
    omega
theorem shaped_strs {l : List Str} (h : ∀ z ∈ l, Asc z) : SeqAt.shaped (.list (l.map PyData.str)) = true := by
  unfold SeqAt.shaped
  rw [PyData.canLay0, canAll h]
  refine decide_eq_true ?_
  rw [PyData.depth]
  have := depthAll_strs l
  omega
theorem othD_eq (S : Str) (l : List Nat) : othD S l = ((l.filter fun c => !decide (c ∈ S.cps.toList)).map fun c => (⟨#[c]⟩ : Str)).map PyData.str := by
  unfold othD
  rw [List.map_map]
  rfl
theorem shaped_oth {S : Str} {l : List Nat} (h : ∀ c ∈ l, c < 128) : SeqAt.shaped (.list (othD S l)) = true := by
  rw [othD_eq]
  refine shaped_strs ?_
  intro z hz
  obtain ⟨c, hc, rfl⟩ := List.mem_map.mp hz
  intro d hd
  have e : d = c := by simpa using hd
  rw [e]
  exact h c (List.mem_filter.mp hc).1
theorem occ_fig : ∀ a, a < 10 → Builtin.Str.occurrences figures ⟨#[48 + a]⟩ 0 figures.length 1 = [a] := by decide +kernel
theorem dec_snoc (l : List Nat) (c : Nat) : dec (l ++ [c]) = dec l * 10 + ((c : Int) - 48) := by
  unfold dec
  rw [List.foldl_append]
  rfl
section
variable {P : Program} {w : World} {K : PySem.W.Frag} {mg : Str → Option Value} {base : Heap}
def spLNum : Sp := fun vs H Q _ => ∃ z : Str, vs = [.str z] ∧ Asc z ∧ z.length ≤ 1000 ∧ ∀ H', Gr H H' → Q (numV (.str z) 2) H'
theorem ok_lnum {f : Addr} {fd : FuncData} {k : Nat} (F : Fun K "_law_number" "_law_number" sLNum f fd) (ml : mg "len" = none) :
    FnOk P w K mg base CX0 (k + 1) f fd ["_law_word"] spLNum := by
  refine F.ok scLNum (fun vs H Q E h => ?_) (fun cdv A outer s H vs Q E hr h => ?_)
  · obtain ⟨z, rfl, _⟩ := h
    rfl
  · obtain ⟨z, rfl, hz, hzl, q⟩ := h
    have small : z.length < sizeLine := small1000 hzl
    refine ⟨_, pss_cons (ps_setLc (i := 2) (own := [("_law_sign", 1)]) (g := gName 1) rfl scLNum.nd rfl rfl (sw_true rfl rfl rfl (by decide +kernel)) (pi_str (pv 0))
        (blkOk_by (own := [("_law_sign", 1)]) (N := ["_law_word", "_law_sign", "_law_others", "_law_found"]) (sc := defScope sLNum) (by decide +kernel))
        (fun _ _ _ _ _ => pg_name (i := 1) scLNum.nd rfl (Or.inl rfl)) (fun _ _ _ _ _ => pts_one (pt_cmpR op_notIn_sign (pv 1) pe_str rfl)) (fun _ _ _ _ _ => pv 1))
      (pss_cons (ps_if (PW.pt (pw_or (pt_cmpR op_eq (pv 0) pe_str (nomark _)) (pw_or (pt_cmpR (op_neD hr.units) (pv 2) (pe_lst pa_nil) (nomark _))
          (pw_or (pt_cmpR op_gt (pe_callB call_len_str (by rfl) ml PySem.boot_len (pa_cons (pv 0) pa_nil)) pe_int (nomark _))
          (pw_or1 (PW.pt (pw_and (pt_cmpR op_eq (pe_callB call_len_str (by rfl) ml PySem.boot_len (pa_cons (pv 0) pa_nil)) pe_int (nomark _))
            (pw_and1 (pt_cmpR op_eq (pe_item_str (pv 0) pe_int (fun _ _ => rfl)) pe_str (nomark _))))))))))
        (pss_one (ps_ret pe_non)) pss_nil)
      (pss_cons (ps_set (i := 3) scLNum.nd rfl (.inl rfl) pe_int)
      (pss_cons (ps_for PassesOwn.never rfl (pi_str (pv 0)) (pg_name (i := 1) scLNum.nd rfl (Or.inl rfl))
        (pss_one (ps_set (i := 3) scLNum.nd rfl (.inl rfl) (pe_op op_add (pe_op op_mul (pv 3) pe_int) (pe_m1 PySem.F.slot_str_index PySem.F.type_str_index mt_sindex pe_str (pv 1))))))
      (pss_one (ps_ret (pv 3)))))), ?_⟩
    refine ⟨_, rfl, z, rfl, fun D nD => lc_it walk_str (fun i H1 => H1 = upd H D (.lst (oth figures (z.cps.toList.take i)))) rfl (fun _ _ _ _ => trivial) ?_ ?_⟩
    · rintro i x H1 H' hi rfl ⟨rfl, c, hc, rfl⟩
      have hc' : z.cps.toList[i]? = some c := by rw [Array.getElem?_toList]; exact hc
      refine ⟨rfl, _, rfl, c, figures, rfl, rfl, _, rfl, ?_⟩
      have e := oth_snoc figures (z.cps.toList.take i) c
      have et : z.cps.toList.take (i + 1) = z.cps.toList.take i ++ [c] := by rw [List.take_add_one, hc']; rfl
      cases h : (!decide (c ∈ figures.cps.toList)) with
      | true =>
        rw [h, if_pos rfl] at e
        refine iteT ⟨_, rfl, _, upd_same, ?_, ?_⟩
        · refine Nat.lt_of_le_of_lt (oth_len _ _) (Nat.lt_of_le_of_lt ?_ small)
          rw [len_list]
          exact List.length_take_le' _ _
        · rw [upd_upd, et, e]
      | false =>
        rw [h, if_neg (by decide)] at e
        refine iteF ?_
        show _ = _
        rw [et, e]
    · rintro H1 rfl
      have all1 : z.cps.toList.take z.cps.size = z.cps.toList := List.take_of_length_le (by simp)
      rw [all1]
      have g1 : Gr H (upd H D (.lst (oth figures z.cps.toList))) := Gr.new nD
      -- word == ''
      refine ⟨_, rfl, rfl, _, rfl, ite2 (fun e => ?_) (fun e => ?_)⟩
      · have e' : z = "" := V.str.inj (of_decide_eq_true e)
        have q1 := q _ g1
        rw [e'] at q1
        refine iteT ?_
        rw [e']
        exact q1
      · have zne : z ≠ "" := fun z' => e (decide_eq_true (congrArg V.str z'))
        -- others != []
        refine ⟨_, rfl, Nat.zero_le _, fun p2 n2 => ?_⟩
        have g2 : Gr H (upd (upd H D (.lst (oth figures z.cps.toList))) p2 (.lst [])) := g1.trans (Gr.new n2)
        have hne : D ≠ p2 := fun e2 => by
          rw [← e2, upd_same] at n2
          cases n2
        refine ⟨.list (othD figures z.cps.toList), .list [], .lst (.inl (.inl (by rw [upd_ne hne]; exact upd_same))) (oth_dp _ _), .lst (.inl (.inl upd_same)) .nil, shaped_oth hz, rfl, _, rfl, ?_⟩
        rw [oth_all]
        have pbe : (z.cps.toList.all fun c => decide (c ∈ figures.cps.toList)) = z.cps.toList.all isFig := rfl
        rw [pbe]
        have q2 := q _ g2
        have l1 : decide ((1 : Int) ≤ z.length) = true := by
          refine decide_eq_true ?_
          have : z.length ≠ 0 := by
            intro h0
            apply zne
            rw [str_eta z]
            rw [len_list] at h0
            rw [List.eq_nil_of_length_eq_zero h0]
            rfl
          omega
        have q3 : Q (if (decide ((1 : Int) ≤ z.length) && decide ((z.length : Int) ≤ 2)) && (z.cps.toList.all isFig && !zeroAhead z) then .int (dec z.cps.toList) else .non) (upd (upd H D (.lst (oth figures z.cps.toList))) p2 (.lst [])) := q2
        rw [l1] at q3
        cases h3 : z.cps.toList.all isFig with
        | false =>
          rw [h3] at q3
          have q5 : Q V.non (upd (upd H D (.lst (oth figures z.cps.toList))) p2 (.lst [])) := by simpa using q3
          exact iteT (iteT q5)
        | true =>
          rw [h3] at q3
          refine iteF ?_
          -- len(word) > 2
          refine ⟨_, rfl, z, rfl, by omega, _, 2, rfl, rfl, _, rfl, ?_⟩
          cases h4 : decide ((z.length : Int) > 2) with
          | true =>
            have h4' : (z.length : Int) > 2 := of_decide_eq_true h4
            have l2 : decide ((z.length : Int) ≤ 2) = false := decide_eq_false (by omega)
            rw [l2] at q3
            exact iteT (iteT q3)
          | false =>
            have h4' : ¬ (z.length : Int) > 2 := of_decide_eq_false h4
            have l2 : decide ((z.length : Int) ≤ 2) = true := decide_eq_true (by omega)
            rw [l2] at q3
            have q4 : Q (if (!zeroAhead z) = true then .int (dec z.cps.toList) else .non) (upd (upd H D (.lst (oth figures z.cps.toList))) p2 (.lst [])) := q3
            refine iteF ?_
            have g1' : (1 : Int) ≤ z.length := of_decide_eq_true l1
            obtain ⟨c0, r0, e0⟩ : ∃ c0 r0, z.cps.toList = c0 :: r0 := by
              cases hq : z.cps.toList with
              | nil =>
                rw [len_list, hq] at g1'
                exact absurd g1' (by simp)
              | cons a r => exact ⟨a, r, rfl⟩
            have ec : z.cps[(0 : Int).toNat]? = some c0 := by
              rw [← Array.getElem?_toList, e0]
              rfl
            have hd0 : z.cps.toList.headD 0 = c0 := by rw [e0]; rfl
            -- the walk over the word
            have go : Q (.int (dec z.cps.toList)) (upd (upd H D (.lst (oth figures z.cps.toList))) p2 (.lst [])) →
                tSeq (tAsg (tC (.int 0)) (gName 3)) (tSeq (tFor (iStr (tVar 0)) (gName 1) (tAsg (tOp (rI0 fun i j => .int (i + j)) (tOp (rI CMul fun i j => .int (i * j)) (tVar 3) (tC (.int 10)))
                  (tM1 (fun x xs H Q => ∃ a b i rest, x = .str a ∧ xs = [.str b] ∧ Builtin.Str.occurrences a b 0 a.length 1 = i :: rest ∧ Q (.int (i : Nat)) H) (tC (.str figures)) (tVar 1))) (gName 3))) (tRet (tVar 3)))
                { nx := fun _ H' => Q .non H', rt := Q } [some (.str z), none, some (.ref D), none] (upd (upd H D (.lst (oth figures z.cps.toList))) p2 (.lst [])) := by
              intro qq
              refine ⟨_, rfl, z, rfl, for_it walk_str (fun i σ H1 => ∃ y1, σ = [some (.str z), y1, some (.ref D), some (.int (dec (z.cps.toList.take i)))] ∧ H1 = upd (upd H D (.lst (oth figures z.cps.toList))) p2 (.lst [])) ⟨none, rfl, rfl⟩ (fun _ _ _ _ _ => trivial) ?_ ?_⟩
              · rintro i x σ H1 H' hi ⟨y1, rfl, rfl⟩ ⟨rfl, c, hc, rfl⟩
                have hc' : z.cps.toList[i]? = some c := by rw [Array.getElem?_toList]; exact hc
                have et : z.cps.toList.take (i + 1) = z.cps.toList.take i ++ [c] := by rw [List.take_add_one, hc']; rfl
                have hcf := fig_range (List.all_eq_true.mp h3 c (List.mem_of_getElem? hc'))
                have occ : Builtin.Str.occurrences figures ⟨#[c]⟩ 0 figures.length 1 = [c - 48] := by
                  have := occ_fig (c - 48) (by omega)
                  rwa [show 48 + (c - 48) = c by omega] at this
                refine ⟨_, rfl, _, 10, rfl, rfl, .inr ⟨by decide, by decide⟩, ⟨_, rfl⟩, _, rfl, figures, ⟨#[c]⟩, c - 48, [], rfl, rfl, occ, _, _, rfl, rfl, some (.str ⟨#[c]⟩), ?_, rfl⟩
                rw [et, dec_snoc]
                have : ((c - 48 : Nat) : Int) = (c : Int) - 48 := by omega
                rw [this]
                rfl
              · rintro σ H1 ⟨y1, rfl, rfl⟩
                rw [all1]
                exact ⟨_, rfl, qq⟩
            -- len(word) == 2 and word[0] == '0'
            refine ⟨_, rfl, z, rfl, by omega, rfl, _, rfl, ?_⟩
            have two : decide (V.int (z.length : Int) = V.int 2) = decide ((z.length : Int) = 2) := by
              by_cases h : (z.length : Int) = 2
              · rw [h]
                rfl
              · rw [decide_eq_false h, decide_eq_false (fun e => h (V.int.inj e))]
            unfold zeroAhead at q4
            rw [hd0] at q4
            rw [two]
            cases h5 : decide ((z.length : Int) = 2) with
            | false =>
              have l5 : ¬ (z.length : Int) = 2 := of_decide_eq_false h5
              have ez : V.str z = V.str ⟨#[c0]⟩ := by
                rw [str_eta z, e0]
                rw [len_list, e0] at l5 h4'
                cases r0 with
                | nil => rfl
                | cons a r =>
                  exfalso
                  simp at l5 h4'
                  omega
              rw [ez] at q4
              refine iteF (iteF (go ?_))
              cases h6 : decide (V.str ⟨#[c0]⟩ = V.str "0") with
              | true =>
                rw [h6] at q4
                exact q4
              | false =>
                rw [h6] at q4
                exact q4
            | true =>
              have l5 : (z.length : Int) = 2 := of_decide_eq_true h5
              refine iteT ⟨_, rfl, z, 0, c0, rfl, rfl, by decide, by decide, by omega, ec, rfl, _, rfl, ?_⟩
              have nz : decide (V.str z = V.str "0") = false := by
                refine decide_eq_false ?_
                intro e9
                have e10 : z = "0" := V.str.inj e9
                rw [e10] at l5
                exact absurd l5 (by decide)
              rw [nz] at q4
              cases h6 : decide (V.str ⟨#[c0]⟩ = V.str "0") with
              | true =>
                rw [h6] at q4
                exact iteT q4
              | false =>
                rw [h6] at q4
                exact iteF (go q4)
end
end SfK

namespace SfK
open PySem PySem.Spec PyProof.Rows L2 SfG
abbrev sRight : Stmt := topS 12
abbrev nRight : List Str := ["_law_word", "_law_others", "_law_due", "_law_parts", "_law_again", "_law_told", "_law_sign"]
theorem scRight : FnScope nRight ["_law_word"] (defScope sRight) := ⟨rfl, rfl, rfl, by decide +kernel, rfl, by decide +kernel, by decide +kernel⟩
theorem Gr.upd_new {H0 H : Hp} {p : Addr} {o : HO} (g : Gr H0 H) (h : H0 p = none) : Gr H0 (upd H p o) := by
  refine ⟨?_, ?_, ?_⟩
  · intro b u e n
    rw [upd_ne (ne_of_none e h)]
    exact g.keep b u e n
  · intro P t
    have np : P ≠ p := by
      obtain ⟨ps, h1, _⟩ := t
      exact ne_of_none h1 h
    obtain ⟨ps, h1, h2⟩ := g.tab P t
    exact ⟨ps, (upd_ne np).trans h1, h2⟩
  · intro l e
    by_cases z : l = p
    · rw [z]
      exact h
    · rw [upd_ne z] at e
      exact g.back l e
/-! ### signs of parts -/
theorem spl_mem (S : List Nat) : ∀ (l : List Nat) (k : Nat) (acc p : List Nat) (c : Nat), p ∈ TL.spl S k acc l → c ∈ p → c ∈ acc ∨ c ∈ l
  | [], k, acc, p, c, hp, hc => by
    rw [TL.spl_nil] at hp
    have e : p = acc := by simpa using hp
    rw [e] at hc
    exact .inl hc
  | a :: r, 0, acc, p, c, hp, hc => by
    cases h : TL.pre S (a :: r) with
    | true =>
      rw [TL.spl_hit h] at hp
      rcases List.mem_cons.mp hp with e | hp
      · rw [e] at hc
        exact .inl hc
      · rcases spl_mem S r _ [] p c hp hc with z | z
        · cases z
        · exact .inr (List.mem_cons_of_mem _ z)
    | false =>
      rw [TL.spl_miss h] at hp
      rcases spl_mem S r 0 _ p c hp hc with z | z
      · rcases List.mem_append.mp z with z | z
        · exact .inl z
        · have e : c = a := by simpa using z
          rw [e]
          exact .inr List.mem_cons_self
      · exact .inr (List.mem_cons_of_mem _ z)
  | a :: r, k + 1, acc, p, c, hp, hc => by
    rcases spl_mem S r k acc p c hp hc with z | z
    · exact .inl z
    · exact .inr (List.mem_cons_of_mem _ z)
theorem kind_blank (x : Str) : ¬ Builtin.Str.strKind x < Builtin.Str.strKind blank := by
  have e : Builtin.Str.strKind blank = 1 := by decide +kernel
  rw [e]
  unfold Builtin.Str.strKind
  split <;> (try split) <;> omega
theorem part_asc {z p : Str} (hz : Asc z) (hp : p ∈ Txt.split z blank) : Asc p := by
  intro c hc
  have e := TL.split_spl z blank (by decide) (kind_blank z)
  have hm : TL.tl p ∈ (Txt.split z blank).map TL.tl := List.mem_map.mpr ⟨p, hp, rfl⟩
  rw [e] at hm
  rcases spl_mem _ _ _ _ _ c hm hc with h | h
  · cases h
  · exact hz c h
/-! ### what repr tells of the four answers -/
def four (b : Bool) (d : PyData) : PyData := .list [.bool b, d, .bool false, .bool false]
structure Shows (d : PyData) : Prop where
  able : d.showable = true
  plain : d.hasDict = false
  deep : d.depth ≤ 30
  size : d.shown.length ≤ sizeLine
theorem len100 {n : Nat} (h : n ≤ 100) : n ≤ sizeLine := Nat.le_of_lt (small1000 (by omega))
theorem four_len : ∀ n : Nat, n < 100 → ∀ b, (four b (.int (n : Int))).shown.length ≤ 100 := by decide +kernel
theorem four_able : ∀ n : Nat, n < 100 → ∀ b, (four b (.int (n : Int))).showable = true := by decide +kernel
theorem four_lenN : ∀ b, (four b .none).shown.length ≤ 100 := by decide +kernel
theorem four_ableN : ∀ b, (four b .none).showable = true := by decide +kernel
theorem four_deep (b : Bool) (d : PyData) (h : d.depth ≤ 2) : (four b d).depth ≤ 30 := by
  simp only [four, PyData.depth, PyData.depthAll]
  omega
theorem shows_none (b : Bool) : Shows (four b .none) := ⟨four_ableN b, rfl, four_deep b _ (by decide), len100 (four_lenN b)⟩
theorem shows_int (b : Bool) {n : Nat} (h : n < 100) : Shows (four b (.int (n : Int))) := ⟨four_able n h b, rfl, four_deep b _ (by simp [PyData.depth]), len100 (four_len n h b)⟩
theorem dec_two {l : List Nat} (h : l.length ≤ 2) (hf : l.all isFig = true) : ∃ n : Nat, n < 100 ∧ dec l = (n : Int) := by
  match l, h, hf with
  | [], _, _ => exact ⟨0, by decide, rfl⟩
  | [a], _, hf =>
    have ha := fig_range (by simpa using hf)
    refine ⟨a - 48, by omega, ?_⟩
    simp [dec]
    omega
  | [a, b], _, hf =>
    have hab : isFig a = true ∧ isFig b = true := by simpa using hf
    have ha := fig_range hab.1
    have hb := fig_range hab.2
    refine ⟨(a - 48) * 10 + (b - 48), by omega, ?_⟩
    simp [dec]
    omega
  | _ :: _ :: _ :: _, h, _ => 
    exfalso
    simp at h
theorem num_data (K : PySem.W.Frag) (z : Str) (b : Bool) : ∃ d : PyData, (∀ H, Dp K H (numV (.str z) 2) d) ∧ Shows (four b d) := by
  cases h : ((decide ((1 : Int) ≤ z.length) && decide ((z.length : Int) ≤ 2)) && (z.cps.toList.all isFig && !zeroAhead z)) with
  | false =>
    have e : numV (.str z) 2 = .non := by
      unfold numV
      simp only [h]
      rfl
    rw [e]
    exact ⟨.none, fun _ => .non, shows_none b⟩
  | true =>
    have e : numV (.str z) 2 = .int (dec z.cps.toList) := by
      unfold numV
      simp only [h]
      rfl
    rw [e]
    have h' := h
    simp only [Bool.and_eq_true] at h'
    have l2 : (z.length : Int) ≤ 2 := of_decide_eq_true h'.1.2
    rw [len_list] at l2
    obtain ⟨n, hn, en⟩ := dec_two (by omega) h'.2.1
    rw [en]
    exact ⟨.int n, fun _ => .int _, shows_int b hn⟩
/-! ### the law's look at one word -/
abbrev rLenT : List V → Hp → VK → Prop := fun xs H Q => ∃ z, xs = [.str z] ∧ z.length ≤ sizeLine ∧ Q (.int z.length) H
theorem due_first {K : PySem.W.Frag} {H1 : Hp} {z : Str} {D : Addr} {σ : L2.St} (h0 : σ[0]? = some (some (.str z))) (h1 : σ[1]? = some (some (.ref D)))
    (hD : H1 D = some (.lst (oth letters z.cps.toList))) (hz : Asc z) (hl : z.length ≤ sizeLine) (Q0 : VK) (h : ∀ H2, Gr H1 H2 → Q0 (.bl (nameV (.str z))) H2) :
    tAndV (tChain (rI0 fun i j => .bl (decide (i < j))) (rI0 fun i j => .bl (decide (i < j))) (tC (.int 0)) (tCB rLenT (tCons (tVar 0) tNil)) (tC (.int 9)))
      (tOp (rEqD K) (tVar 1) (tLst tNil)) σ H1 Q0 := by
  refine ⟨_, h0, z, rfl, hl, 0, _, rfl, rfl, _, rfl, ?_⟩
  have h' : ∀ H2, Gr H1 H2 → Q0 (.bl (decide ((1 : Int) ≤ z.length) && (decide ((z.length : Int) ≤ 8) && z.cps.toList.all isLet))) H2 := h
  have e1 : decide ((1 : Int) ≤ z.length) = decide ((0 : Int) < z.length) := by
    by_cases c : (0 : Int) < z.length
    · rw [decide_eq_true c, decide_eq_true (by omega)]
    · rw [decide_eq_false c, decide_eq_false (by omega)]
  have e2 : decide ((z.length : Int) ≤ 8) = decide ((z.length : Int) < 9) := by
    by_cases c : (z.length : Int) < 9
    · rw [decide_eq_true c, decide_eq_true (by omega)]
    · rw [decide_eq_false c, decide_eq_false (by omega)]
  rw [e1, e2] at h'
  cases c1 : decide ((0 : Int) < z.length) with
  | false =>
    rw [c1] at h'
    exact iteF ⟨_, rfl, iteF (h' _ (Gr.refl _))⟩
  | true =>
    rw [c1] at h'
    refine iteT ⟨_, 9, rfl, rfl, _, rfl, ?_⟩
    cases c2 : decide ((z.length : Int) < 9) with
    | false =>
      rw [c2] at h'
      exact iteF (h' _ (Gr.refl _))
    | true =>
      rw [c2] at h'
      refine iteT ⟨_, h1, Nat.zero_le _, fun p2 n2 => ?_⟩
      have ne : D ≠ p2 := ne_of_none hD n2
      refine ⟨.list (othD letters z.cps.toList), .list [], .lst (.inl (.inl ((upd_ne ne).trans hD))) (oth_dp _ _), .lst (.inl (.inl upd_same)) .nil, shaped_oth hz, rfl, ?_⟩
      rw [oth_all]
      exact h' _ (Gr.new n2)
section
variable {P : Program} {w : World} {K : PySem.W.Frag} {mg : Str → Option Value} {base : Heap}
def spRight (P1 P2 : Addr) : Sp := fun vs H Q _ => ∃ z : Str, vs = [.str z] ∧ Asc z ∧ z.length ≤ 900 ∧ True ∧ True ∧ ∀ H', Gr H H' → Q (.bl true) H'
/-- a def that is called: where it stands, how it is bound, what it promises -/
structure Has (P : Program) (w : World) (K : PySem.W.Frag) (mg : Str → Option Value) (base : Heap) (k : Nat) (x : Str) (ps : List Str) (sp : Sp) (f : Addr) (fd : FuncData) : Prop where
  ok : FnOk P w K mg base CX0 k f fd ps sp
  at_ : mg x = some (.ref f)
  kp : PySem.W.keepIn K (.ref f) = true
  bd : Binds K fd ps []
theorem ok_right {f fN fa fb fc fe fg P1 P2 : Addr} {fd fdN fda fdb fdc fde fdg : FuncData} (F : Fun K "_law_word_right" "_law_word_right" sRight f fd)
    (N : Has P w K mg base 2 "_law_number" ["_law_word"] spLNum fN fdN) (HN : Has P w K mg base 2 "is_name" ["thing"] (spName K P1) fa fda)
    (HF : Has P w K mg base 2 "number_of" ["word"] (spNum K P2) fb fdb) (HW : Has P w K mg base 2 "is_whole" ["thing"] (spWhole K) fc fdc)
    (HA : Has P w K mg base 2 "is_among" ["thing", "least", "most"] (spAmong K) fe fde) (HS : Has P w K mg base 2 "words_of" ["row"] (spWords K) fg fdg)
    (ml : mg "len" = none) (mp : mg "repr" = none) (mr : mg "range" = none) (mi : mg "isinstance" = none) (ms : mg "list" = none) :
    FnG P w K mg base CX0 3 f fd ["_law_word"] (spRight P1 P2) := by
  refine fng_of F scRight (fun vs H Q E h => ?_) (fun cdv A outer s H vs Q E hr hgd h => ?_)
  · obtain ⟨z, rfl, _⟩ := h
    rfl
  · obtain ⟨z, rfl, hz, hzl, ht1, ht2, q⟩ := h
    have small : z.length < sizeLine := small1000 (by omega)
    have sized : Sized (.str z) := fun z' e => by
      cases e
      exact Nat.le_of_lt (small1000 (by omega))
    refine ⟨_, pss_cons (ps_setLc (i := 1) (own := [("_law_sign", 6)]) (g := gName 6) rfl scRight.nd rfl rfl (sw_true rfl rfl rfl (by decide +kernel)) (pi_str (pv 0))
        (blkOk_by (own := [("_law_sign", 6)]) (N := nRight) (sc := defScope sRight) (by decide +kernel))
        (fun _ _ _ _ _ => pg_name (i := 6) scRight.nd rfl (Or.inl rfl)) (fun _ _ _ _ _ => pts_one (pt_cmpR op_notIn_sign (pv 6) pe_str rfl)) (fun _ _ _ _ _ => pv 6))
      (pss_cons (ps_set (i := 2) scRight.nd rfl (.inl rfl) (pe_lst (pa_cons (pe_and (pe_chain op_lt op_lt pe_int (pe_callB call_len_str (by rfl) ml PySem.boot_len (pa_cons (pv 0) pa_nil)) pe_int)
          (pe_one (pe_cmpR (op_eqD hr.units) (pv 1) (pe_lst pa_nil) (nomark _))))
        (pa_cons (pe_call N.ok hr (by rfl) N.at_ N.kp N.bd .nil pass0 (pa_cons (pv 0) pa_nil)) (pa_cons pe_bl (pa_cons pe_bl pa_nil))))))
      (pss_cons (ps_if (pt_cmpR op_ne (pe_callB (call_repr hr hgd) (by rfl) mp (by decide +kernel) (pa_cons (pe_lst (pa_cons (pe_call HN.ok hr (by rfl) HN.at_ HN.kp HN.bd .nil pass0 (pa_cons (pv 0) pa_nil))
            (pa_cons (pe_call HF.ok hr (by rfl) HF.at_ HF.kp HF.bd .nil pass0 (pa_cons (pv 0) pa_nil)) (pa_cons (pe_call HW.ok hr (by rfl) HW.at_ HW.kp HW.bd .nil pass0 (pa_cons (pv 0) pa_nil))
            (pa_cons (pe_call HA.ok hr (by rfl) HA.at_ HA.kp HA.bd .nil pass0 (pa_cons (pv 0) (pa_cons pe_int (pa_cons pe_int pa_nil)))) pa_nil))))) pa_nil))
          (pe_callB (call_repr hr hgd) (by rfl) mp (by decide +kernel) (pa_cons (pv 2) pa_nil)) (nomark _)) (pss_one (ps_ret pe_bl)) pss_nil)
      (pss_cons (ps_set (i := 3) scRight.nd rfl (.inl rfl) (pe_split (pv 0) pe_str))
      (pss_cons (ps_for PassesOwn.never rfl (pi_range1 rfl mr (pa_cons pe_int pa_nil)) (pg_name (i := 4) scRight.nd rfl (Or.inl rfl))
        (pss_cons (ps_set (i := 5) scRight.nd rfl (.inl rfl) (pe_call HS.ok hr (by rfl) HS.at_ HS.kp HS.bd .nil pass0 (pa_cons (pv 0) pa_nil)))
        (pss_cons (ps_if (PW.pt (pw_or (pt_cmpR (op_neD hr.units) (pv 5) (pe_ifExp (pt_cmpR op_in_seq pe_str (pv 3) rfl) pe_non (pv 3)) (nomark _))
            (pw_or1 (PW.pt (pw_and (pt_cmpR op_notN (pv 5) pe_non (nomark _)) (pw_and1 (pt_not (pt_val (pe_isi "list" 5 mi ms (by decide +kernel))))))))))
          (pss_one (ps_ret pe_bl)) pss_nil)
        (pss_one (ps_if (pt_cmpR op_notN (pv 5) pe_non (nomark _))
          (pss_one (ps_expr (pe_bm PySem.F.plainAttrs_list PySem.F.slot_list_append PySem.F.type_list_append mt_append (pv 5) (pa_cons pe_str pa_nil)))) pss_nil)))))
      (pss_one (ps_ret pe_bl)))))), ?_⟩
    -- others
    refine ⟨_, rfl, z, rfl, fun D nD => lc_it walk_str (fun i H1 => H1 = upd H D (.lst (oth letters (z.cps.toList.take i)))) rfl (fun _ _ _ _ => trivial) ?_ ?_⟩
    · rintro i x H1 H' hi rfl ⟨rfl, c, hc, rfl⟩
      have hc' : z.cps.toList[i]? = some c := by rw [Array.getElem?_toList]; exact hc
      refine ⟨rfl, _, rfl, c, letters, rfl, rfl, _, rfl, ?_⟩
      have e := oth_snoc letters (z.cps.toList.take i) c
      have et : z.cps.toList.take (i + 1) = z.cps.toList.take i ++ [c] := by rw [List.take_add_one, hc']; rfl
      cases h : (!decide (c ∈ letters.cps.toList)) with
      | true =>
        rw [h, if_pos rfl] at e
        refine iteT ⟨_, rfl, _, upd_same, ?_, ?_⟩
        · refine Nat.lt_of_le_of_lt (oth_len _ _) (Nat.lt_of_le_of_lt ?_ small)
          rw [len_list]
          exact List.length_take_le' _ _
        · rw [upd_upd, et, e]
      | false =>
        rw [h, if_neg (by decide)] at e
        refine iteF ?_
        show _ = _
        rw [et, e]
    · rintro H1 rfl
      have all1 : z.cps.toList.take z.cps.size = z.cps.toList := List.take_of_length_le (by simp)
      rw [all1]
      have g1 : Gr H (upd H D (.lst (oth letters z.cps.toList))) := Gr.new nD
      generalize hH1 : upd H D (.lst (oth letters z.cps.toList)) = H1 at g1 ⊢
      have hD1 : H1 D = some (.lst (oth letters z.cps.toList)) := by rw [← hH1]; exact upd_same
      -- due
      refine due_first (z := z) (D := D) rfl rfl hD1 hz (Nat.le_of_lt small) _ (fun H2 g2 => ?_)
      refine ⟨_, rfl, z, rfl, hz, by omega, fun H3 g3 => ?_⟩
      refine ⟨by show 4 ≤ sizeLine; decide, fun pd nd => ?_⟩
      obtain ⟨dn, hdn, shn⟩ := num_data K z (nameV (.str z))
      have g4 : Gr H (upd H3 pd (.lst [.bl (nameV (.str z)), numV (.str z) 2, .bl false, .bl false])) := (g1.trans (g2.trans g3)).trans (Gr.new nd)
      generalize hH4 : upd H3 pd (.lst [.bl (nameV (.str z)), numV (.str z) 2, .bl false, .bl false]) = H4 at g4 ⊢
      have hd4 : H4 pd = some (.lst [.bl (nameV (.str z)), numV (.str z) 2, .bl false, .bl false]) := by rw [← hH4]; exact upd_same
      -- the four answers
      refine ⟨_, rfl, _, "str", rfl, is_str z, sized, trivial, fun H5 g5 => ?_⟩
      refine ⟨_, rfl, _, "str", rfl, is_str z, sized, trivial, fun H6 g6 => ?_⟩
      refine ⟨_, rfl, _, "str", rfl, is_str z, _, rfl, _, "str", 0, 9, rfl, is_str z, ?_⟩
      refine ⟨by show 4 ≤ sizeLine; decide, fun pa na => ?_⟩
      have g46 : Gr H4 H6 := g5.trans g6
      have hpd6 : H6 pd = some (.lst [.bl (nameV (.str z)), numV (.str z) 2, .bl false, .bl false]) := g46.lst hd4
      have dpa : ∀ H' : Hp, DpAll K H' [.bl (nameV (.str z)), numV (.str z) 2, .bl false, .bl false] [.bool (nameV (.str z)), dn, .bool false, .bool false] :=
        fun H' => .cons (.bl _) (.cons (hdn H') (.cons (.bl _) (.cons (.bl _) .nil)))
      obtain ⟨S, hS⟩ : ∃ S, (four (nameV (.str z)) dn).shown = S := ⟨_, rfl⟩
      have szS : S.length ≤ sizeLine := by rw [← hS]; exact shn.size
      refine ⟨pa, four (nameV (.str z)) dn, S, rfl, .lst (.inl (.inl upd_same)) (dpa _), shn.able, shn.plain, shn.deep, hS, szS, ?_⟩
      have npa : pd ≠ pa := ne_of_none hpd6 na
      refine ⟨_, rfl, pd, four (nameV (.str z)) dn, S, rfl, .lst (.inl (.inl ((upd_ne npa).trans hpd6))) (dpa _), shn.able, shn.plain, shn.deep, hS, szS, rfl, _, rfl, iteNS rfl ?_⟩
      have g7 : Gr H (upd H6 pa (.lst [.bl (nameV (.str z)), numV (.str z) 2, .bl ("str" == "int"), .bl (amongV (.str z) 0 9)])) := (g4.trans g46).trans (Gr.new na)
      generalize upd H6 pa (.lst [.bl (nameV (.str z)), numV (.str z) 2, .bl ("str" == "int"), .bl (amongV (.str z) 0 9)]) = H7 at g7 ⊢
      -- parts
      refine ⟨_, rfl, ⟨z, rfl⟩, z, blank, rfl, rfl, by decide +kernel, sized z rfl, fun pp np => ?_⟩
      have g8 : Gr H (upd H7 pp (.lst (wordsOf z))) := g7.trans (Gr.new np)
      generalize hH8 : upd H7 pp (.lst ((Txt.split z blank).map V.str)) = H8
      have hH8' : upd H7 pp (.lst (wordsOf z)) = H8 := hH8
      rw [hH8'] at g8
      have hp8 : H8 pp = some (.lst (wordsOf z)) := by rw [← hH8']; exact upd_same
      -- the two turns
      refine ⟨2, rfl, by decide, by decide, for_range (n := 2) (fun i σ H9 => ∃ y4 y5 : Option V, σ = [some (.str z), some (.ref D), some (.ref pd), some (.ref pp), y4, y5, none] ∧ Gr H8 H9) ⟨none, none, rfl, Gr.refl _⟩ ?_ ?_⟩
      · rintro i σ H9 hi ⟨y4, y5, rfl, g9⟩
        have hp9 : H9 pp = some (.lst (wordsOf z)) := g9.lst hp8
        have shp : SeqAt.shaped (.list ((Txt.split z blank).map PyData.str)) = true := shaped_strs fun p hp => part_asc hz hp
        have dpw : ∀ H' : Hp, DpAll K H' (wordsOf z) ((Txt.split z blank).map PyData.str) := by
          intro H'
          unfold wordsOf
          induction Txt.split z blank with
          | nil => exact .nil
          | cons a r ih => exact .cons (.str _) ih
        refine ⟨_, rfl, _, "str", rfl, is_str z, sized, fun no => absurd rfl (no z), ?_, ?_⟩
        · -- None is told
          intro z' H10 e hin g10
          cases e
          have hp10 : H10 pp = some (.lst (wordsOf z)) := g10.lst hp9
          refine ⟨_, rfl, _, rfl, pp, wordsOf z, rfl, .inl (.inl (.inl hp10)), rfl, flat_words z, _, rfl, ?_⟩
          rw [hin]
          refine iteT ⟨.none, .none, .non, .non, rfl, rfl, _, rfl, iteF ?_⟩
          refine ⟨_, rfl, rfl, _, rfl, iteF (iteF ?_)⟩
          refine ⟨_, rfl, rfl, _, rfl, iteF ?_⟩
          exact ⟨_, _, rfl, g9.trans g10⟩
        · -- a list is told
          intro z' H10 p e hin np9 g10 hp10
          cases e
          have hpp : H10 pp = some (.lst (wordsOf z)) := g10.lst hp9
          refine ⟨_, rfl, _, rfl, pp, wordsOf z, rfl, .inl (.inl (.inl hpp)), rfl, flat_words z, _, rfl, ?_⟩
          rw [hin]
          refine iteF ⟨_, rfl, .list ((Txt.split z blank).map PyData.str), .list ((Txt.split z blank).map PyData.str), .lst (.inl (.inl hp10)) (dpw _), .lst (.inl (.inl hpp)) (dpw _), shp, shp, _, rfl, ?_⟩
          rw [SeqAt.eqv_refl _ (SeqAt.canLay_of_shaped shp)]
          refine iteF ⟨_, rfl, rfl, _, rfl, iteT ?_⟩
          refine ⟨_, rfl, "list", true, .base (.lst hp10), by decide +kernel, _, rfl, iteF ?_⟩
          refine ⟨_, rfl, rfl, _, rfl, iteT ?_⟩
          refine ⟨_, rfl, .inl ⟨rfl, _, .inl (.inl hp10)⟩, p, _, _, rfl, rfl, hp10, ?_, ?_⟩
          · unfold wordsOf
            rw [List.length_map]
            have := PyProof.Rows.split_le z blank
            exact Nat.lt_of_le_of_lt this (small1000 (by omega))
          · exact ⟨_, _, rfl, Gr.upd_new (g9.trans g10) (g9.back p np9)⟩
      · rintro σ H9 ⟨y4, y5, rfl, g9⟩
        exact q H9 (g8.trans g9)
end
end SfK

namespace SfK
open PySem PySem.Spec PyProof.Rows L2 SfG
/-! ### texts -/
theorem len_app (a b : Str) : (a ++ b).length = a.length + b.length := by
  rw [len_list, len_list, len_list, show (a ++ b).cps = a.cps ++ b.cps from rfl]
  simp
theorem asc_app {a b : Str} (ha : Asc a) (hb : Asc b) : Asc (a ++ b) := by
  intro c hc
  rw [show (a ++ b).cps = a.cps ++ b.cps from rfl] at hc
  have : c ∈ a.cps.toList ++ b.cps.toList := by simpa using hc
  rcases List.mem_append.mp this with h | h
  · exact ha c h
  · exact hb c h
theorem asc_one {z : Str} {i c : Nat} (hz : Asc z) (h : z.cps[i]? = some c) : Asc ⟨#[c]⟩ := by
  intro d hd
  have e : d = c := by simpa using hd
  rw [e]
  refine hz c ?_
  refine List.mem_of_getElem? (i := i) ?_
  rw [Array.getElem?_toList]
  exact h
theorem upper_low : ∀ c, c < 128 → ∀ d ∈ Unicode.upperOf c, d < 128 := by decide +kernel
theorem asc_upper {z : Str} (hz : Asc z) : Asc (Txt.upper z) := by
  intro d hd
  have hd' : d ∈ placed z fun _ c => Unicode.upperOf c := by simpa [Txt.upper] using hd
  unfold placed at hd'
  obtain ⟨xs, hxs, hdx⟩ := Array.mem_flatten.mp hd'
  obtain ⟨i, hi, e⟩ := Array.mem_mapIdx.mp hxs
  rw [← e] at hdx
  refine upper_low _ (hz _ ?_) d (by simpa using hdx)
  simp
theorem asc_cut {z : Str} (hz : Asc z) (lo hi : Option Int) : Asc (cutS z lo hi) := by
  intro c hc
  unfold cutS at hc
  have hc' : c ∈ (z.cps.toList.drop (HT.sIx z.length 0 lo)).take (HT.sIx z.length z.length hi - HT.sIx z.length 0 lo) := by simpa using hc
  exact hz c (List.mem_of_mem_drop (List.mem_of_mem_take hc'))
theorem joinL_mem {ls : List (List Nat)} {c : Nat} (h : c ∈ TL.joinL [] ls) : ∃ l ∈ ls, c ∈ l := by
  induction ls with
  | nil => cases h
  | cons p r ih =>
    cases r with
    | nil => exact ⟨p, List.mem_cons_self, h⟩
    | cons q r =>
      have h' : c ∈ p ++ ([] ++ TL.joinL [] (q :: r)) := h
      rcases List.mem_append.mp h' with h1 | h1
      · exact ⟨p, List.mem_cons_self, h1⟩
      · obtain ⟨l, hl, hc⟩ := ih (by simpa using h1)
        exact ⟨l, List.mem_cons_of_mem _ hl, hc⟩
theorem joinL_len {ls : List (List Nat)} (h : ∀ l ∈ ls, l.length = 1) : (TL.joinL [] ls).length = ls.length := by
  induction ls with
  | nil => rfl
  | cons p r ih =>
    have hp := h p List.mem_cons_self
    have hr := ih fun l hl => h l (List.mem_cons_of_mem _ hl)
    cases r with
    | nil => exact hp
    | cons q r =>
      show (p ++ ([] ++ TL.joinL [] (q :: r))).length = _
      rw [List.length_append, List.nil_append, hr, hp]
      simp
      omega
theorem asc_join {acc : List Str} (h : ∀ y ∈ acc, Asc y) : Asc (Txt.join nought acc) := by
  intro c hc
  have hc' : c ∈ TL.tl (Str.join nought acc) := by
    rw [← TL.join_eq]
    exact hc
  rw [TL.tl_join] at hc'
  obtain ⟨l, hl, hcl⟩ := joinL_mem hc'
  obtain ⟨y, hy, rfl⟩ := List.mem_map.mp hl
  exact h y hy c hcl
theorem len_join {acc : List Str} (h : ∀ y ∈ acc, y.length = 1) : (Txt.join nought acc).length = acc.length := by
  have e : (TL.tl (Txt.join nought acc)).length = acc.length := by
    rw [TL.join_eq, TL.tl_join]
    rw [show TL.tl nought = [] from rfl, joinL_len, List.length_map]
    intro l hl
    obtain ⟨y, hy, rfl⟩ := List.mem_map.mp hl
    have := h y hy
    rw [len_list] at this
    exact this
  rw [len_list]
  exact e
theorem str_num : ∀ n : Nat, n < 131 → (∀ c ∈ ((toString (n : Int) : String) : Str).cps.toList, c < 128) ∧ ((toString (n : Int) : String) : Str).length ≤ 5 := by decide +kernel
/-! ### a text many times -/
def repS (z : Str) (n : Nat) : Str := ⟨(List.replicate n z.cps).foldl (· ++ ·) #[]⟩
theorem foldl_len : ∀ (n : Nat) (x acc : Array Nat), ((List.replicate n x).foldl (· ++ ·) acc).size = acc.size + n * x.size
  | 0, x, acc => by simp
  | n + 1, x, acc => by
    rw [List.replicate_succ, List.foldl_cons, foldl_len n x, Array.size_append, Nat.succ_mul]
    omega
theorem rep_len (z : Str) (n : Nat) : (repS z n).length = n * z.length := by
  show ((List.replicate n z.cps).foldl (· ++ ·) #[]).size = n * z.cps.size
  rw [foldl_len]
  simp
theorem op_mulS {X : Cx} : OpR X (binaryOp .Mult) (fun x y H Q => ∃ (z : Str) (n : Nat), x = .str z ∧ y = .int (n : Int) ∧ 2 ≤ n ∧ z.length * n ≤ 1000000 ∧ z.length ≠ 0 ∧ Q (.str (repS z n)) H) := by
  intro pins s σ H x y v u Q I rx ry h
  obtain ⟨z, n, rfl, rfl, hn, hl, h0, q⟩ := h
  obtain ⟨t, rfl⟩ := rx
  obtain ⟨t', rfl⟩ := ry
  have e63 : (2 : Int) ^ 63 = 9223372036854775808 := by decide
  have hnn : n ≤ 1000000 := by
    refine Nat.le_trans ?_ hl
    exact Nat.le_mul_of_pos_left n (Nat.pos_of_ne_zero h0)
  refine PySem.P.mul_str ?_ ?_ ?_ ?_
  · rw [e63]
    simp
    omega
  · intro _ _ h
    have e : (z.length : Int) ≤ (2 ^ 63 - 1) / (n : Int) := by
      refine Int.le_ediv_of_mul_le (by omega) ?_
      have hl' : ((z.length * n : Nat) : Int) ≤ 1000000 := by omega
      rw [Int.natCast_mul] at hl'
      rw [e63]
      omega
    omega
  · intro _ _
    rw [Int.toNat_natCast]
    unfold Builtin.Str.tooLong
    refine decide_eq_false ?_
    rw [sizeLine_eq]
    omega
  · have c1 : ¬ (n : Int) < 1 := by omega
    have c2 : ¬ (((n : Int) == 1 || z.length == 0) = true) := by
      simp
      omega
    rw [if_neg c1, if_neg c2]
    refine ⟨?_, .str (repS z n), H, I.tok _, ⟨_, rfl⟩, q⟩
    have hs := rep_len z n
    have hz : (repS z n).length ≤ sizeLine := by
      rw [hs, sizeLine_eq, Nat.mul_comm]
      omega
    exact hz
/-! ### heaps in a turn: the draw's state at p is changed, all else grows -/
structure Gp (p : Addr) (H H' : Hp) : Prop where
  keep : ∀ b o, b ≠ p → H b = some o → (∀ ps, o ≠ .tbl ps) → H' b = some o
  tab : ∀ P, P ≠ p → GxR.TabG H P → GxR.TabG H' P
  back : ∀ l, l ≠ p → H' l = none → H l = none
theorem Gp.refl (p : Addr) (H : Hp) : Gp p H H := ⟨fun _ _ _ h _ => h, fun _ _ h => h, fun _ _ h => h⟩
theorem Gp.gr {p : Addr} {H H' : Hp} (g : Gr H H') : Gp p H H' := ⟨fun b o _ => g.keep b o, fun P _ => g.tab P, fun l _ => g.back l⟩
theorem Gp.but {p : Addr} {H H' : Hp} (g : But p H H') : Gp p H H' := by
  refine ⟨fun b o n h _ => (g b n).trans h, ?_, fun l n h => (g l n).symm.trans h⟩
  rintro P n ⟨ps, h1, h2⟩
  exact ⟨ps, (g P n).trans h1, h2⟩
theorem Gp.trans {p : Addr} {H H1 H2 : Hp} (a : Gp p H H1) (b : Gp p H1 H2) : Gp p H H2 :=
  ⟨fun c o n h t => b.keep c o n (a.keep c o n h t) t, fun P n h => b.tab P n (a.tab P n h), fun l n h => a.back l n (b.back l n h)⟩
/-- what was there ahead of p grows -/
theorem Gp.out {p : Addr} {H0 H H' : Hp} (g : Gr H0 H) (h : H0 p = none) (a : Gp p H H') : Gr H0 H' := by
  refine ⟨?_, ?_, ?_⟩
  · intro b o e t
    exact a.keep b o (ne_of_none e h) (g.keep b o e t) t
  · intro P t
    have n : P ≠ p := by
      obtain ⟨ps, h1, _⟩ := t
      exact ne_of_none h1 h
    exact a.tab P n (g.tab P t)
  · intro l e
    by_cases z : l = p
    · rw [z]
      exact h
    · exact g.back l (a.back l z e)
theorem Gp.lst {p : Addr} {H H' : Hp} (g : Gp p H H') {b : Addr} {xs : List V} (n : b ≠ p) (h : H b = some (.lst xs)) : H' b = some (.lst xs) := g.keep b _ n h (fun _ z => by cases z)
theorem Drw.gr {H H' : Hp} {p : Addr} {B : Int} (d : Drw H p B) (g : Gr H H') : Drw H' p B := by
  obtain ⟨l, s, t, h, r⟩ := d
  exact ⟨l, s, t, g.dic h, r⟩
theorem Drw.ne {H : Hp} {p q : Addr} {B : Int} (d : Drw H p B) (h : H q = none) : q ≠ p := by
  obtain ⟨l, s, t, e, _⟩ := d
  intro z
  rw [z, e] at h
  cases h
theorem Drw.new {H : Hp} {p q : Addr} {B : Int} {o : HO} (d : Drw H p B) (h : H q = none) : Drw (upd H q o) p B := d.gr (Gr.new h)
/-! ### things of other kinds -/
def Odd (H : Hp) (x : V) : Prop := x = .non ∨ (∃ b, x = .bl b) ∨ (∃ p xs, x = .ref p ∧ H p = some (.lst xs)) ∨ (∃ p xs, x = .ref p ∧ H p = some (.tup xs)) ∨ ∃ p kvs, x = .ref p ∧ H p = some (.dK kvs)
theorem Odd.gr {H H' : Hp} {x : V} (h : Odd H x) (g : Gr H H') : Odd H' x := by
  rcases h with h | h | ⟨p, xs, e, h⟩ | ⟨p, xs, e, h⟩ | ⟨p, xs, e, h⟩
  · exact .inl h
  · exact .inr (.inl h)
  · exact .inr (.inr (.inl ⟨p, xs, e, g.lst h⟩))
  · exact .inr (.inr (.inr (.inl ⟨p, xs, e, g.tup h⟩)))
  · exact .inr (.inr (.inr (.inr ⟨p, xs, e, g.dic h⟩)))
theorem Odd.is {K : PySem.W.Frag} {H : Hp} {x : V} (h : Odd H x) : ∃ T, Is K H x T ∧ T ≠ "int" ∧ T ≠ "str" := by
  rcases h with h | ⟨b, h⟩ | ⟨p, xs, e, h⟩ | ⟨p, xs, e, h⟩ | ⟨p, xs, e, h⟩
  · rw [h]
    exact ⟨_, is_non, by decide, by decide⟩
  · rw [h]
    exact ⟨_, is_bl b, by decide, by decide⟩
  · rw [e]
    exact ⟨"list", ⟨.base (.lst h), by decide⟩, by decide, by decide⟩
  · rw [e]
    exact ⟨"tuple", ⟨.base (.tup h), by decide⟩, by decide, by decide⟩
  · rw [e]
    exact ⟨"dict", ⟨.base (.dK h), by decide⟩, by decide, by decide⟩
/-! ### the long row -/
abbrev ab : Str := "ab"
def abs6 : List Str := List.replicate 6000 ab
def rowT : Str := Txt.join blank abs6
theorem joinL_long {l : List (List Nat)} (h : ∀ x ∈ l, x.length ≤ 2) : (TL.joinL [32] l).length ≤ 3 * l.length := by
  induction l with
  | nil => exact Nat.zero_le _
  | cons p r ih =>
    have hp := h p List.mem_cons_self
    have hr := ih fun x hx => h x (List.mem_cons_of_mem _ hx)
    cases r with
    | nil =>
      show p.length ≤ 3 * 1
      omega
    | cons q r =>
      show (p ++ ([32] ++ TL.joinL [32] (q :: r))).length ≤ _
      rw [List.length_append, List.length_append]
      simp only [List.length_cons, List.length_nil] at hr ⊢
      omega
theorem row_len : rowT.length ≤ 18000 := by
  rw [len_list]
  have e : rowT.cps.toList = TL.joinL [32] (abs6.map TL.tl) := by
    show TL.tl rowT = _
    unfold rowT
    rw [TL.join_eq, TL.tl_join]
    rfl
  rw [e]
  refine Nat.le_trans (joinL_long ?_) ?_
  · intro x hx
    obtain ⟨y, hy, rfl⟩ := List.mem_map.mp hx
    have : y = ab := (List.mem_replicate.mp hy).2
    rw [this]
    decide
  · rw [List.length_map]
    unfold abs6
    rw [List.length_replicate]
    decide
theorem row_split : Txt.split rowT blank = abs6 := by
  refine TL.split_join (s := 32) (S := []) rfl (by decide +kernel) ?_ ?_
  · unfold abs6
    intro h
    have := congrArg List.length h
    rw [List.length_replicate] at this
    cases this
  · intro p hp
    have : p = ab := (List.mem_replicate.mp hp).2
    rw [this]
    decide
theorem joinL_end (x : List Nat) : ∀ (l : List (List Nat)), l ≠ [] → TL.joinL [32] (l ++ [[]]) = TL.joinL [32] l ++ [32]
  | [], h => absurd rfl h
  | [p], _ => by
    show p ++ ([32] ++ []) = p ++ [32]
    rfl
  | p :: q :: r, _ => by
    show p ++ ([32] ++ TL.joinL [32] ((q :: r) ++ [[]])) = (p ++ ([32] ++ TL.joinL [32] (q :: r))) ++ [32]
    rw [joinL_end x (q :: r) (by simp)]
    simp
theorem str_ext {a b : Str} (h : a.cps.toList = b.cps.toList) : a = b := by
  rw [str_eta a, str_eta b, h]
theorem abs6_ne : abs6 ≠ [] := by
  unfold abs6
  intro h
  have := congrArg List.length h
  rw [List.length_replicate] at this
  cases this
theorem row_blank : rowT ++ blank = Txt.join blank (abs6 ++ [nought]) := by
  refine str_ext ?_
  show TL.tl (rowT ++ blank) = TL.tl (Txt.join blank (abs6 ++ [nought]))
  rw [TL.tl_append, TL.join_eq, TL.tl_join]
  unfold rowT
  rw [TL.join_eq, TL.tl_join, List.map_append]
  show TL.joinL [32] (abs6.map TL.tl) ++ [32] = TL.joinL [32] (abs6.map TL.tl ++ [[]])
  rw [joinL_end []]
  intro h
  exact abs6_ne (List.map_eq_nil_iff.mp h)
theorem rowb_split : Txt.split (rowT ++ blank) blank = abs6 ++ [nought] := by
  rw [row_blank]
  refine TL.split_join (s := 32) (S := []) rfl (by decide +kernel) (by simp) ?_
  intro p hp
  rcases List.mem_append.mp hp with h | h
  · have : p = ab := (List.mem_replicate.mp h).2
    rw [this]
    decide
  · have : p = nought := by simpa using h
    rw [this]
    decide
theorem row_in : inV (.str nought) (wordsOf rowT) = false := by
  unfold wordsOf
  rw [row_split]
  unfold inV
  refine List.any_eq_false.mpr ?_
  intro x hx
  obtain ⟨y, hy, rfl⟩ := List.mem_map.mp hx
  have : y = ab := (List.mem_replicate.mp hy).2
  rw [this]
  decide +kernel
theorem rowb_in : inV (.str nought) (wordsOf (rowT ++ blank)) = true := by
  unfold wordsOf
  rw [rowb_split]
  unfold inV
  refine List.any_eq_true.mpr ⟨.str nought, ?_, by decide +kernel⟩
  exact List.mem_map.mpr ⟨nought, by simp, rfl⟩
theorem abs6_asc : ∀ z ∈ abs6, Asc z := by
  intro z hz
  have : z = ab := (List.mem_replicate.mp hz).2
  rw [this]
  unfold Asc
  decide
/-! ### many of one sign -/
theorem name_long {z : Str} (h : 9 ≤ z.length) : nameV (.str z) = false := by
  unfold nameV
  have : decide ((z.length : Int) ≤ 8) = false := decide_eq_false (by omega)
  simp only [this]
  simp
theorem num_long {z : Str} (h : 9 ≤ z.length) : numV (.str z) 2 = .non := by
  unfold numV
  have : decide ((z.length : Int) ≤ 2) = false := decide_eq_false (by omega)
  simp only [this]
  simp
theorem Drw.mono {H : Hp} {p : Addr} {B B' : Int} (d : Drw H p B) (h : B ≤ B') : Drw H p B' := by
  obtain ⟨l, s, t, e, h1, h2, h3⟩ := d
  exact ⟨l, s, t, e, h1, h2, Int.le_trans h3 h⟩
theorem Drw.upd {H : Hp} {p q : Addr} {B : Int} {o : HO} (d : Drw H p B) (h : q ≠ p) : Drw (upd H q o) p B := by
  obtain ⟨l, s, t, e, r⟩ := d
  exact ⟨l, s, t, (upd_ne (Ne.symm h)).trans e, r⟩
theorem Gp.upd_new {p q : Addr} {H0 H : Hp} {o : HO} (g : Gp p H0 H) (h : H0 q = none) : Gp p H0 (upd H q o) := by
  refine ⟨?_, ?_, ?_⟩
  · intro b u nb e n
    rw [upd_ne (ne_of_none e h)]
    exact g.keep b u nb e n
  · intro P nP t
    have np : P ≠ q := by
      obtain ⟨ps, h1, _⟩ := t
      exact ne_of_none h1 h
    obtain ⟨ps, h1, h2⟩ := g.tab P nP t
    exact ⟨ps, (upd_ne np).trans h1, h2⟩
  · intro l nl e
    by_cases z : l = q
    · rw [z]
      exact h
    · rw [upd_ne z] at e
      exact g.back l nl e
theorem sum_ones : ∀ {acc : List Str}, (∀ y ∈ acc, y.length = 1) → (acc.map (·.length)).sum = acc.length
  | [], _ => rfl
  | a :: r, h => by
    rw [List.map_cons, List.sum_cons, sum_ones fun y hy => h y (List.mem_cons_of_mem _ hy), h a List.mem_cons_self, List.length_cons]
    omega
theorem odd_sized {K : PySem.W.Frag} {H : Hp} {x : V} {T : String} (h : Is K H x T) (e : T ≠ "str") : Sized x := fun z hz => absurd hz (h.ntext e z)
theorem pick7 {H : Hp} {o1 o2 o3 o4 : Addr} {x1 x2 : List V} {kv : List (Key × V)} {x4 : List V} (h1 : H o1 = some (.lst x1)) (h2 : H o2 = some (.lst x2)) (h3 : H o3 = some (.dK kv)) (h4 : H o4 = some (.tup x4)) {d : Int} (d0 : 0 ≤ d) (d7 : d < 7) :
    ∃ v, atI [V.non, .bl true, .ref o1, .ref o2, .ref o3, .ref o4, .bl false] d = some v ∧ Odd H v := by
  have : d = 0 ∨ d = 1 ∨ d = 2 ∨ d = 3 ∨ d = 4 ∨ d = 5 ∨ d = 6 := by omega
  rcases this with rfl | rfl | rfl | rfl | rfl | rfl | rfl
  · exact ⟨_, rfl, .inl rfl⟩
  · exact ⟨_, rfl, .inr (.inl ⟨_, rfl⟩)⟩
  · exact ⟨_, rfl, .inr (.inr (.inl ⟨_, _, rfl, h1⟩))⟩
  · exact ⟨_, rfl, .inr (.inr (.inl ⟨_, _, rfl, h2⟩))⟩
  · exact ⟨_, rfl, .inr (.inr (.inr (.inr ⟨_, _, rfl, h3⟩)))⟩
  · exact ⟨_, rfl, .inr (.inr (.inr (.inl ⟨_, _, rfl, h4⟩)))⟩
  · exact ⟨_, rfl, .inr (.inl ⟨_, rfl⟩)⟩
def d5 : PyData := .list [.bool false, .none, .none, .bool false, .bool false]
def d6 : PyData := .list [.bool true, .bool true, .bool false, .bool false, .bool false, .none]
def d4 : PyData := .list [.bool true, .bool true, .bool true, .bool false]
abbrev t5 : Str := "[False, None, None, False, False]"
abbrev t6 : Str := "[True, True, False, False, False, None]"
abbrev t4 : Str := "[True, True, True, False]"
theorem s5 : d5.shown = t5 := by decide +kernel
theorem s6 : d6.shown = t6 := by decide +kernel
theorem s4 : d4.shown = t4 := by decide +kernel
theorem rep_abs : (List.replicate (6000 : Int).toNat [V.str ab]).flatten = abs6.map V.str := by
  unfold abs6
  rw [List.map_replicate]
  exact List.flatten_replicate_singleton
theorem abs6_len : abs6.length = 6000 := by
  unfold abs6
  exact List.length_replicate
theorem sum_rep (k : Nat) : ∀ n, (List.replicate n k).sum = n * k
  | 0 => by simp
  | n + 1 => by
    rw [List.replicate_succ, List.sum_cons, sum_rep k n, Nat.succ_mul]
    omega
theorem abs6_sum : (abs6.map (·.length)).sum + abs6.length * blank.length ≤ 16777216 := by
  rw [abs6_len]
  unfold abs6
  rw [List.map_replicate, sum_rep]
  decide
theorem size_big {n : Nat} (h : n ≤ 1000000) : n ≤ sizeLine := by
  rw [sizeLine_eq]
  omega
theorem sized_row : Sized (.str rowT) := fun z e => by
  have ez : rowT = z := V.str.inj e
  rw [← ez]
  have := row_len
  exact size_big (by omega)
theorem len_blank : blank.length = 1 := by decide
theorem sized_rowb : Sized (.str (rowT ++ blank)) := fun z e => by
  have ez : rowT ++ blank = z := V.str.inj e
  rw [← ez]
  have := row_len
  rw [len_app, len_blank]
  exact size_big (by omega)
theorem words_row : wordsOf rowT = abs6.map V.str := by
  unfold wordsOf
  rw [row_split]
theorem dp_abs {K : PySem.W.Frag} {H : Hp} : ∀ l : List Str, DpAll K H (l.map V.str) (l.map PyData.str)
  | [] => .nil
  | _ :: r => .cons (.str _) (dp_abs r)
theorem shp_abs : SeqAt.shaped (.list (abs6.map PyData.str)) = true := shaped_strs abs6_asc
theorem sized_rep {z : Str} (h : z.length = 1) : Sized (.str (repS z 5000)) := fun z' e => by
  have ez : repS z 5000 = z' := V.str.inj e
  rw [← ez]
  rw [rep_len, h]
  exact size_big (by decide)
theorem rep_long {z : Str} (h : z.length = 1) : 9 ≤ (repS z 5000).length := by
  rw [rep_len, h]
  decide
end SfK

namespace SfK
open PySem PySem.Spec PyProof.Rows L2 SfG
abbrev sLaw : Stmt := topS 13
abbrev every : Str := "!\"#$&'()*+,-./0123456789:;<=>?@ABCDEFGHIJKLMNOPQRSTUVWXYZ[\\]^_`abcdefghijklmnopqrstuvwxyz{|}~ \n"
abbrev nLaw : List Str := ["_law_script", "_law_every", "_law_k", "_law_cell", "_law_state", "_law_signs", "_law_word", "_law_sign", "_law_number_here", "_law_some", "_law_odd", "_law_found", "_law_own", "_law_great", "_law_row", "_law_j", "_law_one"]
theorem scLaw : FnScope nLaw ["_law_script"] (defScope sLaw) := ⟨rfl, rfl, rfl, by decide +kernel, rfl, by decide +kernel, by decide +kernel⟩
theorem hcall {X : Cx} {k : Nat} {x : Str} {ps : List Str} {sp : Sp} {f : Addr} {fd : FuncData} {e : Expr} {es : List Expr} {t : TA} {p pos : Pos} (h : Has X.prog X.w X.K X.mg X.base k x ps sp f fd) (hr : Room k X.A) (ha : PA X (e :: es) t)
    (hg : Gl X x := by rfl) (hdb : (x == ("__debug__" : Str)) = false := by decide) (he : starEach (e :: es) X.env = (false, eval e X.env) :: starEach es X.env := by rfl)
    (hpl : (backTo pos (starEach es X.env)).any (·.1) = false := by rfl) : PE X (.Call (.Name x p) (e :: es) [] pos) (tCall sp [] E0 t) :=
  pe_call h.ok hr hg h.at_ h.kp h.bd .nil pass0 ha hdb he hpl
theorem plen {X : Cx} {x : Str} {p p1 pos : Pos} (i : Nat) (ml : X.mg "len" = none) (hN : X.N[i]? = some x := by rfl) (hvis : Vis X.env.scope x := by first | exact Or.inl rfl | exact Or.inr (Or.inl rfl) | exact Or.inr (Or.inr rfl))
    (hg : Gl X "len" := by rfl) (hxd : (x == ("__debug__" : Str)) = false := by decide) (hxc : (x == ("__classdict__" : Str)) = false := by decide) :
    PE X (.Call (.Name "len" p) [.Name x p1] [] pos) (tCB rLenT (tCons (tVar i) tNil)) :=
  pe_callB call_len_str hg ml PySem.boot_len (pa_cons (pe_var hN hvis hxd hxc) pa_nil)
abbrev mix : Str := "a1 -"
def Wd (z : Str) : Prop := Asc z ∧ 1 ≤ z.length ∧ z.length ≤ 200
theorem wd_letters : Wd letters := by unfold Wd Asc; decide +kernel
theorem wd_figures : Wd figures := by unfold Wd Asc; decide +kernel
theorem wd_mix : Wd mix := by unfold Wd Asc; decide +kernel
theorem wd_every : Wd every := by unfold Wd Asc; decide +kernel
theorem pick4 {d : Int} (h0 : 0 ≤ d) (h4 : d < 4) : ∃ s, atI [V.str letters, V.str figures, V.str mix, V.str every] d = some (.str s) ∧ Wd s := by
  have : d = 0 ∨ d = 1 ∨ d = 2 ∨ d = 3 := by omega
  rcases this with rfl | rfl | rfl | rfl
  · exact ⟨_, rfl, wd_letters⟩
  · exact ⟨_, rfl, wd_figures⟩
  · exact ⟨_, rfl, wd_mix⟩
  · exact ⟨_, rfl, wd_every⟩
theorem sign_at {s : Str} (h : Wd s) {d : Int} (h0 : 0 ≤ d) (h1 : d < s.length) : ∃ c, s.cps[d.toNat]? = some c ∧ Asc ⟨#[c]⟩ := by
  have lt : d.toNat < s.cps.size := by
    have : s.length = s.cps.size := rfl
    omega
  refine ⟨s.cps[d.toNat], by simp [lt], ?_⟩
  exact asc_one (i := d.toNat) h.1 (by simp [lt])
/-- a word of the law: of plain signs, short -/
def Sh (n : Nat) (z : Str) : Prop := Asc z ∧ z.length ≤ n
theorem Sh.app {a b : Str} {n m : Nat} (x : Sh n a) (y : Sh m b) : Sh (n + m) (a ++ b) := ⟨asc_app x.1 y.1, by rw [len_app]; have := x.2; have := y.2; omega⟩
theorem Sh.mono {a : Str} {n m : Nat} (x : Sh n a) (h : n ≤ m) : Sh m a := ⟨x.1, Nat.le_trans x.2 h⟩
theorem Sh.fits {a b : Str} {n m : Nat} (x : Sh n a) (y : Sh m b) (h : n + m ≤ 900) : a.length + b.length ≤ sizeLine := by
  have := x.2
  have := y.2
  exact Nat.le_of_lt (small1000 (by omega))
theorem sh_lit {z : Str} {n : Nat} (h : (z.cps.toList.all fun c => decide (c < 128)) = true ∧ z.length ≤ n) : Sh n z := ⟨fun c hc => of_decide_eq_true (List.all_eq_true.mp h.1 c hc), h.2⟩
theorem sh_num {n : Nat} (h : n < 131) : Sh 5 ((toString (n : Int) : String) : Str) := ⟨(str_num n h).1, (str_num n h).2⟩
section
variable {P : Program} {w : World} {K : PySem.W.Frag} {mg : Str → Option Value} {base : Heap}
def spLaw (K : PySem.W.Frag) (P1 P2 : Addr) : Sp := fun vs H Q _ => ∃ (a : Addr) (ns : List Int), vs = [.ref a] ∧ SqL K H a (ns.map V.int) ∧ ns.length ≤ 63 ∧ True ∧ True ∧ ∀ H', Q (.bl true) H'
/-- what the law's text names and calls -/
structure Calls (P : Program) (w : World) (K : PySem.W.Frag) (mg : Str → Option Value) (base : Heap) (P1 P2 : Addr) (fD fG fa fb fc fe fg fR : Addr) (fdD fdG fda fdb fdc fde fdg fdR : FuncData) : Prop where
  DR : Has P w K mg base 3 "_law_draw" ["_law_cell", "_law_k"] spDraw fD fdD
  DG : Has P w K mg base 3 "_law_digit" ["_law_state", "_law_many"] spDigit fG fdG
  HN : Has P w K mg base 3 "is_name" ["thing"] (spName K P1) fa fda
  HF : Has P w K mg base 3 "number_of" ["word"] (spNum K P2) fb fdb
  HW : Has P w K mg base 3 "is_whole" ["thing"] (spWhole K) fc fdc
  HA : Has P w K mg base 3 "is_among" ["thing", "least", "most"] (spAmong K) fe fde
  HS : Has P w K mg base 3 "words_of" ["row"] (spWords K) fg fdg
  RG : FnG P w K mg base CX0 3 fR fdR ["_law_word"] (spRight P1 P2)
  gR : mg "_law_word_right" = some (.ref fR)
  kR : PySem.W.keepIn K (.ref fR) = true
  bR : Binds K fdR ["_law_word"] []
  me : mg "enumerate" = none
  msum : mg "sum" = none
  mr : mg "range" = none
  ml : mg "len" = none
  mstr : mg "str" = none
  mp : mg "repr" = none
  mabs : mg "abs" = none
set_option maxHeartbeats 8000000 in
theorem ok_law {f P1 P2 fD fG fa fb fc fe fg fR : Addr} {fd fdD fdG fda fdb fdc fde fdg fdR : FuncData} (F : Fun K "law" "law" sLaw f fd) (C : Calls P w K mg base P1 P2 fD fG fa fb fc fe fg fR fdD fdG fda fdb fdc fde fdg fdR) :
    FnG P w K mg base CX0 4 f fd ["_law_script"] (spLaw K P1 P2) := by
  refine fng_of F scLaw (fun vs H Q E h => ?_) (fun cdv A outer s H vs Q E hr hgd h => ?_)
  · obtain ⟨a, ns, rfl, _⟩ := h
    rfl
  · obtain ⟨a, ns, rfl, hS, hlen, ht1, ht2, q⟩ := h
    have nd := scLaw.nd
    refine' ⟨_, pss_cons ?s1 (pss_cons ?s2 (pss_cons ?s3 (pss_cons ?s4 (pss_cons ?s5 (pss_cons ?s6 (pss_one ?s7)))))), ?rd⟩
    case s1 =>
      exact ps_set (i := 1) nd rfl (.inl rfl) pe_str
    case s2 =>
      refine' ps_for PassesOwn.never rfl (pi_enum (by rfl) C.me (pa_cons (pe_op op_cat (pe_slice sl_list (pv 0) po_none (po_some pe_int))
          (pe_lst (pa_cons (pe_callB (cr_sum rfl) (by rfl) C.msum (by decide +kernel) (pa_cons (pv 0) pa_nil)) pa_nil))) pa_nil))
        (pg_tup rfl (pgs_cons (pg_name (i := 2) nd rfl (.inl rfl)) (pgs_cons (pg_name (i := 3) nd rfl (.inl rfl)) pgs_nil)))
        (pss_cons ?b1 (pss_cons ?b2 (pss_cons ?b3 (pss_cons ?b4 (pss_cons ?b5 (pss_cons ?b6 (pss_cons ?b7 (pss_cons ?b8 (pss_cons ?b9 (pss_cons ?b10 (pss_cons ?b11 (pss_cons ?b12 (pss_one ?b13)))))))))))))
      case b1 =>
        exact ps_set (i := 4) nd rfl (.inr rfl) (hcall C.DR hr (pa_cons (pv 3) (pa_cons (pv 2) pa_nil)))
      case b2 =>
        exact ps_set (i := 5) nd rfl (.inr rfl) (pe_ix ix_list (pe_lst (pa_cons pe_str (pa_cons pe_str (pa_cons pe_str (pa_cons (pv 1) pa_nil))))) (hcall C.DG hr (pa_cons (pv 4) (pa_cons pe_int pa_nil))) (fun _ _ => rfl))
      case b3 =>
        refine' ps_set (i := 6) nd rfl (.inl rfl) (pe_join pe_str ?lc)
        case lc =>
          exact pe_lc (own := [("_law_j", 15)]) (g := gName 15) rfl nd
            (pi_range1 (by rfl) C.mr (pa_cons (hcall C.DG hr (pa_cons (pv 4) (pa_cons pe_int pa_nil))) pa_nil)) (blkOk_by (own := [("_law_j", 15)]) (N := nLaw) (sc := defScope sLaw) (by decide +kernel))
            (fun _ _ _ _ _ => pg_name (i := 15) nd rfl (Or.inl rfl)) (fun _ _ _ _ _ => pts_nil)
            (fun _ _ _ _ _ => pe_item_str (pv 5) (hcall C.DG hr (pa_cons (pv 4) (pa_cons (plen 5 C.ml) pa_nil))) (fun _ _ => rfl))
      case b4 =>
        exact ps_par (i := 7) (j := 8) rfl nd rfl rfl (by decide) rfl rfl (pa_cons (pe_item_str (pv 1) (hcall C.DG hr (pa_cons (pv 4) (pa_cons (plen 1 C.ml) pa_nil))) (fun _ _ => rfl))
            (pa_cons (pe_callTy call_str_int (by rfl) C.mstr (by decide +kernel) (pa_cons (hcall C.DG hr (pa_cons (pv 4) (pa_cons pe_int pa_nil))) pa_nil)) pa_nil)) (by rfl)
      case b5 =>
        exact ps_set (i := 9) nd rfl (.inl rfl) (pe_lst (pa_cons (pv 6) (pa_cons (pv 8) (pa_cons (pe_op op_add_str pe_str (pv 8)) (pa_cons (pe_op op_add_str (pe_op op_add_str (pv 6) pe_str) (pv 6))
            (pa_cons (pe_op op_add_str pe_str (pv 6)) (pa_cons (pe_upper (pv 6)) (pa_cons (pv 7) (pa_cons (pe_op op_add_str (pe_slice sl_str (pv 6) po_none (po_some pe_int)) (pv 7)) (pa_cons pe_str pa_nil))))))))))
      case b6 =>
        exact ps_set (i := 9) nd rfl (.inl rfl) (pe_op op_cat (pv 9) (pe_lst (pa_cons (pe_op op_add_str (pv 8) (pv 7)) (pa_cons (pe_op op_add_str (pv 7) (pv 8)) (pa_cons (pe_op op_add_str (pe_op op_add_str pe_str (pv 7)) pe_str)
            (pa_cons (pe_op op_add_str (pe_op op_add_str (pv 8) pe_str) (pv 6)) (pa_cons (pe_op op_add_str pe_str (pv 8)) (pa_cons (pe_op op_add_str (pv 6) pe_str) pa_nil))))))))
      case b7 =>
        refine' ps_if (pt_cmpR (op_neD hr.units) ?lc (pe_lst pa_nil) (nomark _)) (pss_one (ps_ret pe_bl)) pss_nil
        case lc =>
          exact pe_lc (own := [("_law_one", 16)]) (g := gName 16) rfl nd (pi_list (pv 9)) (blkOk_by (own := [("_law_one", 16)]) (N := nLaw) (sc := defScope sLaw) (by decide +kernel))
            (fun _ _ _ _ _ => pg_name (i := 16) nd rfl (Or.inl rfl)) (fun _ _ _ _ _ => pts_one (pt_not (pt_val (pe_callG C.RG hr hgd (by rfl) C.gR C.kR C.bR .nil pass0 (pa_cons (pv 16) pa_nil))))) (fun _ _ _ _ _ => pv 16)
      case b8 =>
        exact ps_set (i := 10) nd rfl (.inl rfl) (pe_ix ix_list (pe_lst (pa_cons pe_non (pa_cons pe_bl (pa_cons (pe_lst pa_nil) (pa_cons (pe_lst (pa_cons pe_str pa_nil)) (pa_cons pe_dnewK (pa_cons (pe_tup (pa_cons pe_str pa_nil)) (pa_cons pe_bl pa_nil))))))))
            (hcall C.DG hr (pa_cons (pv 4) (pa_cons pe_int pa_nil))) (fun _ _ => rfl))
      case b9 =>
        exact ps_set (i := 11) nd rfl (.inl rfl) (pe_lst (pa_cons (hcall C.HN hr (pa_cons (pv 10) pa_nil)) (pa_cons (hcall C.HF hr (pa_cons (pv 10) pa_nil)) (pa_cons (hcall C.HS hr (pa_cons (pv 10) pa_nil))
            (pa_cons (hcall C.HW hr (pa_cons (pv 10) pa_nil)) (pa_cons (hcall C.HA hr (pa_cons (pv 10) (pa_cons pe_int (pa_cons pe_int pa_nil)))) pa_nil))))))
      case b10 =>
        exact ps_if (pt_cmpR op_ne (pe_callB (call_repr hr hgd) (by rfl) C.mp (by decide +kernel) (pa_cons (pv 11) pa_nil)) pe_str (nomark _)) (pss_one (ps_ret pe_bl)) pss_nil
      case b11 =>
        exact ps_set (i := 12) nd rfl (.inl rfl) (pe_op op_sub (hcall C.DG hr (pa_cons (pv 4) (pa_cons pe_int pa_nil))) pe_int)
      case b12 =>
        exact ps_set (i := 11) nd rfl (.inl rfl) (pe_lst (pa_cons (hcall C.HW hr (pa_cons (pv 12) pa_nil)) (pa_cons (hcall C.HA hr (pa_cons (pv 12) (pa_cons (pv 12) (pa_cons (pv 12) pa_nil))))
            (pa_cons (hcall C.HA hr (pa_cons (pv 12) (pa_cons (pe_op op_add (pv 12) pe_int) (pa_cons (pe_op op_add (pv 12) pe_int) pa_nil)))) (pa_cons (hcall C.HN hr (pa_cons (pv 12) pa_nil)) pa_nil)))))
      case b13 =>
        exact ps_if (pt_cmpR op_ne (pe_callB (call_repr hr hgd) (by rfl) C.mp (by decide +kernel) (pa_cons (pe_op op_cat (pv 11) (pe_lst (pa_cons (hcall C.HA hr (pa_cons (pv 12) (pa_cons (pe_op op_sub (pv 12) pe_int) (pa_cons (pe_op op_sub (pv 12) pe_int) pa_nil))))
            (pa_cons (hcall C.HF hr (pa_cons (pv 12) pa_nil)) pa_nil)))) pa_nil)) pe_str (nomark _)) (pss_one (ps_ret pe_bl)) pss_nil
    case s3 =>
      exact ps_set (i := 13) nd rfl (.inl rfl) (pe_op op_add (pe_op op_pow pe_int pe_int) (pe_callB call_abs (by rfl) C.mabs (by decide +kernel) (pa_cons (pe_callB (cr_sum rfl) (by rfl) C.msum (by decide +kernel) (pa_cons (pv 0) pa_nil)) pa_nil)))
    case s4 =>
      exact ps_set (i := 11) nd rfl (.inl rfl) (pe_lst (pa_cons (hcall C.HW hr (pa_cons (pv 13) pa_nil)) (pa_cons (hcall C.HW hr (pa_cons (pe_op op_sub pe_int (pv 13)) pa_nil))
          (pa_cons (hcall C.HA hr (pa_cons (pv 13) (pa_cons pe_int (pa_cons (pv 13) pa_nil)))) (pa_cons (hcall C.HA hr (pa_cons (pv 13) (pa_cons pe_int (pa_cons (pe_op op_sub (pv 13) pe_int) pa_nil)))) pa_nil)))))
    case s5 =>
      exact ps_set (i := 14) nd rfl (.inl rfl) (pe_join pe_str (pe_op op_rep (pe_lst (pa_cons pe_str pa_nil)) pe_int))
    case s6 =>
      exact ps_if (PW.pt (pw_or (pt_cmpR op_ne (pe_callB (call_repr hr hgd) (by rfl) C.mp (by decide +kernel) (pa_cons (pv 11) pa_nil)) pe_str (nomark _))
          (pw_or (pt_cmpR (op_neD hr.units) (hcall C.HS hr (pa_cons (pv 14) pa_nil)) (pe_op op_rep (pe_lst (pa_cons pe_str pa_nil)) pe_int) (nomark _))
          (pw_or1 (pt_cmpR op_notN (hcall C.HS hr (pa_cons (pe_op op_add_str (pv 14) pe_str) pa_nil)) pe_non (nomark _))))))
        (pss_one (ps_ret pe_bl)) pss_nil
    case s7 =>
      exact ps_ret (pe_and (pe_cmpR op_isN (hcall C.HF hr (pa_cons (pe_op op_mulS pe_str pe_int) pa_nil)) pe_non (nomark _))
        (pe_one (pe_cmpR op_is_bl (hcall C.HN hr (pa_cons (pe_op op_mulS pe_str pe_int) pa_nil)) pe_bl (nomark _))))
    case rd =>
    -- the list that is walked
    refine ⟨_, rfl, 12, rfl, a, ns.map V.int, rfl, hS, fun q1 n1 => ?_⟩
    have g1 : Gr H (upd H q1 (.lst (cutV (ns.map V.int) none (some 12)))) := Gr.new n1
    refine ⟨_, rfl, a, ns, rfl, g1.seq hS, by show 1 ≤ sizeLine; decide, fun q2 n2 => ?_⟩
    have hq12 : q1 ≠ q2 := ne_of_none upd_same n2
    have cl : (cutV (ns.map V.int) none (some 12)).length ≤ 63 := by
      refine Nat.le_trans (cutV_length _ _ _) ?_
      rw [List.length_map]
      exact hlen
    refine ⟨q1, q2, _, _, rfl, rfl, (upd_ne hq12).trans upd_same, upd_same, ?_, fun el nel => ?_⟩
    · refine Nat.le_of_lt (small1000 ?_)
      show _ + 1 ≤ 1000
      omega
    have g3 : Gr H (upd (upd (upd H q1 (.lst (cutV (ns.map V.int) none (some 12)))) q2 (.lst [.int ns.sum])) el (.lst (cutV (ns.map V.int) none (some 12) ++ [.int ns.sum]))) := (g1.trans (Gr.new n2)).trans (Gr.new nel)
    have hel : upd (upd (upd H q1 (.lst (cutV (ns.map V.int) none (some 12)))) q2 (.lst [.int ns.sum])) el (.lst (cutV (ns.map V.int) none (some 12) ++ [.int ns.sum])) el = some (.lst (cutV (ns.map V.int) none (some 12) ++ [.int ns.sum])) := upd_same
    have hints : ∀ x ∈ cutV (ns.map V.int) none (some 12) ++ [V.int ns.sum], ∃ i, x = .int i := by
      intro x hx
      rcases List.mem_append.mp hx with h | h
      · unfold cutV at h
        obtain ⟨i, _, e⟩ := List.mem_map.mp (List.mem_of_mem_drop (List.mem_of_mem_take h))
        exact ⟨i, e.symm⟩
      · exact ⟨ns.sum, by simpa using h⟩
    have lxs : (cutV (ns.map V.int) none (some 12) ++ [V.int ns.sum]).length ≤ 64 := by
      rw [List.length_append]
      show _ + 1 ≤ 64
      omega
    generalize upd (upd (upd H q1 (.lst (cutV (ns.map V.int) none (some 12)))) q2 (.lst [.int ns.sum])) el (.lst (cutV (ns.map V.int) none (some 12) ++ [.int ns.sum])) = Hs at g3 hel ⊢
    generalize cutV (ns.map V.int) none (some 12) ++ [V.int ns.sum] = xs at hints lxs hel
    refine ⟨el, xs, rfl, .inl (.inl hel), for_it (walk_enum (xs := xs)) (fun i σ H1 => ∃ y2 y3 y4 y5 y6 y7 y8 y9 y10 y11 y12 y13 y14 y15 y16 : Option V,
      σ = [some (.ref a), some (.str every), y2, y3, y4, y5, y6, y7, y8, y9, y10, y11, y12, y13, y14, y15, y16] ∧ Gr Hs H1) ?start ?stays ?turn ?after⟩
    case start => exact ⟨none, none, none, none, none, none, none, none, none, none, none, none, none, none, none, rfl, Gr.refl _⟩
    case stays =>
      rintro i σ H1 hi ⟨y2, y3, y4, y5, y6, y7, y8, y9, y10, y11, y12, y13, y14, y15, y16, rfl, g⟩
      exact .inl (.inl (g.lst hel))
    case after =>
      rintro σ H1 ⟨y2, y3, y4, y5, y6, y7, y8, y9, y10, y11, y12, y13, y14, y15, y16, rfl, g⟩
      have g0 : Gr H H1 := g3.trans g
      -- great
      refine ⟨10, 40, rfl, rfl, ⟨by decide, by decide, by decide⟩, _, rfl, a, ns, rfl, g0.seq hS, _, rfl, _, _, rfl, rfl, ?_⟩
      have big : 1 ≤ (10 : Int) ^ (40 : Int).toNat + (if ns.sum < 0 then -ns.sum else ns.sum) := by
        have e40 : (10 : Int) ^ (40 : Int).toNat = 10000000000000000000000000000000000000000 := by decide
        rw [e40]
        split <;> omega
      change gName 13 (V.int ((10 : Int) ^ (40 : Int).toNat + (if ns.sum < 0 then -ns.sum else ns.sum))) _ _ _
      generalize (10 : Int) ^ (40 : Int).toNat + (if ns.sum < 0 then -ns.sum else ns.sum) = gt at big ⊢
      -- found
      refine ⟨_, rfl, _, "int", rfl, is_int gt, _, rfl, 0, gt, rfl, rfl, _, "int", rfl, is_int _, _, rfl, _, rfl, _, "int", 0, gt, rfl, is_int gt, _, rfl, _, rfl, gt, 1, rfl, rfl, _, "int", 0, _, rfl, is_int gt, by show 4 ≤ sizeLine; decide, fun lf nlf => ?_⟩
      have a1 : amongV (.int gt) 0 gt = true := by
        simp only [amongV]
        rw [decide_eq_true (by omega), decide_eq_true (Int.le_refl gt)]
        rfl
      have a2 : amongV (.int gt) 0 (gt - 1) = false := by
        simp only [amongV]
        rw [decide_eq_false (show ¬ gt ≤ gt - 1 by omega), Bool.and_false]
      rw [a1, a2]
      have hlf : upd H1 lf (.lst [.bl ("int" == "int"), .bl ("int" == "int"), .bl true, .bl false]) lf = some (.lst [.bl true, .bl true, .bl true, .bl false]) := upd_same
      have g5 : Gr H (upd H1 lf (.lst [.bl ("int" == "int"), .bl ("int" == "int"), .bl true, .bl false])) := g0.trans (Gr.new nlf)
      generalize upd H1 lf (.lst [.bl ("int" == "int"), .bl ("int" == "int"), .bl true, .bl false]) = H5 at hlf g5 ⊢
      -- row
      refine ⟨⟨_, rfl⟩, by show 1 ≤ sizeLine; decide, fun u1 nu1 => ?_⟩
      refine ⟨u1, 6000, [.str ab], rfl, rfl, upd_same, by decide, by decide, by show 1 * 6000 ≤ sizeLine; exact size_big (by decide), fun u2 nu2 => ?_⟩
      rw [rep_abs]
      have g7 : Gr H5 (upd (upd H5 u1 (.lst [.str ab])) u2 (.lst (abs6.map V.str))) := (Gr.new nu1).trans (Gr.new nu2)
      refine ⟨blank, u2, abs6, rfl, rfl, .inl (.inl (.inl upd_same)), abs6_sum, ?_⟩
      change gName 14 (V.str rowT) _ _ _
      generalize upd (upd H5 u1 (.lst [.str ab])) u2 (.lst (abs6.map V.str)) = H7 at g7 ⊢
      have hlf7 := g7.lst hlf
      have g07 : Gr H H7 := g5.trans g7
      -- the three tests
      refine ⟨_, rfl, lf, d4, t4, rfl, .lst (.inl (.inl hlf7)) (.cons (.bl _) (.cons (.bl _) (.cons (.bl _) (.cons (.bl _) .nil)))), by decide +kernel, rfl, by decide +kernel, s4, by decide +kernel, rfl, _, rfl, iteNS rfl ?_⟩
      refine ⟨_, rfl, .str rowT, "str", rfl, is_str rowT, sized_row, fun no => absurd rfl (no rowT), ?_, ?_⟩
      · intro z H8 e hin g8
        have ez : rowT = z := V.str.inj e
        rw [← ez, row_in] at hin
        cases hin
      intro z H8 pw e hin npw g8 hpw
      have ez : rowT = z := V.str.inj e
      rw [← ez, words_row] at hpw
      refine ⟨by show 1 ≤ sizeLine; decide, fun u3 nu3 => ?_⟩
      refine ⟨u3, 6000, [.str ab], rfl, rfl, upd_same, by decide, by decide, by show 1 * 6000 ≤ sizeLine; exact size_big (by decide), fun u4 nu4 => ?_⟩
      rw [rep_abs]
      have g9 : Gr H8 (upd (upd H8 u3 (.lst [.str ab])) u4 (.lst (abs6.map V.str))) := (Gr.new nu3).trans (Gr.new nu4)
      have hpw9 := g9.lst hpw
      refine ⟨.list (abs6.map PyData.str), .list (abs6.map PyData.str), .lst (.inl (.inl hpw9)) (dp_abs _), .lst (.inl (.inl upd_same)) (dp_abs _), shp_abs, shp_abs, _, rfl, ?_⟩
      rw [SeqAt.eqv_refl _ (SeqAt.canLay_of_shaped shp_abs)]
      refine iteF ?_
      have g09 : Gr H (upd (upd H8 u3 (.lst [.str ab])) u4 (.lst (abs6.map V.str))) := (g07.trans g8).trans g9
      generalize upd (upd H8 u3 (.lst [.str ab])) u4 (.lst (abs6.map V.str)) = H9 at g09 ⊢
      have lrow : rowT.length + blank.length ≤ sizeLine := by
        have := row_len
        rw [len_blank]
        exact size_big (by omega)
      refine ⟨_, rfl, rowT, blank, rfl, rfl, lrow, .str (rowT ++ blank), "str", rfl, is_str _, sized_rowb, fun no => absurd rfl (no _), ?_, ?_⟩
      rotate_left
      · intro z H8 pw e hin npw g8 hpw
        have ez : rowT ++ blank = z := V.str.inj e
        rw [← ez, rowb_in] at hin
        cases hin
      intro z H10 e hin g10
      refine ⟨rfl, _, rfl, iteNS rfl ?_⟩
      have g010 : Gr H H10 := g09.trans g10
      -- the last answer
      refine ⟨"7", 5000, rfl, rfl, by decide, by decide, by decide, .str (repS "7" 5000), "str", rfl, is_str _, sized_rep rfl, trivial, fun H11 g11 => ?_⟩
      rw [num_long (rep_long (z := "7") rfl)]
      refine ⟨rfl, _, rfl, ite2 (fun _ => ?_) (fun n => absurd (decide_eq_true rfl) n)⟩
      refine ⟨"a", 5000, rfl, rfl, by decide, by decide, by decide, .str (repS "a" 5000), "str", rfl, is_str _, sized_rep rfl, trivial, fun H12 g12 => ?_⟩
      rw [name_long (rep_long (z := "a") rfl)]
      exact ⟨false, false, rfl, rfl, q H12⟩
    case turn =>
      rintro i x σ H1 H' hi ⟨y2, y3, y4, y5, y6, y7, y8, y9, y10, y11, y12, y13, y14, y15, y16, rfl, g⟩ ⟨T, kx, cx, rfl, nT, rfl, ek, ec⟩
      cases ek
      have hxi : cx ∈ xs := List.mem_of_getElem? ec
      obtain ⟨cell, rfl⟩ := hints _ hxi
      refine ⟨T, [.int (i : Nat), .int cell], rfl, .inl (.inl upd_same), rfl, .int (i : Nat), [.int cell], rfl, .int cell, [], rfl, rfl, ?_⟩
      have gT : Gr Hs (upd H1 T (.tup [.int (i : Nat), .int cell])) := g.trans (Gr.new nT)
      generalize upd H1 T (.tup [.int (i : Nat), .int cell]) = HT at gT ⊢
      -- state = _law_draw(cell, k)
      refine ⟨_, rfl, _, rfl, cell, (i : Nat), rfl, by omega, by omega, fun H2 p np g2 dr => ?_⟩
      have nps : Hs p = none := gT.back p np
      have g02 : Gr Hs H2 := gT.trans g2
      -- signs
      refine ⟨_, rfl, by show 4 ≤ sizeLine; decide, fun pl nl => ?_⟩
      refine ⟨_, rfl, p, 4, (i : Nat), rfl, dr.new nl, by omega, by decide, by decide, fun H3 d b3 dr3 d0 d4 => ?_⟩
      have hpl : pl ≠ p := dr.ne nl
      obtain ⟨sg, esg, wsg⟩ := pick4 d0 d4
      refine ⟨pl, _, d, .str sg, rfl, rfl, .inl (.inl ((b3 pl hpl).trans upd_same)), esg, ?_⟩
      have gp3 : Gp p H2 H3 := (Gp.gr (Gr.new nl)).trans (Gp.but b3)
      -- word
      refine ⟨⟨_, rfl⟩, _, rfl, p, 11, _, rfl, dr3, by omega, by decide, by decide, fun H4 m b4 dr4 m0 m11 => ?_⟩
      have gp4 : Gp p H2 H4 := gp3.trans (Gp.but b4)
      refine ⟨m, rfl, by omega, by omega, fun D nD => ?_⟩
      have nDp : D ≠ p := dr4.ne nD
      refine lc_it (walk_range (lo := 0) (n := m.toNat)) (fun j H5 => ∃ acc : List Str, H5 D = some (.lst (acc.map V.str)) ∧ acc.length = j ∧ (∀ y ∈ acc, Asc y ∧ y.length = 1) ∧ Gp p H4 H5 ∧ Drw H5 p ((i : Int) + 2 + (j : Nat))) ?w0 (fun _ _ _ _ => trivial) ?w1 ?w2
      case w0 => exact ⟨[], upd_same, rfl, by simp, Gp.gr (Gr.new nD), (dr4.new nD).mono (by omega)⟩
      case w1 =>
        rintro j x H5 H5' hj ⟨acc, hD5, hl5, hacc, gp5, dr5⟩ ⟨rfl, rfl⟩
        refine ⟨rfl, ?_⟩
        unfold tYes
        refine iteT ?_
        have hsg : sg.length ≤ sizeLine := Nat.le_of_lt (small1000 (by have := wsg.2.2; omega))
        have hsg1 : 1 ≤ sg.length := wsg.2.1
        have hsg2 : sg.length ≤ 200 := wsg.2.2
        refine ⟨_, rfl, _, rfl, _, rfl, sg, rfl, hsg, p, _, _, rfl, dr5, by omega, by omega, by omega, fun H6 d6 b6 dr6 e0 el6 => ?_⟩
        obtain ⟨c, ec6, ac6⟩ := sign_at wsg e0 el6
        refine ⟨sg, d6, c, rfl, rfl, e0, by omega, el6, ec6, acc.map V.str, (b6 D nDp).trans hD5, ?_, acc ++ [⟨#[c]⟩], ?_, ?_, ?_, ?_, ?_⟩
        · rw [List.length_map]
          exact small1000 (by omega)
        · rw [upd_same, List.map_append]
          rfl
        · rw [List.length_append, hl5]
          rfl
        · intro y hy
          rcases List.mem_append.mp hy with h | h
          · exact hacc y h
          · have e9 : y = ⟨#[c]⟩ := by simpa using h
            rw [e9]
            exact ⟨ac6, rfl⟩
        · exact Gp.upd_new (gp5.trans (Gp.but b6)) nD
        · exact (dr6.upd nDp).mono (by omega)
      case w2 =>
      rintro H5 ⟨acc, hD5, hl5, hacc, gp5, dr5⟩
      have ones : ∀ y ∈ acc, y.length = 1 := fun y hy => (hacc y hy).2
      have lacc : acc.length ≤ 10 := by omega
      refine ⟨nought, D, acc, rfl, rfl, .inl (.inl (.inl hD5)), ?_, ?_⟩
      · rw [sum_ones ones]
        show acc.length + acc.length * 0 ≤ 16777216
        omega
      have shW : Sh 10 (Txt.join nought acc) := ⟨asc_join fun y hy => (hacc y hy).1, by rw [len_join ones]; exact lacc⟩
      generalize Txt.join nought acc = W at shW ⊢
      have gp6 : Gp p H2 H5 := gp4.trans gp5
      have dr6 : Drw H5 p ((i : Int) + 12) := dr5.mono (by omega)
      clear gp5 dr5 hD5 hacc ones hl5
      -- sign, number
      have hev : every.length ≤ sizeLine := by decide +kernel
      have hevn : every.length ≤ 200 ∧ 1 ≤ every.length := by decide +kernel
      refine ⟨_, rfl, _, rfl, _, rfl, every, rfl, hev, p, _, _, rfl, dr6, by omega, by omega, by omega, fun H7 d7 b7 dr7 e0 el7 => ?_⟩
      obtain ⟨c, ec7, ac7⟩ := sign_at wd_every e0 el7
      refine ⟨every, d7, c, rfl, rfl, e0, by omega, el7, ec7, ?_⟩
      refine ⟨_, rfl, p, 131, _, rfl, dr7, by omega, by decide, by decide, fun H8 n b8 dr8 n0 n131 => ?_⟩
      obtain ⟨nn, rfl⟩ : ∃ nn : Nat, n = (nn : Int) := ⟨n.toNat, by omega⟩
      have shN : Sh 5 ((toString (nn : Int) : String) : Str) := sh_num (by omega)
      have shS : Sh 1 (⟨#[c]⟩ : Str) := ⟨ac7, Nat.le_refl 1⟩
      refine ⟨_, rfl, Nat.lt_of_le_of_lt (Nat.log2_le_self _) (by omega), _, _, rfl, ?_⟩
      have gp8 : Gp p H2 H8 := (gp6.trans (Gp.but b7)).trans (Gp.but b8)
      have dr8' : Drw H8 p ((i : Int) + 14) := dr8.mono (by omega)
      generalize ((toString (nn : Int) : String) : Str) = N at shN ⊢
      generalize (⟨#[c]⟩ : Str) = S at shS ⊢
      -- the words
      have l0 : Sh 1 ("0" : Str) := sh_lit (by decide +kernel)
      have l2 : Sh 2 ("  " : Str) := sh_lit (by decide +kernel)
      have l1 : Sh 1 (" " : Str) := sh_lit (by decide +kernel)
      have lab : Sh 2 ("ab" : Str) := sh_lit (by decide +kernel)
      have lc : Sh 1 ("c" : Str) := sh_lit (by decide +kernel)
      have lm : Sh 1 ("-" : Str) := sh_lit (by decide +kernel)
      have le : Sh 0 ("" : Str) := sh_lit (by decide +kernel)
      have lW : W.length ≤ 10 := shW.2
      have cutW : Sh 10 (cutS W none (some 3)) := ⟨asc_cut shW.1 _ _, Nat.le_trans (cutS_length _ _ _) shW.2⟩
      have upW : Sh 30 (Txt.upper W) := ⟨asc_upper shW.1, by have := len_upper W; omega⟩
      refine ⟨_, rfl, _, rfl, _, rfl, _, _, rfl, rfl, l0.fits shN (by decide), _, rfl, _, _, rfl, rfl, shW.fits l2 (by decide), _, rfl, _, _, rfl, rfl, (shW.app l2).fits shW (by decide), _, rfl, _, _, rfl, rfl, l1.fits shW (by decide), _, rfl, ⟨_, rfl⟩, _, rfl, rfl, by omega, _, rfl, _, rfl, 3, rfl, _, rfl, Nat.le_of_lt (small1000 (by omega)), _, rfl, _, _, rfl, rfl, cutW.fits shS (by decide), by show 9 ≤ sizeLine; decide, fun p1 np1 => ?_⟩
      refine ⟨_, rfl, _, rfl, _, rfl, _, _, rfl, rfl, shN.fits shS (by decide), _, rfl, _, rfl, _, _, rfl, rfl, shS.fits shN (by decide), _, rfl, _, _, rfl, rfl, lab.fits shS (by decide), _, _, rfl, rfl, (lab.app shS).fits lc (by decide), _, rfl, _, _, rfl, rfl, shN.fits l1 (by decide), _, rfl, _, _, rfl, rfl, (shN.app l1).fits shW (by decide), _, rfl, _, _, rfl, rfl, lm.fits shN (by decide), _, rfl, _, _, rfl, rfl, shW.fits l1 (by decide), by show 6 ≤ sizeLine; decide, fun p2 np2 => ?_⟩
      have np12 : p1 ≠ p2 := ne_of_none upd_same np2
      refine ⟨p1, p2, _, _, rfl, rfl, (upd_ne np12).trans upd_same, upd_same, by show 15 ≤ sizeLine; decide, fun p3 np3 => ?_⟩
      have hws : ∀ z ∈ ([W, N, "0" ++ N, (W ++ "  ") ++ W, " " ++ W, Txt.upper W, S, cutS W none (some 3) ++ S, "", N ++ S, S ++ N, ("ab" ++ S) ++ "c", (N ++ " ") ++ W, "-" ++ N, W ++ " "] : List Str), Sh 100 z := by
        intro z hz
        simp only [List.mem_cons, List.not_mem_nil, or_false] at hz
        rcases hz with rfl | rfl | rfl | rfl | rfl | rfl | rfl | rfl | rfl | rfl | rfl | rfl | rfl | rfl | rfl
        · exact shW.mono (by decide)
        · exact shN.mono (by decide)
        · exact (l0.app shN).mono (by decide)
        · exact ((shW.app l2).app shW).mono (by decide)
        · exact (l1.app shW).mono (by decide)
        · exact upW.mono (by decide)
        · exact shS.mono (by decide)
        · exact (cutW.app shS).mono (by decide)
        · exact le.mono (by decide)
        · exact (shN.app shS).mono (by decide)
        · exact (shS.app shN).mono (by decide)
        · exact ((lab.app shS).app lc).mono (by decide)
        · exact ((shN.app l1).app shW).mono (by decide)
        · exact (lm.app shN).mono (by decide)
        · exact (shW.app l1).mono (by decide)
      generalize hwl : ([W, N, "0" ++ N, (W ++ "  ") ++ W, " " ++ W, Txt.upper W, S, cutS W none (some 3) ++ S, "", N ++ S, S ++ N, ("ab" ++ S) ++ "c", (N ++ " ") ++ W, "-" ++ N, W ++ " "] : List Str) = ws at hws
      have hp3 : ∀ Hx : Hp, upd Hx p3 (.lst ([V.str W, V.str N, V.str ("0" ++ N), V.str ((W ++ "  ") ++ W), V.str (" " ++ W), V.str (Txt.upper W), V.str S, V.str (cutS W none (some 3) ++ S), V.str ""] ++ [V.str (N ++ S), V.str (S ++ N), V.str (("ab" ++ S) ++ "c"), V.str ((N ++ " ") ++ W), V.str ("-" ++ N), V.str (W ++ " ")])) p3 = some (.lst (ws.map V.str)) := by
        intro Hx
        rw [upd_same, ← hwl]
        rfl
      have hlw : ws.length = 15 := by rw [← hwl]; rfl
      have gp9 : ∀ o : HO, Gp p H2 (upd (upd (upd H8 p1 (.lst [V.str W, V.str N, V.str ("0" ++ N), V.str ((W ++ "  ") ++ W), V.str (" " ++ W), V.str (Txt.upper W), V.str S, V.str (cutS W none (some 3) ++ S), V.str ""])) p2 (.lst [V.str (N ++ S), V.str (S ++ N), V.str (("ab" ++ S) ++ "c"), V.str ((N ++ " ") ++ W), V.str ("-" ++ N), V.str (W ++ " ")])) p3 o) :=
        fun o => gp8.trans (Gp.gr (((Gr.new np1).trans (Gr.new np2)).trans (Gr.new np3)))
      have dr9 : ∀ o : HO, Drw (upd (upd (upd H8 p1 (.lst [V.str W, V.str N, V.str ("0" ++ N), V.str ((W ++ "  ") ++ W), V.str (" " ++ W), V.str (Txt.upper W), V.str S, V.str (cutS W none (some 3) ++ S), V.str ""])) p2 (.lst [V.str (N ++ S), V.str (S ++ N), V.str (("ab" ++ S) ++ "c"), V.str ((N ++ " ") ++ W), V.str ("-" ++ N), V.str (W ++ " ")])) p3 o) p ((i : Int) + 14) :=
        fun o => ((dr8'.new np1).new np2).new np3
      have hp3' := hp3 (upd (upd H8 p1 (.lst [V.str W, V.str N, V.str ("0" ++ N), V.str ((W ++ "  ") ++ W), V.str (" " ++ W), V.str (Txt.upper W), V.str S, V.str (cutS W none (some 3) ++ S), V.str ""])) p2 (.lst [V.str (N ++ S), V.str (S ++ N), V.str (("ab" ++ S) ++ "c"), V.str ((N ++ " ") ++ W), V.str ("-" ++ N), V.str (W ++ " ")]))
      have gp9' := gp9 (.lst ([V.str W, V.str N, V.str ("0" ++ N), V.str ((W ++ "  ") ++ W), V.str (" " ++ W), V.str (Txt.upper W), V.str S, V.str (cutS W none (some 3) ++ S), V.str ""] ++ [V.str (N ++ S), V.str (S ++ N), V.str (("ab" ++ S) ++ "c"), V.str ((N ++ " ") ++ W), V.str ("-" ++ N), V.str (W ++ " ")]))
      have dr9' := dr9 (.lst ([V.str W, V.str N, V.str ("0" ++ N), V.str ((W ++ "  ") ++ W), V.str (" " ++ W), V.str (Txt.upper W), V.str S, V.str (cutS W none (some 3) ++ S), V.str ""] ++ [V.str (N ++ S), V.str (S ++ N), V.str (("ab" ++ S) ++ "c"), V.str ((N ++ " ") ++ W), V.str ("-" ++ N), V.str (W ++ " ")]))
      generalize upd (upd (upd H8 p1 (.lst [V.str W, V.str N, V.str ("0" ++ N), V.str ((W ++ "  ") ++ W), V.str (" " ++ W), V.str (Txt.upper W), V.str S, V.str (cutS W none (some 3) ++ S), V.str ""])) p2 (.lst [V.str (N ++ S), V.str (S ++ N), V.str (("ab" ++ S) ++ "c"), V.str ((N ++ " ") ++ W), V.str ("-" ++ N), V.str (W ++ " ")])) p3 (.lst ([V.str W, V.str N, V.str ("0" ++ N), V.str ((W ++ "  ") ++ W), V.str (" " ++ W), V.str (Txt.upper W), V.str S, V.str (cutS W none (some 3) ++ S), V.str ""] ++ [V.str (N ++ S), V.str (S ++ N), V.str (("ab" ++ S) ++ "c"), V.str ((N ++ " ") ++ W), V.str ("-" ++ N), V.str (W ++ " ")])) = H9 at hp3' gp9' dr9' ⊢
      clear hp3 gp9 dr9
      have gr9 : Gr Hs H9 := Gp.out g02 nps gp9'
      have tb1 : True := trivial
      have tb2 : True := trivial
      -- each word is looked at
      refine ⟨_, rfl, p3, rfl, ⟨_, .inl (.inl hp3')⟩, fun D2 nD2 => ?_⟩
      have gD2 : Gr H9 (upd H9 D2 (.lst [])) := Gr.new nD2
      refine lc_it (walk_list (xs := ws.map V.str)) (fun j H10 => Gr (upd H9 D2 (.lst [])) H10) (Gr.refl _) ?v0 ?v1 ?v2
      case v0 =>
        intro j H10 hj g10
        exact .inl (.inl ((gD2.trans g10).lst hp3'))
      case v1 =>
        rintro j x H10 H10' hj g10 ⟨rfl, ex⟩
        obtain ⟨z, hz, rfl⟩ := List.mem_map.mp (List.mem_of_getElem? ex)
        have shz := hws z hz
        refine ⟨rfl, _, rfl, z, rfl, shz.1, by have := shz.2; omega, trivial, trivial, fun H11 g11 => ⟨_, rfl, iteF ?_⟩⟩
        exact g10.trans g11
      case v2 =>
      intro H10 g10
      have hD10 : H10 D2 = some (.lst []) := g10.lst upd_same
      refine ⟨Nat.zero_le _, fun p5 np5 => ?_⟩
      have nD5 : D2 ≠ p5 := ne_of_none hD10 np5
      refine ⟨.list [], .list [], .lst (.inl (.inl ((upd_ne nD5).trans hD10))) .nil, .lst (.inl (.inl upd_same)) .nil, rfl, rfl, _, rfl, iteF ?_⟩
      have g11 : Gr H9 (upd H10 p5 (.lst [])) := (gD2.trans g10).trans (Gr.new np5)
      have dr11 : Drw (upd H10 p5 (.lst [])) p ((i : Int) + 14) := dr9'.gr g11
      have gp11 : Gp p H2 (upd H10 p5 (.lst [])) := gp9'.trans (Gp.gr g11)
      generalize upd H10 p5 (.lst []) = H11 at g11 dr11 gp11 ⊢
      -- a thing of another kind
      refine ⟨Nat.zero_le _, fun o1 no1 => ?_⟩
      refine ⟨by show 1 ≤ sizeLine; decide, fun o2 no2 => ?_⟩
      intro o3 no3
      refine ⟨by show 1 ≤ sizeLine; decide, fun o4 no4 => ?_⟩
      refine ⟨by show 7 ≤ sizeLine; decide, fun ol nol => ?_⟩
      have q1' : upd H11 o1 (.lst []) o1 = some (.lst []) := upd_same
      have gq2 : Gr (upd H11 o1 (.lst [])) (upd (upd H11 o1 (.lst [])) o2 (.lst [.str "a"])) := Gr.new no2
      have gq3 : Gr (upd (upd H11 o1 (.lst [])) o2 (.lst [.str "a"])) (upd (upd (upd H11 o1 (.lst [])) o2 (.lst [.str "a"])) o3 (.dK [])) := Gr.new no3
      have gq4 : Gr (upd (upd (upd H11 o1 (.lst [])) o2 (.lst [.str "a"])) o3 (.dK [])) (upd (upd (upd (upd H11 o1 (.lst [])) o2 (.lst [.str "a"])) o3 (.dK [])) o4 (.tup [.str "a"])) := Gr.new no4
      have f1 := (gq2.trans (gq3.trans gq4)).lst q1'
      have f2 := (gq3.trans gq4).lst (upd_same (H := upd H11 o1 (.lst [])) (a := o2) (o := .lst [.str "a"]))
      have f3 := gq4.dic (upd_same (H := upd (upd H11 o1 (.lst [])) o2 (.lst [.str "a"])) (a := o3) (o := .dK []))
      have f4 : (upd (upd (upd (upd H11 o1 (.lst [])) o2 (.lst [.str "a"])) o3 (.dK [])) o4 (.tup [.str "a"])) o4 = some (.tup [.str "a"]) := upd_same
      have gq : Gr H11 (upd (upd (upd (upd H11 o1 (.lst [])) o2 (.lst [.str "a"])) o3 (.dK [])) o4 (.tup [.str "a"])) := (Gr.new no1).trans (gq2.trans (gq3.trans gq4))
      generalize upd (upd (upd (upd H11 o1 (.lst [])) o2 (.lst [.str "a"])) o3 (.dK [])) o4 (.tup [.str "a"]) = H12 at f1 f2 f3 f4 gq nol ⊢
      clear gq2 gq3 gq4 q1'
      have gol : Gr H12 (upd H12 ol (.lst [.non, .bl true, .ref o1, .ref o2, .ref o3, .ref o4, .bl false])) := Gr.new nol
      have hol : upd H12 ol (.lst [.non, .bl true, .ref o1, .ref o2, .ref o3, .ref o4, .bl false]) ol = some (.lst [.non, .bl true, .ref o1, .ref o2, .ref o3, .ref o4, .bl false]) := upd_same
      have f1' := gol.lst f1
      have f2' := gol.lst f2
      have f3' := gol.dic f3
      have f4' := gol.tup f4
      have dr13 := (dr11.gr gq).gr gol
      have gp13 : Gp p H2 (upd H12 ol (.lst [.non, .bl true, .ref o1, .ref o2, .ref o3, .ref o4, .bl false])) := gp11.trans (Gp.gr (gq.trans gol))
      generalize upd H12 ol (.lst [.non, .bl true, .ref o1, .ref o2, .ref o3, .ref o4, .bl false]) = H13 at f1' f2' f3' f4' hol dr13 gp13 ⊢
      have dne : ∀ b o, H13 b = some o → (∀ kvs, o ≠ .dK kvs) → b ≠ p := by
        intro b o e nk z
        obtain ⟨l, sx, t, ed, _⟩ := dr13
        rw [z, ed] at e
        exact nk _ (Option.some.inj e).symm
      have o3p : o3 ≠ p := by
        obtain ⟨l, sx, t, ed, _⟩ := dr13
        intro z
        rw [z, ed] at f3'
        cases f3'
      refine ⟨_, rfl, p, 7, _, rfl, dr13, by omega, by decide, by decide, fun H14 d b14 dr14 d0' d7' => ?_⟩
      have k1 := (b14 o1 (dne _ _ f1' (fun _ z => by cases z))).trans f1'
      have k2 := (b14 o2 (dne _ _ f2' (fun _ z => by cases z))).trans f2'
      have k3 := (b14 o3 o3p).trans f3'
      have k4 := (b14 o4 (dne _ _ f4' (fun _ z => by cases z))).trans f4'
      have kl := (b14 ol (dne _ _ hol (fun _ z => by cases z))).trans hol
      obtain ⟨v, ev, ov⟩ := pick7 k1 k2 k3 k4 d0' d7'
      refine ⟨ol, _, d, v, rfl, rfl, .inl (.inl kl), ev, ?_⟩
      have gp14 : Gp p H2 H14 := gp13.trans (Gp.but b14)
      have gr14 : Gr Hs H14 := Gp.out g02 nps gp14
      have td1 : True := trivial
      have td2 : True := trivial
      -- found
      obtain ⟨T1, i1, n1', n2'⟩ := ov.is (K := K)
      have nst : ∀ z, v ≠ .str z := i1.ntext n2'
      have nin : ∀ z, v ≠ .int z := i1.nint n1'
      refine ⟨_, rfl, v, T1, rfl, i1, odd_sized i1 n2', td1, fun H15 g15 => ?_⟩
      have ov15 := ov.gr g15
      obtain ⟨T2, i2, m1, m2⟩ := ov15.is (K := K)
      refine ⟨_, rfl, v, T2, rfl, i2, odd_sized i2 m2, trivial, fun H16 g16 => ?_⟩
      have ov16 := ov15.gr g16
      obtain ⟨T3, i3, r1, r2⟩ := ov16.is (K := K)
      refine ⟨_, rfl, v, T3, rfl, i3, odd_sized i3 r2, fun _ => ?_, fun z _ e => absurd e (nst z), fun z _ _ e => absurd e (nst z)⟩
      refine ⟨_, rfl, v, T3, rfl, i3, _, rfl, v, T3, 0, 1, rfl, i3, by show 5 ≤ sizeLine; decide, fun lf nlf => ?_⟩
      have e1 : nameV v = false := name_no nst
      have e2 : numV v 2 = .non := num_no nst
      have e3 : (T3 == "int") = false := by simpa using r1
      have e4 : amongV v 0 1 = false := among_no nin
      rw [e1, e2, e3, e4]
      have hlf : upd H16 lf (.lst [.bl false, .non, .non, .bl false, .bl false]) lf = some (.lst [.bl false, .non, .non, .bl false, .bl false]) := upd_same
      have dr17 : Drw (upd H16 lf (.lst [.bl false, .non, .non, .bl false, .bl false])) p ((i : Int) + 14 + 1) := (dr14.gr (g15.trans g16)).new nlf
      have gp17 : Gp p H2 (upd H16 lf (.lst [.bl false, .non, .non, .bl false, .bl false])) := gp14.trans (Gp.gr ((g15.trans g16).trans (Gr.new nlf)))
      generalize upd H16 lf (.lst [.bl false, .non, .non, .bl false, .bl false]) = H17 at hlf dr17 gp17 ⊢
      refine ⟨_, rfl, lf, d5, t5, rfl, .lst (.inl (.inl hlf)) (.cons (.bl _) (.cons .non (.cons .non (.cons (.bl _) (.cons (.bl _) .nil))))), by decide +kernel, rfl, by decide +kernel, s5, by decide +kernel, rfl, _, rfl, iteNS rfl ?_⟩
      -- a number
      refine ⟨_, rfl, p, 1000, _, rfl, dr17, by omega, by decide, by decide, fun H18 d18 b18 dr18 x0 x1 => ?_⟩
      refine ⟨d18, 400, rfl, rfl, ?_⟩
      have gp18 : Gp p H2 H18 := gp17.trans (Gp.but b18)
      have gr18 : Gr Hs H18 := Gp.out g02 nps gp18
      have te1 : True := trivial
      have te2 : True := trivial
      change gName 12 (V.int (d18 - 400)) _ _ _
      generalize d18 - 400 = ow
      have sz : Sized (.int ow) := fun z e => by cases e
      refine ⟨_, rfl, _, "int", rfl, is_int ow, _, rfl, _, rfl, _, rfl, _, "int", ow, ow, rfl, is_int ow, _, rfl, _, rfl, ow, 1, rfl, rfl, _, rfl, ow, 2, rfl, rfl, _, "int", _, _, rfl, is_int ow, _, rfl, _, "int", rfl, is_int ow, sz, te1, fun H19 g19 => ?_⟩
      refine ⟨by show 4 ≤ sizeLine; decide, fun l2' nl2 => ?_⟩
      have a1 : amongV (.int ow) ow ow = true := by simp [amongV]
      have a2 : amongV (.int ow) (ow + 1) (ow + 2) = false := by
        simp only [amongV]
        rw [decide_eq_false (by omega)]
        rfl
      have a3 : amongV (.int ow) (ow - 2) (ow - 1) = false := by
        simp only [amongV]
        rw [decide_eq_false (show ¬ ow ≤ ow - 1 by omega), Bool.and_false]
      rw [a1, a2]
      have hl2 : upd H19 l2' (.lst [.bl ("int" == "int"), .bl true, .bl false, .bl (nameV (.int ow))]) l2' = some (.lst [.bl true, .bl true, .bl false, .bl false]) := upd_same
      have gr20 : Gr H18 (upd H19 l2' (.lst [.bl ("int" == "int"), .bl true, .bl false, .bl (nameV (.int ow))])) := g19.trans (Gr.new nl2)
      generalize upd H19 l2' (.lst [.bl ("int" == "int"), .bl true, .bl false, .bl (nameV (.int ow))]) = H20 at hl2 gr20 ⊢
      refine ⟨_, rfl, _, rfl, _, rfl, ow, 2, rfl, rfl, _, rfl, ow, 1, rfl, rfl, _, "int", _, _, rfl, is_int ow, _, rfl, _, "int", rfl, is_int ow, sz, trivial, fun H21 g21 => ?_⟩
      rw [a3]
      refine ⟨by show 2 ≤ sizeLine; decide, fun l3 nl3 => ?_⟩
      have hl21 := g21.lst hl2
      have n23 : l2' ≠ l3 := ne_of_none hl21 nl3
      refine ⟨l2', l3, _, _, rfl, rfl, (upd_ne n23).trans hl21, upd_same, by show 6 ≤ sizeLine; decide, fun l4 nl4 => ?_⟩
      refine ⟨l4, d6, t6, rfl, .lst (.inl (.inl upd_same)) (.cons (.bl _) (.cons (.bl _) (.cons (.bl _) (.cons (.bl _) (.cons (.bl _) (.cons .non .nil)))))), by decide +kernel, rfl, by decide +kernel, s6, by decide +kernel, rfl, _, rfl, iteNS rfl ?_⟩
      refine ⟨_, _, _, _, _, _, _, _, _, _, _, _, _, _, _, rfl, ?_⟩
      exact gr18.trans ((gr20.trans g21).trans ((Gr.new nl3).trans (Gr.new nl4)))
end
end SfK

namespace SfG
open PySem PySem.Spec PyProof.Rows L2
/-! ### the end of a law whose defs have tables -/
/-- the top's defs and their tables, still empty -/
def TabsOf (q : Program) (mg : Str → Option Value) (h : Heap) : Prop := ∀ d ∈ recsOf q, ∃ a o fd c P,
  mg d.name = some (.ref a) ∧ h.get? a = some o ∧ o.data = .func fd ∧ fd.code = .ref c ∧ h.IsCode c P #[] ∧ h.TableAt c P #[]
theorem tab_of {q : Program} {mg : Str → Option Value} {h : Heap} {K : PySem.W.Frag} {nm x qual : Str} {st : Stmt} {f c P : Addr} {fd : FuncData}
    {e : Value} {dd : Option Addr} {vs : Array Value} {sl : Array (Option Value)} (T : TabsOf q mg h) (hrec : ((recsOf q).any fun d => d.name == nm) = true)
    (g : mg nm = some (.ref f)) (KX : K.In h) (F : FunC K x qual st f fd c) (kc : K.lookup c = some ⟨e, dd, .fields vs, sl⟩) (kp : vs[11]? = some (.ref P)) :
    h.get? P = some { cls := .none, data := .fields #[] } ∧ PySem.W.CodeHd h c P := by
  obtain ⟨d, hm, hn⟩ := List.any_eq_true.mp hrec
  have hn2 : d.name = nm := beq_iff_eq.mp hn
  obtain ⟨a, o, fd', c', P', h1, h2, h3, h4, h5, h6⟩ := T d hm
  rw [hn2, g] at h1
  cases h1
  obtain ⟨oc, od, kV, doc, pm, an, ct, osl, rfl, lk, hcd⟩ := F.ex
  rw [KX _ _ lk] at h2
  cases h2
  cases h3
  have ec : c = c' := by
    have z : Value.ref c = Value.ref c' := h4
    cases z
    rfl
  subst ec
  obtain ⟨⟨o1, v1, a1, a2, a3, a4⟩, hP⟩ := h6
  have ek := KX _ _ kc
  rw [ek] at a1
  cases a1
  cases a3
  rw [kp] at a4
  cases a4
  obtain ⟨o2, v2, file, tf, flags, tg, inF, text, tt, op, b1, b2, b3, b4, b5, b6, b7, b8, b9, b10, b11⟩ := h5
  rw [ek] at b1
  cases b1
  cases b2
  exact ⟨hP, _, _, file, tf, flags, tg, inF, text, tt, ek, a2, rfl, kp, b3, b4, b5, b6, b7, b11⟩
/-- what is known of the law's promise at the head's heap h -/
def LawG (l : PySem.W.OpenLaw) (w : World) (K : PySem.W.Frag) (CX : CXT) (k n : Nat) (x : Str) (mg : Str → Option Value) (fa : Addr) (h : Heap) : Prop :=
  ∃ (fd : FuncData) (cs : List (Addr × Addr)) (sp : Sp), (∀ p ∈ cs, h.get? p.2 = some { cls := .none, data := .fields #[] }) ∧ (∀ p ∈ cs, K.lookup p.2 = none) ∧
    (∀ p ∈ cs, PySem.W.CodeHd h p.1 p.2) ∧ (∀ (s : Shared) (u : Value), BindsTo s fd ⟨[u], []⟩ [(x, u)]) ∧
    (∀ (H : Hp) (a : Addr) (ns : List Int), ns.length ≤ n → (∀ p ∈ cs, H p.2 = some (.tbl #[])) → SqL K H a (ns.map V.int) → sp [.ref a] H (fun v _ => v = .bl true) fun _ _ _ => False) ∧
    ∀ base : Heap, K.In base → base.Ns mainGlobals mg → (∀ p ∈ cs, GxR.TabB base mg p.1 p.2) → FnG l.prog w K mg base CX k fa fd [x] sp
theorem walk_G {l : PySem.W.OpenLaw} {n k : Nat} {q : Program} {loose : List Str} {XP : (Str → Option Value) → Heap → Prop} {YP : World → Heap → Prop} {d : DefRec}
    {K : Params → PySem.W.Frag} {CX : World → CXT} {x : Str} (hn : l.most = some n) (hn2 : n ≤ sizeLine) (hdf : d.params.defaults = []) (hr : Room k callerA)
    (hY : ∀ (w : World) (h : Heap), YP w h → (K w.params).In h)
    (F : ∀ (w : World) (mg : Str → Option Value) (fa : Addr) (h : Heap), (K w.params).In h → h.Ns mainGlobals mg → mg d.name = some (.ref fa) → TabsOf q mg h →
      LawG l w (K w.params) (CX w) k n x mg fa h)
    (hCX : ∀ (w : World) (H : Hp) (s : Shared) (e : Value) (s' : Shared), CX w [] H s (fun _ _ _ => False) e s' → False) :
    PySem.W.WalkO q loose XP YP l.row.toRowW d [] (fun f vs => PySem.call f vs) := by
  refine Att.attach_callB hn hdf ?_
  intro w s0 s1 mg mb fa o pm cd doc a vs ns G Y ho hd hcd hmg hobj hints hlen hbits hg
  have KX := hY w _ Y
  obtain ⟨fd, cs, sp, hT, nT, C, hb, hsp, hF⟩ := F w mg fa _ KX G.T.g hmg G.T.tab
  have S : Stands (K w.params) mg mb cs s1 a vs := ⟨KX, G.T.g, G.T.b, G.T.builtins, G.T.nolimit, hg, hT, nT, C, G.T.bmain, hobj⟩
  exact end_call S hints (Nat.le_trans hlen hn2) hr hF hb (fun H hH hS => hsp H a ns hlen hH hS) fun H e s' => hCX w H s1 e s'
end SfG

namespace SfK
open PySem PySem.Spec PyProof.Rows L2 SfG
set_option maxHeartbeats 4000000 in
theorem all_mk {l : PySem.W.OpenLaw} {q : Program} {w : World} {K : PySem.W.Frag} {h : Heap} {mg : Str → Option Value} {fa : Addr} (X : K.In h) (G : h.Ns mainGlobals mg) (hfa : mg "law" = some (.ref fa)) (T : TabsOf q mg h)
    {fW : Addr} {odW anW : Option Addr} {slW : Array (Option Value)} {ocW kVW dcW pmW ctW : Value} {cdW : Value}
    (aW : PySem.W.nsIn K mainGlobals "is_whole" = some (some (.ref fW))) (lW : K.lookup fW = some ⟨ocW, odW, .func (PySem.W.fnOf "is_whole" "is_whole" (defArgs sWhole) (defBody sWhole) (defScope sWhole) .none kVW dcW pmW anW cdW ctW), slW⟩) (hW : PySem.W.codeIn K cdW "is_whole" = true) (kW : PySem.W.keepIn K (.ref fW) = true)
    {fA : Addr} {odA anA : Option Addr} {slA : Array (Option Value)} {ocA kVA dcA pmA ctA : Value} {cdA : Value}
    (aA : PySem.W.nsIn K mainGlobals "is_among" = some (some (.ref fA))) (lA : K.lookup fA = some ⟨ocA, odA, .func (PySem.W.fnOf "is_among" "is_among" (defArgs sAmong) (defBody sAmong) (defScope sAmong) .none kVA dcA pmA anA cdA ctA), slA⟩) (hA : PySem.W.codeIn K cdA "is_among" = true) (kA : PySem.W.keepIn K (.ref fA) = true)
    {fN : Addr} {odN anN : Option Addr} {slN : Array (Option Value)} {ocN kVN dcN pmN ctN : Value} {cdN : Value}
    (aN : PySem.W.nsIn K mainGlobals "is_name" = some (some (.ref fN))) (lN : K.lookup fN = some ⟨ocN, odN, .func (PySem.W.fnOf "is_name" "is_name" (defArgs sName) (defBody sName) (defScope sName) .none kVN dcN pmN anN cdN ctN), slN⟩) (hN : PySem.W.codeIn K cdN "is_name" = true) (kN : PySem.W.keepIn K (.ref fN) = true)
    {fF : Addr} {odF anF : Option Addr} {slF : Array (Option Value)} {ocF kVF dcF pmF ctF : Value} {cdF : Value}
    (aF : PySem.W.nsIn K mainGlobals "number_by_figures" = some (some (.ref fF))) (lF : K.lookup fF = some ⟨ocF, odF, .func (PySem.W.fnOf "number_by_figures" "number_by_figures" (defArgs sFigs) (defBody sFigs) (defScope sFigs) .none kVF dcF pmF anF cdF ctF), slF⟩) (hF : PySem.W.codeIn K cdF "number_by_figures" = true) (kF : PySem.W.keepIn K (.ref fF) = true)
    {fU : Addr} {odU anU : Option Addr} {slU : Array (Option Value)} {ocU kVU dcU pmU ctU : Value} {cdU : Value}
    (aU : PySem.W.nsIn K mainGlobals "number_of" = some (some (.ref fU))) (lU : K.lookup fU = some ⟨ocU, odU, .func (PySem.W.fnOf "number_of" "number_of" (defArgs sNum) (defBody sNum) (defScope sNum) .none kVU dcU pmU anU cdU ctU), slU⟩) (hU : PySem.W.codeIn K cdU "number_of" = true) (kU : PySem.W.keepIn K (.ref fU) = true)
    {fS : Addr} {odS anS : Option Addr} {slS : Array (Option Value)} {ocS kVS dcS pmS ctS : Value} {cdS : Value}
    (aS : PySem.W.nsIn K mainGlobals "words_of" = some (some (.ref fS))) (lS : K.lookup fS = some ⟨ocS, odS, .func (PySem.W.fnOf "words_of" "words_of" (defArgs sWords) (defBody sWords) (defScope sWords) .none kVS dcS pmS anS cdS ctS), slS⟩) (hS : PySem.W.codeIn K cdS "words_of" = true) (kS : PySem.W.keepIn K (.ref fS) = true)
    {fM : Addr} {odM anM : Option Addr} {slM : Array (Option Value)} {ocM kVM dcM pmM ctM : Value} {cdM : Value}
    (aM : PySem.W.nsIn K mainGlobals "_law_mixed" = some (some (.ref fM))) (lM : K.lookup fM = some ⟨ocM, odM, .func (PySem.W.fnOf "_law_mixed" "_law_mixed" (defArgs sMixed) (defBody sMixed) (defScope sMixed) .none kVM dcM pmM anM cdM ctM), slM⟩) (hM : PySem.W.codeIn K cdM "_law_mixed" = true) (kM : PySem.W.keepIn K (.ref fM) = true)
    {fD : Addr} {odD anD : Option Addr} {slD : Array (Option Value)} {ocD kVD dcD pmD ctD : Value} {cdD : Value}
    (aD : PySem.W.nsIn K mainGlobals "_law_draw" = some (some (.ref fD))) (lD : K.lookup fD = some ⟨ocD, odD, .func (PySem.W.fnOf "_law_draw" "_law_draw" (defArgs sDraw) (defBody sDraw) (defScope sDraw) .none kVD dcD pmD anD cdD ctD), slD⟩) (hD : PySem.W.codeIn K cdD "_law_draw" = true) (kD : PySem.W.keepIn K (.ref fD) = true)
    {fG : Addr} {odG anG : Option Addr} {slG : Array (Option Value)} {ocG kVG dcG pmG ctG : Value} {cdG : Value}
    (aG : PySem.W.nsIn K mainGlobals "_law_digit" = some (some (.ref fG))) (lG : K.lookup fG = some ⟨ocG, odG, .func (PySem.W.fnOf "_law_digit" "_law_digit" (defArgs sDigit) (defBody sDigit) (defScope sDigit) .none kVG dcG pmG anG cdG ctG), slG⟩) (hG : PySem.W.codeIn K cdG "_law_digit" = true) (kG : PySem.W.keepIn K (.ref fG) = true)
    {fB : Addr} {odB anB : Option Addr} {slB : Array (Option Value)} {ocB kVB dcB pmB ctB : Value} {cdB : Value}
    (aB : PySem.W.nsIn K mainGlobals "_law_number" = some (some (.ref fB))) (lB : K.lookup fB = some ⟨ocB, odB, .func (PySem.W.fnOf "_law_number" "_law_number" (defArgs sLNum) (defBody sLNum) (defScope sLNum) .none kVB dcB pmB anB cdB ctB), slB⟩) (hB : PySem.W.codeIn K cdB "_law_number" = true) (kB : PySem.W.keepIn K (.ref fB) = true)
    {fR : Addr} {odR anR : Option Addr} {slR : Array (Option Value)} {ocR kVR dcR pmR ctR : Value} {cdR : Value}
    (aR : PySem.W.nsIn K mainGlobals "_law_word_right" = some (some (.ref fR))) (lR : K.lookup fR = some ⟨ocR, odR, .func (PySem.W.fnOf "_law_word_right" "_law_word_right" (defArgs sRight) (defBody sRight) (defScope sRight) .none kVR dcR pmR anR cdR ctR), slR⟩) (hR : PySem.W.codeIn K cdR "_law_word_right" = true) (kR : PySem.W.keepIn K (.ref fR) = true)
    {fL : Addr} {odL anL : Option Addr} {slL : Array (Option Value)} {ocL kVL dcL pmL ctL : Value} {cdL : Value}
    (aL : PySem.W.nsIn K mainGlobals "law" = some (some (.ref fL))) (lL : K.lookup fL = some ⟨ocL, odL, .func (PySem.W.fnOf "law" "law" (defArgs sLaw) (defBody sLaw) (defScope sLaw) .none kVL dcL pmL anL cdL ctL), slL⟩) (hL : PySem.W.codeIn K cdL "law" = true) (kL : PySem.W.keepIn K (.ref fL) = true)
    (z_isinstance : PySem.W.nsIn K mainGlobals "isinstance" = some none)
    (z_int : PySem.W.nsIn K mainGlobals "int" = some none)
    (z_str : PySem.W.nsIn K mainGlobals "str" = some none)
    (z_len : PySem.W.nsIn K mainGlobals "len" = some none)
    (z_range : PySem.W.nsIn K mainGlobals "range" = some none)
    (z_repr : PySem.W.nsIn K mainGlobals "repr" = some none)
    (z_list : PySem.W.nsIn K mainGlobals "list" = some none)
    (z_enumerate : PySem.W.nsIn K mainGlobals "enumerate" = some none)
    (z_sum : PySem.W.nsIn K mainGlobals "sum" = some none)
    (z_abs : PySem.W.nsIn K mainGlobals "abs" = some none) :
    LawG l w K CX0 4 63 "_law_script" mg fa h := by
  have e := hfa.symm.trans (PySem.W.mg_of X G aL)
  cases e
  have FW := fun_mk (st := sWhole) lW hW kW
  have FA := fun_mk (st := sAmong) lA hA kA
  have FN := fun_mk (st := sName) lN hN kN
  have FF := fun_mk (st := sFigs) lF hF kF
  have FU := fun_mk (st := sNum) lU hU kU
  have FS := fun_mk (st := sWords) lS hS kS
  have FM := fun_mk (st := sMixed) lM hM kM
  have FD := fun_mk (st := sDraw) lD hD kD
  have FG := fun_mk (st := sDigit) lG hG kG
  have FB := fun_mk (st := sLNum) lB hB kB
  have FR := fun_mk (st := sRight) lR hR kR
  have FL := fun_mk (st := sLaw) lL hL kL
  have bW := (FW).binds (ps := ["thing"]) fun _ _ _ _ _ _ us hl => match us, hl with | [_], _ => rfl
  have gW := PySem.W.mg_of X G aW
  have bA := (FA).binds (ps := ["thing", "least", "most"]) fun _ _ _ _ _ _ us hl => match us, hl with | [_, _, _], _ => rfl
  have gA := PySem.W.mg_of X G aA
  have bN := (FN).binds (ps := ["thing"]) fun _ _ _ _ _ _ us hl => match us, hl with | [_], _ => rfl
  have gN := PySem.W.mg_of X G aN
  have bF := (FF).binds (ps := ["word", "most"]) fun _ _ _ _ _ _ us hl => match us, hl with | [_, _], _ => rfl
  have gF := PySem.W.mg_of X G aF
  have bU := (FU).binds (ps := ["word"]) fun _ _ _ _ _ _ us hl => match us, hl with | [_], _ => rfl
  have gU := PySem.W.mg_of X G aU
  have bS := (FS).binds (ps := ["row"]) fun _ _ _ _ _ _ us hl => match us, hl with | [_], _ => rfl
  have gS := PySem.W.mg_of X G aS
  have bM := (FM).binds (ps := ["_law_cell", "_law_k"]) fun _ _ _ _ _ _ us hl => match us, hl with | [_, _], _ => rfl
  have gM := PySem.W.mg_of X G aM
  have bD := (FD).binds (ps := ["_law_cell", "_law_k"]) fun _ _ _ _ _ _ us hl => match us, hl with | [_, _], _ => rfl
  have gD := PySem.W.mg_of X G aD
  have bG := (FG).binds (ps := ["_law_state", "_law_many"]) fun _ _ _ _ _ _ us hl => match us, hl with | [_, _], _ => rfl
  have gG := PySem.W.mg_of X G aG
  have bB := (FB).binds (ps := ["_law_word"]) fun _ _ _ _ _ _ us hl => match us, hl with | [_], _ => rfl
  have gB := PySem.W.mg_of X G aB
  have bR := (FR).binds (ps := ["_law_word"]) fun _ _ _ _ _ _ us hl => match us, hl with | [_], _ => rfl
  have gR := PySem.W.mg_of X G aR
  have m_isinstance := PySem.W.mg_none_of X G z_isinstance
  have m_int := PySem.W.mg_none_of X G z_int
  have m_str := PySem.W.mg_none_of X G z_str
  have m_len := PySem.W.mg_none_of X G z_len
  have m_range := PySem.W.mg_none_of X G z_range
  have m_repr := PySem.W.mg_none_of X G z_repr
  have m_list := PySem.W.mg_none_of X G z_list
  have m_enumerate := PySem.W.mg_none_of X G z_enumerate
  have m_sum := PySem.W.mg_none_of X G z_sum
  have m_abs := PySem.W.mg_none_of X G z_abs
  refine ⟨PySem.W.fnOf "law" "law" (defArgs sLaw) (defBody sLaw) (defScope sLaw) .none kVL dcL pmL anL cdL ctL, [], spLaw K fa fa, ?_, ?_, ?_, fun s v => .of_eq rfl, ?_, ?_⟩
  · intro p hp
    cases hp
  · intro p hp
    cases hp
  · intro p hp
    cases hp
  · intro H a ns hl hH hS
    exact ⟨a, ns, rfl, hS, hl, trivial, trivial, fun _ => rfl⟩
  · intro base KB NB TB
    have OW : FnOk l.prog w K mg base CX0 1 fW _ ["thing"] (spWhole K) := ok_whole FW m_isinstance m_int
    have OA := ok_among (P := l.prog) (w := w) (base := base) FA FW bW gW OW
    have ON : FnOk l.prog w K mg base CX0 1 fN _ ["thing"] (spName K fa) := ok_name FN m_isinstance m_str m_len
    have OF : FnOk l.prog w K mg base CX0 1 fF _ ["word", "most"] (spFigs K fa) := ok_figs FF m_isinstance m_str m_len m_int
    have OU := ok_num (P := l.prog) (w := w) (base := base) FU FF bF gF OF
    have OS : FnOk l.prog w K mg base CX0 1 fS _ ["row"] (spWords K) := ok_words FS m_isinstance m_str
    have OD := ok_draw (P := l.prog) (w := w) (base := base) FD FM bM gM
    have OG := ok_digit (P := l.prog) (w := w) (base := base) FG FM bM gM m_range
    have OB : FnOk l.prog w K mg base CX0 1 fB _ ["_law_word"] spLNum := ok_lnum FB m_len
    have OR := ok_right (P := l.prog) (w := w) (base := base) FR ⟨OB.mono (by decide), gB, kB, bB⟩ ⟨ON.mono (by decide), gN, kN, bN⟩ ⟨OU, gU, kU, bU⟩ ⟨OW.mono (by decide), gW, kW, bW⟩ ⟨OA, gA, kA, bA⟩ ⟨OS.mono (by decide), gS, kS, bS⟩ m_len m_repr m_range m_isinstance m_list
    exact ok_law FL ⟨⟨OD.mono (by decide), gD, kD, bD⟩, ⟨OG.mono (by decide), gG, kG, bG⟩, ⟨ON.mono (by decide), gN, kN, bN⟩, ⟨OU.mono (by decide), gU, kU, bU⟩, ⟨OW.mono (by decide), gW, kW, bW⟩, ⟨OA.mono (by decide), gA, kA, bA⟩, ⟨OS.mono (by decide), gS, kS, bS⟩, OR, gR, kR, bR, m_enumerate, m_sum, m_range, m_len, m_str, m_repr, m_abs⟩
end SfK

open PySem PySem.W PyProof.Rows
set_option maxRecDepth 100000 in
set_option maxHeartbeats 0 in
theorem PySem.Challenge.cw_sameface_k01_words_and_numbers_holds : PySem.Challenge.rw_sameface_k01_words_and_numbers.Holds := by
  w_on; o_law; k_head; (case hw => w_witness2)
  k_fill
  refine SfG.walk_G (l := PySem.Challenge.rw_sameface_k01_words_and_numbers) (n := 63) (k := 4) (x := "_law_script") (CX := fun _ => L2.CX0) rfl (by decide) rfl ⟨rfl, by decide, by decide⟩ (fun w h Y => PySem.W.kIn_of Y) ?F (fun _ _ _ _ _ h => h)
  case F =>
    intro w mg fa h KX G hmg T
    refine' SfK.all_mk KX G hmg T ?aW ?lW ?hW ?kW ?aA ?lA ?hA ?kA ?aN ?lN ?hN ?kN ?aF ?lF ?hF ?kF ?aU ?lU ?hU ?kU ?aS ?lS ?hS ?kS ?aM ?lM ?hM ?kM ?aD ?lD ?hD ?kD ?aG ?lG ?hG ?kG ?aB ?lB ?hB ?kB ?aR ?lR ?hR ?kR ?aL ?lL ?hL ?kL ?z_isinstance ?z_int ?z_str ?z_len ?z_range ?z_repr ?z_list ?z_enumerate ?z_sum ?z_abs
    (case aW => k_is)
    (case lW => k_is)
    (case hW => k_is)
    (case kW => k_is)
    (case aA => k_is)
    (case lA => k_is)
    (case hA => k_is)
    (case kA => k_is)
    (case aN => k_is)
    (case lN => k_is)
    (case hN => k_is)
    (case kN => k_is)
    (case aF => k_is)
    (case lF => k_is)
    (case hF => k_is)
    (case kF => k_is)
    (case aU => k_is)
    (case lU => k_is)
    (case hU => k_is)
    (case kU => k_is)
    (case aS => k_is)
    (case lS => k_is)
    (case hS => k_is)
    (case kS => k_is)
    (case aM => k_is)
    (case lM => k_is)
    (case hM => k_is)
    (case kM => k_is)
    (case aD => k_is)
    (case lD => k_is)
    (case hD => k_is)
    (case kD => k_is)
    (case aG => k_is)
    (case lG => k_is)
    (case hG => k_is)
    (case kG => k_is)
    (case aB => k_is)
    (case lB => k_is)
    (case hB => k_is)
    (case kB => k_is)
    (case aR => k_is)
    (case lR => k_is)
    (case hR => k_is)
    (case kR => k_is)
    (case aL => k_is)
    (case lL => k_is)
    (case hL => k_is)
    (case kL => k_is)
    (case z_isinstance => k_is)
    (case z_int => k_is)
    (case z_str => k_is)
    (case z_len => k_is)
    (case z_range => k_is)
    (case z_repr => k_is)
    (case z_list => k_is)
    (case z_enumerate => k_is)
    (case z_sum => k_is)
    (case z_abs => k_is)
