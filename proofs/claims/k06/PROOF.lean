import PyProof.Rows.All
import Wide.All
import OpenK.AllK
import Wide.FinOn
import HandS.ForMost
import HandS.Walk
import HandS.Wide
import HandS.IsInst
import HandS.AnyAll
import HandS.Replace
import HandS.EndTab
import HandS.RaiseMore
import HandS.TupLe
import PyProof.ReprRoads
import PyProof.StrOps2
import HandS.TupAny
import KE.KExcSuper
import HandS.ExcInit
import HandS.FStr
import HandS.ForExc
import HandS.ExcIs
import HandS.ExcValue
import KE.KExcIs
import HandS.ExcField
import HandS.StrMore
import HandS.Style
import KE.GoesEnum
import KE.GoesMore
import PyProof.DictUpdate
import PyProof.ListIndex
import PyProof.FactsAll.bool_1
import PyProof.FactsAll.bool_2
import PyProof.EqKinds
import PyProof.NeKinds
import PyProof.StrLawsRepr
import HandS.TupMul
import KE.KRevSl
import HandS.Star
import PyProof.Rows.StrSplitCount
import PyProof.EqLayable
import KE.LtData
import PySem.Challenge.RW_sameface_k06_refusals_by_hand
set_option Elab.async false
set_option linter.all false
set_option maxRecDepth 100000
/-! calls made where no repr is under way; repr of lists; all(..) over a text with a module's name in its test; the law's end -/
namespace SfG
open PySem PySem.Spec PyProof.Rows L2
/-! ### a def's promise where no repr is under way -/
structure FnG (P : Program) (w : World) (K : PySem.W.Frag) (mg : Str → Option Value) (base : Heap)
    (CX : CXT) (k : Nat) (f : Addr) (fd : FuncData) (ps : List Str) (sp : Sp) : Prop where
  size : ∀ vs H Q E, sp vs H Q E → vs.length = ps.length
  goes : ∀ (A : Around) (outer : List Env) (s : Shared) (H : Hp) (args : Args) (us : List Value)
    (vs : List V) (Q : VK) (E : XK), Room k A → A.guards = some [] → Env0 P w K mg base A outer s H →
    BindsTo s fd args (ps.zip us) → Vals vs us → sp vs H Q E →
    codeAny (model P w) A (.call (.ref f) args) (CR CX outer P w H s Q E) s
section
variable {P : Program} {w : World} {K : PySem.W.Frag} {mg : Str → Option Value} {base : Heap}
/-- a def by its body, where no repr is under way -/
theorem fng_of {x qual : Str} {st : Stmt} {f : Addr} {fd : FuncData} {N ps : List Str} {k : Nat} {sp : Sp}
    (F : Fun K x qual st f fd) (S : FnScope N ps (defScope st)) (len : ∀ vs H Q E, sp vs H Q E → vs.length = ps.length)
    (hbody : ∀ (cdv : Value) (A : Around) (outer : List Env) (s : Shared) (H : Hp) (vs : List V) (Q : VK) (E : XK),
      Room k (A.deeper (envOfC qual (defScope st) s.heap.objs.size f cdv)) → A.guards = some [] → sp vs H Q E →
      ∃ t, PSs (cxOf CX0 P w K mg base N qual (defScope st) f cdv A outer s H E).nox (defBody st) t ∧
        t { nx := fun _ H' => Q .non H', rt := Q } (start N vs) H) :
    FnG P w K mg base CX0 (k + 1) f fd ps sp := by
  obtain ⟨oc, od, kV, doc, pm, an, cdv, ct, osl, rfl, lk, hcd⟩ := F.ex
  refine ⟨len, ?_⟩
  intro A outer s H args us vs Q E hr hgd e0 hb r hsp
  refine LamX.run_ofS lk hcd S hr e0 hb r (len _ _ _ _ hsp) ?_
  intro hr'
  obtain ⟨t, h, q⟩ := hbody cdv A outer s H vs Q E hr' hgd hsp
  exact ⟨t, h.nox, q⟩
end
section
variable {X : Cx} {CX : CXT} {k : Nat} {f : Addr} {fd : FuncData} {ps : List Str} {sp : Sp} {dvs : List V}
  {ds : List Value} {E : XK} {x : Str} {p pos : Pos} {e : Expr} {es : List Expr} {t : TA}
theorem run_fng {pins : List (Addr × Obj)} {σ : L2.St} {H : Hp} {s : Shared} {Q : VK} {us : List Value} {vs : List V}
    (F : FnG X.prog X.w X.K X.mg X.base CX k f fd ps sp) (hr : Room k X.A) (hgd : X.A.guards = some [])
    (hb : Binds X.K fd ps ds) (hd : Vals dvs ds) (hx : Passes CX X E) (I : L2.Inv X pins σ H s) (r : Vals vs us)
    (h : sp (vs ++ dvs) H Q E) : wpAny (model X.prog X.w) X.A (call (.ref f) us) (EP X pins σ Q) X.xe s := by
  have r2 := r.append hd
  have hl : (us ++ ds).length = ps.length := r2.length.symm.trans (F.size _ _ _ _ h)
  have go := F.goes X.A X.stack s H ⟨us, []⟩ _ _ Q E hr hgd I.env0 (hb s us I.kIn hl) r2 h
  refine wpAny_call (codeAny_mono go ?_)
  intro res s' hq
  match res, hq with
  | .error e, hq => exact hx pins σ H s e s' I hq
  | .ok (.ret u), hq => exact I.after hq
  | .ok .next, hq => exact False.elim hq
  | .ok .brk, hq => exact False.elim hq
  | .ok .cont, hq => exact False.elim hq
theorem pe_callG (F : FnG X.prog X.w X.K X.mg X.base CX k f fd ps sp) (hr : Room k X.A) (hgd : X.A.guards = some [])
    (hg : Gl X x) (hm : X.mg x = some (.ref f)) (hk : PySem.W.keepIn X.K (.ref f) = true)
    (hb : Binds X.K fd ps ds) (hd : Vals dvs ds) (hx : Passes CX X E) (ha : PA X (e :: es) t)
    (hdb : (x == ("__debug__" : Str)) = false := by decide)
    (he : starEach (e :: es) X.env = (false, eval e X.env) :: starEach es X.env := by rfl)
    (hpl : (backTo pos (starEach es X.env)).any (·.1) = false := by rfl) :
    PE X (.Call (.Name x p) (e :: es) [] pos) (tCall sp dvs E t) := by
  constructor
  intro pins s σ H Q I h
  refine wpAny_Call_Name_kw (ld_glob I hg hm ?_ hdb)
  refine PySem.W.callWith_K (h₀ := X.base) I.ok.mod.kin hk ?_ he hpl
  refine thn (ha.run pos pins s σ H _ I h) ?_
  rintro us s1 ⟨vs, H1, I1, r, q⟩
  exact ⟨I1.kIn, run_fng F hr hgd hb hd hx I1 r q⟩
end
/-! ### repr of a list or a tuple of plain data -/
def rRepr (K : PySem.W.Frag) : List V → Hp → VK → Prop := fun xs H Q =>
  ∃ (a : Addr) (d : PyData) (S : Str), xs = [.ref a] ∧ Dp K H (.ref a) d ∧ d.showable = true ∧ d.hasDict = false ∧
    d.depth ≤ 30 ∧ d.shown = S ∧ S.length ≤ sizeLine ∧ Q (.str S) H
theorem call_repr {X : Cx} {k : Nat} (hr : Room k X.A) (hgd : X.A.guards = some []) :
    CallR X (.builtin "repr") (rRepr X.K) := by
  intro pins s σ H xs us Q I r h
  obtain ⟨a, d, S, rfl, hd, hs, hn, hdep, rfl, hz, q⟩ := h
  obtain ⟨u, rfl, ru⟩ := vals1 r
  cases (show u = Value.ref a from ru)
  obtain ⟨as, rd⟩ := Dp.reads I d _ _ hd (show RelV (.ref a) (.ref a) from rfl)
  have hun := hr.un
  refine repr_of_reads' rd hs (fun z => ?_) hgd (by omega) (fun _ _ z => z) (fun h' u' tk hk => ?_) hz
  · rw [hn] at z
    cases z
  · exact ⟨.str d.shown, H, I.kept hk, ⟨_, rfl⟩, q⟩
/-! ### all(test for x in e), e a text, the test may name what the module holds -/
/-- the test of one sign, run in the expression's own frame; the module's names are to be had -/
def EltG (X : Cx) (scope : Scope) (x : Str) (elt : Expr) (pb : Nat → Bool) : Prop :=
  ∀ (cenv : Env) (A' : Around) (E' : Value → Shared → Prop) (c : Nat) (t : Tok) (s2 : Shared) (m2 : Str → Option Value),
    cenv.scope = scope → cenv.globals = mainGlobals → s2.heap.Ns mainGlobals X.mg → s2.heap.Ns cenv.locals m2 →
    m2 x = some (.str ⟨#[c]⟩ t) →
    wpAny (model X.prog X.w) A' (eval elt cenv) (fun y s3 => y = .bool (pb c) ∧ Keeps s2 s3) E' s2
/-- x in NAME, NAME a text of the module -/
theorem elt_in {X : Cx} {scope : Scope} {x g : Str} {z : Str} {tz : Tok} {p1 p2 p3 : Pos} (hk : scope.kind = .function)
    (hl : scope.names.lookup x = some .local) (hgl : scope.names.lookup g = some .globalImplicit) (hz : X.mg g = some (.str z tz))
    (hd : (x == ("__debug__" : Str)) = false := by decide) (hd2 : (g == ("__debug__" : Str)) = false := by decide) :
    EltG X scope x (.Compare (.Name x p1) [.In] [.Name g p2] p3) (fun c => decide (c ∈ z.cps.toList)) := by
  intro cenv A' E' c t s2 m2 hs hgb hmn hn hm
  have kd : cenv.scope.kind = .function := by rw [hs]; exact hk
  refine wpAny_Compare1 ?_
  refine wpAny_Name (wpAny_loadName_local kd (show cenv.scope.names.lookup x = some .local by rw [hs]; exact hl) hn hm ?_) hd
  refine Calls.Name_function_global kd (show cenv.scope.names.lookup g = some .globalImplicit by rw [hs]; exact hgl) ?_ hd2
  refine Calls.loadGlobal_global (by rw [hgb]; exact hmn) hz ?_
  refine PyProof.Rows.in_str ?_
  exact ⟨congrArg Value.bool (PySem.StrLaws.found_one z c), GxR.keeps_refl _⟩
/-- the expression's code object: found in the def's table, or laid there -/
theorem gen_code {prog : Program} {w : World} {A : Around} {E : Value → Shared → Prop} {env : Env} {gpos : Pos} {q : Str} {scope : Scope}
    {c P : Addr} {ps : Array Value} {s2 : Shared} {Q : Value → Shared → Prop} (hcode : env.code = .ref c) (cd : PySem.W.CodeHd s2.heap c P)
    (hP : s2.heap.get? P = some { cls := .none, data := .fields ps }) (ht : TriplesOk ps.toList)
    (h : ∀ (code : Value) (h3 : Heap) (tk : Nat) (ps' : Array Value), Heap.ExtBut P s2.heap h3 → s2.heap.objs.size ≤ h3.objs.size →
      h3.get? P = some { cls := .none, data := .fields ps' } → (∃ more, ps' = ps ++ more) → TriplesOk ps'.toList →
      Q code { s2 with heap := h3, toks := tk }) : wpAny (model prog w) A (genexprCode env gpos q scope) Q E s2 := by
  cases hf : codeAmong gpos ps.toList with
  | some cv =>
    exact wpAny_genexprCode_hit hcode (cd.code hP ht) hf (h cv s2.heap s2.toks ps (Heap.ExtBut.refl _ _) (Nat.le_refl _) hP ⟨#[], by simp⟩ ht)
  | none =>
    refine wpAny_genexprCodeX hcode (cd.code hP ht) (cd.tab hP) hf ?_
    intro c' h' tk hx hge hlt hco' _ htab' _
    obtain ⟨o1, vs, f1, tf, fl, tg, inF, tx, tt, op, _, _, _, _, _, _, _, _, _, htr, _⟩ := hco'
    exact h _ h' tk _ hx (Nat.le_trans hge (Nat.le_of_lt hlt)) htab'.2 ⟨_, rfl⟩ htr
section
variable {X : Cx} {pins : List (Addr × Obj)} {σ : L2.St} {H : Hp} {s : Shared}
theorem gen_made {c P : Addr} {elt iter : Expr} {x : Str} {px gpos : Pos} {scope : Scope} {pb : Nat → Bool} {te : TE} {k : Nat}
    {Q' : Value → Shared → Prop} {R : Str → Hp → Prop} (hr : Room k X.A) (TB : GxR.TabB X.base X.mg c P) (hcode : X.env.code = .ref c)
    (S : GxR.GenS X.env scope x) (hi : PE X iter te) (hel : EltG X scope x elt pb) (hs : ∀ v, genFold iter X.env v = pure v)
    (I : L2.Inv X pins σ H s) (h : te σ H fun v H1 => ∃ a : Str, v = .str a ∧ GxR.TabG H1 P ∧ R a H1)
    (hQ : ∀ a H1 g s5, R a H1 → GxR.Ready X pins σ H1 P a pb g s5 → Q' (.ref g) s5) :
    wpAny (model X.prog X.w) X.A (eval (.GeneratorExp elt [⟨.Name x px, iter, [], 0⟩] scope gpos) X.env) Q' X.xe s := by
  have hdp := hr.dp
  refine wpAny_GeneratorExp_walksQ hr.hd S.co (closure_ok S.free) S.cell S.dot S.loc S.kind (by omega) ?_ hs
  refine thn (hi.run pins s σ H _ I h) ?_
  rintro xv s1 ⟨v, H1, I1, r1, a, rfl, ⟨ps, hP, ht⟩, q1⟩
  obtain ⟨t, rfl⟩ := _root_.id r1
  refine wpAny_pyIter_str ?_
  intro o St W hst
  have hPs : s1.heap.get? P = some { cls := .none, data := .fields ps } := I1.hok P _ hP
  have hPlt := Heap.lt_size hPs
  have lim2 : (s1.heap.push o).NoLimit := I1.nolimit.push o
  refine ⟨lim2, ?_⟩
  refine gen_code (s2 := { s1 with heap := s1.heap.push o }) hcode (TB.code.keeps fun b u e => Heap.get?_push_of_some _ (I1.bk b u e)) (Heap.get?_push_of_some _ hPs) ht ?_
  intro code h3 tk ps' hx hsz hP3 hmore ht3
  have hcl : cStatics < s1.heap.objs.size := by
    obtain ⟨_, hns, _⟩ := I1.nolimit
    exact hns.lt
  have hcP : cStatics ≠ P := by
    intro e
    obtain ⟨_, ⟨o', es, ep, ho, hd, _⟩, _⟩ := I1.nolimit
    rw [e, hPs] at ho
    cases ho
    cases hd
  have sz2 : (s1.heap.push o).objs.size = s1.heap.objs.size + 1 := Heap.size_push ..
  have keep3 : ∀ b u, b ≠ P → s1.heap.get? b = some u → h3.get? b = some u :=
    fun b u hb e => hx b u hb (Heap.get?_push_of_some _ e)
  have hsz' : s1.heap.objs.size + 1 ≤ h3.objs.size := by
    rw [← sz2]
    exact hsz
  have ns3 : h3.Ns mainGlobals X.mg := ((I1.mod.glob.keeps I1.bk).push o).extBut hx TB.gP
  obtain ⟨bm, ob, e1, e2, e3, e4, e5, e6, e7, e8⟩ := TB.bm
  refine wpAny_builtinsFor (m := X.mg) (by rw [I1.ok.glob]; exact ns3) e1 e2 (keep3 _ _ e4 (I1.bk _ _ e5)) e6 e7 e8 ?_
  refine ⟨s1.heap.objs.size, [s1.heap.objs.size], [s1.heap.objs.size], a.cps.size, SignAt a, St, fun _ => true,
    fun i y => ∃ cc, a.cps[i]? = some cc ∧ y = .bool (pb cc), rfl, W, ?_, ?_, lim2.extBut hx hcP, ?_, ?_, ?_⟩
  · refine (W X.A hr.hd).frame _ _ _ hst ?_
    intro b hb u e
    have eb : b = s1.heap.objs.size := by simpa using hb
    refine hx b u ?_ e
    intro z
    rw [← z, eb] at hPlt
    exact Nat.lt_irrefl _ hPlt
  · intro b hb
    have eb : b = s1.heap.objs.size := by simpa using hb
    rw [eb]
    show s1.heap.objs.size < h3.objs.size
    omega
  · intro z
    have eb : cStatics = s1.heap.objs.size := by simpa using z
    rw [eb] at hcl
    exact Nat.lt_irrefl _ hcl
  · intro href hhref
    constructor
    · intro A' E' i v s2 m2 hA hPv hn hm hk
      simp only [List.forIn_nil]
      exact wpAny_pure ⟨rfl, GxR.keeps_refl _⟩
    · intro A' E' i v s2 m2 hA hPv hp hn hm hk
      obtain ⟨cc, u, hcc, rfl⟩ := hPv
      have nsM : s2.heap.Ns mainGlobals X.mg := by
        obtain ⟨om, es, ep, g1, g2⟩ := ns3
        have glt : mainGlobals < s1.heap.objs.size := by
          obtain ⟨o9, _, _, g9, _⟩ := I1.mod.glob.keeps I1.bk
          exact Heap.lt_size g9
        refine ⟨om, es, ep, hk mainGlobals ?_ ?_ om (hhref _ _ g1), g2⟩
        · refine List.mem_range.mpr ?_
          show mainGlobals < h3.objs.size
          exact Heap.lt_size g1
        · intro z
          have eb : mainGlobals = s1.heap.objs.size := by simpa using z
          rw [eb] at glt
          exact Nat.lt_irrefl _ glt
      exact wpAny_mono (hel _ A' E' cc u s2 m2 rfl I1.ok.glob nsM hn hm) (fun y s3 r => ⟨⟨cc, hcc, r.1⟩, r.2⟩) (fun _ _ e => e)
  · intro g h5 tk5 gs hgb hag hsz5 hk5 W5 hat
    simp only [GxR.passing_true, List.length_range] at W5
    refine hQ a H1 g _ q1 ⟨_, _, _, _, _, W5.in4_1, hat, ?_, ?_⟩
    · intro j y sj Qj Ej hy hQj
      obtain ⟨i, hij, cc, hcc, rfl⟩ := hy
      obtain ⟨hj, ej⟩ := List.getElem?_eq_some_iff.mp hij
      rw [List.getElem_range] at ej
      subst ej
      have e9 : a.cps.toList[j]? = some cc := by rw [Array.getElem?_toList]; exact hcc
      have hQ2 : Qj (GxR.trF pb a.cps.toList j) sj := hQj
      rw [GxR.trF_some e9] at hQ2
      exact wpAny_truthy_bool hQ2
    · intro s' hmv
      obtain ⟨more, em⟩ := hmore
      have nwr : ∀ b u, s1.heap.get? b = some u → b ∉ h3.objs.size :: [s1.heap.objs.size] := by
        intro b u e hb
        have hl := Heap.lt_size e
        rcases List.mem_cons.mp hb with z | z
        · rw [z] at hl
          have h9 : (h3.objs.size : Nat) < s1.heap.objs.size := hl
          omega
        · have eb : b = s1.heap.objs.size := by simpa using z
          rw [eb] at hl
          exact Nat.lt_irrefl _ hl
      have J := GxR.inv_tab (more := more) (h' := s'.heap) (g' := s'.gens) (d' := s'.drawn) (t' := s'.toks) I1 hP
        (fun b u hb e => hmv.heap b u (nwr b u e) (hk5 b u (keep3 b u hb e)))
        (by rw [← em]; exact hmv.heap P _ (nwr P _ hPs) (hk5 P _ hP3)) (AllBare.movedS (I1.bare.push hgb) hmv)
      rw [GxR.sh_eta s1 s' hmv.os] at J
      exact ⟨upd H1 P (.tbl (ps ++ more)), ⟨⟨ps ++ more, upd_same, by rw [← em]; exact ht3⟩, fun b hb => upd_ne hb⟩, J⟩
theorem pe_allG {c P : Addr} {elt iter : Expr} {x : Str} {px p pos gpos : Pos} {scope : Scope} {pb : Nat → Bool} {te : TE} {k : Nat}
    (hr : Room k X.A) (hg : Gl X "all") (hm : X.mg "all" = none) (TB : GxR.TabB X.base X.mg c P) (hcode : X.env.code = .ref c)
    (S : GxR.GenS X.env scope x) (hi : PE X iter te) (hel : EltG X scope x elt pb) (hs : ∀ v, genFold iter X.env v = pure v)
    (he : starEach [.GeneratorExp elt [⟨.Name x px, iter, [], 0⟩] scope gpos] X.env =
      (false, eval (.GeneratorExp elt [⟨.Name x px, iter, [], 0⟩] scope gpos) X.env) :: starEach [] X.env := by rfl) :
    PE X (.Call (.Name "all" p) [.GeneratorExp elt [⟨.Name x px, iter, [], 0⟩] scope gpos] [] pos) (GxR.tAllS P pb te) := by
  constructor
  intro pins s σ H Q I h
  refine wpAny_Call_Name_kw (ld_blt I hg hm (show bootBuiltins "all" = some (.builtin "all") by decide +kernel) ?_)
  refine PyProof.Rows.callWith_builtin1 ?_ he (by rfl)
  rw [he]
  refine Calls.spliced_cons (gen_made (R := fun a H1 => ∀ H2, GxR.Tabbed P H1 H2 → Q (.bl (a.cps.toList.all pb)) H2) hr TB hcode S hi hel hs I h ?_)
  intro a H1 g s5 hR hG
  obtain ⟨fp, wr, G, F, St, W, hst, htr, hI⟩ := hG
  refine Calls.spliced_nil (call_all_walkS (W.self 0 _ _ _ hst ⟨g, fp, wr, G, _, F, St, _, rfl, W, hst, htr, ?_⟩))
  intro s' hmv
  obtain ⟨H2, hT, J⟩ := hI s' hmv
  refine ⟨.bl _, H2, J, rfl, ?_⟩
  rw [GxR.all_signs a pb]
  exact hR H2 hT
end
end SfG
namespace SfG
open PySem PySem.Spec PyProof.Rows L2
/-! ### the law's end: tables of code objects, no repr under way -/
theorem noneIn (b : Addr) (l : List Addr) (h : l = []) : ¬ b ∈ l := by
  rw [h]
  simp
section
variable {P : Program} {w : World} {K : PySem.W.Frag} {mg mb : Str → Option Value} {CX : CXT} {k : Nat} {fa a : Addr}
  {cs : List (Addr × Addr)} {fd : FuncData} {x : Str} {sp : Sp} {s1 : Shared} {vs : List Value} {ns : List Int}
/-- what stands at s1: the module, its tables, the script -/
structure Stands (K : PySem.W.Frag) (mg mb : Str → Option Value) (cs : List (Addr × Addr)) (s1 : Shared) (a : Addr) (vs : List Value) : Prop where
  kin : K.In s1.heap
  glob : s1.heap.Ns mainGlobals mg
  blt : s1.heap.Ns builtinsNs mb
  bltv : ∀ y : Str, y ≠ "__name__" → mb y = bootBuiltins y
  lim : s1.heap.NoLimit
  gens : s1.gens = #[]
  tab : ∀ p ∈ cs, s1.heap.get? p.2 = some { cls := .none, data := .fields #[] }
  ntab : ∀ p ∈ cs, K.lookup p.2 = none
  code : ∀ p ∈ cs, PySem.W.CodeHd s1.heap p.1 p.2
  bmain : ∃ (bm : Addr) (ob : Obj), mg "__builtins__" = some (.ref bm) ∧ bm ≠ builtinsNs ∧ s1.heap.get? bm = some ob ∧
    ob.cls = .type "module" ∧ ob.dict = some builtinsNs ∧ ob.data = .plain
  scr : s1.heap.get? a = some { cls := .type "list", data := .seq vs.toArray }
/-- what is tracked there: the tables, and the script where the written part doesn't hold it -/
def Tracks (K : PySem.W.Frag) (cs : List (Addr × Addr)) (a : Addr) (H : Hp) : Prop :=
  ∀ b u, H b = some u → (b ∈ cs.map (·.2) ∧ u = .tbl #[]) ∨ (b = a ∧ K.lookup a = none ∧ ∃ o xs, u = .frz o (.lst xs))
theorem Stands.untracked {H : Hp} (S : Stands K mg mb cs s1 a vs) (T : Tracks K cs a H) {b : Addr} {o : Obj} (e : s1.heap.get? b = some o)
    (h1 : ∀ us n, o.data ≠ .seq us n) (h2 : o.data ≠ .fields #[]) : H b = none := by
  cases q : H b with
  | none => rfl
  | some u =>
    exfalso
    rcases T b u q with ⟨hb, _⟩ | ⟨hb, _⟩
    · obtain ⟨p, hp, ep⟩ := List.mem_map.mp hb
      have z := S.tab p hp
      rw [ep, e] at z
      cases z
      exact h2 rfl
    · have z := S.scr
      rw [← hb, e] at z
      cases z
      exact h1 _ _ rfl
theorem end_core {H : Hp} (S : Stands K mg mb cs s1 a vs) (T : Tracks K cs a H) (hH : ∀ p ∈ cs, H p.2 = some (.tbl #[]))
    (hok : HOk P w H s1.heap) (hr : Room k callerA)
    (F : ∀ base : Heap, K.In base → base.Ns mainGlobals mg → (∀ p ∈ cs, GxR.TabB base mg p.1 p.2) → FnG P w K mg base CX k fa fd [x] sp)
    (hbind : ∀ (s : Shared) (u : Value), BindsTo s fd ⟨[u], []⟩ [(x, u)])
    (hsp : sp [.ref a] H (fun v _ => v = .bl true) fun _ _ _ => False)
    (hCX : ∀ H e s', CX [] H s1 (fun _ _ _ => False) e s' → False) :
    codeAny (model P w) callerA (.call (.ref fa) ⟨[.ref a], []⟩)
      (fun r s' => r = .ok (.ret (.bool true)) ∧ OldK s1.heap s'.heap ∧ s'.os = s1.os ∧ AllBare s'.gens) s1 := by
  have low : ∀ {b : Addr} {o : Obj}, s1.heap.get? b = some o → H b = none → (hidT s1.heap H).get? b = some o := fun e n => hidT_get e n
  have lowNs : ∀ {b : Addr} {m : Str → Option Value}, s1.heap.Ns b m → (hidT s1.heap H).Ns b m := by
    rintro b m ⟨o, es, ep, e, d, r⟩
    refine ⟨o, es, ep, low e (S.untracked T e ?_ ?_), d, r⟩
    · intro us n z
      rw [d] at z
      cases z
    · intro z
      rw [d] at z
      cases z
  have lowK : K.In (hidT s1.heap H) := by
    intro b o e
    refine low (S.kin b o e) ?_
    cases q : H b with
    | none => rfl
    | some u =>
      exfalso
      rcases T b u q with ⟨hb, _⟩ | ⟨hb, hk, _⟩
      · obtain ⟨p, hp, ep⟩ := List.mem_map.mp hb
        rw [← ep, S.ntab p hp] at e
        cases e
      · rw [hb, hk] at e
        cases e
  have lowT : ∀ p ∈ cs, GxR.TabB (hidT s1.heap H) mg p.1 p.2 := by
    intro p hp
    have tp := S.tab p hp
    constructor
    · obtain ⟨o, us, file, tf, flags, tg, inF, text, tt, e1, r1, r2, r3, rest⟩ := S.code p hp
      refine ⟨o, us, file, tf, flags, tg, inF, text, tt, low e1 (S.untracked T e1 ?_ ?_), r1, r2, r3, rest⟩
      · intro us n z
        rw [r2] at z
        cases z
      · intro z
        rw [r2] at z
        cases z
        simp at r3
    · obtain ⟨bm, ob, b1, b2, b3, b4, b5, b6⟩ := S.bmain
      refine ⟨bm, ob, b1, b2, ?_, ?_, low b3 (S.untracked T b3 ?_ ?_), b4, b5, b6⟩
      · intro q
        obtain ⟨o, es, ep, e, hd, _⟩ := S.glob
        rw [q, e] at b3
        cases b3
        rw [hd] at b6
        cases b6
      · intro q
        rw [q, tp] at b3
        cases b3
        cases b6
      · intro us n z
        rw [b6] at z
        cases z
      · intro z
        rw [b6] at z
        cases z
    · intro z
      obtain ⟨o, es, ep, e, hd, _⟩ := S.glob
      rw [z, tp] at e
      cases e
      cases hd
  have md : L2.Mod K mg (hidT s1.heap H) := by
    refine ⟨lowK, lowNs S.glob, ⟨mb, lowNs S.blt, S.bltv⟩, ?_⟩
    obtain ⟨mc, h1, h2⟩ := S.lim
    exact ⟨mc, lowNs h1, h2⟩
  have e0 : Env0 P w K mg (hidT s1.heap H) callerA [] s1 H :=
    ⟨rfl, md, fun b o e => of_hidT e, Nat.le_of_eq (hidT_size _ _), trivial, fun b hb => absurd hb (noneIn b _ rfl), hok, .of_eq S.gens⟩
  have go := (F _ lowK (lowNs S.glob) lowT).goes callerA [] s1 H ⟨[.ref a], []⟩ [.ref a] [.ref a] _ _ hr rfl e0 (hbind s1 (.ref a)) (.cons rfl .nil) hsp
  refine codeAny_mono go ?_
  intro res s' h
  match res, h with
  | .error e, h => exact (hCX H e s' h).elim
  | .ok .next, h => exact False.elim h
  | .ok .brk, h => exact False.elim h
  | .ok .cont, h => exact False.elim h
  | .ok (.ret u), h =>
    obtain ⟨v, H', os, bare, un, hok', r', q⟩ := h
    cases (show v = .bl true from q)
    cases (show u = Value.bool true from r')
    have stay : ∀ b o, b ∉ cs.map (·.2) → s1.heap.get? b = some o → s'.heap.get? b = some o := by
      intro b o nb e
      cases q : H b with
      | none => exact un.keep b o e q (noneIn b _ rfl) (by simp)
      | some u =>
        rcases T b u q with ⟨hb, _⟩ | ⟨_, _, ob, xs, z⟩
        · exact absurd hb nb
        · rw [z] at q
          obtain ⟨g1, _⟩ := hok b _ q
          obtain ⟨g2, _⟩ := hok' b _ (un.frzs b ob _ q)
          rw [e] at g1
          cases g1
          exact g2
    have tabs : ∀ p ∈ cs, ∃ more : Array Value, s'.heap.get? p.2 = some { cls := .none, data := .fields more } := by
      intro p hp
      obtain ⟨more, z⟩ := un.tbls p.2 #[] (hH p hp)
      exact ⟨_, hok' p.2 _ z⟩
    refine ⟨rfl, ⟨fun b o e => ?_, fun b o e => ?_⟩, os, bare⟩
    · by_cases hb : b ∈ cs.map (·.2)
      · obtain ⟨p, hp, ep⟩ := List.mem_map.mp hb
        subst ep
        obtain ⟨more, hm⟩ := tabs p hp
        rw [S.tab p hp] at e
        cases e
        refine .inr (.inl ⟨((S.code p hp).tab (S.tab p hp)).isCodeTable, rfl, #[], more, rfl, ?_⟩)
        rw [Array.empty_append]
        exact hm
      · exact .inl (stay b o hb e)
    · by_cases hb : b ∈ cs.map (·.2)
      · obtain ⟨p, hp, ep⟩ := List.mem_map.mp hb
        subst ep
        obtain ⟨more, hm⟩ := tabs p hp
        exact ⟨_, hm⟩
      · exact ⟨o, stay b o hb e⟩
/-- the abstract heap at the start -/
def hp0 (cs : List (Addr × Addr)) (sc : Option HO) (a : Addr) : Hp := fun b => if b ∈ cs.map (·.2) then some (.tbl #[]) else if b = a then sc else none
theorem end_call (S : Stands K mg mb cs s1 a vs) (hi : IntsAre vs ns) (hl : ns.length ≤ sizeLine) (hr : Room k callerA)
    (F : ∀ base : Heap, K.In base → base.Ns mainGlobals mg → (∀ p ∈ cs, GxR.TabB base mg p.1 p.2) → FnG P w K mg base CX k fa fd [x] sp)
    (hbind : ∀ (s : Shared) (u : Value), BindsTo s fd ⟨[u], []⟩ [(x, u)])
    (hsp : ∀ H : Hp, (∀ p ∈ cs, H p.2 = some (.tbl #[])) → SqL K H a (ns.map V.int) → sp [.ref a] H (fun v _ => v = .bl true) fun _ _ _ => False)
    (hCX : ∀ H e s', CX [] H s1 (fun _ _ _ => False) e s' → False) :
    codeAny (model P w) callerA (.call (.ref fa) ⟨[.ref a], []⟩)
      (fun r s' => r = .ok (.ret (.bool true)) ∧ OldK s1.heap s'.heap ∧ s'.os = s1.os ∧ AllBare s'.gens) s1 := by
  have rv := vals_ints hi
  have hH : ∀ sc, ∀ p ∈ cs, hp0 cs sc a p.2 = some (.tbl #[]) := fun sc p hp => if_pos (List.mem_map.mpr ⟨p, hp, rfl⟩)
  have na : a ∉ cs.map (·.2) := by
    intro z
    obtain ⟨p, hp, ep⟩ := List.mem_map.mp z
    have q := S.tab p hp
    rw [ep, S.scr] at q
    cases congrArg Obj.data (Option.some.inj q)
  have at_a : ∀ sc, hp0 cs sc a a = sc := fun sc => by
    unfold hp0
    rw [if_neg na, if_pos rfl]
  have cases_of : ∀ sc b u, hp0 cs sc a b = some u → (b ∈ cs.map (·.2) ∧ u = .tbl #[]) ∨ (b = a ∧ sc = some u) := by
    intro sc b u h
    unfold hp0 at h
    by_cases h1 : b ∈ cs.map (·.2)
    · rw [if_pos h1] at h
      exact .inl ⟨h1, (Option.some.inj h).symm⟩
    · rw [if_neg h1] at h
      by_cases h2 : b = a
      · rw [if_pos h2] at h
        exact .inr ⟨h2, h⟩
      · rw [if_neg h2] at h
        cases h
  have tabOk : ∀ (H : Hp) b, b ∈ cs.map (·.2) → ObjOk P w H s1.heap b (.tbl #[]) := by
    intro H b hb
    obtain ⟨p, hp, ep⟩ := List.mem_map.mp hb
    rw [← ep]
    exact S.tab p hp
  cases hk : K.lookup a with
  | some o =>
    have e := S.kin a o hk
    rw [S.scr] at e
    cases e
    refine end_core (H := hp0 cs none a) S ?_ (hH none) ?_ hr F hbind (hsp _ (hH none) (.inr ⟨_, vs.toArray, _, hk, rfl, rfl, rfl, ?_, ?_⟩)) hCX
    · intro b u h
      rcases cases_of none b u h with h | ⟨_, h⟩
      · exact .inl h
      · cases h
    · intro b u h
      rcases cases_of none b u h with ⟨h1, rfl⟩ | ⟨_, h⟩
      · exact tabOk _ b h1
      · cases h
    · rw [List.size_toArray, hi.length]
      exact hl
    · simpa using rv
  | none =>
    refine end_core (H := hp0 cs (some (.frz { cls := .type "list", data := .seq vs.toArray } (.lst (ns.map V.int)))) a) S ?_ (hH _) ?_ hr F hbind
      (hsp _ (hH _) (.inl (.inr ⟨{ cls := .type "list", data := .seq vs.toArray }, at_a _⟩))) hCX
    · intro b u h
      rcases cases_of _ b u h with h | ⟨h1, h2⟩
      · exact .inl h
      · exact .inr ⟨h1, hk, _, _, (Option.some.inj h2).symm⟩
    · intro b u h
      rcases cases_of _ b u h with ⟨h1, rfl⟩ | ⟨rfl, h2⟩
      · exact tabOk _ b h1
      · cases h2
        refine ⟨S.scr, ?_, vs, _, rv, S.scr⟩
        rw [List.length_map]
        exact hl
end
end SfG
namespace SfG
open PySem PySem.Spec PyProof.Rows L2
/-! ### a def whose code object is known -/
structure FunC (K : PySem.W.Frag) (x qual : Str) (st : Stmt) (f : Addr) (fd : FuncData) (c : Addr) : Prop where
  ex : ∃ (oc : Value) (od : Option Addr) (kV doc pm : Value) (an : Option Addr) (ct : Value) (osl : Array (Option Value)),
    fd = PySem.W.fnOf x qual (defArgs st) (defBody st) (defScope st) .none kV doc pm an (.ref c) ct ∧
      K.lookup f = some ⟨oc, od, .func fd, osl⟩ ∧ PySem.W.codeIn K (.ref c) qual = true
  kp : PySem.W.keepIn K (.ref f) = true
theorem FunC.fn {K : PySem.W.Frag} {x qual : Str} {st : Stmt} {f c : Addr} {fd : FuncData} (F : FunC K x qual st f fd c) : Fun K x qual st f fd := by
  obtain ⟨oc, od, kV, doc, pm, an, ct, osl, h1, h2, h3⟩ := F.ex
  exact ⟨⟨oc, od, kV, doc, pm, an, .ref c, ct, osl, h1, h2, h3⟩, F.kp⟩
section
variable {P : Program} {w : World} {K : PySem.W.Frag} {mg : Str → Option Value} {base : Heap}
theorem FunC.ok {x qual : Str} {st : Stmt} {f c : Addr} {fd : FuncData} {N ps : List Str} {k : Nat} {sp : Sp}
    (F : FunC K x qual st f fd c) (S : FnScope N ps (defScope st)) (len : ∀ vs H Q E, sp vs H Q E → vs.length = ps.length)
    (hbody : ∀ (A : Around) (outer : List Env) (s : Shared) (H : Hp) (vs : List V) (Q : VK) (E : XK),
      Room k (A.deeper (envOfC qual (defScope st) s.heap.objs.size f (.ref c))) → sp vs H Q E →
      ∃ t, PSs (cxOf CX0 P w K mg base N qual (defScope st) f (.ref c) A outer s H E).nox (defBody st) t ∧
        t { nx := fun _ H' => Q .non H', rt := Q } (start N vs) H) : FnOk P w K mg base CX0 (k + 1) f fd ps sp := by
  obtain ⟨oc, od, kV, doc, pm, an, ct, osl, rfl, lk, hcd⟩ := F.ex
  refine fn_of lk hcd S len ?_
  intro A outer s H vs Q E hr hsp
  obtain ⟨t, h, q⟩ := hbody A outer s H vs Q E hr hsp
  exact ⟨t, h.nox, q⟩
end
/-! ### heaps that grow: what stood stands, tables of code objects may be longer -/
structure Gr (H H' : Hp) : Prop where
  keep : ∀ b o, H b = some o → (∀ ps, o ≠ .tbl ps) → H' b = some o
  tab : ∀ P, GxR.TabG H P → GxR.TabG H' P
  back : ∀ l, H' l = none → H l = none
theorem Gr.refl (H : Hp) : Gr H H := ⟨fun _ _ h _ => h, fun _ h => h, fun _ h => h⟩
theorem Gr.trans {H H1 H2 : Hp} (a : Gr H H1) (b : Gr H1 H2) : Gr H H2 :=
  ⟨fun c o h n => b.keep c o (a.keep c o h n) n, fun P h => b.tab P (a.tab P h), fun l h => a.back l (b.back l h)⟩
theorem Gr.same {H H' : Hp} (e : Same H H') : Gr H H' := by
  refine ⟨fun b o h _ => e b o h, ?_, fun l h => e.free h⟩
  rintro P ⟨ps, h1, h2⟩
  exact ⟨ps, e P _ h1, h2⟩
theorem Gr.new {H : Hp} {p : Addr} {o : HO} (h : H p = none) : Gr H (upd H p o) := by
  refine Gr.same ?_
  intro b x e
  rw [upd_ne (ne_of_none e h)]
  exact e
theorem Gr.tabbed {P : Addr} {H H' : Hp} (t : GxR.TabG H P) (e : GxR.Tabbed P H H') : Gr H H' := by
  refine ⟨?_, ?_, ?_⟩
  · intro b o h n
    refine (e.2 b ?_).trans h
    intro z
    obtain ⟨ps, h1, _⟩ := t
    rw [z, h1] at h
    exact n ps (Option.some.inj h).symm
  · intro P' t'
    by_cases z : P' = P
    · rw [z]
      exact e.1
    · obtain ⟨ps, h1, h2⟩ := t'
      exact ⟨ps, (e.2 P' z).trans h1, h2⟩
  · intro l h
    by_cases z : l = P
    · obtain ⟨ps, h1, _⟩ := e.1
      rw [z, h1] at h
      cases h
    · rw [← e.2 l z]
      exact h
/-- a list that is changed in the heap: all else stays -/
theorem Gr.lst {H H' : Hp} (g : Gr H H') {b : Addr} {xs : List V} (h : H b = some (.lst xs)) : H' b = some (.lst xs) := g.keep b _ h (fun _ z => (by cases z))
theorem Gr.tup {H H' : Hp} (g : Gr H H') {b : Addr} {xs : List V} (h : H b = some (.tup xs)) : H' b = some (.tup xs) := g.keep b _ h (fun _ z => (by cases z))
theorem Gr.dic {H H' : Hp} (g : Gr H H') {b : Addr} {kvs : List (Key × V)} (h : H b = some (.dK kvs)) : H' b = some (.dK kvs) := g.keep b _ h (fun _ z => (by cases z))
theorem Gr.seq {K : PySem.W.Frag} {H H' : Hp} {a : Addr} {xs : List V} (e : Gr H H') (h : SqL K H a xs) : SqL K H' a xs := by
  rcases h with (h | ⟨o, h⟩) | h
  · exact .inl (.inl (e.lst h))
  · exact .inl (.inr ⟨o, e.keep _ _ h (fun _ z => (by cases z))⟩)
  · exact .inr h
/-! ### kinds of things -/
def kinds : List String := ["NoneType", "bool", "int", "str", "list", "tuple", "dict"]
theorem kit_int : ∀ T ∈ kinds, kitB T "int" = some (T == "int" || T == "bool") := by decide +kernel
theorem kit_bool : ∀ T ∈ kinds, kitB T "bool" = some (T == "bool") := by decide +kernel
theorem kit_str : ∀ T ∈ kinds, kitB T "str" = some (T == "str") := by decide +kernel
/-- x is a thing of the built-in type T -/
def Is (K : PySem.W.Frag) (H : Hp) (x : V) (T : String) : Prop := TyX K H x (.type T) ∧ T ∈ kinds
theorem tyx_is {K : PySem.W.Frag} {H : Hp} {x : V} {t : Value} {T : String} (h : TyX K H x t) (e : t = .type T) :
    (T = "int" → ∃ i, x = .int i) ∧ (T = "str" → ∃ z, x = .str z) ∧ (∀ i, x = .int i → T = "int") ∧ (∀ z, x = .str z → T = "str") := by
  cases h with
  | base b =>
    cases b with
    | int i => cases e; exact ⟨fun _ => ⟨i, rfl⟩, fun z => absurd z (by decide), fun _ _ => rfl, fun _ z => (by cases z)⟩
    | str i => cases e; exact ⟨fun z => absurd z (by decide), fun _ => ⟨i, rfl⟩, fun _ z => (by cases z), fun _ _ => rfl⟩
    | ins => cases e
    | _ => cases e; exact ⟨fun z => absurd z (by decide), fun z => absurd z (by decide), fun _ z => (by cases z), fun _ z => (by cases z)⟩
  | _ => cases e; exact ⟨fun z => absurd z (by decide), fun z => absurd z (by decide), fun _ z => (by cases z), fun _ z => (by cases z)⟩
section
variable {K : PySem.W.Frag} {H : Hp} {x : V} {T : String}
theorem Is.whole (h : Is K H x T) (e : T = "int") : ∃ i, x = .int i := (tyx_is h.1 rfl).1 e
theorem Is.text (h : Is K H x T) (e : T = "str") : ∃ z, x = .str z := (tyx_is h.1 rfl).2.1 e
theorem Is.nint (h : Is K H x T) (e : T ≠ "int") : ∀ i, x ≠ .int i := fun i z => e ((tyx_is h.1 rfl).2.2.1 i z)
theorem Is.ntext (h : Is K H x T) (e : T ≠ "str") : ∀ z, x ≠ .str z := fun i z => e ((tyx_is h.1 rfl).2.2.2 i z)
end
theorem is_int {K : PySem.W.Frag} {H : Hp} (i : Int) : Is K H (.int i) "int" := ⟨.base (.int i), by decide⟩
theorem is_str {K : PySem.W.Frag} {H : Hp} (z : Str) : Is K H (.str z) "str" := ⟨.base (.str z), by decide⟩
theorem is_bl {K : PySem.W.Frag} {H : Hp} (b : Bool) : Is K H (.bl b) "bool" := ⟨.base (.bl b), by decide⟩
theorem is_non {K : PySem.W.Frag} {H : Hp} : Is K H .non "NoneType" := ⟨.base .non, by decide⟩
/-! ### isinstance(x, T), x a name, T a built-in class -/
def tIsi (T : String) (K : PySem.W.Frag) (i : Nat) : TE := fun σ H Q => ∃ v, σ[i]? = some (some v) ∧ ∃ (T' : String) (b : Bool), TyX K H v (.type T') ∧ kitB T' T = some b ∧ Q (.bl b) H
theorem pe_isi {X : Cx} {x nm : Str} {p p1 p2 pos : Pos} (T : String) (i : Nat) (mi : X.mg "isinstance" = none) (mT : X.mg nm = none)
    (hv : bootBuiltins nm = some (.type T)) (hN : X.N[i]? = some x := by rfl) (hvis : Vis X.env.scope x := by first | exact Or.inl rfl | exact Or.inr (Or.inl rfl) | exact Or.inr (Or.inr rfl))
    (hg : Gl X "isinstance" := by rfl) (hgT : Gl X nm := by rfl) (hxd : (x == ("__debug__" : Str)) = false := by decide) (hxc : (x == ("__classdict__" : Str)) = false := by decide)
    (hn : nm ≠ "__name__" := by decide) (hd : (nm == ("__debug__" : Str)) = false := by decide) :
    PE X (.Call (.Name "isinstance" p) [.Name x p1, .Name nm p2] [] pos) (tIsi T X.K i) := by
  have h := pe_callB (p := p) (pos := pos) call_isi hg mi (show bootBuiltins "isinstance" = some (.builtin "isinstance") by decide +kernel)
    (pa_cons (pe_var (pos := p1) hN hvis hxd hxc) (pa_cons (pe_bltn (v := .ty T) (pos := p2) hgT mT hv rfl hn hd) pa_nil))
  constructor
  intro pins s σ H Q I hq
  refine h.run pins s σ H Q I ?_
  obtain ⟨v, hs, T', b, h1, h2, h3⟩ := hq
  exact ⟨v, hs, v, .ty T, .type T', .type T, b, rfl, .ty T, h1, kit_ty h2, h3⟩
end SfG
namespace SfG
open PySem PySem.Spec PyProof.Rows L2
/-! ### the end of a law whose defs have tables -/
/-- the top's defs and their tables, still empty -/
def TabsOf (q : Program) (mg : Str → Option Value) (h : Heap) : Prop := ∀ d ∈ recsOf q, ∃ a o fd c P,
  mg d.name = some (.ref a) ∧ h.get? a = some o ∧ o.data = .func fd ∧ fd.code = .ref c ∧ h.IsCode c P #[] ∧ h.TableAt c P #[]
theorem tab_of {q : Program} {mg : Str → Option Value} {h : Heap} {K : PySem.W.Frag} {nm x qual : Str} {st : Stmt} {f c P : Addr} {fd : FuncData}
    {e : Value} {dd : Option Addr} {vs : Array Value} {sl : Array (Option Value)} (T : TabsOf q mg h) (hrec : ((recsOf q).any fun d => d.name == nm) = true)
    (g : mg nm = some (.ref f)) (KX : K.In h) (F : FunC K x qual st f fd c) (kc : K.lookup c = some ⟨e, dd, .fields vs, sl⟩) (kp : vs[11]? = some (.ref P)) :
    h.get? P = some { cls := .none, data := .fields #[] } ∧ PySem.W.CodeHd h c P := by
  obtain ⟨d, hm, hn⟩ := List.any_eq_true.mp hrec
  have hn2 : d.name = nm := beq_iff_eq.mp hn
  obtain ⟨a, o, fd', c', P', h1, h2, h3, h4, h5, h6⟩ := T d hm
  rw [hn2, g] at h1
  cases h1
  obtain ⟨oc, od, kV, doc, pm, an, ct, osl, rfl, lk, hcd⟩ := F.ex
  rw [KX _ _ lk] at h2
  cases h2
  cases h3
  have ec : c = c' := by
    have z : Value.ref c = Value.ref c' := h4
    cases z
    rfl
  subst ec
  obtain ⟨⟨o1, v1, a1, a2, a3, a4⟩, hP⟩ := h6
  have ek := KX _ _ kc
  rw [ek] at a1
  cases a1
  cases a3
  rw [kp] at a4
  cases a4
  obtain ⟨o2, v2, file, tf, flags, tg, inF, text, tt, op, b1, b2, b3, b4, b5, b6, b7, b8, b9, b10, b11⟩ := h5
  rw [ek] at b1
  cases b1
  cases b2
  exact ⟨hP, _, _, file, tf, flags, tg, inF, text, tt, ek, a2, rfl, kp, b3, b4, b5, b6, b7, b11⟩
/-- what is known of the law's promise at the head's heap h -/
def LawG (l : PySem.W.OpenLaw) (w : World) (K : PySem.W.Frag) (CX : CXT) (k n : Nat) (x : Str) (mg : Str → Option Value) (fa : Addr) (h : Heap) : Prop :=
  ∃ (fd : FuncData) (cs : List (Addr × Addr)) (sp : Sp), (∀ p ∈ cs, h.get? p.2 = some { cls := .none, data := .fields #[] }) ∧ (∀ p ∈ cs, K.lookup p.2 = none) ∧
    (∀ p ∈ cs, PySem.W.CodeHd h p.1 p.2) ∧ (∀ (s : Shared) (u : Value), BindsTo s fd ⟨[u], []⟩ [(x, u)]) ∧
    (∀ (H : Hp) (a : Addr) (ns : List Int), ns.length ≤ n → (∀ p ∈ cs, H p.2 = some (.tbl #[])) → SqL K H a (ns.map V.int) → sp [.ref a] H (fun v _ => v = .bl true) fun _ _ _ => False) ∧
    ∀ base : Heap, K.In base → base.Ns mainGlobals mg → (∀ p ∈ cs, GxR.TabB base mg p.1 p.2) → FnG l.prog w K mg base CX k fa fd [x] sp
theorem walk_G {l : PySem.W.OpenLaw} {n k : Nat} {q : Program} {loose : List Str} {XP : (Str → Option Value) → Heap → Prop} {YP : World → Heap → Prop} {d : DefRec}
    {K : Params → PySem.W.Frag} {CX : World → CXT} {x : Str} (hn : l.most = some n) (hn2 : n ≤ sizeLine) (hdf : d.params.defaults = []) (hr : Room k callerA)
    (hY : ∀ (w : World) (h : Heap), YP w h → (K w.params).In h)
    (F : ∀ (w : World) (mg : Str → Option Value) (fa : Addr) (h : Heap), (K w.params).In h → h.Ns mainGlobals mg → mg d.name = some (.ref fa) → TabsOf q mg h →
      LawG l w (K w.params) (CX w) k n x mg fa h)
    (hCX : ∀ (w : World) (H : Hp) (s : Shared) (e : Value) (s' : Shared), CX w [] H s (fun _ _ _ => False) e s' → False) :
    PySem.W.WalkO q loose XP YP l.row.toRowW d [] (fun f vs => PySem.call f vs) := by
  refine Att.attach_callB hn hdf ?_
  intro w s0 s1 mg mb fa o pm cd doc a vs ns G Y ho hd hcd hmg hobj hints hlen hbits hg
  have KX := hY w _ Y
  obtain ⟨fd, cs, sp, hT, nT, C, hb, hsp, hF⟩ := F w mg fa _ KX G.T.g hmg G.T.tab
  have S : Stands (K w.params) mg mb cs s1 a vs := ⟨KX, G.T.g, G.T.b, G.T.builtins, G.T.nolimit, hg, hT, nT, C, G.T.bmain, hobj⟩
  exact end_call S hints (Nat.le_trans hlen hn2) hr hF hb (fun H hH hS => hsp H a ns hlen hH hS) fun H e s' => hCX w H s1 e s'
end SfG
namespace SfG
open PySem PySem.Spec PyProof.Rows L2
/-- all but p as it was -/
def But (p : Addr) (H H' : Hp) : Prop := ∀ b, b ≠ p → H' b = H b
theorem But.upd {p : Addr} {H H' : Hp} {o : HO} (h : But p H H') : But p H (upd H' p o) := fun b n => (upd_ne n).trans (h b n)
theorem Gr.upd_new {H0 H : Hp} {p : Addr} {o : HO} (g : Gr H0 H) (h : H0 p = none) : Gr H0 (upd H p o) := by
  refine ⟨?_, ?_, ?_⟩
  · intro b u e n
    rw [upd_ne (ne_of_none e h)]
    exact g.keep b u e n
  · intro P t
    have np : P ≠ p := by
      obtain ⟨ps, h1, _⟩ := t
      exact ne_of_none h1 h
    obtain ⟨ps, h1, h2⟩ := g.tab P t
    exact ⟨ps, (upd_ne np).trans h1, h2⟩
  · intro l e
    by_cases z : l = p
    · rw [z]
      exact h
    · rw [upd_ne z] at e
      exact g.back l e
/-! ### heaps in a turn: the draw's state at p is changed, all else grows -/
structure Gp (p : Addr) (H H' : Hp) : Prop where
  keep : ∀ b o, b ≠ p → H b = some o → (∀ ps, o ≠ .tbl ps) → H' b = some o
  tab : ∀ P, P ≠ p → GxR.TabG H P → GxR.TabG H' P
  back : ∀ l, l ≠ p → H' l = none → H l = none
theorem Gp.refl (p : Addr) (H : Hp) : Gp p H H := ⟨fun _ _ _ h _ => h, fun _ _ h => h, fun _ _ h => h⟩
theorem Gp.gr {p : Addr} {H H' : Hp} (g : Gr H H') : Gp p H H' := ⟨fun b o _ => g.keep b o, fun P _ => g.tab P, fun l _ => g.back l⟩
theorem Gp.but {p : Addr} {H H' : Hp} (g : But p H H') : Gp p H H' := by
  refine ⟨fun b o n h _ => (g b n).trans h, ?_, fun l n h => (g l n).symm.trans h⟩
  rintro P n ⟨ps, h1, h2⟩
  exact ⟨ps, (g P n).trans h1, h2⟩
theorem Gp.trans {p : Addr} {H H1 H2 : Hp} (a : Gp p H H1) (b : Gp p H1 H2) : Gp p H H2 :=
  ⟨fun c o n h t => b.keep c o n (a.keep c o n h t) t, fun P n h => b.tab P n (a.tab P n h), fun l n h => a.back l n (b.back l n h)⟩
/-- what was there ahead of p grows -/
theorem Gp.out {p : Addr} {H0 H H' : Hp} (g : Gr H0 H) (h : H0 p = none) (a : Gp p H H') : Gr H0 H' := by
  refine ⟨?_, ?_, ?_⟩
  · intro b o e t
    exact a.keep b o (ne_of_none e h) (g.keep b o e t) t
  · intro P t
    have n : P ≠ p := by
      obtain ⟨ps, h1, _⟩ := t
      exact ne_of_none h1 h
    exact a.tab P n (g.tab P t)
  · intro l e
    by_cases z : l = p
    · rw [z]
      exact h
    · exact g.back l (a.back l z e)
theorem Gp.lst {p : Addr} {H H' : Hp} (g : Gp p H H') {b : Addr} {xs : List V} (n : b ≠ p) (h : H b = some (.lst xs)) : H' b = some (.lst xs) := g.keep b _ n h (fun _ z => by cases z)
theorem Gp.upd_new {p q : Addr} {H0 H : Hp} {o : HO} (g : Gp p H0 H) (h : H0 q = none) : Gp p H0 (upd H q o) := by
  refine ⟨?_, ?_, ?_⟩
  · intro b u nb e n
    rw [upd_ne (ne_of_none e h)]
    exact g.keep b u nb e n
  · intro P nP t
    have np : P ≠ q := by
      obtain ⟨ps, h1, _⟩ := t
      exact ne_of_none h1 h
    obtain ⟨ps, h1, h2⟩ := g.tab P nP t
    exact ⟨ps, (upd_ne np).trans h1, h2⟩
  · intro l nl e
    by_cases z : l = q
    · rw [z]
      exact h
    · rw [upd_ne z] at e
      exact g.back l nl e
/-- a def that is called: where it stands, how it is bound, what it promises -/
structure Has (P : Program) (w : World) (K : PySem.W.Frag) (mg : Str → Option Value) (base : Heap) (k : Nat) (x : Str) (ps : List Str) (sp : Sp) (f : Addr) (fd : FuncData) : Prop where
  ok : FnOk P w K mg base CX0 k f fd ps sp
  at_ : mg x = some (.ref f)
  kp : PySem.W.keepIn K (.ref f) = true
  bd : Binds K fd ps []
theorem hcall {X : Cx} {k : Nat} {x : Str} {ps : List Str} {sp : Sp} {f : Addr} {fd : FuncData} {e : Expr} {es : List Expr} {t : TA} {p pos : Pos} (h : Has X.prog X.w X.K X.mg X.base k x ps sp f fd) (hr : Room k X.A) (ha : PA X (e :: es) t)
    (hg : Gl X x := by rfl) (hdb : (x == ("__debug__" : Str)) = false := by decide) (he : starEach (e :: es) X.env = (false, eval e X.env) :: starEach es X.env := by rfl)
    (hpl : (backTo pos (starEach es X.env)).any (·.1) = false := by rfl) : PE X (.Call (.Name x p) (e :: es) [] pos) (tCall sp [] E0 t) :=
  pe_call h.ok hr hg h.at_ h.kp h.bd .nil pass0 ha hdb he hpl
/-! ### data that stays -/
theorem Gr.sqt {K : PySem.W.Frag} {H H' : Hp} {a : Addr} {xs : List V} (e : Gr H H') (h : SqT K H a xs) : SqT K H' a xs := by
  rcases h with (h | ⟨o, h⟩) | h
  · exact .inl (.inl (e.tup h))
  · exact .inl (.inr ⟨o, e.keep _ _ h (fun _ z => by cases z)⟩)
  · exact .inr h
theorem Gp.sqt {K : PySem.W.Frag} {p : Addr} {H H' : Hp} {a : Addr} {xs : List V} {kv : List (Key × V)} (e : Gp p H H') (hp : H p = some (.dK kv)) (h : SqT K H a xs) : SqT K H' a xs := by
  rcases h with (h | ⟨o, h⟩) | h
  · refine .inl (.inl (e.keep a _ (fun z => ?_) h (fun _ z => by cases z)))
    rw [z, hp] at h
    cases h
  · refine .inl (.inr ⟨o, e.keep a _ (fun z => ?_) h (fun _ z => by cases z)⟩)
    rw [z, hp] at h
    cases h
  · exact .inr h
theorem Gp.sql {K : PySem.W.Frag} {p : Addr} {H H' : Hp} {a : Addr} {xs : List V} {kv : List (Key × V)} (e : Gp p H H') (hp : H p = some (.dK kv)) (h : SqL K H a xs) : SqL K H' a xs := by
  rcases h with (h | ⟨o, h⟩) | h
  · refine .inl (.inl (e.keep a _ (fun z => ?_) h (fun _ z => by cases z)))
    rw [z, hp] at h
    cases h
  · refine .inl (.inr ⟨o, e.keep a _ (fun z => ?_) h (fun _ z => by cases z)⟩)
    rw [z, hp] at h
    cases h
  · exact .inr h
/-- what keeps all lists and tuples keeps data -/
structure Kd (K : PySem.W.Frag) (H H' : Hp) : Prop where
  l : ∀ {a xs}, SqL K H a xs → SqL K H' a xs
  t : ∀ {a xs}, SqT K H a xs → SqT K H' a xs
theorem Gr.kd {K : PySem.W.Frag} {H H' : Hp} (g : Gr H H') : Kd K H H' := ⟨fun h => g.seq h, fun h => g.sqt h⟩
theorem Gp.kd {K : PySem.W.Frag} {p : Addr} {H H' : Hp} {kv : List (Key × V)} (g : Gp p H H') (hp : H p = some (.dK kv)) : Kd K H H' := ⟨fun h => g.sql hp h, fun h => g.sqt hp h⟩
mutual
theorem Kd.dp {K : PySem.W.Frag} {H H' : Hp} (g : Kd K H H') : ∀ {d : PyData} {v : V}, Dp K H v d → Dp K H' v d
  | _, _, .non => .non
  | _, _, .bl b => .bl b
  | _, _, .int i => .int i
  | _, _, .str x => .str x
  | _, _, .lst h hs => .lst (g.l h) (g.dpA hs)
  | _, _, .tup h hs => .tup (g.t h) (g.dpA hs)
theorem Kd.dpA {K : PySem.W.Frag} {H H' : Hp} (g : Kd K H H') : ∀ {ds : List PyData} {vs : List V}, DpAll K H vs ds → DpAll K H' vs ds
  | _, _, .nil => .nil
  | _, _, .cons h hs => .cons (g.dp h) (g.dpA hs)
end
section
variable {K : PySem.W.Frag} {H : Hp} {v : V}
theorem dp_str {z : Str} (h : Dp K H v (.str z)) : v = .str z := by cases h; rfl
theorem dp_int {n : Int} (h : Dp K H v (.int n)) : v = .int n := by cases h; rfl
theorem dp_tup {ds : List PyData} (h : Dp K H v (.tuple ds)) : ∃ p xs, v = .ref p ∧ SqT K H p xs ∧ DpAll K H xs ds := by
  cases h with
  | tup h hs => exact ⟨_, _, rfl, h, hs⟩
theorem dpA_nil {xs : List V} (h : DpAll K H xs []) : xs = [] := by cases h; rfl
theorem dpA_cons {xs : List V} {d : PyData} {ds : List PyData} (h : DpAll K H xs (d :: ds)) : ∃ x r, xs = x :: r ∧ Dp K H x d ∧ DpAll K H r ds := by
  cases h with
  | cons a b => exact ⟨_, _, rfl, a, b⟩
theorem dp_1 {a : PyData} (h : Dp K H v (.tuple [a])) : ∃ p x, v = .ref p ∧ SqT K H p [x] ∧ Dp K H x a := by
  obtain ⟨p, xs, rfl, hp, hs⟩ := dp_tup h
  obtain ⟨x, r, rfl, hx, hs⟩ := dpA_cons hs
  cases dpA_nil hs
  exact ⟨p, x, rfl, hp, hx⟩
theorem dp_2 {a b : PyData} (h : Dp K H v (.tuple [a, b])) : ∃ p x y, v = .ref p ∧ SqT K H p [x, y] ∧ Dp K H x a ∧ Dp K H y b := by
  obtain ⟨p, xs, rfl, hp, hs⟩ := dp_tup h
  obtain ⟨x, r, rfl, hx, hs⟩ := dpA_cons hs
  obtain ⟨y, r, rfl, hy, hs⟩ := dpA_cons hs
  cases dpA_nil hs
  exact ⟨p, x, y, rfl, hp, hx, hy⟩
theorem dp_3 {a b c : PyData} (h : Dp K H v (.tuple [a, b, c])) : ∃ p x y z, v = .ref p ∧ SqT K H p [x, y, z] ∧ Dp K H x a ∧ Dp K H y b ∧ Dp K H z c := by
  obtain ⟨p, xs, rfl, hp, hs⟩ := dp_tup h
  obtain ⟨x, r, rfl, hx, hs⟩ := dpA_cons hs
  obtain ⟨y, r, rfl, hy, hs⟩ := dpA_cons hs
  obtain ⟨z, r, rfl, hz, hs⟩ := dpA_cons hs
  cases dpA_nil hs
  exact ⟨p, x, y, z, rfl, hp, hx, hy, hz⟩
theorem dp_4 {a b c d : PyData} (h : Dp K H v (.tuple [a, b, c, d])) : ∃ p x y z w, v = .ref p ∧ SqT K H p [x, y, z, w] ∧ Dp K H x a ∧ Dp K H y b ∧ Dp K H z c ∧ Dp K H w d := by
  obtain ⟨p, xs, rfl, hp, hs⟩ := dp_tup h
  obtain ⟨x, r, rfl, hx, hs⟩ := dpA_cons hs
  obtain ⟨y, r, rfl, hy, hs⟩ := dpA_cons hs
  obtain ⟨z, r, rfl, hz, hs⟩ := dpA_cons hs
  obtain ⟨u, r, rfl, hu, hs⟩ := dpA_cons hs
  cases dpA_nil hs
  exact ⟨p, x, y, z, u, rfl, hp, hx, hy, hz, hu⟩
/-- the i-th of a tuple of data -/
theorem dpA_get : ∀ {ds : List PyData} {xs : List V} {i : Nat} {d : PyData}, DpAll K H xs ds → ds[i]? = some d → ∃ x, xs[i]? = some x ∧ Dp K H x d
  | [], _, i, d, _, h => by simp at h
  | a :: r, xs, 0, d, hs, h => by
    obtain ⟨x, r', rfl, hx, _⟩ := dpA_cons hs
    have e : a = d := Option.some.inj h
    exact ⟨x, rfl, e ▸ hx⟩
  | a :: r, xs, i + 1, d, hs, h => by
    obtain ⟨x, r', rfl, _, hr⟩ := dpA_cons hs
    obtain ⟨y, hy, hd⟩ := dpA_get hr (show r[i]? = some d from h)
    exact ⟨y, hy, hd⟩
theorem dpA_len : ∀ {ds : List PyData} {xs : List V}, DpAll K H xs ds → xs.length = ds.length
  | [], _, h => by
    rw [dpA_nil h]
    rfl
  | _ :: _, _, h => by
    obtain ⟨x, r, rfl, _, hr⟩ := dpA_cons h
    rw [List.length_cons, List.length_cons, dpA_len hr]
end
end SfG
/-! an own exception's __init__ that begins with super().__init__(e): a def whose cell holds its class -/
namespace SfG
open PySem PySem.Spec PyProof.Rows L2
structure SupScope (N ps : List Str) (sc : Scope) : Prop where
  kind : sc.kind = .function
  co : sc.isCoroutine = false
  gen : sc.isGenerator = false
  nd : N.Nodup
  pre : N.take ps.length = ps
  par : ∀ x ∈ ps, sc.names.lookup x = some .local
  nocell : ∀ y ∈ sc.names, y.2 ≠ .cell
  free : ∀ y ∈ sc.names, y.2 = .free → y.1 = "__class__"
  cls : sc.names.lookup ("__class__" : Str) = some .free
  sup : sc.names.lookup ("super" : Str) = some .globalImplicit
/-- its body's context -/
def cxS (P : Program) (w : World) (K : PySem.W.Frag) (mg : Str → Option Value) (base : Heap) (N : List Str) (env : Env) (A : Around) (outer : List Env) (s : Shared) (H : Hp) (E : XK) : Cx where
  prog := P
  w := w
  K := K
  mg := mg
  base := base
  A := A.deeper env
  N := N
  s_0 := s
  H_0 := H
  env := env
  outer := outer
  stack := env :: outer
  ex := []
  calm := true
  fn := fun _ => false
  pn := []
  xe := fun e s' => wpAny (model P w) (A.deeper env) (leaving env e) (fun _ s'' => CX0 outer H s E e s'') (fun e' s'' => CX0 outer H s E e' s'') s'
theorem lookup_mem {α : Type} {x : Str} {u : α} : ∀ {l : List (Str × α)}, (l.map (·.1)).Nodup → (x, u) ∈ l → l.lookup x = some u
  | [], _, h => by cases h
  | (y, v) :: r, nd, h => by
    rw [List.map_cons] at nd
    obtain ⟨n1, n2⟩ := List.nodup_cons.mp nd
    rw [List.lookup_cons]
    rcases List.mem_cons.mp h with e | h1
    · cases e
      rw [beq_self_eq_true]
    · have ne : x ≠ y := by
        rintro rfl
        exact n1 (List.mem_map_of_mem (f := (·.1)) h1)
      rw [beq_eq_false_iff_ne.mpr ne]
      exact lookup_mem n2 h1
theorem lookup_zip {ps : List Str} {us : List Value} {i : Nat} {x : Str} {u : Value} (nd : ps.Nodup) (hl : ps.length = us.length) (h1 : ps[i]? = some x) (h2 : us[i]? = some u) : (ps.zip us).reverse.lookup x = some u := by
  refine lookup_mem ?_ ?_
  · rw [List.map_reverse, List.map_fst_zip (by omega)]
    exact (List.reverse_perm ps).nodup_iff.mpr nd
  · rw [List.mem_reverse]
    exact List.mem_of_getElem? (i := i) (List.getElem?_zip_eq_some.mpr ⟨h1, h2⟩)
theorem inv_startS {P : Program} {w : World} {K : PySem.W.Frag} {mg : Str → Option Value} {base : Heap} {N ps : List Str} {qual : Str} {scope : Scope} {f cc D : Addr} {cd cl : Value} {cld : Option Addr} {csl : Array (Option Value)} {A : Around} {outer : List Env} {s : Shared} {h₀ : Heap} {tk : Nat} {H : Hp} {E : XK} {us : List Value} {vs : List V}
    (S : SupScope N ps scope) (hd : A.handled = none) (e0 : Env0 P w K mg base A outer s H) (hl : vs.length = ps.length) (r : Vals vs us) (hcell : K.lookup cc = some ⟨cl, cld, .cell (some (.ref D)), csl⟩)
    (hns : h₀.Ns s.heap.objs.size (fun x => (ps.zip us).reverse.lookup x)) (hk : ∀ b o, s.heap.get? b = some o → h₀.get? b = some o) :
    Inv (cxS P w K mg base N (PySem.W.ksEnv qual scope s.heap.objs.size f cd cc) A outer s H E) [] (L2.start N vs) H { s with heap := h₀, toks := tk } := by
  have hpl : ps.length ≤ N.length := by have := congrArg List.length S.pre; rw [List.length_take] at this; omega
  have noA : ∀ b : Addr, b ∉ (cxS P w K mg base N (PySem.W.ksEnv qual scope s.heap.objs.size f cd cc) A outer s H E).ex := fun b z => absurd (show b ∈ ([] : List Addr) from z) (by simp)
  have one : ∀ {x : Str} {c : Addr}, (PySem.W.ksEnv qual scope s.heap.objs.size f cd cc).cells.lookup x = some c → x = "__class__" ∧ c = cc := by
    intro x c h
    have h' : List.lookup x [(("__class__" : Str), cc)] = some c := h
    rw [List.lookup_cons] at h'
    by_cases e : x = "__class__"
    · subst e
      rw [beq_self_eq_true] at h'
      exact ⟨rfl, (Option.some.inj h').symm⟩
    · rw [beq_eq_false_iff_ne.mpr e] at h'
      cases h'
  have bcc : base.get? cc = some ⟨cl, cld, .cell (some (.ref D)), csl⟩ := e0.mod.kin _ _ hcell
  refine ⟨⟨e0.mod, S.kind, rfl, rfl, Nat.le_refl _, fun y z c h1 h2 => ?_, fun y hy => ?_, fun y c h _ => Bool.noConfusion (show false = true from h), fun _ => hd, Around.frames_deeper e0.frames, .inr ⟨rfl, rfl⟩, fun b z => absurd z (noA b), e0.bs, e0.bsz, fun b _ _ => noA b, fun b z => absurd z (noA b), e0.funs, e0.frf⟩,
    rfl, e0.bare, Un.kept hk, ⟨_, hns, fun i y v h1 h2 h3 => ?_⟩, fun y c h => ?_, e0.hok.fresh (Nat.le_refl _), fun y c h => ?_, fun p hp => absurd (show p ∈ ([] : List (Addr × Obj)) from hp) (by simp), e0.hok.kept hk, ?_⟩
  · exact (one h1).1.trans (one h2).1.symm
  · have hy : scope.names.lookup y = some .cell ∨ scope.names.lookup y = some .free := hy
    rcases hy with hy | hy
    · exact absurd rfl (S.nocell _ (PySem.mem_of_lookup hy))
    · have e := S.free _ (PySem.mem_of_lookup hy) rfl
      have e' : y = "__class__" := e
      exact ⟨cc, by rw [e']; rfl⟩
  · have hi : i < vs.length := by
      unfold L2.start at h2
      by_cases hi : i < vs.length
      · exact hi
      · rw [List.getElem?_append_right (by simpa using hi)] at h2
        rw [List.getElem?_replicate] at h2
        split at h2 <;> cases h2
    have ha : vs[i]? = some v := by
      unfold L2.start at h2
      rw [List.getElem?_append_left (by simpa using hi), List.getElem?_map] at h2
      cases e : vs[i]? with
      | none => rw [e] at h2; cases h2
      | some a => rw [e] at h2; cases h2; rfl
    obtain ⟨u, hu, rv⟩ := r.get ha
    have hp : ps[i]? = some y := by
      rw [← S.pre, List.getElem?_take_of_lt (by omega)]; exact h1
    have ndP : ps.Nodup := by rw [← S.pre]; exact S.nd.sublist (List.take_sublist _ _)
    exact ⟨u, rv, .inl ⟨S.par y (List.mem_of_getElem? hp), lookup_zip ndP (by rw [← hl]; exact r.length) hp hu⟩⟩
  · rw [(one h).2]
    exact ⟨_, _, hk _ _ (e0.bs _ _ bcc).1, rfl⟩
  · rw [(one h).2]
    exact (e0.bs _ _ bcc).2
  · unfold L2.start
    show _ = N.length
    rw [List.length_append, List.length_map, List.length_replicate]
    omega
end SfG
namespace SfG
open PySem PySem.Spec PyProof.Rows L2
section
open PySem.W PySem.Calls
variable {prog : Program} {w : World} {A : Around} {E : Value → Shared → Prop} {h : Heap} {g : Array GenState} {d : Drawn} {t : Nat} {os : OsState}
variable {nm q : Str} {C N : Addr} {bs bm : List Value} {hdct : Bool} {sn : List Str} {sub : List Value} {ab : Bool} {col : Option Bool} {dd : Option Addr} {k0 k1 k2 k3 k5 : Option Value}
/-- the bound ValueError.__init__ is called -/
theorem call_mw {u e t0 : Addr} {rest : List Value} {Q : Value → Shared → Prop}
    (hC : h.get? C = some (excClassObj nm q C N bs bm hdct sn sub ab col dd k0 k1 k2 k3 k5 "ValueError.__new__")) (he : h.get? e = some ({ cls := .ref C, dict := none, data := .fields #[.ref t0, .none, .none, .none, .bool false, .none] } : Obj))
    (hu : h.get? u = some (kxs_mw "ValueError.__init__" e)) (hrest : rest.length ≤ sizeLine)
    (hq : ∀ h' t1, (∀ b o, b ≠ e → h.get? b = some o → h'.get? b = some o) → h'.get? e = some ({ cls := .ref C, dict := none, data := .fields #[.ref t1, .none, .none, .none, .bool false, .none] } : Obj) → Q .none ⟨h', g, d, t, os⟩) :
    wpAny (model prog w) A (call (.ref u) rest) Q E ⟨h, g, d, t, os⟩ := by
  refine wpAny_call (codeAny_of_tree ?_)
  show wpAny _ A.in1 (callAny (.ref u) ⟨rest, []⟩) _ _ _
  simp only [callAny]
  refine wpAny_bind (wpAny_load hu ?_)
  simp only [kxs_mw, show (Value.type "method-wrapper" == Value.type "method" || Value.type "method-wrapper" == Value.type "builtin_function_or_method" || Value.type "method-wrapper" == Value.type "method-wrapper") = true by decide, if_true]
  refine KFB.if_so (by decide) ?_
  refine wpAny_bind (check_bound_init F.excBase_ValueError.toExcCallFacts hC he rfl ?_)
  refine wpAny_bind (wpAny_pure (wpAny_pure ?_))
  refine ⟨plainId_quiet F.excBase_ValueError.init.plain _, codeAny_builtin F.excBase_ValueError.initEntry ?_⟩
  rw [Around.under_plainId F.excBase_ValueError.init.plain _]
  exact exc_init_tree (cls := .ref C) (t0 := t0) (dv := none) (c2 := .none) (c3 := .none) (b4 := .bool false) he hrest fun h' k e' _ => hq h' _ k e'
end
/-- what the written part says of such a class: its cell, its code, what super() finds -/
structure SupC (P : Program) (K : PySem.W.Frag) (mg : Str → Option Value) (C cc cda : Addr) : Prop where
  T : OexC K C
  cell : ∃ cl cld csl, K.lookup cc = some ⟨cl, cld, .cell (some (.ref C)), csl⟩
  code : ∃ ccl cdd vs ccs file tf, K.lookup cda = some ⟨ccl, cdd, .fields vs, ccs⟩ ∧ vs[2]? = some (.str file tf) ∧ ((P.main.file : Str) == file) = true
  mro : PySem.W.mroIn K C (.ref C) = some true
  sup : mg "super" = none
  top : (P.main.scope.names.lookup ("super" : Str)).isSome = false
  any : PySem.W.nsIn K cStatics "thirdparty.any" = some none
  ini : PySem.W.ks_superIn K C C "__init__" = some (some (.builtin "ValueError.__init__"))
  ve : PySem.W.subIn K (.ref C) (.type "ValueError") = some true
section
variable {P : Program} {w : World} {K : PySem.W.Frag} {mg : Str → Option Value} {base : Heap}
set_option maxHeartbeats 2000000 in
theorem fn_super {k : Nat} {f C cc cda : Addr} {name qual : Str} {params : Arguments} {body : List Stmt} {scope : Scope} {dV kV doc pm ct oc : Value} {an od : Option Addr} {osl : Array (Option Value)} {N ps : List Str} {sp : Sp} {e : Expr} {p0 p1 p2 p3 p4 : Pos} {ar : Arg}
    (lk : K.lookup f = some ⟨oc, od, .func (PySem.W.ksFn name qual params (.Expr (.Call (.Attribute (.Call (.Name "super" p0) [] [] p1) "__init__" p2) [e] [] p3) p4 :: body) scope dV kV doc pm an (.ref cda) ct cc), osl⟩)
    (hcd : PySem.W.codeIn K (.ref cda) qual = true) (S : SupScope N ps scope) (U : SupC P K mg C cc cda) (har : (params.posonlyargs ++ params.args).head? = some ar) (hself : ps.head? = some ar.arg)
    (len : ∀ vs H Q E, sp vs H Q E → vs.length = ps.length)
    (hbody : ∀ (A : Around) (outer : List Env) (s : Shared) (H : Hp) (vs : List V) (Q : VK) (E : XK), Room k (A.deeper (PySem.W.ksEnv qual scope s.heap.objs.size f (.ref cda) cc)) → sp vs H Q E →
      ∃ (a : Addr) (ws : List V) (te : TE) (t : TS), vs = .ref a :: ws ∧ H a = some (exo a C none) ∧ PE (cxS P w K mg base N (PySem.W.ksEnv qual scope s.heap.objs.size f (.ref cda) cc) A outer s H E).nox e te ∧
        PSs (cxS P w K mg base N (PySem.W.ksEnv qual scope s.heap.objs.size f (.ref cda) cc) A outer s H E).nox body t ∧
        te (L2.start N vs) H fun _ H1 => H1 a = some (exo a C none) ∧ t { nx := fun _ H' => Q .non H', rt := Q } (L2.start N vs) H1)
    (he : ∀ env : Env, starEach [e] env = (false, eval e env) :: starEach [] env)
    (hev : ∀ env : Env, ∃ pl : Sem Bool, eval (.Call (.Attribute (.Call (.Name "super" p0) [] [] p1) "__init__" p2) [e] [] p3) env = (do
      let ov ← attributeBase (.Call (.Name "super" p0) [] [] p1) "__init__" env (eval (.Call (.Name "super" p0) [] [] p1) env)
      standAt p2.atName
      let (f, first) ← holding [ov] (getMethod ov "__init__" pl)
      callWith p3 f first (backTo p3 (starEach [e] env)) []))
    (hsw : ∀ env : Env, swapsWith (.Call (.Attribute (.Call (.Name "super" p0) [] [] p1) "__init__" p2) [e] [] p3) none p4.line env = pure false) :
    FnOk P w K mg base CX0 (k + 1) f (PySem.W.ksFn name qual params (.Expr (.Call (.Attribute (.Call (.Name "super" p0) [] [] p1) "__init__" p2) [e] [] p3) p4 :: body) scope dV kV doc pm an (.ref cda) ct cc) ps sp := by
  refine ⟨len, fun A outer s H args us vs Q E hr e0 hb r hsp => ?_⟩
  have hl := len _ _ _ _ hsp
  have KX : K.In s.heap := e0.mod.kin.keeps fun b o e => (e0.bs b o e).1
  have lim : s.heap.NoLimit := e0.mod.nolimit.keeps fun b o e => (e0.bs b o e).1
  have hlz : us.length = ps.length := by rw [← hl]; exact r.length.symm
  obtain ⟨cl, cld, csl, hcell⟩ := U.cell
  obtain ⟨ccl, cdd, cvs, ccs, file, tf, hcode, hfile2, hfile⟩ := U.code
  obtain ⟨nm, q, N', bs, bm, sn, sub, ab, col, dd, k0, k1, k2, k3, k5, hC, hbm⟩ := U.T.cls
  have hclD : PySem.W.clsIn K C = some { name := nm, bases := bs, mro := .ref C :: bm, ns := N', qualname := q, hasDict := true, slotNames := sn, subclasses := sub, abstract := ab, collection := col, hasDel := false } := by unfold PySem.W.clsIn; rw [hC] <;> rfl
  obtain ⟨a, ws, te, t, rfl, ha, pe, pss, hq⟩ := hbody A outer s H vs Q E (hr.deeper _) hsp
  refine PySem.ks_codeAny_call_defAt hr.depth (KX _ _ lk) rfl lim (PySem.W.codeRec_of KX hcd) rfl hb S.nocell ?_ (fun h₀ hns hk => ?_) S.co S.gen S.kind
  · rintro ⟨n, v⟩ hy
    exact S.par n (List.of_mem_zip hy).1
  have I0 := inv_startS (E := E) (qual := qual) (f := f) (cd := .ref cda) (tk := s.toks + (ps.zip us).length) S hr.hd e0 hl r hcell hns hk
  have hok0 := I0.hok
  obtain ⟨t0, hx⟩ := exo_at hok0 ha
  have X0 : K.In h₀ := KX.keeps hk
  -- the slot of self
  have hself2 : ∃ u, (ps.zip us).reverse.lookup ar.arg = some u ∧ u = .ref a := by
    cases ps with
    | nil => cases hself
    | cons p pr =>
      have ep : p = ar.arg := Option.some.inj hself
      cases r with
      | cons r0 r1 =>
        refine ⟨_, lookup_zip (i := 0) (by rw [← S.pre]; exact S.nd.sublist (List.take_sublist _ _)) hlz.symm (by rw [ep]; rfl) rfl, r0⟩
  obtain ⟨uself, hus, rfl⟩ := hself2
  have hloc : scope.names.lookup ar.arg = some .local := by
    refine S.par _ ?_
    cases ps with
    | nil => cases hself
    | cons p pr =>
      rw [show ar.arg = p from (Option.some.inj hself).symm]
      exact List.mem_cons_self
  have hint : interactive (PySem.W.ksEnv qual scope s.heap.objs.size f (.ref cda) cc) = false := by
    unfold interactive
    show (scope.kind == _ && _) = false
    rw [S.kind]
    rfl
  obtain ⟨pl, hev1⟩ := hev (PySem.W.ksEnv qual scope s.heap.objs.size f (.ref cda) cc)
  refine PySem.ks_wpAt_execs_cons (PySem.ks_wpAt_Expr_any (PySem.ks_wpAt_MethodCall (pl := pl) ?_ hev1) hint (hsw _))
  refine PySem.ks_wpAt_super_base (env := PySem.W.ksEnv qual scope s.heap.objs.size f (.ref cda) cc) S.sup S.cls (by decide) rfl (X0 _ _ lk) rfl har rfl (X0 _ _ hcode) rfl hfile2 hfile U.top ?_
  obtain ⟨mb, b1, b2⟩ := e0.mod.blt
  have bk : ∀ b o, base.get? b = some o → h₀.get? b = some o := fun b o z => hk _ _ (e0.bs b o z).1
  refine PySem.W.ks_loadName_global S.kind S.sup (Calls.loadGlobal_builtin (env := PySem.W.ksEnv qual scope s.heap.objs.size f (.ref cda) cc) (e0.mod.glob.keeps bk) U.sup (b1.keeps bk) ((b2 "super" (by decide)).trans (by decide +kernel)) ⟨rfl, ?_⟩)
  refine wpAny_loadName_free S.kind S.cls rfl ⟨_, X0 _ _ hcell, rfl⟩ ?_
  refine wpAny_loadName_local S.kind hloc hns hus ?_
  have hCd : (excClassObj nm q C N' bs bm true sn sub ab col dd k0 k1 k2 k3 k5 "ValueError.__new__").data = .cls { name := nm, bases := bs, mro := .ref C :: bm, ns := N', qualname := q, hasDict := true, slotNames := sn, subclasses := sub, abstract := ab, collection := col, hasDel := false } := rfl
  refine PySem.ks_wpAny_isType_cls (X0 _ _ hC) hCd ⟨rfl, ?_⟩
  refine PySem.ks_wpAny_call_super (X0 _ _ hC) hCd hx rfl (fun c z => by cases z) (PySem.W.looks_mroIn X0 U.mro) (fun h1 hso k1' => ?_)
  have I1 := I0.kept (h' := h1) (t' := s.toks + (ps.zip us).length) k1'
  have X1 : K.In h1 := X0.keeps k1'
  have hx1 := k1' _ _ hx
  have Inst : PySem.W.InstAt h1 a { cls := .ref C, dict := none, data := .fields #[.ref t0, .none, .none, .none, .bool false, .none] } C none := ⟨hx1, rfl, rfl, trivial⟩
  have hin : PySem.W.alongIn K "__init__" (((Value.ref C :: bm).dropWhile (· != .ref C)).drop 1) = some (some (.builtin "ValueError.__init__")) := by
    have := U.ini
    unfold PySem.W.ks_superIn at this
    rw [hclD] at this
    exact this
  refine PySem.W.kxs_getMethod PySem.W.kxs_ValueError hso (PySem.W.looks_opaque X1 U.any) (l₀ := .ref C :: bm) (fun A Q E s k q => wpAny_bind ((PySem.W.looks_clsIn X1 hclD) A _ E s k (wpAny_pure q))) rfl X1 hin (Inst.type.andThen (PySem.W.looks_subIn X1 U.ve)) (PySem.W.ks_ne X1 Inst hclD) (by decide) ?_
  have kk : ∀ b o, h1.get? b = some o → (h1.push (PySem.W.kxs_mw "ValueError.__init__" a)).get? b = some o := fun b o z => Heap.get?_push_of_some _ z
  have I2 := I1.kept (h' := h1.push (PySem.W.kxs_mw "ValueError.__init__" a)) (t' := s.toks + (ps.zip us).length + 1) kk
  have hu2 : (h1.push (PySem.W.kxs_mw "ValueError.__init__" a)).get? h1.objs.size = some (PySem.W.kxs_mw "ValueError.__init__" a) := Heap.get?_push_at rfl rfl
  have I3 := I2.pins_of (pins' := [(h1.objs.size, PySem.W.kxs_mw "ValueError.__init__" a)]) (by
    intro p hp
    rw [List.mem_singleton.mp hp]
    refine ⟨hu2, I1.hok.fresh (Nat.le_refl _), ?_, I1.nofs (Nat.le_refl _), fun v z => by cases z⟩
    exact Nat.ne_of_gt I1.lt)
  rw [he]
  refine PySem.W.kxs_callWith (i := "ValueError.__init__") (x := a) (by rfl) ?_
  refine Calls.evalArgs_plain (Calls.spliced_cons (thn (pe.nox.run _ _ _ H _ I3 hq) ?_))
  rintro u s1 ⟨v, H1, J1, rv, ha1, q1⟩
  refine Calls.spliced_nil ⟨(J1.pin _ (List.mem_append_right _ List.mem_cons_self)).1, ?_⟩
  have hu3 := (J1.pin (h1.objs.size, PySem.W.kxs_mw "ValueError.__init__" a) (List.mem_append_right _ List.mem_cons_self)).1
  obtain ⟨t2, hx2⟩ := exo_at J1.hok ha1
  obtain ⟨hp, g, d, tk, os⟩ := s1
  refine call_mw (J1.kIn _ _ hC) hx2 hu3 (by show 1 ≤ sizeLine; decide) fun h' t3 k3 hx3 => ?_
  have J := (J1.pins_of (pins' := []) (fun p hp => by cases hp)).write (t' := tk) (x := a) (e := a) (o := exo a C none) (by rw [ha1]; exact True.intro) (.inl rfl) k3 ⟨_, hx3⟩ (exo_ok hx3)
  have eu : upd H1 a (exo a C none) = H1 := by
    funext b
    by_cases hb : b = a
    · rw [hb, upd_same, ha1]
    · rw [upd_ne hb]
  rw [eu] at J
  refine PySem.wpAt_of_wpAny ?_
  refine wpAny_mono (pss.nox.run [] _ (L2.start N (.ref a :: ws)) H1 _ J q1) (fun fl s' hs => ?_) fun e s' hs => hs
  cases fl with
  | ret u =>
    obtain ⟨v, σ', H', J', rv, q⟩ := hs
    exact ⟨v, H', J'.os, J'.bare, J'.base, J'.hok, rv, q⟩
  | next =>
    obtain ⟨σ', H', J', q⟩ := hs
    exact ⟨.non, H', J'.os, J'.bare, J'.base, J'.hok, rfl, q⟩
  | brk =>
    obtain ⟨_, _, _, q⟩ := hs
    exact False.elim q
  | cont =>
    obtain ⟨_, _, _, q⟩ := hs
    exact False.elim q
end
end SfG
namespace SfG
open PySem PySem.Spec PyProof.Rows L2
/-! ### an exception that is held behind its try -/
/-- an exception of the class cls, caught, at a -/
def EkO (cls : Value) (d : Option Addr) (a : Addr) : HO := .ext fun h => ∃ oe : Obj, h.get? a = some oe ∧ Zc cls d oe ∧ ∃ vs, oe.data = .fields vs
section
variable {X : Cx} {pins : List (Addr × Obj)} {σ : L2.St} {H : Hp} {s : Shared}
theorem inv_track {a : Addr} {oe : Obj} {vs : Array Value} {φ : Heap → Prop} (I : L2.Inv X pins σ H s) (ha : s.heap.get? a = some oe) (hd : oe.data = .fields vs) (na : H a = none) (nL : a ≠ X.env.locals)
    (n0 : X.s_0.heap.get? a = none) (np : ∀ p ∈ X.pn ++ pins, p.1 ≠ a) (new : ObjOk X.prog X.w (upd H a (.ext φ)) s.heap a (.ext φ)) : L2.Inv X pins σ (upd H a (.ext φ)) s where
  ok := I.ok
  os := I.os
  bare := I.bare
  base := {
    keep := I.base.keep
    slot := I.base.slot
    free := by
      intro b o e n hx
      rw [upd_ne (by intro z; rw [z, n0] at e; cases e)]
      exact I.base.free b o e n hx
    there := I.base.there
    tups := by
      intro b xs e
      have q := I.base.tups b xs e
      rw [upd_ne (ne_of_none q na)]
      exact q
    frzs := by
      intro b o u e
      have q := I.base.frzs b o u e
      rw [upd_ne (ne_of_none q na)]
      exact q
    tbls := by
      intro b ps e
      obtain ⟨more, q⟩ := I.base.tbls b ps e
      exact ⟨more, by rw [upd_ne (ne_of_none q na)]; exact q⟩ }
  loc := I.loc
  cell := I.cell
  free := by
    rw [upd_ne (Ne.symm nL)]
    exact I.free
  freeC := by
    intro x c e
    rw [upd_ne ?_]
    · exact I.freeC x c e
    · intro z
      obtain ⟨v, o, ho, hc⟩ := I.cell x c e
      rw [z, ha] at ho
      cases ho
      rw [hd] at hc
      cases hc
  pin := by
    intro p hp
    obtain ⟨e, n, rest⟩ := I.pin p hp
    exact ⟨e, by rw [upd_ne (np p hp)]; exact n, rest⟩
  hok := I.hok.laidN (fun _ _ e => e) na new
  len := I.len
end
/-- what the clause wishes: the exception is held behind the suite -/
def wKeep (K : PySem.W.Frag) (c : Value) (i : Nat) (ts : Addr → Value → Option Addr → TS) (Wout : WX) (D : Ends) : WX := fun cls d σ H =>
  ∃ b, PySem.W.exmOne K cls c = some b ∧
    (b = true → ∀ a, H a = none → ts a cls d { nx := fun σ' H' => D.nx (σ'.set i none) (upd H' a (EkO cls d a)), rt := fun _ _ => False, bk := fun _ _ => False, ct := fun _ _ => False } (σ.set i (some (.ref a))) H) ∧
    (b = false → Wout cls d σ H)
section
variable {X : Cx} {x n : Str} {c : Value} {i : Nat} {body more : List Stmt} {st0 : Stmt} {p1 p2 p3 : Pos} {tb : WX → TS} {ts : Addr → Value → Option Addr → TS} {Wout : WX}
theorem ps_try_keep (stk : X.stack = X.env :: X.outer) (frm : X.env.frame = some X.env.locals) (hex : X.ex = []) (hN : X.N.Nodup) (hi : X.N[i]? = some n) (hn : X.env.kindOf n = some .local) (hc : Names X x c) (tk : Takes X Wout)
    (bd : ∀ (W : WX) (pn : List (Addr × Obj)) (xe : Value → Shared → Prop), Takes (X.tr pn xe) W → PassesOwn (model X.prog X.w) X.A X.env xe → PSs (X.tr pn xe) body (tb W))
    (su : ∀ (a : Addr) (oe : Obj) (cls : Value) (d : Option Addr) (pn : List (Addr × Obj)), Zc cls d oe → (∃ vs, oe.data = .fields vs) → PSs (X.suite a ((a, oe) :: pn)) (st0 :: more) (ts a cls d))
    (yes : ∀ D cls d σ H, wKeep X.K c i ts Wout D cls d σ H → PySem.W.exmOne X.K cls c = some true) :
    PS X (.Try body [.ExceptHandler (some (.Name x p1)) (some n) (st0 :: more) p2] [] [] p3) (fun D σ H => tb (wKeep X.K c i ts Wout D) D σ H) := by
  constructor
  intro pins s σ H D I h
  have okX := I.ok
  have frames : X.A.frames = some (X.env :: X.outer) := by
    rw [okX.frames, stk]
  refine wpAny_Try_except ?_
  have B1 := bd (wKeep X.K c i ts Wout D) (X.pn ++ pins)
    (fun e s₁ => wpAny (model X.prog X.w) X.A (noteFrame e X.env)
      (fun _ s₂ => wpAny (model X.prog X.w) X.A (setFlight e none)
        (fun _ s₃ => wpAny (model X.prog X.w) X.A
          (handleBy e X.env [.ExceptHandler (some (.Name x p1)) (some n) (st0 :: more) p2]) (SP X pins D) X.xe s₃) X.xe s₂) X.xe s₁)
    ?caught PassesOwn.looking
  · refine wpAny_mono (B1.run [] s σ H D (I.toTry _) h) ?_ (fun _ _ z => z)
    intro f s1 hs1
    cases f with
    | next =>
      obtain ⟨σ', H', J, q⟩ := hs1
      exact wpAny_execs_nil ⟨σ', H', J.ofTry okX, q⟩
    | ret u =>
      obtain ⟨v, σ', H', J, r, q⟩ := hs1
      exact ⟨v, σ', H', J.ofTry okX, r, q⟩
    | brk =>
      obtain ⟨σ', H', J, q⟩ := hs1
      exact ⟨σ', H', J.ofTry okX, q⟩
    | cont =>
      obtain ⟨σ', H', J, q⟩ := hs1
      exact ⟨σ', H', J.ofTry okX, q⟩
  case caught =>
    intro u s' air
    obtain ⟨a, B, sI, pins', σ', H', cls, d, rfl, J', ground, up, sky, na, os, ag, wish⟩ := air
    have hyes := yes D cls d σ' H' wish
    obtain ⟨b, hb1, hgo, _⟩ := wish
    rw [hyes] at hb1
    cases hb1
    have J : L2.Inv X pins σ' H' sI := J'.ofTry okX
    have skyX : Sky B (X.env :: X.outer) a (Zc cls d) X.env.locals s'.heap := by
      rw [← stk]
      exact sky
    show wpAny (model X.prog X.w) X.A (noteFrame (.ref a) X.env) _ _ _
    refine Sky.land Zc.steady frames frm skyX ?_
    intro h3 fl3 up3
    obtain ⟨oe3, vs3, get3, z3, dat3⟩ := fl3.there
    have noFrame : a ∉ frs (X.env :: X.outer) := by
      intro hm
      obtain ⟨_, o', e', nof⟩ := fl3.2.2.1.mem hm
      rw [get3] at e'
      cases e'
      exact nof _ dat3
    have notL : a ≠ X.env.locals := by
      intro z
      refine noFrame (List.mem_filterMap.mpr ⟨X.env, List.mem_cons_self, ?_⟩)
      rw [frm, z]
    have notF : a ∉ X.fs := by
      intro hm
      obtain ⟨e, he, q⟩ := List.mem_filterMap.mp hm
      exact noFrame (List.mem_filterMap.mpr ⟨e, List.mem_cons_of_mem _ he, q⟩)
    have newI : sI.heap.get? a = none := by
      cases e : sI.heap.get? a with
      | none => rfl
      | some o =>
        have z := ground a o e (by rw [stk]; exact noFrame)
        rw [fl3.2.1] at z
        cases z
    have new0 : X.s_0.heap.get? a = none := by
      cases e : X.s_0.heap.get? a with
      | none => rfl
      | some o =>
        obtain ⟨o', z⟩ := J.base.there a o e (by rw [hex]; exact fun q => nomatch q)
        rw [newI] at z
        cases z
    have notP : ∀ p ∈ X.pn ++ pins, p.1 ≠ a := by
      intro p hp z
      have q := (J.pin p hp).1
      rw [z, newI] at q
      cases q
    have J3 : L2.Inv X pins σ' H' { s' with heap := h3 } := J.landed ground fl3.1 (up.trans up3) os ag
    have S3 := J3.suite get3 dat3 na notL notF
    refine wpAny_handleBy_cons (codeAny_handlers_test ?_) (by intro q; cases q)
    have kindly : PySem.W.Looks (model X.prog X.w) h3 (typeOf (.ref a)) cls := by
      intro A2 Q2 E2 s2 k2 q2
      refine wpAny_typeOf_ref (k2 _ _ get3) ?_
      rw [z3.1]
      exact q2
    have match_ := PySem.W.exm_one (M := model X.prog X.w) J3.kIn kindly hyes
    have named : ∀ {Q2 : Value → Shared → Prop} {E2 : Value → Shared → Prop}, Q2 c { s' with heap := h3 } →
        wpAny (model X.prog X.w) (X.A.mark (some (.ref a))) (eval (.Name x p1) X.env) Q2 E2 { s' with heap := h3 } := by
      intro Q2 E2 q2
      obtain ⟨g1, g2, g3 | ⟨g3, g4, g5⟩⟩ := hc
      · exact ld_glob (X := X.suite a ((a, oe3) :: (X.pn ++ pins))) S3 g1 g3 q2 g2
      · exact ld_blt (X := X.suite a ((a, oe3) :: (X.pn ++ pins))) S3 g1 g3 g4 q2 g5 g2
    refine named (match_.here ?_)
    refine codeAny_handlers_suite_as ?_
    refine HandSPX.lands_againZ fl3 ?_
    intro h4 fl4 up4
    obtain ⟨oe4, vs4, get4, z4, dat4⟩ := fl4.there
    have J4 : L2.Inv X pins σ' H' { s' with heap := h4 } := J.landed ground fl4.1 ((up.trans up3).trans up4) os ag
    have S4 := J4.suite get4 dat4 na notL notF
    refine store_ok (X := X.suite a ((a, oe4) :: (X.pn ++ pins))) (v := .ref a) S4 hN hi (.inl hn) rfl ?_ (.inr hn)
    intro s5 S5
    refine wpAny_mono ((su a oe4 cls d (X.pn ++ pins) z4 ⟨_, dat4⟩).run [] s5 _ H' _ S5 (hgo rfl a na)) ?_ (fun _ _ z => False.elim z)
    intro f s6 hs6
    cases f with
    | next =>
      obtain ⟨σ6, H6, S6, q6⟩ := hs6
      obtain ⟨get6, na6, _⟩ := S6.pin (a, oe4) (List.mem_append_left _ List.mem_cons_self)
      have J6 : L2.Inv X pins σ6 H6 s6 := S6.unsuite okX
      have T6 := inv_track (φ := fun h => ∃ oe : Obj, h.get? a = some oe ∧ Zc cls d oe ∧ ∃ vs, oe.data = .fields vs) J6 get6 dat4 na6 notL new0 notP
        ⟨⟨oe4, get6, z4, _, dat4⟩, ⟨oe4, get6⟩, fun h1 h2 ⟨o, e, r⟩ k => ⟨o, k o e, r⟩⟩
      refine gone_ok T6 hN hi hn ?_
      intro s7 J7
      exact ⟨_, _, J7, q6⟩
    | brk =>
      obtain ⟨σ6, H6, S6, q6⟩ := hs6
      exact q6.elim
    | cont =>
      obtain ⟨σ6, H6, S6, q6⟩ := hs6
      exact q6.elim
    | ret u =>
      obtain ⟨v6, σ6, H6, S6, r6, q6⟩ := hs6
      exact q6.elim
end
/-! ### isinstance of such an exception -/
def rIsK (K : PySem.W.Frag) (D : Addr) : List V → Hp → VK → Prop := fun xs H Q =>
  ∃ (a : Addr) (c : V) (cv : Value) (b : Bool), xs = [.ref a, c] ∧ H a = some (EkO (.ref D) none a) ∧ (∀ u, RelV c u → u = cv) ∧ PySem.W.kitOne K (.ref D) cv = some b ∧ Q (.bl b) H
theorem call_isK {X : Cx} {D : Addr} (C : ExcC X.K D) : CallR X (.builtin "isinstance") (rIsK X.K D) := by
  intro pins s σ H xs us Q I r h
  obtain ⟨a, c, cv, b, rfl, hH, hcv, e, q⟩ := h
  obtain ⟨⟨oe, get, z, vs, dat⟩, _⟩ := I.hok a _ hH
  cases r with
  | cons rx rr =>
    cases rr with
    | cons rt rr =>
      cases rr
      cases rx
      have ec := hcv _ rt
      subst ec
      have J : PySem.W.InstAt s.heap a oe D none := by
        obtain ⟨oc, od, oda, osl⟩ := oe
        obtain ⟨h1, h2⟩ := z
        dsimp only at h1 h2 dat
        subst h1 h2 dat
        exact ⟨get, rfl, rfl, trivial⟩
      refine PySem.W.kia_one (PySem.W.handS_kitx_exc C.hg C.hk C.hs C.hd C.ha C.hn C.ht C.hm) I.kIn J e (fun z => nomatch z) ?_
      intro tk
      exact ⟨.bl b, H, I.kept (t' := tk) fun _ _ z => z, rfl, q⟩
end SfG
/-! an exception held behind its try: with or without fields; isinstance of it, its fields -/
namespace SfG
open PySem PySem.Spec PyProof.Rows L2
/-- at a: an exception of the class at D, held; its fields lie in its dict -/
def Ek (H : Hp) (D a : Addr) : Prop := ∃ d, H a = some (EkO (.ref D) d a) ∧ (d = none ∨ ∃ dx fs, d = some dx ∧ H dx = some (.xd fs))
/-- and its field f is v -/
def EkF (H : Hp) (D a : Addr) (fs : List (Str × V)) : Prop := ∃ dx, H a = some (EkO (.ref D) (some dx) a) ∧ H dx = some (.xd fs)
theorem EkF.ek {H : Hp} {D a : Addr} {fs : List (Str × V)} (h : EkF H D a fs) : Ek H D a := by
  obtain ⟨dx, h1, h2⟩ := h
  exact ⟨some dx, h1, .inr ⟨dx, fs, rfl, h2⟩⟩
theorem Ek.gr {H H' : Hp} {D a : Addr} (h : Ek H D a) (g : Gr H H') : Ek H' D a := by
  obtain ⟨d, h1, h2⟩ := h
  refine ⟨d, g.keep _ _ h1 (fun _ z => by cases z), ?_⟩
  rcases h2 with h2 | ⟨dx, fs, e, h2⟩
  · exact .inl h2
  · exact .inr ⟨dx, fs, e, g.keep _ _ h2 (fun _ z => by cases z)⟩
theorem EkF.gr {H H' : Hp} {D a : Addr} {fs : List (Str × V)} (h : EkF H D a fs) (g : Gr H H') : EkF H' D a fs := by
  obtain ⟨dx, h1, h2⟩ := h
  exact ⟨dx, g.keep _ _ h1 (fun _ z => by cases z), g.keep _ _ h2 (fun _ z => by cases z)⟩
section
variable {X : Cx} {pins : List (Addr × Obj)} {σ : L2.St} {H : Hp} {s : Shared}
theorem ek_inst {D a : Addr} (I : L2.Inv X pins σ H s) (h : Ek H D a) : ∃ oe od, PySem.W.InstAt s.heap a oe D od := by
  obtain ⟨d, hH, hd⟩ := h
  obtain ⟨⟨oe, get, z, vs, dat⟩, _⟩ := I.hok a _ hH
  obtain ⟨oc, od, oda, osl⟩ := oe
  obtain ⟨h1, h2⟩ := z
  dsimp only at h1 h2 dat
  subst h1 h2 dat
  rcases hd with rfl | ⟨dx, fs, rfl, hx⟩
  · exact ⟨_, none, get, rfl, rfl, trivial⟩
  · have hx' : ObjOk X.prog X.w H s.heap dx (.xd fs) := I.hok dx _ hx
    obtain ⟨mA, hns, hr⟩ := hx'
    obtain ⟨od, ho, hl⟩ := lookIn_ns hns
    exact ⟨_, some od, get, rfl, rfl, ho⟩
end
def rIsX (K : PySem.W.Frag) (D : Addr) : List V → Hp → VK → Prop := fun xs H Q =>
  ∃ (a : Addr) (c : V) (cv : Value) (b : Bool), xs = [.ref a, c] ∧ Ek H D a ∧ (∀ u, RelV c u → u = cv) ∧ PySem.W.kitOne K (.ref D) cv = some b ∧ Q (.bl b) H
theorem call_isX {X : Cx} {D : Addr} (C : ExcC X.K D) : CallR X (.builtin "isinstance") (rIsX X.K D) := by
  intro pins s σ H xs us Q I r h
  obtain ⟨a, c, cv, b, rfl, hH, hcv, e, q⟩ := h
  obtain ⟨oe, od, J⟩ := ek_inst I hH
  have hcl : (PySem.W.clsIn X.K D).isSome = true := by
    obtain ⟨cd, hc, _⟩ := PySem.W.any_some C.hd
    rw [hc]
    rfl
  cases r with
  | cons rx rr =>
    cases rr with
    | cons rt rr =>
      cases rr
      cases rx
      have ec := hcv _ rt
      subst ec
      refine PySem.W.kia_one (PySem.W.kitx_exc hcl C.hg C.hk C.hs C.ha C.hn C.ht C.hm) I.kIn J e (fun z => nomatch z) ?_
      intro tk
      exact ⟨.bl b, H, I.kept (t' := tk) fun _ _ z => z, rfl, q⟩
/-- e.f, e an exception that is held -/
def tKf (C : Addr) (f : Str) (te : TE) : TE := fun σ H Q => te σ H fun x H1 => ∃ (a : Addr) (fs : List (Str × V)) (v : V), x = .ref a ∧ EkF H1 C a fs ∧ fs.lookup f = some v ∧ Q v H1
theorem pe_kf {X : Cx} {C : Addr} {e : Expr} {te : TE} {pos : Pos} {n : Str} (T : XfC X.K C) (hno : PySem.W.findIn X.K (.ref C) n = some none) (he : PE X e te) (hb : attributeBase e n X.env (eval e X.env) = eval e X.env := by rfl) :
    PE X (.Attribute e n pos) (tKf C n te) := by
  refine ⟨fun pins s σ H Q I h => ?_⟩
  refine attr_of hb (thn (he.run pins s σ H _ I h) fun u s1 hh => ?_)
  obtain ⟨x, H1, I1, rx, a, fs, v, rfl, ⟨dd, hH, ea⟩, l, q⟩ := hh
  obtain rfl : u = Value.ref a := rx
  obtain ⟨⟨oe, ha, hz, vs, hd⟩, _⟩ := I1.hok a _ hH
  have hx : ObjOk X.prog X.w H1 s1.heap dd (.xd fs) := I1.hok dd _ ea
  obtain ⟨mA, hns, hr⟩ := hx
  obtain ⟨od, ho, hl⟩ := lookIn_ns hns
  obtain ⟨u, hu, ru⟩ := RelO.some_of (v := v) (o := mA n) (by rw [← l]; exact hr n)
  have J : PySem.W.InstAt s1.heap a oe C (some od) := ⟨ha, hz.1, by unfold PySem.W.notCls; rw [hd] <;> rfl, by rw [hz.2]; exact ho⟩
  exact HandSPX.exc_get I1.kIn J T.ga T.gg T.exC (PySem.W.findObj_own T.hdC hno rfl (by rw [hl, hu])) (handed_of ru) ⟨v, H1, I1.tok _, ru, q⟩
end SfG
/-! an own exception that is made and not raised: as a value, its fields, isinstance of it -/
namespace SfG
open PySem PySem.Spec PyProof.Rows L2
/-- C(e, ..), C's own __init__ keeping sp; the exception stays -/
def tMkV (C : Addr) (sp : Sp) (dvs : List V) (ta : TA) : TE := fun σ H Q => ta σ H fun vs H1 => vs.length ≤ 1000 ∧ ∀ a, H1 a = none → sp (.ref a :: (vs ++ dvs)) (upd H1 a (exo a C none)) (fun v H2 => v = .non ∧ Q (.ref a) H2) (fun _ _ _ => False)
section
variable {X : Cx} {e : Expr} {es : List Expr} {ta : TA} {p pos : Pos}
theorem pe_oex {CX : CXT} {x : Str} {C fI : Addr} {k : Nat} {fd : FuncData} {ps : List Str} {sp : Sp} {ds : List Value} {dvs : List V} (T : OexC X.K C) (iC : PySem.W.findIn X.K (.ref C) "__init__" = some (some (.ref fI))) (tI : PySem.W.typeIn X.K (.ref fI) = some (.type "function"))
    (F1 : FnOk X.prog X.w X.K X.mg X.base CX k fI fd ps sp) (hr : Room (k + 1) X.A) (hb : Binds X.K fd ps ds) (hd : Vals dvs ds) (hx : Passes CX X (fun _ _ _ => False)) (hg : Gl X x) (hm : X.mg x = some (.ref C)) (ha : PA X (e :: es) ta)
    (hdb : (x == ("__debug__" : Str)) = false := by decide) (he : starEach (e :: es) X.env = (false, eval e X.env) :: starEach es X.env := by rfl) (hpl : (backTo pos (starEach es X.env)).any (·.1) = false := by rfl) :
    PE X (.Call (.Name x p) (e :: es) [] pos) (tMkV C sp dvs ta) := by
  refine ⟨fun pins s σ H Q I h => ?_⟩
  obtain ⟨nm, q, N, bs, bm, sn, sub, ab, col, dd, k0, k1, k2, k3, k5, hC, hbm⟩ := T.cls
  refine wpAny_Call_Name_kw (ld_glob I hg hm ?_ hdb)
  refine PySem.W.callWith_K (h₀ := X.base) I.ok.mod.kin T.kC (thn (ha.run pos pins s σ H _ I h) fun us s1 ⟨vs, H1, I1, r1, hz, q1⟩ => ⟨I1.kIn, ?_⟩) he hpl
  show wpAny _ _ (call (.ref C) us) _ _ _
  obtain ⟨hp, g, dr, tk, os⟩ := s1
  have hsz : hp.objs.size ≤ hp.objs.size + 1 := Nat.le_succ _
  have hn : H1 (hp.objs.size + 1) = none := I1.hok.fresh hsz
  have hq := q1 (hp.objs.size + 1) hn
  have kk : ∀ b o, hp.get? b = some o → ((hp.push (PySem.W.kdv_tup us)).push (PySem.HandSPX.excO C hp.objs.size)).get? b = some o := fun b o e => Heap.get?_push_of_some _ (Heap.get?_push_of_some _ e)
  have hget : ((hp.push (PySem.W.kdv_tup us)).push (PySem.HandSPX.excO C hp.objs.size)).get? (hp.objs.size + 1) = some (PySem.HandSPX.excO C hp.objs.size) := by heap_get
  have I2 : L2.Inv X pins σ (upd H1 (hp.objs.size + 1) (exo (hp.objs.size + 1) C none)) ⟨(hp.push (PySem.W.kdv_tup us)).push (PySem.HandSPX.excO C hp.objs.size), g, dr, tk, os⟩ :=
    I1.laid (t' := tk) (a := hp.objs.size + 1) (o := exo (hp.objs.size + 1) C none) (h' := (hp.push (PySem.W.kdv_tup us)).push (PySem.HandSPX.excO C hp.objs.size)) kk hsz (exo_ok hget)
  have r2 : Vals (V.ref (hp.objs.size + 1) :: (vs ++ dvs)) (Value.ref (hp.objs.size + 1) :: (us ++ ds)) := .cons rfl (r1.append hd)
  have hl : (Value.ref (hp.objs.size + 1) :: us ++ ds).length = ps.length := by
    have e := r2.length
    rw [F1.len _ _ _ _ hq] at e
    exact e.symm
  have hus : us.length ≤ sizeLine := by
    rw [← Paired.length r1, sizeLine_eq]
    omega
  refine wpAny_call (PySem.HandSPX.call_own F.excBase_ValueError (fun Y => PySem.HandSPX.refsVE_contains Y bm hbm) (I1.kIn _ _ hC) (PySem.W.looks_findIn I1.kIn iC) (fun self => PySem.W.bind_fn I1.kIn self tI) hus
    (codeAny_mono (F1.run _ X.stack _ _ ⟨Value.ref (hp.objs.size + 1) :: us, []⟩ (Value.ref (hp.objs.size + 1) :: (us ++ ds)) _ _ (fun _ _ _ => False) (hr.make C us []) (I2.env0.make C us []) (hb _ (Value.ref (hp.objs.size + 1) :: us) I2.kIn hl) r2 hq) fun r s' hq' => ?_))
  cases r with
  | error er => exact hx pins σ _ _ er s' I2 hq'
  | ok fl =>
    cases fl with
    | ret u =>
      obtain ⟨v, H2, J, rv, ev, q2⟩ := I2.after hq'
      subst ev
      exact ⟨rv, .ref (hp.objs.size + 1), H2, J, rfl, q2⟩
    | next => exact False.elim hq'
    | brk => exact False.elim hq'
    | cont => exact False.elim hq'
end
/-- at a: an exception of the class at D, made; its fields -/
def Ex (H : Hp) (D a : Addr) (fs : List (Str × V)) : Prop := ∃ dx, H a = some (exo a D (some dx)) ∧ H dx = some (exd dx fs)
theorem exd_tbl {e : Addr} {fs : List (Str × V)} {ps : Array Value} : exd e fs ≠ .tbl ps := fun z => by
  have z' : HO.ext _ = HO.tbl ps := z
  cases z'
theorem Ex.gr {H H' : Hp} {D a : Addr} {fs : List (Str × V)} (h : Ex H D a fs) (g : Gr H H') : Ex H' D a fs := by
  obtain ⟨dx, h1, h2⟩ := h
  exact ⟨dx, g.keep _ _ h1 (fun _ => exo_tbl), g.keep _ _ h2 (fun _ => exd_tbl)⟩
section
variable {X : Cx} {pins : List (Addr × Obj)} {σ : L2.St} {H : Hp} {s : Shared}
theorem ex_inst {D a : Addr} {fs : List (Str × V)} (I : L2.Inv X pins σ H s) (h : Ex H D a fs) : ∃ (oe od : Obj) (mA : Str → Option Value), PySem.W.InstAt s.heap a oe D (some od) ∧ (∀ f, RelO (fs.lookup f) (mA f)) ∧ ∀ n, PySem.W.lookIn n od = some (mA n) := by
  obtain ⟨dx, h1, h2⟩ := h
  obtain ⟨t1, ho⟩ := exo_at I.hok h1
  obtain ⟨mA, hn, hr⟩ := exd_at I.hok h2
  obtain ⟨od, hod, hl⟩ := lookIn_ns hn
  exact ⟨_, od, mA, ⟨ho, rfl, rfl, hod⟩, hr, hl⟩
end
/-- e.f, e an exception that was made -/
def tXf (C : Addr) (f : Str) (te : TE) : TE := fun σ H Q => te σ H fun x H1 => ∃ (a : Addr) (fs : List (Str × V)) (v : V), x = .ref a ∧ Ex H1 C a fs ∧ fs.lookup f = some v ∧ Q v H1
theorem pe_xf {X : Cx} {C : Addr} {e : Expr} {te : TE} {pos : Pos} {n : Str} (T : XfC X.K C) (hno : PySem.W.findIn X.K (.ref C) n = some none) (he : PE X e te) (hb : attributeBase e n X.env (eval e X.env) = eval e X.env := by rfl) :
    PE X (.Attribute e n pos) (tXf C n te) := by
  refine ⟨fun pins s σ H Q I h => ?_⟩
  refine attr_of hb (thn (he.run pins s σ H _ I h) fun u s1 hh => ?_)
  obtain ⟨x, H1, I1, rx, a, fs, v, rfl, hX, l, q⟩ := hh
  obtain rfl : u = Value.ref a := rx
  obtain ⟨oe, od, mA, J, hr, hl⟩ := ex_inst I1 hX
  obtain ⟨u, hu, ru⟩ := RelO.some_of (v := v) (o := mA n) (by rw [← l]; exact hr n)
  exact HandSPX.exc_get I1.kIn J T.ga T.gg T.exC (PySem.W.findObj_own T.hdC hno rfl (by rw [hl, hu])) (handed_of ru) ⟨v, H1, I1.tok _, ru, q⟩
/-- isinstance of such an exception, of a held one, of one without fields -/
def Ey (H : Hp) (D a : Addr) : Prop := Ek H D a ∨ (∃ fs, Ex H D a fs) ∨ H a = some (ExO (.ref D) a)
theorem exO_tbl {c : Value} {a : Addr} {ps : Array Value} : ExO c a ≠ .tbl ps := fun z => by
  have z' : HO.ext _ = HO.tbl ps := z
  cases z'
theorem Ey.gr {H H' : Hp} {D a : Addr} (h : Ey H D a) (g : Gr H H') : Ey H' D a := by
  rcases h with h | ⟨fs, h⟩ | h
  · exact .inl (h.gr g)
  · exact .inr (.inl ⟨fs, h.gr g⟩)
  · exact .inr (.inr (g.keep _ _ h (fun _ => exO_tbl)))
theorem exO_inst {X : Cx} {pins : List (Addr × Obj)} {σ : L2.St} {H : Hp} {s : Shared} {D a : Addr} (I : L2.Inv X pins σ H s) (h : H a = some (ExO (.ref D) a)) : ∃ oe, PySem.W.InstAt s.heap a oe D none := by
  have x : ObjOk X.prog X.w H s.heap a (.ext fun h => ∃ (oe : Obj) (vs : Array Value), h.get? a = some oe ∧ Zc (.ref D) none oe ∧ oe.data = .fields vs ∧ vs[1]? = some .none ∧ vs[2]? = some .none ∧ 4 < vs.size) := I.hok a _ h
  obtain ⟨⟨oe, vs, get, z, dat, _⟩, _⟩ := x
  obtain ⟨oc, od, oda, osl⟩ := oe
  obtain ⟨h1, h2⟩ := z
  dsimp only at h1 h2 dat
  subst h1 h2 dat
  exact ⟨_, get, rfl, rfl, trivial⟩
def rIsY (K : PySem.W.Frag) (D : Addr) : List V → Hp → VK → Prop := fun xs H Q =>
  ∃ (a : Addr) (c : V) (cv : Value) (b : Bool), xs = [.ref a, c] ∧ Ey H D a ∧ (∀ u, RelV c u → u = cv) ∧ PySem.W.kitOne K (.ref D) cv = some b ∧ Q (.bl b) H
theorem call_isY {X : Cx} {D : Addr} (C : ExcC X.K D) : CallR X (.builtin "isinstance") (rIsY X.K D) := by
  intro pins s σ H xs us Q I r h
  obtain ⟨a, c, cv, b, rfl, hH, hcv, e, q⟩ := h
  obtain ⟨oe, od, J⟩ : ∃ oe od, PySem.W.InstAt s.heap a oe D od := by
    rcases hH with h | ⟨fs, h⟩ | h
    · exact ek_inst I h
    · obtain ⟨oe, od, mA, J, _⟩ := ex_inst I h
      exact ⟨oe, some od, J⟩
    · obtain ⟨oe, J⟩ := exO_inst I h
      exact ⟨oe, none, J⟩
  have hcl : (PySem.W.clsIn X.K D).isSome = true := by
    obtain ⟨cd, hc, _⟩ := PySem.W.any_some C.hd
    rw [hc]
    rfl
  cases r with
  | cons rx rr =>
    cases rr with
    | cons rt rr =>
      cases rr
      cases rx
      have ec := hcv _ rt
      subst ec
      refine PySem.W.kia_one (PySem.W.kitx_exc hcl C.hg C.hk C.hs C.ha C.hn C.ht C.hm) I.kIn J e (fun z => nomatch z) ?_
      intro tk
      exact ⟨.bl b, H, I.kept (t' := tk) fun _ _ z => z, rfl, q⟩
end SfG
namespace SfG
open PySem PySem.Spec PyProof.Rows L2
theorem ps_nox {X : Cx} {st : Stmt} {t : TS} (h : PS X.nox st t) : PS X st t := ⟨fun pins s σ H D I hw =>
  wpAny_mono (h.run pins s σ H D (I.wish _) hw) (fun _ _ q => q.unwish) fun _ _ z => False.elim z⟩
section
variable {P : Program} {w : World} {K : PySem.W.Frag} {mg : Str → Option Value} {base : Heap}
set_option maxHeartbeats 2000000 in
theorem fn_super1 {k : Nat} {f C cc cda : Addr} {name qual : Str} {params : Arguments} {body : List Stmt} {scope : Scope} {dV kV doc pm ct oc : Value} {an od : Option Addr} {osl : Array (Option Value)} {N ps : List Str} {sp : Sp} {st0 : Stmt} {e : Expr} {p0 p1 p2 p3 p4 : Pos} {ar : Arg}
    (lk : K.lookup f = some ⟨oc, od, .func (PySem.W.ksFn name qual params (st0 :: .Expr (.Call (.Attribute (.Call (.Name "super" p0) [] [] p1) "__init__" p2) [e] [] p3) p4 :: body) scope dV kV doc pm an (.ref cda) ct cc), osl⟩)
    (hcd : PySem.W.codeIn K (.ref cda) qual = true) (S : SupScope N ps scope) (U : SupC P K mg C cc cda) (har : (params.posonlyargs ++ params.args).head? = some ar) (hself : ps.head? = some ar.arg)
    (len : ∀ vs H Q E, sp vs H Q E → vs.length = ps.length)
    (hbody : ∀ (A : Around) (outer : List Env) (s : Shared) (H : Hp) (vs : List V) (Q : VK) (E : XK), Room k (A.deeper (PySem.W.ksEnv qual scope s.heap.objs.size f (.ref cda) cc)) → sp vs H Q E →
      ∃ (a : Addr) (ws : List V) (t0 : TS) (te : TE) (t : TS), vs = .ref a :: ws ∧ H a = some (exo a C none) ∧ PS (cxS P w K mg base N (PySem.W.ksEnv qual scope s.heap.objs.size f (.ref cda) cc) A outer s H E).nox st0 t0 ∧ PE (cxS P w K mg base N (PySem.W.ksEnv qual scope s.heap.objs.size f (.ref cda) cc) A outer s H E).nox e te ∧
        PSs (cxS P w K mg base N (PySem.W.ksEnv qual scope s.heap.objs.size f (.ref cda) cc) A outer s H E).nox body t ∧
        t0 { nx := fun σ1 H1 => σ1[0]? = some (some (.ref a)) ∧ H1 a = some (exo a C none) ∧ te σ1 H1 fun _ H2 => H2 a = some (exo a C none) ∧ t { nx := fun _ H' => Q .non H', rt := Q } σ1 H2, rt := fun _ _ => False, bk := fun _ _ => False, ct := fun _ _ => False } (L2.start N vs) H)
    (he : ∀ env : Env, starEach [e] env = (false, eval e env) :: starEach [] env)
    (hev : ∀ env : Env, ∃ pl : Sem Bool, eval (.Call (.Attribute (.Call (.Name "super" p0) [] [] p1) "__init__" p2) [e] [] p3) env = (do
      let ov ← attributeBase (.Call (.Name "super" p0) [] [] p1) "__init__" env (eval (.Call (.Name "super" p0) [] [] p1) env)
      standAt p2.atName
      let (f, first) ← holding [ov] (getMethod ov "__init__" pl)
      callWith p3 f first (backTo p3 (starEach [e] env)) []))
    (hsw : ∀ env : Env, swapsWith (.Call (.Attribute (.Call (.Name "super" p0) [] [] p1) "__init__" p2) [e] [] p3) none p4.line env = pure false) :
    FnOk P w K mg base CX0 (k + 1) f (PySem.W.ksFn name qual params (st0 :: .Expr (.Call (.Attribute (.Call (.Name "super" p0) [] [] p1) "__init__" p2) [e] [] p3) p4 :: body) scope dV kV doc pm an (.ref cda) ct cc) ps sp := by
  refine ⟨len, fun A outer s H args us vs Q E hr e0 hb r hsp => ?_⟩
  have hl := len _ _ _ _ hsp
  have KX : K.In s.heap := e0.mod.kin.keeps fun b o e => (e0.bs b o e).1
  have lim : s.heap.NoLimit := e0.mod.nolimit.keeps fun b o e => (e0.bs b o e).1
  have hlz : us.length = ps.length := by rw [← hl]; exact r.length.symm
  obtain ⟨cl, cld, csl, hcell⟩ := U.cell
  obtain ⟨ccl, cdd, cvs, ccs, file, tf, hcode, hfile2, hfile⟩ := U.code
  obtain ⟨nm, q, N', bs, bm, sn, sub, ab, col, dd, k0, k1, k2, k3, k5, hC, hbm⟩ := U.T.cls
  have hclD : PySem.W.clsIn K C = some { name := nm, bases := bs, mro := .ref C :: bm, ns := N', qualname := q, hasDict := true, slotNames := sn, subclasses := sub, abstract := ab, collection := col, hasDel := false } := by unfold PySem.W.clsIn; rw [hC] <;> rfl
  obtain ⟨a, ws, t0', te, t, rfl, ha, pst, pe, pss, hq⟩ := hbody A outer s H vs Q E (hr.deeper _) hsp
  refine PySem.ks_codeAny_call_defAt hr.depth (KX _ _ lk) rfl lim (PySem.W.codeRec_of KX hcd) rfl hb S.nocell ?_ (fun h₀ hns hk => ?_) S.co S.gen S.kind
  · rintro ⟨n, v⟩ hy
    exact S.par n (List.of_mem_zip hy).1
  have I0 := inv_startS (E := E) (qual := qual) (f := f) (cd := .ref cda) (tk := s.toks + (ps.zip us).length) S hr.hd e0 hl r hcell hns hk
  have hint : interactive (PySem.W.ksEnv qual scope s.heap.objs.size f (.ref cda) cc) = false := by
    unfold interactive
    show (scope.kind == _ && _) = false
    rw [S.kind]
    rfl
  refine PySem.ks_wpAt_execs_cons (PySem.wpAt_of_wpAny (wpAny_mono ((ps_nox pst).run [] _ (L2.start N (.ref a :: ws)) H _ I0 hq) (fun fl s1 hs => ?_) (fun e s' hs => hs)))
  cases fl with
  | ret u =>
    obtain ⟨_, _, _, _, _, q⟩ := hs
    exact False.elim q
  | brk =>
    obtain ⟨_, _, _, q⟩ := hs
    exact False.elim q
  | cont =>
    obtain ⟨_, _, _, q⟩ := hs
    exact False.elim q
  | next =>
  obtain ⟨σ1, Ha, J0, hs0, ha0, hq0⟩ := hs
  obtain ⟨hp0, g0, d0, tk0, os0⟩ := s1
  obtain ⟨t0, hx⟩ := exo_at J0.hok ha0
  have X0 : K.In hp0 := J0.kIn
  obtain ⟨m, hns1, look⟩ := J0.loc
  have hN0 : N[0]? = some ar.arg := by
    have : (N.take ps.length)[0]? = ps[0]? := by rw [S.pre]
    cases ps with
    | nil => cases hself
    | cons p pr =>
      rw [List.length_cons, List.getElem?_take, if_pos (by omega)] at this
      rw [this]
      exact hself
  have hloc : scope.names.lookup ar.arg = some .local := by
    refine S.par _ ?_
    cases ps with
    | nil => cases hself
    | cons p pr =>
      rw [show ar.arg = p from (Option.some.inj hself).symm]
      exact List.mem_cons_self
  obtain ⟨us0, rus, lks⟩ := look 0 ar.arg (.ref a) hN0 hs0 (.inl hloc)
  obtain rfl : us0 = Value.ref a := rus
  have hus : m ar.arg = some (.ref a) := by
    rcases lks with ⟨_, h⟩ | ⟨hk', _⟩
    · exact h
    · have e1 : scope.names.lookup ar.arg = some .cell ∨ scope.names.lookup ar.arg = some .free := hk'
      rw [hloc] at e1
      rcases e1 with e1 | e1 <;> cases e1
  obtain ⟨pl, hev1⟩ := hev (PySem.W.ksEnv qual scope s.heap.objs.size f (.ref cda) cc)
  refine PySem.ks_wpAt_execs_cons (PySem.ks_wpAt_Expr_any (PySem.ks_wpAt_MethodCall (pl := pl) ?_ hev1) hint (hsw _))
  refine PySem.ks_wpAt_super_base (env := PySem.W.ksEnv qual scope s.heap.objs.size f (.ref cda) cc) S.sup S.cls (by decide) rfl (X0 _ _ lk) rfl har rfl (X0 _ _ hcode) rfl hfile2 hfile U.top ?_
  obtain ⟨mb, b1, b2⟩ := e0.mod.blt
  have bk : ∀ b o, base.get? b = some o → hp0.get? b = some o := J0.bk
  refine PySem.W.ks_loadName_global S.kind S.sup (Calls.loadGlobal_builtin (env := PySem.W.ksEnv qual scope s.heap.objs.size f (.ref cda) cc) (e0.mod.glob.keeps bk) U.sup (b1.keeps bk) ((b2 "super" (by decide)).trans (by decide +kernel)) ⟨rfl, ?_⟩)
  refine wpAny_loadName_free S.kind S.cls rfl ⟨_, X0 _ _ hcell, rfl⟩ ?_
  refine wpAny_loadName_local S.kind hloc hns1 hus ?_
  have hCd : (excClassObj nm q C N' bs bm true sn sub ab col dd k0 k1 k2 k3 k5 "ValueError.__new__").data = .cls { name := nm, bases := bs, mro := .ref C :: bm, ns := N', qualname := q, hasDict := true, slotNames := sn, subclasses := sub, abstract := ab, collection := col, hasDel := false } := rfl
  refine PySem.ks_wpAny_isType_cls (X0 _ _ hC) hCd ⟨rfl, ?_⟩
  refine PySem.ks_wpAny_call_super (X0 _ _ hC) hCd hx rfl (fun c z => by cases z) (PySem.W.looks_mroIn X0 U.mro) (fun h1 hso k1' => ?_)
  have I1 := J0.kept (h' := h1) (t' := tk0) k1'
  have X1 : K.In h1 := X0.keeps k1'
  have hx1 := k1' _ _ hx
  have Inst : PySem.W.InstAt h1 a { cls := .ref C, dict := none, data := .fields #[.ref t0, .none, .none, .none, .bool false, .none] } C none := ⟨hx1, rfl, rfl, trivial⟩
  have hin : PySem.W.alongIn K "__init__" (((Value.ref C :: bm).dropWhile (· != .ref C)).drop 1) = some (some (.builtin "ValueError.__init__")) := by
    have := U.ini
    unfold PySem.W.ks_superIn at this
    rw [hclD] at this
    exact this
  refine PySem.W.kxs_getMethod PySem.W.kxs_ValueError hso (PySem.W.looks_opaque X1 U.any) (l₀ := .ref C :: bm) (fun A Q E s k q => wpAny_bind ((PySem.W.looks_clsIn X1 hclD) A _ E s k (wpAny_pure q))) rfl X1 hin (Inst.type.andThen (PySem.W.looks_subIn X1 U.ve)) (PySem.W.ks_ne X1 Inst hclD) (by decide) ?_
  have kk : ∀ b o, h1.get? b = some o → (h1.push (PySem.W.kxs_mw "ValueError.__init__" a)).get? b = some o := fun b o z => Heap.get?_push_of_some _ z
  have I2 := I1.kept (h' := h1.push (PySem.W.kxs_mw "ValueError.__init__" a)) (t' := tk0 + 1) kk
  have hu2 : (h1.push (PySem.W.kxs_mw "ValueError.__init__" a)).get? h1.objs.size = some (PySem.W.kxs_mw "ValueError.__init__" a) := Heap.get?_push_at rfl rfl
  have I3 := I2.pins_of (pins' := [(h1.objs.size, PySem.W.kxs_mw "ValueError.__init__" a)]) (by
    intro p hp
    rw [List.mem_singleton.mp hp]
    refine ⟨hu2, I1.hok.fresh (Nat.le_refl _), ?_, I1.nofs (Nat.le_refl _), fun v z => by cases z⟩
    exact Nat.ne_of_gt I1.lt)
  rw [he]
  refine PySem.W.kxs_callWith (i := "ValueError.__init__") (x := a) (by rfl) ?_
  refine Calls.evalArgs_plain (Calls.spliced_cons (thn (pe.nox.run _ _ _ Ha _ I3 hq0) ?_))
  rintro u s1 ⟨v, H1, J1, rv, ha1, q1⟩
  refine Calls.spliced_nil ⟨(J1.pin _ (List.mem_append_right _ List.mem_cons_self)).1, ?_⟩
  have hu3 := (J1.pin (h1.objs.size, PySem.W.kxs_mw "ValueError.__init__" a) (List.mem_append_right _ List.mem_cons_self)).1
  obtain ⟨t2, hx2⟩ := exo_at J1.hok ha1
  obtain ⟨hp, g, d, tk, os⟩ := s1
  refine call_mw (J1.kIn _ _ hC) hx2 hu3 (by show 1 ≤ sizeLine; decide) fun h' t3 k3 hx3 => ?_
  have J := (J1.pins_of (pins' := []) (fun p hp => by cases hp)).write (t' := tk) (x := a) (e := a) (o := exo a C none) (by rw [ha1]; exact True.intro) (.inl rfl) k3 ⟨_, hx3⟩ (exo_ok hx3)
  have eu : upd H1 a (exo a C none) = H1 := by
    funext b
    by_cases hb : b = a
    · rw [hb, upd_same, ha1]
    · rw [upd_ne hb]
  rw [eu] at J
  refine PySem.wpAt_of_wpAny ?_
  refine wpAny_mono (pss.nox.run [] _ σ1 H1 _ J q1) (fun fl s' hs => ?_) fun e s' hs => hs
  cases fl with
  | ret u =>
    obtain ⟨v, σ', H', J', rv, q⟩ := hs
    exact ⟨v, H', J'.os, J'.bare, J'.base, J'.hok, rv, q⟩
  | next =>
    obtain ⟨σ', H', J', q⟩ := hs
    exact ⟨.non, H', J'.os, J'.bare, J'.base, J'.hok, rfl, q⟩
  | brk =>
    obtain ⟨_, _, _, q⟩ := hs
    exact False.elim q
  | cont =>
    obtain ⟨_, _, _, q⟩ := hs
    exact False.elim q
end
end SfG
namespace SfG
open PySem PySem.Spec PyProof.Rows L2
/-! ### x is not True, x is not False, x a whole number or a truth -/
def rNotBx : R2 := fun x y H Q => ∃ b : Bool, y = .bl b ∧ ((∃ a : Bool, x = .bl a ∧ Q (.bl (!decide (a = b))) H) ∨ ∃ i : Int, x = .int i ∧ Q (.bl true) H)
theorem op_notBx {X : Cx} : OpR X (compareOp .IsNot) rNotBx := by
  intro pins s σ H x y v u Q I rx ry h
  obtain ⟨b, rfl, ⟨a, rfl, q⟩ | ⟨i, rfl, q⟩⟩ := h
  · exact op_notBl pins s σ H _ _ v u Q I rx ry ⟨a, b, rfl, rfl, q⟩
  · cases (show u = Value.bool b from ry)
    obtain ⟨t, rfl⟩ := _root_.id rx
    exact wpAny_isNot_other rfl (fun z => by cases z) ⟨.bl true, H, I, rfl, q⟩
theorem tyx_bool {K : PySem.W.Frag} {H : Hp} {x : V} {t : Value} (h : TyX K H x t) (e : t = .type "bool") : ∃ b, x = .bl b := by
  cases h with
  | base b =>
    cases b with
    | bl b => exact ⟨b, rfl⟩
    | ins => cases e
    | _ => exact absurd (Value.type.inj e) (by decide)
  | _ => exact absurd (Value.type.inj e) (by decide)
theorem is_truth {K : PySem.W.Frag} {H : Hp} {x : V} {T : String} (h : Is K H x T) (e : T = "bool") : ∃ b, x = .bl b := tyx_bool h.1 (by rw [e])
end SfG
namespace SfG
open PySem PySem.Spec PyProof.Rows L2
/-! ### enumerate(t), t a tuple -/
set_option maxHeartbeats 1000000 in
theorem meets_enum1 {v : Value} {o : Obj} {H : Heap → Prop} (B : Begins v o H) :
    Meets (Builtin.«enumerate.__new__» ⟨[.type "enumerate", v], []⟩) (fun _ R s => H s.heap ∧
      R (.ok (.ret (.ref (s.heap.push o).objs.size)))
        { s with heap := (s.heap.push o).push { cls := .type "enumerate", data := .fields #[.none, .bool false, .ref s.heap.objs.size, rawInt 0, .none, .none] } }) :=
  .of_wp fun prog w A R s hh => by
    obtain ⟨hp, g, d, tk, os⟩ := s
    obtain ⟨h1, fin⟩ := hh
    have hsub := sub_enumerate
    have it1 : ∀ {A' : Around} {E : Value → Shared → Prop} {Q : Value → Shared → Prop}, Q (.ref hp.objs.size) ⟨hp.push o, g, d, tk, os⟩ →
        wpAny (model prog w) A' (pyIter v) Q E ⟨hp, g, d, tk, os⟩ := fun q => B.iter prog w _ _ ⟨hp, g, d, tk, os⟩ _ h1 q
    wp_walk using it1
    refine wpAny_stack_any fun st => wpAny_pure ?_
    split
    · rename_i c _ _ _ _ _
      cases (c == Value.type "enumerate") <;> (wp_walk using it1; exact ⟨_, rfl, fin⟩)
    · wp_walk using it1
      exact ⟨_, rfl, fin⟩
section
variable {prog : Program} {w : World} {A : Around} {E : Value → Shared → Prop} {s : Shared}
theorem enum1 {v : Value} {o : Obj} {H : Heap → Prop} {Q : Value → Shared → Prop} (B : Begins v o H) (h1 : H s.heap)
    (h : ∀ h', IsEnum h' (s.heap.objs.size + 1) s.heap.objs.size 0 .none → h'.get? s.heap.objs.size = some o →
      (∀ b u, s.heap.get? b = some u → h'.get? b = some u) → Q (.ref (s.heap.objs.size + 1)) { s with heap := h' }) :
    wpAny (model prog w) A (call (.type "enumerate") [v]) Q E s := by
  refine callType_new F.called_enumerate (by decide) (F.typeCall_enumerate_1 _) (F.newCall_enumerate_1 _) (fun obj => F.args_object_init_2 obj _)
    F.entry_enumerate_new (meets_enum1 B) ⟨h1, ?_⟩
  have sz : (s.heap.push o).objs.size = s.heap.objs.size + 1 := Heap.size_push ..
  show _ ∧ _
  rw [sz]
  have made : IsEnum ((s.heap.push o).push { cls := .type "enumerate", data := .fields #[.none, .bool false, .ref s.heap.objs.size, rawInt 0, .none, .none] })
      (s.heap.objs.size + 1) s.heap.objs.size 0 .none := by
    have z := Heap.get?_push_size (s.heap.push o) (o := { cls := .type "enumerate", data := .fields #[.none, .bool false, .ref s.heap.objs.size, rawInt 0, .none, .none] }) rfl
    rw [sz] at z
    exact z
  refine ⟨⟨_, made, rfl⟩, h _ made (Heap.get?_push_of_some _ (Heap.get?_push_size _ B.free)) ?_⟩
  intro b u x
  exact Heap.get?_push_of_some _ (Heap.get?_push_of_some _ x)
end
/-- the tuple at a as it stands at each turn, each item in a new pair -/
def IteT (K : PySem.W.Frag) (a : Addr) : It :=
  ⟨fun i H => ∃ (xs : List V) (x : V), SqT K H a xs ∧ xs[i]? = some x,
   fun i H v H' => ∃ T x, v = .ref T ∧ H T = none ∧ H' = upd H T (.tup [.int (i : Nat), x]) ∧ ∀ xs, SqT K H a xs → xs[i]? = some x,
   fun i H => ∃ xs : List V, SqT K H a xs ∧ xs.length = i⟩
theorem turn_enumT {P : Program} {w : World} {K : PySem.W.Frag} {elts : List Expr} {kk : Nat} {tpos : Pos} (a e it : Addr) :
    Turn P w K (.Tuple elts kk tpos) (IteT K a) [e, it] e (fun i h => (∃ old, IsEnum h e it ((i : Nat) : Int) old) ∧ h.IsTupleIter it a i ∧ e ≠ it) where
  mem := by simp
  obj := by
    rintro i h ⟨⟨old, he⟩, ⟨o, ho, hc, hd⟩, _⟩ b hb
    have two : b = e ∨ b = it := by simpa using hb
    rcases two with rfl | rfl
    · exact ⟨_, he, fun v q => nomatch q⟩
    · exact ⟨o, ho, fun v q => by rw [hd] at q; cases q⟩
  keep := by
    rintro i h h' ⟨⟨old, he⟩, hi, hne⟩ k
    exact ⟨⟨old, k e (by simp) _ he⟩, hi.at fun o q => k it (by simp) o q, hne⟩
  item := by
    intro X hP hw hK hc i pins s σ H E I hf st hg
    subst hP hw hK
    obtain ⟨⟨old, he⟩, hit, hne⟩ := st
    obtain ⟨xs, x, hq, hx⟩ := hg
    obtain ⟨its, rv, p, hz⟩ := I.tuple hq
    obtain ⟨u, hu, ru⟩ := rv.get hx
    have ea : e ≠ a := by
      intro z
      obtain ⟨o, ho, hcl, _⟩ := p
      rw [← z] at ho
      have q := he
      unfold IsEnum at q
      rw [ho] at q
      have q1 := Option.some.inj q
      rw [q1] at hcl
      exact absurd (Value.type.inj hcl) (by decide)
    have ia : a ≠ it := by
      intro z
      obtain ⟨o, ho, hcl, _⟩ := p
      obtain ⟨o', ho', hcl', _⟩ := hit
      rw [z, ho'] at ho
      cases ho
      rw [hcl'] at hcl
      exact absurd (Value.type.inj hcl) (by decide)
    have D : Draws X.prog X.w X.A.in1 it [it, a] its.toArray.size (fun i v => its.toArray[i]? = some v) (fun i h => h.IsTupleIter it a i ∧ h.IsTuple a its.toArray) :=
      Draws.tuple (show X.A.in1.handled = none from I.ok.hd hc) it a ia its.toArray
    have hlt : i < its.toArray.size := by
      have hl := rv.length
      have hi : i < xs.length := by
        rcases Nat.lt_or_ge i xs.length with h1 | h1
        · exact h1
        · rw [List.getElem?_eq_none h1] at hx
          cases hx
      simp
      omega
    have hel : e < s.heap.objs.size := Heap.lt_size he
    have hil : it < s.heap.objs.size := by
      obtain ⟨_, q, _⟩ := hit
      exact Heap.lt_size q
    refine wpAny_pyNext_enum_itemD D he ⟨hit, p⟩ hlt hne (by simp [hne, ea]) ?_
    intro y h' tk hy ho hst hT hsz hk
    have ey : y = u := by
      have h1 : its.toArray[i]? = some u := by simpa using hu
      have h2 : its.toArray[i]? = some y := hy
      rw [h1] at h2
      exact (Option.some.inj h2).symm
    subst ey
    refine ⟨_, rfl, wpAny_letOwnedTupleGo_enum (s := { s with heap := h', toks := tk + 1 }) ho ?_⟩
    intro h'' he' sb
    have hT2 : h''.get? s.heap.objs.size = some { cls := .type "tuple", data := .seq #[.int i tk, y] } := (sb.2 _ (Nat.ne_of_gt hel)).trans hT
    have new : ObjOk X.prog X.w (upd H s.heap.objs.size (.tup [.int (i : Nat), x])) h'' s.heap.objs.size (.tup [.int (i : Nat), x]) :=
      ⟨by show 2 ≤ sizeLine; decide, [.int i tk, y], .cons ⟨_, rfl⟩ (.cons ru .nil), ⟨_, hT2, rfl, _, rfl⟩⟩
    have I1 : L2.Inv X pins σ (upd H s.heap.objs.size (.tup [.int (i : Nat), x])) { s with heap := h'', toks := tk + 1 } := by
      refine I.turnedNew (ch := [e, it]) ?_ hf (Nat.le_refl _) new
      intro b ob hb q
      exact (sb.2 b (fun z => hb (by simp [z]))).trans (hk b ob (fun z => hb (by simp [z])) (fun z => hb (by simp [z])) q)
    refine ⟨.ref s.heap.objs.size, _, I1, rfl, ⟨_, x, rfl, I.hok.fresh (Nat.le_refl _), rfl, ?_⟩, ⟨⟨y, ?_⟩, hst.1.at fun o q => (sb.2 it (Ne.symm hne)).trans q, hne⟩, ?_⟩
    · intro ys hy'
      rw [I.tuple_inj hy' hq]
      exact hx
    · have e1 : ((i + 1 : Nat) : Int) = (i : Int) + 1 := by omega
      rw [e1]
      exact he'
    · intro b hb
      have hb' : b < s.heap.objs.size := by
        have two : b = e ∨ b = it := by simpa using hb
        rcases two with rfl | rfl
        · exact hel
        · exact hil
      rw [upd_ne (Nat.ne_of_lt hb')]
      exact (hf b hb).1
  done := by
    intro X hP hw hK hc i pins s σ H E I hf st hg
    subst hP hw hK
    obtain ⟨⟨old, he⟩, hit, hne⟩ := st
    obtain ⟨xs, hq, hx⟩ := hg
    obtain ⟨its, rv, p, hz⟩ := I.tuple hq
    have ia : a ≠ it := by
      intro z
      obtain ⟨o, ho, hcl, _⟩ := p
      obtain ⟨o', ho', hcl', _⟩ := hit
      rw [z, ho'] at ho
      cases ho
      rw [hcl'] at hcl
      exact absurd (Value.type.inj hcl) (by decide)
    obtain ⟨f0, f1, f2, f3, f4, f5⟩ := hf it (by simp)
    have hl := rv.length
    have D : Draws X.prog X.w X.A.in1 it [it, a] its.toArray.size (fun i v => its.toArray[i]? = some v) (fun i h => h.IsTupleIter it a i ∧ h.IsTuple a its.toArray) :=
      Draws.tuple (show X.A.in1.handled = none from I.ok.hd hc) it a ia its.toArray
    have ei : its.toArray.size = i := by
      simp
      omega
    rw [← ei] at hit
    exact wpAny_pyNext_enum_endD D he ⟨hit, p⟩ fun h' eb => ⟨rfl, I.turned (t' := s.toks) (fun b o hb q => eb b o hb q) f0 f1 f3 f4 f5⟩
  self := by
    rintro A i s Q E ⟨⟨_, he⟩, _⟩ h
    exact wpAny_pyIter_enum he h
def iEnumT (K : PySem.W.Frag) (ta : TA) : TI := fun σ H R => ta σ H fun vs H1 => ∃ a xs, vs = [.ref a] ∧ SqT K H1 a xs ∧ R (IteT K a) H1
theorem pi_enumT {X : Cx} {e : Expr} {ta : TA} {p pos tpos : Pos} {elts : List Expr} {kk : Nat} (hg : Gl X "enumerate") (hm : X.mg "enumerate" = none) (ha : PA X [e] ta)
    (hs : starEach [e] X.env = [(false, eval e X.env)] := by rfl) : PI X (.Tuple elts kk tpos) (.Call (.Name "enumerate" p) [e] [] pos) (iEnumT X.K ta) := by
  constructor
  intro pins s σ H R I h
  refine Call_ (ld_blt I hg hm boot_enumerate (PyProof.Rows.callWith_type1 (thn (ha.run pos pins s σ H _ I h) ?_) hs rfl))
  rintro us s1 ⟨vs, H1, I1, r1, a, xs, rfl, hq, q⟩
  obtain ⟨u, rfl, ru⟩ := vals1 r1
  cases (show u = Value.ref a from ru)
  obtain ⟨its, rv, p', hz⟩ := I1.tuple hq
  refine enum1 (begins_tuple a its.toArray) p' ?_
  intro h' he hit hk
  refine wpAny_pyIter_enum he ?_
  have I2 : L2.Inv X pins σ H1 { s1 with heap := h' } := I1.kept (t' := s1.toks) hk
  refine ⟨s1.heap.objs.size + 1, [s1.heap.objs.size + 1, s1.heap.objs.size], _, _, H1, rfl, I2, turn_enumT a (s1.heap.objs.size + 1) s1.heap.objs.size,
    ⟨⟨.none, he⟩, ⟨_, hit, rfl, rfl⟩, Nat.succ_ne_self _⟩, ?_, q⟩
  intro b hb
  have two : b = s1.heap.objs.size + 1 ∨ b = s1.heap.objs.size := by simpa using hb
  have hle : s1.heap.objs.size ≤ b := by
    rcases two with z | z
    · rw [z]
      exact Nat.le_succ _
    · rw [z]
      exact Nat.le_refl _
  exact I1.fpOk hle (I1.hok.fresh hle)
theorem walk_enumT {K : PySem.W.Frag} {a : Addr} {xs : List V} : Walk (IteT K a) xs.length (fun H => SqT K H a xs) (YPair (fun i => some (.int (i : Nat))) (fun i => xs[i]?)) := by
  refine ⟨?_, ?_, ?_⟩
  · intro i _ hi q
    exact ⟨xs, xs[i], q, by simp [hi]⟩
  · intro _ q
    exact ⟨xs, q, rfl⟩
  · rintro i H v H' _ q ⟨T, x, h1, h2, h3, h4⟩
    exact ⟨T, .int (i : Nat), x, h1, h2, h3, rfl, h4 xs q⟩
end SfG
namespace SfG
open PySem PySem.Spec PyProof.Rows L2
/-! ### d.update(e), two dicts -/
def rDUpd : V → List V → Hp → VK → Prop := fun x vs H Q => ∃ (a b : Addr) (kvs more : List (Key × V)), x = .ref a ∧ vs = [.ref b] ∧ H a = some (.dK kvs) ∧ H b = some (.dK more) ∧ a ≠ b ∧ kvs.length + more.length ≤ 1000 ∧ Q .non (upd H a (.dK (mergeK kvs more)))
theorem mt_dupd {X : Cx} : MtR X "dict.update" rDUpd := by
  intro pins s σ H x vs v us Q I rx rv h
  obtain ⟨a, b, kvs, more, rfl, rfl, ea, eb, ne, hz, q⟩ := h
  cases (show v = Value.ref a from rx)
  obtain ⟨u, rfl, ru⟩ := vals1 rv
  cases (show u = Value.ref b from ru)
  obtain ⟨za, ha, va, ra, da⟩ := dk_of I.hok ea
  obtain ⟨zb, hb, vb, rb, db⟩ := dk_of I.hok eb
  have sz : va.length + vb.length ≤ sizeLine := by
    rw [← ra.length, ← rb.length]
    exact Nat.le_of_lt (small1000 hz)
  refine call_meetsIn PySem.F.slot_dict_update da.typeIs PySem.F.entry_dict_update (PySem.F.args_dict_update_2 _ _) (meets_dict_update (mixKind X.prog X.w) a b ne hb) ⟨va, vb, da, db, sz, fun h' dd' _ hs => ?_⟩
  have he : ∃ o, h'.get? a = some o := by
    obtain ⟨o, _, _, ho, _⟩ := dd'
    exact ⟨o, ho⟩
  have hm : (mergeK kvs more).length ≤ sizeLine := by
    have := length_mergeK more kvs
    exact Nat.le_of_lt (small1000 (by omega))
  exact ⟨.non, _, d_write (t' := s.toks) I (by rw [ea]; exact True.intro) hs he (dk_new hm ha (rb.merge ra) dd'), rfl, q⟩
/-! ### xs[b], b a truth -/
section
variable {prog : Program} {w : World} {A : Around} {E : Value → Shared → Prop} {s : Shared}
theorem sub_bool {M : Model} {b : Bool} {Q : Option Int → Shared → Prop} (h : Q (some (if b then 1 else 0)) s) : wpAny M A (Builtin.List.listSubscript? (.bool b)) Q E s := by
  unfold Builtin.List.listSubscript?
  refine wpAny_bind (wpAny_specialOf (T := "bool") (show s.TypeIs (.bool b) "bool" from rfl) PySem.F.slot_bool_index.lookup ?_)
  cases b with
  | true =>
    refine wpAny_bind (wpAny_of_eq (a := (1 : Int)) rfl ?_)
    exact wpAny_pure h
  | false =>
    refine wpAny_bind (wpAny_of_eq (a := (0 : Int)) rfl ?_)
    exact wpAny_pure h
theorem get_bool {l : Addr} {items : Array Value} {b : Bool} {x : Value} {Q : Value → Shared → Prop} (hl : s.heap.IsList l items) (hx : items[(if b then 1 else 0)]? = some x) (h : Q x s) :
    wpAny (model prog w) A (getItem (.ref l) (.bool b)) Q E s := by
  obtain ⟨o, ho, hc, ne, hd⟩ := id hl
  unfold getItem
  try with_reducible refine wpAny_holding ?_
  first | refine wpAny_bind (wpAny_pure ?_) | skip
  refine wpAny_bind (wpAny_sequenceKey hl.typeIs (by decide) ?_)
  refine wpAny_bind (wpAny_callSpecial?_slot (name := Str.ofString "__getitem__") hl.typeIs slot_list_getitem (wpAny_call_entry slot_list_getitem hl.typeIs entry_list_getitem ?_ (args_list_getitem _ _)))
  refine wpAny_bind (m := Builtin.List.listSubscript? (.bool b)) (sub_bool ?_)
  cases b with
  | true =>
    show wpAny _ _ ((seqItemAt l 1 >>= fun r => pure (r.map (1, ·))) >>= _) _ _ s
    refine wpAny_bind (wpAny_bind (wpAny_seqItemAt ho hd (wpAny_pure ?_)))
    rw [show items[1]? = some x from hx]
    first
      | exact wpAny_bind (wpAny_pure (wpAny_pure ⟨x, rfl, wpAny_pure h⟩))
      | exact wpAny_pure ⟨x, rfl, wpAny_pure h⟩
  | false =>
    show wpAny _ _ ((seqItemAt l 0 >>= fun r => pure (r.map (0, ·))) >>= _) _ _ s
    refine wpAny_bind (wpAny_bind (wpAny_seqItemAt ho hd (wpAny_pure ?_)))
    rw [show items[0]? = some x from hx]
    first
      | exact wpAny_bind (wpAny_pure (wpAny_pure ⟨x, rfl, wpAny_pure h⟩))
      | exact wpAny_pure ⟨x, rfl, wpAny_pure h⟩
end
def rIxB (K : PySem.W.Frag) : R2 := fun x y H Q => ∃ (p : Addr) (xs : List V) (b : Bool) (v : V), x = .ref p ∧ y = .bl b ∧ SqL K H p xs ∧ xs[(if b then 1 else 0)]? = some v ∧ Q v H
theorem ix_bool {X : Cx} : IxR X (rIxB X.K) := by
  intro value slice pins s σ H x y v u Q I rx ry h hs
  obtain ⟨p, xs, b, z, rfl, rfl, hq, he, q⟩ := h
  cases (show v = Value.ref p from rx)
  cases (show u = Value.bool b from ry)
  obtain ⟨its, r, pl, hz⟩ := I.list hq
  obtain ⟨t, et, rt⟩ := r.get he
  exact subscriptTail_builtinR pl.isList.typeIs PySem.slot_list_getitem.lookup (get_bool (Q := fun r' s' => r' = t ∧ EP X pins σ Q r' s') pl.isList (by simpa using et) ⟨rfl, z, H, I, rt, q⟩) hs
end SfG
namespace SfG
open PySem PySem.Spec PyProof.Rows L2
/-! ### repr of None, of a number, of a list or a tuple -/
def rReprA (K : PySem.W.Frag) : List V → Hp → VK → Prop := fun xs H Q =>
  ∃ (v : V) (d : PyData) (S : Str), xs = [v] ∧ Dp K H v d ∧ (v = .non ∨ (∃ i, v = .int i) ∨ ∃ a, v = .ref a) ∧ d.showable = true ∧ d.hasDict = false ∧
    d.depth ≤ 30 ∧ d.shown = S ∧ S.length ≤ sizeLine ∧ Q (.str S) H
theorem call_reprA {X : Cx} {k : Nat} (hr : Room k X.A) (hgd : X.A.guards = some []) :
    CallR X (.builtin "repr") (rReprA X.K) := by
  intro pins s σ H xs us Q I r h
  obtain ⟨v, d, S, rfl, hd, hv, hs, hn, hdep, rfl, hz, q⟩ := h
  rcases hv with rfl | ⟨i, rfl⟩ | ⟨a, rfl⟩
  · cases hd
    obtain ⟨u, rfl, ru⟩ := vals1 r
    cases ru
    exact PySem.P.repr_of_none ⟨.str _, H, I.tok _, ⟨_, rfl⟩, q⟩
  · cases hd
    obtain ⟨u, rfl, t, rfl⟩ := vals1 r
    exact PySem.P.repr_of_int (by simpa [PyData.showable] using hs) ⟨.str _, H, I.tok _, ⟨_, rfl⟩, q⟩
  · exact call_repr hr hgd pins s σ H _ us Q I r ⟨a, d, _, rfl, hd, hs, hn, hdep, rfl, hz, q⟩
/-! ### what can be shown, and how long that is -/
structure Sh (d : PyData) (L D : Nat) : Prop where
  able : d.showable = true
  nod : d.hasDict = false
  dep : d.depth ≤ D
  len : d.shown.length ≤ L
structure ShA (ds : List PyData) (L D : Nat) : Prop where
  able : PyData.showableAll ds = true
  nod : PyData.hasDictAll ds = false
  dep : PyData.depthAll ds ≤ D
  len : ((PyData.shownAll ds).map (·.length)).sum + 2 * ds.length ≤ L
theorem Sh.mono {d : PyData} {L D L' D' : Nat} (h : Sh d L D) (hL : L ≤ L') (hD : D ≤ D') : Sh d L' D' := ⟨h.able, h.nod, Nat.le_trans h.dep hD, Nat.le_trans h.len hL⟩
theorem ShA.mono {d : List PyData} {L D L' D' : Nat} (h : ShA d L D) (hL : L ≤ L') (hD : D ≤ D') : ShA d L' D' := ⟨h.able, h.nod, Nat.le_trans h.dep hD, Nat.le_trans h.len hL⟩
theorem ShA.nil {D : Nat} : ShA [] 0 D := ⟨rfl, rfl, by simp [PyData.depthAll], by simp [PyData.shownAll]⟩
theorem ShA.cons {d : PyData} {ds : List PyData} {L1 L2 D : Nat} (h : Sh d L1 D) (t : ShA ds L2 D) : ShA (d :: ds) (L1 + 2 + L2) D := by
  refine ⟨?_, ?_, ?_, ?_⟩
  · rw [PyData.showableAll, h.able, t.able]
    rfl
  · rw [PyData.hasDictAll, h.nod, t.nod]
    rfl
  · have h1 := h.dep
    have h2 := t.dep
    simp only [PyData.depthAll]
    omega
  · have h1 := h.len
    have h2 := t.len
    simp only [PyData.shownAll, List.map_cons, List.sum_cons, List.length_cons]
    omega
theorem Sh.tup {ds : List PyData} {L D : Nat} (h : ShA ds L D) : Sh (.tuple ds) (L + 3) (D + 1) := by
  refine ⟨h.able, h.nod, ?_, ?_⟩
  · have h1 := h.dep
    simp only [PyData.depth]
    omega
  · have h1 := h.len
    have h2 := tupleText_len_le (PyData.shownAll ds)
    have h3 := PyData.shownAll_length ds
    simp only [PyData.shown]
    omega
theorem Sh.lst {ds : List PyData} {L D : Nat} (h : ShA ds L D) : Sh (.list ds) (L + 3) (D + 1) := by
  refine ⟨h.able, h.nod, ?_, ?_⟩
  · have h1 := h.dep
    simp only [PyData.depth]
    omega
  · have h1 := h.len
    have h2 := listText_len_le (PyData.shownAll ds)
    have h3 := PyData.shownAll_length ds
    simp only [PyData.shown]
    omega
theorem Sh.non {D : Nat} : Sh .none 4 (D + 1) := ⟨rfl, rfl, by simp [PyData.depth], by decide⟩
theorem Sh.int {i : Int} {k D : Nat} (h : i.natAbs < 2 ^ k) (h0 : 0 < k) (hk : k ≤ 1920) : Sh (.int i) (k + 1) (D + 1) := by
  have hl : i.natAbs.log2 < k := by
    by_cases z : i.natAbs = 0
    · rw [z]
      exact h0
    · exact (Nat.log2_lt z).mpr h
  refine ⟨by simp only [PyData.showable]; exact decide_eq_true (by omega), rfl, by simp [PyData.depth], ?_⟩
  have e := int_text_length_le h0 hl
  show (Str.ofString (toString i)).length ≤ k + 1
  rw [PySem.ofString_length]
  exact e
theorem ShA.ints {k D : Nat} (h0 : 0 < k) (hk : k ≤ 1920) : ∀ {l : List Int}, (∀ x ∈ l, x.natAbs < 2 ^ k) → ShA (l.map PyData.int) (l.length * (k + 3)) (D + 1)
  | [], _ => ShA.nil.mono (by omega) (Nat.le_refl _)
  | a :: r, h => by
    have h1 := ShA.cons (Sh.int (h a List.mem_cons_self) h0 hk) (ShA.ints (D := D) h0 hk (l := r) fun x hx => h x (List.mem_cons_of_mem _ hx))
    refine h1.mono ?_ (Nat.le_refl _)
    rw [List.length_cons, Nat.succ_mul]
    omega
theorem Sh.fits {d : PyData} {L D : Nat} (h : Sh d L D) (hL : L ≤ 10000000) : d.shown.length ≤ sizeLine := by
  rw [sizeLine_eq]
  have := h.len
  omega
end SfG
namespace SfG
open PySem PySem.Spec PyProof.Rows L2
/-! ### the kind of plain data -/
def tyD : PyData → String
  | .none => "NoneType"
  | .bool _ => "bool"
  | .int _ => "int"
  | .str _ => "str"
  | .list _ => "list"
  | .tuple _ => "tuple"
  | .dict _ => "dict"
theorem tyx_tup {K : PySem.W.Frag} {H : Hp} {p : Addr} {xs : List V} (h : SqT K H p xs) : TyX K H (.ref p) (.type "tuple") := by
  rcases h with (h | ⟨o, h⟩) | ⟨o, its, n, h1, h2, _⟩
  · exact .base (.tup h)
  · exact .fTuple h
  · exact .kTuple h1 h2
theorem tyx_lst {K : PySem.W.Frag} {H : Hp} {p : Addr} {xs : List V} (h : SqL K H p xs) : TyX K H (.ref p) (.type "list") := by
  rcases h with (h | ⟨o, h⟩) | ⟨o, its, n, h1, h2, _⟩
  · exact .base (.lst h)
  · exact .base (.frz h)
  · exact .kList h1 h2
theorem dp_is {K : PySem.W.Frag} {H : Hp} {v : V} {d : PyData} (h : Dp K H v d) : Is K H v (tyD d) := by
  cases h with
  | non => exact ⟨.base .non, by decide +kernel⟩
  | bl b => exact ⟨.base (.bl b), by show "bool" ∈ kinds; decide +kernel⟩
  | int i => exact ⟨.base (.int i), by show "int" ∈ kinds; decide +kernel⟩
  | str x => exact ⟨.base (.str x), by show "str" ∈ kinds; decide +kernel⟩
  | lst h _ => exact ⟨tyx_lst h, by show "list" ∈ kinds; decide +kernel⟩
  | tup h _ => exact ⟨tyx_tup h, by show "tuple" ∈ kinds; decide +kernel⟩
theorem kit_tuple : ∀ T ∈ kinds, kitB T "tuple" = some (T == "tuple") := by decide +kernel
def whD : PyData → Bool
  | .int _ => true
  | _ => false
def amD (d : PyData) (lo hi : Int) : Bool := match d with
  | .int i => decide (lo ≤ i) && decide (i ≤ hi)
  | _ => false
def tupD (d : PyData) (lo hi : Int) : Bool := match d with
  | .tuple ds => decide (lo ≤ (ds.length : Int)) && decide ((ds.length : Int) ≤ hi)
  | _ => false
end SfG
/-! i <= x, i < x, x a whole number or a truth -/
namespace SfG
open PySem PySem.Spec PyProof.Rows L2
def b2i (b : Bool) : Int := if b = true then 1 else 0
theorem ge_bool_int (a : Bool) (b : Int) (u : Tok) : Gives (Builtin.«int.__ge__» ⟨[.bool a, .int b u], []⟩) (.val (Value.bool ((fun x1 x2 => decide (x1 ≥ x2)) (if a = true then (1 : Int) else 0) b))) :=
  .of_wp fun M A E s Q h => by obtain ⟨hp, g, d, tk, os⟩ := s; wp_walk; exact ⟨_, rfl, h⟩
theorem gt_bool_int (a : Bool) (b : Int) (u : Tok) : Gives (Builtin.«int.__gt__» ⟨[.bool a, .int b u], []⟩) (.val (Value.bool ((fun x1 x2 => decide (x1 > x2)) (if a = true then (1 : Int) else 0) b))) :=
  .of_wp fun M A E s Q h => by obtain ⟨hp, g, d, tk, os⟩ := s; wp_walk; exact ⟨_, rfl, h⟩
section
variable {X : Cx}
def rLeX : R2 := fun x y H Q => ∃ i : Int, x = .int i ∧ ((∃ j : Int, y = .int j ∧ Q (.bl (decide (i ≤ j))) H) ∨ ∃ b : Bool, y = .bl b ∧ Q (.bl (decide (i ≤ b2i b))) H)
theorem op_leX : OpR X (compareOp .LtE) rLeX := by
  intro pins s σ H x y v u Q I rx ry h
  obtain ⟨i, rfl, ⟨j, rfl, q⟩ | ⟨b, rfl, q⟩⟩ := h
  · exact op_le pins s σ H _ _ v u Q I rx ry ⟨i, j, rfl, rfl, q⟩
  · obtain ⟨t, rfl⟩ := _root_.id rx
    cases (show u = Value.bool b from ry)
    show wpAny _ _ (richCompare .LtE (.int i t) (.bool b)) _ _ s
    exact SeqAt.rc_sub_first_or (typeIs_int s i t) rfl (by decide) F.sub_bool_int F.slot_bool_ge_refl
      (call_gives F.slot_bool_ge_refl rfl F.entry_int_ge (F.args_int_ge_2 _ _) (ge_bool_int b i t) ⟨nofun, ⟨.bl (decide (i ≤ b2i b)), H, I, rfl, q⟩⟩) (.inl rfl)
def rLtX : R2 := fun x y H Q => ∃ i : Int, x = .int i ∧ ((∃ j : Int, y = .int j ∧ Q (.bl (decide (i < j))) H) ∨ ∃ b : Bool, y = .bl b ∧ Q (.bl (decide (i < b2i b))) H)
theorem op_ltX : OpR X (compareOp .Lt) rLtX := by
  intro pins s σ H x y v u Q I rx ry h
  obtain ⟨i, rfl, ⟨j, rfl, q⟩ | ⟨b, rfl, q⟩⟩ := h
  · exact op_lt pins s σ H _ _ v u Q I rx ry ⟨i, j, rfl, rfl, q⟩
  · obtain ⟨t, rfl⟩ := _root_.id rx
    cases (show u = Value.bool b from ry)
    show wpAny _ _ (richCompare .Lt (.int i t) (.bool b)) _ _ s
    exact SeqAt.rc_sub_first_or (typeIs_int s i t) rfl (by decide) F.sub_bool_int F.slot_bool_gt_refl
      (call_gives F.slot_bool_gt_refl rfl F.entry_int_gt (F.args_int_gt_2 _ _) (gt_bool_int b i t) ⟨nofun, ⟨.bl (decide (i < b2i b)), H, I, rfl, q⟩⟩) (.inl rfl)
end
end SfG
/-! data with empty dicts: what is read, shown, compared -/
namespace SfG
open PySem PySem.Spec PyProof.Rows L2
mutual
inductive Dx (K : PySem.W.Frag) (H : Hp) : V → PyData → Prop
  | non : Dx K H .non .none
  | bl (b : Bool) : Dx K H (.bl b) (.bool b)
  | int (i : Int) : Dx K H (.int i) (.int i)
  | str (z : Str) : Dx K H (.str z) (.str z)
  | lst {p : Addr} {l : List V} {ds : List PyData} : SqL K H p l → DxA K H l ds → Dx K H (.ref p) (.list ds)
  | tup {p : Addr} {l : List V} {ds : List PyData} : SqT K H p l → DxA K H l ds → Dx K H (.ref p) (.tuple ds)
  | emp {p : Addr} : H p = some (.dK []) → Dx K H (.ref p) (.dict [])
inductive DxA (K : PySem.W.Frag) (H : Hp) : List V → List PyData → Prop
  | nil : DxA K H [] []
  | cons {v : V} {l : List V} {d : PyData} {ds : List PyData} : Dx K H v d → DxA K H l ds → DxA K H (v :: l) (d :: ds)
end
section
variable {X : Cx} {pins : List (Addr × Obj)} {σ : L2.St} {H : Hp} {s : Shared}
theorem emp_at (I : L2.Inv X pins σ H s) {p : Addr} (h : H p = some (.dK [])) : ∃ o n, s.heap.get? p = some o ∧ o.cls = .type "dict" ∧ o.data = .dict #[] n ∧ (p == sysModules) = false := by
  obtain ⟨_, hsm, vs, r, o, es, ep, e1, e2, e3, e4, e5, _⟩ := dk_of I.hok h
  cases r
  obtain ⟨l⟩ := es
  have e5' : Pairs (mixKind X.prog X.w) l [] := e5
  have e : l = [] := by
    cases l with
    | nil => rfl
    | cons a b => cases e5'
  subst e
  exact ⟨o, ep, e1, e2.1, e3, hsm⟩
mutual
theorem Dx.reads (I : L2.Inv X pins σ H s) : ∀ (d : PyData) (v : V) (u : Value), Dx X.K H v d → RelV v u → ∃ q, Reads s.heap u d q
  | .none, _, _, h, r => by
    cases h
    cases r
    exact ⟨_, .none⟩
  | .bool b, _, _, h, r => by
    cases h
    cases r
    exact ⟨_, .bool b⟩
  | .int i, _, _, h, r => by
    cases h
    obtain ⟨t, rfl⟩ := r
    exact ⟨_, .int i t⟩
  | .str x, _, _, h, r => by
    cases h
    obtain ⟨t, rfl⟩ := r
    exact ⟨_, .str x t⟩
  | .list ds, _, _, h, r => by
    cases h with
    | lst hp hl =>
      cases r
      obtain ⟨us, rv, ⟨o, n, g1, g2, _, g3⟩, _⟩ := I.list hp
      obtain ⟨q, hq⟩ := DxA.reads I ds _ us hl rv
      exact ⟨_, .list g1 g2 g3 hq⟩
  | .tuple ds, _, _, h, r => by
    cases h with
    | tup hp hl =>
      cases r
      obtain ⟨us, rv, ⟨o, g1, g2, n, g3⟩, _⟩ := I.tuple hp
      obtain ⟨q, hq⟩ := DxA.reads I ds _ us hl rv
      exact ⟨_, .tuple g1 g2 g3 hq⟩
  | .dict _, _, _, h, r => by
    cases h with
    | emp hp =>
      cases r
      obtain ⟨o, n, g1, g2, g3, _⟩ := emp_at I hp
      exact ⟨_, .dict g1 g2 g3 ReadsAll.nil ReadsAll.nil⟩
theorem DxA.reads (I : L2.Inv X pins σ H s) : ∀ (ds : List PyData) (l : List V) (us : List Value), DxA X.K H l ds → Vals l us → ∃ q, ReadsAll s.heap us ds q
  | [], _, _, h, r => by
    cases h
    cases r
    exact ⟨_, .nil⟩
  | d :: ds, _, _, h, r => by
    cases h with
    | cons h1 h2 =>
      cases r with
      | cons r1 r2 =>
        obtain ⟨q1, g1⟩ := Dx.reads I d _ _ h1 r1
        obtain ⟨q2, g2⟩ := DxA.reads I ds _ _ h2 r2
        exact ⟨_, .cons g1 g2⟩
end
theorem noRead (h : Heap) (n : Nat) : ReadAtMost h n [] := by
  intro b z
  cases z
theorem text_empty_dict : PyData.shown (.dict []) = dictText [] := rfl
mutual
/-- what is shown of it, at any depth -/
theorem Dx.look (I : L2.Inv X pins σ H s) : ∀ (d : PyData) (v : V) (u : Value), Dx X.K H v d → RelV v u → d.showable = true → d.shown.length ≤ sizeLine →
    ∃ q, ReadAtMost s.heap d.depth q ∧ ReprK X.prog X.w q s.heap d.depth u d.shown
  | .none, _, _, h, r, _, _ => by
    cases h
    cases r
    exact ⟨[], noRead _ _, .of_is ReprIs.none _ _ _⟩
  | .bool b, _, _, h, r, _, _ => by
    cases h
    cases r
    exact ⟨[], noRead _ _, .of_is (ReprIs.bool b) _ _ _⟩
  | .int i, _, _, h, r, hs, _ => by
    cases h
    obtain ⟨t, rfl⟩ := r
    exact ⟨[], noRead _ _, .of_is (ReprIs.int t (of_decide_eq_true hs)) _ _ _⟩
  | .str x, _, _, h, r, _, hz => by
    cases h
    obtain ⟨t, rfl⟩ := r
    exact ⟨[], noRead _ _, .of_is (ReprIs.str x t hz) _ _ _⟩
  | .list ds, v, u, h, r, hs, hz => by
    obtain ⟨q0, rd⟩ := Dx.reads I _ v u h r
    cases h with
    | lst hp hl =>
      cases r
      obtain ⟨us, rv, ⟨o, n, g1, g2, _, g3⟩, _⟩ := I.list hp
      have hz1 : (listText (PyData.shownAll ds)).length ≤ sizeLine := hz
      obtain ⟨q, hq, hk⟩ := DxA.look I ds _ us hl rv hs fun t ht => Nat.le_trans (listText_mem_le ht) hz1
      have hd : (PyData.list ds).depth = PyData.depthAll ds + 1 := by rw [PyData.depth]
      have hn := not_mem_of_deeper rd (by omega) hq
      refine ⟨_ :: q, .cons rd (by omega) hq, ?_⟩
      rw [hd]
      show ReprK _ _ _ _ _ _ (listText (PyData.shownAll ds))
      cases us with
      | nil =>
        have e : PyData.shownAll ds = [] := List.length_eq_zero_iff.mp hk.length_eq
        rw [e]
        exact .listEmpty g1 g2 g3
      | cons a b => exact .list g1 g2 g3 hn (by simpa using hk.length_eq) fun i y e => hk.item i y (by simpa using e)
  | .tuple ds, v, u, h, r, hs, hz => by
    obtain ⟨q0, rd⟩ := Dx.reads I _ v u h r
    cases h with
    | tup hp hl =>
      cases r
      obtain ⟨us, rv, ⟨o, g1, g2, n, g3⟩, _⟩ := I.tuple hp
      have hz1 : (tupleText (PyData.shownAll ds)).length ≤ sizeLine := hz
      obtain ⟨q, hq, hk⟩ := DxA.look I ds _ us hl rv hs fun t ht => Nat.le_trans (tupleText_mem_le ht) hz1
      have hd : (PyData.tuple ds).depth = PyData.depthAll ds + 1 := by rw [PyData.depth]
      have hn := not_mem_of_deeper rd (by omega) hq
      refine ⟨_ :: q, .cons rd (by omega) hq, ?_⟩
      rw [hd]
      exact .tuple g1 g2 g3 hn hk
  | .dict _, v, u, h, r, _, _ => by
    obtain ⟨q0, rd⟩ := Dx.reads I _ v u h r
    cases h with
    | emp hp =>
      cases r
      obtain ⟨o, n, g1, g2, g3, g4⟩ := emp_at I hp
      have hd : (PyData.dict []).depth = 0 + 1 := by decide
      refine ⟨[_], .cons rd (n := 0) (by omega) (noRead _ _), ?_⟩
      rw [hd, text_empty_dict]
      exact .dict g1 g2 g3 g4 (by simp) ReprEntriesK.nil
theorem DxA.look (I : L2.Inv X pins σ H s) : ∀ (ds : List PyData) (l : List V) (us : List Value), DxA X.K H l ds → Vals l us → PyData.showableAll ds = true → (∀ t ∈ PyData.shownAll ds, t.length ≤ sizeLine) →
    ∃ q, ReadAtMost s.heap (PyData.depthAll ds) q ∧ ReprAllK X.prog X.w q s.heap (PyData.depthAll ds) us (PyData.shownAll ds)
  | [], _, _, h, r, _, _ => by
    cases h
    cases r
    exact ⟨[], noRead _ _, ReprAllK.nil⟩
  | d :: ds, _, _, h, r, hs, hz => by
    cases h with
    | cons h1 h2 =>
      cases r with
      | cons r1 r2 =>
        rw [PyData.showableAll, Bool.and_eq_true] at hs
        have hm : d.shown ∈ PyData.shownAll (d :: ds) := by
          rw [PyData.shownAll]
          exact List.mem_cons_self
        obtain ⟨q1, a1, k1⟩ := Dx.look I d _ _ h1 r1 hs.1 (hz _ hm)
        obtain ⟨q2, a2, k2⟩ := DxA.look I ds _ _ h2 r2 hs.2 fun t ht => hz t (by rw [PyData.shownAll]; exact List.mem_cons_of_mem _ ht)
        have m1 : d.depth ≤ PyData.depthAll (d :: ds) := by
          rw [PyData.depthAll]
          omega
        have m2 : PyData.depthAll ds ≤ PyData.depthAll (d :: ds) := by
          rw [PyData.depthAll]
          omega
        refine ⟨q1 ++ q2, (a1.mono m1).append (a2.mono m2), ?_⟩
        rw [PyData.shownAll]
        exact .cons ((k1.more fun b z => List.mem_append_left _ z).level_le m1) (k2.more_le (fun b z => List.mem_append_right _ z) m2)
end
end
/-! ### repr of a list of such data -/
def rReprX (K : PySem.W.Frag) : List V → Hp → VK → Prop := fun xs H Q =>
  ∃ (v : V) (ds : List PyData) (S : Str), xs = [v] ∧ Dx K H v (.list ds) ∧ PyData.showableAll ds = true ∧
    (PyData.list ds).depth ≤ 40 ∧ (PyData.list ds).shown = S ∧ S.length ≤ sizeLine ∧ Q (.str S) H
theorem call_reprX {X : Cx} {k : Nat} (hr : Room k X.A) (hgd : X.A.guards = some []) :
    CallR X (.builtin "repr") (rReprX X.K) := by
  intro pins s σ H xs us Q I r h
  obtain ⟨v, ds, S, rfl, hd, hs, hdep, rfl, hz, q⟩ := h
  obtain ⟨u, rfl, ru⟩ := vals1 r
  obtain ⟨q0, rd⟩ := Dx.reads I _ v u hd ru
  cases hd with
  | lst hp hl =>
    cases ru
    obtain ⟨vs, rv, ⟨o, n, g1, g2, _, g3⟩, _⟩ := I.list hp
    have hz1 : (listText (PyData.shownAll ds)).length ≤ sizeLine := hz
    obtain ⟨q1, hq, hk⟩ := DxA.look I ds _ vs hl rv hs fun t ht => Nat.le_trans (listText_mem_le ht) hz1
    have hde : (PyData.list ds).depth = PyData.depthAll ds + 1 := by rw [PyData.depth]
    have hn := not_mem_of_deeper rd (by omega) hq
    have hun := hr.un
    refine call_repr_slot (by omega) ⟨o, g1, g2⟩ F.slot_list_repr.toG ?_
    cases vs with
    | nil =>
      have e0 : PyData.shownAll ds = [] := List.length_eq_zero_iff.mp hk.length_eq
      have e : (PyData.list ds).shown = "[]" := by
        rw [PyData.shown, e0]
        rfl
      rw [e] at q
      exact call_list_repr_empty ⟨o, g1, g2⟩ g1 g3 ⟨_, _, rfl, .str "[]", H, I.tok _, ⟨_, rfl⟩, q⟩
    | cons a b =>
      refine call_list_reprK g1 g2 g3 hn (by simpa using hk.length_eq) (fun i y e => hk.item i y (by simpa using e)) (show X.A.in1.guards = some [] from hgd) (fun b _ => Clear.nil b) ?_ (fun _ _ z => z) (fun h' u' tk hk' => ?_) hz1
      · show X.A.units + 1 + _ < cLine
        omega
      · exact ⟨_, _, rfl, .str _, H, I.kept hk', ⟨_, rfl⟩, q⟩
end SfG
/-! such data: its parts, how it stays, == with a text, with () and [] -/
namespace SfG
open PySem PySem.Spec PyProof.Rows L2
section
variable {K : PySem.W.Frag} {H : Hp} {v : V}
theorem dx_str {z : Str} (h : Dx K H v (.str z)) : v = .str z := by cases h; rfl
theorem dx_int {n : Int} (h : Dx K H v (.int n)) : v = .int n := by cases h; rfl
theorem dx_bool {b : Bool} (h : Dx K H v (.bool b)) : v = .bl b := by cases h; rfl
theorem dx_tup {ds : List PyData} (h : Dx K H v (.tuple ds)) : ∃ p xs, v = .ref p ∧ SqT K H p xs ∧ DxA K H xs ds := by
  cases h with
  | tup h hs => exact ⟨_, _, rfl, h, hs⟩
theorem dx_lst {ds : List PyData} (h : Dx K H v (.list ds)) : ∃ p xs, v = .ref p ∧ SqL K H p xs ∧ DxA K H xs ds := by
  cases h with
  | lst h hs => exact ⟨_, _, rfl, h, hs⟩
theorem dxA_nil {xs : List V} (h : DxA K H xs []) : xs = [] := by cases h; rfl
theorem dxA_cons {xs : List V} {d : PyData} {ds : List PyData} (h : DxA K H xs (d :: ds)) : ∃ x r, xs = x :: r ∧ Dx K H x d ∧ DxA K H r ds := by
  cases h with
  | cons a b => exact ⟨_, _, rfl, a, b⟩
theorem dxA_len : ∀ {ds : List PyData} {xs : List V}, DxA K H xs ds → xs.length = ds.length
  | [], _, h => by
    rw [dxA_nil h]
    rfl
  | _ :: _, _, h => by
    obtain ⟨x, r, rfl, _, hr⟩ := dxA_cons h
    rw [List.length_cons, List.length_cons, dxA_len hr]
theorem dxA_get : ∀ {ds : List PyData} {xs : List V} {i : Nat} {d : PyData}, DxA K H xs ds → ds[i]? = some d → ∃ x, xs[i]? = some x ∧ Dx K H x d
  | [], _, i, d, _, h => by simp at h
  | a :: r, xs, 0, d, hs, h => by
    obtain ⟨x, r', rfl, hx, _⟩ := dxA_cons hs
    have e : a = d := Option.some.inj h
    exact ⟨x, rfl, e ▸ hx⟩
  | a :: r, xs, i + 1, d, hs, h => by
    obtain ⟨x, r', rfl, _, hr⟩ := dxA_cons hs
    obtain ⟨y, hy, hd⟩ := dxA_get hr (show r[i]? = some d from h)
    exact ⟨y, hy, hd⟩
/-- by the item -/
theorem dxA_at : ∀ {ds : List PyData} {xs : List V} {i : Nat} {x : V}, DxA K H xs ds → xs[i]? = some x → ∃ d, ds[i]? = some d ∧ Dx K H x d
  | [], _, i, d, hs, h => by
    rw [dxA_nil hs] at h
    simp at h
  | a :: r, xs, 0, d, hs, h => by
    obtain ⟨x, r', rfl, hx, _⟩ := dxA_cons hs
    have e : x = d := Option.some.inj h
    exact ⟨a, rfl, e ▸ hx⟩
  | a :: r, xs, i + 1, d, hs, h => by
    obtain ⟨x, r', rfl, _, hr⟩ := dxA_cons hs
    obtain ⟨y, hy, hd⟩ := dxA_at hr (show r'[i]? = some d from h)
    exact ⟨y, hy, hd⟩
theorem dxA_take : ∀ {ds : List PyData} {xs : List V} (n : Nat), DxA K H xs ds → DxA K H (xs.take n) (ds.take n)
  | [], _, n, h => by
    rw [dxA_nil h]
    simpa using DxA.nil
  | _ :: _, _, 0, _ => by simpa using DxA.nil
  | _ :: _, _, n + 1, h => by
    obtain ⟨x, r, rfl, hx, hr⟩ := dxA_cons h
    exact .cons hx (dxA_take n hr)
theorem dxA_drop : ∀ {ds : List PyData} {xs : List V} (n : Nat), DxA K H xs ds → DxA K H (xs.drop n) (ds.drop n)
  | [], _, n, h => by
    rw [dxA_nil h]
    simpa using DxA.nil
  | _ :: _, _, 0, h => h
  | _ :: _, _, n + 1, h => by
    obtain ⟨x, r, rfl, hx, hr⟩ := dxA_cons h
    exact dxA_drop n hr
theorem dxA_app : ∀ {ds es : List PyData} {xs ys : List V}, DxA K H xs ds → DxA K H ys es → DxA K H (xs ++ ys) (ds ++ es)
  | [], _, _, _, h, g => by
    rw [dxA_nil h]
    exact g
  | _ :: _, _, _, _, h, g => by
    obtain ⟨x, r, rfl, hx, hr⟩ := dxA_cons h
    exact .cons hx (dxA_app hr g)
theorem dxA_rev : ∀ {ds : List PyData} {xs : List V}, DxA K H xs ds → DxA K H xs.reverse ds.reverse
  | [], _, h => by
    rw [dxA_nil h]
    exact .nil
  | _ :: _, _, h => by
    obtain ⟨x, r, rfl, hx, hr⟩ := dxA_cons h
    rw [List.reverse_cons, List.reverse_cons]
    exact dxA_app (dxA_rev hr) (.cons hx .nil)
mutual
theorem Dp.dx : ∀ {d : PyData} {v : V}, Dp K H v d → Dx K H v d
  | _, _, .non => .non
  | _, _, .bl b => .bl b
  | _, _, .int i => .int i
  | _, _, .str x => .str x
  | _, _, .lst h hs => .lst h (Dp.dxA hs)
  | _, _, .tup h hs => .tup h (Dp.dxA hs)
theorem Dp.dxA : ∀ {ds : List PyData} {vs : List V}, DpAll K H vs ds → DxA K H vs ds
  | _, _, .nil => .nil
  | _, _, .cons h hs => .cons (Dp.dx h) (Dp.dxA hs)
end
end
/-- what keeps lists, tuples and empty dicts keeps such data -/
structure Kx (K : PySem.W.Frag) (H H' : Hp) : Prop where
  kd : Kd K H H'
  e : ∀ {p}, H p = some (.dK []) → H' p = some (.dK [])
theorem Gr.kx {K : PySem.W.Frag} {H H' : Hp} (g : Gr H H') : Kx K H H' := ⟨g.kd, fun h => g.dic h⟩
theorem Gp.kx {K : PySem.W.Frag} {p : Addr} {H H' : Hp} {k : Key × V} {kv : List (Key × V)} (g : Gp p H H') (hp : H p = some (.dK (k :: kv))) : Kx K H H' := by
  refine ⟨g.kd hp, ?_⟩
  intro b h
  refine g.keep b _ ?_ h (fun _ z => by cases z)
  intro z
  rw [z, hp] at h
  cases h
theorem Kx.trans {K : PySem.W.Frag} {H H1 H2 : Hp} (a : Kx K H H1) (b : Kx K H1 H2) : Kx K H H2 := ⟨⟨fun h => b.kd.l (a.kd.l h), fun h => b.kd.t (a.kd.t h)⟩, fun h => b.e (a.e h)⟩
mutual
theorem Kx.dx {K : PySem.W.Frag} {H H' : Hp} (g : Kx K H H') : ∀ {d : PyData} {v : V}, Dx K H v d → Dx K H' v d
  | _, _, .non => .non
  | _, _, .bl b => .bl b
  | _, _, .int i => .int i
  | _, _, .str x => .str x
  | _, _, .lst h hs => .lst (g.kd.l h) (g.dxA hs)
  | _, _, .tup h hs => .tup (g.kd.t h) (g.dxA hs)
  | _, _, .emp h => .emp (g.e h)
theorem Kx.dxA {K : PySem.W.Frag} {H H' : Hp} (g : Kx K H H') : ∀ {ds : List PyData} {vs : List V}, DxA K H vs ds → DxA K H' vs ds
  | _, _, .nil => .nil
  | _, _, .cons h hs => .cons (g.dx h) (g.dxA hs)
end
theorem dx_is {K : PySem.W.Frag} {H : Hp} {v : V} {d : PyData} (h : Dx K H v d) : Is K H v (tyD d) := by
  cases h with
  | non => exact ⟨.base .non, by decide +kernel⟩
  | bl b => exact ⟨.base (.bl b), by show "bool" ∈ kinds; decide +kernel⟩
  | int i => exact ⟨.base (.int i), by show "int" ∈ kinds; decide +kernel⟩
  | str x => exact ⟨.base (.str x), by show "str" ∈ kinds; decide +kernel⟩
  | lst h _ => exact ⟨tyx_lst h, by show "list" ∈ kinds; decide +kernel⟩
  | tup h _ => exact ⟨tyx_tup h, by show "tuple" ∈ kinds; decide +kernel⟩
  | emp h => exact ⟨.base (.dK h), by show "dict" ∈ kinds; decide +kernel⟩
/-! ### == -/
theorem dict_eq_str (l : Addr) (es : Array DictEntry) (n : Nat) (dd : Option Addr) (sl : Array (Option Value)) (b : Str) (u : Tok) :
    Meets (Builtin.«dict.__eq__» ⟨[.ref l, .str b u], []⟩) (fun _ R s => s.heap.get? l = some { cls := .type "dict", dict := dd, data := .dict es n, slots := sl } ∧ R (.ok (.ret .notImplemented)) s) := by
  refine .of_wp fun prog w A R s h => ?_
  obtain ⟨hp, g, d, tk, os⟩ := s
  obtain ⟨hl, h⟩ := h
  have f1 := F.sub_str_dict
  wp_walk using wpAny_loadPart' hl
  exact ⟨_, rfl, h⟩
theorem str_eq_dict (b : Str) (u : Tok) (l : Addr) (es : Array DictEntry) (n : Nat) (dd : Option Addr) (sl : Array (Option Value)) :
    Meets (Builtin.«str.__eq__» ⟨[.str b u, .ref l], []⟩) (fun _ R s => s.heap.get? l = some { cls := .type "dict", dict := dd, data := .dict es n, slots := sl } ∧ R (.ok (.ret .notImplemented)) s) := by
  refine .of_wp fun prog w A R s h => ?_
  obtain ⟨hp, g, d, tk, os⟩ := s
  obtain ⟨hl, h⟩ := h
  wp_walk using wpAny_loadPart' hl, wpAny_load hl
  exact ⟨_, rfl, h⟩
end SfG
namespace SfG
open PySem PySem.Spec PyProof.Rows L2
section
variable {A : Around} {s : Shared}
theorem rc_dict_str {l : Addr} {o : Obj} {es : Array DictEntry} {n : Nat} (b : Str) (u : Tok) (ho : s.heap.get? l = some o) (hc : o.cls = .type "dict") (hd : o.data = .dict es n) (hu : A.units < cLine) :
    SeqAt.RcAt A s (.ref l) (.str b u) false := fun prog w E Q h => by
  obtain ⟨cls, dd, data, sl⟩ := o
  simp only at hc hd
  subst hc hd
  refine SeqAt.rc_eq_decline_or (k := false) ⟨_, ho, rfl⟩ (typeIs_str s b u) (by decide) F.sub_str_dict F.slot_dict_eq F.slot_str_eq_refl ?_ ?_ ?_ (.inr hu) h
  · intro Q' hq
    exact call_meets F.slot_dict_eq ⟨_, ho, rfl⟩ F.entry_dict_eq (F.args_dict_eq_2 _ _) (dict_eq_str l es n dd sl b u) ⟨ho, hq⟩
  · intro Q' hq
    exact call_meets F.slot_str_eq_refl (typeIs_str s b u) F.entry_str_eq (F.args_str_eq_2 _ _) (str_eq_dict b u l es n dd sl) ⟨ho, hq⟩
  · intro Q' hq
    exact wpAny_of_eq (show isSame (.ref l) (.str b u) = pure false from rfl) hq
end
/-- a thing is this text -/
def eqS : PyData → Str → Bool
  | .str a, z => decide (a = z)
  | _, _ => false
def rEqXS (K : PySem.W.Frag) : R2 := fun x y H Q => ∃ (d : PyData) (z : Str), Dx K H x d ∧ y = .str z ∧ Q (.bl (eqS d z)) H
section
variable {X : Cx}
theorem op_eqXS {k : Nat} (hr : Room k X.A) : OpR X (compareOp .Eq) (rEqXS X.K) := by
  intro pins s σ H x y v u Q I rx ry h
  obtain ⟨d, z, hx, rfl, q⟩ := h
  obtain ⟨t, rfl⟩ := ry
  have hu : X.A.units < cLine := by
    have := hr.un
    omega
  have fin : Q (.bl (eqS d z)) H → EP X pins σ Q (.bool (eqS d z)) s := fun q => ⟨.bl _, H, I, rfl, q⟩
  cases hx with
  | non =>
    cases rx
    exact SeqAt.RcAt.none_str z t _ _ _ _ (fin q)
  | bl b =>
    cases rx
    exact SeqAt.RcAt.bool_str b z t _ _ _ _ (fin q)
  | int i =>
    obtain ⟨t', rfl⟩ := rx
    exact SeqAt.RcAt.int_str i t' z t _ _ _ _ (fin q)
  | str a =>
    obtain ⟨t', rfl⟩ := rx
    have e : (a == z) = decide (a = z) := by
      by_cases c : a = z
      · rw [decide_eq_true c, c]
        exact beq_self_eq_true z
      · rw [decide_eq_false c]
        exact beq_eq_false_iff_ne.mpr c
    refine SeqAt.RcAt.str_str a t' z t _ _ _ _ ?_
    rw [e]
    exact fin q
  | lst hp hl =>
    cases rx
    obtain ⟨us, rv, ⟨o, n, g1, g2, _, g3⟩, _⟩ := I.list hp
    exact SeqAt.RcAt.list_str z t ⟨o, g1, g2, n, g3⟩ hu _ _ _ _ (fin q)
  | tup hp hl =>
    cases rx
    obtain ⟨us, rv, ⟨o, g1, g2, n, g3⟩, _⟩ := I.tuple hp
    exact SeqAt.RcAt.tuple_str z t ⟨o, g1, g2, n, g3⟩ hu _ _ _ _ (fin q)
  | emp hp =>
    cases rx
    obtain ⟨o, n, g1, g2, g3, _⟩ := emp_at I hp
    exact rc_dict_str z t g1 g2 g3 hu _ _ _ _ (fin q)
def rEqT0 (K : PySem.W.Frag) : R2 := fun x y H Q => ∃ (p q : Addr) (l : List V), x = .ref p ∧ y = .ref q ∧ SqT K H p l ∧ SqT K H q [] ∧ Q (.bl l.isEmpty) H
theorem op_eqT0 {k : Nat} (hr : Room k X.A) : OpR X (compareOp .Eq) (rEqT0 X.K) := by
  intro pins s σ H x y v u Q I rx ry h
  obtain ⟨p, q, l, rfl, rfl, hp, hq, g⟩ := h
  cases rx
  cases ry
  have hu : X.A.units < cLine := by
    have := hr.un
    omega
  obtain ⟨us, rv, tp, _⟩ := I.tuple hp
  obtain ⟨ws, rw', tq, _⟩ := I.tuple hq
  cases rw'
  refine SeqAt.eq_tupleAt (e := fun _ => true) tp tq hu (fun j h1 h2 => absurd h2 (by simp)) ?_
  have e : ((List.range (min us.toArray.size ([] : List Value).toArray.size)).all (fun _ => true) && us.toArray.size == ([] : List Value).toArray.size) = l.isEmpty := by
    cases rv with
    | nil => rfl
    | cons a b => simp
  rw [e]
  exact ⟨.bl _, H, I, rfl, g⟩
def rEqL0 (K : PySem.W.Frag) : R2 := fun x y H Q => ∃ (p q : Addr) (l : List V), x = .ref p ∧ y = .ref q ∧ SqL K H p l ∧ SqL K H q [] ∧ Q (.bl l.isEmpty) H
theorem op_eqL0 {k : Nat} (hr : Room k X.A) : OpR X (compareOp .Eq) (rEqL0 X.K) := by
  intro pins s σ H x y v u Q I rx ry h
  obtain ⟨p, q, l, rfl, rfl, hp, hq, g⟩ := h
  cases rx
  cases ry
  have hu : X.A.units < cLine := by
    have := hr.un
    omega
  obtain ⟨us, rv, ⟨o, n, a1, a2, _, a3⟩, _⟩ := I.list hp
  obtain ⟨ws, rw', ⟨o2, n2, b1, b2, _, b3⟩, _⟩ := I.list hq
  cases rw'
  cases rv with
  | nil => exact SeqAt.eq_listAt (e := fun _ => true) ⟨o, a1, a2, n, a3⟩ ⟨o2, b1, b2, n2, b3⟩ rfl hu (fun j h1 h2 => absurd h2 (by simp)) ⟨.bl true, H, I, rfl, g⟩
  | cons a b => exact SeqAt.eq_list_lengthsAt ⟨o, a1, a2, n, a3⟩ ⟨o2, b1, b2, n2, b3⟩ (by simp) hu ⟨.bl false, H, I, rfl, g⟩
end
end SfG
/-! xs != [] -/
namespace SfG
open PySem PySem.Spec PyProof.Rows L2
def rNeL0 (K : PySem.W.Frag) : R2 := fun x y H Q => ∃ (p q : Addr) (l : List V), x = .ref p ∧ y = .ref q ∧ SqL K H p l ∧ SqL K H q [] ∧ Q (.bl (!l.isEmpty)) H
theorem op_neL0 {X : Cx} {k : Nat} (hr : Room k X.A) : OpR X (compareOp .NotEq) (rNeL0 X.K) := by
  intro pins s σ H x y v u Q I rx ry h
  obtain ⟨p, q, l, rfl, rfl, hp, hq, g⟩ := h
  cases rx
  cases ry
  have hu : X.A.units < cLine := by
    have := hr.un
    omega
  obtain ⟨us, rv, ⟨o, n, a1, a2, _, a3⟩, _⟩ := I.list hp
  obtain ⟨ws, rw', ⟨o2, n2, b1, b2, _, b3⟩, _⟩ := I.list hq
  cases rw'
  show wpAny _ _ (richCompare .NotEq _ _) _ _ s
  cases rv with
  | nil => exact SeqAt.RcNeAt.lists (e := fun _ => true) ⟨o, a1, a2, n, a3⟩ ⟨o2, b1, b2, n2, b3⟩ rfl hu (fun j h1 h2 => absurd h2 (by simp)) _ _ _ _ ⟨.bl false, H, I, rfl, g⟩
  | cons a b => exact SeqAt.RcNeAt.lists_lengths ⟨o, a1, a2, n, a3⟩ ⟨o2, b1, b2, n2, b3⟩ (by simp) hu _ _ _ _ ⟨.bl true, H, I, rfl, g⟩
end SfG
/-! how great data is -/
namespace SfG
open PySem PySem.Spec PyProof.Rows L2
mutual
/-- how long it is when shown, at most -/
def wt : PyData → Nat
  | .none => 5
  | .bool _ => 5
  | .int i => i.natAbs.log2 + 3
  | .str z => 10 * z.length + 2
  | .list ds => wtA ds + 3
  | .tuple ds => wtA ds + 3
  | .dict _ => 2
def wtA : List PyData → Nat
  | [] => 0
  | d :: ds => wt d + 2 + wtA ds
end
mutual
/-- of plain texts, of numbers that can be shown, of empty dicts -/
def okd : PyData → Bool
  | .none => true
  | .bool _ => true
  | .int i => decide (i.natAbs.log2 < 1900)
  | .str z => z.cps.toList.all fun c => decide (c < 128)
  | .list ds => okdA ds
  | .tuple ds => okdA ds
  | .dict kvs => kvs.isEmpty
def okdA : List PyData → Bool
  | [] => true
  | d :: ds => okd d && okdA ds
end
theorem okd_str {z : Str} (h : okd (.str z) = true) : ∀ c ∈ z.cps.toList, c < 128 := by
  rw [okd] at h
  exact fun c hc => of_decide_eq_true (List.all_eq_true.mp h c hc)
mutual
theorem okd_able : ∀ {d : PyData}, okd d = true → d.showable = true
  | .none, _ => rfl
  | .bool _, _ => rfl
  | .int i, h => by
    rw [okd, decide_eq_true_eq] at h
    rw [PyData.showable]
    exact decide_eq_true (by omega)
  | .str z, _ => rfl
  | .list ds, h => by
    rw [okd] at h
    rw [PyData.showable]
    exact okdA_able h
  | .tuple ds, h => by
    rw [okd] at h
    rw [PyData.showable]
    exact okdA_able h
  | .dict [], _ => rfl
  | .dict (_ :: _), h => by
    rw [okd] at h
    cases h
theorem okdA_able : ∀ {ds : List PyData}, okdA ds = true → PyData.showableAll ds = true
  | [], _ => rfl
  | d :: ds, h => by
    rw [okdA, Bool.and_eq_true] at h
    rw [PyData.showableAll, okd_able h.1, okdA_able h.2]
    rfl
end
mutual
theorem okd_len : ∀ {d : PyData}, okd d = true → d.shown.length ≤ wt d
  | .none, _ => by decide
  | .bool true, _ => by decide
  | .bool false, _ => by decide
  | .int i, h => by
    have hl : i.natAbs.log2 < i.natAbs.log2 + 1 := by omega
    have e := int_text_length_le (k := i.natAbs.log2 + 1) (a := i) (by omega) hl
    show (Str.ofString (toString i)).length ≤ _
    rw [PySem.ofString_length, wt]
    omega
  | .str z, h => by
    have h1 := PySem.StrLaws.reprText_len z fun c hc => Nat.lt_of_lt_of_le (okd_str h c hc) (by decide)
    show (reprText z).length ≤ _
    rw [wt]
    omega
  | .list ds, h => by
    rw [okd] at h
    have h1 := okdA_len h
    have h2 := listText_len_le (PyData.shownAll ds)
    have h3 := PyData.shownAll_length ds
    rw [PyData.shown, wt]
    omega
  | .tuple ds, h => by
    rw [okd] at h
    have h1 := okdA_len h
    have h2 := tupleText_len_le (PyData.shownAll ds)
    have h3 := PyData.shownAll_length ds
    rw [PyData.shown, wt]
    omega
  | .dict [], _ => by decide
  | .dict (_ :: _), h => by
    rw [okd] at h
    cases h
theorem okdA_len : ∀ {ds : List PyData}, okdA ds = true → ((PyData.shownAll ds).map (·.length)).sum + 2 * ds.length ≤ wtA ds
  | [], _ => by decide
  | d :: ds, h => by
    rw [okdA, Bool.and_eq_true] at h
    have h1 := okd_len h.1
    have h2 := okdA_len h.2
    rw [PyData.shownAll, List.map_cons, List.sum_cons, List.length_cons, wtA]
    omega
end
/-! ### parts -/
theorem okdA_app : ∀ {a b : List PyData}, okdA (a ++ b) = (okdA a && okdA b)
  | [], b => by
    rw [okdA]
    simp
  | d :: a, b => by
    rw [List.cons_append, okdA, okdA, okdA_app, Bool.and_assoc]
theorem wtA_app : ∀ {a b : List PyData}, wtA (a ++ b) = wtA a + wtA b
  | [], b => by
    rw [wtA]
    simp
  | d :: a, b => by
    rw [List.cons_append, wtA, wtA, wtA_app]
    omega
theorem depA_app : ∀ {a b : List PyData}, PyData.depthAll (a ++ b) = max (PyData.depthAll a) (PyData.depthAll b)
  | [], b => by
    rw [PyData.depthAll]
    simp
  | d :: a, b => by
    rw [List.cons_append, PyData.depthAll, PyData.depthAll, depA_app]
    omega
structure Wt (d : PyData) (L D : Nat) : Prop where
  ok : okd d = true
  le : wt d ≤ L
  dep : d.depth ≤ D
structure WtA (ds : List PyData) (L D : Nat) : Prop where
  ok : okdA ds = true
  le : wtA ds ≤ L
  dep : PyData.depthAll ds ≤ D
theorem Wt.mono {d : PyData} {L D L' D' : Nat} (h : Wt d L D) (hL : L ≤ L') (hD : D ≤ D') : Wt d L' D' := ⟨h.ok, Nat.le_trans h.le hL, Nat.le_trans h.dep hD⟩
theorem WtA.mono {d : List PyData} {L D L' D' : Nat} (h : WtA d L D) (hL : L ≤ L') (hD : D ≤ D') : WtA d L' D' := ⟨h.ok, Nat.le_trans h.le hL, Nat.le_trans h.dep hD⟩
theorem WtA.nil {L D : Nat} : WtA [] L D := ⟨rfl, by rw [wtA]; omega, by rw [PyData.depthAll]; omega⟩
theorem WtA.cons {d : PyData} {ds : List PyData} {L1 L2 D : Nat} (h : Wt d L1 D) (t : WtA ds L2 D) : WtA (d :: ds) (L1 + 2 + L2) D := by
  refine ⟨?_, ?_, ?_⟩
  · rw [okdA, h.ok, t.ok]
    rfl
  · have := h.le
    have := t.le
    rw [wtA]
    omega
  · have := h.dep
    have := t.dep
    rw [PyData.depthAll]
    omega
theorem WtA.app {a b : List PyData} {L1 L2 D : Nat} (h : WtA a L1 D) (t : WtA b L2 D) : WtA (a ++ b) (L1 + L2) D := by
  refine ⟨?_, ?_, ?_⟩
  · rw [okdA_app, h.ok, t.ok]
    rfl
  · have := h.le
    have := t.le
    rw [wtA_app]
    omega
  · have := h.dep
    have := t.dep
    rw [depA_app]
    omega
theorem WtA.take {a : List PyData} {L D : Nat} (h : WtA a L D) (n : Nat) : WtA (a.take n) L D := by
  obtain ⟨h1, h2, h3⟩ := h
  rw [← List.take_append_drop n a] at h1 h2 h3
  rw [okdA_app, Bool.and_eq_true] at h1
  rw [wtA_app] at h2
  rw [depA_app] at h3
  exact ⟨h1.1, by omega, by omega⟩
theorem WtA.drop {a : List PyData} {L D : Nat} (h : WtA a L D) (n : Nat) : WtA (a.drop n) L D := by
  obtain ⟨h1, h2, h3⟩ := h
  rw [← List.take_append_drop n a] at h1 h2 h3
  rw [okdA_app, Bool.and_eq_true] at h1
  rw [wtA_app] at h2
  rw [depA_app] at h3
  exact ⟨h1.2, by omega, by omega⟩
/-- both ends of it weigh no more than it -/
theorem wtA_ends (a : List PyData) {m n : Nat} (h : m ≤ n) : wtA (a.take m) + wtA (a.drop n) ≤ wtA a := by
  have e : a.drop m = (a.drop m).take (n - m) ++ a.drop n := by
    have := (List.take_append_drop (n - m) (a.drop m)).symm
    rw [List.drop_drop, show m + (n - m) = n by omega] at this
    exact this
  have e1 : wtA a = wtA (a.take m) + wtA (a.drop m) := by rw [← wtA_app, List.take_append_drop]
  rw [e1, e, wtA_app]
  omega
theorem WtA.get {a : List PyData} {L D i : Nat} {d : PyData} (h : WtA a L D) (e : a[i]? = some d) : Wt d L D := by
  have hd : a.drop i = d :: a.drop (i + 1) := by
    obtain ⟨hi, e'⟩ := List.getElem?_eq_some_iff.mp e
    rw [List.drop_eq_getElem_cons hi, e']
  obtain ⟨h1, h2, h3⟩ := h.drop i
  rw [hd, okdA, Bool.and_eq_true] at h1
  rw [hd, wtA] at h2
  rw [hd, PyData.depthAll] at h3
  exact ⟨h1.1, by omega, by omega⟩
theorem WtA.rev : ∀ {a : List PyData} {L D : Nat}, WtA a L D → WtA a.reverse L D
  | [], _, _, _ => WtA.nil
  | d :: ds, L, D, h => by
    obtain ⟨h1, h2, h3⟩ := h
    rw [okdA, Bool.and_eq_true] at h1
    rw [wtA] at h2
    rw [PyData.depthAll] at h3
    have r : WtA ds.reverse (wtA ds) D := WtA.rev ⟨h1.2, Nat.le_refl _, by omega⟩
    rw [List.reverse_cons]
    exact (r.app (WtA.cons (L1 := wt d) ⟨h1.1, Nat.le_refl _, by omega⟩ (WtA.nil (L := 0)))).mono (by omega) (Nat.le_refl _)
theorem Wt.tup {ds : List PyData} {L D : Nat} (h : WtA ds L D) : Wt (.tuple ds) (L + 3) (D + 1) := by
  refine ⟨h.ok, ?_, ?_⟩
  · have := h.le
    rw [wt]
    omega
  · have := h.dep
    rw [PyData.depth]
    omega
theorem Wt.lst {ds : List PyData} {L D : Nat} (h : WtA ds L D) : Wt (.list ds) (L + 3) (D + 1) := by
  refine ⟨h.ok, ?_, ?_⟩
  · have := h.le
    rw [wt]
    omega
  · have := h.dep
    rw [PyData.depth]
    omega
theorem Wt.un {ds : List PyData} {L D : Nat} (h : Wt (.tuple ds) L D) : WtA ds L D ∧ PyData.depthAll ds + 1 ≤ D ∧ wtA ds + 3 ≤ L := by
  obtain ⟨h1, h2, h3⟩ := h
  rw [wt] at h2
  rw [PyData.depth] at h3
  exact ⟨⟨h1, by omega, by omega⟩, h3, h2⟩
theorem Wt.text {z : Str} {L D : Nat} (h : Wt (.str z) L D) : 10 * z.length + 2 ≤ L := by
  have := h.le
  rw [wt] at this
  exact this
theorem Wt.lit {d : PyData} {L D : Nat} (h : (okd d && decide (wt d ≤ L) && decide (d.depth ≤ D)) = true) : Wt d L D := by
  rw [Bool.and_eq_true, Bool.and_eq_true, decide_eq_true_eq, decide_eq_true_eq] at h
  exact ⟨h.1.1, h.1.2, h.2⟩
end SfG
/-! d.get(k) of a written dict by texts -/
namespace SfG
open PySem PySem.Spec PyProof.Rows L2
/-- a dict of the module, all its keys texts: what is there by each -/
def KDo (K : PySem.W.Frag) (w : World) (p : Addr) (f : Str → Option V) : Prop :=
  ∃ es n, K.lookup p = some ⟨.type "dict", none, .dict es n, #[]⟩ ∧ PySem.W.KeysLit w.params es.toList ∧ (p == sysModules) = false ∧ ∀ z, RelO (f z) (findBy Value.isStrOf es z)
def tKGet (K : PySem.W.Frag) (w : World) (td ty : TE) : TE := fun σ H Q => td σ H fun x H1 => ∃ (p : Addr) (f : Str → Option V), x = .ref p ∧ KDo K w p f ∧ ty σ H1 fun y H2 => ∃ z : Str, y = .str z ∧ Q ((f z).getD .non) H2
theorem relO_getD {a : Option V} {b : Option Value} (h : RelO a b) : RelV (a.getD .non) (b.getD .none) := by
  cases a with
  | none =>
    cases b with
    | none => exact rfl
    | some u => exact absurd h id
  | some v =>
    cases b with
    | none => exact absurd h id
    | some u => exact h
theorem pe_kget {X : Cx} {o e : Expr} {apos cpos : Pos} {td ty : TE} (ho : PE X o td) (he : PE X e ty) (m : M1 X o "get" apos e cpos) : PE X (.Call (.Attribute o "get" apos) [e] [] cpos) (tKGet X.K X.w td ty) := by
  constructor
  intro pins s σ H Q I h
  refine wpAny_Call_method m.base m.few m.line PySem.F.plainAttrs_dict PySem.F.slot_dict_get PySem.F.type_dict_get ?_
  refine thn (ho.run pins s σ H _ I h) ?_
  rintro u s1 ⟨x, H1, I1, rx, p, f, rfl, ⟨es, n, hl, hk, hs, hf⟩, q1⟩
  cases (show u = Value.ref p from rx)
  have hm := fun (I : L2.Inv X pins σ H1 s1) => PySem.W.mapOf_K (prog := X.prog) (w := X.w) I.kIn hl hk
  refine ⟨(hm I1).typeIs, ?_, ?_⟩
  · intro b z
    cases z
    exact ⟨_, I1.kIn _ _ hl, rfl⟩
  rw [m.trees]
  refine Calls.callWith_builtin rfl (Calls.evalArgs_plain (Calls.spliced_cons (thn (he.run pins s1 σ H1 _ I1 q1) ?_)))
  rintro v s2 ⟨y, H2, I2, ry, z, rfl, q2⟩
  obtain ⟨t, rfl⟩ := (show ∃ t, v = Value.str z t from ry)
  refine Calls.spliced_nil ?_
  have hm2 := PySem.W.mapOf_K (prog := X.prog) (w := X.w) I2.kIn hl hk
  exact call_meetsIn PySem.F.slot_dict_get hm2.typeIs PySem.F.entry_dict_get (PySem.F.args_dict_get_2 _ _) (meets_dict_get (strKind X.prog X.w) p (strKind_is X.prog X.w z t) hs) ⟨_, hm2, _, H2, I2.tok _, relO_getD (hf z), q2⟩
end SfG
/-! data beside a thing that is changed: the heap without it -/
namespace SfG
open PySem PySem.Spec PyProof.Rows L2
def hide (S : List Addr) (H : Hp) : Hp := fun b => if b ∈ S then none else H b
/-- all these are there -/
def There (S : List Addr) (H : Hp) : Prop := ∀ f ∈ S, H f ≠ none
section
variable {K : PySem.W.Frag} {S : List Addr} {p r f : Addr} {H H' : Hp} {o : HO}
theorem hide_ne {b : Addr} (n : b ∉ S) : hide S H b = H b := if_neg n
theorem hide_of {b : Addr} (h : hide S H b = some o) : b ∉ S ∧ H b = some o := by
  by_cases c : b ∈ S
  · unfold hide at h
    rw [if_pos c] at h
    cases h
  · rw [hide_ne c] at h
    exact ⟨c, h⟩
theorem hide_upd (h : f ∈ S) : hide S (upd H f o) = hide S H := by
  funext b
  by_cases c : b ∈ S
  · unfold hide
    rw [if_pos c, if_pos c]
  · have n : b ≠ f := fun z => c (by rw [z]; exact h)
    rw [hide_ne c, hide_ne c, upd_ne n]
theorem hide_nil : hide [] H = H := by
  funext b
  exact hide_ne (by simp)
theorem kx_of (h : ∀ b o, H b = some o → (∀ ps, o ≠ .tbl ps) → (∀ k kv, o ≠ .dK (k :: kv)) → H' b = some o) : Kx K H H' := by
  refine ⟨⟨?_, ?_⟩, ?_⟩
  · intro a xs e
    rcases e with (e | ⟨o, e⟩) | e
    · exact .inl (.inl (h _ _ e (fun _ z => by cases z) (fun _ _ z => by cases z)))
    · exact .inl (.inr ⟨o, h _ _ e (fun _ z => by cases z) (fun _ _ z => by cases z)⟩)
    · exact .inr e
  · intro a xs e
    rcases e with (e | ⟨o, e⟩) | e
    · exact .inl (.inl (h _ _ e (fun _ z => by cases z) (fun _ _ z => by cases z)))
    · exact .inl (.inr ⟨o, h _ _ e (fun _ z => by cases z) (fun _ _ z => by cases z)⟩)
    · exact .inr e
  · intro q e
    exact h _ _ e (fun _ z => by cases z) (fun _ _ z => by cases z)
theorem hide_kx : Kx K (hide S H) H := kx_of fun b o h _ _ => (hide_of h).2
/-- fewer hidden -/
theorem hide_less {T : List Addr} (h : ∀ b ∈ T, b ∈ S) : Kx K (hide S H) (hide T H) := kx_of fun b o e _ _ => by
  obtain ⟨n, e1⟩ := hide_of e
  rw [hide_ne fun z => n (h b z)]
  exact e1
theorem hide_tail : Kx K (hide (f :: S) H) (hide S H) := hide_less fun b h => List.mem_cons_of_mem _ h
/-- a new one hidden: all that was stays -/
theorem hide_cons (n : H f = none) : Kx K (hide S H) (hide (f :: S) (upd H f o)) := kx_of fun b u e _ _ => by
  obtain ⟨n1, e1⟩ := hide_of e
  have nb : b ≠ f := ne_of_none e1 n
  rw [hide_ne (by simp [nb, n1]), upd_ne nb]
  exact e1
theorem Gr.hkx (g : Gr H H') : Kx K (hide S H) (hide S H') := kx_of fun b o h n _ => by
  obtain ⟨n1, h1⟩ := hide_of h
  rw [hide_ne n1]
  exact g.keep b o h1 n
theorem Gp.hkx {k : Key × V} {kv : List (Key × V)} (g : Gp p H H') (hp : H p = some (.dK (k :: kv))) : Kx K (hide S H) (hide S H') := kx_of fun b o h n nk => by
  obtain ⟨n1, h1⟩ := hide_of h
  rw [hide_ne n1]
  refine g.keep b o (fun z => ?_) h1 n
  rw [z, hp] at h1
  exact nk _ _ (Option.some.inj h1).symm
/-- with some hidden, one that is new -/
theorem hide_new (np : H r = none) (hf : There S H) : hide S (upd H r o) r = some o := by
  have n : r ∉ S := fun z => hf r z np
  rw [hide_ne n, upd_same]
theorem dx_newT {xs : List V} {ds : List PyData} (np : H r = none) (hf : There S H) (h : DxA K (hide S H) xs ds) : Dx K (hide S (upd H r (.tup xs))) (.ref r) (.tuple ds) :=
  .tup (.inl (.inl (hide_new np hf))) ((Gr.new np).hkx.dxA h)
theorem dx_newL {xs : List V} {ds : List PyData} (np : H r = none) (hf : There S H) (h : DxA K (hide S H) xs ds) : Dx K (hide S (upd H r (.lst xs))) (.ref r) (.list ds) :=
  .lst (.inl (.inl (hide_new np hf))) ((Gr.new np).hkx.dxA h)
theorem dx_newE (np : H r = none) (hf : There S H) : Dx K (hide S (upd H r (.dK []))) (.ref r) (.dict []) := .emp (hide_new np hf)
theorem There.gr (h : There S H) (g : Gr H H') : There S H' := fun f m z => h f m (g.back f z)
theorem There.upd (h : There S H) : There S (upd H r o) := fun f m z => by
  by_cases c : f = r
  · rw [c, upd_same] at z
    cases z
  · rw [upd_ne c] at z
    exact h f m z
theorem There.cons (h : There S H) (hf : H f ≠ none) : There (f :: S) H := fun b m => by
  rcases List.mem_cons.mp m with rfl | m
  · exact hf
  · exact h b m
theorem There.tail (h : There (f :: S) H) : There S H := fun b m => h b (List.mem_cons_of_mem _ m)
theorem There.nil : There [] H := fun b m => by cases m
end
/-! ### t + u, t[:n], t[n:]: whatever tuple comes -/
def rCatX (K : PySem.W.Frag) : R2 := fun x y H Q => ∃ (S : List Addr) (ds es : List PyData), Dx K (hide S H) x (.tuple ds) ∧ Dx K (hide S H) y (.tuple es) ∧ There S H ∧ ds.length + es.length ≤ sizeLine ∧
  ∀ v H', Gr H H' → Dx K (hide S H') v (.tuple (ds ++ es)) → Q v H'
section
variable {X : Cx}
theorem op_catX : OpR X (binaryOp .Add) (rCatX X.K) := by
  intro pins s σ H x y v u Q I rx ry h
  obtain ⟨f, ds, es, hx, hy, hf, hl, q⟩ := h
  obtain ⟨a, xs, rfl, ha, hxs⟩ := dx_tup hx
  obtain ⟨b, ys, rfl, hb, hys⟩ := dx_tup hy
  have l1 := dxA_len hxs
  have l2 := dxA_len hys
  refine op_catA pins s σ H _ _ v u Q I rx ry ⟨a, b, xs, ys, rfl, rfl, hide_kx.kd.t ha, hide_kx.kd.t hb, by omega, ?_, ?_, ?_⟩
  · rintro rfl
    have e : ds = [] := List.length_eq_zero_iff.mp (by rw [← l1]; rfl)
    subst e
    exact q _ H (Gr.refl H) hy
  · rintro _ rfl
    have e : es = [] := List.length_eq_zero_iff.mp (by rw [← l2]; rfl)
    subst e
    refine q _ H (Gr.refl H) ?_
    rw [List.append_nil]
    exact hx
  · intro _ _ r nr
    exact q _ _ (Gr.new nr) (dx_newT nr hf (dxA_app hxs hys))
/-- [lo:hi], both within it -/
def cutD (ds : List PyData) (lo hi : Option Int) : List PyData := (ds.drop (HT.sIx ds.length 0 lo)).take (HT.sIx ds.length ds.length hi - HT.sIx ds.length 0 lo)
theorem cut_to (ds : List PyData) {n : Nat} (h : n ≤ ds.length) : cutD ds none (some (n : Int)) = ds.take n := by
  unfold cutD
  rw [HT.sIx_none, HT.sIx_nat, Nat.min_eq_left h, List.drop_zero, Nat.sub_zero]
theorem cut_from (ds : List PyData) {n : Nat} (h : n ≤ ds.length) : cutD ds (some (n : Int)) none = ds.drop n := by
  unfold cutD
  rw [HT.sIx_none, HT.sIx_nat, Nat.min_eq_left h]
  refine List.take_of_length_le ?_
  rw [List.length_drop]
  exact Nat.le_refl _
def rSlX (K : PySem.W.Frag) : V → Option Int → Option Int → Hp → VK → Prop := fun x lo hi H Q => ∃ (S : List Addr) (ds : List PyData), Dx K (hide S H) x (.tuple ds) ∧ There S H ∧
  ∀ v H', Gr H H' → Dx K (hide S H') v (.tuple (cutD ds lo hi)) → Q v H'
theorem sl_tupX : SlR X (rSlX X.K) := by
  intro pins s σ H x v vl vu lo hi sl Q I rx hs pl pu h
  obtain ⟨f, ds, hx, hf, q⟩ := h
  obtain ⟨a, xs, rfl, ha, hxs⟩ := dx_tup hx
  have l1 := dxA_len hxs
  refine sl_tupA pins s σ H _ v vl vu lo hi sl Q I rx hs pl pu ⟨a, xs, rfl, hide_kx.kd.t ha, ?_, ?_⟩
  · intro hw
    refine q _ H (Gr.refl H) ?_
    rw [l1] at hw
    have e : cutD ds lo hi = ds := by
      unfold cutD
      rw [hw.1, hw.2, List.drop_zero, Nat.sub_zero, List.take_length]
    rw [e]
    exact hx
  · intro _ r nr
    refine q _ _ (Gr.new nr) (dx_newT nr hf ?_)
    unfold cutV cutD
    rw [l1]
    exact dxA_take _ (dxA_drop _ hxs)
end
end SfG
/-! t[::-1], t * n of tuples -/
namespace SfG
open PySem PySem.Spec PyProof.Rows L2
section
variable {prog : Program} {w : World} {A : Around} {E : Value → Shared → Prop} {s : Shared}
theorem adjust_rev (n : Nat) : Builtin.Slice.sliceAdjust none none (-1) (n : Int) = ((n : Int) - 1, -1) := by
  unfold Builtin.Slice.sliceAdjust
  have h1 : ((-1 : Int) < 0) := by omega
  simp only [h1, if_true]
theorem places_rev (n : Nat) : Builtin.Slice.slicePlaces ((n : Int) - 1) (-1) (-1) = n := by
  unfold Builtin.Slice.slicePlaces
  have h1 : ¬ ((-1 : Int) > 0) := by omega
  simp only [h1, if_false]
  have e1 : (- -1 : Int) = 1 := by decide
  rw [e1, Int.ediv_one]
  split <;> omega
theorem fm_congr {α β : Type} {f g : α → Option β} : ∀ {l : List α}, (∀ x ∈ l, f x = g x) → l.filterMap f = l.filterMap g
  | [], _ => rfl
  | a :: r, h => by
    rw [List.filterMap_cons, List.filterMap_cons, h a List.mem_cons_self, fm_congr fun x hx => h x (List.mem_cons_of_mem _ hx)]
theorem applied_rev {sl : Addr} {vl vu vs : Value} {n : Nat} {Q : Int × Int × Nat → Shared → Prop} (hs : s.heap.IsSliceOf sl vl vu vs) (pl : IsPart vl none) (pu : IsPart vu none) (pk : IsPart vs (some (-1)))
    (h : Q ((n : Int) - 1, -1, n) s) : wpAny (model prog w) A (Builtin.Slice.sliceApplied (.ref sl) (pure (n : Int))) Q E s := by
  obtain ⟨os, hos, hcs, hds⟩ := id hs
  unfold Builtin.Slice.sliceApplied Builtin.Slice.sliceFields
  refine wpAny_bind (wpAny_bind (wpAny_field hos hds (x := vl) rfl (wpAny_bind (wpAny_field hos hds (x := vu) rfl (wpAny_bind (wpAny_field hos hds (x := vs) rfl (wpAny_pure ?_)))))))
  refine wpAny_bind (HT.slicePart_ pk ?_)
  show wpAny _ _ (if ((-1 : Int) == 0) = true then _ else _) _ _ s
  rw [if_neg (by decide)]
  refine wpAny_bind (HT.slicePart_ pl (wpAny_bind (HT.slicePart_ pu (wpAny_bind (wpAny_pure ?_)))))
  show wpAny _ _ (match Builtin.Slice.sliceAdjust none none (-1) (n : Int) with | (lo, hi) => pure (lo, (-1 : Int), Builtin.Slice.slicePlaces lo hi (-1))) _ _ s
  rw [adjust_rev n]
  show wpAny _ _ (pure ((n : Int) - 1, (-1 : Int), Builtin.Slice.slicePlaces ((n : Int) - 1) (-1) (-1))) _ _ s
  rw [places_rev]
  exact wpAny_pure h
theorem pick_rev (xs : Array Value) : ((List.range xs.size).filterMap fun (m : Nat) => xs[(((xs.size : Int) - 1) + (m : Int) * (-1)).toNat]?).toArray = xs.toList.reverse.toArray := by
  have e : ∀ m ∈ List.range xs.size, (xs[(((xs.size : Int) - 1) + (m : Int) * (-1)).toNat]?) = xs[xs.size - 1 - m]? := by
    intro m hm
    have hm' := List.mem_range.mp hm
    have : (((xs.size : Int) - 1) + (m : Int) * (-1)).toNat = xs.size - 1 - m := by omega
    rw [this]
  rw [fm_congr e]
  have := PySem.W.krv_pick xs
  have e2 : (List.range xs.size).filterMap (fun m => xs[xs.size - 1 - m]?) = xs.toList.reverse := by
    have h1 : (List.range xs.size).filterMap (fun m => xs[xs.size - 1 - m]?) = ((List.range xs.size).map (fun k => xs.size - 1 - k)).filterMap (xs[·]?) := by
      rw [List.filterMap_map]
      rfl
    rw [h1, PySem.W.krv_range, List.filterMap_reverse, PySem.W.krv_all]
  rw [e2]
theorem getItem_tuple_rev {t sl : Addr} {items : Array Value} {vl vu vs : Value} {Q : Value → Shared → Prop} (ht : IsTup s.heap t items) (hs : s.heap.IsSliceOf sl vl vu vs) (pl : IsPart vl none) (pu : IsPart vu none) (pk : IsPart vs (some (-1)))
    (h : Q (.ref s.heap.objs.size) { s with heap := s.heap.push { cls := .type "tuple", data := .seq items.toList.reverse.toArray } })
    (hsz : items.size ≤ sizeLine) : wpAny (model prog w) A (getItem (.ref t) (.ref sl)) Q E s := by
  have htake : sizeOk (.seq items.toList.reverse.toArray) := by
    show items.toList.reverse.toArray.size ≤ sizeLine
    rw [List.size_toArray, List.length_reverse, Array.length_toList]
    exact hsz
  obtain ⟨os, hos, hcs, hds⟩ := id hs
  have hTs : s.TypeIs (.ref sl) "slice" := ⟨os, hos, hcs⟩
  unfold getItem
  try with_reducible refine wpAny_holding ?_
  first | refine wpAny_bind (wpAny_pure ?_) | skip
  refine wpAny_bind (wpAny_sequenceKey ht.typeIs (by decide) ?_)
  refine wpAny_bind (wpAny_callSpecial?_slot (name := Str.ofString "__getitem__") ht.typeIs PyProof.Rows.slot_tuple_getitem
    (wpAny_call_entry PyProof.Rows.slot_tuple_getitem ht.typeIs entry_tuple_getitem ?_ (args_tuple_getitem _ _)))
  show wpAny _ _ (Builtin.Tuple.tupleItemsOf (.ref t) >>= _) _ _ s
  refine wpAny_bind (tupleItemsOf_ ht ?_)
  refine wpAny_bind (wpAny_typeOf hTs ?_)
  rw [if_pos (by decide)]
  refine wpAny_bind (applied_rev hs pl pu pk ?_)
  have hno : ¬ ((((items.size : Int) - 1) == 0 && (-1 : Int) == 1 && items.size == items.size) = true) := by simp
  show wpAny _ _ (if (((items.size : Int) - 1) == 0 && (-1 : Int) == 1 && items.size == items.size) = true then _ else _) _ _ s
  rw [if_neg hno, pick_rev]
  first
    | exact wpAny_bind (m := Builtin.Tuple.tupleExact _) (wpAny_newObj_type (wpAny_pure ⟨_, rfl, wpAny_pure h⟩) htake)
    | exact wpAny_bind (m := Builtin.Tuple.tupleExact _) (wpAny_newObj_type (wpAny_bind (wpAny_pure (wpAny_pure ⟨_, rfl, wpAny_pure h⟩))) htake)
    | exact wpAny_bind (wpAny_bind (m := Builtin.Tuple.tupleExact _) (wpAny_newObj_type (wpAny_pure (wpAny_pure ⟨_, rfl, wpAny_pure h⟩)) htake))
    | exact wpAny_bind (wpAny_bind (m := Builtin.Tuple.tupleExact _) (wpAny_newObj_type (wpAny_pure ⟨_, rfl, wpAny_pure h⟩) htake))
end
section
variable {X : Cx}
/-- t[::-1] -/
def tRevT (K : PySem.W.Frag) (te : TE) : TE := fun σ H Q => te σ H fun x H1 => ∃ a xs, x = .ref a ∧ SqT K H1 a xs ∧ ∀ p, H1 p = none → Q (.ref p) (upd H1 p (.tup xs.reverse))
theorem pe_revT {e : Expr} {te : TE} {k : Nat} {p1 p2 p3 pos : Pos} (he : PE X e te) : PE X (.Subscript e (.Slice none none (some (.UnaryOp .USub (.Constant (.int 1) k p1) p2)) p3) pos) (tRevT X.K te) := by
  refine ⟨fun pins s σ H Q I h => ?_⟩
  refine Subscript_ (thn (he.run pins s σ H _ I h) fun v s1 ⟨x, H1, I1, r1, q1⟩ => ?_)
  obtain ⟨a, xs, ex, hx, q⟩ := q1
  subst ex
  cases r1
  have hst : PO X (some (.UnaryOp .USub (.Constant (.int 1) k p1) p2)) (tPart (tUn (rU fun i => .int (-i)) (tC (.int 1)))) := po_some (pe_un un_neg pe_int)
  refine wpAny_Slice (thn (po_none.run pins s1 σ H1 (fun o H2 => o = none ∧ H2 = H1) I1 ⟨rfl, rfl⟩) fun vl s2 ⟨l, H2, I2, pl, el, e2⟩ => ?_)
  subst el e2
  refine thn (po_none.run pins s2 σ H2 (fun o H3 => o = none ∧ H3 = H2) I2 ⟨rfl, rfl⟩) fun vu s3 ⟨u, H3, I3, pu, eu, e3⟩ => ?_
  subst eu e3
  refine thn (hst.run pins s3 σ H3 (fun o H4 => o = some (-1) ∧ H4 = H3) I3 ⟨1, rfl, -1, rfl, rfl, rfl⟩) fun vs s4 ⟨o, H4, I4, ps, eo, e4⟩ => ?_
  subst eo e4
  have I5 : Inv X pins σ H4 { s4 with heap := s4.heap.push { cls := .type "slice", data := .fields #[vl, vu, vs] } } := I4.kept (t' := s4.toks) fun b ob q => Heap.get?_push_of_some _ q
  obtain ⟨its, r, ht, hz⟩ := I5.tuple hx
  have hlen := r.length
  show wpAny (model X.prog X.w) X.A (subscriptTail e (.Slice none none (some (.UnaryOp .USub (.Constant (.int 1) k p1) p2)) p3) (.ref a) (.ref s4.heap.objs.size)) (EP X pins σ Q) X.xe { s4 with heap := s4.heap.push { cls := .type "slice", data := .fields #[vl, vu, vs] } }
  refine tail_any (ops := [.ref a, .ref s4.heap.objs.size]) ht.typeIs (PyProof.Rows.slot_tuple_getitem.lookup) ?_ (by with_unfolding_all rfl)
  refine getItem_tuple_rev ht (Heap.IsSliceOf.new _ vl vu vs) pl pu ps ?_ (by rw [List.size_toArray]; omega)
  refine ⟨.ref _, _, I5.laid (t' := s4.toks) (o := .tup xs.reverse) (fun b ob q => Heap.get?_push_of_some _ q) (Nat.le_refl _) ?_, rfl, q _ (I5.hok.fresh (Nat.le_refl _))⟩
  exact ⟨by rw [List.length_reverse]; exact hz, _, r.reverse, IsTup.new _ _⟩
end
end SfG
namespace SfG
open PySem PySem.Spec PyProof.Rows L2
/-! ### the same of data, whatever tuple comes -/
section
variable {K : PySem.W.Frag} {H : Hp} {r : Addr}
theorem new_T {xs : List V} {ds : List PyData} (np : H r = none) (h : DxA K H xs ds) : Dx K (upd H r (.tup xs)) (.ref r) (.tuple ds) := .tup (.inl (.inl upd_same)) ((Gr.new np).kx.dxA h)
theorem new_L {xs : List V} {ds : List PyData} (np : H r = none) (h : DxA K H xs ds) : Dx K (upd H r (.lst xs)) (.ref r) (.list ds) := .lst (.inl (.inl upd_same)) ((Gr.new np).kx.dxA h)
theorem new_E (np : H r = none) : Dx K (upd H r (.dK [])) (.ref r) (.dict []) := .emp upd_same
end
def rCat0 (K : PySem.W.Frag) : R2 := fun x y H Q => ∃ (ds es : List PyData), Dx K H x (.tuple ds) ∧ Dx K H y (.tuple es) ∧ ds.length + es.length ≤ sizeLine ∧ ∀ v H', Gr H H' → Dx K H' v (.tuple (ds ++ es)) → Q v H'
def rSl0 (K : PySem.W.Frag) : V → Option Int → Option Int → Hp → VK → Prop := fun x lo hi H Q => ∃ (ds : List PyData), Dx K H x (.tuple ds) ∧ ∀ v H', Gr H H' → Dx K H' v (.tuple (cutD ds lo hi)) → Q v H'
def rRep0 (K : PySem.W.Frag) : R2 := fun x y H Q => ∃ (ds : List PyData) (n : Nat), Dx K H x (.tuple ds) ∧ y = .int (n : Int) ∧ ds ≠ [] ∧ 2 ≤ n ∧ n ≤ 1000 ∧ ds.length ≤ 1000 ∧ ∀ v H', Gr H H' → Dx K H' v (.tuple (List.replicate n ds).flatten) → Q v H'
theorem dxA_rep {K : PySem.W.Frag} {H : Hp} {xs : List V} {ds : List PyData} (h : DxA K H xs ds) : ∀ n : Nat, DxA K H (List.replicate n xs).flatten (List.replicate n ds).flatten
  | 0 => .nil
  | n + 1 => by
    rw [List.replicate_succ, List.replicate_succ, List.flatten_cons, List.flatten_cons]
    exact dxA_app h (dxA_rep h n)
section
variable {X : Cx}
theorem op_cat0 : OpR X (binaryOp .Add) (rCat0 X.K) := by
  intro pins s σ H x y v u Q I rx ry h
  obtain ⟨ds, es, hx, hy, hl, q⟩ := h
  refine op_catX pins s σ H x y v u Q I rx ry ⟨[], ds, es, ?_, ?_, There.nil, hl, fun v' H' g h' => ?_⟩
  · rw [hide_nil]
    exact hx
  · rw [hide_nil]
    exact hy
  · rw [hide_nil] at h'
    exact q v' H' g h'
theorem sl_tup0 : SlR X (rSl0 X.K) := by
  intro pins s σ H x v vl vu lo hi sl Q I rx hs pl pu h
  obtain ⟨ds, hx, q⟩ := h
  refine sl_tupX pins s σ H x v vl vu lo hi sl Q I rx hs pl pu ⟨[], ds, ?_, There.nil, fun v' H' g h' => ?_⟩
  · rw [hide_nil]
    exact hx
  · rw [hide_nil] at h'
    exact q v' H' g h'
theorem op_rep0 : OpR X (binaryOp .Mult) (rRep0 X.K) := by
  intro pins s σ H x y v u Q I rx ry h
  obtain ⟨ds, n, hx, rfl, hne, h2, h3, hl, q⟩ := h
  obtain ⟨a, xs, rfl, ha, hxs⟩ := dx_tup hx
  have l1 := dxA_len hxs
  refine op_repT pins s σ H _ _ v u Q I rx ry ⟨a, n, xs, rfl, rfl, ha, ?_, by omega, by omega, by omega, fun p np => ?_⟩
  · rintro rfl
    exact hne (List.length_eq_zero_iff.mp (by rw [← l1]; rfl))
  · rw [Int.toNat_natCast]
    exact q _ _ (Gr.new np) (new_T np (dxA_rep hxs n))
end
end SfG
namespace SfC
open PySem PySem.Spec PyProof.Rows L2 SfG
def topS (i : Nat) : Stmt := PySem.Challenge.pw_sameface_k06_refusals_by_hand.main.body.getD i (.Pass ⟨0, 0, 0, 0⟩)
abbrev sShown : Stmt := topS 2
abbrev sName : Stmt := topS 20
abbrev sKind : Stmt := topS 27
abbrev sBadD : Stmt := topS 28
abbrev sBadH : Stmt := topS 30
abbrev sFault : Stmt := topS 31
abbrev sNeed : Stmt := topS 32
abbrev sFind : Stmt := topS 33
abbrev sDeedN : Stmt := topS 34
abbrev sGives : Stmt := topS 35
abbrev sMixed : Stmt := topS 49
abbrev sKinds : Stmt := topS 50
abbrev sDraw : Stmt := topS 51
abbrev sDigit : Stmt := topS 52
abbrev sTold : Stmt := topS 54
abbrev sLaw : Stmt := topS 55
abbrev sNextN : Stmt := topS 21
abbrev sFigs : Stmt := topS 22
abbrev sNum : Stmt := topS 23
abbrev sWords : Stmt := topS 24
abbrev sAreT : Stmt := topS 29
abbrev sRowsOf : Stmt := topS 37
abbrev sRowAt : Stmt := topS 38
abbrev sNoMore : Stmt := topS 39
abbrev sReadH : Stmt := topS 42
abbrev sKindBy : Stmt := topS 43
abbrev sReadT : Stmt := topS 44
abbrev sReadD : Stmt := topS 45
abbrev sReadFB : Stmt := topS 46
abbrev sReadF : Stmt := topS 47
abbrev sBadRow : Stmt := topS 4
abbrev sBadFace : Stmt := topS 5
abbrev sBadMaking : Stmt := topS 6
abbrev sBadUser : Stmt := topS 7
abbrev sBadSteps : Stmt := topS 8
abbrev sBadLead : Stmt := topS 9
abbrev sBadProgram : Stmt := topS 10
abbrev sBadModule : Stmt := topS 11
abbrev sBadUse : Stmt := topS 12
abbrev sBadInput : Stmt := topS 13
abbrev sToldApart : Stmt := topS 14
abbrev sBadPaper : Stmt := topS 15
abbrev sRow : Stmt := topS 40
abbrev sByHand : Stmt := topS 53
end SfC
namespace SfC
open PySem PySem.Spec PyProof.Rows L2 SfG
/-! ### shown -/
/-- what a refusal's field may be -/
def Shn (v : V) : Prop := v = .non ∨ (∃ i, v = .int i) ∨ ∃ z : Str, v = .str z ∧ z.length ≤ 1000
def rStrX : List V → Hp → VK → Prop := fun xs H Q => (∃ a, xs = [.str a] ∧ Q (.str a) H) ∨ ∃ i : Int, xs = [.int i] ∧ i.natAbs.log2 < 1920 ∧ Q (.str (toString i)) H
theorem call_strX {X : Cx} : CallR X (.type "str") rStrX := by
  intro pins s σ H xs us Q I r h
  rcases h with h | h
  · exact SkE.call_str_str pins s σ H xs us Q I r h
  · exact call_str_int pins s σ H xs us Q I r h
theorem boot_isi : bootBuiltins "isinstance" = some (.builtin "isinstance") := by decide +kernel
theorem scShown : FnScope ["field"] ["field"] (defScope sShown) := ⟨rfl, rfl, rfl, by decide +kernel, rfl, by decide +kernel, by decide +kernel⟩
section
variable {P : Program} {w : World} {K : PySem.W.Frag} {mg : Str → Option Value} {base : Heap}
def spShown : Sp := fun vs H Q _ => ∃ x : V, vs = [x] ∧ Shn x ∧ ∀ (S : Str) H', Gr H H' → S.length ≤ 1100 → Q (.str S) H'
theorem ok_shown {f : Addr} {fd : FuncData} {k : Nat} (F : Fun K "shown" "shown" sShown f fd) (mi : mg "isinstance" = none) (mn : mg "int" = none) (ms : mg "str" = none) :
    FnOk P w K mg base CX0 (k + 1) f fd ["field"] spShown := by
  refine F.ok scShown (fun vs H Q E h => ?_) (fun cdv A outer s H vs Q E hr h => ?_)
  · obtain ⟨x, rfl, _⟩ := h
    rfl
  · obtain ⟨x, rfl, hx, q⟩ := h
    have nd := scShown.nd
    refine' ⟨_, pss_cons ?s1 (pss_cons ?s2 (pss_one ?s3)), ?rd⟩
    case s1 =>
      exact ps_if (PW.pt (pw_and (pt_val (pe_isi "int" 0 mi mn (by decide +kernel))) (pw_and1 (pt_not (pt_chain op_lt op_lt (pe_un un_neg pe_int) (pv 0) pe_int))))) (pss_one (ps_ret pe_str)) pss_nil
    case s2 =>
      exact ps_if (pt_val (pe_callB call_isiT (by rfl) mi boot_isi (pa_cons (pv 0) (pa_cons (pe_tup (pa_cons (pe_bltn (v := .ty "int") (by rfl) mn (by decide +kernel) rfl) (pa_cons (pe_bltn (v := .ty "str") (by rfl) ms (by decide +kernel) rfl) pa_nil))) pa_nil))))
        (pss_one (ps_ret (pe_callTy call_strX (by rfl) ms (by decide +kernel) (pa_cons (pv 0) pa_nil)))) pss_nil
    case s3 => exact ps_ret (pe_ifExp (pt_cmpR op_isN (pv 0) pe_non (nomark _)) pe_str pe_str)
    case rd =>
    have two : ∀ t, H t = none → upd H t (.tup [.ty "int", .ty "str"]) t = some (.tup [.ty "int", .ty "str"]) := fun t _ => upd_same
    rcases hx with rfl | ⟨i, rfl⟩ | ⟨z, rfl, hz⟩
    · refine ⟨.non, rfl, _, _, (is_non (K := K) (H := H)).1, kit_int _ (is_non (K := K) (H := H)).2, _, rfl, iteF ?_⟩
      refine ⟨_, rfl, by show 2 ≤ sizeLine; decide, fun t nt => ⟨.non, t, _, .type "NoneType", [.type "int", .type "str"], false, rfl, two t nt, .cons (.ty _) (.cons (.ty _) .nil), is_non.1, kitAny_cons (kit_ty (b := "int") (r := false) (by decide +kernel)) (fun _ => kitAny_cons (kit_ty (b := "str") (r := false) (by decide +kernel)) (fun _ => kitAny_nil) (fun z => by cases z)) (fun z => by cases z), _, rfl, iteF ?_⟩⟩
      exact ⟨_, rfl, rfl, _, rfl, iteT (q _ _ (Gr.new nt) (by decide +kernel))⟩
    · refine ⟨.int i, rfl, _, _, (is_int i).1, kit_int _ (is_int (K := K) (H := H) i).2, _, rfl, iteT ?_⟩
      have go : (-1000 < i ∧ i < 1000) → ∀ t, H t = none → Q (.str (toString i)) (upd H t (.tup [.ty "int", .ty "str"])) := fun h t nt => by
        refine q _ _ (Gr.new nt) ?_
        have e := int_text_length_le (k := 12) (a := i) (by decide) (by
          by_cases c : i.natAbs = 0
          · rw [c]
            decide
          · refine (Nat.log2_lt c).mpr ?_
            have : (2 : Nat) ^ 12 = 4096 := by decide
            omega)
        show (Str.ofString (toString i)).length ≤ 1100
        rw [PySem.ofString_length]
        omega
      have lg : (-1000 < i ∧ i < 1000) → i.natAbs.log2 < 1920 := fun h => by
        by_cases c : i.natAbs = 0
        · rw [c]
          decide
        · refine Nat.lt_of_lt_of_le ((Nat.log2_lt (k := 10) c).mpr ?_) (by decide)
          have : (2 : Nat) ^ 10 = 1024 := by decide
          omega
      refine ⟨1000, rfl, _, rfl, -1000, i, rfl, rfl, _, rfl, ite2 (fun e1 => ?_) (fun e1 => ?_)⟩
      · refine ⟨i, 1000, rfl, rfl, _, rfl, ?_⟩
        by_cases c2 : i < 1000
        · have hh : -1000 < i ∧ i < 1000 := ⟨of_decide_eq_true e1, c2⟩
          rw [decide_eq_true c2]
          refine iteF ⟨_, rfl, by show 2 ≤ sizeLine; decide, fun t nt => ⟨.int i, t, _, .type "int", [.type "int", .type "str"], true, rfl, two t nt, .cons (.ty _) (.cons (.ty _) .nil), (is_int i).1, kitAny_cons (kit_ty (b := "int") (r := true) (by decide +kernel)) (fun z => by cases z) (fun _ => rfl), _, rfl, iteT ?_⟩⟩
          exact ⟨_, rfl, .inr ⟨i, rfl, lg hh, go hh t nt⟩⟩
        · rw [decide_eq_false c2]
          exact iteT (q _ H (Gr.refl H) (by decide +kernel))
      · exact ⟨_, rfl, iteT (q _ H (Gr.refl H) (by decide +kernel))⟩
    · refine ⟨.str z, rfl, _, _, (is_str z).1, kit_int _ (is_str (K := K) (H := H) z).2, _, rfl, iteF ?_⟩
      refine ⟨_, rfl, by show 2 ≤ sizeLine; decide, fun t nt => ⟨.str z, t, _, .type "str", [.type "int", .type "str"], true, rfl, two t nt, .cons (.ty _) (.cons (.ty _) .nil), (is_str z).1, kitAny_cons (kit_ty (b := "int") (r := false) (by decide +kernel)) (fun _ => kitAny_cons (kit_ty (b := "str") (r := true) (by decide +kernel)) (fun z => by cases z) (fun _ => rfl)) (fun z => by cases z), _, rfl, iteT ?_⟩⟩
      exact ⟨_, rfl, .inl ⟨z, rfl, q _ _ (Gr.new nt) (by omega)⟩⟩
end
end SfC
namespace SfC
open PySem PySem.Spec PyProof.Rows L2 SfG
/-! ### refusals of two fields -/
def spIni (C : Addr) (f1 f2 : Str) : Sp := fun vs H Q _ => ∃ (a : Addr) (x y : V), vs = [.ref a, x, y] ∧ H a = some (exo a C none) ∧ Shn x ∧ Shn y ∧
  ∀ H1 dx, Gr H H1 → H1 dx = none → dx ≠ a → Q .non (upd (upd (upd H1 dx (exd dx [(f1, x)])) a (exo a C (some dx))) dx (exd dx [(f2, y), (f1, x)]))
/-- a class of refusals of two fields: where it stands, how it is made, what its fields are -/
structure Bad2 (P : Program) (w : World) (K : PySem.W.Frag) (mg : Str → Option Value) (base : Heap) (k : Nat) (x f1 f2 : Str) (C fI : Addr) (fd : FuncData) : Prop where
  T : OexC K C
  i : PySem.W.findIn K (.ref C) "__init__" = some (some (.ref fI))
  t : PySem.W.typeIn K (.ref fI) = some (.type "function")
  F : FnOk P w K mg base CX0 k fI fd ["self", f1, f2] (spIni C f1 f2)
  b : Binds K fd ["self", f1, f2] []
  g : mg x = some (.ref C)
theorem gr_made {H H1 : Hp} {a dx : Addr} {o o1 o2 o3 o4 : HO} (na : H a = none) (g : Gr (upd H a o) H1) (nd : H1 dx = none) (ne : dx ≠ a) (nt : ∀ ps, o ≠ .tbl ps) :
    Gr H (upd (del (upd (upd (upd H1 dx o1) a o2) dx o3) a) dx o4) := by
  have back : ∀ l, H1 l = none → H l = none := fun l h => by
    have := g.back l h
    by_cases e : l = a
    · rw [e]
      exact na
    · rw [upd_ne e] at this
      exact this
  have keep : ∀ b u, H b = some u → b ≠ a ∧ b ≠ dx := fun b u h => by
    refine ⟨ne_of_none h na, ?_⟩
    intro z
    have := back dx nd
    rw [← z, h] at this
    cases this
  have at_ : ∀ b, b ≠ a → b ≠ dx → upd (del (upd (upd (upd H1 dx o1) a o2) dx o3) a) dx o4 b = H1 b := fun b h1 h2 => by
    rw [upd_ne h2, del_ne h1, upd_ne h2, upd_ne h1, upd_ne h2]
  refine ⟨fun b u h n => ?_, fun P t => ?_, fun l h => ?_⟩
  · obtain ⟨h1, h2⟩ := keep b u h
    rw [at_ b h1 h2]
    exact g.keep b u ((upd_ne h1).trans h) n
  · obtain ⟨ps, e, r⟩ := t
    obtain ⟨h1, h2⟩ := keep P _ e
    obtain ⟨ps', e', r'⟩ := g.tab P ⟨ps, (upd_ne h1).trans e, r⟩
    exact ⟨ps', (at_ P h1 h2).trans e', r'⟩
  · by_cases e1 : l = dx
    · rw [e1, upd_same] at h
      cases h
    · by_cases e2 : l = a
      · rw [e2]
        exact na
      · rw [at_ l e2 e1] at h
        exact back l h
/-- such a refusal, made -/
theorem made2 {C : Addr} {f1 f2 : Str} {x y : V} {H : Hp} {Q : XK} (hx : Shn x) (hy : Shn y) (q : ∀ d H', Gr H H' → H' d = some (.xd [(f2, y), (f1, x)]) → Q (.ref C) (some d) H') :
    ([x, y] : List V).length ≤ 1000 ∧ ∀ a, H a = none → spIni C f1 f2 (.ref a :: ([x, y] ++ [])) (upd H a (exo a C none))
      (fun v H2 => v = .non ∧ ∃ (d : Addr) (fs : List (Str × V)), H2 a = some (exo a C (some d)) ∧ H2 d = some (exd d fs) ∧ H d = none ∧ Q (.ref C) (some d) (upd (del H2 a) d (.xd fs))) (fun _ _ _ => False) := by
  refine ⟨by show 2 ≤ 1000; decide, fun a na => ⟨a, x, y, rfl, upd_same, hx, hy, fun H1 dx g nd ne => ⟨rfl, dx, _, ?_, upd_same, ?_, q dx _ (gr_made na g nd ne fun _ => exo_tbl) upd_same⟩⟩⟩
  · rw [upd_ne (Ne.symm ne), upd_same]
  · have := g.back dx nd
    rw [upd_ne ne] at this
    exact this
theorem app_len (a b : Str) : (a ++ b).length = a.length + b.length := by
  show (a.cps ++ b.cps).size = _
  exact Array.size_append
abbrev sFaceIni : Stmt := inClass sBadFace 0
theorem scFaceIni : SupScope ["self", "part", "number"] ["self", "part", "number"] (defScope sFaceIni) :=
  ⟨rfl, rfl, rfl, by decide +kernel, rfl, by decide +kernel, by decide +kernel, by decide +kernel, rfl, rfl⟩
section
variable {P : Program} {w : World} {K : PySem.W.Frag} {mg : Str → Option Value} {base : Heap}
/-- __init__ of BadFace -/
theorem ok_faceIni {f C cc cda fS : Addr} {fdS : FuncData} {k : Nat} {oc kV doc pm ct : Value} {od an : Option Addr} {osl : Array (Option Value)}
    (lk : K.lookup f = some ⟨oc, od, .func (PySem.W.ksFn "__init__" "BadFace.__init__" (defArgs sFaceIni) (defBody sFaceIni) (defScope sFaceIni) .none kV doc pm an (.ref cda) ct cc), osl⟩)
    (hcd : PySem.W.codeIn K (.ref cda) "BadFace.__init__" = true) (U : SupC P K mg C cc cda) (HS : Has P w K mg base (k + 1) "shown" ["field"] spShown fS fdS)
    (n1 : PySem.W.findIn K (.ref C) "part" = some none) (n2 : PySem.W.findIn K (.ref C) "number" = some none) :
    FnOk P w K mg base CX0 (k + 2) f (PySem.W.ksFn "__init__" "BadFace.__init__" (defArgs sFaceIni) (defBody sFaceIni) (defScope sFaceIni) .none kV doc pm an (.ref cda) ct cc) ["self", "part", "number"] (spIni C "part" "number") := by
  refine fn_super lk hcd scFaceIni U rfl rfl (fun vs H Q E h => ?_) (fun A outer s H vs Q E hr h => ?_) (fun _ => rfl) (fun _ => ⟨_, rfl⟩) (fun _ => rfl)
  · obtain ⟨a, x, y, rfl, _⟩ := h
    rfl
  · obtain ⟨a, x, y, rfl, ha, hx, hy, q⟩ := h
    refine ⟨a, [x, y], _, _, rfl, ha, pe_joined (.cons pe_str (.cons (pe_fmt (hcall HS hr (pa_cons (pv 1) pa_nil))) (.cons pe_str (.cons (pe_fmt (hcall HS hr (pa_cons (pv 2) pa_nil))) .nil)))), pss_cons (ps_ost (pv 0) (pv 1)) (pss_one (ps_ost (pv 0) (pv 2))), ?_⟩
    have e9 : (("no face: " : Str)).length = 9 := by decide +kernel
    have e2 : ((", " : Str)).length = 2 := by decide +kernel
    have ez : (Str.empty : Str).length = 0 := rfl
    refine ⟨_, rfl, ?_, _, rfl, x, rfl, hx, fun S1 H1 g1 l1 => .inl ⟨S1, rfl, by rw [sizeLine_eq]; omega, _, rfl, ?_, _, rfl, ?_, _, rfl, y, rfl, hy, fun S2 H2 g2 l2 => .inl ⟨S2, rfl, by rw [sizeLine_eq]; omega, _, rfl, ?_, ?_⟩⟩⟩
    · rw [app_len, ez, e9, sizeLine_eq]
      decide
    · rw [app_len, app_len, ez, e9, sizeLine_eq]
      omega
    · rw [app_len, app_len, app_len, ez, e9, e2, sizeLine_eq]
      omega
    · rw [app_len, app_len, app_len, app_len, ez, e9, e2, sizeLine_eq]
      omega
    · have g := g1.trans g2
      have ha2 : H2 a = some (exo a C none) := g.keep _ _ ha fun _ => exo_tbl
      refine ⟨ha2, ?_⟩
      refine ⟨_, rfl, _, rfl, a, C, rfl, U.T, n1, .inl ⟨ha2, fun dx nd ne => ?_⟩⟩
      refine ⟨_, rfl, _, rfl, a, C, rfl, U.T, n2, .inr ⟨dx, [("part", x)], upd_same, ?_, by show 1 ≤ 900; decide, q H2 dx g nd ne⟩⟩
      rw [upd_ne ne, upd_same]
end
end SfC
namespace SfC
open PySem PySem.Spec PyProof.Rows L2 SfG
/-! ### names -/
abbrev letters : Str := "abcdefghijklmnopqrstuvwxyz"
def isLet (c : Nat) : Bool := decide (c ∈ letters.cps.toList)
/-- one to eight small letters -/
def isN (z : Str) : Bool := decide (z.length ≤ 8) && (decide (1 ≤ z.length) && z.cps.toList.all isLet)
theorem let_alpha : ∀ c, c < 128 → Unicode.isAlpha c = (isLet c || (Unicode.isUpper c || Unicode.isTitle c)) := by decide +kernel
theorem let_lower : ∀ c, c < 128 → Unicode.isLower c = isLet c := by decide +kernel
theorem let_upper : ∀ c, c < 128 → isLet c = true → (Unicode.isUpper c || Unicode.isTitle c) = false := by decide +kernel
theorem let_range {c : Nat} (h : isLet c = true) : c < 128 := by
  have h' : c ∈ letters.cps.toList := of_decide_eq_true h
  have e : ∀ d ∈ letters.cps.toList, d < 128 := by decide +kernel
  exact e c h'
theorem name_list : ∀ l : List Nat, (∀ c ∈ l, c < 128) → (l.all Unicode.isAlpha && !(l.any fun c => Unicode.isUpper c || Unicode.isTitle c)) = l.all isLet
  | [], _ => rfl
  | a :: r, h => by
    have ih := name_list r fun c hc => h c (.tail _ hc)
    have ha := h a (.head _)
    rw [List.all_cons, List.any_cons, List.all_cons, ← ih, let_alpha a ha]
    cases hl : isLet a with
    | true =>
      rw [let_upper a ha hl]
      simp
    | false =>
      cases (Unicode.isUpper a || Unicode.isTitle a) <;> simp
theorem name_txt (z : Str) : (Txt.isalpha z && (Txt.islower z && Txt.isascii z)) = (decide (1 ≤ z.length) && z.cps.toList.all isLet) := by
  have hl : z.length = z.cps.toList.length := by simp [Str.length]
  unfold Txt.isalpha Txt.islower Txt.isascii
  rw [← Array.all_toList, ← Array.any_toList, ← Array.any_toList, ← Array.all_toList, hl]
  generalize z.cps.toList = l
  by_cases hc : ∀ c ∈ l, c < 128
  · have h1 : (l.all fun x => decide (x < 128)) = true := List.all_eq_true.mpr fun c h => decide_eq_true (hc c h)
    have e := name_list l hc
    rw [h1, ← e]
    cases l with
    | nil => rfl
    | cons a r =>
      have h2 : (decide ((a :: r).length > 0)) = true := decide_eq_true (by simp)
      have h3 : (decide (1 ≤ (a :: r).length)) = true := decide_eq_true (by simp)
      rw [h2, h3]
      cases hA : (a :: r).all isLet with
      | true =>
        rw [hA] at e
        have hla : isLet a = true := by
          rw [List.all_cons] at hA
          exact (Bool.and_eq_true_iff.mp hA).1
        have hlow : (a :: r).any Unicode.isLower = true := by
          rw [List.any_cons, let_lower a (hc a (.head _)), hla]
          rfl
        rw [hlow]
        simp
      | false =>
        rw [hA] at e
        rw [e]
        cases h4 : (a :: r).all Unicode.isAlpha with
        | false => rfl
        | true =>
          rw [h4] at e
          cases h5 : (a :: r).any fun c => Unicode.isUpper c || Unicode.isTitle c with
          | true => simp
          | false =>
            rw [h5] at e
            cases e
  · have h1 : (l.all fun x => decide (x < 128)) = false := by
      cases h : (l.all fun x => decide (x < 128)) with
      | false => rfl
      | true => exact absurd (fun c hc' => of_decide_eq_true (List.all_eq_true.mp h c hc')) hc
    have h2 : l.all isLet = false := by
      cases h : l.all isLet with
      | false => rfl
      | true => exact absurd (fun c hc' => let_range (List.all_eq_true.mp h c hc')) hc
    rw [h1, h2]
    simp
theorem isN_txt {z : Str} (h : isN z = true) : z.length ≤ 8 ∧ 1 ≤ z.length ∧ Txt.isalpha z = true ∧ Txt.islower z = true ∧ Txt.isascii z = true ∧ z.cps.toList.all isLet = true := by
  unfold isN at h
  rw [← name_txt, Bool.and_eq_true, Bool.and_eq_true, Bool.and_eq_true, decide_eq_true_eq] at h
  have e := name_txt z
  rw [h.2.1, h.2.2.1, h.2.2.2] at e
  have e' := e.symm
  rw [Bool.and_true, Bool.and_true, Bool.and_eq_true, decide_eq_true_eq] at e'
  exact ⟨h.1, e'.1, h.2.1, h.2.2.1, h.2.2.2, e'.2⟩
theorem isN_small {z : Str} (h : isN z = true) : z.length ≤ sizeLine := by
  have h1 := (isN_txt h).1
  rw [sizeLine_eq]
  omega
/-! ### faces -/
abbrev lt (a b : Str) : Prop := a.cps.toList < b.cps.toList
inductive Kn where
  | h (s : Str)
  | p (n : Int)
def Kn.d : Kn → PyData
  | .h s => .str s
  | .p n => .int n
def Kn.v : Kn → V
  | .h s => .str s
  | .p n => .int n
def Kn.isH : Kn → Bool
  | .h _ => true
  | .p _ => false
structure De where
  nm : Str
  tk : List Kn
  gv : Kn
structure Fc where
  hd : List Str
  ds : List De
def De.d (e : De) : PyData := .tuple [.str e.nm, .tuple (e.tk.map Kn.d), e.gv.d]
def Fc.d (f : Fc) : PyData := .tuple [.tuple (f.hd.map .str), .tuple (f.ds.map De.d)]
def goK (hd : List Str) : Kn → Prop
  | .h s => s ∈ hd
  | .p n => 2 ≤ n ∧ n ≤ 9
def hidN (tk : List Kn) : Nat := (tk.filter Kn.isH).length
structure goD (hd : List Str) (e : De) : Prop where
  nm : isN e.nm = true
  len : e.tk.length ≤ 3
  tk : ∀ k ∈ e.tk, goK hd k
  two : hidN e.tk ≤ 2
  gv : goK hd e.gv
structure goH (hd : List Str) : Prop where
  lo : 1 ≤ hd.length
  hi : hd.length ≤ 2
  nm : ∀ z ∈ hd, isN z = true
  up : hd.Pairwise lt
structure goF (f : Fc) : Prop where
  hid : goH f.hd
  lo : 1 ≤ f.ds.length
  hi : f.ds.length ≤ 8
  up : (f.ds.map De.nm).Pairwise lt
  ok : ∀ e ∈ f.ds, goD f.hd e
/-- the name ahead of the i-th -/
def ahd (l : List Str) (i : Nat) : Str := if i = 0 then "" else l.getD (i - 1) ""
theorem ahd_lt {l : List Str} (up : l.Pairwise lt) (hn : ∀ z ∈ l, isN z = true) {i : Nat} {z : Str} (hz : l[i]? = some z) : lt (ahd l i) z := by
  unfold ahd
  by_cases h0 : i = 0
  · rw [if_pos h0]
    have h1 := (isN_txt (hn z (List.mem_of_getElem? hz))).2.1
    have hl : z.length = z.cps.toList.length := by simp [Str.length]
    show (([] : List Nat) < z.cps.toList)
    cases hc : z.cps.toList with
    | nil =>
      rw [hl, hc] at h1
      exact absurd h1 (by simp)
    | cons a r => exact List.nil_lt_cons a r
  · rw [if_neg h0]
    have hi : i < l.length := by
      rcases Nat.lt_or_ge i l.length with h | h
      · exact h
      · rw [List.getElem?_eq_none h] at hz
        cases hz
    have e1 : l.getD (i - 1) "" = l[i - 1] := by
      rw [List.getD_eq_getElem?_getD, List.getElem?_eq_getElem (by omega)]
      rfl
    have e2 : z = l[i] := by
      rw [List.getElem?_eq_getElem hi] at hz
      exact (Option.some.inj hz).symm
    rw [e1, e2]
    exact List.pairwise_iff_getElem.mp up (i - 1) i (by omega) hi (by omega)
theorem ahd_succ {l : List Str} {i : Nat} {z : Str} (hz : l[i]? = some z) : ahd l (i + 1) = z := by
  unfold ahd
  rw [if_neg (by omega), List.getD_eq_getElem?_getD, Nat.add_sub_cancel, hz]
  rfl
theorem inV_mem {s : Str} {l : List Str} (h : s ∈ l) : inV (.str s) (l.map V.str) = true := by
  unfold inV
  rw [List.any_map]
  exact List.any_eq_true.mpr ⟨s, h, by simp [eqV]⟩
theorem flat_strs (l : List Str) : (l.map V.str).all flatV = true := by
  rw [List.all_map]
  exact List.all_eq_true.mpr fun _ _ => rfl
section
variable {P : Program} {w : World} {K : PySem.W.Frag} {mg : Str → Option Value} {base : Heap}
theorem is_kn {H : Hp} (k : Kn) : Is K H k.v (match k with | .h _ => "str" | .p _ => "int") := by
  cases k with
  | h s => exact is_str s
  | p n => exact is_int n
theorem dp_kn {H : Hp} {v : V} {k : Kn} (h : Dp K H v k.d) : v = k.v := by
  cases k with
  | h s => exact dp_str h
  | p n => exact dp_int h
theorem dpA_strs {H : Hp} : ∀ {l : List Str} {xs : List V}, DpAll K H xs (l.map PyData.str) → xs = l.map V.str
  | [], _, h => dpA_nil h
  | a :: r, _, h => by
    obtain ⟨x, t, rfl, hx, ht⟩ := dpA_cons h
    rw [dp_str hx, dpA_strs ht]
    rfl
theorem dpA_kns {H : Hp} : ∀ {l : List Kn} {xs : List V}, DpAll K H xs (l.map Kn.d) → xs = l.map Kn.v
  | [], _, h => dpA_nil h
  | a :: r, _, h => by
    obtain ⟨x, t, rfl, hx, ht⟩ := dpA_cons h
    rw [dp_kn hx, dpA_kns ht]
    rfl
/-! ### is_name, is_kind, first_bad_hidden -/
theorem scName : FnScope ["thing"] ["thing"] (defScope sName) := ⟨rfl, rfl, rfl, by decide +kernel, rfl, by decide +kernel, by decide +kernel⟩
theorem scKind : FnScope ["thing", "hidden"] ["thing", "hidden"] (defScope sKind) := ⟨rfl, rfl, rfl, by decide +kernel, rfl, by decide +kernel, by decide +kernel⟩
abbrev nBadH : List Str := ["hidden", "ahead", "number", "name"]
theorem scBadH : FnScope nBadH ["hidden"] (defScope sBadH) := ⟨rfl, rfl, rfl, by decide +kernel, rfl, by decide +kernel, by decide +kernel⟩
def spName : Sp := fun vs H Q _ => ∃ z : Str, vs = [.str z] ∧ isN z = true ∧ Q (.bl true) H
theorem ok_name {f : Addr} {fd : FuncData} {k : Nat} (F : Fun K "is_name" "is_name" sName f fd) (mi : mg "isinstance" = none) (m1 : mg "str" = none) (ml : mg "len" = none) :
    FnOk P w K mg base CX0 (k + 1) f fd ["thing"] spName := by
  refine F.ok scName (fun vs H Q E h => ?_) (fun cdv A outer s H vs Q E hr h => ?_)
  · obtain ⟨z, rfl, _⟩ := h
    rfl
  · obtain ⟨z, rfl, hz, q⟩ := h
    obtain ⟨h8, h1, ha, hlo, has, _⟩ := isN_txt hz
    refine ⟨_, pss_one (ps_ret (pe_and (pe_isi "str" 0 mi m1 (by decide +kernel))
      (pe_and (pe_cmpR op_le (pe_callB call_len_str (by rfl) ml PySem.boot_len (pa_cons (pv 0) pa_nil)) pe_int (nomark _))
      (pe_and (pe_m0 PySem.F.slot_str_isalpha PySem.F.type_str_isalpha mt_isalpha (pv 0))
      (pe_and (pe_m0 PySem.F.slot_str_islower PySem.F.type_str_islower mt_islower (pv 0))
      (pe_one (pe_m0 PySem.F.slot_str_isascii PySem.F.type_str_isascii mt_isascii (pv 0)))))))), ?_⟩
    refine ⟨_, rfl, "str", _, (is_str z).1, by decide +kernel, _, rfl, iteT ⟨_, rfl, z, rfl, isN_small hz, _, 8, rfl, rfl, _, rfl, ?_⟩⟩
    rw [decide_eq_true (show (z.length : Int) ≤ 8 by omega)]
    refine iteT ⟨_, rfl, ⟨z, rfl⟩, z, rfl, rfl, trivial, _, rfl, ?_⟩
    rw [ha]
    refine iteT ⟨_, rfl, ⟨z, rfl⟩, z, rfl, rfl, trivial, _, rfl, ?_⟩
    rw [hlo]
    refine iteT ⟨_, rfl, ⟨z, rfl⟩, z, rfl, rfl, trivial, ?_⟩
    rw [has]
    exact q
def spKind (K : PySem.W.Frag) : Sp := fun vs H Q _ => ∃ (k : Kn) (hd : List Str) (p : Addr), vs = [k.v, .ref p] ∧ SqT K H p (hd.map V.str) ∧ goK hd k ∧ Q (.bl true) H
theorem ok_kind {f : Addr} {fd : FuncData} {k : Nat} (F : Fun K "is_kind" "is_kind" sKind f fd) (mi : mg "isinstance" = none) (m1 : mg "str" = none) (m2 : mg "int" = none) :
    FnOk P w K mg base CX0 (k + 1) f fd ["thing", "hidden"] (spKind K) := by
  refine F.ok scKind (fun vs H Q E h => ?_) (fun cdv A outer s H vs Q E hr h => ?_)
  · obtain ⟨k, hd, p, rfl, _⟩ := h
    rfl
  · obtain ⟨k, hd, p, rfl, hp, hk, q⟩ := h
    refine ⟨_, pss_cons (ps_if (pt_val (pe_isi "str" 0 mi m1 (by decide +kernel))) (pss_one (ps_ret (pe_cmpR op_in_seq (pv 0) (pv 1) rfl))) pss_nil)
      (pss_one (ps_ret (pe_and (pe_isi "int" 0 mi m2 (by decide +kernel)) (pe_one (pe_chain op_le op_le pe_int (pv 0) pe_int))))), ?_⟩
    cases k with
    | h s =>
      refine ⟨_, rfl, "str", _, (is_str s).1, by decide +kernel, _, rfl, iteT ⟨_, rfl, _, rfl, p, _, rfl, .inr hp, rfl, flat_strs hd, ?_⟩⟩
      rw [show inV (Kn.v (.h s)) (hd.map V.str) = true from inV_mem hk]
      exact q
    | p n =>
      obtain ⟨h2, h9⟩ := hk
      refine ⟨_, rfl, "int", false, (is_int n).1, by decide +kernel, _, rfl, iteF ⟨_, rfl, "int", true, (is_int n).1, by decide +kernel, _, rfl, iteT ⟨_, rfl, 2, n, rfl, rfl, _, rfl, ?_⟩⟩⟩
      rw [decide_eq_true h2]
      refine iteT ⟨n, 9, rfl, rfl, ?_⟩
      show Q (.bl (decide (n ≤ 9))) H
      rw [decide_eq_true h9]
      exact q
def spBadH (K : PySem.W.Frag) : Sp := fun vs H Q _ => ∃ (hd : List Str) (p : Addr), vs = [.ref p] ∧ SqT K H p (hd.map V.str) ∧ (∀ z ∈ hd, isN z = true) ∧ hd.Pairwise lt ∧ ∀ H', Gr H H' → Q .non H'
theorem ok_badH {f fN : Addr} {fd fdN : FuncData} {k : Nat} (F : Fun K "first_bad_hidden" "first_bad_hidden" sBadH f fd) (HN : Has P w K mg base (k + 1) "is_name" ["thing"] spName fN fdN) (me : mg "enumerate" = none) :
    FnOk P w K mg base CX0 (k + 2) f fd ["hidden"] (spBadH K) := by
  refine F.ok scBadH (fun vs H Q E h => ?_) (fun cdv A outer s H vs Q E hr h => ?_)
  · obtain ⟨hd, p, rfl, _⟩ := h
    rfl
  · obtain ⟨hd, p, rfl, hp, hn, up, q⟩ := h
    have nd := scBadH.nd
    refine' ⟨_, pss_cons (ps_set (i := 1) nd rfl (.inl rfl) pe_str) (pss_cons (ps_for PassesOwn.never rfl (pi_enumT (by rfl) me (pa_cons (pv 0) pa_nil))
        (pg_tup rfl (pgs_cons (pg_name (i := 2) nd rfl (.inl rfl)) (pgs_cons (pg_name (i := 3) nd rfl (.inl rfl)) pgs_nil)))
        (pss_cons (ps_if (PW.pt (pw_or (pt_not (pt_val (hcall HN hr (pa_cons (pv 3) pa_nil)))) (pw_or1 (pt_cmpR op_le_str (pv 3) (pv 1) (nomark _))))) (pss_one (ps_ret (pv 2))) pss_nil)
        (pss_one (ps_set (i := 1) nd rfl (.inl rfl) (pv 3))))) (pss_one (ps_ret pe_non))), ?rd⟩
    case rd =>
    refine ⟨_, rfl, p, _, rfl, hp, for_it (walk_enumT (xs := hd.map V.str)) (fun i σ H1 => ∃ y2 y3 : Option V, σ = [some (.ref p), some (.str (ahd hd i)), y2, y3] ∧ Gr H H1) ⟨none, none, rfl, Gr.refl H⟩ ?h1 ?h2 ?h3⟩
    case h1 =>
      rintro i σ H1 hi ⟨y2, y3, rfl, g⟩
      exact g.sqt hp
    case h2 =>
      rintro i x σ H1 H2 hi ⟨y2, y3, rfl, g⟩ ⟨T, a, b, rfl, nT, rfl, ha, hb⟩
      cases ha
      rw [show (fun i : Nat => (hd.map V.str)[i]?) i = (hd.map V.str)[i]? from rfl, List.getElem?_map] at hb
      obtain ⟨z, hz, rfl⟩ := Option.map_eq_some_iff.mp hb
      have gz := hn z (List.mem_of_getElem? hz)
      have lz := ahd_lt up hn hz
      refine ⟨T, [.int (i : Nat), .str z], rfl, .inl (.inl upd_same), rfl, .int (i : Nat), [.str z], rfl, .str z, [], rfl, rfl, ?_⟩
      refine ⟨_, rfl, z, rfl, gz, _, rfl, iteF ⟨_, rfl, _, rfl, z, _, rfl, rfl, _, rfl, ?_⟩⟩
      rw [decide_eq_true lz]
      refine iteF ⟨_, rfl, ?_⟩
      show ∃ y2 y3 : Option V, _ = [some (.ref p), some (.str (ahd hd (i + 1))), y2, y3] ∧ _
      rw [ahd_succ hz]
      exact ⟨_, _, rfl, g.trans (Gr.new nT)⟩
    case h3 =>
      rintro σ H1 ⟨y2, y3, rfl, g⟩
      exact q H1 g
end
end SfC
namespace SfC
open PySem PySem.Spec PyProof.Rows L2 SfG
abbrev nBadD : List Str := ["deeds", "hidden", "ahead", "number", "deed", "name", "takes", "gives", "many", "kind"]
theorem scBadD : FnScope nBadD ["deeds", "hidden"] (defScope sBadD) := ⟨rfl, rfl, rfl, by decide +kernel, rfl, by decide +kernel, by decide +kernel⟩
theorem dpA_de {K : PySem.W.Frag} {H : Hp} {xs : List V} {es : List De} (h : DpAll K H xs (es.map De.d)) {i : Nat} {x : V} (hx : xs[i]? = some x) : ∃ e, es[i]? = some e ∧ Dp K H x e.d := by
  have hl := dpA_len h
  rw [List.length_map] at hl
  have hi : i < xs.length := by
    rcases Nat.lt_or_ge i xs.length with h1 | h1
    · exact h1
    · rw [List.getElem?_eq_none h1] at hx
      cases hx
  have hi' : i < es.length := by omega
  obtain ⟨y, hy, hd⟩ := dpA_get (i := i) (d := (es[i]).d) h (by simp [hi'])
  rw [hx] at hy
  cases hy
  exact ⟨es[i], by simp [hi'], hd⟩
theorem hidN_snoc (tk : List Kn) (k : Kn) : hidN (tk ++ [k]) = hidN tk + (if k.isH then 1 else 0) := by
  unfold hidN
  rw [List.filter_append, List.length_append]
  cases h : k.isH <;> simp [h]
theorem hidN_take {tk : List Kn} {i : Nat} {k : Kn} (h : tk[i]? = some k) : hidN (tk.take (i + 1)) = hidN (tk.take i) + (if k.isH then 1 else 0) := by
  rw [List.take_add_one, h]
  exact hidN_snoc _ k
section
variable {P : Program} {w : World} {K : PySem.W.Frag} {mg : Str → Option Value} {base : Heap}
def spBadD (K : PySem.W.Frag) : Sp := fun vs H Q _ => ∃ (es : List De) (hd : List Str) (x : V) (p : Addr), vs = [x, .ref p] ∧ Dp K H x (.tuple (es.map De.d)) ∧ SqT K H p (hd.map V.str) ∧ (es.map De.nm).Pairwise lt ∧ (∀ e ∈ es, goD hd e) ∧ ∀ H', Gr H H' → Q .non H'
set_option maxHeartbeats 1000000 in
theorem ok_badD {f fK : Addr} {fd fdK : FuncData} {k : Nat} (F : Fun K "first_bad_deed" "first_bad_deed" sBadD f fd) (HK : Has P w K mg base (k + 1) "is_kind" ["thing", "hidden"] (spKind K) fK fdK)
    (me : mg "enumerate" = none) (mi : mg "isinstance" = none) (m1 : mg "str" = none) (m2 : mg "int" = none) (m3 : mg "tuple" = none) (ml : mg "len" = none) :
    FnOk P w K mg base CX0 (k + 2) f fd ["deeds", "hidden"] (spBadD K) := by
  refine F.ok scBadD (fun vs H Q E h => ?_) (fun cdv A outer s H vs Q E hr h => ?_)
  · obtain ⟨es, hd, x, p, rfl, _⟩ := h
    rfl
  · obtain ⟨es, hd, x, p, rfl, hx, hp, up, ok, q⟩ := h
    have nd := scBadD.nd
    refine' ⟨_, pss_cons (ps_set (i := 2) nd rfl (.inl rfl) pe_str) (pss_cons (ps_for PassesOwn.never rfl (pi_enumT (by rfl) me (pa_cons (pv 0) pa_nil))
        (pg_tup rfl (pgs_cons (pg_name (i := 3) nd rfl (.inl rfl)) (pgs_cons (pg_name (i := 4) nd rfl (.inl rfl)) pgs_nil)))
        (pss_cons ?b1 (pss_cons ?b2 (pss_cons ?b3 (pss_cons ?b4 (pss_cons ?b5 (pss_cons ?b6 (pss_cons ?b7 (pss_cons ?b8 (pss_one ?b9)))))))))) (pss_one (ps_ret pe_non))), ?rd⟩
    case b1 =>
      exact ps_if (PW.pt (pw_or (pt_not (pt_val (pe_isi "tuple" 4 mi m3 (by decide +kernel)))) (pw_or1 (pt_cmpR op_ne (pe_callB call_len_seq (by rfl) ml PySem.boot_len (pa_cons (pv 4) pa_nil)) pe_int (nomark _))))) (pss_one (ps_ret (pv 3))) pss_nil
    case b2 =>
      exact ps_asg (pv 4) (pg_tup rfl (pgs_cons (pg_name (i := 5) nd rfl (.inl rfl)) (pgs_cons (pg_name (i := 6) nd rfl (.inl rfl)) (pgs_cons (pg_name (i := 7) nd rfl (.inl rfl)) pgs_nil))))
    case b3 =>
      exact ps_if (PW.pt (pw_or (pt_not (pt_val (pe_isi "str" 5 mi m1 (by decide +kernel)))) (pw_or (pt_cmpR op_gt (pe_callB call_len_str (by rfl) ml PySem.boot_len (pa_cons (pv 5) pa_nil)) pe_int (nomark _)) (pw_or1 (pt_cmpR op_le_str (pv 5) (pv 2) (nomark _)))))) (pss_one (ps_ret (pv 3))) pss_nil
    case b4 =>
      exact ps_if (PW.pt (pw_or (pt_not (pt_val (pe_m0 PySem.F.slot_str_isalpha PySem.F.type_str_isalpha mt_isalpha (pv 5)))) (pw_or (pt_not (pt_val (pe_m0 PySem.F.slot_str_islower PySem.F.type_str_islower mt_islower (pv 5)))) (pw_or1 (pt_not (pt_val (pe_m0 PySem.F.slot_str_isascii PySem.F.type_str_isascii mt_isascii (pv 5)))))))) (pss_one (ps_ret (pv 3))) pss_nil
    case b5 =>
      exact ps_if (PW.pt (pw_or (pt_not (pt_val (pe_isi "tuple" 6 mi m3 (by decide +kernel)))) (pw_or (pt_cmpR op_gt (pe_callB call_len_seq (by rfl) ml PySem.boot_len (pa_cons (pv 6) pa_nil)) pe_int (nomark _)) (pw_or1 (pt_not (pt_val (hcall HK hr (pa_cons (pv 7) (pa_cons (pv 1) pa_nil))))))))) (pss_one (ps_ret (pv 3))) pss_nil
    case b6 =>
      exact ps_set (i := 8) nd rfl (.inl rfl) pe_int
    case b7 =>
      refine' ps_for PassesOwn.never rfl (pi_tup (pv 6)) (pg_name (i := 9) nd rfl (.inl rfl)) (pss_one (ps_if (pt_val (pe_isi "str" 9 mi m1 (by decide +kernel))) (pss_cons ?c1 (pss_one ?c2)) (pss_one ?c3)))
      case c1 => exact ps_if (pt_cmpR op_notIn_seq (pv 9) (pv 1) rfl) (pss_one (ps_ret (pv 3))) pss_nil
      case c2 => exact ps_aug (i := 8) nd rfl (.inl rfl) pe_int ip_add
      case c3 => exact ps_if (PW.pt (pw_or (pt_not (pt_val (pe_isi "int" 9 mi m2 (by decide +kernel)))) (pw_or1 (pt_not (pt_chain op_le op_le pe_int (pv 9) pe_int))))) (pss_one (ps_ret (pv 3))) pss_nil
    case b8 =>
      exact ps_if (pt_cmpR op_gt (pv 8) pe_int (nomark _)) (pss_one (ps_ret (pv 3))) pss_nil
    case b9 =>
      exact ps_set (i := 2) nd rfl (.inl rfl) (pv 5)
    case rd =>
    obtain ⟨pd, xs, rfl, hpd, hxs⟩ := dp_tup hx
    refine ⟨_, rfl, pd, xs, rfl, hpd, for_it (walk_enumT (xs := xs)) (fun i σ H1 => ∃ y3 y4 y5 y6 y7 y8 y9 : Option V, σ = [some (.ref pd), some (.ref p), some (.str (ahd (es.map De.nm) i)), y3, y4, y5, y6, y7, y8, y9] ∧ Gr H H1) ⟨none, none, none, none, none, none, none, rfl, Gr.refl H⟩ ?h1 ?h2 ?h3⟩
    case h1 =>
      rintro i σ H1 hi ⟨y3, y4, y5, y6, y7, y8, y9, rfl, g⟩
      exact g.sqt hpd
    case h3 =>
      rintro σ H1 ⟨y3, y4, y5, y6, y7, y8, y9, rfl, g⟩
      exact q H1 g
    case h2 =>
      rintro i x σ H1 H2 hi ⟨y3, y4, y5, y6, y7, y8, y9, rfl, g⟩ ⟨T, a, b, rfl, nT, rfl, ha, hb⟩
      cases ha
      obtain ⟨e, he, de⟩ := dpA_de hxs hb
      have gd := ok e (List.mem_of_getElem? he)
      have hne : (es.map De.nm)[i]? = some e.nm := by rw [List.getElem?_map, he]; rfl
      have lz := ahd_lt up (fun z hz => by obtain ⟨e', h1, rfl⟩ := List.mem_map.mp hz; exact (ok e' h1).nm) hne
      have g2 : Gr H (upd H1 T (.tup [.int (i : Nat), b])) := g.trans (Gr.new nT)
      have hT : upd H1 T (.tup [.int (i : Nat), b]) T = some (.tup [.int (i : Nat), b]) := upd_same
      generalize upd H1 T (.tup [.int (i : Nat), b]) = H2 at g2 hT ⊢
      have de2 := g2.kd.dp de
      obtain ⟨pe, n1, t1, v1, rfl, hpe, dn, dt, dv⟩ := dp_3 de2
      cases dp_str dn
      cases dp_kn dv
      obtain ⟨pt, ts, rfl, hpt, hts⟩ := dp_tup dt
      cases dpA_kns hts
      have hp2 := g2.sqt hp
      obtain ⟨h8, h1, hal, hlo, has, _⟩ := isN_txt gd.nm
      refine ⟨T, _, rfl, .inl (.inl hT), rfl, .int (i : Nat), [.ref pe], rfl, .ref pe, [], rfl, rfl, ?_⟩
      -- a tuple of three
      refine ⟨_, rfl, "tuple", true, tyx_tup hpe, by decide +kernel, _, rfl, iteF ⟨_, rfl, pe, _, rfl, .inr hpe, rfl, _, rfl, iteF ?_⟩⟩
      refine ⟨_, rfl, pe, _, rfl, hpe, rfl, _, _, rfl, _, _, rfl, _, _, rfl, rfl, ?_⟩
      -- its name
      refine ⟨_, rfl, "str", true, (is_str e.nm).1, by decide +kernel, _, rfl, iteF ⟨_, rfl, _, rfl, isN_small gd.nm, _, 8, rfl, rfl, _, rfl, ?_⟩⟩
      rw [decide_eq_false (show ¬ (e.nm.length : Int) > 8 by omega)]
      refine iteF ⟨_, rfl, _, rfl, e.nm, _, rfl, rfl, _, rfl, ?_⟩
      rw [decide_eq_true lz]
      refine iteF ⟨_, rfl, ⟨_, rfl⟩, e.nm, rfl, rfl, trivial, _, rfl, ?_⟩
      rw [hal]
      refine iteF ⟨_, rfl, ⟨_, rfl⟩, e.nm, rfl, rfl, trivial, _, rfl, ?_⟩
      rw [hlo]
      refine iteF ⟨_, rfl, ⟨_, rfl⟩, e.nm, rfl, rfl, trivial, _, rfl, ?_⟩
      rw [has]
      refine iteF ?_
      -- what it takes and gives
      refine ⟨_, rfl, "tuple", true, tyx_tup hpt, by decide +kernel, _, rfl, iteF ⟨_, rfl, pt, _, rfl, .inr hpt, _, 3, rfl, rfl, _, rfl, ?_⟩⟩
      rw [List.length_map, decide_eq_false (show ¬ ((e.tk.length : Nat) : Int) > 3 by have := gd.len; omega)]
      refine iteF ⟨_, rfl, _, rfl, e.gv, hd, p, rfl, hp2, gd.gv, _, rfl, iteF ?_⟩
      refine ⟨_, rfl, pt, rfl, ⟨_, hpt⟩, for_it (walk_tup (xs := e.tk.map Kn.v)) (fun j σ H3 => ∃ y9 : Option V, σ = [some (.ref pd), some (.ref p), some (.str (ahd (es.map De.nm) i)), some (.int (i : Nat)), some (.ref pe), some (.str e.nm), some (.ref pt), some e.gv.v, some (.int (hidN (e.tk.take j))), y9] ∧ H3 = H2) ⟨_, rfl, rfl⟩ ?i1 ?i2 ?i3⟩
      case i1 =>
        rintro j σ H3 hj ⟨y, rfl, rfl⟩
        exact hpt
      case i2 =>
        rintro j x σ H3 H4 hj ⟨y, rfl, rfl⟩ ⟨rfl, hx⟩
        rw [List.getElem?_map] at hx
        obtain ⟨kn, hkn, rfl⟩ := Option.map_eq_some_iff.mp hx
        have gk := gd.tk kn (List.mem_of_getElem? hkn)
        have ht := hidN_take hkn
        cases kn with
        | h z =>
          refine ⟨_, rfl, "str", true, (is_str z).1, by decide +kernel, _, rfl, iteT ⟨_, rfl, _, rfl, p, _, rfl, .inr hp2, rfl, flat_strs hd, _, rfl, ?_⟩⟩
          rw [show inV (Kn.v (.h z)) (hd.map V.str) = true from inV_mem gk]
          refine iteF ⟨_, rfl, _, 1, rfl, rfl, ?_⟩
          show ∃ y9 : Option V, _ = [some (.ref pd), some (.ref p), some (.str (ahd (es.map De.nm) i)), some (.int (i : Nat)), some (.ref pe), some (.str e.nm), some (.ref pt), some e.gv.v, some (.int (hidN (e.tk.take (j + 1)))), y9] ∧ _
          rw [ht]
          exact ⟨_, rfl, rfl⟩
        | p n =>
          obtain ⟨k2, k9⟩ := gk
          refine ⟨_, rfl, "int", false, (is_int n).1, by decide +kernel, _, rfl, iteF ⟨_, rfl, "int", true, (is_int n).1, by decide +kernel, _, rfl, iteF ⟨_, rfl, 2, n, rfl, rfl, _, rfl, ?_⟩⟩⟩
          rw [decide_eq_true k2]
          refine iteT ⟨n, 9, rfl, rfl, _, rfl, ?_⟩
          rw [decide_eq_true k9]
          refine iteF ?_
          show ∃ y9 : Option V, _ = [some (.ref pd), some (.ref p), some (.str (ahd (es.map De.nm) i)), some (.int (i : Nat)), some (.ref pe), some (.str e.nm), some (.ref pt), some e.gv.v, some (.int (hidN (e.tk.take (j + 1)))), y9] ∧ _
          rw [ht]
          exact ⟨_, rfl, rfl⟩
      case i3 =>
        rintro σ H3 ⟨y, rfl, rfl⟩
        rw [List.length_map, List.take_length]
        refine ⟨_, rfl, _, 2, rfl, rfl, _, rfl, ?_⟩
        rw [decide_eq_false (show ¬ ((hidN e.tk : Nat) : Int) > 2 by have := gd.two; omega)]
        refine iteF ⟨_, rfl, ?_⟩
        show ∃ y3 y4 y5 y6 y7 y8 y9 : Option V, _ = [some (.ref pd), some (.ref p), some (.str (ahd (es.map De.nm) (i + 1))), y3, y4, y5, y6, y7, y8, y9] ∧ _
        rw [ahd_succ hne]
        exact ⟨_, _, _, _, _, _, _, rfl, g2⟩
end
end SfC
namespace SfC
open PySem PySem.Spec PyProof.Rows L2 SfG
theorem scFault : FnScope ["thing", "hidden", "deeds", "number"] ["thing"] (defScope sFault) := ⟨rfl, rfl, rfl, by decide +kernel, rfl, by decide +kernel, by decide +kernel⟩
theorem scNeed : FnScope ["face", "fault", "part", "number"] ["face"] (defScope sNeed) := ⟨rfl, rfl, rfl, by decide +kernel, rfl, by decide +kernel, by decide +kernel⟩
/-- a face in the heap, opened -/
theorem dp_face {K : PySem.W.Frag} {H : Hp} {x : V} {f : Fc} (h : Dp K H x f.d) : ∃ p ph pd xs, x = .ref p ∧ SqT K H p [.ref ph, .ref pd] ∧ SqT K H ph (f.hd.map V.str) ∧ SqT K H pd xs ∧ DpAll K H xs (f.ds.map De.d) := by
  obtain ⟨p, a, b, rfl, hp, ha, hb⟩ := dp_2 h
  obtain ⟨ph, hs, rfl, hph, dh⟩ := dp_tup ha
  obtain ⟨pd, xs, rfl, hpd, dd⟩ := dp_tup hb
  cases dpA_strs dh
  exact ⟨p, ph, pd, xs, rfl, hp, hph, hpd, dd⟩
section
variable {P : Program} {w : World} {K : PySem.W.Frag} {mg : Str → Option Value} {base : Heap}
def spGood (K : PySem.W.Frag) (r : V) : Sp := fun vs H Q _ => ∃ (x : V) (f : Fc), vs = [x] ∧ Dp K H x f.d ∧ goF f ∧ ∀ H', Gr H H' → Q r H'
theorem ok_fault {f fH fD : Addr} {fd fdH fdD : FuncData} {k : Nat} {t8 : Tok} (F : Fun K "face_fault" "face_fault" sFault f fd) (HH : Has P w K mg base (k + 2) "first_bad_hidden" ["hidden"] (spBadH K) fH fdH)
    (HD : Has P w K mg base (k + 2) "first_bad_deed" ["deeds", "hidden"] (spBadD K) fD fdD) (mi : mg "isinstance" = none) (m3 : mg "tuple" = none) (ml : mg "len" = none) (m8 : mg "MOST_DEEDS" = some (.int 8 t8)) :
    FnOk P w K mg base CX0 (k + 3) f fd ["thing"] (spGood K .non) := by
  refine F.ok scFault (fun vs H Q E h => ?_) (fun cdv A outer s H vs Q E hr h => ?_)
  · obtain ⟨x, f, rfl, _⟩ := h
    rfl
  · obtain ⟨x, f, rfl, hx, go, q⟩ := h
    have nd := scFault.nd
    refine' ⟨_, pss_cons ?s1 (pss_cons ?s2 (pss_cons ?s3 (pss_cons ?s4 (pss_cons ?s5 (pss_cons ?s6 (pss_cons ?s7 (pss_cons ?s8 (pss_one ?s9)))))))), ?rd⟩
    case s1 => exact ps_if (PW.pt (pw_or (pt_not (pt_val (pe_isi "tuple" 0 mi m3 (by decide +kernel)))) (pw_or1 (pt_cmpR op_ne (pe_callB call_len_seq (by rfl) ml PySem.boot_len (pa_cons (pv 0) pa_nil)) pe_int (nomark _))))) pss_never pss_nil
    case s2 => exact ps_asg (pv 0) (pg_tup rfl (pgs_cons (pg_name (i := 1) nd rfl (.inl rfl)) (pgs_cons (pg_name (i := 2) nd rfl (.inl rfl)) pgs_nil)))
    case s3 => exact ps_if (PW.pt (pw_or (pt_not (pt_val (pe_isi "tuple" 1 mi m3 (by decide +kernel)))) (pw_or1 (pt_not (pt_chain op_le op_le pe_int (pe_callB call_len_seq (by rfl) ml PySem.boot_len (pa_cons (pv 1) pa_nil)) pe_int))))) pss_never pss_nil
    case s4 => exact ps_if (PW.pt (pw_or (pt_not (pt_val (pe_isi "tuple" 2 mi m3 (by decide +kernel)))) (pw_or1 (pt_not (pt_chain op_le op_le pe_int (pe_callB call_len_seq (by rfl) ml PySem.boot_len (pa_cons (pv 2) pa_nil)) (pe_glob (v := .int 8) rfl m8 ⟨_, rfl⟩)))))) pss_never pss_nil
    case s5 => exact ps_set (i := 3) nd rfl (.inl rfl) (hcall HH hr (pa_cons (pv 1) pa_nil))
    case s6 => exact ps_if (pt_cmpR op_notN (pv 3) pe_non (nomark _)) pss_never pss_nil
    case s7 => exact ps_set (i := 3) nd rfl (.inl rfl) (hcall HD hr (pa_cons (pv 2) (pa_cons (pv 1) pa_nil)))
    case s8 => exact ps_if (pt_cmpR op_notN (pv 3) pe_non (nomark _)) pss_never pss_nil
    case s9 => exact ps_ret pe_non
    case rd =>
    obtain ⟨p, ph, pd, xs, rfl, hp, hph, hpd, dd⟩ := dp_face hx
    have hl : xs.length = f.ds.length := by
      have := dpA_len dd
      rw [List.length_map] at this
      exact this
    refine ⟨_, rfl, "tuple", true, tyx_tup hp, by decide +kernel, _, rfl, iteF ⟨_, rfl, p, _, rfl, .inr hp, rfl, _, rfl, iteF ?_⟩⟩
    refine ⟨_, rfl, p, _, rfl, hp, rfl, _, _, rfl, _, _, rfl, rfl, ?_⟩
    refine ⟨_, rfl, "tuple", true, tyx_tup hph, by decide +kernel, _, rfl, iteF ⟨_, rfl, ph, _, rfl, .inr hph, 1, _, rfl, rfl, _, rfl, ?_⟩⟩
    have a1 := go.hid.lo
    have a2 := go.hid.hi
    have a3 := go.lo
    have a4 := go.hi
    rw [List.length_map, decide_eq_true (show (1 : Int) ≤ ((f.hd.length : Nat) : Int) by omega)]
    refine iteT ⟨_, 2, rfl, rfl, _, rfl, ?_⟩
    rw [decide_eq_true (show ((f.hd.length : Nat) : Int) ≤ 2 by omega)]
    refine iteF ⟨_, rfl, "tuple", true, tyx_tup hpd, by decide +kernel, _, rfl, iteF ⟨_, rfl, pd, _, rfl, .inr hpd, 1, _, rfl, rfl, _, rfl, ?_⟩⟩
    rw [hl, decide_eq_true (show (1 : Int) ≤ ((f.ds.length : Nat) : Int) by omega)]
    refine iteT ⟨_, 8, rfl, rfl, _, rfl, ?_⟩
    rw [decide_eq_true (show ((f.ds.length : Nat) : Int) ≤ 8 by omega)]
    refine iteF ⟨_, rfl, f.hd, ph, rfl, hph, go.hid.nm, go.hid.up, fun H1 g1 => ?_⟩
    refine ⟨_, rfl, rfl, _, rfl, iteF ?_⟩
    refine ⟨_, rfl, _, rfl, f.ds, f.hd, .ref pd, ph, rfl, .tup (g1.sqt hpd) (g1.kd.dpA dd), g1.sqt hph, go.up, go.ok, fun H2 g2 => ?_⟩
    exact ⟨_, rfl, rfl, _, rfl, iteF (q H2 (g1.trans g2))⟩
theorem ok_need {f fF : Addr} {fd fdF : FuncData} {k : Nat} (F : Fun K "need_face" "need_face" sNeed f fd) (HF : Has P w K mg base (k + 3) "face_fault" ["thing"] (spGood K .non) fF fdF) :
    FnOk P w K mg base CX0 (k + 4) f fd ["face"] (spGood K .non) := by
  refine F.ok scNeed (fun vs H Q E h => ?_) (fun cdv A outer s H vs Q E hr h => ?_)
  · obtain ⟨x, f, rfl, _⟩ := h
    rfl
  · obtain ⟨x, f, rfl, hx, go, q⟩ := h
    refine ⟨_, pss_cons (ps_set (i := 1) scNeed.nd rfl (.inl rfl) (hcall HF hr (pa_cons (pv 0) pa_nil))) (pss_one (ps_if (pt_cmpR op_notN (pv 1) pe_non (nomark _)) pss_never pss_nil)), ?_⟩
    exact ⟨_, rfl, x, f, rfl, hx, go, fun H1 g1 => ⟨_, rfl, rfl, _, rfl, iteF (q H1 g1)⟩⟩
end
end SfC
namespace SfC
open PySem PySem.Spec PyProof.Rows L2 SfG
abbrev nNamOf : List Str := ["face", "deed"]
theorem scFind : FnScope ["face", "name", "number", "deed"] ["face", "name"] (defScope sFind) := ⟨rfl, rfl, rfl, by decide +kernel, rfl, by decide +kernel, by decide +kernel⟩
section
variable {P : Program} {w : World} {K : PySem.W.Frag} {mg : Str → Option Value} {base : Heap}
/-- a new list of texts is told -/
def spTold (K : PySem.W.Frag) (l : Fc → List Str) : Sp := fun vs H Q _ => ∃ (x : V) (f : Fc), vs = [x] ∧ Dp K H x f.d ∧ goF f ∧ ∀ H' p, Gr H H' → H p = none → H' p = some (.lst ((l f).map V.str)) → Q (.ref p) H'
/-- the deed so called, or none -/
def spFind (K : PySem.W.Frag) : Sp := fun vs H Q _ => ∃ (x y : V) (f : Fc) (T : String), vs = [x, y] ∧ Dp K H x f.d ∧ Is K H y T ∧
  ((∃ (z : Str) (e : De) (i : Nat), y = .str z ∧ f.ds[i]? = some e ∧ e.nm = z ∧ (f.ds.map De.nm).Pairwise lt ∧ ∀ H', Gr H H' → Q (.int (i : Nat)) H') ∨
    ((∀ z, y = .str z → z ∉ f.ds.map De.nm) ∧ ∀ H', Gr H H' → Q .non H'))
theorem lt_irrefl (a : Str) : ¬ lt a a := List.lt_irrefl _
theorem ok_find {f : Addr} {fd : FuncData} {k : Nat} (F : Fun K "find_deed" "find_deed" sFind f fd) (mi : mg "isinstance" = none) (m1 : mg "str" = none) (me : mg "enumerate" = none) :
    FnOk P w K mg base CX0 (k + 1) f fd ["face", "name"] (spFind K) := by
  refine F.ok scFind (fun vs H Q E h => ?_) (fun cdv A outer s H vs Q E hr h => ?_)
  · obtain ⟨x, y, f, T, rfl, _⟩ := h
    rfl
  · obtain ⟨x, y, f, T, rfl, hx, hy, q⟩ := h
    have nd := scFind.nd
    refine ⟨_, pss_cons (ps_if (pt_val (pe_isi "str" 1 mi m1 (by decide +kernel))) (pss_one (ps_for PassesOwn.never rfl (pi_enumT (by rfl) me (pa_cons (pe_ix ix_tup (pv 0) pe_int (fun _ _ => rfl)) pa_nil))
        (pg_tup rfl (pgs_cons (pg_name (i := 2) nd rfl (.inl rfl)) (pgs_cons (pg_name (i := 3) nd rfl (.inl rfl)) pgs_nil)))
        (pss_one (ps_if (pt_cmpR op_eq (pe_ix ix_tup (pv 3) pe_int (fun _ _ => rfl)) (pv 1) (nomark _)) (pss_one (ps_ret (pv 2))) pss_nil)))) pss_nil) (pss_one (ps_ret pe_non)), ?_⟩
    refine ⟨_, rfl, T, _, hy.1, kit_str T hy.2, _, rfl, ?_⟩
    by_cases e : T = "str"
    · obtain ⟨z, rfl⟩ := hy.text e
      subst e
      obtain ⟨p, ph, pd, xs, rfl, hp, hph, hpd, dd⟩ := dp_face hx
      have hl : xs.length = f.ds.length := by
        have := dpA_len dd
        rw [List.length_map] at this
        exact this
      refine iteT ⟨_, rfl, p, _, 1, _, rfl, rfl, hp, rfl, pd, _, rfl, hpd, for_it (walk_enumT (xs := xs)) (fun i σ H1 => ∃ y2 y3 : Option V, σ = [some (.ref p), some (.str z), y2, y3] ∧ Gr H H1 ∧ ∀ j e, j < i → f.ds[j]? = some e → e.nm ≠ z) ⟨none, none, rfl, Gr.refl H, fun j e h => absurd h (Nat.not_lt_zero j)⟩ ?h1 ?h2 ?h3⟩
      case h1 =>
        rintro i σ H1 hi ⟨y2, y3, rfl, g, _⟩
        exact g.sqt hpd
      case h2 =>
        rintro i v σ H1 H2 hi ⟨y2, y3, rfl, g, no⟩ ⟨T, a, b, rfl, nT, rfl, ha, hb⟩
        cases ha
        obtain ⟨e, he, de⟩ := dpA_de dd hb
        have g2 : Gr H (upd H1 T (.tup [.int (i : Nat), b])) := g.trans (Gr.new nT)
        have hT : upd H1 T (.tup [.int (i : Nat), b]) T = some (.tup [.int (i : Nat), b]) := upd_same
        generalize upd H1 T (.tup [.int (i : Nat), b]) = H2 at g2 hT ⊢
        obtain ⟨pe, n1, t1, v1, rfl, hpe, dn, dt, dv⟩ := dp_3 (g2.kd.dp de)
        cases dp_str dn
        refine ⟨T, _, rfl, .inl (.inl hT), rfl, .int (i : Nat), [.ref pe], rfl, .ref pe, [], rfl, rfl, ?_⟩
        refine ⟨_, rfl, pe, _, 0, _, rfl, rfl, hpe, rfl, _, rfl, rfl, _, rfl, ?_⟩
        by_cases ez : e.nm = z
        · rw [decide_eq_true (congrArg V.str ez)]
          refine iteT ⟨_, rfl, ?_⟩
          rcases q with ⟨z', e', i', hz', he', en', up, q⟩ | ⟨q, _⟩
          · cases hz'
            have same : i' = i := by
              have c1 : (f.ds.map De.nm)[i]? = some z := by rw [List.getElem?_map, he]; exact congrArg some ez
              have c2 : (f.ds.map De.nm)[i']? = some z := by rw [List.getElem?_map, he']; exact congrArg some en'
              obtain ⟨l1, q1⟩ := List.getElem?_eq_some_iff.mp c1
              obtain ⟨l2, q2⟩ := List.getElem?_eq_some_iff.mp c2
              have pw := List.pairwise_iff_getElem.mp up
              rcases Nat.lt_trichotomy i i' with h | h | h
              · have := pw i i' l1 l2 h
                rw [q1, q2] at this
                exact absurd this (lt_irrefl z)
              · exact h.symm
              · have := pw i' i l2 l1 h
                rw [q1, q2] at this
                exact absurd this (lt_irrefl z)
            rw [← same]
            exact q _ g2
          · exact absurd (List.mem_map.mpr ⟨e, List.mem_of_getElem? he, ez⟩) (q z rfl)
        · rw [decide_eq_false (fun h => ez (V.str.inj h))]
          refine iteF ⟨_, _, rfl, g2, fun j e' hj he' => ?_⟩
          rcases Nat.lt_or_eq_of_le (Nat.le_of_lt_succ hj) with h | h
          · exact no j e' h he'
          · rw [h, he] at he'
            cases he'
            exact ez
      case h3 =>
        rintro σ H1 ⟨y2, y3, rfl, g, no⟩
        rcases q with ⟨z', e', i', hz', he', en', up, q⟩ | ⟨_, q⟩
        · cases hz'
          have hi' : i' < xs.length := by
            rw [hl]
            rcases Nat.lt_or_ge i' f.ds.length with h1 | h1
            · exact h1
            · rw [List.getElem?_eq_none h1] at he'
              cases he'
          exact absurd en' (no i' e' hi' he')
        · exact q H1 g
    · have e1 : (T == "str") = false := by simpa using e
      rw [e1]
      refine iteF ?_
      rcases q with ⟨z', e', i', hz', _⟩ | ⟨_, q⟩
      · exact absurd hz' (hy.ntext e z')
      · exact q H (Gr.refl H)
end
end SfC
namespace SfC
open PySem PySem.Spec PyProof.Rows L2 SfG
theorem scDeedN : FnScope ["face", "name", "number"] ["face", "name"] (defScope sDeedN) := ⟨rfl, rfl, rfl, by decide +kernel, rfl, by decide +kernel, by decide +kernel⟩
theorem scGives : FnScope ["face", "name"] ["face", "name"] (defScope sGives) := ⟨rfl, rfl, rfl, by decide +kernel, rfl, by decide +kernel, by decide +kernel⟩
/-- what the written part says of the class that refuses what is out of place -/
structure Oop (K : PySem.W.Frag) (mg : Str → Option Value) (C : Addr) : Prop where
  g : mg "OutOfPlace" = some (.ref C)
  x : PySem.W.excIn K C [.type "ValueError", .type "Exception", .type "BaseException", .type "object"] "ValueError.__new__" = true
  k : PySem.W.keepIn K (.ref C) = true
  b : PySem.W.subIn K (.ref C) (.type "BaseException") = some true
  t : PySem.W.typeIn K (.ref C) = some (.type "type")
section
variable {P : Program} {w : World} {K : PySem.W.Frag} {mg : Str → Option Value} {base : Heap}
/-! ### deed_number, takes_of, gives_of -/
def spDeedN (K : PySem.W.Frag) (C : Addr) : Sp := fun vs H Q E => ∃ (x y : V) (f : Fc) (T : String), vs = [x, y] ∧ Dp K H x f.d ∧ Is K H y T ∧
  ((∃ (z : Str) (e : De) (i : Nat), y = .str z ∧ f.ds[i]? = some e ∧ e.nm = z ∧ (f.ds.map De.nm).Pairwise lt ∧ ∀ H', Gr H H' → Q (.int (i : Nat)) H') ∨
    ((∀ z, y = .str z → z ∉ f.ds.map De.nm) ∧ ∀ H', Gr H H' → E (.ref C) none H'))
theorem ok_deedN {f fF C : Addr} {fd fdF : FuncData} {k : Nat} (F : Fun K "deed_number" "deed_number" sDeedN f fd) (HF : Has P w K mg base (k + 1) "find_deed" ["face", "name"] (spFind K) fF fdF) (O : Oop K mg C) :
    FnOk P w K mg base (L2.CX P w) (k + 2) f fd ["face", "name"] (spDeedN K C) := by
  refine F.okX scDeedN (fun vs H Q E h => ?_) (fun cdv A outer s H vs Q E hr h => ?_)
  · obtain ⟨x, y, f, T, rfl, _⟩ := h
    rfl
  · obtain ⟨x, y, f, T, rfl, hx, hy, q⟩ := h
    have nd := scDeedN.nd
    refine ⟨_, pss_cons (ps_set (i := 2) nd rfl (.inl rfl) (hcall HF hr (pa_cons (pv 0) (pa_cons (pv 1) pa_nil))))
      (pss_cons (ps_if (pt_cmpR op_isN (pv 2) pe_non (nomark _)) (pss_one (ps_raise rfl (takes_of (E := E) rfl rfl rfl rfl) (pmk_own PySem.F.excBase_ValueError O.x O.g O.k (raises_own O.b O.t) rfl))) pss_nil)
      (pss_one (ps_ret (pv 2)))), ?_⟩
    refine ⟨_, rfl, _, rfl, x, y, f, T, rfl, hx, hy, ?_⟩
    rcases q with ⟨z, e, i, h1, h2, h3, h4, q⟩ | ⟨h1, q⟩
    · exact .inl ⟨z, e, i, h1, h2, h3, h4, fun H' g => ⟨_, rfl, rfl, _, rfl, iteF ⟨_, rfl, q H' g⟩⟩⟩
    · exact .inr ⟨h1, fun H' g => ⟨_, rfl, rfl, _, rfl, iteT (q H' g)⟩⟩
def spTG (K : PySem.W.Frag) (C : Addr) (pick : De → PyData) : Sp := fun vs H Q E => ∃ (x y : V) (f : Fc) (T : String), vs = [x, y] ∧ Dp K H x f.d ∧ goF f ∧ Is K H y T ∧
  ((∃ (z : Str) (e : De) (i : Nat), y = .str z ∧ f.ds[i]? = some e ∧ e.nm = z ∧ ∀ H' v, Gr H H' → Dp K H' v (pick e) → Q v H') ∨
    ((∀ z, y = .str z → z ∉ f.ds.map De.nm) ∧ ∀ H', Gr H H' → E (.ref C) none H'))
theorem tyx_gr {H H' : Hp} {y : V} {t : Value} (g : Gr H H') (h : TyX K H y t) : TyX K H' y t := by
  cases h with
  | base b =>
    cases b with
    | non => exact .base .non
    | bl x => exact .base (.bl x)
    | int x => exact .base (.int x)
    | str x => exact .base (.str x)
    | flt x => exact .base (.flt x)
    | lst e => exact .base (.lst (g.keep _ _ e (fun _ z => by cases z)))
    | frz e => exact .base (.frz (g.keep _ _ e (fun _ z => by cases z)))
    | tup e => exact .base (.tup (g.keep _ _ e (fun _ z => by cases z)))
    | dK e => exact .base (.dK (g.keep _ _ e (fun _ z => by cases z)))
    | dT e => exact .base (.dT (g.keep _ _ e (fun _ z => by cases z)))
    | ins e c1 c2 c3 c4 c5 => exact .base (.ins (g.keep _ _ e (fun _ z => by cases z)) c1 c2 c3 c4 c5)
  | byt x => exact .byt x
  | set e => exact .set (g.keep _ _ e (fun _ z => by cases z))
  | kList e c => exact .kList e c
  | kTuple e c => exact .kTuple e c
  | kDict e c => exact .kDict e c
  | fTuple e => exact .fTuple (g.keep _ _ e (fun _ z => by cases z))
  | fDict e => exact .fDict (g.keep _ _ e (fun _ z => by cases z))
theorem is_gr {H H' : Hp} {y : V} {T : String} (g : Gr H H') (h : Is K H y T) : Is K H' y T := ⟨tyx_gr g h.1, h.2⟩
theorem ok_gives {f fF fD C : Addr} {fd fdF fdD : FuncData} {k : Nat} (F : Fun K "gives_of" "gives_of" sGives f fd) (HF : Has P w K mg base (k + 4) "need_face" ["face"] (spGood K .non) fF fdF)
    (G : FnOk P w K mg base (L2.CX P w) (k + 4) fD fdD ["face", "name"] (spDeedN K C)) (gD : mg "deed_number" = some (.ref fD)) (kD : PySem.W.keepIn K (.ref fD) = true) (bD : Binds K fdD ["face", "name"] []) :
    FnOk P w K mg base (L2.CX P w) (k + 5) f fd ["face", "name"] (spTG K C fun e => e.gv.d) := by
  refine F.okX scGives (fun vs H Q E h => ?_) (fun cdv A outer s H vs Q E hr h => ?_)
  · obtain ⟨x, y, f, T, rfl, _⟩ := h
    rfl
  · obtain ⟨x, y, f, T, rfl, hx, go, hy, q⟩ := h
    refine ⟨_, pss_cons (ps_expr (hcall HF hr (pa_cons (pv 0) pa_nil))) (pss_one (ps_ret (pe_ix ix_tup (pe_ix ix_tup (pe_ix ix_tup (pv 0) pe_int (fun _ _ => rfl))
      (pe_call G hr (by rfl) gD kD bD .nil (passes_call (takes_of (E := E) rfl rfl rfl rfl) (fun _ _ _ _ h => h)) (pa_cons (pv 0) (pa_cons (pv 1) pa_nil))) (fun _ _ => rfl)) pe_int (fun _ _ => rfl)))), ?_⟩
    refine ⟨_, rfl, x, f, rfl, hx, go, fun H1 g1 => ?_⟩
    have hx1 := g1.kd.dp hx
    obtain ⟨p, ph, pd, xs, rfl, hp, hph, hpd, dd⟩ := dp_face hx1
    refine ⟨_, rfl, p, _, 1, _, rfl, rfl, hp, rfl, _, rfl, _, rfl, .ref p, y, f, T, rfl, hx1, is_gr g1 hy, ?_⟩
    rcases q with ⟨z, e, i, h1, h2, h3, q⟩ | ⟨h1, q⟩
    · refine .inl ⟨z, e, i, h1, h2, h3, go.up, fun H2 g2 => ?_⟩
      obtain ⟨v, hv, dv⟩ := dpA_get (i := i) (d := e.d) (g2.kd.dpA dd) (by rw [List.getElem?_map, h2]; rfl)
      obtain ⟨pe, n1, t1, v1, rfl, hpe, dn, dt, dv⟩ := dp_3 dv
      exact ⟨pd, _, i, _, rfl, rfl, g2.sqt hpd, atI_nat hv, pe, _, 2, _, rfl, rfl, hpe, rfl, q H2 v1 (g1.trans g2) dv⟩
    · exact .inr ⟨h1, fun H2 g2 => q H2 (g1.trans g2)⟩
end
end SfC
namespace SfC
open PySem PySem.Spec PyProof.Rows L2 SfG
theorem dpA_app {K : PySem.W.Frag} {H : Hp} : ∀ {xs ys : List V} {ds es : List PyData}, DpAll K H xs ds → DpAll K H ys es → DpAll K H (xs ++ ys) (ds ++ es)
  | [], _, _, _, h, h2 => by cases h; exact h2
  | _ :: _, _, _, _, h, h2 => by
    cases h with
    | cons a b => exact .cons a (dpA_app b h2)
theorem sqt_lst {K : PySem.W.Frag} {H : Hp} {l a : Addr} {xs ys zs : List V} (hl : H l = some (.lst xs)) (h : SqT K H a ys) : SqT K (upd H l (.lst zs)) a ys := by
  rcases h with (h | ⟨o, h⟩) | h
  · refine .inl (.inl ?_)
    rw [upd_ne (by intro z; rw [z, hl] at h; cases h)]
    exact h
  · refine .inl (.inr ⟨o, ?_⟩)
    rw [upd_ne (by intro z; rw [z, hl] at h; cases h)]
    exact h
  · exact .inr h
end SfC
namespace SfC
open PySem PySem.Spec PyProof.Rows L2 SfG
theorem scMixed : FnScope ["_law_cell", "_law_k"] ["_law_cell", "_law_k"] (defScope sMixed) := ⟨rfl, rfl, rfl, by decide +kernel, rfl, by decide +kernel, by decide +kernel⟩
theorem scDraw : FnScope ["_law_cell", "_law_k"] ["_law_cell", "_law_k"] (defScope sDraw) := ⟨rfl, rfl, rfl, by decide +kernel, rfl, by decide +kernel, by decide +kernel⟩
theorem scDigit : FnScope ["_law_state", "_law_many", "_law_j", "_law_found"] ["_law_state", "_law_many"] (defScope sDigit) := ⟨rfl, rfl, rfl, by decide +kernel, rfl, by decide +kernel, by decide +kernel⟩
section
variable {P : Program} {w : World} {K : PySem.W.Frag} {mg : Str → Option Value} {base : Heap}
/-! ### the draws -/
def spMixed : Sp := fun vs H Q _ => ∃ a b : Int, vs = [.int a, .int b] ∧ 0 ≤ b ∧ b ≤ 1000000000 ∧ ∀ r, 0 ≤ r → r < 2147483647 → Q (.int r) H
theorem ok_mixed {f : Addr} {fd : FuncData} {k : Nat} (F : Fun K "_law_mixed" "_law_mixed" sMixed f fd) : FnOk P w K mg base CX0 (k + 1) f fd ["_law_cell", "_law_k"] spMixed := by
  refine F.ok scMixed (fun vs H Q E h => ?_) (fun cdv A outer s H vs Q E hr h => ?_)
  · obtain ⟨a, b, rfl, _⟩ := h
    rfl
  · obtain ⟨a, b, rfl, hb0, hb1, q⟩ := h
    refine ⟨_, pss_cons (ps_set (i := 0) scMixed.nd rfl (.inl rfl) (pe_op op_add (pe_op op_add (pe_op op_mod (pv 0) pe_int) (pe_op op_mul pe_int (pv 1))) pe_int))
      (pss_one (ps_ret (pe_op op_mod (pe_op op_mul (pe_op op_mod (pe_op op_mul (pv 0) (pv 0)) pe_int) pe_int) pe_int))), ?_⟩
    refine ⟨_, rfl, a, 1000000007, rfl, rfl, (by show (0 : Int) < 1000000007; decide), _, rfl, 7919, b, rfl, rfl, .inl ⟨by decide, by decide⟩, _, _, rfl, rfl, _, _, rfl, rfl, ?_⟩
    refine ⟨_, rfl, _, rfl, _, _, rfl, rfl, .inl ⟨?_, ?_⟩, _, 1000000007, rfl, rfl, (by show (0 : Int) < 1000000007; decide), _, 48271, rfl, rfl, .inr ⟨by decide, by decide⟩, _, 2147483647, rfl, rfl, (by show (0 : Int) < 2147483647; decide), q _ ?_ ?_⟩
    · have : (-(2 ^ 64) : Int) = -18446744073709551616 := by decide
      rw [this]
      omega
    · have : ((2 ^ 64) : Int) = 18446744073709551616 := by decide
      rw [this]
      omega
    · exact Int.emod_nonneg _ (by decide)
    · exact Int.emod_lt_of_pos _ (by decide)
/-- the state of a draw -/
abbrev kLeft : Key := Sum.inr ("left" : Str)
abbrev kSeed : Key := Sum.inr ("seed" : Str)
abbrev kTurns : Key := Sum.inr ("turns" : Str)
def kv3 (l s t : Int) : List (Key × V) := [(kLeft, .int l), (kSeed, .int s), (kTurns, .int t)]
def Drw (H : Hp) (p : Addr) (B : Int) : Prop := ∃ l s t, H p = some (.dK (kv3 l s t)) ∧ 0 ≤ l ∧ 0 ≤ t ∧ t ≤ B
theorem kv_left (l s t : Int) : valV (kv3 l s t) kLeft = some (.int l) := rfl
theorem kv_seed (l s t : Int) : valV (kv3 l s t) kSeed = some (.int s) := rfl
theorem kv_turns (l s t : Int) : valV (kv3 l s t) kTurns = some (.int t) := rfl
theorem put_left (l s t l' : Int) : putK (kv3 l s t) kLeft (.int l') = kv3 l' s t := rfl
theorem put_turns (l s t t' : Int) : putK (kv3 l s t) kTurns (.int t') = kv3 l s t' := rfl
theorem get_left {H : Hp} {p : Addr} {l s t : Int} (h : H p = some (.dK (kv3 l s t))) : DGet H p (.str "left") (some (.int l)) := DGet.k (k := kLeft) h
theorem get_seed {H : Hp} {p : Addr} {l s t : Int} (h : H p = some (.dK (kv3 l s t))) : DGet H p (.str "seed") (some (.int s)) := DGet.k (k := kSeed) h
theorem get_turns {H : Hp} {p : Addr} {l s t : Int} (h : H p = some (.dK (kv3 l s t))) : DGet H p (.str "turns") (some (.int t)) := DGet.k (k := kTurns) h
theorem set_left {H : Hp} {p : Addr} {l s t l' : Int} (h : H p = some (.dK (kv3 l s t))) : DPut H p (.str "left") (.int l') (upd H p (.dK (kv3 l' s t))) := DPut.k (k := kLeft) h (by show 3 < sizeLine; decide)
theorem set_turns {H : Hp} {p : Addr} {l s t t' : Int} (h : H p = some (.dK (kv3 l s t))) : DPut H p (.str "turns") (.int t') (upd H p (.dK (kv3 l s t'))) := DPut.k (k := kTurns) h (by show 3 < sizeLine; decide)
theorem gr_new2 {H : Hp} {p : Addr} {o o' : HO} (h : H p = none) : Gr H (upd (upd H p o) p o') := by
  refine Gr.same ?_
  intro b x e
  have n : b ≠ p := ne_of_none e h
  rw [upd_ne n, upd_ne n]
  exact e
def spDraw : Sp := fun vs H Q _ => ∃ a b : Int, vs = [.int a, .int b] ∧ 0 ≤ b ∧ b ≤ 1000 ∧ ∀ H' p, H p = none → Gr H H' → Drw H' p b → Q (.ref p) H'
theorem ok_draw {f fM : Addr} {fd fdM : FuncData} (F : Fun K "_law_draw" "_law_draw" sDraw f fd) (FM : Fun K "_law_mixed" "_law_mixed" sMixed fM fdM) (bM : Binds K fdM ["_law_cell", "_law_k"] []) (gM : mg "_law_mixed" = some (.ref fM)) :
    FnOk P w K mg base CX0 2 f fd ["_law_cell", "_law_k"] spDraw := by
  have GM : FnOk P w K mg base CX0 1 fM fdM ["_law_cell", "_law_k"] spMixed := ok_mixed FM
  refine F.ok scDraw (fun vs H Q E h => ?_) (fun cdv A outer s H vs Q E hr h => ?_)
  · obtain ⟨a, b, rfl, _⟩ := h
    rfl
  · obtain ⟨a, b, rfl, hb0, hb1, q⟩ := h
    refine ⟨_, pss_one (ps_ret (pe_disp (pps_cons pe_str (pe_ifExp (pt_cmpR op_ge (pv 0) (pe_op op_pow pe_int pe_int) (nomark _)) (pv 0) pe_int)
      (pps_cons pe_str (pe_call GM hr (by rfl) gM FM.kp bM .nil pass0 (pa_cons (pv 0) (pa_cons (pv 1) pa_nil)))
      (pps_cons pe_str (pv 1) pps_nil))) (by rfl) (by rfl) (fun z => by cases z) (by decide))), ?_⟩
    intro p np
    have key : ∀ l : Int, 0 ≤ l → tPairs [(tC (V.str "seed"), tCall spMixed [] E0 (tCons (tVar 0) (tCons (tVar 1) tNil))), (tC (V.str "turns"), tVar 1)] (L2.start ["_law_cell", "_law_k"] [V.int a, V.int b]) (upd H p (.dK []))
        (fun ps H3 => H3 p = some (.dK []) ∧ ∃ kvs : List (Key × V), (V.str "left", V.int l) :: ps = kvs.map (fun kv => (kV kv.1, kv.2)) ∧ kvs.length ≤ 15 ∧ Q (.ref p) (upd H3 p (.dK (mergeK [] kvs)))) := by
      intro l hl
      refine ⟨_, rfl, _, rfl, a, b, rfl, hb0, by omega, ?_⟩
      intro r h0 h1
      refine ⟨_, rfl, upd_same, kv3 l r b, rfl, by show 3 ≤ 15; decide, ?_⟩
      refine q _ p np ?_ ⟨l, r, b, ?_, hl, hb0, Int.le_refl b⟩
      · exact gr_new2 np
      · rw [upd_same]
        rfl
    refine ⟨_, rfl, 10, 18, rfl, rfl, ⟨by decide, by decide, by decide⟩, _, _, rfl, rfl, _, rfl, ite2 (fun e => ?_) (fun e => ?_)⟩
    · have e' : a ≥ 10 ^ 18 := of_decide_eq_true e
      refine ⟨_, rfl, key a ?_⟩
      have : (0 : Int) ≤ 10 ^ 18 := by decide
      omega
    · exact key 0 (by decide)
def spDigit : Sp := fun vs H Q _ => ∃ (p : Addr) (m B : Int), vs = [.ref p, .int m] ∧ Drw H p B ∧ B ≤ 100000 ∧ 0 < m ∧ m ≤ 1000000000 ∧
  ∀ H' d, But p H H' → Drw H' p (B + 1) → 0 ≤ d → d < m → Q (.int d) H'
theorem ok_digit {f fM : Addr} {fd fdM : FuncData} (F : Fun K "_law_digit" "_law_digit" sDigit f fd) (FM : Fun K "_law_mixed" "_law_mixed" sMixed fM fdM) (bM : Binds K fdM ["_law_cell", "_law_k"] []) (gM : mg "_law_mixed" = some (.ref fM)) (mr : mg "range" = none) :
    FnOk P w K mg base CX0 2 f fd ["_law_state", "_law_many"] spDigit := by
  have GM : FnOk P w K mg base CX0 1 fM fdM ["_law_cell", "_law_k"] spMixed := ok_mixed FM
  refine F.ok scDigit (fun vs H Q E h => ?_) (fun cdv A outer s H vs Q E hr h => ?_)
  · obtain ⟨p, m, B, rfl, _⟩ := h
    rfl
  · obtain ⟨p, m, B, rfl, ⟨l, sd, t, hp, hl, ht, htB⟩, hB, hm0, hm1, q⟩ := h
    refine ⟨_, pss_cons (ps_if (pt_cmpR op_eq (pe_dget (hu_of hr) (pv 0) pe_str (fun _ _ => rfl)) pe_int (nomark _))
        (pss_cons (ps_dput (hu_of hr) (pv 0) pe_str (pe_op op_add (pe_dget (hu_of hr) (pv 0) pe_str (fun _ _ => rfl)) pe_int) rfl)
        (pss_one (ps_for PassesOwn.never rfl (pi_range1 rfl mr (pa_cons pe_int pa_nil)) (pg_name (i := 2) scDigit.nd rfl (Or.inl rfl))
          (pss_one (ps_dput (hu_of hr) (pv 0) pe_str (pe_op op_add (pe_op op_mul (pe_dget (hu_of hr) (pv 0) pe_str (fun _ _ => rfl)) pe_int)
            (pe_call GM hr (by rfl) gM FM.kp bM .nil pass0 (pa_cons (pe_dget (hu_of hr) (pv 0) pe_str (fun _ _ => rfl)) (pa_cons (pe_op op_add (pe_op op_mul pe_int (pe_dget (hu_of hr) (pv 0) pe_str (fun _ _ => rfl))) (pv 2)) pa_nil)))) rfl))))) pss_nil)
      (pss_cons (ps_set (i := 3) scDigit.nd rfl (.inl rfl) (pe_op op_mod (pe_dget (hu_of hr) (pv 0) pe_str (fun _ _ => rfl)) (pv 1)))
      (pss_cons (ps_dput (hu_of hr) (pv 0) pe_str (pe_op op_fdivW (pe_dget (hu_of hr) (pv 0) pe_str (fun _ _ => rfl)) (pv 1)) rfl)
      (pss_one (ps_ret (pv 3))))), ?_⟩
    -- what follows the if
    have tail : ∀ (H1 : Hp) (l1 s1 t1 : Int) (y2 y3 : Option V), But p H H1 → H1 p = some (.dK (kv3 l1 s1 t1)) → 0 ≤ l1 → 0 ≤ t1 → t1 ≤ B + 1 →
        tSeq (tAsg (tOp (rI (fun _ j => 0 < j) fun i j => .int (i % j)) (tDGet (tVar 0) (tC (.str "left"))) (tVar 1)) (gName 3))
          (tSeq (sDPut (tVar 0) (tC (.str "left")) (tOp (rI CDivW fun i j => .int (i / j)) (tDGet (tVar 0) (tC (.str "left"))) (tVar 1))) (tRet (tVar 3)))
          { nx := fun _ H' => Q .non H', rt := Q } [some (.ref p), some (.int m), y2, y3] H1 := by
      intro H1 l1 s1 t1 y2 y3 hb h1 hl1 ht1 htb
      refine ⟨_, rfl, p, _, rfl, get_left h1, _, rfl, l1, m, rfl, rfl, hm0, ?_⟩
      refine ⟨_, rfl, p, _, rfl, get_left h1, _, rfl, l1, m, rfl, rfl, wide_div (b := 40) hm0 ?_ (by decide) (by decide), _, rfl, p, _, rfl, set_left h1, _, rfl, q _ _ hb.upd ⟨l1 / m, s1, t1, upd_same, ?_, ht1, htb⟩ ?_ ?_⟩
      · have : (2 : Nat) ^ 40 = 1099511627776 := by decide
        rw [this]
        omega
      · exact Int.ediv_nonneg hl1 (by omega)
      · exact Int.emod_nonneg _ (by omega)
      · exact Int.emod_lt_of_pos _ hm0
    refine ⟨_, rfl, p, _, rfl, get_left hp, rfl, _, rfl, ite2 (fun e => ?_) (fun e => ?_)⟩
    · -- state['turns'] = state['turns'] + 1
      refine ⟨_, rfl, p, _, rfl, get_turns hp, t, 1, rfl, rfl, _, rfl, p, _, rfl, set_turns hp, ?_⟩
      refine ⟨4, rfl, by decide, by decide, for_range (n := 4) (fun i σ H1 => ∃ (l1 : Int) (y2 : Option V), σ = [some (.ref p), some (.int m), y2, none] ∧ But p H H1 ∧ H1 p = some (.dK (kv3 l1 sd (t + 1))) ∧ 0 ≤ l1) ?_ ?_ ?_⟩
      · exact ⟨l, none, rfl, But.upd (fun _ _ => rfl), upd_same, hl⟩
      · rintro i σ H1 hi ⟨l1, y2, rfl, hb, h1, hl1⟩
        refine ⟨_, rfl, p, _, rfl, get_left h1, l1, 2147483647, rfl, rfl, .inr ⟨by decide, by decide⟩, ?_⟩
        refine ⟨_, rfl, p, _, rfl, get_seed h1, _, rfl, p, _, rfl, get_turns h1, 4, t + 1, rfl, rfl, .inl ⟨by decide, by decide⟩, _, rfl, _, _, rfl, rfl, sd, _, rfl, by omega, by omega, ?_⟩
        intro r h0 hr1
        refine ⟨_, _, rfl, rfl, _, rfl, p, _, rfl, set_left h1, _, _, rfl, hb.upd, upd_same, ?_⟩
        have : 0 ≤ l1 * 2147483647 := Int.mul_nonneg hl1 (by decide)
        omega
      · rintro σ H1 ⟨l1, y2, rfl, hb, h1, hl1⟩
        exact tail H1 l1 sd (t + 1) y2 none hb h1 hl1 (by omega) (by omega)
    · exact tail H l sd t none none (fun _ _ => rfl) hp hl ht (by omega)
end
end SfC
namespace SfC
open PySem PySem.Spec PyProof.Rows L2 SfG
theorem Drw.gr {H H' : Hp} {p : Addr} {B : Int} (d : Drw H p B) (g : Gr H H') : Drw H' p B := by
  obtain ⟨l, s, t, h, r⟩ := d
  exact ⟨l, s, t, g.dic h, r⟩
theorem Drw.ne {H : Hp} {p q : Addr} {B : Int} (d : Drw H p B) (h : H q = none) : q ≠ p := by
  obtain ⟨l, s, t, e, _⟩ := d
  intro z
  rw [z, e] at h
  cases h
theorem Drw.new {H : Hp} {p q : Addr} {B : Int} {o : HO} (d : Drw H p B) (h : H q = none) : Drw (upd H q o) p B := d.gr (Gr.new h)
theorem Drw.mono {H : Hp} {p : Addr} {B B' : Int} (d : Drw H p B) (h : B ≤ B') : Drw H p B' := by
  obtain ⟨l, s, t, e, h1, h2, h3⟩ := d
  exact ⟨l, s, t, e, h1, h2, Int.le_trans h3 h⟩
theorem Drw.upd {H : Hp} {p q : Addr} {B : Int} {o : HO} (d : Drw H p B) (h : q ≠ p) : Drw (upd H q o) p B := by
  obtain ⟨l, s, t, e, r⟩ := d
  exact ⟨l, s, t, (upd_ne (Ne.symm h)).trans e, r⟩
theorem small1000 {n : Nat} (h : n ≤ 1000) : n < sizeLine := by
  rw [sizeLine_eq]
  omega
/-! ### order -/
theorem lt_tri : ∀ a b : List Nat, a < b ∨ a = b ∨ b < a
  | [], [] => .inr (.inl rfl)
  | [], b :: t => .inl (List.nil_lt_cons b t)
  | a :: r, [] => .inr (.inr (List.nil_lt_cons a r))
  | a :: r, b :: t => by
    rcases Nat.lt_trichotomy a b with h | h | h
    · exact .inl (List.cons_lt_cons_iff.mpr (.inl h))
    · subst h
      rcases lt_tri r t with h | h | h
      · exact .inl (List.cons_lt_cons_iff.mpr (.inr ⟨rfl, h⟩))
      · exact .inr (.inl (by rw [h]))
      · exact .inr (.inr (List.cons_lt_cons_iff.mpr (.inr ⟨rfl, h⟩)))
    · exact .inr (.inr (List.cons_lt_cons_iff.mpr (.inl h)))
theorem lt_trans' {a b c : Str} (h1 : lt a b) (h2 : lt b c) : lt a c := List.lt_trans h1 h2
theorem str_ext {a b : Str} (h : a.cps.toList = b.cps.toList) : a = b := by
  cases a
  cases b
  simp at h
  rw [h]
theorem rise : ∀ (r : List Str) (p : Str), risingS p r = true → (p :: r).Nodup → (p :: r).Pairwise lt
  | [], p, _, _ => by simp
  | x :: t, p, h, nd => by
    unfold risingS at h
    rw [Bool.and_eq_true, Bool.not_eq_true', ltCps_eq] at h
    have ih := rise t x h.2 (List.nodup_cons.mp nd).2
    have np : p ≠ x := fun e => (List.nodup_cons.mp nd).1 (by rw [e]; exact List.mem_cons_self)
    have l1 : lt p x := by
      rcases lt_tri p.cps.toList x.cps.toList with h1 | h1 | h1
      · exact h1
      · exact absurd (str_ext h1) np
      · have z := h.1
        rw [decide_eq_true h1] at z
        cases z
    refine List.pairwise_cons.mpr ⟨fun y hy => ?_, ih⟩
    rcases List.mem_cons.mp hy with rfl | hy
    · exact l1
    · exact lt_trans' l1 ((List.pairwise_cons.mp ih).1 y hy)
theorem sorted_up {ys xs : List Str} (h : sortedS ys = true) (p : ys.Perm xs) (nd : xs.Nodup) : ys.Pairwise lt := by
  have ndy : ys.Nodup := p.nodup_iff.mpr nd
  cases ys with
  | nil => exact List.Pairwise.nil
  | cons a r => exact rise r a h ndy
/-! ### texts of letters -/
theorem joinL_mem {ls : List (List Nat)} {c : Nat} (h : c ∈ TL.joinL [] ls) : ∃ l ∈ ls, c ∈ l := by
  induction ls with
  | nil => cases h
  | cons p r ih =>
    cases r with
    | nil => exact ⟨p, List.mem_cons_self, h⟩
    | cons q r =>
      have h' : c ∈ p ++ ([] ++ TL.joinL [] (q :: r)) := h
      rcases List.mem_append.mp h' with h1 | h1
      · exact ⟨p, List.mem_cons_self, h1⟩
      · obtain ⟨l, hl, hc⟩ := ih (by simpa using h1)
        exact ⟨l, List.mem_cons_of_mem _ hl, hc⟩
theorem joinL_len {ls : List (List Nat)} (h : ∀ l ∈ ls, l.length = 1) : (TL.joinL [] ls).length = ls.length := by
  induction ls with
  | nil => rfl
  | cons p r ih =>
    have hp := h p List.mem_cons_self
    have hr := ih fun l hl => h l (List.mem_cons_of_mem _ hl)
    cases r with
    | nil => exact hp
    | cons q r =>
      show (p ++ ([] ++ TL.joinL [] (q :: r))).length = _
      rw [List.length_append, List.nil_append, hr, hp]
      simp
      omega
abbrev nought : Str := ""
theorem len_list (z : Str) : z.length = z.cps.toList.length := by simp [Str.length]
/-- one letter -/
def one (y : Str) : Prop := ∃ c, y = ⟨#[c]⟩ ∧ isLet c = true
theorem join_name {acc : List Str} (h : ∀ y ∈ acc, one y) (h1 : 1 ≤ acc.length) (h8 : acc.length ≤ 8) : isN (Txt.join nought acc) = true := by
  have hl : (Txt.join nought acc).length = acc.length := by
    have e : (TL.tl (Txt.join nought acc)).length = acc.length := by
      rw [TL.join_eq, TL.tl_join]
      rw [show TL.tl nought = [] from rfl, joinL_len, List.length_map]
      intro l hl
      obtain ⟨y, hy, rfl⟩ := List.mem_map.mp hl
      obtain ⟨c, rfl, _⟩ := h y hy
      rfl
    rw [len_list]
    exact e
  unfold isN
  rw [hl, decide_eq_true h8, decide_eq_true h1]
  refine List.all_eq_true.mpr fun c hc => ?_
  have hc' : c ∈ TL.tl (Str.join nought acc) := by
    rw [← TL.join_eq]
    exact hc
  rw [TL.tl_join] at hc'
  obtain ⟨l, hl', hcl⟩ := joinL_mem hc'
  obtain ⟨y, hy, rfl⟩ := List.mem_map.mp hl'
  obtain ⟨d, rfl, hd⟩ := h y hy
  have e : c = d := by simpa [TL.tl] using hcl
  rw [e]
  exact hd
theorem sum_ones : ∀ {acc : List Str}, (∀ y ∈ acc, y.length = 1) → (acc.map (·.length)).sum = acc.length
  | [], _ => rfl
  | a :: r, h => by
    rw [List.map_cons, List.sum_cons, h a List.mem_cons_self, sum_ones fun y hy => h y (List.mem_cons_of_mem _ hy), List.length_cons]
    omega
theorem letter_at {d : Int} (h0 : 0 ≤ d) (h1 : d < 26) : ∃ c, letters.cps[d.toNat]? = some c ∧ isLet c = true := by
  have e : ∀ n : Nat, n < 26 → ∃ c, letters.cps[n]? = some c ∧ isLet c = true := by
    intro n hn
    have hs : letters.cps.size = 26 := by decide +kernel
    refine ⟨letters.cps[n]'(by omega), by simp [show n < letters.cps.size by omega], ?_⟩
    unfold isLet
    exact decide_eq_true (by simp)
  exact e d.toNat (by omega)
theorem inV_not {s : Str} {l : List Str} : inV (.str s) (l.map V.str) = decide (s ∈ l) := by
  by_cases h : s ∈ l
  · rw [decide_eq_true h]
    exact inV_mem h
  · rw [decide_eq_false h]
    unfold inV
    rw [List.any_map]
    refine List.any_eq_false.mpr fun y hy => ?_
    simp [eqV]
    intro e
    exact h (e ▸ hy)
/-! ### _law_names -/
end SfC
namespace SfC
open PySem PySem.Spec PyProof.Rows L2 SfG
section
variable {P : Program} {w : World} {K : PySem.W.Frag} {mg : Str → Option Value} {base : Heap}
theorem Drw.kd {H H' : Hp} {p : Addr} {B : Int} (d : Drw H p B) (g : Gp p H H') : Kd K H H' := by
  obtain ⟨l, s, t, e, _⟩ := d
  exact g.kd e
end
/-! ### a list that is changed: what deeds are stays -/
theorem de_lst {K : PySem.W.Frag} {H : Hp} {l : Addr} {xs zs : List V} {x : V} {e : De} (hl : H l = some (.lst xs)) (h : Dp K H x e.d) : Dp K (upd H l (.lst zs)) x e.d := by
  obtain ⟨p, a, b, c, rfl, hp, ha, hb, hc⟩ := dp_3 h
  cases dp_str ha
  cases dp_kn hc
  obtain ⟨pt, ts, rfl, hpt, hts⟩ := dp_tup hb
  cases dpA_kns hts
  refine .tup (sqt_lst hl hp) (.cons (.str _) (.cons (.tup (sqt_lst hl hpt) ?_) (.cons ?_ .nil)))
  · generalize e.tk = l'
    induction l' with
    | nil => exact .nil
    | cons k r ih =>
      refine .cons ?_ ih
      cases k with
      | h s => exact .str s
      | p n => exact .int n
  · generalize e.gv = k
    cases k with
    | h s => exact .str s
    | p n => exact .int n
theorem des_lst {K : PySem.W.Frag} {H : Hp} {l : Addr} {xs zs : List V} (hl : H l = some (.lst xs)) : ∀ {es : List De} {ys : List V}, DpAll K H ys (es.map De.d) → DpAll K (upd H l (.lst zs)) ys (es.map De.d)
  | [], _, h => by
    cases h
    exact .nil
  | e :: r, _, h => by
    obtain ⟨x, t, rfl, hx, ht⟩ := dpA_cons h
    exact .cons (de_lst hl hx) (des_lst hl ht)
theorem dp_kv {K : PySem.W.Frag} {H : Hp} (k : Kn) : Dp K H k.v k.d := by
  cases k with
  | h s => exact .str s
  | p n => exact .int n
theorem dpA_kv {K : PySem.W.Frag} {H : Hp} : ∀ l : List Kn, DpAll K H (l.map Kn.v) (l.map Kn.d)
  | [] => .nil
  | k :: r => .cons (dp_kv k) (dpA_kv r)
theorem dpA_sv {K : PySem.W.Frag} {H : Hp} : ∀ l : List Str, DpAll K H (l.map V.str) (l.map PyData.str)
  | [] => .nil
  | k :: r => .cons (.str k) (dpA_sv r)
theorem flat_kn (k : Kn) : flatV k.v = true := by
  cases k <;> rfl
theorem in_kn {hd : List Str} {k : Kn} (h : goK hd k) : inV k.v (hd.map V.str) = k.isH := by
  cases k with
  | h s => exact inV_mem h
  | p n =>
    show inV (.int n) (hd.map V.str) = false
    unfold inV
    rw [List.any_map]
    exact List.any_eq_false.mpr fun y hy => by simp [eqV]
end SfC
namespace SfC
open PySem PySem.Spec PyProof.Rows L2 SfG
/-! ### faces and what is none: names, kinds -/
/-- data that is not too great -/
abbrev Go (d : PyData) : Prop := Wt d 1000000 60
theorem Go.fit {z : Str} (h : Go (.str z)) : z.length ≤ sizeLine := by
  have := h.text
  rw [sizeLine_eq]
  omega
theorem Go.at {ds : List PyData} {i : Nat} {d : PyData} (h : Go (.tuple ds)) (e : ds[i]? = some d) : Go d := h.un.1.get e
theorem Go.mem {ds : List PyData} {d : PyData} (h : Go (.tuple ds)) (e : d ∈ ds) : Go d := by
  obtain ⟨i, hi⟩ := List.getElem?_of_mem e
  exact h.at hi
def nmD : PyData → Bool
  | .str z => isN z
  | _ => false
def knD (hd : List Str) : PyData → Bool
  | .str z => decide (z ∈ hd)
  | .int i => decide (2 ≤ i) && decide (i ≤ 9)
  | _ => false
def isS : PyData → Bool
  | .str _ => true
  | _ => false
/-- the first that can't be: no name, or one that doesn't rise behind the one ahead -/
def fbh (a : Str) (i : Nat) : List PyData → Option Nat
  | [] => none
  | .str z :: r => if (isN z && decide (lt a z)) = true then fbh z (i + 1) r else some i
  | _ :: _ => some i
def deD (hd : List Str) (a : Str) : PyData → Bool
  | .tuple [.str z, .tuple ks, g] => (isN z && decide (lt a z)) && (decide (ks.length ≤ 3) && (knD hd g && (ks.all (knD hd) && decide ((ks.filter isS).length ≤ 2))))
  | _ => false
def nmOf : PyData → Str
  | .tuple (.str z :: _) => z
  | _ => ""
def fbd (hd : List Str) (a : Str) (i : Nat) : List PyData → Option Nat
  | [] => none
  | d :: r => if deD hd a d = true then fbd hd (nmOf d) (i + 1) r else some i
def onV : Option Nat → V
  | none => .non
  | some n => .int (n : Int)
theorem isN_by (z : Str) : isN z = (decide ((z.length : Int) ≤ 8) && (Txt.isalpha z && (Txt.islower z && Txt.isascii z))) := by
  unfold isN
  rw [name_txt]
  have e : decide (z.length ≤ 8) = decide ((z.length : Int) ≤ 8) := by
    by_cases c : z.length ≤ 8
    · rw [decide_eq_true c, decide_eq_true (by omega)]
    · rw [decide_eq_false c, decide_eq_false (by omega)]
  rw [e]
theorem inV_strs {s : Str} {l : List Str} : inV (.str s) (l.map V.str) = decide (s ∈ l) := by
  by_cases h : s ∈ l
  · rw [decide_eq_true h]
    exact inV_mem h
  · rw [decide_eq_false h]
    unfold inV
    rw [List.any_map]
    refine List.any_eq_false.mpr fun y hy => ?_
    simp [eqV]
    intro e
    exact h (e ▸ hy)
section
variable {P : Program} {w : World} {K : PySem.W.Frag} {mg : Str → Option Value} {base : Heap}
def spNameX (K : PySem.W.Frag) : Sp := fun vs H Q _ => ∃ (x : V) (d : PyData), vs = [x] ∧ Dx K H x d ∧ Go d ∧ Q (.bl (nmD d)) H
theorem ok_nameX {f : Addr} {fd : FuncData} {k : Nat} (F : Fun K "is_name" "is_name" sName f fd) (mi : mg "isinstance" = none) (m1 : mg "str" = none) (ml : mg "len" = none) :
    FnOk P w K mg base CX0 (k + 1) f fd ["thing"] (spNameX K) := by
  refine F.ok scName (fun vs H Q E h => ?_) (fun cdv A outer s H vs Q E hr h => ?_)
  · obtain ⟨x, d, rfl, _⟩ := h
    rfl
  · obtain ⟨x, d, rfl, hx, hz, q⟩ := h
    have hI := dx_is hx
    refine ⟨_, pss_one (ps_ret (pe_and (pe_isi "str" 0 mi m1 (by decide +kernel))
      (pe_and (pe_cmpR op_le (pe_callB call_len_str (by rfl) ml PySem.boot_len (pa_cons (pv 0) pa_nil)) pe_int (nomark _))
      (pe_and (pe_m0 PySem.F.slot_str_isalpha PySem.F.type_str_isalpha mt_isalpha (pv 0))
      (pe_and (pe_m0 PySem.F.slot_str_islower PySem.F.type_str_islower mt_islower (pv 0))
      (pe_one (pe_m0 PySem.F.slot_str_isascii PySem.F.type_str_isascii mt_isascii (pv 0)))))))), ?_⟩
    refine ⟨x, rfl, _, _, hI.1, kit_str _ hI.2, _, rfl, ?_⟩
    cases d with
    | str z =>
      cases dx_str hx
      have q' : Q (.bl (isN z)) H := q
      rw [isN_by] at q'
      refine iteT ⟨_, rfl, z, rfl, hz.fit, _, 8, rfl, rfl, _, rfl, ?_⟩
      cases h1 : decide ((z.length : Int) ≤ 8) with
      | false =>
        rw [h1] at q'
        exact iteF q'
      | true =>
        rw [h1, Bool.true_and] at q'
        refine iteT ⟨_, rfl, ⟨z, rfl⟩, z, rfl, rfl, trivial, _, rfl, ?_⟩
        cases h2 : Txt.isalpha z with
        | false =>
          rw [h2] at q'
          exact iteF q'
        | true =>
          rw [h2, Bool.true_and] at q'
          refine iteT ⟨_, rfl, ⟨z, rfl⟩, z, rfl, rfl, trivial, _, rfl, ?_⟩
          cases h3 : Txt.islower z with
          | false =>
            rw [h3] at q'
            exact iteF q'
          | true =>
            rw [h3, Bool.true_and] at q'
            exact iteT ⟨_, rfl, ⟨z, rfl⟩, z, rfl, rfl, trivial, q'⟩
    | _ => exact iteF q
def spKindX (K : PySem.W.Frag) : Sp := fun vs H Q _ => ∃ (x : V) (d : PyData) (hd : List Str) (p : Addr), vs = [x, .ref p] ∧ Dx K H x d ∧ SqT K H p (hd.map V.str) ∧ Q (.bl (knD hd d)) H
theorem ok_kindX {f : Addr} {fd : FuncData} {k : Nat} (F : Fun K "is_kind" "is_kind" sKind f fd) (mi : mg "isinstance" = none) (m1 : mg "str" = none) (m2 : mg "int" = none) :
    FnOk P w K mg base CX0 (k + 1) f fd ["thing", "hidden"] (spKindX K) := by
  refine F.ok scKind (fun vs H Q E h => ?_) (fun cdv A outer s H vs Q E hr h => ?_)
  · obtain ⟨x, d, hd, p, rfl, _⟩ := h
    rfl
  · obtain ⟨x, d, hd, p, rfl, hx, hp, q⟩ := h
    have hI := dx_is hx
    refine ⟨_, pss_cons (ps_if (pt_val (pe_isi "str" 0 mi m1 (by decide +kernel))) (pss_one (ps_ret (pe_cmpR op_in_seq (pv 0) (pv 1) rfl))) pss_nil)
      (pss_one (ps_ret (pe_and (pe_isi "int" 0 mi m2 (by decide +kernel)) (pe_one (pe_chain op_leX op_le pe_int (pv 0) pe_int))))), ?_⟩
    refine ⟨x, rfl, _, _, hI.1, kit_str _ hI.2, _, rfl, ?_⟩
    cases d with
    | str z =>
      cases dx_str hx
      refine iteT ⟨_, rfl, _, rfl, p, _, rfl, .inr hp, rfl, flat_strs hd, ?_⟩
      show Q (.bl (inV (.str z) (hd.map V.str))) H
      rw [inV_strs]
      exact q
    | int i =>
      cases dx_int hx
      refine iteF ⟨.int i, rfl, _, _, hI.1, kit_int _ hI.2, _, rfl, iteT ⟨_, rfl, 2, rfl, .inl ⟨i, rfl, _, rfl, ?_⟩⟩⟩
      have q' : Q (.bl (decide (2 ≤ i) && decide (i ≤ 9))) H := q
      cases h1 : decide (2 ≤ i) with
      | true =>
        rw [h1] at q'
        exact iteT ⟨i, 9, rfl, rfl, q'⟩
      | false =>
        rw [h1] at q'
        exact iteF q'
    | bool b =>
      cases dx_bool hx
      refine iteF ⟨.bl b, rfl, _, _, hI.1, kit_int _ hI.2, _, rfl, iteT ⟨_, rfl, 2, rfl, .inr ⟨b, rfl, _, rfl, ?_⟩⟩⟩
      have e : decide ((2 : Int) ≤ SfG.b2i b) = false := by cases b <;> decide
      rw [e]
      exact iteF q
    | _ => exact iteF ⟨x, rfl, _, _, hI.1, kit_int _ hI.2, _, rfl, iteF q⟩
/-! ### first_bad_hidden -/
def spBadHX (K : PySem.W.Frag) : Sp := fun vs H Q _ => ∃ (x : V) (ds : List PyData), vs = [x] ∧ Dx K H x (.tuple ds) ∧ Go (.tuple ds) ∧ ∀ H', Gr H H' → Q (onV (fbh "" 0 ds)) H'
theorem ok_badHX {f fN : Addr} {fd fdN : FuncData} {k : Nat} (F : Fun K "first_bad_hidden" "first_bad_hidden" sBadH f fd) (HN : Has P w K mg base (k + 1) "is_name" ["thing"] (spNameX K) fN fdN) (me : mg "enumerate" = none) :
    FnOk P w K mg base CX0 (k + 2) f fd ["hidden"] (spBadHX K) := by
  refine F.ok scBadH (fun vs H Q E h => ?_) (fun cdv A outer s H vs Q E hr h => ?_)
  · obtain ⟨x, ds, rfl, _⟩ := h
    rfl
  · obtain ⟨x, ds, rfl, hx, go, q⟩ := h
    have nd := scBadH.nd
    refine' ⟨_, pss_cons (ps_set (i := 1) nd rfl (.inl rfl) pe_str) (pss_cons (ps_for PassesOwn.never rfl (pi_enumT (by rfl) me (pa_cons (pv 0) pa_nil))
      (pg_tup rfl (pgs_cons (pg_name (i := 2) nd rfl (.inl rfl)) (pgs_cons (pg_name (i := 3) nd rfl (.inl rfl)) pgs_nil))) (pss_cons ?b1 (pss_one ?b2))) (pss_one (ps_ret pe_non))), ?rd⟩
    case b1 => exact ps_if (PW.pt (pw_or (pt_not (pt_val (hcall HN hr (pa_cons (pv 3) pa_nil)))) (pw_or1 (pt_cmpR op_le_str (pv 3) (pv 1) (nomark _))))) (pss_one (ps_ret (pv 2))) pss_nil
    case b2 => exact ps_set (i := 1) nd rfl (.inl rfl) (pv 3)
    case rd =>
    obtain ⟨pd, xs, rfl, hpd, hxs⟩ := dx_tup hx
    have hl := dxA_len hxs
    refine ⟨_, rfl, pd, xs, rfl, hpd, for_it (walk_enumT (xs := xs)) (fun i σ H1 => ∃ (a : Str) (y2 y3 : Option V), σ = [some (.ref pd), some (.str a), y2, y3] ∧ Gr H H1 ∧ fbh "" 0 ds = fbh a i (ds.drop i)) ⟨"", none, none, rfl, Gr.refl H, rfl⟩ ?h1 ?h2 ?h3⟩
    case h1 =>
      rintro i σ H1 hi ⟨a, y2, y3, rfl, g, _⟩
      exact g.sqt hpd
    case h3 =>
      rintro σ H1 ⟨a, y2, y3, rfl, g, e⟩
      rw [hl, List.drop_length] at e
      have := q H1 g
      rw [e] at this
      exact this
    case h2 =>
      rintro i x σ H1 H2 hi ⟨a, y2, y3, rfl, g, e⟩ ⟨T, na, b, rfl, nT, rfl, ha, hb⟩
      cases ha
      obtain ⟨d, hd, dx⟩ := dxA_at hxs hb
      have ed : ds.drop i = d :: ds.drop (i + 1) := by
        obtain ⟨hi', e'⟩ := List.getElem?_eq_some_iff.mp hd
        rw [List.drop_eq_getElem_cons hi', e']
      have gd := go.at hd
      rw [ed] at e
      have g2 : Gr H (upd H1 T (.tup [.int (i : Nat), b])) := g.trans (Gr.new nT)
      have hT : upd H1 T (.tup [.int (i : Nat), b]) T = some (.tup [.int (i : Nat), b]) := upd_same
      generalize upd H1 T (.tup [.int (i : Nat), b]) = H2 at g2 hT ⊢
      have bad : fbh a i (d :: ds.drop (i + 1)) = some i → Q (.int (i : Int)) H2 := fun e2 => by
        have := q H2 g2
        rw [e, e2] at this
        exact this
      refine ⟨T, _, rfl, .inl (.inl hT), rfl, .int (i : Nat), [b], rfl, b, [], rfl, rfl, ?_⟩
      refine ⟨_, rfl, b, d, rfl, g2.kx.dx dx, gd, _, rfl, ?_⟩
      cases hn : nmD d with
      | false =>
        refine iteT ⟨_, rfl, bad ?_⟩
        cases d with
        | str z =>
          show (if (isN z && decide (lt a z)) = true then _ else _) = _
          rw [show isN z = false from hn]
          rfl
        | _ => rfl
      | true =>
        cases d with
        | str z =>
          cases dx_str dx
          refine iteF ⟨_, rfl, _, rfl, z, a, rfl, rfl, _, rfl, ?_⟩
          have hz : isN z = true := hn
          have ef : fbh a i (.str z :: ds.drop (i + 1)) = if (isN z && decide (lt a z)) = true then fbh z (i + 1) (ds.drop (i + 1)) else some i := rfl
          rw [hz, Bool.true_and] at ef
          by_cases c : lt a z
          · rw [decide_eq_true c] at ef ⊢
            exact iteF ⟨_, rfl, z, _, _, rfl, g2, e.trans ef⟩
          · rw [decide_eq_false c] at ef ⊢
            exact iteT ⟨_, rfl, bad ef⟩
        | _ => cases hn
end
end SfC
namespace SfC
open PySem PySem.Spec PyProof.Rows L2 SfG
theorem three_or : ∀ d : PyData, ((tyD d == "tuple") = false ∧ ∀ hd a, deD hd a d = false) ∨ (∃ ds, d = .tuple ds ∧ ds.length ≠ 3 ∧ ∀ hd a, deD hd a d = false) ∨ ∃ x y z, d = .tuple [x, y, z]
  | .tuple [] => .inr (.inl ⟨_, rfl, by decide, fun _ _ => rfl⟩)
  | .tuple [_] => .inr (.inl ⟨_, rfl, by simp, fun _ _ => by simp [deD]⟩)
  | .tuple [_, _] => .inr (.inl ⟨_, rfl, by simp, fun _ _ => by simp [deD]⟩)
  | .tuple [x, y, z] => .inr (.inr ⟨x, y, z, rfl⟩)
  | .tuple (_ :: _ :: _ :: _ :: r) => .inr (.inl ⟨_, rfl, by simp, fun _ _ => by simp [deD]⟩)
  | .none => .inl ⟨by decide, fun _ _ => rfl⟩
  | .bool _ => .inl ⟨by show ("bool" == "tuple") = false; decide, fun _ _ => rfl⟩
  | .int _ => .inl ⟨by show ("int" == "tuple") = false; decide, fun _ _ => rfl⟩
  | .str _ => .inl ⟨by show ("str" == "tuple") = false; decide, fun _ _ => rfl⟩
  | .list _ => .inl ⟨by show ("list" == "tuple") = false; decide, fun _ _ => rfl⟩
  | .dict _ => .inl ⟨by show ("dict" == "tuple") = false; decide, fun _ _ => rfl⟩
theorem deD_n {hd : List Str} {a : Str} {x y z : PyData} (h : isS x = false) : deD hd a (.tuple [x, y, z]) = false := by
  cases x with
  | str s => cases h
  | _ => simp [deD]
def isT : PyData → Bool
  | .tuple _ => true
  | _ => false
theorem deD_t {hd : List Str} {a : Str} {x y z : PyData} (h : isT y = false) : deD hd a (.tuple [x, y, z]) = false := by
  cases y with
  | tuple s => cases h
  | _ => cases x <;> simp [deD]
theorem ty_s (d : PyData) : (tyD d == "str") = isS d := by
  cases d with
  | none => decide
  | bool _ => show ("bool" == "str") = false; decide
  | int _ => show ("int" == "str") = false; decide
  | str _ => show ("str" == "str") = true; decide
  | list _ => show ("list" == "str") = false; decide
  | tuple _ => show ("tuple" == "str") = false; decide
  | dict _ => show ("dict" == "str") = false; decide
theorem ty_t (d : PyData) : (tyD d == "tuple") = isT d := by
  cases d with
  | none => decide
  | bool _ => show ("bool" == "tuple") = false; decide
  | int _ => show ("int" == "tuple") = false; decide
  | str _ => show ("str" == "tuple") = false; decide
  | list _ => show ("list" == "tuple") = false; decide
  | tuple _ => show ("tuple" == "tuple") = true; decide
  | dict _ => show ("dict" == "tuple") = false; decide
theorem is_str_of {d : PyData} (h : isS d = true) : ∃ z, d = .str z := by
  cases d with
  | str z => exact ⟨z, rfl⟩
  | _ => cases h
theorem is_tup_of {d : PyData} (h : isT d = true) : ∃ z, d = .tuple z := by
  cases d with
  | tuple z => exact ⟨z, rfl⟩
  | _ => cases h
theorem deD_is (hd : List Str) (a z : Str) (ks : List PyData) (g : PyData) : deD hd a (.tuple [.str z, .tuple ks, g]) = ((isN z && decide (lt a z)) && (decide (ks.length ≤ 3) && (knD hd g && (ks.all (knD hd) && decide ((ks.filter isS).length ≤ 2))))) := rfl
theorem cnt_take {ks : List PyData} {j : Nat} {d : PyData} (h : ks[j]? = some d) : ((ks.take (j + 1)).filter isS).length = ((ks.take j).filter isS).length + (if isS d = true then 1 else 0) := by
  rw [List.take_add_one, h, List.filter_append, List.length_append]
  cases hs : isS d <;> simp [hs]
theorem all_not {g : PyData → Bool} {ks : List PyData} {j : Nat} {d : PyData} (h : ks[j]? = some d) (hd : g d = false) : ks.all g = false := by
  refine Bool.eq_false_iff.mpr fun z => ?_
  have := List.all_eq_true.mp z d (List.mem_of_getElem? h)
  rw [hd] at this
  cases this
theorem take_allX (g : PyData → Bool) {ds : List PyData} {i : Nat} {d : PyData} (h : ds[i]? = some d) : (ds.take (i + 1)).all g = ((ds.take i).all g && g d) := by
  rw [List.take_add_one, h, List.all_append]
  simp
section
variable {P : Program} {w : World} {K : PySem.W.Frag} {mg : Str → Option Value} {base : Heap}
def spBadDX (K : PySem.W.Frag) : Sp := fun vs H Q _ => ∃ (x : V) (ds : List PyData) (hd : List Str) (p : Addr), vs = [x, .ref p] ∧ Dx K H x (.tuple ds) ∧ Go (.tuple ds) ∧ SqT K H p (hd.map V.str) ∧ ∀ H', Gr H H' → Q (onV (fbd hd "" 0 ds)) H'
set_option maxHeartbeats 2000000 in
theorem ok_badDX {f fK : Addr} {fd fdK : FuncData} {k : Nat} (F : Fun K "first_bad_deed" "first_bad_deed" sBadD f fd) (HK : Has P w K mg base (k + 1) "is_kind" ["thing", "hidden"] (spKindX K) fK fdK)
    (me : mg "enumerate" = none) (mi : mg "isinstance" = none) (m1 : mg "str" = none) (m2 : mg "int" = none) (m3 : mg "tuple" = none) (ml : mg "len" = none) :
    FnOk P w K mg base CX0 (k + 2) f fd ["deeds", "hidden"] (spBadDX K) := by
  refine F.ok scBadD (fun vs H Q E h => ?_) (fun cdv A outer s H vs Q E hr h => ?_)
  · obtain ⟨x, ds, hd, p, rfl, _⟩ := h
    rfl
  · obtain ⟨x, ds, hd, p, rfl, hx, go, hp, q⟩ := h
    have nd := scBadD.nd
    refine' ⟨_, pss_cons (ps_set (i := 2) nd rfl (.inl rfl) pe_str) (pss_cons (ps_for PassesOwn.never rfl (pi_enumT (by rfl) me (pa_cons (pv 0) pa_nil))
        (pg_tup rfl (pgs_cons (pg_name (i := 3) nd rfl (.inl rfl)) (pgs_cons (pg_name (i := 4) nd rfl (.inl rfl)) pgs_nil)))
        (pss_cons ?b1 (pss_cons ?b2 (pss_cons ?b3 (pss_cons ?b4 (pss_cons ?b5 (pss_cons ?b6 (pss_cons ?b7 (pss_cons ?b8 (pss_one ?b9)))))))))) (pss_one (ps_ret pe_non))), ?rd⟩
    case b1 =>
      exact ps_if (PW.pt (pw_or (pt_not (pt_val (pe_isi "tuple" 4 mi m3 (by decide +kernel)))) (pw_or1 (pt_cmpR op_ne (pe_callB call_len_seq (by rfl) ml PySem.boot_len (pa_cons (pv 4) pa_nil)) pe_int (nomark _))))) (pss_one (ps_ret (pv 3))) pss_nil
    case b2 =>
      exact ps_asg (pv 4) (pg_tup rfl (pgs_cons (pg_name (i := 5) nd rfl (.inl rfl)) (pgs_cons (pg_name (i := 6) nd rfl (.inl rfl)) (pgs_cons (pg_name (i := 7) nd rfl (.inl rfl)) pgs_nil))))
    case b3 =>
      exact ps_if (PW.pt (pw_or (pt_not (pt_val (pe_isi "str" 5 mi m1 (by decide +kernel)))) (pw_or (pt_cmpR op_gt (pe_callB call_len_str (by rfl) ml PySem.boot_len (pa_cons (pv 5) pa_nil)) pe_int (nomark _)) (pw_or1 (pt_cmpR op_le_str (pv 5) (pv 2) (nomark _)))))) (pss_one (ps_ret (pv 3))) pss_nil
    case b4 =>
      exact ps_if (PW.pt (pw_or (pt_not (pt_val (pe_m0 PySem.F.slot_str_isalpha PySem.F.type_str_isalpha mt_isalpha (pv 5)))) (pw_or (pt_not (pt_val (pe_m0 PySem.F.slot_str_islower PySem.F.type_str_islower mt_islower (pv 5)))) (pw_or1 (pt_not (pt_val (pe_m0 PySem.F.slot_str_isascii PySem.F.type_str_isascii mt_isascii (pv 5)))))))) (pss_one (ps_ret (pv 3))) pss_nil
    case b5 =>
      exact ps_if (PW.pt (pw_or (pt_not (pt_val (pe_isi "tuple" 6 mi m3 (by decide +kernel)))) (pw_or (pt_cmpR op_gt (pe_callB call_len_seq (by rfl) ml PySem.boot_len (pa_cons (pv 6) pa_nil)) pe_int (nomark _)) (pw_or1 (pt_not (pt_val (hcall HK hr (pa_cons (pv 7) (pa_cons (pv 1) pa_nil))))))))) (pss_one (ps_ret (pv 3))) pss_nil
    case b6 =>
      exact ps_set (i := 8) nd rfl (.inl rfl) pe_int
    case b7 =>
      refine' ps_for PassesOwn.never rfl (pi_tup (pv 6)) (pg_name (i := 9) nd rfl (.inl rfl)) (pss_one (ps_if (pt_val (pe_isi "str" 9 mi m1 (by decide +kernel))) (pss_cons ?c1 (pss_one ?c2)) (pss_one ?c3)))
      case c1 => exact ps_if (pt_cmpR op_notIn_seq (pv 9) (pv 1) rfl) (pss_one (ps_ret (pv 3))) pss_nil
      case c2 => exact ps_aug (i := 8) nd rfl (.inl rfl) pe_int ip_add
      case c3 => exact ps_if (PW.pt (pw_or (pt_not (pt_val (pe_isi "int" 9 mi m2 (by decide +kernel)))) (pw_or1 (pt_not (pt_chain op_leX op_le pe_int (pv 9) pe_int))))) (pss_one (ps_ret (pv 3))) pss_nil
    case b8 =>
      exact ps_if (pt_cmpR op_gt (pv 8) pe_int (nomark _)) (pss_one (ps_ret (pv 3))) pss_nil
    case b9 =>
      exact ps_set (i := 2) nd rfl (.inl rfl) (pv 5)
    case rd =>
    obtain ⟨pd, xs, rfl, hpd, hxs⟩ := dx_tup hx
    have hl := dxA_len hxs
    refine ⟨_, rfl, pd, xs, rfl, hpd, for_it (walk_enumT (xs := xs)) (fun i σ H1 => ∃ (a : Str) (y3 y4 y5 y6 y7 y8 y9 : Option V), σ = [some (.ref pd), some (.ref p), some (.str a), y3, y4, y5, y6, y7, y8, y9] ∧ Gr H H1 ∧ fbd hd "" 0 ds = fbd hd a i (ds.drop i)) ⟨"", none, none, none, none, none, none, none, rfl, Gr.refl H, rfl⟩ ?h1 ?h2 ?h3⟩
    case h1 =>
      rintro i σ H1 hi ⟨a, y3, y4, y5, y6, y7, y8, y9, rfl, g, _⟩
      exact g.sqt hpd
    case h3 =>
      rintro σ H1 ⟨a, y3, y4, y5, y6, y7, y8, y9, rfl, g, e⟩
      rw [hl, List.drop_length] at e
      have := q H1 g
      rw [e] at this
      exact this
    case h2 =>
      rintro i x σ H1 H2 hi ⟨a, y3, y4, y5, y6, y7, y8, y9, rfl, g, e⟩ ⟨T, na, b, rfl, nT, rfl, ha, hb⟩
      cases ha
      obtain ⟨d, hd0, dx⟩ := dxA_at hxs hb
      have ed : ds.drop i = d :: ds.drop (i + 1) := by
        obtain ⟨hi', e'⟩ := List.getElem?_eq_some_iff.mp hd0
        rw [List.drop_eq_getElem_cons hi', e']
      have gd := go.at hd0
      rw [ed] at e
      have g2 : Gr H (upd H1 T (.tup [.int (i : Nat), b])) := g.trans (Gr.new nT)
      have hT : upd H1 T (.tup [.int (i : Nat), b]) T = some (.tup [.int (i : Nat), b]) := upd_same
      generalize upd H1 T (.tup [.int (i : Nat), b]) = H2 at g2 hT ⊢
      have bad : deD hd a d = false → Q (.int (i : Int)) H2 := fun e2 => by
        have := q H2 g2
        rw [e, fbd, if_neg (by rw [e2]; decide)] at this
        exact this
      have next : deD hd a d = true → fbd hd "" 0 ds = fbd hd (nmOf d) (i + 1) (ds.drop (i + 1)) := fun e2 => by
        rw [e, fbd, if_pos e2]
      replace dx := g2.kx.dx dx
      have hp2 := g2.sqt hp
      have hI := dx_is dx
      refine ⟨T, _, rfl, .inl (.inl hT), rfl, .int (i : Nat), [b], rfl, b, [], rfl, rfl, ?_⟩
      -- a tuple of three
      refine ⟨_, rfl, _, _, hI.1, kit_tuple _ hI.2, _, rfl, ?_⟩
      rcases three_or d with ⟨h1, h2⟩ | ⟨es, rfl, h1, h2⟩ | ⟨dn, dt, dg, rfl⟩
      · rw [h1]
        exact iteT ⟨_, rfl, bad (h2 _ _)⟩
      · obtain ⟨pe, us, rfl, hpe, hus⟩ := dx_tup dx
        have hl2 := dxA_len hus
        refine iteF ⟨_, rfl, pe, us, rfl, .inr hpe, rfl, _, rfl, ?_⟩
        rw [decide_eq_false (fun z => h1 (by have := V.int.inj z; omega))]
        exact iteT ⟨_, rfl, bad (h2 _ _)⟩
      obtain ⟨pe, us, rfl, hpe, hus⟩ := dx_tup dx
      obtain ⟨vn, us, rfl, hvn, hus⟩ := dxA_cons hus
      obtain ⟨vt, us, rfl, hvt, hus⟩ := dxA_cons hus
      obtain ⟨vg, us, rfl, hvg, hus⟩ := dxA_cons hus
      cases dxA_nil hus
      have gn : Go dn := gd.at (i := 0) rfl
      have gt : Go dt := gd.at (i := 1) rfl
      have hIn := dx_is hvn
      have hIt := dx_is hvt
      refine iteF ⟨_, rfl, pe, _, rfl, .inr hpe, rfl, _, rfl, iteF ?_⟩
      refine ⟨_, rfl, pe, _, rfl, hpe, rfl, _, _, rfl, _, _, rfl, _, _, rfl, rfl, ?_⟩
      -- its name
      refine ⟨_, rfl, _, _, hIn.1, kit_str _ hIn.2, _, rfl, ?_⟩
      rw [ty_s]
      cases hs : isS dn with
      | false => exact iteT ⟨_, rfl, bad (deD_n hs)⟩
      | true =>
      obtain ⟨z, rfl⟩ := is_str_of hs
      cases dx_str hvn
      refine iteF ⟨_, rfl, z, rfl, gn.fit, _, 8, rfl, rfl, _, rfl, ?_⟩
      -- what the name lacks
      have noN : isN z = false → deD hd a (.tuple [.str z, dt, dg]) = false := fun h => by
        cases hb : isT dt with
        | false => exact deD_t hb
        | true =>
          obtain ⟨ks, rfl⟩ := is_tup_of hb
          rw [deD_is, h]
          rfl
      have noL : ¬ lt a z → deD hd a (.tuple [.str z, dt, dg]) = false := fun h => by
        cases hb : isT dt with
        | false => exact deD_t hb
        | true =>
          obtain ⟨ks, rfl⟩ := is_tup_of hb
          rw [deD_is, decide_eq_false h, Bool.and_false]
          rfl
      have en := isN_by z
      by_cases c8 : (z.length : Int) ≤ 8
      · rw [decide_eq_false (show ¬ (z.length : Int) > 8 by omega)]
        rw [decide_eq_true c8, Bool.true_and] at en
        refine iteF ⟨_, rfl, _, rfl, z, a, rfl, rfl, _, rfl, ?_⟩
        by_cases cl : lt a z
        · rw [decide_eq_true cl]
          refine iteF ⟨_, rfl, ⟨_, rfl⟩, z, rfl, rfl, trivial, _, rfl, ?_⟩
          cases h2 : Txt.isalpha z with
          | false =>
            rw [h2] at en
            exact iteT ⟨_, rfl, bad (noN en)⟩
          | true =>
          rw [h2, Bool.true_and] at en
          refine iteF ⟨_, rfl, ⟨_, rfl⟩, z, rfl, rfl, trivial, _, rfl, ?_⟩
          cases h3 : Txt.islower z with
          | false =>
            rw [h3] at en
            exact iteT ⟨_, rfl, bad (noN en)⟩
          | true =>
          rw [h3, Bool.true_and] at en
          refine iteF ⟨_, rfl, ⟨_, rfl⟩, z, rfl, rfl, trivial, _, rfl, ?_⟩
          cases h4 : Txt.isascii z with
          | false =>
            rw [h4] at en
            exact iteT ⟨_, rfl, bad (noN en)⟩
          | true =>
          rw [h4] at en
          refine iteF ?_
          -- what it takes and gives
          refine ⟨_, rfl, _, _, hIt.1, kit_tuple _ hIt.2, _, rfl, ?_⟩
          rw [ty_t]
          cases hb : isT dt with
          | false => exact iteT ⟨_, rfl, bad (deD_t hb)⟩
          | true =>
          obtain ⟨ks, rfl⟩ := is_tup_of hb
          have eD := deD_is hd a z ks dg
          rw [en, decide_eq_true cl, Bool.true_and, Bool.true_and] at eD
          obtain ⟨pt, ts, rfl, hpt, hts⟩ := dx_tup hvt
          have hlt := dxA_len hts
          refine iteF ⟨_, rfl, pt, ts, rfl, .inr hpt, _, 3, rfl, rfl, _, rfl, ?_⟩
          by_cases c3 : ks.length ≤ 3
          · rw [decide_eq_false (show ¬ (ts.length : Int) > 3 by omega)]
            rw [decide_eq_true c3, Bool.true_and] at eD
            refine iteF ⟨_, rfl, _, rfl, vg, dg, hd, p, rfl, hvg, hp2, _, rfl, ?_⟩
            cases hg : knD hd dg with
            | false =>
              rw [hg] at eD
              exact iteT ⟨_, rfl, bad eD⟩
            | true =>
            rw [hg, Bool.true_and] at eD
            refine iteF ?_
            refine ⟨_, rfl, pt, rfl, ⟨_, hpt⟩, for_it (walk_tup (xs := ts)) (fun j σ H3 => ∃ y9 : Option V, σ = [some (.ref pd), some (.ref p), some (.str a), some (.int (i : Nat)), some (.ref pe), some (.str z), some (.ref pt), some vg, some (.int (((ks.take j).filter isS).length : Nat)), y9] ∧ H3 = H2 ∧ (ks.take j).all (knD hd) = true) ⟨_, rfl, rfl, rfl⟩ ?i1 ?i2 ?i3⟩
            case i1 =>
              rintro j σ H3 hj ⟨y, rfl, rfl, _⟩
              exact hpt
            case i2 =>
              rintro j x σ H3 H4 hj ⟨y, rfl, rfl, hall⟩ ⟨rfl, hx⟩
              obtain ⟨dk, hdk, hvk⟩ := dxA_at hts hx
              have hIk := dx_is hvk
              have ht := cnt_take hdk
              have hta := take_allX (knD hd) hdk
              rw [hall, Bool.true_and] at hta
              have badk : knD hd dk = false → Q (.int (i : Int)) H4 := fun h => bad (by rw [eD, all_not hdk h]; rfl)
              refine ⟨_, rfl, _, _, hIk.1, kit_str _ hIk.2, _, rfl, ?_⟩
              rw [ty_s]
              cases hsk : isS dk with
              | true =>
                obtain ⟨zk, rfl⟩ := is_str_of hsk
                cases dx_str hvk
                refine iteT ⟨_, rfl, _, rfl, p, _, rfl, .inr hp2, rfl, flat_strs hd, _, rfl, ?_⟩
                show if (!inV (.str zk) (hd.map V.str)) = true then _ else _
                rw [inV_strs]
                cases hm : decide (zk ∈ hd) with
                | false => exact iteT ⟨_, rfl, badk hm⟩
                | true =>
                  refine iteF ⟨_, rfl, _, 1, rfl, rfl, ?_⟩
                  refine ⟨some (.str zk), ?_, rfl, hta.trans hm⟩
                  rw [ht, if_pos hsk]
                  rfl
              | false =>
                refine iteF ?_
                have keep : knD hd dk = true → ∃ y9 : Option V, [some (V.ref pd), some (.ref p), some (.str a), some (.int (i : Nat)), some (.ref pe), some (.str z), some (.ref pt), some vg, some (.int (((ks.take j).filter isS).length : Nat)), some x] = [some (.ref pd), some (.ref p), some (.str a), some (.int (i : Nat)), some (.ref pe), some (.str z), some (.ref pt), some vg, some (.int (((ks.take (j + 1)).filter isS).length : Nat)), y9] ∧ H4 = H4 ∧ (ks.take (j + 1)).all (knD hd) = true := fun h => by
                  refine ⟨some x, ?_, rfl, hta.trans h⟩
                  rw [ht, hsk]
                  rfl
                refine ⟨_, rfl, _, _, hIk.1, kit_int _ hIk.2, _, rfl, ?_⟩
                cases dk with
                | int n =>
                  cases dx_int hvk
                  refine iteF ⟨_, rfl, 2, rfl, .inl ⟨n, rfl, _, rfl, ?_⟩⟩
                  have ek : knD hd (.int n) = (decide (2 ≤ n) && decide (n ≤ 9)) := rfl
                  cases h2 : decide (2 ≤ n) with
                  | false =>
                    rw [h2] at ek
                    exact iteF ⟨_, rfl, iteT ⟨_, rfl, badk ek⟩⟩
                  | true =>
                    rw [h2, Bool.true_and] at ek
                    refine iteT ⟨n, 9, rfl, rfl, _, rfl, ?_⟩
                    cases h9 : decide (n ≤ 9) with
                    | false =>
                      rw [h9] at ek
                      exact iteT ⟨_, rfl, badk ek⟩
                    | true =>
                      rw [h9] at ek
                      exact iteF (keep ek)
                | bool b =>
                  cases dx_bool hvk
                  refine iteF ⟨_, rfl, 2, rfl, .inr ⟨b, rfl, _, rfl, ?_⟩⟩
                  have e : decide ((2 : Int) ≤ SfG.b2i b) = false := by cases b <;> decide
                  rw [e]
                  exact iteF ⟨_, rfl, iteT ⟨_, rfl, badk rfl⟩⟩
                | str _ => cases hsk
                | _ => exact iteT ⟨_, rfl, badk rfl⟩
            case i3 =>
              rintro σ H3 ⟨y, rfl, rfl, hall⟩
              rw [hlt, List.take_length] at hall ⊢
              rw [hall, Bool.true_and] at eD
              refine ⟨_, rfl, _, 2, rfl, rfl, _, rfl, ?_⟩
              by_cases c2 : (ks.filter isS).length ≤ 2
              · rw [decide_eq_false (show ¬ (((ks.filter isS).length : Nat) : Int) > 2 by omega)]
                rw [decide_eq_true c2] at eD
                exact iteF ⟨_, rfl, z, _, _, _, _, _, _, _, rfl, g2, next eD⟩
              · rw [decide_eq_true (show (((ks.filter isS).length : Nat) : Int) > 2 by omega)]
                rw [decide_eq_false c2] at eD
                exact iteT ⟨_, rfl, bad eD⟩
          · rw [decide_eq_true (show (ts.length : Int) > 3 by omega)]
            rw [decide_eq_false c3] at eD
            exact iteT ⟨_, rfl, bad eD⟩
        · rw [decide_eq_false cl]
          exact iteT ⟨_, rfl, bad (noL cl)⟩
      · rw [decide_eq_true (show (z.length : Int) > 8 by omega)]
        rw [decide_eq_false c8] at en
        exact iteT ⟨_, rfl, bad (noN en)⟩
end
end SfC
namespace SfC
open PySem PySem.Spec PyProof.Rows L2 SfG
/-! ### what is no face, and why -/
def its : PyData → List PyData
  | .tuple ds => ds
  | _ => []
def strsOf : List PyData → List Str := List.filterMap fun d => match d with | .str z => some z | _ => none
def flt2 (h e : PyData) : Option (Option Str × Option Nat) :=
  if tupD h 1 2 = false then some (some "hidden", none) else if tupD e 1 8 = false then some (some "deeds", none) else
  match fbh "" 0 (its h) with
  | some n => some (some "hidden", some n)
  | none => match fbd (strsOf (its h)) "" 0 (its e) with
    | some n => some (some "deeds", some n)
    | none => none
def fltD : PyData → Option (Option Str × Option Nat)
  | .tuple [h, e] => flt2 h e
  | _ => some (none, none)
def pV : Option Str → V
  | none => .non
  | some z => .str z
/-- the fault as it is told -/
def FtV (K : PySem.W.Frag) (H : Hp) (v : V) : Option (Option Str × Option Nat) → Prop
  | none => v = .non
  | some (p, n) => ∃ t, v = .ref t ∧ SqT K H t [pV p, onV n]
theorem two_orX : ∀ d : PyData, ((tyD d == "tuple") = false ∧ fltD d = some (none, none)) ∨ (∃ ds, d = .tuple ds ∧ ds.length ≠ 2 ∧ fltD d = some (none, none)) ∨ ∃ x y, d = .tuple [x, y]
  | .tuple [] => .inr (.inl ⟨_, rfl, by decide, rfl⟩)
  | .tuple [_] => .inr (.inl ⟨_, rfl, by simp, rfl⟩)
  | .tuple [x, y] => .inr (.inr ⟨x, y, rfl⟩)
  | .tuple (_ :: _ :: _ :: r) => .inr (.inl ⟨_, rfl, by simp, rfl⟩)
  | .none => .inl ⟨by decide, rfl⟩
  | .bool _ => .inl ⟨by show ("bool" == "tuple") = false; decide, rfl⟩
  | .int _ => .inl ⟨by show ("int" == "tuple") = false; decide, rfl⟩
  | .str _ => .inl ⟨by show ("str" == "tuple") = false; decide, rfl⟩
  | .list _ => .inl ⟨by show ("list" == "tuple") = false; decide, rfl⟩
  | .dict _ => .inl ⟨by show ("dict" == "tuple") = false; decide, rfl⟩
/-- what is let by as hidden kinds -/
theorem fbh_none : ∀ {ds : List PyData} {a : Str} {i : Nat}, fbh a i ds = none → ∃ hd : List Str, ds = hd.map .str ∧ (∀ z ∈ hd, isN z = true) ∧ hd.Pairwise lt ∧ (∀ z ∈ hd, lt a z)
  | [], _, _, _ => ⟨[], rfl, by simp, List.Pairwise.nil, by simp⟩
  | .str z :: r, a, i, h => by
    rw [fbh] at h
    by_cases c : (isN z && decide (lt a z)) = true
    · rw [if_pos c] at h
      obtain ⟨hd, rfl, h1, h2, h3⟩ := fbh_none h
      rw [Bool.and_eq_true, decide_eq_true_eq] at c
      refine ⟨z :: hd, rfl, ?_, List.pairwise_cons.mpr ⟨h3, h2⟩, ?_⟩
      · intro y hy
        rcases List.mem_cons.mp hy with rfl | hy
        · exact c.1
        · exact h1 y hy
      · intro y hy
        rcases List.mem_cons.mp hy with rfl | hy
        · exact c.2
        · exact List.lt_trans c.2 (h3 y hy)
    · rw [if_neg c] at h
      cases h
  | .none :: _, _, _, h => by cases h
  | .bool _ :: _, _, _, h => by cases h
  | .int _ :: _, _, _, h => by cases h
  | .list _ :: _, _, _, h => by cases h
  | .tuple _ :: _, _, _, h => by cases h
  | .dict _ :: _, _, _, h => by cases h
theorem strs_map (hd : List Str) : strsOf (hd.map .str) = hd := by
  unfold strsOf
  induction hd with
  | nil => rfl
  | cons a r ih => simp [ih]
theorem dxA_strs {K : PySem.W.Frag} {H : Hp} : ∀ {l : List Str} {xs : List V}, DxA K H xs (l.map PyData.str) → xs = l.map V.str
  | [], _, h => dxA_nil h
  | a :: r, _, h => by
    obtain ⟨x, t, rfl, hx, ht⟩ := dxA_cons h
    cases dx_str hx
    rw [dxA_strs ht]
    rfl
section
variable {P : Program} {w : World} {K : PySem.W.Frag} {mg : Str → Option Value} {base : Heap}
theorem FtV.gr {H H' : Hp} {v : V} {o : Option (Option Str × Option Nat)} (h : FtV K H v o) (g : Gr H H') : FtV K H' v o := by
  cases o with
  | none => exact h
  | some pn =>
    obtain ⟨p, n⟩ := pn
    obtain ⟨t, e, ht⟩ := h
    exact ⟨t, e, g.sqt ht⟩
def spFaultX (K : PySem.W.Frag) : Sp := fun vs H Q _ => ∃ (x : V) (d : PyData), vs = [x] ∧ Dx K H x d ∧ (Go d ∨ ∃ i, d = .int i) ∧ ∀ H' v, Gr H H' → FtV K H' v (fltD d) → Q v H'
set_option maxHeartbeats 1000000 in
theorem ok_faultX {f fH fD : Addr} {fd fdH fdD : FuncData} {k : Nat} {t8 : Tok} (F : Fun K "face_fault" "face_fault" sFault f fd) (HH : Has P w K mg base (k + 2) "first_bad_hidden" ["hidden"] (spBadHX K) fH fdH)
    (HD : Has P w K mg base (k + 2) "first_bad_deed" ["deeds", "hidden"] (spBadDX K) fD fdD) (mi : mg "isinstance" = none) (m3 : mg "tuple" = none) (ml : mg "len" = none) (m8 : mg "MOST_DEEDS" = some (.int 8 t8)) :
    FnOk P w K mg base CX0 (k + 3) f fd ["thing"] (spFaultX K) := by
  refine F.ok scFault (fun vs H Q E h => ?_) (fun cdv A outer s H vs Q E hr h => ?_)
  · obtain ⟨x, f, rfl, _⟩ := h
    rfl
  · obtain ⟨x, d, rfl, hx, go, q⟩ := h
    have nd := scFault.nd
    have hI := dx_is hx
    refine' ⟨_, pss_cons ?s1 (pss_cons ?s2 (pss_cons ?s3 (pss_cons ?s4 (pss_cons ?s5 (pss_cons ?s6 (pss_cons ?s7 (pss_cons ?s8 (pss_one ?s9)))))))), ?rd⟩
    case s1 => exact ps_if (PW.pt (pw_or (pt_not (pt_val (pe_isi "tuple" 0 mi m3 (by decide +kernel)))) (pw_or1 (pt_cmpR op_ne (pe_callB call_len_seq (by rfl) ml PySem.boot_len (pa_cons (pv 0) pa_nil)) pe_int (nomark _))))) (pss_one (ps_ret (pe_tup (pa_cons pe_non (pa_cons pe_non pa_nil))))) pss_nil
    case s2 => exact ps_asg (pv 0) (pg_tup rfl (pgs_cons (pg_name (i := 1) nd rfl (.inl rfl)) (pgs_cons (pg_name (i := 2) nd rfl (.inl rfl)) pgs_nil)))
    case s3 => exact ps_if (PW.pt (pw_or (pt_not (pt_val (pe_isi "tuple" 1 mi m3 (by decide +kernel)))) (pw_or1 (pt_not (pt_chain op_le op_le pe_int (pe_callB call_len_seq (by rfl) ml PySem.boot_len (pa_cons (pv 1) pa_nil)) pe_int))))) (pss_one (ps_ret (pe_tup (pa_cons pe_str (pa_cons pe_non pa_nil))))) pss_nil
    case s4 => exact ps_if (PW.pt (pw_or (pt_not (pt_val (pe_isi "tuple" 2 mi m3 (by decide +kernel)))) (pw_or1 (pt_not (pt_chain op_le op_le pe_int (pe_callB call_len_seq (by rfl) ml PySem.boot_len (pa_cons (pv 2) pa_nil)) (pe_glob (v := .int 8) rfl m8 ⟨_, rfl⟩)))))) (pss_one (ps_ret (pe_tup (pa_cons pe_str (pa_cons pe_non pa_nil))))) pss_nil
    case s5 => exact ps_set (i := 3) nd rfl (.inl rfl) (hcall HH hr (pa_cons (pv 1) pa_nil))
    case s6 => exact ps_if (pt_cmpR op_notN (pv 3) pe_non (nomark _)) (pss_one (ps_ret (pe_tup (pa_cons pe_str (pa_cons (pv 3) pa_nil))))) pss_nil
    case s7 => exact ps_set (i := 3) nd rfl (.inl rfl) (hcall HD hr (pa_cons (pv 2) (pa_cons (pv 1) pa_nil)))
    case s8 => exact ps_if (pt_cmpR op_notN (pv 3) pe_non (nomark _)) (pss_one (ps_ret (pe_tup (pa_cons pe_str (pa_cons (pv 3) pa_nil))))) pss_nil
    case s9 => exact ps_ret pe_non
    case rd =>
    -- a fault that is told
    have told : ∀ (H1 : Hp) (p : Option Str) (n : Option Nat), Gr H H1 → fltD d = some (p, n) → (2 : Nat) ≤ sizeLine ∧ ∀ t, H1 t = none → Q (.ref t) (upd H1 t (.tup [pV p, onV n])) := fun H1 p n g e => by
      refine ⟨by decide, fun t nt => q _ _ (g.trans (Gr.new nt)) ?_⟩
      rw [e]
      exact ⟨t, rfl, .inl (.inl upd_same)⟩
    refine ⟨_, rfl, _, _, hI.1, kit_tuple _ hI.2, _, rfl, ?_⟩
    rcases two_orX d with ⟨h1, h2⟩ | ⟨ds, rfl, h1, h2⟩ | ⟨dh, de, rfl⟩
    · rw [h1]
      exact iteT (told H none none (Gr.refl H) h2)
    · obtain ⟨p, xs, rfl, hp, hxs⟩ := dx_tup hx
      have hl := dxA_len hxs
      refine iteF ⟨_, rfl, p, xs, rfl, .inr hp, rfl, _, rfl, ?_⟩
      rw [decide_eq_false (fun z => h1 (by have := V.int.inj z; omega))]
      exact iteT (told H none none (Gr.refl H) h2)
    obtain ⟨p, xs, rfl, hp, hxs⟩ := dx_tup hx
    obtain ⟨vh, xs, rfl, hvh, hxs⟩ := dxA_cons hxs
    obtain ⟨ve, xs, rfl, hve, hxs⟩ := dxA_cons hxs
    cases dxA_nil hxs
    replace go : Go (.tuple [dh, de]) := go.resolve_right (fun ⟨_, e⟩ => by cases e)
    have gh : Go dh := go.at (i := 0) rfl
    have ge : Go de := go.at (i := 1) rfl
    have hIh := dx_is hvh
    have hIe := dx_is hve
    refine iteF ⟨_, rfl, p, _, rfl, .inr hp, rfl, _, rfl, iteF ?_⟩
    refine ⟨_, rfl, p, _, rfl, hp, rfl, _, _, rfl, _, _, rfl, rfl, ?_⟩
    have e0 : fltD (.tuple [dh, de]) = flt2 dh de := rfl
    -- hidden
    refine ⟨_, rfl, _, _, hIh.1, kit_tuple _ hIh.2, _, rfl, ?_⟩
    rw [ty_t]
    cases ht : isT dh with
    | false =>
      refine iteT (told H (some "hidden") none (Gr.refl H) ?_)
      rw [e0, flt2, if_pos]
      cases dh with
      | tuple _ => cases ht
      | _ => rfl
    | true =>
    obtain ⟨hs, rfl⟩ := is_tup_of ht
    obtain ⟨ph, us, rfl, hph, hus⟩ := dx_tup hvh
    have lh := dxA_len hus
    refine iteF ⟨_, rfl, ph, us, rfl, .inr hph, 1, _, rfl, rfl, _, rfl, ?_⟩
    have noH : tupD (.tuple hs) 1 2 = false → fltD (.tuple [.tuple hs, de]) = (some (some ("hidden" : Str), none) : Option (Option Str × Option Nat)) := fun h => by rw [e0, flt2, if_pos h]
    by_cases c1 : 1 ≤ hs.length
    · rw [decide_eq_true (show (1 : Int) ≤ (us.length : Int) by omega)]
      refine iteT ⟨_, 2, rfl, rfl, _, rfl, ?_⟩
      by_cases c2 : hs.length ≤ 2
      · rw [decide_eq_true (show (us.length : Int) ≤ 2 by omega)]
        refine iteF ?_
        have yH : ¬ tupD (.tuple hs) 1 2 = false := by
          simp only [tupD]
          rw [decide_eq_true (show (1 : Int) ≤ (hs.length : Int) by omega), decide_eq_true (show (hs.length : Int) ≤ 2 by omega)]
          decide
        -- deeds
        refine ⟨_, rfl, _, _, hIe.1, kit_tuple _ hIe.2, _, rfl, ?_⟩
        rw [ty_t]
        cases hte : isT de with
        | false =>
          refine iteT (told H (some "deeds") none (Gr.refl H) ?_)
          rw [e0, flt2, if_neg yH, if_pos]
          cases de with
          | tuple _ => cases hte
          | _ => rfl
        | true =>
        obtain ⟨es, rfl⟩ := is_tup_of hte
        obtain ⟨pe, ws, rfl, hpe, hws⟩ := dx_tup hve
        have le := dxA_len hws
        have noE : tupD (.tuple es) 1 8 = false → fltD (.tuple [.tuple hs, .tuple es]) = (some (some ("deeds" : Str), none) : Option (Option Str × Option Nat)) := fun h => by rw [e0, flt2, if_neg yH, if_pos h]
        refine iteF ⟨_, rfl, pe, ws, rfl, .inr hpe, 1, _, rfl, rfl, _, rfl, ?_⟩
        by_cases c3 : 1 ≤ es.length
        · rw [decide_eq_true (show (1 : Int) ≤ (ws.length : Int) by omega)]
          refine iteT ⟨_, 8, rfl, rfl, _, rfl, ?_⟩
          by_cases c4 : es.length ≤ 8
          · rw [decide_eq_true (show (ws.length : Int) ≤ 8 by omega)]
            refine iteF ?_
            have yE : ¬ tupD (.tuple es) 1 8 = false := by
              simp only [tupD]
              rw [decide_eq_true (show (1 : Int) ≤ (es.length : Int) by omega), decide_eq_true (show (es.length : Int) ≤ 8 by omega)]
              decide
            have e1 : fltD (.tuple [.tuple hs, .tuple es]) = (match fbh "" 0 hs with | some n => some (some ("hidden" : Str), some n) | none => match fbd (strsOf hs) "" 0 es with | some n => some (some ("deeds" : Str), some n) | none => none : Option (Option Str × Option Nat)) := by
              rw [e0, flt2, if_neg yH, if_neg yE]
              rfl
            refine ⟨_, rfl, _, hs, rfl, hvh, gh, fun H1 g1 => ?_⟩
            cases hb : fbh "" 0 hs with
            | some n =>
              rw [hb] at e1
              refine ⟨_, rfl, rfl, _, rfl, iteT ⟨_, rfl, ?_⟩⟩
              exact told H1 (some "hidden") (some n) g1 e1
            | none =>
            rw [hb] at e1
            refine ⟨_, rfl, rfl, _, rfl, iteF ?_⟩
            obtain ⟨hd, rfl, _⟩ := fbh_none hb
            rw [strs_map] at e1
            cases dxA_strs hus
            refine ⟨_, rfl, _, rfl, _, es, hd, ph, rfl, g1.kx.dx hve, ge, g1.sqt hph, fun H2 g2 => ?_⟩
            cases hb2 : fbd hd "" 0 es with
            | some n =>
              rw [hb2] at e1
              refine ⟨_, rfl, rfl, _, rfl, iteT ⟨_, rfl, ?_⟩⟩
              exact told H2 (some "deeds") (some n) (g1.trans g2) e1
            | none =>
            rw [hb2] at e1
            refine ⟨_, rfl, rfl, _, rfl, iteF (q H2 _ (g1.trans g2) ?_)⟩
            rw [e1]
            rfl
          · rw [decide_eq_false (show ¬ (ws.length : Int) ≤ 8 by omega)]
            refine iteT (told H (some "deeds") none (Gr.refl H) (noE ?_))
            simp only [tupD]
            rw [decide_eq_false (show ¬ (es.length : Int) ≤ 8 by omega), Bool.and_false]
        · rw [decide_eq_false (show ¬ (1 : Int) ≤ (ws.length : Int) by omega)]
          refine iteF ⟨_, rfl, iteT (told H (some "deeds") none (Gr.refl H) (noE ?_))⟩
          simp only [tupD]
          rw [decide_eq_false (show ¬ (1 : Int) ≤ (es.length : Int) by omega), Bool.false_and]
      · rw [decide_eq_false (show ¬ (us.length : Int) ≤ 2 by omega)]
        refine iteT (told H (some "hidden") none (Gr.refl H) (noH ?_))
        simp only [tupD]
        rw [decide_eq_false (show ¬ (hs.length : Int) ≤ 2 by omega), Bool.and_false]
    · rw [decide_eq_false (show ¬ (1 : Int) ≤ (us.length : Int) by omega)]
      refine iteF ⟨_, rfl, iteT (told H (some "hidden") none (Gr.refl H) (noH ?_))⟩
      simp only [tupD]
      rw [decide_eq_false (show ¬ (1 : Int) ≤ (hs.length : Int) by omega), Bool.false_and]
/-! ### is_face; need_face and what asks it first -/
def spIsFX (K : PySem.W.Frag) : Sp := fun vs H Q _ => ∃ (x : V) (d : PyData), vs = [x] ∧ Dx K H x d ∧ Go d ∧ ∀ H', Gr H H' → Q (.bl (fltD d).isNone) H'
theorem ft_none {H : Hp} {v : V} {o : Option (Option Str × Option Nat)} (h : FtV K H v o) : decide (v = .non) = o.isNone := by
  cases o with
  | none => exact decide_eq_true h
  | some pn =>
    obtain ⟨p, n⟩ := pn
    obtain ⟨t, rfl, _⟩ := h
    exact decide_eq_false (fun z => by cases z)
/-- what is no face is refused: its part and its number -/
def spBadF (K : PySem.W.Frag) (C : Addr) : Sp := fun vs H _ E => ∃ (x : V) (d : PyData) (p : Option Str) (n : Option Nat), vs = [x] ∧ Dx K H x d ∧ (Go d ∨ ∃ i, d = .int i) ∧ fltD d = some (p, n) ∧ ∀ H' dd, Gr H H' → H' dd = some (.xd [("number", onV n), ("part", pV p)]) → E (.ref C) (some dd) H'
theorem flt_small {d : PyData} {p : Option Str} {n : Option Nat} (h : fltD d = some (p, n)) : Shn (pV p) := by
  have two : p = none ∨ p = some "hidden" ∨ p = some "deeds" := by
    rcases two_orX d with ⟨_, h2⟩ | ⟨_, _, _, h2⟩ | ⟨x, y, rfl⟩
    · rw [h2] at h
      cases h
      exact .inl rfl
    · rw [h2] at h
      cases h
      exact .inl rfl
    · have h' : flt2 x y = some (p, n) := h
      unfold flt2 at h'
      split at h'
      · cases h'
        exact .inr (.inl rfl)
      split at h'
      · cases h'
        exact .inr (.inr rfl)
      split at h'
      · cases h'
        exact .inr (.inl rfl)
      split at h'
      · cases h'
        exact .inr (.inr rfl)
      · cases h'
  rcases two with rfl | rfl | rfl
  · exact .inl rfl
  · exact .inr (.inr ⟨_, rfl, by decide +kernel⟩)
  · exact .inr (.inr ⟨_, rfl, by decide +kernel⟩)
theorem on_small (n : Option Nat) : Shn (onV n) := by
  cases n with
  | none => exact .inl rfl
  | some n => exact .inr (.inl ⟨_, rfl⟩)
theorem ok_needX {f fF C fI : Addr} {fd fdF fdI : FuncData} {k : Nat} (F : Fun K "need_face" "need_face" sNeed f fd) (HF : Has P w K mg base (k + 3) "face_fault" ["thing"] (spFaultX K) fF fdF) (B : Bad2 P w K mg base (k + 2) "BadFace" "part" "number" C fI fdI) :
    FnOk P w K mg base (L2.CX P w) (k + 4) f fd ["face"] (spBadF K C) := by
  refine F.okX scNeed (fun vs H Q E h => ?_) (fun cdv A outer s H vs Q E hr h => ?_)
  · obtain ⟨x, d, p, n, rfl, _⟩ := h
    rfl
  · obtain ⟨x, d, p, n, rfl, hx, go, hf, q⟩ := h
    have nd := scNeed.nd
    refine ⟨_, pss_cons (ps_set (i := 1) nd rfl (.inl rfl) (hcall HF hr (pa_cons (pv 0) pa_nil))) (pss_one (ps_if (pt_cmpR op_notN (pv 1) pe_non (nomark _))
      (pss_cons (ps_asg (pv 1) (pg_tup rfl (pgs_cons (pg_name (i := 2) nd rfl (.inl rfl)) (pgs_cons (pg_name (i := 3) nd rfl (.inl rfl)) pgs_nil))))
        (pss_one (ps_raise rfl (takes_of (E := E) rfl rfl rfl rfl) (pmk_oex B.T B.i B.t B.F hr B.b .nil pass0 rfl B.g (pa_cons (pv 2) (pa_cons (pv 3) pa_nil)))))) pss_nil)), ?_⟩
    refine ⟨_, rfl, x, d, rfl, hx, go, fun H1 v g1 hv => ?_⟩
    rw [hf] at hv
    obtain ⟨t, rfl, ht⟩ := hv
    refine ⟨_, rfl, rfl, _, rfl, iteT ⟨_, rfl, t, _, rfl, ht, rfl, _, _, rfl, _, _, rfl, rfl, ?_⟩⟩
    exact ⟨_, rfl, _, rfl, made2 (flt_small hf) (on_small n) fun dd H2 g2 hd => q H2 dd (g1.trans g2) hd⟩
end
end SfC
namespace SfC
open PySem PySem.Spec PyProof.Rows L2 SfG
/-! ### what has no fault is a face -/
mutual
def nod : PyData → Bool
  | .list ds => nodA ds
  | .tuple ds => nodA ds
  | .dict _ => false
  | _ => true
def nodA : List PyData → Bool
  | [] => true
  | d :: r => nod d && nodA r
end
mutual
theorem dx_dp {K : PySem.W.Frag} {H : Hp} : ∀ {d : PyData} {v : V}, Dx K H v d → nod d = true → Dp K H v d
  | _, _, .non, _ => .non
  | _, _, .bl b, _ => .bl b
  | _, _, .int i, _ => .int i
  | _, _, .str x, _ => .str x
  | _, _, .lst h hs, n => .lst h (dxA_dp hs (by rw [nod] at n; exact n))
  | _, _, .tup h hs, n => .tup h (dxA_dp hs (by rw [nod] at n; exact n))
  | _, _, .emp h, n => by
    rw [nod] at n
    cases n
theorem dxA_dp {K : PySem.W.Frag} {H : Hp} : ∀ {ds : List PyData} {vs : List V}, DxA K H vs ds → nodA ds = true → DpAll K H vs ds
  | _, _, .nil, _ => .nil
  | _, _, .cons h hs, n => by
    rw [nodA, Bool.and_eq_true] at n
    exact .cons (dx_dp h n.1) (dxA_dp hs n.2)
end
theorem nodA_map {α : Type} (g : α → PyData) (h : ∀ a, nod (g a) = true) : ∀ l : List α, nodA (l.map g) = true
  | [] => by rw [List.map_nil, nodA]
  | a :: r => by
    rw [List.map_cons, nodA, h a, nodA_map g h r]
    rfl
theorem nod_kn (k : Kn) : nod k.d = true := by
  cases k <;> rfl
theorem nod_de (e : De) : nod e.d = true := by
  unfold De.d
  rw [nod, nodA, nodA, nodA, nodA, nod_kn, nod, nodA_map _ nod_kn]
  rfl
theorem nod_fc (f : Fc) : nod f.d = true := by
  unfold Fc.d
  rw [nod, nodA, nodA, nodA, nod, nod, nodA_map _ (fun _ => rfl), nodA_map _ nod_de]
  rfl
theorem kn_of {hd : List Str} {d : PyData} (h : knD hd d = true) : ∃ k : Kn, d = k.d ∧ goK hd k ∧ isS d = k.isH := by
  cases d with
  | str z => exact ⟨.h z, rfl, (of_decide_eq_true (p := z ∈ hd) h : z ∈ hd), rfl⟩
  | int i =>
    have h' : (decide (2 ≤ i) && decide (i ≤ 9)) = true := h
    rw [Bool.and_eq_true, decide_eq_true_eq, decide_eq_true_eq] at h'
    exact ⟨.p i, rfl, h', rfl⟩
  | _ => cases h
theorem kns_of {hd : List Str} : ∀ {ks : List PyData}, ks.all (knD hd) = true → ∃ tk : List Kn, ks = tk.map Kn.d ∧ (∀ k ∈ tk, goK hd k) ∧ (ks.filter isS).length = hidN tk
  | [], _ => ⟨[], rfl, by simp, rfl⟩
  | d :: r, h => by
    rw [List.all_cons, Bool.and_eq_true] at h
    obtain ⟨k, rfl, gk, ek⟩ := kn_of h.1
    obtain ⟨tk, rfl, gt, et⟩ := kns_of h.2
    refine ⟨k :: tk, rfl, ?_, ?_⟩
    · intro x hx
      rcases List.mem_cons.mp hx with rfl | hx
      · exact gk
      · exact gt x hx
    · unfold hidN at et ⊢
      rw [List.filter_cons, List.filter_cons, ek]
      cases k.isH
      · exact et
      · rw [if_pos rfl, if_pos rfl, List.length_cons, List.length_cons, et]
theorem de_of {hd : List Str} {a : Str} {d : PyData} (h : deD hd a d = true) : ∃ e : De, d = e.d ∧ goD hd e ∧ lt a e.nm := by
  rcases three_or d with ⟨_, h2⟩ | ⟨_, _, _, h2⟩ | ⟨x, y, g, rfl⟩
  · rw [h2] at h
    cases h
  · rw [h2] at h
    cases h
  · cases hx : isS x with
    | false =>
      rw [deD_n hx] at h
      cases h
    | true =>
    cases hy : isT y with
    | false =>
      rw [deD_t hy] at h
      cases h
    | true =>
    obtain ⟨z, rfl⟩ := is_str_of hx
    obtain ⟨ks, rfl⟩ := is_tup_of hy
    rw [deD_is, Bool.and_eq_true, Bool.and_eq_true, Bool.and_eq_true, Bool.and_eq_true, Bool.and_eq_true, decide_eq_true_eq, decide_eq_true_eq, decide_eq_true_eq] at h
    obtain ⟨⟨h1, h2⟩, h3, h4, h5, h6⟩ := h
    obtain ⟨tk, rfl, gt, et⟩ := kns_of h5
    obtain ⟨kg, rfl, gg, _⟩ := kn_of h4
    refine ⟨⟨z, tk, kg⟩, rfl, ⟨h1, ?_, gt, ?_, gg⟩, h2⟩
    · rw [List.length_map] at h3
      exact h3
    · rw [← et]
      exact h6
theorem fbd_none {hd : List Str} : ∀ {ds : List PyData} {a : Str} {i : Nat}, fbd hd a i ds = none → ∃ es : List De, ds = es.map De.d ∧ (∀ e ∈ es, goD hd e) ∧ (es.map De.nm).Pairwise lt ∧ (∀ e ∈ es, lt a e.nm)
  | [], _, _, _ => ⟨[], rfl, by simp, List.Pairwise.nil, by simp⟩
  | d :: r, a, i, h => by
    rw [fbd] at h
    by_cases c : deD hd a d = true
    · rw [if_pos c] at h
      obtain ⟨e, rfl, ge, le⟩ := de_of c
      obtain ⟨es, rfl, h1, h2, h3⟩ := fbd_none h
      have en : nmOf e.d = e.nm := rfl
      rw [en] at h3
      refine ⟨e :: es, rfl, ?_, ?_, ?_⟩
      · intro y hy
        rcases List.mem_cons.mp hy with rfl | hy
        · exact ge
        · exact h1 y hy
      · rw [List.map_cons]
        refine List.pairwise_cons.mpr ⟨?_, h2⟩
        intro z hz
        obtain ⟨e', he', rfl⟩ := List.mem_map.mp hz
        exact h3 e' he'
      · intro y hy
        rcases List.mem_cons.mp hy with rfl | hy
        · exact le
        · exact List.lt_trans le (h3 y hy)
    · rw [if_neg c] at h
      cases h
theorem flt_good {d : PyData} (h : fltD d = none) : ∃ f : Fc, goF f ∧ d = f.d := by
  rcases two_orX d with ⟨_, h2⟩ | ⟨_, _, _, h2⟩ | ⟨x, y, rfl⟩
  · rw [h2] at h
    cases h
  · rw [h2] at h
    cases h
  · have h' : flt2 x y = none := h
    unfold flt2 at h'
    split at h'
    · cases h'
    split at h'
    · cases h'
    rename_i t1 t2
    cases x with
    | tuple hs =>
      cases y with
      | tuple es =>
        cases hb : fbh "" 0 hs with
        | some n =>
          rw [show its (.tuple hs) = hs from rfl, hb] at h'
          cases h'
        | none =>
        rw [show its (.tuple hs) = hs from rfl, hb] at h'
        obtain ⟨hd, rfl, h1, h2, _⟩ := fbh_none hb
        cases hb2 : fbd hd "" 0 es with
        | some n =>
          rw [show its (.tuple es) = es from rfl, strs_map] at h'
          simp only [hb2] at h'
          cases h'
        | none =>
        obtain ⟨ds, rfl, g1, g2, _⟩ := fbd_none hb2
        simp only [tupD, Bool.not_eq_false, Bool.and_eq_true, decide_eq_true_eq, List.length_map] at t1 t2
        exact ⟨⟨hd, ds⟩, ⟨⟨by show 1 ≤ hd.length; omega, by show hd.length ≤ 2; omega, h1, h2⟩, by show 1 ≤ ds.length; omega, by show ds.length ≤ 8; omega, g2, g1⟩, rfl⟩
      | _ => exact absurd rfl t2
    | _ => exact absurd rfl t1
/-- a def that may raise: where it stands, how it is bound, what it promises -/
structure HasX (P : Program) (w : World) (K : PySem.W.Frag) (mg : Str → Option Value) (base : Heap) (k : Nat) (x : Str) (ps : List Str) (sp : Sp) (f : Addr) (fd : FuncData) : Prop where
  ok : FnOk P w K mg base (L2.CX P w) k f fd ps sp
  at_ : mg x = some (.ref f)
  kp : PySem.W.keepIn K (.ref f) = true
  bd : Binds K fd ps []
section
variable {P : Program} {w : World} {K : PySem.W.Frag} {mg : Str → Option Value} {base : Heap}
/-! ### what asks need_face first refuses likewise -/
def spBadF2 (K : PySem.W.Frag) (C : Addr) : Sp := fun vs H _ E => ∃ (x y : V) (d : PyData) (p : Option Str) (n : Option Nat), vs = [x, y] ∧ Dx K H x d ∧ (Go d ∨ ∃ i, d = .int i) ∧ fltD d = some (p, n) ∧ ∀ H' dd, Gr H H' → H' dd = some (.xd [("number", onV n), ("part", pV p)]) → E (.ref C) (some dd) H'
theorem ok_givesX {f fN C : Addr} {fd fdN : FuncData} {k : Nat} (F : Fun K "gives_of" "gives_of" sGives f fd) (HN : HasX P w K mg base (k + 4) "need_face" ["face"] (spBadF K C) fN fdN) :
    FnOk P w K mg base (L2.CX P w) (k + 5) f fd ["face", "name"] (spBadF2 K C) := by
  refine F.okX scGives (fun vs H Q E h => ?_) (fun cdv A outer s H vs Q E hr h => ?_)
  · obtain ⟨x, y, d, p, n, rfl, _⟩ := h
    rfl
  · obtain ⟨x, y, d, p, n, rfl, hx, go, hf, q⟩ := h
    refine ⟨_, pss_cons (ps_expr (pe_call HN.ok hr (by rfl) HN.at_ HN.kp HN.bd .nil (passes_call (takes_of (E := E) rfl rfl rfl rfl) (fun _ _ _ _ h => h)) (pa_cons (pv 0) pa_nil))) pss_never, ?_⟩
    exact ⟨_, rfl, x, d, p, n, rfl, hx, go, hf, q⟩
end
end SfC
namespace SfC
open PySem PySem.Spec PyProof.Rows L2 SfG
/-! ### words and rows of a face's text -/
abbrev blank : Str := " "
abbrev feed : Str := "\n"
abbrev colon : Str := ":"
def kS : Kn → Str
  | .h s => s
  | .p n => ⟨#[48 + n.toNat]⟩
/-- a word: not empty, neither blanks nor line feeds -/
def clean (z : Str) : Prop := 1 ≤ z.length ∧ z.length ≤ 8 ∧ ∀ c ∈ z.cps.toList, c ≠ 32 ∧ c ≠ 10
theorem let_not : ∀ c, c < 128 → isLet c = true → c ≠ 32 ∧ c ≠ 10 := by decide +kernel
theorem clean_name {z : Str} (h : isN z = true) : clean z := by
  obtain ⟨h8, h1, _, _, _, hl⟩ := isN_txt h
  refine ⟨h1, h8, fun c hc => ?_⟩
  have hlc := List.all_eq_true.mp hl c hc
  exact let_not c (let_range hlc) hlc
theorem digit_str : ∀ n : Nat, n < 10 → ((toString (n : Int) : String) : Str) = ⟨#[48 + n]⟩ := by decide +kernel
theorem str_kind {n : Int} (h2 : 2 ≤ n) (h9 : n ≤ 9) : ((toString n : String) : Str) = kS (.p n) := by
  have e := digit_str n.toNat (by omega)
  rw [Int.toNat_of_nonneg (by omega)] at e
  exact e
theorem clean_kind {hd : List Str} (hn : ∀ z ∈ hd, isN z = true) {k : Kn} (h : goK hd k) : clean (kS k) := by
  cases k with
  | h s => exact clean_name (hn s h)
  | p n =>
    obtain ⟨h2, h9⟩ := h
    refine ⟨Nat.le_refl 1, (by show 1 ≤ 8; decide), fun c hc => ?_⟩
    have e : c = 48 + n.toNat := by simpa [kS] using hc
    omega
theorem clean_colon : clean colon := by unfold clean; decide +kernel
def wsD (e : De) : List Str := e.nm :: (e.tk.map kS ++ [colon, kS e.gv])
def wsH (hd : List Str) : List Str := ("hidden" : Str) :: hd
def rowD (e : De) : Str := Txt.join blank (wsD e)
def rowH (hd : List Str) : Str := Txt.join blank (wsH hd)
def rowsF (f : Fc) : List Str := rowH f.hd :: f.ds.map rowD
def textF (f : Fc) : Str := Txt.join feed (rowsF f)
theorem clean_wsD {hd : List Str} (hn : ∀ z ∈ hd, isN z = true) {e : De} (g : goD hd e) : ∀ z ∈ wsD e, clean z := by
  intro z hz
  rcases List.mem_cons.mp hz with rfl | hz
  · exact clean_name g.nm
  · rcases List.mem_append.mp hz with h | h
    · obtain ⟨k, hk, rfl⟩ := List.mem_map.mp h
      exact clean_kind hn (g.tk k hk)
    · have h' : z = colon ∨ z = kS e.gv := by simpa using h
      rcases h' with rfl | rfl
      · exact clean_colon
      · exact clean_kind hn g.gv
theorem clean_wsH {hd : List Str} (hn : ∀ z ∈ hd, isN z = true) : ∀ z ∈ wsH hd, clean z := by
  intro z hz
  rcases List.mem_cons.mp hz with rfl | hz
  · unfold clean
    decide +kernel
  · exact clean_name (hn z hz)
theorem tl_blank : TL.tl blank = [32] := by decide +kernel
theorem tl_feed : TL.tl feed = [10] := by decide +kernel
theorem split_words {ws : List Str} (hne : ws ≠ []) (h : ∀ z ∈ ws, clean z) : Txt.split (Txt.join blank ws) blank = ws :=
  TL.split_join (s := 32) (S := []) tl_blank (by decide +kernel) hne fun p hp e => ((h p hp).2.2 32 e).1 rfl
theorem joinL_in {S : List Nat} {c : Nat} : ∀ {ls : List (List Nat)}, c ∈ TL.joinL S ls → c ∈ S ∨ ∃ l ∈ ls, c ∈ l
  | [], h => by cases h
  | [p], h => .inr ⟨p, List.mem_cons_self, h⟩
  | p :: q :: r, h => by
    have h' : c ∈ p ++ (S ++ TL.joinL S (q :: r)) := h
    rcases List.mem_append.mp h' with h1 | h1
    · exact .inr ⟨p, List.mem_cons_self, h1⟩
    · rcases List.mem_append.mp h1 with h2 | h2
      · exact .inl h2
      · rcases joinL_in h2 with h3 | ⟨l, hl, hc⟩
        · exact .inl h3
        · exact .inr ⟨l, List.mem_cons_of_mem _ hl, hc⟩
theorem row_feed {ws : List Str} (h : ∀ z ∈ ws, clean z) : 10 ∉ TL.tl (Txt.join blank ws) := by
  intro hc
  rw [TL.join_eq, TL.tl_join, tl_blank] at hc
  rcases joinL_in hc with h1 | ⟨l, hl, hc⟩
  · simp at h1
  · obtain ⟨z, hz, rfl⟩ := List.mem_map.mp hl
    exact ((h z hz).2.2 10 hc).2 rfl
theorem split_rows {rws : List Str} (hne : rws ≠ []) (h : ∀ z ∈ rws, 10 ∉ TL.tl z) : Txt.split (Txt.join feed rws) feed = rws :=
  TL.split_join (s := 10) (S := []) tl_feed (by decide +kernel) hne h
theorem joinL_length {S : List Nat} {m : Nat} (hS : S.length = 1) : ∀ {ls : List (List Nat)}, (∀ l ∈ ls, l.length ≤ m) → (TL.joinL S ls).length ≤ ls.length * (m + 1)
  | [], _ => by simp [TL.joinL]
  | [p], h => by
    have := h p List.mem_cons_self
    show p.length ≤ 1 * (m + 1)
    omega
  | p :: q :: r, h => by
    have h1 := h p List.mem_cons_self
    have h2 := joinL_length hS (ls := q :: r) fun l hl => h l (List.mem_cons_of_mem _ hl)
    show (p ++ (S ++ TL.joinL S (q :: r))).length ≤ _
    rw [List.length_append, List.length_append, hS]
    rw [List.length_cons, Nat.succ_mul]
    omega
theorem join_len (y : Str) (hy : y.length = 1) {m : Nat} {ws : List Str} (h : ∀ z ∈ ws, z.length ≤ m) : (Txt.join y ws).length ≤ ws.length * (m + 1) := by
  have hS : (TL.tl y).length = 1 := by
    rw [← hy, len_list]
  have := joinL_length (m := m) hS (ls := ws.map TL.tl) fun l hl => by
    obtain ⟨z, hz, rfl⟩ := List.mem_map.mp hl
    have := h z hz
    rw [len_list] at this
    exact this
  rw [List.length_map, ← TL.tl_join, ← TL.join_eq] at this
  rw [len_list]
  exact this
theorem row_len {ws : List Str} (h : ∀ z ∈ ws, clean z) : (Txt.join blank ws).length ≤ ws.length * 9 := join_len blank (by decide +kernel) fun z hz => (h z hz).2.1
theorem wsD_len {hd : List Str} {e : De} (g : goD hd e) : (wsD e).length ≤ 6 := by
  unfold wsD
  rw [List.length_cons, List.length_append, List.length_map]
  have := g.len
  show e.tk.length + 2 + 1 ≤ 6
  omega
theorem wsH_len {hd : List Str} (g : goH hd) : (wsH hd).length ≤ 3 := by
  have := g.hi
  show hd.length + 1 ≤ 3
  omega
/-! ### texts put together -/
theorem tl_inj {a b : Str} (h : TL.tl a = TL.tl b) : a = b := str_ext h
theorem tl_app (a b : Str) : TL.tl (a ++ b) = TL.tl a ++ TL.tl b := TL.tl_append a b
theorem joinL_snoc (S : List Nat) (x : List Nat) : ∀ (ls : List (List Nat)), ls ≠ [] → TL.joinL S (ls ++ [x]) = TL.joinL S ls ++ (S ++ x)
  | [], h => absurd rfl h
  | [p], _ => rfl
  | p :: q :: r, _ => by
    show p ++ (S ++ TL.joinL S ((q :: r) ++ [x])) = (p ++ (S ++ TL.joinL S (q :: r))) ++ (S ++ x)
    rw [joinL_snoc S x (q :: r) (by simp)]
    simp [List.append_assoc]
theorem join_snoc (y x : Str) {ws : List Str} (h : ws ≠ []) : Txt.join y (ws ++ [x]) = (Txt.join y ws ++ y) ++ x := by
  refine tl_inj ?_
  rw [tl_app, tl_app, TL.join_eq, TL.join_eq, TL.tl_join, TL.tl_join, List.map_append]
  show TL.joinL (TL.tl y) (ws.map TL.tl ++ [TL.tl x]) = _
  rw [joinL_snoc _ _ _ (by simpa using h), List.append_assoc]
theorem join_one (y x : Str) : Txt.join y [x] = x := by
  refine tl_inj ?_
  rw [TL.join_eq, TL.tl_join]
  rfl
theorem three : ((blank ++ colon) ++ blank : Str) = " : " := by decide +kernel
theorem app_assoc (a b c : Str) : (a ++ b) ++ c = a ++ (b ++ c) := by
  refine tl_inj ?_
  simp [tl_app, List.append_assoc]
/-- a row of a deed, as the law writes it -/
theorem rowD_eq (e : De) : rowD e = (Txt.join blank (e.nm :: e.tk.map kS) ++ (" : " : Str)) ++ kS e.gv := by
  unfold rowD wsD
  rw [show e.nm :: (e.tk.map kS ++ [colon, kS e.gv]) = ((e.nm :: e.tk.map kS) ++ [colon]) ++ [kS e.gv] by simp]
  rw [join_snoc _ _ (by simp), join_snoc _ _ (by simp), ← three]
  simp [app_assoc]
end SfC
namespace SfC
open PySem PySem.Spec PyProof.Rows L2 SfG
abbrev nDeedRow : List Str := ["deed", "name", "takes", "gives", "words", "word"]
theorem str_kn {hd : List Str} {k : Kn} (h : goK hd k) {H : Hp} {Q : VK} (q : Q (.str (kS k)) H) : rStrX [k.v] H Q := by
  cases k with
  | h s => exact .inl ⟨s, rfl, q⟩
  | p n =>
    obtain ⟨h2, h9⟩ := h
    refine .inr ⟨n, rfl, ?_, ?_⟩
    · have e : n.natAbs ≠ 0 := by omega
      refine Nat.lt_of_lt_of_le ((Nat.log2_lt (k := 10) e).mpr ?_) (by decide)
      have : (2 : Nat) ^ 10 = 1024 := by decide
      omega
    · rw [str_kind h2 h9]
      exact q
/-- the words of a row, ahead of str -/
def wkD (e : De) : List Kn := .h e.nm :: (e.tk ++ [.h colon, e.gv])
theorem wkD_S (e : De) : (wkD e).map kS = wsD e := by
  unfold wkD wsD
  rw [List.map_cons, List.map_append]
  rfl
theorem wkD_V (e : De) : (wkD e).map Kn.v = .str e.nm :: (e.tk.map Kn.v ++ [.str colon, e.gv.v]) := by
  unfold wkD
  rw [List.map_cons, List.map_append]
  rfl
theorem sum_len : ∀ {ws : List Str}, (∀ z ∈ ws, z.length ≤ 1000) → (ws.map (·.length)).sum ≤ ws.length * 1000
  | [], _ => by simp
  | a :: r, h => by
    rw [List.map_cons, List.sum_cons, List.length_cons, Nat.succ_mul]
    have h1 := h a List.mem_cons_self
    have h2 := sum_len fun z hz => h z (List.mem_cons_of_mem _ hz)
    omega
theorem rows_len {f : Fc} (go : goF f) : ∀ z ∈ rowsF f, z.length ≤ 60 := by
  intro z hz
  rcases List.mem_cons.mp hz with rfl | hz
  · have a := row_len (clean_wsH go.hid.nm)
    have b := wsH_len go.hid
    unfold rowH
    omega
  · obtain ⟨e, he, rfl⟩ := List.mem_map.mp hz
    have a := row_len (clean_wsD go.hid.nm (go.ok e he))
    have b := wsD_len (go.ok e he)
    unfold rowD
    omega
section
variable {P : Program} {w : World} {K : PySem.W.Frag} {mg : Str → Option Value} {base : Heap}
def spDeedRow (K : PySem.W.Frag) : Sp := fun vs H Q _ => ∃ (x : V) (e : De) (hd : List Str), vs = [x] ∧ Dp K H x e.d ∧ goD hd e ∧ (∀ z ∈ hd, isN z = true) ∧ ∀ H', Gr H H' → Q (.str (rowD e)) H'
def spFText (K : PySem.W.Frag) : Sp := fun vs H Q _ => ∃ (x : V) (f : Fc), vs = [x] ∧ Dp K H x f.d ∧ goF f ∧ ∀ H', Gr H H' → Q (.str (textF f)) H'
theorem rows_sum {f : Fc} (go : goF f) : ((rowsF f).map (·.length)).sum + (rowsF f).length * 1 ≤ 16777216 := by
  have a := sum_len (ws := rowsF f) fun z hz => Nat.le_trans (rows_len go z hz) (by decide)
  have b : (rowsF f).length ≤ 9 := by
    show (f.ds.map rowD).length + 1 ≤ 9
    rw [List.length_map]
    have := go.hi
    omega
  omega
def spFRows (K : PySem.W.Frag) : Sp := fun vs H Q _ => ∃ (x : V) (f : Fc), vs = [x] ∧ Dp K H x f.d ∧ goF f ∧ ∀ H' p, Gr H H' → H p = none → H' p = some (.lst ((rowsF f).map V.str)) → Q (.ref p) H'
end
end SfC
namespace SfC
open PySem PySem.Spec PyProof.Rows L2 SfG
/-! ### the small defs that readers call -/
theorem scNextN : FnScope ["thing", "ahead"] ["thing", "ahead"] (defScope sNextN) := ⟨rfl, rfl, rfl, by decide +kernel, rfl, by decide +kernel, by decide +kernel⟩
theorem scFigs : FnScope ["word", "most"] ["word", "most"] (defScope sFigs) := ⟨rfl, rfl, rfl, by decide +kernel, rfl, by decide +kernel, by decide +kernel⟩
theorem scNum : FnScope ["word"] ["word"] (defScope sNum) := ⟨rfl, rfl, rfl, by decide +kernel, rfl, by decide +kernel, by decide +kernel⟩
theorem scWords : FnScope ["row", "words"] ["row"] (defScope sWords) := ⟨rfl, rfl, rfl, by decide +kernel, rfl, by decide +kernel, by decide +kernel⟩
theorem scAreT : FnScope ["thing", "hidden"] ["thing", "hidden"] (defScope sAreT) := ⟨rfl, rfl, rfl, by decide +kernel, rfl, by decide +kernel, by decide +kernel⟩
theorem scKindBy : FnScope ["word", "number"] ["word"] (defScope sKindBy) := ⟨rfl, rfl, rfl, by decide +kernel, rfl, by decide +kernel, by decide +kernel⟩
theorem scRowsOf : FnScope ["text"] ["text"] (defScope sRowsOf) := ⟨rfl, rfl, rfl, by decide +kernel, rfl, by decide +kernel, by decide +kernel⟩
theorem scNoMore : FnScope ["rows", "most"] ["rows", "most"] (defScope sNoMore) := ⟨rfl, rfl, rfl, by decide +kernel, rfl, by decide +kernel, by decide +kernel⟩
theorem let_digit : ∀ c, c < 128 → isLet c = true → Unicode.isDigit c = false := by decide +kernel
theorem name_digit {z : Str} (h : isN z = true) : Txt.isdigit z = false := by
  obtain ⟨_, h1, _, _, _, hl⟩ := isN_txt h
  unfold Txt.isdigit
  rw [← Array.all_toList]
  cases hc : z.cps.toList with
  | nil =>
    rw [len_list, hc] at h1
    exact absurd h1 (by simp)
  | cons a r =>
    rw [hc] at hl
    have ha := List.all_eq_true.mp hl a List.mem_cons_self
    rw [List.all_cons, let_digit a (let_range ha) ha]
    simp
theorem fig_txt : ∀ n : Nat, n < 10 → Txt.isdigit ⟨#[48 + n]⟩ = true ∧ Txt.isascii ⟨#[48 + n]⟩ = true ∧ PySem.intText? ⟨#[48 + n]⟩ = some (n : Int) := by decide +kernel
section
variable {P : Program} {w : World} {K : PySem.W.Frag} {mg : Str → Option Value} {base : Heap}
def spNextN : Sp := fun vs H Q _ => ∃ z a : Str, vs = [.str z, .str a] ∧ isN z = true ∧ lt a z ∧ Q (.bl true) H
theorem ok_nextN {f fN : Addr} {fd fdN : FuncData} {k : Nat} (F : Fun K "is_next_name" "is_next_name" sNextN f fd) (HN : Has P w K mg base (k + 1) "is_name" ["thing"] spName fN fdN) : FnOk P w K mg base CX0 (k + 2) f fd ["thing", "ahead"] spNextN := by
  refine F.ok scNextN (fun vs H Q E h => ?_) (fun cdv A outer s H vs Q E hr h => ?_)
  · obtain ⟨z, a, rfl, _⟩ := h
    rfl
  · obtain ⟨z, a, rfl, hz, hl, q⟩ := h
    refine ⟨_, pss_one (ps_ret (pe_and (hcall HN hr (pa_cons (pv 0) pa_nil)) (pe_one (pe_cmpR op_lt_str (pv 1) (pv 0) (nomark _))))), ?_⟩
    refine ⟨_, rfl, z, rfl, hz, _, rfl, iteT ⟨_, rfl, _, rfl, a, z, rfl, rfl, ?_⟩⟩
    rw [decide_eq_true hl]
    exact q
def numK : Kn → V
  | .h _ => .non
  | .p n => .int n
def spFigs : Sp := fun vs H Q _ => ∃ (k : Kn) (hd : List Str), vs = [.str (kS k), .int 2] ∧ goK hd k ∧ (∀ z ∈ hd, isN z = true) ∧ Q (numK k) H
theorem ok_figs {f : Addr} {fd : FuncData} {k : Nat} (F : Fun K "number_by_figures" "number_by_figures" sFigs f fd) (mi : mg "isinstance" = none) (m1 : mg "str" = none) (ml : mg "len" = none) (mn : mg "int" = none) :
    FnOk P w K mg base CX0 (k + 1) f fd ["word", "most"] spFigs := by
  refine F.ok scFigs (fun vs H Q E h => ?_) (fun cdv A outer s H vs Q E hr h => ?_)
  · obtain ⟨k, hd, rfl, _⟩ := h
    rfl
  · obtain ⟨k, hd, rfl, hk, hn, q⟩ := h
    refine ⟨_, pss_cons (ps_if (PW.pt (pw_or (pt_not (pt_val (pe_isi "str" 0 mi m1 (by decide +kernel))))
        (pw_or (pt_cmpR op_gt (pe_callB call_len_str (by rfl) ml PySem.boot_len (pa_cons (pv 0) pa_nil)) (pv 1) (nomark _))
        (pw_or (pt_not (pt_val (pe_m0 PySem.F.slot_str_isdigit PySem.F.type_str_isdigit mt_isdigit (pv 0))))
        (pw_or1 (pt_not (pt_val (pe_m0 PySem.F.slot_str_isascii PySem.F.type_str_isascii mt_isascii (pv 0)))))))))
        (pss_one (ps_ret pe_non)) pss_nil)
      (pss_cons (ps_if (PW.pt (pw_and (pt_cmpR op_eq (pe_item_str (pv 0) pe_int (fun _ _ => rfl)) pe_str (nomark _)) (pw_and1 (pt_cmpR op_ne (pv 0) pe_str (nomark _)))))
        (pss_one (ps_ret pe_non)) pss_nil)
      (pss_one (ps_ret (pe_callTy call_int_str (by rfl) mn (by decide +kernel) (pa_cons (pv 0) pa_nil))))), ?_⟩
    have cl := clean_kind hn hk
    have hz : (kS k).length ≤ sizeLine := by
      have := cl.2.1
      rw [sizeLine_eq]
      omega
    refine ⟨_, rfl, "str", true, (is_str _).1, by decide +kernel, _, rfl, iteF ⟨_, rfl, _, rfl, hz, _, rfl, _, 2, rfl, rfl, _, rfl, ?_⟩⟩
    cases k with
    | h s =>
      have hs := hn s hk
      have q' : Q .non H := q
      by_cases h2 : ((kS (.h s)).length : Int) > 2
      · rw [decide_eq_true h2]
        exact iteT (iteT q')
      · rw [decide_eq_false h2]
        refine iteF ⟨_, rfl, ⟨_, rfl⟩, _, rfl, rfl, trivial, _, rfl, ?_⟩
        rw [show Txt.isdigit (kS (.h s)) = false from name_digit hs]
        exact iteT (iteT q')
    | p n =>
      obtain ⟨h2, h9⟩ := hk
      obtain ⟨f1, f2, f3⟩ := fig_txt n.toNat (by omega)
      have hl : (kS (.p n)).length = 1 := rfl
      rw [hl, decide_eq_false (show ¬ ((1 : Nat) : Int) > 2 by decide)]
      refine iteF ⟨_, rfl, ⟨_, rfl⟩, _, rfl, rfl, trivial, _, rfl, ?_⟩
      rw [show Txt.isdigit (kS (.p n)) = true from f1]
      refine iteF ⟨_, rfl, ⟨_, rfl⟩, _, rfl, rfl, trivial, _, rfl, ?_⟩
      rw [show Txt.isascii (kS (.p n)) = true from f2]
      refine iteF ⟨_, rfl, kS (.p n), 0, 48 + n.toNat, rfl, rfl, by decide, by decide, (by rw [hl]; decide), rfl, rfl, _, rfl, ?_⟩
      have ne : ¬ V.str ⟨#[48 + n.toNat]⟩ = V.str "0" := by
        intro e
        have e1 := congrArg (fun z : Str => z.cps.toList) (V.str.inj e)
        have e2 : ("0" : Str).cps.toList = [48] := by decide +kernel
        simp only [e2] at e1
        have e3 : 48 + n.toNat = 48 := by simpa using e1
        omega
      rw [decide_eq_false ne]
      refine iteF (iteF ⟨_, rfl, kS (.p n), n, rfl, ?_, (by rw [hl]; decide), q⟩)
      rw [show PySem.intText? (kS (.p n)) = some ((n.toNat : Nat) : Int) from f3, Int.toNat_of_nonneg (by omega)]
def spNum : Sp := fun vs H Q _ => ∃ (k : Kn) (hd : List Str), vs = [.str (kS k)] ∧ goK hd k ∧ (∀ z ∈ hd, isN z = true) ∧ Q (numK k) H
theorem ok_num {f fF : Addr} {fd fdF : FuncData} {k : Nat} (F : Fun K "number_of" "number_of" sNum f fd) (HF : Has P w K mg base (k + 1) "number_by_figures" ["word", "most"] spFigs fF fdF) : FnOk P w K mg base CX0 (k + 2) f fd ["word"] spNum := by
  refine F.ok scNum (fun vs H Q E h => ?_) (fun cdv A outer s H vs Q E hr h => ?_)
  · obtain ⟨k, hd, rfl, _⟩ := h
    rfl
  · obtain ⟨k, hd, rfl, hk, hn, q⟩ := h
    refine ⟨_, pss_one (ps_ret (hcall HF hr (pa_cons (pv 0) (pa_cons pe_int pa_nil)))), ?_⟩
    exact ⟨_, rfl, k, hd, rfl, hk, hn, q⟩
def spKindBy : Sp := fun vs H Q _ => ∃ (k : Kn) (hd : List Str), vs = [.str (kS k)] ∧ goK hd k ∧ (∀ z ∈ hd, isN z = true) ∧ Q k.v H
theorem ok_kindBy {f fN : Addr} {fd fdN : FuncData} {k : Nat} (F : Fun K "kind_by" "kind_by" sKindBy f fd) (HN : Has P w K mg base (k + 2) "number_of" ["word"] spNum fN fdN) : FnOk P w K mg base CX0 (k + 3) f fd ["word"] spKindBy := by
  refine F.ok scKindBy (fun vs H Q E h => ?_) (fun cdv A outer s H vs Q E hr h => ?_)
  · obtain ⟨k, hd, rfl, _⟩ := h
    rfl
  · obtain ⟨k, hd, rfl, hk, hn, q⟩ := h
    refine ⟨_, pss_cons (ps_set (i := 1) scKindBy.nd rfl (.inl rfl) (hcall HN hr (pa_cons (pv 0) pa_nil))) (pss_cons (ps_if (pt_cmpR op_isN (pv 1) pe_non (nomark _)) (pss_one (ps_ret (pv 0))) pss_nil) (pss_one (ps_ret (pv 1)))), ?_⟩
    refine ⟨_, rfl, k, hd, rfl, hk, hn, _, rfl, rfl, _, rfl, ?_⟩
    cases k with
    | h s => exact iteT ⟨_, rfl, q⟩
    | p n => exact iteF ⟨_, rfl, q⟩
def spAreT (K : PySem.W.Frag) : Sp := fun vs H Q _ => ∃ (x : V) (tk : List Kn) (hd : List Str) (p : Addr), vs = [x, .ref p] ∧ Dp K H x (.tuple (tk.map Kn.d)) ∧ SqT K H p (hd.map V.str) ∧ tk.length ≤ 3 ∧ (∀ k ∈ tk, goK hd k) ∧ hidN tk ≤ 2 ∧ ∀ H', Gr H H' → Q (.bl true) H'
theorem ok_areT {f fD : Addr} {fd fdD : FuncData} {k : Nat} (F : Fun K "are_takes" "are_takes" sAreT f fd) (HD : Has P w K mg base (k + 2) "first_bad_deed" ["deeds", "hidden"] (spBadD K) fD fdD) : FnOk P w K mg base CX0 (k + 3) f fd ["thing", "hidden"] (spAreT K) := by
  refine F.ok scAreT (fun vs H Q E h => ?_) (fun cdv A outer s H vs Q E hr h => ?_)
  · obtain ⟨x, tk, hd, p, rfl, _⟩ := h
    rfl
  · obtain ⟨x, tk, hd, p, rfl, hx, hp, h3, hk, h2, q⟩ := h
    refine ⟨_, pss_one (ps_ret (pe_cmpR op_isN (hcall HD hr (pa_cons (pe_tup (pa_cons (pe_tup (pa_cons pe_str (pa_cons (pv 0) (pa_cons pe_int pa_nil)))) pa_nil)) (pa_cons (pv 1) pa_nil))) pe_non (nomark _))), ?_⟩
    refine ⟨_, rfl, by show 3 ≤ sizeLine; decide, fun t1 n1 => ?_⟩
    have g1 : Gr H (upd H t1 (.tup [.str "a", x, .int 2])) := Gr.new n1
    have e1 : upd H t1 (.tup [.str "a", x, .int 2]) t1 = some (.tup [.str "a", x, .int 2]) := upd_same
    generalize upd H t1 (.tup [.str "a", x, .int 2]) = H1 at g1 e1 ⊢
    refine ⟨by show 1 ≤ sizeLine; decide, fun t2 n2 => ?_⟩
    have g2 : Gr H1 (upd H1 t2 (.tup [.ref t1])) := Gr.new n2
    have e2 : upd H1 t2 (.tup [.ref t1]) t2 = some (.tup [.ref t1]) := upd_same
    generalize upd H1 t2 (.tup [.ref t1]) = H2 at g2 e2 ⊢
    have g := g1.trans g2
    refine ⟨_, rfl, [⟨"a", tk, .p 2⟩], hd, .ref t2, p, rfl, .tup (.inl (.inl e2)) (.cons (.tup (.inl (.inl (g2.tup e1))) (.cons (.str _) (.cons (g.kd.dp hx) (.cons (.int 2) .nil)))) .nil), g.sqt hp, List.pairwise_singleton _ _, ?_, fun H3 g3 => ⟨rfl, q H3 (g.trans g3)⟩⟩
    intro e he
    have : e = ⟨"a", tk, .p 2⟩ := by simpa using he
    rw [this]
    exact ⟨by show isN "a" = true; decide +kernel, h3, hk, h2, ⟨by decide, by decide⟩⟩
/-! ### words_of, rows_of, need_no_more -/
def spWords : Sp := fun vs H Q _ => ∃ ws : List Str, vs = [.str (Txt.join blank ws)] ∧ ws ≠ [] ∧ (∀ z ∈ ws, clean z) ∧ ws.length ≤ 100 ∧ ∀ H' p, Gr H H' → H p = none → H' p = some (.lst (ws.map V.str)) → Q (.ref p) H'
theorem ok_words {f : Addr} {fd : FuncData} {k : Nat} (F : Fun K "words_of" "words_of" sWords f fd) (mi : mg "isinstance" = none) (m1 : mg "str" = none) : FnOk P w K mg base CX0 (k + 1) f fd ["row"] spWords := by
  refine F.ok scWords (fun vs H Q E h => ?_) (fun cdv A outer s H vs Q E hr h => ?_)
  · obtain ⟨ws, rfl, _⟩ := h
    rfl
  · obtain ⟨ws, rfl, hne, hc, hl, q⟩ := h
    refine ⟨_, pss_cons (ps_if (pt_not (pt_val (pe_isi "str" 0 mi m1 (by decide +kernel)))) pss_never pss_nil)
      (pss_cons (ps_set (i := 1) scWords.nd rfl (.inl rfl) (pe_split (pv 0) pe_str))
      (pss_cons (ps_if (pt_cmpR op_in_seq pe_str (pv 1) rfl) pss_never pss_nil)
      (pss_one (ps_ret (pv 1))))), ?_⟩
    have hlen := row_len hc
    refine ⟨_, rfl, "str", true, (is_str _).1, by decide +kernel, _, rfl, iteF ⟨_, rfl, ⟨_, rfl⟩, _, blank, rfl, rfl, by decide +kernel, by rw [sizeLine_eq]; omega, ?_⟩⟩
    intro p np
    rw [split_words hne hc]
    refine ⟨_, rfl, p, ws.map V.str, rfl, .inl (.inl (.inl upd_same)), rfl, flat_strs ws, _, rfl, ?_⟩
    have no : inV (.str nought) (ws.map V.str) = false := by
      rw [inV_not]
      refine decide_eq_false fun h => ?_
      exact absurd (hc _ h).1 (by decide +kernel)
    show if inV (.str nought) (ws.map V.str) = true then _ else _
    rw [no]
    exact iteF ⟨_, rfl, q _ p (Gr.new np) np upd_same⟩
def spRowsOf : Sp := fun vs H Q _ => ∃ rws : List Str, vs = [.str (Txt.join feed rws)] ∧ rws ≠ [] ∧ (∀ z ∈ rws, 10 ∉ TL.tl z) ∧ (Txt.join feed rws).length ≤ 100000 ∧ ∀ H' p, Gr H H' → H p = none → H' p = some (.lst (rws.map V.str)) → Q (.ref p) H'
theorem ok_rowsOf {f : Addr} {fd : FuncData} {k : Nat} (F : Fun K "rows_of" "rows_of" sRowsOf f fd) (mi : mg "isinstance" = none) (m1 : mg "str" = none) : FnOk P w K mg base CX0 (k + 1) f fd ["text"] spRowsOf := by
  refine F.ok scRowsOf (fun vs H Q E h => ?_) (fun cdv A outer s H vs Q E hr h => ?_)
  · obtain ⟨ws, rfl, _⟩ := h
    rfl
  · obtain ⟨ws, rfl, hne, hc, hl, q⟩ := h
    refine ⟨_, pss_cons (ps_if (pt_not (pt_val (pe_isi "str" 0 mi m1 (by decide +kernel)))) pss_never pss_nil) (pss_one (ps_ret (pe_split (pv 0) pe_str))), ?_⟩
    refine ⟨_, rfl, "str", true, (is_str _).1, by decide +kernel, _, rfl, iteF ⟨_, rfl, ⟨_, rfl⟩, _, feed, rfl, rfl, by decide +kernel, by rw [sizeLine_eq]; omega, ?_⟩⟩
    intro p np
    rw [split_rows hne hc]
    exact q _ p (Gr.new np) np upd_same
def spNoMore (K : PySem.W.Frag) : Sp := fun vs H Q _ => ∃ (p : Addr) (xs : List V) (m : Int), vs = [.ref p, .int m] ∧ SqL K H p xs ∧ (xs.length : Int) ≤ m ∧ Q .non H
theorem ok_noMore {f : Addr} {fd : FuncData} {k : Nat} (F : Fun K "need_no_more" "need_no_more" sNoMore f fd) (ml : mg "len" = none) : FnOk P w K mg base CX0 (k + 1) f fd ["rows", "most"] (spNoMore K) := by
  refine F.ok scNoMore (fun vs H Q E h => ?_) (fun cdv A outer s H vs Q E hr h => ?_)
  · obtain ⟨p, xs, m, rfl, _⟩ := h
    rfl
  · obtain ⟨p, xs, m, rfl, hp, hm, q⟩ := h
    refine ⟨_, pss_one (ps_if (pt_cmpR op_gt (pe_callB call_len_seq (by rfl) ml PySem.boot_len (pa_cons (pv 0) pa_nil)) (pv 1) (nomark _)) pss_never pss_nil), ?_⟩
    refine ⟨_, rfl, p, xs, rfl, .inl hp, _, rfl, _, m, rfl, rfl, _, rfl, ?_⟩
    rw [decide_eq_false (show ¬ (xs.length : Int) > m by omega)]
    exact iteF q
end
end SfC
namespace SfC
open PySem PySem.Spec PyProof.Rows L2 SfG
/-! ### rows that are read -/
abbrev sInit : Stmt := inClass sRow 0
abbrev sSeen : Stmt := inClass sRow 1
abbrev sTake : Stmt := inClass sRow 2
abbrev sTakeW : Stmt := inClass sRow 3
abbrev sClose : Stmt := inClass sRow 5
theorem scInit : FnScope ["self", "number", "text", "words"] ["self", "number", "text"] (defScope sInit) := ⟨rfl, rfl, rfl, by decide +kernel, rfl, by decide +kernel, by decide +kernel⟩
theorem scSeen : FnScope ["self"] ["self"] (defScope sSeen) := ⟨rfl, rfl, rfl, by decide +kernel, rfl, by decide +kernel, by decide +kernel⟩
theorem scTake : FnScope ["self", "stands"] ["self", "stands"] (defScope sTake) := ⟨rfl, rfl, rfl, by decide +kernel, rfl, by decide +kernel, by decide +kernel⟩
theorem scTakeW : FnScope ["self", "word"] ["self", "word"] (defScope sTakeW) := ⟨rfl, rfl, rfl, by decide +kernel, rfl, by decide +kernel, by decide +kernel⟩
theorem scClose : FnScope ["self"] ["self"] (defScope sClose) := ⟨rfl, rfl, rfl, by decide +kernel, rfl, by decide +kernel, by decide +kernel⟩
theorem scRowAt : FnScope ["rows", "number"] ["rows", "number"] (defScope sRowAt) := ⟨rfl, rfl, rfl, by decide +kernel, rfl, by decide +kernel, by decide +kernel⟩
def rf (n : Int) (wl : Addr) (a : Int) : List (Str × V) := [("number", .int n), ("words", .ref wl), ("at", .int a)]
theorem nw : ¬ (("number" : Str) = "words") := by decide +kernel
theorem na : ¬ (("number" : Str) = "at") := by decide +kernel
theorem wa : ¬ (("words" : Str) = "at") := by decide +kernel
theorem rf_number (n : Int) (wl : Addr) (a : Int) : (rf n wl a).lookup ("number" : Str) = some (.int n) := by simp [rf, List.lookup]
theorem rf_words (n : Int) (wl : Addr) (a : Int) : (rf n wl a).lookup ("words" : Str) = some (.ref wl) := by
  have h : (("words" : Str) == ("number" : Str)) = false := by decide +kernel
  simp [rf, List.lookup, h]
theorem rf_at (n : Int) (wl : Addr) (a : Int) : (rf n wl a).lookup ("at" : Str) = some (.int a) := by
  have h : (("at" : Str) == ("number" : Str)) = false := by decide +kernel
  have h2 : (("at" : Str) == ("words" : Str)) = false := by decide +kernel
  simp [rf, List.lookup, h, h2]
theorem rf_no (n : Int) (wl : Addr) (a : Int) {m : Str} (h1 : (m == ("number" : Str)) = false) (h2 : (m == ("words" : Str)) = false) (h3 : (m == ("at" : Str)) = false) : (rf n wl a).lookup m = none := by
  simp [rf, List.lookup, h1, h2, h3]
theorem rf_put (n : Int) (wl : Addr) (a b : Int) : putF "at" (.int b) (rf n wl a) = rf n wl b := by
  show (if ("number" : Str) = "at" then _ else (("number" : Str), V.int n) :: (if ("words" : Str) = "at" then _ else (("words" : Str), V.ref wl) :: (if ("at" : Str) = "at" then [(("at" : Str), V.int b)] else _))) = rf n wl b
  rw [if_neg na, if_neg wa, if_pos rfl]
  rfl
theorem rf_made (n : Int) (wl : Addr) : putF "at" (.int 0) (putF "words" (.ref wl) (putF "number" (.int n) [])) = rf n wl 0 := by
  show putF "at" (.int 0) (if ("number" : Str) = "words" then _ else (("number" : Str), V.int n) :: putF "words" (.ref wl) []) = rf n wl 0
  rw [if_neg nw]
  show (if ("number" : Str) = "at" then _ else (("number" : Str), V.int n) :: (if ("words" : Str) = "at" then _ else (("words" : Str), V.ref wl) :: putF "at" (.int 0) [])) = rf n wl 0
  rw [if_neg na, if_neg wa]
  rfl
/-- a row at x: its number, its words, and how many are taken -/
def RowAt (C : Addr) (H : Hp) (x : Addr) (n : Int) (ws : List Str) (a : Nat) : Prop := ∃ dx wl, H x = some (.ins C dx (rf n wl (a : Nat))) ∧ H wl = some (.lst (ws.map V.str ++ [.non]))
theorem RowAt.gr {C : Addr} {H H' : Hp} {x : Addr} {n : Int} {ws : List Str} {a : Nat} (h : RowAt C H x n ws a) (g : Gr H H') : RowAt C H' x n ws a := by
  obtain ⟨dx, wl, h1, h2⟩ := h
  exact ⟨dx, wl, g.keep _ _ h1 (fun _ z => by cases z), g.lst h2⟩
/-- what is seen there -/
def seenV (ws : List Str) (a : Nat) : V := match ws[a]? with
  | some z => .str z
  | none => .non
theorem seen_at {ws : List Str} {a : Nat} (h : a ≤ ws.length) : (ws.map V.str ++ [V.non])[a]? = some (seenV ws a) := by
  unfold seenV
  rcases Nat.lt_or_ge a ws.length with h1 | h1
  · rw [List.getElem?_append_left (by rw [List.length_map]; exact h1), List.getElem?_map, List.getElem?_eq_getElem h1]
    rfl
  · have e : a = ws.length := by omega
    rw [List.getElem?_append_right (by rw [List.length_map]; omega), List.length_map, e, Nat.sub_self, List.getElem?_eq_none (Nat.le_refl _)]
    rfl
structure RowC (K : PySem.W.Frag) (mg : Str → Option Value) (C : Addr) : Prop where
  cl : Cls K C
  nN : NoAttr K C "number"
  nW : NoAttr K C "words"
  nA : NoAttr K C "at"
  g : mg "Row" = some (.ref C)
/-- a method: where it stands, how it is bound, what it promises -/
structure HasM (P : Program) (w : World) (K : PySem.W.Frag) (mg : Str → Option Value) (base : Heap) (C : Addr) (k : Nat) (m : Str) (ps : List Str) (sp : Sp) (f : Addr) (fd : FuncData) : Prop where
  ok : FnOk P w K mg base CX0 k f fd ps sp
  me : Meth K C m f
  bd : Binds K fd ps []
section
variable {P : Program} {w : World} {K : PySem.W.Frag} {mg : Str → Option Value} {base : Heap}
def spInit (C : Addr) : Sp := fun vs H Q _ => ∃ (x dx : Addr) (n : Int) (ws : List Str), vs = [.ref x, .int n, .str (Txt.join blank ws)] ∧ H x = some (.ins C dx []) ∧ ws ≠ [] ∧ (∀ z ∈ ws, clean z) ∧ ws.length ≤ 100 ∧ ∀ H', Gp x H H' → RowAt C H' x n ws 0 → Q .non H'
theorem ok_init {f fW C : Addr} {fd fdW : FuncData} {k : Nat} (F : Fun K "__init__" "Row.__init__" sInit f fd) (R : RowC K mg C) (HW : Has P w K mg base (k + 1) "words_of" ["row"] spWords fW fdW) : FnOk P w K mg base CX0 (k + 2) f fd ["self", "number", "text"] (spInit C) := by
  refine F.ok scInit (fun vs H Q E h => ?_) (fun cdv A outer s H vs Q E hr h => ?_)
  · obtain ⟨x, dx, n, ws, rfl, _⟩ := h
    rfl
  · obtain ⟨x, dx, n, ws, rfl, hx, hne, hc, hl, q⟩ := h
    have nd := scInit.nd
    refine ⟨_, pss_cons (ps_set (i := 3) nd rfl (.inl rfl) (hcall HW hr (pa_cons (pv 2) pa_nil))) (pss_cons (ps_if (pt_cmpR op_isN (pv 3) pe_non (nomark _)) pss_never pss_nil)
      (pss_cons (ps_fld (pv 0) (pv 1) rfl) (pss_cons (ps_fld (pv 0) (pe_lst (StX.pa_star (pv 3) (pa_cons pe_non pa_nil))) rfl) (pss_one (ps_fld (pv 0) pe_int rfl))))), ?_⟩
    refine ⟨_, rfl, ws, rfl, hne, hc, hl, fun H1 p g1 np hp => ⟨_, rfl, rfl, _, rfl, iteF ?_⟩⟩
    have hx1 : H1 x = some (.ins C dx []) := g1.keep _ _ hx (fun _ z => by cases z)
    refine ⟨_, rfl, _, rfl, x, C, dx, _, rfl, hx1, R.cl, R.nN, (by show 0 < 1000; decide), ?_⟩
    have px : p ≠ x := by
      intro z
      rw [z, hx1] at hp
      cases hp
    have hp2 : upd H1 x (.ins C dx (putF "number" (.int n) [])) p = some (.lst (ws.map V.str)) := (upd_ne px).trans hp
    have hx2 : upd H1 x (.ins C dx (putF "number" (.int n) [])) x = some (.ins C dx (putF "number" (.int n) [])) := upd_same
    have g2 : Gp x H (upd H1 x (.ins C dx (putF "number" (.int n) []))) := (Gp.gr g1).trans (Gp.but (But.upd (fun _ _ => rfl)))
    generalize upd H1 x (.ins C dx (putF "number" (.int n) [])) = H2 at hp2 hx2 g2 ⊢
    refine ⟨_, rfl, p, _, rfl, .inr (.inl (.inl hp2)), ?_, fun wl nwl => ?_⟩
    · rw [List.length_append, List.length_map]
      exact Nat.le_of_lt (small1000 (by show ws.length + 1 ≤ 1000; omega))
    have wx : x ≠ wl := ne_of_none hx2 nwl
    have hw3 : upd H2 wl (.lst (ws.map V.str ++ [.non])) wl = some (.lst (ws.map V.str ++ [.non])) := upd_same
    have hx3 : upd H2 wl (.lst (ws.map V.str ++ [.non])) x = some (.ins C dx (putF "number" (.int n) [])) := (upd_ne wx).trans hx2
    have g3 : Gp x H (upd H2 wl (.lst (ws.map V.str ++ [.non]))) := g2.trans (Gp.gr (Gr.new nwl))
    generalize upd H2 wl (.lst (ws.map V.str ++ [.non])) = H3 at hw3 hx3 g3 ⊢
    refine ⟨_, rfl, x, C, dx, _, rfl, hx3, R.cl, R.nW, (by show 1 < 1000; decide), ?_⟩
    refine ⟨_, rfl, x, C, dx, _, rfl, upd_same, R.cl, R.nA, ?_, ?_⟩
    · show (putF "words" (.ref wl) (putF "number" (.int n) [])).length < 1000
      show (if ("number" : Str) = "words" then [(("number" : Str), V.ref wl)] else (("number" : Str), V.int n) :: putF "words" (.ref wl) []).length < 1000
      rw [if_neg nw]
      show 2 < 1000
      decide
    refine q _ ((g3.trans (Gp.but (But.upd (fun _ _ => rfl)))).trans (Gp.but (But.upd (fun _ _ => rfl)))) ⟨dx, wl, ?_, ?_⟩
    · rw [upd_same, rf_made]
      rfl
    · rw [upd_ne (Ne.symm wx), upd_ne (Ne.symm wx)]
      exact hw3
def spSeen (C : Addr) : Sp := fun vs H Q _ => ∃ (x : Addr) (n : Int) (ws : List Str) (a : Nat), vs = [.ref x] ∧ RowAt C H x n ws a ∧ a ≤ ws.length ∧ Q (seenV ws a) H
theorem ok_seen {f C : Addr} {fd : FuncData} {k : Nat} (F : Fun K "seen" "Row.seen" sSeen f fd) (R : RowC K mg C) : FnOk P w K mg base CX0 (k + 1) f fd ["self"] (spSeen C) := by
  refine F.ok scSeen (fun vs H Q E h => ?_) (fun cdv A outer s H vs Q E hr h => ?_)
  · obtain ⟨x, n, ws, a, rfl, _⟩ := h
    rfl
  · obtain ⟨x, n, ws, a, rfl, ⟨dx, wl, hx, hw⟩, ha, q⟩ := h
    refine ⟨_, pss_one (ps_ret (pe_ix ix_list (pe_fld (pv 0) rfl) (pe_fld (pv 0) rfl) (fun _ _ => rfl))), ?_⟩
    exact ⟨_, rfl, x, C, dx, _, _, rfl, hx, R.cl, R.nW, rf_words _ _ _, _, rfl, x, C, dx, _, _, rfl, hx, R.cl, R.nA, rf_at _ _ _, wl, _, (a : Nat), _, rfl, rfl, .inl (.inl hw), atI_nat (seen_at ha), q⟩
def spTake (C : Addr) : Sp := fun vs H Q _ => ∃ (x : Addr) (n : Int) (ws : List Str) (a : Nat), vs = [.ref x, .bl true] ∧ RowAt C H x n ws a ∧ a ≤ ws.length ∧ ∀ H', Gp x H H' → RowAt C H' x n ws (a + 1) → Q (seenV ws a) H'
theorem ok_take {f C : Addr} {fd : FuncData} {k : Nat} (F : Fun K "take" "Row.take" sTake f fd) (R : RowC K mg C) : FnOk P w K mg base CX0 (k + 1) f fd ["self", "stands"] (spTake C) := by
  refine F.ok scTake (fun vs H Q E h => ?_) (fun cdv A outer s H vs Q E hr h => ?_)
  · obtain ⟨x, n, ws, a, rfl, _⟩ := h
    rfl
  · obtain ⟨x, n, ws, a, rfl, ⟨dx, wl, hx, hw⟩, ha, q⟩ := h
    refine ⟨_, pss_cons (ps_if (pt_not (pt_val (pv 1))) pss_never pss_nil) (pss_cons (ps_fldaug (pv 0) pe_int in_add)
      (pss_one (ps_ret (pe_ix ix_list (pe_fld (pv 0) rfl) (pe_op op_sub (pe_fld (pv 0) rfl) pe_int) (fun _ _ => rfl))))), ?_⟩
    refine ⟨_, rfl, _, rfl, iteF ?_⟩
    refine ⟨_, rfl, x, C, dx, _, _, rfl, hx, R.cl, R.nA, rf_at _ _ _, _, 1, rfl, rfl, _, _, hx, (by show 3 < 1000; decide), ?_⟩
    rw [rf_put]
    have wx : wl ≠ x := by
      intro z
      rw [z, hx] at hw
      cases hw
    have e1 : ((a : Nat) : Int) + 1 = ((a + 1 : Nat) : Int) := by omega
    rw [e1]
    have hx2 : upd H x (.ins C dx (rf n wl ((a + 1 : Nat) : Int))) x = some (.ins C dx (rf n wl ((a + 1 : Nat) : Int))) := upd_same
    have hw2 : upd H x (.ins C dx (rf n wl ((a + 1 : Nat) : Int))) wl = some (.lst (ws.map V.str ++ [.non])) := (upd_ne wx).trans hw
    have g2 : Gp x H (upd H x (.ins C dx (rf n wl ((a + 1 : Nat) : Int)))) := Gp.but (But.upd (fun _ _ => rfl))
    generalize upd H x (.ins C dx (rf n wl ((a + 1 : Nat) : Int))) = H2 at hx2 hw2 g2 ⊢
    refine ⟨_, rfl, x, C, dx, _, _, rfl, hx2, R.cl, R.nW, rf_words _ _ _, _, rfl, x, C, dx, _, _, rfl, hx2, R.cl, R.nA, rf_at _ _ _, _, 1, rfl, rfl, wl, _, _, _, rfl, rfl, .inl (.inl hw2), ?_, q H2 g2 ⟨dx, wl, hx2, hw2⟩⟩
    have e2 : ((a + 1 : Nat) : Int) - 1 = ((a : Nat) : Int) := by omega
    rw [e2]
    exact atI_nat (seen_at ha)
def spTakeW (C : Addr) : Sp := fun vs H Q _ => ∃ (x : Addr) (n : Int) (ws : List Str) (a : Nat) (z : Str), vs = [.ref x, .str z] ∧ RowAt C H x n ws a ∧ ws[a]? = some z ∧ ∀ H', Gp x H H' → RowAt C H' x n ws (a + 1) → Q .non H'
theorem lt_of_at {α : Type} {l : List α} {i : Nat} {x : α} (h : l[i]? = some x) : i < l.length := (List.getElem?_eq_some_iff.mp h).1
theorem seen_is {ws : List Str} {a : Nat} {z : Str} (h : ws[a]? = some z) : seenV ws a = .str z := by
  unfold seenV
  rw [h]
theorem ok_takeW {f fS fT C : Addr} {fd fdS fdT : FuncData} {k : Nat} (F : Fun K "take_word" "Row.take_word" sTakeW f fd) (R : RowC K mg C) (HS : HasM P w K mg base C (k + 1) "seen" ["self"] (spSeen C) fS fdS)
    (HT : HasM P w K mg base C (k + 1) "take" ["self", "stands"] (spTake C) fT fdT) : FnOk P w K mg base CX0 (k + 2) f fd ["self", "word"] (spTakeW C) := by
  refine F.ok scTakeW (fun vs H Q E h => ?_) (fun cdv A outer s H vs Q E hr h => ?_)
  · obtain ⟨x, n, ws, a, z, rfl, _⟩ := h
    rfl
  · obtain ⟨x, n, ws, a, z, rfl, hR, hz, q⟩ := h
    have ha := lt_of_at hz
    refine ⟨_, pss_one (ps_expr (pe_meth (pv 0) R.cl HT.me HT.ok hr HT.bd .nil pass0 (pa_cons (pe_cmpR op_eq (pe_meth0 (pv 0) R.cl HS.me HS.ok hr HS.bd .nil pass0) (pv 1) (nomark _)) pa_nil))), ?_⟩
    obtain ⟨dx, wl, hx, hw⟩ := id hR
    refine ⟨_, rfl, x, dx, _, rfl, hx, rf_no _ _ _ (by decide +kernel) (by decide +kernel) (by decide +kernel), _, rfl, x, dx, _, rfl, hx, rf_no _ _ _ (by decide +kernel) (by decide +kernel) (by decide +kernel), x, n, ws, a, rfl, hR, Nat.le_of_lt ha, ?_⟩
    rw [seen_is hz]
    refine ⟨_, rfl, rfl, ?_⟩
    rw [decide_eq_true rfl]
    exact ⟨x, n, ws, a, rfl, hR, Nat.le_of_lt ha, fun H' g R' => q H' g R'⟩
def spClose (C : Addr) : Sp := fun vs H Q _ => ∃ (x : Addr) (n : Int) (ws : List Str), vs = [.ref x] ∧ RowAt C H x n ws ws.length ∧ Q .non H
theorem ok_close {f fS C : Addr} {fd fdS : FuncData} {k : Nat} (F : Fun K "close" "Row.close" sClose f fd) (R : RowC K mg C) (HS : HasM P w K mg base C (k + 1) "seen" ["self"] (spSeen C) fS fdS) : FnOk P w K mg base CX0 (k + 2) f fd ["self"] (spClose C) := by
  refine F.ok scClose (fun vs H Q E h => ?_) (fun cdv A outer s H vs Q E hr h => ?_)
  · obtain ⟨x, n, ws, rfl, _⟩ := h
    rfl
  · obtain ⟨x, n, ws, rfl, hR, q⟩ := h
    refine ⟨_, pss_one (ps_if (pt_cmpR op_notN (pe_meth0 (pv 0) R.cl HS.me HS.ok hr HS.bd .nil pass0) pe_non (nomark _)) pss_never pss_nil), ?_⟩
    obtain ⟨dx, wl, hx, hw⟩ := id hR
    refine ⟨_, rfl, x, dx, _, rfl, hx, rf_no _ _ _ (by decide +kernel) (by decide +kernel) (by decide +kernel), x, n, ws, ws.length, rfl, hR, Nat.le_refl _, rfl, _, rfl, ?_⟩
    have e : seenV ws ws.length = .non := by
      unfold seenV
      rw [List.getElem?_eq_none (Nat.le_refl _)]
    rw [e]
    exact iteF q
def spRowAt (K : PySem.W.Frag) (C : Addr) : Sp := fun vs H Q _ => ∃ (rl : Addr) (rws : List Str) (i : Nat) (ws : List Str), vs = [.ref rl, .int ((i + 1 : Nat) : Int)] ∧ SqL K H rl (rws.map V.str) ∧ rws[i]? = some (Txt.join blank ws) ∧ ws ≠ [] ∧ (∀ z ∈ ws, clean z) ∧ ws.length ≤ 100 ∧
  ∀ H' x, Gr H H' → H x = none → RowAt C H' x ((i + 1 : Nat) : Int) ws 0 → Q (.ref x) H'
theorem ok_rowAt {f fI C : Addr} {fd fdI : FuncData} {k : Nat} (F : Fun K "row_at" "row_at" sRowAt f fd) (R : RowC K mg C) (M : Mk K C fI) (GI : FnOk P w K mg base CX0 (k + 2) fI fdI ["self", "number", "text"] (spInit C)) (bI : Binds K fdI ["self", "number", "text"] []) (ml : mg "len" = none) :
    FnOk P w K mg base CX0 (k + 4) f fd ["rows", "number"] (spRowAt K C) := by
  refine F.ok scRowAt (fun vs H Q E h => ?_) (fun cdv A outer s H vs Q E hr h => ?_)
  · obtain ⟨rl, rws, i, ws, rfl, _⟩ := h
    rfl
  · obtain ⟨rl, rws, i, ws, rfl, hrl, hz, hne, hc, hl, q⟩ := h
    have hi := lt_of_at hz
    refine ⟨_, pss_cons (ps_if (pt_cmpR op_gt (pv 1) (pe_callB call_len_seq (by rfl) ml PySem.boot_len (pa_cons (pv 0) pa_nil)) (nomark _)) pss_never pss_nil)
      (pss_one (ps_ret (pe_make M GI hr (by rfl) R.g bI .nil pass0 (pa_cons (pv 1) (pa_cons (pe_ix ix_list (pv 0) (pe_op op_sub (pv 1) pe_int) (fun _ _ => rfl)) pa_nil))))), ?_⟩
    refine ⟨_, rfl, _, rfl, rl, _, rfl, .inl hrl, _, _, rfl, rfl, _, rfl, ?_⟩
    rw [List.length_map, decide_eq_false (show ¬ ((i + 1 : Nat) : Int) > ((rws.length : Nat) : Int) by omega)]
    refine iteF ⟨_, rfl, _, rfl, _, rfl, _, 1, rfl, rfl, rl, _, _, .str (Txt.join blank ws), rfl, rfl, hrl, ?_, ?_⟩
    · have e2 : ((i + 1 : Nat) : Int) - 1 = ((i : Nat) : Int) := by omega
      rw [e2]
      exact atI_nat (by rw [List.getElem?_map, hz]; rfl)
    intro x dx nx ndx nex
    have g1 : Gr H (upd (upd H dx (.own x)) x (.ins C dx [])) := by
      refine (Gr.new ndx).trans (Gr.new ?_)
      rw [upd_ne (Ne.symm nex)]
      exact nx
    refine ⟨x, dx, _, ws, rfl, upd_same, hne, hc, hl, fun H' g R' => ⟨rfl, ?_⟩⟩
    exact q H' x (Gp.out g1 nx g) nx R'
end
end SfC
namespace SfC
open PySem PySem.Spec PyProof.Rows L2 SfG
/-! ### BadRow -/
abbrev sRowIni : Stmt := inClass sBadRow 0
theorem scRowIni : SupScope ["self", "row", "word"] ["self", "row", "word"] (defScope sRowIni) :=
  ⟨rfl, rfl, rfl, by decide +kernel, rfl, by decide +kernel, by decide +kernel, by decide +kernel, rfl, rfl⟩
/-- a def that may raise, as a method -/
structure HasMX (P : Program) (w : World) (K : PySem.W.Frag) (mg : Str → Option Value) (base : Heap) (C : Addr) (k : Nat) (m : Str) (ps : List Str) (sp : Sp) (f : Addr) (fd : FuncData) : Prop where
  ok : FnOk P w K mg base (L2.CX P w) k f fd ps sp
  me : Meth K C m f
  bd : Binds K fd ps []
section
variable {P : Program} {w : World} {K : PySem.W.Frag} {mg : Str → Option Value} {base : Heap}
theorem ok_rowIni {f C cc cda fS : Addr} {fdS : FuncData} {k : Nat} {oc kV doc pm ct : Value} {od an : Option Addr} {osl : Array (Option Value)}
    (lk : K.lookup f = some ⟨oc, od, .func (PySem.W.ksFn "__init__" "BadRow.__init__" (defArgs sRowIni) (defBody sRowIni) (defScope sRowIni) .none kV doc pm an (.ref cda) ct cc), osl⟩)
    (hcd : PySem.W.codeIn K (.ref cda) "BadRow.__init__" = true) (U : SupC P K mg C cc cda) (HS : Has P w K mg base (k + 1) "shown" ["field"] spShown fS fdS)
    (n1 : PySem.W.findIn K (.ref C) "row" = some none) (n2 : PySem.W.findIn K (.ref C) "word" = some none) :
    FnOk P w K mg base CX0 (k + 2) f (PySem.W.ksFn "__init__" "BadRow.__init__" (defArgs sRowIni) (defBody sRowIni) (defScope sRowIni) .none kV doc pm an (.ref cda) ct cc) ["self", "row", "word"] (spIni C "row" "word") := by
  refine fn_super lk hcd scRowIni U rfl rfl (fun vs H Q E h => ?_) (fun A outer s H vs Q E hr h => ?_) (fun _ => rfl) (fun _ => ⟨_, rfl⟩) (fun _ => rfl)
  · obtain ⟨a, x, y, rfl, _⟩ := h
    rfl
  · obtain ⟨a, x, y, rfl, ha, hx, hy, q⟩ := h
    refine ⟨a, [x, y], _, _, rfl, ha, pe_joined (.cons pe_str (.cons (pe_fmt (hcall HS hr (pa_cons (pv 1) pa_nil))) (.cons pe_str (.cons (pe_fmt (hcall HS hr (pa_cons (pv 2) pa_nil))) (.cons pe_str .nil))))), pss_cons (ps_ost (pv 0) (pv 1)) (pss_one (ps_ost (pv 0) (pv 2))), ?_⟩
    have e1 : (("row " : Str)).length = 4 := by decide +kernel
    have e2 : ((", word " : Str)).length = 7 := by decide +kernel
    have e3 : ((" can't stand" : Str)).length = 12 := by decide +kernel
    have ez : (Str.empty : Str).length = 0 := rfl
    refine ⟨_, rfl, ?_, _, rfl, x, rfl, hx, fun S1 H1 g1 l1 => .inl ⟨S1, rfl, by rw [sizeLine_eq]; omega, _, rfl, ?_, _, rfl, ?_, _, rfl, y, rfl, hy, fun S2 H2 g2 l2 => .inl ⟨S2, rfl, by rw [sizeLine_eq]; omega, _, rfl, ?_, _, rfl, ?_, ?_⟩⟩⟩
    · rw [app_len, ez, e1, sizeLine_eq]
      decide
    · rw [app_len, app_len, ez, e1, sizeLine_eq]
      omega
    · rw [app_len, app_len, app_len, ez, e1, e2, sizeLine_eq]
      omega
    · rw [app_len, app_len, app_len, app_len, ez, e1, e2, sizeLine_eq]
      omega
    · rw [app_len, app_len, app_len, app_len, app_len, ez, e1, e2, e3, sizeLine_eq]
      omega
    · have g := g1.trans g2
      have ha2 : H2 a = some (exo a C none) := g.keep _ _ ha fun _ => exo_tbl
      refine ⟨ha2, ?_⟩
      refine ⟨_, rfl, _, rfl, a, C, rfl, U.T, n1, .inl ⟨ha2, fun dx nd ne => ?_⟩⟩
      refine ⟨_, rfl, _, rfl, a, C, rfl, U.T, n2, .inr ⟨dx, [("row", x)], upd_same, ?_, by show 1 ≤ 900; decide, q H2 dx g nd ne⟩⟩
      rw [upd_ne ne, upd_same]
abbrev BadR (P : Program) (w : World) (K : PySem.W.Frag) (mg : Str → Option Value) (base : Heap) (k : Nat) (C fI : Addr) (fd : FuncData) : Prop := Bad2 P w K mg base k "BadRow" "row" "word" C fI fd
/-- refused: by this row and this word -/
def Rz (E : XK) (C : Addr) (H : Hp) (r w : Int) : Prop := ∀ H' dd, Gr H H' → H' dd = some (.xd [("word", .int w), ("row", .int r)]) → E (.ref C) (some dd) H'
theorem shn_int (i : Int) : Shn (.int i) := .inr (.inl ⟨i, rfl⟩)
/-! ### the rows' own defs, whatever stands in them -/
def spTakeX (C CB : Addr) : Sp := fun vs H Q E => ∃ (x : Addr) (n : Int) (ws : List Str) (a : Nat) (b : Bool), vs = [.ref x, .bl b] ∧ RowAt C H x n ws a ∧
  (b = true → a ≤ ws.length ∧ ∀ H', Gp x H H' → RowAt C H' x n ws (a + 1) → Q (seenV ws a) H') ∧ (b = false → Rz E CB H n ((a + 1 : Nat) : Int))
theorem ok_takeX {f C CB fI : Addr} {fd fdI : FuncData} {k : Nat} (F : Fun K "take" "Row.take" sTake f fd) (R : RowC K mg C) (B : BadR P w K mg base k CB fI fdI) : FnOk P w K mg base (L2.CX P w) (k + 2) f fd ["self", "stands"] (spTakeX C CB) := by
  refine F.okX scTake (fun vs H Q E h => ?_) (fun cdv A outer s H vs Q E hr h => ?_)
  · obtain ⟨x, n, ws, a, b, rfl, _⟩ := h
    rfl
  · obtain ⟨x, n, ws, a, b, rfl, ⟨dx, wl, hx, hw⟩, qt, qf⟩ := h
    refine ⟨_, pss_cons (ps_if (pt_not (pt_val (pv 1))) (pss_one (ps_raise rfl (takes_of (E := E) rfl rfl rfl rfl) (pmk_oex B.T B.i B.t B.F hr B.b .nil pass0 rfl B.g (pa_cons (pe_fld (pv 0) rfl) (pa_cons (pe_op op_add (pe_fld (pv 0) rfl) pe_int) pa_nil))))) pss_nil) (pss_cons (ps_fldaug (pv 0) pe_int in_add)
      (pss_one (ps_ret (pe_ix ix_list (pe_fld (pv 0) rfl) (pe_op op_sub (pe_fld (pv 0) rfl) pe_int) (fun _ _ => rfl))))), ?_⟩
    refine ⟨_, rfl, _, rfl, ?_⟩
    cases b with
    | false =>
      refine iteT ?_
      refine ⟨_, rfl, x, C, dx, _, _, rfl, hx, R.cl, R.nN, rf_number _ _ _, _, rfl, x, C, dx, _, _, rfl, hx, R.cl, R.nA, rf_at _ _ _, _, 1, rfl, rfl, ?_⟩
      exact made2 (shn_int _) (shn_int _) fun dd H2 g2 hd => qf rfl H2 dd g2 hd
    | true =>
    obtain ⟨ha, q⟩ := qt rfl
    refine iteF ?_
    refine ⟨_, rfl, x, C, dx, _, _, rfl, hx, R.cl, R.nA, rf_at _ _ _, _, 1, rfl, rfl, _, _, hx, (by show 3 < 1000; decide), ?_⟩
    rw [rf_put]
    have wx : wl ≠ x := by
      intro z
      rw [z, hx] at hw
      cases hw
    have e1 : ((a : Nat) : Int) + 1 = ((a + 1 : Nat) : Int) := by omega
    rw [e1]
    have hx2 : upd H x (.ins C dx (rf n wl ((a + 1 : Nat) : Int))) x = some (.ins C dx (rf n wl ((a + 1 : Nat) : Int))) := upd_same
    have hw2 : upd H x (.ins C dx (rf n wl ((a + 1 : Nat) : Int))) wl = some (.lst (ws.map V.str ++ [.non])) := (upd_ne wx).trans hw
    have g2 : Gp x H (upd H x (.ins C dx (rf n wl ((a + 1 : Nat) : Int)))) := Gp.but (But.upd (fun _ _ => rfl))
    generalize upd H x (.ins C dx (rf n wl ((a + 1 : Nat) : Int))) = H2 at hx2 hw2 g2 ⊢
    refine ⟨_, rfl, x, C, dx, _, _, rfl, hx2, R.cl, R.nW, rf_words _ _ _, _, rfl, x, C, dx, _, _, rfl, hx2, R.cl, R.nA, rf_at _ _ _, _, 1, rfl, rfl, wl, _, _, _, rfl, rfl, .inl (.inl hw2), ?_, q H2 g2 ⟨dx, wl, hx2, hw2⟩⟩
    have e2 : ((a + 1 : Nat) : Int) - 1 = ((a : Nat) : Int) := by omega
    rw [e2]
    exact atI_nat (seen_at ha)
def spTakeWX (C CB : Addr) : Sp := fun vs H Q E => ∃ (x : Addr) (n : Int) (ws : List Str) (a : Nat) (z : Str), vs = [.ref x, .str z] ∧ RowAt C H x n ws a ∧ a ≤ ws.length ∧
  (ws[a]? = some z → ∀ H', Gp x H H' → RowAt C H' x n ws (a + 1) → Q .non H') ∧ (ws[a]? ≠ some z → Rz E CB H n ((a + 1 : Nat) : Int))
theorem seen_dec (ws : List Str) (a : Nat) (z : Str) : decide (seenV ws a = .str z) = decide (ws[a]? = some z) := by
  unfold seenV
  cases h : ws[a]? with
  | none => rfl
  | some y =>
    by_cases e : y = z
    · rw [e, decide_eq_true rfl, decide_eq_true rfl]
    · rw [decide_eq_false (fun c => e (V.str.inj c)), decide_eq_false (fun c => e (Option.some.inj c))]
theorem seen_scal (ws : List Str) (a : Nat) (z : Str) : scal (seenV ws a) (.str z) = true := by
  unfold seenV
  cases ws[a]? <;> rfl
theorem ok_takeWX {f fS fT C CB : Addr} {fd fdS fdT : FuncData} {k : Nat} (F : Fun K "take_word" "Row.take_word" sTakeW f fd) (R : RowC K mg C) (HS : HasM P w K mg base C k "seen" ["self"] (spSeen C) fS fdS)
    (HT : HasMX P w K mg base C k "take" ["self", "stands"] (spTakeX C CB) fT fdT) : FnOk P w K mg base (L2.CX P w) (k + 1) f fd ["self", "word"] (spTakeWX C CB) := by
  refine F.okX scTakeW (fun vs H Q E h => ?_) (fun cdv A outer s H vs Q E hr h => ?_)
  · obtain ⟨x, n, ws, a, z, rfl, _⟩ := h
    rfl
  · obtain ⟨x, n, ws, a, z, rfl, hR, ha, qt, qf⟩ := h
    refine ⟨_, pss_one (ps_expr (pe_meth (pv 0) R.cl HT.me HT.ok hr HT.bd .nil (passes_call (takes_of (E := E) rfl rfl rfl rfl) (fun _ _ _ _ h => h)) (pa_cons (pe_cmpR op_eq (pe_meth0 (pv 0) R.cl HS.me HS.ok hr HS.bd .nil pass0) (pv 1) (nomark _)) pa_nil))), ?_⟩
    obtain ⟨dx, wl, hx, hw⟩ := id hR
    refine ⟨_, rfl, x, dx, _, rfl, hx, rf_no _ _ _ (by decide +kernel) (by decide +kernel) (by decide +kernel), _, rfl, x, dx, _, rfl, hx, rf_no _ _ _ (by decide +kernel) (by decide +kernel) (by decide +kernel), x, n, ws, a, rfl, hR, ha, ?_⟩
    refine ⟨_, rfl, seen_scal ws a z, ?_⟩
    rw [seen_dec]
    refine ⟨x, n, ws, a, _, rfl, hR, fun e => ⟨ha, fun H' g R' => ?_⟩, fun e => ?_⟩
    · exact qt (of_decide_eq_true e) H' g R'
    · exact qf (of_decide_eq_false e)
def spCloseX (C CB : Addr) : Sp := fun vs H Q E => ∃ (x : Addr) (n : Int) (ws : List Str) (a : Nat), vs = [.ref x] ∧ RowAt C H x n ws a ∧ a ≤ ws.length ∧ (a = ws.length → Q .non H) ∧ (a < ws.length → Rz E CB H n ((a + 1 : Nat) : Int))
theorem ok_closeX {f fS C CB fI : Addr} {fd fdS fdI : FuncData} {k : Nat} (F : Fun K "close" "Row.close" sClose f fd) (R : RowC K mg C) (HS : HasM P w K mg base C (k + 1) "seen" ["self"] (spSeen C) fS fdS) (B : BadR P w K mg base k CB fI fdI) :
    FnOk P w K mg base (L2.CX P w) (k + 2) f fd ["self"] (spCloseX C CB) := by
  refine F.okX scClose (fun vs H Q E h => ?_) (fun cdv A outer s H vs Q E hr h => ?_)
  · obtain ⟨x, n, ws, a, rfl, _⟩ := h
    rfl
  · obtain ⟨x, n, ws, a, rfl, hR, ha, qt, qf⟩ := h
    refine ⟨_, pss_one (ps_if (pt_cmpR op_notN (pe_meth0 (pv 0) R.cl HS.me HS.ok hr HS.bd .nil pass0) pe_non (nomark _)) (pss_one (ps_raise rfl (takes_of (E := E) rfl rfl rfl rfl) (pmk_oex B.T B.i B.t B.F hr B.b .nil pass0 rfl B.g (pa_cons (pe_fld (pv 0) rfl) (pa_cons (pe_op op_add (pe_fld (pv 0) rfl) pe_int) pa_nil))))) pss_nil), ?_⟩
    obtain ⟨dx, wl, hx, hw⟩ := id hR
    refine ⟨_, rfl, x, dx, _, rfl, hx, rf_no _ _ _ (by decide +kernel) (by decide +kernel) (by decide +kernel), x, n, ws, a, rfl, hR, ha, rfl, _, rfl, ?_⟩
    rcases Nat.lt_or_ge a ws.length with h1 | h1
    · have e : seenV ws a = .str ws[a] := by
        unfold seenV
        rw [List.getElem?_eq_getElem h1]
      rw [e]
      refine iteT ?_
      refine ⟨_, rfl, x, C, dx, _, _, rfl, hx, R.cl, R.nN, rf_number _ _ _, _, rfl, x, C, dx, _, _, rfl, hx, R.cl, R.nA, rf_at _ _ _, _, 1, rfl, rfl, ?_⟩
      exact made2 (shn_int _) (shn_int _) fun dd H2 g2 hd => qf h1 H2 dd g2 hd
    · have e0 : a = ws.length := by omega
      have e : seenV ws a = .non := by
        unfold seenV
        rw [List.getElem?_eq_none h1]
      rw [e]
      exact iteF (qt e0)
end
end SfC
namespace SfC
open PySem PySem.Spec PyProof.Rows L2 SfG
/-! ### words_of, rows_of, row_at, need_no_more of any text -/
abbrev wsOf (z : Str) : List Str := Txt.split z blank
abbrev rwOf (z : Str) : List Str := Txt.split z feed
theorem cnt_le (c : Nat) : ∀ l : List Nat, PyProof.Rows.cnt c l ≤ (l.length : Int)
  | [] => Int.le_refl 0
  | n :: r => by
    rw [cnt_cons, List.length_cons]
    have := cnt_le c r
    split <;> omega
theorem split_le (z : Str) (c : Nat) : (Txt.split z ⟨#[c]⟩).length ≤ z.length + 1 := by
  have h := PyProof.Rows.split_len z c
  have h2 := cnt_le c z.cps.toList
  have e : (z.cps.toList.length : Int) = (z.length : Int) := by
    show ((z.cps.toList.length : Nat) : Int) = ((z.cps.size : Nat) : Int)
    rw [Array.length_toList]
  omega
theorem ws_le (z : Str) : (wsOf z).length ≤ z.length + 1 := split_le z 32
theorem rw_le (z : Str) : (rwOf z).length ≤ z.length + 1 := split_le z 10
theorem Rz.gr {E : XK} {C : Addr} {H H1 : Hp} {r w : Int} (h : Rz E C H r w) (g : Gr H H1) : Rz E C H1 r w := fun H' dd g' hd => h H' dd (g.trans g') hd
section
variable {P : Program} {w : World} {K : PySem.W.Frag} {mg : Str → Option Value} {base : Heap}
def spWordsX : Sp := fun vs H Q _ => ∃ z : Str, vs = [.str z] ∧ z.length ≤ 200000 ∧ (nought ∈ wsOf z → ∀ H', Gr H H' → Q .non H') ∧ (nought ∉ wsOf z → ∀ H' p, Gr H H' → H p = none → H' p = some (.lst ((wsOf z).map V.str)) → Q (.ref p) H')
theorem ok_wordsX {f : Addr} {fd : FuncData} {k : Nat} (F : Fun K "words_of" "words_of" sWords f fd) (mi : mg "isinstance" = none) (m1 : mg "str" = none) : FnOk P w K mg base CX0 (k + 1) f fd ["row"] spWordsX := by
  refine F.ok scWords (fun vs H Q E h => ?_) (fun cdv A outer s H vs Q E hr h => ?_)
  · obtain ⟨z, rfl, _⟩ := h
    rfl
  · obtain ⟨z, rfl, hl, qn, qs⟩ := h
    refine ⟨_, pss_cons (ps_if (pt_not (pt_val (pe_isi "str" 0 mi m1 (by decide +kernel)))) pss_never pss_nil)
      (pss_cons (ps_set (i := 1) scWords.nd rfl (.inl rfl) (pe_split (pv 0) pe_str))
      (pss_cons (ps_if (pt_cmpR op_in_seq pe_str (pv 1) rfl) (pss_one (ps_ret pe_non)) pss_nil)
      (pss_one (ps_ret (pv 1))))), ?_⟩
    refine ⟨_, rfl, "str", true, (is_str _).1, by decide +kernel, _, rfl, iteF ⟨_, rfl, ⟨_, rfl⟩, _, blank, rfl, rfl, by decide +kernel, by rw [sizeLine_eq]; omega, ?_⟩⟩
    intro p np
    refine ⟨_, rfl, p, (wsOf z).map V.str, rfl, .inl (.inl (.inl upd_same)), rfl, flat_strs _, _, rfl, ?_⟩
    show if inV (.str nought) ((wsOf z).map V.str) = true then _ else _
    rw [inV_strs]
    by_cases h0 : nought ∈ wsOf z
    · rw [decide_eq_true h0]
      exact iteT (qn h0 _ (Gr.new np))
    · rw [decide_eq_false h0]
      exact iteF ⟨_, rfl, qs h0 _ p (Gr.new np) np upd_same⟩
def spRowsOfX (K : PySem.W.Frag) (CB : Addr) : Sp := fun vs H Q E => ∃ (x : V) (d : PyData), vs = [x] ∧ Dx K H x d ∧ (Go d ∨ ∃ i, d = .int i) ∧ (∀ z, d = .str z → ∀ H' p, Gr H H' → H p = none → H' p = some (.lst ((rwOf z).map V.str)) → Q (.ref p) H') ∧ (isS d = false → Rz E CB H 0 0)
theorem ok_rowsOfX {f CB fI : Addr} {fd fdI : FuncData} {k : Nat} (F : Fun K "rows_of" "rows_of" sRowsOf f fd) (B : BadR P w K mg base k CB fI fdI) (mi : mg "isinstance" = none) (m1 : mg "str" = none) : FnOk P w K mg base (L2.CX P w) (k + 2) f fd ["text"] (spRowsOfX K CB) := by
  refine F.okX scRowsOf (fun vs H Q E h => ?_) (fun cdv A outer s H vs Q E hr h => ?_)
  · obtain ⟨x, d, rfl, _⟩ := h
    rfl
  · obtain ⟨x, d, rfl, hx, go, qs, qe⟩ := h
    have hI := dx_is hx
    refine ⟨_, pss_cons (ps_if (pt_not (pt_val (pe_isi "str" 0 mi m1 (by decide +kernel)))) (pss_one (ps_raise rfl (takes_of (E := E) rfl rfl rfl rfl) (pmk_oex B.T B.i B.t B.F hr B.b .nil pass0 rfl B.g (pa_cons pe_int (pa_cons pe_int pa_nil))))) pss_nil) (pss_one (ps_ret (pe_split (pv 0) pe_str))), ?_⟩
    refine ⟨_, rfl, _, _, hI.1, kit_str _ hI.2, _, rfl, ?_⟩
    rw [ty_s]
    cases hs : isS d with
    | false =>
      refine iteT ?_
      exact made2 (shn_int _) (shn_int _) fun dd H2 g2 hd => qe hs H2 dd g2 hd
    | true =>
      obtain ⟨z, rfl⟩ := is_str_of hs
      cases hx
      have hl := (go.resolve_right (fun ⟨_, e⟩ => by cases e)).text
      refine iteF ⟨_, rfl, ⟨_, rfl⟩, _, feed, rfl, rfl, by decide +kernel, by rw [sizeLine_eq]; omega, ?_⟩
      intro p np
      exact qs z rfl _ p (Gr.new np) np upd_same
def spNoMoreX (K : PySem.W.Frag) (CB : Addr) : Sp := fun vs H Q E => ∃ (p : Addr) (xs : List V) (m : Int), vs = [.ref p, .int m] ∧ SqL K H p xs ∧ ((xs.length : Int) ≤ m → Q .non H) ∧ (m < (xs.length : Int) → Rz E CB H (m + 1) 0)
theorem ok_noMoreX {f CB fI : Addr} {fd fdI : FuncData} {k : Nat} (F : Fun K "need_no_more" "need_no_more" sNoMore f fd) (B : BadR P w K mg base k CB fI fdI) (ml : mg "len" = none) : FnOk P w K mg base (L2.CX P w) (k + 2) f fd ["rows", "most"] (spNoMoreX K CB) := by
  refine F.okX scNoMore (fun vs H Q E h => ?_) (fun cdv A outer s H vs Q E hr h => ?_)
  · obtain ⟨p, xs, m, rfl, _⟩ := h
    rfl
  · obtain ⟨p, xs, m, rfl, hp, qs, qe⟩ := h
    refine ⟨_, pss_one (ps_if (pt_cmpR op_gt (pe_callB call_len_seq (by rfl) ml PySem.boot_len (pa_cons (pv 0) pa_nil)) (pv 1) (nomark _)) (pss_one (ps_raise rfl (takes_of (E := E) rfl rfl rfl rfl) (pmk_oex B.T B.i B.t B.F hr B.b .nil pass0 rfl B.g (pa_cons (pe_op op_add (pv 1) pe_int) (pa_cons pe_int pa_nil))))) pss_nil), ?_⟩
    refine ⟨_, rfl, p, xs, rfl, .inl hp, _, rfl, _, m, rfl, rfl, _, rfl, ?_⟩
    by_cases hm : (xs.length : Int) > m
    · rw [decide_eq_true (show m < (xs.length : Int) from hm)]
      refine iteT ⟨_, rfl, m, 1, rfl, rfl, ?_⟩
      exact made2 (shn_int _) (shn_int _) fun dd H2 g2 hd => qe hm H2 dd g2 hd
    · rw [decide_eq_false (show ¬ m < (xs.length : Int) from hm)]
      exact iteF (qs (by omega))
def spInitX (C CB : Addr) : Sp := fun vs H Q E => ∃ (x dx : Addr) (n : Int) (z : Str), vs = [.ref x, .int n, .str z] ∧ H x = some (.ins C dx []) ∧ z.length ≤ 200000 ∧ (nought ∉ wsOf z → ∀ H', Gp x H H' → RowAt C H' x n (wsOf z) 0 → Q .non H') ∧ (nought ∈ wsOf z → Rz E CB H n 0)
theorem ok_initX {f fW C CB fI : Addr} {fd fdW fdI : FuncData} {k : Nat} (F : Fun K "__init__" "Row.__init__" sInit f fd) (R : RowC K mg C) (HW : Has P w K mg base (k + 1) "words_of" ["row"] spWordsX fW fdW) (B : BadR P w K mg base k CB fI fdI) : FnOk P w K mg base (L2.CX P w) (k + 2) f fd ["self", "number", "text"] (spInitX C CB) := by
  refine F.okX scInit (fun vs H Q E h => ?_) (fun cdv A outer s H vs Q E hr h => ?_)
  · obtain ⟨x, dx, n, z, rfl, _⟩ := h
    rfl
  · obtain ⟨x, dx, n, z, rfl, hx, hl, q, qe⟩ := h
    have nd := scInit.nd
    refine ⟨_, pss_cons (ps_set (i := 3) nd rfl (.inl rfl) (hcall HW hr (pa_cons (pv 2) pa_nil))) (pss_cons (ps_if (pt_cmpR op_isN (pv 3) pe_non (nomark _)) (pss_one (ps_raise rfl (takes_of (E := E) rfl rfl rfl rfl) (pmk_oex B.T B.i B.t B.F hr B.b .nil pass0 rfl B.g (pa_cons (pv 1) (pa_cons pe_int pa_nil))))) pss_nil)
      (pss_cons (ps_fld (pv 0) (pv 1) rfl) (pss_cons (ps_fld (pv 0) (pe_lst (StX.pa_star (pv 3) (pa_cons pe_non pa_nil))) rfl) (pss_one (ps_fld (pv 0) pe_int rfl))))), ?_⟩
    refine ⟨_, rfl, z, rfl, hl, fun h0 H1 g1 => ⟨_, rfl, rfl, _, rfl, iteT ⟨_, rfl, ?_⟩⟩, fun h0 H1 p g1 np hp => ⟨_, rfl, rfl, _, rfl, iteF ?_⟩⟩
    · exact made2 (shn_int _) (shn_int _) fun dd H2 g2 hd => qe h0 H2 dd (g1.trans g2) hd
    have wl_ := ws_le z
    have q' := q h0
    generalize wsOf z = ws at hp wl_ q'
    have hx1 : H1 x = some (.ins C dx []) := g1.keep _ _ hx (fun _ z => by cases z)
    refine ⟨_, rfl, _, rfl, x, C, dx, _, rfl, hx1, R.cl, R.nN, (by show 0 < 1000; decide), ?_⟩
    have px : p ≠ x := by
      intro z
      rw [z, hx1] at hp
      cases hp
    have hp2 : upd H1 x (.ins C dx (putF "number" (.int n) [])) p = some (.lst (ws.map V.str)) := (upd_ne px).trans hp
    have hx2 : upd H1 x (.ins C dx (putF "number" (.int n) [])) x = some (.ins C dx (putF "number" (.int n) [])) := upd_same
    have g2 : Gp x H (upd H1 x (.ins C dx (putF "number" (.int n) []))) := (Gp.gr g1).trans (Gp.but (But.upd (fun _ _ => rfl)))
    generalize upd H1 x (.ins C dx (putF "number" (.int n) [])) = H2 at hp2 hx2 g2 ⊢
    refine ⟨_, rfl, p, _, rfl, .inr (.inl (.inl hp2)), ?_, fun wl nwl => ?_⟩
    · rw [List.length_append, List.length_map, sizeLine_eq]
      show ws.length + 1 ≤ _
      omega
    have wx : x ≠ wl := ne_of_none hx2 nwl
    have hw3 : upd H2 wl (.lst (ws.map V.str ++ [.non])) wl = some (.lst (ws.map V.str ++ [.non])) := upd_same
    have hx3 : upd H2 wl (.lst (ws.map V.str ++ [.non])) x = some (.ins C dx (putF "number" (.int n) [])) := (upd_ne wx).trans hx2
    have g3 : Gp x H (upd H2 wl (.lst (ws.map V.str ++ [.non]))) := g2.trans (Gp.gr (Gr.new nwl))
    generalize upd H2 wl (.lst (ws.map V.str ++ [.non])) = H3 at hw3 hx3 g3 ⊢
    refine ⟨_, rfl, x, C, dx, _, rfl, hx3, R.cl, R.nW, (by show 1 < 1000; decide), ?_⟩
    refine ⟨_, rfl, x, C, dx, _, rfl, upd_same, R.cl, R.nA, ?_, ?_⟩
    · show (putF "words" (.ref wl) (putF "number" (.int n) [])).length < 1000
      show (if ("number" : Str) = "words" then [(("number" : Str), V.ref wl)] else (("number" : Str), V.int n) :: putF "words" (.ref wl) []).length < 1000
      rw [if_neg nw]
      show 2 < 1000
      decide
    refine q' _ ((g3.trans (Gp.but (But.upd (fun _ _ => rfl)))).trans (Gp.but (But.upd (fun _ _ => rfl)))) ⟨dx, wl, ?_, ?_⟩
    · rw [upd_same, rf_made]
      rfl
    · rw [upd_ne (Ne.symm wx), upd_ne (Ne.symm wx)]
      exact hw3
def spRowAtX (K : PySem.W.Frag) (C CB : Addr) : Sp := fun vs H Q E => ∃ (rl : Addr) (rws : List Str) (i : Nat), vs = [.ref rl, .int ((i + 1 : Nat) : Int)] ∧ SqL K H rl (rws.map V.str) ∧
  (∀ z, rws[i]? = some z → z.length ≤ 200000 ∧ (nought ∉ wsOf z → ∀ H' x, Gr H H' → H x = none → RowAt C H' x ((i + 1 : Nat) : Int) (wsOf z) 0 → Q (.ref x) H') ∧ (nought ∈ wsOf z → Rz E CB H ((i + 1 : Nat) : Int) 0)) ∧
  (rws.length ≤ i → Rz E CB H ((i + 1 : Nat) : Int) 1)
theorem ok_rowAtX {f fI C CB fB : Addr} {fd fdI fdB : FuncData} {k : Nat} (F : Fun K "row_at" "row_at" sRowAt f fd) (R : RowC K mg C) (M : Mk K C fI) (GI : FnOk P w K mg base (L2.CX P w) (k + 2) fI fdI ["self", "number", "text"] (spInitX C CB)) (bI : Binds K fdI ["self", "number", "text"] []) (B : BadR P w K mg base (k + 2) CB fB fdB) (ml : mg "len" = none) :
    FnOk P w K mg base (L2.CX P w) (k + 4) f fd ["rows", "number"] (spRowAtX K C CB) := by
  refine F.okX scRowAt (fun vs H Q E h => ?_) (fun cdv A outer s H vs Q E hr h => ?_)
  · obtain ⟨rl, rws, i, rfl, _⟩ := h
    rfl
  · obtain ⟨rl, rws, i, rfl, hrl, q, qe⟩ := h
    refine ⟨_, pss_cons (ps_if (pt_cmpR op_gt (pv 1) (pe_callB call_len_seq (by rfl) ml PySem.boot_len (pa_cons (pv 0) pa_nil)) (nomark _)) (pss_one (ps_raise rfl (takes_of (E := E) rfl rfl rfl rfl) (pmk_oex B.T B.i B.t B.F hr B.b .nil pass0 rfl B.g (pa_cons (pv 1) (pa_cons pe_int pa_nil))))) pss_nil)
      (pss_one (ps_ret (pe_make M GI hr (by rfl) R.g bI .nil (passes_call (takes_of (E := E) rfl rfl rfl rfl) (fun _ _ _ _ h => h)) (pa_cons (pv 1) (pa_cons (pe_ix ix_list (pv 0) (pe_op op_sub (pv 1) pe_int) (fun _ _ => rfl)) pa_nil))))), ?_⟩
    refine ⟨_, rfl, _, rfl, rl, _, rfl, .inl hrl, _, _, rfl, rfl, _, rfl, ?_⟩
    rw [List.length_map]
    rcases Nat.lt_or_ge i rws.length with hi | hi
    · rw [decide_eq_false (show ¬ ((rws.length : Nat) : Int) < ((i + 1 : Nat) : Int) by omega)]
      have hz : rws[i]? = some rws[i] := List.getElem?_eq_getElem hi
      generalize rws[i] = z at hz
      obtain ⟨zl, qs, qb⟩ := q z hz
      refine iteF ⟨_, rfl, _, rfl, _, rfl, _, 1, rfl, rfl, rl, _, _, .str z, rfl, rfl, hrl, ?_, ?_⟩
      · have e2 : ((i + 1 : Nat) : Int) - 1 = ((i : Nat) : Int) := by omega
        rw [e2]
        exact atI_nat (by rw [List.getElem?_map, hz]; rfl)
      intro x dx nx ndx nex
      have g1 : Gr H (upd (upd H dx (.own x)) x (.ins C dx [])) := by
        refine (Gr.new ndx).trans (Gr.new ?_)
        rw [upd_ne (Ne.symm nex)]
        exact nx
      refine ⟨x, dx, _, z, rfl, upd_same, zl, fun h0 H' g R' => ⟨rfl, ?_⟩, fun h0 => (qb h0).gr g1⟩
      exact qs h0 H' x (Gp.out g1 nx g) nx R'
    · rw [decide_eq_true (show ((rws.length : Nat) : Int) < ((i + 1 : Nat) : Int) by omega)]
      refine iteT ⟨_, rfl, ?_⟩
      exact made2 (shn_int _) (shn_int _) fun dd H2 g2 hd => qe hi H2 dd g2 hd
end
end SfC
namespace SfC
open PySem PySem.Spec PyProof.Rows L2 SfG
/-! ### the small defs that readers call, of any word or None -/
def figures : Str := "0123456789"
def isFig (c : Nat) : Bool := decide (c ∈ figures.cps.toList)
def Sized (x : V) : Prop := ∀ z, x = .str z → z.length + 2 ≤ sizeLine
def dec (l : List Nat) : Int := l.foldl (fun (a : Int) (c : Nat) => a * 10 + ((c : Int) - 48)) 0
def zeroAhead (z : Str) : Bool := decide (V.str ⟨#[z.cps.toList.headD 0]⟩ = V.str "0") && !decide (V.str z = V.str "0")
def numV (x : V) (m : Int) : V := match x with
  | .str z => if (decide ((1 : Int) ≤ z.length) && decide ((z.length : Int) ≤ m)) && (z.cps.toList.all isFig && !zeroAhead z) then .int (dec z.cps.toList) else .non
  | _ => .non
theorem num_no {x : V} {m : Int} (h : ∀ i, x ≠ .str i) : numV x m = .non := by
  cases x with
  | str i => exact absurd rfl (h i)
  | _ => rfl
theorem fig_range {c : Nat} (h : isFig c = true) : 48 ≤ c ∧ c < 58 := by
  have h' : c ∈ figures.cps.toList := of_decide_eq_true h
  have e : figures.cps.toList = [48, 49, 50, 51, 52, 53, 54, 55, 56, 57] := by decide +kernel
  rw [e] at h'
  simp at h'
  omega
theorem int1 : ∀ a, a < 10 → PySem.intText? ⟨#[48 + a]⟩ = some (a : Int) := by decide +kernel
theorem int2 : ∀ a, a < 10 → ∀ b, b < 10 → PySem.intText? ⟨#[48 + a, 48 + b]⟩ = some ((a * 10 + b : Nat) : Int) := by decide +kernel
theorem str_eta (z : Str) : z = ⟨z.cps.toList.toArray⟩ := by
  cases z with
  | mk c => simp
theorem int_of {z : Str} (h1 : (1 : Int) ≤ z.length) (h2 : (z.length : Int) ≤ 2) (hf : z.cps.toList.all isFig = true) : PySem.intText? z = some (dec z.cps.toList) := by
  have hl : z.length = z.cps.toList.length := by simp [Str.length]
  rw [str_eta z]
  rw [hl] at h1 h2
  generalize z.cps.toList = l at h1 h2 hf ⊢
  match l, h1, h2, hf with
  | [a], _, _, hf =>
    have ha := fig_range (by simpa using hf)
    obtain ⟨a', rfl⟩ : ∃ a', a = 48 + a' := ⟨a - 48, by omega⟩
    rw [show ([48 + a'] : List Nat).toArray = #[48 + a'] from rfl, int1 a' (by omega)]
    simp [dec]
    omega
  | [a, b], _, _, hf =>
    have hab : isFig a = true ∧ isFig b = true := by simpa using hf
    have ha := fig_range hab.1
    have hb := fig_range hab.2
    obtain ⟨a', rfl⟩ : ∃ a', a = 48 + a' := ⟨a - 48, by omega⟩
    obtain ⟨b', rfl⟩ : ∃ b', b = 48 + b' := ⟨b - 48, by omega⟩
    rw [show ([48 + a', 48 + b'] : List Nat).toArray = #[48 + a', 48 + b'] from rfl, int2 a' (by omega) b' (by omega)]
    simp [dec]
    omega
  | [], h1, _, _ => exact absurd h1 (by simp)
  | _ :: _ :: _ :: _, _, h2, _ => 
    exfalso
    simp at h2
    omega
section
variable {P : Program} {w : World} {K : PySem.W.Frag} {mg : Str → Option Value} {base : Heap}
def spFigsX (K : PySem.W.Frag) : Sp := fun vs H Q _ => ∃ (x : V) (T : String), vs = [x, .int 2] ∧ Is K H x T ∧ Sized x ∧ True ∧ ∀ H', Gr H H' → Q (numV x 2) H'
theorem fig_digit : ∀ c, c < 128 → Unicode.isDigit c = isFig c := by decide +kernel
theorem figs_list : ∀ l : List Nat, (∀ c ∈ l, c < 128) → l.all Unicode.isDigit = l.all isFig
  | [], _ => rfl
  | a :: r, h => by rw [List.all_cons, List.all_cons, figs_list r fun c hc => h c (.tail _ hc), fig_digit a (h a (.head _))]
theorem figs_txt (z : Str) : (Txt.isdigit z && Txt.isascii z) = (decide ((1 : Int) ≤ z.length) && z.cps.toList.all isFig) := by
  have hl : z.length = z.cps.toList.length := by simp [Str.length]
  unfold Txt.isdigit Txt.isascii
  rw [← Array.all_toList, ← Array.all_toList, hl]
  generalize z.cps.toList = l
  have e0 : decide (l.length > 0) = decide ((1 : Int) ≤ (l.length : Int)) := by
    by_cases h : l.length > 0
    · rw [decide_eq_true h, decide_eq_true (show (1 : Int) ≤ (l.length : Int) by omega)]
    · rw [decide_eq_false h, decide_eq_false (show ¬ (1 : Int) ≤ (l.length : Int) by omega)]
  rw [e0]
  by_cases hc : ∀ c ∈ l, c < 128
  · have h1 : (l.all fun x => decide (x < 128)) = true := List.all_eq_true.mpr fun c h => decide_eq_true (hc c h)
    rw [h1, figs_list l hc, Bool.and_true]
  · have h1 : (l.all fun x => decide (x < 128)) = false := by
      cases h : (l.all fun x => decide (x < 128)) with
      | false => rfl
      | true => exact absurd (fun c hc' => of_decide_eq_true (List.all_eq_true.mp h c hc')) hc
    have h2 : l.all isFig = false := by
      cases h : l.all isFig with
      | false => rfl
      | true =>
        refine absurd (fun c hc' => ?_) hc
        have := fig_range (List.all_eq_true.mp h c hc')
        omega
    rw [h1, h2]
    simp
theorem ok_figsX {f : Addr} {fd : FuncData} {k : Nat} (F : Fun K "number_by_figures" "number_by_figures" sFigs f fd)
    (mi : mg "isinstance" = none) (m1 : mg "str" = none) (ml : mg "len" = none) (mn : mg "int" = none) :
    FnOk P w K mg base CX0 (k + 1) f fd ["word", "most"] (spFigsX K) := by
  refine F.ok scFigs (fun vs H Q E h => ?_) (fun cdv A outer s H vs Q E hr h => ?_)
  · obtain ⟨x, T, rfl, _⟩ := h
    rfl
  · obtain ⟨x, T, rfl, hx, hz, ht, q⟩ := h
    have q := q H (Gr.refl H)
    refine ⟨_, pss_cons (ps_if (PW.pt (pw_or (pt_not (pt_val (pe_isi "str" 0 mi m1 (by decide +kernel))))
        (pw_or (pt_cmpR op_gt (pe_callB call_len_str (by rfl) ml PySem.boot_len (pa_cons (pv 0) pa_nil)) (pv 1) (nomark _))
        (pw_or (pt_not (pt_val (pe_m0 PySem.F.slot_str_isdigit PySem.F.type_str_isdigit mt_isdigit (pv 0))))
        (pw_or1 (pt_not (pt_val (pe_m0 PySem.F.slot_str_isascii PySem.F.type_str_isascii mt_isascii (pv 0)))))))))
        (pss_one (ps_ret pe_non)) pss_nil)
      (pss_cons (ps_if (PW.pt (pw_and (pt_cmpR op_eq (pe_item_str (pv 0) pe_int (fun _ _ => rfl)) pe_str (nomark _)) (pw_and1 (pt_cmpR op_ne (pv 0) pe_str (nomark _)))))
        (pss_one (ps_ret pe_non)) pss_nil)
      (pss_one (ps_ret (pe_callTy call_int_str (by rfl) mn (by decide +kernel) (pa_cons (pv 0) pa_nil))))), ?_⟩
    refine ⟨x, rfl, T, _, hx.1, kit_str T hx.2, _, rfl, ?_⟩
    by_cases e : T = "str"
    · obtain ⟨z, rfl⟩ := hx.text e
      subst e
      have hz' : z.length ≤ sizeLine := by
        have := hz z rfl
        omega
      refine iteF ⟨_, rfl, z, rfl, hz', _, rfl, _, 2, rfl, rfl, _, rfl, ?_⟩
      have q1 : Q (if (decide ((1 : Int) ≤ z.length) && decide ((z.length : Int) ≤ 2)) && (z.cps.toList.all isFig && !zeroAhead z) then .int (dec z.cps.toList) else .non) H := q
      by_cases h2 : (z.length : Int) ≤ 2
      · rw [decide_eq_false (show ¬ (z.length : Int) > 2 by omega)]
        rw [decide_eq_true h2, Bool.and_true] at q1
        refine iteF ⟨_, rfl, ⟨z, rfl⟩, z, rfl, rfl, trivial, _, rfl, ?_⟩
        have ft := figs_txt z
        have q2 : Q (if (Txt.isdigit z && Txt.isascii z) && !zeroAhead z then .int (dec z.cps.toList) else .non) H := by
          rw [ft, Bool.and_assoc]
          exact q1
        cases h3 : Txt.isdigit z with
        | false =>
          rw [h3] at q2
          exact iteT (iteT q2)
        | true =>
          rw [h3] at q2 ft
          refine iteF ⟨_, rfl, ⟨z, rfl⟩, z, rfl, rfl, trivial, _, rfl, ?_⟩
          cases h4 : Txt.isascii z with
          | false =>
            rw [h4] at q2
            exact iteT q2
          | true =>
            rw [h4] at q2 ft
            have fb := Bool.and_eq_true_iff.mp ft.symm
            have g1 : (1 : Int) ≤ z.length := of_decide_eq_true fb.1
            have hl : z.length = z.cps.toList.length := by simp [Str.length]
            obtain ⟨c0, r0, e0⟩ : ∃ c0 r0, z.cps.toList = c0 :: r0 := by
              cases hq : z.cps.toList with
              | nil =>
                rw [hl, hq] at g1
                exact absurd g1 (by simp)
              | cons a r => exact ⟨a, r, rfl⟩
            have ec : z.cps[(0 : Int).toNat]? = some c0 := by
              rw [← Array.getElem?_toList, e0]
              rfl
            refine iteF ⟨_, rfl, z, 0, c0, rfl, rfl, by decide, by decide, by omega, ec, rfl, _, rfl, ?_⟩
            have hd : z.cps.toList.headD 0 = c0 := by rw [e0]; rfl
            have q3 : Q (if (!zeroAhead z) = true then V.int (dec z.cps.toList) else V.non) H := q2
            unfold zeroAhead at q3
            rw [hd] at q3
            have fin : Q (V.int (dec z.cps.toList)) H → tRet (tCB (fun xs H Q => ∃ a n, xs = [V.str a] ∧ PySem.intText? a = some n ∧ a.length ≤ 640 ∧ Q (.int n) H) (tCons (tVar 0) tNil)) { nx := fun _ H' => Q .non H', rt := Q } (L2.start ["word", "most"] [V.str z, V.int 2]) H :=
              fun qq => ⟨_, rfl, z, _, rfl, int_of g1 h2 fb.2, by omega, qq⟩
            cases h4 : decide (V.str ⟨#[c0]⟩ = V.str "0") with
            | false =>
              rw [h4] at q3
              exact iteF (iteF (fin q3))
            | true =>
              rw [h4] at q3
              refine iteT ⟨_, rfl, rfl, _, rfl, ?_⟩
              cases h5 : decide (V.str z = V.str "0") with
              | true =>
                rw [h5] at q3
                exact iteF (fin q3)
              | false =>
                rw [h5] at q3
                exact iteT q3
      · rw [decide_eq_true (show (z.length : Int) > 2 by omega)]
        rw [decide_eq_false h2, Bool.and_false] at q1
        exact iteT (iteT q1)
    · have e1 : (T == "str") = false := by simpa using e
      rw [e1]
      rw [num_no (hx.ntext e)] at q
      exact iteT (iteT q)
/-! ### number_of -/
def spNumX (K : PySem.W.Frag) : Sp := fun vs H Q _ => ∃ (x : V) (T : String), vs = [x] ∧ Is K H x T ∧ Sized x ∧ True ∧ ∀ H', Gr H H' → Q (numV x 2) H'
theorem ok_numX {f fF : Addr} {fd fdF : FuncData} (F : Fun K "number_of" "number_of" sNum f fd) (FF : Fun K "number_by_figures" "number_by_figures" sFigs fF fdF)
    (bF : Binds K fdF ["word", "most"] []) (gF : mg "number_by_figures" = some (.ref fF)) (GF : FnOk P w K mg base CX0 1 fF fdF ["word", "most"] (spFigsX K)) :
    FnOk P w K mg base CX0 2 f fd ["word"] (spNumX K) := by
  refine F.ok scNum (fun vs H Q E h => ?_) (fun cdv A outer s H vs Q E hr h => ?_)
  · obtain ⟨x, T, rfl, _⟩ := h
    rfl
  · obtain ⟨x, T, rfl, hx, hz, ht, q⟩ := h
    refine ⟨_, pss_one (ps_ret (pe_call GF hr (by rfl) gF FF.kp bF .nil pass0 (pa_cons (pv 0) (pa_cons pe_int pa_nil)))), ?_⟩
    exact ⟨x, rfl, x, T, rfl, hx, hz, ht, q⟩
end
section
variable {P : Program} {w : World} {K : PySem.W.Frag} {mg : Str → Option Value} {base : Heap}
/-- a word, or None -/
def sV : Option Str → V
  | none => .non
  | some z => .str z
def sD : Option Str → PyData
  | none => .none
  | some z => .str z
theorem seen_sV (ws : List Str) (a : Nat) : seenV ws a = sV ws[a]? := by
  unfold seenV sV
  cases ws[a]? <;> rfl
theorem dx_sV {H : Hp} (o : Option Str) : Dx K H (sV o) (sD o) := by
  cases o with
  | none => exact .non
  | some z => exact .str z
def Fits (o : Option Str) : Prop := ∀ z, o = some z → Go (.str z)
theorem Fits.go {o : Option Str} (h : Fits o) : Go (sD o) := by
  cases o with
  | none => exact Wt.lit (by decide +kernel)
  | some z => exact h z rfl
theorem Fits.sized {o : Option Str} (h : Fits o) : Sized (sV o) := by
  intro z e
  cases o with
  | none => cases e
  | some y =>
    have e' : y = z := V.str.inj e
    have := (h y rfl).text
    rw [e'] at this
    rw [sizeLine_eq]
    omega
def nxD (a : Str) : Option Str → Bool
  | none => false
  | some z => isN z && decide (lt a z)
def spNextNX : Sp := fun vs H Q _ => ∃ (o : Option Str) (a : Str), vs = [sV o, .str a] ∧ Fits o ∧ Q (.bl (nxD a o)) H
theorem ok_nextNX {f fN : Addr} {fd fdN : FuncData} {k : Nat} (F : Fun K "is_next_name" "is_next_name" sNextN f fd) (HN : Has P w K mg base (k + 1) "is_name" ["thing"] (spNameX K) fN fdN) : FnOk P w K mg base CX0 (k + 2) f fd ["thing", "ahead"] spNextNX := by
  refine F.ok scNextN (fun vs H Q E h => ?_) (fun cdv A outer s H vs Q E hr h => ?_)
  · obtain ⟨o, a, rfl, _⟩ := h
    rfl
  · obtain ⟨o, a, rfl, ho, q⟩ := h
    refine ⟨_, pss_one (ps_ret (pe_and (hcall HN hr (pa_cons (pv 0) pa_nil)) (pe_one (pe_cmpR op_lt_str (pv 1) (pv 0) (nomark _))))), ?_⟩
    refine ⟨_, rfl, _, sD o, rfl, dx_sV o, ho.go, _, rfl, ?_⟩
    cases o with
    | none => exact iteF q
    | some z =>
      have q' : Q (.bl (isN z && decide (lt a z))) H := q
      show if isN z = true then _ else _
      cases hz : isN z with
      | false =>
        rw [hz] at q'
        exact iteF q'
      | true =>
        rw [hz, Bool.true_and] at q'
        exact iteT ⟨_, rfl, _, rfl, a, z, rfl, rfl, q'⟩
/-- what a word is as a kind -/
def kbV (o : Option Str) : V := if numV (sV o) 2 = .non then sV o else numV (sV o) 2
def spKindByX : Sp := fun vs H Q _ => ∃ o : Option Str, vs = [sV o] ∧ Fits o ∧ ∀ H', Gr H H' → Q (kbV o) H'
theorem is_sV {H : Hp} (o : Option Str) : ∃ T, Is K H (sV o) T := by
  cases o with
  | none => exact ⟨_, (dx_is (K := K) (H := H) (v := V.non) (d := .none) .non)⟩
  | some z => exact ⟨_, is_str z⟩
theorem ok_kindByX {f fN : Addr} {fd fdN : FuncData} {k : Nat} (F : Fun K "kind_by" "kind_by" sKindBy f fd) (HN : Has P w K mg base (k + 2) "number_of" ["word"] (spNumX K) fN fdN) : FnOk P w K mg base CX0 (k + 3) f fd ["word"] spKindByX := by
  refine F.ok scKindBy (fun vs H Q E h => ?_) (fun cdv A outer s H vs Q E hr h => ?_)
  · obtain ⟨o, rfl, _⟩ := h
    rfl
  · obtain ⟨o, rfl, ho, q⟩ := h
    refine ⟨_, pss_cons (ps_set (i := 1) scKindBy.nd rfl (.inl rfl) (hcall HN hr (pa_cons (pv 0) pa_nil))) (pss_cons (ps_if (pt_cmpR op_isN (pv 1) pe_non (nomark _)) (pss_one (ps_ret (pv 0))) pss_nil) (pss_one (ps_ret (pv 1)))), ?_⟩
    obtain ⟨T, hT⟩ := is_sV (K := K) (H := H) o
    refine ⟨_, rfl, _, T, rfl, hT, ho.sized, trivial, fun H1 g1 => ⟨_, rfl, rfl, _, rfl, ?_⟩⟩
    have q1 := q H1 g1
    unfold kbV at q1
    by_cases hn : numV (sV o) 2 = .non
    · rw [if_pos hn] at q1
      rw [decide_eq_true hn]
      exact iteT ⟨_, rfl, q1⟩
    · rw [if_neg hn] at q1
      rw [decide_eq_false hn]
      exact iteF ⟨_, rfl, q1⟩
/-- the kind as data -/
def kbD (o : Option Str) : PyData := match numV (sV o) 2 with
  | .int i => .int i
  | _ => sD o
theorem num_or (o : Option Str) : numV (sV o) 2 = .non ∨ ∃ i, numV (sV o) 2 = .int i := by
  cases o with
  | none => exact .inl rfl
  | some z =>
    by_cases h : ((decide ((1 : Int) ≤ z.length) && decide ((z.length : Int) ≤ 2)) && (z.cps.toList.all isFig && !zeroAhead z)) = true
    · right
      exact ⟨_, if_pos h⟩
    · left
      exact if_neg h
theorem dx_kb {H : Hp} (o : Option Str) : Dx K H (kbV o) (kbD o) := by
  unfold kbV kbD
  rcases num_or o with h | ⟨i, h⟩
  · rw [h, if_pos rfl]
    exact dx_sV o
  · rw [h, if_neg (fun z => by cases z)]
    exact .int i
def spAreTX (K : PySem.W.Frag) : Sp := fun vs H Q _ => ∃ (x : V) (ks : List PyData) (hd : List Str) (p : Addr), vs = [x, .ref p] ∧ Dx K H x (.tuple ks) ∧ Wt (.tuple ks) 900000 50 ∧ SqT K H p (hd.map V.str) ∧ ∀ H', Gr H H' → Q (.bl (decide (ks.length ≤ 3) && (ks.all (knD hd) && decide ((ks.filter isS).length ≤ 2)))) H'
theorem ok_areTX {f fD : Addr} {fd fdD : FuncData} {k : Nat} (F : Fun K "are_takes" "are_takes" sAreT f fd) (HD : Has P w K mg base (k + 2) "first_bad_deed" ["deeds", "hidden"] (spBadDX K) fD fdD) : FnOk P w K mg base CX0 (k + 3) f fd ["thing", "hidden"] (spAreTX K) := by
  refine F.ok scAreT (fun vs H Q E h => ?_) (fun cdv A outer s H vs Q E hr h => ?_)
  · obtain ⟨x, ks, hd, p, rfl, _⟩ := h
    rfl
  · obtain ⟨x, ks, hd, p, rfl, hx, wk, hp, q⟩ := h
    refine ⟨_, pss_one (ps_ret (pe_cmpR op_isN (hcall HD hr (pa_cons (pe_tup (pa_cons (pe_tup (pa_cons pe_str (pa_cons (pv 0) (pa_cons pe_int pa_nil)))) pa_nil)) (pa_cons (pv 1) pa_nil))) pe_non (nomark _))), ?_⟩
    refine ⟨_, rfl, by show 3 ≤ sizeLine; decide, fun t1 n1 => ?_⟩
    have d1 : Dx K (upd H t1 (.tup [.str "a", x, .int 2])) (.ref t1) (.tuple [.str "a", .tuple ks, .int 2]) := new_T n1 (.cons (.str _) (.cons hx (.cons (.int _) .nil)))
    have g1 : Gr H (upd H t1 (.tup [.str "a", x, .int 2])) := Gr.new n1
    generalize upd H t1 (.tup [.str "a", x, .int 2]) = H1 at g1 d1 ⊢
    refine ⟨by show 1 ≤ sizeLine; decide, fun t2 n2 => ?_⟩
    have d2 : Dx K (upd H1 t2 (.tup [.ref t1])) (.ref t2) (.tuple [.tuple [.str "a", .tuple ks, .int 2]]) := new_T n2 (.cons d1 .nil)
    have g2 : Gr H1 (upd H1 t2 (.tup [.ref t1])) := Gr.new n2
    generalize upd H1 t2 (.tup [.ref t1]) = H2 at g2 d2 ⊢
    have g := g1.trans g2
    have wd : Go (.tuple [.tuple [.str "a", .tuple ks, .int 2]]) := by
      have a : WtA [.str "a", .tuple ks, .int 2] (12 + 2 + (900000 + 2 + (10 + 2 + 0))) 50 := WtA.cons (Wt.lit (by decide +kernel)) (WtA.cons wk (WtA.cons (Wt.lit (by decide +kernel)) (WtA.nil (L := 0))))
      exact (Wt.tup (WtA.cons (Wt.tup a) (WtA.nil (L := 0)))).mono (by decide) (by decide)
    refine ⟨_, rfl, .ref t2, _, hd, p, rfl, d2, wd, g.sqt hp, fun H3 g3 => ⟨rfl, ?_⟩⟩
    have e : deD hd "" (.tuple [.str "a", .tuple ks, .int 2]) = (decide (ks.length ≤ 3) && (ks.all (knD hd) && decide ((ks.filter isS).length ≤ 2))) := by
      show ((isN "a" && decide (lt "" "a")) && (decide (ks.length ≤ 3) && (knD hd (.int 2) && (ks.all (knD hd) && decide ((ks.filter isS).length ≤ 2))))) = _
      have e1 : (isN "a" && decide (lt "" "a")) = true := by decide +kernel
      have e2 : knD hd (.int 2) = true := rfl
      rw [e1, e2, Bool.true_and, Bool.true_and]
    have q1 := q H3 (g.trans g3)
    rw [← e] at q1
    show Q (.bl (decide (onV (if deD hd "" (.tuple [.str "a", .tuple ks, .int 2]) = true then none else some 0) = .non))) H3
    cases hb : deD hd "" (.tuple [.str "a", .tuple ks, .int 2]) with
    | true =>
      rw [hb] at q1
      exact q1
    | false =>
      rw [hb] at q1
      exact q1
end
end SfC
namespace SfC
open PySem PySem.Spec PyProof.Rows L2 SfG
theorem scReadH : FnScope ["row", "names"] ["row"] (defScope sReadH) := ⟨rfl, rfl, rfl, by decide +kernel, rfl, by decide +kernel, by decide +kernel⟩
theorem scReadT : FnScope ["row", "hidden", "takes", "more"] ["row", "hidden"] (defScope sReadT) := ⟨rfl, rfl, rfl, by decide +kernel, rfl, by decide +kernel, by decide +kernel⟩
theorem scReadD : FnScope ["row", "hidden", "ahead", "name", "takes", "gives"] ["row", "hidden", "ahead"] (defScope sReadD) := ⟨rfl, rfl, rfl, by decide +kernel, rfl, by decide +kernel, by decide +kernel⟩
/-- the methods of rows -/
structure Rws (P : Program) (w : World) (K : PySem.W.Frag) (mg : Str → Option Value) (base : Heap) (C : Addr) (k : Nat) (fS fT fW fC : Addr) (dS dT dW dC : FuncData) : Prop where
  R : RowC K mg C
  HS : HasM P w K mg base C k "seen" ["self"] (spSeen C) fS dS
  HT : HasM P w K mg base C k "take" ["self", "stands"] (spTake C) fT dT
  HW : HasM P w K mg base C k "take_word" ["self", "word"] (spTakeW C) fW dW
  HC : HasM P w K mg base C k "close" ["self"] (spClose C) fC dC
/-- a row's field of no name of ours -/
theorem RowAt.has {C : Addr} {H : Hp} {x : Addr} {n : Int} {ws : List Str} {a : Nat} (h : RowAt C H x n ws a) : ∃ dx fs, H x = some (.ins C dx fs) ∧ fs.lookup ("seen" : Str) = none ∧ fs.lookup ("take" : Str) = none ∧ fs.lookup ("take_word" : Str) = none ∧ fs.lookup ("close" : Str) = none := by
  obtain ⟨dx, wl, h1, _⟩ := h
  refine ⟨dx, _, h1, ?_, ?_, ?_, ?_⟩ <;> exact rf_no _ _ _ (by decide +kernel) (by decide +kernel) (by decide +kernel)
theorem gp_sqtI {K : PySem.W.Frag} {x : Addr} {H H' : Hp} {a : Addr} {xs : List V} {C dx : Addr} {fs : List (Str × V)} (g : Gp x H H') (hx : H x = some (.ins C dx fs)) (h : SqT K H a xs) : SqT K H' a xs := by
  rcases h with (h | ⟨o, h⟩) | h
  · refine .inl (.inl (g.keep a _ (fun z => ?_) h (fun _ z => by cases z)))
    rw [z, hx] at h
    cases h
  · refine .inl (.inr ⟨o, g.keep a _ (fun z => ?_) h (fun _ z => by cases z)⟩)
    rw [z, hx] at h
    cases h
  · exact .inr h
theorem RowAt.sqt {K : PySem.W.Frag} {C x : Addr} {H H' : Hp} {n : Int} {ws : List Str} {i : Nat} {a : Addr} {xs : List V} (r : RowAt C H x n ws i) (g : Gp x H H') (h : SqT K H a xs) : SqT K H' a xs := by
  obtain ⟨dx, wl, hx, _⟩ := r
  exact gp_sqtI g hx h
theorem nought_lt {z : Str} (h : isN z = true) : lt "" z := by
  refine ahd_lt (l := [z]) (List.pairwise_singleton _ _) (fun y hy => ?_) (i := 0) rfl
  have e : y = z := by simpa using hy
  rw [e]
  exact h
section
variable {P : Program} {w : World} {K : PySem.W.Frag} {mg : Str → Option Value} {base : Heap}
def spReadH (C : Addr) : Sp := fun vs H Q _ => ∃ (x : Addr) (n : Int) (hd : List Str), vs = [.ref x] ∧ RowAt C H x n (wsH hd) 0 ∧ goH hd ∧ ∀ H' p, Gp x H H' → H' p = some (.tup (hd.map V.str)) → Q (.ref p) H'
set_option maxHeartbeats 1000000 in
theorem ok_readH {f fS fT fW fC fN C : Addr} {fd dS dT dW dC dN : FuncData} {k : Nat} (F : Fun K "read_hidden" "read_hidden" sReadH f fd) (Z : Rws P w K mg base C k fS fT fW fC dS dT dW dC) (HN : Has P w K mg base k "is_next_name" ["thing", "ahead"] spNextN fN dN) (mt : mg "tuple" = none) :
    FnOk P w K mg base CX0 (k + 1) f fd ["row"] (spReadH C) := by
  refine F.ok scReadH (fun vs H Q E h => ?_) (fun cdv A outer s H vs Q E hr h => ?_)
  · obtain ⟨x, n, hd, rfl, _⟩ := h
    rfl
  · obtain ⟨x, n, hd, rfl, r0, gh, q⟩ := h
    have nd := scReadH.nd
    refine' ⟨_, pss_cons ?s1 (pss_cons ?s2 (pss_cons ?s3 (pss_cons ?s4 (pss_one ?s5)))), ?rd⟩
    case s1 => exact ps_expr (pe_meth (pv 0) Z.R.cl Z.HW.me Z.HW.ok hr Z.HW.bd .nil pass0 (pa_cons pe_str pa_nil))
    case s2 => exact ps_set (i := 1) nd rfl (.inl rfl) (pe_lst (pa_cons (pe_meth (pv 0) Z.R.cl Z.HT.me Z.HT.ok hr Z.HT.bd .nil pass0 (pa_cons (hcall HN hr (pa_cons (pe_meth0 (pv 0) Z.R.cl Z.HS.me Z.HS.ok hr Z.HS.bd .nil pass0) (pa_cons pe_str pa_nil))) pa_nil)) pa_nil))
    case s3 =>
      exact ps_if (pt_cmpR op_notN (pe_meth0 (pv 0) Z.R.cl Z.HS.me Z.HS.ok hr Z.HS.bd .nil pass0) pe_non (nomark _))
        (pss_one (ps_expr (pe_bm PySem.F.plainAttrs_list PySem.F.slot_list_append PySem.F.type_list_append mt_append (pv 1) (pa_cons (pe_meth (pv 0) Z.R.cl Z.HT.me Z.HT.ok hr Z.HT.bd .nil pass0 (pa_cons (hcall HN hr (pa_cons (pe_meth0 (pv 0) Z.R.cl Z.HS.me Z.HS.ok hr Z.HS.bd .nil pass0) (pa_cons (pe_ix ix_list (pv 1) pe_int (fun _ _ => rfl)) pa_nil))) pa_nil)) pa_nil)))) pss_nil
    case s4 => exact ps_expr (pe_meth0 (pv 0) Z.R.cl Z.HC.me Z.HC.ok hr Z.HC.bd .nil pass0)
    case s5 => exact ps_ret (pe_callTy call_tuple_of (by rfl) mt (by decide +kernel) (pa_cons (pv 1) pa_nil))
    case rd =>
    obtain ⟨h1, h2, hn, up⟩ := gh
    -- hidden
    obtain ⟨dx, fs, e0, a1, a2, a3, a4⟩ := r0.has
    refine ⟨_, rfl, x, dx, fs, rfl, e0, a3, x, n, wsH hd, 0, "hidden", rfl, r0, rfl, fun H1 g1 r1 => ?_⟩
    -- the first name
    obtain ⟨n1, rest, ehd⟩ : ∃ n1 rest, hd = n1 :: rest := by
      cases hd with
      | nil => exact absurd h1 (by simp)
      | cons a r => exact ⟨a, r, rfl⟩
    have w1 : (wsH hd)[1]? = some n1 := by rw [ehd]; rfl
    have gn1 : isN n1 = true := hn n1 (by rw [ehd]; exact List.mem_cons_self)
    have l1 : 1 ≤ (wsH hd).length := Nat.le_of_lt (lt_of_at w1)
    obtain ⟨dx1, fs1, f0, b1, b2, b3, b4⟩ := r1.has
    refine ⟨_, rfl, x, dx1, fs1, rfl, f0, b2, _, rfl, x, dx1, fs1, rfl, f0, b1, x, n, wsH hd, 1, rfl, r1, l1, ?_⟩
    rw [seen_is w1]
    refine ⟨n1, "", rfl, gn1, ?_, x, n, wsH hd, 1, rfl, r1, l1, fun H2 g2 r2 => ?_⟩
    · exact nought_lt gn1
    rw [seen_is w1]
    refine ⟨by show 1 ≤ sizeLine; decide, fun nl nnl => ?_⟩
    have xl : x ≠ nl := by
      obtain ⟨dx2, fs2, c0, _⟩ := r2.has
      exact ne_of_none c0 nnl
    have r3 : RowAt C (upd H2 nl (.lst [.str n1])) x n (wsH hd) 2 := r2.gr (Gr.new nnl)
    have e3 : upd H2 nl (.lst [.str n1]) nl = some (.lst [.str n1]) := upd_same
    have g3 : Gp x H (upd H2 nl (.lst [.str n1])) := (g1.trans g2).trans (Gp.gr (Gr.new nnl))
    generalize upd H2 nl (.lst [.str n1]) = H3 at r3 e3 g3 ⊢
    obtain ⟨dx3, fs3, c0, c1, c2, c3, c4⟩ := r3.has
    refine ⟨_, rfl, x, dx3, fs3, rfl, c0, c1, x, n, wsH hd, 2, rfl, r3, ?_, ?_⟩
    · rw [ehd]
      show 2 ≤ (n1 :: rest).length + 1
      simp
    cases rest with
    | nil =>
      have e : seenV (wsH hd) 2 = .non := by rw [ehd]; rfl
      rw [e]
      refine ⟨rfl, _, rfl, iteF ?_⟩
      have r4 : RowAt C H3 x n (wsH hd) (wsH hd).length := by
        rw [show (wsH hd).length = 2 by rw [ehd]; rfl]
        exact r3
      refine ⟨_, rfl, x, dx3, fs3, rfl, c0, c4, x, n, wsH hd, rfl, r4, ?_⟩
      refine ⟨_, rfl, nl, _, rfl, .inl ⟨.inl (.inl e3), fun p np => q _ p (g3.trans (Gp.gr (Gr.new np))) ?_⟩⟩
      rw [upd_same, ehd]
      rfl
    | cons n2 rest2 =>
      have e2 : rest2 = [] := by
        rw [ehd] at h2
        cases rest2 with
        | nil => rfl
        | cons a r => exact absurd h2 (by simp)
      subst e2
      have w2 : (wsH hd)[2]? = some n2 := by rw [ehd]; rfl
      have gn2 : isN n2 = true := hn n2 (by rw [ehd]; simp)
      have l2 : 2 ≤ (wsH hd).length := Nat.le_of_lt (lt_of_at w2)
      rw [seen_is w2]
      refine ⟨rfl, _, rfl, iteT ?_⟩
      refine ⟨_, rfl, .inl ⟨rfl, _, .inl (.inl e3)⟩, _, rfl, x, dx3, fs3, rfl, c0, c2, _, rfl, x, dx3, fs3, rfl, c0, c1, x, n, wsH hd, 2, rfl, r3, l2, ?_⟩
      rw [seen_is w2]
      refine ⟨_, rfl, nl, _, 0, _, rfl, rfl, .inl (.inl e3), rfl, n2, n1, rfl, gn2, ?_, x, n, wsH hd, 2, rfl, r3, l2, fun H4 g4 r4 => ?_⟩
      · rw [ehd] at up
        exact (List.pairwise_cons.mp up).1 n2 List.mem_cons_self
      rw [seen_is w2]
      have e4 : H4 nl = some (.lst [.str n1]) := g4.lst (Ne.symm xl) e3
      refine ⟨nl, _, _, rfl, rfl, e4, small1000 (by show 1 ≤ 1000; decide), ?_⟩
      have g5 : Gp x H (upd H4 nl (.lst ([.str n1] ++ [.str n2]))) := (g3.trans g4).upd_new ((g1.trans g2).back nl (Ne.symm xl) nnl)
      have e5 : upd H4 nl (.lst ([.str n1] ++ [.str n2])) nl = some (.lst ([.str n1] ++ [.str n2])) := upd_same
      have r5 : RowAt C (upd H4 nl (.lst ([.str n1] ++ [.str n2]))) x n (wsH hd) (wsH hd).length := by
        obtain ⟨dx4, wl4, d1, d2⟩ := r4
        have wn : wl4 ≠ nl := by
          intro z
          rw [z, e4] at d2
          have := HO.lst.inj (Option.some.inj d2)
          have hl := congrArg List.length this
          rw [List.length_append, List.length_map, ehd] at hl
          exact absurd hl (by show ¬ (1 = 3 + 1); decide)
        rw [show (wsH hd).length = 3 by rw [ehd]; rfl]
        exact ⟨dx4, wl4, (upd_ne xl).trans d1, (upd_ne wn).trans d2⟩
      generalize upd H4 nl (.lst ([.str n1] ++ [.str n2])) = H5 at g5 e5 r5 ⊢
      obtain ⟨dx5, fs5, d0, d1, d2, d3, d4⟩ := r5.has
      refine ⟨_, rfl, x, dx5, fs5, rfl, d0, d4, x, n, wsH hd, rfl, r5, ?_⟩
      refine ⟨_, rfl, nl, _, rfl, .inl ⟨.inl (.inl e5), fun p np => q _ p (g5.trans (Gp.gr (Gr.new np))) ?_⟩⟩
      rw [upd_same, ehd]
      rfl
end
end SfC
namespace SfC
open PySem PySem.Spec PyProof.Rows L2 SfG
/-! ### read_hidden of any row -/
/-- refused: by this row and this word; the row x is being read -/
def RzP (x : Addr) (E : XK) (C : Addr) (H : Hp) (r w : Int) : Prop := ∀ H' dd, Gp x H H' → H' dd = some (.xd [("word", .int w), ("row", .int r)]) → E (.ref C) (some dd) H'
theorem RzP.rz {x : Addr} {E : XK} {C : Addr} {H H1 : Hp} {r w : Int} (h : RzP x E C H r w) (g : Gp x H H1) : Rz E C H1 r w := fun H' dd g' hd => h H' dd (g.trans (Gp.gr g')) hd
theorem RzP.gp {x : Addr} {E : XK} {C : Addr} {H H1 : Hp} {r w : Int} (h : RzP x E C H r w) (g : Gp x H H1) : RzP x E C H1 r w := fun H' dd g' hd => h H' dd (g.trans g') hd
def rdH (ws : List Str) : Nat ⊕ List Str :=
  if ws[0]? ≠ some ("hidden" : Str) then .inl 1 else
  if nxD "" ws[1]? = false then .inl 2 else
  match ws[2]? with
  | none => .inr [ws.getD 1 ""]
  | some z => if nxD (ws.getD 1 "") (some z) = false then .inl 3 else if 3 < ws.length then .inl 4 else .inr [ws.getD 1 "", z]
section
variable {ws : List Str} {z : Str}
theorem rdH_1 (h : ws[0]? ≠ some ("hidden" : Str)) : rdH ws = .inl 1 := if_pos h
theorem rdH_2 (h0 : ws[0]? = some ("hidden" : Str)) (h1 : nxD "" ws[1]? = false) : rdH ws = .inl 2 := by
  unfold rdH
  rw [if_neg (fun c => c h0), if_pos h1]
theorem rdH_a (h0 : ws[0]? = some ("hidden" : Str)) (h1 : nxD "" ws[1]? = true) (h2 : ws[2]? = none) : rdH ws = .inr [ws.getD 1 ""] := by
  unfold rdH
  rw [if_neg (fun c => c h0), if_neg (by rw [h1]; decide), h2]
theorem rdH_3 (h0 : ws[0]? = some ("hidden" : Str)) (h1 : nxD "" ws[1]? = true) (h2 : ws[2]? = some z) (h3 : nxD (ws.getD 1 "") (some z) = false) : rdH ws = .inl 3 := by
  unfold rdH
  rw [if_neg (fun c => c h0), if_neg (by rw [h1]; decide), h2]
  exact if_pos h3
theorem rdH_4 (h0 : ws[0]? = some ("hidden" : Str)) (h1 : nxD "" ws[1]? = true) (h2 : ws[2]? = some z) (h3 : nxD (ws.getD 1 "") (some z) = true) (h4 : 3 < ws.length) : rdH ws = .inl 4 := by
  unfold rdH
  rw [if_neg (fun c => c h0), if_neg (by rw [h1]; decide), h2]
  show (if nxD (ws.getD 1 "") (some z) = false then _ else _) = _
  rw [if_neg (by rw [h3]; decide), if_pos h4]
theorem rdH_b (h0 : ws[0]? = some ("hidden" : Str)) (h1 : nxD "" ws[1]? = true) (h2 : ws[2]? = some z) (h3 : nxD (ws.getD 1 "") (some z) = true) (h4 : ¬ 3 < ws.length) : rdH ws = .inr [ws.getD 1 "", z] := by
  unfold rdH
  rw [if_neg (fun c => c h0), if_neg (by rw [h1]; decide), h2]
  show (if nxD (ws.getD 1 "") (some z) = false then _ else _) = _
  rw [if_neg (by rw [h3]; decide), if_neg h4]
theorem nx_some {a : Str} {o : Option Str} (h : nxD a o = true) : ∃ z, o = some z ∧ isN z = true ∧ lt a z := by
  cases o with
  | none => cases h
  | some z =>
    have := Bool.and_eq_true_iff.mp h
    exact ⟨z, rfl, this.1, of_decide_eq_true this.2⟩
theorem getD_at {i : Nat} (h : ws[i]? = some z) : ws.getD i "" = z := by
  rw [List.getD_eq_getElem?_getD, h]
  rfl
end
/-- the methods of rows, of any words -/
structure RwX (P : Program) (w : World) (K : PySem.W.Frag) (mg : Str → Option Value) (base : Heap) (C CB : Addr) (k : Nat) (fS fT fW fC : Addr) (dS dT dW dC : FuncData) : Prop where
  R : RowC K mg C
  HS : HasM P w K mg base C k "seen" ["self"] (spSeen C) fS dS
  HT : HasMX P w K mg base C k "take" ["self", "stands"] (spTakeX C CB) fT dT
  HW : HasMX P w K mg base C k "take_word" ["self", "word"] (spTakeWX C CB) fW dW
  HC : HasMX P w K mg base C k "close" ["self"] (spCloseX C CB) fC dC
def Wds (ws : List Str) : Prop := ∀ z ∈ ws, Wt (.str z) 200000 10
theorem Wds.fits {ws : List Str} (h : Wds ws) (a : Nat) : Fits ws[a]? := fun z e => (h z (List.mem_of_getElem? e)).mono (by decide) (by decide)
section
variable {P : Program} {w : World} {K : PySem.W.Frag} {mg : Str → Option Value} {base : Heap}
def spReadHX (C CB : Addr) : Sp := fun vs H Q E => ∃ (x : Addr) (n : Int) (ws : List Str), vs = [.ref x] ∧ RowAt C H x n ws 0 ∧ Wds ws ∧ (∀ k, rdH ws = .inl k → RzP x E CB H n (k : Nat)) ∧ (∀ hd, rdH ws = .inr hd → ∀ H' p, Gp x H H' → H' p = some (.tup (hd.map V.str)) → Q (.ref p) H')
set_option maxHeartbeats 1000000 in
theorem ok_readHX {f fS fT fW fC fN C CB : Addr} {fd dS dT dW dC dN : FuncData} {k : Nat} (F : Fun K "read_hidden" "read_hidden" sReadH f fd) (Z : RwX P w K mg base C CB k fS fT fW fC dS dT dW dC) (HN : Has P w K mg base k "is_next_name" ["thing", "ahead"] spNextNX fN dN) (mt : mg "tuple" = none) :
    FnOk P w K mg base (L2.CX P w) (k + 1) f fd ["row"] (spReadHX C CB) := by
  refine F.okX scReadH (fun vs H Q E h => ?_) (fun cdv A outer s H vs Q E hr h => ?_)
  · obtain ⟨x, n, ws, rfl, _⟩ := h
    rfl
  · obtain ⟨x, n, ws, rfl, r0, wd, qe, q⟩ := h
    have nd := scReadH.nd
    refine' ⟨_, pss_cons ?s1 (pss_cons ?s2 (pss_cons ?s3 (pss_cons ?s4 (pss_one ?s5)))), ?rd⟩
    case s1 => exact ps_expr (pe_meth (pv 0) Z.R.cl Z.HW.me Z.HW.ok hr Z.HW.bd .nil (passes_call (takes_of (E := E) rfl rfl rfl rfl) (fun _ _ _ _ h => h)) (pa_cons pe_str pa_nil))
    case s2 => exact ps_set (i := 1) nd rfl (.inl rfl) (pe_lst (pa_cons (pe_meth (pv 0) Z.R.cl Z.HT.me Z.HT.ok hr Z.HT.bd .nil (passes_call (takes_of (E := E) rfl rfl rfl rfl) (fun _ _ _ _ h => h)) (pa_cons (hcall HN hr (pa_cons (pe_meth0 (pv 0) Z.R.cl Z.HS.me Z.HS.ok hr Z.HS.bd .nil pass0) (pa_cons pe_str pa_nil))) pa_nil)) pa_nil))
    case s3 =>
      exact ps_if (pt_cmpR op_notN (pe_meth0 (pv 0) Z.R.cl Z.HS.me Z.HS.ok hr Z.HS.bd .nil pass0) pe_non (nomark _))
        (pss_one (ps_expr (pe_bm PySem.F.plainAttrs_list PySem.F.slot_list_append PySem.F.type_list_append mt_append (pv 1) (pa_cons (pe_meth (pv 0) Z.R.cl Z.HT.me Z.HT.ok hr Z.HT.bd .nil (passes_call (takes_of (E := E) rfl rfl rfl rfl) (fun _ _ _ _ h => h)) (pa_cons (hcall HN hr (pa_cons (pe_meth0 (pv 0) Z.R.cl Z.HS.me Z.HS.ok hr Z.HS.bd .nil pass0) (pa_cons (pe_ix ix_list (pv 1) pe_int (fun _ _ => rfl)) pa_nil))) pa_nil)) pa_nil)))) pss_nil
    case s4 => exact ps_expr (pe_meth0 (pv 0) Z.R.cl Z.HC.me Z.HC.ok hr Z.HC.bd .nil (passes_call (takes_of (E := E) rfl rfl rfl rfl) (fun _ _ _ _ h => h)))
    case s5 => exact ps_ret (pe_callTy call_tuple_of (by rfl) mt (by decide +kernel) (pa_cons (pv 1) pa_nil))
    case rd =>
    obtain ⟨dx, fs, e0, a1, a2, a3, a4⟩ := r0.has
    refine ⟨_, rfl, x, dx, fs, rfl, e0, a3, x, n, ws, 0, "hidden", rfl, r0, Nat.zero_le _, fun hw0 H1 g1 r1 => ?_, fun hw0 => (qe 1 (rdH_1 hw0)).rz (Gp.refl x H)⟩
    -- the first name
    have l1 : 1 ≤ ws.length := lt_of_at hw0
    obtain ⟨dx1, fs1, f0, b1, b2, b3, b4⟩ := r1.has
    refine ⟨_, rfl, x, dx1, fs1, rfl, f0, b2, _, rfl, x, dx1, fs1, rfl, f0, b1, x, n, ws, 1, rfl, r1, l1, ?_⟩
    rw [seen_sV]
    refine ⟨ws[1]?, "", rfl, wd.fits 1, x, n, ws, 1, _, rfl, r1, fun hb => ⟨l1, fun H2 g2 r2 => ?_⟩, fun hb => (qe 2 (rdH_2 hw0 hb)).rz g1⟩
    obtain ⟨n1, w1, gn1, _⟩ := nx_some hb
    have d1 := getD_at w1
    rw [seen_is w1]
    refine ⟨by show 1 ≤ sizeLine; decide, fun nl nnl => ?_⟩
    have xl : x ≠ nl := by
      obtain ⟨dx2, fs2, c0, _⟩ := r2.has
      exact ne_of_none c0 nnl
    have r3 : RowAt C (upd H2 nl (.lst [.str n1])) x n ws 2 := r2.gr (Gr.new nnl)
    have e3 : upd H2 nl (.lst [.str n1]) nl = some (.lst [.str n1]) := upd_same
    have g3 : Gp x H (upd H2 nl (.lst [.str n1])) := (g1.trans g2).trans (Gp.gr (Gr.new nnl))
    generalize upd H2 nl (.lst [.str n1]) = H3 at r3 e3 g3 ⊢
    obtain ⟨dx3, fs3, c0, c1, c2, c3, c4⟩ := r3.has
    have l2 : 2 ≤ ws.length := lt_of_at w1
    refine ⟨_, rfl, x, dx3, fs3, rfl, c0, c1, x, n, ws, 2, rfl, r3, l2, ?_⟩
    cases w2 : ws[2]? with
    | none =>
      have e : seenV ws 2 = .non := by rw [seen_sV, w2]; rfl
      rw [e]
      refine ⟨rfl, _, rfl, iteF ?_⟩
      have l3 : ws.length = 2 := by
        have := List.getElem?_eq_none_iff.mp w2
        omega
      refine ⟨_, rfl, x, dx3, fs3, rfl, c0, c4, x, n, ws, 2, rfl, r3, l2, fun _ => ?_, fun h => by omega⟩
      refine ⟨_, rfl, nl, _, rfl, .inl ⟨.inl (.inl e3), fun p np => q _ (rdH_a hw0 hb w2) _ p (g3.trans (Gp.gr (Gr.new np))) ?_⟩⟩
      rw [upd_same, d1]
      rfl
    | some n2 =>
      rw [seen_is w2]
      refine ⟨rfl, _, rfl, iteT ?_⟩
      refine ⟨_, rfl, .inl ⟨rfl, _, .inl (.inl e3)⟩, _, rfl, x, dx3, fs3, rfl, c0, c2, _, rfl, x, dx3, fs3, rfl, c0, c1, x, n, ws, 2, rfl, r3, l2, ?_⟩
      rw [seen_sV, w2]
      have f2 : Fits (some n2) := by
        rw [← w2]
        exact wd.fits 2
      refine ⟨_, rfl, nl, _, 0, _, rfl, rfl, .inl (.inl e3), rfl, some n2, n1, rfl, f2, x, n, ws, 2, _, rfl, r3, fun hc => ⟨l2, fun H4 g4 r4 => ?_⟩, fun hc => (qe 3 (rdH_3 hw0 hb w2 (by rw [d1]; exact hc))).rz g3⟩
      have hc' : nxD (ws.getD 1 "") (some n2) = true := by
        rw [d1]
        exact hc
      rw [seen_is w2]
      have e4 : H4 nl = some (.lst [.str n1]) := g4.lst (Ne.symm xl) e3
      refine ⟨nl, _, _, rfl, rfl, e4, small1000 (by show 1 ≤ 1000; decide), ?_⟩
      have g5 : Gp x H (upd H4 nl (.lst ([.str n1] ++ [.str n2]))) := (g3.trans g4).upd_new ((g1.trans g2).back nl (Ne.symm xl) nnl)
      have e5 : upd H4 nl (.lst ([.str n1] ++ [.str n2])) nl = some (.lst ([.str n1] ++ [.str n2])) := upd_same
      have l3 : 3 ≤ ws.length := lt_of_at w2
      have r5 : RowAt C (upd H4 nl (.lst ([.str n1] ++ [.str n2]))) x n ws 3 := by
        obtain ⟨dx4, wl4, d1, d2⟩ := r4
        have wn : wl4 ≠ nl := by
          intro z
          rw [z, e4] at d2
          have := HO.lst.inj (Option.some.inj d2)
          have hl := congrArg List.length this
          rw [List.length_append, List.length_map] at hl
          have hl' : 1 = ws.length + 1 := hl
          omega
        exact ⟨dx4, wl4, (upd_ne xl).trans d1, (upd_ne wn).trans d2⟩
      generalize upd H4 nl (.lst ([.str n1] ++ [.str n2])) = H5 at g5 e5 r5 ⊢
      obtain ⟨dx5, fs5, d0, d1', d2, d3, d4⟩ := r5.has
      refine ⟨_, rfl, x, dx5, fs5, rfl, d0, d4, x, n, ws, 3, rfl, r5, l3, fun h => ?_, fun h => (qe 4 (rdH_4 hw0 hb w2 hc' h)).rz g5⟩
      refine ⟨_, rfl, nl, _, rfl, .inl ⟨.inl (.inl e5), fun p np => q _ (rdH_b hw0 hb w2 hc' (by omega)) _ p (g5.trans (Gp.gr (Gr.new np))) ?_⟩⟩
      rw [upd_same, d1]
      rfl
end
end SfC
namespace SfC
open PySem PySem.Spec PyProof.Rows L2 SfG
theorem RowAt.kd {K : PySem.W.Frag} {C x : Addr} {H H' : Hp} {n : Int} {ws : List Str} {i : Nat} (r : RowAt C H x n ws i) (g : Gp x H H') : Kd K H H' := by
  obtain ⟨dx, wl, hx, _⟩ := r
  refine ⟨fun {a xs} h => ?_, fun {a xs} h => gp_sqtI g hx h⟩
  rcases h with (h | ⟨o, h⟩) | h
  · refine .inl (.inl (g.keep a _ (fun z => ?_) h (fun _ z => by cases z)))
    rw [z, hx] at h
    cases h
  · refine .inl (.inr ⟨o, g.keep a _ (fun z => ?_) h (fun _ z => by cases z)⟩)
    rw [z, hx] at h
    cases h
  · exact .inr h
theorem kS_colon {hd : List Str} (hn : ∀ z ∈ hd, isN z = true) {k : Kn} (h : goK hd k) : V.str (kS k) ≠ V.str colon := by
  intro e
  have e1 := V.str.inj e
  cases k with
  | h s =>
    have := hn s h
    rw [show s = colon from e1] at this
    exact absurd this (by decide +kernel)
  | p n =>
    obtain ⟨h2, h9⟩ := h
    have e2 := congrArg (fun z : Str => z.cps.toList) e1
    have e3 : colon.cps.toList = [58] := by decide +kernel
    simp only [e3] at e2
    have e4 : 48 + n.toNat = 58 := by simpa [kS] using e2
    omega
theorem wsD_tk {e : De} {j : Nat} {k : Kn} (h : e.tk[j]? = some k) : (wsD e)[1 + j]? = some (kS k) := by
  unfold wsD
  rw [Nat.add_comm, List.getElem?_cons_succ, List.getElem?_append_left (by rw [List.length_map]; exact lt_of_at h), List.getElem?_map, h]
  rfl
theorem wsD_colon (e : De) : (wsD e)[1 + e.tk.length]? = some colon := by
  unfold wsD
  rw [Nat.add_comm, List.getElem?_cons_succ, List.getElem?_append_right (by rw [List.length_map]; exact Nat.le_refl _), List.length_map, Nat.sub_self]
  rfl
theorem wsD_gv (e : De) : (wsD e)[1 + e.tk.length + 1]? = some (kS e.gv) := by
  unfold wsD
  rw [show 1 + e.tk.length + 1 = (e.tk.length + 1) + 1 by omega, List.getElem?_cons_succ, List.getElem?_append_right (by rw [List.length_map]; omega), List.length_map, Nat.add_sub_cancel_left]
  rfl
theorem wsD_all (e : De) : (wsD e).length = 1 + e.tk.length + 1 + 1 := by
  unfold wsD
  rw [List.length_cons, List.length_append, List.length_map]
  show e.tk.length + 2 + 1 = _
  omega
section
variable {P : Program} {w : World} {K : PySem.W.Frag} {mg : Str → Option Value} {base : Heap}
def spReadT (K : PySem.W.Frag) (C : Addr) : Sp := fun vs H Q _ => ∃ (x ph : Addr) (n : Int) (e : De) (hd : List Str), vs = [.ref x, .ref ph] ∧ RowAt C H x n (wsD e) 1 ∧ goD hd e ∧ (∀ z ∈ hd, isN z = true) ∧ SqT K H ph (hd.map V.str) ∧
  ∀ H' v, Gp x H H' → RowAt C H' x n (wsD e) (1 + e.tk.length + 1) → Dp K H' v (.tuple (e.tk.map Kn.d)) → Q v H'
set_option maxHeartbeats 1000000 in
theorem ok_readT {f fS fT fW fC fB fA C : Addr} {fd dS dT dW dC dB dA : FuncData} {k : Nat} (F : Fun K "read_takes" "read_takes" sReadT f fd) (Z : Rws P w K mg base C k fS fT fW fC dS dT dW dC) (HB : Has P w K mg base k "kind_by" ["word"] spKindBy fB dB)
    (HA : Has P w K mg base k "are_takes" ["thing", "hidden"] (spAreT K) fA dA) : FnOk P w K mg base CX0 (k + 1) f fd ["row", "hidden"] (spReadT K C) := by
  refine F.ok scReadT (fun vs H Q E h => ?_) (fun cdv A outer s H vs Q E hr h => ?_)
  · obtain ⟨x, ph, n, e, hd, rfl, _⟩ := h
    rfl
  · obtain ⟨x, ph, n, e, hd, rfl, r0, gd, hn, hph, q⟩ := h
    have nd := scReadT.nd
    refine' ⟨_, pss_cons ?s1 (pss_cons ?s2 (pss_cons ?s3 (pss_one ?s4))), ?rd⟩
    case s1 => exact ps_set (i := 2) nd rfl (.inl rfl) (pe_tup pa_nil)
    case s2 =>
      exact ps_while PassesOwn.never (pt_cmpR op_ne (pe_meth0 (pv 0) Z.R.cl Z.HS.me Z.HS.ok hr Z.HS.bd .nil pass0) pe_str (nomark _))
        (pss_cons (ps_set (i := 3) nd rfl (.inl rfl) (pe_tup (StX.pa_star (pv 2) (pa_cons (hcall HB hr (pa_cons (pe_meth0 (pv 0) Z.R.cl Z.HS.me Z.HS.ok hr Z.HS.bd .nil pass0) pa_nil)) pa_nil))))
        (pss_cons (ps_expr (pe_meth (pv 0) Z.R.cl Z.HT.me Z.HT.ok hr Z.HT.bd .nil pass0 (pa_cons (hcall HA hr (pa_cons (pv 3) (pa_cons (pv 1) pa_nil))) pa_nil)))
        (pss_one (ps_set (i := 2) nd rfl (.inl rfl) (pv 3)))))
    case s3 => exact ps_expr (pe_meth (pv 0) Z.R.cl Z.HW.me Z.HW.ok hr Z.HW.bd .nil pass0 (pa_cons pe_str pa_nil))
    case s4 => exact ps_ret (pv 2)
    case rd =>
    refine ⟨Nat.zero_le _, fun t0 nt0 => ?_⟩
    have all := wsD_all e
    have h3 := gd.len
    refine ⟨fun d σ H1 => ∃ (j : Nat) (tp : Addr) (y3 : Option V), σ = [some (.ref x), some (.ref ph), some (.ref tp), y3] ∧ j ≤ e.tk.length ∧ Gp x H H1 ∧ RowAt C H1 x n (wsD e) (1 + j) ∧ H1 tp = some (.tup ((e.tk.take j).map Kn.v)) ∧ SqT K H1 ph (hd.map V.str) ∧ d = e.tk.length - j,
      ⟨_, 0, t0, none, rfl, Nat.zero_le _, Gp.gr (Gr.new nt0), r0.gr (Gr.new nt0), upd_same, (Gr.new nt0).sqt hph, rfl⟩, ?_⟩
    rintro d σ H1 ⟨j, tp, y3, rfl, hj, g1, r1, htp, hph1, rfl⟩
    obtain ⟨dx, fs, e0, a1, a2, a3, a4⟩ := r1.has
    refine ⟨_, rfl, x, dx, fs, rfl, e0, a1, x, n, wsD e, 1 + j, rfl, r1, by omega, ?_⟩
    rcases Nat.lt_or_ge j e.tk.length with hlt | hge
    · have hk : e.tk[j]? = some e.tk[j] := List.getElem?_eq_getElem hlt
      generalize e.tk[j] = kn at hk
      have gk := gd.tk kn (List.mem_of_getElem? hk)
      have hw := wsD_tk hk
      rw [seen_is hw]
      refine ⟨rfl, _, rfl, ?_⟩
      rw [decide_eq_false (kS_colon hn gk)]
      refine iteT ⟨fun σ' H' => ∃ (tp : Addr) (y3 : Option V), σ' = [some (.ref x), some (.ref ph), some (.ref tp), y3] ∧ Gp x H H' ∧ RowAt C H' x n (wsD e) (1 + (j + 1)) ∧ H' tp = some (.tup ((e.tk.take (j + 1)).map Kn.v)) ∧ SqT K H' ph (hd.map V.str), ?_, ?_⟩
      · rintro σ' H' ⟨tp', y', b1, b2, b3, b4, b5⟩
        exact ⟨e.tk.length - (j + 1), by omega, j + 1, tp', y', b1, hlt, b2, b3, b4, b5, rfl⟩
      · refine ⟨_, rfl, tp, _, rfl, .inl (.inl (.inl htp)), _, rfl, x, dx, fs, rfl, e0, a1, x, n, wsD e, 1 + j, rfl, r1, by omega, ?_⟩
        rw [seen_is hw]
        refine ⟨kn, hd, rfl, gk, hn, ?_, fun t1 nt1 => ?_⟩
        · rw [List.length_append, List.length_map, List.length_take]
          exact Nat.le_of_lt (small1000 (by show _ + 1 ≤ 1000; omega))
        have eV : (e.tk.take j).map Kn.v ++ [kn.v] = (e.tk.take (j + 1)).map Kn.v := by
          rw [List.take_add_one, hk, List.map_append]
          rfl
        rw [eV]
        have g2 : Gr H1 (upd H1 t1 (.tup ((e.tk.take (j + 1)).map Kn.v))) := Gr.new nt1
        have e2 : upd H1 t1 (.tup ((e.tk.take (j + 1)).map Kn.v)) t1 = some (.tup ((e.tk.take (j + 1)).map Kn.v)) := upd_same
        generalize upd H1 t1 (.tup ((e.tk.take (j + 1)).map Kn.v)) = H2 at g2 e2 ⊢
        have r2 := r1.gr g2
        obtain ⟨dx2, fs2, c0, c1, c2, c3, c4⟩ := r2.has
        refine ⟨_, rfl, x, dx2, fs2, rfl, c0, c2, _, rfl, _, rfl, .ref t1, e.tk.take (j + 1), hd, ph, rfl, .tup (.inl (.inl e2)) (dpA_kv _), g2.sqt hph1, ?_, ?_, ?_, fun H3 g3 => ?_⟩
        · rw [List.length_take]
          omega
        · exact fun k hk => gd.tk k (List.mem_of_mem_take hk)
        · refine Nat.le_trans ?_ gd.two
          unfold hidN
          exact (List.Sublist.filter _ (List.take_sublist _ _)).length_le
        refine ⟨x, n, wsD e, 1 + j, rfl, r2.gr g3, by omega, fun H4 g4 r4 => ?_⟩
        have r3 := r2.gr g3
        have e4 : H4 t1 = some (.tup ((e.tk.take (j + 1)).map Kn.v)) := by
          refine g4.keep t1 _ ?_ (g3.tup e2) (fun _ z => by cases z)
          intro z
          rw [z, c0] at e2
          cases e2
        refine ⟨_, rfl, t1, _, rfl, ((g1.trans (Gp.gr g2)).trans (Gp.gr g3)).trans g4, ?_, e4, r3.sqt g4 ((g2.trans g3).sqt hph1)⟩
        rw [show 1 + (j + 1) = 1 + j + 1 by omega]
        exact r4
    · have ej : j = e.tk.length := by omega
      subst ej
      rw [seen_is (wsD_colon e)]
      refine ⟨rfl, _, rfl, ?_⟩
      rw [decide_eq_true rfl]
      refine iteF ?_
      refine ⟨_, rfl, x, dx, fs, rfl, e0, a3, x, n, wsD e, 1 + e.tk.length, colon, rfl, r1, wsD_colon e, fun H2 g2 r2 => ?_⟩
      rw [List.take_length] at htp
      refine ⟨_, rfl, q H2 _ (g1.trans g2) r2 (.tup (r1.sqt g2 (.inl (.inl htp))) (dpA_kv _))⟩
def spReadD (K : PySem.W.Frag) (C : Addr) : Sp := fun vs H Q _ => ∃ (x ph : Addr) (n : Int) (e : De) (hd : List Str) (a : Str), vs = [.ref x, .ref ph, .str a] ∧ RowAt C H x n (wsD e) 0 ∧ goD hd e ∧ (∀ z ∈ hd, isN z = true) ∧ lt a e.nm ∧ SqT K H ph (hd.map V.str) ∧
  ∀ H' v, Gp x H H' → Dp K H' v e.d → Q v H'
set_option maxHeartbeats 1000000 in
theorem ok_readD {f fS fT fW fC fN fR fB fK C : Addr} {fd dS dT dW dC dN dR dB dK : FuncData} {k : Nat} (F : Fun K "read_deed" "read_deed" sReadD f fd) (Z : Rws P w K mg base C k fS fT fW fC dS dT dW dC) (HN : Has P w K mg base k "is_next_name" ["thing", "ahead"] spNextN fN dN)
    (HR : Has P w K mg base k "read_takes" ["row", "hidden"] (spReadT K C) fR dR) (HB : Has P w K mg base k "kind_by" ["word"] spKindBy fB dB) (HK : Has P w K mg base k "is_kind" ["thing", "hidden"] (spKind K) fK dK) :
    FnOk P w K mg base CX0 (k + 1) f fd ["row", "hidden", "ahead"] (spReadD K C) := by
  refine F.ok scReadD (fun vs H Q E h => ?_) (fun cdv A outer s H vs Q E hr h => ?_)
  · obtain ⟨x, ph, n, e, hd, a, rfl, _⟩ := h
    rfl
  · obtain ⟨x, ph, n, e, hd, a, rfl, r0, gd, hn, hlt, hph, q⟩ := h
    have nd := scReadD.nd
    refine' ⟨_, pss_cons ?s1 (pss_cons ?s2 (pss_cons ?s3 (pss_cons ?s4 (pss_cons ?s5 (pss_one ?s6))))), ?rd⟩
    case s1 => exact ps_set (i := 3) nd rfl (.inl rfl) (pe_meth (pv 0) Z.R.cl Z.HT.me Z.HT.ok hr Z.HT.bd .nil pass0 (pa_cons (hcall HN hr (pa_cons (pe_meth0 (pv 0) Z.R.cl Z.HS.me Z.HS.ok hr Z.HS.bd .nil pass0) (pa_cons (pv 2) pa_nil))) pa_nil))
    case s2 => exact ps_set (i := 4) nd rfl (.inl rfl) (hcall HR hr (pa_cons (pv 0) (pa_cons (pv 1) pa_nil)))
    case s3 => exact ps_set (i := 5) nd rfl (.inl rfl) (hcall HB hr (pa_cons (pe_meth0 (pv 0) Z.R.cl Z.HS.me Z.HS.ok hr Z.HS.bd .nil pass0) pa_nil))
    case s4 => exact ps_expr (pe_meth (pv 0) Z.R.cl Z.HT.me Z.HT.ok hr Z.HT.bd .nil pass0 (pa_cons (hcall HK hr (pa_cons (pv 5) (pa_cons (pv 1) pa_nil))) pa_nil))
    case s5 => exact ps_expr (pe_meth0 (pv 0) Z.R.cl Z.HC.me Z.HC.ok hr Z.HC.bd .nil pass0)
    case s6 => exact ps_ret (pe_tup (pa_cons (pv 3) (pa_cons (pv 4) (pa_cons (pv 5) pa_nil))))
    case rd =>
    have all := wsD_all e
    have w0 : (wsD e)[0]? = some e.nm := rfl
    obtain ⟨dx, fs, e0, a1, a2, a3, a4⟩ := r0.has
    refine ⟨_, rfl, x, dx, fs, rfl, e0, a2, _, rfl, x, dx, fs, rfl, e0, a1, x, n, wsD e, 0, rfl, r0, Nat.zero_le _, ?_⟩
    rw [seen_is w0]
    refine ⟨_, rfl, e.nm, a, rfl, gd.nm, hlt, x, n, wsD e, 0, rfl, r0, Nat.zero_le _, fun H1 g1 r1 => ?_⟩
    rw [seen_is w0]
    -- takes
    refine ⟨_, rfl, _, rfl, x, ph, n, e, hd, rfl, r1, gd, hn, r0.sqt g1 hph, fun H2 v g2 r2 dv => ?_⟩
    have g12 := g1.trans g2
    -- gives
    have w2 := wsD_gv e
    have l2 : 1 + e.tk.length + 1 ≤ (wsD e).length := by omega
    obtain ⟨dx2, fs2, c0, c1, c2, c3, c4⟩ := r2.has
    refine ⟨_, rfl, x, dx2, fs2, rfl, c0, c1, x, n, wsD e, 1 + e.tk.length + 1, rfl, r2, l2, ?_⟩
    rw [seen_is w2]
    refine ⟨e.gv, hd, rfl, gd.gv, hn, ?_⟩
    refine ⟨_, rfl, x, dx2, fs2, rfl, c0, c2, _, rfl, _, rfl, e.gv, hd, ph, rfl, r0.sqt g12 hph, gd.gv, x, n, wsD e, 1 + e.tk.length + 1, rfl, r2, l2, fun H3 g3 r3 => ?_⟩
    -- the end
    have r3' : RowAt C H3 x n (wsD e) (wsD e).length := by
      rw [all]
      exact r3
    obtain ⟨dx3, fs3, d0, d1, d2, d3, d4⟩ := r3.has
    refine ⟨_, rfl, x, dx3, fs3, rfl, d0, d4, x, n, wsD e, rfl, r3', ?_⟩
    refine ⟨_, rfl, _, rfl, _, rfl, by show 3 ≤ sizeLine; decide, fun t nt => ?_⟩
    have g4 : Gr H3 (upd H3 t (.tup [.str e.nm, v, e.gv.v])) := Gr.new nt
    exact q _ _ ((g12.trans g3).trans (Gp.gr g4)) (.tup (.inl (.inl upd_same)) (.cons (.str _) (.cons (g4.kd.dp ((r2.kd g3).dp dv)) (.cons (dp_kv e.gv) .nil))))
end
end SfC
namespace SfC
open PySem PySem.Spec PyProof.Rows L2 SfG
/-! ### read_takes, read_deed of any row -/
def okT (hd : List Str) (ks : List PyData) : Bool := decide (ks.length ≤ 3) && (ks.all (knD hd) && decide ((ks.filter isS).length ≤ 2))
def rdT (hd ws : List Str) : Nat → Nat → List (Option Str) → Nat ⊕ (List (Option Str) × Nat)
  | 0, a, _ => .inl (a + 1)
  | m + 1, a, os => if ws[a]? = some colon then .inr (os, a + 1) else if okT hd ((os ++ [ws[a]?]).map kbD) = true then rdT hd ws m (a + 1) (os ++ [ws[a]?]) else .inl (a + 1)
theorem okT_len {hd : List Str} {ks : List PyData} (h : okT hd ks = true) : ks.length ≤ 3 := of_decide_eq_true (Bool.and_eq_true_iff.mp h).1
theorem num_small {o : Option Str} {i : Int} (h : numV (sV o) 2 = .int i) : 0 ≤ i ∧ i ≤ 99 := by
  cases o with
  | none => cases h
  | some z =>
    have h' : (if (decide ((1 : Int) ≤ z.length) && decide ((z.length : Int) ≤ 2)) && (z.cps.toList.all isFig && !zeroAhead z) then V.int (dec z.cps.toList) else V.non) = .int i := h
    by_cases c : ((decide ((1 : Int) ≤ z.length) && decide ((z.length : Int) ≤ 2)) && (z.cps.toList.all isFig && !zeroAhead z)) = true
    · rw [if_pos c] at h'
      have e := V.int.inj h'
      obtain ⟨c1, c2⟩ := Bool.and_eq_true_iff.mp c
      obtain ⟨c3, c4⟩ := Bool.and_eq_true_iff.mp c1
      obtain ⟨c5, c6⟩ := Bool.and_eq_true_iff.mp c2
      have h1 := of_decide_eq_true c3
      have h2 := of_decide_eq_true c4
      have hl : z.length = z.cps.toList.length := by simp [Str.length]
      rw [hl] at h1 h2
      rw [← e]
      generalize z.cps.toList = l at h1 h2 c5
      match l, h1, h2, c5 with
      | [a], _, _, hf =>
        have ha := fig_range (by simpa using hf)
        simp [dec]
        omega
      | [a, b], _, _, hf =>
        have hab : isFig a = true ∧ isFig b = true := by simpa using hf
        have ha := fig_range hab.1
        have hb := fig_range hab.2
        simp [dec]
        omega
      | [], h1, _, _ => exact absurd h1 (by simp)
      | _ :: _ :: _ :: _, _, h2, _ =>
        exfalso
        simp at h2
        omega
    · rw [if_neg c] at h'
      cases h'
theorem wt_small {i : Int} (h0 : 0 ≤ i) (h1 : i ≤ 99) : Wt (.int i) 200000 10 := by
  have hl : i.natAbs.log2 < 7 := by
    by_cases z : i.natAbs = 0
    · rw [z]
      decide
    · refine (Nat.log2_lt z).mpr ?_
      have : (2 : Nat) ^ 7 = 128 := by decide
      omega
  refine ⟨?_, ?_, ?_⟩
  · rw [okd]
    exact decide_eq_true (by omega)
  · rw [wt]
    omega
  · exact Nat.zero_le _
theorem wt_kb {ws : List Str} (wd : Wds ws) (a : Nat) : Wt (kbD ws[a]?) 200000 10 := by
  unfold kbD
  rcases num_or ws[a]? with h | ⟨i, h⟩
  · rw [h]
    show Wt (sD ws[a]?) 200000 10
    cases e : ws[a]? with
    | none => exact Wt.lit (by decide +kernel)
    | some z => exact wd z (List.mem_of_getElem? e)
  · rw [h]
    obtain ⟨h0, h1⟩ := num_small h
    exact wt_small h0 h1
theorem wt_map {α : Type} {g : α → PyData} {L D : Nat} : ∀ {l : List α}, (∀ a ∈ l, Wt (g a) L D) → WtA (l.map g) (l.length * (L + 2)) D
  | [], _ => WtA.nil
  | a :: l, h => by
    refine (WtA.cons (h a List.mem_cons_self) (wt_map fun b hb => h b (List.mem_cons_of_mem _ hb))).mono ?_ (Nat.le_refl _)
    rw [List.length_cons, Nat.add_mul]
    omega
theorem dxA_kb {K : PySem.W.Frag} {H : Hp} : ∀ os : List (Option Str), DxA K H (os.map kbV) (os.map kbD)
  | [] => .nil
  | o :: r => .cons (dx_kb o) (dxA_kb r)
section
variable {P : Program} {w : World} {K : PySem.W.Frag} {mg : Str → Option Value} {base : Heap}
def spReadTX (K : PySem.W.Frag) (C CB : Addr) : Sp := fun vs H Q E => ∃ (x ph : Addr) (n : Int) (ws hd : List Str), vs = [.ref x, .ref ph] ∧ RowAt C H x n ws 1 ∧ 1 ≤ ws.length ∧ Wds ws ∧ SqT K H ph (hd.map V.str) ∧
  (∀ k, rdT hd ws 4 1 [] = .inl k → RzP x E CB H n (k : Nat)) ∧ (∀ os a, rdT hd ws 4 1 [] = .inr (os, a) → ∀ H' tp, Gp x H H' → RowAt C H' x n ws a → a ≤ ws.length → H' tp = some (.tup (os.map kbV)) → Q (.ref tp) H')
set_option maxHeartbeats 1000000 in
theorem ok_readTX {f fS fT fW fC fB fA C CB : Addr} {fd dS dT dW dC dB dA : FuncData} {k : Nat} (F : Fun K "read_takes" "read_takes" sReadT f fd) (Z : RwX P w K mg base C CB k fS fT fW fC dS dT dW dC) (HB : Has P w K mg base k "kind_by" ["word"] spKindByX fB dB)
    (HA : Has P w K mg base k "are_takes" ["thing", "hidden"] (spAreTX K) fA dA) : FnOk P w K mg base (L2.CX P w) (k + 1) f fd ["row", "hidden"] (spReadTX K C CB) := by
  refine F.okX scReadT (fun vs H Q E h => ?_) (fun cdv A outer s H vs Q E hr h => ?_)
  · obtain ⟨x, ph, n, ws, hd, rfl, _⟩ := h
    rfl
  · obtain ⟨x, ph, n, ws, hd, rfl, r0, l1, wd, hph, qe, q⟩ := h
    have nd := scReadT.nd
    refine' ⟨_, pss_cons ?s1 (pss_cons ?s2 (pss_cons ?s3 (pss_one ?s4))), ?rd⟩
    case s1 => exact ps_set (i := 2) nd rfl (.inl rfl) (pe_tup pa_nil)
    case s2 =>
      exact ps_while (passes_of rfl) (pt_cmpR op_ne (pe_meth0 (pv 0) Z.R.cl Z.HS.me Z.HS.ok hr Z.HS.bd .nil pass0) pe_str (nomark _))
        (pss_cons (ps_set (i := 3) nd rfl (.inl rfl) (pe_tup (StX.pa_star (pv 2) (pa_cons (hcall HB hr (pa_cons (pe_meth0 (pv 0) Z.R.cl Z.HS.me Z.HS.ok hr Z.HS.bd .nil pass0) pa_nil)) pa_nil))))
        (pss_cons (ps_expr (pe_meth (pv 0) Z.R.cl Z.HT.me Z.HT.ok hr Z.HT.bd .nil (passes_call (takes_of (E := E) rfl rfl rfl rfl) (fun _ _ _ _ h => h)) (pa_cons (hcall HA hr (pa_cons (pv 3) (pa_cons (pv 1) pa_nil))) pa_nil)))
        (pss_one (ps_set (i := 2) nd rfl (.inl rfl) (pv 3)))))
    case s3 => exact ps_expr (pe_meth (pv 0) Z.R.cl Z.HW.me Z.HW.ok hr Z.HW.bd .nil (passes_call (takes_of (E := E) rfl rfl rfl rfl) (fun _ _ _ _ h => h)) (pa_cons pe_str pa_nil))
    case s4 => exact ps_ret (pv 2)
    case rd =>
    refine ⟨Nat.zero_le _, fun t0 nt0 => ?_⟩
    refine ⟨fun d σ H1 => ∃ (os : List (Option Str)) (tp : Addr) (y3 : Option V), σ = [some (.ref x), some (.ref ph), some (.ref tp), y3] ∧ os.length ≤ 3 ∧ Gp x H H1 ∧ RowAt C H1 x n ws (1 + os.length) ∧ 1 + os.length ≤ ws.length ∧ H1 tp = some (.tup (os.map kbV)) ∧ SqT K H1 ph (hd.map V.str) ∧
      rdT hd ws (4 - os.length) (1 + os.length) os = rdT hd ws 4 1 [] ∧ (∀ o ∈ os, Wt (kbD o) 200000 10) ∧ d = 3 - os.length,
      ⟨_, [], t0, none, rfl, Nat.zero_le _, Gp.gr (Gr.new nt0), r0.gr (Gr.new nt0), l1, upd_same, (Gr.new nt0).sqt hph, rfl, (fun o h => by cases h), rfl⟩, ?_⟩
    rintro d σ H1 ⟨os, tp, y3, rfl, hl, g1, r1, la, htp, hph1, eq, wo, rfl⟩
    obtain ⟨dx, fs, e0, a1, a2, a3, a4⟩ := r1.has
    have em : 4 - os.length = (3 - os.length) + 1 := by omega
    rw [em] at eq
    have eq' : rdT hd ws 4 1 [] = (if ws[1 + os.length]? = some colon then .inr (os, 1 + os.length + 1) else if okT hd ((os ++ [ws[1 + os.length]?]).map kbD) = true then rdT hd ws (3 - os.length) (1 + os.length + 1) (os ++ [ws[1 + os.length]?]) else .inl (1 + os.length + 1)) := eq.symm
    have tx : tp ≠ x := by
      intro z
      rw [z, e0] at htp
      cases htp
    refine ⟨_, rfl, x, dx, fs, rfl, e0, a1, x, n, ws, 1 + os.length, rfl, r1, la, ?_⟩
    refine ⟨seen_scal _ _ _, _, rfl, ?_⟩
    rw [seen_dec]
    by_cases hc : ws[1 + os.length]? = some colon
    · rw [if_pos hc] at eq'
      have hc' : decide (ws[1 + os.length]? = some (Str.ofString ":")) = true := decide_eq_true hc
      rw [hc']
      refine iteF ?_
      refine ⟨_, rfl, x, dx, fs, rfl, e0, a3, x, n, ws, 1 + os.length, colon, rfl, r1, la, fun _ H2 g2 r2 => ?_, fun h => absurd hc h⟩
      exact ⟨_, rfl, q _ _ eq' H2 tp (g1.trans g2) r2 (lt_of_at hc) (g2.keep tp _ tx htp (fun _ z => by cases z))⟩
    · rw [if_neg hc] at eq'
      have hc' : decide (ws[1 + os.length]? = some (Str.ofString ":")) = false := decide_eq_false hc
      rw [hc']
      refine iteT ⟨fun σ' H' => ∃ (os' : List (Option Str)) (tp : Addr) (y3 : Option V), os'.length = os.length + 1 ∧ σ' = [some (.ref x), some (.ref ph), some (.ref tp), y3] ∧ os'.length ≤ 3 ∧ Gp x H H' ∧ RowAt C H' x n ws (1 + os'.length) ∧ 1 + os'.length ≤ ws.length ∧ H' tp = some (.tup (os'.map kbV)) ∧ SqT K H' ph (hd.map V.str) ∧
        rdT hd ws (4 - os'.length) (1 + os'.length) os' = rdT hd ws 4 1 [] ∧ (∀ o ∈ os', Wt (kbD o) 200000 10), ?_, ?_⟩
      · rintro σ' H' ⟨os', tp', y', b0, b1, b2, b3, b4, b5, b6, b7, b8, b9⟩
        exact ⟨3 - os'.length, by omega, os', tp', y', b1, b2, b3, b4, b5, b6, b7, b8, b9, rfl⟩
      · refine ⟨_, rfl, tp, _, rfl, .inl (.inl (.inl htp)), _, rfl, x, dx, fs, rfl, e0, a1, x, n, ws, 1 + os.length, rfl, r1, la, ?_⟩
        rw [seen_sV]
        refine ⟨ws[1 + os.length]?, rfl, wd.fits _, fun H2 g2 => ?_⟩
        refine ⟨?_, fun t1 nt1 => ?_⟩
        · rw [List.length_append, List.length_map]
          exact Nat.le_of_lt (small1000 (by show _ + 1 ≤ 1000; omega))
        have eV : os.map kbV ++ [kbV ws[1 + os.length]?] = (os ++ [ws[1 + os.length]?]).map kbV := by
          rw [List.map_append]
          rfl
        rw [eV]
        have wo2 : ∀ o ∈ os ++ [ws[1 + os.length]?], Wt (kbD o) 200000 10 := by
          intro o ho
          rcases List.mem_append.mp ho with h | h
          · exact wo o h
          · rw [List.mem_singleton.mp h]
            exact wt_kb wd _
        have lo2 : (os ++ [ws[1 + os.length]?]).length = os.length + 1 := by
          rw [List.length_append]
          rfl
        have some_of : okT hd ((os ++ [ws[1 + os.length]?]).map kbD) = true → 1 + os.length < ws.length := by
          intro h
          have h2 := (Bool.and_eq_true_iff.mp (Bool.and_eq_true_iff.mp h).2).1
          have h3 := List.all_eq_true.mp h2 (kbD ws[1 + os.length]?) (List.mem_map.mpr ⟨_, List.mem_append.mpr (.inr (List.mem_singleton.mpr rfl)), rfl⟩)
          cases e : ws[1 + os.length]? with
          | none =>
            rw [e] at h3
            exact absurd h3 (by show ¬ (false = true); decide)
          | some z => exact lt_of_at e
        generalize eos : os ++ [ws[1 + os.length]?] = os' at eq' wo2 lo2 some_of ⊢
        have g3 : Gr H1 (upd H2 t1 (.tup (os'.map kbV))) := g2.trans (Gr.new nt1)
        have e2 : upd H2 t1 (.tup (os'.map kbV)) t1 = some (.tup (os'.map kbV)) := upd_same
        generalize upd H2 t1 (.tup (os'.map kbV)) = H3 at g3 e2 ⊢
        have r2 := r1.gr g3
        obtain ⟨dx2, fs2, c0, c1, c2, c3, c4⟩ := r2.has
        have wks : Wt (.tuple (os'.map kbD)) 900000 50 := by
          have a := Wt.tup (wt_map (g := kbD) wo2)
          refine a.mono ?_ (by decide)
          rw [lo2]
          omega
        refine ⟨_, rfl, x, dx2, fs2, rfl, c0, c2, _, rfl, _, rfl, .ref t1, os'.map kbD, hd, ph, rfl, .tup (.inl (.inl e2)) (dxA_kb os'), wks, g3.sqt hph1, fun H4 g4 => ?_⟩
        have r3 := r2.gr g4
        have g14 : Gp x H H4 := g1.trans (Gp.gr (g3.trans g4))
        refine ⟨x, n, ws, 1 + os.length, _, rfl, r3, fun hb => ⟨la, fun H5 g5 r5 => ?_⟩, fun hb => ?_⟩
        · have hb' : okT hd (os'.map kbD) = true := hb
          rw [if_pos hb'] at eq'
          have e5 : H5 t1 = some (.tup (os'.map kbV)) := by
            refine g5.keep t1 _ ?_ (g4.tup e2) (fun _ z => by cases z)
            intro z
            rw [z, c0] at e2
            cases e2
          have l3 : os'.length ≤ 3 := by
            have := okT_len hb'
            rw [List.length_map] at this
            exact this
          refine ⟨_, rfl, os', t1, _, lo2, rfl, l3, g14.trans g5, ?_, ?_, e5, r3.sqt g5 ((g3.trans g4).sqt hph1), ?_, wo2⟩
          · rw [lo2, show 1 + (os.length + 1) = 1 + os.length + 1 by omega]
            exact r5
          · rw [lo2]
            have := some_of hb'
            omega
          · rw [eq', lo2, show 4 - (os.length + 1) = 3 - os.length by omega, show 1 + (os.length + 1) = 1 + os.length + 1 by omega]
        · have hb' : ¬ okT hd (os'.map kbD) = true := by
            intro c
            have : okT hd (os'.map kbD) = false := hb
            rw [this] at c
            cases c
          rw [if_neg hb'] at eq'
          exact (qe _ eq').rz g14
end
end SfC
namespace SfC
open PySem PySem.Spec PyProof.Rows L2 SfG
def rdD (hd : List Str) (ah : Str) (ws : List Str) : Nat ⊕ (Str × List (Option Str) × Option Str) :=
  if nxD ah ws[0]? = false then .inl 1 else
  match rdT hd ws 4 1 [] with
  | .inl k => .inl k
  | .inr (os, a) => if knD hd (kbD ws[a]?) = false then .inl (a + 1) else if a + 1 < ws.length then .inl (a + 2) else .inr (ws.getD 0 "", os, ws[a]?)
section
variable {hd ws : List Str} {ah : Str} {k a : Nat} {os : List (Option Str)}
theorem rdD_1 (h : nxD ah ws[0]? = false) : rdD hd ah ws = .inl 1 := if_pos h
theorem rdD_t (h : nxD ah ws[0]? = true) (ht : rdT hd ws 4 1 [] = .inl k) : rdD hd ah ws = .inl k := by
  unfold rdD
  rw [if_neg (by rw [h]; decide), ht]
theorem rdD_2 (h : nxD ah ws[0]? = true) (ht : rdT hd ws 4 1 [] = .inr (os, a)) (h2 : knD hd (kbD ws[a]?) = false) : rdD hd ah ws = .inl (a + 1) := by
  unfold rdD
  rw [if_neg (by rw [h]; decide), ht]
  exact if_pos h2
theorem rdD_3 (h : nxD ah ws[0]? = true) (ht : rdT hd ws 4 1 [] = .inr (os, a)) (h2 : knD hd (kbD ws[a]?) = true) (h3 : a + 1 < ws.length) : rdD hd ah ws = .inl (a + 2) := by
  unfold rdD
  rw [if_neg (by rw [h]; decide), ht]
  show (if knD hd (kbD ws[a]?) = false then _ else _) = _
  rw [if_neg (by rw [h2]; decide), if_pos h3]
theorem rdD_ok (h : nxD ah ws[0]? = true) (ht : rdT hd ws 4 1 [] = .inr (os, a)) (h2 : knD hd (kbD ws[a]?) = true) (h3 : ¬ a + 1 < ws.length) : rdD hd ah ws = .inr (ws.getD 0 "", os, ws[a]?) := by
  unfold rdD
  rw [if_neg (by rw [h]; decide), ht]
  show (if knD hd (kbD ws[a]?) = false then _ else _) = _
  rw [if_neg (by rw [h2]; decide), if_neg h3]
end
def deedD (nm : Str) (os : List (Option Str)) (g : Option Str) : PyData := .tuple [.str nm, .tuple (os.map kbD), kbD g]
theorem kn_some {hd : List Str} {o : Option Str} (h : knD hd (kbD o) = true) : ∃ z, o = some z := by
  cases o with
  | none => exact absurd h (by show ¬ (false = true); decide)
  | some z => exact ⟨z, rfl⟩
section
variable {P : Program} {w : World} {K : PySem.W.Frag} {mg : Str → Option Value} {base : Heap}
def spReadDX (K : PySem.W.Frag) (C CB : Addr) : Sp := fun vs H Q E => ∃ (x ph : Addr) (n : Int) (ws hd : List Str) (ah : Str), vs = [.ref x, .ref ph, .str ah] ∧ RowAt C H x n ws 0 ∧ Wds ws ∧ SqT K H ph (hd.map V.str) ∧
  (∀ k, rdD hd ah ws = .inl k → RzP x E CB H n (k : Nat)) ∧ (∀ nm os g, rdD hd ah ws = .inr (nm, os, g) → ∀ H' v, Gp x H H' → Dx K H' v (deedD nm os g) → Q v H')
set_option maxHeartbeats 1000000 in
theorem ok_readDX {f fS fT fW fC fN fR fB fK C CB : Addr} {fd dS dT dW dC dN dR dB dK : FuncData} {k : Nat} (F : Fun K "read_deed" "read_deed" sReadD f fd) (Z : RwX P w K mg base C CB k fS fT fW fC dS dT dW dC) (HN : Has P w K mg base k "is_next_name" ["thing", "ahead"] spNextNX fN dN)
    (HR : HasX P w K mg base k "read_takes" ["row", "hidden"] (spReadTX K C CB) fR dR) (HB : Has P w K mg base k "kind_by" ["word"] spKindByX fB dB) (HK : Has P w K mg base k "is_kind" ["thing", "hidden"] (spKindX K) fK dK) :
    FnOk P w K mg base (L2.CX P w) (k + 1) f fd ["row", "hidden", "ahead"] (spReadDX K C CB) := by
  refine F.okX scReadD (fun vs H Q E h => ?_) (fun cdv A outer s H vs Q E hr h => ?_)
  · obtain ⟨x, ph, n, ws, hd, ah, rfl, _⟩ := h
    rfl
  · obtain ⟨x, ph, n, ws, hd, ah, rfl, r0, wd, hph, qe, q⟩ := h
    have nd := scReadD.nd
    refine' ⟨_, pss_cons ?s1 (pss_cons ?s2 (pss_cons ?s3 (pss_cons ?s4 (pss_cons ?s5 (pss_one ?s6))))), ?rd⟩
    case s1 => exact ps_set (i := 3) nd rfl (.inl rfl) (pe_meth (pv 0) Z.R.cl Z.HT.me Z.HT.ok hr Z.HT.bd .nil (passes_call (takes_of (E := E) rfl rfl rfl rfl) (fun _ _ _ _ h => h)) (pa_cons (hcall HN hr (pa_cons (pe_meth0 (pv 0) Z.R.cl Z.HS.me Z.HS.ok hr Z.HS.bd .nil pass0) (pa_cons (pv 2) pa_nil))) pa_nil))
    case s2 => exact ps_set (i := 4) nd rfl (.inl rfl) (pe_call HR.ok hr (by rfl) HR.at_ HR.kp HR.bd .nil (passes_call (takes_of (E := E) rfl rfl rfl rfl) (fun _ _ _ _ h => h)) (pa_cons (pv 0) (pa_cons (pv 1) pa_nil)))
    case s3 => exact ps_set (i := 5) nd rfl (.inl rfl) (hcall HB hr (pa_cons (pe_meth0 (pv 0) Z.R.cl Z.HS.me Z.HS.ok hr Z.HS.bd .nil pass0) pa_nil))
    case s4 => exact ps_expr (pe_meth (pv 0) Z.R.cl Z.HT.me Z.HT.ok hr Z.HT.bd .nil (passes_call (takes_of (E := E) rfl rfl rfl rfl) (fun _ _ _ _ h => h)) (pa_cons (hcall HK hr (pa_cons (pv 5) (pa_cons (pv 1) pa_nil))) pa_nil))
    case s5 => exact ps_expr (pe_meth0 (pv 0) Z.R.cl Z.HC.me Z.HC.ok hr Z.HC.bd .nil (passes_call (takes_of (E := E) rfl rfl rfl rfl) (fun _ _ _ _ h => h)))
    case s6 => exact ps_ret (pe_tup (pa_cons (pv 3) (pa_cons (pv 4) (pa_cons (pv 5) pa_nil))))
    case rd =>
    obtain ⟨dx, fs, e0, a1, a2, a3, a4⟩ := r0.has
    refine ⟨_, rfl, x, dx, fs, rfl, e0, a2, _, rfl, x, dx, fs, rfl, e0, a1, x, n, ws, 0, rfl, r0, Nat.zero_le _, ?_⟩
    rw [seen_sV]
    refine ⟨_, rfl, ws[0]?, ah, rfl, wd.fits 0, x, n, ws, 0, _, rfl, r0, fun hb => ⟨Nat.zero_le _, fun H1 g1 r1 => ?_⟩, fun hb => (qe 1 (rdD_1 hb)).rz (Gp.refl x H)⟩
    obtain ⟨nm, w0, gnm, _⟩ := nx_some hb
    rw [seen_is w0]
    have d0 := getD_at w0
    -- takes
    refine ⟨_, rfl, _, rfl, x, ph, n, ws, hd, rfl, r1, lt_of_at w0, wd, r0.sqt g1 hph, fun k ht => (qe k (rdD_t hb ht)).gp g1, fun os a ht H2 tp g2 r2 la htp => ?_⟩
    have g12 := g1.trans g2
    -- gives
    obtain ⟨dx2, fs2, c0, c1, c2, c3, c4⟩ := r2.has
    have tx : tp ≠ x := by
      intro z
      rw [z, c0] at htp
      cases htp
    refine ⟨_, rfl, x, dx2, fs2, rfl, c0, c1, x, n, ws, a, rfl, r2, la, ?_⟩
    rw [seen_sV]
    refine ⟨ws[a]?, rfl, wd.fits a, fun H3 g3 => ?_⟩
    have r3 := r2.gr g3
    obtain ⟨dx3, fs3, d0', d1, d2, d3, d4⟩ := r3.has
    have g13 : Gp x H H3 := g12.trans (Gp.gr g3)
    refine ⟨_, rfl, x, dx3, fs3, rfl, d0', d2, _, rfl, _, rfl, kbV ws[a]?, kbD ws[a]?, hd, ph, rfl, dx_kb _, r0.sqt g13 hph, ?_⟩
    refine ⟨x, n, ws, a, _, rfl, r3, fun hk => ⟨la, fun H4 g4 r4 => ?_⟩, fun hk => (qe _ (rdD_2 hb ht hk)).rz g13⟩
    obtain ⟨zg, wg⟩ := kn_some hk
    have lg : a < ws.length := lt_of_at wg
    -- the end
    obtain ⟨dx4, fs4, f0, f1, f2, f3, f4⟩ := r4.has
    have g14 := g13.trans g4
    refine ⟨_, rfl, x, dx4, fs4, rfl, f0, f4, x, n, ws, a + 1, rfl, r4, lg, fun h => ?_, fun h => (qe _ (rdD_3 hb ht hk h)).rz g14⟩
    refine ⟨_, rfl, _, rfl, _, rfl, by show 3 ≤ sizeLine; decide, fun t nt => ?_⟩
    have ht4 : H4 tp = some (.tup (os.map kbV)) := g4.keep tp _ tx (g3.tup htp) (fun _ z => by cases z)
    have e := rdD_ok hb ht hk (by omega)
    rw [d0] at e
    exact q _ _ _ e _ _ (g14.trans (Gp.gr (Gr.new nt))) (.tup (.inl (.inl upd_same)) (.cons (.str _) (.cons (.tup (.inl (.inl ((Gr.new nt).tup ht4))) (dxA_kb os)) (.cons (dx_kb _) .nil))))
end
end SfC
namespace SfC
open PySem PySem.Spec PyProof.Rows L2 SfG
/-! ### data of tuples beside a list that is being made -/
mutual
def noL : PyData → Bool
  | .list _ => false
  | .tuple ds => noLA ds
  | .dict _ => false
  | _ => true
def noLA : List PyData → Bool
  | [] => true
  | d :: r => noL d && noLA r
end
theorem sqt_hide {K : PySem.W.Frag} {H : Hp} {dl a : Addr} {ys xs : List V} (hd : H dl = some (.lst ys)) (h : SqT K H a xs) : SqT K (hide [dl] H) a xs := by
  have ne : ∀ {o : HO}, H a = some o → (∀ zs, o ≠ .lst zs) → hide [dl] H a = some o := fun {o} e n => by
    rw [hide_ne]
    · exact e
    · intro m
      rw [List.mem_singleton] at m
      rw [m, hd] at e
      exact n ys (Option.some.inj e).symm
  rcases h with (h | ⟨o, h⟩) | h
  · exact .inl (.inl (ne h (fun _ z => by cases z)))
  · exact .inl (.inr ⟨o, ne h (fun _ z => by cases z)⟩)
  · exact .inr h
mutual
theorem dx_hid {K : PySem.W.Frag} {H : Hp} {dl : Addr} {ys : List V} (hl : H dl = some (.lst ys)) : ∀ {d : PyData} {v : V}, Dx K H v d → noL d = true → Dx K (hide [dl] H) v d
  | _, _, .non, _ => .non
  | _, _, .bl b, _ => .bl b
  | _, _, .int i, _ => .int i
  | _, _, .str x, _ => .str x
  | _, _, .lst h hs, n => by
    rw [noL] at n
    cases n
  | _, _, .tup h hs, n => .tup (sqt_hide hl h) (dxA_hid hl hs (by rw [noL] at n; exact n))
  | _, _, .emp h, n => by
    rw [noL] at n
    cases n
theorem dxA_hid {K : PySem.W.Frag} {H : Hp} {dl : Addr} {ys : List V} (hl : H dl = some (.lst ys)) : ∀ {ds : List PyData} {vs : List V}, DxA K H vs ds → noLA ds = true → DxA K (hide [dl] H) vs ds
  | _, _, .nil, _ => .nil
  | _, _, .cons h hs, n => by
    rw [noLA, Bool.and_eq_true] at n
    exact .cons (dx_hid hl h n.1) (dxA_hid hl hs n.2)
end
theorem noL_kb (o : Option Str) : noL (kbD o) = true := by
  unfold kbD
  rcases num_or o with h | ⟨i, h⟩
  · rw [h]
    cases o <;> rfl
  · rw [h]
    rfl
theorem noLA_kb : ∀ os : List (Option Str), noLA (os.map kbD) = true
  | [] => by rw [List.map_nil, noLA]
  | o :: r => by
    rw [List.map_cons, noLA, noL_kb, noLA_kb r]
    rfl
theorem noL_deed (nm : Str) (os : List (Option Str)) (g : Option Str) : noL (deedD nm os g) = true := by
  unfold deedD
  simp only [noL, noLA, noL_kb, noLA_kb, Bool.and_self]
/-! ### read_face_behind, read_face of any rows -/
abbrev Dd : Type := Str × List (Option Str) × Option Str
def ddD (d : Dd) : PyData := deedD d.1 d.2.1 d.2.2
def faceD (hd : List Str) (ds : List Dd) : PyData := .tuple [.tuple (hd.map .str), .tuple (ds.map ddD)]
def rwAt (rows : List Str) (i : Nat) : (Nat × Nat) ⊕ List Str := match rows[i]? with
  | none => .inl (i + 1, 1)
  | some z => if nought ∈ wsOf z then .inl (i + 1, 0) else .inr (wsOf z)
def rdRow (hd : List Str) (ah : Str) (rows : List Str) (i : Nat) : (Nat × Nat) ⊕ Dd := match rwAt rows i with
  | .inl e => .inl e
  | .inr ws => match rdD hd ah ws with
    | .inl k => .inl (i + 1, k)
    | .inr d => .inr d
def rdDs (hd rows : List Str) : Nat → Nat → Str → List Dd → (Nat × Nat) ⊕ List Dd
  | 0, _, _, acc => .inr acc
  | m + 1, i, ah, acc => match rdRow hd ah rows i with
    | .inl e => .inl e
    | .inr d => rdDs hd rows m (i + 1) d.1 (acc ++ [d])
def rdF (rows : List Str) : (Nat × Nat) ⊕ (List Str × List Dd) := match rwAt rows 0 with
  | .inl e => .inl e
  | .inr ws => match rdH ws with
    | .inl k => .inl (1, k)
    | .inr hd => match rdRow hd "" rows 1 with
      | .inl e => .inl e
      | .inr d => match rdDs hd rows (min rows.length 9 - 2) 2 d.1 [d] with
        | .inl e => .inl e
        | .inr ds => if 9 < rows.length then .inl (10, 0) else .inr (hd, ds)
/-- rows that can be read or refused -/
def Rws' (rows : List Str) : Prop := rows.length ≤ 100000 ∧ ∀ z ∈ rows, z.length ≤ 200000 ∧ Wds (wsOf z)
section
variable {P : Program} {w : World} {K : PySem.W.Frag} {mg : Str → Option Value} {base : Heap}
theorem rwAt_none {rows : List Str} {i : Nat} (h : rows.length ≤ i) : rwAt rows i = .inl (i + 1, 1) := by
  unfold rwAt
  rw [List.getElem?_eq_none h]
theorem rwAt_bad {rows : List Str} {i : Nat} {z : Str} (e : rows[i]? = some z) (h : nought ∈ wsOf z) : rwAt rows i = .inl (i + 1, 0) := by
  unfold rwAt
  rw [e]
  exact if_pos h
theorem rwAt_ok {rows : List Str} {i : Nat} {z : Str} (e : rows[i]? = some z) (h : nought ∉ wsOf z) : rwAt rows i = .inr (wsOf z) := by
  unfold rwAt
  rw [e]
  exact if_neg h
section
variable {rows ws hd : List Str} {d : Dd} {e : Nat × Nat} {k : Nat}
theorem rdF_0 (h0 : rwAt rows 0 = .inl e) : rdF rows = .inl e := by simp only [rdF, h0]
theorem rdF_h (h0 : rwAt rows 0 = .inr ws) (h1 : rdH ws = .inl k) : rdF rows = .inl (1, k) := by simp only [rdF, h0, h1]
theorem rdF_1 (h0 : rwAt rows 0 = .inr ws) (h1 : rdH ws = .inr hd) (h2 : rdRow hd "" rows 1 = .inl e) : rdF rows = .inl e := by simp only [rdF, h0, h1, h2]
theorem rdF_d (h0 : rwAt rows 0 = .inr ws) (h1 : rdH ws = .inr hd) (h2 : rdRow hd "" rows 1 = .inr d) (h3 : rdDs hd rows (min rows.length 9 - 2) 2 d.1 [d] = .inl e) : rdF rows = .inl e := by simp only [rdF, h0, h1, h2, h3]
theorem rdF_m {ds : List Dd} (h0 : rwAt rows 0 = .inr ws) (h1 : rdH ws = .inr hd) (h2 : rdRow hd "" rows 1 = .inr d) (h3 : rdDs hd rows (min rows.length 9 - 2) 2 d.1 [d] = .inr ds) (h4 : 9 < rows.length) : rdF rows = .inl (10, 0) := by simp only [rdF, h0, h1, h2, h3, if_pos h4]
theorem rdF_k {ds : List Dd} (h0 : rwAt rows 0 = .inr ws) (h1 : rdH ws = .inr hd) (h2 : rdRow hd "" rows 1 = .inr d) (h3 : rdDs hd rows (min rows.length 9 - 2) 2 d.1 [d] = .inr ds) (h4 : ¬ 9 < rows.length) : rdF rows = .inr (hd, ds) := by simp only [rdF, h0, h1, h2, h3, if_neg h4]
theorem rdRow_0 {ah : Str} {i : Nat} (h : rwAt rows i = .inl e) : rdRow hd ah rows i = .inl e := by simp only [rdRow, h]
theorem rdRow_d {ah : Str} {i : Nat} (h : rwAt rows i = .inr ws) (h1 : rdD hd ah ws = .inl k) : rdRow hd ah rows i = .inl (i + 1, k) := by simp only [rdRow, h, h1]
theorem rdRow_k {ah : Str} {i : Nat} (h : rwAt rows i = .inr ws) (h1 : rdD hd ah ws = .inr d) : rdRow hd ah rows i = .inr d := by simp only [rdRow, h, h1]
theorem rdDs_e {m i : Nat} {ah : Str} {acc : List Dd} (h : rdRow hd ah rows i = .inl e) : rdDs hd rows (m + 1) i ah acc = .inl e := by simp only [rdDs, h]
theorem rdDs_k {m i : Nat} {ah : Str} {acc : List Dd} (h : rdRow hd ah rows i = .inr d) : rdDs hd rows (m + 1) i ah acc = rdDs hd rows m (i + 1) d.1 (acc ++ [d]) := by simp only [rdDs, h]
end
theorem at_neg {α : Type} {xs : List α} {i : Nat} {v : α} (hl : xs.length = i + 1) (h : xs[i]? = some v) : atI xs (-1) = some v := by
  rcases List.eq_nil_or_concat xs with e | ⟨L, b, e⟩
  · rw [e] at hl
    cases hl
  · have e' : xs = L ++ [b] := by simpa using e
    have hL : L.length = i := by
      rw [e', List.length_append] at hl
      have : L.length + 1 = i + 1 := hl
      omega
    rw [e', ← hL, List.getElem?_append_right (Nat.le_refl _), Nat.sub_self] at h
    have hb : b = v := Option.some.inj h
    rw [e', ← hb]
    exact atI_last L b
def spReadFBX (K : PySem.W.Frag) (CB : Addr) : Sp := fun vs H Q E => ∃ (rl : Addr) (rows : List Str), vs = [.ref rl, .int 0] ∧ H rl = some (.lst (rows.map V.str)) ∧ Rws' rows ∧
  (∀ e, rdF rows = .inl e → Rz E CB H (e.1 : Nat) (e.2 : Nat)) ∧ (∀ hd ds, rdF rows = .inr (hd, ds) → ∀ H' v, Gr H H' → Dx K H' v (faceD hd ds) → Q v H')
theorem scReadFB : FnScope ["rows", "ahead", "hidden", "deeds", "most", "number"] ["rows", "ahead"] (defScope sReadFB) := ⟨rfl, rfl, rfl, by decide +kernel, rfl, by decide +kernel, by decide +kernel⟩
theorem scReadF : FnScope ["text"] ["text"] (defScope sReadF) := ⟨rfl, rfl, rfl, by decide +kernel, rfl, by decide +kernel, by decide +kernel⟩
theorem rz_out {x : Addr} {E : XK} {C : Addr} {H H1 : Hp} {r w : Int} (h : Rz E C H r w) (g : Gr H H1) (nx : H x = none) : RzP x E C H1 r w := fun H' dd g' hd => h H' dd (Gp.out g nx g') hd
set_option maxHeartbeats 2000000 in
theorem ok_readFBX {f fA fH fD fM C CB : Addr} {fd dA dH dD dM : FuncData} {k : Nat} {t8 : Tok} (F : Fun K "read_face_behind" "read_face_behind" sReadFB f fd) (HA : HasX P w K mg base k "row_at" ["rows", "number"] (spRowAtX K C CB) fA dA)
    (HH : HasX P w K mg base k "read_hidden" ["row"] (spReadHX C CB) fH dH) (HD : HasX P w K mg base k "read_deed" ["row", "hidden", "ahead"] (spReadDX K C CB) fD dD) (HM : HasX P w K mg base k "need_no_more" ["rows", "most"] (spNoMoreX K CB) fM dM)
    (mr : mg "range" = none) (mm : mg "min" = none) (ml : mg "len" = none) (mt : mg "tuple" = none) (m8 : mg "MOST_DEEDS" = some (.int 8 t8)) : FnOk P w K mg base (L2.CX P w) (k + 1) f fd ["rows", "ahead"] (spReadFBX K CB) := by
  refine F.okX scReadFB (fun vs H Q E h => ?_) (fun cdv A outer s H vs Q E hr h => ?_)
  · obtain ⟨rl, rows, rfl, _⟩ := h
    rfl
  · obtain ⟨rl, rows, rfl, hrl, hz, qe, q⟩ := h
    have nd := scReadFB.nd
    refine' ⟨_, pss_cons ?s1 (pss_cons ?s2 (pss_cons ?s3 (pss_cons ?s4 (pss_cons ?s5 (pss_one ?s6))))), ?rd⟩
    case s1 => exact ps_set (i := 2) nd rfl (.inl rfl) (pe_call HH.ok hr (by rfl) HH.at_ HH.kp HH.bd .nil (passes_call (takes_of (E := E) rfl rfl rfl rfl) (fun _ _ _ _ h => h)) (pa_cons (pe_call HA.ok hr (by rfl) HA.at_ HA.kp HA.bd .nil (passes_call (takes_of (E := E) rfl rfl rfl rfl) (fun _ _ _ _ h => h)) (pa_cons (pv 0) (pa_cons (pe_op op_add (pv 1) pe_int) pa_nil))) pa_nil))
    case s2 => exact ps_set (i := 3) nd rfl (.inl rfl) (pe_lst (pa_cons (pe_call HD.ok hr (by rfl) HD.at_ HD.kp HD.bd .nil (passes_call (takes_of (E := E) rfl rfl rfl rfl) (fun _ _ _ _ h => h)) (pa_cons (pe_call HA.ok hr (by rfl) HA.at_ HA.kp HA.bd .nil (passes_call (takes_of (E := E) rfl rfl rfl rfl) (fun _ _ _ _ h => h)) (pa_cons (pv 0) (pa_cons (pe_op op_add (pv 1) pe_int) pa_nil))) (pa_cons (pv 2) (pa_cons pe_str pa_nil)))) pa_nil))
    case s3 => exact ps_set (i := 4) nd rfl (.inl rfl) (pe_op op_add (pe_op op_add (pv 1) pe_int) (pe_glob (v := .int 8) rfl m8 ⟨_, rfl⟩))
    case s4 =>
      exact ps_for (passes_of rfl) rfl (pi_range2 (by rfl) mr (pa_cons (pe_op op_add (pv 1) pe_int) (pa_cons (pe_op op_add (pe_callB (call_min2 rfl) (by rfl) mm (by decide +kernel) (pa_cons (pe_callB call_len_seq (by rfl) ml PySem.boot_len (pa_cons (pv 0) pa_nil)) (pa_cons (pv 4) pa_nil))) pe_int) pa_nil)))
        (pg_name (i := 5) nd rfl (.inl rfl))
        (pss_one (ps_expr (pe_bm PySem.F.plainAttrs_list PySem.F.slot_list_append PySem.F.type_list_append mt_append (pv 3) (pa_cons (pe_call HD.ok hr (by rfl) HD.at_ HD.kp HD.bd .nil (passes_call (takes_of (E := E) rfl rfl rfl rfl) (fun _ _ _ _ h => h)) (pa_cons (pe_call HA.ok hr (by rfl) HA.at_ HA.kp HA.bd .nil (passes_call (takes_of (E := E) rfl rfl rfl rfl) (fun _ _ _ _ h => h)) (pa_cons (pv 0) (pa_cons (pv 5) pa_nil))) (pa_cons (pv 2) (pa_cons (pe_ix ix_tup (pe_ix ix_list (pv 3) (pe_un un_neg pe_int) (fun _ _ => rfl)) pe_int (fun _ _ => rfl)) pa_nil)))) pa_nil))))
    case s5 => exact ps_expr (pe_call HM.ok hr (by rfl) HM.at_ HM.kp HM.bd .nil (passes_call (takes_of (E := E) rfl rfl rfl rfl) (fun _ _ _ _ h => h)) (pa_cons (pv 0) (pa_cons (pv 4) pa_nil)))
    case s6 => exact ps_ret (pe_tup (pa_cons (pv 2) (pa_cons (pe_callTy call_tuple_of (by rfl) mt (by decide +kernel) (pa_cons (pv 3) pa_nil)) pa_nil)))
    case rd =>
    -- the first row
    refine ⟨_, rfl, _, rfl, 0, 1, rfl, rfl, ?_⟩
    refine ⟨rl, rows, 0, rfl, .inl (.inl hrl), fun z0 ez0 => ⟨(hz.2 z0 (List.mem_of_getElem? ez0)).1, fun b0 H1 x g1 nx r1 => ?_, fun b0 => qe _ (rdF_0 (rwAt_bad ez0 b0))⟩, fun b0 => qe _ (rdF_0 (rwAt_none b0))⟩
    have h0 := rwAt_ok ez0 b0
    have wd0 := (hz.2 z0 (List.mem_of_getElem? ez0)).2
    generalize wsOf z0 = ws0 at h0 wd0 r1
    clear b0
    refine ⟨x, _, ws0, rfl, r1, wd0, fun k hk => rz_out (qe _ (rdF_h h0 hk)) g1 nx, fun hd h1 H2 ph g2 hph => ?_⟩
    have g02 : Gr H H2 := Gp.out g1 nx g2
    have hrl2 := g02.lst hrl
    -- the second
    refine ⟨_, rfl, _, rfl, 0, 2, rfl, rfl, ?_⟩
    refine ⟨rl, rows, 1, rfl, .inl (.inl hrl2), fun z1 ez1 => ⟨(hz.2 z1 (List.mem_of_getElem? ez1)).1, fun b1 H4 x4 g4 nx4 r4 => ?_, fun b1 => (qe _ (rdF_1 h0 h1 (rdRow_0 (rwAt_bad ez1 b1)))).gr g02⟩, fun b1 => (qe _ (rdF_1 h0 h1 (rdRow_0 (rwAt_none b1)))).gr g02⟩
    have h2 := rwAt_ok ez1 b1
    have wd1 := (hz.2 z1 (List.mem_of_getElem? ez1)).2
    generalize wsOf z1 = ws1 at h2 wd1 r4
    clear b1
    refine ⟨_, rfl, x4, ph, _, ws1, hd, "", rfl, r4, wd1, g4.sqt (.inl (.inl hph)), fun k hk => rz_out ((qe _ (rdF_1 h0 h1 (rdRow_d h2 hk))).gr g02) g4 nx4, fun nm os g hd1 H5 v5 g5 d5 => ?_⟩
    have g25 : Gr H2 H5 := Gp.out g4 nx4 g5
    have h3 : rdRow hd "" rows 1 = .inr (nm, os, g) := rdRow_k h2 hd1
    have g05 := g02.trans g25
    refine ⟨by show 1 ≤ sizeLine; decide, fun dl ndl => ?_⟩
    have n0 : H dl = none := g05.back dl ndl
    have d5h : Dx K (hide [dl] (upd H5 dl (.lst [v5]))) v5 (deedD nm os g) := by
      have k1 := hide_cons (K := K) (S := []) (f := dl) (o := .lst [v5]) ndl
      rw [hide_nil] at k1
      exact k1.dx d5
    have g6 : Gr H (upd H5 dl (.lst [v5])) := g05.trans (Gr.new ndl)
    have e6 : upd H5 dl (.lst [v5]) dl = some (.lst [v5]) := upd_same
    have hph6 : upd H5 dl (.lst [v5]) ph = some (.tup (hd.map V.str)) := (Gr.new ndl).tup (g25.tup hph)
    have p0 : Gr H2 (upd H5 dl (.lst [v5])) := g25.trans (Gr.new ndl)
    generalize upd H5 dl (.lst [v5]) = H6 at g6 e6 d5h hph6 p0 ⊢
    have n2 : H2 dl = none := g25.back dl ndl
    have hrl6 := g6.lst hrl
    refine ⟨_, rfl, 0, 1, rfl, rfl, _, 8, rfl, rfl, ?_⟩
    refine ⟨_, rfl, 0, 3, rfl, rfl, _, rfl, rl, _, rfl, .inl (.inl (.inl hrl6)), _, rfl, _, _, rfl, _, 1, rfl, rfl, ?_⟩
    have lz := hz.1
    have em : (if (0 : Int) + 1 + 8 < ((rows.map V.str).length : Int) then (0 : Int) + 1 + 8 else ((rows.map V.str).length : Int)) = ((min rows.length 9 : Nat) : Int) := by
      rw [List.length_map]
      split <;> omega
    rw [em]
    refine ⟨(0 : Int) + 3, ((min rows.length 9 : Nat) : Int) + 1, rfl, ⟨by omega, by omega, by omega, by omega⟩, ?_⟩
    have cnt : (((min rows.length 9 : Nat) : Int) + 1 - ((0 : Int) + 3)).toNat = min rows.length 9 - 2 := by omega
    rw [cnt]
    refine for_it (walk_range (lo := (0 : Int) + 3) (n := min rows.length 9 - 2)) (fun i σ H7 => ∃ (xs : List V) (pre : List Dd) (last : Dd) (y5 : Option V), σ = [some (.ref rl), some (.int 0), some (.ref ph), some (.ref dl), some (.int ((0 : Int) + 1 + 8)), y5] ∧ H7 dl = some (.lst xs) ∧
      DxA K (hide [dl] H7) xs ((pre ++ [last]).map ddD) ∧ pre.length = i ∧ Gr H2 H7 ∧ rdDs hd rows (min rows.length 9 - 2 - i) (2 + i) last.1 (pre ++ [last]) = rdDs hd rows (min rows.length 9 - 2) 2 nm [(nm, os, g)])
      ⟨[v5], [], (nm, os, g), none, rfl, e6, .cons d5h .nil, rfl, p0, rfl⟩ (fun _ _ _ _ _ => trivial) ?h2 ?h3
    case h2 =>
      rintro i y σ H7' H7 hi ⟨xs, pre, last, y5, rfl, e7, da7, lp, g7, eq⟩ ⟨rfl, rfl⟩
      have g07 := g02.trans g7
      have lx : xs.length = i + 1 := by
        have a := dxA_len da7
        rw [List.length_map, List.length_append] at a
        have a' : xs.length = pre.length + 1 := a
        omega
      obtain ⟨va, hva, dva⟩ := dxA_get (i := i) (d := ddD last) da7 (by rw [List.getElem?_map, List.getElem?_append_right (by omega), lp, Nat.sub_self]; rfl)
      obtain ⟨mm', em'⟩ : ∃ m', min rows.length 9 - 2 - i = m' + 1 := ⟨min rows.length 9 - 2 - i - 1, by omega⟩
      rw [em'] at eq
      refine ⟨_, rfl, .inl ⟨rfl, _, .inl (.inl e7)⟩, _, rfl, _, rfl, ?_⟩
      refine ⟨rl, rows, 2 + i, ?_, .inl (.inl (g07.lst hrl)), fun z2 ez2 => ⟨(hz.2 z2 (List.mem_of_getElem? ez2)).1, fun b2 H8 x8 g8 nx8 r8 => ?_, fun b2 => (qe _ (rdF_d h0 h1 h3 (by rw [← eq]; exact rdDs_e (rdRow_0 (rwAt_bad ez2 b2))))).gr g07⟩, fun b2 => (qe _ (rdF_d h0 h1 h3 (by rw [← eq]; exact rdDs_e (rdRow_0 (rwAt_none b2))))).gr g07⟩
      · show [V.ref rl, V.int ((0 : Int) + 3 + (i : Int))] = [V.ref rl, V.int (((2 + i) + 1 : Nat) : Int)]
        rw [show (0 : Int) + 3 + (i : Int) = (((2 + i) + 1 : Nat) : Int) by omega]
      have hw2 := rwAt_ok ez2 b2
      have wd2 := (hz.2 z2 (List.mem_of_getElem? ez2)).2
      generalize wsOf z2 = ws2 at hw2 wd2 r8
      clear b2
      have e8 := g8.lst e7
      obtain ⟨pe, us, rfl, hpe, hus⟩ := dx_tup (g8.hkx.dx dva)
      obtain ⟨u1, us, rfl, hu1, hus⟩ := dxA_cons hus
      cases dx_str hu1
      have hpe8 : SqT K H8 pe (V.str last.1 :: us) := hide_kx.kd.t hpe
      refine ⟨_, rfl, _, rfl, 1, rfl, dl, _, -1, _, rfl, rfl, .inl (.inl e8), at_neg lx hva, pe, _, 0, V.str last.1, rfl, rfl, hpe8, atI_nat (j := 0) rfl, ?_⟩
      refine ⟨x8, ph, _, ws2, hd, last.1, rfl, r8, wd2, (g7.trans g8).sqt (.inl (.inl hph)), fun k hk => rz_out ((qe _ (rdF_d h0 h1 h3 (by rw [← eq]; exact rdDs_e (rdRow_d hw2 hk)))).gr g07) g8 nx8, fun nm2 os2 g2' hd2 H9 v9 g9 d9 => ?_⟩
      have g79 : Gr H7 H9 := Gp.out g8 nx8 g9
      have e9 := g79.lst e7
      refine ⟨dl, _, _, rfl, rfl, e9, small1000 (by omega), ?_⟩
      refine ⟨xs ++ [v9], pre ++ [last], (nm2, os2, g2'), _, rfl, upd_same, ?_, ?_, (g7.trans g79).upd_new n2, ?_⟩
      · rw [hide_upd (by simp), List.map_append]
        exact dxA_app (g79.hkx.dxA da7) (.cons (dx_hid e9 d9 (noL_deed _ _ _)) .nil)
      · rw [List.length_append, lp]
        rfl
      · rw [show min rows.length 9 - 2 - (i + 1) = mm' by omega, show 2 + (i + 1) = 2 + i + 1 by omega, ← eq]
        exact (rdDs_k (rdRow_k hw2 hd2)).symm
    case h3 =>
      rintro σ H7 ⟨xs, pre, last, y5, rfl, e7, da7, lp, g7, eq⟩
      have g07 := g02.trans g7
      have lx : xs.length = pre.length + 1 := by
        have a := dxA_len da7
        rw [List.length_map, List.length_append] at a
        exact a
      rw [Nat.sub_self] at eq
      have eq' : rdDs hd rows (min rows.length 9 - 2) 2 nm [(nm, os, g)] = .inr (pre ++ [last]) := by rw [← eq]; rfl
      refine ⟨_, rfl, _, rfl, rl, _, _, rfl, .inl (.inl (g07.lst hrl)), fun hle => ?_, fun hgt => ?_⟩
      · rw [List.length_map] at hle
        refine ⟨_, rfl, _, rfl, dl, _, rfl, .inl ⟨.inl (.inl e7), fun td ntd => ?_⟩⟩
        have k1 : Gr H7 (upd H7 td (.tup xs)) := Gr.new ntd
        have w1 : upd H7 td (.tup xs) td = some (.tup xs) := upd_same
        generalize upd H7 td (.tup xs) = H8 at k1 w1 ⊢
        refine ⟨by show 2 ≤ sizeLine; decide, fun tf ntf => ?_⟩
        have k2 : Gr H8 (upd H8 tf (.tup [.ref ph, .ref td])) := Gr.new ntf
        refine q hd (pre ++ [last]) (rdF_k h0 h1 h3 eq' (by omega)) _ (.ref tf) (g07.trans (k1.trans k2)) ?_
        exact .tup (.inl (.inl upd_same)) (.cons (.tup (.inl (.inl (k2.tup (k1.tup (g7.tup hph))))) (Dp.dxA (dpA_sv hd))) (.cons (.tup (.inl (.inl (k2.tup w1))) ((k1.trans k2).kx.dxA (hide_kx.dxA da7))) .nil))
      · rw [List.length_map] at hgt
        exact (qe _ (rdF_m h0 h1 h3 eq' (by omega))).gr g07
end
end SfC
namespace SfC
open PySem PySem.Spec PyProof.Rows L2 SfG
/-! ### parts of texts are no greater than these -/
theorem spl_mem (S : List Nat) : ∀ (l : List Nat) (k : Nat) (acc p : List Nat) (c : Nat), p ∈ TL.spl S k acc l → c ∈ p → c ∈ acc ∨ c ∈ l
  | [], k, acc, p, c, hp, hc => by
    rw [TL.spl_nil] at hp
    have e : p = acc := by simpa using hp
    rw [e] at hc
    exact .inl hc
  | a :: r, 0, acc, p, c, hp, hc => by
    cases h : TL.pre S (a :: r) with
    | true =>
      rw [TL.spl_hit h] at hp
      rcases List.mem_cons.mp hp with e | hp
      · rw [e] at hc
        exact .inl hc
      · rcases spl_mem S r _ [] p c hp hc with z | z
        · cases z
        · exact .inr (List.mem_cons_of_mem _ z)
    | false =>
      rw [TL.spl_miss h] at hp
      rcases spl_mem S r 0 _ p c hp hc with z | z
      · rcases List.mem_append.mp z with z | z
        · exact .inl z
        · have e : c = a := by simpa using z
          rw [e]
          exact .inr List.mem_cons_self
      · exact .inr (List.mem_cons_of_mem _ z)
  | a :: r, k + 1, acc, p, c, hp, hc => by
    rcases spl_mem S r k acc p c hp hc with z | z
    · exact .inl z
    · exact .inr (List.mem_cons_of_mem _ z)
theorem spl_len (S : List Nat) : ∀ (l : List Nat) (k : Nat) (acc p : List Nat), p ∈ TL.spl S k acc l → p.length ≤ acc.length + l.length
  | [], k, acc, p, hp => by
    rw [TL.spl_nil] at hp
    have e : p = acc := by simpa using hp
    rw [e]
    omega
  | a :: r, 0, acc, p, hp => by
    cases h : TL.pre S (a :: r) with
    | true =>
      rw [TL.spl_hit h] at hp
      rcases List.mem_cons.mp hp with e | hp
      · rw [e]
        omega
      · have := spl_len S r _ [] p hp
        rw [List.length_cons]
        have z : ([] : List Nat).length = 0 := rfl
        omega
    | false =>
      rw [TL.spl_miss h] at hp
      have := spl_len S r 0 _ p hp
      rw [List.length_append] at this
      rw [List.length_cons]
      have z : [a].length = 1 := rfl
      omega
  | a :: r, k + 1, acc, p, hp => by
    have := spl_len S r k acc p hp
    rw [List.length_cons]
    omega
theorem kind_low (x : Str) {y : Str} (e : Builtin.Str.strKind y = 1) : ¬ Builtin.Str.strKind x < Builtin.Str.strKind y := by
  rw [e]
  unfold Builtin.Str.strKind
  split <;> (try split) <;> omega
def Asc (z : Str) : Prop := ∀ c ∈ z.cps.toList, c < 128
/-- texts that are read or refused here -/
structure Tx (z : Str) : Prop where
  asc : Asc z
  len : z.length ≤ 19000
theorem tx_part {z p y : Str} (hy : TL.tl y ≠ []) (ey : Builtin.Str.strKind y = 1) (hz : Tx z) (hp : p ∈ Txt.split z y) : Tx p := by
  have e := TL.split_spl z y hy (kind_low z ey)
  have hm : TL.tl p ∈ (Txt.split z y).map TL.tl := List.mem_map.mpr ⟨p, hp, rfl⟩
  rw [e] at hm
  refine ⟨fun c hc => ?_, ?_⟩
  · rcases spl_mem _ _ _ _ _ c hm hc with h | h
    · cases h
    · exact hz.asc c h
  · have h1 := spl_len _ _ _ _ _ hm
    have h2 : (TL.tl p).length = p.length := Array.length_toList
    have h3 : (TL.tl z).length = z.length := Array.length_toList
    have h4 := hz.len
    have z0 : ([] : List Nat).length = 0 := rfl
    omega
theorem tx_row {z p : Str} (hz : Tx z) (hp : p ∈ rwOf z) : Tx p := tx_part (by decide +kernel) (by decide +kernel) hz hp
theorem tx_word {z p : Str} (hz : Tx z) (hp : p ∈ wsOf z) : Tx p := tx_part (by decide +kernel) (by decide +kernel) hz hp
theorem Tx.wt {z : Str} (h : Tx z) : Wt (.str z) 200000 10 := by
  refine ⟨?_, ?_, Nat.zero_le _⟩
  · rw [okd]
    exact List.all_eq_true.mpr fun c hc => decide_eq_true (h.asc c hc)
  · rw [SfG.wt]
    have := h.len
    omega
theorem Tx.rows {z : Str} (h : Tx z) : Rws' (rwOf z) := by
  refine ⟨?_, fun y hy => ?_⟩
  · have := rw_le z
    have := h.len
    omega
  · have t := tx_row h hy
    refine ⟨?_, fun u hu => (tx_word t hu).wt⟩
    have := t.len
    omega
section
variable {P : Program} {w : World} {K : PySem.W.Frag} {mg : Str → Option Value} {base : Heap}
/-- read_face of anything: the face that its rows tell, or the row and the word that can't stand -/
def spReadFX (K : PySem.W.Frag) (CB : Addr) : Sp := fun vs H Q E => ∃ (x : V) (d : PyData), vs = [x] ∧ Dx K H x d ∧ (Go d ∨ ∃ i, d = .int i) ∧ (isS d = false → Rz E CB H 0 0) ∧
  (∀ z, d = .str z → Tx z ∧ (∀ e, rdF (rwOf z) = .inl e → Rz E CB H (e.1 : Nat) (e.2 : Nat)) ∧ (∀ hd ds, rdF (rwOf z) = .inr (hd, ds) → ∀ H' v, Gr H H' → Dx K H' v (faceD hd ds) → Q v H'))
theorem ok_readFX {f fO fB CB : Addr} {fd dO dB : FuncData} {k : Nat} (F : Fun K "read_face" "read_face" sReadF f fd) (HO_ : HasX P w K mg base k "rows_of" ["text"] (spRowsOfX K CB) fO dO) (HB : HasX P w K mg base k "read_face_behind" ["rows", "ahead"] (spReadFBX K CB) fB dB) :
    FnOk P w K mg base (L2.CX P w) (k + 1) f fd ["text"] (spReadFX K CB) := by
  refine F.okX scReadF (fun vs H Q E h => ?_) (fun cdv A outer s H vs Q E hr h => ?_)
  · obtain ⟨x, d, rfl, _⟩ := h
    rfl
  · obtain ⟨x, d, rfl, hx, go, qn, qs⟩ := h
    refine ⟨_, pss_one (ps_ret (pe_call HB.ok hr (by rfl) HB.at_ HB.kp HB.bd .nil (passes_call (takes_of (E := E) rfl rfl rfl rfl) (fun _ _ _ _ h => h)) (pa_cons (pe_call HO_.ok hr (by rfl) HO_.at_ HO_.kp HO_.bd .nil (passes_call (takes_of (E := E) rfl rfl rfl rfl) (fun _ _ _ _ h => h)) (pa_cons (pv 0) pa_nil)) (pa_cons pe_int pa_nil)))), ?_⟩
    refine ⟨_, rfl, x, d, rfl, hx, go, fun z ez H1 rl g1 nrl hrl => ?_, qn⟩
    obtain ⟨t, qe, q⟩ := qs z ez
    exact ⟨rl, rwOf z, rfl, hrl, t.rows, fun e he => (qe e he).gr g1, fun hd ds hds H2 v g2 hv => q hd ds hds H2 v (g1.trans g2) hv⟩
end
end SfC
namespace SfC
open PySem PySem.Spec PyProof.Rows L2 SfG
/-! ### refusals that are made and kept -/
theorem gr_madeV {H H1 : Hp} {a dx : Addr} {o o1 o2 : HO} {o3 : Hp → Hp} (na : H a = none) (g : Gr (upd H a o) H1) (nd : H1 dx = none) (h3 : ∀ b, b ≠ a → b ≠ dx → o3 (upd (upd H1 dx o1) a o2) b = H1 b) (h4 : ∀ l, o3 (upd (upd H1 dx o1) a o2) l = none → l ≠ a ∧ l ≠ dx) : Gr H (o3 (upd (upd H1 dx o1) a o2)) := by
  have back : ∀ l, H1 l = none → H l = none := fun l h => by
    have := g.back l h
    by_cases e : l = a
    · rw [e]
      exact na
    · rw [upd_ne e] at this
      exact this
  have keep : ∀ b u, H b = some u → b ≠ a ∧ b ≠ dx := fun b u h => by
    refine ⟨ne_of_none h na, ?_⟩
    intro z
    have := back dx nd
    rw [← z, h] at this
    cases this
  refine ⟨fun b u h n => ?_, fun P t => ?_, fun l h => ?_⟩
  · obtain ⟨h1, h2⟩ := keep b u h
    rw [h3 b h1 h2]
    exact g.keep b u ((upd_ne h1).trans h) n
  · obtain ⟨ps, e, r⟩ := t
    obtain ⟨h1, h2⟩ := keep P _ e
    obtain ⟨ps', e', r'⟩ := g.tab P ⟨ps, (upd_ne h1).trans e, r⟩
    exact ⟨ps', (h3 P h1 h2).trans e', r'⟩
  · obtain ⟨h1, h2⟩ := h4 l h
    rw [h3 l h1 h2] at h
    exact back l h
/-- a refusal of two fields, made -/
theorem madeV2 {C : Addr} {f1 f2 : Str} {x y : V} {H : Hp} {Q : VK} (hx : Shn x) (hy : Shn y) (q : ∀ a H', Gr H H' → Ex H' C a [(f2, y), (f1, x)] → Q (.ref a) H') :
    ([x, y] : List V).length ≤ 1000 ∧ ∀ a, H a = none → spIni C f1 f2 (.ref a :: ([x, y] ++ [])) (upd H a (exo a C none)) (fun v H2 => v = .non ∧ Q (.ref a) H2) (fun _ _ _ => False) := by
  refine ⟨by show 2 ≤ 1000; decide, fun a na => ⟨a, x, y, rfl, upd_same, hx, hy, fun H1 dx g nd ne => ⟨rfl, q a _ ?_ ⟨dx, ?_, upd_same⟩⟩⟩⟩
  · refine gr_madeV (o3 := fun h => upd h dx (exd dx [(f2, y), (f1, x)])) na g nd (fun b h1 h2 => by rw [upd_ne h2, upd_ne h1, upd_ne h2]) (fun l h => ?_)
    have l1 : l ≠ dx := fun e => by rw [e, upd_same] at h; cases h
    refine ⟨fun e => ?_, l1⟩
    rw [upd_ne l1, e, upd_same] at h
    cases h
  · rw [upd_ne (Ne.symm ne), upd_same]
def spIni1 (C : Addr) (f1 : Str) : Sp := fun vs H Q _ => ∃ (a : Addr) (x : V), vs = [.ref a, x] ∧ H a = some (exo a C none) ∧ Shn x ∧ ∀ H1 dx, Gr H H1 → H1 dx = none → dx ≠ a → Q .non (upd (upd H1 dx (exd dx [(f1, x)])) a (exo a C (some dx)))
/-- the same of anything: a message that tells nothing of it -/
def spIniA (C : Addr) (f1 : Str) : Sp := fun vs H Q _ => ∃ (a : Addr) (x : V), vs = [.ref a, x] ∧ H a = some (exo a C none) ∧ ∀ H1 dx, Gr H H1 → H1 dx = none → dx ≠ a → Q .non (upd (upd H1 dx (exd dx [(f1, x)])) a (exo a C (some dx)))
theorem gr_one {C a dx : Addr} {f1 : Str} {x : V} {H H1 : Hp} (na : H a = none) (g : Gr (upd H a (exo a C none)) H1) (nd : H1 dx = none) (ne : dx ≠ a) : Gr H (upd (upd H1 dx (exd dx [(f1, x)])) a (exo a C (some dx))) ∧ Ex (upd (upd H1 dx (exd dx [(f1, x)])) a (exo a C (some dx))) C a [(f1, x)] := by
  refine ⟨gr_madeV (o3 := fun h => h) na g nd (fun b h1 h2 => by rw [upd_ne h1, upd_ne h2]) (fun l h => ?_), dx, upd_same, ?_⟩
  · have l1 : l ≠ a := fun e => by rw [e, upd_same] at h; cases h
    refine ⟨l1, fun e => ?_⟩
    rw [upd_ne l1, e, upd_same] at h
    cases h
  · rw [upd_ne ne, upd_same]
theorem madeV1 {C : Addr} {f1 : Str} {x : V} {H : Hp} {Q : VK} (hx : Shn x) (q : ∀ a H', Gr H H' → Ex H' C a [(f1, x)] → Q (.ref a) H') :
    ([x] : List V).length ≤ 1000 ∧ ∀ a, H a = none → spIni1 C f1 (.ref a :: ([x] ++ [])) (upd H a (exo a C none)) (fun v H2 => v = .non ∧ Q (.ref a) H2) (fun _ _ _ => False) :=
  ⟨by show 1 ≤ 1000; decide, fun a na => ⟨a, x, rfl, upd_same, hx, fun H1 dx g nd ne => ⟨rfl, q a _ (gr_one na g nd ne).1 (gr_one na g nd ne).2⟩⟩⟩
theorem madeVA {C : Addr} {f1 : Str} {x : V} {H : Hp} {Q : VK} (q : ∀ a H', Gr H H' → Ex H' C a [(f1, x)] → Q (.ref a) H') :
    ([x] : List V).length ≤ 1000 ∧ ∀ a, H a = none → spIniA C f1 (.ref a :: ([x] ++ [])) (upd H a (exo a C none)) (fun v H2 => v = .non ∧ Q (.ref a) H2) (fun _ _ _ => False) :=
  ⟨by show 1 ≤ 1000; decide, fun a na => ⟨a, x, rfl, upd_same, fun H1 dx g nd ne => ⟨rfl, q a _ (gr_one na g nd ne).1 (gr_one na g nd ne).2⟩⟩⟩
abbrev sBadMakingIni : Stmt := inClass sBadMaking 0
theorem scBadMakingIni : SupScope ["self", "part", "number"] ["self", "part", "number"] (defScope sBadMakingIni) :=
  ⟨rfl, rfl, rfl, by decide +kernel, rfl, by decide +kernel, by decide +kernel, by decide +kernel, rfl, rfl⟩
abbrev sBadUserIni : Stmt := inClass sBadUser 0
theorem scBadUserIni : SupScope ["self", "row", "place"] ["self", "row", "place"] (defScope sBadUserIni) :=
  ⟨rfl, rfl, rfl, by decide +kernel, rfl, by decide +kernel, by decide +kernel, by decide +kernel, rfl, rfl⟩
abbrev sBadLeadIni : Stmt := inClass sBadLead 0
theorem scBadLeadIni : SupScope ["self", "kind", "number"] ["self", "kind", "number"] (defScope sBadLeadIni) :=
  ⟨rfl, rfl, rfl, by decide +kernel, rfl, by decide +kernel, by decide +kernel, by decide +kernel, rfl, rfl⟩
abbrev sBadProgramIni : Stmt := inClass sBadProgram 0
theorem scBadProgramIni : SupScope ["self", "row", "place"] ["self", "row", "place"] (defScope sBadProgramIni) :=
  ⟨rfl, rfl, rfl, by decide +kernel, rfl, by decide +kernel, by decide +kernel, by decide +kernel, rfl, rfl⟩
abbrev sBadModuleIni : Stmt := inClass sBadModule 0
theorem scBadModuleIni : SupScope ["self", "part", "number"] ["self", "part", "number"] (defScope sBadModuleIni) :=
  ⟨rfl, rfl, rfl, by decide +kernel, rfl, by decide +kernel, by decide +kernel, by decide +kernel, rfl, rfl⟩
abbrev sBadStepsIni : Stmt := inClass sBadSteps 0
theorem scBadStepsIni : SupScope ["self", "number"] ["self", "number"] (defScope sBadStepsIni) :=
  ⟨rfl, rfl, rfl, by decide +kernel, rfl, by decide +kernel, by decide +kernel, by decide +kernel, rfl, rfl⟩
abbrev sBadUseIni : Stmt := inClass sBadUse 0
theorem scBadUseIni : SupScope ["self", "number"] ["self", "number"] (defScope sBadUseIni) :=
  ⟨rfl, rfl, rfl, by decide +kernel, rfl, by decide +kernel, by decide +kernel, by decide +kernel, rfl, rfl⟩
abbrev sBadInputIni : Stmt := inClass sBadInput 0
theorem scBadInputIni : SupScope ["self", "number"] ["self", "number"] (defScope sBadInputIni) :=
  ⟨rfl, rfl, rfl, by decide +kernel, rfl, by decide +kernel, by decide +kernel, by decide +kernel, rfl, rfl⟩
abbrev sToldApartIni : Stmt := inClass sToldApart 0
theorem scToldApartIni : SupScope ["self", "user"] ["self", "user"] (defScope sToldApartIni) :=
  ⟨rfl, rfl, rfl, by decide +kernel, rfl, by decide +kernel, by decide +kernel, by decide +kernel, rfl, rfl⟩
section
variable {P : Program} {w : World} {K : PySem.W.Frag} {mg : Str → Option Value} {base : Heap}
theorem ok_BadMakingIni {f C cc cda fS : Addr} {fdS : FuncData} {k : Nat} {oc kV doc pm ct : Value} {od an : Option Addr} {osl : Array (Option Value)}
    (lk : K.lookup f = some ⟨oc, od, .func (PySem.W.ksFn "__init__" "BadMaking.__init__" (defArgs sBadMakingIni) (defBody sBadMakingIni) (defScope sBadMakingIni) .none kV doc pm an (.ref cda) ct cc), osl⟩)
    (hcd : PySem.W.codeIn K (.ref cda) "BadMaking.__init__" = true) (U : SupC P K mg C cc cda) (HS : Has P w K mg base (k + 1) "shown" ["field"] spShown fS fdS)
    (n1 : PySem.W.findIn K (.ref C) "part" = some none) (n2 : PySem.W.findIn K (.ref C) "number" = some none) :
    FnOk P w K mg base CX0 (k + 2) f (PySem.W.ksFn "__init__" "BadMaking.__init__" (defArgs sBadMakingIni) (defBody sBadMakingIni) (defScope sBadMakingIni) .none kV doc pm an (.ref cda) ct cc) ["self", "part", "number"] (spIni C "part" "number") := by
  refine fn_super lk hcd scBadMakingIni U rfl rfl (fun vs H Q E h => ?_) (fun A outer s H vs Q E hr h => ?_) (fun _ => rfl) (fun _ => ⟨_, rfl⟩) (fun _ => rfl)
  · obtain ⟨a, x, y, rfl, _⟩ := h
    rfl
  · obtain ⟨a, x, y, rfl, ha, hx, hy, q⟩ := h
    refine ⟨a, [x, y], _, _, rfl, ha, pe_joined (.cons pe_str (.cons (pe_fmt (hcall HS hr (pa_cons (pv 1) pa_nil))) (.cons pe_str (.cons (pe_fmt (hcall HS hr (pa_cons (pv 2) pa_nil))) .nil)))), pss_cons (ps_ost (pv 0) (pv 1)) (pss_one (ps_ost (pv 0) (pv 2))), ?_⟩
    have e9 : (("no making: " : Str)).length = 11 := by decide +kernel
    have e2 : ((", " : Str)).length = 2 := by decide +kernel
    have ez : (Str.empty : Str).length = 0 := rfl
    refine ⟨_, rfl, ?_, _, rfl, x, rfl, hx, fun S1 H1 g1 l1 => .inl ⟨S1, rfl, by rw [sizeLine_eq]; omega, _, rfl, ?_, _, rfl, ?_, _, rfl, y, rfl, hy, fun S2 H2 g2 l2 => .inl ⟨S2, rfl, by rw [sizeLine_eq]; omega, _, rfl, ?_, ?_⟩⟩⟩
    · rw [app_len, ez, e9, sizeLine_eq]
      decide
    · rw [app_len, app_len, ez, e9, sizeLine_eq]
      omega
    · rw [app_len, app_len, app_len, ez, e9, e2, sizeLine_eq]
      omega
    · rw [app_len, app_len, app_len, app_len, ez, e9, e2, sizeLine_eq]
      omega
    · have g := g1.trans g2
      have ha2 : H2 a = some (exo a C none) := g.keep _ _ ha fun _ => exo_tbl
      refine ⟨ha2, ?_⟩
      refine ⟨_, rfl, _, rfl, a, C, rfl, U.T, n1, .inl ⟨ha2, fun dx nd ne => ?_⟩⟩
      refine ⟨_, rfl, _, rfl, a, C, rfl, U.T, n2, .inr ⟨dx, [("part", x)], upd_same, ?_, by show 1 ≤ 900; decide, q H2 dx g nd ne⟩⟩
      rw [upd_ne ne, upd_same]
theorem ok_BadUserIni {f C cc cda fS : Addr} {fdS : FuncData} {k : Nat} {oc kV doc pm ct : Value} {od an : Option Addr} {osl : Array (Option Value)}
    (lk : K.lookup f = some ⟨oc, od, .func (PySem.W.ksFn "__init__" "BadUser.__init__" (defArgs sBadUserIni) (defBody sBadUserIni) (defScope sBadUserIni) .none kV doc pm an (.ref cda) ct cc), osl⟩)
    (hcd : PySem.W.codeIn K (.ref cda) "BadUser.__init__" = true) (U : SupC P K mg C cc cda) (HS : Has P w K mg base (k + 1) "shown" ["field"] spShown fS fdS)
    (n1 : PySem.W.findIn K (.ref C) "row" = some none) (n2 : PySem.W.findIn K (.ref C) "place" = some none) :
    FnOk P w K mg base CX0 (k + 2) f (PySem.W.ksFn "__init__" "BadUser.__init__" (defArgs sBadUserIni) (defBody sBadUserIni) (defScope sBadUserIni) .none kV doc pm an (.ref cda) ct cc) ["self", "row", "place"] (spIni C "row" "place") := by
  refine fn_super lk hcd scBadUserIni U rfl rfl (fun vs H Q E h => ?_) (fun A outer s H vs Q E hr h => ?_) (fun _ => rfl) (fun _ => ⟨_, rfl⟩) (fun _ => rfl)
  · obtain ⟨a, x, y, rfl, _⟩ := h
    rfl
  · obtain ⟨a, x, y, rfl, ha, hx, hy, q⟩ := h
    refine ⟨a, [x, y], _, _, rfl, ha, pe_joined (.cons pe_str (.cons (pe_fmt (hcall HS hr (pa_cons (pv 1) pa_nil))) (.cons pe_str (.cons (pe_fmt (hcall HS hr (pa_cons (pv 2) pa_nil))) .nil)))), pss_cons (ps_ost (pv 0) (pv 1)) (pss_one (ps_ost (pv 0) (pv 2))), ?_⟩
    have e9 : (("no user: row " : Str)).length = 13 := by decide +kernel
    have e2 : ((", place " : Str)).length = 8 := by decide +kernel
    have ez : (Str.empty : Str).length = 0 := rfl
    refine ⟨_, rfl, ?_, _, rfl, x, rfl, hx, fun S1 H1 g1 l1 => .inl ⟨S1, rfl, by rw [sizeLine_eq]; omega, _, rfl, ?_, _, rfl, ?_, _, rfl, y, rfl, hy, fun S2 H2 g2 l2 => .inl ⟨S2, rfl, by rw [sizeLine_eq]; omega, _, rfl, ?_, ?_⟩⟩⟩
    · rw [app_len, ez, e9, sizeLine_eq]
      decide
    · rw [app_len, app_len, ez, e9, sizeLine_eq]
      omega
    · rw [app_len, app_len, app_len, ez, e9, e2, sizeLine_eq]
      omega
    · rw [app_len, app_len, app_len, app_len, ez, e9, e2, sizeLine_eq]
      omega
    · have g := g1.trans g2
      have ha2 : H2 a = some (exo a C none) := g.keep _ _ ha fun _ => exo_tbl
      refine ⟨ha2, ?_⟩
      refine ⟨_, rfl, _, rfl, a, C, rfl, U.T, n1, .inl ⟨ha2, fun dx nd ne => ?_⟩⟩
      refine ⟨_, rfl, _, rfl, a, C, rfl, U.T, n2, .inr ⟨dx, [("row", x)], upd_same, ?_, by show 1 ≤ 900; decide, q H2 dx g nd ne⟩⟩
      rw [upd_ne ne, upd_same]
theorem ok_BadLeadIni {f C cc cda fS : Addr} {fdS : FuncData} {k : Nat} {oc kV doc pm ct : Value} {od an : Option Addr} {osl : Array (Option Value)}
    (lk : K.lookup f = some ⟨oc, od, .func (PySem.W.ksFn "__init__" "BadLead.__init__" (defArgs sBadLeadIni) (defBody sBadLeadIni) (defScope sBadLeadIni) .none kV doc pm an (.ref cda) ct cc), osl⟩)
    (hcd : PySem.W.codeIn K (.ref cda) "BadLead.__init__" = true) (U : SupC P K mg C cc cda) (HS : Has P w K mg base (k + 1) "shown" ["field"] spShown fS fdS)
    (n1 : PySem.W.findIn K (.ref C) "kind" = some none) (n2 : PySem.W.findIn K (.ref C) "number" = some none) :
    FnOk P w K mg base CX0 (k + 2) f (PySem.W.ksFn "__init__" "BadLead.__init__" (defArgs sBadLeadIni) (defBody sBadLeadIni) (defScope sBadLeadIni) .none kV doc pm an (.ref cda) ct cc) ["self", "kind", "number"] (spIni C "kind" "number") := by
  refine fn_super lk hcd scBadLeadIni U rfl rfl (fun vs H Q E h => ?_) (fun A outer s H vs Q E hr h => ?_) (fun _ => rfl) (fun _ => ⟨_, rfl⟩) (fun _ => rfl)
  · obtain ⟨a, x, y, rfl, _⟩ := h
    rfl
  · obtain ⟨a, x, y, rfl, ha, hx, hy, q⟩ := h
    refine ⟨a, [x, y], _, _, rfl, ha, pe_joined (.cons pe_str (.cons (pe_fmt (hcall HS hr (pa_cons (pv 1) pa_nil))) (.cons pe_str (.cons (pe_fmt (hcall HS hr (pa_cons (pv 2) pa_nil))) .nil)))), pss_cons (ps_ost (pv 0) (pv 1)) (pss_one (ps_ost (pv 0) (pv 2))), ?_⟩
    have e9 : (("no good leading: " : Str)).length = 17 := by decide +kernel
    have e2 : ((", " : Str)).length = 2 := by decide +kernel
    have ez : (Str.empty : Str).length = 0 := rfl
    refine ⟨_, rfl, ?_, _, rfl, x, rfl, hx, fun S1 H1 g1 l1 => .inl ⟨S1, rfl, by rw [sizeLine_eq]; omega, _, rfl, ?_, _, rfl, ?_, _, rfl, y, rfl, hy, fun S2 H2 g2 l2 => .inl ⟨S2, rfl, by rw [sizeLine_eq]; omega, _, rfl, ?_, ?_⟩⟩⟩
    · rw [app_len, ez, e9, sizeLine_eq]
      decide
    · rw [app_len, app_len, ez, e9, sizeLine_eq]
      omega
    · rw [app_len, app_len, app_len, ez, e9, e2, sizeLine_eq]
      omega
    · rw [app_len, app_len, app_len, app_len, ez, e9, e2, sizeLine_eq]
      omega
    · have g := g1.trans g2
      have ha2 : H2 a = some (exo a C none) := g.keep _ _ ha fun _ => exo_tbl
      refine ⟨ha2, ?_⟩
      refine ⟨_, rfl, _, rfl, a, C, rfl, U.T, n1, .inl ⟨ha2, fun dx nd ne => ?_⟩⟩
      refine ⟨_, rfl, _, rfl, a, C, rfl, U.T, n2, .inr ⟨dx, [("kind", x)], upd_same, ?_, by show 1 ≤ 900; decide, q H2 dx g nd ne⟩⟩
      rw [upd_ne ne, upd_same]
theorem ok_BadProgramIni {f C cc cda fS : Addr} {fdS : FuncData} {k : Nat} {oc kV doc pm ct : Value} {od an : Option Addr} {osl : Array (Option Value)}
    (lk : K.lookup f = some ⟨oc, od, .func (PySem.W.ksFn "__init__" "BadProgram.__init__" (defArgs sBadProgramIni) (defBody sBadProgramIni) (defScope sBadProgramIni) .none kV doc pm an (.ref cda) ct cc), osl⟩)
    (hcd : PySem.W.codeIn K (.ref cda) "BadProgram.__init__" = true) (U : SupC P K mg C cc cda) (HS : Has P w K mg base (k + 1) "shown" ["field"] spShown fS fdS)
    (n1 : PySem.W.findIn K (.ref C) "row" = some none) (n2 : PySem.W.findIn K (.ref C) "place" = some none) :
    FnOk P w K mg base CX0 (k + 2) f (PySem.W.ksFn "__init__" "BadProgram.__init__" (defArgs sBadProgramIni) (defBody sBadProgramIni) (defScope sBadProgramIni) .none kV doc pm an (.ref cda) ct cc) ["self", "row", "place"] (spIni C "row" "place") := by
  refine fn_super lk hcd scBadProgramIni U rfl rfl (fun vs H Q E h => ?_) (fun A outer s H vs Q E hr h => ?_) (fun _ => rfl) (fun _ => ⟨_, rfl⟩) (fun _ => rfl)
  · obtain ⟨a, x, y, rfl, _⟩ := h
    rfl
  · obtain ⟨a, x, y, rfl, ha, hx, hy, q⟩ := h
    refine ⟨a, [x, y], _, _, rfl, ha, pe_joined (.cons pe_str (.cons (pe_fmt (hcall HS hr (pa_cons (pv 1) pa_nil))) (.cons pe_str (.cons (pe_fmt (hcall HS hr (pa_cons (pv 2) pa_nil))) .nil)))), pss_cons (ps_ost (pv 0) (pv 1)) (pss_one (ps_ost (pv 0) (pv 2))), ?_⟩
    have e9 : (("no program: row " : Str)).length = 16 := by decide +kernel
    have e2 : ((", place " : Str)).length = 8 := by decide +kernel
    have ez : (Str.empty : Str).length = 0 := rfl
    refine ⟨_, rfl, ?_, _, rfl, x, rfl, hx, fun S1 H1 g1 l1 => .inl ⟨S1, rfl, by rw [sizeLine_eq]; omega, _, rfl, ?_, _, rfl, ?_, _, rfl, y, rfl, hy, fun S2 H2 g2 l2 => .inl ⟨S2, rfl, by rw [sizeLine_eq]; omega, _, rfl, ?_, ?_⟩⟩⟩
    · rw [app_len, ez, e9, sizeLine_eq]
      decide
    · rw [app_len, app_len, ez, e9, sizeLine_eq]
      omega
    · rw [app_len, app_len, app_len, ez, e9, e2, sizeLine_eq]
      omega
    · rw [app_len, app_len, app_len, app_len, ez, e9, e2, sizeLine_eq]
      omega
    · have g := g1.trans g2
      have ha2 : H2 a = some (exo a C none) := g.keep _ _ ha fun _ => exo_tbl
      refine ⟨ha2, ?_⟩
      refine ⟨_, rfl, _, rfl, a, C, rfl, U.T, n1, .inl ⟨ha2, fun dx nd ne => ?_⟩⟩
      refine ⟨_, rfl, _, rfl, a, C, rfl, U.T, n2, .inr ⟨dx, [("row", x)], upd_same, ?_, by show 1 ≤ 900; decide, q H2 dx g nd ne⟩⟩
      rw [upd_ne ne, upd_same]
theorem ok_BadModuleIni {f C cc cda fS : Addr} {fdS : FuncData} {k : Nat} {oc kV doc pm ct : Value} {od an : Option Addr} {osl : Array (Option Value)}
    (lk : K.lookup f = some ⟨oc, od, .func (PySem.W.ksFn "__init__" "BadModule.__init__" (defArgs sBadModuleIni) (defBody sBadModuleIni) (defScope sBadModuleIni) .none kV doc pm an (.ref cda) ct cc), osl⟩)
    (hcd : PySem.W.codeIn K (.ref cda) "BadModule.__init__" = true) (U : SupC P K mg C cc cda) (HS : Has P w K mg base (k + 1) "shown" ["field"] spShown fS fdS)
    (n1 : PySem.W.findIn K (.ref C) "part" = some none) (n2 : PySem.W.findIn K (.ref C) "number" = some none) :
    FnOk P w K mg base CX0 (k + 2) f (PySem.W.ksFn "__init__" "BadModule.__init__" (defArgs sBadModuleIni) (defBody sBadModuleIni) (defScope sBadModuleIni) .none kV doc pm an (.ref cda) ct cc) ["self", "part", "number"] (spIni C "part" "number") := by
  refine fn_super lk hcd scBadModuleIni U rfl rfl (fun vs H Q E h => ?_) (fun A outer s H vs Q E hr h => ?_) (fun _ => rfl) (fun _ => ⟨_, rfl⟩) (fun _ => rfl)
  · obtain ⟨a, x, y, rfl, _⟩ := h
    rfl
  · obtain ⟨a, x, y, rfl, ha, hx, hy, q⟩ := h
    refine ⟨a, [x, y], _, _, rfl, ha, pe_joined (.cons pe_str (.cons (pe_fmt (hcall HS hr (pa_cons (pv 1) pa_nil))) (.cons pe_str (.cons (pe_fmt (hcall HS hr (pa_cons (pv 2) pa_nil))) .nil)))), pss_cons (ps_ost (pv 0) (pv 1)) (pss_one (ps_ost (pv 0) (pv 2))), ?_⟩
    have e9 : (("no module: " : Str)).length = 11 := by decide +kernel
    have e2 : ((", " : Str)).length = 2 := by decide +kernel
    have ez : (Str.empty : Str).length = 0 := rfl
    refine ⟨_, rfl, ?_, _, rfl, x, rfl, hx, fun S1 H1 g1 l1 => .inl ⟨S1, rfl, by rw [sizeLine_eq]; omega, _, rfl, ?_, _, rfl, ?_, _, rfl, y, rfl, hy, fun S2 H2 g2 l2 => .inl ⟨S2, rfl, by rw [sizeLine_eq]; omega, _, rfl, ?_, ?_⟩⟩⟩
    · rw [app_len, ez, e9, sizeLine_eq]
      decide
    · rw [app_len, app_len, ez, e9, sizeLine_eq]
      omega
    · rw [app_len, app_len, app_len, ez, e9, e2, sizeLine_eq]
      omega
    · rw [app_len, app_len, app_len, app_len, ez, e9, e2, sizeLine_eq]
      omega
    · have g := g1.trans g2
      have ha2 : H2 a = some (exo a C none) := g.keep _ _ ha fun _ => exo_tbl
      refine ⟨ha2, ?_⟩
      refine ⟨_, rfl, _, rfl, a, C, rfl, U.T, n1, .inl ⟨ha2, fun dx nd ne => ?_⟩⟩
      refine ⟨_, rfl, _, rfl, a, C, rfl, U.T, n2, .inr ⟨dx, [("part", x)], upd_same, ?_, by show 1 ≤ 900; decide, q H2 dx g nd ne⟩⟩
      rw [upd_ne ne, upd_same]
theorem ok_BadStepsIni {f C cc cda fS : Addr} {fdS : FuncData} {k : Nat} {oc kV doc pm ct : Value} {od an : Option Addr} {osl : Array (Option Value)}
    (lk : K.lookup f = some ⟨oc, od, .func (PySem.W.ksFn "__init__" "BadSteps.__init__" (defArgs sBadStepsIni) (defBody sBadStepsIni) (defScope sBadStepsIni) .none kV doc pm an (.ref cda) ct cc), osl⟩)
    (hcd : PySem.W.codeIn K (.ref cda) "BadSteps.__init__" = true) (U : SupC P K mg C cc cda) (HS : Has P w K mg base (k + 1) "shown" ["field"] spShown fS fdS)
    (n1 : PySem.W.findIn K (.ref C) "number" = some none) :
    FnOk P w K mg base CX0 (k + 2) f (PySem.W.ksFn "__init__" "BadSteps.__init__" (defArgs sBadStepsIni) (defBody sBadStepsIni) (defScope sBadStepsIni) .none kV doc pm an (.ref cda) ct cc) ["self", "number"] (spIni1 C "number") := by
  refine fn_super lk hcd scBadStepsIni U rfl rfl (fun vs H Q E h => ?_) (fun A outer s H vs Q E hr h => ?_) (fun _ => rfl) (fun _ => ⟨_, rfl⟩) (fun _ => rfl)
  · obtain ⟨a, x, rfl, _⟩ := h
    rfl
  · obtain ⟨a, x, rfl, ha, hx, q⟩ := h
    refine ⟨a, [x], _, _, rfl, ha, pe_joined (.cons pe_str (.cons (pe_fmt (hcall HS hr (pa_cons (pv 1) pa_nil))) .nil)), pss_one (ps_ost (pv 0) (pv 1)), ?_⟩
    have e9 : (("no steps: " : Str)).length = 10 := by decide +kernel
    have ez : (Str.empty : Str).length = 0 := rfl
    refine ⟨_, rfl, ?_, _, rfl, x, rfl, hx, fun S1 H1 g1 l1 => .inl ⟨S1, rfl, by rw [sizeLine_eq]; omega, _, rfl, ?_, ?_⟩⟩
    · rw [app_len, ez, e9, sizeLine_eq]
      decide
    · rw [app_len, app_len, ez, e9, sizeLine_eq]
      omega
    · have ha2 : H1 a = some (exo a C none) := g1.keep _ _ ha fun _ => exo_tbl
      refine ⟨ha2, ?_⟩
      exact ⟨_, rfl, _, rfl, a, C, rfl, U.T, n1, .inl ⟨ha2, fun dx nd ne => q H1 dx g1 nd ne⟩⟩
theorem ok_BadUseIni {f C cc cda fS : Addr} {fdS : FuncData} {k : Nat} {oc kV doc pm ct : Value} {od an : Option Addr} {osl : Array (Option Value)}
    (lk : K.lookup f = some ⟨oc, od, .func (PySem.W.ksFn "__init__" "BadUse.__init__" (defArgs sBadUseIni) (defBody sBadUseIni) (defScope sBadUseIni) .none kV doc pm an (.ref cda) ct cc), osl⟩)
    (hcd : PySem.W.codeIn K (.ref cda) "BadUse.__init__" = true) (U : SupC P K mg C cc cda) (HS : Has P w K mg base (k + 1) "shown" ["field"] spShown fS fdS)
    (n1 : PySem.W.findIn K (.ref C) "number" = some none) :
    FnOk P w K mg base CX0 (k + 2) f (PySem.W.ksFn "__init__" "BadUse.__init__" (defArgs sBadUseIni) (defBody sBadUseIni) (defScope sBadUseIni) .none kV doc pm an (.ref cda) ct cc) ["self", "number"] (spIni1 C "number") := by
  refine fn_super lk hcd scBadUseIni U rfl rfl (fun vs H Q E h => ?_) (fun A outer s H vs Q E hr h => ?_) (fun _ => rfl) (fun _ => ⟨_, rfl⟩) (fun _ => rfl)
  · obtain ⟨a, x, rfl, _⟩ := h
    rfl
  · obtain ⟨a, x, rfl, ha, hx, q⟩ := h
    refine ⟨a, [x], _, _, rfl, ha, pe_joined (.cons pe_str (.cons (pe_fmt (hcall HS hr (pa_cons (pv 1) pa_nil))) .nil)), pss_one (ps_ost (pv 0) (pv 1)), ?_⟩
    have e9 : (("no uses: " : Str)).length = 9 := by decide +kernel
    have ez : (Str.empty : Str).length = 0 := rfl
    refine ⟨_, rfl, ?_, _, rfl, x, rfl, hx, fun S1 H1 g1 l1 => .inl ⟨S1, rfl, by rw [sizeLine_eq]; omega, _, rfl, ?_, ?_⟩⟩
    · rw [app_len, ez, e9, sizeLine_eq]
      decide
    · rw [app_len, app_len, ez, e9, sizeLine_eq]
      omega
    · have ha2 : H1 a = some (exo a C none) := g1.keep _ _ ha fun _ => exo_tbl
      refine ⟨ha2, ?_⟩
      exact ⟨_, rfl, _, rfl, a, C, rfl, U.T, n1, .inl ⟨ha2, fun dx nd ne => q H1 dx g1 nd ne⟩⟩
theorem ok_BadInputIni {f C cc cda fS : Addr} {fdS : FuncData} {k : Nat} {oc kV doc pm ct : Value} {od an : Option Addr} {osl : Array (Option Value)}
    (lk : K.lookup f = some ⟨oc, od, .func (PySem.W.ksFn "__init__" "BadInput.__init__" (defArgs sBadInputIni) (defBody sBadInputIni) (defScope sBadInputIni) .none kV doc pm an (.ref cda) ct cc), osl⟩)
    (hcd : PySem.W.codeIn K (.ref cda) "BadInput.__init__" = true) (U : SupC P K mg C cc cda) (HS : Has P w K mg base (k + 1) "shown" ["field"] spShown fS fdS)
    (n1 : PySem.W.findIn K (.ref C) "number" = some none) :
    FnOk P w K mg base CX0 (k + 2) f (PySem.W.ksFn "__init__" "BadInput.__init__" (defArgs sBadInputIni) (defBody sBadInputIni) (defScope sBadInputIni) .none kV doc pm an (.ref cda) ct cc) ["self", "number"] (spIni1 C "number") := by
  refine fn_super lk hcd scBadInputIni U rfl rfl (fun vs H Q E h => ?_) (fun A outer s H vs Q E hr h => ?_) (fun _ => rfl) (fun _ => ⟨_, rfl⟩) (fun _ => rfl)
  · obtain ⟨a, x, rfl, _⟩ := h
    rfl
  · obtain ⟨a, x, rfl, ha, hx, q⟩ := h
    refine ⟨a, [x], _, _, rfl, ha, pe_joined (.cons pe_str (.cons (pe_fmt (hcall HS hr (pa_cons (pv 1) pa_nil))) .nil)), pss_one (ps_ost (pv 0) (pv 1)), ?_⟩
    have e9 : (("can't be put in: " : Str)).length = 17 := by decide +kernel
    have ez : (Str.empty : Str).length = 0 := rfl
    refine ⟨_, rfl, ?_, _, rfl, x, rfl, hx, fun S1 H1 g1 l1 => .inl ⟨S1, rfl, by rw [sizeLine_eq]; omega, _, rfl, ?_, ?_⟩⟩
    · rw [app_len, ez, e9, sizeLine_eq]
      decide
    · rw [app_len, app_len, ez, e9, sizeLine_eq]
      omega
    · have ha2 : H1 a = some (exo a C none) := g1.keep _ _ ha fun _ => exo_tbl
      refine ⟨ha2, ?_⟩
      exact ⟨_, rfl, _, rfl, a, C, rfl, U.T, n1, .inl ⟨ha2, fun dx nd ne => q H1 dx g1 nd ne⟩⟩
theorem ok_ToldApartIni {f C cc cda : Addr} {k : Nat} {oc kV doc pm ct : Value} {od an : Option Addr} {osl : Array (Option Value)}
    (lk : K.lookup f = some ⟨oc, od, .func (PySem.W.ksFn "__init__" "ToldApart.__init__" (defArgs sToldApartIni) (defBody sToldApartIni) (defScope sToldApartIni) .none kV doc pm an (.ref cda) ct cc), osl⟩)
    (hcd : PySem.W.codeIn K (.ref cda) "ToldApart.__init__" = true) (U : SupC P K mg C cc cda)
    (n1 : PySem.W.findIn K (.ref C) "user" = some none) :
    FnOk P w K mg base CX0 (k + 2) f (PySem.W.ksFn "__init__" "ToldApart.__init__" (defArgs sToldApartIni) (defBody sToldApartIni) (defScope sToldApartIni) .none kV doc pm an (.ref cda) ct cc) ["self", "user"] (spIniA C "user") := by
  refine fn_super lk hcd scToldApartIni U rfl rfl (fun vs H Q E h => ?_) (fun A outer s H vs Q E hr h => ?_) (fun _ => rfl) (fun _ => ⟨_, rfl⟩) (fun _ => rfl)
  · obtain ⟨a, x, rfl, _⟩ := h
    rfl
  · obtain ⟨a, x, rfl, ha, q⟩ := h
    refine ⟨a, [x], _, _, rfl, ha, pe_str, pss_one (ps_ost (pv 0) (pv 1)), ?_⟩
    refine ⟨ha, ?_⟩
    exact ⟨_, rfl, _, rfl, a, C, rfl, U.T, n1, .inl ⟨ha, fun dx nd ne => q H dx (Gr.refl H) nd ne⟩⟩
end
end SfC
namespace SfC
open PySem PySem.Spec PyProof.Rows L2 SfG
/-! ### _law_kinds of an error that has no dict of its own -/
abbrev nKinds : List Str := ["_law_error", "_law_kinds_here", "_law_name", "_law_fits"]
theorem scKinds : FnScope nKinds ["_law_error"] (defScope sKinds) := ⟨rfl, rfl, rfl, by decide +kernel, rfl, by decide +kernel, by decide +kernel⟩
/-- a pair of a word and whether the error is of the class c -/
theorem pair_isK {K : PySem.W.Frag} {D a : Addr} {c : V} {cv : Value} {b : Bool} {z : Str} {σ : L2.St} {H : Hp} {Q : VK} (h0 : σ[0]? = some (some (.ref a))) (hH : Ey H D a)
    (hc : ∀ u, RelV c u → u = cv) (hk : PySem.W.kitOne K (.ref D) cv = some b) (q : ∀ H' t, Gr H H' → H' t = some (.tup [.str z, .bl b]) → Q (.ref t) H') :
    tTup (tCons (tC (.str z)) (tCons (tCB (rIsY K D) (tCons (tVar 0) (tCons (tC c) tNil))) tNil)) σ H Q := by
  refine ⟨_, h0, a, c, cv, b, rfl, hH, hc, hk, by show 2 ≤ sizeLine; decide, fun t nt => q _ t (Gr.new nt) upd_same⟩
/-- the words so far, in pairs -/
def KdL (K : PySem.W.Frag) (H : Hp) (l : Addr) (ks : List (Str × Bool)) : Prop := ∃ xs, H l = some (.lst xs) ∧ DpAll K H xs (ks.map fun k => .tuple [.str k.1, .bool k.2])
theorem dp_pair {K : PySem.W.Frag} {H : Hp} {t : Addr} {z : Str} {b : Bool} (h : H t = some (.tup [.str z, .bl b])) : Dp K H (.ref t) (.tuple [.str z, .bool b]) := .tup (.inl (.inl h)) (.cons (.str z) (.cons (.bl b) .nil))
/-- two more of them -/
theorem two_isK {K : PySem.W.Frag} {D a l : Addr} {c c' : V} {cv cv' : Value} {b b' : Bool} {z z' : Str} {ks : List (Str × Bool)} {σ : L2.St} {H : Hp} {Q : VK} (h0 : σ[0]? = some (some (.ref a))) (h1 : σ[1]? = some (some (.ref l)))
    (hH : Ey H D a) (hl : KdL K H l ks) (hn : ks.length ≤ 100) (hc : ∀ u, RelV c u → u = cv) (hk : PySem.W.kitOne K (.ref D) cv = some b) (hc' : ∀ u, RelV c' u → u = cv') (hk' : PySem.W.kitOne K (.ref D) cv' = some b')
    (q : ∀ H' p, Gr H H' → H p = none → KdL K H' p (ks ++ [(z, b), (z', b')]) → Q (.ref p) H') :
    tOp rCat (tVar 1) (tLst (tCons (tTup (tCons (tC (.str z)) (tCons (tCB (rIsY K D) (tCons (tVar 0) (tCons (tC c) tNil))) tNil)))
      (tCons (tTup (tCons (tC (.str z')) (tCons (tCB (rIsY K D) (tCons (tVar 0) (tCons (tC c') tNil))) tNil))) tNil))) σ H Q := by
  refine ⟨_, h1, _, h0, a, c, cv, b, rfl, hH, hc, hk, (by show 2 ≤ sizeLine; decide), fun t1 nt1 => ?_⟩
  have g1 : Gr H (upd H t1 (.tup [.str z, .bl b])) := Gr.new nt1
  have e1 : upd H t1 (.tup [.str z, .bl b]) t1 = some (.tup [.str z, .bl b]) := upd_same
  generalize upd H t1 (.tup [.str z, .bl b]) = H1 at g1 e1 ⊢
  refine ⟨_, h0, a, c', cv', b', rfl, (hH.gr g1), hc', hk', (by show 2 ≤ sizeLine; decide), fun t2 nt2 => ?_⟩
  have g2 : Gr H1 (upd H1 t2 (.tup [.str z', .bl b'])) := Gr.new nt2
  have e2 : upd H1 t2 (.tup [.str z', .bl b']) t2 = some (.tup [.str z', .bl b']) := upd_same
  generalize upd H1 t2 (.tup [.str z', .bl b']) = H2 at g2 e2 ⊢
  obtain ⟨xs, hx, dx⟩ := hl
  refine ⟨by show 2 ≤ sizeLine; decide, fun m nm => ?_⟩
  have g3 : Gr H2 (upd H2 m (.lst [.ref t1, .ref t2])) := Gr.new nm
  have gx := (g1.trans g2).trans g3
  have hlen : xs.length = ks.length := by
    have := dpA_len dx
    rw [List.length_map] at this
    exact this
  refine ⟨l, m, xs, _, rfl, rfl, gx.lst hx, upd_same, ?_, fun p np => ?_⟩
  · rw [sizeLine_eq]
    show xs.length + 2 ≤ _
    omega
  · have g4 : Gr (upd H2 m (.lst [.ref t1, .ref t2])) (upd (upd H2 m (.lst [.ref t1, .ref t2])) p (.lst (xs ++ [.ref t1, .ref t2]))) := Gr.new np
    refine q _ p (gx.trans g4) (gx.back p np) ⟨_, upd_same, ?_⟩
    rw [List.map_append]
    refine dpA_app ((gx.trans g4).kd.dpA dx) (.cons (dp_pair (g4.tup (g3.tup (g2.tup e1)))) (.cons (dp_pair (g4.tup (g3.tup e2))) .nil))
theorem pairs_lst {K : PySem.W.Frag} {H : Hp} {l : Addr} {xs zs : List V} (hl : H l = some (.lst xs)) : ∀ {ks : List (Str × Bool)} {ys : List V}, DpAll K H ys (ks.map fun k => .tuple [.str k.1, .bool k.2]) →
    DpAll K (upd H l (.lst zs)) ys (ks.map fun k => .tuple [.str k.1, .bool k.2])
  | [], _, h => by
    cases h
    exact .nil
  | k :: r, _, h => by
    obtain ⟨x, t, rfl, hx, ht⟩ := dpA_cons h
    obtain ⟨p, a, b, rfl, hp, ha, hb⟩ := dp_2 hx
    cases dp_str ha
    cases hb
    exact .cons (.tup (sqt_lst hl hp) (.cons (.str _) (.cons (.bl _) .nil))) (pairs_lst hl ht)
theorem pair_at {K : PySem.W.Frag} {H : Hp} : ∀ {ks : List (Str × Bool)} {xs : List V} {i : Nat} {x : V}, DpAll K H xs (ks.map fun k => .tuple [.str k.1, .bool k.2]) → xs[i]? = some x →
    ∃ z b p, ks[i]? = some (z, b) ∧ x = .ref p ∧ SqT K H p [.str z, .bl b]
  | [], _, i, x, h, hx => by
    cases h
    simp at hx
  | k :: r, _, 0, x, h, hx => by
    obtain ⟨y, t, rfl, hy, ht⟩ := dpA_cons h
    obtain ⟨p, a, b, rfl, hp, ha, hb⟩ := dp_2 hy
    cases dp_str ha
    cases hb
    exact ⟨k.1, k.2, p, rfl, (Option.some.inj hx).symm, hp⟩
  | k :: r, _, i + 1, x, h, hx => by
    obtain ⟨y, t, rfl, hy, ht⟩ := dpA_cons h
    exact pair_at (i := i) ht (by simpa using hx)
/-- where a class stands, and whether the error is of it -/
def Kxc (K : PySem.W.Frag) (mg : Str → Option Value) (D : Addr) (x : Str) (b : Bool) : Prop := ∃ c, mg x = some (.ref c) ∧ PySem.W.kitOne K (.ref D) (.ref c) = some b
structure Kxs (K : PySem.W.Frag) (mg : Str → Option Value) (D : Addr) (bs : List Bool) : Prop where
  e : ExcC K D
  n : bs.length = 16
  row : Kxc K mg D "BadRow" (bs.getD 0 false)
  face : Kxc K mg D "BadFace" (bs.getD 1 false)
  making : Kxc K mg D "BadMaking" (bs.getD 2 false)
  user : Kxc K mg D "BadUser" (bs.getD 3 false)
  steps : Kxc K mg D "BadSteps" (bs.getD 4 false)
  lead : Kxc K mg D "BadLead" (bs.getD 5 false)
  apart : Kxc K mg D "ToldApart" (bs.getD 6 false)
  place : Kxc K mg D "OutOfPlace" (bs.getD 7 false)
  great : Kxc K mg D "TooGreat" (bs.getD 8 false)
  paper : Kxc K mg D "BadPaper" (bs.getD 9 false)
  program : Kxc K mg D "BadProgram" (bs.getD 10 false)
  module : Kxc K mg D "BadModule" (bs.getD 11 false)
  refused : Kxc K mg D "Refused" (bs.getD 12 false)
  use : Kxc K mg D "BadUse" (bs.getD 13 false)
  input : Kxc K mg D "BadInput" (bs.getD 14 false)
  ve : PySem.W.kitOne K (.ref D) (.type "ValueError") = some true
  fe : Kxc K mg D "FaceError" true
  other : bs.getD 15 false = false
def kdW : List Str := ["row", "face", "making", "user", "steps", "lead", "apart", "place", "great", "paper", "program", "module", "refused", "use", "input", "other"]
def kdT (ks : List (Str × Bool)) : List V := (ks.filter (·.2)).map fun k => V.str k.1
theorem kdT_take {ks : List (Str × Bool)} {i : Nat} {z : Str} {b : Bool} (h : ks[i]? = some (z, b)) : kdT (ks.take (i + 1)) = kdT (ks.take i) ++ (if b = true then [V.str z] else []) := by
  unfold kdT
  rw [List.take_add_one, h, List.filter_append, List.map_append]
  cases b <;> rfl
theorem kdT_len (ks : List (Str × Bool)) : (kdT ks).length ≤ ks.length := by
  unfold kdT
  rw [List.length_map]
  exact List.length_filter_le _ _
section
variable {P : Program} {w : World} {K : PySem.W.Frag} {mg : Str → Option Value} {base : Heap}
def spKinds (K : PySem.W.Frag) (mg : Str → Option Value) : Sp := fun vs H Q _ => ∃ (a D : Addr) (bs : List Bool), vs = [.ref a] ∧ Ey H D a ∧ Kxs K mg D bs ∧ ∀ H' p, Gr H H' → H' p = some (.lst (kdT (kdW.zip bs))) → Q (.ref p) H'
set_option maxHeartbeats 2000000 in
theorem ok_kinds {f : Addr} {fd : FuncData} {k : Nat} (F : Fun K "_law_kinds" "_law_kinds" sKinds f fd) (mi : mg "isinstance" = none) (mv : mg "ValueError" = none) :
    FnOk P w K mg base CX0 (k + 1) f fd ["_law_error"] (spKinds K mg) := by
  refine F.ok scKinds (fun vs H Q E h => ?_) (fun cdv A outer s H vs Q E hr h => ?_)
  · obtain ⟨a, D, bs, rfl, _⟩ := h
    rfl
  · obtain ⟨a, D, bs, rfl, hH, X, q⟩ := h
    obtain ⟨c1, g1, k1⟩ := X.row
    obtain ⟨c2, g2, k2⟩ := X.face
    obtain ⟨c3, g3, k3⟩ := X.making
    obtain ⟨c4, g4, k4⟩ := X.user
    obtain ⟨c5, g5, k5⟩ := X.steps
    obtain ⟨c6, g6, k6⟩ := X.lead
    obtain ⟨c7, g7, k7⟩ := X.apart
    obtain ⟨c8, g8, k8⟩ := X.place
    obtain ⟨c9, g9, k9⟩ := X.great
    obtain ⟨c10, g10, k10⟩ := X.paper
    obtain ⟨c11, g11, k11⟩ := X.program
    obtain ⟨c12, g12, k12⟩ := X.module
    obtain ⟨c13, g13, k13⟩ := X.refused
    obtain ⟨c14, g14, k14⟩ := X.use
    obtain ⟨c15, g15, k15⟩ := X.input
    obtain ⟨c16, g16, k16⟩ := X.fe
    have eb : bs = [bs.getD 0 false, bs.getD 1 false, bs.getD 2 false, bs.getD 3 false, bs.getD 4 false, bs.getD 5 false, bs.getD 6 false, bs.getD 7 false, bs.getD 8 false, bs.getD 9 false, bs.getD 10 false, bs.getD 11 false, bs.getD 12 false, bs.getD 13 false, bs.getD 14 false, false] := by
      have h := X.n
      have h2 := X.other
      match bs, h, h2 with
      | [_, _, _, _, _, _, _, _, _, _, _, _, _, _, _, false], _, _ => rfl
      | [_, _, _, _, _, _, _, _, _, _, _, _, _, _, _, true], _, h2 => cases h2
    generalize bs.getD 0 false = b1 at *
    generalize bs.getD 1 false = b2 at *
    generalize bs.getD 2 false = b3 at *
    generalize bs.getD 3 false = b4 at *
    generalize bs.getD 4 false = b5 at *
    generalize bs.getD 5 false = b6 at *
    generalize bs.getD 6 false = b7 at *
    generalize bs.getD 7 false = b8 at *
    generalize bs.getD 8 false = b9 at *
    generalize bs.getD 9 false = b10 at *
    generalize bs.getD 10 false = b11 at *
    generalize bs.getD 11 false = b12 at *
    generalize bs.getD 12 false = b13 at *
    generalize bs.getD 13 false = b14 at *
    generalize bs.getD 14 false = b15 at *
    have EC := X.e
    have kve := X.ve
    clear X
    subst eb
    have nd := scKinds.nd
    refine' ⟨_, pss_cons ?s1 (pss_cons ?s2 (pss_cons ?s3 (pss_cons ?s4 (pss_cons ?s5 (pss_cons ?s6 (pss_cons ?s7 (pss_cons ?s8 (pss_cons ?s9 (pss_one ?s10))))))))), ?rd⟩
    case s1 => exact ps_set (i := 1) nd rfl (.inl rfl) (pe_lst (pa_cons (pe_tup (pa_cons pe_str (pa_cons (pe_callB (call_isY EC) (by rfl) mi boot_isinstance (pa_cons (pv 0) (pa_cons (pe_glob (v := .ref c1) rfl g1 rfl) pa_nil))) pa_nil))) (pa_cons (pe_tup (pa_cons pe_str (pa_cons (pe_callB (call_isY EC) (by rfl) mi boot_isinstance (pa_cons (pv 0) (pa_cons (pe_glob (v := .ref c2) rfl g2 rfl) pa_nil))) pa_nil))) pa_nil)))
    case s2 => exact ps_set (i := 1) nd rfl (.inl rfl) (pe_op op_cat (pv 1) (pe_lst (pa_cons (pe_tup (pa_cons pe_str (pa_cons (pe_callB (call_isY EC) (by rfl) mi boot_isinstance (pa_cons (pv 0) (pa_cons (pe_glob (v := .ref c3) rfl g3 rfl) pa_nil))) pa_nil))) (pa_cons (pe_tup (pa_cons pe_str (pa_cons (pe_callB (call_isY EC) (by rfl) mi boot_isinstance (pa_cons (pv 0) (pa_cons (pe_glob (v := .ref c4) rfl g4 rfl) pa_nil))) pa_nil))) pa_nil))))
    case s3 => exact ps_set (i := 1) nd rfl (.inl rfl) (pe_op op_cat (pv 1) (pe_lst (pa_cons (pe_tup (pa_cons pe_str (pa_cons (pe_callB (call_isY EC) (by rfl) mi boot_isinstance (pa_cons (pv 0) (pa_cons (pe_glob (v := .ref c5) rfl g5 rfl) pa_nil))) pa_nil))) (pa_cons (pe_tup (pa_cons pe_str (pa_cons (pe_callB (call_isY EC) (by rfl) mi boot_isinstance (pa_cons (pv 0) (pa_cons (pe_glob (v := .ref c6) rfl g6 rfl) pa_nil))) pa_nil))) pa_nil))))
    case s4 => exact ps_set (i := 1) nd rfl (.inl rfl) (pe_op op_cat (pv 1) (pe_lst (pa_cons (pe_tup (pa_cons pe_str (pa_cons (pe_callB (call_isY EC) (by rfl) mi boot_isinstance (pa_cons (pv 0) (pa_cons (pe_glob (v := .ref c7) rfl g7 rfl) pa_nil))) pa_nil))) (pa_cons (pe_tup (pa_cons pe_str (pa_cons (pe_callB (call_isY EC) (by rfl) mi boot_isinstance (pa_cons (pv 0) (pa_cons (pe_glob (v := .ref c8) rfl g8 rfl) pa_nil))) pa_nil))) pa_nil))))
    case s5 => exact ps_set (i := 1) nd rfl (.inl rfl) (pe_op op_cat (pv 1) (pe_lst (pa_cons (pe_tup (pa_cons pe_str (pa_cons (pe_callB (call_isY EC) (by rfl) mi boot_isinstance (pa_cons (pv 0) (pa_cons (pe_glob (v := .ref c9) rfl g9 rfl) pa_nil))) pa_nil))) (pa_cons (pe_tup (pa_cons pe_str (pa_cons (pe_callB (call_isY EC) (by rfl) mi boot_isinstance (pa_cons (pv 0) (pa_cons (pe_glob (v := .ref c10) rfl g10 rfl) pa_nil))) pa_nil))) pa_nil))))
    case s6 => exact ps_set (i := 1) nd rfl (.inl rfl) (pe_op op_cat (pv 1) (pe_lst (pa_cons (pe_tup (pa_cons pe_str (pa_cons (pe_callB (call_isY EC) (by rfl) mi boot_isinstance (pa_cons (pv 0) (pa_cons (pe_glob (v := .ref c11) rfl g11 rfl) pa_nil))) pa_nil))) (pa_cons (pe_tup (pa_cons pe_str (pa_cons (pe_callB (call_isY EC) (by rfl) mi boot_isinstance (pa_cons (pv 0) (pa_cons (pe_glob (v := .ref c12) rfl g12 rfl) pa_nil))) pa_nil))) pa_nil))))
    case s7 => exact ps_set (i := 1) nd rfl (.inl rfl) (pe_op op_cat (pv 1) (pe_lst (pa_cons (pe_tup (pa_cons pe_str (pa_cons (pe_callB (call_isY EC) (by rfl) mi boot_isinstance (pa_cons (pv 0) (pa_cons (pe_glob (v := .ref c13) rfl g13 rfl) pa_nil))) pa_nil))) (pa_cons (pe_tup (pa_cons pe_str (pa_cons (pe_callB (call_isY EC) (by rfl) mi boot_isinstance (pa_cons (pv 0) (pa_cons (pe_glob (v := .ref c14) rfl g14 rfl) pa_nil))) pa_nil))) pa_nil))))
    case s8 => exact ps_expr (pe_bm PySem.F.plainAttrs_list PySem.F.slot_list_append PySem.F.type_list_append mt_append (pv 1) (pa_cons (pe_tup (pa_cons pe_str (pa_cons (pe_callB (call_isY EC) (by rfl) mi boot_isinstance (pa_cons (pv 0) (pa_cons (pe_glob (v := .ref c15) rfl g15 rfl) pa_nil))) pa_nil))) pa_nil))
    case s9 => exact ps_expr (pe_bm PySem.F.plainAttrs_list PySem.F.slot_list_append PySem.F.type_list_append mt_append (pv 1) (pa_cons (pe_tup (pa_cons pe_str (pa_cons (pe_or (pe_not (pe_callB (call_isY EC) (by rfl) mi boot_isinstance (pa_cons (pv 0) (pa_cons (pe_bltn (v := .ty "ValueError") (by rfl) mv (by decide +kernel) rfl) pa_nil)))) (pe_one (pe_not (pe_callB (call_isY EC) (by rfl) mi boot_isinstance (pa_cons (pv 0) (pa_cons (pe_glob (v := .ref c16) rfl g16 rfl) pa_nil)))))) pa_nil))) pa_nil))
    case s10 => exact ps_ret (pe_lc (own := [("_law_name", 2), ("_law_fits", 3)]) (g := gTup K 2 (gCons (gName 2) (gCons (gName 3) gNil))) rfl nd (pi_list (pv 1))
        (blkOk_by (own := [("_law_name", 2), ("_law_fits", 3)]) (N := nKinds) (sc := defScope sKinds) (by decide +kernel)) (fun _ _ _ _ _ => pg_tup rfl (pgs_cons (pg_name (i := 2) nd rfl (.inl rfl)) (pgs_cons (pg_name (i := 3) nd rfl (.inl rfl)) pgs_nil)))
        (fun _ _ _ _ _ => pts_one (pt_val (pv 3))) (fun _ _ _ _ _ => pv 2))
    case rd =>
    have self : ∀ (c : Addr) (u : Value), RelV (.ref c) u → u = .ref c := fun c u h => h
    refine ⟨_, rfl, a, _, _, b1, rfl, hH, self c1, k1, (by show 2 ≤ sizeLine; decide), fun t1 nt1 => ?_⟩
    have r1 : Gr H (upd H t1 (.tup [.str "row", .bl b1])) := Gr.new nt1
    have e1 : upd H t1 (.tup [.str "row", .bl b1]) t1 = some (.tup [.str "row", .bl b1]) := upd_same
    generalize upd H t1 (.tup [.str "row", .bl b1]) = H1 at r1 e1 ⊢
    refine ⟨_, rfl, a, _, _, b2, rfl, (hH.gr r1), self c2, k2, (by show 2 ≤ sizeLine; decide), fun t2 nt2 => ?_⟩
    have r2 : Gr H1 (upd H1 t2 (.tup [.str "face", .bl b2])) := Gr.new nt2
    have e2 : upd H1 t2 (.tup [.str "face", .bl b2]) t2 = some (.tup [.str "face", .bl b2]) := upd_same
    generalize upd H1 t2 (.tup [.str "face", .bl b2]) = H2 at r2 e2 ⊢
    refine ⟨by show 2 ≤ sizeLine; decide, fun l1 nl1 => ?_⟩
    have r3 : Gr H (upd H2 l1 (.lst [.ref t1, .ref t2])) := (r1.trans r2).trans (Gr.new nl1)
    have L1 : KdL K (upd H2 l1 (.lst [.ref t1, .ref t2])) l1 [("row", b1), ("face", b2)] := ⟨_, upd_same, .cons (dp_pair ((Gr.new nl1).tup (r2.tup e1))) (.cons (dp_pair ((Gr.new nl1).tup e2)) .nil)⟩
    generalize upd H2 l1 (.lst [.ref t1, .ref t2]) = G1 at r3 L1 ⊢
    refine two_isK rfl rfl ((hH.gr r3)) L1 (by simp) (self c3) k3 (self c4) k4 fun G2 l2 s2 nw2 L2 => ?_
    have r4 := r3.trans s2
    refine two_isK rfl rfl ((hH.gr r4)) L2 (by simp) (self c5) k5 (self c6) k6 fun G3 l3 s3 nw3 L3 => ?_
    have r5 := r4.trans s3
    refine two_isK rfl rfl ((hH.gr r5)) L3 (by simp) (self c7) k7 (self c8) k8 fun G4 l4 s4 nw4 L4 => ?_
    have r6 := r5.trans s4
    refine two_isK rfl rfl ((hH.gr r6)) L4 (by simp) (self c9) k9 (self c10) k10 fun G5 l5 s5 nw5 L5 => ?_
    have r7 := r6.trans s5
    refine two_isK rfl rfl ((hH.gr r7)) L5 (by simp) (self c11) k11 (self c12) k12 fun G6 l6 s6 nw6 L6 => ?_
    have r8 := r7.trans s6
    refine two_isK rfl rfl ((hH.gr r8)) L6 (by simp) (self c13) k13 (self c14) k14 fun G7 l7 s7 nw7 L7 => ?_
    have r9 := r8.trans s7
    -- input
    obtain ⟨xs7, hx7, dx7⟩ := L7
    have n7 : xs7.length = 14 := by
      have := dpA_len dx7
      rw [List.length_map] at this
      exact this
    refine ⟨_, rfl, .inl ⟨rfl, _, .inl (.inl hx7)⟩, _, rfl, a, _, _, b15, rfl, (hH.gr r9), self c15, k15, (by show 2 ≤ sizeLine; decide), fun t8 nt8 => ?_⟩
    have r10 : Gr G7 (upd G7 t8 (.tup [.str "input", .bl b15])) := Gr.new nt8
    have e8 : upd G7 t8 (.tup [.str "input", .bl b15]) t8 = some (.tup [.str "input", .bl b15]) := upd_same
    generalize upd G7 t8 (.tup [.str "input", .bl b15]) = G8 at r10 e8 ⊢
    have hx8 := r10.lst hx7
    have nl7 : H l7 = none := r8.back l7 nw7
    refine ⟨l7, _, _, rfl, rfl, hx8, by rw [n7, sizeLine_eq]; decide, ?_⟩
    have r11 : Gr H (upd G8 l7 (.lst (xs7 ++ [.ref t8]))) := (r9.trans r10).upd_new nl7
    have dx7' : DpAll K G7 xs7 (([("row", b1), ("face", b2), ("making", b3), ("user", b4), ("steps", b5), ("lead", b6), ("apart", b7), ("place", b8), ("great", b9), ("paper", b10), ("program", b11), ("module", b12), ("refused", b13), ("use", b14)] : List (Str × Bool)).map fun k => .tuple [.str k.1, .bool k.2]) := dx7
    have d8 : DpAll K (upd G8 l7 (.lst (xs7 ++ [.ref t8]))) (xs7 ++ [.ref t8]) (([("row", b1), ("face", b2), ("making", b3), ("user", b4), ("steps", b5), ("lead", b6), ("apart", b7), ("place", b8), ("great", b9), ("paper", b10), ("program", b11), ("module", b12), ("refused", b13), ("use", b14), ("input", b15)] : List (Str × Bool)).map fun k => .tuple [.str k.1, .bool k.2]) :=
      pairs_lst hx8 (dpA_app (r10.kd.dpA dx7') (.cons (dp_pair (z := "input") e8) .nil))
    have hx9 : upd G8 l7 (.lst (xs7 ++ [.ref t8])) l7 = some (.lst (xs7 ++ [.ref t8])) := upd_same
    generalize upd G8 l7 (.lst (xs7 ++ [.ref t8])) = G9 at r11 d8 hx9 ⊢
    -- other
    refine ⟨_, rfl, .inl ⟨rfl, _, .inl (.inl hx9)⟩, _, rfl, a, _, _, true, rfl, (hH.gr r11), (fun u h => h), kve, true, rfl, false, rfl, ?_⟩
    refine iteF ⟨_, rfl, a, _, _, true, rfl, (hH.gr r11), self c16, k16, true, rfl, (by show 2 ≤ sizeLine; decide), fun t9 nt9 => ?_⟩
    have r12 : Gr G9 (upd G9 t9 (.tup [.str "other", .bl (!true)])) := Gr.new nt9
    have e9 : upd G9 t9 (.tup [.str "other", .bl (!true)]) t9 = some (.tup [.str "other", .bl false]) := upd_same
    generalize upd G9 t9 (.tup [.str "other", .bl (!true)]) = G10 at r12 e9 ⊢
    have hx10 := r12.lst hx9
    refine ⟨l7, _, _, rfl, rfl, hx10, by rw [List.length_append, n7, sizeLine_eq]; show 15 < 16777216; decide, ?_⟩
    have r13 : Gr H (upd G10 l7 (.lst ((xs7 ++ [.ref t8]) ++ [.ref t9]))) := (r11.trans r12).upd_new nl7
    have d9 : DpAll K (upd G10 l7 (.lst ((xs7 ++ [.ref t8]) ++ [.ref t9]))) ((xs7 ++ [.ref t8]) ++ [.ref t9]) (([("row", b1), ("face", b2), ("making", b3), ("user", b4), ("steps", b5), ("lead", b6), ("apart", b7), ("place", b8), ("great", b9), ("paper", b10), ("program", b11), ("module", b12), ("refused", b13), ("use", b14), ("input", b15), ("other", false)] : List (Str × Bool)).map fun k => .tuple [.str k.1, .bool k.2]) :=
      pairs_lst hx10 (dpA_app (r12.kd.dpA d8) (.cons (dp_pair (z := "other") e9) .nil))
    have hx11 : upd G10 l7 (.lst ((xs7 ++ [.ref t8]) ++ [.ref t9])) l7 = some (.lst ((xs7 ++ [.ref t8]) ++ [.ref t9])) := upd_same
    have n9 : ((xs7 ++ [V.ref t8]) ++ [V.ref t9]).length = 16 := by
      rw [List.length_append, List.length_append, n7]
      rfl
    have q' : ∀ H' p, Gr H H' → H' p = some (.lst (kdT ([("row", b1), ("face", b2), ("making", b3), ("user", b4), ("steps", b5), ("lead", b6), ("apart", b7), ("place", b8), ("great", b9), ("paper", b10), ("program", b11), ("module", b12), ("refused", b13), ("use", b14), ("input", b15), ("other", false)] : List (Str × Bool)))) → Q (.ref p) H' := q
    generalize upd G10 l7 (.lst ((xs7 ++ [.ref t8]) ++ [.ref t9])) = G11 at r13 d9 hx11 ⊢
    generalize ((xs7 ++ [V.ref t8]) ++ [V.ref t9]) = ys at d9 hx11 n9 ⊢
    have nks : ([("row", b1), ("face", b2), ("making", b3), ("user", b4), ("steps", b5), ("lead", b6), ("apart", b7), ("place", b8), ("great", b9), ("paper", b10), ("program", b11), ("module", b12), ("refused", b13), ("use", b14), ("input", b15), ("other", false)] : List (Str × Bool)).length = 16 := rfl
    generalize ([("row", b1), ("face", b2), ("making", b3), ("user", b4), ("steps", b5), ("lead", b6), ("apart", b7), ("place", b8), ("great", b9), ("paper", b10), ("program", b11), ("module", b12), ("refused", b13), ("use", b14), ("input", b15), ("other", false)] : List (Str × Bool)) = ks at d9 q' nks
    clear q dx7' d8 dx7
    refine ⟨_, rfl, l7, rfl, ⟨_, .inl (.inl hx11)⟩, fun D nD => ?_⟩
    have gD : ∀ o, Gr G11 (upd G11 D o) := fun o => Gr.new nD
    refine lc_it (walk_list (xs := ys)) (fun i H2 => H2 = upd G11 D (.lst (kdT (ks.take i)))) rfl ?c0 ?c1 ?c2
    case c0 =>
      rintro i H2 hi rfl
      exact .inl (.inl ((gD _).lst hx11))
    case c1 =>
      rintro i y H2 H2' hi rfl ⟨rfl, hy⟩
      obtain ⟨z, b, pp, hz, rfl, hpp⟩ := pair_at d9 hy
      refine ⟨pp, _, rfl, (gD _).sqt hpp, rfl, _, _, rfl, _, _, rfl, rfl, rfl, _, rfl, b, rfl, ?_⟩
      have ek := kdT_take hz
      cases b with
      | true =>
        refine iteT ⟨_, rfl, _, upd_same, ?_, ?_⟩
        · have := kdT_len (ks.take i)
          have h2 := List.length_take_le i ks
          rw [sizeLine_eq]
          have h3 : (ks.take i).length ≤ 16 := by
            rw [List.length_take]
            omega
          omega
        · rw [upd_upd, ek]
          rfl
      | false =>
        refine iteF ?_
        show _ = _
        rw [ek, if_neg (by decide), List.append_nil]
    case c2 =>
      rintro H2 rfl
      refine q' _ D (r13.trans (gD _)) ?_
      rw [upd_same, n9, List.take_of_length_le (by omega)]
end
end SfC
namespace SfC
open PySem PySem.Spec PyProof.Rows L2 SfG
/-! ### BadPaper's __init__ -/
abbrev sPaperIni : Stmt := inClass sBadPaper 0
abbrev nPaper : List Str := ["self", "place", "told", "part"]
theorem scPaperIni : SupScope nPaper ["self", "place"] (defScope sPaperIni) :=
  ⟨rfl, rfl, rfl, by decide +kernel, rfl, by decide +kernel, by decide +kernel, by decide +kernel, rfl, rfl⟩
section
variable {P : Program} {w : World} {K : PySem.W.Frag} {mg : Str → Option Value} {base : Heap}
def spIniP (K : PySem.W.Frag) (C : Addr) : Sp := fun vs H Q _ => ∃ (a : Addr) (x : V), vs = [.ref a, x] ∧ H a = some (exo a C none) ∧ (x = .non ∨ ∃ t ys, x = .ref t ∧ SqT K H t ys ∧ ys.length ≤ 10 ∧ ∀ y ∈ ys, Shn y) ∧
  ∀ H1 dx, Gr H H1 → H1 dx = none → dx ≠ a → Q .non (upd (upd H1 dx (exd dx [("place", x)])) a (exo a C (some dx)))
theorem sum_100 : ∀ {ws : List Str}, (∀ z ∈ ws, z.length ≤ 1100) → (ws.map (·.length)).sum ≤ ws.length * 1100
  | [], _ => by simp
  | a :: r, h => by
    rw [List.map_cons, List.sum_cons, List.length_cons, Nat.succ_mul]
    have h1 := h a List.mem_cons_self
    have h2 := sum_100 fun z hz => h z (List.mem_cons_of_mem _ hz)
    omega
theorem joinL2 {S : List Nat} (hS : S.length = 2) : ∀ {ls : List (List Nat)}, (∀ l ∈ ls, l.length ≤ 1100) → (TL.joinL S ls).length ≤ ls.length * 1102
  | [], _ => by simp [TL.joinL]
  | [p], h => by
    have := h p List.mem_cons_self
    show p.length ≤ 1 * 1102
    omega
  | p :: q :: r, h => by
    have h1 := h p List.mem_cons_self
    have h2 := joinL2 hS (ls := q :: r) fun l hl => h l (List.mem_cons_of_mem _ hl)
    show (p ++ (S ++ TL.joinL S (q :: r))).length ≤ _
    rw [List.length_append, List.length_append, hS]
    rw [List.length_cons, Nat.succ_mul]
    omega
theorem join2_len {ws : List Str} (h : ∀ z ∈ ws, z.length ≤ 1100) : (Txt.join (", " : Str) ws).length ≤ ws.length * 1102 := by
  have := joinL2 (S := TL.tl (", " : Str)) (by decide +kernel) (ls := ws.map TL.tl) fun l hl => by
    obtain ⟨z, hz, rfl⟩ := List.mem_map.mp hl
    have := h z hz
    rw [len_list] at this
    exact this
  rw [List.length_map, ← TL.tl_join, ← TL.join_eq] at this
  rw [len_list]
  exact this
theorem ok_paperIni {f C cc cda fS : Addr} {fdS : FuncData} {k : Nat} {oc kV doc pm ct : Value} {od an : Option Addr} {osl : Array (Option Value)}
    (lk : K.lookup f = some ⟨oc, od, .func (PySem.W.ksFn "__init__" "BadPaper.__init__" (defArgs sPaperIni) (defBody sPaperIni) (defScope sPaperIni) .none kV doc pm an (.ref cda) ct cc), osl⟩)
    (hcd : PySem.W.codeIn K (.ref cda) "BadPaper.__init__" = true) (U : SupC P K mg C cc cda) (HS : Has P w K mg base (k + 1) "shown" ["field"] spShown fS fdS)
    (n1 : PySem.W.findIn K (.ref C) "place" = some none) (mi : mg "isinstance" = none) (mt : mg "tuple" = none) :
    FnOk P w K mg base CX0 (k + 2) f (PySem.W.ksFn "__init__" "BadPaper.__init__" (defArgs sPaperIni) (defBody sPaperIni) (defScope sPaperIni) .none kV doc pm an (.ref cda) ct cc) ["self", "place"] (spIniP K C) := by
  refine fn_super1 lk hcd scPaperIni U rfl rfl (fun vs H Q E h => ?_) (fun A outer s H vs Q E hr h => ?_) (fun _ => rfl) (fun _ => ⟨_, rfl⟩) (fun _ => rfl)
  · obtain ⟨a, x, rfl, _⟩ := h
    rfl
  · obtain ⟨a, x, rfl, ha, hx, q⟩ := h
    have nd := scPaperIni.nd
    refine ⟨a, [x], _, _, _, rfl, ha, ps_set (i := 2) nd rfl (.inl rfl) (pe_ifExp (pt_val (pe_isi "tuple" 1 mi mt (by decide +kernel))) (pe_join pe_str (pe_lc (own := [("part", 3)]) (g := gName 3) rfl nd (pi_tup (pv 1)) (blkOk_by (own := [("part", 3)]) (N := nPaper) (sc := defScope sPaperIni) (by decide +kernel))
        (fun _ _ _ _ _ => pg_name (i := 3) nd rfl (Or.inl rfl)) (fun _ _ _ _ _ => pts_nil) (fun _ _ _ _ _ => hcall HS hr (pa_cons (pv 3) pa_nil)))) (hcall HS hr (pa_cons (pv 1) pa_nil))),
      pe_joined (.cons pe_str (.cons (pe_fmt (pv 2)) .nil)), pss_one (ps_ost (pv 0) (pv 1)), ?_⟩
    have e9 : (("no right paper: " : Str)).length = 16 := by decide +kernel
    have ez : (Str.empty : Str).length = 0 := rfl
    have rest : ∀ (H1 : Hp) (S : Str), Gr H H1 → S.length ≤ 20000 → ([some (V.ref a), some x, some (V.str S), none] : L2.St)[0]? = some (some (V.ref a)) ∧ H1 a = some (exo a C none) ∧
        (fun σ H Q => tJs [tC (V.str "no right paper: "), tFmt (tVar 2)] Str.empty σ H fun out H1 => Q (V.str out) H1) [some (V.ref a), some x, some (V.str S), none] H1 (fun _ H2 => H2 a = some (exo a C none) ∧ tOst K "place" (tVar 0) (tVar 1) { nx := fun _ H' => Q .non H', rt := Q } [some (V.ref a), some x, some (V.str S), none] H2) := by
      intro H1 S g1 l1
      have ha1 : H1 a = some (exo a C none) := g1.keep _ _ ha fun _ => exo_tbl
      refine ⟨rfl, ha1, ?_⟩
      refine ⟨_, rfl, ?_, _, rfl, .inl ⟨S, rfl, by rw [sizeLine_eq]; omega, _, rfl, ?_, ?_⟩⟩
      · rw [app_len, ez, e9, sizeLine_eq]
        decide
      · rw [app_len, app_len, ez, e9, sizeLine_eq]
        omega
      · exact ⟨ha1, _, rfl, _, rfl, a, C, rfl, U.T, n1, .inl ⟨ha1, fun dx nd ne => q H1 dx g1 nd ne⟩⟩
    rcases hx with rfl | ⟨t, ys, rfl, ht, ly, hy⟩
    · refine ⟨_, rfl, _, _, (is_non (K := K) (H := H)).1, kit_tuple _ (is_non (K := K) (H := H)).2, _, rfl, iteF ?_⟩
      refine ⟨_, rfl, .non, rfl, .inl rfl, fun S H1 g1 l1 => ?_⟩
      exact rest H1 S g1 (by omega)
    · have hT : Is K H (.ref t) "tuple" := ⟨tyx_tup ht, by decide +kernel⟩
      refine ⟨_, rfl, _, _, hT.1, kit_tuple _ hT.2, _, rfl, iteT ?_⟩
      refine ⟨⟨_, rfl⟩, _, rfl, t, rfl, ⟨_, ht⟩, fun D nD => ?_⟩
      refine lc_it (walk_tup (xs := ys)) (fun i H2 => ∃ ws : List Str, H2 D = some (.lst (ws.map V.str)) ∧ ws.length = i ∧ (∀ z ∈ ws, z.length ≤ 1100) ∧ Gr H H2) ⟨[], upd_same, rfl, (fun z hz => by cases hz), Gr.new nD⟩ ?c0 ?c1 ?c2
      case c0 =>
        rintro i H2 hi ⟨ws, _, _, _, g2⟩
        exact g2.sqt ht
      case c1 =>
        rintro i y H2' H2 hi ⟨ws, hD, lw, hw, g2⟩ ⟨rfl, hy'⟩
        refine ⟨rfl, ?_⟩
        unfold tYes
        refine iteT ⟨_, rfl, y, rfl, hy y (List.mem_of_getElem? hy'), fun S H3 g3 l3 => ?_⟩
        refine ⟨_, g3.lst hD, by rw [List.length_map, sizeLine_eq]; omega, ws ++ [S], ?_, ?_, ?_, (g2.trans g3).upd_new nD⟩
        · rw [upd_same, List.map_append]
          rfl
        · rw [List.length_append, lw]
          rfl
        · intro z hz
          rcases List.mem_append.mp hz with h1 | h1
          · exact hw z h1
          · rw [List.mem_singleton.mp h1]
            omega
      case c2 =>
      rintro H2 ⟨ws, hD, lw, hw, g2⟩
      have e2 : ((", " : Str)).length = 2 := by decide +kernel
      have sw := sum_100 hw
      refine ⟨", ", D, ws, rfl, rfl, .inl (.inl (.inl hD)), by rw [e2]; omega, ?_⟩
      refine rest H2 _ g2 ?_
      have := join2_len hw
      omega
end
end SfC
namespace SfC
open PySem PySem.Spec PyProof.Rows L2 SfG
/-! ### _law_told of k06: three ways, refused or let by -/
abbrev nTold : List Str := ["_law_way", "_law_thing", "_law_wrong", "e"]
theorem scTold : FnScope nTold ["_law_way", "_law_thing"] (defScope sTold) := ⟨rfl, rfl, rfl, by decide +kernel, rfl, by decide +kernel, by decide +kernel⟩
def bsAt (i : Nat) : List Bool := (List.replicate 16 false).set i true
theorem kd_at : ∀ {i : Nat}, i < 15 → kdT (kdW.zip (bsAt i)) = [V.str (kdW.getD i "")]
  | 0, _ => rfl
  | 1, _ => rfl
  | 2, _ => rfl
  | 3, _ => rfl
  | 4, _ => rfl
  | 5, _ => rfl
  | 6, _ => rfl
  | 7, _ => rfl
  | 8, _ => rfl
  | 9, _ => rfl
  | 10, _ => rfl
  | 11, _ => rfl
  | 12, _ => rfl
  | 13, _ => rfl
  | 14, _ => rfl
  | i + 15, h => by omega
/-- the face that gives_of is asked of -/
def fcT : Fc := ⟨["a"], [⟨"b", [.h "a", .p 2], .h "a"⟩]⟩
theorem go_fcT : goF fcT := by
  refine ⟨⟨by decide, by decide, ?_, ?_⟩, by decide, by decide, ?_, ?_⟩
  · intro z hz
    rw [List.mem_singleton.mp hz]
    decide +kernel
  · exact List.pairwise_singleton _ _
  · exact List.pairwise_singleton _ _
  · intro e he
    rw [List.mem_singleton.mp he]
    refine ⟨by decide +kernel, by decide, ?_, by decide +kernel, List.mem_singleton.mpr rfl⟩
    intro k hk
    rcases List.mem_cons.mp hk with rfl | hk
    · exact List.mem_singleton.mpr rfl
    · rw [List.mem_singleton.mp hk]
      exact ⟨by decide, by decide⟩
theorem fresh_ek {H : Hp} {C a dd : Addr} {fs : List (Str × V)} (hd : H dd = some (.xd fs)) (na : H a = none) : EkF (upd H a (EkO (.ref C) (some dd) a)) C a fs := ⟨dd, upd_same, by rw [upd_ne (ne_of_none hd na)]; exact hd⟩
theorem fresh_ek0 {H : Hp} {C a : Addr} : Ek (upd H a (EkO (.ref C) none a)) C a := ⟨none, upd_same, .inl rfl⟩
section
variable {P : Program} {w : World} {K : PySem.W.Frag} {mg : Str → Option Value} {base : Heap}
theorem drop_1 {sp : Sp} {E : L2.St → XK} {t1 : TE} {ta : TA} {D : L2.Ends} {σ : L2.St} {H : Hp} (h : t1 σ H fun v H1 => ta σ H1 fun vs H2 => sp (v :: vs) H2 (fun _ H3 => D.nx σ H3) (E σ)) : tDrop (tCallS sp E (tCons t1 ta)) D σ H := h
/-- the face laid, tuple by tuple -/
theorem mk_fcT {σ : L2.St} {H : Hp} {Q : VK} (q : ∀ H' v, Gr H H' → Dp K H' v fcT.d → Q v H') :
    tTup (tCons (tTup (tCons (tC (.str "a")) tNil)) (tCons (tTup (tCons (tTup (tCons (tC (.str "b")) (tCons (tTup (tCons (tC (.str "a")) (tCons (tC (.int 2)) tNil))) (tCons (tC (.str "a")) tNil)))) tNil)) tNil)) σ H Q := by
  refine ⟨by show 1 ≤ sizeLine; decide, fun t1 n1 => ?_⟩
  have g1 : Gr H (upd H t1 (.tup [.str "a"])) := Gr.new n1
  have e1 : upd H t1 (.tup [.str "a"]) t1 = some (.tup [.str "a"]) := upd_same
  generalize upd H t1 (.tup [.str "a"]) = H1 at g1 e1 ⊢
  refine ⟨by show 2 ≤ sizeLine; decide, fun t2 n2 => ?_⟩
  have g2 : Gr H1 (upd H1 t2 (.tup [.str "a", .int 2])) := Gr.new n2
  have e2 : upd H1 t2 (.tup [.str "a", .int 2]) t2 = some (.tup [.str "a", .int 2]) := upd_same
  generalize upd H1 t2 (.tup [.str "a", .int 2]) = H2 at g2 e2 ⊢
  refine ⟨by show 3 ≤ sizeLine; decide, fun t3 n3 => ?_⟩
  have g3 : Gr H2 (upd H2 t3 (.tup [.str "b", .ref t2, .str "a"])) := Gr.new n3
  have e3 : upd H2 t3 (.tup [.str "b", .ref t2, .str "a"]) t3 = some (.tup [.str "b", .ref t2, .str "a"]) := upd_same
  generalize upd H2 t3 (.tup [.str "b", .ref t2, .str "a"]) = H3 at g3 e3 ⊢
  refine ⟨by show 1 ≤ sizeLine; decide, fun t4 n4 => ?_⟩
  have g4 : Gr H3 (upd H3 t4 (.tup [.ref t3])) := Gr.new n4
  have e4 : upd H3 t4 (.tup [.ref t3]) t4 = some (.tup [.ref t3]) := upd_same
  generalize upd H3 t4 (.tup [.ref t3]) = H4 at g4 e4 ⊢
  refine ⟨by show 2 ≤ sizeLine; decide, fun t5 n5 => ?_⟩
  have g5 : Gr H4 (upd H4 t5 (.tup [.ref t1, .ref t4])) := Gr.new n5
  refine q _ _ ((((g1.trans g2).trans g3).trans g4).trans g5) ?_
  have f1 := g5.tup (g4.tup (g3.tup (g2.tup e1)))
  have f2 := g5.tup (g4.tup (g3.tup e2))
  have f3 := g5.tup (g4.tup e3)
  have f4 := g5.tup e4
  exact .tup (.inl (.inl upd_same)) (.cons (.tup (.inl (.inl f1)) (.cons (.str _) .nil)) (.cons (.tup (.inl (.inl f4)) (.cons (.tup (.inl (.inl f3)) (.cons (.str _) (.cons (.tup (.inl (.inl f2)) (.cons (.str _) (.cons (.int _) .nil))) (.cons (.str _) .nil)))) .nil)) .nil))
/-- BadRow, BadFace and OutOfPlace, held -/
structure Thr (K : PySem.W.Frag) (mg : Str → Option Value) (CR C CO CF : Addr) : Prop where
  gF : mg "FaceError" = some (.ref CF)
  xR : PySem.W.exmOne K (.ref CR) (.ref CF) = some true
  xC : PySem.W.exmOne K (.ref C) (.ref CF) = some true
  xO : PySem.W.exmOne K (.ref CO) (.ref CF) = some true
  kR : Kxs K mg CR (bsAt 0)
  kC : Kxs K mg C (bsAt 1)
  kO : Kxs K mg CO (bsAt 7)
/-- what read_face refuses -/
def NoText (d : PyData) : Prop := ∀ z, d = .str z → Tx z ∧ ∃ e, rdF (rwOf z) = .inl e
def Told1 (H : Hp) (Q : VK) (z : Str) : Prop := ∀ H' p, Gr H H' → H' p = some (.lst [.str z]) → Q (.ref p) H'
def spTold6 (K : PySem.W.Frag) : Sp := fun vs H Q _ =>
  (∃ (x : V) (d : PyData), vs = [.int 0, x] ∧ Dx K H x d ∧ (Go d ∨ ∃ i, d = .int i) ∧ NoText d ∧ Told1 H Q "row") ∨
  (∃ (z : Str) (hd : _) (ds : _), vs = [.int 0, .str z] ∧ Go (.str z) ∧ Tx z ∧ rdF (rwOf z) = .inr (hd, ds) ∧ ∀ H', Gr H H' → Q .non H') ∨
  (∃ (x : V) (d : PyData) (p : Option Str) (m : Option Nat), vs = [.int 1, x] ∧ Dx K H x d ∧ (Go d ∨ ∃ i, d = .int i) ∧ fltD d = some (p, m) ∧ Told1 H Q "face") ∨
  (∃ (y : V) (T : String), vs = [.int 2, y] ∧ Is K H y T ∧ (∀ z, y = .str z → z ≠ "b") ∧ Told1 H Q "place") ∨
  (vs = [.int 2, .str "b"] ∧ ∀ H', Gr H H' → Q .non H')
set_option maxHeartbeats 2000000 in
theorem ok_told6 {f fK fN fR fG C CR CO CF : Addr} {fd fdK dN dR dG : FuncData} {k : Nat} (F : Fun K "_law_told" "_law_told" sTold f fd) (HN : HasX P w K mg base k "need_face" ["face"] (spBadF K C) fN dN) (HR : HasX P w K mg base k "read_face" ["text"] (spReadFX K CR) fR dR)
    (HG : HasX P w K mg base k "gives_of" ["face", "name"] (spTG K CO fun e => e.gv.d) fG dG) (T : Thr K mg CR C CO CF)
    (HK : Has P w K mg base k "_law_kinds" ["_law_error"] (spKinds K mg) fK fdK) : FnOk P w K mg base CX0 (k + 1) f fd ["_law_way", "_law_thing"] (spTold6 K) := by
  refine F.ok scTold (fun vs H Q E h => ?_) (fun cdv A outer s H vs Q E hr h => ?_)
  · rcases h with ⟨x, d, rfl, _⟩ | ⟨z, hd, ds, rfl, _⟩ | ⟨x, d, p, m, rfl, _⟩ | ⟨y, T, rfl, _⟩ | ⟨rfl, _⟩ <;> rfl
  · have nd := scTold.nd
    refine' ⟨_, pss_cons ?s1 (pss_cons ?s2 (pss_one ?s3)), ?rd⟩
    case s1 => exact ps_set (i := 2) nd rfl (.inl rfl) pe_non
    case s2 =>
      exact ps_try_keep (i := 3) (ts := fun a cls d => tAsg (tVar 3) (gName 2)) (Wout := fun _ _ _ _ => False) rfl rfl rfl nd rfl rfl ⟨rfl, by decide, .inl T.gF⟩ takes0
        (fun W pn xe tk _ => pss_one (ps_if (pt_cmpR op_eq (pv 0) pe_int (nomark _))
          (pss_one (ps_expr (pe_callS HR.ok hr rfl HR.at_ HR.kp HR.bd (fun σ => passAt tk σ) (pa_cons (pv 1) pa_nil))))
          (pss_one (ps_if (pt_cmpR op_eq (pv 0) pe_int (nomark _))
            (pss_one (ps_expr (pe_callS HN.ok hr rfl HN.at_ HN.kp HN.bd (fun σ => passAt tk σ) (pa_cons (pv 1) pa_nil))))
            (pss_one (ps_expr (pe_callS HG.ok hr rfl HG.at_ HG.kp HG.bd (fun σ => passAt tk σ)
              (pa_cons (pe_tup (pa_cons (pe_tup (pa_cons pe_str pa_nil)) (pa_cons (pe_tup (pa_cons (pe_tup (pa_cons pe_str (pa_cons (pe_tup (pa_cons pe_str (pa_cons pe_int pa_nil))) (pa_cons pe_str pa_nil)))) pa_nil)) pa_nil)))
                (pa_cons (pv 1) pa_nil)))))))))
        (fun a oe cls d pn hz hf => pss_one (ps_set (i := 2) nd rfl (.inl rfl) (pv 3)))
        (by
          rintro D cls d σ H ⟨b, e, _, hn⟩
          cases b with
          | true => exact e
          | false => exact (hn rfl).elim)
    case s3 =>
      exact ps_ret (pe_ifExp (pt_cmpR op_isN (pv 2) pe_non (nomark _)) pe_non (hcall HK hr (pa_cons (pv 2) pa_nil)))
    case rd =>
    have k0 : kdT (kdW.zip (bsAt 0)) = [.str "row"] := rfl
    have k1 : kdT (kdW.zip (bsAt 1)) = [.str "face"] := rfl
    have k7 : kdT (kdW.zip (bsAt 7)) = [.str "place"] := rfl
    rcases h with ⟨x, d, rfl, hx, go, hn, q⟩ | ⟨z, hd, ds, rfl, go, tz, hz, q⟩ | ⟨x, d, pp, no, rfl, hx, go, hf, q⟩ | ⟨y, Ty, rfl, hy, hb, q⟩ | ⟨rfl, q⟩
    · refine ⟨_, rfl, rfl, _, rfl, iteT ?_⟩
      refine ⟨_, rfl, x, d, rfl, hx, go, fun _ H1 dd g1 hd => ?_, fun z ez => ⟨(hn z ez).1, fun e he H1 dd g1 hd => ?_, fun hd ds hh => ?_⟩⟩
      rotate_left 2
      · obtain ⟨_, e, he⟩ := hn z ez
        rw [hh] at he
        cases he
      all_goals
        refine ⟨true, T.xR, fun _ a na => ?_, fun z => by cases z⟩
        have ek := fresh_ek (C := CR) hd na
        refine ⟨_, rfl, ?_⟩
        exact ⟨_, rfl, rfl, _, rfl, iteF ⟨_, rfl, a, CR, bsAt 0, rfl, .inl ek.ek, T.kR, fun H3 p g3 hp => q H3 p ((g1.trans (Gr.new na)).trans g3) (k0 ▸ hp)⟩⟩
    · refine ⟨_, rfl, rfl, _, rfl, iteT ?_⟩
      refine ⟨_, rfl, .str z, .str z, rfl, .str _, .inl go, (fun h => by cases h), fun z' e' => ?_⟩
      cases e'
      refine ⟨tz, (fun e he => by rw [hz] at he; cases he), fun hd' ds' he H1 v g1 hv => ?_⟩
      exact ⟨_, rfl, rfl, _, rfl, iteT (q H1 g1)⟩
    · refine ⟨_, rfl, rfl, _, rfl, iteF ⟨_, rfl, rfl, _, rfl, iteT ?_⟩⟩
      refine ⟨_, rfl, x, d, pp, no, rfl, hx, go, hf, fun H1 dd g1 hd => ?_⟩
      refine ⟨true, T.xC, fun _ a na => ?_, fun z => by cases z⟩
      have ek := fresh_ek (C := C) hd na
      refine ⟨_, rfl, ?_⟩
      exact ⟨_, rfl, rfl, _, rfl, iteF ⟨_, rfl, a, C, bsAt 1, rfl, .inl ek.ek, T.kC, fun H3 p g3 hp => q H3 p ((g1.trans (Gr.new na)).trans g3) (k1 ▸ hp)⟩⟩
    · refine ⟨_, rfl, rfl, _, rfl, iteF ⟨_, rfl, rfl, _, rfl, iteF ?_⟩⟩
      refine drop_1 (mk_fcT fun H1 v g1 hv => ⟨_, rfl, v, y, fcT, Ty, rfl, hv, go_fcT, is_gr g1 hy, .inr ⟨fun z ez hm => hb z ez (List.mem_singleton.mp hm), fun H2 g2 => ?_⟩⟩)
      refine ⟨true, T.xO, fun _ a na => ?_, fun z => by cases z⟩
      refine ⟨_, rfl, ?_⟩
      exact ⟨_, rfl, rfl, _, rfl, iteF ⟨_, rfl, a, CO, bsAt 7, rfl, .inl fresh_ek0, T.kO, fun H3 p g3 hp => q H3 p (((g1.trans g2).trans (Gr.new na)).trans g3) (k7 ▸ hp)⟩⟩
    · refine ⟨_, rfl, rfl, _, rfl, iteF ⟨_, rfl, rfl, _, rfl, iteF ?_⟩⟩
      refine drop_1 (mk_fcT fun H1 v g1 hv => ⟨_, rfl, v, .str "b", fcT, "str", rfl, hv, go_fcT, ⟨.base (.str _), by decide +kernel⟩, .inl ⟨"b", _, 0, rfl, rfl, rfl, fun H2 v2 g2 hv2 => ?_⟩⟩)
      exact ⟨_, rfl, rfl, _, rfl, iteT (q H2 (g1.trans g2))⟩
end
end SfC
/-! faces that are compared -/
namespace SfC
open PySem PySem.Spec PyProof.Rows L2 SfG
/-- can be compared, so deep -/
structure Cm (d : PyData) (D : Nat) : Prop where
  lay : d.canLay0 = true
  dep : d.depth ≤ D
theorem Cm.shaped {d : PyData} {D : Nat} (h : Cm d D) (hD : D ≤ 64) : SeqAt.shaped d = true := by
  unfold SeqAt.shaped
  rw [h.lay, decide_eq_true (Nat.le_trans h.dep hD)]
  rfl
theorem Cm.mono {d : PyData} {D D' : Nat} (h : Cm d D) (hD : D ≤ D') : Cm d D' := ⟨h.lay, Nat.le_trans h.dep hD⟩
theorem cm_all {D : Nat} : ∀ {ds : List PyData}, (∀ d ∈ ds, Cm d D) → PyData.canLayAll0 ds = true ∧ PyData.depthAll ds ≤ D
  | [], _ => ⟨rfl, by simp [PyData.depthAll]⟩
  | d :: r, h => by
    obtain ⟨a, b⟩ := cm_all (D := D) (ds := r) fun x hx => h x (.tail _ hx)
    have hd := h d (.head _)
    refine ⟨by rw [PyData.canLayAll0, hd.lay, a]; rfl, ?_⟩
    rw [PyData.depthAll]
    exact Nat.max_le.mpr ⟨hd.dep, b⟩
theorem cm_tup {D : Nat} {ds : List PyData} (h : ∀ d ∈ ds, Cm d D) : Cm (.tuple ds) (D + 1) := by
  obtain ⟨a, b⟩ := cm_all h
  refine ⟨by rw [PyData.canLay0]; exact a, ?_⟩
  rw [PyData.depth]
  omega
theorem cm_lst {D : Nat} {ds : List PyData} (h : ∀ d ∈ ds, Cm d D) : Cm (.list ds) (D + 1) := by
  obtain ⟨a, b⟩ := cm_all h
  refine ⟨by rw [PyData.canLay0]; exact a, ?_⟩
  rw [PyData.depth]
  omega
theorem cm_name {z : Str} (h : isN z = true) : Cm (.str z) 1 := by
  refine ⟨?_, by simp [PyData.depth]⟩
  rw [PyData.canLay0]
  have lo : ∀ c ∈ z.cps.toList, c < 128 := fun c hc => let_range (List.all_eq_true.mp (isN_txt h).2.2.2.2.2 c hc)
  show z.cps.all (fun c => decide (c < 0x110000)) = true
  rw [← Array.all_toList]
  exact List.all_eq_true.mpr fun c hc => decide_eq_true (Nat.lt_of_lt_of_le (lo c hc) (by decide))
theorem cm_kn {hd : List Str} {k : Kn} (hn : ∀ z ∈ hd, isN z = true) (h : goK hd k) : Cm k.d 1 := by
  cases k with
  | h s => exact cm_name (hn s h)
  | p n => exact ⟨by rw [Kn.d, PyData.canLay0], by simp [Kn.d, PyData.depth]⟩
theorem cm_kns {hd : List Str} {l : List Kn} (hn : ∀ z ∈ hd, isN z = true) (h : ∀ k ∈ l, goK hd k) : Cm (.tuple (l.map Kn.d)) 2 := cm_tup fun d hd => by
  obtain ⟨k, hk, rfl⟩ := List.mem_map.mp hd
  exact cm_kn hn (h k hk)
theorem cm_names {l : List Str} (h : ∀ z ∈ l, isN z = true) : Cm (.list (l.map .str)) 2 := cm_lst fun d hd => by
  obtain ⟨k, hk, rfl⟩ := List.mem_map.mp hd
  exact cm_name (h k hk)
theorem cm_face {f : Fc} (go : goF f) : Cm f.d 5 := by
  have h1 : Cm (.tuple (f.hd.map .str)) 4 := (cm_tup (D := 1) fun d hd => by
    obtain ⟨k, hk, rfl⟩ := List.mem_map.mp hd
    exact cm_name (go.hid.nm k hk)).mono (by decide)
  have h2 : Cm (.tuple (f.ds.map De.d)) 4 := cm_tup (D := 3) fun d hd => by
    obtain ⟨e, he, rfl⟩ := List.mem_map.mp hd
    have gd := go.ok e he
    refine cm_tup (D := 2) fun x hx => ?_
    have hx' : x = .str e.nm ∨ x = .tuple (e.tk.map Kn.d) ∨ x = e.gv.d := by simpa using hx
    rcases hx' with rfl | rfl | rfl
    · exact (cm_name gd.nm).mono (by decide)
    · exact cm_kns go.hid.nm gd.tk
    · exact (cm_kn go.hid.nm gd.gv).mono (by decide)
  refine cm_tup (D := 4) fun x hx => ?_
  have hx' : x = .tuple (f.hd.map .str) ∨ x = .tuple (f.ds.map De.d) := by simpa using hx
  rcases hx' with rfl | rfl
  · exact h1
  · exact h2
end SfC
namespace SfC
open PySem PySem.Spec PyProof.Rows L2 SfG
/-! ### _law_by_hand: its statements -/
abbrev nHand : List Str := ["_law_number", "_law_made", "_law_told_here", "_law_more", "_law_last", "_law_names", "_law_error", "_law_name"]
theorem scHand : FnScope nHand ["_law_number"] (defScope sByHand) := ⟨rfl, rfl, rfl, by decide +kernel, rfl, by decide +kernel, by decide +kernel⟩
theorem ex_lst {H : Hp} {D a l : Addr} {fs : List (Str × V)} {xs ys : List V} (h : Ex H D a fs) (hl : H l = some (.lst xs)) : Ex (upd H l (.lst ys)) D a fs := by
  obtain ⟨dx, h1, h2⟩ := h
  refine ⟨dx, ?_, ?_⟩
  · rw [upd_ne (fun e => ?_)]
    · exact h1
    · rw [e, hl] at h1
      have z : HO.lst xs = HO.ext _ := Option.some.inj h1
      cases z
  · rw [upd_ne (fun e => ?_)]
    · exact h2
    · rw [e, hl] at h2
      have z : HO.lst xs = HO.ext _ := Option.some.inj h2
      cases z
theorem hand2 {C a dx : Addr} {f1 f2 : Str} {x y : V} {H H1 : Hp} (na : H a = none) (g : Gr (upd H a (exo a C none)) H1) (nd : H1 dx = none) (ne : dx ≠ a) :
    Gr H (upd (upd (upd H1 dx (exd dx [(f1, x)])) a (exo a C (some dx))) dx (exd dx [(f2, y), (f1, x)])) ∧ Ex (upd (upd (upd H1 dx (exd dx [(f1, x)])) a (exo a C (some dx))) dx (exd dx [(f2, y), (f1, x)])) C a [(f2, y), (f1, x)] := by
  refine ⟨?_, dx, ?_, upd_same⟩
  · refine gr_madeV (o3 := fun h => upd h dx (exd dx [(f2, y), (f1, x)])) na g nd (fun b h1 h2 => by rw [upd_ne h2, upd_ne h1, upd_ne h2]) (fun l h => ?_)
    have l1 : l ≠ dx := fun e => by rw [e, upd_same] at h; cases h
    refine ⟨fun e => ?_, l1⟩
    rw [upd_ne l1, e, upd_same] at h
    cases h
  · rw [upd_ne (Ne.symm ne), upd_same]
theorem cmF (d : PyData) (h : d = .none ∨ (∃ i, d = .int i) ∨ ∃ z : Str, d = .str z ∧ PyData.canLay0 (.str z) = true) : Cm d 1 := by
  rcases h with rfl | ⟨i, rfl⟩ | ⟨z, rfl, h⟩
  · exact ⟨by rw [PyData.canLay0], by simp [PyData.depth]⟩
  · exact ⟨by rw [PyData.canLay0], by simp [PyData.depth]⟩
  · exact ⟨h, by simp [PyData.depth]⟩
/-- a class of refusals with an __init__ of its own: where it stands, how it is made, how a field is read -/
structure MkC (P : Program) (w : World) (K : PySem.W.Frag) (mg : Str → Option Value) (base : Heap) (k : Nat) (x : Str) (ps : List Str) (f1 f2 : Str) (sp : Sp) (C fI : Addr) (fd : FuncData) : Prop where
  T : OexC K C
  i : PySem.W.findIn K (.ref C) "__init__" = some (some (.ref fI))
  t : PySem.W.typeIn K (.ref fI) = some (.type "function")
  F : FnOk P w K mg base CX0 k fI fd ps sp
  b : Binds K fd ps []
  g : mg x = some (.ref C)
  X : XfC K C
  n1 : PySem.W.findIn K (.ref C) f1 = some none
  n2 : PySem.W.findIn K (.ref C) f2 = some none
/-- a refusal of one kind -/
def One (K : PySem.W.Frag) (mg : Str → Option Value) (H : Hp) (y : V) (z : Str) : Prop := ∃ (a D : Addr) (bs : List Bool), y = .ref a ∧ Ey H D a ∧ Kxs K mg D bs ∧ kdT (kdW.zip bs) = [.str z]
theorem One.gr {K : PySem.W.Frag} {mg : Str → Option Value} {H H' : Hp} {y : V} {z : Str} (h : One K mg H y z) (g : Gr H H') : One K mg H' y z := by
  obtain ⟨a, D, bs, h1, h2, h3, h4⟩ := h
  exact ⟨a, D, bs, h1, h2.gr g, h3, h4⟩
def AllK (K : PySem.W.Frag) (mg : Str → Option Value) (H : Hp) : List V → List Str → Prop
  | [], [] => True
  | y :: ys, z :: zs => One K mg H y z ∧ AllK K mg H ys zs
  | _, _ => False
theorem allK_at {K : PySem.W.Frag} {mg : Str → Option Value} {H : Hp} : ∀ {ys : List V} {zs : List Str} {i : Nat} {y : V}, AllK K mg H ys zs → ys[i]? = some y → ∃ z, zs[i]? = some z ∧ One K mg H y z
  | [], _, i, y, _, h => by simp at h
  | _ :: _, [], _, _, h, _ => h.elim
  | x :: r, z :: zs, 0, y, h, e => ⟨z, rfl, by cases e; exact h.1⟩
  | x :: r, z :: zs, i + 1, y, h, e => by
    obtain ⟨u, hu, o⟩ := allK_at (i := i) h.2 (by simpa using e)
    exact ⟨u, by simpa using hu, o⟩
theorem allK_len {K : PySem.W.Frag} {mg : Str → Option Value} {H : Hp} : ∀ {ys : List V} {zs : List Str}, AllK K mg H ys zs → ys.length = zs.length
  | [], [], _ => rfl
  | [], _ :: _, h => h.elim
  | _ :: _, [], h => h.elim
  | _ :: _, _ :: _, h => by
    rw [List.length_cons, List.length_cons, allK_len h.2]
/-- lists of one word each, away from D -/
def Lz (H : Hp) (D : Addr) : List V → List Str → Prop
  | [], [] => True
  | y :: ys, z :: zs => (∃ p, y = .ref p ∧ p ≠ D ∧ H p = some (.lst [.str z])) ∧ Lz H D ys zs
  | _, _ => False
theorem Lz.gr {H H' : Hp} {D : Addr} (g : Gr H H') : ∀ {ys : List V} {zs : List Str}, Lz H D ys zs → Lz H' D ys zs
  | [], [], _ => trivial
  | [], _ :: _, h => h.elim
  | _ :: _, [], h => h.elim
  | _ :: _, _ :: _, h => by
    obtain ⟨⟨p, e, n, hp⟩, t⟩ := h
    exact ⟨⟨p, e, n, g.lst hp⟩, Lz.gr g t⟩
theorem Lz.up {H : Hp} {D : Addr} {o : HO} : ∀ {ys : List V} {zs : List Str}, Lz H D ys zs → Lz (upd H D o) D ys zs
  | [], [], _ => trivial
  | [], _ :: _, h => h.elim
  | _ :: _, [], h => h.elim
  | _ :: _, _ :: _, h => by
    obtain ⟨⟨p, e, n, hp⟩, t⟩ := h
    exact ⟨⟨p, e, n, by rw [upd_ne n]; exact hp⟩, Lz.up t⟩
theorem Lz.app {H : Hp} {D p : Addr} {z : Str} (n : p ≠ D) (hp : H p = some (.lst [.str z])) : ∀ {ys : List V} {zs : List Str}, Lz H D ys zs → Lz H D (ys ++ [.ref p]) (zs ++ [z])
  | [], [], _ => ⟨⟨p, rfl, n, hp⟩, trivial⟩
  | [], _ :: _, h => h.elim
  | _ :: _, [], h => h.elim
  | _ :: _, _ :: _, h => ⟨h.1, Lz.app n hp h.2⟩
theorem Lz.dp {K : PySem.W.Frag} {H : Hp} {D : Addr} : ∀ {ys : List V} {zs : List Str}, Lz H D ys zs → DpAll K H ys (zs.map fun z => .list [.str z])
  | [], [], _ => .nil
  | [], _ :: _, h => h.elim
  | _ :: _, [], h => h.elim
  | _ :: _, _ :: _, h => by
    obtain ⟨⟨p, rfl, n, hp⟩, t⟩ := h
    exact .cons (.lst (.inl (.inl hp)) (.cons (.str _) .nil)) (Lz.dp t)
theorem Lz.len {H : Hp} {D : Addr} : ∀ {ys : List V} {zs : List Str}, Lz H D ys zs → ys.length = zs.length
  | [], [], _ => rfl
  | [], _ :: _, h => h.elim
  | _ :: _, [], h => h.elim
  | _ :: _, _ :: _, h => by
    rw [List.length_cons, List.length_cons, Lz.len h.2]
theorem Lz.ne {H : Hp} {D : Addr} {z : Str} : ∀ {ys : List V} {zs : List Str}, Lz H D ys zs → ys ≠ [.str z]
  | [], _, _ => fun h => by cases h
  | _ :: _, [], h => h.elim
  | _ :: _, _ :: _, h => fun e => by
    obtain ⟨⟨p, rfl, _⟩, _⟩ := h
    cases e
def wHand : List Str := ["row", "face", "making", "user", "steps", "lead", "program", "module", "use", "paper", "input", "apart", "face", "lead", "program", "paper", "refused", "place", "great"]
/-- one without -/
structure OoC (K : PySem.W.Frag) (mg : Str → Option Value) (x : Str) (C : Addr) : Prop where
  g : mg x = some (.ref C)
  x : PySem.W.excIn K C [.type "ValueError", .type "Exception", .type "BaseException", .type "object"] "ValueError.__new__" = true
  k : PySem.W.keepIn K (.ref C) = true
theorem pe_mk {X : Cx} {e : Expr} {es : List Expr} {ta : TA} {p pos : Pos} {k : Nat} {x f1 f2 : Str} {ps : List Str} {sp : Sp} {C fI : Addr} {fd : FuncData} (M : MkC X.prog X.w X.K X.mg X.base k x ps f1 f2 sp C fI fd) (hr : Room (k + 1) X.A) (ha : PA X (e :: es) ta) (hg : Gl X x := by rfl)
    (hdb : (x == ("__debug__" : Str)) = false := by decide) (he : starEach (e :: es) X.env = (false, eval e X.env) :: starEach es X.env := by rfl) (hpl : (backTo pos (starEach es X.env)).any (·.1) = false := by rfl) :
    PE X (.Call (.Name x p) (e :: es) [] pos) (tMkV C sp [] ta) := pe_oex M.T M.i M.t M.F hr M.b .nil pass0 hg M.g ha hdb he hpl
section
variable {P : Program} {w : World} {K : PySem.W.Frag} {mg : Str → Option Value} {base : Heap}
def spHand : Sp := fun vs H Q _ => ∃ n : Int, vs = [.int n] ∧ ∀ H', Gr H H' → Q (.bl true) H'
set_option maxHeartbeats 4000000 in
theorem ok_hand {f fK C0 C1 C2 C3 C4 C5 C6 C7 C8 C9 CA CI D1 D2 D3 I0 I1 I2 I3 I4 I5 I6 I7 I8 I9 IA II : Addr} {fd fdK d0 d1 d2 d3 d4 d5 d6 d7 d8 d9 dA dI : FuncData} {k : Nat} (F : Fun K "_law_by_hand" "_law_by_hand" sByHand f fd)
    (M0 : MkC P w K mg base k "BadRow" ["self", "row", "word"] "row" "word" (spIni C0 "row" "word") C0 I0 d0)
    (M1 : MkC P w K mg base k "BadFace" ["self", "part", "number"] "part" "number" (spIni C1 "part" "number") C1 I1 d1)
    (M2 : MkC P w K mg base k "BadMaking" ["self", "part", "number"] "part" "number" (spIni C2 "part" "number") C2 I2 d2)
    (M3 : MkC P w K mg base k "BadUser" ["self", "row", "place"] "row" "place" (spIni C3 "row" "place") C3 I3 d3)
    (M5 : MkC P w K mg base k "BadLead" ["self", "kind", "number"] "kind" "number" (spIni C5 "kind" "number") C5 I5 d5)
    (M6 : MkC P w K mg base k "BadProgram" ["self", "row", "place"] "row" "place" (spIni C6 "row" "place") C6 I6 d6)
    (M7 : MkC P w K mg base k "BadModule" ["self", "part", "number"] "part" "number" (spIni C7 "part" "number") C7 I7 d7)
    (M4 : MkC P w K mg base k "BadSteps" ["self", "number"] "number" "number" (spIni1 C4 "number") C4 I4 d4)
    (M8 : MkC P w K mg base k "BadUse" ["self", "number"] "number" "number" (spIni1 C8 "number") C8 I8 d8)
    (MI : MkC P w K mg base k "BadInput" ["self", "number"] "number" "number" (spIni1 CI "number") CI II dI)
    (M9 : MkC P w K mg base k "BadPaper" ["self", "place"] "place" "place" (spIniP K C9) C9 I9 d9)
    (MA : MkC P w K mg base k "ToldApart" ["self", "user"] "user" "user" (spIniA CA "user") CA IA dA)
    (O1 : OoC K mg "Refused" D1) (O2 : OoC K mg "OutOfPlace" D2) (O3 : OoC K mg "TooGreat" D3)
    (kC0 : Kxs K mg C0 (bsAt 0)) (kC1 : Kxs K mg C1 (bsAt 1)) (kC2 : Kxs K mg C2 (bsAt 2)) (kC3 : Kxs K mg C3 (bsAt 3)) (kC4 : Kxs K mg C4 (bsAt 4)) (kC5 : Kxs K mg C5 (bsAt 5)) (kC6 : Kxs K mg C6 (bsAt 10)) (kC7 : Kxs K mg C7 (bsAt 11)) (kC8 : Kxs K mg C8 (bsAt 13)) (kC9 : Kxs K mg C9 (bsAt 9)) (kCI : Kxs K mg CI (bsAt 14)) (kCA : Kxs K mg CA (bsAt 6)) (kD1 : Kxs K mg D1 (bsAt 12)) (kD2 : Kxs K mg D2 (bsAt 7)) (kD3 : Kxs K mg D3 (bsAt 8))
    (HK : Has P w K mg base (k + 1) "_law_kinds" ["_law_error"] (spKinds K mg) fK fdK) :
    FnOk P w K mg base CX0 (k + 2) f fd ["_law_number"] spHand := by
  refine F.ok scHand (fun vs H Q E h => ?_) (fun cdv A outer s H vs Q E hr h => ?_)
  · obtain ⟨n, rfl, _⟩ := h
    rfl
  · obtain ⟨n, rfl, q⟩ := h
    have nd := scHand.nd
    refine' ⟨_, pss_cons ?s1 (pss_cons ?s2 (pss_cons ?s3 (pss_cons ?s4 (pss_cons ?s5 (pss_cons ?s6 (pss_cons ?s7 (pss_cons ?s8 (pss_cons ?s9 (pss_cons ?s10 (pss_cons ?s11 (pss_cons ?s12 (pss_cons ?s13 (pss_cons ?s14 (pss_cons ?s15 (pss_one ?s16))))))))))))))), ?rd⟩
    case s1 => exact ps_set (i := 1) nd rfl (.inl rfl) (pe_lst (pa_cons (pe_mk M0 hr (pa_cons (pv 0) (pa_cons pe_int pa_nil))) (pa_cons (pe_mk M1 hr (pa_cons pe_str (pa_cons (pv 0) pa_nil))) (pa_cons (pe_mk M2 hr (pa_cons pe_str (pa_cons (pv 0) pa_nil))) (pa_cons (pe_mk M3 hr (pa_cons (pv 0) (pa_cons pe_non pa_nil))) pa_nil)))))
    case s2 => exact ps_expr (pe_bm PySem.F.plainAttrs_list PySem.F.slot_list_append PySem.F.type_list_append mt_append (pv 1) (pa_cons (pe_mk M4 hr (pa_cons pe_non pa_nil)) pa_nil))
    case s3 => exact ps_set (i := 2) nd rfl (.inl rfl) (pe_lst (pa_cons (pe_xf M0.X M0.n1 (pe_ix ix_list (pv 1) pe_int (fun _ _ => rfl))) (pa_cons (pe_xf M0.X M0.n2 (pe_ix ix_list (pv 1) pe_int (fun _ _ => rfl))) (pa_cons (pe_xf M1.X M1.n1 (pe_ix ix_list (pv 1) pe_int (fun _ _ => rfl))) (pa_cons (pe_xf M1.X M1.n2 (pe_ix ix_list (pv 1) pe_int (fun _ _ => rfl))) (pa_cons (pe_xf M2.X M2.n1 (pe_ix ix_list (pv 1) pe_int (fun _ _ => rfl))) (pa_cons (pe_xf M2.X M2.n2 (pe_ix ix_list (pv 1) pe_int (fun _ _ => rfl))) (pa_cons (pe_xf M3.X M3.n1 (pe_ix ix_list (pv 1) pe_int (fun _ _ => rfl))) pa_nil))))))))
    case s4 => exact ps_if (pt_cmpR (op_neD hr.units) (pe_op op_cat (pv 2) (pe_lst (pa_cons (pe_xf M3.X M3.n2 (pe_ix ix_list (pv 1) pe_int (fun _ _ => rfl))) (pa_cons (pe_xf M4.X M4.n1 (pe_ix ix_list (pv 1) pe_int (fun _ _ => rfl))) pa_nil)))) (pe_lst (pa_cons (pv 0) (pa_cons pe_int (pa_cons pe_str (pa_cons (pv 0) (pa_cons pe_str (pa_cons (pv 0) (pa_cons (pv 0) (pa_cons pe_non (pa_cons pe_non pa_nil)))))))))) (nomark _)) pss_never pss_nil
    case s5 => exact ps_set (i := 3) nd rfl (.inl rfl) (pe_lst (pa_cons (pe_mk M5 hr (pa_cons pe_str (pa_cons (pv 0) pa_nil))) (pa_cons (pe_mk M6 hr (pa_cons (pv 0) (pa_cons pe_int pa_nil))) (pa_cons (pe_mk M7 hr (pa_cons pe_str (pa_cons (pv 0) pa_nil))) (pa_cons (pe_mk M8 hr (pa_cons (pv 0) pa_nil)) pa_nil)))))
    case s6 => exact ps_expr (pe_bm PySem.F.plainAttrs_list PySem.F.slot_list_append PySem.F.type_list_append mt_append (pv 3) (pa_cons (pe_mk M9 hr (pa_cons (pe_tup (pa_cons pe_int (pa_cons (pv 0) pa_nil))) pa_nil)) pa_nil))
    case s7 => exact ps_set (i := 2) nd rfl (.inl rfl) (pe_lst (pa_cons (pe_xf M5.X M5.n1 (pe_ix ix_list (pv 3) pe_int (fun _ _ => rfl))) (pa_cons (pe_xf M5.X M5.n2 (pe_ix ix_list (pv 3) pe_int (fun _ _ => rfl))) (pa_cons (pe_xf M6.X M6.n1 (pe_ix ix_list (pv 3) pe_int (fun _ _ => rfl))) (pa_cons (pe_xf M6.X M6.n2 (pe_ix ix_list (pv 3) pe_int (fun _ _ => rfl))) (pa_cons (pe_xf M7.X M7.n1 (pe_ix ix_list (pv 3) pe_int (fun _ _ => rfl))) (pa_cons (pe_xf M7.X M7.n2 (pe_ix ix_list (pv 3) pe_int (fun _ _ => rfl))) (pa_cons (pe_xf M8.X M8.n1 (pe_ix ix_list (pv 3) pe_int (fun _ _ => rfl))) pa_nil))))))))
    case s8 => exact ps_if (pt_cmpR (op_neD hr.units) (pe_op op_cat (pv 2) (pe_lst (pa_cons (pe_xf M9.X M9.n1 (pe_ix ix_list (pv 3) pe_int (fun _ _ => rfl))) pa_nil))) (pe_lst (pa_cons pe_str (pa_cons (pv 0) (pa_cons (pv 0) (pa_cons pe_int (pa_cons pe_str (pa_cons (pv 0) (pa_cons (pv 0) (pa_cons (pe_tup (pa_cons pe_int (pa_cons (pv 0) pa_nil))) pa_nil))))))))) (nomark _)) pss_never pss_nil
    case s9 => exact ps_set (i := 4) nd rfl (.inl rfl) (pe_lst (pa_cons (pe_mk MA hr (pa_cons (pe_tup (pa_cons (pe_tup (pa_cons pe_str (pa_cons (pe_tup pa_nil) pa_nil))) pa_nil)) pa_nil)) (pa_cons (pe_mk M1 hr (pa_cons pe_non (pa_cons pe_non pa_nil))) (pa_cons (pe_mk M5 hr (pa_cons pe_non (pa_cons pe_non pa_nil))) (pa_cons (pe_mk M6 hr (pa_cons pe_non (pa_cons pe_non pa_nil))) (pa_cons (pe_mk M9 hr (pa_cons pe_non pa_nil)) pa_nil))))))
    case s10 => exact ps_if (PW.pt (pw_or (pt_cmpR op_ne (pe_xf MI.X MI.n1 (pe_mk MI hr (pa_cons (pv 0) pa_nil))) (pv 0) (nomark _)) (pw_or1 (pt_cmpR op_notN (pe_xf MI.X MI.n1 (pe_mk MI hr (pa_cons pe_non pa_nil))) pe_non (nomark _))))) pss_never pss_nil
    case s11 => exact ps_set (i := 2) nd rfl (.inl rfl) (pe_lst (pa_cons (pe_xf MA.X MA.n1 (pe_ix ix_list (pv 4) pe_int (fun _ _ => rfl))) (pa_cons (pe_xf M1.X M1.n1 (pe_ix ix_list (pv 4) pe_int (fun _ _ => rfl))) (pa_cons (pe_xf M5.X M5.n1 (pe_ix ix_list (pv 4) pe_int (fun _ _ => rfl))) (pa_cons (pe_xf M6.X M6.n1 (pe_ix ix_list (pv 4) pe_int (fun _ _ => rfl))) (pa_cons (pe_xf M9.X M9.n1 (pe_ix ix_list (pv 4) pe_int (fun _ _ => rfl))) (pa_cons (pe_xf M5.X M5.n2 (pe_ix ix_list (pv 4) pe_int (fun _ _ => rfl))) pa_nil)))))))
    case s12 => exact ps_if (pt_cmpR (op_neD hr.units) (pv 2) (pe_lst (pa_cons (pe_tup (pa_cons (pe_tup (pa_cons pe_str (pa_cons (pe_tup pa_nil) pa_nil))) pa_nil)) (pa_cons pe_non (pa_cons pe_non (pa_cons pe_non (pa_cons pe_non (pa_cons pe_non pa_nil))))))) (nomark _)) pss_never pss_nil
    case s13 => exact ps_set (i := 5) nd rfl (.inl rfl) (pe_lst (pa_cons pe_str (pa_cons pe_str (pa_cons pe_str (pa_cons pe_str (pa_cons pe_str (pa_cons pe_str (pa_cons pe_str (pa_cons pe_str (pa_cons pe_str (pa_cons pe_str pa_nil)))))))))))
    case s14 => exact ps_set (i := 5) nd rfl (.inl rfl) (pe_op op_cat (pv 5) (pe_lst (pa_cons pe_str (pa_cons pe_str (pa_cons pe_str (pa_cons pe_str (pa_cons pe_str (pa_cons pe_str (pa_cons pe_str (pa_cons pe_str (pa_cons pe_str pa_nil)))))))))))
    case s15 => exact ps_set (i := 1) nd rfl (.inl rfl) (pe_op op_cat (pe_op op_cat (pe_op op_cat (pe_op op_cat (pv 1) (pv 3)) (pe_lst (pa_cons (pe_mk MI hr (pa_cons (pv 0) pa_nil)) pa_nil))) (pv 4)) (pe_lst (pa_cons (pe_exc1 PySem.F.excBase_ValueError O1.x O1.g O1.k rfl pe_str) (pa_cons (pe_exc1 PySem.F.excBase_ValueError O2.x O2.g O2.k rfl pe_str) (pa_cons (pe_exc1 PySem.F.excBase_ValueError O3.x O3.g O3.k rfl pe_str) pa_nil)))))
    case s16 => exact ps_ret (pe_cmpR (op_eqD hr.units) (pe_lc (own := [("_law_error", 6)]) (g := gName 6) rfl nd (pi_list (pv 1)) (blkOk_by (own := [("_law_error", 6)]) (N := nHand) (sc := defScope sByHand) (by decide +kernel)) (fun _ _ _ _ _ => pg_name (i := 6) nd rfl (Or.inl rfl)) (fun _ _ _ _ _ => pts_nil) (fun _ _ _ _ _ => hcall HK hr (pa_cons (pv 6) pa_nil)))
      (pe_lc (own := [("_law_name", 7)]) (g := gName 7) rfl nd (pi_list (pv 5)) (blkOk_by (own := [("_law_name", 7)]) (N := nHand) (sc := defScope sByHand) (by decide +kernel)) (fun _ _ _ _ _ => pg_name (i := 7) nd rfl (Or.inl rfl)) (fun _ _ _ _ _ => pts_nil) (fun _ _ _ _ _ => pe_lst (pa_cons (pv 7) pa_nil))) (nomark _))
    case rd =>
    have sS : ∀ z : Str, z.length ≤ 20 → Shn (.str z) := fun z h => .inr (.inr ⟨z, rfl, by omega⟩)
    have sN : Shn .non := .inl rfl
    refine ⟨_, rfl, by show 2 ≤ 1000; decide, fun a0 na0 => ⟨a0, _, _, rfl, upd_same, shn_int _, shn_int _, fun G0 dx0 gg0 nd0 ne0 => ⟨rfl, ?_⟩⟩⟩
    obtain ⟨g0, e0⟩ := hand2 (f1 := "row") (f2 := "word") (x := V.int n) (y := V.int 3) na0 gg0 nd0 ne0
    generalize upd (upd (upd G0 dx0 _) a0 _) dx0 _ = H0 at g0 e0 ⊢
    refine ⟨_, rfl, by show 2 ≤ 1000; decide, fun a1 na1 => ⟨a1, _, _, rfl, upd_same, sS _ (by decide +kernel), shn_int _, fun G1 dx1 gg1 nd1 ne1 => ⟨rfl, ?_⟩⟩⟩
    obtain ⟨g1, e1⟩ := hand2 (f1 := "part") (f2 := "number") (x := V.str "deeds") (y := V.int n) na1 gg1 nd1 ne1
    generalize upd (upd (upd G1 dx1 _) a1 _) dx1 _ = H1 at g1 e1 ⊢
    refine ⟨_, rfl, by show 2 ≤ 1000; decide, fun a2 na2 => ⟨a2, _, _, rfl, upd_same, sS _ (by decide +kernel), shn_int _, fun G2 dx2 gg2 nd2 ne2 => ⟨rfl, ?_⟩⟩⟩
    obtain ⟨g2, e2⟩ := hand2 (f1 := "part") (f2 := "number") (x := V.str "shapes") (y := V.int n) na2 gg2 nd2 ne2
    generalize upd (upd (upd G2 dx2 _) a2 _) dx2 _ = H2 at g2 e2 ⊢
    refine ⟨_, rfl, by show 2 ≤ 1000; decide, fun a3 na3 => ⟨a3, _, _, rfl, upd_same, shn_int _, sN, fun G3 dx3 gg3 nd3 ne3 => ⟨rfl, ?_⟩⟩⟩
    obtain ⟨g3, e3⟩ := hand2 (f1 := "row") (f2 := "place") (x := V.int n) (y := V.non) na3 gg3 nd3 ne3
    generalize upd (upd (upd G3 dx3 _) a3 _) dx3 _ = H3 at g3 e3 ⊢
    have gA : Gr H H3 := ((g0.trans g1).trans g2).trans g3
    replace e0 := ((e0.gr g1).gr g2).gr g3
    replace e1 := (e1.gr g2).gr g3
    replace e2 := e2.gr g3
    clear na0 gg0 nd0 ne0 na1 gg1 nd1 ne1 na2 gg2 nd2 ne2 na3 gg3 nd3 ne3 g0 g1 g2 g3
    refine ⟨by show 4 ≤ sizeLine; decide, fun l nl => ?_⟩
    have gl : Gr H3 (upd H3 l (.lst [.ref a0, .ref a1, .ref a2, .ref a3])) := Gr.new nl
    have hl : upd H3 l (.lst [.ref a0, .ref a1, .ref a2, .ref a3]) l = some (.lst [.ref a0, .ref a1, .ref a2, .ref a3]) := upd_same
    have nlH := gA.back l nl
    replace gA := gA.trans gl
    replace e0 := e0.gr gl
    replace e1 := e1.gr gl
    replace e2 := e2.gr gl
    replace e3 := e3.gr gl
    generalize upd H3 l (.lst [.ref a0, .ref a1, .ref a2, .ref a3]) = H4 at gA hl e0 e1 e2 e3 ⊢
    refine ⟨_, rfl, .inl ⟨rfl, _, .inl (.inl hl)⟩, by show 1 ≤ 1000; decide, fun a4 na4 => ⟨a4, _, rfl, upd_same, sN, fun G4 dx4 gg4 nd4 ne4 => ⟨rfl, ?_⟩⟩⟩
    obtain ⟨g4, e4⟩ := gr_one (f1 := "number") (x := V.non) na4 gg4 nd4 ne4
    generalize upd (upd G4 dx4 _) a4 _ = H5 at g4 e4 ⊢
    refine ⟨l, _, _, rfl, rfl, g4.lst hl, by show 4 < sizeLine; decide, ?_⟩
    have gB : Gr H (upd H5 l (.lst ([.ref a0, .ref a1, .ref a2, .ref a3] ++ [.ref a4]))) := (gA.trans g4).upd_new nlH
    replace e0 := ex_lst (e0.gr g4) (ys := [.ref a0, .ref a1, .ref a2, .ref a3] ++ [.ref a4]) (g4.lst hl)
    replace e1 := ex_lst (e1.gr g4) (ys := [.ref a0, .ref a1, .ref a2, .ref a3] ++ [.ref a4]) (g4.lst hl)
    replace e2 := ex_lst (e2.gr g4) (ys := [.ref a0, .ref a1, .ref a2, .ref a3] ++ [.ref a4]) (g4.lst hl)
    replace e3 := ex_lst (e3.gr g4) (ys := [.ref a0, .ref a1, .ref a2, .ref a3] ++ [.ref a4]) (g4.lst hl)
    replace e4 := ex_lst e4 (ys := [.ref a0, .ref a1, .ref a2, .ref a3] ++ [.ref a4]) (g4.lst hl)
    replace hl : upd H5 l (.lst ([.ref a0, .ref a1, .ref a2, .ref a3] ++ [.ref a4])) l = some (.lst [.ref a0, .ref a1, .ref a2, .ref a3, .ref a4]) := upd_same
    generalize upd H5 l (.lst ([.ref a0, .ref a1, .ref a2, .ref a3] ++ [.ref a4])) = H6 at gB hl e0 e1 e2 e3 e4 ⊢
    clear gA g4 gg4 nd4 ne4 na4 nl gl nlH
    refine ⟨_, rfl, l, _, 0, _, rfl, rfl, .inl (.inl hl), rfl, a0, _, _, rfl, e0, rfl, _, rfl, l, _, 0, _, rfl, rfl, .inl (.inl hl), rfl, a0, _, _, rfl, e0, rfl, _, rfl, l, _, 1, _, rfl, rfl, .inl (.inl hl), rfl, a1, _, _, rfl, e1, rfl, _, rfl, l, _, 1, _, rfl, rfl, .inl (.inl hl), rfl, a1, _, _, rfl, e1, rfl, _, rfl, l, _, 2, _, rfl, rfl, .inl (.inl hl), rfl, a2, _, _, rfl, e2, rfl, _, rfl, l, _, 2, _, rfl, rfl, .inl (.inl hl), rfl, a2, _, _, rfl, e2, rfl, _, rfl, l, _, 3, _, rfl, rfl, .inl (.inl hl), rfl, a3, _, _, rfl, e3, rfl, by show 7 ≤ sizeLine; decide, fun t nt => ?_⟩
    have gt : Gr H6 (upd H6 t (.lst [.int n, .int 3, .str "deeds", .int n, .str "shapes", .int n, .int n])) := Gr.new nt
    have ht : upd H6 t (.lst [.int n, .int 3, .str "deeds", .int n, .str "shapes", .int n, .int n]) t = some (.lst [.int n, .int 3, .str "deeds", .int n, .str "shapes", .int n, .int n]) := upd_same
    replace gB := gB.trans gt
    replace hl := gt.lst hl
    replace e0 := e0.gr gt
    replace e1 := e1.gr gt
    replace e2 := e2.gr gt
    replace e3 := e3.gr gt
    replace e4 := e4.gr gt
    generalize upd H6 t (.lst [.int n, .int 3, .str "deeds", .int n, .str "shapes", .int n, .int n]) = H7 at gB hl e0 e1 e2 e3 e4 ht ⊢
    refine ⟨_, rfl, _, rfl, l, _, 3, _, rfl, rfl, .inl (.inl hl), rfl, a3, _, _, rfl, e3, rfl, _, rfl, l, _, 4, _, rfl, rfl, .inl (.inl hl), rfl, a4, _, _, rfl, e4, rfl, by show 2 ≤ sizeLine; decide, fun m nm => ?_⟩
    have gm : Gr H7 (upd H7 m (.lst [.non, .non])) := Gr.new nm
    have hm : upd H7 m (.lst [.non, .non]) m = some (.lst [.non, .non]) := upd_same
    replace gB := gB.trans gm
    generalize upd H7 m (.lst [.non, .non]) = H8 at gB gm hm ⊢
    refine ⟨t, m, _, _, rfl, rfl, gm.lst ht, hm, by show 9 ≤ sizeLine; decide, fun p np => ?_⟩
    have gp : Gr H8 (upd H8 p (.lst ([.int n, .int 3, .str "deeds", .int n, .str "shapes", .int n, .int n] ++ [.non, .non]))) := Gr.new np
    have hp : upd H8 p (.lst ([.int n, .int 3, .str "deeds", .int n, .str "shapes", .int n, .int n] ++ [.non, .non])) p = some (.lst [.int n, .int 3, .str "deeds", .int n, .str "shapes", .int n, .int n, .non, .non]) := upd_same
    replace gB := gB.trans gp
    replace gm := gm.trans gp
    generalize upd H8 p (.lst ([.int n, .int 3, .str "deeds", .int n, .str "shapes", .int n, .int n] ++ [.non, .non])) = H9 at gB gm hp ⊢
    refine ⟨_, rfl, _, rfl, _, rfl, _, rfl, by show 9 ≤ sizeLine; decide, fun r nr => ?_⟩
    have gr : Gr H9 (upd H9 r (.lst [.int n, .int 3, .str "deeds", .int n, .str "shapes", .int n, .int n, .non, .non])) := Gr.new nr
    have hr' : upd H9 r (.lst [.int n, .int 3, .str "deeds", .int n, .str "shapes", .int n, .int n, .non, .non]) r = some (.lst [.int n, .int 3, .str "deeds", .int n, .str "shapes", .int n, .int n, .non, .non]) := upd_same
    replace gB := gB.trans gr
    replace gm := gm.trans gr
    replace hp := gr.lst hp
    generalize upd H9 r (.lst [.int n, .int 3, .str "deeds", .int n, .str "shapes", .int n, .int n, .non, .non]) = K0 at gB gm hp hr' ⊢
    replace hl := gm.lst hl
    replace e0 := e0.gr gm
    replace e1 := e1.gr gm
    replace e2 := e2.gr gm
    replace e3 := e3.gr gm
    replace e4 := e4.gr gm
    clear gr nr gp np hm nm ht nt gt
    have sh : SeqAt.shaped (.list [.int n, .int 3, .str "deeds", .int n, .str "shapes", .int n, .int n, .none, .none]) = true := (cm_lst (D := 1) fun d hd => cmF d (by simp only [List.mem_cons, List.not_mem_nil, or_false] at hd; rcases hd with rfl | rfl | rfl | rfl | rfl | rfl | rfl | rfl | rfl <;> first | exact .inl rfl | exact .inr (.inl ⟨_, rfl⟩) | exact .inr (.inr ⟨_, rfl, by decide +kernel⟩))).shaped (by decide)
    have dl : DpAll K K0 [.int n, .int 3, .str "deeds", .int n, .str "shapes", .int n, .int n, .non, .non] [.int n, .int 3, .str "deeds", .int n, .str "shapes", .int n, .int n, .none, .none] :=
      .cons (.int _) (.cons (.int _) (.cons (.str _) (.cons (.int _) (.cons (.str _) (.cons (.int _) (.cons (.int _) (.cons .non (.cons .non .nil))))))))
    refine ⟨_, _, .lst (.inl (.inl hp)) dl, .lst (.inl (.inl hr')) dl, sh, sh, _, rfl, ?_⟩
    rw [SeqAt.eqv_refl _ (SeqAt.canLay_of_shaped sh)]
    refine iteF ?_
    clear sh dl hp hr' gm
    refine ⟨_, rfl, by show 2 ≤ 1000; decide, fun a5 na5 => ⟨a5, _, _, rfl, upd_same, sS _ (by decide +kernel), shn_int _, fun G5 dx5 gg5 nd5 ne5 => ⟨rfl, ?_⟩⟩⟩
    obtain ⟨g5, e5⟩ := hand2 (f1 := "kind") (f2 := "number") (x := V.str "a") (y := V.int n) na5 gg5 nd5 ne5
    generalize upd (upd (upd G5 dx5 _) a5 _) dx5 _ = J5 at g5 e5 ⊢
    clear gg5 nd5 ne5 na5
    refine ⟨_, rfl, by show 2 ≤ 1000; decide, fun a6 na6 => ⟨a6, _, _, rfl, upd_same, shn_int _, shn_int _, fun G6 dx6 gg6 nd6 ne6 => ⟨rfl, ?_⟩⟩⟩
    obtain ⟨g6, e6⟩ := hand2 (f1 := "row") (f2 := "place") (x := V.int n) (y := V.int 2) na6 gg6 nd6 ne6
    generalize upd (upd (upd G6 dx6 _) a6 _) dx6 _ = J6 at g6 e6 ⊢
    clear gg6 nd6 ne6 na6
    refine ⟨_, rfl, by show 2 ≤ 1000; decide, fun a7 na7 => ⟨a7, _, _, rfl, upd_same, sS _ (by decide +kernel), shn_int _, fun G7 dx7 gg7 nd7 ne7 => ⟨rfl, ?_⟩⟩⟩
    obtain ⟨g7, e7⟩ := hand2 (f1 := "part") (f2 := "number") (x := V.str "bodies") (y := V.int n) na7 gg7 nd7 ne7
    generalize upd (upd (upd G7 dx7 _) a7 _) dx7 _ = J7 at g7 e7 ⊢
    clear gg7 nd7 ne7 na7
    refine ⟨_, rfl, by show 1 ≤ 1000; decide, fun a8 na8 => ⟨a8, _, rfl, upd_same, shn_int _, fun G8 dx8 gg8 nd8 ne8 => ⟨rfl, ?_⟩⟩⟩
    obtain ⟨g8, e8⟩ := gr_one (f1 := "number") (x := V.int n) na8 gg8 nd8 ne8
    generalize upd (upd G8 dx8 _) a8 _ = J8 at g8 e8 ⊢
    clear gg8 nd8 ne8 na8
    replace e5 := ((e5.gr g6).gr g7).gr g8
    replace e6 := (e6.gr g7).gr g8
    replace e7 := e7.gr g8
    have gC : Gr K0 J8 := ((g5.trans g6).trans g7).trans g8
    clear g5 g6 g7 g8
    refine ⟨by show 4 ≤ sizeLine; decide, fun l2 nl2 => ?_⟩
    have nK2 := gC.back l2 nl2
    have g9 : Gr J8 (upd J8 l2 (.lst [.ref a5, .ref a6, .ref a7, .ref a8])) := Gr.new nl2
    have hl2 : upd J8 l2 (.lst [.ref a5, .ref a6, .ref a7, .ref a8]) l2 = some (.lst [.ref a5, .ref a6, .ref a7, .ref a8]) := upd_same
    generalize upd J8 l2 (.lst [.ref a5, .ref a6, .ref a7, .ref a8]) = J9 at g9 hl2 ⊢
    refine ⟨_, rfl, .inl ⟨rfl, _, .inl (.inl hl2)⟩, _, rfl, by show 2 ≤ sizeLine; decide, fun u nu => ?_⟩
    have g10 : Gr J9 (upd J9 u (.tup [.int 1, .int n])) := Gr.new nu
    have hu : upd J9 u (.tup [.int 1, .int n]) u = some (.tup [.int 1, .int n]) := upd_same
    generalize upd J9 u (.tup [.int 1, .int n]) = L0 at g10 hu ⊢
    refine ⟨by show 1 ≤ 1000; decide, fun a9 na9 => ⟨a9, _, rfl, upd_same, .inr ⟨u, [.int 1, .int n], rfl, .inl (.inl ((Gr.new na9).tup hu)), by show 2 ≤ 10; decide, fun y hy => ?_⟩, fun G9 dx9 gg9 nd9 ne9 => ⟨rfl, ?_⟩⟩⟩
    · rcases List.mem_cons.mp hy with rfl | hy
      · exact shn_int _
      · rw [List.mem_singleton.mp hy]
        exact shn_int _
    obtain ⟨g11, e9⟩ := gr_one (f1 := "place") (x := V.ref u) na9 gg9 nd9 ne9
    generalize upd (upd G9 dx9 _) a9 _ = L1 at g11 e9 ⊢
    clear gg9 nd9 ne9 na9
    have gx := (g9.trans g10).trans g11
    have hl2' := (g10.trans g11).lst hl2
    refine ⟨l2, _, _, rfl, rfl, hl2', by show 4 < sizeLine; decide, ?_⟩
    replace gC : Gr K0 (upd L1 l2 (.lst ([.ref a5, .ref a6, .ref a7, .ref a8] ++ [.ref a9]))) := (gC.trans gx).upd_new nK2
    replace e5 := ex_lst (e5.gr gx) (ys := [.ref a5, .ref a6, .ref a7, .ref a8] ++ [.ref a9]) hl2'
    replace e6 := ex_lst (e6.gr gx) (ys := [.ref a5, .ref a6, .ref a7, .ref a8] ++ [.ref a9]) hl2'
    replace e7 := ex_lst (e7.gr gx) (ys := [.ref a5, .ref a6, .ref a7, .ref a8] ++ [.ref a9]) hl2'
    replace e8 := ex_lst (e8.gr gx) (ys := [.ref a5, .ref a6, .ref a7, .ref a8] ++ [.ref a9]) hl2'
    replace e9 := ex_lst e9 (ys := [.ref a5, .ref a6, .ref a7, .ref a8] ++ [.ref a9]) hl2'
    have hu' : upd L1 l2 (.lst ([.ref a5, .ref a6, .ref a7, .ref a8] ++ [.ref a9])) u = some (.tup [.int 1, .int n]) := by
      rw [upd_ne (fun e => by rw [e, hl2] at nu; cases nu)]
      exact g11.tup hu
    replace hl2 : upd L1 l2 (.lst ([.ref a5, .ref a6, .ref a7, .ref a8] ++ [.ref a9])) l2 = some (.lst [.ref a5, .ref a6, .ref a7, .ref a8, .ref a9]) := upd_same
    generalize upd L1 l2 (.lst ([.ref a5, .ref a6, .ref a7, .ref a8] ++ [.ref a9])) = L2 at gC hl2 hu' e5 e6 e7 e8 e9 ⊢
    clear gx hl2' g9 g10 g11 nl2 nK2 nu hu
    refine ⟨_, rfl, l2, _, 0, _, rfl, rfl, .inl (.inl hl2), rfl, a5, _, _, rfl, e5, rfl, _, rfl, l2, _, 0, _, rfl, rfl, .inl (.inl hl2), rfl, a5, _, _, rfl, e5, rfl, _, rfl, l2, _, 1, _, rfl, rfl, .inl (.inl hl2), rfl, a6, _, _, rfl, e6, rfl, _, rfl, l2, _, 1, _, rfl, rfl, .inl (.inl hl2), rfl, a6, _, _, rfl, e6, rfl, _, rfl, l2, _, 2, _, rfl, rfl, .inl (.inl hl2), rfl, a7, _, _, rfl, e7, rfl, _, rfl, l2, _, 2, _, rfl, rfl, .inl (.inl hl2), rfl, a7, _, _, rfl, e7, rfl, _, rfl, l2, _, 3, _, rfl, rfl, .inl (.inl hl2), rfl, a8, _, _, rfl, e8, rfl, by show 7 ≤ sizeLine; decide, fun t nt => ?_⟩
    have gt : Gr L2 (upd L2 t (.lst [.str "a", .int n, .int n, .int 2, .str "bodies", .int n, .int n])) := Gr.new nt
    have ht : upd L2 t (.lst [.str "a", .int n, .int n, .int 2, .str "bodies", .int n, .int n]) t = some (.lst [.str "a", .int n, .int n, .int 2, .str "bodies", .int n, .int n]) := upd_same
    generalize upd L2 t (.lst [.str "a", .int n, .int n, .int 2, .str "bodies", .int n, .int n]) = L3 at gt ht ⊢
    replace gC := gC.trans gt
    replace hl2 := gt.lst hl2
    replace hu' := gt.tup hu'
    replace e5 := e5.gr gt
    replace e6 := e6.gr gt
    replace e7 := e7.gr gt
    replace e8 := e8.gr gt
    replace e9 := e9.gr gt
    refine ⟨_, rfl, _, rfl, l2, _, 4, _, rfl, rfl, .inl (.inl hl2), rfl, a9, _, _, rfl, e9, rfl, by show 1 ≤ sizeLine; decide, fun m nm => ?_⟩
    have gm : Gr L3 (upd L3 m (.lst [.ref u])) := Gr.new nm
    have hm : upd L3 m (.lst [.ref u]) m = some (.lst [.ref u]) := upd_same
    generalize upd L3 m (.lst [.ref u]) = L4 at gm hm ⊢
    refine ⟨t, m, _, _, rfl, rfl, gm.lst ht, hm, by show 8 ≤ sizeLine; decide, fun p np => ?_⟩
    have gp : Gr L4 (upd L4 p (.lst ([.str "a", .int n, .int n, .int 2, .str "bodies", .int n, .int n] ++ [.ref u]))) := Gr.new np
    have hp : upd L4 p (.lst ([.str "a", .int n, .int n, .int 2, .str "bodies", .int n, .int n] ++ [.ref u])) p = some (.lst [.str "a", .int n, .int n, .int 2, .str "bodies", .int n, .int n, .ref u]) := upd_same
    generalize upd L4 p (.lst ([.str "a", .int n, .int n, .int 2, .str "bodies", .int n, .int n] ++ [.ref u])) = L5 at gp hp ⊢
    refine ⟨_, rfl, _, rfl, _, rfl, _, rfl, _, rfl, by show 2 ≤ sizeLine; decide, fun v nv => ?_⟩
    have gv : Gr L5 (upd L5 v (.tup [.int 1, .int n])) := Gr.new nv
    have hv : upd L5 v (.tup [.int 1, .int n]) v = some (.tup [.int 1, .int n]) := upd_same
    generalize upd L5 v (.tup [.int 1, .int n]) = L6 at gv hv ⊢
    refine ⟨by show 8 ≤ sizeLine; decide, fun r nr => ?_⟩
    have gr : Gr L6 (upd L6 r (.lst [.str "a", .int n, .int n, .int 2, .str "bodies", .int n, .int n, .ref v])) := Gr.new nr
    have hr' : upd L6 r (.lst [.str "a", .int n, .int n, .int 2, .str "bodies", .int n, .int n, .ref v]) r = some (.lst [.str "a", .int n, .int n, .int 2, .str "bodies", .int n, .int n, .ref v]) := upd_same
    generalize upd L6 r (.lst [.str "a", .int n, .int n, .int 2, .str "bodies", .int n, .int n, .ref v]) = L7 at gr hr' ⊢
    have gy := ((gm.trans gp).trans gv).trans gr
    replace hp := (gv.trans gr).lst hp
    replace hv := gr.tup hv
    replace hl2 := gy.lst hl2
    replace hu' := gy.tup hu'
    replace e5 := e5.gr gy
    replace e6 := e6.gr gy
    replace e7 := e7.gr gy
    replace e8 := e8.gr gy
    replace e9 := e9.gr gy
    replace gC := gC.trans gy
    clear gy gr gv gp gm gt nt nm np nv nr hm ht
    have sh : SeqAt.shaped (.list [.str "a", .int n, .int n, .int 2, .str "bodies", .int n, .int n, .tuple [.int 1, .int n]]) = true := (cm_lst (D := 2) fun d hd => (by
      simp only [List.mem_cons, List.not_mem_nil, or_false] at hd
      rcases hd with rfl | rfl | rfl | rfl | rfl | rfl | rfl | rfl
      all_goals first | exact (cmF _ (.inr (.inl ⟨_, rfl⟩))).mono (by decide) | exact (cmF _ (.inr (.inr ⟨_, rfl, by decide +kernel⟩))).mono (by decide) | skip
      refine cm_tup (D := 1) fun d hd => cmF d ?_
      simp only [List.mem_cons, List.not_mem_nil, or_false] at hd
      rcases hd with rfl | rfl <;> exact .inr (.inl ⟨_, rfl⟩))).shaped (by decide)
    have dl : ∀ w : Addr, L7 w = some (.tup [.int 1, .int n]) → DpAll K L7 [.str "a", .int n, .int n, .int 2, .str "bodies", .int n, .int n, .ref w] [.str "a", .int n, .int n, .int 2, .str "bodies", .int n, .int n, .tuple [.int 1, .int n]] := fun w hw =>
      .cons (.str _) (.cons (.int _) (.cons (.int _) (.cons (.int _) (.cons (.str _) (.cons (.int _) (.cons (.int _) (.cons (.tup (.inl (.inl hw)) (.cons (.int _) (.cons (.int _) .nil))) .nil)))))))
    refine ⟨_, _, .lst (.inl (.inl hp)) (dl u hu'), .lst (.inl (.inl hr')) (dl v hv), sh, sh, _, rfl, ?_⟩
    rw [SeqAt.eqv_refl _ (SeqAt.canLay_of_shaped sh)]
    refine iteF ?_
    clear sh dl hp hr' hv hu'
    refine ⟨by show 0 ≤ sizeLine; decide, fun w0 nw0 => ?_⟩
    have gw0 : Gr L7 (upd L7 w0 (.tup [])) := Gr.new nw0
    have hw0 : upd L7 w0 (.tup []) w0 = some (.tup []) := upd_same
    generalize upd L7 w0 (.tup []) = M1' at gw0 hw0 ⊢
    refine ⟨by show 2 ≤ sizeLine; decide, fun w1 nw1 => ?_⟩
    have gw1 : Gr M1' (upd M1' w1 (.tup [.str "a", .ref w0])) := Gr.new nw1
    have hw1 : upd M1' w1 (.tup [.str "a", .ref w0]) w1 = some (.tup [.str "a", .ref w0]) := upd_same
    generalize upd M1' w1 (.tup [.str "a", .ref w0]) = M2' at gw1 hw1 ⊢
    refine ⟨by show 1 ≤ sizeLine; decide, fun w2 nw2 => ?_⟩
    have gw2 : Gr M2' (upd M2' w2 (.tup [.ref w1])) := Gr.new nw2
    have hw2 : upd M2' w2 (.tup [.ref w1]) w2 = some (.tup [.ref w1]) := upd_same
    generalize upd M2' w2 (.tup [.ref w1]) = M3' at gw2 hw2 ⊢
    have Uw : Dp K M3' (.ref w2) (.tuple [.tuple [.str "a", .tuple []]]) := .tup (.inl (.inl hw2)) (.cons (.tup (.inl (.inl (gw2.tup hw1))) (.cons (.str _) (.cons (.tup (.inl (.inl ((gw1.trans gw2).tup hw0))) .nil) .nil))) .nil)
    have Gw := (gw0.trans gw1).trans gw2
    clear gw0 gw1 gw2 hw0 hw1 hw2 nw0 nw1 nw2
    refine ⟨by show 1 ≤ 1000; decide, fun a10 na10 => ⟨a10, _, rfl, upd_same, fun G10 dx10 gg10 nd10 ne10 => ⟨rfl, ?_⟩⟩⟩
    obtain ⟨g10, e10⟩ := gr_one (f1 := "user") (x := V.ref w2) na10 gg10 nd10 ne10
    generalize upd (upd G10 dx10 _) a10 _ = N0 at g10 e10 ⊢
    clear gg10 nd10 ne10 na10
    refine ⟨by show 2 ≤ 1000; decide, fun a11 na11 => ⟨a11, _, _, rfl, upd_same, sN, sN, fun G11 dx11 gg11 nd11 ne11 => ⟨rfl, ?_⟩⟩⟩
    obtain ⟨g11, e11⟩ := hand2 (f1 := "part") (f2 := "number") (x := V.non) (y := V.non) na11 gg11 nd11 ne11
    generalize upd (upd (upd G11 dx11 _) a11 _) dx11 _ = N1 at g11 e11 ⊢
    clear gg11 nd11 ne11 na11
    refine ⟨by show 2 ≤ 1000; decide, fun a12 na12 => ⟨a12, _, _, rfl, upd_same, sN, sN, fun G12 dx12 gg12 nd12 ne12 => ⟨rfl, ?_⟩⟩⟩
    obtain ⟨g12, e12⟩ := hand2 (f1 := "kind") (f2 := "number") (x := V.non) (y := V.non) na12 gg12 nd12 ne12
    generalize upd (upd (upd G12 dx12 _) a12 _) dx12 _ = N2 at g12 e12 ⊢
    clear gg12 nd12 ne12 na12
    refine ⟨by show 2 ≤ 1000; decide, fun a13 na13 => ⟨a13, _, _, rfl, upd_same, sN, sN, fun G13 dx13 gg13 nd13 ne13 => ⟨rfl, ?_⟩⟩⟩
    obtain ⟨g13, e13⟩ := hand2 (f1 := "row") (f2 := "place") (x := V.non) (y := V.non) na13 gg13 nd13 ne13
    generalize upd (upd (upd G13 dx13 _) a13 _) dx13 _ = N3 at g13 e13 ⊢
    clear gg13 nd13 ne13 na13
    refine ⟨by show 1 ≤ 1000; decide, fun a14 na14 => ⟨a14, _, rfl, upd_same, .inl rfl, fun G14 dx14 gg14 nd14 ne14 => ⟨rfl, ?_⟩⟩⟩
    obtain ⟨g14, e14⟩ := gr_one (f1 := "place") (x := V.non) na14 gg14 nd14 ne14
    generalize upd (upd G14 dx14 _) a14 _ = N4 at g14 e14 ⊢
    clear gg14 nd14 ne14 na14
    refine ⟨by show 5 ≤ sizeLine; decide, fun l3 nl3 => ?_⟩
    have gl3 : Gr N4 (upd N4 l3 (.lst [.ref a10, .ref a11, .ref a12, .ref a13, .ref a14])) := Gr.new nl3
    have hl3 : upd N4 l3 (.lst [.ref a10, .ref a11, .ref a12, .ref a13, .ref a14]) l3 = some (.lst [.ref a10, .ref a11, .ref a12, .ref a13, .ref a14]) := upd_same
    generalize upd N4 l3 (.lst [.ref a10, .ref a11, .ref a12, .ref a13, .ref a14]) = N5 at gl3 hl3 ⊢
    have ga := ((g11.trans g12).trans g13).trans g14
    replace e10 := (e10.gr ga).gr gl3
    replace e11 := (((e11.gr g12).gr g13).gr g14).gr gl3
    replace e12 := ((e12.gr g13).gr g14).gr gl3
    replace e13 := (e13.gr g14).gr gl3
    replace e14 := e14.gr gl3
    replace Uw := ((g10.trans ga).trans gl3).kd.dp Uw
    have gD := ((Gw.trans g10).trans ga).trans gl3
    clear ga g10 g11 g12 g13 g14 gl3 nl3 Gw
    refine ⟨_, rfl, by show 1 ≤ 1000; decide, fun a15 na15 => ⟨a15, _, rfl, upd_same, shn_int _, fun G15 dx15 gg15 nd15 ne15 => ⟨rfl, ?_⟩⟩⟩
    obtain ⟨g15, e15⟩ := gr_one (f1 := "number") (x := V.int n) na15 gg15 nd15 ne15
    generalize upd (upd G15 dx15 _) a15 _ = N6 at g15 e15 ⊢
    clear gg15 nd15 ne15 na15
    refine ⟨a15, _, _, rfl, e15, rfl, _, rfl, rfl, _, rfl, ?_⟩
    rw [decide_eq_true rfl]
    refine iteF ?_
    refine ⟨by show 1 ≤ 1000; decide, fun a16 na16 => ⟨a16, _, rfl, upd_same, sN, fun G16 dx16 gg16 nd16 ne16 => ⟨rfl, ?_⟩⟩⟩
    obtain ⟨g16, e16⟩ := gr_one (f1 := "number") (x := V.non) na16 gg16 nd16 ne16
    generalize upd (upd G16 dx16 _) a16 _ = N7 at g16 e16 ⊢
    clear gg16 nd16 ne16 na16
    refine ⟨a16, _, _, rfl, e16, rfl, rfl, _, rfl, iteF ?_⟩
    have gb := g15.trans g16
    replace hl3 := gb.lst hl3
    replace Uw := gb.kd.dp Uw
    replace gD := gD.trans gb
    replace e10 := e10.gr gb
    replace e11 := e11.gr gb
    replace e12 := e12.gr gb
    replace e13 := e13.gr gb
    replace e14 := e14.gr gb
    clear gb g15 g16 e15 e16
    refine ⟨_, rfl, l3, _, 0, _, rfl, rfl, .inl (.inl hl3), rfl, a10, _, _, rfl, e10, rfl, _, rfl, l3, _, 1, _, rfl, rfl, .inl (.inl hl3), rfl, a11, _, _, rfl, e11, rfl, _, rfl, l3, _, 2, _, rfl, rfl, .inl (.inl hl3), rfl, a12, _, _, rfl, e12, rfl, _, rfl, l3, _, 3, _, rfl, rfl, .inl (.inl hl3), rfl, a13, _, _, rfl, e13, rfl, _, rfl, l3, _, 4, _, rfl, rfl, .inl (.inl hl3), rfl, a14, _, _, rfl, e14, rfl, _, rfl, l3, _, 2, _, rfl, rfl, .inl (.inl hl3), rfl, a12, _, _, rfl, e12, rfl, by show 6 ≤ sizeLine; decide, fun t nt => ?_⟩
    have gt : Gr N7 (upd N7 t (.lst [.ref w2, .non, .non, .non, .non, .non])) := Gr.new nt
    have ht : upd N7 t (.lst [.ref w2, .non, .non, .non, .non, .non]) t = some (.lst [.ref w2, .non, .non, .non, .non, .non]) := upd_same
    generalize upd N7 t (.lst [.ref w2, .non, .non, .non, .non, .non]) = N8 at gt ht ⊢
    refine ⟨_, rfl, by show 0 ≤ sizeLine; decide, fun x0 nx0 => ?_⟩
    have gx0 : Gr N8 (upd N8 x0 (.tup [])) := Gr.new nx0
    have hx0 : upd N8 x0 (.tup []) x0 = some (.tup []) := upd_same
    generalize upd N8 x0 (.tup []) = M4' at gx0 hx0 ⊢
    refine ⟨by show 2 ≤ sizeLine; decide, fun x1 nx1 => ?_⟩
    have gx1 : Gr M4' (upd M4' x1 (.tup [.str "a", .ref x0])) := Gr.new nx1
    have hx1 : upd M4' x1 (.tup [.str "a", .ref x0]) x1 = some (.tup [.str "a", .ref x0]) := upd_same
    generalize upd M4' x1 (.tup [.str "a", .ref x0]) = M5' at gx1 hx1 ⊢
    refine ⟨by show 1 ≤ sizeLine; decide, fun x2 nx2 => ?_⟩
    have gx2 : Gr M5' (upd M5' x2 (.tup [.ref x1])) := Gr.new nx2
    have hx2 : upd M5' x2 (.tup [.ref x1]) x2 = some (.tup [.ref x1]) := upd_same
    generalize upd M5' x2 (.tup [.ref x1]) = M6' at gx2 hx2 ⊢
    have Ux : Dp K M6' (.ref x2) (.tuple [.tuple [.str "a", .tuple []]]) := .tup (.inl (.inl hx2)) (.cons (.tup (.inl (.inl (gx2.tup hx1))) (.cons (.str _) (.cons (.tup (.inl (.inl ((gx1.trans gx2).tup hx0))) .nil) .nil))) .nil)
    have Gx := (gx0.trans gx1).trans gx2
    clear gx0 gx1 gx2 hx0 hx1 hx2 nx0 nx1 nx2
    refine ⟨by show 6 ≤ sizeLine; decide, fun r nr => ?_⟩
    have gr : Gr M6' (upd M6' r (.lst [.ref x2, .non, .non, .non, .non, .non])) := Gr.new nr
    have hr' : upd M6' r (.lst [.ref x2, .non, .non, .non, .non, .non]) r = some (.lst [.ref x2, .non, .non, .non, .non, .non]) := upd_same
    generalize upd M6' r (.lst [.ref x2, .non, .non, .non, .non, .non]) = N9 at gr hr' ⊢
    have gy := (gt.trans Gx).trans gr
    replace ht := (Gx.trans gr).lst ht
    replace Uw := gy.kd.dp Uw
    replace Ux := gr.kd.dp Ux
    replace hl3 := gy.lst hl3
    replace gD := gD.trans gy
    replace e10 := e10.gr gy
    replace e11 := e11.gr gy
    replace e12 := e12.gr gy
    replace e13 := e13.gr gy
    replace e14 := e14.gr gy
    clear gy gr Gx gt nt nr
    have sh : SeqAt.shaped (.list [.tuple [.tuple [.str "a", .tuple []]], .none, .none, .none, .none, .none]) = true := by decide +kernel
    have dn : DpAll K N9 [.non, .non, .non, .non, .non] [.none, .none, .none, .none, .none] := .cons .non (.cons .non (.cons .non (.cons .non (.cons .non .nil))))
    refine ⟨_, _, .lst (.inl (.inl ht)) (.cons Uw dn), .lst (.inl (.inl hr')) (.cons Ux dn), sh, sh, _, rfl, ?_⟩
    rw [SeqAt.eqv_refl _ (SeqAt.canLay_of_shaped sh)]
    refine iteF ?_
    clear sh dn ht hr' Uw Ux
    replace hl := (gC.trans gD).lst hl
    replace hl2 := gD.lst hl2
    replace e0 := e0.gr (gC.trans gD)
    replace e1 := e1.gr (gC.trans gD)
    replace e2 := e2.gr (gC.trans gD)
    replace e3 := e3.gr (gC.trans gD)
    replace e4 := e4.gr (gC.trans gD)
    replace e5 := e5.gr gD
    replace e6 := e6.gr gD
    replace e7 := e7.gr gD
    replace e8 := e8.gr gD
    replace e9 := e9.gr gD
    replace gB := (gB.trans gC).trans gD
    clear gC gD
    refine ⟨by show 10 ≤ sizeLine; decide, fun q1 nq1 => ?_⟩
    have gq1 : Gr N9 (upd N9 q1 (.lst [.str "row", .str "face", .str "making", .str "user", .str "steps", .str "lead", .str "program", .str "module", .str "use", .str "paper"])) := Gr.new nq1
    have hq1 : upd N9 q1 (.lst [.str "row", .str "face", .str "making", .str "user", .str "steps", .str "lead", .str "program", .str "module", .str "use", .str "paper"]) q1 = some (.lst [.str "row", .str "face", .str "making", .str "user", .str "steps", .str "lead", .str "program", .str "module", .str "use", .str "paper"]) := upd_same
    generalize upd N9 q1 (.lst [.str "row", .str "face", .str "making", .str "user", .str "steps", .str "lead", .str "program", .str "module", .str "use", .str "paper"]) = P0 at gq1 hq1 ⊢
    refine ⟨_, rfl, by show 9 ≤ sizeLine; decide, fun q2 nq2 => ?_⟩
    have gq2 : Gr P0 (upd P0 q2 (.lst [.str "input", .str "apart", .str "face", .str "lead", .str "program", .str "paper", .str "refused", .str "place", .str "great"])) := Gr.new nq2
    have hq2 : upd P0 q2 (.lst [.str "input", .str "apart", .str "face", .str "lead", .str "program", .str "paper", .str "refused", .str "place", .str "great"]) q2 = some (.lst [.str "input", .str "apart", .str "face", .str "lead", .str "program", .str "paper", .str "refused", .str "place", .str "great"]) := upd_same
    generalize upd P0 q2 (.lst [.str "input", .str "apart", .str "face", .str "lead", .str "program", .str "paper", .str "refused", .str "place", .str "great"]) = P1 at gq2 hq2 ⊢
    refine ⟨q1, q2, _, _, rfl, rfl, gq2.lst hq1, hq2, by show 19 ≤ sizeLine; decide, fun q3 nq3 => ?_⟩
    have gq3 : Gr P1 (upd P1 q3 (.lst ([.str "row", .str "face", .str "making", .str "user", .str "steps", .str "lead", .str "program", .str "module", .str "use", .str "paper"] ++ [.str "input", .str "apart", .str "face", .str "lead", .str "program", .str "paper", .str "refused", .str "place", .str "great"]))) := Gr.new nq3
    have hq3 : upd P1 q3 (.lst ([.str "row", .str "face", .str "making", .str "user", .str "steps", .str "lead", .str "program", .str "module", .str "use", .str "paper"] ++ [.str "input", .str "apart", .str "face", .str "lead", .str "program", .str "paper", .str "refused", .str "place", .str "great"])) q3 = some (.lst (wHand.map V.str)) := upd_same
    generalize upd P1 q3 (.lst ([.str "row", .str "face", .str "making", .str "user", .str "steps", .str "lead", .str "program", .str "module", .str "use", .str "paper"] ++ [.str "input", .str "apart", .str "face", .str "lead", .str "program", .str "paper", .str "refused", .str "place", .str "great"])) = P2 at gq3 hq3 ⊢
    have ge := (gq1.trans gq2).trans gq3
    clear gq1 gq2 gq3 hq1 hq2 nq1 nq2 nq3
    refine ⟨_, rfl, _, rfl, l, l2, _, _, rfl, rfl, ge.lst hl, ge.lst hl2, by show 10 ≤ sizeLine; decide, fun z1 nz1 => ?_⟩
    have gz1 : Gr P2 (upd P2 z1 (.lst ([.ref a0, .ref a1, .ref a2, .ref a3, .ref a4] ++ [.ref a5, .ref a6, .ref a7, .ref a8, .ref a9]))) := Gr.new nz1
    have hz1 : upd P2 z1 (.lst ([.ref a0, .ref a1, .ref a2, .ref a3, .ref a4] ++ [.ref a5, .ref a6, .ref a7, .ref a8, .ref a9])) z1 = some (.lst [.ref a0, .ref a1, .ref a2, .ref a3, .ref a4, .ref a5, .ref a6, .ref a7, .ref a8, .ref a9]) := upd_same
    generalize upd P2 z1 (.lst ([.ref a0, .ref a1, .ref a2, .ref a3, .ref a4] ++ [.ref a5, .ref a6, .ref a7, .ref a8, .ref a9])) = P3 at gz1 hz1 ⊢
    refine ⟨_, rfl, by show 1 ≤ 1000; decide, fun a17 na17 => ⟨a17, _, rfl, upd_same, shn_int _, fun G17 dx17 gg17 nd17 ne17 => ⟨rfl, ?_⟩⟩⟩
    obtain ⟨g17, e17⟩ := gr_one (f1 := "number") (x := V.int n) na17 gg17 nd17 ne17
    generalize upd (upd G17 dx17 _) a17 _ = P4 at g17 e17 ⊢
    clear gg17 nd17 ne17 na17
    refine ⟨by show 1 ≤ sizeLine; decide, fun z2 nz2 => ?_⟩
    have gz2 : Gr P4 (upd P4 z2 (.lst [.ref a17])) := Gr.new nz2
    have hz2 : upd P4 z2 (.lst [.ref a17]) z2 = some (.lst [.ref a17]) := upd_same
    generalize upd P4 z2 (.lst [.ref a17]) = P5 at gz2 hz2 ⊢
    refine ⟨z1, z2, _, _, rfl, rfl, (g17.trans gz2).lst hz1, hz2, by show 11 ≤ sizeLine; decide, fun z3 nz3 => ?_⟩
    have gz3 : Gr P5 (upd P5 z3 (.lst ([.ref a0, .ref a1, .ref a2, .ref a3, .ref a4, .ref a5, .ref a6, .ref a7, .ref a8, .ref a9] ++ [.ref a17]))) := Gr.new nz3
    have hz3 : upd P5 z3 (.lst ([.ref a0, .ref a1, .ref a2, .ref a3, .ref a4, .ref a5, .ref a6, .ref a7, .ref a8, .ref a9] ++ [.ref a17])) z3 = some (.lst [.ref a0, .ref a1, .ref a2, .ref a3, .ref a4, .ref a5, .ref a6, .ref a7, .ref a8, .ref a9, .ref a17]) := upd_same
    generalize upd P5 z3 (.lst ([.ref a0, .ref a1, .ref a2, .ref a3, .ref a4, .ref a5, .ref a6, .ref a7, .ref a8, .ref a9] ++ [.ref a17])) = P6 at gz3 hz3 ⊢
    have gf := (((ge.trans gz1).trans g17).trans gz2).trans gz3
    refine ⟨_, rfl, z3, l3, _, _, rfl, rfl, hz3, gf.lst hl3, by show 16 ≤ sizeLine; decide, fun z4 nz4 => ?_⟩
    have gz4 : Gr P6 (upd P6 z4 (.lst ([.ref a0, .ref a1, .ref a2, .ref a3, .ref a4, .ref a5, .ref a6, .ref a7, .ref a8, .ref a9, .ref a17] ++ [.ref a10, .ref a11, .ref a12, .ref a13, .ref a14]))) := Gr.new nz4
    have hz4 : upd P6 z4 (.lst ([.ref a0, .ref a1, .ref a2, .ref a3, .ref a4, .ref a5, .ref a6, .ref a7, .ref a8, .ref a9, .ref a17] ++ [.ref a10, .ref a11, .ref a12, .ref a13, .ref a14])) z4 = some (.lst [.ref a0, .ref a1, .ref a2, .ref a3, .ref a4, .ref a5, .ref a6, .ref a7, .ref a8, .ref a9, .ref a17, .ref a10, .ref a11, .ref a12, .ref a13, .ref a14]) := upd_same
    generalize upd P6 z4 (.lst ([.ref a0, .ref a1, .ref a2, .ref a3, .ref a4, .ref a5, .ref a6, .ref a7, .ref a8, .ref a9, .ref a17] ++ [.ref a10, .ref a11, .ref a12, .ref a13, .ref a14])) = P7 at gz4 hz4 ⊢
    intro b1 nb1
    have gb1 : Gr P7 (upd P7 b1 (ExO (.ref D1) b1)) := Gr.new nb1
    have hb1 : upd P7 b1 (ExO (.ref D1) b1) b1 = some (ExO (.ref D1) b1) := upd_same
    generalize upd P7 b1 (ExO (.ref D1) b1) = P8 at gb1 hb1 ⊢
    intro b2 nb2
    have gb2 : Gr P8 (upd P8 b2 (ExO (.ref D2) b2)) := Gr.new nb2
    have hb2 : upd P8 b2 (ExO (.ref D2) b2) b2 = some (ExO (.ref D2) b2) := upd_same
    generalize upd P8 b2 (ExO (.ref D2) b2) = P9 at gb2 hb2 ⊢
    intro b3 nb3
    have gb3 : Gr P9 (upd P9 b3 (ExO (.ref D3) b3)) := Gr.new nb3
    have hb3 : upd P9 b3 (ExO (.ref D3) b3) b3 = some (ExO (.ref D3) b3) := upd_same
    generalize upd P9 b3 (ExO (.ref D3) b3) = R0 at gb3 hb3 ⊢
    refine ⟨by show 3 ≤ sizeLine; decide, fun z5 nz5 => ?_⟩
    have gz5 : Gr R0 (upd R0 z5 (.lst [.ref b1, .ref b2, .ref b3])) := Gr.new nz5
    have hz5 : upd R0 z5 (.lst [.ref b1, .ref b2, .ref b3]) z5 = some (.lst [.ref b1, .ref b2, .ref b3]) := upd_same
    generalize upd R0 z5 (.lst [.ref b1, .ref b2, .ref b3]) = R1 at gz5 hz5 ⊢
    have gh := ((gb1.trans gb2).trans gb3).trans gz5
    refine ⟨z4, z5, _, _, rfl, rfl, gh.lst hz4, hz5, by show 19 ≤ sizeLine; decide, fun z6 nz6 => ?_⟩
    have gz6 : Gr R1 (upd R1 z6 (.lst ([.ref a0, .ref a1, .ref a2, .ref a3, .ref a4, .ref a5, .ref a6, .ref a7, .ref a8, .ref a9, .ref a17, .ref a10, .ref a11, .ref a12, .ref a13, .ref a14] ++ [.ref b1, .ref b2, .ref b3]))) := Gr.new nz6
    have hz6 : upd R1 z6 (.lst ([.ref a0, .ref a1, .ref a2, .ref a3, .ref a4, .ref a5, .ref a6, .ref a7, .ref a8, .ref a9, .ref a17, .ref a10, .ref a11, .ref a12, .ref a13, .ref a14] ++ [.ref b1, .ref b2, .ref b3])) z6 = some (.lst [.ref a0, .ref a1, .ref a2, .ref a3, .ref a4, .ref a5, .ref a6, .ref a7, .ref a8, .ref a9, .ref a17, .ref a10, .ref a11, .ref a12, .ref a13, .ref a14, .ref b1, .ref b2, .ref b3]) := upd_same
    generalize upd R1 z6 (.lst ([.ref a0, .ref a1, .ref a2, .ref a3, .ref a4, .ref a5, .ref a6, .ref a7, .ref a8, .ref a9, .ref a17, .ref a10, .ref a11, .ref a12, .ref a13, .ref a14] ++ [.ref b1, .ref b2, .ref b3])) = R2 at gz6 hz6 ⊢
    have gz := gh.trans gz6
    have gw := (gf.trans gz4).trans gz
    have gk := (((gz2.trans gz3).trans gz4).trans gz)
    have hq : R2 q3 = some (.lst (wHand.map V.str)) := ((((((gz1.trans g17).trans gz2).trans gz3).trans gz4).trans gz)).lst hq3
    have y1 : R2 b1 = some (ExO (.ref D1) b1) := (((gb2.trans gb3).trans gz5).trans gz6).keep _ _ hb1 (fun _ => exO_tbl)
    have y2 : R2 b2 = some (ExO (.ref D2) b2) := ((gb3.trans gz5).trans gz6).keep _ _ hb2 (fun _ => exO_tbl)
    have y3 : R2 b3 = some (ExO (.ref D3) b3) := (gz5.trans gz6).keep _ _ hb3 (fun _ => exO_tbl)
    have all : AllK K mg R2 [.ref a0, .ref a1, .ref a2, .ref a3, .ref a4, .ref a5, .ref a6, .ref a7, .ref a8, .ref a9, .ref a17, .ref a10, .ref a11, .ref a12, .ref a13, .ref a14, .ref b1, .ref b2, .ref b3] wHand := ⟨⟨a0, C0, _, rfl, .inr (.inl ⟨_, e0.gr gw⟩), kC0, rfl⟩, ⟨a1, C1, _, rfl, .inr (.inl ⟨_, e1.gr gw⟩), kC1, rfl⟩, ⟨a2, C2, _, rfl, .inr (.inl ⟨_, e2.gr gw⟩), kC2, rfl⟩, ⟨a3, C3, _, rfl, .inr (.inl ⟨_, e3.gr gw⟩), kC3, rfl⟩, ⟨a4, C4, _, rfl, .inr (.inl ⟨_, e4.gr gw⟩), kC4, rfl⟩, ⟨a5, C5, _, rfl, .inr (.inl ⟨_, e5.gr gw⟩), kC5, rfl⟩, ⟨a6, C6, _, rfl, .inr (.inl ⟨_, e6.gr gw⟩), kC6, rfl⟩, ⟨a7, C7, _, rfl, .inr (.inl ⟨_, e7.gr gw⟩), kC7, rfl⟩, ⟨a8, C8, _, rfl, .inr (.inl ⟨_, e8.gr gw⟩), kC8, rfl⟩, ⟨a9, C9, _, rfl, .inr (.inl ⟨_, e9.gr gw⟩), kC9, rfl⟩, ⟨a17, CI, _, rfl, .inr (.inl ⟨_, e17.gr gk⟩), kCI, rfl⟩, ⟨a10, CA, _, rfl, .inr (.inl ⟨_, e10.gr gw⟩), kCA, rfl⟩, ⟨a11, C1, _, rfl, .inr (.inl ⟨_, e11.gr gw⟩), kC1, rfl⟩, ⟨a12, C5, _, rfl, .inr (.inl ⟨_, e12.gr gw⟩), kC5, rfl⟩, ⟨a13, C6, _, rfl, .inr (.inl ⟨_, e13.gr gw⟩), kC6, rfl⟩, ⟨a14, C9, _, rfl, .inr (.inl ⟨_, e14.gr gw⟩), kC9, rfl⟩, ⟨b1, D1, _, rfl, .inr (.inr y1), kD1, rfl⟩, ⟨b2, D2, _, rfl, .inr (.inr y2), kD2, rfl⟩, ⟨b3, D3, _, rfl, .inr (.inr y3), kD3, rfl⟩, trivial⟩
    have gR : Gr H R2 := gB.trans gw
    have n19 : wHand.length = 19 := rfl
    have sh : SeqAt.shaped (.list (wHand.map fun z => .list [.str z])) = true := by decide +kernel
    generalize ([.ref a0, .ref a1, .ref a2, .ref a3, .ref a4, .ref a5, .ref a6, .ref a7, .ref a8, .ref a9, .ref a17, .ref a10, .ref a11, .ref a12, .ref a13, .ref a14, .ref b1, .ref b2, .ref b3] : List V) = ys at all hz6
    generalize wHand = ws at all hq sh n19
    clear gw gk gz gh gf gz6 gz5 gz4 gz3 gz2 gz1 g17 ge gb1 gb2 gb3 y1 y2 y3 hz1 hz2 hz3 hz4 hz5 hb1 hb2 hb3 e0 e1 e2 e3 e4 e5 e6 e7 e8 e9 e10 e11 e12 e13 e14 e17 gB hl hl2 hl3 hq3
    have ny := allK_len all
    refine ⟨_, rfl, z6, rfl, ⟨_, .inl (.inl hz6)⟩, fun D nD => ?_⟩
    refine lc_it (walk_list (xs := ys)) (fun i S => ∃ ps, S D = some (.lst ps) ∧ Lz S D ps (ws.take i) ∧ Gr R2 S) ⟨[], upd_same, trivial, Gr.new nD⟩ ?c0 ?c1 ?c2
    case c0 =>
      rintro i S hi ⟨ps, _, _, g⟩
      exact .inl (.inl (g.lst hz6))
    case c1 =>
      rintro i y S' S hi ⟨ps, hD, lz, g⟩ ⟨rfl, hy⟩
      obtain ⟨z, hz, o⟩ := allK_at all hy
      obtain ⟨a, C, bs, rfl, ey, kx, ek⟩ := o.gr g
      refine ⟨rfl, ?_⟩
      unfold tYes
      refine iteT ⟨_, rfl, a, C, bs, rfl, ey, kx, fun S2 p g2 hp => ?_⟩
      rw [ek] at hp
      have hD2 := g2.lst hD
      have npD : p ≠ D := fun e => by
        rw [e, hD2] at hp
        cases hp
        exact lz.ne rfl
      have lp : ps.length ≤ 19 := by
        rw [lz.len, List.length_take]
        omega
      refine ⟨_, hD2, by rw [sizeLine_eq]; omega, _, upd_same, ?_, (g.trans g2).upd_new nD⟩
      rw [List.take_add_one, hz]
      exact ((lz.gr g2).app npD hp).up
    case c2 =>
    rintro S ⟨ps, hD, lz, g⟩
    rw [ny, List.take_length] at lz
    clear all hz6
    refine ⟨_, rfl, q3, rfl, ⟨_, .inl (.inl (g.lst hq))⟩, fun E2 nE => ?_⟩
    refine lc_it (walk_list (xs := ws.map V.str)) (fun i T => ∃ ps, T E2 = some (.lst ps) ∧ Lz T E2 ps (ws.take i) ∧ Gr S T) ⟨[], upd_same, trivial, Gr.new nE⟩ ?d0 ?d1 ?d2
    case d0 =>
      rintro i T hi ⟨ps, _, _, g3⟩
      exact .inl (.inl ((g.trans g3).lst hq))
    case d1 =>
      rintro i y T' T hi ⟨ps, hE, lz2, g3⟩ ⟨rfl, hy⟩
      rw [List.getElem?_map] at hy
      obtain ⟨z, hz, rfl⟩ := Option.map_eq_some_iff.mp hy
      refine ⟨rfl, ?_⟩
      unfold tYes
      refine iteT ⟨_, rfl, by show 1 ≤ sizeLine; decide, fun p np => ?_⟩
      have g4 : Gr T (upd T p (.lst [.str z])) := Gr.new np
      have hp : upd T p (.lst [.str z]) p = some (.lst [.str z]) := upd_same
      generalize upd T p (.lst [.str z]) = T2 at g4 hp ⊢
      have npE : p ≠ E2 := fun e => by
        rw [e, hE] at np
        cases np
      have lp : ps.length ≤ 19 := by
        rw [lz2.len, List.length_take]
        omega
      refine ⟨_, g4.lst hE, by rw [sizeLine_eq]; omega, _, upd_same, ?_, (g3.trans g4).upd_new nE⟩
      rw [List.take_add_one, hz]
      exact ((lz2.gr g4).app npE hp).up
    case d2 =>
    rintro T ⟨ps2, hE, lz2, g3⟩
    rw [List.length_map, List.take_length] at lz2
    refine ⟨_, _, .lst (.inl (.inl (g3.lst hD))) (lz.gr g3).dp, .lst (.inl (.inl hE)) lz2.dp, sh, sh, ?_⟩
    rw [SeqAt.eqv_refl _ (SeqAt.canLay_of_shaped sh)]
    exact q T ((gR.trans g).trans g3)
end
end SfC
namespace SfC
open PySem PySem.Spec PyProof.Rows L2 SfG
/-! ### the law of k06 -/
abbrev nLaw : List Str := ["_law_script", "_law_k", "_law_cell", "_law_state", "_law_number", "_law_odd", "_law_way"]
theorem scLaw : FnScope nLaw ["_law_script"] (defScope sLaw) := ⟨rfl, rfl, rfl, by decide +kernel, rfl, by decide +kernel, by decide +kernel⟩
def odds (n : Int) : List PyData := [.none, .int 7, .bool true, .list [], .dict [], .tuple [], .str "", .str "a", .tuple [.str "b"], .int n]
/-- what an odd thing is refused for -/
structure Odd (d : PyData) : Prop where
  go : Go d ∨ ∃ i, d = .int i
  no : NoText d
  ft : ∃ p m, fltD d = some (p, m)
  nb : ∀ z, d = .str z → z ≠ "b"
theorem Drw.kx {K : PySem.W.Frag} {H H' : Hp} {p : Addr} {B : Int} (d : Drw H p B) (g : Gp p H H') : SfG.Kx K H H' := by
  obtain ⟨l, s, t, e, _⟩ := d
  exact g.kx e
theorem odd_lit {d : PyData} (h : (okd d && decide (SfG.wt d ≤ 1000000) && decide (d.depth ≤ 60)) = true) (hs : isS d = false) (hf : ∃ p m, fltD d = some (p, m)) : Odd d :=
  ⟨.inl (Wt.lit h), (fun z e => by rw [e] at hs; cases hs), hf, (fun z e => by rw [e] at hs; cases hs)⟩
theorem tx_lit {z : Str} (h : ((z.cps.toList.all fun c => decide (c < 128)) && decide (z.length ≤ 100)) = true) : Tx z := by
  obtain ⟨h1, h2⟩ := Bool.and_eq_true_iff.mp h
  exact ⟨fun c hc => of_decide_eq_true (List.all_eq_true.mp h1 c hc), Nat.le_trans (of_decide_eq_true h2) (by decide)⟩
def isInl {α β : Type} : α ⊕ β → Bool
  | .inl _ => true
  | .inr _ => false
theorem isInl_ex {α β : Type} {s : α ⊕ β} (h : isInl s = true) : ∃ e, s = .inl e := by
  cases s with
  | inl e => exact ⟨e, rfl⟩
  | inr e => cases h
theorem isInr_ex {α β γ : Type} {s : α ⊕ (β × γ)} (h : isInl s = false) : ∃ hd ds, s = .inr (hd, ds) := by
  cases s with
  | inl e => cases h
  | inr e => exact ⟨e.1, e.2, rfl⟩
theorem go_txt {z : Str} (h : Tx z) : Go (.str z) := h.wt.mono (by decide) (by decide)
theorem odd_str {z : Str} (h : ((z.cps.toList.all fun c => decide (c < 128)) && decide (z.length ≤ 100)) = true) (hr : isInl (rdF (rwOf z)) = true) (hb : z ≠ "b") : Odd (.str z) :=
  ⟨.inl (go_txt (tx_lit h)), fun y e => by cases e; exact ⟨tx_lit h, isInl_ex hr⟩, ⟨_, _, rfl⟩, fun y e => by cases e; exact hb⟩
theorem odds_ok (n : Int) : ∀ (i : Nat) (d : PyData), (odds n)[i]? = some d → Odd d
  | 0, d, h => by cases h; exact odd_lit (by decide +kernel) rfl ⟨_, _, rfl⟩
  | 1, d, h => by cases h; exact odd_lit (by decide +kernel) rfl ⟨_, _, rfl⟩
  | 2, d, h => by cases h; exact odd_lit (by decide +kernel) rfl ⟨_, _, rfl⟩
  | 3, d, h => by cases h; exact odd_lit (by decide +kernel) rfl ⟨_, _, rfl⟩
  | 4, d, h => by cases h; exact odd_lit (by decide +kernel) rfl ⟨_, _, rfl⟩
  | 5, d, h => by cases h; exact odd_lit (by decide +kernel) rfl ⟨_, _, rfl⟩
  | 6, d, h => by cases h; exact odd_str (by decide +kernel) (by decide +kernel) (by decide +kernel)
  | 7, d, h => by cases h; exact odd_str (by decide +kernel) (by decide +kernel) (by decide +kernel)
  | 8, d, h => by cases h; exact odd_lit (by decide +kernel) rfl ⟨_, _, rfl⟩
  | 9, d, h => by cases h; exact ⟨.inr ⟨n, rfl⟩, fun z e => (by cases e), ⟨_, _, rfl⟩, fun z e => (by cases e)⟩
  | i + 10, d, h => by cases h
def w3 : List Str := ["row", "face", "place"]
section
variable {P : Program} {w : World} {K : PySem.W.Frag} {mg : Str → Option Value} {base : Heap}
def spLaw (K : PySem.W.Frag) : Sp := fun vs H Q _ => ∃ (a : Addr) (ns : List Int), vs = [.ref a] ∧ SqL K H a (ns.map V.int) ∧ ns.length ≤ 63 ∧ ∀ H', Q (.bl true) H'
structure Calls (P : Program) (w : World) (K : PySem.W.Frag) (mg : Str → Option Value) (base : Heap) (fD fG fB fT : Addr) (dD dG dB dT : FuncData) : Prop where
  DR : Has P w K mg base 10 "_law_draw" ["_law_cell", "_law_k"] spDraw fD dD
  DG : Has P w K mg base 10 "_law_digit" ["_law_state", "_law_many"] spDigit fG dG
  BH : Has P w K mg base 10 "_law_by_hand" ["_law_number"] spHand fB dB
  TD : Has P w K mg base 10 "_law_told" ["_law_way", "_law_thing"] (spTold6 K) fT dT
  me : mg "enumerate" = none
  msum : mg "sum" = none
  mr : mg "range" = none
set_option maxHeartbeats 8000000 in
theorem ok_law {f fD fG fB fT : Addr} {fd dD dG dB dT : FuncData} (F : Fun K "law" "law" sLaw f fd) (C : Calls P w K mg base fD fG fB fT dD dG dB dT) : FnG P w K mg base CX0 11 f fd ["_law_script"] (spLaw K) := by
  refine fng_of F scLaw (fun vs H Q E h => ?_) (fun cdv A outer s H vs Q E hr hgd h => ?_)
  · obtain ⟨a, ns, rfl, _⟩ := h
    rfl
  · obtain ⟨a, ns, rfl, hS, hlen, q⟩ := h
    have nd := scLaw.nd
    refine' ⟨_, pss_cons ?s1 (pss_one ?s2), ?rd⟩
    case s1 =>
      refine' ps_for PassesOwn.never rfl (pi_enum (by rfl) C.me (pa_cons (pe_op op_cat (pe_slice sl_list (pv 0) po_none (po_some pe_int))
          (pe_lst (pa_cons (pe_callB (cr_sum rfl) (by rfl) C.msum (by decide +kernel) (pa_cons (pv 0) pa_nil)) pa_nil))) pa_nil))
        (pg_tup rfl (pgs_cons (pg_name (i := 1) nd rfl (.inl rfl)) (pgs_cons (pg_name (i := 2) nd rfl (.inl rfl)) pgs_nil)))
        (pss_cons ?b1 (pss_cons ?b2 (pss_cons ?b3 (pss_cons ?b4 (pss_one ?b5)))))
      case b1 => exact ps_set (i := 3) nd rfl (.inl rfl) (hcall C.DR hr (pa_cons (pv 2) (pa_cons (pv 1) pa_nil)))
      case b2 =>
        exact ps_set (i := 4) nd rfl (.inl rfl) (pe_ix ix_list (pe_lst (pa_cons (pe_op op_sub (hcall C.DG hr (pa_cons (pv 3) (pa_cons (pe_op op_pow pe_int pe_int) pa_nil))) pe_int) (pa_cons (pv 2) pa_nil)))
          (hcall C.DG hr (pa_cons (pv 3) (pa_cons pe_int pa_nil))) (fun _ _ => rfl))
      case b3 => exact ps_if (pt_not (pt_val (hcall C.BH hr (pa_cons (pv 4) pa_nil)))) pss_never pss_nil
      case b4 =>
        exact ps_set (i := 5) nd rfl (.inr rfl) (pe_ix ix_list (pe_lst (pa_cons pe_non (pa_cons pe_int (pa_cons pe_bl (pa_cons (pe_lst pa_nil) (pa_cons pe_dnewK (pa_cons (pe_tup pa_nil) (pa_cons pe_str (pa_cons pe_str
          (pa_cons (pe_tup (pa_cons pe_str pa_nil)) (pa_cons (pv 4) pa_nil))))))))))) (hcall C.DG hr (pa_cons (pv 3) (pa_cons pe_int pa_nil))) (fun _ _ => rfl))
      case b5 =>
        exact ps_if (pt_cmpR (r := rNeD K) (op_neD hr.units) (pe_lc (own := [("_law_way", 6)]) (g := gName 6) rfl nd (pi_range1 (by rfl) C.mr (pa_cons pe_int pa_nil)) (blkOk_by (own := [("_law_way", 6)]) (N := nLaw) (sc := defScope sLaw) (by decide +kernel))
          (fun _ _ _ _ _ => pg_name (i := 6) nd rfl (Or.inl rfl)) (fun _ _ _ _ _ => pts_nil) (fun _ _ _ _ _ => hcall C.TD hr (pa_cons (pv 6) (pa_cons (pv 5) pa_nil))))
          (pe_lst (pa_cons (pe_lst (pa_cons pe_str pa_nil)) (pa_cons (pe_lst (pa_cons pe_str pa_nil)) (pa_cons (pe_lst (pa_cons pe_str pa_nil)) pa_nil)))) (nomark _)) pss_never pss_nil
    case s2 =>
      exact ps_ret (pe_cmpR (op_eqD hr.units) (pe_lst (pa_cons (hcall C.TD hr (pa_cons pe_int (pa_cons pe_str pa_nil))) (pa_cons (hcall C.TD hr (pa_cons pe_int (pa_cons pe_str pa_nil))) pa_nil))) (pe_lst (pa_cons pe_non (pa_cons pe_non pa_nil))) (nomark _))
    case rd =>
    -- the list that is walked
    refine ⟨_, rfl, 8, rfl, a, ns.map V.int, rfl, hS, fun q1 n1 => ?_⟩
    have g1 : Gr H (upd H q1 (.lst (cutV (ns.map V.int) none (some 8)))) := Gr.new n1
    refine ⟨_, rfl, a, ns, rfl, g1.seq hS, by show 1 ≤ sizeLine; decide, fun q2 n2 => ?_⟩
    have hq12 : q1 ≠ q2 := ne_of_none upd_same n2
    have cl : (cutV (ns.map V.int) none (some 8)).length ≤ 63 := by
      refine Nat.le_trans (cutV_length _ _ _) ?_
      rw [List.length_map]
      exact hlen
    refine ⟨q1, q2, _, _, rfl, rfl, (upd_ne hq12).trans upd_same, upd_same, ?_, fun el nel => ?_⟩
    · refine Nat.le_of_lt (small1000 ?_)
      show _ + 1 ≤ 1000
      omega
    have hel : upd (upd (upd H q1 (.lst (cutV (ns.map V.int) none (some 8)))) q2 (.lst [.int ns.sum])) el (.lst (cutV (ns.map V.int) none (some 8) ++ [.int ns.sum])) el = some (.lst (cutV (ns.map V.int) none (some 8) ++ [.int ns.sum])) := upd_same
    have hints : ∀ x ∈ cutV (ns.map V.int) none (some 8) ++ [V.int ns.sum], ∃ i, x = .int i := by
      intro x hx
      rcases List.mem_append.mp hx with h | h
      · unfold cutV at h
        obtain ⟨i, _, e⟩ := List.mem_map.mp (List.mem_of_mem_drop (List.mem_of_mem_take h))
        exact ⟨i, e.symm⟩
      · exact ⟨ns.sum, by simpa using h⟩
    have lxs : (cutV (ns.map V.int) none (some 8) ++ [V.int ns.sum]).length ≤ 64 := by
      rw [List.length_append]
      show _ + 1 ≤ 64
      omega
    generalize upd (upd (upd H q1 (.lst (cutV (ns.map V.int) none (some 8)))) q2 (.lst [.int ns.sum])) el (.lst (cutV (ns.map V.int) none (some 8) ++ [.int ns.sum])) = Hs at hel ⊢
    generalize cutV (ns.map V.int) none (some 8) ++ [V.int ns.sum] = xs at hints lxs hel
    refine ⟨el, xs, rfl, .inl (.inl hel), for_it (walk_enum (xs := xs)) (fun i σ H1 => ∃ y1 y2 y3 y4 y5 : Option V,
      σ = [some (.ref a), y1, y2, y3, y4, y5, none] ∧ Gr Hs H1) ⟨none, none, none, none, none, rfl, Gr.refl _⟩ ?stays ?turn ?after⟩
    case stays =>
      rintro i σ H1 hi ⟨y1, y2, y3, y4, y5, rfl, g⟩
      exact .inl (.inl (g.lst hel))
    case turn =>
      rintro i x σ H1 H' hi ⟨z1, z2, z3, z4, z5, rfl, g⟩ ⟨T, kx, cx, rfl, nT, rfl, ek, ec⟩
      cases ek
      obtain ⟨cell, rfl⟩ := hints _ (List.mem_of_getElem? ec)
      refine ⟨T, [.int (i : Nat), .int cell], rfl, .inl (.inl upd_same), rfl, .int (i : Nat), [.int cell], rfl, .int cell, [], rfl, rfl, ?_⟩
      have gT : Gr Hs (upd H1 T (.tup [.int (i : Nat), .int cell])) := g.trans (Gr.new nT)
      generalize upd H1 T (.tup [.int (i : Nat), .int cell]) = HT at gT ⊢
      refine ⟨_, rfl, _, rfl, cell, (i : Nat), rfl, by omega, by omega, fun H2 p np g2 dr => ?_⟩
      have nps : Hs p = none := gT.back p np
      have g02 : Gr Hs H2 := gT.trans g2
      replace dr : Drw H2 p 200 := dr.mono (by omega)
      -- the number
      refine ⟨_, rfl, 10, 9, rfl, rfl, ⟨by decide, by decide, by decide⟩, ?_⟩
      refine ⟨p, 1000000000, _, rfl, dr, by omega, by decide, by decide, fun H3 dg b3 dr3 d0 d9 => ?_⟩
      refine ⟨dg, 400, rfl, rfl, _, rfl, by show 2 ≤ sizeLine; decide, fun l nl => ?_⟩
      have g4 : Gr H3 (upd H3 l (.lst [.int (dg - 400), .int cell])) := Gr.new nl
      have hl : upd H3 l (.lst [.int (dg - 400), .int cell]) l = some (.lst [.int (dg - 400), .int cell]) := upd_same
      have dr4 := dr3.gr g4
      have nlp : l ≠ p := dr3.ne nl
      generalize upd H3 l (.lst [.int (dg - 400), .int cell]) = H4 at g4 hl dr4 ⊢
      refine ⟨_, rfl, p, 2, _, rfl, dr4, by omega, by decide, by decide, fun H5 wh b5 dr5 w0 w2 => ?_⟩
      have hl5 : H5 l = some (.lst [.int (dg - 400), .int cell]) := (Gp.but b5).lst nlp hl
      obtain ⟨n, hn⟩ : ∃ n : Int, atI [V.int (dg - 400), .int cell] wh = some (.int n) := by
        have : wh = 0 ∨ wh = 1 := by omega
        rcases this with rfl | rfl
        · exact ⟨_, rfl⟩
        · exact ⟨_, rfl⟩
      refine ⟨l, _, wh, .int n, rfl, rfl, .inl (.inl hl5), hn, ?_⟩
      have gp5 : Gp p H2 H5 := ((Gp.but b3).trans (Gp.gr g4)).trans (Gp.but b5)
      have gr5 : Gr Hs H5 := Gp.out g02 nps gp5
      clear b3 dr3 g4 hl dr4 b5 hl5 gp5 nl nlp dr d0 d9 hn w0 w2
      -- by hand
      refine ⟨_, rfl, n, rfl, fun H6 g6 => ⟨_, rfl, iteF ?_⟩⟩
      have dr6 := dr5.gr g6
      have gr6 := gr5.trans g6
      clear gr5 g6 dr5
      -- the odd thing
      refine ⟨by show 0 ≤ sizeLine; decide, fun a1 m1 => fun a2 m2 => ⟨by show 0 ≤ sizeLine; decide, fun a3 m3 => ⟨by show 1 ≤ sizeLine; decide, fun a4 m4 => ⟨_, rfl, by show 10 ≤ sizeLine; decide, fun l nl => ?_⟩⟩⟩⟩
      have k1 : Gr H6 (upd H6 a1 (.lst [])) := Gr.new m1
      have d1 : Dx K (upd H6 a1 (.lst [])) (.ref a1) (.list []) := new_L m1 .nil
      generalize upd H6 a1 (.lst []) = G1 at *
      have k2 : Gr G1 (upd G1 a2 (.dK [])) := Gr.new m2
      have d2 : Dx K (upd G1 a2 (.dK [])) (.ref a2) (.dict []) := new_E m2
      generalize upd G1 a2 (.dK []) = G2 at *
      have k3 : Gr G2 (upd G2 a3 (.tup [])) := Gr.new m3
      have d3 : Dx K (upd G2 a3 (.tup [])) (.ref a3) (.tuple []) := new_T m3 .nil
      generalize upd G2 a3 (.tup []) = G3 at *
      have k4 : Gr G3 (upd G3 a4 (.tup [.str "b"])) := Gr.new m4
      have d4 : Dx K (upd G3 a4 (.tup [.str "b"])) (.ref a4) (.tuple [.str "b"]) := new_T m4 (.cons (.str _) .nil)
      generalize upd G3 a4 (.tup [.str "b"]) = G4 at *
      have k5 : Gr G4 (upd G4 l (.lst [.non, .int 7, .bl true, .ref a1, .ref a2, .ref a3, .str "", .str "a", .ref a4, .int n])) := Gr.new nl
      have hl : upd G4 l (.lst [.non, .int 7, .bl true, .ref a1, .ref a2, .ref a3, .str "", .str "a", .ref a4, .int n]) l = some (.lst [.non, .int 7, .bl true, .ref a1, .ref a2, .ref a3, .str "", .str "a", .ref a4, .int n]) := upd_same
      have dA : DxA K (upd G4 l (.lst [.non, .int 7, .bl true, .ref a1, .ref a2, .ref a3, .str "", .str "a", .ref a4, .int n])) [.non, .int 7, .bl true, .ref a1, .ref a2, .ref a3, .str "", .str "a", .ref a4, .int n] (odds n) :=
        k5.kx.dxA (.cons .non (.cons (.int _) (.cons (.bl _) (.cons ((k2.trans (k3.trans k4)).kx.dx d1) (.cons ((k3.trans k4).kx.dx d2) (.cons (k4.kx.dx d3) (.cons (.str _) (.cons (.str _) (.cons d4 (.cons (.int _) .nil))))))))))
      have gk : Gr H6 (upd G4 l (.lst [.non, .int 7, .bl true, .ref a1, .ref a2, .ref a3, .str "", .str "a", .ref a4, .int n])) := k1.trans (k2.trans (k3.trans (k4.trans k5)))
      have drk := dr6.gr gk
      have nlp : l ≠ p := (dr6.gr (k1.trans (k2.trans (k3.trans k4)))).ne nl
      generalize upd G4 l (.lst [.non, .int 7, .bl true, .ref a1, .ref a2, .ref a3, .str "", .str "a", .ref a4, .int n]) = G5 at *
      refine ⟨_, rfl, p, 10, _, rfl, drk, by omega, by decide, by decide, fun G6 wh b6 dr7 w0 w10 => ?_⟩
      obtain ⟨wn, rfl⟩ : ∃ m : Nat, wh = (m : Int) := ⟨wh.toNat, by omega⟩
      have lo : (odds n).length = 10 := rfl
      have hw : (odds n)[wn]? = some (odds n)[wn] := List.getElem?_eq_getElem (by omega)
      have od := odds_ok n wn _ hw
      have dA6 := (drk.kx (K := K) (Gp.but b6)).dxA dA
      obtain ⟨yv, hy, dy⟩ := dxA_get dA6 hw
      have hl6 := (Gp.but b6).lst nlp hl
      have gr7 : Gr Hs G6 := Gp.out (gr6.trans gk) nps (Gp.but b6)
      generalize (odds n)[wn] = dd at hw od dy
      refine ⟨l, _, _, yv, rfl, rfl, .inl (.inl hl6), atI_nat hy, ?_⟩
      clear k1 d1 k2 d2 k3 d3 k4 d4 k5 hl dA gk drk nlp b6 dr7 dA6 hl6 gr6 dr6 m1 m2 m3 m4 nl hy lo hw w0 w10
      -- three ways
      refine ⟨3, rfl, by decide, by decide, fun D nD => ?_⟩
      refine lc_it (walk_range (lo := 0) (n := 3)) (fun i S => ∃ ps, S D = some (.lst ps) ∧ Lz S D ps (w3.take i) ∧ Gr G6 S) ⟨[], upd_same, trivial, Gr.new nD⟩ (fun _ _ _ _ => trivial) ?c1 ?c2
      case c1 =>
        rintro j y S' S hj ⟨ps, hD, lz, gS⟩ ⟨rfl, rfl⟩
        have j3 : j < 3 := hj
        refine ⟨rfl, ?_⟩
        unfold tYes
        have step : ∀ (z : Str), w3[j]? = some z → Told1 S (fun v H4 => ∃ ys, H4 D = some (.lst ys) ∧ ys.length < sizeLine ∧ ∃ ps', upd H4 D (.lst (ys ++ [v])) D = some (.lst ps') ∧ Lz (upd H4 D (.lst (ys ++ [v]))) D ps' (w3.take (j + 1)) ∧ Gr G6 (upd H4 D (.lst (ys ++ [v])))) z := by
          intro z hz H4 q4 g4 hq4
          have hD4 := g4.lst hD
          have npD : q4 ≠ D := fun e => by
            rw [e, hD4] at hq4
            cases hq4
            exact lz.ne rfl
          have lp : ps.length ≤ 3 := by
            rw [lz.len, List.length_take]
            omega
          refine ⟨_, hD4, by rw [sizeLine_eq]; omega, _, upd_same, ?_, (gS.trans g4).upd_new nD⟩
          rw [List.take_add_one, hz]
          exact ((lz.gr g4).app npD hq4).up
        have dS := gS.kx.dx dy
        refine iteT ⟨_, rfl, _, rfl, ?_⟩
        have : j = 0 ∨ j = 1 ∨ j = 2 := by omega
        rcases this with rfl | rfl | rfl
        · exact .inl ⟨yv, dd, rfl, dS, od.go, od.no, step "row" rfl⟩
        · obtain ⟨p', m', hf⟩ := od.ft
          exact .inr (.inr (.inl ⟨yv, dd, p', m', rfl, dS, od.go, hf, step "face" rfl⟩))
        · refine .inr (.inr (.inr (.inl ⟨yv, _, rfl, dx_is dS, fun z ez => ?_, step "place" rfl⟩)))
          subst ez
          cases dS
          exact od.nb z rfl
      case c2 =>
      rintro S ⟨ps, hD, lz, gS⟩
      refine ⟨by show 1 ≤ sizeLine; decide, fun b1 m1 => ⟨by show 1 ≤ sizeLine; decide, fun b2 m2 => ⟨by show 1 ≤ sizeLine; decide, fun b3 m3 => ⟨by show 3 ≤ sizeLine; decide, fun b4 m4 => ?_⟩⟩⟩⟩
      have k1 : Gr S (upd S b1 (.lst [.str "row"])) := Gr.new m1
      have e1 : upd S b1 (.lst [.str "row"]) b1 = some (.lst [.str "row"]) := upd_same
      generalize upd S b1 (.lst [.str "row"]) = S1 at *
      have k2 : Gr S1 (upd S1 b2 (.lst [.str "face"])) := Gr.new m2
      have e2 : upd S1 b2 (.lst [.str "face"]) b2 = some (.lst [.str "face"]) := upd_same
      generalize upd S1 b2 (.lst [.str "face"]) = S2 at *
      have k3 : Gr S2 (upd S2 b3 (.lst [.str "place"])) := Gr.new m3
      have e3 : upd S2 b3 (.lst [.str "place"]) b3 = some (.lst [.str "place"]) := upd_same
      generalize upd S2 b3 (.lst [.str "place"]) = S3 at *
      have k4 : Gr S3 (upd S3 b4 (.lst [.ref b1, .ref b2, .ref b3])) := Gr.new m4
      have e4 : upd S3 b4 (.lst [.ref b1, .ref b2, .ref b3]) b4 = some (.lst [.ref b1, .ref b2, .ref b3]) := upd_same
      generalize upd S3 b4 (.lst [.ref b1, .ref b2, .ref b3]) = S4 at *
      have gA := k1.trans (k2.trans (k3.trans k4))
      have sh : SeqAt.shaped (.list ((w3).map fun z => .list [.str z])) = true := by decide +kernel
      replace lz : Lz S D ps w3 := lz
      refine ⟨.list (w3.map fun z => .list [.str z]), .list (w3.map fun z => .list [.str z]), .lst (.inl (.inl (gA.lst hD))) (lz.gr gA).dp, .lst (.inl (.inl e4)) (.cons (.lst (.inl (.inl ((k2.trans (k3.trans k4)).lst e1))) (.cons (.str _) .nil)) (.cons (.lst (.inl (.inl ((k3.trans k4).lst e2))) (.cons (.str _) .nil)) (.cons (.lst (.inl (.inl (k4.lst e3))) (.cons (.str _) .nil)) .nil))), sh, sh, ?_⟩
      rw [SeqAt.eqv_refl _ (SeqAt.canLay_of_shaped sh)]
      exact ⟨_, rfl, iteF ⟨_, _, _, _, _, rfl, gr7.trans (gS.trans gA)⟩⟩
    case after =>
    rintro σ H1 ⟨y1, y2, y3, y4, y5, rfl, g⟩
    clear hS n1 g1 n2 hq12 cl hel hints lxs nel g
    obtain ⟨hd, ds, hrd⟩ : ∃ hd ds, rdF (rwOf "hidden a\nb a 2 : a") = .inr (hd, ds) := isInr_ex (by decide +kernel)
    have tx : Tx ("hidden a\nb a 2 : a" : Str) := tx_lit (by decide +kernel)
    refine .inr (.inl ⟨_, hd, ds, rfl, go_txt tx, tx, hrd, fun H2 g2 => ?_⟩)
    refine .inr (.inr (.inr (.inr ⟨rfl, fun H3 g3 => ?_⟩)))
    refine ⟨by show 2 ≤ sizeLine; decide, fun b1 m1 => ⟨by show 2 ≤ sizeLine; decide, fun b2 m2 => ?_⟩⟩
    have k2 : Gr (upd H3 b1 (.lst [.non, .non])) (upd (upd H3 b1 (.lst [.non, .non])) b2 (.lst [.non, .non])) := Gr.new m2
    refine ⟨.list [.none, .none], .list [.none, .none], .lst (.inl (.inl (k2.lst upd_same))) (.cons .non (.cons .non .nil)), .lst (.inl (.inl upd_same)) (.cons .non (.cons .non .nil)), rfl, rfl, ?_⟩
    have e : PyData.eqv (.list [.none, .none]) (.list [.none, .none]) = true := by decide +kernel
    rw [e]
    exact q _
end
end SfC
namespace SfC
open PySem PySem.Spec PyProof.Rows L2 SfG
theorem bini_BadRow {K : PySem.W.Frag} {kV doc pm ct : Value} {an : Option Addr} {cda cc : Addr} : Binds K (PySem.W.ksFn "__init__" "BadRow.__init__" (defArgs sRowIni) (defBody sRowIni) (defScope sRowIni) .none kV doc pm an (.ref cda) ct cc) ["self", "row", "word"] [] := Binds.all fun us hl => match us, hl with | [_, _, _], _ => rfl
theorem bini_BadFace {K : PySem.W.Frag} {kV doc pm ct : Value} {an : Option Addr} {cda cc : Addr} : Binds K (PySem.W.ksFn "__init__" "BadFace.__init__" (defArgs sFaceIni) (defBody sFaceIni) (defScope sFaceIni) .none kV doc pm an (.ref cda) ct cc) ["self", "part", "number"] [] := Binds.all fun us hl => match us, hl with | [_, _, _], _ => rfl
theorem bini_BadMaking {K : PySem.W.Frag} {kV doc pm ct : Value} {an : Option Addr} {cda cc : Addr} : Binds K (PySem.W.ksFn "__init__" "BadMaking.__init__" (defArgs sBadMakingIni) (defBody sBadMakingIni) (defScope sBadMakingIni) .none kV doc pm an (.ref cda) ct cc) ["self", "part", "number"] [] := Binds.all fun us hl => match us, hl with | [_, _, _], _ => rfl
theorem bini_BadUser {K : PySem.W.Frag} {kV doc pm ct : Value} {an : Option Addr} {cda cc : Addr} : Binds K (PySem.W.ksFn "__init__" "BadUser.__init__" (defArgs sBadUserIni) (defBody sBadUserIni) (defScope sBadUserIni) .none kV doc pm an (.ref cda) ct cc) ["self", "row", "place"] [] := Binds.all fun us hl => match us, hl with | [_, _, _], _ => rfl
theorem bini_BadLead {K : PySem.W.Frag} {kV doc pm ct : Value} {an : Option Addr} {cda cc : Addr} : Binds K (PySem.W.ksFn "__init__" "BadLead.__init__" (defArgs sBadLeadIni) (defBody sBadLeadIni) (defScope sBadLeadIni) .none kV doc pm an (.ref cda) ct cc) ["self", "kind", "number"] [] := Binds.all fun us hl => match us, hl with | [_, _, _], _ => rfl
theorem bini_BadProgram {K : PySem.W.Frag} {kV doc pm ct : Value} {an : Option Addr} {cda cc : Addr} : Binds K (PySem.W.ksFn "__init__" "BadProgram.__init__" (defArgs sBadProgramIni) (defBody sBadProgramIni) (defScope sBadProgramIni) .none kV doc pm an (.ref cda) ct cc) ["self", "row", "place"] [] := Binds.all fun us hl => match us, hl with | [_, _, _], _ => rfl
theorem bini_BadModule {K : PySem.W.Frag} {kV doc pm ct : Value} {an : Option Addr} {cda cc : Addr} : Binds K (PySem.W.ksFn "__init__" "BadModule.__init__" (defArgs sBadModuleIni) (defBody sBadModuleIni) (defScope sBadModuleIni) .none kV doc pm an (.ref cda) ct cc) ["self", "part", "number"] [] := Binds.all fun us hl => match us, hl with | [_, _, _], _ => rfl
theorem bini_BadSteps {K : PySem.W.Frag} {kV doc pm ct : Value} {an : Option Addr} {cda cc : Addr} : Binds K (PySem.W.ksFn "__init__" "BadSteps.__init__" (defArgs sBadStepsIni) (defBody sBadStepsIni) (defScope sBadStepsIni) .none kV doc pm an (.ref cda) ct cc) ["self", "number"] [] := Binds.all fun us hl => match us, hl with | [_, _], _ => rfl
theorem bini_BadUse {K : PySem.W.Frag} {kV doc pm ct : Value} {an : Option Addr} {cda cc : Addr} : Binds K (PySem.W.ksFn "__init__" "BadUse.__init__" (defArgs sBadUseIni) (defBody sBadUseIni) (defScope sBadUseIni) .none kV doc pm an (.ref cda) ct cc) ["self", "number"] [] := Binds.all fun us hl => match us, hl with | [_, _], _ => rfl
theorem bini_BadInput {K : PySem.W.Frag} {kV doc pm ct : Value} {an : Option Addr} {cda cc : Addr} : Binds K (PySem.W.ksFn "__init__" "BadInput.__init__" (defArgs sBadInputIni) (defBody sBadInputIni) (defScope sBadInputIni) .none kV doc pm an (.ref cda) ct cc) ["self", "number"] [] := Binds.all fun us hl => match us, hl with | [_, _], _ => rfl
theorem bini_BadPaper {K : PySem.W.Frag} {kV doc pm ct : Value} {an : Option Addr} {cda cc : Addr} : Binds K (PySem.W.ksFn "__init__" "BadPaper.__init__" (defArgs sPaperIni) (defBody sPaperIni) (defScope sPaperIni) .none kV doc pm an (.ref cda) ct cc) ["self", "place"] [] := Binds.all fun us hl => match us, hl with | [_, _], _ => rfl
theorem bini_ToldApart {K : PySem.W.Frag} {kV doc pm ct : Value} {an : Option Addr} {cda cc : Addr} : Binds K (PySem.W.ksFn "__init__" "ToldApart.__init__" (defArgs sToldApartIni) (defBody sToldApartIni) (defScope sToldApartIni) .none kV doc pm an (.ref cda) ct cc) ["self", "user"] [] := Binds.all fun us hl => match us, hl with | [_, _], _ => rfl
set_option maxHeartbeats 4000000 in
theorem all_mk {l : PySem.W.OpenLaw} {w : World} {K : PySem.W.Frag} {h : Heap} {mg : Str → Option Value} {fa : Addr} (X : K.In h) (G : h.Ns mainGlobals mg) (hfa : mg "law" = some (.ref fa))
    {fSh : Addr} {odSh anSh : Option Addr} {slSh : Array (Option Value)} {ocSh kVSh dcSh pmSh ctSh cdSh : Value}
    (aSh : PySem.W.nsIn K mainGlobals "shown" = some (some (.ref fSh))) (lSh : K.lookup fSh = some ⟨ocSh, odSh, .func (PySem.W.fnOf "shown" "shown" (defArgs sShown) (defBody sShown) (defScope sShown) .none kVSh dcSh pmSh anSh cdSh ctSh), slSh⟩) (hSh : PySem.W.codeIn K cdSh "shown" = true) (kSh : PySem.W.keepIn K (.ref fSh) = true)
    {fA : Addr} {odA anA : Option Addr} {slA : Array (Option Value)} {ocA kVA dcA pmA ctA cdA : Value}
    (aA : PySem.W.nsIn K mainGlobals "is_name" = some (some (.ref fA))) (lA : K.lookup fA = some ⟨ocA, odA, .func (PySem.W.fnOf "is_name" "is_name" (defArgs sName) (defBody sName) (defScope sName) .none kVA dcA pmA anA cdA ctA), slA⟩) (hA : PySem.W.codeIn K cdA "is_name" = true) (kA : PySem.W.keepIn K (.ref fA) = true)
    {fB : Addr} {odB anB : Option Addr} {slB : Array (Option Value)} {ocB kVB dcB pmB ctB cdB : Value}
    (aB : PySem.W.nsIn K mainGlobals "is_kind" = some (some (.ref fB))) (lB : K.lookup fB = some ⟨ocB, odB, .func (PySem.W.fnOf "is_kind" "is_kind" (defArgs sKind) (defBody sKind) (defScope sKind) .none kVB dcB pmB anB cdB ctB), slB⟩) (hB : PySem.W.codeIn K cdB "is_kind" = true) (kB : PySem.W.keepIn K (.ref fB) = true)
    {fC : Addr} {odC anC : Option Addr} {slC : Array (Option Value)} {ocC kVC dcC pmC ctC cdC : Value}
    (aC : PySem.W.nsIn K mainGlobals "first_bad_deed" = some (some (.ref fC))) (lC : K.lookup fC = some ⟨ocC, odC, .func (PySem.W.fnOf "first_bad_deed" "first_bad_deed" (defArgs sBadD) (defBody sBadD) (defScope sBadD) .none kVC dcC pmC anC cdC ctC), slC⟩) (hC : PySem.W.codeIn K cdC "first_bad_deed" = true) (kC : PySem.W.keepIn K (.ref fC) = true)
    {fD : Addr} {odD anD : Option Addr} {slD : Array (Option Value)} {ocD kVD dcD pmD ctD cdD : Value}
    (aD : PySem.W.nsIn K mainGlobals "first_bad_hidden" = some (some (.ref fD))) (lD : K.lookup fD = some ⟨ocD, odD, .func (PySem.W.fnOf "first_bad_hidden" "first_bad_hidden" (defArgs sBadH) (defBody sBadH) (defScope sBadH) .none kVD dcD pmD anD cdD ctD), slD⟩) (hD : PySem.W.codeIn K cdD "first_bad_hidden" = true) (kD : PySem.W.keepIn K (.ref fD) = true)
    {fE : Addr} {odE anE : Option Addr} {slE : Array (Option Value)} {ocE kVE dcE pmE ctE cdE : Value}
    (aE : PySem.W.nsIn K mainGlobals "face_fault" = some (some (.ref fE))) (lE : K.lookup fE = some ⟨ocE, odE, .func (PySem.W.fnOf "face_fault" "face_fault" (defArgs sFault) (defBody sFault) (defScope sFault) .none kVE dcE pmE anE cdE ctE), slE⟩) (hE : PySem.W.codeIn K cdE "face_fault" = true) (kE : PySem.W.keepIn K (.ref fE) = true)
    {fN : Addr} {odN anN : Option Addr} {slN : Array (Option Value)} {ocN kVN dcN pmN ctN cdN : Value}
    (aN : PySem.W.nsIn K mainGlobals "need_face" = some (some (.ref fN))) (lN : K.lookup fN = some ⟨ocN, odN, .func (PySem.W.fnOf "need_face" "need_face" (defArgs sNeed) (defBody sNeed) (defScope sNeed) .none kVN dcN pmN anN cdN ctN), slN⟩) (hN : PySem.W.codeIn K cdN "need_face" = true) (kN : PySem.W.keepIn K (.ref fN) = true)
    {fFi : Addr} {odFi anFi : Option Addr} {slFi : Array (Option Value)} {ocFi kVFi dcFi pmFi ctFi cdFi : Value}
    (aFi : PySem.W.nsIn K mainGlobals "find_deed" = some (some (.ref fFi))) (lFi : K.lookup fFi = some ⟨ocFi, odFi, .func (PySem.W.fnOf "find_deed" "find_deed" (defArgs sFind) (defBody sFind) (defScope sFind) .none kVFi dcFi pmFi anFi cdFi ctFi), slFi⟩) (hFi : PySem.W.codeIn K cdFi "find_deed" = true) (kFi : PySem.W.keepIn K (.ref fFi) = true)
    {fDn : Addr} {odDn anDn : Option Addr} {slDn : Array (Option Value)} {ocDn kVDn dcDn pmDn ctDn cdDn : Value}
    (aDn : PySem.W.nsIn K mainGlobals "deed_number" = some (some (.ref fDn))) (lDn : K.lookup fDn = some ⟨ocDn, odDn, .func (PySem.W.fnOf "deed_number" "deed_number" (defArgs sDeedN) (defBody sDeedN) (defScope sDeedN) .none kVDn dcDn pmDn anDn cdDn ctDn), slDn⟩) (hDn : PySem.W.codeIn K cdDn "deed_number" = true) (kDn : PySem.W.keepIn K (.ref fDn) = true)
    {fGo : Addr} {odGo anGo : Option Addr} {slGo : Array (Option Value)} {ocGo kVGo dcGo pmGo ctGo cdGo : Value}
    (aGo : PySem.W.nsIn K mainGlobals "gives_of" = some (some (.ref fGo))) (lGo : K.lookup fGo = some ⟨ocGo, odGo, .func (PySem.W.fnOf "gives_of" "gives_of" (defArgs sGives) (defBody sGives) (defScope sGives) .none kVGo dcGo pmGo anGo cdGo ctGo), slGo⟩) (hGo : PySem.W.codeIn K cdGo "gives_of" = true) (kGo : PySem.W.keepIn K (.ref fGo) = true)
    {fN1 : Addr} {odN1 anN1 : Option Addr} {slN1 : Array (Option Value)} {ocN1 kVN1 dcN1 pmN1 ctN1 cdN1 : Value}
    (aN1 : PySem.W.nsIn K mainGlobals "is_next_name" = some (some (.ref fN1))) (lN1 : K.lookup fN1 = some ⟨ocN1, odN1, .func (PySem.W.fnOf "is_next_name" "is_next_name" (defArgs sNextN) (defBody sNextN) (defScope sNextN) .none kVN1 dcN1 pmN1 anN1 cdN1 ctN1), slN1⟩) (hN1 : PySem.W.codeIn K cdN1 "is_next_name" = true) (kN1 : PySem.W.keepIn K (.ref fN1) = true)
    {fN2 : Addr} {odN2 anN2 : Option Addr} {slN2 : Array (Option Value)} {ocN2 kVN2 dcN2 pmN2 ctN2 cdN2 : Value}
    (aN2 : PySem.W.nsIn K mainGlobals "number_by_figures" = some (some (.ref fN2))) (lN2 : K.lookup fN2 = some ⟨ocN2, odN2, .func (PySem.W.fnOf "number_by_figures" "number_by_figures" (defArgs sFigs) (defBody sFigs) (defScope sFigs) .none kVN2 dcN2 pmN2 anN2 cdN2 ctN2), slN2⟩) (hN2 : PySem.W.codeIn K cdN2 "number_by_figures" = true) (kN2 : PySem.W.keepIn K (.ref fN2) = true)
    {fN3 : Addr} {odN3 anN3 : Option Addr} {slN3 : Array (Option Value)} {ocN3 kVN3 dcN3 pmN3 ctN3 cdN3 : Value}
    (aN3 : PySem.W.nsIn K mainGlobals "number_of" = some (some (.ref fN3))) (lN3 : K.lookup fN3 = some ⟨ocN3, odN3, .func (PySem.W.fnOf "number_of" "number_of" (defArgs sNum) (defBody sNum) (defScope sNum) .none kVN3 dcN3 pmN3 anN3 cdN3 ctN3), slN3⟩) (hN3 : PySem.W.codeIn K cdN3 "number_of" = true) (kN3 : PySem.W.keepIn K (.ref fN3) = true)
    {fN4 : Addr} {odN4 anN4 : Option Addr} {slN4 : Array (Option Value)} {ocN4 kVN4 dcN4 pmN4 ctN4 cdN4 : Value}
    (aN4 : PySem.W.nsIn K mainGlobals "kind_by" = some (some (.ref fN4))) (lN4 : K.lookup fN4 = some ⟨ocN4, odN4, .func (PySem.W.fnOf "kind_by" "kind_by" (defArgs sKindBy) (defBody sKindBy) (defScope sKindBy) .none kVN4 dcN4 pmN4 anN4 cdN4 ctN4), slN4⟩) (hN4 : PySem.W.codeIn K cdN4 "kind_by" = true) (kN4 : PySem.W.keepIn K (.ref fN4) = true)
    {fN5 : Addr} {odN5 anN5 : Option Addr} {slN5 : Array (Option Value)} {ocN5 kVN5 dcN5 pmN5 ctN5 cdN5 : Value}
    (aN5 : PySem.W.nsIn K mainGlobals "are_takes" = some (some (.ref fN5))) (lN5 : K.lookup fN5 = some ⟨ocN5, odN5, .func (PySem.W.fnOf "are_takes" "are_takes" (defArgs sAreT) (defBody sAreT) (defScope sAreT) .none kVN5 dcN5 pmN5 anN5 cdN5 ctN5), slN5⟩) (hN5 : PySem.W.codeIn K cdN5 "are_takes" = true) (kN5 : PySem.W.keepIn K (.ref fN5) = true)
    {fN6 : Addr} {odN6 anN6 : Option Addr} {slN6 : Array (Option Value)} {ocN6 kVN6 dcN6 pmN6 ctN6 cdN6 : Value}
    (aN6 : PySem.W.nsIn K mainGlobals "words_of" = some (some (.ref fN6))) (lN6 : K.lookup fN6 = some ⟨ocN6, odN6, .func (PySem.W.fnOf "words_of" "words_of" (defArgs sWords) (defBody sWords) (defScope sWords) .none kVN6 dcN6 pmN6 anN6 cdN6 ctN6), slN6⟩) (hN6 : PySem.W.codeIn K cdN6 "words_of" = true) (kN6 : PySem.W.keepIn K (.ref fN6) = true)
    {fN7 : Addr} {odN7 anN7 : Option Addr} {slN7 : Array (Option Value)} {ocN7 kVN7 dcN7 pmN7 ctN7 cdN7 : Value}
    (aN7 : PySem.W.nsIn K mainGlobals "rows_of" = some (some (.ref fN7))) (lN7 : K.lookup fN7 = some ⟨ocN7, odN7, .func (PySem.W.fnOf "rows_of" "rows_of" (defArgs sRowsOf) (defBody sRowsOf) (defScope sRowsOf) .none kVN7 dcN7 pmN7 anN7 cdN7 ctN7), slN7⟩) (hN7 : PySem.W.codeIn K cdN7 "rows_of" = true) (kN7 : PySem.W.keepIn K (.ref fN7) = true)
    {fN8 : Addr} {odN8 anN8 : Option Addr} {slN8 : Array (Option Value)} {ocN8 kVN8 dcN8 pmN8 ctN8 cdN8 : Value}
    (aN8 : PySem.W.nsIn K mainGlobals "need_no_more" = some (some (.ref fN8))) (lN8 : K.lookup fN8 = some ⟨ocN8, odN8, .func (PySem.W.fnOf "need_no_more" "need_no_more" (defArgs sNoMore) (defBody sNoMore) (defScope sNoMore) .none kVN8 dcN8 pmN8 anN8 cdN8 ctN8), slN8⟩) (hN8 : PySem.W.codeIn K cdN8 "need_no_more" = true) (kN8 : PySem.W.keepIn K (.ref fN8) = true)
    {fN9 : Addr} {odN9 anN9 : Option Addr} {slN9 : Array (Option Value)} {ocN9 kVN9 dcN9 pmN9 ctN9 cdN9 : Value}
    (aN9 : PySem.W.nsIn K mainGlobals "row_at" = some (some (.ref fN9))) (lN9 : K.lookup fN9 = some ⟨ocN9, odN9, .func (PySem.W.fnOf "row_at" "row_at" (defArgs sRowAt) (defBody sRowAt) (defScope sRowAt) .none kVN9 dcN9 pmN9 anN9 cdN9 ctN9), slN9⟩) (hN9 : PySem.W.codeIn K cdN9 "row_at" = true) (kN9 : PySem.W.keepIn K (.ref fN9) = true)
    {fG : Addr} {odG anG : Option Addr} {slG : Array (Option Value)} {ocG kVG dcG pmG ctG cdG : Value}
    (aG : PySem.W.nsIn K mainGlobals "read_hidden" = some (some (.ref fG))) (lG : K.lookup fG = some ⟨ocG, odG, .func (PySem.W.fnOf "read_hidden" "read_hidden" (defArgs sReadH) (defBody sReadH) (defScope sReadH) .none kVG dcG pmG anG cdG ctG), slG⟩) (hG : PySem.W.codeIn K cdG "read_hidden" = true) (kG : PySem.W.keepIn K (.ref fG) = true)
    {fH : Addr} {odH anH : Option Addr} {slH : Array (Option Value)} {ocH kVH dcH pmH ctH cdH : Value}
    (aH : PySem.W.nsIn K mainGlobals "read_takes" = some (some (.ref fH))) (lH : K.lookup fH = some ⟨ocH, odH, .func (PySem.W.fnOf "read_takes" "read_takes" (defArgs sReadT) (defBody sReadT) (defScope sReadT) .none kVH dcH pmH anH cdH ctH), slH⟩) (hH : PySem.W.codeIn K cdH "read_takes" = true) (kH : PySem.W.keepIn K (.ref fH) = true)
    {fI : Addr} {odI anI : Option Addr} {slI : Array (Option Value)} {ocI kVI dcI pmI ctI cdI : Value}
    (aI : PySem.W.nsIn K mainGlobals "read_deed" = some (some (.ref fI))) (lI : K.lookup fI = some ⟨ocI, odI, .func (PySem.W.fnOf "read_deed" "read_deed" (defArgs sReadD) (defBody sReadD) (defScope sReadD) .none kVI dcI pmI anI cdI ctI), slI⟩) (hI : PySem.W.codeIn K cdI "read_deed" = true) (kI : PySem.W.keepIn K (.ref fI) = true)
    {fRb : Addr} {odRb anRb : Option Addr} {slRb : Array (Option Value)} {ocRb kVRb dcRb pmRb ctRb cdRb : Value}
    (aRb : PySem.W.nsIn K mainGlobals "read_face_behind" = some (some (.ref fRb))) (lRb : K.lookup fRb = some ⟨ocRb, odRb, .func (PySem.W.fnOf "read_face_behind" "read_face_behind" (defArgs sReadFB) (defBody sReadFB) (defScope sReadFB) .none kVRb dcRb pmRb anRb cdRb ctRb), slRb⟩) (hRb : PySem.W.codeIn K cdRb "read_face_behind" = true) (kRb : PySem.W.keepIn K (.ref fRb) = true)
    {fRf : Addr} {odRf anRf : Option Addr} {slRf : Array (Option Value)} {ocRf kVRf dcRf pmRf ctRf cdRf : Value}
    (aRf : PySem.W.nsIn K mainGlobals "read_face" = some (some (.ref fRf))) (lRf : K.lookup fRf = some ⟨ocRf, odRf, .func (PySem.W.fnOf "read_face" "read_face" (defArgs sReadF) (defBody sReadF) (defScope sReadF) .none kVRf dcRf pmRf anRf cdRf ctRf), slRf⟩) (hRf : PySem.W.codeIn K cdRf "read_face" = true) (kRf : PySem.W.keepIn K (.ref fRf) = true)
    {fX : Addr} {odX anX : Option Addr} {slX : Array (Option Value)} {ocX kVX dcX pmX ctX cdX : Value}
    (aX : PySem.W.nsIn K mainGlobals "_law_mixed" = some (some (.ref fX))) (lX : K.lookup fX = some ⟨ocX, odX, .func (PySem.W.fnOf "_law_mixed" "_law_mixed" (defArgs sMixed) (defBody sMixed) (defScope sMixed) .none kVX dcX pmX anX cdX ctX), slX⟩) (hX : PySem.W.codeIn K cdX "_law_mixed" = true) (kX : PySem.W.keepIn K (.ref fX) = true)
    {fK : Addr} {odK anK : Option Addr} {slK : Array (Option Value)} {ocK kVK dcK pmK ctK cdK : Value}
    (aK : PySem.W.nsIn K mainGlobals "_law_kinds" = some (some (.ref fK))) (lK : K.lookup fK = some ⟨ocK, odK, .func (PySem.W.fnOf "_law_kinds" "_law_kinds" (defArgs sKinds) (defBody sKinds) (defScope sKinds) .none kVK dcK pmK anK cdK ctK), slK⟩) (hK : PySem.W.codeIn K cdK "_law_kinds" = true) (kK : PySem.W.keepIn K (.ref fK) = true)
    {fR : Addr} {odR anR : Option Addr} {slR : Array (Option Value)} {ocR kVR dcR pmR ctR cdR : Value}
    (aR : PySem.W.nsIn K mainGlobals "_law_draw" = some (some (.ref fR))) (lR : K.lookup fR = some ⟨ocR, odR, .func (PySem.W.fnOf "_law_draw" "_law_draw" (defArgs sDraw) (defBody sDraw) (defScope sDraw) .none kVR dcR pmR anR cdR ctR), slR⟩) (hR : PySem.W.codeIn K cdR "_law_draw" = true) (kR : PySem.W.keepIn K (.ref fR) = true)
    {fJ : Addr} {odJ anJ : Option Addr} {slJ : Array (Option Value)} {ocJ kVJ dcJ pmJ ctJ cdJ : Value}
    (aJ : PySem.W.nsIn K mainGlobals "_law_digit" = some (some (.ref fJ))) (lJ : K.lookup fJ = some ⟨ocJ, odJ, .func (PySem.W.fnOf "_law_digit" "_law_digit" (defArgs sDigit) (defBody sDigit) (defScope sDigit) .none kVJ dcJ pmJ anJ cdJ ctJ), slJ⟩) (hJ : PySem.W.codeIn K cdJ "_law_digit" = true) (kJ : PySem.W.keepIn K (.ref fJ) = true)
    {fBh : Addr} {odBh anBh : Option Addr} {slBh : Array (Option Value)} {ocBh kVBh dcBh pmBh ctBh cdBh : Value}
    (aBh : PySem.W.nsIn K mainGlobals "_law_by_hand" = some (some (.ref fBh))) (lBh : K.lookup fBh = some ⟨ocBh, odBh, .func (PySem.W.fnOf "_law_by_hand" "_law_by_hand" (defArgs sByHand) (defBody sByHand) (defScope sByHand) .none kVBh dcBh pmBh anBh cdBh ctBh), slBh⟩) (hBh : PySem.W.codeIn K cdBh "_law_by_hand" = true) (kBh : PySem.W.keepIn K (.ref fBh) = true)
    {fTd : Addr} {odTd anTd : Option Addr} {slTd : Array (Option Value)} {ocTd kVTd dcTd pmTd ctTd cdTd : Value}
    (aTd : PySem.W.nsIn K mainGlobals "_law_told" = some (some (.ref fTd))) (lTd : K.lookup fTd = some ⟨ocTd, odTd, .func (PySem.W.fnOf "_law_told" "_law_told" (defArgs sTold) (defBody sTold) (defScope sTold) .none kVTd dcTd pmTd anTd cdTd ctTd), slTd⟩) (hTd : PySem.W.codeIn K cdTd "_law_told" = true) (kTd : PySem.W.keepIn K (.ref fTd) = true)
    {fL : Addr} {odL anL : Option Addr} {slL : Array (Option Value)} {ocL kVL dcL pmL ctL cdL : Value}
    (aL : PySem.W.nsIn K mainGlobals "law" = some (some (.ref fL))) (lL : K.lookup fL = some ⟨ocL, odL, .func (PySem.W.fnOf "law" "law" (defArgs sLaw) (defBody sLaw) (defScope sLaw) .none kVL dcL pmL anL cdL ctL), slL⟩) (hL : PySem.W.codeIn K cdL "law" = true) (kL : PySem.W.keepIn K (.ref fL) = true)
    {tmd : Tok} (cmd : PySem.W.nsIn K mainGlobals "MOST_DEEDS" = some (some (.int 8 tmd)))
    {cBadRow cBadFace cBadMaking cBadUser cBadSteps cBadLead cToldApart cOutOfPlace cTooGreat cBadPaper cBadProgram cBadModule cRefused cBadUse cBadInput cFaceError : Addr}
    (nBadRow : PySem.W.nsIn K mainGlobals "BadRow" = some (some (.ref cBadRow)))
    (nBadFace : PySem.W.nsIn K mainGlobals "BadFace" = some (some (.ref cBadFace)))
    (nBadMaking : PySem.W.nsIn K mainGlobals "BadMaking" = some (some (.ref cBadMaking)))
    (nBadUser : PySem.W.nsIn K mainGlobals "BadUser" = some (some (.ref cBadUser)))
    (nBadSteps : PySem.W.nsIn K mainGlobals "BadSteps" = some (some (.ref cBadSteps)))
    (nBadLead : PySem.W.nsIn K mainGlobals "BadLead" = some (some (.ref cBadLead)))
    (nToldApart : PySem.W.nsIn K mainGlobals "ToldApart" = some (some (.ref cToldApart)))
    (nOutOfPlace : PySem.W.nsIn K mainGlobals "OutOfPlace" = some (some (.ref cOutOfPlace)))
    (nTooGreat : PySem.W.nsIn K mainGlobals "TooGreat" = some (some (.ref cTooGreat)))
    (nBadPaper : PySem.W.nsIn K mainGlobals "BadPaper" = some (some (.ref cBadPaper)))
    (nBadProgram : PySem.W.nsIn K mainGlobals "BadProgram" = some (some (.ref cBadProgram)))
    (nBadModule : PySem.W.nsIn K mainGlobals "BadModule" = some (some (.ref cBadModule)))
    (nRefused : PySem.W.nsIn K mainGlobals "Refused" = some (some (.ref cRefused)))
    (nBadUse : PySem.W.nsIn K mainGlobals "BadUse" = some (some (.ref cBadUse)))
    (nBadInput : PySem.W.nsIn K mainGlobals "BadInput" = some (some (.ref cBadInput)))
    (nFaceError : PySem.W.nsIn K mainGlobals "FaceError" = some (some (.ref cFaceError)))
    (uBadRowBadRow : PySem.W.kitOne K (.ref cBadRow) (.ref cBadRow) = some true)
    (uBadRowBadFace : PySem.W.kitOne K (.ref cBadRow) (.ref cBadFace) = some false)
    (uBadRowBadMaking : PySem.W.kitOne K (.ref cBadRow) (.ref cBadMaking) = some false)
    (uBadRowBadUser : PySem.W.kitOne K (.ref cBadRow) (.ref cBadUser) = some false)
    (uBadRowBadSteps : PySem.W.kitOne K (.ref cBadRow) (.ref cBadSteps) = some false)
    (uBadRowBadLead : PySem.W.kitOne K (.ref cBadRow) (.ref cBadLead) = some false)
    (uBadRowToldApart : PySem.W.kitOne K (.ref cBadRow) (.ref cToldApart) = some false)
    (uBadRowOutOfPlace : PySem.W.kitOne K (.ref cBadRow) (.ref cOutOfPlace) = some false)
    (uBadRowTooGreat : PySem.W.kitOne K (.ref cBadRow) (.ref cTooGreat) = some false)
    (uBadRowBadPaper : PySem.W.kitOne K (.ref cBadRow) (.ref cBadPaper) = some false)
    (uBadRowBadProgram : PySem.W.kitOne K (.ref cBadRow) (.ref cBadProgram) = some false)
    (uBadRowBadModule : PySem.W.kitOne K (.ref cBadRow) (.ref cBadModule) = some false)
    (uBadRowRefused : PySem.W.kitOne K (.ref cBadRow) (.ref cRefused) = some false)
    (uBadRowBadUse : PySem.W.kitOne K (.ref cBadRow) (.ref cBadUse) = some false)
    (uBadRowBadInput : PySem.W.kitOne K (.ref cBadRow) (.ref cBadInput) = some false)
    (uBadRowFaceError : PySem.W.kitOne K (.ref cBadRow) (.ref cFaceError) = some true)
    (uBadRowVE : PySem.W.kitOne K (.ref cBadRow) (.type "ValueError") = some true)
    (uBadRoweg : PySem.W.findIn K (.ref cBadRow) "__getattribute__" = some (some (.builtin "BaseException.__getattribute__")))
    (uBadRowek : PySem.W.findIn K (.ref cBadRow) "__getattr__" = some none)
    (uBadRowes : PySem.W.subIn K (.ref cBadRow) (.type "BaseException") = some true)
    (uBadRowed : PySem.W.hasDictIn K cBadRow = true)
    (uBadRowea : PySem.W.findIn K (.ref cBadRow) "__class__" = some (some (.builtin "object.__class__")))
    (uBadRowem : PySem.W.mroIn K cBadRow (.type "object") = some true)
    (uBadRowkp : PySem.W.keepIn K (.ref cBadRow) = true)
    (uBadRowty : PySem.W.typeIn K (.ref cBadRow) = some (.type "type"))
    (uBadFaceBadRow : PySem.W.kitOne K (.ref cBadFace) (.ref cBadRow) = some false)
    (uBadFaceBadFace : PySem.W.kitOne K (.ref cBadFace) (.ref cBadFace) = some true)
    (uBadFaceBadMaking : PySem.W.kitOne K (.ref cBadFace) (.ref cBadMaking) = some false)
    (uBadFaceBadUser : PySem.W.kitOne K (.ref cBadFace) (.ref cBadUser) = some false)
    (uBadFaceBadSteps : PySem.W.kitOne K (.ref cBadFace) (.ref cBadSteps) = some false)
    (uBadFaceBadLead : PySem.W.kitOne K (.ref cBadFace) (.ref cBadLead) = some false)
    (uBadFaceToldApart : PySem.W.kitOne K (.ref cBadFace) (.ref cToldApart) = some false)
    (uBadFaceOutOfPlace : PySem.W.kitOne K (.ref cBadFace) (.ref cOutOfPlace) = some false)
    (uBadFaceTooGreat : PySem.W.kitOne K (.ref cBadFace) (.ref cTooGreat) = some false)
    (uBadFaceBadPaper : PySem.W.kitOne K (.ref cBadFace) (.ref cBadPaper) = some false)
    (uBadFaceBadProgram : PySem.W.kitOne K (.ref cBadFace) (.ref cBadProgram) = some false)
    (uBadFaceBadModule : PySem.W.kitOne K (.ref cBadFace) (.ref cBadModule) = some false)
    (uBadFaceRefused : PySem.W.kitOne K (.ref cBadFace) (.ref cRefused) = some false)
    (uBadFaceBadUse : PySem.W.kitOne K (.ref cBadFace) (.ref cBadUse) = some false)
    (uBadFaceBadInput : PySem.W.kitOne K (.ref cBadFace) (.ref cBadInput) = some false)
    (uBadFaceFaceError : PySem.W.kitOne K (.ref cBadFace) (.ref cFaceError) = some true)
    (uBadFaceVE : PySem.W.kitOne K (.ref cBadFace) (.type "ValueError") = some true)
    (uBadFaceeg : PySem.W.findIn K (.ref cBadFace) "__getattribute__" = some (some (.builtin "BaseException.__getattribute__")))
    (uBadFaceek : PySem.W.findIn K (.ref cBadFace) "__getattr__" = some none)
    (uBadFacees : PySem.W.subIn K (.ref cBadFace) (.type "BaseException") = some true)
    (uBadFaceed : PySem.W.hasDictIn K cBadFace = true)
    (uBadFaceea : PySem.W.findIn K (.ref cBadFace) "__class__" = some (some (.builtin "object.__class__")))
    (uBadFaceem : PySem.W.mroIn K cBadFace (.type "object") = some true)
    (uBadFacekp : PySem.W.keepIn K (.ref cBadFace) = true)
    (uBadFacety : PySem.W.typeIn K (.ref cBadFace) = some (.type "type"))
    (uBadMakingBadRow : PySem.W.kitOne K (.ref cBadMaking) (.ref cBadRow) = some false)
    (uBadMakingBadFace : PySem.W.kitOne K (.ref cBadMaking) (.ref cBadFace) = some false)
    (uBadMakingBadMaking : PySem.W.kitOne K (.ref cBadMaking) (.ref cBadMaking) = some true)
    (uBadMakingBadUser : PySem.W.kitOne K (.ref cBadMaking) (.ref cBadUser) = some false)
    (uBadMakingBadSteps : PySem.W.kitOne K (.ref cBadMaking) (.ref cBadSteps) = some false)
    (uBadMakingBadLead : PySem.W.kitOne K (.ref cBadMaking) (.ref cBadLead) = some false)
    (uBadMakingToldApart : PySem.W.kitOne K (.ref cBadMaking) (.ref cToldApart) = some false)
    (uBadMakingOutOfPlace : PySem.W.kitOne K (.ref cBadMaking) (.ref cOutOfPlace) = some false)
    (uBadMakingTooGreat : PySem.W.kitOne K (.ref cBadMaking) (.ref cTooGreat) = some false)
    (uBadMakingBadPaper : PySem.W.kitOne K (.ref cBadMaking) (.ref cBadPaper) = some false)
    (uBadMakingBadProgram : PySem.W.kitOne K (.ref cBadMaking) (.ref cBadProgram) = some false)
    (uBadMakingBadModule : PySem.W.kitOne K (.ref cBadMaking) (.ref cBadModule) = some false)
    (uBadMakingRefused : PySem.W.kitOne K (.ref cBadMaking) (.ref cRefused) = some false)
    (uBadMakingBadUse : PySem.W.kitOne K (.ref cBadMaking) (.ref cBadUse) = some false)
    (uBadMakingBadInput : PySem.W.kitOne K (.ref cBadMaking) (.ref cBadInput) = some false)
    (uBadMakingFaceError : PySem.W.kitOne K (.ref cBadMaking) (.ref cFaceError) = some true)
    (uBadMakingVE : PySem.W.kitOne K (.ref cBadMaking) (.type "ValueError") = some true)
    (uBadMakingeg : PySem.W.findIn K (.ref cBadMaking) "__getattribute__" = some (some (.builtin "BaseException.__getattribute__")))
    (uBadMakingek : PySem.W.findIn K (.ref cBadMaking) "__getattr__" = some none)
    (uBadMakinges : PySem.W.subIn K (.ref cBadMaking) (.type "BaseException") = some true)
    (uBadMakinged : PySem.W.hasDictIn K cBadMaking = true)
    (uBadMakingea : PySem.W.findIn K (.ref cBadMaking) "__class__" = some (some (.builtin "object.__class__")))
    (uBadMakingem : PySem.W.mroIn K cBadMaking (.type "object") = some true)
    (uBadMakingkp : PySem.W.keepIn K (.ref cBadMaking) = true)
    (uBadMakingty : PySem.W.typeIn K (.ref cBadMaking) = some (.type "type"))
    (uBadUserBadRow : PySem.W.kitOne K (.ref cBadUser) (.ref cBadRow) = some false)
    (uBadUserBadFace : PySem.W.kitOne K (.ref cBadUser) (.ref cBadFace) = some false)
    (uBadUserBadMaking : PySem.W.kitOne K (.ref cBadUser) (.ref cBadMaking) = some false)
    (uBadUserBadUser : PySem.W.kitOne K (.ref cBadUser) (.ref cBadUser) = some true)
    (uBadUserBadSteps : PySem.W.kitOne K (.ref cBadUser) (.ref cBadSteps) = some false)
    (uBadUserBadLead : PySem.W.kitOne K (.ref cBadUser) (.ref cBadLead) = some false)
    (uBadUserToldApart : PySem.W.kitOne K (.ref cBadUser) (.ref cToldApart) = some false)
    (uBadUserOutOfPlace : PySem.W.kitOne K (.ref cBadUser) (.ref cOutOfPlace) = some false)
    (uBadUserTooGreat : PySem.W.kitOne K (.ref cBadUser) (.ref cTooGreat) = some false)
    (uBadUserBadPaper : PySem.W.kitOne K (.ref cBadUser) (.ref cBadPaper) = some false)
    (uBadUserBadProgram : PySem.W.kitOne K (.ref cBadUser) (.ref cBadProgram) = some false)
    (uBadUserBadModule : PySem.W.kitOne K (.ref cBadUser) (.ref cBadModule) = some false)
    (uBadUserRefused : PySem.W.kitOne K (.ref cBadUser) (.ref cRefused) = some false)
    (uBadUserBadUse : PySem.W.kitOne K (.ref cBadUser) (.ref cBadUse) = some false)
    (uBadUserBadInput : PySem.W.kitOne K (.ref cBadUser) (.ref cBadInput) = some false)
    (uBadUserFaceError : PySem.W.kitOne K (.ref cBadUser) (.ref cFaceError) = some true)
    (uBadUserVE : PySem.W.kitOne K (.ref cBadUser) (.type "ValueError") = some true)
    (uBadUsereg : PySem.W.findIn K (.ref cBadUser) "__getattribute__" = some (some (.builtin "BaseException.__getattribute__")))
    (uBadUserek : PySem.W.findIn K (.ref cBadUser) "__getattr__" = some none)
    (uBadUseres : PySem.W.subIn K (.ref cBadUser) (.type "BaseException") = some true)
    (uBadUsered : PySem.W.hasDictIn K cBadUser = true)
    (uBadUserea : PySem.W.findIn K (.ref cBadUser) "__class__" = some (some (.builtin "object.__class__")))
    (uBadUserem : PySem.W.mroIn K cBadUser (.type "object") = some true)
    (uBadUserkp : PySem.W.keepIn K (.ref cBadUser) = true)
    (uBadUserty : PySem.W.typeIn K (.ref cBadUser) = some (.type "type"))
    (uBadStepsBadRow : PySem.W.kitOne K (.ref cBadSteps) (.ref cBadRow) = some false)
    (uBadStepsBadFace : PySem.W.kitOne K (.ref cBadSteps) (.ref cBadFace) = some false)
    (uBadStepsBadMaking : PySem.W.kitOne K (.ref cBadSteps) (.ref cBadMaking) = some false)
    (uBadStepsBadUser : PySem.W.kitOne K (.ref cBadSteps) (.ref cBadUser) = some false)
    (uBadStepsBadSteps : PySem.W.kitOne K (.ref cBadSteps) (.ref cBadSteps) = some true)
    (uBadStepsBadLead : PySem.W.kitOne K (.ref cBadSteps) (.ref cBadLead) = some false)
    (uBadStepsToldApart : PySem.W.kitOne K (.ref cBadSteps) (.ref cToldApart) = some false)
    (uBadStepsOutOfPlace : PySem.W.kitOne K (.ref cBadSteps) (.ref cOutOfPlace) = some false)
    (uBadStepsTooGreat : PySem.W.kitOne K (.ref cBadSteps) (.ref cTooGreat) = some false)
    (uBadStepsBadPaper : PySem.W.kitOne K (.ref cBadSteps) (.ref cBadPaper) = some false)
    (uBadStepsBadProgram : PySem.W.kitOne K (.ref cBadSteps) (.ref cBadProgram) = some false)
    (uBadStepsBadModule : PySem.W.kitOne K (.ref cBadSteps) (.ref cBadModule) = some false)
    (uBadStepsRefused : PySem.W.kitOne K (.ref cBadSteps) (.ref cRefused) = some false)
    (uBadStepsBadUse : PySem.W.kitOne K (.ref cBadSteps) (.ref cBadUse) = some false)
    (uBadStepsBadInput : PySem.W.kitOne K (.ref cBadSteps) (.ref cBadInput) = some false)
    (uBadStepsFaceError : PySem.W.kitOne K (.ref cBadSteps) (.ref cFaceError) = some true)
    (uBadStepsVE : PySem.W.kitOne K (.ref cBadSteps) (.type "ValueError") = some true)
    (uBadStepseg : PySem.W.findIn K (.ref cBadSteps) "__getattribute__" = some (some (.builtin "BaseException.__getattribute__")))
    (uBadStepsek : PySem.W.findIn K (.ref cBadSteps) "__getattr__" = some none)
    (uBadStepses : PySem.W.subIn K (.ref cBadSteps) (.type "BaseException") = some true)
    (uBadStepsed : PySem.W.hasDictIn K cBadSteps = true)
    (uBadStepsea : PySem.W.findIn K (.ref cBadSteps) "__class__" = some (some (.builtin "object.__class__")))
    (uBadStepsem : PySem.W.mroIn K cBadSteps (.type "object") = some true)
    (uBadStepskp : PySem.W.keepIn K (.ref cBadSteps) = true)
    (uBadStepsty : PySem.W.typeIn K (.ref cBadSteps) = some (.type "type"))
    (uBadLeadBadRow : PySem.W.kitOne K (.ref cBadLead) (.ref cBadRow) = some false)
    (uBadLeadBadFace : PySem.W.kitOne K (.ref cBadLead) (.ref cBadFace) = some false)
    (uBadLeadBadMaking : PySem.W.kitOne K (.ref cBadLead) (.ref cBadMaking) = some false)
    (uBadLeadBadUser : PySem.W.kitOne K (.ref cBadLead) (.ref cBadUser) = some false)
    (uBadLeadBadSteps : PySem.W.kitOne K (.ref cBadLead) (.ref cBadSteps) = some false)
    (uBadLeadBadLead : PySem.W.kitOne K (.ref cBadLead) (.ref cBadLead) = some true)
    (uBadLeadToldApart : PySem.W.kitOne K (.ref cBadLead) (.ref cToldApart) = some false)
    (uBadLeadOutOfPlace : PySem.W.kitOne K (.ref cBadLead) (.ref cOutOfPlace) = some false)
    (uBadLeadTooGreat : PySem.W.kitOne K (.ref cBadLead) (.ref cTooGreat) = some false)
    (uBadLeadBadPaper : PySem.W.kitOne K (.ref cBadLead) (.ref cBadPaper) = some false)
    (uBadLeadBadProgram : PySem.W.kitOne K (.ref cBadLead) (.ref cBadProgram) = some false)
    (uBadLeadBadModule : PySem.W.kitOne K (.ref cBadLead) (.ref cBadModule) = some false)
    (uBadLeadRefused : PySem.W.kitOne K (.ref cBadLead) (.ref cRefused) = some false)
    (uBadLeadBadUse : PySem.W.kitOne K (.ref cBadLead) (.ref cBadUse) = some false)
    (uBadLeadBadInput : PySem.W.kitOne K (.ref cBadLead) (.ref cBadInput) = some false)
    (uBadLeadFaceError : PySem.W.kitOne K (.ref cBadLead) (.ref cFaceError) = some true)
    (uBadLeadVE : PySem.W.kitOne K (.ref cBadLead) (.type "ValueError") = some true)
    (uBadLeadeg : PySem.W.findIn K (.ref cBadLead) "__getattribute__" = some (some (.builtin "BaseException.__getattribute__")))
    (uBadLeadek : PySem.W.findIn K (.ref cBadLead) "__getattr__" = some none)
    (uBadLeades : PySem.W.subIn K (.ref cBadLead) (.type "BaseException") = some true)
    (uBadLeaded : PySem.W.hasDictIn K cBadLead = true)
    (uBadLeadea : PySem.W.findIn K (.ref cBadLead) "__class__" = some (some (.builtin "object.__class__")))
    (uBadLeadem : PySem.W.mroIn K cBadLead (.type "object") = some true)
    (uBadLeadkp : PySem.W.keepIn K (.ref cBadLead) = true)
    (uBadLeadty : PySem.W.typeIn K (.ref cBadLead) = some (.type "type"))
    (uToldApartBadRow : PySem.W.kitOne K (.ref cToldApart) (.ref cBadRow) = some false)
    (uToldApartBadFace : PySem.W.kitOne K (.ref cToldApart) (.ref cBadFace) = some false)
    (uToldApartBadMaking : PySem.W.kitOne K (.ref cToldApart) (.ref cBadMaking) = some false)
    (uToldApartBadUser : PySem.W.kitOne K (.ref cToldApart) (.ref cBadUser) = some false)
    (uToldApartBadSteps : PySem.W.kitOne K (.ref cToldApart) (.ref cBadSteps) = some false)
    (uToldApartBadLead : PySem.W.kitOne K (.ref cToldApart) (.ref cBadLead) = some false)
    (uToldApartToldApart : PySem.W.kitOne K (.ref cToldApart) (.ref cToldApart) = some true)
    (uToldApartOutOfPlace : PySem.W.kitOne K (.ref cToldApart) (.ref cOutOfPlace) = some false)
    (uToldApartTooGreat : PySem.W.kitOne K (.ref cToldApart) (.ref cTooGreat) = some false)
    (uToldApartBadPaper : PySem.W.kitOne K (.ref cToldApart) (.ref cBadPaper) = some false)
    (uToldApartBadProgram : PySem.W.kitOne K (.ref cToldApart) (.ref cBadProgram) = some false)
    (uToldApartBadModule : PySem.W.kitOne K (.ref cToldApart) (.ref cBadModule) = some false)
    (uToldApartRefused : PySem.W.kitOne K (.ref cToldApart) (.ref cRefused) = some false)
    (uToldApartBadUse : PySem.W.kitOne K (.ref cToldApart) (.ref cBadUse) = some false)
    (uToldApartBadInput : PySem.W.kitOne K (.ref cToldApart) (.ref cBadInput) = some false)
    (uToldApartFaceError : PySem.W.kitOne K (.ref cToldApart) (.ref cFaceError) = some true)
    (uToldApartVE : PySem.W.kitOne K (.ref cToldApart) (.type "ValueError") = some true)
    (uToldAparteg : PySem.W.findIn K (.ref cToldApart) "__getattribute__" = some (some (.builtin "BaseException.__getattribute__")))
    (uToldApartek : PySem.W.findIn K (.ref cToldApart) "__getattr__" = some none)
    (uToldApartes : PySem.W.subIn K (.ref cToldApart) (.type "BaseException") = some true)
    (uToldAparted : PySem.W.hasDictIn K cToldApart = true)
    (uToldApartea : PySem.W.findIn K (.ref cToldApart) "__class__" = some (some (.builtin "object.__class__")))
    (uToldApartem : PySem.W.mroIn K cToldApart (.type "object") = some true)
    (uToldApartkp : PySem.W.keepIn K (.ref cToldApart) = true)
    (uToldApartty : PySem.W.typeIn K (.ref cToldApart) = some (.type "type"))
    (uOutOfPlaceBadRow : PySem.W.kitOne K (.ref cOutOfPlace) (.ref cBadRow) = some false)
    (uOutOfPlaceBadFace : PySem.W.kitOne K (.ref cOutOfPlace) (.ref cBadFace) = some false)
    (uOutOfPlaceBadMaking : PySem.W.kitOne K (.ref cOutOfPlace) (.ref cBadMaking) = some false)
    (uOutOfPlaceBadUser : PySem.W.kitOne K (.ref cOutOfPlace) (.ref cBadUser) = some false)
    (uOutOfPlaceBadSteps : PySem.W.kitOne K (.ref cOutOfPlace) (.ref cBadSteps) = some false)
    (uOutOfPlaceBadLead : PySem.W.kitOne K (.ref cOutOfPlace) (.ref cBadLead) = some false)
    (uOutOfPlaceToldApart : PySem.W.kitOne K (.ref cOutOfPlace) (.ref cToldApart) = some false)
    (uOutOfPlaceOutOfPlace : PySem.W.kitOne K (.ref cOutOfPlace) (.ref cOutOfPlace) = some true)
    (uOutOfPlaceTooGreat : PySem.W.kitOne K (.ref cOutOfPlace) (.ref cTooGreat) = some false)
    (uOutOfPlaceBadPaper : PySem.W.kitOne K (.ref cOutOfPlace) (.ref cBadPaper) = some false)
    (uOutOfPlaceBadProgram : PySem.W.kitOne K (.ref cOutOfPlace) (.ref cBadProgram) = some false)
    (uOutOfPlaceBadModule : PySem.W.kitOne K (.ref cOutOfPlace) (.ref cBadModule) = some false)
    (uOutOfPlaceRefused : PySem.W.kitOne K (.ref cOutOfPlace) (.ref cRefused) = some false)
    (uOutOfPlaceBadUse : PySem.W.kitOne K (.ref cOutOfPlace) (.ref cBadUse) = some false)
    (uOutOfPlaceBadInput : PySem.W.kitOne K (.ref cOutOfPlace) (.ref cBadInput) = some false)
    (uOutOfPlaceFaceError : PySem.W.kitOne K (.ref cOutOfPlace) (.ref cFaceError) = some true)
    (uOutOfPlaceVE : PySem.W.kitOne K (.ref cOutOfPlace) (.type "ValueError") = some true)
    (uOutOfPlaceeg : PySem.W.findIn K (.ref cOutOfPlace) "__getattribute__" = some (some (.builtin "BaseException.__getattribute__")))
    (uOutOfPlaceek : PySem.W.findIn K (.ref cOutOfPlace) "__getattr__" = some none)
    (uOutOfPlacees : PySem.W.subIn K (.ref cOutOfPlace) (.type "BaseException") = some true)
    (uOutOfPlaceed : PySem.W.hasDictIn K cOutOfPlace = true)
    (uOutOfPlaceea : PySem.W.findIn K (.ref cOutOfPlace) "__class__" = some (some (.builtin "object.__class__")))
    (uOutOfPlaceem : PySem.W.mroIn K cOutOfPlace (.type "object") = some true)
    (uOutOfPlacekp : PySem.W.keepIn K (.ref cOutOfPlace) = true)
    (uOutOfPlacety : PySem.W.typeIn K (.ref cOutOfPlace) = some (.type "type"))
    (uTooGreatBadRow : PySem.W.kitOne K (.ref cTooGreat) (.ref cBadRow) = some false)
    (uTooGreatBadFace : PySem.W.kitOne K (.ref cTooGreat) (.ref cBadFace) = some false)
    (uTooGreatBadMaking : PySem.W.kitOne K (.ref cTooGreat) (.ref cBadMaking) = some false)
    (uTooGreatBadUser : PySem.W.kitOne K (.ref cTooGreat) (.ref cBadUser) = some false)
    (uTooGreatBadSteps : PySem.W.kitOne K (.ref cTooGreat) (.ref cBadSteps) = some false)
    (uTooGreatBadLead : PySem.W.kitOne K (.ref cTooGreat) (.ref cBadLead) = some false)
    (uTooGreatToldApart : PySem.W.kitOne K (.ref cTooGreat) (.ref cToldApart) = some false)
    (uTooGreatOutOfPlace : PySem.W.kitOne K (.ref cTooGreat) (.ref cOutOfPlace) = some false)
    (uTooGreatTooGreat : PySem.W.kitOne K (.ref cTooGreat) (.ref cTooGreat) = some true)
    (uTooGreatBadPaper : PySem.W.kitOne K (.ref cTooGreat) (.ref cBadPaper) = some false)
    (uTooGreatBadProgram : PySem.W.kitOne K (.ref cTooGreat) (.ref cBadProgram) = some false)
    (uTooGreatBadModule : PySem.W.kitOne K (.ref cTooGreat) (.ref cBadModule) = some false)
    (uTooGreatRefused : PySem.W.kitOne K (.ref cTooGreat) (.ref cRefused) = some false)
    (uTooGreatBadUse : PySem.W.kitOne K (.ref cTooGreat) (.ref cBadUse) = some false)
    (uTooGreatBadInput : PySem.W.kitOne K (.ref cTooGreat) (.ref cBadInput) = some false)
    (uTooGreatFaceError : PySem.W.kitOne K (.ref cTooGreat) (.ref cFaceError) = some true)
    (uTooGreatVE : PySem.W.kitOne K (.ref cTooGreat) (.type "ValueError") = some true)
    (uTooGreateg : PySem.W.findIn K (.ref cTooGreat) "__getattribute__" = some (some (.builtin "BaseException.__getattribute__")))
    (uTooGreatek : PySem.W.findIn K (.ref cTooGreat) "__getattr__" = some none)
    (uTooGreates : PySem.W.subIn K (.ref cTooGreat) (.type "BaseException") = some true)
    (uTooGreated : PySem.W.hasDictIn K cTooGreat = true)
    (uTooGreatea : PySem.W.findIn K (.ref cTooGreat) "__class__" = some (some (.builtin "object.__class__")))
    (uTooGreatem : PySem.W.mroIn K cTooGreat (.type "object") = some true)
    (uTooGreatkp : PySem.W.keepIn K (.ref cTooGreat) = true)
    (uTooGreatty : PySem.W.typeIn K (.ref cTooGreat) = some (.type "type"))
    (uBadPaperBadRow : PySem.W.kitOne K (.ref cBadPaper) (.ref cBadRow) = some false)
    (uBadPaperBadFace : PySem.W.kitOne K (.ref cBadPaper) (.ref cBadFace) = some false)
    (uBadPaperBadMaking : PySem.W.kitOne K (.ref cBadPaper) (.ref cBadMaking) = some false)
    (uBadPaperBadUser : PySem.W.kitOne K (.ref cBadPaper) (.ref cBadUser) = some false)
    (uBadPaperBadSteps : PySem.W.kitOne K (.ref cBadPaper) (.ref cBadSteps) = some false)
    (uBadPaperBadLead : PySem.W.kitOne K (.ref cBadPaper) (.ref cBadLead) = some false)
    (uBadPaperToldApart : PySem.W.kitOne K (.ref cBadPaper) (.ref cToldApart) = some false)
    (uBadPaperOutOfPlace : PySem.W.kitOne K (.ref cBadPaper) (.ref cOutOfPlace) = some false)
    (uBadPaperTooGreat : PySem.W.kitOne K (.ref cBadPaper) (.ref cTooGreat) = some false)
    (uBadPaperBadPaper : PySem.W.kitOne K (.ref cBadPaper) (.ref cBadPaper) = some true)
    (uBadPaperBadProgram : PySem.W.kitOne K (.ref cBadPaper) (.ref cBadProgram) = some false)
    (uBadPaperBadModule : PySem.W.kitOne K (.ref cBadPaper) (.ref cBadModule) = some false)
    (uBadPaperRefused : PySem.W.kitOne K (.ref cBadPaper) (.ref cRefused) = some false)
    (uBadPaperBadUse : PySem.W.kitOne K (.ref cBadPaper) (.ref cBadUse) = some false)
    (uBadPaperBadInput : PySem.W.kitOne K (.ref cBadPaper) (.ref cBadInput) = some false)
    (uBadPaperFaceError : PySem.W.kitOne K (.ref cBadPaper) (.ref cFaceError) = some true)
    (uBadPaperVE : PySem.W.kitOne K (.ref cBadPaper) (.type "ValueError") = some true)
    (uBadPapereg : PySem.W.findIn K (.ref cBadPaper) "__getattribute__" = some (some (.builtin "BaseException.__getattribute__")))
    (uBadPaperek : PySem.W.findIn K (.ref cBadPaper) "__getattr__" = some none)
    (uBadPaperes : PySem.W.subIn K (.ref cBadPaper) (.type "BaseException") = some true)
    (uBadPapered : PySem.W.hasDictIn K cBadPaper = true)
    (uBadPaperea : PySem.W.findIn K (.ref cBadPaper) "__class__" = some (some (.builtin "object.__class__")))
    (uBadPaperem : PySem.W.mroIn K cBadPaper (.type "object") = some true)
    (uBadPaperkp : PySem.W.keepIn K (.ref cBadPaper) = true)
    (uBadPaperty : PySem.W.typeIn K (.ref cBadPaper) = some (.type "type"))
    (uBadProgramBadRow : PySem.W.kitOne K (.ref cBadProgram) (.ref cBadRow) = some false)
    (uBadProgramBadFace : PySem.W.kitOne K (.ref cBadProgram) (.ref cBadFace) = some false)
    (uBadProgramBadMaking : PySem.W.kitOne K (.ref cBadProgram) (.ref cBadMaking) = some false)
    (uBadProgramBadUser : PySem.W.kitOne K (.ref cBadProgram) (.ref cBadUser) = some false)
    (uBadProgramBadSteps : PySem.W.kitOne K (.ref cBadProgram) (.ref cBadSteps) = some false)
    (uBadProgramBadLead : PySem.W.kitOne K (.ref cBadProgram) (.ref cBadLead) = some false)
    (uBadProgramToldApart : PySem.W.kitOne K (.ref cBadProgram) (.ref cToldApart) = some false)
    (uBadProgramOutOfPlace : PySem.W.kitOne K (.ref cBadProgram) (.ref cOutOfPlace) = some false)
    (uBadProgramTooGreat : PySem.W.kitOne K (.ref cBadProgram) (.ref cTooGreat) = some false)
    (uBadProgramBadPaper : PySem.W.kitOne K (.ref cBadProgram) (.ref cBadPaper) = some false)
    (uBadProgramBadProgram : PySem.W.kitOne K (.ref cBadProgram) (.ref cBadProgram) = some true)
    (uBadProgramBadModule : PySem.W.kitOne K (.ref cBadProgram) (.ref cBadModule) = some false)
    (uBadProgramRefused : PySem.W.kitOne K (.ref cBadProgram) (.ref cRefused) = some false)
    (uBadProgramBadUse : PySem.W.kitOne K (.ref cBadProgram) (.ref cBadUse) = some false)
    (uBadProgramBadInput : PySem.W.kitOne K (.ref cBadProgram) (.ref cBadInput) = some false)
    (uBadProgramFaceError : PySem.W.kitOne K (.ref cBadProgram) (.ref cFaceError) = some true)
    (uBadProgramVE : PySem.W.kitOne K (.ref cBadProgram) (.type "ValueError") = some true)
    (uBadProgrameg : PySem.W.findIn K (.ref cBadProgram) "__getattribute__" = some (some (.builtin "BaseException.__getattribute__")))
    (uBadProgramek : PySem.W.findIn K (.ref cBadProgram) "__getattr__" = some none)
    (uBadProgrames : PySem.W.subIn K (.ref cBadProgram) (.type "BaseException") = some true)
    (uBadProgramed : PySem.W.hasDictIn K cBadProgram = true)
    (uBadProgramea : PySem.W.findIn K (.ref cBadProgram) "__class__" = some (some (.builtin "object.__class__")))
    (uBadProgramem : PySem.W.mroIn K cBadProgram (.type "object") = some true)
    (uBadProgramkp : PySem.W.keepIn K (.ref cBadProgram) = true)
    (uBadProgramty : PySem.W.typeIn K (.ref cBadProgram) = some (.type "type"))
    (uBadModuleBadRow : PySem.W.kitOne K (.ref cBadModule) (.ref cBadRow) = some false)
    (uBadModuleBadFace : PySem.W.kitOne K (.ref cBadModule) (.ref cBadFace) = some false)
    (uBadModuleBadMaking : PySem.W.kitOne K (.ref cBadModule) (.ref cBadMaking) = some false)
    (uBadModuleBadUser : PySem.W.kitOne K (.ref cBadModule) (.ref cBadUser) = some false)
    (uBadModuleBadSteps : PySem.W.kitOne K (.ref cBadModule) (.ref cBadSteps) = some false)
    (uBadModuleBadLead : PySem.W.kitOne K (.ref cBadModule) (.ref cBadLead) = some false)
    (uBadModuleToldApart : PySem.W.kitOne K (.ref cBadModule) (.ref cToldApart) = some false)
    (uBadModuleOutOfPlace : PySem.W.kitOne K (.ref cBadModule) (.ref cOutOfPlace) = some false)
    (uBadModuleTooGreat : PySem.W.kitOne K (.ref cBadModule) (.ref cTooGreat) = some false)
    (uBadModuleBadPaper : PySem.W.kitOne K (.ref cBadModule) (.ref cBadPaper) = some false)
    (uBadModuleBadProgram : PySem.W.kitOne K (.ref cBadModule) (.ref cBadProgram) = some false)
    (uBadModuleBadModule : PySem.W.kitOne K (.ref cBadModule) (.ref cBadModule) = some true)
    (uBadModuleRefused : PySem.W.kitOne K (.ref cBadModule) (.ref cRefused) = some false)
    (uBadModuleBadUse : PySem.W.kitOne K (.ref cBadModule) (.ref cBadUse) = some false)
    (uBadModuleBadInput : PySem.W.kitOne K (.ref cBadModule) (.ref cBadInput) = some false)
    (uBadModuleFaceError : PySem.W.kitOne K (.ref cBadModule) (.ref cFaceError) = some true)
    (uBadModuleVE : PySem.W.kitOne K (.ref cBadModule) (.type "ValueError") = some true)
    (uBadModuleeg : PySem.W.findIn K (.ref cBadModule) "__getattribute__" = some (some (.builtin "BaseException.__getattribute__")))
    (uBadModuleek : PySem.W.findIn K (.ref cBadModule) "__getattr__" = some none)
    (uBadModulees : PySem.W.subIn K (.ref cBadModule) (.type "BaseException") = some true)
    (uBadModuleed : PySem.W.hasDictIn K cBadModule = true)
    (uBadModuleea : PySem.W.findIn K (.ref cBadModule) "__class__" = some (some (.builtin "object.__class__")))
    (uBadModuleem : PySem.W.mroIn K cBadModule (.type "object") = some true)
    (uBadModulekp : PySem.W.keepIn K (.ref cBadModule) = true)
    (uBadModulety : PySem.W.typeIn K (.ref cBadModule) = some (.type "type"))
    (uRefusedBadRow : PySem.W.kitOne K (.ref cRefused) (.ref cBadRow) = some false)
    (uRefusedBadFace : PySem.W.kitOne K (.ref cRefused) (.ref cBadFace) = some false)
    (uRefusedBadMaking : PySem.W.kitOne K (.ref cRefused) (.ref cBadMaking) = some false)
    (uRefusedBadUser : PySem.W.kitOne K (.ref cRefused) (.ref cBadUser) = some false)
    (uRefusedBadSteps : PySem.W.kitOne K (.ref cRefused) (.ref cBadSteps) = some false)
    (uRefusedBadLead : PySem.W.kitOne K (.ref cRefused) (.ref cBadLead) = some false)
    (uRefusedToldApart : PySem.W.kitOne K (.ref cRefused) (.ref cToldApart) = some false)
    (uRefusedOutOfPlace : PySem.W.kitOne K (.ref cRefused) (.ref cOutOfPlace) = some false)
    (uRefusedTooGreat : PySem.W.kitOne K (.ref cRefused) (.ref cTooGreat) = some false)
    (uRefusedBadPaper : PySem.W.kitOne K (.ref cRefused) (.ref cBadPaper) = some false)
    (uRefusedBadProgram : PySem.W.kitOne K (.ref cRefused) (.ref cBadProgram) = some false)
    (uRefusedBadModule : PySem.W.kitOne K (.ref cRefused) (.ref cBadModule) = some false)
    (uRefusedRefused : PySem.W.kitOne K (.ref cRefused) (.ref cRefused) = some true)
    (uRefusedBadUse : PySem.W.kitOne K (.ref cRefused) (.ref cBadUse) = some false)
    (uRefusedBadInput : PySem.W.kitOne K (.ref cRefused) (.ref cBadInput) = some false)
    (uRefusedFaceError : PySem.W.kitOne K (.ref cRefused) (.ref cFaceError) = some true)
    (uRefusedVE : PySem.W.kitOne K (.ref cRefused) (.type "ValueError") = some true)
    (uRefusedeg : PySem.W.findIn K (.ref cRefused) "__getattribute__" = some (some (.builtin "BaseException.__getattribute__")))
    (uRefusedek : PySem.W.findIn K (.ref cRefused) "__getattr__" = some none)
    (uRefusedes : PySem.W.subIn K (.ref cRefused) (.type "BaseException") = some true)
    (uRefuseded : PySem.W.hasDictIn K cRefused = true)
    (uRefusedea : PySem.W.findIn K (.ref cRefused) "__class__" = some (some (.builtin "object.__class__")))
    (uRefusedem : PySem.W.mroIn K cRefused (.type "object") = some true)
    (uRefusedkp : PySem.W.keepIn K (.ref cRefused) = true)
    (uRefusedty : PySem.W.typeIn K (.ref cRefused) = some (.type "type"))
    (uBadUseBadRow : PySem.W.kitOne K (.ref cBadUse) (.ref cBadRow) = some false)
    (uBadUseBadFace : PySem.W.kitOne K (.ref cBadUse) (.ref cBadFace) = some false)
    (uBadUseBadMaking : PySem.W.kitOne K (.ref cBadUse) (.ref cBadMaking) = some false)
    (uBadUseBadUser : PySem.W.kitOne K (.ref cBadUse) (.ref cBadUser) = some false)
    (uBadUseBadSteps : PySem.W.kitOne K (.ref cBadUse) (.ref cBadSteps) = some false)
    (uBadUseBadLead : PySem.W.kitOne K (.ref cBadUse) (.ref cBadLead) = some false)
    (uBadUseToldApart : PySem.W.kitOne K (.ref cBadUse) (.ref cToldApart) = some false)
    (uBadUseOutOfPlace : PySem.W.kitOne K (.ref cBadUse) (.ref cOutOfPlace) = some false)
    (uBadUseTooGreat : PySem.W.kitOne K (.ref cBadUse) (.ref cTooGreat) = some false)
    (uBadUseBadPaper : PySem.W.kitOne K (.ref cBadUse) (.ref cBadPaper) = some false)
    (uBadUseBadProgram : PySem.W.kitOne K (.ref cBadUse) (.ref cBadProgram) = some false)
    (uBadUseBadModule : PySem.W.kitOne K (.ref cBadUse) (.ref cBadModule) = some false)
    (uBadUseRefused : PySem.W.kitOne K (.ref cBadUse) (.ref cRefused) = some false)
    (uBadUseBadUse : PySem.W.kitOne K (.ref cBadUse) (.ref cBadUse) = some true)
    (uBadUseBadInput : PySem.W.kitOne K (.ref cBadUse) (.ref cBadInput) = some false)
    (uBadUseFaceError : PySem.W.kitOne K (.ref cBadUse) (.ref cFaceError) = some true)
    (uBadUseVE : PySem.W.kitOne K (.ref cBadUse) (.type "ValueError") = some true)
    (uBadUseeg : PySem.W.findIn K (.ref cBadUse) "__getattribute__" = some (some (.builtin "BaseException.__getattribute__")))
    (uBadUseek : PySem.W.findIn K (.ref cBadUse) "__getattr__" = some none)
    (uBadUsees : PySem.W.subIn K (.ref cBadUse) (.type "BaseException") = some true)
    (uBadUseed : PySem.W.hasDictIn K cBadUse = true)
    (uBadUseea : PySem.W.findIn K (.ref cBadUse) "__class__" = some (some (.builtin "object.__class__")))
    (uBadUseem : PySem.W.mroIn K cBadUse (.type "object") = some true)
    (uBadUsekp : PySem.W.keepIn K (.ref cBadUse) = true)
    (uBadUsety : PySem.W.typeIn K (.ref cBadUse) = some (.type "type"))
    (uBadInputBadRow : PySem.W.kitOne K (.ref cBadInput) (.ref cBadRow) = some false)
    (uBadInputBadFace : PySem.W.kitOne K (.ref cBadInput) (.ref cBadFace) = some false)
    (uBadInputBadMaking : PySem.W.kitOne K (.ref cBadInput) (.ref cBadMaking) = some false)
    (uBadInputBadUser : PySem.W.kitOne K (.ref cBadInput) (.ref cBadUser) = some false)
    (uBadInputBadSteps : PySem.W.kitOne K (.ref cBadInput) (.ref cBadSteps) = some false)
    (uBadInputBadLead : PySem.W.kitOne K (.ref cBadInput) (.ref cBadLead) = some false)
    (uBadInputToldApart : PySem.W.kitOne K (.ref cBadInput) (.ref cToldApart) = some false)
    (uBadInputOutOfPlace : PySem.W.kitOne K (.ref cBadInput) (.ref cOutOfPlace) = some false)
    (uBadInputTooGreat : PySem.W.kitOne K (.ref cBadInput) (.ref cTooGreat) = some false)
    (uBadInputBadPaper : PySem.W.kitOne K (.ref cBadInput) (.ref cBadPaper) = some false)
    (uBadInputBadProgram : PySem.W.kitOne K (.ref cBadInput) (.ref cBadProgram) = some false)
    (uBadInputBadModule : PySem.W.kitOne K (.ref cBadInput) (.ref cBadModule) = some false)
    (uBadInputRefused : PySem.W.kitOne K (.ref cBadInput) (.ref cRefused) = some false)
    (uBadInputBadUse : PySem.W.kitOne K (.ref cBadInput) (.ref cBadUse) = some false)
    (uBadInputBadInput : PySem.W.kitOne K (.ref cBadInput) (.ref cBadInput) = some true)
    (uBadInputFaceError : PySem.W.kitOne K (.ref cBadInput) (.ref cFaceError) = some true)
    (uBadInputVE : PySem.W.kitOne K (.ref cBadInput) (.type "ValueError") = some true)
    (uBadInputeg : PySem.W.findIn K (.ref cBadInput) "__getattribute__" = some (some (.builtin "BaseException.__getattribute__")))
    (uBadInputek : PySem.W.findIn K (.ref cBadInput) "__getattr__" = some none)
    (uBadInputes : PySem.W.subIn K (.ref cBadInput) (.type "BaseException") = some true)
    (uBadInputed : PySem.W.hasDictIn K cBadInput = true)
    (uBadInputea : PySem.W.findIn K (.ref cBadInput) "__class__" = some (some (.builtin "object.__class__")))
    (uBadInputem : PySem.W.mroIn K cBadInput (.type "object") = some true)
    (uBadInputkp : PySem.W.keepIn K (.ref cBadInput) = true)
    (uBadInputty : PySem.W.typeIn K (.ref cBadInput) = some (.type "type"))
    (xmBadRow : PySem.W.exmOne K (.ref cBadRow) (.ref cFaceError) = some true)
    (xmBadFace : PySem.W.exmOne K (.ref cBadFace) (.ref cFaceError) = some true)
    (xmOutOfPlace : PySem.W.exmOne K (.ref cOutOfPlace) (.ref cFaceError) = some true)
    (en : PySem.W.specialIn K (.builtin "object.__class__") "__get__" = some (some (.builtin "getset_descriptor.__get__")))
    (et : PySem.W.takesIn K (.builtin "object.__class__") = some true)
    (mtop : (l.prog.main.scope.names.lookup ("super" : Str)).isSome = false)
    (many : PySem.W.nsIn K cStatics "thirdparty.any" = some none)
    (oxOutOfPlace : PySem.W.excIn K cOutOfPlace [.type "ValueError", .type "Exception", .type "BaseException", .type "object"] "ValueError.__new__" = true)
    (oxTooGreat : PySem.W.excIn K cTooGreat [.type "ValueError", .type "Exception", .type "BaseException", .type "object"] "ValueError.__new__" = true)
    (oxRefused : PySem.W.excIn K cRefused [.type "ValueError", .type "Exception", .type "BaseException", .type "object"] "ValueError.__new__" = true)
    (qBadRowc : ∃ nm q N bs bm sn sub ab col dd k0 k1 k2 k3 k5, K.lookup cBadRow = some (excClassObj nm q cBadRow N bs bm true sn sub ab col dd k0 k1 k2 k3 k5 "ValueError.__new__") ∧ PySem.HandSPX.refsVE bm = true)
    (qBadRowsa : PySem.W.findIn K (.ref cBadRow) "__setattr__" = some (some (.builtin "object.__setattr__")))
    {qBadRowI : Addr} (qBadRowi : PySem.W.findIn K (.ref cBadRow) "__init__" = some (some (.ref qBadRowI))) (qBadRowt : PySem.W.typeIn K (.ref qBadRowI) = some (.type "function"))
    {qBadRowcc qBadRowcda : Addr} {qBadRowoc qBadRowkV qBadRowdoc qBadRowpm qBadRowct : Value} {qBadRowod qBadRowan : Option Addr} {qBadRowosl : Array (Option Value)}
    (qBadRowl : K.lookup qBadRowI = some ⟨qBadRowoc, qBadRowod, .func (PySem.W.ksFn "__init__" "BadRow.__init__" (defArgs sRowIni) (defBody sRowIni) (defScope sRowIni) .none qBadRowkV qBadRowdoc qBadRowpm qBadRowan (.ref qBadRowcda) qBadRowct qBadRowcc), qBadRowosl⟩)
    (qBadRowh : PySem.W.codeIn K (.ref qBadRowcda) "BadRow.__init__" = true)
    {qBadRowcl : Value} {qBadRowcld : Option Addr} {qBadRowcsl : Array (Option Value)} (qBadRowce : K.lookup qBadRowcc = some ⟨qBadRowcl, qBadRowcld, .cell (some (.ref cBadRow)), qBadRowcsl⟩)
    {qBadRowccl : Value} {qBadRowcdd : Option Addr} {qBadRowvs : Array Value} {qBadRowccs : Array (Option Value)} {qBadRowfile : Str} {qBadRowtf : Tok} (qBadRowco : K.lookup qBadRowcda = some ⟨qBadRowccl, qBadRowcdd, .fields qBadRowvs, qBadRowccs⟩) (qBadRowv2 : qBadRowvs[2]? = some (.str qBadRowfile qBadRowtf)) (qBadRowfi : ((l.prog.main.file : Str) == qBadRowfile) = true)
    (qBadRowmr : PySem.W.mroIn K cBadRow (.ref cBadRow) = some true)
    (qBadRowini : PySem.W.ks_superIn K cBadRow cBadRow "__init__" = some (some (.builtin "ValueError.__init__"))) (qBadRowve : PySem.W.subIn K (.ref cBadRow) (.type "ValueError") = some true)
    (qBadRown1 : PySem.W.findIn K (.ref cBadRow) "row" = some none)
    (qBadRown2 : PySem.W.findIn K (.ref cBadRow) "word" = some none)
    (qBadFacec : ∃ nm q N bs bm sn sub ab col dd k0 k1 k2 k3 k5, K.lookup cBadFace = some (excClassObj nm q cBadFace N bs bm true sn sub ab col dd k0 k1 k2 k3 k5 "ValueError.__new__") ∧ PySem.HandSPX.refsVE bm = true)
    (qBadFacesa : PySem.W.findIn K (.ref cBadFace) "__setattr__" = some (some (.builtin "object.__setattr__")))
    {qBadFaceI : Addr} (qBadFacei : PySem.W.findIn K (.ref cBadFace) "__init__" = some (some (.ref qBadFaceI))) (qBadFacet : PySem.W.typeIn K (.ref qBadFaceI) = some (.type "function"))
    {qBadFacecc qBadFacecda : Addr} {qBadFaceoc qBadFacekV qBadFacedoc qBadFacepm qBadFacect : Value} {qBadFaceod qBadFacean : Option Addr} {qBadFaceosl : Array (Option Value)}
    (qBadFacel : K.lookup qBadFaceI = some ⟨qBadFaceoc, qBadFaceod, .func (PySem.W.ksFn "__init__" "BadFace.__init__" (defArgs sFaceIni) (defBody sFaceIni) (defScope sFaceIni) .none qBadFacekV qBadFacedoc qBadFacepm qBadFacean (.ref qBadFacecda) qBadFacect qBadFacecc), qBadFaceosl⟩)
    (qBadFaceh : PySem.W.codeIn K (.ref qBadFacecda) "BadFace.__init__" = true)
    {qBadFacecl : Value} {qBadFacecld : Option Addr} {qBadFacecsl : Array (Option Value)} (qBadFacece : K.lookup qBadFacecc = some ⟨qBadFacecl, qBadFacecld, .cell (some (.ref cBadFace)), qBadFacecsl⟩)
    {qBadFaceccl : Value} {qBadFacecdd : Option Addr} {qBadFacevs : Array Value} {qBadFaceccs : Array (Option Value)} {qBadFacefile : Str} {qBadFacetf : Tok} (qBadFaceco : K.lookup qBadFacecda = some ⟨qBadFaceccl, qBadFacecdd, .fields qBadFacevs, qBadFaceccs⟩) (qBadFacev2 : qBadFacevs[2]? = some (.str qBadFacefile qBadFacetf)) (qBadFacefi : ((l.prog.main.file : Str) == qBadFacefile) = true)
    (qBadFacemr : PySem.W.mroIn K cBadFace (.ref cBadFace) = some true)
    (qBadFaceini : PySem.W.ks_superIn K cBadFace cBadFace "__init__" = some (some (.builtin "ValueError.__init__"))) (qBadFaceve : PySem.W.subIn K (.ref cBadFace) (.type "ValueError") = some true)
    (qBadFacen1 : PySem.W.findIn K (.ref cBadFace) "part" = some none)
    (qBadFacen2 : PySem.W.findIn K (.ref cBadFace) "number" = some none)
    (qBadMakingc : ∃ nm q N bs bm sn sub ab col dd k0 k1 k2 k3 k5, K.lookup cBadMaking = some (excClassObj nm q cBadMaking N bs bm true sn sub ab col dd k0 k1 k2 k3 k5 "ValueError.__new__") ∧ PySem.HandSPX.refsVE bm = true)
    (qBadMakingsa : PySem.W.findIn K (.ref cBadMaking) "__setattr__" = some (some (.builtin "object.__setattr__")))
    {qBadMakingI : Addr} (qBadMakingi : PySem.W.findIn K (.ref cBadMaking) "__init__" = some (some (.ref qBadMakingI))) (qBadMakingt : PySem.W.typeIn K (.ref qBadMakingI) = some (.type "function"))
    {qBadMakingcc qBadMakingcda : Addr} {qBadMakingoc qBadMakingkV qBadMakingdoc qBadMakingpm qBadMakingct : Value} {qBadMakingod qBadMakingan : Option Addr} {qBadMakingosl : Array (Option Value)}
    (qBadMakingl : K.lookup qBadMakingI = some ⟨qBadMakingoc, qBadMakingod, .func (PySem.W.ksFn "__init__" "BadMaking.__init__" (defArgs sBadMakingIni) (defBody sBadMakingIni) (defScope sBadMakingIni) .none qBadMakingkV qBadMakingdoc qBadMakingpm qBadMakingan (.ref qBadMakingcda) qBadMakingct qBadMakingcc), qBadMakingosl⟩)
    (qBadMakingh : PySem.W.codeIn K (.ref qBadMakingcda) "BadMaking.__init__" = true)
    {qBadMakingcl : Value} {qBadMakingcld : Option Addr} {qBadMakingcsl : Array (Option Value)} (qBadMakingce : K.lookup qBadMakingcc = some ⟨qBadMakingcl, qBadMakingcld, .cell (some (.ref cBadMaking)), qBadMakingcsl⟩)
    {qBadMakingccl : Value} {qBadMakingcdd : Option Addr} {qBadMakingvs : Array Value} {qBadMakingccs : Array (Option Value)} {qBadMakingfile : Str} {qBadMakingtf : Tok} (qBadMakingco : K.lookup qBadMakingcda = some ⟨qBadMakingccl, qBadMakingcdd, .fields qBadMakingvs, qBadMakingccs⟩) (qBadMakingv2 : qBadMakingvs[2]? = some (.str qBadMakingfile qBadMakingtf)) (qBadMakingfi : ((l.prog.main.file : Str) == qBadMakingfile) = true)
    (qBadMakingmr : PySem.W.mroIn K cBadMaking (.ref cBadMaking) = some true)
    (qBadMakingini : PySem.W.ks_superIn K cBadMaking cBadMaking "__init__" = some (some (.builtin "ValueError.__init__"))) (qBadMakingve : PySem.W.subIn K (.ref cBadMaking) (.type "ValueError") = some true)
    (qBadMakingn1 : PySem.W.findIn K (.ref cBadMaking) "part" = some none)
    (qBadMakingn2 : PySem.W.findIn K (.ref cBadMaking) "number" = some none)
    (qBadUserc : ∃ nm q N bs bm sn sub ab col dd k0 k1 k2 k3 k5, K.lookup cBadUser = some (excClassObj nm q cBadUser N bs bm true sn sub ab col dd k0 k1 k2 k3 k5 "ValueError.__new__") ∧ PySem.HandSPX.refsVE bm = true)
    (qBadUsersa : PySem.W.findIn K (.ref cBadUser) "__setattr__" = some (some (.builtin "object.__setattr__")))
    {qBadUserI : Addr} (qBadUseri : PySem.W.findIn K (.ref cBadUser) "__init__" = some (some (.ref qBadUserI))) (qBadUsert : PySem.W.typeIn K (.ref qBadUserI) = some (.type "function"))
    {qBadUsercc qBadUsercda : Addr} {qBadUseroc qBadUserkV qBadUserdoc qBadUserpm qBadUserct : Value} {qBadUserod qBadUseran : Option Addr} {qBadUserosl : Array (Option Value)}
    (qBadUserl : K.lookup qBadUserI = some ⟨qBadUseroc, qBadUserod, .func (PySem.W.ksFn "__init__" "BadUser.__init__" (defArgs sBadUserIni) (defBody sBadUserIni) (defScope sBadUserIni) .none qBadUserkV qBadUserdoc qBadUserpm qBadUseran (.ref qBadUsercda) qBadUserct qBadUsercc), qBadUserosl⟩)
    (qBadUserh : PySem.W.codeIn K (.ref qBadUsercda) "BadUser.__init__" = true)
    {qBadUsercl : Value} {qBadUsercld : Option Addr} {qBadUsercsl : Array (Option Value)} (qBadUserce : K.lookup qBadUsercc = some ⟨qBadUsercl, qBadUsercld, .cell (some (.ref cBadUser)), qBadUsercsl⟩)
    {qBadUserccl : Value} {qBadUsercdd : Option Addr} {qBadUservs : Array Value} {qBadUserccs : Array (Option Value)} {qBadUserfile : Str} {qBadUsertf : Tok} (qBadUserco : K.lookup qBadUsercda = some ⟨qBadUserccl, qBadUsercdd, .fields qBadUservs, qBadUserccs⟩) (qBadUserv2 : qBadUservs[2]? = some (.str qBadUserfile qBadUsertf)) (qBadUserfi : ((l.prog.main.file : Str) == qBadUserfile) = true)
    (qBadUsermr : PySem.W.mroIn K cBadUser (.ref cBadUser) = some true)
    (qBadUserini : PySem.W.ks_superIn K cBadUser cBadUser "__init__" = some (some (.builtin "ValueError.__init__"))) (qBadUserve : PySem.W.subIn K (.ref cBadUser) (.type "ValueError") = some true)
    (qBadUsern1 : PySem.W.findIn K (.ref cBadUser) "row" = some none)
    (qBadUsern2 : PySem.W.findIn K (.ref cBadUser) "place" = some none)
    (qBadLeadc : ∃ nm q N bs bm sn sub ab col dd k0 k1 k2 k3 k5, K.lookup cBadLead = some (excClassObj nm q cBadLead N bs bm true sn sub ab col dd k0 k1 k2 k3 k5 "ValueError.__new__") ∧ PySem.HandSPX.refsVE bm = true)
    (qBadLeadsa : PySem.W.findIn K (.ref cBadLead) "__setattr__" = some (some (.builtin "object.__setattr__")))
    {qBadLeadI : Addr} (qBadLeadi : PySem.W.findIn K (.ref cBadLead) "__init__" = some (some (.ref qBadLeadI))) (qBadLeadt : PySem.W.typeIn K (.ref qBadLeadI) = some (.type "function"))
    {qBadLeadcc qBadLeadcda : Addr} {qBadLeadoc qBadLeadkV qBadLeaddoc qBadLeadpm qBadLeadct : Value} {qBadLeadod qBadLeadan : Option Addr} {qBadLeadosl : Array (Option Value)}
    (qBadLeadl : K.lookup qBadLeadI = some ⟨qBadLeadoc, qBadLeadod, .func (PySem.W.ksFn "__init__" "BadLead.__init__" (defArgs sBadLeadIni) (defBody sBadLeadIni) (defScope sBadLeadIni) .none qBadLeadkV qBadLeaddoc qBadLeadpm qBadLeadan (.ref qBadLeadcda) qBadLeadct qBadLeadcc), qBadLeadosl⟩)
    (qBadLeadh : PySem.W.codeIn K (.ref qBadLeadcda) "BadLead.__init__" = true)
    {qBadLeadcl : Value} {qBadLeadcld : Option Addr} {qBadLeadcsl : Array (Option Value)} (qBadLeadce : K.lookup qBadLeadcc = some ⟨qBadLeadcl, qBadLeadcld, .cell (some (.ref cBadLead)), qBadLeadcsl⟩)
    {qBadLeadccl : Value} {qBadLeadcdd : Option Addr} {qBadLeadvs : Array Value} {qBadLeadccs : Array (Option Value)} {qBadLeadfile : Str} {qBadLeadtf : Tok} (qBadLeadco : K.lookup qBadLeadcda = some ⟨qBadLeadccl, qBadLeadcdd, .fields qBadLeadvs, qBadLeadccs⟩) (qBadLeadv2 : qBadLeadvs[2]? = some (.str qBadLeadfile qBadLeadtf)) (qBadLeadfi : ((l.prog.main.file : Str) == qBadLeadfile) = true)
    (qBadLeadmr : PySem.W.mroIn K cBadLead (.ref cBadLead) = some true)
    (qBadLeadini : PySem.W.ks_superIn K cBadLead cBadLead "__init__" = some (some (.builtin "ValueError.__init__"))) (qBadLeadve : PySem.W.subIn K (.ref cBadLead) (.type "ValueError") = some true)
    (qBadLeadn1 : PySem.W.findIn K (.ref cBadLead) "kind" = some none)
    (qBadLeadn2 : PySem.W.findIn K (.ref cBadLead) "number" = some none)
    (qBadProgramc : ∃ nm q N bs bm sn sub ab col dd k0 k1 k2 k3 k5, K.lookup cBadProgram = some (excClassObj nm q cBadProgram N bs bm true sn sub ab col dd k0 k1 k2 k3 k5 "ValueError.__new__") ∧ PySem.HandSPX.refsVE bm = true)
    (qBadProgramsa : PySem.W.findIn K (.ref cBadProgram) "__setattr__" = some (some (.builtin "object.__setattr__")))
    {qBadProgramI : Addr} (qBadProgrami : PySem.W.findIn K (.ref cBadProgram) "__init__" = some (some (.ref qBadProgramI))) (qBadProgramt : PySem.W.typeIn K (.ref qBadProgramI) = some (.type "function"))
    {qBadProgramcc qBadProgramcda : Addr} {qBadProgramoc qBadProgramkV qBadProgramdoc qBadProgrampm qBadProgramct : Value} {qBadProgramod qBadPrograman : Option Addr} {qBadProgramosl : Array (Option Value)}
    (qBadPrograml : K.lookup qBadProgramI = some ⟨qBadProgramoc, qBadProgramod, .func (PySem.W.ksFn "__init__" "BadProgram.__init__" (defArgs sBadProgramIni) (defBody sBadProgramIni) (defScope sBadProgramIni) .none qBadProgramkV qBadProgramdoc qBadProgrampm qBadPrograman (.ref qBadProgramcda) qBadProgramct qBadProgramcc), qBadProgramosl⟩)
    (qBadProgramh : PySem.W.codeIn K (.ref qBadProgramcda) "BadProgram.__init__" = true)
    {qBadProgramcl : Value} {qBadProgramcld : Option Addr} {qBadProgramcsl : Array (Option Value)} (qBadProgramce : K.lookup qBadProgramcc = some ⟨qBadProgramcl, qBadProgramcld, .cell (some (.ref cBadProgram)), qBadProgramcsl⟩)
    {qBadProgramccl : Value} {qBadProgramcdd : Option Addr} {qBadProgramvs : Array Value} {qBadProgramccs : Array (Option Value)} {qBadProgramfile : Str} {qBadProgramtf : Tok} (qBadProgramco : K.lookup qBadProgramcda = some ⟨qBadProgramccl, qBadProgramcdd, .fields qBadProgramvs, qBadProgramccs⟩) (qBadProgramv2 : qBadProgramvs[2]? = some (.str qBadProgramfile qBadProgramtf)) (qBadProgramfi : ((l.prog.main.file : Str) == qBadProgramfile) = true)
    (qBadProgrammr : PySem.W.mroIn K cBadProgram (.ref cBadProgram) = some true)
    (qBadProgramini : PySem.W.ks_superIn K cBadProgram cBadProgram "__init__" = some (some (.builtin "ValueError.__init__"))) (qBadProgramve : PySem.W.subIn K (.ref cBadProgram) (.type "ValueError") = some true)
    (qBadProgramn1 : PySem.W.findIn K (.ref cBadProgram) "row" = some none)
    (qBadProgramn2 : PySem.W.findIn K (.ref cBadProgram) "place" = some none)
    (qBadModulec : ∃ nm q N bs bm sn sub ab col dd k0 k1 k2 k3 k5, K.lookup cBadModule = some (excClassObj nm q cBadModule N bs bm true sn sub ab col dd k0 k1 k2 k3 k5 "ValueError.__new__") ∧ PySem.HandSPX.refsVE bm = true)
    (qBadModulesa : PySem.W.findIn K (.ref cBadModule) "__setattr__" = some (some (.builtin "object.__setattr__")))
    {qBadModuleI : Addr} (qBadModulei : PySem.W.findIn K (.ref cBadModule) "__init__" = some (some (.ref qBadModuleI))) (qBadModulet : PySem.W.typeIn K (.ref qBadModuleI) = some (.type "function"))
    {qBadModulecc qBadModulecda : Addr} {qBadModuleoc qBadModulekV qBadModuledoc qBadModulepm qBadModulect : Value} {qBadModuleod qBadModulean : Option Addr} {qBadModuleosl : Array (Option Value)}
    (qBadModulel : K.lookup qBadModuleI = some ⟨qBadModuleoc, qBadModuleod, .func (PySem.W.ksFn "__init__" "BadModule.__init__" (defArgs sBadModuleIni) (defBody sBadModuleIni) (defScope sBadModuleIni) .none qBadModulekV qBadModuledoc qBadModulepm qBadModulean (.ref qBadModulecda) qBadModulect qBadModulecc), qBadModuleosl⟩)
    (qBadModuleh : PySem.W.codeIn K (.ref qBadModulecda) "BadModule.__init__" = true)
    {qBadModulecl : Value} {qBadModulecld : Option Addr} {qBadModulecsl : Array (Option Value)} (qBadModulece : K.lookup qBadModulecc = some ⟨qBadModulecl, qBadModulecld, .cell (some (.ref cBadModule)), qBadModulecsl⟩)
    {qBadModuleccl : Value} {qBadModulecdd : Option Addr} {qBadModulevs : Array Value} {qBadModuleccs : Array (Option Value)} {qBadModulefile : Str} {qBadModuletf : Tok} (qBadModuleco : K.lookup qBadModulecda = some ⟨qBadModuleccl, qBadModulecdd, .fields qBadModulevs, qBadModuleccs⟩) (qBadModulev2 : qBadModulevs[2]? = some (.str qBadModulefile qBadModuletf)) (qBadModulefi : ((l.prog.main.file : Str) == qBadModulefile) = true)
    (qBadModulemr : PySem.W.mroIn K cBadModule (.ref cBadModule) = some true)
    (qBadModuleini : PySem.W.ks_superIn K cBadModule cBadModule "__init__" = some (some (.builtin "ValueError.__init__"))) (qBadModuleve : PySem.W.subIn K (.ref cBadModule) (.type "ValueError") = some true)
    (qBadModulen1 : PySem.W.findIn K (.ref cBadModule) "part" = some none)
    (qBadModulen2 : PySem.W.findIn K (.ref cBadModule) "number" = some none)
    (qBadStepsc : ∃ nm q N bs bm sn sub ab col dd k0 k1 k2 k3 k5, K.lookup cBadSteps = some (excClassObj nm q cBadSteps N bs bm true sn sub ab col dd k0 k1 k2 k3 k5 "ValueError.__new__") ∧ PySem.HandSPX.refsVE bm = true)
    (qBadStepssa : PySem.W.findIn K (.ref cBadSteps) "__setattr__" = some (some (.builtin "object.__setattr__")))
    {qBadStepsI : Addr} (qBadStepsi : PySem.W.findIn K (.ref cBadSteps) "__init__" = some (some (.ref qBadStepsI))) (qBadStepst : PySem.W.typeIn K (.ref qBadStepsI) = some (.type "function"))
    {qBadStepscc qBadStepscda : Addr} {qBadStepsoc qBadStepskV qBadStepsdoc qBadStepspm qBadStepsct : Value} {qBadStepsod qBadStepsan : Option Addr} {qBadStepsosl : Array (Option Value)}
    (qBadStepsl : K.lookup qBadStepsI = some ⟨qBadStepsoc, qBadStepsod, .func (PySem.W.ksFn "__init__" "BadSteps.__init__" (defArgs sBadStepsIni) (defBody sBadStepsIni) (defScope sBadStepsIni) .none qBadStepskV qBadStepsdoc qBadStepspm qBadStepsan (.ref qBadStepscda) qBadStepsct qBadStepscc), qBadStepsosl⟩)
    (qBadStepsh : PySem.W.codeIn K (.ref qBadStepscda) "BadSteps.__init__" = true)
    {qBadStepscl : Value} {qBadStepscld : Option Addr} {qBadStepscsl : Array (Option Value)} (qBadStepsce : K.lookup qBadStepscc = some ⟨qBadStepscl, qBadStepscld, .cell (some (.ref cBadSteps)), qBadStepscsl⟩)
    {qBadStepsccl : Value} {qBadStepscdd : Option Addr} {qBadStepsvs : Array Value} {qBadStepsccs : Array (Option Value)} {qBadStepsfile : Str} {qBadStepstf : Tok} (qBadStepsco : K.lookup qBadStepscda = some ⟨qBadStepsccl, qBadStepscdd, .fields qBadStepsvs, qBadStepsccs⟩) (qBadStepsv2 : qBadStepsvs[2]? = some (.str qBadStepsfile qBadStepstf)) (qBadStepsfi : ((l.prog.main.file : Str) == qBadStepsfile) = true)
    (qBadStepsmr : PySem.W.mroIn K cBadSteps (.ref cBadSteps) = some true)
    (qBadStepsini : PySem.W.ks_superIn K cBadSteps cBadSteps "__init__" = some (some (.builtin "ValueError.__init__"))) (qBadStepsve : PySem.W.subIn K (.ref cBadSteps) (.type "ValueError") = some true)
    (qBadStepsn1 : PySem.W.findIn K (.ref cBadSteps) "number" = some none)
    (qBadUsec : ∃ nm q N bs bm sn sub ab col dd k0 k1 k2 k3 k5, K.lookup cBadUse = some (excClassObj nm q cBadUse N bs bm true sn sub ab col dd k0 k1 k2 k3 k5 "ValueError.__new__") ∧ PySem.HandSPX.refsVE bm = true)
    (qBadUsesa : PySem.W.findIn K (.ref cBadUse) "__setattr__" = some (some (.builtin "object.__setattr__")))
    {qBadUseI : Addr} (qBadUsei : PySem.W.findIn K (.ref cBadUse) "__init__" = some (some (.ref qBadUseI))) (qBadUset : PySem.W.typeIn K (.ref qBadUseI) = some (.type "function"))
    {qBadUsecc qBadUsecda : Addr} {qBadUseoc qBadUsekV qBadUsedoc qBadUsepm qBadUsect : Value} {qBadUseod qBadUsean : Option Addr} {qBadUseosl : Array (Option Value)}
    (qBadUsel : K.lookup qBadUseI = some ⟨qBadUseoc, qBadUseod, .func (PySem.W.ksFn "__init__" "BadUse.__init__" (defArgs sBadUseIni) (defBody sBadUseIni) (defScope sBadUseIni) .none qBadUsekV qBadUsedoc qBadUsepm qBadUsean (.ref qBadUsecda) qBadUsect qBadUsecc), qBadUseosl⟩)
    (qBadUseh : PySem.W.codeIn K (.ref qBadUsecda) "BadUse.__init__" = true)
    {qBadUsecl : Value} {qBadUsecld : Option Addr} {qBadUsecsl : Array (Option Value)} (qBadUsece : K.lookup qBadUsecc = some ⟨qBadUsecl, qBadUsecld, .cell (some (.ref cBadUse)), qBadUsecsl⟩)
    {qBadUseccl : Value} {qBadUsecdd : Option Addr} {qBadUsevs : Array Value} {qBadUseccs : Array (Option Value)} {qBadUsefile : Str} {qBadUsetf : Tok} (qBadUseco : K.lookup qBadUsecda = some ⟨qBadUseccl, qBadUsecdd, .fields qBadUsevs, qBadUseccs⟩) (qBadUsev2 : qBadUsevs[2]? = some (.str qBadUsefile qBadUsetf)) (qBadUsefi : ((l.prog.main.file : Str) == qBadUsefile) = true)
    (qBadUsemr : PySem.W.mroIn K cBadUse (.ref cBadUse) = some true)
    (qBadUseini : PySem.W.ks_superIn K cBadUse cBadUse "__init__" = some (some (.builtin "ValueError.__init__"))) (qBadUseve : PySem.W.subIn K (.ref cBadUse) (.type "ValueError") = some true)
    (qBadUsen1 : PySem.W.findIn K (.ref cBadUse) "number" = some none)
    (qBadInputc : ∃ nm q N bs bm sn sub ab col dd k0 k1 k2 k3 k5, K.lookup cBadInput = some (excClassObj nm q cBadInput N bs bm true sn sub ab col dd k0 k1 k2 k3 k5 "ValueError.__new__") ∧ PySem.HandSPX.refsVE bm = true)
    (qBadInputsa : PySem.W.findIn K (.ref cBadInput) "__setattr__" = some (some (.builtin "object.__setattr__")))
    {qBadInputI : Addr} (qBadInputi : PySem.W.findIn K (.ref cBadInput) "__init__" = some (some (.ref qBadInputI))) (qBadInputt : PySem.W.typeIn K (.ref qBadInputI) = some (.type "function"))
    {qBadInputcc qBadInputcda : Addr} {qBadInputoc qBadInputkV qBadInputdoc qBadInputpm qBadInputct : Value} {qBadInputod qBadInputan : Option Addr} {qBadInputosl : Array (Option Value)}
    (qBadInputl : K.lookup qBadInputI = some ⟨qBadInputoc, qBadInputod, .func (PySem.W.ksFn "__init__" "BadInput.__init__" (defArgs sBadInputIni) (defBody sBadInputIni) (defScope sBadInputIni) .none qBadInputkV qBadInputdoc qBadInputpm qBadInputan (.ref qBadInputcda) qBadInputct qBadInputcc), qBadInputosl⟩)
    (qBadInputh : PySem.W.codeIn K (.ref qBadInputcda) "BadInput.__init__" = true)
    {qBadInputcl : Value} {qBadInputcld : Option Addr} {qBadInputcsl : Array (Option Value)} (qBadInputce : K.lookup qBadInputcc = some ⟨qBadInputcl, qBadInputcld, .cell (some (.ref cBadInput)), qBadInputcsl⟩)
    {qBadInputccl : Value} {qBadInputcdd : Option Addr} {qBadInputvs : Array Value} {qBadInputccs : Array (Option Value)} {qBadInputfile : Str} {qBadInputtf : Tok} (qBadInputco : K.lookup qBadInputcda = some ⟨qBadInputccl, qBadInputcdd, .fields qBadInputvs, qBadInputccs⟩) (qBadInputv2 : qBadInputvs[2]? = some (.str qBadInputfile qBadInputtf)) (qBadInputfi : ((l.prog.main.file : Str) == qBadInputfile) = true)
    (qBadInputmr : PySem.W.mroIn K cBadInput (.ref cBadInput) = some true)
    (qBadInputini : PySem.W.ks_superIn K cBadInput cBadInput "__init__" = some (some (.builtin "ValueError.__init__"))) (qBadInputve : PySem.W.subIn K (.ref cBadInput) (.type "ValueError") = some true)
    (qBadInputn1 : PySem.W.findIn K (.ref cBadInput) "number" = some none)
    (qBadPaperc : ∃ nm q N bs bm sn sub ab col dd k0 k1 k2 k3 k5, K.lookup cBadPaper = some (excClassObj nm q cBadPaper N bs bm true sn sub ab col dd k0 k1 k2 k3 k5 "ValueError.__new__") ∧ PySem.HandSPX.refsVE bm = true)
    (qBadPapersa : PySem.W.findIn K (.ref cBadPaper) "__setattr__" = some (some (.builtin "object.__setattr__")))
    {qBadPaperI : Addr} (qBadPaperi : PySem.W.findIn K (.ref cBadPaper) "__init__" = some (some (.ref qBadPaperI))) (qBadPapert : PySem.W.typeIn K (.ref qBadPaperI) = some (.type "function"))
    {qBadPapercc qBadPapercda : Addr} {qBadPaperoc qBadPaperkV qBadPaperdoc qBadPaperpm qBadPaperct : Value} {qBadPaperod qBadPaperan : Option Addr} {qBadPaperosl : Array (Option Value)}
    (qBadPaperl : K.lookup qBadPaperI = some ⟨qBadPaperoc, qBadPaperod, .func (PySem.W.ksFn "__init__" "BadPaper.__init__" (defArgs sPaperIni) (defBody sPaperIni) (defScope sPaperIni) .none qBadPaperkV qBadPaperdoc qBadPaperpm qBadPaperan (.ref qBadPapercda) qBadPaperct qBadPapercc), qBadPaperosl⟩)
    (qBadPaperh : PySem.W.codeIn K (.ref qBadPapercda) "BadPaper.__init__" = true)
    {qBadPapercl : Value} {qBadPapercld : Option Addr} {qBadPapercsl : Array (Option Value)} (qBadPaperce : K.lookup qBadPapercc = some ⟨qBadPapercl, qBadPapercld, .cell (some (.ref cBadPaper)), qBadPapercsl⟩)
    {qBadPaperccl : Value} {qBadPapercdd : Option Addr} {qBadPapervs : Array Value} {qBadPaperccs : Array (Option Value)} {qBadPaperfile : Str} {qBadPapertf : Tok} (qBadPaperco : K.lookup qBadPapercda = some ⟨qBadPaperccl, qBadPapercdd, .fields qBadPapervs, qBadPaperccs⟩) (qBadPaperv2 : qBadPapervs[2]? = some (.str qBadPaperfile qBadPapertf)) (qBadPaperfi : ((l.prog.main.file : Str) == qBadPaperfile) = true)
    (qBadPapermr : PySem.W.mroIn K cBadPaper (.ref cBadPaper) = some true)
    (qBadPaperini : PySem.W.ks_superIn K cBadPaper cBadPaper "__init__" = some (some (.builtin "ValueError.__init__"))) (qBadPaperve : PySem.W.subIn K (.ref cBadPaper) (.type "ValueError") = some true)
    (qBadPapern1 : PySem.W.findIn K (.ref cBadPaper) "place" = some none)
    (qToldApartc : ∃ nm q N bs bm sn sub ab col dd k0 k1 k2 k3 k5, K.lookup cToldApart = some (excClassObj nm q cToldApart N bs bm true sn sub ab col dd k0 k1 k2 k3 k5 "ValueError.__new__") ∧ PySem.HandSPX.refsVE bm = true)
    (qToldApartsa : PySem.W.findIn K (.ref cToldApart) "__setattr__" = some (some (.builtin "object.__setattr__")))
    {qToldApartI : Addr} (qToldAparti : PySem.W.findIn K (.ref cToldApart) "__init__" = some (some (.ref qToldApartI))) (qToldApartt : PySem.W.typeIn K (.ref qToldApartI) = some (.type "function"))
    {qToldApartcc qToldApartcda : Addr} {qToldApartoc qToldApartkV qToldApartdoc qToldApartpm qToldApartct : Value} {qToldApartod qToldApartan : Option Addr} {qToldApartosl : Array (Option Value)}
    (qToldApartl : K.lookup qToldApartI = some ⟨qToldApartoc, qToldApartod, .func (PySem.W.ksFn "__init__" "ToldApart.__init__" (defArgs sToldApartIni) (defBody sToldApartIni) (defScope sToldApartIni) .none qToldApartkV qToldApartdoc qToldApartpm qToldApartan (.ref qToldApartcda) qToldApartct qToldApartcc), qToldApartosl⟩)
    (qToldAparth : PySem.W.codeIn K (.ref qToldApartcda) "ToldApart.__init__" = true)
    {qToldApartcl : Value} {qToldApartcld : Option Addr} {qToldApartcsl : Array (Option Value)} (qToldApartce : K.lookup qToldApartcc = some ⟨qToldApartcl, qToldApartcld, .cell (some (.ref cToldApart)), qToldApartcsl⟩)
    {qToldApartccl : Value} {qToldApartcdd : Option Addr} {qToldApartvs : Array Value} {qToldApartccs : Array (Option Value)} {qToldApartfile : Str} {qToldAparttf : Tok} (qToldApartco : K.lookup qToldApartcda = some ⟨qToldApartccl, qToldApartcdd, .fields qToldApartvs, qToldApartccs⟩) (qToldApartv2 : qToldApartvs[2]? = some (.str qToldApartfile qToldAparttf)) (qToldApartfi : ((l.prog.main.file : Str) == qToldApartfile) = true)
    (qToldApartmr : PySem.W.mroIn K cToldApart (.ref cToldApart) = some true)
    (qToldApartini : PySem.W.ks_superIn K cToldApart cToldApart "__init__" = some (some (.builtin "ValueError.__init__"))) (qToldApartve : PySem.W.subIn K (.ref cToldApart) (.type "ValueError") = some true)
    (qToldApartn1 : PySem.W.findIn K (.ref cToldApart) "user" = some none)
    {C : Addr} (aZ : PySem.W.nsIn K mainGlobals "Row" = some (some (.ref C)))
    {fm1 : Addr} {odm1 anm1 : Option Addr} {slm1 : Array (Option Value)} {ocm1 kVm1 dcm1 pmm1 ctm1 cdm1 : Value}
    (am1 : PySem.W.findIn K (.ref C) "__init__" = some (some (.ref fm1))) (im1 : PySem.W.isFn K (.ref fm1) = true) (lm1 : K.lookup fm1 = some ⟨ocm1, odm1, .func (PySem.W.fnOf "__init__" "Row.__init__" (defArgs sInit) (defBody sInit) (defScope sInit) .none kVm1 dcm1 pmm1 anm1 cdm1 ctm1), slm1⟩) (hm1 : PySem.W.codeIn K cdm1 "Row.__init__" = true) (km1 : PySem.W.keepIn K (.ref fm1) = true)
    {fm2 : Addr} {odm2 anm2 : Option Addr} {slm2 : Array (Option Value)} {ocm2 kVm2 dcm2 pmm2 ctm2 cdm2 : Value}
    (am2 : PySem.W.findIn K (.ref C) "seen" = some (some (.ref fm2))) (im2 : PySem.W.isFn K (.ref fm2) = true) (lm2 : K.lookup fm2 = some ⟨ocm2, odm2, .func (PySem.W.fnOf "seen" "Row.seen" (defArgs sSeen) (defBody sSeen) (defScope sSeen) .none kVm2 dcm2 pmm2 anm2 cdm2 ctm2), slm2⟩) (hm2 : PySem.W.codeIn K cdm2 "Row.seen" = true) (km2 : PySem.W.keepIn K (.ref fm2) = true)
    {fm3 : Addr} {odm3 anm3 : Option Addr} {slm3 : Array (Option Value)} {ocm3 kVm3 dcm3 pmm3 ctm3 cdm3 : Value}
    (am3 : PySem.W.findIn K (.ref C) "take" = some (some (.ref fm3))) (im3 : PySem.W.isFn K (.ref fm3) = true) (lm3 : K.lookup fm3 = some ⟨ocm3, odm3, .func (PySem.W.fnOf "take" "Row.take" (defArgs sTake) (defBody sTake) (defScope sTake) .none kVm3 dcm3 pmm3 anm3 cdm3 ctm3), slm3⟩) (hm3 : PySem.W.codeIn K cdm3 "Row.take" = true) (km3 : PySem.W.keepIn K (.ref fm3) = true)
    {fm4 : Addr} {odm4 anm4 : Option Addr} {slm4 : Array (Option Value)} {ocm4 kVm4 dcm4 pmm4 ctm4 cdm4 : Value}
    (am4 : PySem.W.findIn K (.ref C) "take_word" = some (some (.ref fm4))) (im4 : PySem.W.isFn K (.ref fm4) = true) (lm4 : K.lookup fm4 = some ⟨ocm4, odm4, .func (PySem.W.fnOf "take_word" "Row.take_word" (defArgs sTakeW) (defBody sTakeW) (defScope sTakeW) .none kVm4 dcm4 pmm4 anm4 cdm4 ctm4), slm4⟩) (hm4 : PySem.W.codeIn K cdm4 "Row.take_word" = true) (km4 : PySem.W.keepIn K (.ref fm4) = true)
    {fm5 : Addr} {odm5 anm5 : Option Addr} {slm5 : Array (Option Value)} {ocm5 kVm5 dcm5 pmm5 ctm5 cdm5 : Value}
    (am5 : PySem.W.findIn K (.ref C) "close" = some (some (.ref fm5))) (im5 : PySem.W.isFn K (.ref fm5) = true) (lm5 : K.lookup fm5 = some ⟨ocm5, odm5, .func (PySem.W.fnOf "close" "Row.close" (defArgs sClose) (defBody sClose) (defScope sClose) .none kVm5 dcm5 pmm5 anm5 cdm5 ctm5), slm5⟩) (hm5 : PySem.W.codeIn K cdm5 "Row.close" = true) (km5 : PySem.W.keepIn K (.ref fm5) = true)
    (pg : PySem.W.plainGet K C Str.empty = true)
    (hdC : PySem.W.hasDictIn K C = true)
    (po : PySem.W.plainOver K C = true)
    (sa : PySem.W.findIn K (.ref C) "__setattr__" = some (some (.builtin "object.__setattr__")))
    (mk : PySem.W.makesIn K C = true)
    (kc : PySem.W.keepIn K (.ref C) = true)
    (nN : PySem.W.findIn K (.ref C) "number" = some none)
    (nW : PySem.W.findIn K (.ref C) "words" = some none)
    (nA : PySem.W.findIn K (.ref C) "at" = some none)
    (z_isinstance : PySem.W.nsIn K mainGlobals "isinstance" = some none)
    (z_str : PySem.W.nsIn K mainGlobals "str" = some none)
    (z_int : PySem.W.nsIn K mainGlobals "int" = some none)
    (z_tuple : PySem.W.nsIn K mainGlobals "tuple" = some none)
    (z_len : PySem.W.nsIn K mainGlobals "len" = some none)
    (z_enumerate : PySem.W.nsIn K mainGlobals "enumerate" = some none)
    (z_range : PySem.W.nsIn K mainGlobals "range" = some none)
    (z_sum : PySem.W.nsIn K mainGlobals "sum" = some none)
    (z_min : PySem.W.nsIn K mainGlobals "min" = some none)
    (z_ValueError : PySem.W.nsIn K mainGlobals "ValueError" = some none)
    (z_super : PySem.W.nsIn K mainGlobals "super" = some none) :
    LawG l w K CX0 11 63 "_law_script" mg fa h := by
  have e := hfa.symm.trans (PySem.W.mg_of X G aL)
  cases e
  have FSh := fun_mk (st := sShown) lSh hSh kSh
  have bSh := (FSh).binds (ps := ["field"]) fun _ _ _ _ _ _ us hl => match us, hl with | [_], _ => rfl
  have gSh := PySem.W.mg_of X G aSh
  have FA := fun_mk (st := sName) lA hA kA
  have bA := (FA).binds (ps := ["thing"]) fun _ _ _ _ _ _ us hl => match us, hl with | [_], _ => rfl
  have gA := PySem.W.mg_of X G aA
  have FB := fun_mk (st := sKind) lB hB kB
  have bB := (FB).binds (ps := ["thing", "hidden"]) fun _ _ _ _ _ _ us hl => match us, hl with | [_, _], _ => rfl
  have gB := PySem.W.mg_of X G aB
  have FC := fun_mk (st := sBadD) lC hC kC
  have bC := (FC).binds (ps := ["deeds", "hidden"]) fun _ _ _ _ _ _ us hl => match us, hl with | [_, _], _ => rfl
  have gC := PySem.W.mg_of X G aC
  have FD := fun_mk (st := sBadH) lD hD kD
  have bD := (FD).binds (ps := ["hidden"]) fun _ _ _ _ _ _ us hl => match us, hl with | [_], _ => rfl
  have gD := PySem.W.mg_of X G aD
  have FE := fun_mk (st := sFault) lE hE kE
  have bE := (FE).binds (ps := ["thing"]) fun _ _ _ _ _ _ us hl => match us, hl with | [_], _ => rfl
  have gE := PySem.W.mg_of X G aE
  have FN := fun_mk (st := sNeed) lN hN kN
  have bN := (FN).binds (ps := ["face"]) fun _ _ _ _ _ _ us hl => match us, hl with | [_], _ => rfl
  have gN := PySem.W.mg_of X G aN
  have FFi := fun_mk (st := sFind) lFi hFi kFi
  have bFi := (FFi).binds (ps := ["face", "name"]) fun _ _ _ _ _ _ us hl => match us, hl with | [_, _], _ => rfl
  have gFi := PySem.W.mg_of X G aFi
  have FDn := fun_mk (st := sDeedN) lDn hDn kDn
  have bDn := (FDn).binds (ps := ["face", "name"]) fun _ _ _ _ _ _ us hl => match us, hl with | [_, _], _ => rfl
  have gDn := PySem.W.mg_of X G aDn
  have FGo := fun_mk (st := sGives) lGo hGo kGo
  have bGo := (FGo).binds (ps := ["face", "name"]) fun _ _ _ _ _ _ us hl => match us, hl with | [_, _], _ => rfl
  have gGo := PySem.W.mg_of X G aGo
  have FN1 := fun_mk (st := sNextN) lN1 hN1 kN1
  have bN1 := (FN1).binds (ps := ["thing", "ahead"]) fun _ _ _ _ _ _ us hl => match us, hl with | [_, _], _ => rfl
  have gN1 := PySem.W.mg_of X G aN1
  have FN2 := fun_mk (st := sFigs) lN2 hN2 kN2
  have bN2 := (FN2).binds (ps := ["word", "most"]) fun _ _ _ _ _ _ us hl => match us, hl with | [_, _], _ => rfl
  have gN2 := PySem.W.mg_of X G aN2
  have FN3 := fun_mk (st := sNum) lN3 hN3 kN3
  have bN3 := (FN3).binds (ps := ["word"]) fun _ _ _ _ _ _ us hl => match us, hl with | [_], _ => rfl
  have gN3 := PySem.W.mg_of X G aN3
  have FN4 := fun_mk (st := sKindBy) lN4 hN4 kN4
  have bN4 := (FN4).binds (ps := ["word"]) fun _ _ _ _ _ _ us hl => match us, hl with | [_], _ => rfl
  have gN4 := PySem.W.mg_of X G aN4
  have FN5 := fun_mk (st := sAreT) lN5 hN5 kN5
  have bN5 := (FN5).binds (ps := ["thing", "hidden"]) fun _ _ _ _ _ _ us hl => match us, hl with | [_, _], _ => rfl
  have gN5 := PySem.W.mg_of X G aN5
  have FN6 := fun_mk (st := sWords) lN6 hN6 kN6
  have bN6 := (FN6).binds (ps := ["row"]) fun _ _ _ _ _ _ us hl => match us, hl with | [_], _ => rfl
  have gN6 := PySem.W.mg_of X G aN6
  have FN7 := fun_mk (st := sRowsOf) lN7 hN7 kN7
  have bN7 := (FN7).binds (ps := ["text"]) fun _ _ _ _ _ _ us hl => match us, hl with | [_], _ => rfl
  have gN7 := PySem.W.mg_of X G aN7
  have FN8 := fun_mk (st := sNoMore) lN8 hN8 kN8
  have bN8 := (FN8).binds (ps := ["rows", "most"]) fun _ _ _ _ _ _ us hl => match us, hl with | [_, _], _ => rfl
  have gN8 := PySem.W.mg_of X G aN8
  have FN9 := fun_mk (st := sRowAt) lN9 hN9 kN9
  have bN9 := (FN9).binds (ps := ["rows", "number"]) fun _ _ _ _ _ _ us hl => match us, hl with | [_, _], _ => rfl
  have gN9 := PySem.W.mg_of X G aN9
  have FG := fun_mk (st := sReadH) lG hG kG
  have bG := (FG).binds (ps := ["row"]) fun _ _ _ _ _ _ us hl => match us, hl with | [_], _ => rfl
  have gG := PySem.W.mg_of X G aG
  have FH := fun_mk (st := sReadT) lH hH kH
  have bH := (FH).binds (ps := ["row", "hidden"]) fun _ _ _ _ _ _ us hl => match us, hl with | [_, _], _ => rfl
  have gH := PySem.W.mg_of X G aH
  have FI := fun_mk (st := sReadD) lI hI kI
  have bI := (FI).binds (ps := ["row", "hidden", "ahead"]) fun _ _ _ _ _ _ us hl => match us, hl with | [_, _, _], _ => rfl
  have gI := PySem.W.mg_of X G aI
  have FRb := fun_mk (st := sReadFB) lRb hRb kRb
  have bRb := (FRb).binds (ps := ["rows", "ahead"]) fun _ _ _ _ _ _ us hl => match us, hl with | [_, _], _ => rfl
  have gRb := PySem.W.mg_of X G aRb
  have FRf := fun_mk (st := sReadF) lRf hRf kRf
  have bRf := (FRf).binds (ps := ["text"]) fun _ _ _ _ _ _ us hl => match us, hl with | [_], _ => rfl
  have gRf := PySem.W.mg_of X G aRf
  have FX := fun_mk (st := sMixed) lX hX kX
  have bX := (FX).binds (ps := ["_law_cell", "_law_k"]) fun _ _ _ _ _ _ us hl => match us, hl with | [_, _], _ => rfl
  have gX := PySem.W.mg_of X G aX
  have FK := fun_mk (st := sKinds) lK hK kK
  have bK := (FK).binds (ps := ["_law_error"]) fun _ _ _ _ _ _ us hl => match us, hl with | [_], _ => rfl
  have gK := PySem.W.mg_of X G aK
  have FR := fun_mk (st := sDraw) lR hR kR
  have bR := (FR).binds (ps := ["_law_cell", "_law_k"]) fun _ _ _ _ _ _ us hl => match us, hl with | [_, _], _ => rfl
  have gR := PySem.W.mg_of X G aR
  have FJ := fun_mk (st := sDigit) lJ hJ kJ
  have bJ := (FJ).binds (ps := ["_law_state", "_law_many"]) fun _ _ _ _ _ _ us hl => match us, hl with | [_, _], _ => rfl
  have gJ := PySem.W.mg_of X G aJ
  have FBh := fun_mk (st := sByHand) lBh hBh kBh
  have bBh := (FBh).binds (ps := ["_law_number"]) fun _ _ _ _ _ _ us hl => match us, hl with | [_], _ => rfl
  have gBh := PySem.W.mg_of X G aBh
  have FTd := fun_mk (st := sTold) lTd hTd kTd
  have bTd := (FTd).binds (ps := ["_law_way", "_law_thing"]) fun _ _ _ _ _ _ us hl => match us, hl with | [_, _], _ => rfl
  have gTd := PySem.W.mg_of X G aTd
  have FL := fun_mk (st := sLaw) lL hL kL
  have bL := (FL).binds (ps := ["_law_script"]) fun _ _ _ _ _ _ us hl => match us, hl with | [_], _ => rfl
  have gL := PySem.W.mg_of X G aL
  have m_isinstance := PySem.W.mg_none_of X G z_isinstance
  have m_str := PySem.W.mg_none_of X G z_str
  have m_int := PySem.W.mg_none_of X G z_int
  have m_tuple := PySem.W.mg_none_of X G z_tuple
  have m_len := PySem.W.mg_none_of X G z_len
  have m_enumerate := PySem.W.mg_none_of X G z_enumerate
  have m_range := PySem.W.mg_none_of X G z_range
  have m_sum := PySem.W.mg_none_of X G z_sum
  have m_min := PySem.W.mg_none_of X G z_min
  have m_ValueError := PySem.W.mg_none_of X G z_ValueError
  have m_super := PySem.W.mg_none_of X G z_super
  have mmd := PySem.W.mg_of X G cmd
  have Fm1 := fun_mk (st := sInit) lm1 hm1 km1
  have bm1 := (Fm1).binds (ps := ["self", "number", "text"]) fun _ _ _ _ _ _ us hl => match us, hl with | [_, _, _], _ => rfl
  have Fm2 := fun_mk (st := sSeen) lm2 hm2 km2
  have bm2 := (Fm2).binds (ps := ["self"]) fun _ _ _ _ _ _ us hl => match us, hl with | [_], _ => rfl
  have Fm3 := fun_mk (st := sTake) lm3 hm3 km3
  have bm3 := (Fm3).binds (ps := ["self", "stands"]) fun _ _ _ _ _ _ us hl => match us, hl with | [_, _], _ => rfl
  have Fm4 := fun_mk (st := sTakeW) lm4 hm4 km4
  have bm4 := (Fm4).binds (ps := ["self", "word"]) fun _ _ _ _ _ _ us hl => match us, hl with | [_, _], _ => rfl
  have Fm5 := fun_mk (st := sClose) lm5 hm5 km5
  have bm5 := (Fm5).binds (ps := ["self"]) fun _ _ _ _ _ _ us hl => match us, hl with | [_], _ => rfl
  have RC : RowC K mg C := ⟨⟨pg, hdC, po, sa⟩, nN, nW, nA, PySem.W.mg_of X G aZ⟩
  have O : Oop K mg cOutOfPlace := ⟨PySem.W.mg_of X G nOutOfPlace, oxOutOfPlace, uOutOfPlacekp, uOutOfPlacees, uOutOfPlacety⟩
  have KBadRow : Kxs K mg cBadRow (bsAt 0) := ⟨⟨uBadRoweg, uBadRowek, uBadRowes, uBadRowed, uBadRowea, en, et, uBadRowem⟩, rfl, ⟨_, PySem.W.mg_of X G nBadRow, uBadRowBadRow⟩, ⟨_, PySem.W.mg_of X G nBadFace, uBadRowBadFace⟩, ⟨_, PySem.W.mg_of X G nBadMaking, uBadRowBadMaking⟩, ⟨_, PySem.W.mg_of X G nBadUser, uBadRowBadUser⟩, ⟨_, PySem.W.mg_of X G nBadSteps, uBadRowBadSteps⟩, ⟨_, PySem.W.mg_of X G nBadLead, uBadRowBadLead⟩, ⟨_, PySem.W.mg_of X G nToldApart, uBadRowToldApart⟩, ⟨_, PySem.W.mg_of X G nOutOfPlace, uBadRowOutOfPlace⟩, ⟨_, PySem.W.mg_of X G nTooGreat, uBadRowTooGreat⟩, ⟨_, PySem.W.mg_of X G nBadPaper, uBadRowBadPaper⟩, ⟨_, PySem.W.mg_of X G nBadProgram, uBadRowBadProgram⟩, ⟨_, PySem.W.mg_of X G nBadModule, uBadRowBadModule⟩, ⟨_, PySem.W.mg_of X G nRefused, uBadRowRefused⟩, ⟨_, PySem.W.mg_of X G nBadUse, uBadRowBadUse⟩, ⟨_, PySem.W.mg_of X G nBadInput, uBadRowBadInput⟩, uBadRowVE, ⟨_, PySem.W.mg_of X G nFaceError, uBadRowFaceError⟩, rfl⟩
  have KBadFace : Kxs K mg cBadFace (bsAt 1) := ⟨⟨uBadFaceeg, uBadFaceek, uBadFacees, uBadFaceed, uBadFaceea, en, et, uBadFaceem⟩, rfl, ⟨_, PySem.W.mg_of X G nBadRow, uBadFaceBadRow⟩, ⟨_, PySem.W.mg_of X G nBadFace, uBadFaceBadFace⟩, ⟨_, PySem.W.mg_of X G nBadMaking, uBadFaceBadMaking⟩, ⟨_, PySem.W.mg_of X G nBadUser, uBadFaceBadUser⟩, ⟨_, PySem.W.mg_of X G nBadSteps, uBadFaceBadSteps⟩, ⟨_, PySem.W.mg_of X G nBadLead, uBadFaceBadLead⟩, ⟨_, PySem.W.mg_of X G nToldApart, uBadFaceToldApart⟩, ⟨_, PySem.W.mg_of X G nOutOfPlace, uBadFaceOutOfPlace⟩, ⟨_, PySem.W.mg_of X G nTooGreat, uBadFaceTooGreat⟩, ⟨_, PySem.W.mg_of X G nBadPaper, uBadFaceBadPaper⟩, ⟨_, PySem.W.mg_of X G nBadProgram, uBadFaceBadProgram⟩, ⟨_, PySem.W.mg_of X G nBadModule, uBadFaceBadModule⟩, ⟨_, PySem.W.mg_of X G nRefused, uBadFaceRefused⟩, ⟨_, PySem.W.mg_of X G nBadUse, uBadFaceBadUse⟩, ⟨_, PySem.W.mg_of X G nBadInput, uBadFaceBadInput⟩, uBadFaceVE, ⟨_, PySem.W.mg_of X G nFaceError, uBadFaceFaceError⟩, rfl⟩
  have KBadMaking : Kxs K mg cBadMaking (bsAt 2) := ⟨⟨uBadMakingeg, uBadMakingek, uBadMakinges, uBadMakinged, uBadMakingea, en, et, uBadMakingem⟩, rfl, ⟨_, PySem.W.mg_of X G nBadRow, uBadMakingBadRow⟩, ⟨_, PySem.W.mg_of X G nBadFace, uBadMakingBadFace⟩, ⟨_, PySem.W.mg_of X G nBadMaking, uBadMakingBadMaking⟩, ⟨_, PySem.W.mg_of X G nBadUser, uBadMakingBadUser⟩, ⟨_, PySem.W.mg_of X G nBadSteps, uBadMakingBadSteps⟩, ⟨_, PySem.W.mg_of X G nBadLead, uBadMakingBadLead⟩, ⟨_, PySem.W.mg_of X G nToldApart, uBadMakingToldApart⟩, ⟨_, PySem.W.mg_of X G nOutOfPlace, uBadMakingOutOfPlace⟩, ⟨_, PySem.W.mg_of X G nTooGreat, uBadMakingTooGreat⟩, ⟨_, PySem.W.mg_of X G nBadPaper, uBadMakingBadPaper⟩, ⟨_, PySem.W.mg_of X G nBadProgram, uBadMakingBadProgram⟩, ⟨_, PySem.W.mg_of X G nBadModule, uBadMakingBadModule⟩, ⟨_, PySem.W.mg_of X G nRefused, uBadMakingRefused⟩, ⟨_, PySem.W.mg_of X G nBadUse, uBadMakingBadUse⟩, ⟨_, PySem.W.mg_of X G nBadInput, uBadMakingBadInput⟩, uBadMakingVE, ⟨_, PySem.W.mg_of X G nFaceError, uBadMakingFaceError⟩, rfl⟩
  have KBadUser : Kxs K mg cBadUser (bsAt 3) := ⟨⟨uBadUsereg, uBadUserek, uBadUseres, uBadUsered, uBadUserea, en, et, uBadUserem⟩, rfl, ⟨_, PySem.W.mg_of X G nBadRow, uBadUserBadRow⟩, ⟨_, PySem.W.mg_of X G nBadFace, uBadUserBadFace⟩, ⟨_, PySem.W.mg_of X G nBadMaking, uBadUserBadMaking⟩, ⟨_, PySem.W.mg_of X G nBadUser, uBadUserBadUser⟩, ⟨_, PySem.W.mg_of X G nBadSteps, uBadUserBadSteps⟩, ⟨_, PySem.W.mg_of X G nBadLead, uBadUserBadLead⟩, ⟨_, PySem.W.mg_of X G nToldApart, uBadUserToldApart⟩, ⟨_, PySem.W.mg_of X G nOutOfPlace, uBadUserOutOfPlace⟩, ⟨_, PySem.W.mg_of X G nTooGreat, uBadUserTooGreat⟩, ⟨_, PySem.W.mg_of X G nBadPaper, uBadUserBadPaper⟩, ⟨_, PySem.W.mg_of X G nBadProgram, uBadUserBadProgram⟩, ⟨_, PySem.W.mg_of X G nBadModule, uBadUserBadModule⟩, ⟨_, PySem.W.mg_of X G nRefused, uBadUserRefused⟩, ⟨_, PySem.W.mg_of X G nBadUse, uBadUserBadUse⟩, ⟨_, PySem.W.mg_of X G nBadInput, uBadUserBadInput⟩, uBadUserVE, ⟨_, PySem.W.mg_of X G nFaceError, uBadUserFaceError⟩, rfl⟩
  have KBadSteps : Kxs K mg cBadSteps (bsAt 4) := ⟨⟨uBadStepseg, uBadStepsek, uBadStepses, uBadStepsed, uBadStepsea, en, et, uBadStepsem⟩, rfl, ⟨_, PySem.W.mg_of X G nBadRow, uBadStepsBadRow⟩, ⟨_, PySem.W.mg_of X G nBadFace, uBadStepsBadFace⟩, ⟨_, PySem.W.mg_of X G nBadMaking, uBadStepsBadMaking⟩, ⟨_, PySem.W.mg_of X G nBadUser, uBadStepsBadUser⟩, ⟨_, PySem.W.mg_of X G nBadSteps, uBadStepsBadSteps⟩, ⟨_, PySem.W.mg_of X G nBadLead, uBadStepsBadLead⟩, ⟨_, PySem.W.mg_of X G nToldApart, uBadStepsToldApart⟩, ⟨_, PySem.W.mg_of X G nOutOfPlace, uBadStepsOutOfPlace⟩, ⟨_, PySem.W.mg_of X G nTooGreat, uBadStepsTooGreat⟩, ⟨_, PySem.W.mg_of X G nBadPaper, uBadStepsBadPaper⟩, ⟨_, PySem.W.mg_of X G nBadProgram, uBadStepsBadProgram⟩, ⟨_, PySem.W.mg_of X G nBadModule, uBadStepsBadModule⟩, ⟨_, PySem.W.mg_of X G nRefused, uBadStepsRefused⟩, ⟨_, PySem.W.mg_of X G nBadUse, uBadStepsBadUse⟩, ⟨_, PySem.W.mg_of X G nBadInput, uBadStepsBadInput⟩, uBadStepsVE, ⟨_, PySem.W.mg_of X G nFaceError, uBadStepsFaceError⟩, rfl⟩
  have KBadLead : Kxs K mg cBadLead (bsAt 5) := ⟨⟨uBadLeadeg, uBadLeadek, uBadLeades, uBadLeaded, uBadLeadea, en, et, uBadLeadem⟩, rfl, ⟨_, PySem.W.mg_of X G nBadRow, uBadLeadBadRow⟩, ⟨_, PySem.W.mg_of X G nBadFace, uBadLeadBadFace⟩, ⟨_, PySem.W.mg_of X G nBadMaking, uBadLeadBadMaking⟩, ⟨_, PySem.W.mg_of X G nBadUser, uBadLeadBadUser⟩, ⟨_, PySem.W.mg_of X G nBadSteps, uBadLeadBadSteps⟩, ⟨_, PySem.W.mg_of X G nBadLead, uBadLeadBadLead⟩, ⟨_, PySem.W.mg_of X G nToldApart, uBadLeadToldApart⟩, ⟨_, PySem.W.mg_of X G nOutOfPlace, uBadLeadOutOfPlace⟩, ⟨_, PySem.W.mg_of X G nTooGreat, uBadLeadTooGreat⟩, ⟨_, PySem.W.mg_of X G nBadPaper, uBadLeadBadPaper⟩, ⟨_, PySem.W.mg_of X G nBadProgram, uBadLeadBadProgram⟩, ⟨_, PySem.W.mg_of X G nBadModule, uBadLeadBadModule⟩, ⟨_, PySem.W.mg_of X G nRefused, uBadLeadRefused⟩, ⟨_, PySem.W.mg_of X G nBadUse, uBadLeadBadUse⟩, ⟨_, PySem.W.mg_of X G nBadInput, uBadLeadBadInput⟩, uBadLeadVE, ⟨_, PySem.W.mg_of X G nFaceError, uBadLeadFaceError⟩, rfl⟩
  have KToldApart : Kxs K mg cToldApart (bsAt 6) := ⟨⟨uToldAparteg, uToldApartek, uToldApartes, uToldAparted, uToldApartea, en, et, uToldApartem⟩, rfl, ⟨_, PySem.W.mg_of X G nBadRow, uToldApartBadRow⟩, ⟨_, PySem.W.mg_of X G nBadFace, uToldApartBadFace⟩, ⟨_, PySem.W.mg_of X G nBadMaking, uToldApartBadMaking⟩, ⟨_, PySem.W.mg_of X G nBadUser, uToldApartBadUser⟩, ⟨_, PySem.W.mg_of X G nBadSteps, uToldApartBadSteps⟩, ⟨_, PySem.W.mg_of X G nBadLead, uToldApartBadLead⟩, ⟨_, PySem.W.mg_of X G nToldApart, uToldApartToldApart⟩, ⟨_, PySem.W.mg_of X G nOutOfPlace, uToldApartOutOfPlace⟩, ⟨_, PySem.W.mg_of X G nTooGreat, uToldApartTooGreat⟩, ⟨_, PySem.W.mg_of X G nBadPaper, uToldApartBadPaper⟩, ⟨_, PySem.W.mg_of X G nBadProgram, uToldApartBadProgram⟩, ⟨_, PySem.W.mg_of X G nBadModule, uToldApartBadModule⟩, ⟨_, PySem.W.mg_of X G nRefused, uToldApartRefused⟩, ⟨_, PySem.W.mg_of X G nBadUse, uToldApartBadUse⟩, ⟨_, PySem.W.mg_of X G nBadInput, uToldApartBadInput⟩, uToldApartVE, ⟨_, PySem.W.mg_of X G nFaceError, uToldApartFaceError⟩, rfl⟩
  have KOutOfPlace : Kxs K mg cOutOfPlace (bsAt 7) := ⟨⟨uOutOfPlaceeg, uOutOfPlaceek, uOutOfPlacees, uOutOfPlaceed, uOutOfPlaceea, en, et, uOutOfPlaceem⟩, rfl, ⟨_, PySem.W.mg_of X G nBadRow, uOutOfPlaceBadRow⟩, ⟨_, PySem.W.mg_of X G nBadFace, uOutOfPlaceBadFace⟩, ⟨_, PySem.W.mg_of X G nBadMaking, uOutOfPlaceBadMaking⟩, ⟨_, PySem.W.mg_of X G nBadUser, uOutOfPlaceBadUser⟩, ⟨_, PySem.W.mg_of X G nBadSteps, uOutOfPlaceBadSteps⟩, ⟨_, PySem.W.mg_of X G nBadLead, uOutOfPlaceBadLead⟩, ⟨_, PySem.W.mg_of X G nToldApart, uOutOfPlaceToldApart⟩, ⟨_, PySem.W.mg_of X G nOutOfPlace, uOutOfPlaceOutOfPlace⟩, ⟨_, PySem.W.mg_of X G nTooGreat, uOutOfPlaceTooGreat⟩, ⟨_, PySem.W.mg_of X G nBadPaper, uOutOfPlaceBadPaper⟩, ⟨_, PySem.W.mg_of X G nBadProgram, uOutOfPlaceBadProgram⟩, ⟨_, PySem.W.mg_of X G nBadModule, uOutOfPlaceBadModule⟩, ⟨_, PySem.W.mg_of X G nRefused, uOutOfPlaceRefused⟩, ⟨_, PySem.W.mg_of X G nBadUse, uOutOfPlaceBadUse⟩, ⟨_, PySem.W.mg_of X G nBadInput, uOutOfPlaceBadInput⟩, uOutOfPlaceVE, ⟨_, PySem.W.mg_of X G nFaceError, uOutOfPlaceFaceError⟩, rfl⟩
  have KTooGreat : Kxs K mg cTooGreat (bsAt 8) := ⟨⟨uTooGreateg, uTooGreatek, uTooGreates, uTooGreated, uTooGreatea, en, et, uTooGreatem⟩, rfl, ⟨_, PySem.W.mg_of X G nBadRow, uTooGreatBadRow⟩, ⟨_, PySem.W.mg_of X G nBadFace, uTooGreatBadFace⟩, ⟨_, PySem.W.mg_of X G nBadMaking, uTooGreatBadMaking⟩, ⟨_, PySem.W.mg_of X G nBadUser, uTooGreatBadUser⟩, ⟨_, PySem.W.mg_of X G nBadSteps, uTooGreatBadSteps⟩, ⟨_, PySem.W.mg_of X G nBadLead, uTooGreatBadLead⟩, ⟨_, PySem.W.mg_of X G nToldApart, uTooGreatToldApart⟩, ⟨_, PySem.W.mg_of X G nOutOfPlace, uTooGreatOutOfPlace⟩, ⟨_, PySem.W.mg_of X G nTooGreat, uTooGreatTooGreat⟩, ⟨_, PySem.W.mg_of X G nBadPaper, uTooGreatBadPaper⟩, ⟨_, PySem.W.mg_of X G nBadProgram, uTooGreatBadProgram⟩, ⟨_, PySem.W.mg_of X G nBadModule, uTooGreatBadModule⟩, ⟨_, PySem.W.mg_of X G nRefused, uTooGreatRefused⟩, ⟨_, PySem.W.mg_of X G nBadUse, uTooGreatBadUse⟩, ⟨_, PySem.W.mg_of X G nBadInput, uTooGreatBadInput⟩, uTooGreatVE, ⟨_, PySem.W.mg_of X G nFaceError, uTooGreatFaceError⟩, rfl⟩
  have KBadPaper : Kxs K mg cBadPaper (bsAt 9) := ⟨⟨uBadPapereg, uBadPaperek, uBadPaperes, uBadPapered, uBadPaperea, en, et, uBadPaperem⟩, rfl, ⟨_, PySem.W.mg_of X G nBadRow, uBadPaperBadRow⟩, ⟨_, PySem.W.mg_of X G nBadFace, uBadPaperBadFace⟩, ⟨_, PySem.W.mg_of X G nBadMaking, uBadPaperBadMaking⟩, ⟨_, PySem.W.mg_of X G nBadUser, uBadPaperBadUser⟩, ⟨_, PySem.W.mg_of X G nBadSteps, uBadPaperBadSteps⟩, ⟨_, PySem.W.mg_of X G nBadLead, uBadPaperBadLead⟩, ⟨_, PySem.W.mg_of X G nToldApart, uBadPaperToldApart⟩, ⟨_, PySem.W.mg_of X G nOutOfPlace, uBadPaperOutOfPlace⟩, ⟨_, PySem.W.mg_of X G nTooGreat, uBadPaperTooGreat⟩, ⟨_, PySem.W.mg_of X G nBadPaper, uBadPaperBadPaper⟩, ⟨_, PySem.W.mg_of X G nBadProgram, uBadPaperBadProgram⟩, ⟨_, PySem.W.mg_of X G nBadModule, uBadPaperBadModule⟩, ⟨_, PySem.W.mg_of X G nRefused, uBadPaperRefused⟩, ⟨_, PySem.W.mg_of X G nBadUse, uBadPaperBadUse⟩, ⟨_, PySem.W.mg_of X G nBadInput, uBadPaperBadInput⟩, uBadPaperVE, ⟨_, PySem.W.mg_of X G nFaceError, uBadPaperFaceError⟩, rfl⟩
  have KBadProgram : Kxs K mg cBadProgram (bsAt 10) := ⟨⟨uBadProgrameg, uBadProgramek, uBadProgrames, uBadProgramed, uBadProgramea, en, et, uBadProgramem⟩, rfl, ⟨_, PySem.W.mg_of X G nBadRow, uBadProgramBadRow⟩, ⟨_, PySem.W.mg_of X G nBadFace, uBadProgramBadFace⟩, ⟨_, PySem.W.mg_of X G nBadMaking, uBadProgramBadMaking⟩, ⟨_, PySem.W.mg_of X G nBadUser, uBadProgramBadUser⟩, ⟨_, PySem.W.mg_of X G nBadSteps, uBadProgramBadSteps⟩, ⟨_, PySem.W.mg_of X G nBadLead, uBadProgramBadLead⟩, ⟨_, PySem.W.mg_of X G nToldApart, uBadProgramToldApart⟩, ⟨_, PySem.W.mg_of X G nOutOfPlace, uBadProgramOutOfPlace⟩, ⟨_, PySem.W.mg_of X G nTooGreat, uBadProgramTooGreat⟩, ⟨_, PySem.W.mg_of X G nBadPaper, uBadProgramBadPaper⟩, ⟨_, PySem.W.mg_of X G nBadProgram, uBadProgramBadProgram⟩, ⟨_, PySem.W.mg_of X G nBadModule, uBadProgramBadModule⟩, ⟨_, PySem.W.mg_of X G nRefused, uBadProgramRefused⟩, ⟨_, PySem.W.mg_of X G nBadUse, uBadProgramBadUse⟩, ⟨_, PySem.W.mg_of X G nBadInput, uBadProgramBadInput⟩, uBadProgramVE, ⟨_, PySem.W.mg_of X G nFaceError, uBadProgramFaceError⟩, rfl⟩
  have KBadModule : Kxs K mg cBadModule (bsAt 11) := ⟨⟨uBadModuleeg, uBadModuleek, uBadModulees, uBadModuleed, uBadModuleea, en, et, uBadModuleem⟩, rfl, ⟨_, PySem.W.mg_of X G nBadRow, uBadModuleBadRow⟩, ⟨_, PySem.W.mg_of X G nBadFace, uBadModuleBadFace⟩, ⟨_, PySem.W.mg_of X G nBadMaking, uBadModuleBadMaking⟩, ⟨_, PySem.W.mg_of X G nBadUser, uBadModuleBadUser⟩, ⟨_, PySem.W.mg_of X G nBadSteps, uBadModuleBadSteps⟩, ⟨_, PySem.W.mg_of X G nBadLead, uBadModuleBadLead⟩, ⟨_, PySem.W.mg_of X G nToldApart, uBadModuleToldApart⟩, ⟨_, PySem.W.mg_of X G nOutOfPlace, uBadModuleOutOfPlace⟩, ⟨_, PySem.W.mg_of X G nTooGreat, uBadModuleTooGreat⟩, ⟨_, PySem.W.mg_of X G nBadPaper, uBadModuleBadPaper⟩, ⟨_, PySem.W.mg_of X G nBadProgram, uBadModuleBadProgram⟩, ⟨_, PySem.W.mg_of X G nBadModule, uBadModuleBadModule⟩, ⟨_, PySem.W.mg_of X G nRefused, uBadModuleRefused⟩, ⟨_, PySem.W.mg_of X G nBadUse, uBadModuleBadUse⟩, ⟨_, PySem.W.mg_of X G nBadInput, uBadModuleBadInput⟩, uBadModuleVE, ⟨_, PySem.W.mg_of X G nFaceError, uBadModuleFaceError⟩, rfl⟩
  have KRefused : Kxs K mg cRefused (bsAt 12) := ⟨⟨uRefusedeg, uRefusedek, uRefusedes, uRefuseded, uRefusedea, en, et, uRefusedem⟩, rfl, ⟨_, PySem.W.mg_of X G nBadRow, uRefusedBadRow⟩, ⟨_, PySem.W.mg_of X G nBadFace, uRefusedBadFace⟩, ⟨_, PySem.W.mg_of X G nBadMaking, uRefusedBadMaking⟩, ⟨_, PySem.W.mg_of X G nBadUser, uRefusedBadUser⟩, ⟨_, PySem.W.mg_of X G nBadSteps, uRefusedBadSteps⟩, ⟨_, PySem.W.mg_of X G nBadLead, uRefusedBadLead⟩, ⟨_, PySem.W.mg_of X G nToldApart, uRefusedToldApart⟩, ⟨_, PySem.W.mg_of X G nOutOfPlace, uRefusedOutOfPlace⟩, ⟨_, PySem.W.mg_of X G nTooGreat, uRefusedTooGreat⟩, ⟨_, PySem.W.mg_of X G nBadPaper, uRefusedBadPaper⟩, ⟨_, PySem.W.mg_of X G nBadProgram, uRefusedBadProgram⟩, ⟨_, PySem.W.mg_of X G nBadModule, uRefusedBadModule⟩, ⟨_, PySem.W.mg_of X G nRefused, uRefusedRefused⟩, ⟨_, PySem.W.mg_of X G nBadUse, uRefusedBadUse⟩, ⟨_, PySem.W.mg_of X G nBadInput, uRefusedBadInput⟩, uRefusedVE, ⟨_, PySem.W.mg_of X G nFaceError, uRefusedFaceError⟩, rfl⟩
  have KBadUse : Kxs K mg cBadUse (bsAt 13) := ⟨⟨uBadUseeg, uBadUseek, uBadUsees, uBadUseed, uBadUseea, en, et, uBadUseem⟩, rfl, ⟨_, PySem.W.mg_of X G nBadRow, uBadUseBadRow⟩, ⟨_, PySem.W.mg_of X G nBadFace, uBadUseBadFace⟩, ⟨_, PySem.W.mg_of X G nBadMaking, uBadUseBadMaking⟩, ⟨_, PySem.W.mg_of X G nBadUser, uBadUseBadUser⟩, ⟨_, PySem.W.mg_of X G nBadSteps, uBadUseBadSteps⟩, ⟨_, PySem.W.mg_of X G nBadLead, uBadUseBadLead⟩, ⟨_, PySem.W.mg_of X G nToldApart, uBadUseToldApart⟩, ⟨_, PySem.W.mg_of X G nOutOfPlace, uBadUseOutOfPlace⟩, ⟨_, PySem.W.mg_of X G nTooGreat, uBadUseTooGreat⟩, ⟨_, PySem.W.mg_of X G nBadPaper, uBadUseBadPaper⟩, ⟨_, PySem.W.mg_of X G nBadProgram, uBadUseBadProgram⟩, ⟨_, PySem.W.mg_of X G nBadModule, uBadUseBadModule⟩, ⟨_, PySem.W.mg_of X G nRefused, uBadUseRefused⟩, ⟨_, PySem.W.mg_of X G nBadUse, uBadUseBadUse⟩, ⟨_, PySem.W.mg_of X G nBadInput, uBadUseBadInput⟩, uBadUseVE, ⟨_, PySem.W.mg_of X G nFaceError, uBadUseFaceError⟩, rfl⟩
  have KBadInput : Kxs K mg cBadInput (bsAt 14) := ⟨⟨uBadInputeg, uBadInputek, uBadInputes, uBadInputed, uBadInputea, en, et, uBadInputem⟩, rfl, ⟨_, PySem.W.mg_of X G nBadRow, uBadInputBadRow⟩, ⟨_, PySem.W.mg_of X G nBadFace, uBadInputBadFace⟩, ⟨_, PySem.W.mg_of X G nBadMaking, uBadInputBadMaking⟩, ⟨_, PySem.W.mg_of X G nBadUser, uBadInputBadUser⟩, ⟨_, PySem.W.mg_of X G nBadSteps, uBadInputBadSteps⟩, ⟨_, PySem.W.mg_of X G nBadLead, uBadInputBadLead⟩, ⟨_, PySem.W.mg_of X G nToldApart, uBadInputToldApart⟩, ⟨_, PySem.W.mg_of X G nOutOfPlace, uBadInputOutOfPlace⟩, ⟨_, PySem.W.mg_of X G nTooGreat, uBadInputTooGreat⟩, ⟨_, PySem.W.mg_of X G nBadPaper, uBadInputBadPaper⟩, ⟨_, PySem.W.mg_of X G nBadProgram, uBadInputBadProgram⟩, ⟨_, PySem.W.mg_of X G nBadModule, uBadInputBadModule⟩, ⟨_, PySem.W.mg_of X G nRefused, uBadInputRefused⟩, ⟨_, PySem.W.mg_of X G nBadUse, uBadInputBadUse⟩, ⟨_, PySem.W.mg_of X G nBadInput, uBadInputBadInput⟩, uBadInputVE, ⟨_, PySem.W.mg_of X G nFaceError, uBadInputFaceError⟩, rfl⟩
  have TBadRow : OexC K cBadRow := ⟨qBadRowc, qBadRowsa, uBadRowes, uBadRowty, uBadRowkp⟩
  have TBadFace : OexC K cBadFace := ⟨qBadFacec, qBadFacesa, uBadFacees, uBadFacety, uBadFacekp⟩
  have TBadMaking : OexC K cBadMaking := ⟨qBadMakingc, qBadMakingsa, uBadMakinges, uBadMakingty, uBadMakingkp⟩
  have TBadUser : OexC K cBadUser := ⟨qBadUserc, qBadUsersa, uBadUseres, uBadUserty, uBadUserkp⟩
  have TBadLead : OexC K cBadLead := ⟨qBadLeadc, qBadLeadsa, uBadLeades, uBadLeadty, uBadLeadkp⟩
  have TBadProgram : OexC K cBadProgram := ⟨qBadProgramc, qBadProgramsa, uBadProgrames, uBadProgramty, uBadProgramkp⟩
  have TBadModule : OexC K cBadModule := ⟨qBadModulec, qBadModulesa, uBadModulees, uBadModulety, uBadModulekp⟩
  have TBadSteps : OexC K cBadSteps := ⟨qBadStepsc, qBadStepssa, uBadStepses, uBadStepsty, uBadStepskp⟩
  have TBadUse : OexC K cBadUse := ⟨qBadUsec, qBadUsesa, uBadUsees, uBadUsety, uBadUsekp⟩
  have TBadInput : OexC K cBadInput := ⟨qBadInputc, qBadInputsa, uBadInputes, uBadInputty, uBadInputkp⟩
  have TBadPaper : OexC K cBadPaper := ⟨qBadPaperc, qBadPapersa, uBadPaperes, uBadPaperty, uBadPaperkp⟩
  have TToldApart : OexC K cToldApart := ⟨qToldApartc, qToldApartsa, uToldApartes, uToldApartty, uToldApartkp⟩
  have TW : Thr K mg cBadRow cBadFace cOutOfPlace cFaceError := ⟨PySem.W.mg_of X G nFaceError, xmBadRow, xmBadFace, xmOutOfPlace, KBadRow, KBadFace, KOutOfPlace⟩
  refine ⟨PySem.W.fnOf "law" "law" (defArgs sLaw) (defBody sLaw) (defScope sLaw) .none kVL dcL pmL anL cdL ctL, [], spLaw K, ?_, ?_, ?_, fun s v => .of_eq rfl, ?_, ?_⟩
  · intro p hp
    cases hp
  · intro p hp
    cases hp
  · intro p hp
    cases hp
  · intro H a ns hl hH hS
    exact ⟨a, ns, rfl, hS, hl, fun _ => rfl⟩
  · intro base KB NB TB
    have OSh : FnOk l.prog w K mg base CX0 1 fSh _ ["field"] spShown := ok_shown FSh m_isinstance m_int m_str
    have OBadRow := ok_rowIni (P := l.prog) (w := w) (base := base) (k := 0) qBadRowl qBadRowh ⟨TBadRow, ⟨_, _, _, qBadRowce⟩, ⟨_, _, _, _, _, _, qBadRowco, qBadRowv2, qBadRowfi⟩, qBadRowmr, m_super, mtop, many, qBadRowini, qBadRowve⟩ ⟨OSh, gSh, kSh, bSh⟩ qBadRown1 qBadRown2
    have MBadRow : MkC l.prog w K mg base 2 "BadRow" ["self", "row", "word"] "row" "word" (spIni cBadRow "row" "word") cBadRow qBadRowI _ := ⟨TBadRow, qBadRowi, qBadRowt, OBadRow, bini_BadRow, PySem.W.mg_of X G nBadRow, ⟨uBadRoweg, uBadRowek, uBadRowes, uBadRowed⟩, qBadRown1, qBadRown2⟩
    have OBadFace := ok_faceIni (P := l.prog) (w := w) (base := base) (k := 0) qBadFacel qBadFaceh ⟨TBadFace, ⟨_, _, _, qBadFacece⟩, ⟨_, _, _, _, _, _, qBadFaceco, qBadFacev2, qBadFacefi⟩, qBadFacemr, m_super, mtop, many, qBadFaceini, qBadFaceve⟩ ⟨OSh, gSh, kSh, bSh⟩ qBadFacen1 qBadFacen2
    have MBadFace : MkC l.prog w K mg base 2 "BadFace" ["self", "part", "number"] "part" "number" (spIni cBadFace "part" "number") cBadFace qBadFaceI _ := ⟨TBadFace, qBadFacei, qBadFacet, OBadFace, bini_BadFace, PySem.W.mg_of X G nBadFace, ⟨uBadFaceeg, uBadFaceek, uBadFacees, uBadFaceed⟩, qBadFacen1, qBadFacen2⟩
    have OBadMaking := ok_BadMakingIni (P := l.prog) (w := w) (base := base) (k := 0) qBadMakingl qBadMakingh ⟨TBadMaking, ⟨_, _, _, qBadMakingce⟩, ⟨_, _, _, _, _, _, qBadMakingco, qBadMakingv2, qBadMakingfi⟩, qBadMakingmr, m_super, mtop, many, qBadMakingini, qBadMakingve⟩ ⟨OSh, gSh, kSh, bSh⟩ qBadMakingn1 qBadMakingn2
    have MBadMaking : MkC l.prog w K mg base 2 "BadMaking" ["self", "part", "number"] "part" "number" (spIni cBadMaking "part" "number") cBadMaking qBadMakingI _ := ⟨TBadMaking, qBadMakingi, qBadMakingt, OBadMaking, bini_BadMaking, PySem.W.mg_of X G nBadMaking, ⟨uBadMakingeg, uBadMakingek, uBadMakinges, uBadMakinged⟩, qBadMakingn1, qBadMakingn2⟩
    have OBadUser := ok_BadUserIni (P := l.prog) (w := w) (base := base) (k := 0) qBadUserl qBadUserh ⟨TBadUser, ⟨_, _, _, qBadUserce⟩, ⟨_, _, _, _, _, _, qBadUserco, qBadUserv2, qBadUserfi⟩, qBadUsermr, m_super, mtop, many, qBadUserini, qBadUserve⟩ ⟨OSh, gSh, kSh, bSh⟩ qBadUsern1 qBadUsern2
    have MBadUser : MkC l.prog w K mg base 2 "BadUser" ["self", "row", "place"] "row" "place" (spIni cBadUser "row" "place") cBadUser qBadUserI _ := ⟨TBadUser, qBadUseri, qBadUsert, OBadUser, bini_BadUser, PySem.W.mg_of X G nBadUser, ⟨uBadUsereg, uBadUserek, uBadUseres, uBadUsered⟩, qBadUsern1, qBadUsern2⟩
    have OBadLead := ok_BadLeadIni (P := l.prog) (w := w) (base := base) (k := 0) qBadLeadl qBadLeadh ⟨TBadLead, ⟨_, _, _, qBadLeadce⟩, ⟨_, _, _, _, _, _, qBadLeadco, qBadLeadv2, qBadLeadfi⟩, qBadLeadmr, m_super, mtop, many, qBadLeadini, qBadLeadve⟩ ⟨OSh, gSh, kSh, bSh⟩ qBadLeadn1 qBadLeadn2
    have MBadLead : MkC l.prog w K mg base 2 "BadLead" ["self", "kind", "number"] "kind" "number" (spIni cBadLead "kind" "number") cBadLead qBadLeadI _ := ⟨TBadLead, qBadLeadi, qBadLeadt, OBadLead, bini_BadLead, PySem.W.mg_of X G nBadLead, ⟨uBadLeadeg, uBadLeadek, uBadLeades, uBadLeaded⟩, qBadLeadn1, qBadLeadn2⟩
    have OBadProgram := ok_BadProgramIni (P := l.prog) (w := w) (base := base) (k := 0) qBadPrograml qBadProgramh ⟨TBadProgram, ⟨_, _, _, qBadProgramce⟩, ⟨_, _, _, _, _, _, qBadProgramco, qBadProgramv2, qBadProgramfi⟩, qBadProgrammr, m_super, mtop, many, qBadProgramini, qBadProgramve⟩ ⟨OSh, gSh, kSh, bSh⟩ qBadProgramn1 qBadProgramn2
    have MBadProgram : MkC l.prog w K mg base 2 "BadProgram" ["self", "row", "place"] "row" "place" (spIni cBadProgram "row" "place") cBadProgram qBadProgramI _ := ⟨TBadProgram, qBadProgrami, qBadProgramt, OBadProgram, bini_BadProgram, PySem.W.mg_of X G nBadProgram, ⟨uBadProgrameg, uBadProgramek, uBadProgrames, uBadProgramed⟩, qBadProgramn1, qBadProgramn2⟩
    have OBadModule := ok_BadModuleIni (P := l.prog) (w := w) (base := base) (k := 0) qBadModulel qBadModuleh ⟨TBadModule, ⟨_, _, _, qBadModulece⟩, ⟨_, _, _, _, _, _, qBadModuleco, qBadModulev2, qBadModulefi⟩, qBadModulemr, m_super, mtop, many, qBadModuleini, qBadModuleve⟩ ⟨OSh, gSh, kSh, bSh⟩ qBadModulen1 qBadModulen2
    have MBadModule : MkC l.prog w K mg base 2 "BadModule" ["self", "part", "number"] "part" "number" (spIni cBadModule "part" "number") cBadModule qBadModuleI _ := ⟨TBadModule, qBadModulei, qBadModulet, OBadModule, bini_BadModule, PySem.W.mg_of X G nBadModule, ⟨uBadModuleeg, uBadModuleek, uBadModulees, uBadModuleed⟩, qBadModulen1, qBadModulen2⟩
    have OBadSteps := ok_BadStepsIni (P := l.prog) (w := w) (base := base) (k := 0) qBadStepsl qBadStepsh ⟨TBadSteps, ⟨_, _, _, qBadStepsce⟩, ⟨_, _, _, _, _, _, qBadStepsco, qBadStepsv2, qBadStepsfi⟩, qBadStepsmr, m_super, mtop, many, qBadStepsini, qBadStepsve⟩ ⟨OSh, gSh, kSh, bSh⟩ qBadStepsn1
    have MBadSteps : MkC l.prog w K mg base 2 "BadSteps" ["self", "number"] "number" "number" (spIni1 cBadSteps "number") cBadSteps qBadStepsI _ := ⟨TBadSteps, qBadStepsi, qBadStepst, OBadSteps, bini_BadSteps, PySem.W.mg_of X G nBadSteps, ⟨uBadStepseg, uBadStepsek, uBadStepses, uBadStepsed⟩, qBadStepsn1, qBadStepsn1⟩
    have OBadUse := ok_BadUseIni (P := l.prog) (w := w) (base := base) (k := 0) qBadUsel qBadUseh ⟨TBadUse, ⟨_, _, _, qBadUsece⟩, ⟨_, _, _, _, _, _, qBadUseco, qBadUsev2, qBadUsefi⟩, qBadUsemr, m_super, mtop, many, qBadUseini, qBadUseve⟩ ⟨OSh, gSh, kSh, bSh⟩ qBadUsen1
    have MBadUse : MkC l.prog w K mg base 2 "BadUse" ["self", "number"] "number" "number" (spIni1 cBadUse "number") cBadUse qBadUseI _ := ⟨TBadUse, qBadUsei, qBadUset, OBadUse, bini_BadUse, PySem.W.mg_of X G nBadUse, ⟨uBadUseeg, uBadUseek, uBadUsees, uBadUseed⟩, qBadUsen1, qBadUsen1⟩
    have OBadInput := ok_BadInputIni (P := l.prog) (w := w) (base := base) (k := 0) qBadInputl qBadInputh ⟨TBadInput, ⟨_, _, _, qBadInputce⟩, ⟨_, _, _, _, _, _, qBadInputco, qBadInputv2, qBadInputfi⟩, qBadInputmr, m_super, mtop, many, qBadInputini, qBadInputve⟩ ⟨OSh, gSh, kSh, bSh⟩ qBadInputn1
    have MBadInput : MkC l.prog w K mg base 2 "BadInput" ["self", "number"] "number" "number" (spIni1 cBadInput "number") cBadInput qBadInputI _ := ⟨TBadInput, qBadInputi, qBadInputt, OBadInput, bini_BadInput, PySem.W.mg_of X G nBadInput, ⟨uBadInputeg, uBadInputek, uBadInputes, uBadInputed⟩, qBadInputn1, qBadInputn1⟩
    have OBadPaper := ok_paperIni (P := l.prog) (w := w) (base := base) (k := 0) qBadPaperl qBadPaperh ⟨TBadPaper, ⟨_, _, _, qBadPaperce⟩, ⟨_, _, _, _, _, _, qBadPaperco, qBadPaperv2, qBadPaperfi⟩, qBadPapermr, m_super, mtop, many, qBadPaperini, qBadPaperve⟩ ⟨OSh, gSh, kSh, bSh⟩ qBadPapern1 m_isinstance m_tuple
    have MBadPaper : MkC l.prog w K mg base 2 "BadPaper" ["self", "place"] "place" "place" (spIniP K cBadPaper) cBadPaper qBadPaperI _ := ⟨TBadPaper, qBadPaperi, qBadPapert, OBadPaper, bini_BadPaper, PySem.W.mg_of X G nBadPaper, ⟨uBadPapereg, uBadPaperek, uBadPaperes, uBadPapered⟩, qBadPapern1, qBadPapern1⟩
    have OToldApart := ok_ToldApartIni (P := l.prog) (w := w) (base := base) (k := 0) qToldApartl qToldAparth ⟨TToldApart, ⟨_, _, _, qToldApartce⟩, ⟨_, _, _, _, _, _, qToldApartco, qToldApartv2, qToldApartfi⟩, qToldApartmr, m_super, mtop, many, qToldApartini, qToldApartve⟩ qToldApartn1
    have MToldApart : MkC l.prog w K mg base 2 "ToldApart" ["self", "user"] "user" "user" (spIniA cToldApart "user") cToldApart qToldApartI _ := ⟨TToldApart, qToldAparti, qToldApartt, OToldApart, bini_ToldApart, PySem.W.mg_of X G nToldApart, ⟨uToldAparteg, uToldApartek, uToldApartes, uToldAparted⟩, qToldApartn1, qToldApartn1⟩
    have ZOutOfPlace : OoC K mg "OutOfPlace" cOutOfPlace := ⟨PySem.W.mg_of X G nOutOfPlace, oxOutOfPlace, uOutOfPlacekp⟩
    have ZTooGreat : OoC K mg "TooGreat" cTooGreat := ⟨PySem.W.mg_of X G nTooGreat, oxTooGreat, uTooGreatkp⟩
    have ZRefused : OoC K mg "Refused" cRefused := ⟨PySem.W.mg_of X G nRefused, oxRefused, uRefusedkp⟩
    have BF : Bad2 l.prog w K mg base 2 "BadFace" "part" "number" cBadFace qBadFaceI _ := ⟨TBadFace, qBadFacei, qBadFacet, OBadFace, bini_BadFace, PySem.W.mg_of X G nBadFace⟩
    have BB : BadR l.prog w K mg base 2 cBadRow qBadRowI _ := ⟨TBadRow, qBadRowi, qBadRowt, OBadRow, bini_BadRow, PySem.W.mg_of X G nBadRow⟩
    have BB4 : BadR l.prog w K mg base 4 cBadRow qBadRowI _ := ⟨TBadRow, qBadRowi, qBadRowt, OBadRow.mono (by decide), bini_BadRow, PySem.W.mg_of X G nBadRow⟩
    have OA : FnOk l.prog w K mg base CX0 1 fA _ ["thing"] spName := ok_name FA m_isinstance m_str m_len
    have OAx : FnOk l.prog w K mg base CX0 1 fA _ ["thing"] (spNameX K) := ok_nameX FA m_isinstance m_str m_len
    have OB : FnOk l.prog w K mg base CX0 1 fB _ ["thing", "hidden"] (spKind K) := ok_kind FB m_isinstance m_str m_int
    have OBx : FnOk l.prog w K mg base CX0 1 fB _ ["thing", "hidden"] (spKindX K) := ok_kindX FB m_isinstance m_str m_int
    have OD := ok_badH (P := l.prog) (w := w) (base := base) (k := 0) FD ⟨OA, gA, kA, bA⟩ m_enumerate
    have ODx := ok_badHX (P := l.prog) (w := w) (base := base) (k := 0) FD ⟨OAx, gA, kA, bA⟩ m_enumerate
    have OC := ok_badD (P := l.prog) (w := w) (base := base) (k := 0) FC ⟨OB, gB, kB, bB⟩ m_enumerate m_isinstance m_str m_int m_tuple m_len
    have OCx := ok_badDX (P := l.prog) (w := w) (base := base) (k := 0) FC ⟨OBx, gB, kB, bB⟩ m_enumerate m_isinstance m_str m_int m_tuple m_len
    have OE := ok_fault (P := l.prog) (w := w) (base := base) (k := 0) FE ⟨OD, gD, kD, bD⟩ ⟨OC, gC, kC, bC⟩ m_isinstance m_tuple m_len mmd
    have OEx := ok_faultX (P := l.prog) (w := w) (base := base) (k := 0) FE ⟨ODx, gD, kD, bD⟩ ⟨OCx, gC, kC, bC⟩ m_isinstance m_tuple m_len mmd
    have ON := ok_need (P := l.prog) (w := w) (base := base) (k := 0) FN ⟨OE, gE, kE, bE⟩
    have ONx := ok_needX (P := l.prog) (w := w) (base := base) (k := 0) FN ⟨OEx, gE, kE, bE⟩ BF
    have OFi : FnOk l.prog w K mg base CX0 1 fFi _ ["face", "name"] (spFind K) := ok_find FFi m_isinstance m_str m_enumerate
    have ODn := ok_deedN (P := l.prog) (w := w) (base := base) (k := 0) FDn ⟨OFi, gFi, kFi, bFi⟩ O
    have OGo := ok_gives (P := l.prog) (w := w) (base := base) (k := 0) FGo ⟨ON, gN, kN, bN⟩ (ODn.mono (by decide)) gDn kDn bDn
    have ON1 := ok_nextNX (P := l.prog) (w := w) (base := base) (k := 0) FN1 ⟨OAx, gA, kA, bA⟩
    have ON2 : FnOk l.prog w K mg base CX0 1 fN2 _ ["word", "most"] (spFigsX K) := ok_figsX FN2 m_isinstance m_str m_len m_int
    have ON3 := ok_numX (P := l.prog) (w := w) (base := base) FN3 FN2 bN2 gN2 ON2
    have ON4 := ok_kindByX (P := l.prog) (w := w) (base := base) (k := 0) FN4 ⟨ON3, gN3, kN3, bN3⟩
    have ON5 := ok_areTX (P := l.prog) (w := w) (base := base) (k := 0) FN5 ⟨OCx, gC, kC, bC⟩
    have ON6 : FnOk l.prog w K mg base CX0 3 fN6 _ ["row"] spWordsX := ok_wordsX FN6 m_isinstance m_str
    have ON7 := ok_rowsOfX (P := l.prog) (w := w) (base := base) (k := 2) FN7 BB m_isinstance m_str
    have ON8 := ok_noMoreX (P := l.prog) (w := w) (base := base) (k := 2) FN8 BB m_len
    have Om1 := ok_initX (P := l.prog) (w := w) (base := base) (k := 2) Fm1 RC ⟨ON6, gN6, kN6, bN6⟩ BB
    have Om2 := ok_seen (P := l.prog) (w := w) (base := base) (k := 0) Fm2 RC
    have Om3 := ok_takeX (P := l.prog) (w := w) (base := base) (k := 2) Fm3 RC BB
    have Om4 := ok_takeWX (P := l.prog) (w := w) (base := base) (k := 4) Fm4 RC ⟨Om2.mono (by decide), ⟨am2, im2, km2⟩, bm2⟩ ⟨Om3, ⟨am3, im3, km3⟩, bm3⟩
    have Om5 := ok_closeX (P := l.prog) (w := w) (base := base) (k := 2) Fm5 RC ⟨Om2.mono (by decide), ⟨am2, im2, km2⟩, bm2⟩ BB
    have ON9 := ok_rowAtX (P := l.prog) (w := w) (base := base) (k := 2) FN9 RC ⟨mk, am1, im1, kc⟩ Om1 bm1 BB4 m_len
    have ZR : ∀ k, 5 ≤ k → RwX l.prog w K mg base C cBadRow k fm2 fm3 fm4 fm5 _ _ _ _ := fun k hk => ⟨RC, ⟨Om2.mono (by omega), ⟨am2, im2, km2⟩, bm2⟩, ⟨Om3.mono (by omega), ⟨am3, im3, km3⟩, bm3⟩, ⟨Om4.mono hk, ⟨am4, im4, km4⟩, bm4⟩, ⟨Om5.mono (by omega), ⟨am5, im5, km5⟩, bm5⟩⟩
    have OG := ok_readHX (P := l.prog) (w := w) (base := base) (k := 5) FG (ZR 5 (by decide)) ⟨ON1.mono (by decide), gN1, kN1, bN1⟩ m_tuple
    have OH := ok_readTX (P := l.prog) (w := w) (base := base) (k := 5) FH (ZR 5 (by decide)) ⟨ON4.mono (by decide), gN4, kN4, bN4⟩ ⟨ON5.mono (by decide), gN5, kN5, bN5⟩
    have OI := ok_readDX (P := l.prog) (w := w) (base := base) (k := 6) FI (ZR 6 (by decide)) ⟨ON1.mono (by decide), gN1, kN1, bN1⟩ ⟨OH, gH, kH, bH⟩ ⟨ON4.mono (by decide), gN4, kN4, bN4⟩ ⟨OBx.mono (by decide), gB, kB, bB⟩
    have ORb := ok_readFBX (P := l.prog) (w := w) (base := base) (k := 7) FRb ⟨ON9.mono (by decide), gN9, kN9, bN9⟩ ⟨OG.mono (by decide), gG, kG, bG⟩ ⟨OI, gI, kI, bI⟩ ⟨ON8.mono (by decide), gN8, kN8, bN8⟩ m_range m_min m_len m_tuple mmd
    have ORf := ok_readFX (P := l.prog) (w := w) (base := base) (k := 8) FRf ⟨ON7.mono (by decide), gN7, kN7, bN7⟩ ⟨ORb, gRb, kRb, bRb⟩
    have OK : FnOk l.prog w K mg base CX0 3 fK _ ["_law_error"] (spKinds K mg) := ok_kinds FK m_isinstance m_ValueError
    have OR := ok_draw (P := l.prog) (w := w) (base := base) FR FX bX gX
    have OJ := ok_digit (P := l.prog) (w := w) (base := base) FJ FX bX gX m_range
    have OTd := ok_told6 (P := l.prog) (w := w) (base := base) (k := 9) FTd ⟨ONx.mono (by decide), gN, kN, bN⟩ ⟨ORf, gRf, kRf, bRf⟩ ⟨OGo.mono (by decide), gGo, kGo, bGo⟩ TW ⟨OK.mono (by decide), gK, kK, bK⟩
    have OBh := ok_hand (P := l.prog) (w := w) (base := base) (k := 2) FBh MBadRow MBadFace MBadMaking MBadUser MBadLead MBadProgram MBadModule MBadSteps MBadUse MBadInput MBadPaper MToldApart ZRefused ZOutOfPlace ZTooGreat KBadRow KBadFace KBadMaking KBadUser KBadSteps KBadLead KBadProgram KBadModule KBadUse KBadPaper KBadInput KToldApart KRefused KOutOfPlace KTooGreat ⟨OK, gK, kK, bK⟩
    exact ok_law FL ⟨⟨OR.mono (by decide), gR, kR, bR⟩, ⟨OJ.mono (by decide), gJ, kJ, bJ⟩, ⟨OBh.mono (by decide), gBh, kBh, bBh⟩, ⟨OTd, gTd, kTd, bTd⟩, m_enumerate, m_sum, m_range⟩
end SfC
open PySem PySem.W PyProof.Rows
set_option maxRecDepth 100000 in
set_option maxHeartbeats 0 in
theorem PySem.Challenge.cw_sameface_k06_refusals_by_hand_holds : PySem.Challenge.rw_sameface_k06_refusals_by_hand.Holds := by
  w_on; o_law; k_head; (case hw => w_witness2)
  k_fill
  refine SfG.walk_G (l := PySem.Challenge.rw_sameface_k06_refusals_by_hand) (n := 63) (k := 11) (x := "_law_script") (CX := fun _ => L2.CX0) rfl (by decide) rfl ⟨rfl, by decide, by decide⟩ (fun w h Y => PySem.W.kIn_of Y) ?F (fun _ _ _ _ _ h => h)
  case F =>
    intro w mg fa h KX G hmg T
    refine' SfC.all_mk KX G hmg ?aSh ?lSh ?hSh ?kSh ?aA ?lA ?hA ?kA ?aB ?lB ?hB ?kB ?aC ?lC ?hC ?kC ?aD ?lD ?hD ?kD ?aE ?lE ?hE ?kE ?aN ?lN ?hN ?kN ?aFi ?lFi ?hFi ?kFi ?aDn ?lDn ?hDn ?kDn ?aGo ?lGo ?hGo ?kGo ?aN1 ?lN1 ?hN1 ?kN1 ?aN2 ?lN2 ?hN2 ?kN2 ?aN3 ?lN3 ?hN3 ?kN3 ?aN4 ?lN4 ?hN4 ?kN4 ?aN5 ?lN5 ?hN5 ?kN5 ?aN6 ?lN6 ?hN6 ?kN6 ?aN7 ?lN7 ?hN7 ?kN7 ?aN8 ?lN8 ?hN8 ?kN8 ?aN9 ?lN9 ?hN9 ?kN9 ?aG ?lG ?hG ?kG ?aH ?lH ?hH ?kH ?aI ?lI ?hI ?kI ?aRb ?lRb ?hRb ?kRb ?aRf ?lRf ?hRf ?kRf ?aX ?lX ?hX ?kX ?aK ?lK ?hK ?kK ?aR ?lR ?hR ?kR ?aJ ?lJ ?hJ ?kJ ?aBh ?lBh ?hBh ?kBh ?aTd ?lTd ?hTd ?kTd ?aL ?lL ?hL ?kL ?cmd ?nBadRow ?nBadFace ?nBadMaking ?nBadUser ?nBadSteps ?nBadLead ?nToldApart ?nOutOfPlace ?nTooGreat ?nBadPaper ?nBadProgram ?nBadModule ?nRefused ?nBadUse ?nBadInput ?nFaceError ?uBadRowBadRow ?uBadRowBadFace ?uBadRowBadMaking ?uBadRowBadUser ?uBadRowBadSteps ?uBadRowBadLead ?uBadRowToldApart ?uBadRowOutOfPlace ?uBadRowTooGreat ?uBadRowBadPaper ?uBadRowBadProgram ?uBadRowBadModule ?uBadRowRefused ?uBadRowBadUse ?uBadRowBadInput ?uBadRowFaceError ?uBadRowVE ?uBadRoweg ?uBadRowek ?uBadRowes ?uBadRowed ?uBadRowea ?uBadRowem ?uBadRowkp ?uBadRowty ?uBadFaceBadRow ?uBadFaceBadFace ?uBadFaceBadMaking ?uBadFaceBadUser ?uBadFaceBadSteps ?uBadFaceBadLead ?uBadFaceToldApart ?uBadFaceOutOfPlace ?uBadFaceTooGreat ?uBadFaceBadPaper ?uBadFaceBadProgram ?uBadFaceBadModule ?uBadFaceRefused ?uBadFaceBadUse ?uBadFaceBadInput ?uBadFaceFaceError ?uBadFaceVE ?uBadFaceeg ?uBadFaceek ?uBadFacees ?uBadFaceed ?uBadFaceea ?uBadFaceem ?uBadFacekp ?uBadFacety ?uBadMakingBadRow ?uBadMakingBadFace ?uBadMakingBadMaking ?uBadMakingBadUser ?uBadMakingBadSteps ?uBadMakingBadLead ?uBadMakingToldApart ?uBadMakingOutOfPlace ?uBadMakingTooGreat ?uBadMakingBadPaper ?uBadMakingBadProgram ?uBadMakingBadModule ?uBadMakingRefused ?uBadMakingBadUse ?uBadMakingBadInput ?uBadMakingFaceError ?uBadMakingVE ?uBadMakingeg ?uBadMakingek ?uBadMakinges ?uBadMakinged ?uBadMakingea ?uBadMakingem ?uBadMakingkp ?uBadMakingty ?uBadUserBadRow ?uBadUserBadFace ?uBadUserBadMaking ?uBadUserBadUser ?uBadUserBadSteps ?uBadUserBadLead ?uBadUserToldApart ?uBadUserOutOfPlace ?uBadUserTooGreat ?uBadUserBadPaper ?uBadUserBadProgram ?uBadUserBadModule ?uBadUserRefused ?uBadUserBadUse ?uBadUserBadInput ?uBadUserFaceError ?uBadUserVE ?uBadUsereg ?uBadUserek ?uBadUseres ?uBadUsered ?uBadUserea ?uBadUserem ?uBadUserkp ?uBadUserty ?uBadStepsBadRow ?uBadStepsBadFace ?uBadStepsBadMaking ?uBadStepsBadUser ?uBadStepsBadSteps ?uBadStepsBadLead ?uBadStepsToldApart ?uBadStepsOutOfPlace ?uBadStepsTooGreat ?uBadStepsBadPaper ?uBadStepsBadProgram ?uBadStepsBadModule ?uBadStepsRefused ?uBadStepsBadUse ?uBadStepsBadInput ?uBadStepsFaceError ?uBadStepsVE ?uBadStepseg ?uBadStepsek ?uBadStepses ?uBadStepsed ?uBadStepsea ?uBadStepsem ?uBadStepskp ?uBadStepsty ?uBadLeadBadRow ?uBadLeadBadFace ?uBadLeadBadMaking ?uBadLeadBadUser ?uBadLeadBadSteps ?uBadLeadBadLead ?uBadLeadToldApart ?uBadLeadOutOfPlace ?uBadLeadTooGreat ?uBadLeadBadPaper ?uBadLeadBadProgram ?uBadLeadBadModule ?uBadLeadRefused ?uBadLeadBadUse ?uBadLeadBadInput ?uBadLeadFaceError ?uBadLeadVE ?uBadLeadeg ?uBadLeadek ?uBadLeades ?uBadLeaded ?uBadLeadea ?uBadLeadem ?uBadLeadkp ?uBadLeadty ?uToldApartBadRow ?uToldApartBadFace ?uToldApartBadMaking ?uToldApartBadUser ?uToldApartBadSteps ?uToldApartBadLead ?uToldApartToldApart ?uToldApartOutOfPlace ?uToldApartTooGreat ?uToldApartBadPaper ?uToldApartBadProgram ?uToldApartBadModule ?uToldApartRefused ?uToldApartBadUse ?uToldApartBadInput ?uToldApartFaceError ?uToldApartVE ?uToldAparteg ?uToldApartek ?uToldApartes ?uToldAparted ?uToldApartea ?uToldApartem ?uToldApartkp ?uToldApartty ?uOutOfPlaceBadRow ?uOutOfPlaceBadFace ?uOutOfPlaceBadMaking ?uOutOfPlaceBadUser ?uOutOfPlaceBadSteps ?uOutOfPlaceBadLead ?uOutOfPlaceToldApart ?uOutOfPlaceOutOfPlace ?uOutOfPlaceTooGreat ?uOutOfPlaceBadPaper ?uOutOfPlaceBadProgram ?uOutOfPlaceBadModule ?uOutOfPlaceRefused ?uOutOfPlaceBadUse ?uOutOfPlaceBadInput ?uOutOfPlaceFaceError ?uOutOfPlaceVE ?uOutOfPlaceeg ?uOutOfPlaceek ?uOutOfPlacees ?uOutOfPlaceed ?uOutOfPlaceea ?uOutOfPlaceem ?uOutOfPlacekp ?uOutOfPlacety ?uTooGreatBadRow ?uTooGreatBadFace ?uTooGreatBadMaking ?uTooGreatBadUser ?uTooGreatBadSteps ?uTooGreatBadLead ?uTooGreatToldApart ?uTooGreatOutOfPlace ?uTooGreatTooGreat ?uTooGreatBadPaper ?uTooGreatBadProgram ?uTooGreatBadModule ?uTooGreatRefused ?uTooGreatBadUse ?uTooGreatBadInput ?uTooGreatFaceError ?uTooGreatVE ?uTooGreateg ?uTooGreatek ?uTooGreates ?uTooGreated ?uTooGreatea ?uTooGreatem ?uTooGreatkp ?uTooGreatty ?uBadPaperBadRow ?uBadPaperBadFace ?uBadPaperBadMaking ?uBadPaperBadUser ?uBadPaperBadSteps ?uBadPaperBadLead ?uBadPaperToldApart ?uBadPaperOutOfPlace ?uBadPaperTooGreat ?uBadPaperBadPaper ?uBadPaperBadProgram ?uBadPaperBadModule ?uBadPaperRefused ?uBadPaperBadUse ?uBadPaperBadInput ?uBadPaperFaceError ?uBadPaperVE ?uBadPapereg ?uBadPaperek ?uBadPaperes ?uBadPapered ?uBadPaperea ?uBadPaperem ?uBadPaperkp ?uBadPaperty ?uBadProgramBadRow ?uBadProgramBadFace ?uBadProgramBadMaking ?uBadProgramBadUser ?uBadProgramBadSteps ?uBadProgramBadLead ?uBadProgramToldApart ?uBadProgramOutOfPlace ?uBadProgramTooGreat ?uBadProgramBadPaper ?uBadProgramBadProgram ?uBadProgramBadModule ?uBadProgramRefused ?uBadProgramBadUse ?uBadProgramBadInput ?uBadProgramFaceError ?uBadProgramVE ?uBadProgrameg ?uBadProgramek ?uBadProgrames ?uBadProgramed ?uBadProgramea ?uBadProgramem ?uBadProgramkp ?uBadProgramty ?uBadModuleBadRow ?uBadModuleBadFace ?uBadModuleBadMaking ?uBadModuleBadUser ?uBadModuleBadSteps ?uBadModuleBadLead ?uBadModuleToldApart ?uBadModuleOutOfPlace ?uBadModuleTooGreat ?uBadModuleBadPaper ?uBadModuleBadProgram ?uBadModuleBadModule ?uBadModuleRefused ?uBadModuleBadUse ?uBadModuleBadInput ?uBadModuleFaceError ?uBadModuleVE ?uBadModuleeg ?uBadModuleek ?uBadModulees ?uBadModuleed ?uBadModuleea ?uBadModuleem ?uBadModulekp ?uBadModulety ?uRefusedBadRow ?uRefusedBadFace ?uRefusedBadMaking ?uRefusedBadUser ?uRefusedBadSteps ?uRefusedBadLead ?uRefusedToldApart ?uRefusedOutOfPlace ?uRefusedTooGreat ?uRefusedBadPaper ?uRefusedBadProgram ?uRefusedBadModule ?uRefusedRefused ?uRefusedBadUse ?uRefusedBadInput ?uRefusedFaceError ?uRefusedVE ?uRefusedeg ?uRefusedek ?uRefusedes ?uRefuseded ?uRefusedea ?uRefusedem ?uRefusedkp ?uRefusedty ?uBadUseBadRow ?uBadUseBadFace ?uBadUseBadMaking ?uBadUseBadUser ?uBadUseBadSteps ?uBadUseBadLead ?uBadUseToldApart ?uBadUseOutOfPlace ?uBadUseTooGreat ?uBadUseBadPaper ?uBadUseBadProgram ?uBadUseBadModule ?uBadUseRefused ?uBadUseBadUse ?uBadUseBadInput ?uBadUseFaceError ?uBadUseVE ?uBadUseeg ?uBadUseek ?uBadUsees ?uBadUseed ?uBadUseea ?uBadUseem ?uBadUsekp ?uBadUsety ?uBadInputBadRow ?uBadInputBadFace ?uBadInputBadMaking ?uBadInputBadUser ?uBadInputBadSteps ?uBadInputBadLead ?uBadInputToldApart ?uBadInputOutOfPlace ?uBadInputTooGreat ?uBadInputBadPaper ?uBadInputBadProgram ?uBadInputBadModule ?uBadInputRefused ?uBadInputBadUse ?uBadInputBadInput ?uBadInputFaceError ?uBadInputVE ?uBadInputeg ?uBadInputek ?uBadInputes ?uBadInputed ?uBadInputea ?uBadInputem ?uBadInputkp ?uBadInputty ?xmBadRow ?xmBadFace ?xmOutOfPlace ?en ?et ?mtop ?many ?oxOutOfPlace ?oxTooGreat ?oxRefused ?qBadRowc ?qBadRowsa ?qBadRowi ?qBadRowt ?qBadRowl ?qBadRowh ?qBadRowce ?qBadRowco ?qBadRowv2 ?qBadRowfi ?qBadRowmr ?qBadRowini ?qBadRowve ?qBadRown1 ?qBadRown2 ?qBadFacec ?qBadFacesa ?qBadFacei ?qBadFacet ?qBadFacel ?qBadFaceh ?qBadFacece ?qBadFaceco ?qBadFacev2 ?qBadFacefi ?qBadFacemr ?qBadFaceini ?qBadFaceve ?qBadFacen1 ?qBadFacen2 ?qBadMakingc ?qBadMakingsa ?qBadMakingi ?qBadMakingt ?qBadMakingl ?qBadMakingh ?qBadMakingce ?qBadMakingco ?qBadMakingv2 ?qBadMakingfi ?qBadMakingmr ?qBadMakingini ?qBadMakingve ?qBadMakingn1 ?qBadMakingn2 ?qBadUserc ?qBadUsersa ?qBadUseri ?qBadUsert ?qBadUserl ?qBadUserh ?qBadUserce ?qBadUserco ?qBadUserv2 ?qBadUserfi ?qBadUsermr ?qBadUserini ?qBadUserve ?qBadUsern1 ?qBadUsern2 ?qBadLeadc ?qBadLeadsa ?qBadLeadi ?qBadLeadt ?qBadLeadl ?qBadLeadh ?qBadLeadce ?qBadLeadco ?qBadLeadv2 ?qBadLeadfi ?qBadLeadmr ?qBadLeadini ?qBadLeadve ?qBadLeadn1 ?qBadLeadn2 ?qBadProgramc ?qBadProgramsa ?qBadProgrami ?qBadProgramt ?qBadPrograml ?qBadProgramh ?qBadProgramce ?qBadProgramco ?qBadProgramv2 ?qBadProgramfi ?qBadProgrammr ?qBadProgramini ?qBadProgramve ?qBadProgramn1 ?qBadProgramn2 ?qBadModulec ?qBadModulesa ?qBadModulei ?qBadModulet ?qBadModulel ?qBadModuleh ?qBadModulece ?qBadModuleco ?qBadModulev2 ?qBadModulefi ?qBadModulemr ?qBadModuleini ?qBadModuleve ?qBadModulen1 ?qBadModulen2 ?qBadStepsc ?qBadStepssa ?qBadStepsi ?qBadStepst ?qBadStepsl ?qBadStepsh ?qBadStepsce ?qBadStepsco ?qBadStepsv2 ?qBadStepsfi ?qBadStepsmr ?qBadStepsini ?qBadStepsve ?qBadStepsn1 ?qBadUsec ?qBadUsesa ?qBadUsei ?qBadUset ?qBadUsel ?qBadUseh ?qBadUsece ?qBadUseco ?qBadUsev2 ?qBadUsefi ?qBadUsemr ?qBadUseini ?qBadUseve ?qBadUsen1 ?qBadInputc ?qBadInputsa ?qBadInputi ?qBadInputt ?qBadInputl ?qBadInputh ?qBadInputce ?qBadInputco ?qBadInputv2 ?qBadInputfi ?qBadInputmr ?qBadInputini ?qBadInputve ?qBadInputn1 ?qBadPaperc ?qBadPapersa ?qBadPaperi ?qBadPapert ?qBadPaperl ?qBadPaperh ?qBadPaperce ?qBadPaperco ?qBadPaperv2 ?qBadPaperfi ?qBadPapermr ?qBadPaperini ?qBadPaperve ?qBadPapern1 ?qToldApartc ?qToldApartsa ?qToldAparti ?qToldApartt ?qToldApartl ?qToldAparth ?qToldApartce ?qToldApartco ?qToldApartv2 ?qToldApartfi ?qToldApartmr ?qToldApartini ?qToldApartve ?qToldApartn1 ?aZ ?am1 ?im1 ?lm1 ?hm1 ?km1 ?am2 ?im2 ?lm2 ?hm2 ?km2 ?am3 ?im3 ?lm3 ?hm3 ?km3 ?am4 ?im4 ?lm4 ?hm4 ?km4 ?am5 ?im5 ?lm5 ?hm5 ?km5 ?pg ?hdC ?po ?sa ?mk ?kc ?nN ?nW ?nA ?z_isinstance ?z_str ?z_int ?z_tuple ?z_len ?z_enumerate ?z_range ?z_sum ?z_min ?z_ValueError ?z_super
    (case aSh => k_is)
    (case lSh => k_is)
    (case hSh => k_is)
    (case kSh => k_is)
    (case aA => k_is)
    (case lA => k_is)
    (case hA => k_is)
    (case kA => k_is)
    (case aB => k_is)
    (case lB => k_is)
    (case hB => k_is)
    (case kB => k_is)
    (case aC => k_is)
    (case lC => k_is)
    (case hC => k_is)
    (case kC => k_is)
    (case aD => k_is)
    (case lD => k_is)
    (case hD => k_is)
    (case kD => k_is)
    (case aE => k_is)
    (case lE => k_is)
    (case hE => k_is)
    (case kE => k_is)
    (case aN => k_is)
    (case lN => k_is)
    (case hN => k_is)
    (case kN => k_is)
    (case aFi => k_is)
    (case lFi => k_is)
    (case hFi => k_is)
    (case kFi => k_is)
    (case aDn => k_is)
    (case lDn => k_is)
    (case hDn => k_is)
    (case kDn => k_is)
    (case aGo => k_is)
    (case lGo => k_is)
    (case hGo => k_is)
    (case kGo => k_is)
    (case aN1 => k_is)
    (case lN1 => k_is)
    (case hN1 => k_is)
    (case kN1 => k_is)
    (case aN2 => k_is)
    (case lN2 => k_is)
    (case hN2 => k_is)
    (case kN2 => k_is)
    (case aN3 => k_is)
    (case lN3 => k_is)
    (case hN3 => k_is)
    (case kN3 => k_is)
    (case aN4 => k_is)
    (case lN4 => k_is)
    (case hN4 => k_is)
    (case kN4 => k_is)
    (case aN5 => k_is)
    (case lN5 => k_is)
    (case hN5 => k_is)
    (case kN5 => k_is)
    (case aN6 => k_is)
    (case lN6 => k_is)
    (case hN6 => k_is)
    (case kN6 => k_is)
    (case aN7 => k_is)
    (case lN7 => k_is)
    (case hN7 => k_is)
    (case kN7 => k_is)
    (case aN8 => k_is)
    (case lN8 => k_is)
    (case hN8 => k_is)
    (case kN8 => k_is)
    (case aN9 => k_is)
    (case lN9 => k_is)
    (case hN9 => k_is)
    (case kN9 => k_is)
    (case aG => k_is)
    (case lG => k_is)
    (case hG => k_is)
    (case kG => k_is)
    (case aH => k_is)
    (case lH => k_is)
    (case hH => k_is)
    (case kH => k_is)
    (case aI => k_is)
    (case lI => k_is)
    (case hI => k_is)
    (case kI => k_is)
    (case aRb => k_is)
    (case lRb => k_is)
    (case hRb => k_is)
    (case kRb => k_is)
    (case aRf => k_is)
    (case lRf => k_is)
    (case hRf => k_is)
    (case kRf => k_is)
    (case aX => k_is)
    (case lX => k_is)
    (case hX => k_is)
    (case kX => k_is)
    (case aK => k_is)
    (case lK => k_is)
    (case hK => k_is)
    (case kK => k_is)
    (case aR => k_is)
    (case lR => k_is)
    (case hR => k_is)
    (case kR => k_is)
    (case aJ => k_is)
    (case lJ => k_is)
    (case hJ => k_is)
    (case kJ => k_is)
    (case aBh => k_is)
    (case lBh => k_is)
    (case hBh => k_is)
    (case kBh => k_is)
    (case aTd => k_is)
    (case lTd => k_is)
    (case hTd => k_is)
    (case kTd => k_is)
    (case aL => k_is)
    (case lL => k_is)
    (case hL => k_is)
    (case kL => k_is)
    (case cmd => k_is)
    (case nBadRow => k_is)
    (case nBadFace => k_is)
    (case nBadMaking => k_is)
    (case nBadUser => k_is)
    (case nBadSteps => k_is)
    (case nBadLead => k_is)
    (case nToldApart => k_is)
    (case nOutOfPlace => k_is)
    (case nTooGreat => k_is)
    (case nBadPaper => k_is)
    (case nBadProgram => k_is)
    (case nBadModule => k_is)
    (case nRefused => k_is)
    (case nBadUse => k_is)
    (case nBadInput => k_is)
    (case nFaceError => k_is)
    (case uBadRowBadRow => first | k_is | decide +kernel | exact rfl)
    (case uBadRowBadFace => first | k_is | decide +kernel | exact rfl)
    (case uBadRowBadMaking => first | k_is | decide +kernel | exact rfl)
    (case uBadRowBadUser => first | k_is | decide +kernel | exact rfl)
    (case uBadRowBadSteps => first | k_is | decide +kernel | exact rfl)
    (case uBadRowBadLead => first | k_is | decide +kernel | exact rfl)
    (case uBadRowToldApart => first | k_is | decide +kernel | exact rfl)
    (case uBadRowOutOfPlace => first | k_is | decide +kernel | exact rfl)
    (case uBadRowTooGreat => first | k_is | decide +kernel | exact rfl)
    (case uBadRowBadPaper => first | k_is | decide +kernel | exact rfl)
    (case uBadRowBadProgram => first | k_is | decide +kernel | exact rfl)
    (case uBadRowBadModule => first | k_is | decide +kernel | exact rfl)
    (case uBadRowRefused => first | k_is | decide +kernel | exact rfl)
    (case uBadRowBadUse => first | k_is | decide +kernel | exact rfl)
    (case uBadRowBadInput => first | k_is | decide +kernel | exact rfl)
    (case uBadRowFaceError => first | k_is | decide +kernel | exact rfl)
    (case uBadRowVE => first | k_is | decide +kernel | exact rfl)
    (case uBadRoweg => first | k_is | decide +kernel | exact rfl)
    (case uBadRowek => first | k_is | decide +kernel | exact rfl)
    (case uBadRowes => first | k_is | decide +kernel | exact rfl)
    (case uBadRowed => first | k_is | decide +kernel | exact rfl)
    (case uBadRowea => first | k_is | decide +kernel | exact rfl)
    (case uBadRowem => first | k_is | decide +kernel | exact rfl)
    (case uBadRowkp => first | k_is | decide +kernel | exact rfl)
    (case uBadRowty => first | k_is | decide +kernel | exact rfl)
    (case uBadFaceBadRow => first | k_is | decide +kernel | exact rfl)
    (case uBadFaceBadFace => first | k_is | decide +kernel | exact rfl)
    (case uBadFaceBadMaking => first | k_is | decide +kernel | exact rfl)
    (case uBadFaceBadUser => first | k_is | decide +kernel | exact rfl)
    (case uBadFaceBadSteps => first | k_is | decide +kernel | exact rfl)
    (case uBadFaceBadLead => first | k_is | decide +kernel | exact rfl)
    (case uBadFaceToldApart => first | k_is | decide +kernel | exact rfl)
    (case uBadFaceOutOfPlace => first | k_is | decide +kernel | exact rfl)
    (case uBadFaceTooGreat => first | k_is | decide +kernel | exact rfl)
    (case uBadFaceBadPaper => first | k_is | decide +kernel | exact rfl)
    (case uBadFaceBadProgram => first | k_is | decide +kernel | exact rfl)
    (case uBadFaceBadModule => first | k_is | decide +kernel | exact rfl)
    (case uBadFaceRefused => first | k_is | decide +kernel | exact rfl)
    (case uBadFaceBadUse => first | k_is | decide +kernel | exact rfl)
    (case uBadFaceBadInput => first | k_is | decide +kernel | exact rfl)
    (case uBadFaceFaceError => first | k_is | decide +kernel | exact rfl)
    (case uBadFaceVE => first | k_is | decide +kernel | exact rfl)
    (case uBadFaceeg => first | k_is | decide +kernel | exact rfl)
    (case uBadFaceek => first | k_is | decide +kernel | exact rfl)
    (case uBadFacees => first | k_is | decide +kernel | exact rfl)
    (case uBadFaceed => first | k_is | decide +kernel | exact rfl)
    (case uBadFaceea => first | k_is | decide +kernel | exact rfl)
    (case uBadFaceem => first | k_is | decide +kernel | exact rfl)
    (case uBadFacekp => first | k_is | decide +kernel | exact rfl)
    (case uBadFacety => first | k_is | decide +kernel | exact rfl)
    (case uBadMakingBadRow => first | k_is | decide +kernel | exact rfl)
    (case uBadMakingBadFace => first | k_is | decide +kernel | exact rfl)
    (case uBadMakingBadMaking => first | k_is | decide +kernel | exact rfl)
    (case uBadMakingBadUser => first | k_is | decide +kernel | exact rfl)
    (case uBadMakingBadSteps => first | k_is | decide +kernel | exact rfl)
    (case uBadMakingBadLead => first | k_is | decide +kernel | exact rfl)
    (case uBadMakingToldApart => first | k_is | decide +kernel | exact rfl)
    (case uBadMakingOutOfPlace => first | k_is | decide +kernel | exact rfl)
    (case uBadMakingTooGreat => first | k_is | decide +kernel | exact rfl)
    (case uBadMakingBadPaper => first | k_is | decide +kernel | exact rfl)
    (case uBadMakingBadProgram => first | k_is | decide +kernel | exact rfl)
    (case uBadMakingBadModule => first | k_is | decide +kernel | exact rfl)
    (case uBadMakingRefused => first | k_is | decide +kernel | exact rfl)
    (case uBadMakingBadUse => first | k_is | decide +kernel | exact rfl)
    (case uBadMakingBadInput => first | k_is | decide +kernel | exact rfl)
    (case uBadMakingFaceError => first | k_is | decide +kernel | exact rfl)
    (case uBadMakingVE => first | k_is | decide +kernel | exact rfl)
    (case uBadMakingeg => first | k_is | decide +kernel | exact rfl)
    (case uBadMakingek => first | k_is | decide +kernel | exact rfl)
    (case uBadMakinges => first | k_is | decide +kernel | exact rfl)
    (case uBadMakinged => first | k_is | decide +kernel | exact rfl)
    (case uBadMakingea => first | k_is | decide +kernel | exact rfl)
    (case uBadMakingem => first | k_is | decide +kernel | exact rfl)
    (case uBadMakingkp => first | k_is | decide +kernel | exact rfl)
    (case uBadMakingty => first | k_is | decide +kernel | exact rfl)
    (case uBadUserBadRow => first | k_is | decide +kernel | exact rfl)
    (case uBadUserBadFace => first | k_is | decide +kernel | exact rfl)
    (case uBadUserBadMaking => first | k_is | decide +kernel | exact rfl)
    (case uBadUserBadUser => first | k_is | decide +kernel | exact rfl)
    (case uBadUserBadSteps => first | k_is | decide +kernel | exact rfl)
    (case uBadUserBadLead => first | k_is | decide +kernel | exact rfl)
    (case uBadUserToldApart => first | k_is | decide +kernel | exact rfl)
    (case uBadUserOutOfPlace => first | k_is | decide +kernel | exact rfl)
    (case uBadUserTooGreat => first | k_is | decide +kernel | exact rfl)
    (case uBadUserBadPaper => first | k_is | decide +kernel | exact rfl)
    (case uBadUserBadProgram => first | k_is | decide +kernel | exact rfl)
    (case uBadUserBadModule => first | k_is | decide +kernel | exact rfl)
    (case uBadUserRefused => first | k_is | decide +kernel | exact rfl)
    (case uBadUserBadUse => first | k_is | decide +kernel | exact rfl)
    (case uBadUserBadInput => first | k_is | decide +kernel | exact rfl)
    (case uBadUserFaceError => first | k_is | decide +kernel | exact rfl)
    (case uBadUserVE => first | k_is | decide +kernel | exact rfl)
    (case uBadUsereg => first | k_is | decide +kernel | exact rfl)
    (case uBadUserek => first | k_is | decide +kernel | exact rfl)
    (case uBadUseres => first | k_is | decide +kernel | exact rfl)
    (case uBadUsered => first | k_is | decide +kernel | exact rfl)
    (case uBadUserea => first | k_is | decide +kernel | exact rfl)
    (case uBadUserem => first | k_is | decide +kernel | exact rfl)
    (case uBadUserkp => first | k_is | decide +kernel | exact rfl)
    (case uBadUserty => first | k_is | decide +kernel | exact rfl)
    (case uBadStepsBadRow => first | k_is | decide +kernel | exact rfl)
    (case uBadStepsBadFace => first | k_is | decide +kernel | exact rfl)
    (case uBadStepsBadMaking => first | k_is | decide +kernel | exact rfl)
    (case uBadStepsBadUser => first | k_is | decide +kernel | exact rfl)
    (case uBadStepsBadSteps => first | k_is | decide +kernel | exact rfl)
    (case uBadStepsBadLead => first | k_is | decide +kernel | exact rfl)
    (case uBadStepsToldApart => first | k_is | decide +kernel | exact rfl)
    (case uBadStepsOutOfPlace => first | k_is | decide +kernel | exact rfl)
    (case uBadStepsTooGreat => first | k_is | decide +kernel | exact rfl)
    (case uBadStepsBadPaper => first | k_is | decide +kernel | exact rfl)
    (case uBadStepsBadProgram => first | k_is | decide +kernel | exact rfl)
    (case uBadStepsBadModule => first | k_is | decide +kernel | exact rfl)
    (case uBadStepsRefused => first | k_is | decide +kernel | exact rfl)
    (case uBadStepsBadUse => first | k_is | decide +kernel | exact rfl)
    (case uBadStepsBadInput => first | k_is | decide +kernel | exact rfl)
    (case uBadStepsFaceError => first | k_is | decide +kernel | exact rfl)
    (case uBadStepsVE => first | k_is | decide +kernel | exact rfl)
    (case uBadStepseg => first | k_is | decide +kernel | exact rfl)
    (case uBadStepsek => first | k_is | decide +kernel | exact rfl)
    (case uBadStepses => first | k_is | decide +kernel | exact rfl)
    (case uBadStepsed => first | k_is | decide +kernel | exact rfl)
    (case uBadStepsea => first | k_is | decide +kernel | exact rfl)
    (case uBadStepsem => first | k_is | decide +kernel | exact rfl)
    (case uBadStepskp => first | k_is | decide +kernel | exact rfl)
    (case uBadStepsty => first | k_is | decide +kernel | exact rfl)
    (case uBadLeadBadRow => first | k_is | decide +kernel | exact rfl)
    (case uBadLeadBadFace => first | k_is | decide +kernel | exact rfl)
    (case uBadLeadBadMaking => first | k_is | decide +kernel | exact rfl)
    (case uBadLeadBadUser => first | k_is | decide +kernel | exact rfl)
    (case uBadLeadBadSteps => first | k_is | decide +kernel | exact rfl)
    (case uBadLeadBadLead => first | k_is | decide +kernel | exact rfl)
    (case uBadLeadToldApart => first | k_is | decide +kernel | exact rfl)
    (case uBadLeadOutOfPlace => first | k_is | decide +kernel | exact rfl)
    (case uBadLeadTooGreat => first | k_is | decide +kernel | exact rfl)
    (case uBadLeadBadPaper => first | k_is | decide +kernel | exact rfl)
    (case uBadLeadBadProgram => first | k_is | decide +kernel | exact rfl)
    (case uBadLeadBadModule => first | k_is | decide +kernel | exact rfl)
    (case uBadLeadRefused => first | k_is | decide +kernel | exact rfl)
    (case uBadLeadBadUse => first | k_is | decide +kernel | exact rfl)
    (case uBadLeadBadInput => first | k_is | decide +kernel | exact rfl)
    (case uBadLeadFaceError => first | k_is | decide +kernel | exact rfl)
    (case uBadLeadVE => first | k_is | decide +kernel | exact rfl)
    (case uBadLeadeg => first | k_is | decide +kernel | exact rfl)
    (case uBadLeadek => first | k_is | decide +kernel | exact rfl)
    (case uBadLeades => first | k_is | decide +kernel | exact rfl)
    (case uBadLeaded => first | k_is | decide +kernel | exact rfl)
    (case uBadLeadea => first | k_is | decide +kernel | exact rfl)
    (case uBadLeadem => first | k_is | decide +kernel | exact rfl)
    (case uBadLeadkp => first | k_is | decide +kernel | exact rfl)
    (case uBadLeadty => first | k_is | decide +kernel | exact rfl)
    (case uToldApartBadRow => first | k_is | decide +kernel | exact rfl)
    (case uToldApartBadFace => first | k_is | decide +kernel | exact rfl)
    (case uToldApartBadMaking => first | k_is | decide +kernel | exact rfl)
    (case uToldApartBadUser => first | k_is | decide +kernel | exact rfl)
    (case uToldApartBadSteps => first | k_is | decide +kernel | exact rfl)
    (case uToldApartBadLead => first | k_is | decide +kernel | exact rfl)
    (case uToldApartToldApart => first | k_is | decide +kernel | exact rfl)
    (case uToldApartOutOfPlace => first | k_is | decide +kernel | exact rfl)
    (case uToldApartTooGreat => first | k_is | decide +kernel | exact rfl)
    (case uToldApartBadPaper => first | k_is | decide +kernel | exact rfl)
    (case uToldApartBadProgram => first | k_is | decide +kernel | exact rfl)
    (case uToldApartBadModule => first | k_is | decide +kernel | exact rfl)
    (case uToldApartRefused => first | k_is | decide +kernel | exact rfl)
    (case uToldApartBadUse => first | k_is | decide +kernel | exact rfl)
    (case uToldApartBadInput => first | k_is | decide +kernel | exact rfl)
    (case uToldApartFaceError => first | k_is | decide +kernel | exact rfl)
    (case uToldApartVE => first | k_is | decide +kernel | exact rfl)
    (case uToldAparteg => first | k_is | decide +kernel | exact rfl)
    (case uToldApartek => first | k_is | decide +kernel | exact rfl)
    (case uToldApartes => first | k_is | decide +kernel | exact rfl)
    (case uToldAparted => first | k_is | decide +kernel | exact rfl)
    (case uToldApartea => first | k_is | decide +kernel | exact rfl)
    (case uToldApartem => first | k_is | decide +kernel | exact rfl)
    (case uToldApartkp => first | k_is | decide +kernel | exact rfl)
    (case uToldApartty => first | k_is | decide +kernel | exact rfl)
    (case uOutOfPlaceBadRow => first | k_is | decide +kernel | exact rfl)
    (case uOutOfPlaceBadFace => first | k_is | decide +kernel | exact rfl)
    (case uOutOfPlaceBadMaking => first | k_is | decide +kernel | exact rfl)
    (case uOutOfPlaceBadUser => first | k_is | decide +kernel | exact rfl)
    (case uOutOfPlaceBadSteps => first | k_is | decide +kernel | exact rfl)
    (case uOutOfPlaceBadLead => first | k_is | decide +kernel | exact rfl)
    (case uOutOfPlaceToldApart => first | k_is | decide +kernel | exact rfl)
    (case uOutOfPlaceOutOfPlace => first | k_is | decide +kernel | exact rfl)
    (case uOutOfPlaceTooGreat => first | k_is | decide +kernel | exact rfl)
    (case uOutOfPlaceBadPaper => first | k_is | decide +kernel | exact rfl)
    (case uOutOfPlaceBadProgram => first | k_is | decide +kernel | exact rfl)
    (case uOutOfPlaceBadModule => first | k_is | decide +kernel | exact rfl)
    (case uOutOfPlaceRefused => first | k_is | decide +kernel | exact rfl)
    (case uOutOfPlaceBadUse => first | k_is | decide +kernel | exact rfl)
    (case uOutOfPlaceBadInput => first | k_is | decide +kernel | exact rfl)
    (case uOutOfPlaceFaceError => first | k_is | decide +kernel | exact rfl)
    (case uOutOfPlaceVE => first | k_is | decide +kernel | exact rfl)
    (case uOutOfPlaceeg => first | k_is | decide +kernel | exact rfl)
    (case uOutOfPlaceek => first | k_is | decide +kernel | exact rfl)
    (case uOutOfPlacees => first | k_is | decide +kernel | exact rfl)
    (case uOutOfPlaceed => first | k_is | decide +kernel | exact rfl)
    (case uOutOfPlaceea => first | k_is | decide +kernel | exact rfl)
    (case uOutOfPlaceem => first | k_is | decide +kernel | exact rfl)
    (case uOutOfPlacekp => first | k_is | decide +kernel | exact rfl)
    (case uOutOfPlacety => first | k_is | decide +kernel | exact rfl)
    (case uTooGreatBadRow => first | k_is | decide +kernel | exact rfl)
    (case uTooGreatBadFace => first | k_is | decide +kernel | exact rfl)
    (case uTooGreatBadMaking => first | k_is | decide +kernel | exact rfl)
    (case uTooGreatBadUser => first | k_is | decide +kernel | exact rfl)
    (case uTooGreatBadSteps => first | k_is | decide +kernel | exact rfl)
    (case uTooGreatBadLead => first | k_is | decide +kernel | exact rfl)
    (case uTooGreatToldApart => first | k_is | decide +kernel | exact rfl)
    (case uTooGreatOutOfPlace => first | k_is | decide +kernel | exact rfl)
    (case uTooGreatTooGreat => first | k_is | decide +kernel | exact rfl)
    (case uTooGreatBadPaper => first | k_is | decide +kernel | exact rfl)
    (case uTooGreatBadProgram => first | k_is | decide +kernel | exact rfl)
    (case uTooGreatBadModule => first | k_is | decide +kernel | exact rfl)
    (case uTooGreatRefused => first | k_is | decide +kernel | exact rfl)
    (case uTooGreatBadUse => first | k_is | decide +kernel | exact rfl)
    (case uTooGreatBadInput => first | k_is | decide +kernel | exact rfl)
    (case uTooGreatFaceError => first | k_is | decide +kernel | exact rfl)
    (case uTooGreatVE => first | k_is | decide +kernel | exact rfl)
    (case uTooGreateg => first | k_is | decide +kernel | exact rfl)
    (case uTooGreatek => first | k_is | decide +kernel | exact rfl)
    (case uTooGreates => first | k_is | decide +kernel | exact rfl)
    (case uTooGreated => first | k_is | decide +kernel | exact rfl)
    (case uTooGreatea => first | k_is | decide +kernel | exact rfl)
    (case uTooGreatem => first | k_is | decide +kernel | exact rfl)
    (case uTooGreatkp => first | k_is | decide +kernel | exact rfl)
    (case uTooGreatty => first | k_is | decide +kernel | exact rfl)
    (case uBadPaperBadRow => first | k_is | decide +kernel | exact rfl)
    (case uBadPaperBadFace => first | k_is | decide +kernel | exact rfl)
    (case uBadPaperBadMaking => first | k_is | decide +kernel | exact rfl)
    (case uBadPaperBadUser => first | k_is | decide +kernel | exact rfl)
    (case uBadPaperBadSteps => first | k_is | decide +kernel | exact rfl)
    (case uBadPaperBadLead => first | k_is | decide +kernel | exact rfl)
    (case uBadPaperToldApart => first | k_is | decide +kernel | exact rfl)
    (case uBadPaperOutOfPlace => first | k_is | decide +kernel | exact rfl)
    (case uBadPaperTooGreat => first | k_is | decide +kernel | exact rfl)
    (case uBadPaperBadPaper => first | k_is | decide +kernel | exact rfl)
    (case uBadPaperBadProgram => first | k_is | decide +kernel | exact rfl)
    (case uBadPaperBadModule => first | k_is | decide +kernel | exact rfl)
    (case uBadPaperRefused => first | k_is | decide +kernel | exact rfl)
    (case uBadPaperBadUse => first | k_is | decide +kernel | exact rfl)
    (case uBadPaperBadInput => first | k_is | decide +kernel | exact rfl)
    (case uBadPaperFaceError => first | k_is | decide +kernel | exact rfl)
    (case uBadPaperVE => first | k_is | decide +kernel | exact rfl)
    (case uBadPapereg => first | k_is | decide +kernel | exact rfl)
    (case uBadPaperek => first | k_is | decide +kernel | exact rfl)
    (case uBadPaperes => first | k_is | decide +kernel | exact rfl)
    (case uBadPapered => first | k_is | decide +kernel | exact rfl)
    (case uBadPaperea => first | k_is | decide +kernel | exact rfl)
    (case uBadPaperem => first | k_is | decide +kernel | exact rfl)
    (case uBadPaperkp => first | k_is | decide +kernel | exact rfl)
    (case uBadPaperty => first | k_is | decide +kernel | exact rfl)
    (case uBadProgramBadRow => first | k_is | decide +kernel | exact rfl)
    (case uBadProgramBadFace => first | k_is | decide +kernel | exact rfl)
    (case uBadProgramBadMaking => first | k_is | decide +kernel | exact rfl)
    (case uBadProgramBadUser => first | k_is | decide +kernel | exact rfl)
    (case uBadProgramBadSteps => first | k_is | decide +kernel | exact rfl)
    (case uBadProgramBadLead => first | k_is | decide +kernel | exact rfl)
    (case uBadProgramToldApart => first | k_is | decide +kernel | exact rfl)
    (case uBadProgramOutOfPlace => first | k_is | decide +kernel | exact rfl)
    (case uBadProgramTooGreat => first | k_is | decide +kernel | exact rfl)
    (case uBadProgramBadPaper => first | k_is | decide +kernel | exact rfl)
    (case uBadProgramBadProgram => first | k_is | decide +kernel | exact rfl)
    (case uBadProgramBadModule => first | k_is | decide +kernel | exact rfl)
    (case uBadProgramRefused => first | k_is | decide +kernel | exact rfl)
    (case uBadProgramBadUse => first | k_is | decide +kernel | exact rfl)
    (case uBadProgramBadInput => first | k_is | decide +kernel | exact rfl)
    (case uBadProgramFaceError => first | k_is | decide +kernel | exact rfl)
    (case uBadProgramVE => first | k_is | decide +kernel | exact rfl)
    (case uBadProgrameg => first | k_is | decide +kernel | exact rfl)
    (case uBadProgramek => first | k_is | decide +kernel | exact rfl)
    (case uBadProgrames => first | k_is | decide +kernel | exact rfl)
    (case uBadProgramed => first | k_is | decide +kernel | exact rfl)
    (case uBadProgramea => first | k_is | decide +kernel | exact rfl)
    (case uBadProgramem => first | k_is | decide +kernel | exact rfl)
    (case uBadProgramkp => first | k_is | decide +kernel | exact rfl)
    (case uBadProgramty => first | k_is | decide +kernel | exact rfl)
    (case uBadModuleBadRow => first | k_is | decide +kernel | exact rfl)
    (case uBadModuleBadFace => first | k_is | decide +kernel | exact rfl)
    (case uBadModuleBadMaking => first | k_is | decide +kernel | exact rfl)
    (case uBadModuleBadUser => first | k_is | decide +kernel | exact rfl)
    (case uBadModuleBadSteps => first | k_is | decide +kernel | exact rfl)
    (case uBadModuleBadLead => first | k_is | decide +kernel | exact rfl)
    (case uBadModuleToldApart => first | k_is | decide +kernel | exact rfl)
    (case uBadModuleOutOfPlace => first | k_is | decide +kernel | exact rfl)
    (case uBadModuleTooGreat => first | k_is | decide +kernel | exact rfl)
    (case uBadModuleBadPaper => first | k_is | decide +kernel | exact rfl)
    (case uBadModuleBadProgram => first | k_is | decide +kernel | exact rfl)
    (case uBadModuleBadModule => first | k_is | decide +kernel | exact rfl)
    (case uBadModuleRefused => first | k_is | decide +kernel | exact rfl)
    (case uBadModuleBadUse => first | k_is | decide +kernel | exact rfl)
    (case uBadModuleBadInput => first | k_is | decide +kernel | exact rfl)
    (case uBadModuleFaceError => first | k_is | decide +kernel | exact rfl)
    (case uBadModuleVE => first | k_is | decide +kernel | exact rfl)
    (case uBadModuleeg => first | k_is | decide +kernel | exact rfl)
    (case uBadModuleek => first | k_is | decide +kernel | exact rfl)
    (case uBadModulees => first | k_is | decide +kernel | exact rfl)
    (case uBadModuleed => first | k_is | decide +kernel | exact rfl)
    (case uBadModuleea => first | k_is | decide +kernel | exact rfl)
    (case uBadModuleem => first | k_is | decide +kernel | exact rfl)
    (case uBadModulekp => first | k_is | decide +kernel | exact rfl)
    (case uBadModulety => first | k_is | decide +kernel | exact rfl)
    (case uRefusedBadRow => first | k_is | decide +kernel | exact rfl)
    (case uRefusedBadFace => first | k_is | decide +kernel | exact rfl)
    (case uRefusedBadMaking => first | k_is | decide +kernel | exact rfl)
    (case uRefusedBadUser => first | k_is | decide +kernel | exact rfl)
    (case uRefusedBadSteps => first | k_is | decide +kernel | exact rfl)
    (case uRefusedBadLead => first | k_is | decide +kernel | exact rfl)
    (case uRefusedToldApart => first | k_is | decide +kernel | exact rfl)
    (case uRefusedOutOfPlace => first | k_is | decide +kernel | exact rfl)
    (case uRefusedTooGreat => first | k_is | decide +kernel | exact rfl)
    (case uRefusedBadPaper => first | k_is | decide +kernel | exact rfl)
    (case uRefusedBadProgram => first | k_is | decide +kernel | exact rfl)
    (case uRefusedBadModule => first | k_is | decide +kernel | exact rfl)
    (case uRefusedRefused => first | k_is | decide +kernel | exact rfl)
    (case uRefusedBadUse => first | k_is | decide +kernel | exact rfl)
    (case uRefusedBadInput => first | k_is | decide +kernel | exact rfl)
    (case uRefusedFaceError => first | k_is | decide +kernel | exact rfl)
    (case uRefusedVE => first | k_is | decide +kernel | exact rfl)
    (case uRefusedeg => first | k_is | decide +kernel | exact rfl)
    (case uRefusedek => first | k_is | decide +kernel | exact rfl)
    (case uRefusedes => first | k_is | decide +kernel | exact rfl)
    (case uRefuseded => first | k_is | decide +kernel | exact rfl)
    (case uRefusedea => first | k_is | decide +kernel | exact rfl)
    (case uRefusedem => first | k_is | decide +kernel | exact rfl)
    (case uRefusedkp => first | k_is | decide +kernel | exact rfl)
    (case uRefusedty => first | k_is | decide +kernel | exact rfl)
    (case uBadUseBadRow => first | k_is | decide +kernel | exact rfl)
    (case uBadUseBadFace => first | k_is | decide +kernel | exact rfl)
    (case uBadUseBadMaking => first | k_is | decide +kernel | exact rfl)
    (case uBadUseBadUser => first | k_is | decide +kernel | exact rfl)
    (case uBadUseBadSteps => first | k_is | decide +kernel | exact rfl)
    (case uBadUseBadLead => first | k_is | decide +kernel | exact rfl)
    (case uBadUseToldApart => first | k_is | decide +kernel | exact rfl)
    (case uBadUseOutOfPlace => first | k_is | decide +kernel | exact rfl)
    (case uBadUseTooGreat => first | k_is | decide +kernel | exact rfl)
    (case uBadUseBadPaper => first | k_is | decide +kernel | exact rfl)
    (case uBadUseBadProgram => first | k_is | decide +kernel | exact rfl)
    (case uBadUseBadModule => first | k_is | decide +kernel | exact rfl)
    (case uBadUseRefused => first | k_is | decide +kernel | exact rfl)
    (case uBadUseBadUse => first | k_is | decide +kernel | exact rfl)
    (case uBadUseBadInput => first | k_is | decide +kernel | exact rfl)
    (case uBadUseFaceError => first | k_is | decide +kernel | exact rfl)
    (case uBadUseVE => first | k_is | decide +kernel | exact rfl)
    (case uBadUseeg => first | k_is | decide +kernel | exact rfl)
    (case uBadUseek => first | k_is | decide +kernel | exact rfl)
    (case uBadUsees => first | k_is | decide +kernel | exact rfl)
    (case uBadUseed => first | k_is | decide +kernel | exact rfl)
    (case uBadUseea => first | k_is | decide +kernel | exact rfl)
    (case uBadUseem => first | k_is | decide +kernel | exact rfl)
    (case uBadUsekp => first | k_is | decide +kernel | exact rfl)
    (case uBadUsety => first | k_is | decide +kernel | exact rfl)
    (case uBadInputBadRow => first | k_is | decide +kernel | exact rfl)
    (case uBadInputBadFace => first | k_is | decide +kernel | exact rfl)
    (case uBadInputBadMaking => first | k_is | decide +kernel | exact rfl)
    (case uBadInputBadUser => first | k_is | decide +kernel | exact rfl)
    (case uBadInputBadSteps => first | k_is | decide +kernel | exact rfl)
    (case uBadInputBadLead => first | k_is | decide +kernel | exact rfl)
    (case uBadInputToldApart => first | k_is | decide +kernel | exact rfl)
    (case uBadInputOutOfPlace => first | k_is | decide +kernel | exact rfl)
    (case uBadInputTooGreat => first | k_is | decide +kernel | exact rfl)
    (case uBadInputBadPaper => first | k_is | decide +kernel | exact rfl)
    (case uBadInputBadProgram => first | k_is | decide +kernel | exact rfl)
    (case uBadInputBadModule => first | k_is | decide +kernel | exact rfl)
    (case uBadInputRefused => first | k_is | decide +kernel | exact rfl)
    (case uBadInputBadUse => first | k_is | decide +kernel | exact rfl)
    (case uBadInputBadInput => first | k_is | decide +kernel | exact rfl)
    (case uBadInputFaceError => first | k_is | decide +kernel | exact rfl)
    (case uBadInputVE => first | k_is | decide +kernel | exact rfl)
    (case uBadInputeg => first | k_is | decide +kernel | exact rfl)
    (case uBadInputek => first | k_is | decide +kernel | exact rfl)
    (case uBadInputes => first | k_is | decide +kernel | exact rfl)
    (case uBadInputed => first | k_is | decide +kernel | exact rfl)
    (case uBadInputea => first | k_is | decide +kernel | exact rfl)
    (case uBadInputem => first | k_is | decide +kernel | exact rfl)
    (case uBadInputkp => first | k_is | decide +kernel | exact rfl)
    (case uBadInputty => first | k_is | decide +kernel | exact rfl)
    (case xmBadRow => first | k_is | decide +kernel | exact rfl)
    (case xmBadFace => first | k_is | decide +kernel | exact rfl)
    (case xmOutOfPlace => first | k_is | decide +kernel | exact rfl)
    (case en => first | k_is | decide +kernel | exact rfl)
    (case et => first | k_is | decide +kernel | exact rfl)
    (case mtop => first | exact rfl | decide +kernel)
    (case many => k_is)
    (case oxOutOfPlace => k_exc)
    (case oxTooGreat => k_exc)
    (case oxRefused => k_exc)
    (case qBadRowc => refine' ⟨_, _, _, _, _, _, _, _, _, _, _, _, _, _, _, ?zc1, ?zc2⟩; (case zc1 => first | k_is | exact rfl); (case zc2 => first | exact rfl | decide +kernel))
    (case qBadRowsa => first | k_is | decide +kernel | exact rfl)
    (case qBadRowi => k_is)
    (case qBadRowt => first | k_is | decide +kernel | exact rfl)
    (case qBadRowl => k_is)
    (case qBadRowh => k_is)
    (case qBadRowce => k_is)
    (case qBadRowco => k_is)
    (case qBadRowv2 => first | exact rfl | k_is)
    (case qBadRowfi => first | exact rfl | decide +kernel)
    (case qBadRowmr => first | k_is | decide +kernel | exact rfl)
    (case qBadRowini => ks_is)
    (case qBadRowve => first | k_is | decide +kernel | exact rfl)
    (case qBadRown1 => first | k_is | decide +kernel | exact rfl)
    (case qBadRown2 => first | k_is | decide +kernel | exact rfl)
    (case qBadFacec => refine' ⟨_, _, _, _, _, _, _, _, _, _, _, _, _, _, _, ?zc1, ?zc2⟩; (case zc1 => first | k_is | exact rfl); (case zc2 => first | exact rfl | decide +kernel))
    (case qBadFacesa => first | k_is | decide +kernel | exact rfl)
    (case qBadFacei => k_is)
    (case qBadFacet => first | k_is | decide +kernel | exact rfl)
    (case qBadFacel => k_is)
    (case qBadFaceh => k_is)
    (case qBadFacece => k_is)
    (case qBadFaceco => k_is)
    (case qBadFacev2 => first | exact rfl | k_is)
    (case qBadFacefi => first | exact rfl | decide +kernel)
    (case qBadFacemr => first | k_is | decide +kernel | exact rfl)
    (case qBadFaceini => ks_is)
    (case qBadFaceve => first | k_is | decide +kernel | exact rfl)
    (case qBadFacen1 => first | k_is | decide +kernel | exact rfl)
    (case qBadFacen2 => first | k_is | decide +kernel | exact rfl)
    (case qBadMakingc => refine' ⟨_, _, _, _, _, _, _, _, _, _, _, _, _, _, _, ?zc1, ?zc2⟩; (case zc1 => first | k_is | exact rfl); (case zc2 => first | exact rfl | decide +kernel))
    (case qBadMakingsa => first | k_is | decide +kernel | exact rfl)
    (case qBadMakingi => k_is)
    (case qBadMakingt => first | k_is | decide +kernel | exact rfl)
    (case qBadMakingl => k_is)
    (case qBadMakingh => k_is)
    (case qBadMakingce => k_is)
    (case qBadMakingco => k_is)
    (case qBadMakingv2 => first | exact rfl | k_is)
    (case qBadMakingfi => first | exact rfl | decide +kernel)
    (case qBadMakingmr => first | k_is | decide +kernel | exact rfl)
    (case qBadMakingini => ks_is)
    (case qBadMakingve => first | k_is | decide +kernel | exact rfl)
    (case qBadMakingn1 => first | k_is | decide +kernel | exact rfl)
    (case qBadMakingn2 => first | k_is | decide +kernel | exact rfl)
    (case qBadUserc => refine' ⟨_, _, _, _, _, _, _, _, _, _, _, _, _, _, _, ?zc1, ?zc2⟩; (case zc1 => first | k_is | exact rfl); (case zc2 => first | exact rfl | decide +kernel))
    (case qBadUsersa => first | k_is | decide +kernel | exact rfl)
    (case qBadUseri => k_is)
    (case qBadUsert => first | k_is | decide +kernel | exact rfl)
    (case qBadUserl => k_is)
    (case qBadUserh => k_is)
    (case qBadUserce => k_is)
    (case qBadUserco => k_is)
    (case qBadUserv2 => first | exact rfl | k_is)
    (case qBadUserfi => first | exact rfl | decide +kernel)
    (case qBadUsermr => first | k_is | decide +kernel | exact rfl)
    (case qBadUserini => ks_is)
    (case qBadUserve => first | k_is | decide +kernel | exact rfl)
    (case qBadUsern1 => first | k_is | decide +kernel | exact rfl)
    (case qBadUsern2 => first | k_is | decide +kernel | exact rfl)
    (case qBadLeadc => refine' ⟨_, _, _, _, _, _, _, _, _, _, _, _, _, _, _, ?zc1, ?zc2⟩; (case zc1 => first | k_is | exact rfl); (case zc2 => first | exact rfl | decide +kernel))
    (case qBadLeadsa => first | k_is | decide +kernel | exact rfl)
    (case qBadLeadi => k_is)
    (case qBadLeadt => first | k_is | decide +kernel | exact rfl)
    (case qBadLeadl => k_is)
    (case qBadLeadh => k_is)
    (case qBadLeadce => k_is)
    (case qBadLeadco => k_is)
    (case qBadLeadv2 => first | exact rfl | k_is)
    (case qBadLeadfi => first | exact rfl | decide +kernel)
    (case qBadLeadmr => first | k_is | decide +kernel | exact rfl)
    (case qBadLeadini => ks_is)
    (case qBadLeadve => first | k_is | decide +kernel | exact rfl)
    (case qBadLeadn1 => first | k_is | decide +kernel | exact rfl)
    (case qBadLeadn2 => first | k_is | decide +kernel | exact rfl)
    (case qBadProgramc => refine' ⟨_, _, _, _, _, _, _, _, _, _, _, _, _, _, _, ?zc1, ?zc2⟩; (case zc1 => first | k_is | exact rfl); (case zc2 => first | exact rfl | decide +kernel))
    (case qBadProgramsa => first | k_is | decide +kernel | exact rfl)
    (case qBadProgrami => k_is)
    (case qBadProgramt => first | k_is | decide +kernel | exact rfl)
    (case qBadPrograml => k_is)
    (case qBadProgramh => k_is)
    (case qBadProgramce => k_is)
    (case qBadProgramco => k_is)
    (case qBadProgramv2 => first | exact rfl | k_is)
    (case qBadProgramfi => first | exact rfl | decide +kernel)
    (case qBadProgrammr => first | k_is | decide +kernel | exact rfl)
    (case qBadProgramini => ks_is)
    (case qBadProgramve => first | k_is | decide +kernel | exact rfl)
    (case qBadProgramn1 => first | k_is | decide +kernel | exact rfl)
    (case qBadProgramn2 => first | k_is | decide +kernel | exact rfl)
    (case qBadModulec => refine' ⟨_, _, _, _, _, _, _, _, _, _, _, _, _, _, _, ?zc1, ?zc2⟩; (case zc1 => first | k_is | exact rfl); (case zc2 => first | exact rfl | decide +kernel))
    (case qBadModulesa => first | k_is | decide +kernel | exact rfl)
    (case qBadModulei => k_is)
    (case qBadModulet => first | k_is | decide +kernel | exact rfl)
    (case qBadModulel => k_is)
    (case qBadModuleh => k_is)
    (case qBadModulece => k_is)
    (case qBadModuleco => k_is)
    (case qBadModulev2 => first | exact rfl | k_is)
    (case qBadModulefi => first | exact rfl | decide +kernel)
    (case qBadModulemr => first | k_is | decide +kernel | exact rfl)
    (case qBadModuleini => ks_is)
    (case qBadModuleve => first | k_is | decide +kernel | exact rfl)
    (case qBadModulen1 => first | k_is | decide +kernel | exact rfl)
    (case qBadModulen2 => first | k_is | decide +kernel | exact rfl)
    (case qBadStepsc => refine' ⟨_, _, _, _, _, _, _, _, _, _, _, _, _, _, _, ?zc1, ?zc2⟩; (case zc1 => first | k_is | exact rfl); (case zc2 => first | exact rfl | decide +kernel))
    (case qBadStepssa => first | k_is | decide +kernel | exact rfl)
    (case qBadStepsi => k_is)
    (case qBadStepst => first | k_is | decide +kernel | exact rfl)
    (case qBadStepsl => k_is)
    (case qBadStepsh => k_is)
    (case qBadStepsce => k_is)
    (case qBadStepsco => k_is)
    (case qBadStepsv2 => first | exact rfl | k_is)
    (case qBadStepsfi => first | exact rfl | decide +kernel)
    (case qBadStepsmr => first | k_is | decide +kernel | exact rfl)
    (case qBadStepsini => ks_is)
    (case qBadStepsve => first | k_is | decide +kernel | exact rfl)
    (case qBadStepsn1 => first | k_is | decide +kernel | exact rfl)
    (case qBadUsec => refine' ⟨_, _, _, _, _, _, _, _, _, _, _, _, _, _, _, ?zc1, ?zc2⟩; (case zc1 => first | k_is | exact rfl); (case zc2 => first | exact rfl | decide +kernel))
    (case qBadUsesa => first | k_is | decide +kernel | exact rfl)
    (case qBadUsei => k_is)
    (case qBadUset => first | k_is | decide +kernel | exact rfl)
    (case qBadUsel => k_is)
    (case qBadUseh => k_is)
    (case qBadUsece => k_is)
    (case qBadUseco => k_is)
    (case qBadUsev2 => first | exact rfl | k_is)
    (case qBadUsefi => first | exact rfl | decide +kernel)
    (case qBadUsemr => first | k_is | decide +kernel | exact rfl)
    (case qBadUseini => ks_is)
    (case qBadUseve => first | k_is | decide +kernel | exact rfl)
    (case qBadUsen1 => first | k_is | decide +kernel | exact rfl)
    (case qBadInputc => refine' ⟨_, _, _, _, _, _, _, _, _, _, _, _, _, _, _, ?zc1, ?zc2⟩; (case zc1 => first | k_is | exact rfl); (case zc2 => first | exact rfl | decide +kernel))
    (case qBadInputsa => first | k_is | decide +kernel | exact rfl)
    (case qBadInputi => k_is)
    (case qBadInputt => first | k_is | decide +kernel | exact rfl)
    (case qBadInputl => k_is)
    (case qBadInputh => k_is)
    (case qBadInputce => k_is)
    (case qBadInputco => k_is)
    (case qBadInputv2 => first | exact rfl | k_is)
    (case qBadInputfi => first | exact rfl | decide +kernel)
    (case qBadInputmr => first | k_is | decide +kernel | exact rfl)
    (case qBadInputini => ks_is)
    (case qBadInputve => first | k_is | decide +kernel | exact rfl)
    (case qBadInputn1 => first | k_is | decide +kernel | exact rfl)
    (case qBadPaperc => refine' ⟨_, _, _, _, _, _, _, _, _, _, _, _, _, _, _, ?zc1, ?zc2⟩; (case zc1 => first | k_is | exact rfl); (case zc2 => first | exact rfl | decide +kernel))
    (case qBadPapersa => first | k_is | decide +kernel | exact rfl)
    (case qBadPaperi => k_is)
    (case qBadPapert => first | k_is | decide +kernel | exact rfl)
    (case qBadPaperl => k_is)
    (case qBadPaperh => k_is)
    (case qBadPaperce => k_is)
    (case qBadPaperco => k_is)
    (case qBadPaperv2 => first | exact rfl | k_is)
    (case qBadPaperfi => first | exact rfl | decide +kernel)
    (case qBadPapermr => first | k_is | decide +kernel | exact rfl)
    (case qBadPaperini => ks_is)
    (case qBadPaperve => first | k_is | decide +kernel | exact rfl)
    (case qBadPapern1 => first | k_is | decide +kernel | exact rfl)
    (case qToldApartc => refine' ⟨_, _, _, _, _, _, _, _, _, _, _, _, _, _, _, ?zc1, ?zc2⟩; (case zc1 => first | k_is | exact rfl); (case zc2 => first | exact rfl | decide +kernel))
    (case qToldApartsa => first | k_is | decide +kernel | exact rfl)
    (case qToldAparti => k_is)
    (case qToldApartt => first | k_is | decide +kernel | exact rfl)
    (case qToldApartl => k_is)
    (case qToldAparth => k_is)
    (case qToldApartce => k_is)
    (case qToldApartco => k_is)
    (case qToldApartv2 => first | exact rfl | k_is)
    (case qToldApartfi => first | exact rfl | decide +kernel)
    (case qToldApartmr => first | k_is | decide +kernel | exact rfl)
    (case qToldApartini => ks_is)
    (case qToldApartve => first | k_is | decide +kernel | exact rfl)
    (case qToldApartn1 => first | k_is | decide +kernel | exact rfl)
    (case aZ => k_is)
    (case am1 => k_is)
    (case im1 => k_is)
    (case lm1 => k_is)
    (case hm1 => k_is)
    (case km1 => k_is)
    (case am2 => k_is)
    (case im2 => k_is)
    (case lm2 => k_is)
    (case hm2 => k_is)
    (case km2 => k_is)
    (case am3 => k_is)
    (case im3 => k_is)
    (case lm3 => k_is)
    (case hm3 => k_is)
    (case km3 => k_is)
    (case am4 => k_is)
    (case im4 => k_is)
    (case lm4 => k_is)
    (case hm4 => k_is)
    (case km4 => k_is)
    (case am5 => k_is)
    (case im5 => k_is)
    (case lm5 => k_is)
    (case hm5 => k_is)
    (case km5 => k_is)
    (case pg => k_is)
    (case hdC => k_is)
    (case po => k_is)
    (case sa => k_is)
    (case mk => k_is)
    (case kc => k_is)
    (case nN => k_is)
    (case nW => k_is)
    (case nA => k_is)
    (case z_isinstance => k_is)
    (case z_str => k_is)
    (case z_int => k_is)
    (case z_tuple => k_is)
    (case z_len => k_is)
    (case z_enumerate => k_is)
    (case z_range => k_is)
    (case z_sum => k_is)
    (case z_min => k_is)
    (case z_ValueError => k_is)
    (case z_super => k_is)
