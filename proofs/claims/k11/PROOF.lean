import PyProof.Rows.All
import Wide.All
import OpenK.AllK
import Wide.FinOn
import HandS.ForMost
import HandS.Walk
import HandS.Wide
import HandS.IsInst
import HandS.AnyAll
import HandS.Replace
import HandS.EndTab
import HandS.RaiseMore
import HandS.TupLe
import PyProof.ReprRoads
import PyProof.StrOps2
import HandS.TupAny
import HandS.ForExc
import HandS.ExcIs
import HandS.ExcValue
import KE.GoesEnum
import KE.GoesMore
import PyProof.DictUpdate
import PyProof.ListIndex
import PyProof.FactsAll.bool_1
import HandS.StrMore
import HandS.Style
import PyProof.StrLawsRepr
import PyProof.FactsAll.bool_2
import PyProof.EqKinds
import KE.KExcSuper
import HandS.ExcInit
import HandS.FStr
import KE.KExcIs
import HandS.ExcField
import KE.KDictZip
import HandS.Zip
import HandS.TupMul
import KE.KRevSl
import HandS.Text
import PyProof.NeKinds
import PyProof.Rows.SortKeyStr
import HandS.Conv
import HandS.Lambda
import HandS.Deep
import PyProof.Rows.IntBool
import PySem.Challenge.RW_sameface_k11_makings_looked_at
set_option Elab.async false
set_option linter.all false
set_option maxRecDepth 100000
/-! calls made where no repr is under way; repr of lists; all(..) over a text with a module's name in its test; the law's end -/
namespace SfG
open PySem PySem.Spec PyProof.Rows L2
/-! ### a def's promise where no repr is under way -/
structure FnG (P : Program) (w : World) (K : PySem.W.Frag) (mg : Str → Option Value) (base : Heap)
    (CX : CXT) (k : Nat) (f : Addr) (fd : FuncData) (ps : List Str) (sp : Sp) : Prop where
  size : ∀ vs H Q E, sp vs H Q E → vs.length = ps.length
  goes : ∀ (A : Around) (outer : List Env) (s : Shared) (H : Hp) (args : Args) (us : List Value)
    (vs : List V) (Q : VK) (E : XK), Room k A → A.guards = some [] → Env0 P w K mg base A outer s H →
    BindsTo s fd args (ps.zip us) → Vals vs us → sp vs H Q E →
    codeAny (model P w) A (.call (.ref f) args) (CR CX outer P w H s Q E) s
section
variable {P : Program} {w : World} {K : PySem.W.Frag} {mg : Str → Option Value} {base : Heap}
/-- a def by its body, where no repr is under way -/
theorem fng_of {x qual : Str} {st : Stmt} {f : Addr} {fd : FuncData} {N ps : List Str} {k : Nat} {sp : Sp}
    (F : Fun K x qual st f fd) (S : FnScope N ps (defScope st)) (len : ∀ vs H Q E, sp vs H Q E → vs.length = ps.length)
    (hbody : ∀ (cdv : Value) (A : Around) (outer : List Env) (s : Shared) (H : Hp) (vs : List V) (Q : VK) (E : XK),
      Room k (A.deeper (envOfC qual (defScope st) s.heap.objs.size f cdv)) → A.guards = some [] → sp vs H Q E →
      ∃ t, PSs (cxOf CX0 P w K mg base N qual (defScope st) f cdv A outer s H E).nox (defBody st) t ∧
        t { nx := fun _ H' => Q .non H', rt := Q } (start N vs) H) :
    FnG P w K mg base CX0 (k + 1) f fd ps sp := by
  obtain ⟨oc, od, kV, doc, pm, an, cdv, ct, osl, rfl, lk, hcd⟩ := F.ex
  refine ⟨len, ?_⟩
  intro A outer s H args us vs Q E hr hgd e0 hb r hsp
  refine LamX.run_ofS lk hcd S hr e0 hb r (len _ _ _ _ hsp) ?_
  intro hr'
  obtain ⟨t, h, q⟩ := hbody cdv A outer s H vs Q E hr' hgd hsp
  exact ⟨t, h.nox, q⟩
end
section
variable {X : Cx} {CX : CXT} {k : Nat} {f : Addr} {fd : FuncData} {ps : List Str} {sp : Sp} {dvs : List V}
  {ds : List Value} {E : XK} {x : Str} {p pos : Pos} {e : Expr} {es : List Expr} {t : TA}
theorem run_fng {pins : List (Addr × Obj)} {σ : L2.St} {H : Hp} {s : Shared} {Q : VK} {us : List Value} {vs : List V}
    (F : FnG X.prog X.w X.K X.mg X.base CX k f fd ps sp) (hr : Room k X.A) (hgd : X.A.guards = some [])
    (hb : Binds X.K fd ps ds) (hd : Vals dvs ds) (hx : Passes CX X E) (I : L2.Inv X pins σ H s) (r : Vals vs us)
    (h : sp (vs ++ dvs) H Q E) : wpAny (model X.prog X.w) X.A (call (.ref f) us) (EP X pins σ Q) X.xe s := by
  have r2 := r.append hd
  have hl : (us ++ ds).length = ps.length := r2.length.symm.trans (F.size _ _ _ _ h)
  have go := F.goes X.A X.stack s H ⟨us, []⟩ _ _ Q E hr hgd I.env0 (hb s us I.kIn hl) r2 h
  refine wpAny_call (codeAny_mono go ?_)
  intro res s' hq
  match res, hq with
  | .error e, hq => exact hx pins σ H s e s' I hq
  | .ok (.ret u), hq => exact I.after hq
  | .ok .next, hq => exact False.elim hq
  | .ok .brk, hq => exact False.elim hq
  | .ok .cont, hq => exact False.elim hq
theorem pe_callG (F : FnG X.prog X.w X.K X.mg X.base CX k f fd ps sp) (hr : Room k X.A) (hgd : X.A.guards = some [])
    (hg : Gl X x) (hm : X.mg x = some (.ref f)) (hk : PySem.W.keepIn X.K (.ref f) = true)
    (hb : Binds X.K fd ps ds) (hd : Vals dvs ds) (hx : Passes CX X E) (ha : PA X (e :: es) t)
    (hdb : (x == ("__debug__" : Str)) = false := by decide)
    (he : starEach (e :: es) X.env = (false, eval e X.env) :: starEach es X.env := by rfl)
    (hpl : (backTo pos (starEach es X.env)).any (·.1) = false := by rfl) :
    PE X (.Call (.Name x p) (e :: es) [] pos) (tCall sp dvs E t) := by
  constructor
  intro pins s σ H Q I h
  refine wpAny_Call_Name_kw (ld_glob I hg hm ?_ hdb)
  refine PySem.W.callWith_K (h₀ := X.base) I.ok.mod.kin hk ?_ he hpl
  refine thn (ha.run pos pins s σ H _ I h) ?_
  rintro us s1 ⟨vs, H1, I1, r, q⟩
  exact ⟨I1.kIn, run_fng F hr hgd hb hd hx I1 r q⟩
end
/-! ### repr of a list or a tuple of plain data -/
def rRepr (K : PySem.W.Frag) : List V → Hp → VK → Prop := fun xs H Q =>
  ∃ (a : Addr) (d : PyData) (S : Str), xs = [.ref a] ∧ Dp K H (.ref a) d ∧ d.showable = true ∧ d.hasDict = false ∧
    d.depth ≤ 30 ∧ d.shown = S ∧ S.length ≤ sizeLine ∧ Q (.str S) H
theorem call_repr {X : Cx} {k : Nat} (hr : Room k X.A) (hgd : X.A.guards = some []) :
    CallR X (.builtin "repr") (rRepr X.K) := by
  intro pins s σ H xs us Q I r h
  obtain ⟨a, d, S, rfl, hd, hs, hn, hdep, rfl, hz, q⟩ := h
  obtain ⟨u, rfl, ru⟩ := vals1 r
  cases (show u = Value.ref a from ru)
  obtain ⟨as, rd⟩ := Dp.reads I d _ _ hd (show RelV (.ref a) (.ref a) from rfl)
  have hun := hr.un
  refine repr_of_reads' rd hs (fun z => ?_) hgd (by omega) (fun _ _ z => z) (fun h' u' tk hk => ?_) hz
  · rw [hn] at z
    cases z
  · exact ⟨.str d.shown, H, I.kept hk, ⟨_, rfl⟩, q⟩
/-! ### all(test for x in e), e a text, the test may name what the module holds -/
/-- the test of one sign, run in the expression's own frame; the module's names are to be had -/
def EltG (X : Cx) (scope : Scope) (x : Str) (elt : Expr) (pb : Nat → Bool) : Prop :=
  ∀ (cenv : Env) (A' : Around) (E' : Value → Shared → Prop) (c : Nat) (t : Tok) (s2 : Shared) (m2 : Str → Option Value),
    cenv.scope = scope → cenv.globals = mainGlobals → s2.heap.Ns mainGlobals X.mg → s2.heap.Ns cenv.locals m2 →
    m2 x = some (.str ⟨#[c]⟩ t) →
    wpAny (model X.prog X.w) A' (eval elt cenv) (fun y s3 => y = .bool (pb c) ∧ Keeps s2 s3) E' s2
/-- x in NAME, NAME a text of the module -/
theorem elt_in {X : Cx} {scope : Scope} {x g : Str} {z : Str} {tz : Tok} {p1 p2 p3 : Pos} (hk : scope.kind = .function)
    (hl : scope.names.lookup x = some .local) (hgl : scope.names.lookup g = some .globalImplicit) (hz : X.mg g = some (.str z tz))
    (hd : (x == ("__debug__" : Str)) = false := by decide) (hd2 : (g == ("__debug__" : Str)) = false := by decide) :
    EltG X scope x (.Compare (.Name x p1) [.In] [.Name g p2] p3) (fun c => decide (c ∈ z.cps.toList)) := by
  intro cenv A' E' c t s2 m2 hs hgb hmn hn hm
  have kd : cenv.scope.kind = .function := by rw [hs]; exact hk
  refine wpAny_Compare1 ?_
  refine wpAny_Name (wpAny_loadName_local kd (show cenv.scope.names.lookup x = some .local by rw [hs]; exact hl) hn hm ?_) hd
  refine Calls.Name_function_global kd (show cenv.scope.names.lookup g = some .globalImplicit by rw [hs]; exact hgl) ?_ hd2
  refine Calls.loadGlobal_global (by rw [hgb]; exact hmn) hz ?_
  refine PyProof.Rows.in_str ?_
  exact ⟨congrArg Value.bool (PySem.StrLaws.found_one z c), GxR.keeps_refl _⟩
/-- the expression's code object: found in the def's table, or laid there -/
theorem gen_code {prog : Program} {w : World} {A : Around} {E : Value → Shared → Prop} {env : Env} {gpos : Pos} {q : Str} {scope : Scope}
    {c P : Addr} {ps : Array Value} {s2 : Shared} {Q : Value → Shared → Prop} (hcode : env.code = .ref c) (cd : PySem.W.CodeHd s2.heap c P)
    (hP : s2.heap.get? P = some { cls := .none, data := .fields ps }) (ht : TriplesOk ps.toList)
    (h : ∀ (code : Value) (h3 : Heap) (tk : Nat) (ps' : Array Value), Heap.ExtBut P s2.heap h3 → s2.heap.objs.size ≤ h3.objs.size →
      h3.get? P = some { cls := .none, data := .fields ps' } → (∃ more, ps' = ps ++ more) → TriplesOk ps'.toList →
      Q code { s2 with heap := h3, toks := tk }) : wpAny (model prog w) A (genexprCode env gpos q scope) Q E s2 := by
  cases hf : codeAmong gpos ps.toList with
  | some cv =>
    exact wpAny_genexprCode_hit hcode (cd.code hP ht) hf (h cv s2.heap s2.toks ps (Heap.ExtBut.refl _ _) (Nat.le_refl _) hP ⟨#[], by simp⟩ ht)
  | none =>
    refine wpAny_genexprCodeX hcode (cd.code hP ht) (cd.tab hP) hf ?_
    intro c' h' tk hx hge hlt hco' _ htab' _
    obtain ⟨o1, vs, f1, tf, fl, tg, inF, tx, tt, op, _, _, _, _, _, _, _, _, _, htr, _⟩ := hco'
    exact h _ h' tk _ hx (Nat.le_trans hge (Nat.le_of_lt hlt)) htab'.2 ⟨_, rfl⟩ htr
section
variable {X : Cx} {pins : List (Addr × Obj)} {σ : L2.St} {H : Hp} {s : Shared}
theorem gen_made {c P : Addr} {elt iter : Expr} {x : Str} {px gpos : Pos} {scope : Scope} {pb : Nat → Bool} {te : TE} {k : Nat}
    {Q' : Value → Shared → Prop} {R : Str → Hp → Prop} (hr : Room k X.A) (TB : GxR.TabB X.base X.mg c P) (hcode : X.env.code = .ref c)
    (S : GxR.GenS X.env scope x) (hi : PE X iter te) (hel : EltG X scope x elt pb) (hs : ∀ v, genFold iter X.env v = pure v)
    (I : L2.Inv X pins σ H s) (h : te σ H fun v H1 => ∃ a : Str, v = .str a ∧ GxR.TabG H1 P ∧ R a H1)
    (hQ : ∀ a H1 g s5, R a H1 → GxR.Ready X pins σ H1 P a pb g s5 → Q' (.ref g) s5) :
    wpAny (model X.prog X.w) X.A (eval (.GeneratorExp elt [⟨.Name x px, iter, [], 0⟩] scope gpos) X.env) Q' X.xe s := by
  have hdp := hr.dp
  refine wpAny_GeneratorExp_walksQ hr.hd S.co (closure_ok S.free) S.cell S.dot S.loc S.kind (by omega) ?_ hs
  refine thn (hi.run pins s σ H _ I h) ?_
  rintro xv s1 ⟨v, H1, I1, r1, a, rfl, ⟨ps, hP, ht⟩, q1⟩
  obtain ⟨t, rfl⟩ := _root_.id r1
  refine wpAny_pyIter_str ?_
  intro o St W hst
  have hPs : s1.heap.get? P = some { cls := .none, data := .fields ps } := I1.hok P _ hP
  have hPlt := Heap.lt_size hPs
  have lim2 : (s1.heap.push o).NoLimit := I1.nolimit.push o
  refine ⟨lim2, ?_⟩
  refine gen_code (s2 := { s1 with heap := s1.heap.push o }) hcode (TB.code.keeps fun b u e => Heap.get?_push_of_some _ (I1.bk b u e)) (Heap.get?_push_of_some _ hPs) ht ?_
  intro code h3 tk ps' hx hsz hP3 hmore ht3
  have hcl : cStatics < s1.heap.objs.size := by
    obtain ⟨_, hns, _⟩ := I1.nolimit
    exact hns.lt
  have hcP : cStatics ≠ P := by
    intro e
    obtain ⟨_, ⟨o', es, ep, ho, hd, _⟩, _⟩ := I1.nolimit
    rw [e, hPs] at ho
    cases ho
    cases hd
  have sz2 : (s1.heap.push o).objs.size = s1.heap.objs.size + 1 := Heap.size_push ..
  have keep3 : ∀ b u, b ≠ P → s1.heap.get? b = some u → h3.get? b = some u :=
    fun b u hb e => hx b u hb (Heap.get?_push_of_some _ e)
  have hsz' : s1.heap.objs.size + 1 ≤ h3.objs.size := by
    rw [← sz2]
    exact hsz
  have ns3 : h3.Ns mainGlobals X.mg := ((I1.mod.glob.keeps I1.bk).push o).extBut hx TB.gP
  obtain ⟨bm, ob, e1, e2, e3, e4, e5, e6, e7, e8⟩ := TB.bm
  refine wpAny_builtinsFor (m := X.mg) (by rw [I1.ok.glob]; exact ns3) e1 e2 (keep3 _ _ e4 (I1.bk _ _ e5)) e6 e7 e8 ?_
  refine ⟨s1.heap.objs.size, [s1.heap.objs.size], [s1.heap.objs.size], a.cps.size, SignAt a, St, fun _ => true,
    fun i y => ∃ cc, a.cps[i]? = some cc ∧ y = .bool (pb cc), rfl, W, ?_, ?_, lim2.extBut hx hcP, ?_, ?_, ?_⟩
  · refine (W X.A hr.hd).frame _ _ _ hst ?_
    intro b hb u e
    have eb : b = s1.heap.objs.size := by simpa using hb
    refine hx b u ?_ e
    intro z
    rw [← z, eb] at hPlt
    exact Nat.lt_irrefl _ hPlt
  · intro b hb
    have eb : b = s1.heap.objs.size := by simpa using hb
    rw [eb]
    show s1.heap.objs.size < h3.objs.size
    omega
  · intro z
    have eb : cStatics = s1.heap.objs.size := by simpa using z
    rw [eb] at hcl
    exact Nat.lt_irrefl _ hcl
  · intro href hhref
    constructor
    · intro A' E' i v s2 m2 hA hPv hn hm hk
      simp only [List.forIn_nil]
      exact wpAny_pure ⟨rfl, GxR.keeps_refl _⟩
    · intro A' E' i v s2 m2 hA hPv hp hn hm hk
      obtain ⟨cc, u, hcc, rfl⟩ := hPv
      have nsM : s2.heap.Ns mainGlobals X.mg := by
        obtain ⟨om, es, ep, g1, g2⟩ := ns3
        have glt : mainGlobals < s1.heap.objs.size := by
          obtain ⟨o9, _, _, g9, _⟩ := I1.mod.glob.keeps I1.bk
          exact Heap.lt_size g9
        refine ⟨om, es, ep, hk mainGlobals ?_ ?_ om (hhref _ _ g1), g2⟩
        · refine List.mem_range.mpr ?_
          show mainGlobals < h3.objs.size
          exact Heap.lt_size g1
        · intro z
          have eb : mainGlobals = s1.heap.objs.size := by simpa using z
          rw [eb] at glt
          exact Nat.lt_irrefl _ glt
      exact wpAny_mono (hel _ A' E' cc u s2 m2 rfl I1.ok.glob nsM hn hm) (fun y s3 r => ⟨⟨cc, hcc, r.1⟩, r.2⟩) (fun _ _ e => e)
  · intro g h5 tk5 gs hgb hag hsz5 hk5 W5 hat
    simp only [GxR.passing_true, List.length_range] at W5
    refine hQ a H1 g _ q1 ⟨_, _, _, _, _, W5.in4_1, hat, ?_, ?_⟩
    · intro j y sj Qj Ej hy hQj
      obtain ⟨i, hij, cc, hcc, rfl⟩ := hy
      obtain ⟨hj, ej⟩ := List.getElem?_eq_some_iff.mp hij
      rw [List.getElem_range] at ej
      subst ej
      have e9 : a.cps.toList[j]? = some cc := by rw [Array.getElem?_toList]; exact hcc
      have hQ2 : Qj (GxR.trF pb a.cps.toList j) sj := hQj
      rw [GxR.trF_some e9] at hQ2
      exact wpAny_truthy_bool hQ2
    · intro s' hmv
      obtain ⟨more, em⟩ := hmore
      have nwr : ∀ b u, s1.heap.get? b = some u → b ∉ h3.objs.size :: [s1.heap.objs.size] := by
        intro b u e hb
        have hl := Heap.lt_size e
        rcases List.mem_cons.mp hb with z | z
        · rw [z] at hl
          have h9 : (h3.objs.size : Nat) < s1.heap.objs.size := hl
          omega
        · have eb : b = s1.heap.objs.size := by simpa using z
          rw [eb] at hl
          exact Nat.lt_irrefl _ hl
      have J := GxR.inv_tab (more := more) (h' := s'.heap) (g' := s'.gens) (d' := s'.drawn) (t' := s'.toks) I1 hP
        (fun b u hb e => hmv.heap b u (nwr b u e) (hk5 b u (keep3 b u hb e)))
        (by rw [← em]; exact hmv.heap P _ (nwr P _ hPs) (hk5 P _ hP3)) (AllBare.movedS (I1.bare.push hgb) hmv)
      rw [GxR.sh_eta s1 s' hmv.os] at J
      exact ⟨upd H1 P (.tbl (ps ++ more)), ⟨⟨ps ++ more, upd_same, by rw [← em]; exact ht3⟩, fun b hb => upd_ne hb⟩, J⟩
theorem pe_allG {c P : Addr} {elt iter : Expr} {x : Str} {px p pos gpos : Pos} {scope : Scope} {pb : Nat → Bool} {te : TE} {k : Nat}
    (hr : Room k X.A) (hg : Gl X "all") (hm : X.mg "all" = none) (TB : GxR.TabB X.base X.mg c P) (hcode : X.env.code = .ref c)
    (S : GxR.GenS X.env scope x) (hi : PE X iter te) (hel : EltG X scope x elt pb) (hs : ∀ v, genFold iter X.env v = pure v)
    (he : starEach [.GeneratorExp elt [⟨.Name x px, iter, [], 0⟩] scope gpos] X.env =
      (false, eval (.GeneratorExp elt [⟨.Name x px, iter, [], 0⟩] scope gpos) X.env) :: starEach [] X.env := by rfl) :
    PE X (.Call (.Name "all" p) [.GeneratorExp elt [⟨.Name x px, iter, [], 0⟩] scope gpos] [] pos) (GxR.tAllS P pb te) := by
  constructor
  intro pins s σ H Q I h
  refine wpAny_Call_Name_kw (ld_blt I hg hm (show bootBuiltins "all" = some (.builtin "all") by decide +kernel) ?_)
  refine PyProof.Rows.callWith_builtin1 ?_ he (by rfl)
  rw [he]
  refine Calls.spliced_cons (gen_made (R := fun a H1 => ∀ H2, GxR.Tabbed P H1 H2 → Q (.bl (a.cps.toList.all pb)) H2) hr TB hcode S hi hel hs I h ?_)
  intro a H1 g s5 hR hG
  obtain ⟨fp, wr, G, F, St, W, hst, htr, hI⟩ := hG
  refine Calls.spliced_nil (call_all_walkS (W.self 0 _ _ _ hst ⟨g, fp, wr, G, _, F, St, _, rfl, W, hst, htr, ?_⟩))
  intro s' hmv
  obtain ⟨H2, hT, J⟩ := hI s' hmv
  refine ⟨.bl _, H2, J, rfl, ?_⟩
  rw [GxR.all_signs a pb]
  exact hR H2 hT
end
end SfG
namespace SfG
open PySem PySem.Spec PyProof.Rows L2
/-! ### the law's end: tables of code objects, no repr under way -/
theorem noneIn (b : Addr) (l : List Addr) (h : l = []) : ¬ b ∈ l := by
  rw [h]
  simp
section
variable {P : Program} {w : World} {K : PySem.W.Frag} {mg mb : Str → Option Value} {CX : CXT} {k : Nat} {fa a : Addr}
  {cs : List (Addr × Addr)} {fd : FuncData} {x : Str} {sp : Sp} {s1 : Shared} {vs : List Value} {ns : List Int}
/-- what stands at s1: the module, its tables, the script -/
structure Stands (K : PySem.W.Frag) (mg mb : Str → Option Value) (cs : List (Addr × Addr)) (s1 : Shared) (a : Addr) (vs : List Value) : Prop where
  kin : K.In s1.heap
  glob : s1.heap.Ns mainGlobals mg
  blt : s1.heap.Ns builtinsNs mb
  bltv : ∀ y : Str, y ≠ "__name__" → mb y = bootBuiltins y
  lim : s1.heap.NoLimit
  gens : s1.gens = #[]
  tab : ∀ p ∈ cs, s1.heap.get? p.2 = some { cls := .none, data := .fields #[] }
  ntab : ∀ p ∈ cs, K.lookup p.2 = none
  code : ∀ p ∈ cs, PySem.W.CodeHd s1.heap p.1 p.2
  bmain : ∃ (bm : Addr) (ob : Obj), mg "__builtins__" = some (.ref bm) ∧ bm ≠ builtinsNs ∧ s1.heap.get? bm = some ob ∧
    ob.cls = .type "module" ∧ ob.dict = some builtinsNs ∧ ob.data = .plain
  scr : s1.heap.get? a = some { cls := .type "list", data := .seq vs.toArray }
/-- what is tracked there: the tables, and the script where the written part doesn't hold it -/
def Tracks (K : PySem.W.Frag) (cs : List (Addr × Addr)) (a : Addr) (H : Hp) : Prop :=
  ∀ b u, H b = some u → (b ∈ cs.map (·.2) ∧ u = .tbl #[]) ∨ (b = a ∧ K.lookup a = none ∧ ∃ o xs, u = .frz o (.lst xs))
theorem Stands.untracked {H : Hp} (S : Stands K mg mb cs s1 a vs) (T : Tracks K cs a H) {b : Addr} {o : Obj} (e : s1.heap.get? b = some o)
    (h1 : ∀ us n, o.data ≠ .seq us n) (h2 : o.data ≠ .fields #[]) : H b = none := by
  cases q : H b with
  | none => rfl
  | some u =>
    exfalso
    rcases T b u q with ⟨hb, _⟩ | ⟨hb, _⟩
    · obtain ⟨p, hp, ep⟩ := List.mem_map.mp hb
      have z := S.tab p hp
      rw [ep, e] at z
      cases z
      exact h2 rfl
    · have z := S.scr
      rw [← hb, e] at z
      cases z
      exact h1 _ _ rfl
theorem end_core {H : Hp} (S : Stands K mg mb cs s1 a vs) (T : Tracks K cs a H) (hH : ∀ p ∈ cs, H p.2 = some (.tbl #[]))
    (hok : HOk P w H s1.heap) (hr : Room k callerA)
    (F : ∀ base : Heap, K.In base → base.Ns mainGlobals mg → (∀ p ∈ cs, GxR.TabB base mg p.1 p.2) → FnG P w K mg base CX k fa fd [x] sp)
    (hbind : ∀ (s : Shared) (u : Value), BindsTo s fd ⟨[u], []⟩ [(x, u)])
    (hsp : sp [.ref a] H (fun v _ => v = .bl true) fun _ _ _ => False)
    (hCX : ∀ H e s', CX [] H s1 (fun _ _ _ => False) e s' → False) :
    codeAny (model P w) callerA (.call (.ref fa) ⟨[.ref a], []⟩)
      (fun r s' => r = .ok (.ret (.bool true)) ∧ OldK s1.heap s'.heap ∧ s'.os = s1.os ∧ AllBare s'.gens) s1 := by
  have low : ∀ {b : Addr} {o : Obj}, s1.heap.get? b = some o → H b = none → (hidT s1.heap H).get? b = some o := fun e n => hidT_get e n
  have lowNs : ∀ {b : Addr} {m : Str → Option Value}, s1.heap.Ns b m → (hidT s1.heap H).Ns b m := by
    rintro b m ⟨o, es, ep, e, d, r⟩
    refine ⟨o, es, ep, low e (S.untracked T e ?_ ?_), d, r⟩
    · intro us n z
      rw [d] at z
      cases z
    · intro z
      rw [d] at z
      cases z
  have lowK : K.In (hidT s1.heap H) := by
    intro b o e
    refine low (S.kin b o e) ?_
    cases q : H b with
    | none => rfl
    | some u =>
      exfalso
      rcases T b u q with ⟨hb, _⟩ | ⟨hb, hk, _⟩
      · obtain ⟨p, hp, ep⟩ := List.mem_map.mp hb
        rw [← ep, S.ntab p hp] at e
        cases e
      · rw [hb, hk] at e
        cases e
  have lowT : ∀ p ∈ cs, GxR.TabB (hidT s1.heap H) mg p.1 p.2 := by
    intro p hp
    have tp := S.tab p hp
    constructor
    · obtain ⟨o, us, file, tf, flags, tg, inF, text, tt, e1, r1, r2, r3, rest⟩ := S.code p hp
      refine ⟨o, us, file, tf, flags, tg, inF, text, tt, low e1 (S.untracked T e1 ?_ ?_), r1, r2, r3, rest⟩
      · intro us n z
        rw [r2] at z
        cases z
      · intro z
        rw [r2] at z
        cases z
        simp at r3
    · obtain ⟨bm, ob, b1, b2, b3, b4, b5, b6⟩ := S.bmain
      refine ⟨bm, ob, b1, b2, ?_, ?_, low b3 (S.untracked T b3 ?_ ?_), b4, b5, b6⟩
      · intro q
        obtain ⟨o, es, ep, e, hd, _⟩ := S.glob
        rw [q, e] at b3
        cases b3
        rw [hd] at b6
        cases b6
      · intro q
        rw [q, tp] at b3
        cases b3
        cases b6
      · intro us n z
        rw [b6] at z
        cases z
      · intro z
        rw [b6] at z
        cases z
    · intro z
      obtain ⟨o, es, ep, e, hd, _⟩ := S.glob
      rw [z, tp] at e
      cases e
      cases hd
  have md : L2.Mod K mg (hidT s1.heap H) := by
    refine ⟨lowK, lowNs S.glob, ⟨mb, lowNs S.blt, S.bltv⟩, ?_⟩
    obtain ⟨mc, h1, h2⟩ := S.lim
    exact ⟨mc, lowNs h1, h2⟩
  have e0 : Env0 P w K mg (hidT s1.heap H) callerA [] s1 H :=
    ⟨rfl, md, fun b o e => of_hidT e, Nat.le_of_eq (hidT_size _ _), trivial, fun b hb => absurd hb (noneIn b _ rfl), hok, .of_eq S.gens⟩
  have go := (F _ lowK (lowNs S.glob) lowT).goes callerA [] s1 H ⟨[.ref a], []⟩ [.ref a] [.ref a] _ _ hr rfl e0 (hbind s1 (.ref a)) (.cons rfl .nil) hsp
  refine codeAny_mono go ?_
  intro res s' h
  match res, h with
  | .error e, h => exact (hCX H e s' h).elim
  | .ok .next, h => exact False.elim h
  | .ok .brk, h => exact False.elim h
  | .ok .cont, h => exact False.elim h
  | .ok (.ret u), h =>
    obtain ⟨v, H', os, bare, un, hok', r', q⟩ := h
    cases (show v = .bl true from q)
    cases (show u = Value.bool true from r')
    have stay : ∀ b o, b ∉ cs.map (·.2) → s1.heap.get? b = some o → s'.heap.get? b = some o := by
      intro b o nb e
      cases q : H b with
      | none => exact un.keep b o e q (noneIn b _ rfl) (by simp)
      | some u =>
        rcases T b u q with ⟨hb, _⟩ | ⟨_, _, ob, xs, z⟩
        · exact absurd hb nb
        · rw [z] at q
          obtain ⟨g1, _⟩ := hok b _ q
          obtain ⟨g2, _⟩ := hok' b _ (un.frzs b ob _ q)
          rw [e] at g1
          cases g1
          exact g2
    have tabs : ∀ p ∈ cs, ∃ more : Array Value, s'.heap.get? p.2 = some { cls := .none, data := .fields more } := by
      intro p hp
      obtain ⟨more, z⟩ := un.tbls p.2 #[] (hH p hp)
      exact ⟨_, hok' p.2 _ z⟩
    refine ⟨rfl, ⟨fun b o e => ?_, fun b o e => ?_⟩, os, bare⟩
    · by_cases hb : b ∈ cs.map (·.2)
      · obtain ⟨p, hp, ep⟩ := List.mem_map.mp hb
        subst ep
        obtain ⟨more, hm⟩ := tabs p hp
        rw [S.tab p hp] at e
        cases e
        refine .inr (.inl ⟨((S.code p hp).tab (S.tab p hp)).isCodeTable, rfl, #[], more, rfl, ?_⟩)
        rw [Array.empty_append]
        exact hm
      · exact .inl (stay b o hb e)
    · by_cases hb : b ∈ cs.map (·.2)
      · obtain ⟨p, hp, ep⟩ := List.mem_map.mp hb
        subst ep
        obtain ⟨more, hm⟩ := tabs p hp
        exact ⟨_, hm⟩
      · exact ⟨o, stay b o hb e⟩
/-- the abstract heap at the start -/
def hp0 (cs : List (Addr × Addr)) (sc : Option HO) (a : Addr) : Hp := fun b => if b ∈ cs.map (·.2) then some (.tbl #[]) else if b = a then sc else none
theorem end_call (S : Stands K mg mb cs s1 a vs) (hi : IntsAre vs ns) (hl : ns.length ≤ sizeLine) (hr : Room k callerA)
    (F : ∀ base : Heap, K.In base → base.Ns mainGlobals mg → (∀ p ∈ cs, GxR.TabB base mg p.1 p.2) → FnG P w K mg base CX k fa fd [x] sp)
    (hbind : ∀ (s : Shared) (u : Value), BindsTo s fd ⟨[u], []⟩ [(x, u)])
    (hsp : ∀ H : Hp, (∀ p ∈ cs, H p.2 = some (.tbl #[])) → SqL K H a (ns.map V.int) → sp [.ref a] H (fun v _ => v = .bl true) fun _ _ _ => False)
    (hCX : ∀ H e s', CX [] H s1 (fun _ _ _ => False) e s' → False) :
    codeAny (model P w) callerA (.call (.ref fa) ⟨[.ref a], []⟩)
      (fun r s' => r = .ok (.ret (.bool true)) ∧ OldK s1.heap s'.heap ∧ s'.os = s1.os ∧ AllBare s'.gens) s1 := by
  have rv := vals_ints hi
  have hH : ∀ sc, ∀ p ∈ cs, hp0 cs sc a p.2 = some (.tbl #[]) := fun sc p hp => if_pos (List.mem_map.mpr ⟨p, hp, rfl⟩)
  have na : a ∉ cs.map (·.2) := by
    intro z
    obtain ⟨p, hp, ep⟩ := List.mem_map.mp z
    have q := S.tab p hp
    rw [ep, S.scr] at q
    cases congrArg Obj.data (Option.some.inj q)
  have at_a : ∀ sc, hp0 cs sc a a = sc := fun sc => by
    unfold hp0
    rw [if_neg na, if_pos rfl]
  have cases_of : ∀ sc b u, hp0 cs sc a b = some u → (b ∈ cs.map (·.2) ∧ u = .tbl #[]) ∨ (b = a ∧ sc = some u) := by
    intro sc b u h
    unfold hp0 at h
    by_cases h1 : b ∈ cs.map (·.2)
    · rw [if_pos h1] at h
      exact .inl ⟨h1, (Option.some.inj h).symm⟩
    · rw [if_neg h1] at h
      by_cases h2 : b = a
      · rw [if_pos h2] at h
        exact .inr ⟨h2, h⟩
      · rw [if_neg h2] at h
        cases h
  have tabOk : ∀ (H : Hp) b, b ∈ cs.map (·.2) → ObjOk P w H s1.heap b (.tbl #[]) := by
    intro H b hb
    obtain ⟨p, hp, ep⟩ := List.mem_map.mp hb
    rw [← ep]
    exact S.tab p hp
  cases hk : K.lookup a with
  | some o =>
    have e := S.kin a o hk
    rw [S.scr] at e
    cases e
    refine end_core (H := hp0 cs none a) S ?_ (hH none) ?_ hr F hbind (hsp _ (hH none) (.inr ⟨_, vs.toArray, _, hk, rfl, rfl, rfl, ?_, ?_⟩)) hCX
    · intro b u h
      rcases cases_of none b u h with h | ⟨_, h⟩
      · exact .inl h
      · cases h
    · intro b u h
      rcases cases_of none b u h with ⟨h1, rfl⟩ | ⟨_, h⟩
      · exact tabOk _ b h1
      · cases h
    · rw [List.size_toArray, hi.length]
      exact hl
    · simpa using rv
  | none =>
    refine end_core (H := hp0 cs (some (.frz { cls := .type "list", data := .seq vs.toArray } (.lst (ns.map V.int)))) a) S ?_ (hH _) ?_ hr F hbind
      (hsp _ (hH _) (.inl (.inr ⟨{ cls := .type "list", data := .seq vs.toArray }, at_a _⟩))) hCX
    · intro b u h
      rcases cases_of _ b u h with h | ⟨h1, h2⟩
      · exact .inl h
      · exact .inr ⟨h1, hk, _, _, (Option.some.inj h2).symm⟩
    · intro b u h
      rcases cases_of _ b u h with ⟨h1, rfl⟩ | ⟨rfl, h2⟩
      · exact tabOk _ b h1
      · cases h2
        refine ⟨S.scr, ?_, vs, _, rv, S.scr⟩
        rw [List.length_map]
        exact hl
end
end SfG
namespace SfG
open PySem PySem.Spec PyProof.Rows L2
/-! ### a def whose code object is known -/
structure FunC (K : PySem.W.Frag) (x qual : Str) (st : Stmt) (f : Addr) (fd : FuncData) (c : Addr) : Prop where
  ex : ∃ (oc : Value) (od : Option Addr) (kV doc pm : Value) (an : Option Addr) (ct : Value) (osl : Array (Option Value)),
    fd = PySem.W.fnOf x qual (defArgs st) (defBody st) (defScope st) .none kV doc pm an (.ref c) ct ∧
      K.lookup f = some ⟨oc, od, .func fd, osl⟩ ∧ PySem.W.codeIn K (.ref c) qual = true
  kp : PySem.W.keepIn K (.ref f) = true
theorem FunC.fn {K : PySem.W.Frag} {x qual : Str} {st : Stmt} {f c : Addr} {fd : FuncData} (F : FunC K x qual st f fd c) : Fun K x qual st f fd := by
  obtain ⟨oc, od, kV, doc, pm, an, ct, osl, h1, h2, h3⟩ := F.ex
  exact ⟨⟨oc, od, kV, doc, pm, an, .ref c, ct, osl, h1, h2, h3⟩, F.kp⟩
section
variable {P : Program} {w : World} {K : PySem.W.Frag} {mg : Str → Option Value} {base : Heap}
theorem FunC.ok {x qual : Str} {st : Stmt} {f c : Addr} {fd : FuncData} {N ps : List Str} {k : Nat} {sp : Sp}
    (F : FunC K x qual st f fd c) (S : FnScope N ps (defScope st)) (len : ∀ vs H Q E, sp vs H Q E → vs.length = ps.length)
    (hbody : ∀ (A : Around) (outer : List Env) (s : Shared) (H : Hp) (vs : List V) (Q : VK) (E : XK),
      Room k (A.deeper (envOfC qual (defScope st) s.heap.objs.size f (.ref c))) → sp vs H Q E →
      ∃ t, PSs (cxOf CX0 P w K mg base N qual (defScope st) f (.ref c) A outer s H E).nox (defBody st) t ∧
        t { nx := fun _ H' => Q .non H', rt := Q } (start N vs) H) : FnOk P w K mg base CX0 (k + 1) f fd ps sp := by
  obtain ⟨oc, od, kV, doc, pm, an, ct, osl, rfl, lk, hcd⟩ := F.ex
  refine fn_of lk hcd S len ?_
  intro A outer s H vs Q E hr hsp
  obtain ⟨t, h, q⟩ := hbody A outer s H vs Q E hr hsp
  exact ⟨t, h.nox, q⟩
end
/-! ### heaps that grow: what stood stands, tables of code objects may be longer -/
structure Gr (H H' : Hp) : Prop where
  keep : ∀ b o, H b = some o → (∀ ps, o ≠ .tbl ps) → H' b = some o
  tab : ∀ P, GxR.TabG H P → GxR.TabG H' P
  back : ∀ l, H' l = none → H l = none
  tbl : ∀ P ps, H P = some (.tbl ps) → H' P = some (.tbl ps)
theorem Gr.refl (H : Hp) : Gr H H := ⟨fun _ _ h _ => h, fun _ h => h, fun _ h => h, fun _ _ h => h⟩
theorem Gr.trans {H H1 H2 : Hp} (a : Gr H H1) (b : Gr H1 H2) : Gr H H2 :=
  ⟨fun c o h n => b.keep c o (a.keep c o h n) n, fun P h => b.tab P (a.tab P h), fun l h => a.back l (b.back l h), fun P ps h => b.tbl P ps (a.tbl P ps h)⟩
theorem Gr.same {H H' : Hp} (e : Same H H') : Gr H H' := by
  refine ⟨fun b o h _ => e b o h, ?_, fun l h => e.free h, fun P _ h => e P _ h⟩
  rintro P ⟨ps, h1, h2⟩
  exact ⟨ps, e P _ h1, h2⟩
theorem Gr.new {H : Hp} {p : Addr} {o : HO} (h : H p = none) : Gr H (upd H p o) := by
  refine Gr.same ?_
  intro b x e
  rw [upd_ne (ne_of_none e h)]
  exact e
/-- a list that is changed in the heap: all else stays -/
theorem Gr.lst {H H' : Hp} (g : Gr H H') {b : Addr} {xs : List V} (h : H b = some (.lst xs)) : H' b = some (.lst xs) := g.keep b _ h (fun _ z => (by cases z))
theorem Gr.tup {H H' : Hp} (g : Gr H H') {b : Addr} {xs : List V} (h : H b = some (.tup xs)) : H' b = some (.tup xs) := g.keep b _ h (fun _ z => (by cases z))
theorem Gr.dic {H H' : Hp} (g : Gr H H') {b : Addr} {kvs : List (Key × V)} (h : H b = some (.dK kvs)) : H' b = some (.dK kvs) := g.keep b _ h (fun _ z => (by cases z))
theorem Gr.seq {K : PySem.W.Frag} {H H' : Hp} {a : Addr} {xs : List V} (e : Gr H H') (h : SqL K H a xs) : SqL K H' a xs := by
  rcases h with (h | ⟨o, h⟩) | h
  · exact .inl (.inl (e.lst h))
  · exact .inl (.inr ⟨o, e.keep _ _ h (fun _ z => (by cases z))⟩)
  · exact .inr h
/-! ### kinds of things -/
def kinds : List String := ["NoneType", "bool", "int", "str", "list", "tuple", "dict"]
theorem kit_int : ∀ T ∈ kinds, kitB T "int" = some (T == "int" || T == "bool") := by decide +kernel
theorem kit_bool : ∀ T ∈ kinds, kitB T "bool" = some (T == "bool") := by decide +kernel
theorem kit_str : ∀ T ∈ kinds, kitB T "str" = some (T == "str") := by decide +kernel
/-- x is a thing of the built-in type T -/
def Is (K : PySem.W.Frag) (H : Hp) (x : V) (T : String) : Prop := TyX K H x (.type T) ∧ T ∈ kinds
theorem tyx_is {K : PySem.W.Frag} {H : Hp} {x : V} {t : Value} {T : String} (h : TyX K H x t) (e : t = .type T) :
    (T = "int" → ∃ i, x = .int i) ∧ (T = "str" → ∃ z, x = .str z) ∧ (∀ i, x = .int i → T = "int") ∧ (∀ z, x = .str z → T = "str") := by
  cases h with
  | base b =>
    cases b with
    | int i => cases e; exact ⟨fun _ => ⟨i, rfl⟩, fun z => absurd z (by decide), fun _ _ => rfl, fun _ z => (by cases z)⟩
    | str i => cases e; exact ⟨fun z => absurd z (by decide), fun _ => ⟨i, rfl⟩, fun _ z => (by cases z), fun _ _ => rfl⟩
    | ins => cases e
    | _ => cases e; exact ⟨fun z => absurd z (by decide), fun z => absurd z (by decide), fun _ z => (by cases z), fun _ z => (by cases z)⟩
  | _ => cases e; exact ⟨fun z => absurd z (by decide), fun z => absurd z (by decide), fun _ z => (by cases z), fun _ z => (by cases z)⟩
section
variable {K : PySem.W.Frag} {H : Hp} {x : V} {T : String}
theorem Is.whole (h : Is K H x T) (e : T = "int") : ∃ i, x = .int i := (tyx_is h.1 rfl).1 e
theorem Is.text (h : Is K H x T) (e : T = "str") : ∃ z, x = .str z := (tyx_is h.1 rfl).2.1 e
theorem Is.nint (h : Is K H x T) (e : T ≠ "int") : ∀ i, x ≠ .int i := fun i z => e ((tyx_is h.1 rfl).2.2.1 i z)
theorem Is.ntext (h : Is K H x T) (e : T ≠ "str") : ∀ z, x ≠ .str z := fun i z => e ((tyx_is h.1 rfl).2.2.2 i z)
end
theorem is_int {K : PySem.W.Frag} {H : Hp} (i : Int) : Is K H (.int i) "int" := ⟨.base (.int i), by decide⟩
theorem is_str {K : PySem.W.Frag} {H : Hp} (z : Str) : Is K H (.str z) "str" := ⟨.base (.str z), by decide⟩
theorem is_bl {K : PySem.W.Frag} {H : Hp} (b : Bool) : Is K H (.bl b) "bool" := ⟨.base (.bl b), by decide⟩
theorem is_non {K : PySem.W.Frag} {H : Hp} : Is K H .non "NoneType" := ⟨.base .non, by decide⟩
/-! ### isinstance(x, T), x a name, T a built-in class -/
def tIsi (T : String) (K : PySem.W.Frag) (i : Nat) : TE := fun σ H Q => ∃ v, σ[i]? = some (some v) ∧ ∃ (T' : String) (b : Bool), TyX K H v (.type T') ∧ kitB T' T = some b ∧ Q (.bl b) H
theorem pe_isi {X : Cx} {x nm : Str} {p p1 p2 pos : Pos} (T : String) (i : Nat) (mi : X.mg "isinstance" = none) (mT : X.mg nm = none)
    (hv : bootBuiltins nm = some (.type T)) (hN : X.N[i]? = some x := by rfl) (hvis : Vis X.env.scope x := by first | exact Or.inl rfl | exact Or.inr (Or.inl rfl) | exact Or.inr (Or.inr rfl))
    (hg : Gl X "isinstance" := by rfl) (hgT : Gl X nm := by rfl) (hxd : (x == ("__debug__" : Str)) = false := by decide) (hxc : (x == ("__classdict__" : Str)) = false := by decide)
    (hn : nm ≠ "__name__" := by decide) (hd : (nm == ("__debug__" : Str)) = false := by decide) :
    PE X (.Call (.Name "isinstance" p) [.Name x p1, .Name nm p2] [] pos) (tIsi T X.K i) := by
  have h := pe_callB (p := p) (pos := pos) call_isi hg mi (show bootBuiltins "isinstance" = some (.builtin "isinstance") by decide +kernel)
    (pa_cons (pe_var (pos := p1) hN hvis hxd hxc) (pa_cons (pe_bltn (v := .ty T) (pos := p2) hgT mT hv rfl hn hd) pa_nil))
  constructor
  intro pins s σ H Q I hq
  refine h.run pins s σ H Q I ?_
  obtain ⟨v, hs, T', b, h1, h2, h3⟩ := hq
  exact ⟨v, hs, v, .ty T, .type T', .type T, b, rfl, .ty T, h1, kit_ty h2, h3⟩
end SfG
namespace SfG
open PySem PySem.Spec PyProof.Rows L2
/-! ### the end of a law whose defs have tables -/
/-- the top's defs and their tables, still empty -/
def TabsOf (q : Program) (mg : Str → Option Value) (h : Heap) : Prop := ∀ d ∈ recsOf q, ∃ a o fd c P,
  mg d.name = some (.ref a) ∧ h.get? a = some o ∧ o.data = .func fd ∧ fd.code = .ref c ∧ h.IsCode c P #[] ∧ h.TableAt c P #[]
theorem tab_of {q : Program} {mg : Str → Option Value} {h : Heap} {K : PySem.W.Frag} {nm x qual : Str} {st : Stmt} {f c P : Addr} {fd : FuncData}
    {e : Value} {dd : Option Addr} {vs : Array Value} {sl : Array (Option Value)} (T : TabsOf q mg h) (hrec : ((recsOf q).any fun d => d.name == nm) = true)
    (g : mg nm = some (.ref f)) (KX : K.In h) (F : FunC K x qual st f fd c) (kc : K.lookup c = some ⟨e, dd, .fields vs, sl⟩) (kp : vs[11]? = some (.ref P)) :
    h.get? P = some { cls := .none, data := .fields #[] } ∧ PySem.W.CodeHd h c P := by
  obtain ⟨d, hm, hn⟩ := List.any_eq_true.mp hrec
  have hn2 : d.name = nm := beq_iff_eq.mp hn
  obtain ⟨a, o, fd', c', P', h1, h2, h3, h4, h5, h6⟩ := T d hm
  rw [hn2, g] at h1
  cases h1
  obtain ⟨oc, od, kV, doc, pm, an, ct, osl, rfl, lk, hcd⟩ := F.ex
  rw [KX _ _ lk] at h2
  cases h2
  cases h3
  have ec : c = c' := by
    have z : Value.ref c = Value.ref c' := h4
    cases z
    rfl
  subst ec
  obtain ⟨⟨o1, v1, a1, a2, a3, a4⟩, hP⟩ := h6
  have ek := KX _ _ kc
  rw [ek] at a1
  cases a1
  cases a3
  rw [kp] at a4
  cases a4
  obtain ⟨o2, v2, file, tf, flags, tg, inF, text, tt, op, b1, b2, b3, b4, b5, b6, b7, b8, b9, b10, b11⟩ := h5
  rw [ek] at b1
  cases b1
  cases b2
  exact ⟨hP, _, _, file, tf, flags, tg, inF, text, tt, ek, a2, rfl, kp, b3, b4, b5, b6, b7, b11⟩
/-- what is known of the law's promise at the head's heap h -/
def LawG (l : PySem.W.OpenLaw) (w : World) (K : PySem.W.Frag) (CX : CXT) (k n : Nat) (x : Str) (mg : Str → Option Value) (fa : Addr) (h : Heap) : Prop :=
  ∃ (fd : FuncData) (cs : List (Addr × Addr)) (sp : Sp), (∀ p ∈ cs, h.get? p.2 = some { cls := .none, data := .fields #[] }) ∧ (∀ p ∈ cs, K.lookup p.2 = none) ∧
    (∀ p ∈ cs, PySem.W.CodeHd h p.1 p.2) ∧ (∀ (s : Shared) (u : Value), BindsTo s fd ⟨[u], []⟩ [(x, u)]) ∧
    (∀ (H : Hp) (a : Addr) (ns : List Int), ns.length ≤ n → (∀ p ∈ cs, H p.2 = some (.tbl #[])) → SqL K H a (ns.map V.int) → sp [.ref a] H (fun v _ => v = .bl true) fun _ _ _ => False) ∧
    ∀ base : Heap, K.In base → base.Ns mainGlobals mg → (∀ p ∈ cs, GxR.TabB base mg p.1 p.2) → FnG l.prog w K mg base CX k fa fd [x] sp
theorem walk_G {l : PySem.W.OpenLaw} {n k : Nat} {q : Program} {loose : List Str} {XP : (Str → Option Value) → Heap → Prop} {YP : World → Heap → Prop} {d : DefRec}
    {K : Params → PySem.W.Frag} {CX : World → CXT} {x : Str} (hn : l.most = some n) (hn2 : n ≤ sizeLine) (hdf : d.params.defaults = []) (hr : Room k callerA)
    (hY : ∀ (w : World) (h : Heap), YP w h → (K w.params).In h)
    (F : ∀ (w : World) (mg : Str → Option Value) (fa : Addr) (h : Heap), (K w.params).In h → h.Ns mainGlobals mg → mg d.name = some (.ref fa) → TabsOf q mg h →
      LawG l w (K w.params) (CX w) k n x mg fa h)
    (hCX : ∀ (w : World) (H : Hp) (s : Shared) (e : Value) (s' : Shared), CX w [] H s (fun _ _ _ => False) e s' → False) :
    PySem.W.WalkO q loose XP YP l.row.toRowW d [] (fun f vs => PySem.call f vs) := by
  refine Att.attach_callB hn hdf ?_
  intro w s0 s1 mg mb fa o pm cd doc a vs ns G Y ho hd hcd hmg hobj hints hlen hbits hg
  have KX := hY w _ Y
  obtain ⟨fd, cs, sp, hT, nT, C, hb, hsp, hF⟩ := F w mg fa _ KX G.T.g hmg G.T.tab
  have S : Stands (K w.params) mg mb cs s1 a vs := ⟨KX, G.T.g, G.T.b, G.T.builtins, G.T.nolimit, hg, hT, nT, C, G.T.bmain, hobj⟩
  exact end_call S hints (Nat.le_trans hlen hn2) hr hF hb (fun H hH hS => hsp H a ns hlen hH hS) fun H e s' => hCX w H s1 e s'
end SfG
namespace SfG
open PySem PySem.Spec PyProof.Rows L2
/-- all but p as it was -/
def But (p : Addr) (H H' : Hp) : Prop := ∀ b, b ≠ p → H' b = H b
theorem But.upd {p : Addr} {H H' : Hp} {o : HO} (h : But p H H') : But p H (upd H' p o) := fun b n => (upd_ne n).trans (h b n)
theorem Gr.upd_new {H0 H : Hp} {p : Addr} {o : HO} (g : Gr H0 H) (h : H0 p = none) : Gr H0 (upd H p o) := by
  refine ⟨?_, ?_, ?_, fun P ps e => by rw [upd_ne (ne_of_none e h)]; exact g.tbl P ps e⟩
  · intro b u e n
    rw [upd_ne (ne_of_none e h)]
    exact g.keep b u e n
  · intro P t
    have np : P ≠ p := by
      obtain ⟨ps, h1, _⟩ := t
      exact ne_of_none h1 h
    obtain ⟨ps, h1, h2⟩ := g.tab P t
    exact ⟨ps, (upd_ne np).trans h1, h2⟩
  · intro l e
    by_cases z : l = p
    · rw [z]
      exact h
    · rw [upd_ne z] at e
      exact g.back l e
/-! ### heaps in a turn: the draw's state at p is changed, all else grows -/
structure Gp (p : Addr) (H H' : Hp) : Prop where
  keep : ∀ b o, b ≠ p → H b = some o → (∀ ps, o ≠ .tbl ps) → H' b = some o
  tab : ∀ P, P ≠ p → GxR.TabG H P → GxR.TabG H' P
  back : ∀ l, l ≠ p → H' l = none → H l = none
  tbl : ∀ P ps, P ≠ p → H P = some (.tbl ps) → H' P = some (.tbl ps)
theorem Gp.refl (p : Addr) (H : Hp) : Gp p H H := ⟨fun _ _ _ h _ => h, fun _ _ h => h, fun _ _ h => h, fun _ _ _ h => h⟩
theorem Gp.gr {p : Addr} {H H' : Hp} (g : Gr H H') : Gp p H H' := ⟨fun b o _ => g.keep b o, fun P _ => g.tab P, fun l _ => g.back l, fun P ps _ => g.tbl P ps⟩
theorem Gp.but {p : Addr} {H H' : Hp} (g : But p H H') : Gp p H H' := by
  refine ⟨fun b o n h _ => (g b n).trans h, ?_, fun l n h => (g l n).symm.trans h, fun P _ n h => (g P n).trans h⟩
  rintro P n ⟨ps, h1, h2⟩
  exact ⟨ps, (g P n).trans h1, h2⟩
theorem Gp.trans {p : Addr} {H H1 H2 : Hp} (a : Gp p H H1) (b : Gp p H1 H2) : Gp p H H2 :=
  ⟨fun c o n h t => b.keep c o n (a.keep c o n h t) t, fun P n h => b.tab P n (a.tab P n h), fun l n h => a.back l n (b.back l n h), fun P ps n h => b.tbl P ps n (a.tbl P ps n h)⟩
/-- what was there ahead of p grows -/
theorem Gp.out {p : Addr} {H0 H H' : Hp} (g : Gr H0 H) (h : H0 p = none) (a : Gp p H H') : Gr H0 H' := by
  refine ⟨?_, ?_, ?_, fun P ps e => a.tbl P ps (ne_of_none e h) (g.tbl P ps e)⟩
  · intro b o e t
    exact a.keep b o (ne_of_none e h) (g.keep b o e t) t
  · intro P t
    have n : P ≠ p := by
      obtain ⟨ps, h1, _⟩ := t
      exact ne_of_none h1 h
    exact a.tab P n (g.tab P t)
  · intro l e
    by_cases z : l = p
    · rw [z]
      exact h
    · exact g.back l (a.back l z e)
theorem Gp.lst {p : Addr} {H H' : Hp} (g : Gp p H H') {b : Addr} {xs : List V} (n : b ≠ p) (h : H b = some (.lst xs)) : H' b = some (.lst xs) := g.keep b _ n h (fun _ z => by cases z)
theorem Gp.upd_new {p q : Addr} {H0 H : Hp} {o : HO} (g : Gp p H0 H) (h : H0 q = none) : Gp p H0 (upd H q o) := by
  refine ⟨?_, ?_, ?_, fun P ps n e => by rw [upd_ne (ne_of_none e h)]; exact g.tbl P ps n e⟩
  · intro b u nb e n
    rw [upd_ne (ne_of_none e h)]
    exact g.keep b u nb e n
  · intro P nP t
    have np : P ≠ q := by
      obtain ⟨ps, h1, _⟩ := t
      exact ne_of_none h1 h
    obtain ⟨ps, h1, h2⟩ := g.tab P nP t
    exact ⟨ps, (upd_ne np).trans h1, h2⟩
  · intro l nl e
    by_cases z : l = q
    · rw [z]
      exact h
    · rw [upd_ne z] at e
      exact g.back l nl e
/-- a def that is called: where it stands, how it is bound, what it promises -/
structure Has (P : Program) (w : World) (K : PySem.W.Frag) (mg : Str → Option Value) (base : Heap) (k : Nat) (x : Str) (ps : List Str) (sp : Sp) (f : Addr) (fd : FuncData) : Prop where
  ok : FnOk P w K mg base CX0 k f fd ps sp
  at_ : mg x = some (.ref f)
  kp : PySem.W.keepIn K (.ref f) = true
  bd : Binds K fd ps []
theorem hcall {X : Cx} {k : Nat} {x : Str} {ps : List Str} {sp : Sp} {f : Addr} {fd : FuncData} {e : Expr} {es : List Expr} {t : TA} {p pos : Pos} (h : Has X.prog X.w X.K X.mg X.base k x ps sp f fd) (hr : Room k X.A) (ha : PA X (e :: es) t)
    (hg : Gl X x := by rfl) (hdb : (x == ("__debug__" : Str)) = false := by decide) (he : starEach (e :: es) X.env = (false, eval e X.env) :: starEach es X.env := by rfl)
    (hpl : (backTo pos (starEach es X.env)).any (·.1) = false := by rfl) : PE X (.Call (.Name x p) (e :: es) [] pos) (tCall sp [] E0 t) :=
  pe_call h.ok hr hg h.at_ h.kp h.bd .nil pass0 ha hdb he hpl
/-! ### data that stays -/
theorem Gr.sqt {K : PySem.W.Frag} {H H' : Hp} {a : Addr} {xs : List V} (e : Gr H H') (h : SqT K H a xs) : SqT K H' a xs := by
  rcases h with (h | ⟨o, h⟩) | h
  · exact .inl (.inl (e.tup h))
  · exact .inl (.inr ⟨o, e.keep _ _ h (fun _ z => by cases z)⟩)
  · exact .inr h
theorem Gp.sqt {K : PySem.W.Frag} {p : Addr} {H H' : Hp} {a : Addr} {xs : List V} {kv : List (Key × V)} (e : Gp p H H') (hp : H p = some (.dK kv)) (h : SqT K H a xs) : SqT K H' a xs := by
  rcases h with (h | ⟨o, h⟩) | h
  · refine .inl (.inl (e.keep a _ (fun z => ?_) h (fun _ z => by cases z)))
    rw [z, hp] at h
    cases h
  · refine .inl (.inr ⟨o, e.keep a _ (fun z => ?_) h (fun _ z => by cases z)⟩)
    rw [z, hp] at h
    cases h
  · exact .inr h
theorem Gp.sql {K : PySem.W.Frag} {p : Addr} {H H' : Hp} {a : Addr} {xs : List V} {kv : List (Key × V)} (e : Gp p H H') (hp : H p = some (.dK kv)) (h : SqL K H a xs) : SqL K H' a xs := by
  rcases h with (h | ⟨o, h⟩) | h
  · refine .inl (.inl (e.keep a _ (fun z => ?_) h (fun _ z => by cases z)))
    rw [z, hp] at h
    cases h
  · refine .inl (.inr ⟨o, e.keep a _ (fun z => ?_) h (fun _ z => by cases z)⟩)
    rw [z, hp] at h
    cases h
  · exact .inr h
/-- what keeps all lists and tuples keeps data -/
structure Kd (K : PySem.W.Frag) (H H' : Hp) : Prop where
  l : ∀ {a xs}, SqL K H a xs → SqL K H' a xs
  t : ∀ {a xs}, SqT K H a xs → SqT K H' a xs
theorem Gr.kd {K : PySem.W.Frag} {H H' : Hp} (g : Gr H H') : Kd K H H' := ⟨fun h => g.seq h, fun h => g.sqt h⟩
theorem Gp.kd {K : PySem.W.Frag} {p : Addr} {H H' : Hp} {kv : List (Key × V)} (g : Gp p H H') (hp : H p = some (.dK kv)) : Kd K H H' := ⟨fun h => g.sql hp h, fun h => g.sqt hp h⟩
mutual
theorem Kd.dp {K : PySem.W.Frag} {H H' : Hp} (g : Kd K H H') : ∀ {d : PyData} {v : V}, Dp K H v d → Dp K H' v d
  | _, _, .non => .non
  | _, _, .bl b => .bl b
  | _, _, .int i => .int i
  | _, _, .str x => .str x
  | _, _, .lst h hs => .lst (g.l h) (g.dpA hs)
  | _, _, .tup h hs => .tup (g.t h) (g.dpA hs)
theorem Kd.dpA {K : PySem.W.Frag} {H H' : Hp} (g : Kd K H H') : ∀ {ds : List PyData} {vs : List V}, DpAll K H vs ds → DpAll K H' vs ds
  | _, _, .nil => .nil
  | _, _, .cons h hs => .cons (g.dp h) (g.dpA hs)
end
section
variable {K : PySem.W.Frag} {H : Hp} {v : V}
theorem dp_str {z : Str} (h : Dp K H v (.str z)) : v = .str z := by cases h; rfl
theorem dp_int {n : Int} (h : Dp K H v (.int n)) : v = .int n := by cases h; rfl
theorem dp_tup {ds : List PyData} (h : Dp K H v (.tuple ds)) : ∃ p xs, v = .ref p ∧ SqT K H p xs ∧ DpAll K H xs ds := by
  cases h with
  | tup h hs => exact ⟨_, _, rfl, h, hs⟩
theorem dpA_nil {xs : List V} (h : DpAll K H xs []) : xs = [] := by cases h; rfl
theorem dpA_cons {xs : List V} {d : PyData} {ds : List PyData} (h : DpAll K H xs (d :: ds)) : ∃ x r, xs = x :: r ∧ Dp K H x d ∧ DpAll K H r ds := by
  cases h with
  | cons a b => exact ⟨_, _, rfl, a, b⟩
theorem dp_1 {a : PyData} (h : Dp K H v (.tuple [a])) : ∃ p x, v = .ref p ∧ SqT K H p [x] ∧ Dp K H x a := by
  obtain ⟨p, xs, rfl, hp, hs⟩ := dp_tup h
  obtain ⟨x, r, rfl, hx, hs⟩ := dpA_cons hs
  cases dpA_nil hs
  exact ⟨p, x, rfl, hp, hx⟩
theorem dp_2 {a b : PyData} (h : Dp K H v (.tuple [a, b])) : ∃ p x y, v = .ref p ∧ SqT K H p [x, y] ∧ Dp K H x a ∧ Dp K H y b := by
  obtain ⟨p, xs, rfl, hp, hs⟩ := dp_tup h
  obtain ⟨x, r, rfl, hx, hs⟩ := dpA_cons hs
  obtain ⟨y, r, rfl, hy, hs⟩ := dpA_cons hs
  cases dpA_nil hs
  exact ⟨p, x, y, rfl, hp, hx, hy⟩
theorem dp_3 {a b c : PyData} (h : Dp K H v (.tuple [a, b, c])) : ∃ p x y z, v = .ref p ∧ SqT K H p [x, y, z] ∧ Dp K H x a ∧ Dp K H y b ∧ Dp K H z c := by
  obtain ⟨p, xs, rfl, hp, hs⟩ := dp_tup h
  obtain ⟨x, r, rfl, hx, hs⟩ := dpA_cons hs
  obtain ⟨y, r, rfl, hy, hs⟩ := dpA_cons hs
  obtain ⟨z, r, rfl, hz, hs⟩ := dpA_cons hs
  cases dpA_nil hs
  exact ⟨p, x, y, z, rfl, hp, hx, hy, hz⟩
theorem dp_4 {a b c d : PyData} (h : Dp K H v (.tuple [a, b, c, d])) : ∃ p x y z w, v = .ref p ∧ SqT K H p [x, y, z, w] ∧ Dp K H x a ∧ Dp K H y b ∧ Dp K H z c ∧ Dp K H w d := by
  obtain ⟨p, xs, rfl, hp, hs⟩ := dp_tup h
  obtain ⟨x, r, rfl, hx, hs⟩ := dpA_cons hs
  obtain ⟨y, r, rfl, hy, hs⟩ := dpA_cons hs
  obtain ⟨z, r, rfl, hz, hs⟩ := dpA_cons hs
  obtain ⟨u, r, rfl, hu, hs⟩ := dpA_cons hs
  cases dpA_nil hs
  exact ⟨p, x, y, z, u, rfl, hp, hx, hy, hz, hu⟩
/-- the i-th of a tuple of data -/
theorem dpA_get : ∀ {ds : List PyData} {xs : List V} {i : Nat} {d : PyData}, DpAll K H xs ds → ds[i]? = some d → ∃ x, xs[i]? = some x ∧ Dp K H x d
  | [], _, i, d, _, h => by simp at h
  | a :: r, xs, 0, d, hs, h => by
    obtain ⟨x, r', rfl, hx, _⟩ := dpA_cons hs
    have e : a = d := Option.some.inj h
    exact ⟨x, rfl, e ▸ hx⟩
  | a :: r, xs, i + 1, d, hs, h => by
    obtain ⟨x, r', rfl, _, hr⟩ := dpA_cons hs
    obtain ⟨y, hy, hd⟩ := dpA_get hr (show r[i]? = some d from h)
    exact ⟨y, hy, hd⟩
theorem dpA_len : ∀ {ds : List PyData} {xs : List V}, DpAll K H xs ds → xs.length = ds.length
  | [], _, h => by
    rw [dpA_nil h]
    rfl
  | _ :: _, _, h => by
    obtain ⟨x, r, rfl, _, hr⟩ := dpA_cons h
    rw [List.length_cons, List.length_cons, dpA_len hr]
end
end SfG
namespace SfG
open PySem PySem.Spec PyProof.Rows L2
/-! ### an exception that is held behind its try -/
/-- an exception of the class cls, caught, at a -/
def EkO (cls : Value) (d : Option Addr) (a : Addr) : HO := .ext fun h => ∃ oe : Obj, h.get? a = some oe ∧ Zc cls d oe ∧ ∃ vs, oe.data = .fields vs
section
variable {X : Cx} {pins : List (Addr × Obj)} {σ : L2.St} {H : Hp} {s : Shared}
theorem inv_track {a : Addr} {oe : Obj} {vs : Array Value} {φ : Heap → Prop} (I : L2.Inv X pins σ H s) (ha : s.heap.get? a = some oe) (hd : oe.data = .fields vs) (na : H a = none) (nL : a ≠ X.env.locals)
    (n0 : X.s_0.heap.get? a = none) (np : ∀ p ∈ X.pn ++ pins, p.1 ≠ a) (new : ObjOk X.prog X.w (upd H a (.ext φ)) s.heap a (.ext φ)) : L2.Inv X pins σ (upd H a (.ext φ)) s where
  ok := I.ok
  os := I.os
  bare := I.bare
  base := {
    keep := I.base.keep
    slot := I.base.slot
    free := by
      intro b o e n hx
      rw [upd_ne (by intro z; rw [z, n0] at e; cases e)]
      exact I.base.free b o e n hx
    there := I.base.there
    tups := by
      intro b xs e
      have q := I.base.tups b xs e
      rw [upd_ne (ne_of_none q na)]
      exact q
    frzs := by
      intro b o u e
      have q := I.base.frzs b o u e
      rw [upd_ne (ne_of_none q na)]
      exact q
    tbls := by
      intro b ps e
      obtain ⟨more, q⟩ := I.base.tbls b ps e
      exact ⟨more, by rw [upd_ne (ne_of_none q na)]; exact q⟩ }
  loc := I.loc
  cell := I.cell
  free := by
    rw [upd_ne (Ne.symm nL)]
    exact I.free
  freeC := by
    intro x c e
    rw [upd_ne ?_]
    · exact I.freeC x c e
    · intro z
      obtain ⟨v, o, ho, hc⟩ := I.cell x c e
      rw [z, ha] at ho
      cases ho
      rw [hd] at hc
      cases hc
  pin := by
    intro p hp
    obtain ⟨e, n, rest⟩ := I.pin p hp
    exact ⟨e, by rw [upd_ne (np p hp)]; exact n, rest⟩
  hok := I.hok.laidN (fun _ _ e => e) na new
  len := I.len
end
/-- what the clause wishes: the exception is held behind the suite -/
def wKeep (K : PySem.W.Frag) (c : Value) (i : Nat) (ts : Addr → Value → Option Addr → TS) (Wout : WX) (D : Ends) : WX := fun cls d σ H =>
  ∃ b, PySem.W.exmOne K cls c = some b ∧
    (b = true → ∀ a, H a = none → ts a cls d { nx := fun σ' H' => D.nx (σ'.set i none) (upd H' a (EkO cls d a)), rt := fun _ _ => False, bk := fun _ _ => False, ct := fun _ _ => False } (σ.set i (some (.ref a))) H) ∧
    (b = false → Wout cls d σ H)
section
variable {X : Cx} {x n : Str} {c : Value} {i : Nat} {body more : List Stmt} {st0 : Stmt} {p1 p2 p3 : Pos} {tb : WX → TS} {ts : Addr → Value → Option Addr → TS} {Wout : WX}
theorem ps_try_keep (stk : X.stack = X.env :: X.outer) (frm : X.env.frame = some X.env.locals) (hex : X.ex = []) (hN : X.N.Nodup) (hi : X.N[i]? = some n) (hn : X.env.kindOf n = some .local) (hc : Names X x c) (tk : Takes X Wout)
    (bd : ∀ (W : WX) (pn : List (Addr × Obj)) (xe : Value → Shared → Prop), Takes (X.tr pn xe) W → PassesOwn (model X.prog X.w) X.A X.env xe → PSs (X.tr pn xe) body (tb W))
    (su : ∀ (a : Addr) (oe : Obj) (cls : Value) (d : Option Addr) (pn : List (Addr × Obj)), Zc cls d oe → (∃ vs, oe.data = .fields vs) → PSs (X.suite a ((a, oe) :: pn)) (st0 :: more) (ts a cls d))
    (yes : ∀ D cls d σ H, wKeep X.K c i ts Wout D cls d σ H → PySem.W.exmOne X.K cls c = some true) :
    PS X (.Try body [.ExceptHandler (some (.Name x p1)) (some n) (st0 :: more) p2] [] [] p3) (fun D σ H => tb (wKeep X.K c i ts Wout D) D σ H) := by
  constructor
  intro pins s σ H D I h
  have okX := I.ok
  have frames : X.A.frames = some (X.env :: X.outer) := by
    rw [okX.frames, stk]
  refine wpAny_Try_except ?_
  have B1 := bd (wKeep X.K c i ts Wout D) (X.pn ++ pins)
    (fun e s₁ => wpAny (model X.prog X.w) X.A (noteFrame e X.env)
      (fun _ s₂ => wpAny (model X.prog X.w) X.A (setFlight e none)
        (fun _ s₃ => wpAny (model X.prog X.w) X.A
          (handleBy e X.env [.ExceptHandler (some (.Name x p1)) (some n) (st0 :: more) p2]) (SP X pins D) X.xe s₃) X.xe s₂) X.xe s₁)
    ?caught PassesOwn.looking
  · refine wpAny_mono (B1.run [] s σ H D (I.toTry _) h) ?_ (fun _ _ z => z)
    intro f s1 hs1
    cases f with
    | next =>
      obtain ⟨σ', H', J, q⟩ := hs1
      exact wpAny_execs_nil ⟨σ', H', J.ofTry okX, q⟩
    | ret u =>
      obtain ⟨v, σ', H', J, r, q⟩ := hs1
      exact ⟨v, σ', H', J.ofTry okX, r, q⟩
    | brk =>
      obtain ⟨σ', H', J, q⟩ := hs1
      exact ⟨σ', H', J.ofTry okX, q⟩
    | cont =>
      obtain ⟨σ', H', J, q⟩ := hs1
      exact ⟨σ', H', J.ofTry okX, q⟩
  case caught =>
    intro u s' air
    obtain ⟨a, B, sI, pins', σ', H', cls, d, rfl, J', ground, up, sky, na, os, ag, wish⟩ := air
    have hyes := yes D cls d σ' H' wish
    obtain ⟨b, hb1, hgo, _⟩ := wish
    rw [hyes] at hb1
    cases hb1
    have J : L2.Inv X pins σ' H' sI := J'.ofTry okX
    have skyX : Sky B (X.env :: X.outer) a (Zc cls d) X.env.locals s'.heap := by
      rw [← stk]
      exact sky
    show wpAny (model X.prog X.w) X.A (noteFrame (.ref a) X.env) _ _ _
    refine Sky.land Zc.steady frames frm skyX ?_
    intro h3 fl3 up3
    obtain ⟨oe3, vs3, get3, z3, dat3⟩ := fl3.there
    have noFrame : a ∉ frs (X.env :: X.outer) := by
      intro hm
      obtain ⟨_, o', e', nof⟩ := fl3.2.2.1.mem hm
      rw [get3] at e'
      cases e'
      exact nof _ dat3
    have notL : a ≠ X.env.locals := by
      intro z
      refine noFrame (List.mem_filterMap.mpr ⟨X.env, List.mem_cons_self, ?_⟩)
      rw [frm, z]
    have notF : a ∉ X.fs := by
      intro hm
      obtain ⟨e, he, q⟩ := List.mem_filterMap.mp hm
      exact noFrame (List.mem_filterMap.mpr ⟨e, List.mem_cons_of_mem _ he, q⟩)
    have newI : sI.heap.get? a = none := by
      cases e : sI.heap.get? a with
      | none => rfl
      | some o =>
        have z := ground a o e (by rw [stk]; exact noFrame)
        rw [fl3.2.1] at z
        cases z
    have new0 : X.s_0.heap.get? a = none := by
      cases e : X.s_0.heap.get? a with
      | none => rfl
      | some o =>
        obtain ⟨o', z⟩ := J.base.there a o e (by rw [hex]; exact fun q => nomatch q)
        rw [newI] at z
        cases z
    have notP : ∀ p ∈ X.pn ++ pins, p.1 ≠ a := by
      intro p hp z
      have q := (J.pin p hp).1
      rw [z, newI] at q
      cases q
    have J3 : L2.Inv X pins σ' H' { s' with heap := h3 } := J.landed ground fl3.1 (up.trans up3) os ag
    have S3 := J3.suite get3 dat3 na notL notF
    refine wpAny_handleBy_cons (codeAny_handlers_test ?_) (by intro q; cases q)
    have kindly : PySem.W.Looks (model X.prog X.w) h3 (typeOf (.ref a)) cls := by
      intro A2 Q2 E2 s2 k2 q2
      refine wpAny_typeOf_ref (k2 _ _ get3) ?_
      rw [z3.1]
      exact q2
    have match_ := PySem.W.exm_one (M := model X.prog X.w) J3.kIn kindly hyes
    have named : ∀ {Q2 : Value → Shared → Prop} {E2 : Value → Shared → Prop}, Q2 c { s' with heap := h3 } →
        wpAny (model X.prog X.w) (X.A.mark (some (.ref a))) (eval (.Name x p1) X.env) Q2 E2 { s' with heap := h3 } := by
      intro Q2 E2 q2
      obtain ⟨g1, g2, g3 | ⟨g3, g4, g5⟩⟩ := hc
      · exact ld_glob (X := X.suite a ((a, oe3) :: (X.pn ++ pins))) S3 g1 g3 q2 g2
      · exact ld_blt (X := X.suite a ((a, oe3) :: (X.pn ++ pins))) S3 g1 g3 g4 q2 g5 g2
    refine named (match_.here ?_)
    refine codeAny_handlers_suite_as ?_
    refine HandSPX.lands_againZ fl3 ?_
    intro h4 fl4 up4
    obtain ⟨oe4, vs4, get4, z4, dat4⟩ := fl4.there
    have J4 : L2.Inv X pins σ' H' { s' with heap := h4 } := J.landed ground fl4.1 ((up.trans up3).trans up4) os ag
    have S4 := J4.suite get4 dat4 na notL notF
    refine store_ok (X := X.suite a ((a, oe4) :: (X.pn ++ pins))) (v := .ref a) S4 hN hi (.inl hn) rfl ?_ (.inr hn)
    intro s5 S5
    refine wpAny_mono ((su a oe4 cls d (X.pn ++ pins) z4 ⟨_, dat4⟩).run [] s5 _ H' _ S5 (hgo rfl a na)) ?_ (fun _ _ z => False.elim z)
    intro f s6 hs6
    cases f with
    | next =>
      obtain ⟨σ6, H6, S6, q6⟩ := hs6
      obtain ⟨get6, na6, _⟩ := S6.pin (a, oe4) (List.mem_append_left _ List.mem_cons_self)
      have J6 : L2.Inv X pins σ6 H6 s6 := S6.unsuite okX
      have T6 := inv_track (φ := fun h => ∃ oe : Obj, h.get? a = some oe ∧ Zc cls d oe ∧ ∃ vs, oe.data = .fields vs) J6 get6 dat4 na6 notL new0 notP
        ⟨⟨oe4, get6, z4, _, dat4⟩, ⟨oe4, get6⟩, fun h1 h2 ⟨o, e, r⟩ k => ⟨o, k o e, r⟩⟩
      refine gone_ok T6 hN hi hn ?_
      intro s7 J7
      exact ⟨_, _, J7, q6⟩
    | brk =>
      obtain ⟨σ6, H6, S6, q6⟩ := hs6
      exact q6.elim
    | cont =>
      obtain ⟨σ6, H6, S6, q6⟩ := hs6
      exact q6.elim
    | ret u =>
      obtain ⟨v6, σ6, H6, S6, r6, q6⟩ := hs6
      exact q6.elim
end
/-! ### isinstance of such an exception -/
def rIsK (K : PySem.W.Frag) (D : Addr) : List V → Hp → VK → Prop := fun xs H Q =>
  ∃ (a : Addr) (c : V) (cv : Value) (b : Bool), xs = [.ref a, c] ∧ H a = some (EkO (.ref D) none a) ∧ (∀ u, RelV c u → u = cv) ∧ PySem.W.kitOne K (.ref D) cv = some b ∧ Q (.bl b) H
theorem call_isK {X : Cx} {D : Addr} (C : ExcC X.K D) : CallR X (.builtin "isinstance") (rIsK X.K D) := by
  intro pins s σ H xs us Q I r h
  obtain ⟨a, c, cv, b, rfl, hH, hcv, e, q⟩ := h
  obtain ⟨⟨oe, get, z, vs, dat⟩, _⟩ := I.hok a _ hH
  cases r with
  | cons rx rr =>
    cases rr with
    | cons rt rr =>
      cases rr
      cases rx
      have ec := hcv _ rt
      subst ec
      have J : PySem.W.InstAt s.heap a oe D none := by
        obtain ⟨oc, od, oda, osl⟩ := oe
        obtain ⟨h1, h2⟩ := z
        dsimp only at h1 h2 dat
        subst h1 h2 dat
        exact ⟨get, rfl, rfl, trivial⟩
      refine PySem.W.kia_one (PySem.W.handS_kitx_exc C.hg C.hk C.hs C.hd C.ha C.hn C.ht C.hm) I.kIn J e (fun z => nomatch z) ?_
      intro tk
      exact ⟨.bl b, H, I.kept (t' := tk) fun _ _ z => z, rfl, q⟩
end SfG
namespace SfG
open PySem PySem.Spec PyProof.Rows L2
/-! ### enumerate(t), t a tuple -/
set_option maxHeartbeats 1000000 in
theorem meets_enum1 {v : Value} {o : Obj} {H : Heap → Prop} (B : Begins v o H) :
    Meets (Builtin.«enumerate.__new__» ⟨[.type "enumerate", v], []⟩) (fun _ R s => H s.heap ∧
      R (.ok (.ret (.ref (s.heap.push o).objs.size)))
        { s with heap := (s.heap.push o).push { cls := .type "enumerate", data := .fields #[.none, .bool false, .ref s.heap.objs.size, rawInt 0, .none, .none] } }) :=
  .of_wp fun prog w A R s hh => by
    obtain ⟨hp, g, d, tk, os⟩ := s
    obtain ⟨h1, fin⟩ := hh
    have hsub := sub_enumerate
    have it1 : ∀ {A' : Around} {E : Value → Shared → Prop} {Q : Value → Shared → Prop}, Q (.ref hp.objs.size) ⟨hp.push o, g, d, tk, os⟩ →
        wpAny (model prog w) A' (pyIter v) Q E ⟨hp, g, d, tk, os⟩ := fun q => B.iter prog w _ _ ⟨hp, g, d, tk, os⟩ _ h1 q
    wp_walk using it1
    refine wpAny_stack_any fun st => wpAny_pure ?_
    split
    · rename_i c _ _ _ _ _
      cases (c == Value.type "enumerate") <;> (wp_walk using it1; exact ⟨_, rfl, fin⟩)
    · wp_walk using it1
      exact ⟨_, rfl, fin⟩
section
variable {prog : Program} {w : World} {A : Around} {E : Value → Shared → Prop} {s : Shared}
theorem enum1 {v : Value} {o : Obj} {H : Heap → Prop} {Q : Value → Shared → Prop} (B : Begins v o H) (h1 : H s.heap)
    (h : ∀ h', IsEnum h' (s.heap.objs.size + 1) s.heap.objs.size 0 .none → h'.get? s.heap.objs.size = some o →
      (∀ b u, s.heap.get? b = some u → h'.get? b = some u) → Q (.ref (s.heap.objs.size + 1)) { s with heap := h' }) :
    wpAny (model prog w) A (call (.type "enumerate") [v]) Q E s := by
  refine callType_new F.called_enumerate (by decide) (F.typeCall_enumerate_1 _) (F.newCall_enumerate_1 _) (fun obj => F.args_object_init_2 obj _)
    F.entry_enumerate_new (meets_enum1 B) ⟨h1, ?_⟩
  have sz : (s.heap.push o).objs.size = s.heap.objs.size + 1 := Heap.size_push ..
  show _ ∧ _
  rw [sz]
  have made : IsEnum ((s.heap.push o).push { cls := .type "enumerate", data := .fields #[.none, .bool false, .ref s.heap.objs.size, rawInt 0, .none, .none] })
      (s.heap.objs.size + 1) s.heap.objs.size 0 .none := by
    have z := Heap.get?_push_size (s.heap.push o) (o := { cls := .type "enumerate", data := .fields #[.none, .bool false, .ref s.heap.objs.size, rawInt 0, .none, .none] }) rfl
    rw [sz] at z
    exact z
  refine ⟨⟨_, made, rfl⟩, h _ made (Heap.get?_push_of_some _ (Heap.get?_push_size _ B.free)) ?_⟩
  intro b u x
  exact Heap.get?_push_of_some _ (Heap.get?_push_of_some _ x)
end
/-- the tuple at a as it stands at each turn, each item in a new pair -/
def IteT (K : PySem.W.Frag) (a : Addr) : It :=
  ⟨fun i H => ∃ (xs : List V) (x : V), SqT K H a xs ∧ xs[i]? = some x,
   fun i H v H' => ∃ T x, v = .ref T ∧ H T = none ∧ H' = upd H T (.tup [.int (i : Nat), x]) ∧ ∀ xs, SqT K H a xs → xs[i]? = some x,
   fun i H => ∃ xs : List V, SqT K H a xs ∧ xs.length = i⟩
theorem turn_enumT {P : Program} {w : World} {K : PySem.W.Frag} {elts : List Expr} {kk : Nat} {tpos : Pos} (a e it : Addr) :
    Turn P w K (.Tuple elts kk tpos) (IteT K a) [e, it] e (fun i h => (∃ old, IsEnum h e it ((i : Nat) : Int) old) ∧ h.IsTupleIter it a i ∧ e ≠ it) where
  mem := by simp
  obj := by
    rintro i h ⟨⟨old, he⟩, ⟨o, ho, hc, hd⟩, _⟩ b hb
    have two : b = e ∨ b = it := by simpa using hb
    rcases two with rfl | rfl
    · exact ⟨_, he, fun v q => nomatch q⟩
    · exact ⟨o, ho, fun v q => by rw [hd] at q; cases q⟩
  keep := by
    rintro i h h' ⟨⟨old, he⟩, hi, hne⟩ k
    exact ⟨⟨old, k e (by simp) _ he⟩, hi.at fun o q => k it (by simp) o q, hne⟩
  item := by
    intro X hP hw hK hc i pins s σ H E I hf st hg
    subst hP hw hK
    obtain ⟨⟨old, he⟩, hit, hne⟩ := st
    obtain ⟨xs, x, hq, hx⟩ := hg
    obtain ⟨its, rv, p, hz⟩ := I.tuple hq
    obtain ⟨u, hu, ru⟩ := rv.get hx
    have ea : e ≠ a := by
      intro z
      obtain ⟨o, ho, hcl, _⟩ := p
      rw [← z] at ho
      have q := he
      unfold IsEnum at q
      rw [ho] at q
      have q1 := Option.some.inj q
      rw [q1] at hcl
      exact absurd (Value.type.inj hcl) (by decide)
    have ia : a ≠ it := by
      intro z
      obtain ⟨o, ho, hcl, _⟩ := p
      obtain ⟨o', ho', hcl', _⟩ := hit
      rw [z, ho'] at ho
      cases ho
      rw [hcl'] at hcl
      exact absurd (Value.type.inj hcl) (by decide)
    have D : Draws X.prog X.w X.A.in1 it [it, a] its.toArray.size (fun i v => its.toArray[i]? = some v) (fun i h => h.IsTupleIter it a i ∧ h.IsTuple a its.toArray) :=
      Draws.tuple (show X.A.in1.handled = none from I.ok.hd hc) it a ia its.toArray
    have hlt : i < its.toArray.size := by
      have hl := rv.length
      have hi : i < xs.length := by
        rcases Nat.lt_or_ge i xs.length with h1 | h1
        · exact h1
        · rw [List.getElem?_eq_none h1] at hx
          cases hx
      simp
      omega
    have hel : e < s.heap.objs.size := Heap.lt_size he
    have hil : it < s.heap.objs.size := by
      obtain ⟨_, q, _⟩ := hit
      exact Heap.lt_size q
    refine wpAny_pyNext_enum_itemD D he ⟨hit, p⟩ hlt hne (by simp [hne, ea]) ?_
    intro y h' tk hy ho hst hT hsz hk
    have ey : y = u := by
      have h1 : its.toArray[i]? = some u := by simpa using hu
      have h2 : its.toArray[i]? = some y := hy
      rw [h1] at h2
      exact (Option.some.inj h2).symm
    subst ey
    refine ⟨_, rfl, wpAny_letOwnedTupleGo_enum (s := { s with heap := h', toks := tk + 1 }) ho ?_⟩
    intro h'' he' sb
    have hT2 : h''.get? s.heap.objs.size = some { cls := .type "tuple", data := .seq #[.int i tk, y] } := (sb.2 _ (Nat.ne_of_gt hel)).trans hT
    have new : ObjOk X.prog X.w (upd H s.heap.objs.size (.tup [.int (i : Nat), x])) h'' s.heap.objs.size (.tup [.int (i : Nat), x]) :=
      ⟨by show 2 ≤ sizeLine; decide, [.int i tk, y], .cons ⟨_, rfl⟩ (.cons ru .nil), ⟨_, hT2, rfl, _, rfl⟩⟩
    have I1 : L2.Inv X pins σ (upd H s.heap.objs.size (.tup [.int (i : Nat), x])) { s with heap := h'', toks := tk + 1 } := by
      refine I.turnedNew (ch := [e, it]) ?_ hf (Nat.le_refl _) new
      intro b ob hb q
      exact (sb.2 b (fun z => hb (by simp [z]))).trans (hk b ob (fun z => hb (by simp [z])) (fun z => hb (by simp [z])) q)
    refine ⟨.ref s.heap.objs.size, _, I1, rfl, ⟨_, x, rfl, I.hok.fresh (Nat.le_refl _), rfl, ?_⟩, ⟨⟨y, ?_⟩, hst.1.at fun o q => (sb.2 it (Ne.symm hne)).trans q, hne⟩, ?_⟩
    · intro ys hy'
      rw [I.tuple_inj hy' hq]
      exact hx
    · have e1 : ((i + 1 : Nat) : Int) = (i : Int) + 1 := by omega
      rw [e1]
      exact he'
    · intro b hb
      have hb' : b < s.heap.objs.size := by
        have two : b = e ∨ b = it := by simpa using hb
        rcases two with rfl | rfl
        · exact hel
        · exact hil
      rw [upd_ne (Nat.ne_of_lt hb')]
      exact (hf b hb).1
  done := by
    intro X hP hw hK hc i pins s σ H E I hf st hg
    subst hP hw hK
    obtain ⟨⟨old, he⟩, hit, hne⟩ := st
    obtain ⟨xs, hq, hx⟩ := hg
    obtain ⟨its, rv, p, hz⟩ := I.tuple hq
    have ia : a ≠ it := by
      intro z
      obtain ⟨o, ho, hcl, _⟩ := p
      obtain ⟨o', ho', hcl', _⟩ := hit
      rw [z, ho'] at ho
      cases ho
      rw [hcl'] at hcl
      exact absurd (Value.type.inj hcl) (by decide)
    obtain ⟨f0, f1, f2, f3, f4, f5⟩ := hf it (by simp)
    have hl := rv.length
    have D : Draws X.prog X.w X.A.in1 it [it, a] its.toArray.size (fun i v => its.toArray[i]? = some v) (fun i h => h.IsTupleIter it a i ∧ h.IsTuple a its.toArray) :=
      Draws.tuple (show X.A.in1.handled = none from I.ok.hd hc) it a ia its.toArray
    have ei : its.toArray.size = i := by
      simp
      omega
    rw [← ei] at hit
    exact wpAny_pyNext_enum_endD D he ⟨hit, p⟩ fun h' eb => ⟨rfl, I.turned (t' := s.toks) (fun b o hb q => eb b o hb q) f0 f1 f3 f4 f5⟩
  self := by
    rintro A i s Q E ⟨⟨_, he⟩, _⟩ h
    exact wpAny_pyIter_enum he h
def iEnumT (K : PySem.W.Frag) (ta : TA) : TI := fun σ H R => ta σ H fun vs H1 => ∃ a xs, vs = [.ref a] ∧ SqT K H1 a xs ∧ R (IteT K a) H1
theorem pi_enumT {X : Cx} {e : Expr} {ta : TA} {p pos tpos : Pos} {elts : List Expr} {kk : Nat} (hg : Gl X "enumerate") (hm : X.mg "enumerate" = none) (ha : PA X [e] ta)
    (hs : starEach [e] X.env = [(false, eval e X.env)] := by rfl) : PI X (.Tuple elts kk tpos) (.Call (.Name "enumerate" p) [e] [] pos) (iEnumT X.K ta) := by
  constructor
  intro pins s σ H R I h
  refine Call_ (ld_blt I hg hm boot_enumerate (PyProof.Rows.callWith_type1 (thn (ha.run pos pins s σ H _ I h) ?_) hs rfl))
  rintro us s1 ⟨vs, H1, I1, r1, a, xs, rfl, hq, q⟩
  obtain ⟨u, rfl, ru⟩ := vals1 r1
  cases (show u = Value.ref a from ru)
  obtain ⟨its, rv, p', hz⟩ := I1.tuple hq
  refine enum1 (begins_tuple a its.toArray) p' ?_
  intro h' he hit hk
  refine wpAny_pyIter_enum he ?_
  have I2 : L2.Inv X pins σ H1 { s1 with heap := h' } := I1.kept (t' := s1.toks) hk
  refine ⟨s1.heap.objs.size + 1, [s1.heap.objs.size + 1, s1.heap.objs.size], _, _, H1, rfl, I2, turn_enumT a (s1.heap.objs.size + 1) s1.heap.objs.size,
    ⟨⟨.none, he⟩, ⟨_, hit, rfl, rfl⟩, Nat.succ_ne_self _⟩, ?_, q⟩
  intro b hb
  have two : b = s1.heap.objs.size + 1 ∨ b = s1.heap.objs.size := by simpa using hb
  have hle : s1.heap.objs.size ≤ b := by
    rcases two with z | z
    · rw [z]
      exact Nat.le_succ _
    · rw [z]
      exact Nat.le_refl _
  exact I1.fpOk hle (I1.hok.fresh hle)
theorem walk_enumT {K : PySem.W.Frag} {a : Addr} {xs : List V} : Walk (IteT K a) xs.length (fun H => SqT K H a xs) (YPair (fun i => some (.int (i : Nat))) (fun i => xs[i]?)) := by
  refine ⟨?_, ?_, ?_⟩
  · intro i _ hi q
    exact ⟨xs, xs[i], q, by simp [hi]⟩
  · intro _ q
    exact ⟨xs, q, rfl⟩
  · rintro i H v H' _ q ⟨T, x, h1, h2, h3, h4⟩
    exact ⟨T, .int (i : Nat), x, h1, h2, h3, rfl, h4 xs q⟩
end SfG
namespace SfG
open PySem PySem.Spec PyProof.Rows L2
/-! ### d.update(e), two dicts -/
def rDUpd : V → List V → Hp → VK → Prop := fun x vs H Q => ∃ (a b : Addr) (kvs more : List (Key × V)), x = .ref a ∧ vs = [.ref b] ∧ H a = some (.dK kvs) ∧ H b = some (.dK more) ∧ a ≠ b ∧ kvs.length + more.length ≤ 1000 ∧ Q .non (upd H a (.dK (mergeK kvs more)))
theorem mt_dupd {X : Cx} : MtR X "dict.update" rDUpd := by
  intro pins s σ H x vs v us Q I rx rv h
  obtain ⟨a, b, kvs, more, rfl, rfl, ea, eb, ne, hz, q⟩ := h
  cases (show v = Value.ref a from rx)
  obtain ⟨u, rfl, ru⟩ := vals1 rv
  cases (show u = Value.ref b from ru)
  obtain ⟨za, ha, va, ra, da⟩ := dk_of I.hok ea
  obtain ⟨zb, hb, vb, rb, db⟩ := dk_of I.hok eb
  have sz : va.length + vb.length ≤ sizeLine := by
    rw [← ra.length, ← rb.length]
    exact Nat.le_of_lt (small1000 hz)
  refine call_meetsIn PySem.F.slot_dict_update da.typeIs PySem.F.entry_dict_update (PySem.F.args_dict_update_2 _ _) (meets_dict_update (mixKind X.prog X.w) a b ne hb) ⟨va, vb, da, db, sz, fun h' dd' _ hs => ?_⟩
  have he : ∃ o, h'.get? a = some o := by
    obtain ⟨o, _, _, ho, _⟩ := dd'
    exact ⟨o, ho⟩
  have hm : (mergeK kvs more).length ≤ sizeLine := by
    have := length_mergeK more kvs
    exact Nat.le_of_lt (small1000 (by omega))
  exact ⟨.non, _, d_write (t' := s.toks) I (by rw [ea]; exact True.intro) hs he (dk_new hm ha (rb.merge ra) dd'), rfl, q⟩
/-! ### xs[b], b a truth -/
section
variable {prog : Program} {w : World} {A : Around} {E : Value → Shared → Prop} {s : Shared}
theorem sub_bool {M : Model} {b : Bool} {Q : Option Int → Shared → Prop} (h : Q (some (if b then 1 else 0)) s) : wpAny M A (Builtin.List.listSubscript? (.bool b)) Q E s := by
  unfold Builtin.List.listSubscript?
  refine wpAny_bind (wpAny_specialOf (T := "bool") (show s.TypeIs (.bool b) "bool" from rfl) PySem.F.slot_bool_index.lookup ?_)
  cases b with
  | true =>
    refine wpAny_bind (wpAny_of_eq (a := (1 : Int)) rfl ?_)
    exact wpAny_pure h
  | false =>
    refine wpAny_bind (wpAny_of_eq (a := (0 : Int)) rfl ?_)
    exact wpAny_pure h
theorem get_bool {l : Addr} {items : Array Value} {b : Bool} {x : Value} {Q : Value → Shared → Prop} (hl : s.heap.IsList l items) (hx : items[(if b then 1 else 0)]? = some x) (h : Q x s) :
    wpAny (model prog w) A (getItem (.ref l) (.bool b)) Q E s := by
  obtain ⟨o, ho, hc, ne, hd⟩ := id hl
  unfold getItem
  try with_reducible refine wpAny_holding ?_
  first | refine wpAny_bind (wpAny_pure ?_) | skip
  refine wpAny_bind (wpAny_sequenceKey hl.typeIs (by decide) ?_)
  refine wpAny_bind (wpAny_callSpecial?_slot (name := Str.ofString "__getitem__") hl.typeIs slot_list_getitem (wpAny_call_entry slot_list_getitem hl.typeIs entry_list_getitem ?_ (args_list_getitem _ _)))
  refine wpAny_bind (m := Builtin.List.listSubscript? (.bool b)) (sub_bool ?_)
  cases b with
  | true =>
    show wpAny _ _ ((seqItemAt l 1 >>= fun r => pure (r.map (1, ·))) >>= _) _ _ s
    refine wpAny_bind (wpAny_bind (wpAny_seqItemAt ho hd (wpAny_pure ?_)))
    rw [show items[1]? = some x from hx]
    first
      | exact wpAny_bind (wpAny_pure (wpAny_pure ⟨x, rfl, wpAny_pure h⟩))
      | exact wpAny_pure ⟨x, rfl, wpAny_pure h⟩
  | false =>
    show wpAny _ _ ((seqItemAt l 0 >>= fun r => pure (r.map (0, ·))) >>= _) _ _ s
    refine wpAny_bind (wpAny_bind (wpAny_seqItemAt ho hd (wpAny_pure ?_)))
    rw [show items[0]? = some x from hx]
    first
      | exact wpAny_bind (wpAny_pure (wpAny_pure ⟨x, rfl, wpAny_pure h⟩))
      | exact wpAny_pure ⟨x, rfl, wpAny_pure h⟩
end
def rIxB (K : PySem.W.Frag) : R2 := fun x y H Q => ∃ (p : Addr) (xs : List V) (b : Bool) (v : V), x = .ref p ∧ y = .bl b ∧ SqL K H p xs ∧ xs[(if b then 1 else 0)]? = some v ∧ Q v H
theorem ix_bool {X : Cx} : IxR X (rIxB X.K) := by
  intro value slice pins s σ H x y v u Q I rx ry h hs
  obtain ⟨p, xs, b, z, rfl, rfl, hq, he, q⟩ := h
  cases (show v = Value.ref p from rx)
  cases (show u = Value.bool b from ry)
  obtain ⟨its, r, pl, hz⟩ := I.list hq
  obtain ⟨t, et, rt⟩ := r.get he
  exact subscriptTail_builtinR pl.isList.typeIs PySem.slot_list_getitem.lookup (get_bool (Q := fun r' s' => r' = t ∧ EP X pins σ Q r' s') pl.isList (by simpa using et) ⟨rfl, z, H, I, rt, q⟩) hs
end SfG
namespace SfG
open PySem PySem.Spec PyProof.Rows L2
/-! ### repr of None, of a number, of a list or a tuple -/
def rReprA (K : PySem.W.Frag) : List V → Hp → VK → Prop := fun xs H Q =>
  ∃ (v : V) (d : PyData) (S : Str), xs = [v] ∧ Dp K H v d ∧ (v = .non ∨ (∃ i, v = .int i) ∨ ∃ a, v = .ref a) ∧ d.showable = true ∧ d.hasDict = false ∧
    d.depth ≤ 30 ∧ d.shown = S ∧ S.length ≤ sizeLine ∧ Q (.str S) H
theorem call_reprA {X : Cx} {k : Nat} (hr : Room k X.A) (hgd : X.A.guards = some []) :
    CallR X (.builtin "repr") (rReprA X.K) := by
  intro pins s σ H xs us Q I r h
  obtain ⟨v, d, S, rfl, hd, hv, hs, hn, hdep, rfl, hz, q⟩ := h
  rcases hv with rfl | ⟨i, rfl⟩ | ⟨a, rfl⟩
  · cases hd
    obtain ⟨u, rfl, ru⟩ := vals1 r
    cases ru
    exact PySem.P.repr_of_none ⟨.str _, H, I.tok _, ⟨_, rfl⟩, q⟩
  · cases hd
    obtain ⟨u, rfl, t, rfl⟩ := vals1 r
    exact PySem.P.repr_of_int (by simpa [PyData.showable] using hs) ⟨.str _, H, I.tok _, ⟨_, rfl⟩, q⟩
  · exact call_repr hr hgd pins s σ H _ us Q I r ⟨a, d, _, rfl, hd, hs, hn, hdep, rfl, hz, q⟩
/-! ### what can be shown, and how long that is -/
structure Sh (d : PyData) (L D : Nat) : Prop where
  able : d.showable = true
  nod : d.hasDict = false
  dep : d.depth ≤ D
  len : d.shown.length ≤ L
structure ShA (ds : List PyData) (L D : Nat) : Prop where
  able : PyData.showableAll ds = true
  nod : PyData.hasDictAll ds = false
  dep : PyData.depthAll ds ≤ D
  len : ((PyData.shownAll ds).map (·.length)).sum + 2 * ds.length ≤ L
theorem Sh.mono {d : PyData} {L D L' D' : Nat} (h : Sh d L D) (hL : L ≤ L') (hD : D ≤ D') : Sh d L' D' := ⟨h.able, h.nod, Nat.le_trans h.dep hD, Nat.le_trans h.len hL⟩
theorem ShA.mono {d : List PyData} {L D L' D' : Nat} (h : ShA d L D) (hL : L ≤ L') (hD : D ≤ D') : ShA d L' D' := ⟨h.able, h.nod, Nat.le_trans h.dep hD, Nat.le_trans h.len hL⟩
theorem ShA.nil {D : Nat} : ShA [] 0 D := ⟨rfl, rfl, by simp [PyData.depthAll], by simp [PyData.shownAll]⟩
theorem ShA.cons {d : PyData} {ds : List PyData} {L1 L2 D : Nat} (h : Sh d L1 D) (t : ShA ds L2 D) : ShA (d :: ds) (L1 + 2 + L2) D := by
  refine ⟨?_, ?_, ?_, ?_⟩
  · rw [PyData.showableAll, h.able, t.able]
    rfl
  · rw [PyData.hasDictAll, h.nod, t.nod]
    rfl
  · have h1 := h.dep
    have h2 := t.dep
    simp only [PyData.depthAll]
    omega
  · have h1 := h.len
    have h2 := t.len
    simp only [PyData.shownAll, List.map_cons, List.sum_cons, List.length_cons]
    omega
theorem Sh.tup {ds : List PyData} {L D : Nat} (h : ShA ds L D) : Sh (.tuple ds) (L + 3) (D + 1) := by
  refine ⟨h.able, h.nod, ?_, ?_⟩
  · have h1 := h.dep
    simp only [PyData.depth]
    omega
  · have h1 := h.len
    have h2 := tupleText_len_le (PyData.shownAll ds)
    have h3 := PyData.shownAll_length ds
    simp only [PyData.shown]
    omega
theorem Sh.lst {ds : List PyData} {L D : Nat} (h : ShA ds L D) : Sh (.list ds) (L + 3) (D + 1) := by
  refine ⟨h.able, h.nod, ?_, ?_⟩
  · have h1 := h.dep
    simp only [PyData.depth]
    omega
  · have h1 := h.len
    have h2 := listText_len_le (PyData.shownAll ds)
    have h3 := PyData.shownAll_length ds
    simp only [PyData.shown]
    omega
theorem Sh.non {D : Nat} : Sh .none 4 (D + 1) := ⟨rfl, rfl, by simp [PyData.depth], by decide⟩
theorem Sh.int {i : Int} {k D : Nat} (h : i.natAbs < 2 ^ k) (h0 : 0 < k) (hk : k ≤ 1920) : Sh (.int i) (k + 1) (D + 1) := by
  have hl : i.natAbs.log2 < k := by
    by_cases z : i.natAbs = 0
    · rw [z]
      exact h0
    · exact (Nat.log2_lt z).mpr h
  refine ⟨by simp only [PyData.showable]; exact decide_eq_true (by omega), rfl, by simp [PyData.depth], ?_⟩
  have e := int_text_length_le h0 hl
  show (Str.ofString (toString i)).length ≤ k + 1
  rw [PySem.ofString_length]
  exact e
theorem ShA.ints {k D : Nat} (h0 : 0 < k) (hk : k ≤ 1920) : ∀ {l : List Int}, (∀ x ∈ l, x.natAbs < 2 ^ k) → ShA (l.map PyData.int) (l.length * (k + 3)) (D + 1)
  | [], _ => ShA.nil.mono (by omega) (Nat.le_refl _)
  | a :: r, h => by
    have h1 := ShA.cons (Sh.int (h a List.mem_cons_self) h0 hk) (ShA.ints (D := D) h0 hk (l := r) fun x hx => h x (List.mem_cons_of_mem _ hx))
    refine h1.mono ?_ (Nat.le_refl _)
    rw [List.length_cons, Nat.succ_mul]
    omega
theorem Sh.fits {d : PyData} {L D : Nat} (h : Sh d L D) (hL : L ≤ 10000000) : d.shown.length ≤ sizeLine := by
  rw [sizeLine_eq]
  have := h.len
  omega
end SfG
namespace SfG
open PySem PySem.Spec PyProof.Rows L2
/-! ### the kind of plain data -/
def tyD : PyData → String
  | .none => "NoneType"
  | .bool _ => "bool"
  | .int _ => "int"
  | .str _ => "str"
  | .list _ => "list"
  | .tuple _ => "tuple"
  | .dict _ => "dict"
theorem tyx_tup {K : PySem.W.Frag} {H : Hp} {p : Addr} {xs : List V} (h : SqT K H p xs) : TyX K H (.ref p) (.type "tuple") := by
  rcases h with (h | ⟨o, h⟩) | ⟨o, its, n, h1, h2, _⟩
  · exact .base (.tup h)
  · exact .fTuple h
  · exact .kTuple h1 h2
theorem tyx_lst {K : PySem.W.Frag} {H : Hp} {p : Addr} {xs : List V} (h : SqL K H p xs) : TyX K H (.ref p) (.type "list") := by
  rcases h with (h | ⟨o, h⟩) | ⟨o, its, n, h1, h2, _⟩
  · exact .base (.lst h)
  · exact .base (.frz h)
  · exact .kList h1 h2
theorem dp_is {K : PySem.W.Frag} {H : Hp} {v : V} {d : PyData} (h : Dp K H v d) : Is K H v (tyD d) := by
  cases h with
  | non => exact ⟨.base .non, by decide +kernel⟩
  | bl b => exact ⟨.base (.bl b), by show "bool" ∈ kinds; decide +kernel⟩
  | int i => exact ⟨.base (.int i), by show "int" ∈ kinds; decide +kernel⟩
  | str x => exact ⟨.base (.str x), by show "str" ∈ kinds; decide +kernel⟩
  | lst h _ => exact ⟨tyx_lst h, by show "list" ∈ kinds; decide +kernel⟩
  | tup h _ => exact ⟨tyx_tup h, by show "tuple" ∈ kinds; decide +kernel⟩
theorem kit_tuple : ∀ T ∈ kinds, kitB T "tuple" = some (T == "tuple") := by decide +kernel
def whD : PyData → Bool
  | .int _ => true
  | _ => false
def amD (d : PyData) (lo hi : Int) : Bool := match d with
  | .int i => decide (lo ≤ i) && decide (i ≤ hi)
  | _ => false
def tupD (d : PyData) (lo hi : Int) : Bool := match d with
  | .tuple ds => decide (lo ≤ (ds.length : Int)) && decide ((ds.length : Int) ≤ hi)
  | _ => false
end SfG
namespace SfG
open PySem PySem.Spec PyProof.Rows L2
/-! ### x is not True, x is not False, x a whole number or a truth -/
def rNotBx : R2 := fun x y H Q => ∃ b : Bool, y = .bl b ∧ ((∃ a : Bool, x = .bl a ∧ Q (.bl (!decide (a = b))) H) ∨ ∃ i : Int, x = .int i ∧ Q (.bl true) H)
theorem op_notBx {X : Cx} : OpR X (compareOp .IsNot) rNotBx := by
  intro pins s σ H x y v u Q I rx ry h
  obtain ⟨b, rfl, ⟨a, rfl, q⟩ | ⟨i, rfl, q⟩⟩ := h
  · exact op_notBl pins s σ H _ _ v u Q I rx ry ⟨a, b, rfl, rfl, q⟩
  · cases (show u = Value.bool b from ry)
    obtain ⟨t, rfl⟩ := _root_.id rx
    exact wpAny_isNot_other rfl (fun z => by cases z) ⟨.bl true, H, I, rfl, q⟩
theorem tyx_bool {K : PySem.W.Frag} {H : Hp} {x : V} {t : Value} (h : TyX K H x t) (e : t = .type "bool") : ∃ b, x = .bl b := by
  cases h with
  | base b =>
    cases b with
    | bl b => exact ⟨b, rfl⟩
    | ins => cases e
    | _ => exact absurd (Value.type.inj e) (by decide)
  | _ => exact absurd (Value.type.inj e) (by decide)
theorem is_truth {K : PySem.W.Frag} {H : Hp} {x : V} {T : String} (h : Is K H x T) (e : T = "bool") : ∃ b, x = .bl b := tyx_bool h.1 (by rw [e])
end SfG
/-! data with empty dicts: what is read, shown, compared -/
namespace SfG
open PySem PySem.Spec PyProof.Rows L2
mutual
inductive Dx (K : PySem.W.Frag) (H : Hp) : V → PyData → Prop
  | non : Dx K H .non .none
  | bl (b : Bool) : Dx K H (.bl b) (.bool b)
  | int (i : Int) : Dx K H (.int i) (.int i)
  | str (z : Str) : Dx K H (.str z) (.str z)
  | lst {p : Addr} {l : List V} {ds : List PyData} : SqL K H p l → DxA K H l ds → Dx K H (.ref p) (.list ds)
  | tup {p : Addr} {l : List V} {ds : List PyData} : SqT K H p l → DxA K H l ds → Dx K H (.ref p) (.tuple ds)
  | emp {p : Addr} : H p = some (.dK []) → Dx K H (.ref p) (.dict [])
inductive DxA (K : PySem.W.Frag) (H : Hp) : List V → List PyData → Prop
  | nil : DxA K H [] []
  | cons {v : V} {l : List V} {d : PyData} {ds : List PyData} : Dx K H v d → DxA K H l ds → DxA K H (v :: l) (d :: ds)
end
section
variable {X : Cx} {pins : List (Addr × Obj)} {σ : L2.St} {H : Hp} {s : Shared}
theorem emp_at (I : L2.Inv X pins σ H s) {p : Addr} (h : H p = some (.dK [])) : ∃ o n, s.heap.get? p = some o ∧ o.cls = .type "dict" ∧ o.data = .dict #[] n ∧ (p == sysModules) = false := by
  obtain ⟨_, hsm, vs, r, o, es, ep, e1, e2, e3, e4, e5, _⟩ := dk_of I.hok h
  cases r
  obtain ⟨l⟩ := es
  have e5' : Pairs (mixKind X.prog X.w) l [] := e5
  have e : l = [] := by
    cases l with
    | nil => rfl
    | cons a b => cases e5'
  subst e
  exact ⟨o, ep, e1, e2.1, e3, hsm⟩
mutual
theorem Dx.reads (I : L2.Inv X pins σ H s) : ∀ (d : PyData) (v : V) (u : Value), Dx X.K H v d → RelV v u → ∃ q, Reads s.heap u d q
  | .none, _, _, h, r => by
    cases h
    cases r
    exact ⟨_, .none⟩
  | .bool b, _, _, h, r => by
    cases h
    cases r
    exact ⟨_, .bool b⟩
  | .int i, _, _, h, r => by
    cases h
    obtain ⟨t, rfl⟩ := r
    exact ⟨_, .int i t⟩
  | .str x, _, _, h, r => by
    cases h
    obtain ⟨t, rfl⟩ := r
    exact ⟨_, .str x t⟩
  | .list ds, _, _, h, r => by
    cases h with
    | lst hp hl =>
      cases r
      obtain ⟨us, rv, ⟨o, n, g1, g2, _, g3⟩, _⟩ := I.list hp
      obtain ⟨q, hq⟩ := DxA.reads I ds _ us hl rv
      exact ⟨_, .list g1 g2 g3 hq⟩
  | .tuple ds, _, _, h, r => by
    cases h with
    | tup hp hl =>
      cases r
      obtain ⟨us, rv, ⟨o, g1, g2, n, g3⟩, _⟩ := I.tuple hp
      obtain ⟨q, hq⟩ := DxA.reads I ds _ us hl rv
      exact ⟨_, .tuple g1 g2 g3 hq⟩
  | .dict _, _, _, h, r => by
    cases h with
    | emp hp =>
      cases r
      obtain ⟨o, n, g1, g2, g3, _⟩ := emp_at I hp
      exact ⟨_, .dict g1 g2 g3 ReadsAll.nil ReadsAll.nil⟩
theorem DxA.reads (I : L2.Inv X pins σ H s) : ∀ (ds : List PyData) (l : List V) (us : List Value), DxA X.K H l ds → Vals l us → ∃ q, ReadsAll s.heap us ds q
  | [], _, _, h, r => by
    cases h
    cases r
    exact ⟨_, .nil⟩
  | d :: ds, _, _, h, r => by
    cases h with
    | cons h1 h2 =>
      cases r with
      | cons r1 r2 =>
        obtain ⟨q1, g1⟩ := Dx.reads I d _ _ h1 r1
        obtain ⟨q2, g2⟩ := DxA.reads I ds _ _ h2 r2
        exact ⟨_, .cons g1 g2⟩
end
theorem noRead (h : Heap) (n : Nat) : ReadAtMost h n [] := by
  intro b z
  cases z
theorem text_empty_dict : PyData.shown (.dict []) = dictText [] := rfl
mutual
/-- what is shown of it, at any depth -/
theorem Dx.look (I : L2.Inv X pins σ H s) : ∀ (d : PyData) (v : V) (u : Value), Dx X.K H v d → RelV v u → d.showable = true → d.shown.length ≤ sizeLine →
    ∃ q, ReadAtMost s.heap d.depth q ∧ ReprK X.prog X.w q s.heap d.depth u d.shown
  | .none, _, _, h, r, _, _ => by
    cases h
    cases r
    exact ⟨[], noRead _ _, .of_is ReprIs.none _ _ _⟩
  | .bool b, _, _, h, r, _, _ => by
    cases h
    cases r
    exact ⟨[], noRead _ _, .of_is (ReprIs.bool b) _ _ _⟩
  | .int i, _, _, h, r, hs, _ => by
    cases h
    obtain ⟨t, rfl⟩ := r
    exact ⟨[], noRead _ _, .of_is (ReprIs.int t (of_decide_eq_true hs)) _ _ _⟩
  | .str x, _, _, h, r, _, hz => by
    cases h
    obtain ⟨t, rfl⟩ := r
    exact ⟨[], noRead _ _, .of_is (ReprIs.str x t hz) _ _ _⟩
  | .list ds, v, u, h, r, hs, hz => by
    obtain ⟨q0, rd⟩ := Dx.reads I _ v u h r
    cases h with
    | lst hp hl =>
      cases r
      obtain ⟨us, rv, ⟨o, n, g1, g2, _, g3⟩, _⟩ := I.list hp
      have hz1 : (listText (PyData.shownAll ds)).length ≤ sizeLine := hz
      obtain ⟨q, hq, hk⟩ := DxA.look I ds _ us hl rv hs fun t ht => Nat.le_trans (listText_mem_le ht) hz1
      have hd : (PyData.list ds).depth = PyData.depthAll ds + 1 := by rw [PyData.depth]
      have hn := not_mem_of_deeper rd (by omega) hq
      refine ⟨_ :: q, .cons rd (by omega) hq, ?_⟩
      rw [hd]
      show ReprK _ _ _ _ _ _ (listText (PyData.shownAll ds))
      cases us with
      | nil =>
        have e : PyData.shownAll ds = [] := List.length_eq_zero_iff.mp hk.length_eq
        rw [e]
        exact .listEmpty g1 g2 g3
      | cons a b => exact .list g1 g2 g3 hn (by simpa using hk.length_eq) fun i y e => hk.item i y (by simpa using e)
  | .tuple ds, v, u, h, r, hs, hz => by
    obtain ⟨q0, rd⟩ := Dx.reads I _ v u h r
    cases h with
    | tup hp hl =>
      cases r
      obtain ⟨us, rv, ⟨o, g1, g2, n, g3⟩, _⟩ := I.tuple hp
      have hz1 : (tupleText (PyData.shownAll ds)).length ≤ sizeLine := hz
      obtain ⟨q, hq, hk⟩ := DxA.look I ds _ us hl rv hs fun t ht => Nat.le_trans (tupleText_mem_le ht) hz1
      have hd : (PyData.tuple ds).depth = PyData.depthAll ds + 1 := by rw [PyData.depth]
      have hn := not_mem_of_deeper rd (by omega) hq
      refine ⟨_ :: q, .cons rd (by omega) hq, ?_⟩
      rw [hd]
      exact .tuple g1 g2 g3 hn hk
  | .dict _, v, u, h, r, _, _ => by
    obtain ⟨q0, rd⟩ := Dx.reads I _ v u h r
    cases h with
    | emp hp =>
      cases r
      obtain ⟨o, n, g1, g2, g3, g4⟩ := emp_at I hp
      have hd : (PyData.dict []).depth = 0 + 1 := by decide
      refine ⟨[_], .cons rd (n := 0) (by omega) (noRead _ _), ?_⟩
      rw [hd, text_empty_dict]
      exact .dict g1 g2 g3 g4 (by simp) ReprEntriesK.nil
theorem DxA.look (I : L2.Inv X pins σ H s) : ∀ (ds : List PyData) (l : List V) (us : List Value), DxA X.K H l ds → Vals l us → PyData.showableAll ds = true → (∀ t ∈ PyData.shownAll ds, t.length ≤ sizeLine) →
    ∃ q, ReadAtMost s.heap (PyData.depthAll ds) q ∧ ReprAllK X.prog X.w q s.heap (PyData.depthAll ds) us (PyData.shownAll ds)
  | [], _, _, h, r, _, _ => by
    cases h
    cases r
    exact ⟨[], noRead _ _, ReprAllK.nil⟩
  | d :: ds, _, _, h, r, hs, hz => by
    cases h with
    | cons h1 h2 =>
      cases r with
      | cons r1 r2 =>
        rw [PyData.showableAll, Bool.and_eq_true] at hs
        have hm : d.shown ∈ PyData.shownAll (d :: ds) := by
          rw [PyData.shownAll]
          exact List.mem_cons_self
        obtain ⟨q1, a1, k1⟩ := Dx.look I d _ _ h1 r1 hs.1 (hz _ hm)
        obtain ⟨q2, a2, k2⟩ := DxA.look I ds _ _ h2 r2 hs.2 fun t ht => hz t (by rw [PyData.shownAll]; exact List.mem_cons_of_mem _ ht)
        have m1 : d.depth ≤ PyData.depthAll (d :: ds) := by
          rw [PyData.depthAll]
          omega
        have m2 : PyData.depthAll ds ≤ PyData.depthAll (d :: ds) := by
          rw [PyData.depthAll]
          omega
        refine ⟨q1 ++ q2, (a1.mono m1).append (a2.mono m2), ?_⟩
        rw [PyData.shownAll]
        exact .cons ((k1.more fun b z => List.mem_append_left _ z).level_le m1) (k2.more_le (fun b z => List.mem_append_right _ z) m2)
end
end
/-! ### repr of a list of such data -/
def rReprX (K : PySem.W.Frag) : List V → Hp → VK → Prop := fun xs H Q =>
  ∃ (v : V) (ds : List PyData) (S : Str), xs = [v] ∧ Dx K H v (.list ds) ∧ PyData.showableAll ds = true ∧
    (PyData.list ds).depth ≤ 40 ∧ (PyData.list ds).shown = S ∧ S.length ≤ sizeLine ∧ Q (.str S) H
theorem call_reprX {X : Cx} {k : Nat} (hr : Room k X.A) (hgd : X.A.guards = some []) :
    CallR X (.builtin "repr") (rReprX X.K) := by
  intro pins s σ H xs us Q I r h
  obtain ⟨v, ds, S, rfl, hd, hs, hdep, rfl, hz, q⟩ := h
  obtain ⟨u, rfl, ru⟩ := vals1 r
  obtain ⟨q0, rd⟩ := Dx.reads I _ v u hd ru
  cases hd with
  | lst hp hl =>
    cases ru
    obtain ⟨vs, rv, ⟨o, n, g1, g2, _, g3⟩, _⟩ := I.list hp
    have hz1 : (listText (PyData.shownAll ds)).length ≤ sizeLine := hz
    obtain ⟨q1, hq, hk⟩ := DxA.look I ds _ vs hl rv hs fun t ht => Nat.le_trans (listText_mem_le ht) hz1
    have hde : (PyData.list ds).depth = PyData.depthAll ds + 1 := by rw [PyData.depth]
    have hn := not_mem_of_deeper rd (by omega) hq
    have hun := hr.un
    refine call_repr_slot (by omega) ⟨o, g1, g2⟩ F.slot_list_repr.toG ?_
    cases vs with
    | nil =>
      have e0 : PyData.shownAll ds = [] := List.length_eq_zero_iff.mp hk.length_eq
      have e : (PyData.list ds).shown = "[]" := by
        rw [PyData.shown, e0]
        rfl
      rw [e] at q
      exact call_list_repr_empty ⟨o, g1, g2⟩ g1 g3 ⟨_, _, rfl, .str "[]", H, I.tok _, ⟨_, rfl⟩, q⟩
    | cons a b =>
      refine call_list_reprK g1 g2 g3 hn (by simpa using hk.length_eq) (fun i y e => hk.item i y (by simpa using e)) (show X.A.in1.guards = some [] from hgd) (fun b _ => Clear.nil b) ?_ (fun _ _ z => z) (fun h' u' tk hk' => ?_) hz1
      · show X.A.units + 1 + _ < cLine
        omega
      · exact ⟨_, _, rfl, .str _, H, I.kept hk', ⟨_, rfl⟩, q⟩
end SfG
/-! such data: its parts, how it stays, == with a text, with () and [] -/
namespace SfG
open PySem PySem.Spec PyProof.Rows L2
section
variable {K : PySem.W.Frag} {H : Hp} {v : V}
theorem dx_str {z : Str} (h : Dx K H v (.str z)) : v = .str z := by cases h; rfl
theorem dx_int {n : Int} (h : Dx K H v (.int n)) : v = .int n := by cases h; rfl
theorem dx_bool {b : Bool} (h : Dx K H v (.bool b)) : v = .bl b := by cases h; rfl
theorem dx_tup {ds : List PyData} (h : Dx K H v (.tuple ds)) : ∃ p xs, v = .ref p ∧ SqT K H p xs ∧ DxA K H xs ds := by
  cases h with
  | tup h hs => exact ⟨_, _, rfl, h, hs⟩
theorem dx_lst {ds : List PyData} (h : Dx K H v (.list ds)) : ∃ p xs, v = .ref p ∧ SqL K H p xs ∧ DxA K H xs ds := by
  cases h with
  | lst h hs => exact ⟨_, _, rfl, h, hs⟩
theorem dxA_nil {xs : List V} (h : DxA K H xs []) : xs = [] := by cases h; rfl
theorem dxA_cons {xs : List V} {d : PyData} {ds : List PyData} (h : DxA K H xs (d :: ds)) : ∃ x r, xs = x :: r ∧ Dx K H x d ∧ DxA K H r ds := by
  cases h with
  | cons a b => exact ⟨_, _, rfl, a, b⟩
theorem dxA_len : ∀ {ds : List PyData} {xs : List V}, DxA K H xs ds → xs.length = ds.length
  | [], _, h => by
    rw [dxA_nil h]
    rfl
  | _ :: _, _, h => by
    obtain ⟨x, r, rfl, _, hr⟩ := dxA_cons h
    rw [List.length_cons, List.length_cons, dxA_len hr]
theorem dxA_get : ∀ {ds : List PyData} {xs : List V} {i : Nat} {d : PyData}, DxA K H xs ds → ds[i]? = some d → ∃ x, xs[i]? = some x ∧ Dx K H x d
  | [], _, i, d, _, h => by simp at h
  | a :: r, xs, 0, d, hs, h => by
    obtain ⟨x, r', rfl, hx, _⟩ := dxA_cons hs
    have e : a = d := Option.some.inj h
    exact ⟨x, rfl, e ▸ hx⟩
  | a :: r, xs, i + 1, d, hs, h => by
    obtain ⟨x, r', rfl, _, hr⟩ := dxA_cons hs
    obtain ⟨y, hy, hd⟩ := dxA_get hr (show r[i]? = some d from h)
    exact ⟨y, hy, hd⟩
/-- by the item -/
theorem dxA_at : ∀ {ds : List PyData} {xs : List V} {i : Nat} {x : V}, DxA K H xs ds → xs[i]? = some x → ∃ d, ds[i]? = some d ∧ Dx K H x d
  | [], _, i, d, hs, h => by
    rw [dxA_nil hs] at h
    simp at h
  | a :: r, xs, 0, d, hs, h => by
    obtain ⟨x, r', rfl, hx, _⟩ := dxA_cons hs
    have e : x = d := Option.some.inj h
    exact ⟨a, rfl, e ▸ hx⟩
  | a :: r, xs, i + 1, d, hs, h => by
    obtain ⟨x, r', rfl, _, hr⟩ := dxA_cons hs
    obtain ⟨y, hy, hd⟩ := dxA_at hr (show r'[i]? = some d from h)
    exact ⟨y, hy, hd⟩
theorem dxA_take : ∀ {ds : List PyData} {xs : List V} (n : Nat), DxA K H xs ds → DxA K H (xs.take n) (ds.take n)
  | [], _, n, h => by
    rw [dxA_nil h]
    simpa using DxA.nil
  | _ :: _, _, 0, _ => by simpa using DxA.nil
  | _ :: _, _, n + 1, h => by
    obtain ⟨x, r, rfl, hx, hr⟩ := dxA_cons h
    exact .cons hx (dxA_take n hr)
theorem dxA_drop : ∀ {ds : List PyData} {xs : List V} (n : Nat), DxA K H xs ds → DxA K H (xs.drop n) (ds.drop n)
  | [], _, n, h => by
    rw [dxA_nil h]
    simpa using DxA.nil
  | _ :: _, _, 0, h => h
  | _ :: _, _, n + 1, h => by
    obtain ⟨x, r, rfl, hx, hr⟩ := dxA_cons h
    exact dxA_drop n hr
theorem dxA_app : ∀ {ds es : List PyData} {xs ys : List V}, DxA K H xs ds → DxA K H ys es → DxA K H (xs ++ ys) (ds ++ es)
  | [], _, _, _, h, g => by
    rw [dxA_nil h]
    exact g
  | _ :: _, _, _, _, h, g => by
    obtain ⟨x, r, rfl, hx, hr⟩ := dxA_cons h
    exact .cons hx (dxA_app hr g)
theorem dxA_rev : ∀ {ds : List PyData} {xs : List V}, DxA K H xs ds → DxA K H xs.reverse ds.reverse
  | [], _, h => by
    rw [dxA_nil h]
    exact .nil
  | _ :: _, _, h => by
    obtain ⟨x, r, rfl, hx, hr⟩ := dxA_cons h
    rw [List.reverse_cons, List.reverse_cons]
    exact dxA_app (dxA_rev hr) (.cons hx .nil)
mutual
theorem Dp.dx : ∀ {d : PyData} {v : V}, Dp K H v d → Dx K H v d
  | _, _, .non => .non
  | _, _, .bl b => .bl b
  | _, _, .int i => .int i
  | _, _, .str x => .str x
  | _, _, .lst h hs => .lst h (Dp.dxA hs)
  | _, _, .tup h hs => .tup h (Dp.dxA hs)
theorem Dp.dxA : ∀ {ds : List PyData} {vs : List V}, DpAll K H vs ds → DxA K H vs ds
  | _, _, .nil => .nil
  | _, _, .cons h hs => .cons (Dp.dx h) (Dp.dxA hs)
end
end
/-- what keeps lists, tuples and empty dicts keeps such data -/
structure Kx (K : PySem.W.Frag) (H H' : Hp) : Prop where
  kd : Kd K H H'
  e : ∀ {p}, H p = some (.dK []) → H' p = some (.dK [])
theorem Gr.kx {K : PySem.W.Frag} {H H' : Hp} (g : Gr H H') : Kx K H H' := ⟨g.kd, fun h => g.dic h⟩
theorem Gp.kx {K : PySem.W.Frag} {p : Addr} {H H' : Hp} {k : Key × V} {kv : List (Key × V)} (g : Gp p H H') (hp : H p = some (.dK (k :: kv))) : Kx K H H' := by
  refine ⟨g.kd hp, ?_⟩
  intro b h
  refine g.keep b _ ?_ h (fun _ z => by cases z)
  intro z
  rw [z, hp] at h
  cases h
theorem Kx.trans {K : PySem.W.Frag} {H H1 H2 : Hp} (a : Kx K H H1) (b : Kx K H1 H2) : Kx K H H2 := ⟨⟨fun h => b.kd.l (a.kd.l h), fun h => b.kd.t (a.kd.t h)⟩, fun h => b.e (a.e h)⟩
mutual
theorem Kx.dx {K : PySem.W.Frag} {H H' : Hp} (g : Kx K H H') : ∀ {d : PyData} {v : V}, Dx K H v d → Dx K H' v d
  | _, _, .non => .non
  | _, _, .bl b => .bl b
  | _, _, .int i => .int i
  | _, _, .str x => .str x
  | _, _, .lst h hs => .lst (g.kd.l h) (g.dxA hs)
  | _, _, .tup h hs => .tup (g.kd.t h) (g.dxA hs)
  | _, _, .emp h => .emp (g.e h)
theorem Kx.dxA {K : PySem.W.Frag} {H H' : Hp} (g : Kx K H H') : ∀ {ds : List PyData} {vs : List V}, DxA K H vs ds → DxA K H' vs ds
  | _, _, .nil => .nil
  | _, _, .cons h hs => .cons (g.dx h) (g.dxA hs)
end
theorem dx_is {K : PySem.W.Frag} {H : Hp} {v : V} {d : PyData} (h : Dx K H v d) : Is K H v (tyD d) := by
  cases h with
  | non => exact ⟨.base .non, by decide +kernel⟩
  | bl b => exact ⟨.base (.bl b), by show "bool" ∈ kinds; decide +kernel⟩
  | int i => exact ⟨.base (.int i), by show "int" ∈ kinds; decide +kernel⟩
  | str x => exact ⟨.base (.str x), by show "str" ∈ kinds; decide +kernel⟩
  | lst h _ => exact ⟨tyx_lst h, by show "list" ∈ kinds; decide +kernel⟩
  | tup h _ => exact ⟨tyx_tup h, by show "tuple" ∈ kinds; decide +kernel⟩
  | emp h => exact ⟨.base (.dK h), by show "dict" ∈ kinds; decide +kernel⟩
/-! ### == -/
theorem dict_eq_str (l : Addr) (es : Array DictEntry) (n : Nat) (dd : Option Addr) (sl : Array (Option Value)) (b : Str) (u : Tok) :
    Meets (Builtin.«dict.__eq__» ⟨[.ref l, .str b u], []⟩) (fun _ R s => s.heap.get? l = some { cls := .type "dict", dict := dd, data := .dict es n, slots := sl } ∧ R (.ok (.ret .notImplemented)) s) := by
  refine .of_wp fun prog w A R s h => ?_
  obtain ⟨hp, g, d, tk, os⟩ := s
  obtain ⟨hl, h⟩ := h
  have f1 := F.sub_str_dict
  wp_walk using wpAny_loadPart' hl
  exact ⟨_, rfl, h⟩
theorem str_eq_dict (b : Str) (u : Tok) (l : Addr) (es : Array DictEntry) (n : Nat) (dd : Option Addr) (sl : Array (Option Value)) :
    Meets (Builtin.«str.__eq__» ⟨[.str b u, .ref l], []⟩) (fun _ R s => s.heap.get? l = some { cls := .type "dict", dict := dd, data := .dict es n, slots := sl } ∧ R (.ok (.ret .notImplemented)) s) := by
  refine .of_wp fun prog w A R s h => ?_
  obtain ⟨hp, g, d, tk, os⟩ := s
  obtain ⟨hl, h⟩ := h
  wp_walk using wpAny_loadPart' hl, wpAny_load hl
  exact ⟨_, rfl, h⟩
end SfG
namespace SfG
open PySem PySem.Spec PyProof.Rows L2
section
variable {A : Around} {s : Shared}
theorem rc_dict_str {l : Addr} {o : Obj} {es : Array DictEntry} {n : Nat} (b : Str) (u : Tok) (ho : s.heap.get? l = some o) (hc : o.cls = .type "dict") (hd : o.data = .dict es n) (hu : A.units < cLine) :
    SeqAt.RcAt A s (.ref l) (.str b u) false := fun prog w E Q h => by
  obtain ⟨cls, dd, data, sl⟩ := o
  simp only at hc hd
  subst hc hd
  refine SeqAt.rc_eq_decline_or (k := false) ⟨_, ho, rfl⟩ (typeIs_str s b u) (by decide) F.sub_str_dict F.slot_dict_eq F.slot_str_eq_refl ?_ ?_ ?_ (.inr hu) h
  · intro Q' hq
    exact call_meets F.slot_dict_eq ⟨_, ho, rfl⟩ F.entry_dict_eq (F.args_dict_eq_2 _ _) (dict_eq_str l es n dd sl b u) ⟨ho, hq⟩
  · intro Q' hq
    exact call_meets F.slot_str_eq_refl (typeIs_str s b u) F.entry_str_eq (F.args_str_eq_2 _ _) (str_eq_dict b u l es n dd sl) ⟨ho, hq⟩
  · intro Q' hq
    exact wpAny_of_eq (show isSame (.ref l) (.str b u) = pure false from rfl) hq
end
/-- a thing is this text -/
def eqS : PyData → Str → Bool
  | .str a, z => decide (a = z)
  | _, _ => false
def rEqXS (K : PySem.W.Frag) : R2 := fun x y H Q => ∃ (d : PyData) (z : Str), Dx K H x d ∧ y = .str z ∧ Q (.bl (eqS d z)) H
section
variable {X : Cx}
theorem op_eqXS {k : Nat} (hr : Room k X.A) : OpR X (compareOp .Eq) (rEqXS X.K) := by
  intro pins s σ H x y v u Q I rx ry h
  obtain ⟨d, z, hx, rfl, q⟩ := h
  obtain ⟨t, rfl⟩ := ry
  have hu : X.A.units < cLine := by
    have := hr.un
    omega
  have fin : Q (.bl (eqS d z)) H → EP X pins σ Q (.bool (eqS d z)) s := fun q => ⟨.bl _, H, I, rfl, q⟩
  cases hx with
  | non =>
    cases rx
    exact SeqAt.RcAt.none_str z t _ _ _ _ (fin q)
  | bl b =>
    cases rx
    exact SeqAt.RcAt.bool_str b z t _ _ _ _ (fin q)
  | int i =>
    obtain ⟨t', rfl⟩ := rx
    exact SeqAt.RcAt.int_str i t' z t _ _ _ _ (fin q)
  | str a =>
    obtain ⟨t', rfl⟩ := rx
    have e : (a == z) = decide (a = z) := by
      by_cases c : a = z
      · rw [decide_eq_true c, c]
        exact beq_self_eq_true z
      · rw [decide_eq_false c]
        exact beq_eq_false_iff_ne.mpr c
    refine SeqAt.RcAt.str_str a t' z t _ _ _ _ ?_
    rw [e]
    exact fin q
  | lst hp hl =>
    cases rx
    obtain ⟨us, rv, ⟨o, n, g1, g2, _, g3⟩, _⟩ := I.list hp
    exact SeqAt.RcAt.list_str z t ⟨o, g1, g2, n, g3⟩ hu _ _ _ _ (fin q)
  | tup hp hl =>
    cases rx
    obtain ⟨us, rv, ⟨o, g1, g2, n, g3⟩, _⟩ := I.tuple hp
    exact SeqAt.RcAt.tuple_str z t ⟨o, g1, g2, n, g3⟩ hu _ _ _ _ (fin q)
  | emp hp =>
    cases rx
    obtain ⟨o, n, g1, g2, g3, _⟩ := emp_at I hp
    exact rc_dict_str z t g1 g2 g3 hu _ _ _ _ (fin q)
def rEqT0 (K : PySem.W.Frag) : R2 := fun x y H Q => ∃ (p q : Addr) (l : List V), x = .ref p ∧ y = .ref q ∧ SqT K H p l ∧ SqT K H q [] ∧ Q (.bl l.isEmpty) H
theorem op_eqT0 {k : Nat} (hr : Room k X.A) : OpR X (compareOp .Eq) (rEqT0 X.K) := by
  intro pins s σ H x y v u Q I rx ry h
  obtain ⟨p, q, l, rfl, rfl, hp, hq, g⟩ := h
  cases rx
  cases ry
  have hu : X.A.units < cLine := by
    have := hr.un
    omega
  obtain ⟨us, rv, tp, _⟩ := I.tuple hp
  obtain ⟨ws, rw', tq, _⟩ := I.tuple hq
  cases rw'
  refine SeqAt.eq_tupleAt (e := fun _ => true) tp tq hu (fun j h1 h2 => absurd h2 (by simp)) ?_
  have e : ((List.range (min us.toArray.size ([] : List Value).toArray.size)).all (fun _ => true) && us.toArray.size == ([] : List Value).toArray.size) = l.isEmpty := by
    cases rv with
    | nil => rfl
    | cons a b => simp
  rw [e]
  exact ⟨.bl _, H, I, rfl, g⟩
def rEqL0 (K : PySem.W.Frag) : R2 := fun x y H Q => ∃ (p q : Addr) (l : List V), x = .ref p ∧ y = .ref q ∧ SqL K H p l ∧ SqL K H q [] ∧ Q (.bl l.isEmpty) H
theorem op_eqL0 {k : Nat} (hr : Room k X.A) : OpR X (compareOp .Eq) (rEqL0 X.K) := by
  intro pins s σ H x y v u Q I rx ry h
  obtain ⟨p, q, l, rfl, rfl, hp, hq, g⟩ := h
  cases rx
  cases ry
  have hu : X.A.units < cLine := by
    have := hr.un
    omega
  obtain ⟨us, rv, ⟨o, n, a1, a2, _, a3⟩, _⟩ := I.list hp
  obtain ⟨ws, rw', ⟨o2, n2, b1, b2, _, b3⟩, _⟩ := I.list hq
  cases rw'
  cases rv with
  | nil => exact SeqAt.eq_listAt (e := fun _ => true) ⟨o, a1, a2, n, a3⟩ ⟨o2, b1, b2, n2, b3⟩ rfl hu (fun j h1 h2 => absurd h2 (by simp)) ⟨.bl true, H, I, rfl, g⟩
  | cons a b => exact SeqAt.eq_list_lengthsAt ⟨o, a1, a2, n, a3⟩ ⟨o2, b1, b2, n2, b3⟩ (by simp) hu ⟨.bl false, H, I, rfl, g⟩
end
end SfG
/-! how great data is -/
namespace SfG
open PySem PySem.Spec PyProof.Rows L2
mutual
/-- how long it is when shown, at most -/
def wt : PyData → Nat
  | .none => 5
  | .bool _ => 5
  | .int i => i.natAbs.log2 + 3
  | .str z => 10 * z.length + 2
  | .list ds => wtA ds + 3
  | .tuple ds => wtA ds + 3
  | .dict _ => 2
def wtA : List PyData → Nat
  | [] => 0
  | d :: ds => wt d + 2 + wtA ds
end
mutual
/-- of plain texts, of numbers that can be shown, of empty dicts -/
def okd : PyData → Bool
  | .none => true
  | .bool _ => true
  | .int i => decide (i.natAbs.log2 < 1900)
  | .str z => z.cps.toList.all fun c => decide (c < 128)
  | .list ds => okdA ds
  | .tuple ds => okdA ds
  | .dict kvs => kvs.isEmpty
def okdA : List PyData → Bool
  | [] => true
  | d :: ds => okd d && okdA ds
end
theorem okd_str {z : Str} (h : okd (.str z) = true) : ∀ c ∈ z.cps.toList, c < 128 := by
  rw [okd] at h
  exact fun c hc => of_decide_eq_true (List.all_eq_true.mp h c hc)
mutual
theorem okd_able : ∀ {d : PyData}, okd d = true → d.showable = true
  | .none, _ => rfl
  | .bool _, _ => rfl
  | .int i, h => by
    rw [okd, decide_eq_true_eq] at h
    rw [PyData.showable]
    exact decide_eq_true (by omega)
  | .str z, _ => rfl
  | .list ds, h => by
    rw [okd] at h
    rw [PyData.showable]
    exact okdA_able h
  | .tuple ds, h => by
    rw [okd] at h
    rw [PyData.showable]
    exact okdA_able h
  | .dict [], _ => rfl
  | .dict (_ :: _), h => by
    rw [okd] at h
    cases h
theorem okdA_able : ∀ {ds : List PyData}, okdA ds = true → PyData.showableAll ds = true
  | [], _ => rfl
  | d :: ds, h => by
    rw [okdA, Bool.and_eq_true] at h
    rw [PyData.showableAll, okd_able h.1, okdA_able h.2]
    rfl
end
mutual
theorem okd_len : ∀ {d : PyData}, okd d = true → d.shown.length ≤ wt d
  | .none, _ => by decide
  | .bool true, _ => by decide
  | .bool false, _ => by decide
  | .int i, h => by
    have hl : i.natAbs.log2 < i.natAbs.log2 + 1 := by omega
    have e := int_text_length_le (k := i.natAbs.log2 + 1) (a := i) (by omega) hl
    show (Str.ofString (toString i)).length ≤ _
    rw [PySem.ofString_length, wt]
    omega
  | .str z, h => by
    have h1 := PySem.StrLaws.reprText_len z fun c hc => Nat.lt_of_lt_of_le (okd_str h c hc) (by decide)
    show (reprText z).length ≤ _
    rw [wt]
    omega
  | .list ds, h => by
    rw [okd] at h
    have h1 := okdA_len h
    have h2 := listText_len_le (PyData.shownAll ds)
    have h3 := PyData.shownAll_length ds
    rw [PyData.shown, wt]
    omega
  | .tuple ds, h => by
    rw [okd] at h
    have h1 := okdA_len h
    have h2 := tupleText_len_le (PyData.shownAll ds)
    have h3 := PyData.shownAll_length ds
    rw [PyData.shown, wt]
    omega
  | .dict [], _ => by decide
  | .dict (_ :: _), h => by
    rw [okd] at h
    cases h
theorem okdA_len : ∀ {ds : List PyData}, okdA ds = true → ((PyData.shownAll ds).map (·.length)).sum + 2 * ds.length ≤ wtA ds
  | [], _ => by decide
  | d :: ds, h => by
    rw [okdA, Bool.and_eq_true] at h
    have h1 := okd_len h.1
    have h2 := okdA_len h.2
    rw [PyData.shownAll, List.map_cons, List.sum_cons, List.length_cons, wtA]
    omega
end
/-! ### parts -/
theorem okdA_app : ∀ {a b : List PyData}, okdA (a ++ b) = (okdA a && okdA b)
  | [], b => by
    rw [okdA]
    simp
  | d :: a, b => by
    rw [List.cons_append, okdA, okdA, okdA_app, Bool.and_assoc]
theorem wtA_app : ∀ {a b : List PyData}, wtA (a ++ b) = wtA a + wtA b
  | [], b => by
    rw [wtA]
    simp
  | d :: a, b => by
    rw [List.cons_append, wtA, wtA, wtA_app]
    omega
theorem depA_app : ∀ {a b : List PyData}, PyData.depthAll (a ++ b) = max (PyData.depthAll a) (PyData.depthAll b)
  | [], b => by
    rw [PyData.depthAll]
    simp
  | d :: a, b => by
    rw [List.cons_append, PyData.depthAll, PyData.depthAll, depA_app]
    omega
structure Wt (d : PyData) (L D : Nat) : Prop where
  ok : okd d = true
  le : wt d ≤ L
  dep : d.depth ≤ D
structure WtA (ds : List PyData) (L D : Nat) : Prop where
  ok : okdA ds = true
  le : wtA ds ≤ L
  dep : PyData.depthAll ds ≤ D
theorem Wt.mono {d : PyData} {L D L' D' : Nat} (h : Wt d L D) (hL : L ≤ L') (hD : D ≤ D') : Wt d L' D' := ⟨h.ok, Nat.le_trans h.le hL, Nat.le_trans h.dep hD⟩
theorem WtA.mono {d : List PyData} {L D L' D' : Nat} (h : WtA d L D) (hL : L ≤ L') (hD : D ≤ D') : WtA d L' D' := ⟨h.ok, Nat.le_trans h.le hL, Nat.le_trans h.dep hD⟩
theorem WtA.nil {L D : Nat} : WtA [] L D := ⟨rfl, by rw [wtA]; omega, by rw [PyData.depthAll]; omega⟩
theorem WtA.cons {d : PyData} {ds : List PyData} {L1 L2 D : Nat} (h : Wt d L1 D) (t : WtA ds L2 D) : WtA (d :: ds) (L1 + 2 + L2) D := by
  refine ⟨?_, ?_, ?_⟩
  · rw [okdA, h.ok, t.ok]
    rfl
  · have := h.le
    have := t.le
    rw [wtA]
    omega
  · have := h.dep
    have := t.dep
    rw [PyData.depthAll]
    omega
theorem WtA.app {a b : List PyData} {L1 L2 D : Nat} (h : WtA a L1 D) (t : WtA b L2 D) : WtA (a ++ b) (L1 + L2) D := by
  refine ⟨?_, ?_, ?_⟩
  · rw [okdA_app, h.ok, t.ok]
    rfl
  · have := h.le
    have := t.le
    rw [wtA_app]
    omega
  · have := h.dep
    have := t.dep
    rw [depA_app]
    omega
theorem WtA.take {a : List PyData} {L D : Nat} (h : WtA a L D) (n : Nat) : WtA (a.take n) L D := by
  obtain ⟨h1, h2, h3⟩ := h
  rw [← List.take_append_drop n a] at h1 h2 h3
  rw [okdA_app, Bool.and_eq_true] at h1
  rw [wtA_app] at h2
  rw [depA_app] at h3
  exact ⟨h1.1, by omega, by omega⟩
theorem WtA.drop {a : List PyData} {L D : Nat} (h : WtA a L D) (n : Nat) : WtA (a.drop n) L D := by
  obtain ⟨h1, h2, h3⟩ := h
  rw [← List.take_append_drop n a] at h1 h2 h3
  rw [okdA_app, Bool.and_eq_true] at h1
  rw [wtA_app] at h2
  rw [depA_app] at h3
  exact ⟨h1.2, by omega, by omega⟩
/-- both ends of it weigh no more than it -/
theorem wtA_ends (a : List PyData) {m n : Nat} (h : m ≤ n) : wtA (a.take m) + wtA (a.drop n) ≤ wtA a := by
  have e : a.drop m = (a.drop m).take (n - m) ++ a.drop n := by
    have := (List.take_append_drop (n - m) (a.drop m)).symm
    rw [List.drop_drop, show m + (n - m) = n by omega] at this
    exact this
  have e1 : wtA a = wtA (a.take m) + wtA (a.drop m) := by rw [← wtA_app, List.take_append_drop]
  rw [e1, e, wtA_app]
  omega
theorem WtA.get {a : List PyData} {L D i : Nat} {d : PyData} (h : WtA a L D) (e : a[i]? = some d) : Wt d L D := by
  have hd : a.drop i = d :: a.drop (i + 1) := by
    obtain ⟨hi, e'⟩ := List.getElem?_eq_some_iff.mp e
    rw [List.drop_eq_getElem_cons hi, e']
  obtain ⟨h1, h2, h3⟩ := h.drop i
  rw [hd, okdA, Bool.and_eq_true] at h1
  rw [hd, wtA] at h2
  rw [hd, PyData.depthAll] at h3
  exact ⟨h1.1, by omega, by omega⟩
theorem WtA.rev : ∀ {a : List PyData} {L D : Nat}, WtA a L D → WtA a.reverse L D
  | [], _, _, _ => WtA.nil
  | d :: ds, L, D, h => by
    obtain ⟨h1, h2, h3⟩ := h
    rw [okdA, Bool.and_eq_true] at h1
    rw [wtA] at h2
    rw [PyData.depthAll] at h3
    have r : WtA ds.reverse (wtA ds) D := WtA.rev ⟨h1.2, Nat.le_refl _, by omega⟩
    rw [List.reverse_cons]
    exact (r.app (WtA.cons (L1 := wt d) ⟨h1.1, Nat.le_refl _, by omega⟩ (WtA.nil (L := 0)))).mono (by omega) (Nat.le_refl _)
theorem Wt.tup {ds : List PyData} {L D : Nat} (h : WtA ds L D) : Wt (.tuple ds) (L + 3) (D + 1) := by
  refine ⟨h.ok, ?_, ?_⟩
  · have := h.le
    rw [wt]
    omega
  · have := h.dep
    rw [PyData.depth]
    omega
theorem Wt.lst {ds : List PyData} {L D : Nat} (h : WtA ds L D) : Wt (.list ds) (L + 3) (D + 1) := by
  refine ⟨h.ok, ?_, ?_⟩
  · have := h.le
    rw [wt]
    omega
  · have := h.dep
    rw [PyData.depth]
    omega
theorem Wt.un {ds : List PyData} {L D : Nat} (h : Wt (.tuple ds) L D) : WtA ds L D ∧ PyData.depthAll ds + 1 ≤ D ∧ wtA ds + 3 ≤ L := by
  obtain ⟨h1, h2, h3⟩ := h
  rw [wt] at h2
  rw [PyData.depth] at h3
  exact ⟨⟨h1, by omega, by omega⟩, h3, h2⟩
theorem Wt.text {z : Str} {L D : Nat} (h : Wt (.str z) L D) : 10 * z.length + 2 ≤ L := by
  have := h.le
  rw [wt] at this
  exact this
theorem Wt.lit {d : PyData} {L D : Nat} (h : (okd d && decide (wt d ≤ L) && decide (d.depth ≤ D)) = true) : Wt d L D := by
  rw [Bool.and_eq_true, Bool.and_eq_true, decide_eq_true_eq, decide_eq_true_eq] at h
  exact ⟨h.1.1, h.1.2, h.2⟩
end SfG
/-! d.get(k) of a written dict by texts -/
namespace SfG
open PySem PySem.Spec PyProof.Rows L2
/-- a dict of the module, all its keys texts: what is there by each -/
def KDo (K : PySem.W.Frag) (w : World) (p : Addr) (f : Str → Option V) : Prop :=
  ∃ es n, K.lookup p = some ⟨.type "dict", none, .dict es n, #[]⟩ ∧ PySem.W.KeysLit w.params es.toList ∧ (p == sysModules) = false ∧ ∀ z, RelO (f z) (findBy Value.isStrOf es z)
def tKGet (K : PySem.W.Frag) (w : World) (td ty : TE) : TE := fun σ H Q => td σ H fun x H1 => ∃ (p : Addr) (f : Str → Option V), x = .ref p ∧ KDo K w p f ∧ ty σ H1 fun y H2 => ∃ z : Str, y = .str z ∧ Q ((f z).getD .non) H2
theorem relO_getD {a : Option V} {b : Option Value} (h : RelO a b) : RelV (a.getD .non) (b.getD .none) := by
  cases a with
  | none =>
    cases b with
    | none => exact rfl
    | some u => exact absurd h id
  | some v =>
    cases b with
    | none => exact absurd h id
    | some u => exact h
theorem pe_kget {X : Cx} {o e : Expr} {apos cpos : Pos} {td ty : TE} (ho : PE X o td) (he : PE X e ty) (m : M1 X o "get" apos e cpos) : PE X (.Call (.Attribute o "get" apos) [e] [] cpos) (tKGet X.K X.w td ty) := by
  constructor
  intro pins s σ H Q I h
  refine wpAny_Call_method m.base m.few m.line PySem.F.plainAttrs_dict PySem.F.slot_dict_get PySem.F.type_dict_get ?_
  refine thn (ho.run pins s σ H _ I h) ?_
  rintro u s1 ⟨x, H1, I1, rx, p, f, rfl, ⟨es, n, hl, hk, hs, hf⟩, q1⟩
  cases (show u = Value.ref p from rx)
  have hm := fun (I : L2.Inv X pins σ H1 s1) => PySem.W.mapOf_K (prog := X.prog) (w := X.w) I.kIn hl hk
  refine ⟨(hm I1).typeIs, ?_, ?_⟩
  · intro b z
    cases z
    exact ⟨_, I1.kIn _ _ hl, rfl⟩
  rw [m.trees]
  refine Calls.callWith_builtin rfl (Calls.evalArgs_plain (Calls.spliced_cons (thn (he.run pins s1 σ H1 _ I1 q1) ?_)))
  rintro v s2 ⟨y, H2, I2, ry, z, rfl, q2⟩
  obtain ⟨t, rfl⟩ := (show ∃ t, v = Value.str z t from ry)
  refine Calls.spliced_nil ?_
  have hm2 := PySem.W.mapOf_K (prog := X.prog) (w := X.w) I2.kIn hl hk
  exact call_meetsIn PySem.F.slot_dict_get hm2.typeIs PySem.F.entry_dict_get (PySem.F.args_dict_get_2 _ _) (meets_dict_get (strKind X.prog X.w) p (strKind_is X.prog X.w z t) hs) ⟨_, hm2, _, H2, I2.tok _, relO_getD (hf z), q2⟩
end SfG
/-! data beside a thing that is changed: the heap without it -/
namespace SfG
open PySem PySem.Spec PyProof.Rows L2
def hide (S : List Addr) (H : Hp) : Hp := fun b => if b ∈ S then none else H b
/-- all these are there -/
def There (S : List Addr) (H : Hp) : Prop := ∀ f ∈ S, H f ≠ none
section
variable {K : PySem.W.Frag} {S : List Addr} {p r f : Addr} {H H' : Hp} {o : HO}
theorem hide_ne {b : Addr} (n : b ∉ S) : hide S H b = H b := if_neg n
theorem hide_of {b : Addr} (h : hide S H b = some o) : b ∉ S ∧ H b = some o := by
  by_cases c : b ∈ S
  · unfold hide at h
    rw [if_pos c] at h
    cases h
  · rw [hide_ne c] at h
    exact ⟨c, h⟩
theorem hide_upd (h : f ∈ S) : hide S (upd H f o) = hide S H := by
  funext b
  by_cases c : b ∈ S
  · unfold hide
    rw [if_pos c, if_pos c]
  · have n : b ≠ f := fun z => c (by rw [z]; exact h)
    rw [hide_ne c, hide_ne c, upd_ne n]
theorem hide_nil : hide [] H = H := by
  funext b
  exact hide_ne (by simp)
theorem kx_of (h : ∀ b o, H b = some o → (∀ ps, o ≠ .tbl ps) → (∀ k kv, o ≠ .dK (k :: kv)) → H' b = some o) : Kx K H H' := by
  refine ⟨⟨?_, ?_⟩, ?_⟩
  · intro a xs e
    rcases e with (e | ⟨o, e⟩) | e
    · exact .inl (.inl (h _ _ e (fun _ z => by cases z) (fun _ _ z => by cases z)))
    · exact .inl (.inr ⟨o, h _ _ e (fun _ z => by cases z) (fun _ _ z => by cases z)⟩)
    · exact .inr e
  · intro a xs e
    rcases e with (e | ⟨o, e⟩) | e
    · exact .inl (.inl (h _ _ e (fun _ z => by cases z) (fun _ _ z => by cases z)))
    · exact .inl (.inr ⟨o, h _ _ e (fun _ z => by cases z) (fun _ _ z => by cases z)⟩)
    · exact .inr e
  · intro q e
    exact h _ _ e (fun _ z => by cases z) (fun _ _ z => by cases z)
theorem hide_kx : Kx K (hide S H) H := kx_of fun b o h _ _ => (hide_of h).2
/-- fewer hidden -/
theorem hide_less {T : List Addr} (h : ∀ b ∈ T, b ∈ S) : Kx K (hide S H) (hide T H) := kx_of fun b o e _ _ => by
  obtain ⟨n, e1⟩ := hide_of e
  rw [hide_ne fun z => n (h b z)]
  exact e1
theorem hide_tail : Kx K (hide (f :: S) H) (hide S H) := hide_less fun b h => List.mem_cons_of_mem _ h
/-- a new one hidden: all that was stays -/
theorem hide_cons (n : H f = none) : Kx K (hide S H) (hide (f :: S) (upd H f o)) := kx_of fun b u e _ _ => by
  obtain ⟨n1, e1⟩ := hide_of e
  have nb : b ≠ f := ne_of_none e1 n
  rw [hide_ne (by simp [nb, n1]), upd_ne nb]
  exact e1
theorem Gr.hkx (g : Gr H H') : Kx K (hide S H) (hide S H') := kx_of fun b o h n _ => by
  obtain ⟨n1, h1⟩ := hide_of h
  rw [hide_ne n1]
  exact g.keep b o h1 n
theorem Gp.hkx {k : Key × V} {kv : List (Key × V)} (g : Gp p H H') (hp : H p = some (.dK (k :: kv))) : Kx K (hide S H) (hide S H') := kx_of fun b o h n nk => by
  obtain ⟨n1, h1⟩ := hide_of h
  rw [hide_ne n1]
  refine g.keep b o (fun z => ?_) h1 n
  rw [z, hp] at h1
  exact nk _ _ (Option.some.inj h1).symm
/-- with some hidden, one that is new -/
theorem hide_new (np : H r = none) (hf : There S H) : hide S (upd H r o) r = some o := by
  have n : r ∉ S := fun z => hf r z np
  rw [hide_ne n, upd_same]
theorem dx_newT {xs : List V} {ds : List PyData} (np : H r = none) (hf : There S H) (h : DxA K (hide S H) xs ds) : Dx K (hide S (upd H r (.tup xs))) (.ref r) (.tuple ds) :=
  .tup (.inl (.inl (hide_new np hf))) ((Gr.new np).hkx.dxA h)
theorem dx_newL {xs : List V} {ds : List PyData} (np : H r = none) (hf : There S H) (h : DxA K (hide S H) xs ds) : Dx K (hide S (upd H r (.lst xs))) (.ref r) (.list ds) :=
  .lst (.inl (.inl (hide_new np hf))) ((Gr.new np).hkx.dxA h)
theorem dx_newE (np : H r = none) (hf : There S H) : Dx K (hide S (upd H r (.dK []))) (.ref r) (.dict []) := .emp (hide_new np hf)
theorem There.gr (h : There S H) (g : Gr H H') : There S H' := fun f m z => h f m (g.back f z)
theorem There.upd (h : There S H) : There S (upd H r o) := fun f m z => by
  by_cases c : f = r
  · rw [c, upd_same] at z
    cases z
  · rw [upd_ne c] at z
    exact h f m z
theorem There.cons (h : There S H) (hf : H f ≠ none) : There (f :: S) H := fun b m => by
  rcases List.mem_cons.mp m with rfl | m
  · exact hf
  · exact h b m
theorem There.tail (h : There (f :: S) H) : There S H := fun b m => h b (List.mem_cons_of_mem _ m)
theorem There.nil : There [] H := fun b m => by cases m
end
/-! ### t + u, t[:n], t[n:]: whatever tuple comes -/
def rCatX (K : PySem.W.Frag) : R2 := fun x y H Q => ∃ (S : List Addr) (ds es : List PyData), Dx K (hide S H) x (.tuple ds) ∧ Dx K (hide S H) y (.tuple es) ∧ There S H ∧ ds.length + es.length ≤ sizeLine ∧
  ∀ v H', Gr H H' → Dx K (hide S H') v (.tuple (ds ++ es)) → Q v H'
section
variable {X : Cx}
theorem op_catX : OpR X (binaryOp .Add) (rCatX X.K) := by
  intro pins s σ H x y v u Q I rx ry h
  obtain ⟨f, ds, es, hx, hy, hf, hl, q⟩ := h
  obtain ⟨a, xs, rfl, ha, hxs⟩ := dx_tup hx
  obtain ⟨b, ys, rfl, hb, hys⟩ := dx_tup hy
  have l1 := dxA_len hxs
  have l2 := dxA_len hys
  refine op_catA pins s σ H _ _ v u Q I rx ry ⟨a, b, xs, ys, rfl, rfl, hide_kx.kd.t ha, hide_kx.kd.t hb, by omega, ?_, ?_, ?_⟩
  · rintro rfl
    have e : ds = [] := List.length_eq_zero_iff.mp (by rw [← l1]; rfl)
    subst e
    exact q _ H (Gr.refl H) hy
  · rintro _ rfl
    have e : es = [] := List.length_eq_zero_iff.mp (by rw [← l2]; rfl)
    subst e
    refine q _ H (Gr.refl H) ?_
    rw [List.append_nil]
    exact hx
  · intro _ _ r nr
    exact q _ _ (Gr.new nr) (dx_newT nr hf (dxA_app hxs hys))
/-- [lo:hi], both within it -/
def cutD (ds : List PyData) (lo hi : Option Int) : List PyData := (ds.drop (HT.sIx ds.length 0 lo)).take (HT.sIx ds.length ds.length hi - HT.sIx ds.length 0 lo)
theorem cut_to (ds : List PyData) {n : Nat} (h : n ≤ ds.length) : cutD ds none (some (n : Int)) = ds.take n := by
  unfold cutD
  rw [HT.sIx_none, HT.sIx_nat, Nat.min_eq_left h, List.drop_zero, Nat.sub_zero]
theorem cut_from (ds : List PyData) {n : Nat} (h : n ≤ ds.length) : cutD ds (some (n : Int)) none = ds.drop n := by
  unfold cutD
  rw [HT.sIx_none, HT.sIx_nat, Nat.min_eq_left h]
  refine List.take_of_length_le ?_
  rw [List.length_drop]
  exact Nat.le_refl _
def rSlX (K : PySem.W.Frag) : V → Option Int → Option Int → Hp → VK → Prop := fun x lo hi H Q => ∃ (S : List Addr) (ds : List PyData), Dx K (hide S H) x (.tuple ds) ∧ There S H ∧
  ∀ v H', Gr H H' → Dx K (hide S H') v (.tuple (cutD ds lo hi)) → Q v H'
theorem sl_tupX : SlR X (rSlX X.K) := by
  intro pins s σ H x v vl vu lo hi sl Q I rx hs pl pu h
  obtain ⟨f, ds, hx, hf, q⟩ := h
  obtain ⟨a, xs, rfl, ha, hxs⟩ := dx_tup hx
  have l1 := dxA_len hxs
  refine sl_tupA pins s σ H _ v vl vu lo hi sl Q I rx hs pl pu ⟨a, xs, rfl, hide_kx.kd.t ha, ?_, ?_⟩
  · intro hw
    refine q _ H (Gr.refl H) ?_
    rw [l1] at hw
    have e : cutD ds lo hi = ds := by
      unfold cutD
      rw [hw.1, hw.2, List.drop_zero, Nat.sub_zero, List.take_length]
    rw [e]
    exact hx
  · intro _ r nr
    refine q _ _ (Gr.new nr) (dx_newT nr hf ?_)
    unfold cutV cutD
    rw [l1]
    exact dxA_take _ (dxA_drop _ hxs)
end
end SfG
/-! i <= x, i < x, x a whole number or a truth -/
namespace SfG
open PySem PySem.Spec PyProof.Rows L2
def b2i (b : Bool) : Int := if b = true then 1 else 0
theorem ge_bool_int (a : Bool) (b : Int) (u : Tok) : Gives (Builtin.«int.__ge__» ⟨[.bool a, .int b u], []⟩) (.val (Value.bool ((fun x1 x2 => decide (x1 ≥ x2)) (if a = true then (1 : Int) else 0) b))) :=
  .of_wp fun M A E s Q h => by obtain ⟨hp, g, d, tk, os⟩ := s; wp_walk; exact ⟨_, rfl, h⟩
theorem gt_bool_int (a : Bool) (b : Int) (u : Tok) : Gives (Builtin.«int.__gt__» ⟨[.bool a, .int b u], []⟩) (.val (Value.bool ((fun x1 x2 => decide (x1 > x2)) (if a = true then (1 : Int) else 0) b))) :=
  .of_wp fun M A E s Q h => by obtain ⟨hp, g, d, tk, os⟩ := s; wp_walk; exact ⟨_, rfl, h⟩
section
variable {X : Cx}
def rLeX : R2 := fun x y H Q => ∃ i : Int, x = .int i ∧ ((∃ j : Int, y = .int j ∧ Q (.bl (decide (i ≤ j))) H) ∨ ∃ b : Bool, y = .bl b ∧ Q (.bl (decide (i ≤ b2i b))) H)
theorem op_leX : OpR X (compareOp .LtE) rLeX := by
  intro pins s σ H x y v u Q I rx ry h
  obtain ⟨i, rfl, ⟨j, rfl, q⟩ | ⟨b, rfl, q⟩⟩ := h
  · exact op_le pins s σ H _ _ v u Q I rx ry ⟨i, j, rfl, rfl, q⟩
  · obtain ⟨t, rfl⟩ := _root_.id rx
    cases (show u = Value.bool b from ry)
    show wpAny _ _ (richCompare .LtE (.int i t) (.bool b)) _ _ s
    exact SeqAt.rc_sub_first_or (typeIs_int s i t) rfl (by decide) F.sub_bool_int F.slot_bool_ge_refl
      (call_gives F.slot_bool_ge_refl rfl F.entry_int_ge (F.args_int_ge_2 _ _) (ge_bool_int b i t) ⟨nofun, ⟨.bl (decide (i ≤ b2i b)), H, I, rfl, q⟩⟩) (.inl rfl)
def rLtX : R2 := fun x y H Q => ∃ i : Int, x = .int i ∧ ((∃ j : Int, y = .int j ∧ Q (.bl (decide (i < j))) H) ∨ ∃ b : Bool, y = .bl b ∧ Q (.bl (decide (i < b2i b))) H)
theorem op_ltX : OpR X (compareOp .Lt) rLtX := by
  intro pins s σ H x y v u Q I rx ry h
  obtain ⟨i, rfl, ⟨j, rfl, q⟩ | ⟨b, rfl, q⟩⟩ := h
  · exact op_lt pins s σ H _ _ v u Q I rx ry ⟨i, j, rfl, rfl, q⟩
  · obtain ⟨t, rfl⟩ := _root_.id rx
    cases (show u = Value.bool b from ry)
    show wpAny _ _ (richCompare .Lt (.int i t) (.bool b)) _ _ s
    exact SeqAt.rc_sub_first_or (typeIs_int s i t) rfl (by decide) F.sub_bool_int F.slot_bool_gt_refl
      (call_gives F.slot_bool_gt_refl rfl F.entry_int_gt (F.args_int_gt_2 _ _) (gt_bool_int b i t) ⟨nofun, ⟨.bl (decide (i < b2i b)), H, I, rfl, q⟩⟩) (.inl rfl)
end
end SfG
/-! an own exception's __init__ that begins with super().__init__(e): a def whose cell holds its class -/
namespace SfG
open PySem PySem.Spec PyProof.Rows L2
structure SupScope (N ps : List Str) (sc : Scope) : Prop where
  kind : sc.kind = .function
  co : sc.isCoroutine = false
  gen : sc.isGenerator = false
  nd : N.Nodup
  pre : N.take ps.length = ps
  par : ∀ x ∈ ps, sc.names.lookup x = some .local
  nocell : ∀ y ∈ sc.names, y.2 ≠ .cell
  free : ∀ y ∈ sc.names, y.2 = .free → y.1 = "__class__"
  cls : sc.names.lookup ("__class__" : Str) = some .free
  sup : sc.names.lookup ("super" : Str) = some .globalImplicit
/-- its body's context -/
def cxS (P : Program) (w : World) (K : PySem.W.Frag) (mg : Str → Option Value) (base : Heap) (N : List Str) (env : Env) (A : Around) (outer : List Env) (s : Shared) (H : Hp) (E : XK) : Cx where
  prog := P
  w := w
  K := K
  mg := mg
  base := base
  A := A.deeper env
  N := N
  s_0 := s
  H_0 := H
  env := env
  outer := outer
  stack := env :: outer
  ex := []
  calm := true
  fn := fun _ => false
  pn := []
  xe := fun e s' => wpAny (model P w) (A.deeper env) (leaving env e) (fun _ s'' => CX0 outer H s E e s'') (fun e' s'' => CX0 outer H s E e' s'') s'
theorem lookup_mem {α : Type} {x : Str} {u : α} : ∀ {l : List (Str × α)}, (l.map (·.1)).Nodup → (x, u) ∈ l → l.lookup x = some u
  | [], _, h => by cases h
  | (y, v) :: r, nd, h => by
    rw [List.map_cons] at nd
    obtain ⟨n1, n2⟩ := List.nodup_cons.mp nd
    rw [List.lookup_cons]
    rcases List.mem_cons.mp h with e | h1
    · cases e
      rw [beq_self_eq_true]
    · have ne : x ≠ y := by
        rintro rfl
        exact n1 (List.mem_map_of_mem (f := (·.1)) h1)
      rw [beq_eq_false_iff_ne.mpr ne]
      exact lookup_mem n2 h1
theorem lookup_zip {ps : List Str} {us : List Value} {i : Nat} {x : Str} {u : Value} (nd : ps.Nodup) (hl : ps.length = us.length) (h1 : ps[i]? = some x) (h2 : us[i]? = some u) : (ps.zip us).reverse.lookup x = some u := by
  refine lookup_mem ?_ ?_
  · rw [List.map_reverse, List.map_fst_zip (by omega)]
    exact (List.reverse_perm ps).nodup_iff.mpr nd
  · rw [List.mem_reverse]
    exact List.mem_of_getElem? (i := i) (List.getElem?_zip_eq_some.mpr ⟨h1, h2⟩)
theorem inv_startS {P : Program} {w : World} {K : PySem.W.Frag} {mg : Str → Option Value} {base : Heap} {N ps : List Str} {qual : Str} {scope : Scope} {f cc D : Addr} {cd cl : Value} {cld : Option Addr} {csl : Array (Option Value)} {A : Around} {outer : List Env} {s : Shared} {h₀ : Heap} {tk : Nat} {H : Hp} {E : XK} {us : List Value} {vs : List V}
    (S : SupScope N ps scope) (hd : A.handled = none) (e0 : Env0 P w K mg base A outer s H) (hl : vs.length = ps.length) (r : Vals vs us) (hcell : K.lookup cc = some ⟨cl, cld, .cell (some (.ref D)), csl⟩)
    (hns : h₀.Ns s.heap.objs.size (fun x => (ps.zip us).reverse.lookup x)) (hk : ∀ b o, s.heap.get? b = some o → h₀.get? b = some o) :
    Inv (cxS P w K mg base N (PySem.W.ksEnv qual scope s.heap.objs.size f cd cc) A outer s H E) [] (L2.start N vs) H { s with heap := h₀, toks := tk } := by
  have hpl : ps.length ≤ N.length := by have := congrArg List.length S.pre; rw [List.length_take] at this; omega
  have noA : ∀ b : Addr, b ∉ (cxS P w K mg base N (PySem.W.ksEnv qual scope s.heap.objs.size f cd cc) A outer s H E).ex := fun b z => absurd (show b ∈ ([] : List Addr) from z) (by simp)
  have one : ∀ {x : Str} {c : Addr}, (PySem.W.ksEnv qual scope s.heap.objs.size f cd cc).cells.lookup x = some c → x = "__class__" ∧ c = cc := by
    intro x c h
    have h' : List.lookup x [(("__class__" : Str), cc)] = some c := h
    rw [List.lookup_cons] at h'
    by_cases e : x = "__class__"
    · subst e
      rw [beq_self_eq_true] at h'
      exact ⟨rfl, (Option.some.inj h').symm⟩
    · rw [beq_eq_false_iff_ne.mpr e] at h'
      cases h'
  have bcc : base.get? cc = some ⟨cl, cld, .cell (some (.ref D)), csl⟩ := e0.mod.kin _ _ hcell
  refine ⟨⟨e0.mod, S.kind, rfl, rfl, Nat.le_refl _, fun y z c h1 h2 => ?_, fun y hy => ?_, fun y c h _ => Bool.noConfusion (show false = true from h), fun _ => hd, Around.frames_deeper e0.frames, .inr ⟨rfl, rfl⟩, fun b z => absurd z (noA b), e0.bs, e0.bsz, fun b _ _ => noA b, fun b z => absurd z (noA b), e0.funs, e0.frf⟩,
    rfl, e0.bare, Un.kept hk, ⟨_, hns, fun i y v h1 h2 h3 => ?_⟩, fun y c h => ?_, e0.hok.fresh (Nat.le_refl _), fun y c h => ?_, fun p hp => absurd (show p ∈ ([] : List (Addr × Obj)) from hp) (by simp), e0.hok.kept hk, ?_⟩
  · exact (one h1).1.trans (one h2).1.symm
  · have hy : scope.names.lookup y = some .cell ∨ scope.names.lookup y = some .free := hy
    rcases hy with hy | hy
    · exact absurd rfl (S.nocell _ (PySem.mem_of_lookup hy))
    · have e := S.free _ (PySem.mem_of_lookup hy) rfl
      have e' : y = "__class__" := e
      exact ⟨cc, by rw [e']; rfl⟩
  · have hi : i < vs.length := by
      unfold L2.start at h2
      by_cases hi : i < vs.length
      · exact hi
      · rw [List.getElem?_append_right (by simpa using hi)] at h2
        rw [List.getElem?_replicate] at h2
        split at h2 <;> cases h2
    have ha : vs[i]? = some v := by
      unfold L2.start at h2
      rw [List.getElem?_append_left (by simpa using hi), List.getElem?_map] at h2
      cases e : vs[i]? with
      | none => rw [e] at h2; cases h2
      | some a => rw [e] at h2; cases h2; rfl
    obtain ⟨u, hu, rv⟩ := r.get ha
    have hp : ps[i]? = some y := by
      rw [← S.pre, List.getElem?_take_of_lt (by omega)]; exact h1
    have ndP : ps.Nodup := by rw [← S.pre]; exact S.nd.sublist (List.take_sublist _ _)
    exact ⟨u, rv, .inl ⟨S.par y (List.mem_of_getElem? hp), lookup_zip ndP (by rw [← hl]; exact r.length) hp hu⟩⟩
  · rw [(one h).2]
    exact ⟨_, _, hk _ _ (e0.bs _ _ bcc).1, rfl⟩
  · rw [(one h).2]
    exact (e0.bs _ _ bcc).2
  · unfold L2.start
    show _ = N.length
    rw [List.length_append, List.length_map, List.length_replicate]
    omega
end SfG
namespace SfG
open PySem PySem.Spec PyProof.Rows L2
section
open PySem.W PySem.Calls
variable {prog : Program} {w : World} {A : Around} {E : Value → Shared → Prop} {h : Heap} {g : Array GenState} {d : Drawn} {t : Nat} {os : OsState}
variable {nm q : Str} {C N : Addr} {bs bm : List Value} {hdct : Bool} {sn : List Str} {sub : List Value} {ab : Bool} {col : Option Bool} {dd : Option Addr} {k0 k1 k2 k3 k5 : Option Value}
/-- the bound ValueError.__init__ is called -/
theorem call_mw {u e t0 : Addr} {rest : List Value} {Q : Value → Shared → Prop}
    (hC : h.get? C = some (excClassObj nm q C N bs bm hdct sn sub ab col dd k0 k1 k2 k3 k5 "ValueError.__new__")) (he : h.get? e = some ({ cls := .ref C, dict := none, data := .fields #[.ref t0, .none, .none, .none, .bool false, .none] } : Obj))
    (hu : h.get? u = some (kxs_mw "ValueError.__init__" e)) (hrest : rest.length ≤ sizeLine)
    (hq : ∀ h' t1, (∀ b o, b ≠ e → h.get? b = some o → h'.get? b = some o) → h'.get? e = some ({ cls := .ref C, dict := none, data := .fields #[.ref t1, .none, .none, .none, .bool false, .none] } : Obj) → Q .none ⟨h', g, d, t, os⟩) :
    wpAny (model prog w) A (call (.ref u) rest) Q E ⟨h, g, d, t, os⟩ := by
  refine wpAny_call (codeAny_of_tree ?_)
  show wpAny _ A.in1 (callAny (.ref u) ⟨rest, []⟩) _ _ _
  simp only [callAny]
  refine wpAny_bind (wpAny_load hu ?_)
  simp only [kxs_mw, show (Value.type "method-wrapper" == Value.type "method" || Value.type "method-wrapper" == Value.type "builtin_function_or_method" || Value.type "method-wrapper" == Value.type "method-wrapper") = true by decide, if_true]
  refine KFB.if_so (by decide) ?_
  refine wpAny_bind (check_bound_init F.excBase_ValueError.toExcCallFacts hC he rfl ?_)
  refine wpAny_bind (wpAny_pure (wpAny_pure ?_))
  refine ⟨plainId_quiet F.excBase_ValueError.init.plain _, codeAny_builtin F.excBase_ValueError.initEntry ?_⟩
  rw [Around.under_plainId F.excBase_ValueError.init.plain _]
  exact exc_init_tree (cls := .ref C) (t0 := t0) (dv := none) (c2 := .none) (c3 := .none) (b4 := .bool false) he hrest fun h' k e' _ => hq h' _ k e'
end
/-- what the written part says of such a class: its cell, its code, what super() finds -/
structure SupC (P : Program) (K : PySem.W.Frag) (mg : Str → Option Value) (C cc cda : Addr) : Prop where
  T : OexC K C
  cell : ∃ cl cld csl, K.lookup cc = some ⟨cl, cld, .cell (some (.ref C)), csl⟩
  code : ∃ ccl cdd vs ccs file tf, K.lookup cda = some ⟨ccl, cdd, .fields vs, ccs⟩ ∧ vs[2]? = some (.str file tf) ∧ ((P.main.file : Str) == file) = true
  mro : PySem.W.mroIn K C (.ref C) = some true
  sup : mg "super" = none
  top : (P.main.scope.names.lookup ("super" : Str)).isSome = false
  any : PySem.W.nsIn K cStatics "thirdparty.any" = some none
  ini : PySem.W.ks_superIn K C C "__init__" = some (some (.builtin "ValueError.__init__"))
  ve : PySem.W.subIn K (.ref C) (.type "ValueError") = some true
section
variable {P : Program} {w : World} {K : PySem.W.Frag} {mg : Str → Option Value} {base : Heap}
set_option maxHeartbeats 2000000 in
theorem fn_super {k : Nat} {f C cc cda : Addr} {name qual : Str} {params : Arguments} {body : List Stmt} {scope : Scope} {dV kV doc pm ct oc : Value} {an od : Option Addr} {osl : Array (Option Value)} {N ps : List Str} {sp : Sp} {e : Expr} {p0 p1 p2 p3 p4 : Pos} {ar : Arg}
    (lk : K.lookup f = some ⟨oc, od, .func (PySem.W.ksFn name qual params (.Expr (.Call (.Attribute (.Call (.Name "super" p0) [] [] p1) "__init__" p2) [e] [] p3) p4 :: body) scope dV kV doc pm an (.ref cda) ct cc), osl⟩)
    (hcd : PySem.W.codeIn K (.ref cda) qual = true) (S : SupScope N ps scope) (U : SupC P K mg C cc cda) (har : (params.posonlyargs ++ params.args).head? = some ar) (hself : ps.head? = some ar.arg)
    (len : ∀ vs H Q E, sp vs H Q E → vs.length = ps.length)
    (hbody : ∀ (A : Around) (outer : List Env) (s : Shared) (H : Hp) (vs : List V) (Q : VK) (E : XK), Room k (A.deeper (PySem.W.ksEnv qual scope s.heap.objs.size f (.ref cda) cc)) → sp vs H Q E →
      ∃ (a : Addr) (ws : List V) (te : TE) (t : TS), vs = .ref a :: ws ∧ H a = some (exo a C none) ∧ PE (cxS P w K mg base N (PySem.W.ksEnv qual scope s.heap.objs.size f (.ref cda) cc) A outer s H E).nox e te ∧
        PSs (cxS P w K mg base N (PySem.W.ksEnv qual scope s.heap.objs.size f (.ref cda) cc) A outer s H E).nox body t ∧
        te (L2.start N vs) H fun _ H1 => H1 a = some (exo a C none) ∧ t { nx := fun _ H' => Q .non H', rt := Q } (L2.start N vs) H1)
    (he : ∀ env : Env, starEach [e] env = (false, eval e env) :: starEach [] env)
    (hev : ∀ env : Env, ∃ pl : Sem Bool, eval (.Call (.Attribute (.Call (.Name "super" p0) [] [] p1) "__init__" p2) [e] [] p3) env = (do
      let ov ← attributeBase (.Call (.Name "super" p0) [] [] p1) "__init__" env (eval (.Call (.Name "super" p0) [] [] p1) env)
      standAt p2.atName
      let (f, first) ← holding [ov] (getMethod ov "__init__" pl)
      callWith p3 f first (backTo p3 (starEach [e] env)) []))
    (hsw : ∀ env : Env, swapsWith (.Call (.Attribute (.Call (.Name "super" p0) [] [] p1) "__init__" p2) [e] [] p3) none p4.line env = pure false) :
    FnOk P w K mg base CX0 (k + 1) f (PySem.W.ksFn name qual params (.Expr (.Call (.Attribute (.Call (.Name "super" p0) [] [] p1) "__init__" p2) [e] [] p3) p4 :: body) scope dV kV doc pm an (.ref cda) ct cc) ps sp := by
  refine ⟨len, fun A outer s H args us vs Q E hr e0 hb r hsp => ?_⟩
  have hl := len _ _ _ _ hsp
  have KX : K.In s.heap := e0.mod.kin.keeps fun b o e => (e0.bs b o e).1
  have lim : s.heap.NoLimit := e0.mod.nolimit.keeps fun b o e => (e0.bs b o e).1
  have hlz : us.length = ps.length := by rw [← hl]; exact r.length.symm
  obtain ⟨cl, cld, csl, hcell⟩ := U.cell
  obtain ⟨ccl, cdd, cvs, ccs, file, tf, hcode, hfile2, hfile⟩ := U.code
  obtain ⟨nm, q, N', bs, bm, sn, sub, ab, col, dd, k0, k1, k2, k3, k5, hC, hbm⟩ := U.T.cls
  have hclD : PySem.W.clsIn K C = some { name := nm, bases := bs, mro := .ref C :: bm, ns := N', qualname := q, hasDict := true, slotNames := sn, subclasses := sub, abstract := ab, collection := col, hasDel := false } := by unfold PySem.W.clsIn; rw [hC] <;> rfl
  obtain ⟨a, ws, te, t, rfl, ha, pe, pss, hq⟩ := hbody A outer s H vs Q E (hr.deeper _) hsp
  refine PySem.ks_codeAny_call_defAt hr.depth (KX _ _ lk) rfl lim (PySem.W.codeRec_of KX hcd) rfl hb S.nocell ?_ (fun h₀ hns hk => ?_) S.co S.gen S.kind
  · rintro ⟨n, v⟩ hy
    exact S.par n (List.of_mem_zip hy).1
  have I0 := inv_startS (E := E) (qual := qual) (f := f) (cd := .ref cda) (tk := s.toks + (ps.zip us).length) S hr.hd e0 hl r hcell hns hk
  have hok0 := I0.hok
  obtain ⟨t0, hx⟩ := exo_at hok0 ha
  have X0 : K.In h₀ := KX.keeps hk
  -- the slot of self
  have hself2 : ∃ u, (ps.zip us).reverse.lookup ar.arg = some u ∧ u = .ref a := by
    cases ps with
    | nil => cases hself
    | cons p pr =>
      have ep : p = ar.arg := Option.some.inj hself
      cases r with
      | cons r0 r1 =>
        refine ⟨_, lookup_zip (i := 0) (by rw [← S.pre]; exact S.nd.sublist (List.take_sublist _ _)) hlz.symm (by rw [ep]; rfl) rfl, r0⟩
  obtain ⟨uself, hus, rfl⟩ := hself2
  have hloc : scope.names.lookup ar.arg = some .local := by
    refine S.par _ ?_
    cases ps with
    | nil => cases hself
    | cons p pr =>
      rw [show ar.arg = p from (Option.some.inj hself).symm]
      exact List.mem_cons_self
  have hint : interactive (PySem.W.ksEnv qual scope s.heap.objs.size f (.ref cda) cc) = false := by
    unfold interactive
    show (scope.kind == _ && _) = false
    rw [S.kind]
    rfl
  obtain ⟨pl, hev1⟩ := hev (PySem.W.ksEnv qual scope s.heap.objs.size f (.ref cda) cc)
  refine PySem.ks_wpAt_execs_cons (PySem.ks_wpAt_Expr_any (PySem.ks_wpAt_MethodCall (pl := pl) ?_ hev1) hint (hsw _))
  refine PySem.ks_wpAt_super_base (env := PySem.W.ksEnv qual scope s.heap.objs.size f (.ref cda) cc) S.sup S.cls (by decide) rfl (X0 _ _ lk) rfl har rfl (X0 _ _ hcode) rfl hfile2 hfile U.top ?_
  obtain ⟨mb, b1, b2⟩ := e0.mod.blt
  have bk : ∀ b o, base.get? b = some o → h₀.get? b = some o := fun b o z => hk _ _ (e0.bs b o z).1
  refine PySem.W.ks_loadName_global S.kind S.sup (Calls.loadGlobal_builtin (env := PySem.W.ksEnv qual scope s.heap.objs.size f (.ref cda) cc) (e0.mod.glob.keeps bk) U.sup (b1.keeps bk) ((b2 "super" (by decide)).trans (by decide +kernel)) ⟨rfl, ?_⟩)
  refine wpAny_loadName_free S.kind S.cls rfl ⟨_, X0 _ _ hcell, rfl⟩ ?_
  refine wpAny_loadName_local S.kind hloc hns hus ?_
  have hCd : (excClassObj nm q C N' bs bm true sn sub ab col dd k0 k1 k2 k3 k5 "ValueError.__new__").data = .cls { name := nm, bases := bs, mro := .ref C :: bm, ns := N', qualname := q, hasDict := true, slotNames := sn, subclasses := sub, abstract := ab, collection := col, hasDel := false } := rfl
  refine PySem.ks_wpAny_isType_cls (X0 _ _ hC) hCd ⟨rfl, ?_⟩
  refine PySem.ks_wpAny_call_super (X0 _ _ hC) hCd hx rfl (fun c z => by cases z) (PySem.W.looks_mroIn X0 U.mro) (fun h1 hso k1' => ?_)
  have I1 := I0.kept (h' := h1) (t' := s.toks + (ps.zip us).length) k1'
  have X1 : K.In h1 := X0.keeps k1'
  have hx1 := k1' _ _ hx
  have Inst : PySem.W.InstAt h1 a { cls := .ref C, dict := none, data := .fields #[.ref t0, .none, .none, .none, .bool false, .none] } C none := ⟨hx1, rfl, rfl, trivial⟩
  have hin : PySem.W.alongIn K "__init__" (((Value.ref C :: bm).dropWhile (· != .ref C)).drop 1) = some (some (.builtin "ValueError.__init__")) := by
    have := U.ini
    unfold PySem.W.ks_superIn at this
    rw [hclD] at this
    exact this
  refine PySem.W.kxs_getMethod PySem.W.kxs_ValueError hso (PySem.W.looks_opaque X1 U.any) (l₀ := .ref C :: bm) (fun A Q E s k q => wpAny_bind ((PySem.W.looks_clsIn X1 hclD) A _ E s k (wpAny_pure q))) rfl X1 hin (Inst.type.andThen (PySem.W.looks_subIn X1 U.ve)) (PySem.W.ks_ne X1 Inst hclD) (by decide) ?_
  have kk : ∀ b o, h1.get? b = some o → (h1.push (PySem.W.kxs_mw "ValueError.__init__" a)).get? b = some o := fun b o z => Heap.get?_push_of_some _ z
  have I2 := I1.kept (h' := h1.push (PySem.W.kxs_mw "ValueError.__init__" a)) (t' := s.toks + (ps.zip us).length + 1) kk
  have hu2 : (h1.push (PySem.W.kxs_mw "ValueError.__init__" a)).get? h1.objs.size = some (PySem.W.kxs_mw "ValueError.__init__" a) := Heap.get?_push_at rfl rfl
  have I3 := I2.pins_of (pins' := [(h1.objs.size, PySem.W.kxs_mw "ValueError.__init__" a)]) (by
    intro p hp
    rw [List.mem_singleton.mp hp]
    refine ⟨hu2, I1.hok.fresh (Nat.le_refl _), ?_, I1.nofs (Nat.le_refl _), fun v z => by cases z⟩
    exact Nat.ne_of_gt I1.lt)
  rw [he]
  refine PySem.W.kxs_callWith (i := "ValueError.__init__") (x := a) (by rfl) ?_
  refine Calls.evalArgs_plain (Calls.spliced_cons (thn (pe.nox.run _ _ _ H _ I3 hq) ?_))
  rintro u s1 ⟨v, H1, J1, rv, ha1, q1⟩
  refine Calls.spliced_nil ⟨(J1.pin _ (List.mem_append_right _ List.mem_cons_self)).1, ?_⟩
  have hu3 := (J1.pin (h1.objs.size, PySem.W.kxs_mw "ValueError.__init__" a) (List.mem_append_right _ List.mem_cons_self)).1
  obtain ⟨t2, hx2⟩ := exo_at J1.hok ha1
  obtain ⟨hp, g, d, tk, os⟩ := s1
  refine call_mw (J1.kIn _ _ hC) hx2 hu3 (by show 1 ≤ sizeLine; decide) fun h' t3 k3 hx3 => ?_
  have J := (J1.pins_of (pins' := []) (fun p hp => by cases hp)).write (t' := tk) (x := a) (e := a) (o := exo a C none) (by rw [ha1]; exact True.intro) (.inl rfl) k3 ⟨_, hx3⟩ (exo_ok hx3)
  have eu : upd H1 a (exo a C none) = H1 := by
    funext b
    by_cases hb : b = a
    · rw [hb, upd_same, ha1]
    · rw [upd_ne hb]
  rw [eu] at J
  refine PySem.wpAt_of_wpAny ?_
  refine wpAny_mono (pss.nox.run [] _ (L2.start N (.ref a :: ws)) H1 _ J q1) (fun fl s' hs => ?_) fun e s' hs => hs
  cases fl with
  | ret u =>
    obtain ⟨v, σ', H', J', rv, q⟩ := hs
    exact ⟨v, H', J'.os, J'.bare, J'.base, J'.hok, rv, q⟩
  | next =>
    obtain ⟨σ', H', J', q⟩ := hs
    exact ⟨.non, H', J'.os, J'.bare, J'.base, J'.hok, rfl, q⟩
  | brk =>
    obtain ⟨_, _, _, q⟩ := hs
    exact False.elim q
  | cont =>
    obtain ⟨_, _, _, q⟩ := hs
    exact False.elim q
end
end SfG
/-! an exception held behind its try: with or without fields; isinstance of it, its fields -/
namespace SfG
open PySem PySem.Spec PyProof.Rows L2
/-- at a: an exception of the class at D, held; its fields lie in its dict -/
def Ek (H : Hp) (D a : Addr) : Prop := ∃ d, H a = some (EkO (.ref D) d a) ∧ (d = none ∨ ∃ dx fs, d = some dx ∧ H dx = some (.xd fs))
/-- and its field f is v -/
def EkF (H : Hp) (D a : Addr) (fs : List (Str × V)) : Prop := ∃ dx, H a = some (EkO (.ref D) (some dx) a) ∧ H dx = some (.xd fs)
theorem EkF.ek {H : Hp} {D a : Addr} {fs : List (Str × V)} (h : EkF H D a fs) : Ek H D a := by
  obtain ⟨dx, h1, h2⟩ := h
  exact ⟨some dx, h1, .inr ⟨dx, fs, rfl, h2⟩⟩
theorem Ek.gr {H H' : Hp} {D a : Addr} (h : Ek H D a) (g : Gr H H') : Ek H' D a := by
  obtain ⟨d, h1, h2⟩ := h
  refine ⟨d, g.keep _ _ h1 (fun _ z => by cases z), ?_⟩
  rcases h2 with h2 | ⟨dx, fs, e, h2⟩
  · exact .inl h2
  · exact .inr ⟨dx, fs, e, g.keep _ _ h2 (fun _ z => by cases z)⟩
theorem EkF.gr {H H' : Hp} {D a : Addr} {fs : List (Str × V)} (h : EkF H D a fs) (g : Gr H H') : EkF H' D a fs := by
  obtain ⟨dx, h1, h2⟩ := h
  exact ⟨dx, g.keep _ _ h1 (fun _ z => by cases z), g.keep _ _ h2 (fun _ z => by cases z)⟩
section
variable {X : Cx} {pins : List (Addr × Obj)} {σ : L2.St} {H : Hp} {s : Shared}
theorem ek_inst {D a : Addr} (I : L2.Inv X pins σ H s) (h : Ek H D a) : ∃ oe od, PySem.W.InstAt s.heap a oe D od := by
  obtain ⟨d, hH, hd⟩ := h
  obtain ⟨⟨oe, get, z, vs, dat⟩, _⟩ := I.hok a _ hH
  obtain ⟨oc, od, oda, osl⟩ := oe
  obtain ⟨h1, h2⟩ := z
  dsimp only at h1 h2 dat
  subst h1 h2 dat
  rcases hd with rfl | ⟨dx, fs, rfl, hx⟩
  · exact ⟨_, none, get, rfl, rfl, trivial⟩
  · have hx' : ObjOk X.prog X.w H s.heap dx (.xd fs) := I.hok dx _ hx
    obtain ⟨mA, hns, hr⟩ := hx'
    obtain ⟨od, ho, hl⟩ := lookIn_ns hns
    exact ⟨_, some od, get, rfl, rfl, ho⟩
end
def rIsX (K : PySem.W.Frag) (D : Addr) : List V → Hp → VK → Prop := fun xs H Q =>
  ∃ (a : Addr) (c : V) (cv : Value) (b : Bool), xs = [.ref a, c] ∧ Ek H D a ∧ (∀ u, RelV c u → u = cv) ∧ PySem.W.kitOne K (.ref D) cv = some b ∧ Q (.bl b) H
theorem call_isX {X : Cx} {D : Addr} (C : ExcC X.K D) : CallR X (.builtin "isinstance") (rIsX X.K D) := by
  intro pins s σ H xs us Q I r h
  obtain ⟨a, c, cv, b, rfl, hH, hcv, e, q⟩ := h
  obtain ⟨oe, od, J⟩ := ek_inst I hH
  have hcl : (PySem.W.clsIn X.K D).isSome = true := by
    obtain ⟨cd, hc, _⟩ := PySem.W.any_some C.hd
    rw [hc]
    rfl
  cases r with
  | cons rx rr =>
    cases rr with
    | cons rt rr =>
      cases rr
      cases rx
      have ec := hcv _ rt
      subst ec
      refine PySem.W.kia_one (PySem.W.kitx_exc hcl C.hg C.hk C.hs C.ha C.hn C.ht C.hm) I.kIn J e (fun z => nomatch z) ?_
      intro tk
      exact ⟨.bl b, H, I.kept (t' := tk) fun _ _ z => z, rfl, q⟩
/-- e.f, e an exception that is held -/
def tKf (C : Addr) (f : Str) (te : TE) : TE := fun σ H Q => te σ H fun x H1 => ∃ (a : Addr) (fs : List (Str × V)) (v : V), x = .ref a ∧ EkF H1 C a fs ∧ fs.lookup f = some v ∧ Q v H1
theorem pe_kf {X : Cx} {C : Addr} {e : Expr} {te : TE} {pos : Pos} {n : Str} (T : XfC X.K C) (hno : PySem.W.findIn X.K (.ref C) n = some none) (he : PE X e te) (hb : attributeBase e n X.env (eval e X.env) = eval e X.env := by rfl) :
    PE X (.Attribute e n pos) (tKf C n te) := by
  refine ⟨fun pins s σ H Q I h => ?_⟩
  refine attr_of hb (thn (he.run pins s σ H _ I h) fun u s1 hh => ?_)
  obtain ⟨x, H1, I1, rx, a, fs, v, rfl, ⟨dd, hH, ea⟩, l, q⟩ := hh
  obtain rfl : u = Value.ref a := rx
  obtain ⟨⟨oe, ha, hz, vs, hd⟩, _⟩ := I1.hok a _ hH
  have hx : ObjOk X.prog X.w H1 s1.heap dd (.xd fs) := I1.hok dd _ ea
  obtain ⟨mA, hns, hr⟩ := hx
  obtain ⟨od, ho, hl⟩ := lookIn_ns hns
  obtain ⟨u, hu, ru⟩ := RelO.some_of (v := v) (o := mA n) (by rw [← l]; exact hr n)
  have J : PySem.W.InstAt s1.heap a oe C (some od) := ⟨ha, hz.1, by unfold PySem.W.notCls; rw [hd] <;> rfl, by rw [hz.2]; exact ho⟩
  exact HandSPX.exc_get I1.kIn J T.ga T.gg T.exC (PySem.W.findObj_own T.hdC hno rfl (by rw [hl, hu])) (handed_of ru) ⟨v, H1, I1.tok _, ru, q⟩
end SfG
/-! a thing in a tuple of texts; truths beside numbers: <, <=, + -/
namespace SfG
open PySem PySem.Spec PyProof.Rows L2
theorem lt_bool_int (a : Bool) (b : Int) (u : Tok) : Gives (Builtin.«int.__lt__» ⟨[.bool a, .int b u], []⟩) (.val (Value.bool ((fun x1 x2 => decide (x1 < x2)) (if a = true then (1 : Int) else 0) b))) :=
  .of_wp fun M A E s Q h => by obtain ⟨hp, g, d, tk, os⟩ := s; wp_walk; exact ⟨_, rfl, h⟩
theorem le_bool_int (a : Bool) (b : Int) (u : Tok) : Gives (Builtin.«int.__le__» ⟨[.bool a, .int b u], []⟩) (.val (Value.bool ((fun x1 x2 => decide (x1 ≤ x2)) (if a = true then (1 : Int) else 0) b))) :=
  .of_wp fun M A E s Q h => by obtain ⟨hp, g, d, tk, os⟩ := s; wp_walk; exact ⟨_, rfl, h⟩
/-- the number that a whole number or a truth is -/
def numV : V → Option Int
  | .int i => some i
  | .bl b => some (b2i b)
  | _ => none
section
variable {X : Cx}
def rYlt : R2 := fun x y H Q => ∃ i j : Int, numV x = some i ∧ y = .int j ∧ Q (.bl (decide (i < j))) H
def rYle : R2 := fun x y H Q => ∃ i j : Int, numV x = some i ∧ y = .int j ∧ Q (.bl (decide (i ≤ j))) H
theorem op_ltY : OpR X (compareOp .Lt) rYlt := by
  intro pins s σ H x y v u Q I rx ry h
  obtain ⟨i, j, hx, rfl, q⟩ := h
  cases x with
  | int i' =>
    cases hx
    exact op_lt pins s σ H _ _ v u Q I rx ry ⟨i, j, rfl, rfl, q⟩
  | bl b =>
    cases hx
    cases (show v = Value.bool b from rx)
    obtain ⟨t, rfl⟩ := _root_.id ry
    show wpAny _ _ (richCompare .Lt (.bool b) (.int j t)) _ _ s
    exact SeqAt.rc_left_or rfl (typeIs_int s j t) (by decide) F.sub_int_bool F.slot_bool_lt
      (call_gives F.slot_bool_lt rfl F.entry_int_lt (F.args_int_lt_2 _ _) (lt_bool_int b j t) ⟨nofun, ⟨.bl (decide (b2i b < j)), H, I, rfl, q⟩⟩) (.inl rfl)
  | _ => cases hx
theorem op_leY : OpR X (compareOp .LtE) rYle := by
  intro pins s σ H x y v u Q I rx ry h
  obtain ⟨i, j, hx, rfl, q⟩ := h
  cases x with
  | int i' =>
    cases hx
    exact op_le pins s σ H _ _ v u Q I rx ry ⟨i, j, rfl, rfl, q⟩
  | bl b =>
    cases hx
    cases (show v = Value.bool b from rx)
    obtain ⟨t, rfl⟩ := _root_.id ry
    show wpAny _ _ (richCompare .LtE (.bool b) (.int j t)) _ _ s
    exact SeqAt.rc_left_or rfl (typeIs_int s j t) (by decide) F.sub_int_bool F.slot_bool_le
      (call_gives F.slot_bool_le rfl F.entry_int_le (F.args_int_le_2 _ _) (le_bool_int b j t) ⟨nofun, ⟨.bl (decide (b2i b ≤ j)), H, I, rfl, q⟩⟩) (.inl rfl)
  | _ => cases hx
/-- i <= x, x a number or a truth -/
def rXL : R2 := fun x y H Q => ∃ i j : Int, x = .int i ∧ numV y = some j ∧ Q (.bl (decide (i ≤ j))) H
theorem op_leN : OpR X (compareOp .LtE) rXL := by
  intro pins s σ H x y v u Q I rx ry h
  obtain ⟨i, j, rfl, hy, q⟩ := h
  refine op_leX pins s σ H _ _ v u Q I rx ry ⟨i, rfl, ?_⟩
  cases y with
  | int j' =>
    cases hy
    exact .inl ⟨j, rfl, q⟩
  | bl b =>
    cases hy
    exact .inr ⟨b, rfl, q⟩
  | _ => cases hy
/-- a thing in a tuple of texts -/
def rInXS (K : PySem.W.Frag) : R2 := fun x y H Q => ∃ (d : PyData) (p : Addr) (zs : List Str), Dp K H x d ∧ y = .ref p ∧ SqT K H p (zs.map V.str) ∧ Q (.bl (zs.any fun z => eqS d z)) H
theorem vals_strs : ∀ {zs : List Str} {its : List Value}, Vals (zs.map V.str) its → ∀ w ∈ its, ∃ z t, z ∈ zs ∧ w = Value.str z t
  | [], _, h, w, hw => by
    cases h
    cases hw
  | z :: zs, _, h, w, hw => by
    cases h with
    | cons r1 r2 =>
      obtain ⟨t, rfl⟩ := r1
      rcases List.mem_cons.mp hw with rfl | hw
      · exact ⟨z, t, List.mem_cons_self, rfl⟩
      · obtain ⟨z', t', h1, h2⟩ := vals_strs r2 w hw
        exact ⟨z', t', List.mem_cons_of_mem _ h1, h2⟩
def eqVS (d : PyData) : Value → Bool
  | .str z _ => eqS d z
  | _ => false
theorem any_strs {d : PyData} : ∀ {zs : List Str} {its : List Value}, Vals (zs.map V.str) its → its.any (eqVS d) = zs.any fun z => eqS d z
  | [], _, h => by
    cases h
    rfl
  | z :: zs, _, h => by
    cases h with
    | cons r1 r2 =>
      obtain ⟨t, rfl⟩ := r1
      rw [List.any_cons, List.any_cons, any_strs r2]
      rfl
theorem op_inXS {k : Nat} (hr : Room k X.A) : OpR X (compareOp .In) (rInXS X.K) := by
  intro pins s σ H x y v u Q I rx ry h
  obtain ⟨d, p, zs, hx, rfl, hp, q⟩ := h
  cases ry
  obtain ⟨its, r, pl, hz⟩ := I.tuple hp
  have hu : X.A.in1.units < cLine := by
    have := hr.un
    show X.A.units + 1 < cLine
    omega
  refine SeqAt.in_tupleAt (eqVS d) pl (fun w hw => ?_) ⟨.bl _, H, I, rfl, ?_⟩
  · obtain ⟨z, t, _, rfl⟩ := vals_strs r w (by simpa using hw)
    show SeqAt.EqAt _ s (.str z t) v (eqS d z)
    cases hx with
    | non =>
      cases rx
      exact SeqAt.EqAt.str_none z t
    | bl b =>
      cases rx
      exact SeqAt.EqAt.str_bool z t b
    | int i =>
      obtain ⟨t', rfl⟩ := rx
      exact SeqAt.EqAt.str_int z t i t'
    | str a =>
      obtain ⟨t', rfl⟩ := rx
      have e : (z == a) = decide (a = z) := by
        by_cases c : a = z
        · rw [decide_eq_true c, c]
          exact beq_self_eq_true z
        · rw [decide_eq_false c]
          exact beq_eq_false_iff_ne.mpr (fun e => c e.symm)
      have := SeqAt.EqAt.str_str (A := X.A.in1) (s := s) z t a t'
      rw [e] at this
      exact this
    | lst hp hl =>
      cases rx
      obtain ⟨us, rv, ⟨o, n, g1, g2, _, g3⟩, _⟩ := I.list hp
      exact SeqAt.EqAt.str_list z t ⟨o, g1, g2, n, g3⟩ hu
    | tup hp hl =>
      cases rx
      obtain ⟨us, rv, ⟨o, g1, g2, n, g3⟩, _⟩ := I.tuple hp
      exact SeqAt.EqAt.str_tuple z t ⟨o, g1, g2, n, g3⟩ hu
  · rw [show its.toArray.any (eqVS d) = its.any (eqVS d) by simp, any_strs r]
    exact q
end
end SfG
/-! dict(enumerate(t)), t a tuple -/
namespace SfG
open PySem PySem.Spec PyProof.Rows L2
section
variable {prog : Program} {w : World} {A : Around} {E : Value → Shared → Prop} {s : Shared}
/-- the next pair of an enumerate over a tuple, where the one ahead is still there -/
theorem ent_held {eA iA tA hA : Addr} {k : Nat} {ys : Array Value} {y z0 : Value} {b : Bool} {oh : Obj} {Q : Option Value → Shared → Prop} (en : IsEnumHeld s.heap eA iA k z0 hA b) (gh : s.heap.get? hA = some oh) (n1 : hA ≠ eA) (n2 : hA ≠ iA) (n3 : eA ≠ iA)
    (gi : s.heap.IsTupleIter iA tA k) (gt : s.heap.IsTuple tA ys) (gy : ys[k]? = some y)
    (fin : ∀ h9, IsEnumHeld h9 eA iA ((k : Int) + 1) z0 hA true → h9.IsTupleIter iA tA (k + 1) → h9.get? s.heap.objs.size = some { cls := .type "tuple", data := .seq #[.int k s.toks, y] } →
      (∀ c u, c ≠ eA → c ≠ iA → s.heap.get? c = some u → h9.get? c = some u) → Q (some (.ref s.heap.objs.size)) { s with heap := h9, toks := s.toks + 1 }) :
    wpAny (model prog w) A (pyNext (.ref eA)) Q E s := by
  have ty : s.TypeIs (.ref eA) "enumerate" := ⟨_, en, rfl⟩
  unfold pyNext
  refine wpAny_bind (wpAny_attempt (wpAny_callSpecial?_slot (name := Str.ofString "__next__") ty F.slot_enumerate_next (wpAny_call_entry F.slot_enumerate_next ty F.entry_enumerate_next ?_ (F.args_enumerate_next_1 _))))
  obtain ⟨h0, g0, d0, t0, o0⟩ := s
  show wpAny _ _ (field (.ref eA) 2 >>= _) _ _ _
  refine wpAny_bind (wpAny_field (x := Value.ref iA) en rfl rfl ?_)
  refine wpAny_bind (wpAny_nextOf_tuple_item gi gt gy fun h1 gi1 sb1 => ?_)
  have en1 : IsEnumHeld h1 eA iA k z0 hA b := (sb1.2 eA n3).trans en
  show wpAny _ _ (field (.ref eA) 3 >>= _) _ _ (⟨h1, g0, d0, t0, o0⟩ : Shared)
  refine wpAny_bind (wpAny_field (x := rawInt k) (s := ⟨h1, g0, d0, t0, o0⟩) en1 rfl rfl ?_)
  show wpAny _ _ (field (.ref eA) 4 >>= _) _ _ (⟨h1, g0, d0, t0, o0⟩ : Shared)
  refine wpAny_bind (wpAny_field (x := Value.none) (s := ⟨h1, g0, d0, t0, o0⟩) en1 rfl rfl ?_)
  show wpAny _ _ (mkInt k >>= _) _ _ (⟨h1, g0, d0, t0, o0⟩ : Shared)
  refine wpAny_bind (wpAny_mkInt ?_)
  show wpAny _ _ (setField (.ref eA) 3 (rawInt ((k : Int) + 1)) >>= _) _ _ (⟨h1, g0, d0, t0 + 1, o0⟩ : Shared)
  refine wpAny_bind (wpAny_setField_rec (s := ⟨h1, g0, d0, t0 + 1, o0⟩) en1 (by simp) fun h2 en2 sb2 => ?_)
  show wpAny _ _ (setField (.ref eA) 4 .none >>= _) _ _ (⟨h2, g0, d0, t0 + 1, o0⟩ : Shared)
  refine wpAny_bind (wpAny_setField_rec (s := ⟨h2, g0, d0, t0 + 1, o0⟩) en2 (by simp) fun h3 en3 sb3 => ?_)
  show wpAny _ _ (newTuple [.int k t0, y] >>= _) _ _ (⟨h3, g0, d0, t0 + 1, o0⟩ : Shared)
  refine wpAny_bind (wpAny_newTuple ?_)
  have size3 : h3.objs.size = h0.objs.size := sb3.1.trans (sb2.1.trans sb1.1)
  have el : eA < h0.objs.size := Heap.lt_size en
  have keep3 : ∀ c u, c ≠ eA → c ≠ iA → h0.get? c = some u → h3.get? c = some u := fun c u c1 c2 q => (sb3.2 c c1).trans ((sb2.2 c c1).trans ((sb1.2 c c2).trans q))
  have gi3 : h3.IsTupleIter iA tA (k + 1) := gi1.at fun u q => (sb3.2 iA (Ne.symm n3)).trans ((sb2.2 iA (Ne.symm n3)).trans q)
  show wpAny _ _ (Builtin.SmallTypes.ownedTupleIsFree (.ref eA) >>= _) _ _ (⟨h3.push _, g0, d0, t0 + 1, o0⟩ : Shared)
  refine wpAny_bind (wpAny_tupleHeld_enum (s := ⟨h3.push _, g0, d0, t0 + 1, o0⟩) (T := hA) (oT := oh) (Heap.get?_push_of_some _ en3) (Heap.get?_push_of_some _ (keep3 hA oh n1 n2 gh)) fun h5 en5 sb5 => ?_)
  simp only [Bool.false_eq_true, if_false]
  refine wpAny_pure ⟨_, rfl, ?_⟩
  have e3 : h3.objs.size ≠ eA := by
    rw [size3]
    exact Nat.ne_of_gt el
  show wpAny _ _ _ _ _ _
  rw [size3] at e3
  refine wpAny_pure ?_
  rw [size3]
  refine fin h5 en5 (gi3.at fun u q => (sb5.2 iA (Ne.symm n3)).trans (Heap.get?_push_of_some _ q)) ?_ fun c u c1 c2 q => (sb5.2 c c1).trans (Heap.get?_push_of_some _ (keep3 c u c1 c2 q))
  refine (sb5.2 _ e3).trans ?_
  rw [← size3]
  exact Heap.get?_push_size _ rfl
/-- its end -/
theorem ent_stop {eA iA tA hA : Addr} {k : Nat} {ys : Array Value} {z0 : Value} {b : Bool} {Q : Option Value → Shared → Prop} (calm : A.handled = none) (en : IsEnumHeld s.heap eA iA k z0 hA b) (gi : s.heap.IsTupleIter iA tA k) (gt : s.heap.IsTuple tA ys) (gy : ys[k]? = none)
    (fin : ∀ h9, Heap.ExtBut iA s.heap h9 → Q none { s with heap := h9 }) : wpAny (model prog w) A (pyNext (.ref eA)) Q E s := by
  have ty : s.TypeIs (.ref eA) "enumerate" := ⟨_, en, rfl⟩
  unfold pyNext
  refine wpAny_bind (wpAny_attempt (wpAny_callSpecial?_slot (name := Str.ofString "__next__") ty F.slot_enumerate_next (wpAny_call_entry F.slot_enumerate_next ty F.entry_enumerate_next ?_ (F.args_enumerate_next_1 _))))
  show wpAny _ _ (field (.ref eA) 2 >>= _) _ _ _
  refine wpAny_bind (wpAny_field (x := Value.ref iA) en rfl rfl ?_)
  refine wpAny_bind (wpAny_nextOf_tuple_end calm gi gt gy fun h9 z eb ⟨oz, gz, cz⟩ => ?_)
  exact wpAny_bind (wpAny_isInstance (T := "StopIteration") (b := true) ⟨oz, gz, cz⟩ isSubtype_stop (wpAny_pure (fin h9 eb)))
end
/-- pairs of an enumerate over a tuple -/
theorem pairs_ent {prog : Program} {w : World} (eA iA tA : Addr) (ne : eA ≠ iA) (n1 : tA ≠ eA) (n2 : tA ≠ iA) (ys : Array Value) :
    PairArg prog w "enumerate" eA [eA, iA, tA] [eA, iA] ys.size (fun k x y => (∃ t, x = Value.int k t) ∧ ys[k]? = some y) (fun h => IsEnum h eA iA 0 .none ∧ h.IsTupleIter iA tA 0 ∧ h.IsTuple tA ys) := by
  have inA : ∀ {c : Addr}, c ∉ [eA, iA] → c ≠ eA ∧ c ≠ iA := fun h => ⟨fun z => h (by simp [z]), fun z => h (by simp [z])⟩
  refine { type := fun s ok => ⟨_, ok.1, rfl⟩, notDict := by decide, keep := ?keep, there := ?there, sub := ?sub, noKeys := ?nk, iter := ?iter }
  case keep => exact fun h h' ok hk => ⟨hk _ _ ok.1, ok.2.1.at fun u q => hk _ u q, ok.2.2.at fun u q => hk _ u q⟩
  case there =>
    rintro h ⟨g1, ⟨u1, g2, _⟩, ⟨u2, g3, _⟩⟩ c hc
    have three : c = eA ∨ c = iA ∨ c = tA := by simpa using hc
    rcases three with rfl | rfl | rfl
    · exact ⟨_, g1⟩
    · exact ⟨u1, g2⟩
    · exact ⟨u2, g3⟩
  case sub =>
    intro c hc
    have two : c = eA ∨ c = iA := by simpa using hc
    rcases two with rfl | rfl <;> simp
  case nk => exact fun A s Q E hA ok h => getAttrOr_miss_enumerate ok.1 rfl rfl rfl enumerate_no_keys (by decide +kernel) hA h
  case iter =>
    intro A s d Q E calm ok hd hdf fin
    obtain ⟨g1, g2, g3⟩ := ok
    have dn : d ≠ eA ∧ d ≠ iA ∧ d ≠ tA := ⟨fun z => hdf (by simp [z]), fun z => hdf (by simp [z]), fun z => hdf (by simp [z])⟩
    have D : Draws prog w A.in1 iA [iA, tA] ys.size (fun k v => ys[k]? = some v) (fun k h => h.IsTupleIter iA tA k ∧ h.IsTuple tA ys) := Draws.tuple (show A.in1.handled = none from calm) iA tA n2 ys
    have D0 : Draws prog w A iA [iA, tA] ys.size (fun k v => ys[k]? = some v) (fun k h => h.IsTupleIter iA tA k ∧ h.IsTuple tA ys) := Draws.tuple calm iA tA n2 ys
    refine wpAny_pyIter_enum g1 ?_
    refine fin eA [eA, iA] (fun k h => h.IsTupleIter iA tA k ∧ h.IsTuple tA ys ∧ ((∃ z0, IsEnum h eA iA k z0) ∨ ∃ z0 hA b oh, IsEnumHeld h eA iA k z0 hA b ∧ h.get? hA = some oh ∧ hA ≠ eA ∧ hA ≠ iA ∧ hA ≠ d)) s.heap s.toks ?src ⟨g2, g3, .inl ⟨_, g1⟩⟩ (fun _ _ q => q) fun c hc => .inl hc
    refine { off := fun z => ?_, frame := ?_, item := ?_, done := ?_ }
    · have two : d = eA ∨ d = iA := by simpa using z
      rcases two with z | z
      · exact dn.1 z
      · exact dn.2.1 z
    · rintro k h h' ⟨f1, f2, f3⟩ hk
      refine ⟨f1.at fun u q => hk _ u (Ne.symm dn.2.1) q, f2.at fun u q => hk _ u (Ne.symm dn.2.2) q, ?_⟩
      rcases f3 with ⟨z0, f3⟩ | ⟨z0, hA, b, oh, f3, f4, m1, m2, m3⟩
      · exact .inl ⟨z0, hk _ _ (Ne.symm dn.1) f3⟩
      · exact .inr ⟨z0, hA, b, oh, hk _ _ (Ne.symm dn.1) f3, hk _ _ m3 f4, m1, m2, m3⟩
    · rintro k s1 Q1 E1 lt ⟨f1, f2, f3⟩ big out
      have gy : ys[k]? = some ys[k] := Array.getElem?_eq_getElem lt
      generalize ys[k] = y at gy
      have up : ((k + 1 : Nat) : Int) = (k : Int) + 1 := by omega
      have iLt : iA < s1.heap.objs.size := by
        obtain ⟨_, q, _⟩ := f1
        exact Heap.lt_size q
      rcases f3 with ⟨z0, f3⟩ | ⟨z0, hA, b, oh, f3, f4, m1, m2, m3⟩
      · refine wpAny_pyNext_enum_itemD D f3 ⟨f1, f2⟩ lt ne (by simp [ne, Ne.symm n1]) fun y' h' tk hy ho hst hT hsz hk => ?_
        exact out s1.heap.objs.size _ _ h' _ ⟨⟨_, rfl⟩, hy⟩ (.inl ⟨_, hT, rfl, _, rfl⟩) ⟨hst.1, hst.2, .inr ⟨_, s1.heap.objs.size, false, _, (by rw [up]; exact ho), hT, Nat.ne_of_gt (Heap.lt_size f3), Nat.ne_of_gt iLt, Nat.ne_of_gt big⟩⟩
          fun c u hc q => hk c u (inA hc).1 (fun z => (inA hc).2 z) q
      · refine ent_held f3 f4 m1 m2 ne f1 f2 gy fun h9 e9 i9 t9 k9 => ?_
        exact out s1.heap.objs.size _ _ h9 _ ⟨⟨_, rfl⟩, gy⟩ (.inl ⟨_, t9, rfl, _, rfl⟩) ⟨i9, f2.at fun u q => k9 _ u n1 n2 q, .inr ⟨z0, hA, true, oh, (by rw [up]; exact e9), k9 _ _ m1 m2 f4, m1, m2, m3⟩⟩
          fun c u hc q => k9 c u (inA hc).1 (inA hc).2 q
    · rintro s1 Q1 E1 ⟨f1, f2, f3⟩ out
      have gy : ys[ys.size]? = none := Array.getElem?_eq_none (Nat.le_refl _)
      rcases f3 with ⟨z0, f3⟩ | ⟨z0, hA, b, oh, f3, f4, m1, m2, m3⟩
      · exact wpAny_pyNext_enum_endD D f3 ⟨f1, f2⟩ fun h9 eb => out h9 s1.toks fun c u hc q => eb c u (inA hc).2 q
      · exact ent_stop calm f3 f1 f2 gy fun h9 eb => out h9 s1.toks fun c u hc q => eb c u (inA hc).2 q
/-- numbers from i on, beside what stands there -/
def numK {α : Type} : List α → Nat → List (Key × α)
  | [], _ => []
  | x :: r, i => (Sum.inl ((i : Nat) : Int), x) :: numK r (i + 1)
theorem numK_len {α : Type} : ∀ (l : List α) (i : Nat), (numK l i).length = l.length
  | [], _ => rfl
  | x :: r, i => by rw [numK, List.length_cons, List.length_cons, numK_len]
theorem numK_at {α : Type} : ∀ {l : List α} {i j : Nat} {x : α}, l[j]? = some x → (numK l i)[j]? = some (Sum.inl ((i + j : Nat) : Int), x)
  | [], _, j, _, h => by simp at h
  | y :: r, i, 0, _, h => by
    cases h
    rfl
  | y :: r, i, j + 1, x, h => by
    have := numK_at (i := i + 1) (show r[j]? = some x from h)
    rw [numK]
    show (numK r (i + 1))[j]? = _
    rw [this, show i + 1 + j = i + (j + 1) by omega]
theorem numK_kv : ∀ {xs : List V} {us : List Value} (i : Nat), Vals xs us → KV (numK xs i) (numK us i)
  | _, _, _, .nil => .nil
  | _, _, i, .cons a t => .cons ⟨rfl, a⟩ (numK_kv (i + 1) t)
/-- dict(enumerate(t)) -/
def tDEnT (K : PySem.W.Frag) (ta : TA) : TE := fun σ H Q => ta σ H fun vs H1 => ∃ a xs, vs = [.ref a] ∧ SqT K H1 a xs ∧ ∀ p, H1 p = none → Q (.ref p) (upd H1 p (.dK (mergeK [] (numK xs 0))))
theorem pe_dEnT {X : Cx} {e : Expr} {ta : TA} {p1 p2 c1 c2 : Pos} (calm : X.calm = true) (gd : Gl X "dict") (md : X.mg "dict" = none) (ge : Gl X "enumerate") (me : X.mg "enumerate" = none) (ha : PA X [e] ta)
    (hs : starEach [e] X.env = [(false, eval e X.env)] := by rfl) (hs2 : starEach [Expr.Call (.Name "enumerate" p1) [e] [] c1] X.env = [(false, eval (.Call (.Name "enumerate" p1) [e] [] c1) X.env)] := by rfl) :
    PE X (.Call (.Name "dict" p2) [.Call (.Name "enumerate" p1) [e] [] c1] [] c2) (tDEnT X.K ta) := by
  constructor
  intro pins s σ H Q I h
  refine Call_ (ld_blt I gd md (show bootBuiltins "dict" = some (.type "dict") by decide +kernel) (PyProof.Rows.callWith_type1 ?_ hs2 rfl))
  rw [hs2]
  refine Calls.spliced_cons ?_
  refine Call_ (ld_blt I ge me boot_enumerate (PyProof.Rows.callWith_type1 (thn (ha.run c1 pins s σ H _ I h) ?_) hs rfl))
  rintro us s1 ⟨vs, H1, I1, r1, a, xs, rfl, hq, q⟩
  obtain ⟨u, rfl, ru⟩ := vals1 r1
  cases (show u = Value.ref a from ru)
  obtain ⟨its, rv, pt, hz⟩ := I1.tuple hq
  refine enum1 (begins_tuple a its.toArray) pt ?_
  intro h2 en it k2
  refine Calls.spliced_nil ?_
  have al : a < s1.heap.objs.size := by
    obtain ⟨_, g, _⟩ := pt
    exact Heap.lt_size g
  have n1 : s1.heap.objs.size + 1 ≠ s1.heap.objs.size := Nat.succ_ne_self _
  have P := pairs_ent (prog := X.prog) (w := X.w) (s1.heap.objs.size + 1) s1.heap.objs.size a n1 (Nat.ne_of_lt (Nat.lt_succ_of_lt al)) (Nat.ne_of_lt al) its.toArray
  have lx := rv.length
  refine PySem.call_dict_pairs (knd := mixKind X.prog X.w) (kvs := numK its 0) P (I1.ok.hd calm) ⟨en, ⟨_, it, rfl, rfl⟩, (id pt : s1.heap.IsTuple a its.toArray).at fun o g => k2 _ _ g⟩ ⟨?_, ?_⟩ ?_ fun h3 tk dd k3 => ?_
  · rw [numK_len]
    simp
  · rintro i key v ⟨⟨t, rfl⟩, hv⟩
    refine ⟨Sum.inl ((i : Nat) : Int), ?_, ?_⟩
    · have := numK_at (i := 0) (j := i) (x := v) (l := its) (by simpa using hv)
      rw [Nat.zero_add] at this
      exact this
    · exact kV_is (P := X.prog) (w := X.w) (k := Sum.inl ((i : Nat) : Int)) ⟨t, rfl⟩
  · simp
    omega
  · have le2 : s1.heap.objs.size ≤ h2.objs.size := by
      exact Nat.le_of_lt (Nat.lt_of_succ_lt (Heap.lt_size en))
    have keep : ∀ b o, s1.heap.get? b = some o → h3.get? b = some o := fun b o g => by
      have bl := Heap.lt_size g
      refine k3 b o (fun z => ?_) (k2 b o g)
      have two : b = s1.heap.objs.size + 1 ∨ b = s1.heap.objs.size := by simpa using z
      rcases two with z | z
      · rw [z] at bl
        exact Nat.lt_irrefl _ (Nat.lt_of_succ_lt bl)
      · rw [z] at bl
        exact Nat.lt_irrefl _ bl
    have hm : (h2.objs.size == sysModules) = false := beq_eq_false_iff_ne.mpr (Nat.ne_of_gt (Nat.lt_of_lt_of_le I1.big le2))
    have hlen : (mergeK [] (numK xs 0)).length ≤ sizeLine := by
      refine Nat.le_trans (length_mergeK _ []) ?_
      rw [List.length_nil, Nat.zero_add, numK_len]
      omega
    exact ⟨.ref h2.objs.size, upd H1 h2.objs.size (.dK (mergeK [] (numK xs 0))), I1.laid (t' := tk) keep le2 (show ObjOk X.prog X.w _ _ _ (.dK (mergeK [] (numK xs 0))) from ⟨hlen, hm, merged [] (numK its 0), KV.merge (numK_kv 0 rv) .nil, dd⟩), rfl, q _ (I1.hok.fresh le2)⟩
end SfG
/-! what stands behind a statement, said once for all the ways to it -/
namespace SfG
open PySem PySem.Spec PyProof.Rows L2
theorem seq_end {t u : TS} {D : Ends} {σ : L2.St} {H : Hp} (Fa : L2.St → Hp → Prop) (hE : ∀ σ S, Fa σ S → u D σ S) (h : (∀ σ S, Fa σ S → u D σ S) → tSeq t u D σ H) : tSeq t u D σ H := h hE
theorem seq_go {t u : TS} {D : Ends} {σ : L2.St} {H : Hp} (h : t { D with nx := u D } σ H) : tSeq t u D σ H := h
theorem gname_go {i : Nat} {v : V} {σ : L2.St} {H : Hp} {Q : L2.St → Hp → Prop} (h : Q (σ.set i (some v)) H) : gName i v σ H Q := h
theorem if_else {tc : TT} {t u : TS} {D : Ends} {σ : L2.St} {H : Hp} (Fa : Hp → Prop) (hE : ∀ S, Fa S → u D σ S) (h : (∀ S, Fa S → u D σ S) → tIfS tc t u D σ H) : tIfS tc t u D σ H := h hE
end SfG
/-! zip of two tuples of one length -/
namespace SfG
open PySem PySem.Spec PyProof.Rows L2
theorem walk_zipT {K : PySem.W.Frag} {a b : Addr} {xs ys : List V} (hl : ys.length = xs.length) : Walk (RZ.ItzT K a b) xs.length (fun H => SqT K H a xs ∧ SqT K H b ys) (YPair (fun i => xs[i]?) (fun i => ys[i]?)) := by
  refine ⟨?_, ?_, ?_⟩
  · intro i _ hi q
    exact ⟨xs, ys, xs[i], ys[i]'(by omega), q.1, q.2, by simp [hi], by simp [hl, hi]⟩
  · intro _ q
    exact ⟨xs, ys, q.1, q.2, .inl (Nat.le_refl _)⟩
  · rintro i H v H' _ q ⟨T, x, y, h1, h2, h3, h4, h5⟩
    exact ⟨T, x, y, h1, h2, h3, h4 xs q.1, h5 ys q.2⟩
end SfG
/-! x *= y of numbers -/
namespace SfG
open PySem PySem.Spec PyProof.Rows L2
theorem ip_mul {X : Cx} : PIp X .Mult (fun x y H Q => ∃ i j : Int, x = .int i ∧ y = .int j ∧ CMul i j ∧ Q (.int (i * j)) H) := by
  intro pins s σ H x y v u Q I r1 r2 h
  obtain ⟨i, j, e1, e2, c, q⟩ := h
  subst e1; subst e2
  obtain ⟨t, rfl⟩ := r1
  obtain ⟨t', rfl⟩ := r2
  exact imul_int ⟨.int _, H, I.tok _, ⟨_, rfl⟩, q⟩ c.ok
end SfG
/-! t[::-1], t * n of tuples -/
namespace SfG
open PySem PySem.Spec PyProof.Rows L2
section
variable {prog : Program} {w : World} {A : Around} {E : Value → Shared → Prop} {s : Shared}
theorem adjust_rev (n : Nat) : Builtin.Slice.sliceAdjust none none (-1) (n : Int) = ((n : Int) - 1, -1) := by
  unfold Builtin.Slice.sliceAdjust
  have h1 : ((-1 : Int) < 0) := by omega
  simp only [h1, if_true]
theorem places_rev (n : Nat) : Builtin.Slice.slicePlaces ((n : Int) - 1) (-1) (-1) = n := by
  unfold Builtin.Slice.slicePlaces
  have h1 : ¬ ((-1 : Int) > 0) := by omega
  simp only [h1, if_false]
  have e1 : (- -1 : Int) = 1 := by decide
  rw [e1, Int.ediv_one]
  split <;> omega
theorem fm_congr {α β : Type} {f g : α → Option β} : ∀ {l : List α}, (∀ x ∈ l, f x = g x) → l.filterMap f = l.filterMap g
  | [], _ => rfl
  | a :: r, h => by
    rw [List.filterMap_cons, List.filterMap_cons, h a List.mem_cons_self, fm_congr fun x hx => h x (List.mem_cons_of_mem _ hx)]
theorem applied_rev {sl : Addr} {vl vu vs : Value} {n : Nat} {Q : Int × Int × Nat → Shared → Prop} (hs : s.heap.IsSliceOf sl vl vu vs) (pl : IsPart vl none) (pu : IsPart vu none) (pk : IsPart vs (some (-1)))
    (h : Q ((n : Int) - 1, -1, n) s) : wpAny (model prog w) A (Builtin.Slice.sliceApplied (.ref sl) (pure (n : Int))) Q E s := by
  obtain ⟨os, hos, hcs, hds⟩ := id hs
  unfold Builtin.Slice.sliceApplied Builtin.Slice.sliceFields
  refine wpAny_bind (wpAny_bind (wpAny_field hos hds (x := vl) rfl (wpAny_bind (wpAny_field hos hds (x := vu) rfl (wpAny_bind (wpAny_field hos hds (x := vs) rfl (wpAny_pure ?_)))))))
  refine wpAny_bind (HT.slicePart_ pk ?_)
  show wpAny _ _ (if ((-1 : Int) == 0) = true then _ else _) _ _ s
  rw [if_neg (by decide)]
  refine wpAny_bind (HT.slicePart_ pl (wpAny_bind (HT.slicePart_ pu (wpAny_bind (wpAny_pure ?_)))))
  show wpAny _ _ (match Builtin.Slice.sliceAdjust none none (-1) (n : Int) with | (lo, hi) => pure (lo, (-1 : Int), Builtin.Slice.slicePlaces lo hi (-1))) _ _ s
  rw [adjust_rev n]
  show wpAny _ _ (pure ((n : Int) - 1, (-1 : Int), Builtin.Slice.slicePlaces ((n : Int) - 1) (-1) (-1))) _ _ s
  rw [places_rev]
  exact wpAny_pure h
theorem pick_rev (xs : Array Value) : ((List.range xs.size).filterMap fun (m : Nat) => xs[(((xs.size : Int) - 1) + (m : Int) * (-1)).toNat]?).toArray = xs.toList.reverse.toArray := by
  have e : ∀ m ∈ List.range xs.size, (xs[(((xs.size : Int) - 1) + (m : Int) * (-1)).toNat]?) = xs[xs.size - 1 - m]? := by
    intro m hm
    have hm' := List.mem_range.mp hm
    have : (((xs.size : Int) - 1) + (m : Int) * (-1)).toNat = xs.size - 1 - m := by omega
    rw [this]
  rw [fm_congr e]
  have := PySem.W.krv_pick xs
  have e2 : (List.range xs.size).filterMap (fun m => xs[xs.size - 1 - m]?) = xs.toList.reverse := by
    have h1 : (List.range xs.size).filterMap (fun m => xs[xs.size - 1 - m]?) = ((List.range xs.size).map (fun k => xs.size - 1 - k)).filterMap (xs[·]?) := by
      rw [List.filterMap_map]
      rfl
    rw [h1, PySem.W.krv_range, List.filterMap_reverse, PySem.W.krv_all]
  rw [e2]
theorem getItem_tuple_rev {t sl : Addr} {items : Array Value} {vl vu vs : Value} {Q : Value → Shared → Prop} (ht : IsTup s.heap t items) (hs : s.heap.IsSliceOf sl vl vu vs) (pl : IsPart vl none) (pu : IsPart vu none) (pk : IsPart vs (some (-1)))
    (h : Q (.ref s.heap.objs.size) { s with heap := s.heap.push { cls := .type "tuple", data := .seq items.toList.reverse.toArray } })
    (hsz : items.size ≤ sizeLine) : wpAny (model prog w) A (getItem (.ref t) (.ref sl)) Q E s := by
  have htake : sizeOk (.seq items.toList.reverse.toArray) := by
    show items.toList.reverse.toArray.size ≤ sizeLine
    rw [List.size_toArray, List.length_reverse, Array.length_toList]
    exact hsz
  obtain ⟨os, hos, hcs, hds⟩ := id hs
  have hTs : s.TypeIs (.ref sl) "slice" := ⟨os, hos, hcs⟩
  unfold getItem
  try with_reducible refine wpAny_holding ?_
  first | refine wpAny_bind (wpAny_pure ?_) | skip
  refine wpAny_bind (wpAny_sequenceKey ht.typeIs (by decide) ?_)
  refine wpAny_bind (wpAny_callSpecial?_slot (name := Str.ofString "__getitem__") ht.typeIs PyProof.Rows.slot_tuple_getitem
    (wpAny_call_entry PyProof.Rows.slot_tuple_getitem ht.typeIs entry_tuple_getitem ?_ (args_tuple_getitem _ _)))
  show wpAny _ _ (Builtin.Tuple.tupleItemsOf (.ref t) >>= _) _ _ s
  refine wpAny_bind (tupleItemsOf_ ht ?_)
  refine wpAny_bind (wpAny_typeOf hTs ?_)
  rw [if_pos (by decide)]
  refine wpAny_bind (applied_rev hs pl pu pk ?_)
  have hno : ¬ ((((items.size : Int) - 1) == 0 && (-1 : Int) == 1 && items.size == items.size) = true) := by simp
  show wpAny _ _ (if (((items.size : Int) - 1) == 0 && (-1 : Int) == 1 && items.size == items.size) = true then _ else _) _ _ s
  rw [if_neg hno, pick_rev]
  first
    | exact wpAny_bind (m := Builtin.Tuple.tupleExact _) (wpAny_newObj_type (wpAny_pure ⟨_, rfl, wpAny_pure h⟩) htake)
    | exact wpAny_bind (m := Builtin.Tuple.tupleExact _) (wpAny_newObj_type (wpAny_bind (wpAny_pure (wpAny_pure ⟨_, rfl, wpAny_pure h⟩))) htake)
    | exact wpAny_bind (wpAny_bind (m := Builtin.Tuple.tupleExact _) (wpAny_newObj_type (wpAny_pure (wpAny_pure ⟨_, rfl, wpAny_pure h⟩)) htake))
    | exact wpAny_bind (wpAny_bind (m := Builtin.Tuple.tupleExact _) (wpAny_newObj_type (wpAny_pure ⟨_, rfl, wpAny_pure h⟩) htake))
end
section
variable {X : Cx}
/-- t[::-1] -/
def tRevT (K : PySem.W.Frag) (te : TE) : TE := fun σ H Q => te σ H fun x H1 => ∃ a xs, x = .ref a ∧ SqT K H1 a xs ∧ ∀ p, H1 p = none → Q (.ref p) (upd H1 p (.tup xs.reverse))
theorem pe_revT {e : Expr} {te : TE} {k : Nat} {p1 p2 p3 pos : Pos} (he : PE X e te) : PE X (.Subscript e (.Slice none none (some (.UnaryOp .USub (.Constant (.int 1) k p1) p2)) p3) pos) (tRevT X.K te) := by
  refine ⟨fun pins s σ H Q I h => ?_⟩
  refine Subscript_ (thn (he.run pins s σ H _ I h) fun v s1 ⟨x, H1, I1, r1, q1⟩ => ?_)
  obtain ⟨a, xs, ex, hx, q⟩ := q1
  subst ex
  cases r1
  have hst : PO X (some (.UnaryOp .USub (.Constant (.int 1) k p1) p2)) (tPart (tUn (rU fun i => .int (-i)) (tC (.int 1)))) := po_some (pe_un un_neg pe_int)
  refine wpAny_Slice (thn (po_none.run pins s1 σ H1 (fun o H2 => o = none ∧ H2 = H1) I1 ⟨rfl, rfl⟩) fun vl s2 ⟨l, H2, I2, pl, el, e2⟩ => ?_)
  subst el e2
  refine thn (po_none.run pins s2 σ H2 (fun o H3 => o = none ∧ H3 = H2) I2 ⟨rfl, rfl⟩) fun vu s3 ⟨u, H3, I3, pu, eu, e3⟩ => ?_
  subst eu e3
  refine thn (hst.run pins s3 σ H3 (fun o H4 => o = some (-1) ∧ H4 = H3) I3 ⟨1, rfl, -1, rfl, rfl, rfl⟩) fun vs s4 ⟨o, H4, I4, ps, eo, e4⟩ => ?_
  subst eo e4
  have I5 : Inv X pins σ H4 { s4 with heap := s4.heap.push { cls := .type "slice", data := .fields #[vl, vu, vs] } } := I4.kept (t' := s4.toks) fun b ob q => Heap.get?_push_of_some _ q
  obtain ⟨its, r, ht, hz⟩ := I5.tuple hx
  have hlen := r.length
  show wpAny (model X.prog X.w) X.A (subscriptTail e (.Slice none none (some (.UnaryOp .USub (.Constant (.int 1) k p1) p2)) p3) (.ref a) (.ref s4.heap.objs.size)) (EP X pins σ Q) X.xe { s4 with heap := s4.heap.push { cls := .type "slice", data := .fields #[vl, vu, vs] } }
  refine tail_any (ops := [.ref a, .ref s4.heap.objs.size]) ht.typeIs (PyProof.Rows.slot_tuple_getitem.lookup) ?_ (by with_unfolding_all rfl)
  refine getItem_tuple_rev ht (Heap.IsSliceOf.new _ vl vu vs) pl pu ps ?_ (by rw [List.size_toArray]; omega)
  refine ⟨.ref _, _, I5.laid (t' := s4.toks) (o := .tup xs.reverse) (fun b ob q => Heap.get?_push_of_some _ q) (Nat.le_refl _) ?_, rfl, q _ (I5.hok.fresh (Nat.le_refl _))⟩
  exact ⟨by rw [List.length_reverse]; exact hz, _, r.reverse, IsTup.new _ _⟩
end
end SfG
namespace SfG
open PySem PySem.Spec PyProof.Rows L2
/-! ### the same of data, whatever tuple comes -/
section
variable {K : PySem.W.Frag} {H : Hp} {r : Addr}
theorem new_T {xs : List V} {ds : List PyData} (np : H r = none) (h : DxA K H xs ds) : Dx K (upd H r (.tup xs)) (.ref r) (.tuple ds) := .tup (.inl (.inl upd_same)) ((Gr.new np).kx.dxA h)
theorem new_L {xs : List V} {ds : List PyData} (np : H r = none) (h : DxA K H xs ds) : Dx K (upd H r (.lst xs)) (.ref r) (.list ds) := .lst (.inl (.inl upd_same)) ((Gr.new np).kx.dxA h)
theorem new_E (np : H r = none) : Dx K (upd H r (.dK [])) (.ref r) (.dict []) := .emp upd_same
end
def rCat0 (K : PySem.W.Frag) : R2 := fun x y H Q => ∃ (ds es : List PyData), Dx K H x (.tuple ds) ∧ Dx K H y (.tuple es) ∧ ds.length + es.length ≤ sizeLine ∧ ∀ v H', Gr H H' → Dx K H' v (.tuple (ds ++ es)) → Q v H'
def rSl0 (K : PySem.W.Frag) : V → Option Int → Option Int → Hp → VK → Prop := fun x lo hi H Q => ∃ (ds : List PyData), Dx K H x (.tuple ds) ∧ ∀ v H', Gr H H' → Dx K H' v (.tuple (cutD ds lo hi)) → Q v H'
def rRep0 (K : PySem.W.Frag) : R2 := fun x y H Q => ∃ (ds : List PyData) (n : Nat), Dx K H x (.tuple ds) ∧ y = .int (n : Int) ∧ ds ≠ [] ∧ 2 ≤ n ∧ n ≤ 1000 ∧ ds.length ≤ 1000 ∧ ∀ v H', Gr H H' → Dx K H' v (.tuple (List.replicate n ds).flatten) → Q v H'
theorem dxA_rep {K : PySem.W.Frag} {H : Hp} {xs : List V} {ds : List PyData} (h : DxA K H xs ds) : ∀ n : Nat, DxA K H (List.replicate n xs).flatten (List.replicate n ds).flatten
  | 0 => .nil
  | n + 1 => by
    rw [List.replicate_succ, List.replicate_succ, List.flatten_cons, List.flatten_cons]
    exact dxA_app h (dxA_rep h n)
section
variable {X : Cx}
theorem op_cat0 : OpR X (binaryOp .Add) (rCat0 X.K) := by
  intro pins s σ H x y v u Q I rx ry h
  obtain ⟨ds, es, hx, hy, hl, q⟩ := h
  refine op_catX pins s σ H x y v u Q I rx ry ⟨[], ds, es, ?_, ?_, There.nil, hl, fun v' H' g h' => ?_⟩
  · rw [hide_nil]
    exact hx
  · rw [hide_nil]
    exact hy
  · rw [hide_nil] at h'
    exact q v' H' g h'
theorem sl_tup0 : SlR X (rSl0 X.K) := by
  intro pins s σ H x v vl vu lo hi sl Q I rx hs pl pu h
  obtain ⟨ds, hx, q⟩ := h
  refine sl_tupX pins s σ H x v vl vu lo hi sl Q I rx hs pl pu ⟨[], ds, ?_, There.nil, fun v' H' g h' => ?_⟩
  · rw [hide_nil]
    exact hx
  · rw [hide_nil] at h'
    exact q v' H' g h'
theorem op_rep0 : OpR X (binaryOp .Mult) (rRep0 X.K) := by
  intro pins s σ H x y v u Q I rx ry h
  obtain ⟨ds, n, hx, rfl, hne, h2, h3, hl, q⟩ := h
  obtain ⟨a, xs, rfl, ha, hxs⟩ := dx_tup hx
  have l1 := dxA_len hxs
  refine op_repT pins s σ H _ _ v u Q I rx ry ⟨a, n, xs, rfl, rfl, ha, ?_, by omega, by omega, by omega, fun p np => ?_⟩
  · rintro rfl
    exact hne (List.length_eq_zero_iff.mp (by rw [← l1]; rfl))
  · rw [Int.toNat_natCast]
    exact q _ _ (Gr.new np) (new_T np (dxA_rep hxs n))
end
end SfG
/-! t * n, n 0 or 1 too; t != () -/
namespace SfG
open PySem PySem.Spec PyProof.Rows L2
theorem tuple_mul_same (l : Addr) (items : Array Value) (n : Nat) (dd : Option Addr) (sl : Array (Option Value)) (x : Int) (u : Tok) (c0 : (decide (x < -(2 ^ 63)) || decide (x ≥ 2 ^ 63)) = false) (c1 : (items.isEmpty || x == 1) = true) :
    Meets (Builtin.«tuple.__mul__» ⟨[.ref l, .int x u], []⟩) (fun _ R s => s.heap.get? l = some { cls := .type "tuple", dict := dd, data := .seq items n, slots := sl } ∧ R (.ok (.ret (Value.ref l))) s) :=
  .of_wp fun prog w A R s h => by
    obtain ⟨hp, g, d, tk, os⟩ := s
    obtain ⟨hl, h⟩ := h
    have f1 := AutoSeq1.idx_int
    wp_walk using wpAny_loadPart' hl
    repeat (first
      | (refine wpAny_ite_false (decide_eq_false (by rw [c0]; exact Bool.false_ne_true)) ?_; wp_walk using wpAny_loadPart' hl)
      | (refine wpAny_ite_true (decide_eq_true c1) ?_; wp_walk using wpAny_loadPart' hl))
    exact ⟨_, rfl, h⟩
theorem tuple_mul_none (l : Addr) (items : Array Value) (n : Nat) (dd : Option Addr) (sl : Array (Option Value)) (x : Int) (u : Tok) (c0 : (decide (x < -(2 ^ 63)) || decide (x ≥ 2 ^ 63)) = false) (c1 : (items.isEmpty || x == 1) = false) (c2 : (decide (x ≤ 0) || items.isEmpty) = true) :
    Meets (Builtin.«tuple.__mul__» ⟨[.ref l, .int x u], []⟩) (fun _ R s => s.heap.get? l = some { cls := .type "tuple", dict := dd, data := .seq items n, slots := sl } ∧
      R (.ok (.ret (Value.ref s.heap.objs.size))) { s with heap := s.heap.push { cls := Value.type "tuple", data := Data.seq #[] }, toks := s.toks }) :=
  .of_wp fun prog w A R s h => by
    obtain ⟨hp, g, d, tk, os⟩ := s
    obtain ⟨hl, h⟩ := h
    have f1 := AutoSeq1.idx_int
    wp_walk using wpAny_loadPart' hl
    repeat (first
      | (refine wpAny_ite_false (decide_eq_false (by rw [c0]; exact Bool.false_ne_true)) ?_; wp_walk using wpAny_loadPart' hl)
      | (refine wpAny_ite_false (decide_eq_false (by rw [c1]; exact Bool.false_ne_true)) ?_; wp_walk using wpAny_loadPart' hl)
      | (refine wpAny_ite_true (decide_eq_true c2) ?_; wp_walk using wpAny_loadPart' hl))
    exact ⟨_, rfl, h⟩
/-- of one thing at least -/
def rMulT (K : PySem.W.Frag) : R2 := fun x y H Q => ∃ (l : Addr) (k : Nat) (xs : List V), x = .ref l ∧ y = .int (k : Nat) ∧ SqT K H l xs ∧ xs ≠ [] ∧ k ≤ 1000 ∧ xs.length ≤ 1000 ∧ ∀ p H', Gr H H' → SqT K H' p (List.replicate k xs).flatten → Q (.ref p) H'
section
variable {X : Cx}
theorem op_mulT : OpR X (binaryOp .Mult) (rMulT X.K) := by
  intro pins s σ H x y v u Q I rx ry h
  obtain ⟨l, k, xs, rfl, rfl, hT, hne, h2, hz, q⟩ := h
  rcases Nat.lt_or_ge 1 k with hk | hk
  · refine op_repT pins s σ H _ _ v u Q I rx ry ⟨l, (k : Nat), xs, rfl, rfl, hT, hne, by omega, by omega, hz, fun p np => ?_⟩
    rw [Int.toNat_natCast]
    exact q p _ (Gr.new np) (.inl (.inl upd_same))
  cases rx
  obtain ⟨t, rfl⟩ := ry
  obtain ⟨its, r, ⟨⟨cls, dd, data, sl⟩, ho, hc, n, hd⟩, hs⟩ := I.tuple hT
  simp only at hc hd
  subst hc hd
  have hle : its.length = xs.length := r.length.symm
  have hn : its ≠ [] := fun e => hne (by
    rw [e] at hle
    exact List.eq_nil_of_length_eq_zero hle.symm)
  have hi : its.toArray.isEmpty = false := by
    cases its with
    | nil => exact absurd rfl hn
    | cons a b => rfl
  have c0 : (decide (((k : Nat) : Int) < -(2 ^ 63)) || decide (((k : Nat) : Int) ≥ 2 ^ 63)) = false := by
    rw [decide_eq_false (by omega), decide_eq_false (by omega)] <;> rfl
  by_cases k1 : k = 1
  · subst k1
    refine wpAny_binaryOp_repeat_ref (T := "tuple") (U := "int") (by decide) ⟨_, ho, rfl⟩ (fun s' => typeIs_int s' _ t) noFill_tuple_mul F.fills_int_mul F.slot_int_rmul repeat_tuple F.slot_int_index.lookup
      (call_meets F.slot_int_rmul (typeIs_int s _ t) F.entry_int_rmul (F.args_int_rmul_2 _ _) (int_rmul_tuple _ t l its.toArray n dd sl)
        ⟨ho, rfl, ⟨_, ho, rfl⟩, call_meets F.slot_tuple_mul ⟨_, ho, rfl⟩ F.entry_tuple_mul (F.args_tuple_mul_2 _ _) (tuple_mul_same l its.toArray n dd sl _ t c0 (by rw [hi]; rfl)) ⟨ho, ?_⟩⟩)
    refine ⟨.ref l, H, I, rfl, q l H (Gr.refl H) ?_⟩
    rw [List.replicate_one, List.flatten_singleton]
    exact hT
  · have k0 : k = 0 := by omega
    subst k0
    refine wpAny_binaryOp_repeat_ref (T := "tuple") (U := "int") (by decide) ⟨_, ho, rfl⟩ (fun s' => typeIs_int s' _ t) noFill_tuple_mul F.fills_int_mul F.slot_int_rmul repeat_tuple F.slot_int_index.lookup
      (call_meets F.slot_int_rmul (typeIs_int s _ t) F.entry_int_rmul (F.args_int_rmul_2 _ _) (int_rmul_tuple _ t l its.toArray n dd sl)
        ⟨ho, rfl, ⟨_, ho, rfl⟩, call_meets F.slot_tuple_mul ⟨_, ho, rfl⟩ F.entry_tuple_mul (F.args_tuple_mul_2 _ _) (tuple_mul_none l its.toArray n dd sl _ t c0 (by rw [hi]; rfl) (by rfl)) ⟨ho, ?_⟩⟩)
    refine ⟨.ref s.heap.objs.size, _, I.laid (t' := s.toks) (o := .tup (List.replicate 0 xs).flatten) (fun b ob q => Heap.get?_push_of_some _ q) (Nat.le_refl _) ?_, rfl, q _ _ (Gr.new (I.hok.fresh (Nat.le_refl _))) (.inl (.inl upd_same))⟩
    exact ⟨Nat.zero_le _, _, .nil, IsTup.new _ _⟩
/-- t != () -/
def rNeT0 (K : PySem.W.Frag) : R2 := fun x y H Q => ∃ (p q : Addr) (l : List V), x = .ref p ∧ y = .ref q ∧ SqT K H p l ∧ SqT K H q [] ∧ Q (.bl (!l.isEmpty)) H
theorem op_neT0 {k : Nat} (hr : Room k X.A) : OpR X (compareOp .NotEq) (rNeT0 X.K) := by
  intro pins s σ H x y v u Q I rx ry h
  obtain ⟨p, q, l, rfl, rfl, hp, hq, g⟩ := h
  cases rx
  cases ry
  have hu : X.A.units < cLine := by
    have := hr.un
    omega
  obtain ⟨us, rv, tp, _⟩ := I.tuple hp
  obtain ⟨ws, rw', tq, _⟩ := I.tuple hq
  cases rw'
  show wpAny _ _ (richCompare .NotEq _ _) _ _ s
  refine SeqAt.RcNeAt.tuples (e := fun _ => true) tp tq hu (fun j h1 h2 => absurd h2 (by simp)) _ _ _ _ ?_
  have e : (!((List.range (min us.toArray.size ([] : List Value).toArray.size)).all (fun _ => true) && us.toArray.size == ([] : List Value).toArray.size)) = !l.isEmpty := by
    cases rv with
    | nil => rfl
    | cons a b => simp
  rw [e]
  exact ⟨.bl _, H, I, rfl, g⟩
end
end SfG
/-! data of plain texts is shown by a plain text; str of it -/
namespace SfG
open PySem PySem.Spec PyProof.Rows L2
def AscT (z : Str) : Prop := ∀ c ∈ z.cps.toList, c < 128
theorem ascT_app {a b : Str} (ha : AscT a) (hb : AscT b) : AscT (a ++ b) := by
  intro c hc
  have hc : c ∈ TL.tl (a ++ b) := hc
  rw [TL.tl_append] at hc
  rcases List.mem_append.mp hc with h | h
  · exact ha c h
  · exact hb c h
theorem ascT_char (q c : Nat) (hq : q = 34 ∨ q = 39) (hc : c < 128) : ∀ e ∈ PySem.Builtin.Str.reprChar q c, e < 128 := by
  have h : ((List.range 128).all fun c => (PySem.Builtin.Str.reprChar 34 c).all (fun e => decide (e < 128)) && (PySem.Builtin.Str.reprChar 39 c).all (fun e => decide (e < 128))) = true := by decide +kernel
  have h1 := List.all_eq_true.mp h c (List.mem_range.mpr hc)
  rw [Bool.and_eq_true] at h1
  intro e he
  rcases hq with rfl | rfl
  · exact of_decide_eq_true (List.all_eq_true.mp h1.1 e he)
  · exact of_decide_eq_true (List.all_eq_true.mp h1.2 e he)
theorem ascT_fold (q : Nat) (hq : q = 34 ∨ q = 39) : ∀ (l : List Nat) (acc : Array Nat), (∀ c ∈ l, c < 128) → (∀ c ∈ acc.toList, c < 128) → ∀ c ∈ (l.foldl (fun out c => out ++ (PySem.Builtin.Str.reprChar q c).toArray) acc).toList, c < 128
  | [], acc, _, h => h
  | x :: r, acc, hl, h => by
    refine ascT_fold q hq r _ (fun c hc => hl c (List.mem_cons_of_mem _ hc)) fun c hc => ?_
    rw [Array.toList_append] at hc
    rcases List.mem_append.mp hc with h1 | h1
    · exact h c h1
    · exact ascT_char q x hq (hl x List.mem_cons_self) c h1
theorem ascT_repr {x : Str} (h : AscT x) : AscT (reprText x) := by
  have hq : reprQuote x = 34 ∨ reprQuote x = 39 := by
    unfold reprQuote
    split
    · exact .inl rfl
    · exact .inr rfl
  intro c hc
  unfold reprText at hc
  rw [Array.toList_push] at hc
  rcases List.mem_append.mp hc with h1 | h1
  · rw [← Array.foldl_toList] at h1
    refine ascT_fold (reprQuote x) hq x.cps.toList #[reprQuote x] h (fun c hc => ?_) c h1
    have : c = reprQuote x := by simpa using hc
    omega
  · have : c = reprQuote x := by simpa using h1
    omega
theorem ascT_lit {z : String} (h : ((Str.ofString z).cps.toList.all fun c => decide (c < 128)) = true) : AscT (Str.ofString z) := fun c hc => of_decide_eq_true (List.all_eq_true.mp h c hc)
theorem ascT_from : ∀ (ts : List Str) (k : Nat) (acc : Str), AscT acc → (∀ t ∈ ts, AscT t) → AscT (textFrom k acc ts)
  | [], _, acc, h, _ => h
  | t :: r, k, acc, h, ht => by
    refine ascT_from r (k + 1) _ (ascT_app (ascT_app h ?_) (ht t List.mem_cons_self)) fun t h => ht t (List.mem_cons_of_mem _ h)
    split
    · exact ascT_lit (by decide +kernel)
    · exact ascT_lit (by decide +kernel)
theorem ascT_join : ∀ (ts : List Str), (∀ t ∈ ts, AscT t) → AscT (Str.join ", " ts)
  | [], _ => by
    intro c hc
    cases hc
  | [x], h => h x List.mem_cons_self
  | x :: y :: r, h => ascT_app (ascT_app (h x List.mem_cons_self) (ascT_lit (by decide +kernel))) (ascT_join (y :: r) fun t ht => h t (List.mem_cons_of_mem _ ht))
theorem ascT_int (i : Int) : AscT (Str.ofString (toString i)) := by
  have nat : ∀ n : Nat, AscT (Str.ofString (toString ((n : Nat) : Int))) := fun n c hc => by
    have hc : c ∈ TL.tl (Str.ofString (toString ((n : Nat) : Int))) := hc
    rw [TL.tl_num] at hc
    have := TL.numL_digits n c hc
    omega
  cases i with
  | ofNat n => exact nat n
  | negSucc m =>
    have e : (Str.ofString (toString (Int.negSucc m))).cps.toList = 45 :: (Str.ofString (toString (((m + 1 : Nat) : Nat) : Int))).cps.toList := by
      have e1 : toString (Int.negSucc m) = "-" ++ toString (((m + 1 : Nat) : Nat) : Int) := rfl
      rw [e1, Str.ofString_eq_toList, Str.ofString_eq_toList, String.toList_append, List.map_append]
      rfl
    intro c hc
    rw [e] at hc
    rcases List.mem_cons.mp hc with h | h
    · omega
    · exact nat (m + 1) c h
mutual
theorem okd_asc : ∀ {d : PyData}, okd d = true → AscT d.shown
  | .none, _ => ascT_lit (by decide +kernel)
  | .bool true, _ => ascT_lit (by decide +kernel)
  | .bool false, _ => ascT_lit (by decide +kernel)
  | .int i, _ => ascT_int i
  | .str z, h => ascT_repr (okd_str h)
  | .list ds, h => by
    rw [okd] at h
    rw [PyData.shown]
    exact ascT_app (ascT_from _ 0 _ (ascT_lit (by decide +kernel)) (okdA_asc h)) (ascT_lit (by decide +kernel))
  | .tuple ds, h => by
    rw [okd] at h
    rw [PyData.shown]
    unfold tupleText
    refine ascT_app (ascT_app (ascT_lit (by decide +kernel)) (ascT_join _ (okdA_asc h))) ?_
    split
    · exact ascT_lit (by decide +kernel)
    · exact ascT_lit (by decide +kernel)
  | .dict [], _ => by
    intro c hc
    have h : ((PyData.dict []).shown.cps.toList.all fun c => decide (c < 128)) = true := by decide +kernel
    exact of_decide_eq_true (List.all_eq_true.mp h c hc)
  | .dict (_ :: _), h => by
    rw [okd] at h
    cases h
theorem okdA_asc : ∀ {ds : List PyData}, okdA ds = true → ∀ t ∈ PyData.shownAll ds, AscT t
  | [], _ => fun t h => by cases h
  | d :: ds, h => by
    rw [okdA, Bool.and_eq_true] at h
    intro t ht
    rw [PyData.shownAll] at ht
    rcases List.mem_cons.mp ht with rfl | ht
    · exact okd_asc h.1
    · exact okdA_asc h.2 t ht
end
/-- str(x) of data that is no text -/
def rStrD (K : PySem.W.Frag) : List V → Hp → VK → Prop := fun xs H Q =>
  ∃ (v : V) (d : PyData), xs = [v] ∧ Dp K H v d ∧ (∀ z, d ≠ .str z) ∧ d.showable = true ∧ d.hasDict = false ∧ d.depth ≤ 30 ∧ d.shown.length ≤ sizeLine ∧ Q (.str d.shown) H
theorem call_strD {X : Cx} {k : Nat} (hr : Room k X.A) (hgd : X.A.guards = some []) : CallR X (.type "str") (rStrD X.K) := by
  intro pins s σ H xs us Q I r h
  obtain ⟨v, d, rfl, hd, hns, hs, hn, hdep, hz, q⟩ := h
  obtain ⟨u, rfl, ru⟩ := vals1 r
  have hun := hr.un
  have go : ∀ a, v = .ref a → wpAny (model X.prog X.w) X.A (call (.type "str") [.ref a]) (EP X pins σ Q) X.xe s := by
    rintro a rfl
    obtain ⟨as, rd⟩ := Dp.reads I d _ _ hd (show RelV (.ref a) (.ref a) from rfl)
    refine str_of_reads rd hs (fun z => ?_) hgd (by omega) (fun _ _ z => z) (fun h' u' tk hk => ?_) hz
    · rw [hn] at z
      cases z
    · exact ⟨.str d.shown, H, I.kept hk, ⟨_, rfl⟩, q⟩
  cases hd with
  | non =>
    cases ru
    exact PySem.P.str_of_none ⟨.str _, H, I.tok _, ⟨_, rfl⟩, q⟩
  | bl b =>
    cases ru
    exact PySem.P.str_of_bool ⟨.str _, H, I.tok _, ⟨_, rfl⟩, (by cases b <;> exact q)⟩
  | int i =>
    obtain ⟨t, rfl⟩ := ru
    exact PySem.P.str_of_int (by simpa [PyData.showable] using hs) ⟨.str _, H, I.tok _, ⟨_, rfl⟩, q⟩
  | str z => exact absurd rfl (hns z)
  | lst h hx =>
    cases ru
    exact go _ rfl
  | tup h hx =>
    cases ru
    exact go _ rfl
end SfG
/-! xs != [] -/
namespace SfG
open PySem PySem.Spec PyProof.Rows L2
def rNeL0 (K : PySem.W.Frag) : R2 := fun x y H Q => ∃ (p q : Addr) (l : List V), x = .ref p ∧ y = .ref q ∧ SqL K H p l ∧ SqL K H q [] ∧ Q (.bl (!l.isEmpty)) H
theorem op_neL0 {X : Cx} {k : Nat} (hr : Room k X.A) : OpR X (compareOp .NotEq) (rNeL0 X.K) := by
  intro pins s σ H x y v u Q I rx ry h
  obtain ⟨p, q, l, rfl, rfl, hp, hq, g⟩ := h
  cases rx
  cases ry
  have hu : X.A.units < cLine := by
    have := hr.un
    omega
  obtain ⟨us, rv, ⟨o, n, a1, a2, _, a3⟩, _⟩ := I.list hp
  obtain ⟨ws, rw', ⟨o2, n2, b1, b2, _, b3⟩, _⟩ := I.list hq
  cases rw'
  show wpAny _ _ (richCompare .NotEq _ _) _ _ s
  cases rv with
  | nil => exact SeqAt.RcNeAt.lists (e := fun _ => true) ⟨o, a1, a2, n, a3⟩ ⟨o2, b1, b2, n2, b3⟩ rfl hu (fun j h1 h2 => absurd h2 (by simp)) _ _ _ _ ⟨.bl false, H, I, rfl, g⟩
  | cons a b => exact SeqAt.RcNeAt.lists_lengths ⟨o, a1, a2, n, a3⟩ ⟨o2, b1, b2, n2, b3⟩ (by simp) hu _ _ _ _ ⟨.bl true, H, I, rfl, g⟩
end SfG
namespace SfC
open PySem PySem.Spec PyProof.Rows L2 SfG
def topS (i : Nat) : Stmt := PySem.Challenge.pw_sameface_k11_makings_looked_at.main.body.getD i (.Pass ⟨0, 0, 0, 0⟩)
abbrev sShown : Stmt := topS 1
abbrev sBadFace : Stmt := topS 4
abbrev sBadMaking : Stmt := topS 5
abbrev sName : Stmt := topS 25
abbrev sKind : Stmt := topS 28
abbrev sBadD : Stmt := topS 29
abbrev sBadH : Stmt := topS 30
abbrev sFault : Stmt := topS 31
abbrev sNeed : Stmt := topS 32
abbrev sLbe : Stmt := topS 22
abbrev sLbb : Stmt := topS 23
abbrev sShape : Stmt := topS 34
abbrev sMFault : Stmt := topS 35
abbrev sIsM : Stmt := topS 36
abbrev sRefM : Stmt := topS 37
abbrev sNeedM : Stmt := topS 38
abbrev sBeg : Stmt := topS 40
abbrev sPick : Stmt := topS 41
abbrev sLNames : Stmt := topS 42
abbrev sLKind : Stmt := topS 43
abbrev sLFace : Stmt := topS 44
abbrev sLShape : Stmt := topS 45
abbrev sFields : Stmt := topS 46
abbrev sAmg : Stmt := topS 47
abbrev sLook : Stmt := topS 48
abbrev sExp : Stmt := topS 49
abbrev sBod : Stmt := topS 50
abbrev sLMak : Stmt := topS 51
abbrev sKinds : Stmt := topS 52
abbrev sWord : Stmt := topS 53
abbrev sLIsS : Stmt := topS 54
abbrev sDue : Stmt := topS 55
abbrev sOdd : Stmt := topS 56
abbrev sBent : Stmt := topS 57
abbrev sTru : Stmt := topS 58
abbrev sRight : Stmt := topS 59
abbrev sBoth : Stmt := topS 60
abbrev sExch : Stmt := topS 61
abbrev sLaw : Stmt := topS 62
end SfC
namespace SfC
open PySem PySem.Spec PyProof.Rows L2 SfG
/-! ### names -/
abbrev letters : Str := "abcdefghijklmnopqrstuvwxyz"
def isLet (c : Nat) : Bool := decide (c ∈ letters.cps.toList)
/-- one to eight small letters -/
def isN (z : Str) : Bool := decide (z.length ≤ 8) && (decide (1 ≤ z.length) && z.cps.toList.all isLet)
theorem let_alpha : ∀ c, c < 128 → Unicode.isAlpha c = (isLet c || (Unicode.isUpper c || Unicode.isTitle c)) := by decide +kernel
theorem let_lower : ∀ c, c < 128 → Unicode.isLower c = isLet c := by decide +kernel
theorem let_upper : ∀ c, c < 128 → isLet c = true → (Unicode.isUpper c || Unicode.isTitle c) = false := by decide +kernel
theorem let_range {c : Nat} (h : isLet c = true) : c < 128 := by
  have h' : c ∈ letters.cps.toList := of_decide_eq_true h
  have e : ∀ d ∈ letters.cps.toList, d < 128 := by decide +kernel
  exact e c h'
theorem name_list : ∀ l : List Nat, (∀ c ∈ l, c < 128) → (l.all Unicode.isAlpha && !(l.any fun c => Unicode.isUpper c || Unicode.isTitle c)) = l.all isLet
  | [], _ => rfl
  | a :: r, h => by
    have ih := name_list r fun c hc => h c (.tail _ hc)
    have ha := h a (.head _)
    rw [List.all_cons, List.any_cons, List.all_cons, ← ih, let_alpha a ha]
    cases hl : isLet a with
    | true =>
      rw [let_upper a ha hl]
      simp
    | false =>
      cases (Unicode.isUpper a || Unicode.isTitle a) <;> simp
theorem name_txt (z : Str) : (Txt.isalpha z && (Txt.islower z && Txt.isascii z)) = (decide (1 ≤ z.length) && z.cps.toList.all isLet) := by
  have hl : z.length = z.cps.toList.length := by simp [Str.length]
  unfold Txt.isalpha Txt.islower Txt.isascii
  rw [← Array.all_toList, ← Array.any_toList, ← Array.any_toList, ← Array.all_toList, hl]
  generalize z.cps.toList = l
  by_cases hc : ∀ c ∈ l, c < 128
  · have h1 : (l.all fun x => decide (x < 128)) = true := List.all_eq_true.mpr fun c h => decide_eq_true (hc c h)
    have e := name_list l hc
    rw [h1, ← e]
    cases l with
    | nil => rfl
    | cons a r =>
      have h2 : (decide ((a :: r).length > 0)) = true := decide_eq_true (by simp)
      have h3 : (decide (1 ≤ (a :: r).length)) = true := decide_eq_true (by simp)
      rw [h2, h3]
      cases hA : (a :: r).all isLet with
      | true =>
        rw [hA] at e
        have hla : isLet a = true := by
          rw [List.all_cons] at hA
          exact (Bool.and_eq_true_iff.mp hA).1
        have hlow : (a :: r).any Unicode.isLower = true := by
          rw [List.any_cons, let_lower a (hc a (.head _)), hla]
          rfl
        rw [hlow]
        simp
      | false =>
        rw [hA] at e
        rw [e]
        cases h4 : (a :: r).all Unicode.isAlpha with
        | false => rfl
        | true =>
          rw [h4] at e
          cases h5 : (a :: r).any fun c => Unicode.isUpper c || Unicode.isTitle c with
          | true => simp
          | false =>
            rw [h5] at e
            cases e
  · have h1 : (l.all fun x => decide (x < 128)) = false := by
      cases h : (l.all fun x => decide (x < 128)) with
      | false => rfl
      | true => exact absurd (fun c hc' => of_decide_eq_true (List.all_eq_true.mp h c hc')) hc
    have h2 : l.all isLet = false := by
      cases h : l.all isLet with
      | false => rfl
      | true => exact absurd (fun c hc' => let_range (List.all_eq_true.mp h c hc')) hc
    rw [h1, h2]
    simp
theorem isN_txt {z : Str} (h : isN z = true) : z.length ≤ 8 ∧ 1 ≤ z.length ∧ Txt.isalpha z = true ∧ Txt.islower z = true ∧ Txt.isascii z = true ∧ z.cps.toList.all isLet = true := by
  unfold isN at h
  rw [← name_txt, Bool.and_eq_true, Bool.and_eq_true, Bool.and_eq_true, decide_eq_true_eq] at h
  have e := name_txt z
  rw [h.2.1, h.2.2.1, h.2.2.2] at e
  have e' := e.symm
  rw [Bool.and_true, Bool.and_true, Bool.and_eq_true, decide_eq_true_eq] at e'
  exact ⟨h.1, e'.1, h.2.1, h.2.2.1, h.2.2.2, e'.2⟩
theorem isN_small {z : Str} (h : isN z = true) : z.length ≤ sizeLine := by
  have h1 := (isN_txt h).1
  rw [sizeLine_eq]
  omega
/-! ### faces -/
abbrev lt (a b : Str) : Prop := a.cps.toList < b.cps.toList
inductive Kn where
  | h (s : Str)
  | p (n : Int)
def Kn.d : Kn → PyData
  | .h s => .str s
  | .p n => .int n
def Kn.v : Kn → V
  | .h s => .str s
  | .p n => .int n
def Kn.isH : Kn → Bool
  | .h _ => true
  | .p _ => false
structure De where
  nm : Str
  tk : List Kn
  gv : Kn
structure Fc where
  hd : List Str
  ds : List De
def De.d (e : De) : PyData := .tuple [.str e.nm, .tuple (e.tk.map Kn.d), e.gv.d]
def Fc.d (f : Fc) : PyData := .tuple [.tuple (f.hd.map .str), .tuple (f.ds.map De.d)]
def goK (hd : List Str) : Kn → Prop
  | .h s => s ∈ hd
  | .p n => 2 ≤ n ∧ n ≤ 9
def hidN (tk : List Kn) : Nat := (tk.filter Kn.isH).length
structure goD (hd : List Str) (e : De) : Prop where
  nm : isN e.nm = true
  len : e.tk.length ≤ 3
  tk : ∀ k ∈ e.tk, goK hd k
  two : hidN e.tk ≤ 2
  gv : goK hd e.gv
structure goH (hd : List Str) : Prop where
  lo : 1 ≤ hd.length
  hi : hd.length ≤ 2
  nm : ∀ z ∈ hd, isN z = true
  up : hd.Pairwise lt
structure goF (f : Fc) : Prop where
  hid : goH f.hd
  lo : 1 ≤ f.ds.length
  hi : f.ds.length ≤ 8
  up : (f.ds.map De.nm).Pairwise lt
  ok : ∀ e ∈ f.ds, goD f.hd e
/-- the name ahead of the i-th -/
def ahd (l : List Str) (i : Nat) : Str := if i = 0 then "" else l.getD (i - 1) ""
theorem ahd_lt {l : List Str} (up : l.Pairwise lt) (hn : ∀ z ∈ l, isN z = true) {i : Nat} {z : Str} (hz : l[i]? = some z) : lt (ahd l i) z := by
  unfold ahd
  by_cases h0 : i = 0
  · rw [if_pos h0]
    have h1 := (isN_txt (hn z (List.mem_of_getElem? hz))).2.1
    have hl : z.length = z.cps.toList.length := by simp [Str.length]
    show (([] : List Nat) < z.cps.toList)
    cases hc : z.cps.toList with
    | nil =>
      rw [hl, hc] at h1
      exact absurd h1 (by simp)
    | cons a r => exact List.nil_lt_cons a r
  · rw [if_neg h0]
    have hi : i < l.length := by
      rcases Nat.lt_or_ge i l.length with h | h
      · exact h
      · rw [List.getElem?_eq_none h] at hz
        cases hz
    have e1 : l.getD (i - 1) "" = l[i - 1] := by
      rw [List.getD_eq_getElem?_getD, List.getElem?_eq_getElem (by omega)]
      rfl
    have e2 : z = l[i] := by
      rw [List.getElem?_eq_getElem hi] at hz
      exact (Option.some.inj hz).symm
    rw [e1, e2]
    exact List.pairwise_iff_getElem.mp up (i - 1) i (by omega) hi (by omega)
theorem ahd_succ {l : List Str} {i : Nat} {z : Str} (hz : l[i]? = some z) : ahd l (i + 1) = z := by
  unfold ahd
  rw [if_neg (by omega), List.getD_eq_getElem?_getD, Nat.add_sub_cancel, hz]
  rfl
theorem inV_mem {s : Str} {l : List Str} (h : s ∈ l) : inV (.str s) (l.map V.str) = true := by
  unfold inV
  rw [List.any_map]
  exact List.any_eq_true.mpr ⟨s, h, by simp [eqV]⟩
theorem flat_strs (l : List Str) : (l.map V.str).all flatV = true := by
  rw [List.all_map]
  exact List.all_eq_true.mpr fun _ _ => rfl
section
variable {P : Program} {w : World} {K : PySem.W.Frag} {mg : Str → Option Value} {base : Heap}
theorem is_kn {H : Hp} (k : Kn) : Is K H k.v (match k with | .h _ => "str" | .p _ => "int") := by
  cases k with
  | h s => exact is_str s
  | p n => exact is_int n
theorem dp_kn {H : Hp} {v : V} {k : Kn} (h : Dp K H v k.d) : v = k.v := by
  cases k with
  | h s => exact dp_str h
  | p n => exact dp_int h
theorem dpA_strs {H : Hp} : ∀ {l : List Str} {xs : List V}, DpAll K H xs (l.map PyData.str) → xs = l.map V.str
  | [], _, h => dpA_nil h
  | a :: r, _, h => by
    obtain ⟨x, t, rfl, hx, ht⟩ := dpA_cons h
    rw [dp_str hx, dpA_strs ht]
    rfl
theorem dpA_kns {H : Hp} : ∀ {l : List Kn} {xs : List V}, DpAll K H xs (l.map Kn.d) → xs = l.map Kn.v
  | [], _, h => dpA_nil h
  | a :: r, _, h => by
    obtain ⟨x, t, rfl, hx, ht⟩ := dpA_cons h
    rw [dp_kn hx, dpA_kns ht]
    rfl
/-! ### is_name, is_kind, first_bad_hidden -/
theorem scName : FnScope ["thing"] ["thing"] (defScope sName) := ⟨rfl, rfl, rfl, by decide +kernel, rfl, by decide +kernel, by decide +kernel⟩
theorem scKind : FnScope ["thing", "hidden"] ["thing", "hidden"] (defScope sKind) := ⟨rfl, rfl, rfl, by decide +kernel, rfl, by decide +kernel, by decide +kernel⟩
abbrev nBadH : List Str := ["hidden", "ahead", "number", "name"]
theorem scBadH : FnScope nBadH ["hidden"] (defScope sBadH) := ⟨rfl, rfl, rfl, by decide +kernel, rfl, by decide +kernel, by decide +kernel⟩
def spName : Sp := fun vs H Q _ => ∃ z : Str, vs = [.str z] ∧ isN z = true ∧ Q (.bl true) H
theorem ok_name {f : Addr} {fd : FuncData} {k : Nat} (F : Fun K "is_name" "is_name" sName f fd) (mi : mg "isinstance" = none) (m1 : mg "str" = none) (ml : mg "len" = none) :
    FnOk P w K mg base CX0 (k + 1) f fd ["thing"] spName := by
  refine F.ok scName (fun vs H Q E h => ?_) (fun cdv A outer s H vs Q E hr h => ?_)
  · obtain ⟨z, rfl, _⟩ := h
    rfl
  · obtain ⟨z, rfl, hz, q⟩ := h
    obtain ⟨h8, h1, ha, hlo, has, _⟩ := isN_txt hz
    refine ⟨_, pss_one (ps_ret (pe_and (pe_isi "str" 0 mi m1 (by decide +kernel))
      (pe_and (pe_cmpR op_le (pe_callB call_len_str (by rfl) ml PySem.boot_len (pa_cons (pv 0) pa_nil)) pe_int (nomark _))
      (pe_and (pe_m0 PySem.F.slot_str_isalpha PySem.F.type_str_isalpha mt_isalpha (pv 0))
      (pe_and (pe_m0 PySem.F.slot_str_islower PySem.F.type_str_islower mt_islower (pv 0))
      (pe_one (pe_m0 PySem.F.slot_str_isascii PySem.F.type_str_isascii mt_isascii (pv 0)))))))), ?_⟩
    refine ⟨_, rfl, "str", _, (is_str z).1, by decide +kernel, _, rfl, iteT ⟨_, rfl, z, rfl, isN_small hz, _, 8, rfl, rfl, _, rfl, ?_⟩⟩
    rw [decide_eq_true (show (z.length : Int) ≤ 8 by omega)]
    refine iteT ⟨_, rfl, ⟨z, rfl⟩, z, rfl, rfl, trivial, _, rfl, ?_⟩
    rw [ha]
    refine iteT ⟨_, rfl, ⟨z, rfl⟩, z, rfl, rfl, trivial, _, rfl, ?_⟩
    rw [hlo]
    refine iteT ⟨_, rfl, ⟨z, rfl⟩, z, rfl, rfl, trivial, ?_⟩
    rw [has]
    exact q
def spKind (K : PySem.W.Frag) : Sp := fun vs H Q _ => ∃ (k : Kn) (hd : List Str) (p : Addr), vs = [k.v, .ref p] ∧ SqT K H p (hd.map V.str) ∧ goK hd k ∧ Q (.bl true) H
theorem ok_kind {f : Addr} {fd : FuncData} {k : Nat} (F : Fun K "is_kind" "is_kind" sKind f fd) (mi : mg "isinstance" = none) (m1 : mg "str" = none) (m2 : mg "int" = none) :
    FnOk P w K mg base CX0 (k + 1) f fd ["thing", "hidden"] (spKind K) := by
  refine F.ok scKind (fun vs H Q E h => ?_) (fun cdv A outer s H vs Q E hr h => ?_)
  · obtain ⟨k, hd, p, rfl, _⟩ := h
    rfl
  · obtain ⟨k, hd, p, rfl, hp, hk, q⟩ := h
    refine ⟨_, pss_cons (ps_if (pt_val (pe_isi "str" 0 mi m1 (by decide +kernel))) (pss_one (ps_ret (pe_cmpR op_in_seq (pv 0) (pv 1) rfl))) pss_nil)
      (pss_one (ps_ret (pe_and (pe_isi "int" 0 mi m2 (by decide +kernel)) (pe_one (pe_chain op_le op_le pe_int (pv 0) pe_int))))), ?_⟩
    cases k with
    | h s =>
      refine ⟨_, rfl, "str", _, (is_str s).1, by decide +kernel, _, rfl, iteT ⟨_, rfl, _, rfl, p, _, rfl, .inr hp, rfl, flat_strs hd, ?_⟩⟩
      rw [show inV (Kn.v (.h s)) (hd.map V.str) = true from inV_mem hk]
      exact q
    | p n =>
      obtain ⟨h2, h9⟩ := hk
      refine ⟨_, rfl, "int", false, (is_int n).1, by decide +kernel, _, rfl, iteF ⟨_, rfl, "int", true, (is_int n).1, by decide +kernel, _, rfl, iteT ⟨_, rfl, 2, n, rfl, rfl, _, rfl, ?_⟩⟩⟩
      rw [decide_eq_true h2]
      refine iteT ⟨n, 9, rfl, rfl, ?_⟩
      show Q (.bl (decide (n ≤ 9))) H
      rw [decide_eq_true h9]
      exact q
def spBadH (K : PySem.W.Frag) : Sp := fun vs H Q _ => ∃ (hd : List Str) (p : Addr), vs = [.ref p] ∧ SqT K H p (hd.map V.str) ∧ (∀ z ∈ hd, isN z = true) ∧ hd.Pairwise lt ∧ ∀ H', Gr H H' → Q .non H'
theorem ok_badH {f fN : Addr} {fd fdN : FuncData} {k : Nat} (F : Fun K "first_bad_hidden" "first_bad_hidden" sBadH f fd) (HN : Has P w K mg base (k + 1) "is_name" ["thing"] spName fN fdN) (me : mg "enumerate" = none) :
    FnOk P w K mg base CX0 (k + 2) f fd ["hidden"] (spBadH K) := by
  refine F.ok scBadH (fun vs H Q E h => ?_) (fun cdv A outer s H vs Q E hr h => ?_)
  · obtain ⟨hd, p, rfl, _⟩ := h
    rfl
  · obtain ⟨hd, p, rfl, hp, hn, up, q⟩ := h
    have nd := scBadH.nd
    refine' ⟨_, pss_cons (ps_set (i := 1) nd rfl (.inl rfl) pe_str) (pss_cons (ps_for PassesOwn.never rfl (pi_enumT (by rfl) me (pa_cons (pv 0) pa_nil))
        (pg_tup rfl (pgs_cons (pg_name (i := 2) nd rfl (.inl rfl)) (pgs_cons (pg_name (i := 3) nd rfl (.inl rfl)) pgs_nil)))
        (pss_cons (ps_if (PW.pt (pw_or (pt_not (pt_val (hcall HN hr (pa_cons (pv 3) pa_nil)))) (pw_or1 (pt_cmpR op_le_str (pv 3) (pv 1) (nomark _))))) (pss_one (ps_ret (pv 2))) pss_nil)
        (pss_one (ps_set (i := 1) nd rfl (.inl rfl) (pv 3))))) (pss_one (ps_ret pe_non))), ?rd⟩
    case rd =>
    refine ⟨_, rfl, p, _, rfl, hp, for_it (walk_enumT (xs := hd.map V.str)) (fun i σ H1 => ∃ y2 y3 : Option V, σ = [some (.ref p), some (.str (ahd hd i)), y2, y3] ∧ Gr H H1) ⟨none, none, rfl, Gr.refl H⟩ ?h1 ?h2 ?h3⟩
    case h1 =>
      rintro i σ H1 hi ⟨y2, y3, rfl, g⟩
      exact g.sqt hp
    case h2 =>
      rintro i x σ H1 H2 hi ⟨y2, y3, rfl, g⟩ ⟨T, a, b, rfl, nT, rfl, ha, hb⟩
      cases ha
      rw [show (fun i : Nat => (hd.map V.str)[i]?) i = (hd.map V.str)[i]? from rfl, List.getElem?_map] at hb
      obtain ⟨z, hz, rfl⟩ := Option.map_eq_some_iff.mp hb
      have gz := hn z (List.mem_of_getElem? hz)
      have lz := ahd_lt up hn hz
      refine ⟨T, [.int (i : Nat), .str z], rfl, .inl (.inl upd_same), rfl, .int (i : Nat), [.str z], rfl, .str z, [], rfl, rfl, ?_⟩
      refine ⟨_, rfl, z, rfl, gz, _, rfl, iteF ⟨_, rfl, _, rfl, z, _, rfl, rfl, _, rfl, ?_⟩⟩
      rw [decide_eq_true lz]
      refine iteF ⟨_, rfl, ?_⟩
      show ∃ y2 y3 : Option V, _ = [some (.ref p), some (.str (ahd hd (i + 1))), y2, y3] ∧ _
      rw [ahd_succ hz]
      exact ⟨_, _, rfl, g.trans (Gr.new nT)⟩
    case h3 =>
      rintro σ H1 ⟨y2, y3, rfl, g⟩
      exact q H1 g
end
end SfC
namespace SfC
open PySem PySem.Spec PyProof.Rows L2 SfG
abbrev nBadD : List Str := ["deeds", "hidden", "ahead", "number", "deed", "name", "takes", "gives", "many", "kind"]
theorem scBadD : FnScope nBadD ["deeds", "hidden"] (defScope sBadD) := ⟨rfl, rfl, rfl, by decide +kernel, rfl, by decide +kernel, by decide +kernel⟩
theorem dpA_de {K : PySem.W.Frag} {H : Hp} {xs : List V} {es : List De} (h : DpAll K H xs (es.map De.d)) {i : Nat} {x : V} (hx : xs[i]? = some x) : ∃ e, es[i]? = some e ∧ Dp K H x e.d := by
  have hl := dpA_len h
  rw [List.length_map] at hl
  have hi : i < xs.length := by
    rcases Nat.lt_or_ge i xs.length with h1 | h1
    · exact h1
    · rw [List.getElem?_eq_none h1] at hx
      cases hx
  have hi' : i < es.length := by omega
  obtain ⟨y, hy, hd⟩ := dpA_get (i := i) (d := (es[i]).d) h (by simp [hi'])
  rw [hx] at hy
  cases hy
  exact ⟨es[i], by simp [hi'], hd⟩
theorem hidN_snoc (tk : List Kn) (k : Kn) : hidN (tk ++ [k]) = hidN tk + (if k.isH then 1 else 0) := by
  unfold hidN
  rw [List.filter_append, List.length_append]
  cases h : k.isH <;> simp [h]
theorem hidN_take {tk : List Kn} {i : Nat} {k : Kn} (h : tk[i]? = some k) : hidN (tk.take (i + 1)) = hidN (tk.take i) + (if k.isH then 1 else 0) := by
  rw [List.take_add_one, h]
  exact hidN_snoc _ k
section
variable {P : Program} {w : World} {K : PySem.W.Frag} {mg : Str → Option Value} {base : Heap}
def spBadD (K : PySem.W.Frag) : Sp := fun vs H Q _ => ∃ (es : List De) (hd : List Str) (x : V) (p : Addr), vs = [x, .ref p] ∧ Dp K H x (.tuple (es.map De.d)) ∧ SqT K H p (hd.map V.str) ∧ (es.map De.nm).Pairwise lt ∧ (∀ e ∈ es, goD hd e) ∧ ∀ H', Gr H H' → Q .non H'
set_option maxHeartbeats 1000000 in
theorem ok_badD {f fK : Addr} {fd fdK : FuncData} {k : Nat} (F : Fun K "first_bad_deed" "first_bad_deed" sBadD f fd) (HK : Has P w K mg base (k + 1) "is_kind" ["thing", "hidden"] (spKind K) fK fdK)
    (me : mg "enumerate" = none) (mi : mg "isinstance" = none) (m1 : mg "str" = none) (m2 : mg "int" = none) (m3 : mg "tuple" = none) (ml : mg "len" = none) :
    FnOk P w K mg base CX0 (k + 2) f fd ["deeds", "hidden"] (spBadD K) := by
  refine F.ok scBadD (fun vs H Q E h => ?_) (fun cdv A outer s H vs Q E hr h => ?_)
  · obtain ⟨es, hd, x, p, rfl, _⟩ := h
    rfl
  · obtain ⟨es, hd, x, p, rfl, hx, hp, up, ok, q⟩ := h
    have nd := scBadD.nd
    refine' ⟨_, pss_cons (ps_set (i := 2) nd rfl (.inl rfl) pe_str) (pss_cons (ps_for PassesOwn.never rfl (pi_enumT (by rfl) me (pa_cons (pv 0) pa_nil))
        (pg_tup rfl (pgs_cons (pg_name (i := 3) nd rfl (.inl rfl)) (pgs_cons (pg_name (i := 4) nd rfl (.inl rfl)) pgs_nil)))
        (pss_cons ?b1 (pss_cons ?b2 (pss_cons ?b3 (pss_cons ?b4 (pss_cons ?b5 (pss_cons ?b6 (pss_cons ?b7 (pss_cons ?b8 (pss_one ?b9)))))))))) (pss_one (ps_ret pe_non))), ?rd⟩
    case b1 =>
      exact ps_if (PW.pt (pw_or (pt_not (pt_val (pe_isi "tuple" 4 mi m3 (by decide +kernel)))) (pw_or1 (pt_cmpR op_ne (pe_callB call_len_seq (by rfl) ml PySem.boot_len (pa_cons (pv 4) pa_nil)) pe_int (nomark _))))) (pss_one (ps_ret (pv 3))) pss_nil
    case b2 =>
      exact ps_asg (pv 4) (pg_tup rfl (pgs_cons (pg_name (i := 5) nd rfl (.inl rfl)) (pgs_cons (pg_name (i := 6) nd rfl (.inl rfl)) (pgs_cons (pg_name (i := 7) nd rfl (.inl rfl)) pgs_nil))))
    case b3 =>
      exact ps_if (PW.pt (pw_or (pt_not (pt_val (pe_isi "str" 5 mi m1 (by decide +kernel)))) (pw_or (pt_cmpR op_gt (pe_callB call_len_str (by rfl) ml PySem.boot_len (pa_cons (pv 5) pa_nil)) pe_int (nomark _)) (pw_or1 (pt_cmpR op_le_str (pv 5) (pv 2) (nomark _)))))) (pss_one (ps_ret (pv 3))) pss_nil
    case b4 =>
      exact ps_if (PW.pt (pw_or (pt_not (pt_val (pe_m0 PySem.F.slot_str_isalpha PySem.F.type_str_isalpha mt_isalpha (pv 5)))) (pw_or (pt_not (pt_val (pe_m0 PySem.F.slot_str_islower PySem.F.type_str_islower mt_islower (pv 5)))) (pw_or1 (pt_not (pt_val (pe_m0 PySem.F.slot_str_isascii PySem.F.type_str_isascii mt_isascii (pv 5)))))))) (pss_one (ps_ret (pv 3))) pss_nil
    case b5 =>
      exact ps_if (PW.pt (pw_or (pt_not (pt_val (pe_isi "tuple" 6 mi m3 (by decide +kernel)))) (pw_or (pt_cmpR op_gt (pe_callB call_len_seq (by rfl) ml PySem.boot_len (pa_cons (pv 6) pa_nil)) pe_int (nomark _)) (pw_or1 (pt_not (pt_val (hcall HK hr (pa_cons (pv 7) (pa_cons (pv 1) pa_nil))))))))) (pss_one (ps_ret (pv 3))) pss_nil
    case b6 =>
      exact ps_set (i := 8) nd rfl (.inl rfl) pe_int
    case b7 =>
      refine' ps_for PassesOwn.never rfl (pi_tup (pv 6)) (pg_name (i := 9) nd rfl (.inl rfl)) (pss_one (ps_if (pt_val (pe_isi "str" 9 mi m1 (by decide +kernel))) (pss_cons ?c1 (pss_one ?c2)) (pss_one ?c3)))
      case c1 => exact ps_if (pt_cmpR op_notIn_seq (pv 9) (pv 1) rfl) (pss_one (ps_ret (pv 3))) pss_nil
      case c2 => exact ps_aug (i := 8) nd rfl (.inl rfl) pe_int ip_add
      case c3 => exact ps_if (PW.pt (pw_or (pt_not (pt_val (pe_isi "int" 9 mi m2 (by decide +kernel)))) (pw_or1 (pt_not (pt_chain op_le op_le pe_int (pv 9) pe_int))))) (pss_one (ps_ret (pv 3))) pss_nil
    case b8 =>
      exact ps_if (pt_cmpR op_gt (pv 8) pe_int (nomark _)) (pss_one (ps_ret (pv 3))) pss_nil
    case b9 =>
      exact ps_set (i := 2) nd rfl (.inl rfl) (pv 5)
    case rd =>
    obtain ⟨pd, xs, rfl, hpd, hxs⟩ := dp_tup hx
    refine ⟨_, rfl, pd, xs, rfl, hpd, for_it (walk_enumT (xs := xs)) (fun i σ H1 => ∃ y3 y4 y5 y6 y7 y8 y9 : Option V, σ = [some (.ref pd), some (.ref p), some (.str (ahd (es.map De.nm) i)), y3, y4, y5, y6, y7, y8, y9] ∧ Gr H H1) ⟨none, none, none, none, none, none, none, rfl, Gr.refl H⟩ ?h1 ?h2 ?h3⟩
    case h1 =>
      rintro i σ H1 hi ⟨y3, y4, y5, y6, y7, y8, y9, rfl, g⟩
      exact g.sqt hpd
    case h3 =>
      rintro σ H1 ⟨y3, y4, y5, y6, y7, y8, y9, rfl, g⟩
      exact q H1 g
    case h2 =>
      rintro i x σ H1 H2 hi ⟨y3, y4, y5, y6, y7, y8, y9, rfl, g⟩ ⟨T, a, b, rfl, nT, rfl, ha, hb⟩
      cases ha
      obtain ⟨e, he, de⟩ := dpA_de hxs hb
      have gd := ok e (List.mem_of_getElem? he)
      have hne : (es.map De.nm)[i]? = some e.nm := by rw [List.getElem?_map, he]; rfl
      have lz := ahd_lt up (fun z hz => by obtain ⟨e', h1, rfl⟩ := List.mem_map.mp hz; exact (ok e' h1).nm) hne
      have g2 : Gr H (upd H1 T (.tup [.int (i : Nat), b])) := g.trans (Gr.new nT)
      have hT : upd H1 T (.tup [.int (i : Nat), b]) T = some (.tup [.int (i : Nat), b]) := upd_same
      generalize upd H1 T (.tup [.int (i : Nat), b]) = H2 at g2 hT ⊢
      have de2 := g2.kd.dp de
      obtain ⟨pe, n1, t1, v1, rfl, hpe, dn, dt, dv⟩ := dp_3 de2
      cases dp_str dn
      cases dp_kn dv
      obtain ⟨pt, ts, rfl, hpt, hts⟩ := dp_tup dt
      cases dpA_kns hts
      have hp2 := g2.sqt hp
      obtain ⟨h8, h1, hal, hlo, has, _⟩ := isN_txt gd.nm
      refine ⟨T, _, rfl, .inl (.inl hT), rfl, .int (i : Nat), [.ref pe], rfl, .ref pe, [], rfl, rfl, ?_⟩
      -- a tuple of three
      refine ⟨_, rfl, "tuple", true, tyx_tup hpe, by decide +kernel, _, rfl, iteF ⟨_, rfl, pe, _, rfl, .inr hpe, rfl, _, rfl, iteF ?_⟩⟩
      refine ⟨_, rfl, pe, _, rfl, hpe, rfl, _, _, rfl, _, _, rfl, _, _, rfl, rfl, ?_⟩
      -- its name
      refine ⟨_, rfl, "str", true, (is_str e.nm).1, by decide +kernel, _, rfl, iteF ⟨_, rfl, _, rfl, isN_small gd.nm, _, 8, rfl, rfl, _, rfl, ?_⟩⟩
      rw [decide_eq_false (show ¬ (e.nm.length : Int) > 8 by omega)]
      refine iteF ⟨_, rfl, _, rfl, e.nm, _, rfl, rfl, _, rfl, ?_⟩
      rw [decide_eq_true lz]
      refine iteF ⟨_, rfl, ⟨_, rfl⟩, e.nm, rfl, rfl, trivial, _, rfl, ?_⟩
      rw [hal]
      refine iteF ⟨_, rfl, ⟨_, rfl⟩, e.nm, rfl, rfl, trivial, _, rfl, ?_⟩
      rw [hlo]
      refine iteF ⟨_, rfl, ⟨_, rfl⟩, e.nm, rfl, rfl, trivial, _, rfl, ?_⟩
      rw [has]
      refine iteF ?_
      -- what it takes and gives
      refine ⟨_, rfl, "tuple", true, tyx_tup hpt, by decide +kernel, _, rfl, iteF ⟨_, rfl, pt, _, rfl, .inr hpt, _, 3, rfl, rfl, _, rfl, ?_⟩⟩
      rw [List.length_map, decide_eq_false (show ¬ ((e.tk.length : Nat) : Int) > 3 by have := gd.len; omega)]
      refine iteF ⟨_, rfl, _, rfl, e.gv, hd, p, rfl, hp2, gd.gv, _, rfl, iteF ?_⟩
      refine ⟨_, rfl, pt, rfl, ⟨_, hpt⟩, for_it (walk_tup (xs := e.tk.map Kn.v)) (fun j σ H3 => ∃ y9 : Option V, σ = [some (.ref pd), some (.ref p), some (.str (ahd (es.map De.nm) i)), some (.int (i : Nat)), some (.ref pe), some (.str e.nm), some (.ref pt), some e.gv.v, some (.int (hidN (e.tk.take j))), y9] ∧ H3 = H2) ⟨_, rfl, rfl⟩ ?i1 ?i2 ?i3⟩
      case i1 =>
        rintro j σ H3 hj ⟨y, rfl, rfl⟩
        exact hpt
      case i2 =>
        rintro j x σ H3 H4 hj ⟨y, rfl, rfl⟩ ⟨rfl, hx⟩
        rw [List.getElem?_map] at hx
        obtain ⟨kn, hkn, rfl⟩ := Option.map_eq_some_iff.mp hx
        have gk := gd.tk kn (List.mem_of_getElem? hkn)
        have ht := hidN_take hkn
        cases kn with
        | h z =>
          refine ⟨_, rfl, "str", true, (is_str z).1, by decide +kernel, _, rfl, iteT ⟨_, rfl, _, rfl, p, _, rfl, .inr hp2, rfl, flat_strs hd, _, rfl, ?_⟩⟩
          rw [show inV (Kn.v (.h z)) (hd.map V.str) = true from inV_mem gk]
          refine iteF ⟨_, rfl, _, 1, rfl, rfl, ?_⟩
          show ∃ y9 : Option V, _ = [some (.ref pd), some (.ref p), some (.str (ahd (es.map De.nm) i)), some (.int (i : Nat)), some (.ref pe), some (.str e.nm), some (.ref pt), some e.gv.v, some (.int (hidN (e.tk.take (j + 1)))), y9] ∧ _
          rw [ht]
          exact ⟨_, rfl, rfl⟩
        | p n =>
          obtain ⟨k2, k9⟩ := gk
          refine ⟨_, rfl, "int", false, (is_int n).1, by decide +kernel, _, rfl, iteF ⟨_, rfl, "int", true, (is_int n).1, by decide +kernel, _, rfl, iteF ⟨_, rfl, 2, n, rfl, rfl, _, rfl, ?_⟩⟩⟩
          rw [decide_eq_true k2]
          refine iteT ⟨n, 9, rfl, rfl, _, rfl, ?_⟩
          rw [decide_eq_true k9]
          refine iteF ?_
          show ∃ y9 : Option V, _ = [some (.ref pd), some (.ref p), some (.str (ahd (es.map De.nm) i)), some (.int (i : Nat)), some (.ref pe), some (.str e.nm), some (.ref pt), some e.gv.v, some (.int (hidN (e.tk.take (j + 1)))), y9] ∧ _
          rw [ht]
          exact ⟨_, rfl, rfl⟩
      case i3 =>
        rintro σ H3 ⟨y, rfl, rfl⟩
        rw [List.length_map, List.take_length]
        refine ⟨_, rfl, _, 2, rfl, rfl, _, rfl, ?_⟩
        rw [decide_eq_false (show ¬ ((hidN e.tk : Nat) : Int) > 2 by have := gd.two; omega)]
        refine iteF ⟨_, rfl, ?_⟩
        show ∃ y3 y4 y5 y6 y7 y8 y9 : Option V, _ = [some (.ref pd), some (.ref p), some (.str (ahd (es.map De.nm) (i + 1))), y3, y4, y5, y6, y7, y8, y9] ∧ _
        rw [ahd_succ hne]
        exact ⟨_, _, _, _, _, _, _, rfl, g2⟩
end
end SfC
namespace SfC
open PySem PySem.Spec PyProof.Rows L2 SfG
theorem scFault : FnScope ["thing", "hidden", "deeds", "number"] ["thing"] (defScope sFault) := ⟨rfl, rfl, rfl, by decide +kernel, rfl, by decide +kernel, by decide +kernel⟩
theorem scNeed : FnScope ["face", "fault", "part", "number"] ["face"] (defScope sNeed) := ⟨rfl, rfl, rfl, by decide +kernel, rfl, by decide +kernel, by decide +kernel⟩
/-- a face in the heap, opened -/
theorem dp_face {K : PySem.W.Frag} {H : Hp} {x : V} {f : Fc} (h : Dp K H x f.d) : ∃ p ph pd xs, x = .ref p ∧ SqT K H p [.ref ph, .ref pd] ∧ SqT K H ph (f.hd.map V.str) ∧ SqT K H pd xs ∧ DpAll K H xs (f.ds.map De.d) := by
  obtain ⟨p, a, b, rfl, hp, ha, hb⟩ := dp_2 h
  obtain ⟨ph, hs, rfl, hph, dh⟩ := dp_tup ha
  obtain ⟨pd, xs, rfl, hpd, dd⟩ := dp_tup hb
  cases dpA_strs dh
  exact ⟨p, ph, pd, xs, rfl, hp, hph, hpd, dd⟩
section
variable {P : Program} {w : World} {K : PySem.W.Frag} {mg : Str → Option Value} {base : Heap}
def spGood (K : PySem.W.Frag) (r : V) : Sp := fun vs H Q _ => ∃ (x : V) (f : Fc), vs = [x] ∧ Dp K H x f.d ∧ goF f ∧ ∀ H', Gr H H' → Q r H'
theorem ok_fault {f fH fD : Addr} {fd fdH fdD : FuncData} {k : Nat} {t8 : Tok} (F : Fun K "face_fault" "face_fault" sFault f fd) (HH : Has P w K mg base (k + 2) "first_bad_hidden" ["hidden"] (spBadH K) fH fdH)
    (HD : Has P w K mg base (k + 2) "first_bad_deed" ["deeds", "hidden"] (spBadD K) fD fdD) (mi : mg "isinstance" = none) (m3 : mg "tuple" = none) (ml : mg "len" = none) (m8 : mg "MOST_DEEDS" = some (.int 8 t8)) :
    FnOk P w K mg base CX0 (k + 3) f fd ["thing"] (spGood K .non) := by
  refine F.ok scFault (fun vs H Q E h => ?_) (fun cdv A outer s H vs Q E hr h => ?_)
  · obtain ⟨x, f, rfl, _⟩ := h
    rfl
  · obtain ⟨x, f, rfl, hx, go, q⟩ := h
    have nd := scFault.nd
    refine' ⟨_, pss_cons ?s1 (pss_cons ?s2 (pss_cons ?s3 (pss_cons ?s4 (pss_cons ?s5 (pss_cons ?s6 (pss_cons ?s7 (pss_cons ?s8 (pss_one ?s9)))))))), ?rd⟩
    case s1 => exact ps_if (PW.pt (pw_or (pt_not (pt_val (pe_isi "tuple" 0 mi m3 (by decide +kernel)))) (pw_or1 (pt_cmpR op_ne (pe_callB call_len_seq (by rfl) ml PySem.boot_len (pa_cons (pv 0) pa_nil)) pe_int (nomark _))))) pss_never pss_nil
    case s2 => exact ps_asg (pv 0) (pg_tup rfl (pgs_cons (pg_name (i := 1) nd rfl (.inl rfl)) (pgs_cons (pg_name (i := 2) nd rfl (.inl rfl)) pgs_nil)))
    case s3 => exact ps_if (PW.pt (pw_or (pt_not (pt_val (pe_isi "tuple" 1 mi m3 (by decide +kernel)))) (pw_or1 (pt_not (pt_chain op_le op_le pe_int (pe_callB call_len_seq (by rfl) ml PySem.boot_len (pa_cons (pv 1) pa_nil)) pe_int))))) pss_never pss_nil
    case s4 => exact ps_if (PW.pt (pw_or (pt_not (pt_val (pe_isi "tuple" 2 mi m3 (by decide +kernel)))) (pw_or1 (pt_not (pt_chain op_le op_le pe_int (pe_callB call_len_seq (by rfl) ml PySem.boot_len (pa_cons (pv 2) pa_nil)) (pe_glob (v := .int 8) rfl m8 ⟨_, rfl⟩)))))) pss_never pss_nil
    case s5 => exact ps_set (i := 3) nd rfl (.inl rfl) (hcall HH hr (pa_cons (pv 1) pa_nil))
    case s6 => exact ps_if (pt_cmpR op_notN (pv 3) pe_non (nomark _)) pss_never pss_nil
    case s7 => exact ps_set (i := 3) nd rfl (.inl rfl) (hcall HD hr (pa_cons (pv 2) (pa_cons (pv 1) pa_nil)))
    case s8 => exact ps_if (pt_cmpR op_notN (pv 3) pe_non (nomark _)) pss_never pss_nil
    case s9 => exact ps_ret pe_non
    case rd =>
    obtain ⟨p, ph, pd, xs, rfl, hp, hph, hpd, dd⟩ := dp_face hx
    have hl : xs.length = f.ds.length := by
      have := dpA_len dd
      rw [List.length_map] at this
      exact this
    refine ⟨_, rfl, "tuple", true, tyx_tup hp, by decide +kernel, _, rfl, iteF ⟨_, rfl, p, _, rfl, .inr hp, rfl, _, rfl, iteF ?_⟩⟩
    refine ⟨_, rfl, p, _, rfl, hp, rfl, _, _, rfl, _, _, rfl, rfl, ?_⟩
    refine ⟨_, rfl, "tuple", true, tyx_tup hph, by decide +kernel, _, rfl, iteF ⟨_, rfl, ph, _, rfl, .inr hph, 1, _, rfl, rfl, _, rfl, ?_⟩⟩
    have a1 := go.hid.lo
    have a2 := go.hid.hi
    have a3 := go.lo
    have a4 := go.hi
    rw [List.length_map, decide_eq_true (show (1 : Int) ≤ ((f.hd.length : Nat) : Int) by omega)]
    refine iteT ⟨_, 2, rfl, rfl, _, rfl, ?_⟩
    rw [decide_eq_true (show ((f.hd.length : Nat) : Int) ≤ 2 by omega)]
    refine iteF ⟨_, rfl, "tuple", true, tyx_tup hpd, by decide +kernel, _, rfl, iteF ⟨_, rfl, pd, _, rfl, .inr hpd, 1, _, rfl, rfl, _, rfl, ?_⟩⟩
    rw [hl, decide_eq_true (show (1 : Int) ≤ ((f.ds.length : Nat) : Int) by omega)]
    refine iteT ⟨_, 8, rfl, rfl, _, rfl, ?_⟩
    rw [decide_eq_true (show ((f.ds.length : Nat) : Int) ≤ 8 by omega)]
    refine iteF ⟨_, rfl, f.hd, ph, rfl, hph, go.hid.nm, go.hid.up, fun H1 g1 => ?_⟩
    refine ⟨_, rfl, rfl, _, rfl, iteF ?_⟩
    refine ⟨_, rfl, _, rfl, f.ds, f.hd, .ref pd, ph, rfl, .tup (g1.sqt hpd) (g1.kd.dpA dd), g1.sqt hph, go.up, go.ok, fun H2 g2 => ?_⟩
    exact ⟨_, rfl, rfl, _, rfl, iteF (q H2 (g1.trans g2))⟩
theorem ok_need {f fF : Addr} {fd fdF : FuncData} {k : Nat} (F : Fun K "need_face" "need_face" sNeed f fd) (HF : Has P w K mg base (k + 3) "face_fault" ["thing"] (spGood K .non) fF fdF) :
    FnOk P w K mg base CX0 (k + 4) f fd ["face"] (spGood K .non) := by
  refine F.ok scNeed (fun vs H Q E h => ?_) (fun cdv A outer s H vs Q E hr h => ?_)
  · obtain ⟨x, f, rfl, _⟩ := h
    rfl
  · obtain ⟨x, f, rfl, hx, go, q⟩ := h
    refine ⟨_, pss_cons (ps_set (i := 1) scNeed.nd rfl (.inl rfl) (hcall HF hr (pa_cons (pv 0) pa_nil))) (pss_one (ps_if (pt_cmpR op_notN (pv 1) pe_non (nomark _)) pss_never pss_nil)), ?_⟩
    exact ⟨_, rfl, x, f, rfl, hx, go, fun H1 g1 => ⟨_, rfl, rfl, _, rfl, iteF (q H1 g1)⟩⟩
end
end SfC
namespace SfC
open PySem PySem.Spec PyProof.Rows L2 SfG
theorem small1000 {n : Nat} (h : n ≤ 1000) : n < sizeLine := by
  rw [sizeLine_eq]
  omega
/-! ### order -/
theorem lt_tri : ∀ a b : List Nat, a < b ∨ a = b ∨ b < a
  | [], [] => .inr (.inl rfl)
  | [], b :: t => .inl (List.nil_lt_cons b t)
  | a :: r, [] => .inr (.inr (List.nil_lt_cons a r))
  | a :: r, b :: t => by
    rcases Nat.lt_trichotomy a b with h | h | h
    · exact .inl (List.cons_lt_cons_iff.mpr (.inl h))
    · subst h
      rcases lt_tri r t with h | h | h
      · exact .inl (List.cons_lt_cons_iff.mpr (.inr ⟨rfl, h⟩))
      · exact .inr (.inl (by rw [h]))
      · exact .inr (.inr (List.cons_lt_cons_iff.mpr (.inr ⟨rfl, h⟩)))
    · exact .inr (.inr (List.cons_lt_cons_iff.mpr (.inl h)))
theorem lt_trans' {a b c : Str} (h1 : lt a b) (h2 : lt b c) : lt a c := List.lt_trans h1 h2
theorem str_ext {a b : Str} (h : a.cps.toList = b.cps.toList) : a = b := by
  cases a
  cases b
  simp at h
  rw [h]
theorem rise : ∀ (r : List Str) (p : Str), risingS p r = true → (p :: r).Nodup → (p :: r).Pairwise lt
  | [], p, _, _ => by simp
  | x :: t, p, h, nd => by
    unfold risingS at h
    rw [Bool.and_eq_true, Bool.not_eq_true', ltCps_eq] at h
    have ih := rise t x h.2 (List.nodup_cons.mp nd).2
    have np : p ≠ x := fun e => (List.nodup_cons.mp nd).1 (by rw [e]; exact List.mem_cons_self)
    have l1 : lt p x := by
      rcases lt_tri p.cps.toList x.cps.toList with h1 | h1 | h1
      · exact h1
      · exact absurd (str_ext h1) np
      · have z := h.1
        rw [decide_eq_true h1] at z
        cases z
    refine List.pairwise_cons.mpr ⟨fun y hy => ?_, ih⟩
    rcases List.mem_cons.mp hy with rfl | hy
    · exact l1
    · exact lt_trans' l1 ((List.pairwise_cons.mp ih).1 y hy)
theorem sorted_up {ys xs : List Str} (h : sortedS ys = true) (p : ys.Perm xs) (nd : xs.Nodup) : ys.Pairwise lt := by
  have ndy : ys.Nodup := p.nodup_iff.mpr nd
  cases ys with
  | nil => exact List.Pairwise.nil
  | cons a r => exact rise r a h ndy
/-! ### texts of letters -/
theorem joinL_mem {ls : List (List Nat)} {c : Nat} (h : c ∈ TL.joinL [] ls) : ∃ l ∈ ls, c ∈ l := by
  induction ls with
  | nil => cases h
  | cons p r ih =>
    cases r with
    | nil => exact ⟨p, List.mem_cons_self, h⟩
    | cons q r =>
      have h' : c ∈ p ++ ([] ++ TL.joinL [] (q :: r)) := h
      rcases List.mem_append.mp h' with h1 | h1
      · exact ⟨p, List.mem_cons_self, h1⟩
      · obtain ⟨l, hl, hc⟩ := ih (by simpa using h1)
        exact ⟨l, List.mem_cons_of_mem _ hl, hc⟩
theorem joinL_len {ls : List (List Nat)} (h : ∀ l ∈ ls, l.length = 1) : (TL.joinL [] ls).length = ls.length := by
  induction ls with
  | nil => rfl
  | cons p r ih =>
    have hp := h p List.mem_cons_self
    have hr := ih fun l hl => h l (List.mem_cons_of_mem _ hl)
    cases r with
    | nil => exact hp
    | cons q r =>
      show (p ++ ([] ++ TL.joinL [] (q :: r))).length = _
      rw [List.length_append, List.nil_append, hr, hp]
      simp
      omega
abbrev nought : Str := ""
theorem len_list (z : Str) : z.length = z.cps.toList.length := by simp [Str.length]
/-- one letter -/
def one (y : Str) : Prop := ∃ c, y = ⟨#[c]⟩ ∧ isLet c = true
theorem join_name {acc : List Str} (h : ∀ y ∈ acc, one y) (h1 : 1 ≤ acc.length) (h8 : acc.length ≤ 8) : isN (Txt.join nought acc) = true := by
  have hl : (Txt.join nought acc).length = acc.length := by
    have e : (TL.tl (Txt.join nought acc)).length = acc.length := by
      rw [TL.join_eq, TL.tl_join]
      rw [show TL.tl nought = [] from rfl, joinL_len, List.length_map]
      intro l hl
      obtain ⟨y, hy, rfl⟩ := List.mem_map.mp hl
      obtain ⟨c, rfl, _⟩ := h y hy
      rfl
    rw [len_list]
    exact e
  unfold isN
  rw [hl, decide_eq_true h8, decide_eq_true h1]
  refine List.all_eq_true.mpr fun c hc => ?_
  have hc' : c ∈ TL.tl (Str.join nought acc) := by
    rw [← TL.join_eq]
    exact hc
  rw [TL.tl_join] at hc'
  obtain ⟨l, hl', hcl⟩ := joinL_mem hc'
  obtain ⟨y, hy, rfl⟩ := List.mem_map.mp hl'
  obtain ⟨d, rfl, hd⟩ := h y hy
  have e : c = d := by simpa [TL.tl] using hcl
  rw [e]
  exact hd
theorem sum_ones : ∀ {acc : List Str}, (∀ y ∈ acc, y.length = 1) → (acc.map (·.length)).sum = acc.length
  | [], _ => rfl
  | a :: r, h => by
    rw [List.map_cons, List.sum_cons, h a List.mem_cons_self, sum_ones fun y hy => h y (List.mem_cons_of_mem _ hy), List.length_cons]
    omega
theorem letter_at {d : Int} (h0 : 0 ≤ d) (h1 : d < 26) : ∃ c, letters.cps[d.toNat]? = some c ∧ isLet c = true := by
  have e : ∀ n : Nat, n < 26 → ∃ c, letters.cps[n]? = some c ∧ isLet c = true := by
    intro n hn
    have hs : letters.cps.size = 26 := by decide +kernel
    refine ⟨letters.cps[n]'(by omega), by simp [show n < letters.cps.size by omega], ?_⟩
    unfold isLet
    exact decide_eq_true (by simp)
  exact e d.toNat (by omega)
theorem inV_not {s : Str} {l : List Str} : inV (.str s) (l.map V.str) = decide (s ∈ l) := by
  by_cases h : s ∈ l
  · rw [decide_eq_true h]
    exact inV_mem h
  · rw [decide_eq_false h]
    unfold inV
    rw [List.any_map]
    refine List.any_eq_false.mpr fun y hy => ?_
    simp [eqV]
    intro e
    exact h (e ▸ hy)
end SfC
namespace SfC
open PySem PySem.Spec PyProof.Rows L2 SfG
theorem lt_of_at {α : Type} {l : List α} {i : Nat} {a : α} (h : l[i]? = some a) : i < l.length := (List.getElem?_eq_some_iff.mp h).1
/-! data of tuples and flat things stays where all tuples stay -/
mutual
def noL : PyData → Bool
  | .none => true
  | .bool _ => true
  | .int _ => true
  | .str _ => true
  | .list _ => false
  | .dict _ => false
  | .tuple ds => noLA ds
def noLA : List PyData → Bool
  | [] => true
  | d :: r => noL d && noLA r
end
def Kt (K : PySem.W.Frag) (H H' : Hp) : Prop := ∀ {a : Addr} {xs : List V}, SqT K H a xs → SqT K H' a xs
mutual
theorem Kt.dp {K : PySem.W.Frag} {H H' : Hp} (g : Kt K H H') : ∀ {d : PyData} {v : V}, Dp K H v d → noL d = true → Dp K H' v d
  | _, _, .non, _ => .non
  | _, _, .bl b, _ => .bl b
  | _, _, .int i, _ => .int i
  | _, _, .str x, _ => .str x
  | _, _, .lst h hs, n => by
    rw [noL] at n
    cases n
  | _, _, .tup h hs, n => .tup (g h) (Kt.dpA g hs (by rw [noL] at n; exact n))
theorem Kt.dpA {K : PySem.W.Frag} {H H' : Hp} (g : Kt K H H') : ∀ {ds : List PyData} {vs : List V}, DpAll K H vs ds → noLA ds = true → DpAll K H' vs ds
  | _, _, .nil, _ => .nil
  | _, _, .cons h hs, n => by
    rw [noLA, Bool.and_eq_true] at n
    exact .cons (Kt.dp g h n.1) (Kt.dpA g hs n.2)
end
theorem noLA_map {α : Type} (g : α → PyData) (h : ∀ a, noL (g a) = true) : ∀ l : List α, noLA (l.map g) = true
  | [] => by rw [List.map_nil, noLA]
  | a :: r => by
    rw [List.map_cons, noLA, h a, noLA_map g h r]
    rfl
theorem noL_kn (k : Kn) : noL k.d = true := by
  cases k <;> rw [Kn.d, noL]
theorem noL_de (e : De) : noL e.d = true := by
  unfold De.d
  rw [noL, noLA, noLA, noLA, noLA, noL_kn, noL, noL, noLA_map _ noL_kn]
  rfl
theorem noL_fc (f : Fc) : noL f.d = true := by
  unfold Fc.d
  rw [noL, noLA, noLA, noLA, noL, noL, noLA_map _ (fun _ => by rw [noL]), noLA_map _ noL_de]
  rfl
theorem kt_upd {K : PySem.W.Frag} {H : Hp} {l : Addr} {o o' : HO} (hl : H l = some o) (ht : ∀ ys, o ≠ .tup ys) (hf : ∀ q ys, o ≠ .frz q (.tup ys)) : Kt K H (upd H l o') := by
  intro a xs h
  rcases h with (h | ⟨q, h⟩) | h
  · refine .inl (.inl ?_)
    rw [upd_ne (by intro z; rw [z, hl] at h; cases h; exact ht _ rfl)]
    exact h
  · refine .inl (.inr ⟨q, ?_⟩)
    rw [upd_ne (by intro z; rw [z, hl] at h; cases h; exact hf _ _ rfl)]
    exact h
  · exact .inr h
theorem kt_lst {K : PySem.W.Frag} {H : Hp} {l : Addr} {xs : List V} {o' : HO} (hl : H l = some (.lst xs)) : Kt K H (upd H l o') := kt_upd hl (fun _ e => by cases e) (fun _ _ e => by cases e)
theorem gr_kt {K : PySem.W.Frag} {H H' : Hp} (g : Gr H H') : Kt K H H' := fun h => g.sqt h
theorem dpA_app {K : PySem.W.Frag} {H : Hp} : ∀ {xs ys : List V} {ds es : List PyData}, DpAll K H xs ds → DpAll K H ys es → DpAll K H (xs ++ ys) (ds ++ es)
  | [], _, _, _, h, h2 => by cases h; exact h2
  | _ :: _, _, _, _, h, h2 => by
    cases h with
    | cons a b => exact .cons a (dpA_app b h2)
theorem tYes_i {σ : L2.St} {H : Hp} {Q : Bool → Hp → Prop} (h : Q true H) : tYes σ H Q := h
end SfC
namespace SfM
open PySem PySem.Spec PyProof.Rows L2 SfG SfC
/-! ### Es and bodies -/
inductive Ex where
  | num (n : Int)
  | inp (k f : Nat)
  | bin (w : Nat) (a b : Ex)
  | rst (a : Ex) (n : Int)
  | iff (a b c : Ex)
def opw : Nat → Str
  | 0 => "plus"
  | 1 => "less"
  | 2 => "times"
  | 3 => "same"
  | _ => "under"
def Ex.d : Ex → PyData
  | .num n => .tuple [.str "number", .int n]
  | .inp k f => .tuple [.str "in", .int k, .int f]
  | .bin w a b => .tuple [.str (opw w), a.d, b.d]
  | .rst a n => .tuple [.str "rest", a.d, .int n]
  | .iff a b c => .tuple [.str "if", a.d, b.d, c.d]
/-- an E as the document has it, for things of so many fields -/
def okE (cs : List Nat) : Ex → Prop
  | .num n => 0 ≤ n ∧ n ≤ 99
  | .inp k f => ∃ c, cs[k]? = some c ∧ f < c
  | .bin w a b => w ≤ 4 ∧ okE cs a ∧ okE cs b
  | .rst a n => 2 ≤ n ∧ n ≤ 99 ∧ okE cs a
  | .iff a b c => okE cs a ∧ okE cs b ∧ okE cs c
def dep : Ex → Nat
  | .num _ => 1
  | .inp _ _ => 1
  | .bin _ a b => 1 + max (dep a) (dep b)
  | .rst a _ => 1 + dep a
  | .iff a b c => 1 + max (dep a) (max (dep b) (dep c))
/-- how many ends an E has -/
def lvs : Ex → Nat
  | .num _ => 1
  | .inp _ _ => 1
  | .bin _ a b => lvs a + lvs b
  | .rst a _ => lvs a
  | .iff a b c => lvs a + lvs b + lvs c
theorem lvs_pos : ∀ e : Ex, 1 ≤ lvs e
  | .num _ => Nat.le_refl 1
  | .inp _ _ => Nat.le_refl 1
  | .bin _ a b => by have := lvs_pos a; simp only [lvs]; omega
  | .rst a _ => lvs_pos a
  | .iff a b c => by have := lvs_pos a; simp only [lvs]; omega
theorem opw_ne (w : Nat) : V.str (opw w) ≠ .str "number" ∧ V.str (opw w) ≠ .str "in" ∧ V.str (opw w) ≠ .str "rest" ∧ V.str (opw w) ≠ .str "if" := by
  unfold opw
  split <;> decide +kernel
theorem opw_is (w v : Nat) (hw : w ≤ 4) (hv : v ≤ 3) : decide (V.str (opw w) = V.str (opw v)) = decide (w = v) := by
  have : w = 0 ∨ w = 1 ∨ w = 2 ∨ w = 3 ∨ w = 4 := by omega
  have : v = 0 ∨ v = 1 ∨ v = 2 ∨ v = 3 := by omega
  rcases ‹w = 0 ∨ _› with rfl | rfl | rfl | rfl | rfl <;> rcases ‹v = 0 ∨ _› with rfl | rfl | rfl | rfl <;> decide +kernel
inductive Bd where
  | ref
  | giv (es : List Ex)
  | whn (e : Ex) (a b : Bd)
def Bd.d : Bd → PyData
  | .ref => .tuple [.str "refuse"]
  | .giv es => .tuple [.str "give", .tuple (es.map Ex.d)]
  | .whn e a b => .tuple [.str "when", e.d, a.d, b.d]
/-- an E that is good, not too deep -/
def goE (cs : List Nat) (n : Nat) (e : Ex) : Prop := okE cs e ∧ dep e ≤ n ∧ lvs e ≤ 9
def okB (cs : List Nat) (n m : Nat) : Bd → Prop
  | .ref => True
  | .giv es => es.length = m ∧ ∀ e ∈ es, goE cs n e
  | .whn e a b => goE cs n e ∧ okB cs n m a ∧ okB cs n m b
def depB : Bd → Nat
  | .ref => 1
  | .giv _ => 1
  | .whn _ a b => 1 + max (depB a) (depB b)
theorem dpA_ex {K : PySem.W.Frag} {H : Hp} {xs : List V} {es : List Ex} (h : DpAll K H xs (es.map Ex.d)) {i : Nat} {x : V} (hx : xs[i]? = some x) : ∃ e, es[i]? = some e ∧ Dp K H x e.d := by
  have hl := dpA_len h
  rw [List.length_map] at hl
  have hi : i < xs.length := by
    rcases Nat.lt_or_ge i xs.length with h1 | h1
    · exact h1
    · rw [List.getElem?_eq_none h1] at hx
      cases hx
  have hi' : i < es.length := by omega
  obtain ⟨y, hy, hd⟩ := dpA_get (i := i) (d := (es[i]).d) h (by simp [hi'])
  rw [hx] at hy
  cases hy
  exact ⟨es[i], by simp [hi'], hd⟩
/-! ### left_by_expression, left_by_body -/
abbrev nLbe : List Str := ["thing", "takes", "counts", "deep", "left", "size", "word", "first", "second", "fits"]
theorem scLbe : FnScope nLbe ["thing", "takes", "counts", "deep", "left"] (defScope sLbe) := ⟨rfl, rfl, rfl, by decide +kernel, rfl, by decide +kernel, by decide +kernel⟩
def amg (d : PyData) (lo hi : Int) : Bool := match d with
  | .int i => decide (lo ≤ i) && decide (i ≤ hi)
  | _ => false
/-- so many fields has the i-th kind -/
def cAt (cs : List Nat) (i : Int) : Int := ((cs.getD i.toNat 1 : Nat) : Int)
def inE (cs : List Nat) (a b : PyData) (left : Int) : Int := if (amg a 0 ((cs.length : Int) - 1) && amg b 0 (cAt cs (match a with | .int i => i | _ => 0) - 1)) = true then left - 1 else -1
def pairW (d : PyData) : Bool := (["plus", "less", "times", "same", "under"] : List Str).any fun z => eqS d z
/-- what left_by_expression tells -/
def lbe (cs : List Nat) : Nat → PyData → Int → Int
  | 0, _, _ => -1
  | dp + 1, d, left => match d with
    | .tuple [w, a, b] => if eqS w "in" = true then inE cs a b left else if dp = 0 ∨ left < 1 then -1 else if pairW w = true then lbe cs dp b (lbe cs dp a (left - 1)) else if (eqS w "rest" && amg b 2 99) = true then lbe cs dp a (left - 1) else -1
    | .tuple [w, a] => if (eqS w "number" && amg a 0 99) = true then left - 1 else -1
    | .tuple [w, a, b, c] => if eqS w "if" = true ∧ dp ≠ 0 ∧ 0 < left then lbe cs dp c (lbe cs dp b (lbe cs dp a (left - 1))) else -1
    | _ => -1
/-- the key that a kind is -/
def kkey : Kn → Key
  | .h s => Sum.inr s
  | .p n => Sum.inl n
theorem kn_key (k : Kn) : kV (kkey k) = k.v := by cases k <;> rfl
/-- what takes and counts hold: kinds, and how many fields each of them has; 1 of what isn't there -/
structure TC (K : PySem.W.Frag) (H : Hp) (tk ct : Addr) (cs : List Nat) : Prop where
  ex : ∃ ks : List Kn, SqT K H tk (ks.map Kn.v) ∧ ks.length = cs.length ∧ ∃ kvs : List (Key × V), H ct = some (.dK kvs) ∧ ∀ (i : Nat) (k : Kn) (c : Nat), ks[i]? = some k → cs[i]? = some c → (valV kvs (kkey k)).getD (.int 1) = .int (c : Nat)
theorem TC.gr {K : PySem.W.Frag} {H H' : Hp} {tk ct : Addr} {cs : List Nat} (h : TC K H tk ct cs) (g : Gr H H') : TC K H' tk ct cs := by
  obtain ⟨ks, h1, h2, kvs, h3, h4⟩ := h.ex
  exact ⟨⟨ks, g.sqt h1, h2, kvs, g.dic h3, h4⟩⟩
/-- the number that a thing is, a truth too -/
def numD : PyData → Option Int
  | .int i => some i
  | .bool b => some (SfG.b2i b)
  | _ => none
theorem num_vd {K : PySem.W.Frag} {H : Hp} {v : V} {d : PyData} (h : Dp K H v d) : numV v = numD d := by
  cases h <;> rfl
theorem kit_intN {d : PyData} : kitB (tyD d) "int" = some (numD d).isSome := by
  cases d with
  | none => decide +kernel
  | bool b => show kitB "bool" "int" = some true; decide +kernel
  | int i => show kitB "int" "int" = some true; decide +kernel
  | str z => show kitB "str" "int" = some false; decide +kernel
  | list l => show kitB "list" "int" = some false; decide +kernel
  | tuple l => show kitB "tuple" "int" = some false; decide +kernel
  | dict l => show kitB "dict" "int" = some false; decide +kernel
/-- not a truth -/
def notT : PyData → Bool
  | .bool _ => false
  | _ => true
def isTr (d : PyData) (b : Bool) : Bool := match d with
  | .bool c => decide (c = b)
  | _ => false
/-- `x is not True`, x a number or a truth -/
theorem not_bx {K : PySem.W.Frag} {H : Hp} {v : V} {d : PyData} {b : Bool} {Q : VK} (h : Dp K H v d) (hn : (numD d).isSome = true) (q : Q (.bl (!isTr d b)) H) : rNotBx v (.bl b) H Q := by
  cases h with
  | int i => exact ⟨b, rfl, .inr ⟨i, rfl, q⟩⟩
  | bl c => exact ⟨b, rfl, .inl ⟨c, rfl, q⟩⟩
  | _ => cases hn
theorem both_tr (d : PyData) : (!isTr d true && !isTr d false) = notT d := by
  cases d with
  | bool b => cases b <;> rfl
  | _ => rfl
theorem tup_or (d : PyData) : (tyD d == "tuple") = false ∧ (∀ cs dp l, lbe cs dp d l = -1) ∨ ∃ ds, d = .tuple ds := by
  have no : (∀ ds, d ≠ .tuple ds) → ∀ cs dp l, lbe cs dp d l = -1 := fun h cs dp l => by
    cases dp with
    | zero => rw [lbe]
    | succ n =>
      cases d with
      | tuple ds => exact absurd rfl (h ds)
      | _ => rw [lbe]; all_goals (intros; first | (intro z; cases z) | contradiction)
  cases d with
  | tuple ds => exact .inr ⟨ds, rfl⟩
  | none => exact .inl ⟨by show ("NoneType" == "tuple") = false; decide, no (fun ds z => by cases z)⟩
  | bool _ => exact .inl ⟨by show ("bool" == "tuple") = false; decide, no (fun ds z => by cases z)⟩
  | int _ => exact .inl ⟨by show ("int" == "tuple") = false; decide, no (fun ds z => by cases z)⟩
  | str _ => exact .inl ⟨by show ("str" == "tuple") = false; decide, no (fun ds z => by cases z)⟩
  | list _ => exact .inl ⟨by show ("list" == "tuple") = false; decide, no (fun ds z => by cases z)⟩
  | dict _ => exact .inl ⟨by show ("dict" == "tuple") = false; decide, no (fun ds z => by cases z)⟩
end SfM
namespace SfM
open PySem PySem.Spec PyProof.Rows L2 SfG SfC
abbrev fiveW : List Str := ["plus", "less", "times", "same", "under"]
section
variable {P : Program} {w : World} {K : PySem.W.Frag} {mg : Str → Option Value} {base : Heap}
def spLbe (K : PySem.W.Frag) (n : Nat) : Sp := fun vs H Q _ => ∃ (t : V) (d : PyData) (tk ct : Addr) (cs : List Nat) (dp : Nat) (left : Int), vs = [t, .ref tk, .ref ct, .int ((dp + 1 : Nat) : Int), .int left] ∧ Dp K H t d ∧ TC K H tk ct cs ∧ dp + 1 ≤ n ∧ Q (.int (lbe cs (dp + 1) d left)) H
theorem chain_le {σ : L2.St} {x : V} {i lo hi : Int} (hn : numV x = some i) {Q : VK} {H : Hp} (q : Q (.bl (decide (lo ≤ i) && decide (i ≤ hi))) H) : rXL (.int lo) x H fun z H3 => ∃ k, z = .bl k ∧ (if k = true then tC (.int hi) σ H3 (fun w' H4 => rYle x w' H4 Q) else Q (.bl false) H3) := by
  refine ⟨lo, i, rfl, hn, _, rfl, ?_⟩
  cases h : decide (lo ≤ i) with
  | true =>
    rw [h] at q
    exact iteT ⟨i, hi, hn, rfl, q⟩
  | false =>
    rw [h] at q
    exact iteF q
theorem chain_lt {σ : L2.St} {x : V} {i lo hi : Int} (hn : numV x = some i) {Q : VK} {H : Hp} (q : Q (.bl (decide (lo ≤ i) && decide (i < hi))) H) : rXL (.int lo) x H fun z H3 => ∃ k, z = .bl k ∧ (if k = true then tC (.int hi) σ H3 (fun w' H4 => rYlt x w' H4 Q) else Q (.bl false) H3) := by
  refine ⟨lo, i, rfl, hn, _, rfl, ?_⟩
  cases h : decide (lo ≤ i) with
  | true =>
    rw [h] at q
    exact iteT ⟨i, hi, hn, rfl, q⟩
  | false =>
    rw [h] at q
    exact iteF q
/-- beyond four -/
theorem not_bxC {K : PySem.W.Frag} {H : Hp} {σ : L2.St} {v : V} {d : PyData} {b : Bool} {Q : VK} (h : Dp K H v d) (hn : (numD d).isSome = true) (q : Q (.bl (!isTr d b)) H) : tC (.bl b) σ H (fun y H2 => rNotBx v y H2 Q) := not_bx h hn q
theorem three_or (ds : List PyData) : (∃ w a b, ds = [w, a, b]) ∨ (∃ w a, ds = [w, a]) ∨ (∃ w a b c, ds = [w, a, b, c]) ∨ ((∀ cs m l, lbe cs (m + 1) (.tuple ds) l = -1) ∧ ds.length ≠ 3 ∧ ds.length ≠ 2 ∧ ds.length ≠ 4) := by
  match ds with
  | [] => exact .inr (.inr (.inr ⟨fun _ _ _ => rfl, by decide, by decide, by decide⟩))
  | [_] => exact .inr (.inr (.inr ⟨fun _ _ _ => rfl, by simp, by simp, by simp⟩))
  | [w, a] => exact .inr (.inl ⟨w, a, rfl⟩)
  | [w, a, b] => exact .inl ⟨w, a, b, rfl⟩
  | [w, a, b, c] => exact .inr (.inr (.inl ⟨w, a, b, c, rfl⟩))
  | a :: b :: c :: e :: f :: r => exact .inr (.inr (.inr ⟨fun _ _ _ => rfl, by simp only [List.length_cons]; omega, by simp only [List.length_cons]; omega, by simp only [List.length_cons]; omega⟩))
theorem amg_int (i lo hi : Int) : amg (.int i) lo hi = (decide (lo ≤ i) && decide (i ≤ hi)) := rfl
theorem num_cases (d : PyData) : (∃ i, d = .int i) ∨ (∃ b, d = .bool b) ∨ (numD d = none ∧ ∀ lo hi, amg d lo hi = false) := by
  cases d with
  | int i => exact .inl ⟨i, rfl⟩
  | bool b => exact .inr (.inl ⟨b, rfl⟩)
  | _ => exact .inr (.inr ⟨rfl, fun _ _ => rfl⟩)
theorem lbe_long (cs : List Nat) (m : Nat) (a b c e f : PyData) (r : List PyData) (l : Int) : lbe cs (m + 1) (.tuple (a :: b :: c :: e :: f :: r)) l = -1 := rfl
set_option maxHeartbeats 4000000 in
theorem ok_lbe {f pw : Addr} {fd : FuncData} (F : Fun K "left_by_expression" "left_by_expression" sLbe f fd) (bL : Binds K fd ["thing", "takes", "counts", "deep", "left"] []) (gL : mg "left_by_expression" = some (.ref f))
    (mi : mg "isinstance" = none) (mt : mg "tuple" = none) (mn : mg "int" = none) (ml : mg "len" = none) (gP : mg "PAIR_WORDS" = some (.ref pw)) (hP : ∀ H : Hp, SqT K H pw (fiveW.map V.str)) :
    ∀ n, FnOk P w K mg base CX0 (n + 1) f fd ["thing", "takes", "counts", "deep", "left"] (spLbe K n)
  | 0 => by
    refine F.ok scLbe (fun vs H Q E h => ?_) (fun cdv A outer s H vs Q E hr h => ?_)
    · obtain ⟨t, d, tk, ct, cs, dp, left, rfl, _⟩ := h
      rfl
    · obtain ⟨t, d, tk, ct, cs, dp, left, rfl, _, _, hd, _⟩ := h
      omega
  | n + 1 => by
    have GL := ok_lbe F bL gL mi mt mn ml gP hP n
    refine F.ok scLbe (fun vs H Q E h => ?_) (fun cdv A outer s H vs Q E hr h => ?_)
    · obtain ⟨t, d, tk, ct, cs, dp, left, rfl, _⟩ := h
      rfl
    · obtain ⟨t, d, tk, ct, cs, dp, left, rfl, hd0, tc, hdp, q⟩ := h
      have nd := scLbe.nd
      obtain ⟨ks, htk, hlk, kvs, hct, hkv⟩ := tc.ex
      refine' ⟨_, pss_cons ?s1 (pss_one ?s2), ?rd⟩
      case s1 =>
        refine' ps_while PassesOwn.never (pt_val (pe_isi "tuple" 0 mi mt (by decide +kernel))) (pss_cons ?w1 (pss_one (ps_if (pt_cmpR op_eq (pv 5) pe_int (nomark _)) (pss_cons ?a1 (pss_cons ?a2 (pss_cons ?a3 (pss_cons ?a4 (pss_cons ?a5 (pss_one ?a6))))))
          (pss_one (ps_if (pt_cmpR op_eq (pv 5) pe_int (nomark _)) (pss_cons ?b1 (pss_cons ?b2 (pss_one ?b3))) (pss_one ?c1))))))
        case w1 => exact ps_set (i := 5) nd rfl (.inl rfl) (pe_callB call_len_seq (by rfl) ml PySem.boot_len (pa_cons (pv 0) pa_nil))
        case a1 => exact ps_asg (pv 0) (pg_tup rfl (pgs_cons (pg_name (i := 6) nd rfl (.inl rfl)) (pgs_cons (pg_name (i := 7) nd rfl (.inl rfl)) (pgs_cons (pg_name (i := 8) nd rfl (.inl rfl)) pgs_nil))))
        case a2 =>
          exact ps_if (pt_cmpR (op_eqXS hr) (pv 6) pe_str (nomark _)) (pss_cons (ps_if (PW.pt (pw_and (pt_val (pe_isi "int" 7 mi mn (by decide +kernel))) (pw_and (pt_val (pe_isi "int" 8 mi mn (by decide +kernel))) (pw_and1 (pt_chain op_leN op_ltY pe_int (pv 7) (pe_callB call_len_seq (by rfl) ml PySem.boot_len (pa_cons (pv 1) pa_nil)))))))
              (pss_one (ps_if (PW.pt (pw_and (pt_cmpR op_notBx (pv 7) pe_bl (nomark _)) (pw_and (pt_cmpR op_notBx (pv 7) pe_bl (nomark _)) (pw_and (pt_cmpR op_notBx (pv 8) pe_bl (nomark _)) (pw_and1 (pt_cmpR op_notBx (pv 8) pe_bl (nomark _)))))))
                (pss_one (ps_ret (pe_ifExp (pt_chain op_leN op_ltY pe_int (pv 8) (pe_dget2 (hu_of hr) (pv 2) (pe_ix ix_tup (pv 1) (pv 7) (fun _ _ => rfl)) pe_int ⟨rfl, rfl, rfl, rfl⟩)) (pe_op op_sub (pv 4) pe_int) (pe_un un_neg pe_int)))) pss_nil)) pss_nil)
            (pss_one (ps_ret (pe_un un_neg pe_int)))) pss_nil
        case a3 => exact ps_if (PW.pt (pw_or (pt_cmpR op_lt (pv 3) pe_int (nomark _)) (pw_or1 (pt_cmpR op_lt (pv 4) pe_int (nomark _))))) (pss_one (ps_ret (pe_un un_neg pe_int))) pss_nil
        case a4 => exact ps_aug (i := 3) nd rfl (.inl rfl) pe_int ip_sub
        case a5 => exact ps_aug (i := 4) nd rfl (.inl rfl) pe_int ip_sub
        case a6 =>
          exact ps_if (pt_cmpR (op_inXS hr) (pv 6) (pe_glob (v := .ref pw) rfl gP rfl) rfl)
            (pss_cons (ps_set (i := 4) nd rfl (.inl rfl) (pe_call GL hr (by rfl) gL F.kp bL .nil pass0 (pa_cons (pv 7) (pa_cons (pv 1) (pa_cons (pv 2) (pa_cons (pv 3) (pa_cons (pv 4) pa_nil))))))) (pss_one (ps_set (i := 0) nd rfl (.inl rfl) (pv 8))))
            (pss_one (ps_if (PW.pt (pw_and (pt_cmpR (op_eqXS hr) (pv 6) pe_str (nomark _)) (pw_and (pt_val (pe_isi "int" 8 mi mn (by decide +kernel))) (pw_and1 (pt_chain op_leN op_leY pe_int (pv 8) pe_int)))))
              (pss_one (ps_set (i := 0) nd rfl (.inl rfl) (pv 7))) (pss_one (ps_ret (pe_un un_neg pe_int)))))
        case b1 => exact ps_asg (pv 0) (pg_tup rfl (pgs_cons (pg_name (i := 6) nd rfl (.inl rfl)) (pgs_cons (pg_name (i := 7) nd rfl (.inl rfl)) pgs_nil)))
        case b2 => exact ps_set (i := 9) nd rfl (.inl rfl) (pe_and (pe_cmpR (op_eqXS hr) (pv 6) pe_str (nomark _)) (pe_and (pe_isi "int" 7 mi mn (by decide +kernel)) (pe_one (pe_chain op_leN op_leY pe_int (pv 7) pe_int))))
        case b3 => exact ps_ret (pe_ifExp (PW.pt (pw_and (pt_val (pv 9)) (pw_and (pt_cmpR op_notBx (pv 7) pe_bl (nomark _)) (pw_and1 (pt_cmpR op_notBx (pv 7) pe_bl (nomark _)))))) (pe_op op_sub (pv 4) pe_int) (pe_un un_neg pe_int))
        case c1 =>
          exact ps_if (PW.pt (pw_and (pt_cmpR op_eq (pv 5) pe_int (nomark _)) (pw_and (pt_cmpR (op_eqXS hr) (pe_ix ix_tup (pv 0) pe_int (fun _ _ => rfl)) pe_str (nomark _)) (pw_and (pt_cmpR op_gt (pv 3) pe_int (nomark _)) (pw_and1 (pt_cmpR op_gt (pv 4) pe_int (nomark _)))))))
            (pss_cons (ps_aug (i := 3) nd rfl (.inl rfl) pe_int ip_sub)
              (pss_cons (ps_set (i := 4) nd rfl (.inl rfl) (pe_call GL hr (by rfl) gL F.kp bL .nil pass0 (pa_cons (pe_ix ix_tup (pv 0) pe_int (fun _ _ => rfl)) (pa_cons (pv 1) (pa_cons (pv 2) (pa_cons (pv 3) (pa_cons (pe_op op_sub (pv 4) pe_int) pa_nil)))))))
              (pss_cons (ps_set (i := 4) nd rfl (.inl rfl) (pe_call GL hr (by rfl) gL F.kp bL .nil pass0 (pa_cons (pe_ix ix_tup (pv 0) pe_int (fun _ _ => rfl)) (pa_cons (pv 1) (pa_cons (pv 2) (pa_cons (pv 3) (pa_cons (pv 4) pa_nil)))))))
              (pss_one (ps_set (i := 0) nd rfl (.inl rfl) (pe_ix ix_tup (pv 0) pe_int (fun _ _ => rfl)))))))
            (pss_one (ps_ret (pe_un un_neg pe_int)))
      case s2 => exact ps_ret (pe_un un_neg pe_int)
      case rd =>
      refine ⟨fun m σ H1 => H1 = H ∧ ∃ (t' : V) (d' : PyData) (left' : Int) (y5 y6 y7 y8 y9 : Option V), σ = [some t', some (.ref tk), some (.ref ct), some (.int ((m + 1 : Nat) : Int)), some (.int left'), y5, y6, y7, y8, y9] ∧ Dp K H t' d' ∧ m + 1 ≤ n + 1 ∧ lbe cs (m + 1) d' left' = lbe cs (dp + 1) d left,
        ⟨dp, rfl, t, d, left, none, none, none, none, none, rfl, hd0, hdp, rfl⟩, ?_⟩
      rintro m σ H1 ⟨rfl, t', d', left', y5, y6, y7, y8, y9, rfl, hd, hm, eq⟩
      clear hd0
      have hI := dp_is hd
      refine ⟨_, rfl, _, _, hI.1, kit_tuple _ hI.2, _, rfl, ?_⟩
      rcases tup_or d' with ⟨h1, h2⟩ | ⟨ds, rfl⟩
      · rw [h1]
        rw [← eq, h2] at q
        exact iteF ⟨1, rfl, q⟩
      rw [show (tyD (.tuple ds) == "tuple") = true from by show ("tuple" == "tuple") = true; decide]
      refine iteT ⟨fun σ' H' => ∃ m', m' < m ∧ (H' = H1 ∧ ∃ (t' : V) (d' : PyData) (left' : Int) (y5 y6 y7 y8 y9 : Option V), σ' = [some t', some (.ref tk), some (.ref ct), some (.int ((m' + 1 : Nat) : Int)), some (.int left'), y5, y6, y7, y8, y9] ∧ Dp K H1 t' d' ∧ m' + 1 ≤ n + 1 ∧ lbe cs (m' + 1) d' left' = lbe cs (dp + 1) d left), fun _ _ h => h, ?_⟩
      obtain ⟨p, xs, rfl, hp, hxs⟩ := dp_tup hd
      have lx := dpA_len hxs
      have ret : ∀ {r : Int}, lbe cs (m + 1) (.tuple ds) left' = r → Q (.int r) H1 := fun e => by
        rw [← e, eq]
        exact q
      refine ⟨_, rfl, p, _, rfl, .inr hp, ?_⟩
      rcases three_or ds with ⟨dw, da, db, rfl⟩ | ⟨dw, da, rfl⟩ | ⟨dw, da, db, dc, rfl⟩ | ⟨hno, l3, l2, l4⟩
      · -- three
        obtain ⟨xw, xs, rfl, hw, hxs⟩ := dpA_cons hxs
        obtain ⟨xa, xs, rfl, ha, hxs⟩ := dpA_cons hxs
        obtain ⟨xb, xs, rfl, hb, hxs⟩ := dpA_cons hxs
        cases dpA_nil hxs
        have nva := num_vd ha
        have nvb := num_vd hb
        refine ⟨_, rfl, rfl, _, rfl, iteT ?_⟩
        refine ⟨_, rfl, p, _, rfl, hp, rfl, _, _, rfl, _, _, rfl, _, _, rfl, rfl, ?_⟩
        refine ⟨_, rfl, dw, "in", SfG.Dp.dx hw, rfl, _, rfl, ?_⟩
        have hIa := dp_is ha
        have hIb := dp_is hb
        cases hin : eqS dw "in" with
        | true =>
          have e1 : lbe cs (m + 1) (.tuple [dw, da, db]) left' = inE cs da db left' := by rw [lbe, if_pos hin]
          rw [e1] at ret
          clear e1 eq q
          refine iteT ⟨_, rfl, _, _, hIa.1, kit_intN, _, rfl, ?_⟩
          rcases num_cases da with ⟨i, rfl⟩ | ⟨ba, rfl⟩ | ⟨na, ga⟩
          case inr.inr =>
            rw [na]
            exact iteF (iteF ⟨1, rfl, ret (by unfold inE; rw [ga, Bool.false_and]; rfl)⟩)
          case inr.inl =>
            have bad : inE cs (.bool ba) db left' = -1 := rfl
            refine iteT ⟨_, rfl, _, _, hIb.1, kit_intN, _, rfl, ?_⟩
            cases nb : (numD db).isSome with
            | false => exact iteF (iteF ⟨1, rfl, ret bad⟩)
            | true =>
            refine iteT ⟨_, rfl, 0, _, rfl, nva, _, rfl, ?_⟩
            cases hc : decide ((0 : Int) ≤ SfG.b2i ba) with
            | false => exact iteF ⟨_, rfl, iteF ⟨1, rfl, ret bad⟩⟩
            | true =>
            refine iteT ⟨_, rfl, tk, _, rfl, .inr htk, _, _, nva, rfl, _, rfl, ?_⟩
            dsimp only
            rw [List.length_map, hlk]
            cases hc2 : decide (SfG.b2i ba < (cs.length : Int)) with
            | false => exact iteF ⟨1, rfl, ret bad⟩
            | true =>
            refine iteT ⟨_, rfl, ?_⟩
            refine not_bxC ha rfl ?_
            refine ⟨_, rfl, ?_⟩
            cases ba with
            | true => exact iteF (iteF ⟨1, rfl, ret bad⟩)
            | false =>
              refine iteT ⟨_, rfl, ?_⟩
              refine not_bxC ha rfl ?_
              refine ⟨_, rfl, ?_⟩
              exact iteF (iteF ⟨1, rfl, ret bad⟩)
          case inl =>
            cases dp_int ha
            refine iteT ⟨_, rfl, _, _, hIb.1, kit_intN, _, rfl, ?_⟩
            rcases num_cases db with ⟨j, rfl⟩ | ⟨bb, rfl⟩ | ⟨nb, gb⟩
            case inr.inr =>
              rw [nb]
              exact iteF (iteF ⟨1, rfl, ret (by unfold inE; rw [gb, Bool.and_false]; rfl)⟩)
            all_goals
              refine iteT ⟨_, rfl, 0, i, rfl, rfl, _, rfl, ?_⟩
              by_cases c0 : (0 : Int) ≤ i
              case neg =>
                rw [decide_eq_false c0]
                refine iteF ⟨_, rfl, iteF ⟨1, rfl, ret ?_⟩⟩
                unfold inE
                rw [amg_int, decide_eq_false c0, Bool.false_and, Bool.false_and]
                rfl
              rw [decide_eq_true c0]
              refine iteT ⟨_, rfl, tk, _, rfl, .inr htk, i, _, rfl, rfl, _, rfl, ?_⟩
              dsimp only
              rw [List.length_map, hlk]
              by_cases c1 : i < (cs.length : Int)
              case neg =>
                rw [decide_eq_false c1]
                refine iteF ⟨1, rfl, ret ?_⟩
                unfold inE
                rw [amg_int, decide_eq_false (show ¬ i ≤ (cs.length : Int) - 1 by omega), Bool.and_false, Bool.false_and]
                rfl
              rw [decide_eq_true c1]
              refine iteT ⟨_, rfl, ?_⟩
              refine not_bxC ha rfl ?_
              refine ⟨_, rfl, ?_⟩
              refine iteT ⟨_, rfl, ?_⟩
              refine not_bxC ha rfl ?_
              refine ⟨_, rfl, ?_⟩
              refine iteT ⟨_, rfl, ?_⟩
              refine not_bxC hb rfl ?_
              refine ⟨_, rfl, ?_⟩
            rotate_left
            · have bad : inE cs (.int i) (.bool bb) left' = -1 := by
                unfold inE
                rw [show ∀ lo hi, amg (.bool bb) lo hi = false from fun _ _ => rfl, Bool.and_false]
                rfl
              cases bb with
              | true => exact iteF (iteF ⟨1, rfl, ret bad⟩)
              | false =>
                refine iteT ⟨_, rfl, ?_⟩
                refine not_bxC hb rfl ?_
                refine ⟨_, rfl, ?_⟩
                exact iteF ⟨1, rfl, ret bad⟩
            · cases dp_int hb
              refine iteT ⟨_, rfl, ?_⟩
              refine not_bxC hb rfl ?_
              refine ⟨_, rfl, ?_⟩
              refine iteT ?_
              have ga : amg (.int i) 0 ((cs.length : Int) - 1) = true := by
                rw [amg_int, decide_eq_true c0, decide_eq_true (show i ≤ (cs.length : Int) - 1 by omega)]
                rfl
              have eI : inE cs (.int i) (.int j) left' = if (decide ((0 : Int) ≤ j) && decide (j ≤ cAt cs i - 1)) = true then left' - 1 else -1 := by
                unfold inE
                rw [ga, Bool.true_and]
                rfl
              rw [eI] at ret
              obtain ⟨iN, rfl⟩ : ∃ z : Nat, i = (z : Int) := ⟨i.toNat, by omega⟩
              have li : iN < cs.length := by omega
              have hc : cs[iN]? = some cs[iN] := List.getElem?_eq_getElem li
              have ec : cAt cs ((iN : Nat) : Int) = ((cs[iN] : Nat) : Int) := by
                unfold cAt
                rw [Int.toNat_natCast, List.getD_eq_getElem?_getD, hc]
                rfl
              rw [ec] at ret
              generalize cs[iN] = c at hc ret
              refine ⟨_, rfl, 0, j, rfl, rfl, _, rfl, ?_⟩
              by_cases j0 : (0 : Int) ≤ j
              case neg =>
                rw [decide_eq_false j0]
                refine iteF ⟨_, rfl, iteF ⟨1, rfl, ret ?_⟩⟩
                rw [decide_eq_false j0, Bool.false_and]
                rfl
              rw [decide_eq_true j0]
              have hk : ks[iN]? = some ks[iN] := List.getElem?_eq_getElem (by omega)
              generalize ks[iN] = kn at hk
              have atk : atI (ks.map Kn.v) ((iN : Nat) : Int) = some kn.v := atI_nat (by rw [List.getElem?_map, hk]; rfl)
              refine iteT ⟨_, rfl, ct, rfl, .inl ⟨_, .inl hct⟩, _, rfl, _, rfl, tk, _, _, _, rfl, rfl, htk, atk, _, kn_key kn ▸ DGet.k (k := kkey kn) hct, ?_⟩
              rw [hkv iN kn c hk hc]
              refine ⟨j, _, rfl, rfl, _, rfl, ?_⟩
              dsimp only
              by_cases j1 : j < ((c : Nat) : Int)
              · rw [decide_eq_true j1]
                refine iteT ⟨_, rfl, left', 1, rfl, rfl, ret ?_⟩
                rw [decide_eq_true j0, decide_eq_true (show j ≤ ((c : Nat) : Int) - 1 by omega)]
                rfl
              · rw [decide_eq_false j1]
                refine iteF ⟨1, rfl, ret ?_⟩
                rw [decide_eq_true j0, decide_eq_false (show ¬ j ≤ ((c : Nat) : Int) - 1 by omega)]
                rfl
        | false =>
        refine iteF ?_
        have nin : ¬ eqS dw "in" = true := by rw [hin]; decide
        refine ⟨_, rfl, _, 2, rfl, rfl, _, rfl, ?_⟩
        by_cases m0 : m = 0
        · subst m0
          refine iteT (iteT ⟨1, rfl, ret ?_⟩)
          rw [lbe, if_neg nin, if_pos (.inl rfl)]
        rw [decide_eq_false (show ¬ ((m + 1 : Nat) : Int) < 2 by omega)]
        refine iteF ⟨_, rfl, left', 1, rfl, rfl, _, rfl, ?_⟩
        by_cases l1 : left' < 1
        · rw [decide_eq_true l1]
          refine iteT ⟨1, rfl, ret ?_⟩
          rw [lbe, if_neg nin, if_pos (.inr l1)]
        rw [decide_eq_false l1]
        refine iteF ?_
        have nor : ¬ (m = 0 ∨ left' < 1) := fun z => z.elim m0 l1
        have e1 : lbe cs (m + 1) (.tuple [dw, da, db]) left' = if pairW dw = true then lbe cs m db (lbe cs m da (left' - 1)) else if (eqS dw "rest" && amg db 2 99) = true then lbe cs m da (left' - 1) else -1 := by
          rw [lbe, if_neg nin, if_neg nor]
        obtain ⟨m', rfl⟩ : ∃ z, m = z + 1 := ⟨m - 1, by omega⟩
        refine ⟨_, rfl, _, 1, rfl, rfl, ?_⟩
        refine ⟨_, rfl, left', 1, rfl, rfl, ?_⟩
        have em : ((m' + 1 + 1 : Nat) : Int) - 1 = ((m' + 1 : Nat) : Int) := by omega
        dsimp only
        rw [em]
        refine ⟨_, rfl, dw, pw, fiveW, hw, rfl, hP _, _, rfl, ?_⟩
        rw [show (fiveW.any fun z => eqS dw z) = pairW dw from rfl]
        rw [e1] at ret eq
        clear e1
        cases hpw : pairW dw with
        | true =>
          rw [if_pos hpw] at eq
          refine iteT ⟨_, rfl, _, rfl, _, rfl, _, rfl, _, rfl, xa, da, tk, ct, cs, m', left' - 1, rfl, ha, tc, by omega, ?_⟩
          exact ⟨_, rfl, m', by omega, rfl, xb, db, _, _, _, _, _, _, rfl, hb, by omega, eq⟩
        | false =>
          rw [if_neg (by rw [hpw]; decide)] at ret eq
          refine iteF ⟨_, rfl, dw, "rest", SfG.Dp.dx hw, rfl, _, rfl, ?_⟩
          cases hre : eqS dw "rest" with
          | false =>
            rw [hre, Bool.false_and] at ret
            exact iteF (iteF ⟨1, rfl, ret rfl⟩)
          | true =>
          rw [hre, Bool.true_and] at ret eq
          refine iteT ⟨_, rfl, _, _, hIb.1, kit_intN, _, rfl, ?_⟩
          rcases num_cases db with ⟨j, rfl⟩ | ⟨bb, rfl⟩ | ⟨nb, gb⟩
          · refine iteT ⟨_, rfl, chain_le (i := j) nvb ⟨_, rfl, ?_⟩⟩
            cases hg : (decide ((2 : Int) ≤ j) && decide (j ≤ 99)) with
            | true =>
              rw [if_pos (show amg (.int j) 2 99 = true from hg)] at eq
              exact iteT ⟨_, rfl, m', by omega, rfl, xa, da, _, _, _, _, _, _, rfl, ha, by omega, eq⟩
            | false =>
              refine iteF ⟨1, rfl, ret ?_⟩
              rw [if_neg (show ¬ amg (.int j) 2 99 = true from by rw [show amg (.int j) 2 99 = false from hg]; decide)]
          · refine iteT ⟨_, rfl, chain_le (i := SfG.b2i bb) nvb ⟨_, rfl, ?_⟩⟩
            rw [show (decide ((2 : Int) ≤ SfG.b2i bb) && decide (SfG.b2i bb ≤ 99)) = false from by cases bb <;> rfl]
            exact iteF ⟨1, rfl, ret rfl⟩
          · rw [nb]
            refine iteF (iteF ⟨1, rfl, ret ?_⟩)
            rw [gb]
            rfl
      · -- two
        obtain ⟨xw, xs, rfl, hw, hxs⟩ := dpA_cons hxs
        obtain ⟨xa, xs, rfl, ha, hxs⟩ := dpA_cons hxs
        cases dpA_nil hxs
        have nva := num_vd ha
        have hIa := dp_is ha
        refine ⟨_, rfl, rfl, _, rfl, iteF ⟨_, rfl, rfl, _, rfl, iteT ?_⟩⟩
        refine ⟨_, rfl, p, _, rfl, hp, rfl, _, _, rfl, _, _, rfl, rfl, ?_⟩
        refine ⟨_, rfl, dw, "number", SfG.Dp.dx hw, rfl, _, rfl, ?_⟩
        have e1 : lbe cs (m + 1) (.tuple [dw, da]) left' = if (eqS dw "number" && amg da 0 99) = true then left' - 1 else -1 := by rw [lbe]
        rw [e1] at ret
        cases hnm : eqS dw "number" with
        | false =>
          rw [hnm, Bool.false_and] at ret
          exact iteF ⟨_, rfl, _, rfl, iteF (iteF ⟨1, rfl, ret rfl⟩)⟩
        | true =>
        rw [hnm, Bool.true_and] at ret
        refine iteT ⟨_, rfl, _, _, hIa.1, kit_intN, _, rfl, ?_⟩
        rcases num_cases da with ⟨i, rfl⟩ | ⟨ba, rfl⟩ | ⟨na, ga⟩
        · refine iteT ⟨_, rfl, chain_le (i := i) nva ?_⟩
          cases hg : (decide ((0 : Int) ≤ i) && decide (i ≤ 99)) with
          | true =>
            refine ⟨_, rfl, _, rfl, iteT ⟨_, rfl, ?_⟩⟩
            refine not_bxC ha rfl ?_
            refine ⟨_, rfl, ?_⟩
            refine iteT ⟨_, rfl, ?_⟩
            refine not_bxC ha rfl ?_
            refine ⟨_, rfl, ?_⟩
            refine iteT ⟨_, rfl, left', 1, rfl, rfl, ret ?_⟩
            rw [if_pos (show amg (.int i) 0 99 = true from hg)]
          | false =>
            refine ⟨_, rfl, _, rfl, iteF (iteF ⟨1, rfl, ret ?_⟩)⟩
            rw [if_neg (show ¬ amg (.int i) 0 99 = true from by rw [show amg (.int i) 0 99 = false from hg]; decide)]
        · refine iteT ⟨_, rfl, chain_le (i := SfG.b2i ba) nva ?_⟩
          cases ba with
          | true =>
            refine ⟨_, rfl, _, rfl, iteT ⟨_, rfl, ?_⟩⟩
            refine not_bxC ha rfl ?_
            refine ⟨_, rfl, ?_⟩
            exact iteF (iteF ⟨1, rfl, ret rfl⟩)
          | false =>
            refine ⟨_, rfl, _, rfl, iteT ⟨_, rfl, ?_⟩⟩
            refine not_bxC ha rfl ?_
            refine ⟨_, rfl, ?_⟩
            refine iteT ⟨_, rfl, ?_⟩
            refine not_bxC ha rfl ?_
            refine ⟨_, rfl, ?_⟩
            exact iteF ⟨1, rfl, ret rfl⟩
        · rw [na]
          refine iteF ⟨_, rfl, _, rfl, iteF (iteF ⟨1, rfl, ret ?_⟩)⟩
          rw [ga]
          rfl
      · -- four
        obtain ⟨xw, xs, rfl, hw, hxs⟩ := dpA_cons hxs
        obtain ⟨xa, xs, rfl, ha, hxs⟩ := dpA_cons hxs
        obtain ⟨xb, xs, rfl, hb, hxs⟩ := dpA_cons hxs
        obtain ⟨xc, xs, rfl, hc, hxs⟩ := dpA_cons hxs
        cases dpA_nil hxs
        refine ⟨_, rfl, rfl, _, rfl, iteF ⟨_, rfl, rfl, _, rfl, iteF ⟨_, rfl, rfl, _, rfl, iteT ?_⟩⟩⟩
        refine ⟨_, rfl, p, _, 0, xw, rfl, rfl, hp, atI_nat (j := 0) rfl, dw, "if", SfG.Dp.dx hw, rfl, _, rfl, ?_⟩
        cases hif : eqS dw "if" with
        | false =>
          refine iteF (iteF ⟨1, rfl, ret ?_⟩)
          rw [lbe, if_neg (fun z => by rw [hif] at z; cases z.1)]
        | true =>
        refine iteT ⟨_, rfl, _, 1, rfl, rfl, _, rfl, ?_⟩
        by_cases m0 : m = 0
        · subst m0
          refine iteF (iteF ⟨1, rfl, ret ?_⟩)
          rw [lbe, if_neg (fun z => z.2.1 rfl)]
        rw [decide_eq_true (show (1 : Int) < ((m + 1 : Nat) : Int) by omega)]
        refine iteT ⟨_, rfl, left', 0, rfl, rfl, _, rfl, ?_⟩
        by_cases l0 : (0 : Int) < left'
        case neg =>
          rw [decide_eq_false l0]
          refine iteF ⟨1, rfl, ret ?_⟩
          rw [lbe, if_neg (fun z => l0 z.2.2)]
        rw [decide_eq_true l0]
        have e1 : lbe cs (m + 1) (.tuple [dw, da, db, dc]) left' = lbe cs m dc (lbe cs m db (lbe cs m da (left' - 1))) := by rw [lbe, if_pos ⟨hif, m0, l0⟩]
        rw [e1] at eq
        obtain ⟨m', rfl⟩ : ∃ z, m = z + 1 := ⟨m - 1, by omega⟩
        refine iteT ⟨_, rfl, _, 1, rfl, rfl, ?_⟩
        have em : ((m' + 1 + 1 : Nat) : Int) - 1 = ((m' + 1 : Nat) : Int) := by omega
        dsimp only
        rw [em]
        refine ⟨_, rfl, p, _, 1, xa, rfl, rfl, hp, atI_nat (j := 1) rfl, _, rfl, _, rfl, _, rfl, _, rfl, left', 1, rfl, rfl, xa, da, tk, ct, cs, m', left' - 1, rfl, ha, tc, by omega, ?_⟩
        refine ⟨_, rfl, p, _, 2, xb, rfl, rfl, hp, atI_nat (j := 2) rfl, _, rfl, _, rfl, _, rfl, _, rfl, xb, db, tk, ct, cs, m', _, rfl, hb, tc, by omega, ?_⟩
        refine ⟨_, rfl, p, _, 3, xc, rfl, rfl, hp, atI_nat (j := 3) rfl, ?_⟩
        exact ⟨m', by omega, rfl, xc, dc, _, _, _, _, _, _, rfl, hc, by omega, eq⟩
      · -- else
        rw [hno] at ret
        refine ⟨_, rfl, rfl, _, rfl, ?_⟩
        rw [decide_eq_false (fun z => l3 (by have := V.int.inj z; omega))]
        refine iteF ⟨_, rfl, rfl, _, rfl, ?_⟩
        rw [decide_eq_false (fun z => l2 (by have := V.int.inj z; omega))]
        refine iteF ⟨_, rfl, rfl, _, rfl, ?_⟩
        rw [decide_eq_false (fun z => l4 (by have := V.int.inj z; omega))]
        exact iteF (iteF ⟨1, rfl, ret rfl⟩)
end
end SfM
namespace SfM
open PySem PySem.Spec PyProof.Rows L2 SfG SfC
abbrev nLbb : List Str := ["thing", "takes", "counts", "many", "deep", "left", "word", "expression"]
theorem scLbb : FnScope nLbb ["thing", "takes", "counts", "many", "deep", "left"] (defScope sLbb) := ⟨rfl, rfl, rfl, by decide +kernel, rfl, by decide +kernel, by decide +kernel⟩
/-- the Es of a give -/
def giv (cs : List Nat) (dp : Nat) : List PyData → Int → Int
  | [], l => l
  | e :: r, l => if l < 1 then -1 else giv cs dp r (lbe cs dp e l)
def giveD (cs : List Nat) (m dp : Nat) (a : PyData) (l : Int) : Int := match a with
  | .tuple es => if es.length = m then giv cs dp es l else -1
  | _ => -1
/-- a give, a when -/
def bodR (cs : List Nat) (m dp : Nat) (w : PyData) (r : List PyData) (left : Int) (rec : PyData → Int → Int) : Int := match r with
  | [a] => if eqS w "give" = true then giveD cs m dp a (left - 1) else -1
  | [a, b, c] => if eqS w "when" = true then rec c (rec b (lbe cs dp a (left - 1))) else -1
  | _ => -1
/-- what left_by_body tells -/
def lbb (cs : List Nat) (m : Nat) : Nat → PyData → Int → Int
  | 0, _, _ => -1
  | dp + 1, d, left => match d with
    | .tuple (w :: r) => if left < 1 then -1 else if eqS w "refuse" = true then (if r.isEmpty = true then left - 1 else -1) else if dp = 0 then -1 else bodR cs m dp w r left (lbb cs m dp)
    | _ => -1
theorem lbb_tup (cs : List Nat) (m dp : Nat) (w : PyData) (r : List PyData) (left : Int) : lbb cs m (dp + 1) (.tuple (w :: r)) left = if left < 1 then -1 else if eqS w "refuse" = true then (if r.isEmpty = true then left - 1 else -1) else if dp = 0 then -1 else bodR cs m dp w r left (lbb cs m dp) := by rw [lbb]
theorem give_when {d : PyData} (h : eqS d "give" = true) : eqS d "when" = false := by
  cases d with
  | str z =>
    have e : z = "give" := of_decide_eq_true h
    rw [e]
    decide +kernel
  | _ => cases h
theorem giveD_no {cs : List Nat} {m dp : Nat} {a : PyData} {l : Int} (h : (tyD a == "tuple") = false) : giveD cs m dp a l = -1 := by
  cases a with
  | tuple _ => exact absurd h (by show ¬ ("tuple" == "tuple") = false; decide)
  | _ => rfl
theorem tup_is (d : PyData) : (tyD d == "tuple") = false ∨ ∃ ds, d = .tuple ds := by
  rcases tup_or d with ⟨h, _⟩ | h
  · exact .inl h
  · exact .inr h
theorem lbb_no {cs : List Nat} {m dp : Nat} {d : PyData} {l : Int} (h : (tyD d == "tuple") = false) : lbb cs m (dp + 1) d l = -1 := by
  cases d with
  | tuple _ => exact absurd h (by show ¬ ("tuple" == "tuple") = false; decide)
  | _ => rfl
theorem dpA_at {K : PySem.W.Frag} {H : Hp} : ∀ {ds : List PyData} {xs : List V} {i : Nat} {x : V}, DpAll K H xs ds → xs[i]? = some x → ∃ d, ds[i]? = some d ∧ Dp K H x d
  | [], _, i, _, h, e => by
    cases dpA_nil h
    simp at e
  | d :: ds, _, 0, _, h, e => by
    obtain ⟨y, r, rfl, hy, _⟩ := dpA_cons h
    cases e
    exact ⟨d, rfl, hy⟩
  | d :: ds, _, i + 1, _, h, e => by
    obtain ⟨y, r, rfl, _, hr⟩ := dpA_cons h
    obtain ⟨d', h1, h2⟩ := dpA_at (i := i) hr (by simpa using e)
    exact ⟨d', by simpa using h1, h2⟩
section
variable {P : Program} {w : World} {K : PySem.W.Frag} {mg : Str → Option Value} {base : Heap}
def spLbb (K : PySem.W.Frag) (n : Nat) : Sp := fun vs H Q _ => ∃ (t : V) (d : PyData) (tk ct : Addr) (cs : List Nat) (m dp : Nat) (left : Int), vs = [t, .ref tk, .ref ct, .int (m : Nat), .int ((dp + 1 : Nat) : Int), .int left] ∧ Dp K H t d ∧ TC K H tk ct cs ∧ dp + 1 ≤ n ∧ Q (.int (lbb cs m (dp + 1) d left)) H
set_option maxHeartbeats 4000000 in
theorem ok_lbb {f fE : Addr} {fd fdE : FuncData} (F : Fun K "left_by_body" "left_by_body" sLbb f fd) (bL : Binds K fd ["thing", "takes", "counts", "many", "deep", "left"] []) (gL : mg "left_by_body" = some (.ref f))
    (HE : Has P w K mg base 9 "left_by_expression" ["thing", "takes", "counts", "deep", "left"] (spLbe K 8) fE fdE) (mi : mg "isinstance" = none) (mt : mg "tuple" = none) (ml : mg "len" = none) :
    ∀ n, n ≤ 8 → FnOk P w K mg base CX0 (n + 10) f fd ["thing", "takes", "counts", "many", "deep", "left"] (spLbb K n)
  | 0, _ => by
    refine F.ok scLbb (fun vs H Q E h => ?_) (fun cdv A outer s H vs Q E hr h => ?_)
    · obtain ⟨t, d, tk, ct, cs, m, dp, left, rfl, _⟩ := h
      rfl
    · obtain ⟨t, d, tk, ct, cs, m, dp, left, rfl, _, _, hd, _⟩ := h
      omega
  | n + 1, hn => by
    have GL := ok_lbb F bL gL HE mi mt ml n (by omega)
    refine F.ok scLbb (fun vs H Q E h => ?_) (fun cdv A outer s H vs Q E hr h => ?_)
    · obtain ⟨t, d, tk, ct, cs, m, dp, left, rfl, _⟩ := h
      rfl
    · obtain ⟨t, d, tk, ct, cs, m, dp, left, rfl, hd, tc, hdp, q⟩ := h
      have nd := scLbb.nd
      have HE' : Has P w K mg base (n + 10) "left_by_expression" ["thing", "takes", "counts", "deep", "left"] (spLbe K 8) fE fdE := ⟨HE.ok.mono (by omega), HE.at_, HE.kp, HE.bd⟩
      refine' ⟨_, pss_cons ?s1 (pss_cons ?s2 (pss_cons ?s3 (pss_cons ?s4 (pss_cons ?s5 (pss_cons ?s6 (pss_cons ?s7 (pss_cons ?s8 (pss_one ?s9)))))))), ?rd⟩
      case s1 => exact ps_if (PW.pt (pw_or (pt_not (pt_val (pe_isi "tuple" 0 mi mt (by decide +kernel)))) (pw_or (pt_not (pt_truth (pv 0) (fun _ => rfl))) (pw_or1 (pt_cmpR op_lt (pv 5) pe_int (nomark _)))))) (pss_one (ps_ret (pe_un un_neg pe_int))) pss_nil
      case s2 => exact ps_set (i := 6) nd rfl (.inl rfl) (pe_ix ix_tup (pv 0) pe_int (fun _ _ => rfl))
      case s3 => exact ps_if (pt_cmpR (op_eqXS hr) (pv 6) pe_str (nomark _)) (pss_one (ps_ret (pe_ifExp (pt_cmpR op_eq (pe_callB call_len_seq (by rfl) ml PySem.boot_len (pa_cons (pv 0) pa_nil)) pe_int (nomark _)) (pe_op op_sub (pv 5) pe_int) (pe_un un_neg pe_int)))) pss_nil
      case s4 => exact ps_if (pt_cmpR op_lt (pv 4) pe_int (nomark _)) (pss_one (ps_ret (pe_un un_neg pe_int))) pss_nil
      case s5 => exact ps_aug (i := 4) nd rfl (.inl rfl) pe_int ip_sub
      case s6 => exact ps_aug (i := 5) nd rfl (.inl rfl) pe_int ip_sub
      case s7 =>
        refine' ps_if (PW.pt (pw_and (pt_cmpR (op_eqXS hr) (pv 6) pe_str (nomark _)) (pw_and (pt_cmpR op_eq (pe_callB call_len_seq (by rfl) ml PySem.boot_len (pa_cons (pv 0) pa_nil)) pe_int (nomark _))
          (pw_and (pt_val (pe_callB call_isi (by rfl) mi boot_isinstance (pa_cons (pe_ix ix_tup (pv 0) pe_int (fun _ _ => rfl)) (pa_cons (pe_bltn (v := .ty "tuple") (by rfl) mt (by decide +kernel) rfl) pa_nil))))
          (pw_and1 (pt_cmpR op_eq (pe_callB call_len_seq (by rfl) ml PySem.boot_len (pa_cons (pe_ix ix_tup (pv 0) pe_int (fun _ _ => rfl)) pa_nil)) (pv 3) (nomark _)))))))
          (pss_cons ?l1 (pss_one (ps_ret (pv 5)))) pss_nil
        case l1 =>
          exact ps_for PassesOwn.never rfl (pi_tup (pe_ix ix_tup (pv 0) pe_int (fun _ _ => rfl))) (pg_name (i := 7) nd rfl (.inl rfl))
            (pss_cons (ps_if (pt_cmpR op_lt (pv 5) pe_int (nomark _)) (pss_one (ps_ret (pe_un un_neg pe_int))) pss_nil)
            (pss_one (ps_set (i := 5) nd rfl (.inl rfl) (hcall HE' hr (pa_cons (pv 7) (pa_cons (pv 1) (pa_cons (pv 2) (pa_cons (pv 4) (pa_cons (pv 5) pa_nil)))))))))
      case s8 =>
        exact ps_if (PW.pt (pw_and (pt_cmpR (op_eqXS hr) (pv 6) pe_str (nomark _)) (pw_and1 (pt_cmpR op_eq (pe_callB call_len_seq (by rfl) ml PySem.boot_len (pa_cons (pv 0) pa_nil)) pe_int (nomark _)))))
          (pss_cons (ps_set (i := 5) nd rfl (.inl rfl) (hcall HE' hr (pa_cons (pe_ix ix_tup (pv 0) pe_int (fun _ _ => rfl)) (pa_cons (pv 1) (pa_cons (pv 2) (pa_cons (pv 4) (pa_cons (pv 5) pa_nil)))))))
          (pss_cons (ps_set (i := 5) nd rfl (.inl rfl) (pe_call GL hr (by rfl) gL F.kp bL .nil pass0 (pa_cons (pe_ix ix_tup (pv 0) pe_int (fun _ _ => rfl)) (pa_cons (pv 1) (pa_cons (pv 2) (pa_cons (pv 3) (pa_cons (pv 4) (pa_cons (pv 5) pa_nil))))))))
          (pss_one (ps_ret (pe_call GL hr (by rfl) gL F.kp bL .nil pass0 (pa_cons (pe_ix ix_tup (pv 0) pe_int (fun _ _ => rfl)) (pa_cons (pv 1) (pa_cons (pv 2) (pa_cons (pv 3) (pa_cons (pv 4) (pa_cons (pv 5) pa_nil)))))))))))
          pss_nil
      case s9 => exact ps_ret (pe_un un_neg pe_int)
      case rd =>
      have hI := dp_is hd
      have ret : ∀ {r : Int}, lbb cs m (dp + 1) d left = r → Q (.int r) H := fun e => by
        rw [← e]
        exact q
      refine ⟨_, rfl, _, _, hI.1, kit_tuple _ hI.2, _, rfl, ?_⟩
      rcases tup_is d with h1 | ⟨ds, rfl⟩
      · rw [h1]
        exact iteT (iteT ⟨1, rfl, ret (lbb_no h1)⟩)
      rw [show (tyD (.tuple ds) == "tuple") = true from by show ("tuple" == "tuple") = true; decide]
      obtain ⟨p, xs, rfl, hp, hxs⟩ := dp_tup hd
      have lx := dpA_len hxs
      cases ds with
      | nil =>
        cases dpA_nil hxs
        exact iteF ⟨_, rfl, false, .inr (.inl ⟨_, hp, rfl⟩), iteT (iteT ⟨1, rfl, ret rfl⟩)⟩
      | cons dw dr =>
      obtain ⟨xw, xr, rfl, hw, hxr⟩ := dpA_cons hxs
      have lxr := dpA_len hxr
      have e0 := lbb_tup cs m dp dw dr left
      refine iteF ⟨_, rfl, true, .inr (.inl ⟨_, hp, rfl⟩), iteF ⟨_, rfl, left, 1, rfl, rfl, _, rfl, ?_⟩⟩
      by_cases l1 : left < 1
      · rw [decide_eq_true l1]
        exact iteT ⟨1, rfl, ret (by rw [e0, if_pos l1])⟩
      rw [if_neg l1] at e0
      rw [decide_eq_false l1]
      refine iteF ⟨_, rfl, p, _, 0, xw, rfl, rfl, hp, atI_nat (j := 0) rfl, ?_⟩
      refine ⟨_, rfl, dw, "refuse", SfG.Dp.dx hw, rfl, _, rfl, ?_⟩
      cases hre : eqS dw "refuse" with
      | true =>
        rw [if_pos hre] at e0
        refine iteT ⟨_, rfl, p, _, rfl, .inr hp, rfl, _, rfl, ?_⟩
        cases dr with
        | nil =>
          cases dpA_nil hxr
          exact iteT ⟨_, rfl, left, 1, rfl, rfl, ret e0⟩
        | cons a r =>
          rw [decide_eq_false (fun z => by have := V.int.inj z; rw [List.length_cons, lxr, List.length_cons] at this; omega)]
          exact iteF ⟨1, rfl, ret e0⟩
      | false =>
      rw [if_neg (by rw [hre]; decide)] at e0
      refine iteF ⟨_, rfl, _, 2, rfl, rfl, _, rfl, ?_⟩
      by_cases d0 : dp = 0
      · subst d0
        exact iteT ⟨1, rfl, ret (by rw [e0, if_pos rfl])⟩
      rw [if_neg d0] at e0
      rw [decide_eq_false (show ¬ ((dp + 1 : Nat) : Int) < 2 by omega)]
      refine iteF ⟨_, rfl, _, 1, rfl, rfl, _, rfl, left, 1, rfl, rfl, ?_⟩
      obtain ⟨dq, rfl⟩ : ∃ z, dp = z + 1 := ⟨dp - 1, by omega⟩
      have em : ((dq + 1 + 1 : Nat) : Int) - 1 = ((dq + 1 : Nat) : Int) := by omega
      dsimp only
      rw [em]
      refine seq_end (fun σ S => σ = [some (.ref p), some (.ref tk), some (.ref ct), some (.int ((m : Nat) : Int)), some (.int ((dq + 1 : Nat) : Int)), some (.int (left - 1)), some xw, none] ∧ S = H ∧ (eqS dw "give" = true → lbb cs m (dq + 1 + 1) (.tuple (dw :: dr)) left = -1)) ?nog (fun hF => ?_)
      case nog =>
        rintro σ S ⟨rfl, rfl, hno⟩
        have low : eqS dw "when" = false → lbb cs m (dq + 1 + 1) (.tuple (dw :: dr)) left = -1 := fun hwn => by
          by_cases hg : eqS dw "give" = true
          · exact hno hg
          · rw [e0]
            match dr with
            | [] => rfl
            | [a] => exact if_neg hg
            | [_, _] => rfl
            | [a, b, c] => exact if_neg (by rw [hwn]; decide)
            | _ :: _ :: _ :: _ :: _ => rfl
        refine ⟨_, rfl, dw, "when", SfG.Dp.dx hw, rfl, _, rfl, ?_⟩
        cases hwn : eqS dw "when" with
        | false => exact iteF (iteF ⟨1, rfl, ret (low hwn)⟩)
        | true =>
        have ng : ¬ eqS dw "give" = true := fun z => by rw [give_when z] at hwn; cases hwn
        refine iteT ⟨_, rfl, p, _, rfl, .inr hp, rfl, _, rfl, ?_⟩
        by_cases l3 : dr.length = 3
        case neg =>
          rw [decide_eq_false (fun z => l3 (by have := V.int.inj z; rw [List.length_cons, lxr] at this; omega))]
          refine iteF ⟨1, rfl, ret ?_⟩
          rw [e0]
          match dr, l3 with
          | [], _ => rfl
          | [a], _ => exact if_neg ng
          | [_, _], _ => rfl
          | [a, b, c], h => exact absurd rfl h
          | _ :: _ :: _ :: _ :: _, _ => rfl
        obtain ⟨da, db, dc, rfl⟩ : ∃ a b c, dr = [a, b, c] := by
          match dr, l3 with
          | [a, b, c], _ => exact ⟨a, b, c, rfl⟩
        obtain ⟨xa, xr, rfl, ha, hxr⟩ := dpA_cons hxr
        obtain ⟨xb, xr, rfl, hb, hxr⟩ := dpA_cons hxr
        obtain ⟨xc, xr, rfl, hc, hxr⟩ := dpA_cons hxr
        cases dpA_nil hxr
        have e1 : lbb cs m (dq + 1 + 1) (.tuple [dw, da, db, dc]) left = lbb cs m (dq + 1) dc (lbb cs m (dq + 1) db (lbe cs (dq + 1) da (left - 1))) := e0.trans (if_pos hwn)
        rw [e1] at q
        refine iteT ⟨_, rfl, p, _, 1, xa, rfl, rfl, hp, atI_nat (j := 1) rfl, _, rfl, _, rfl, _, rfl, _, rfl, xa, da, tk, ct, cs, dq, left - 1, rfl, ha, tc, by omega, ?_⟩
        refine ⟨_, rfl, p, _, 2, xb, rfl, rfl, hp, atI_nat (j := 2) rfl, _, rfl, _, rfl, _, rfl, _, rfl, _, rfl, xb, db, tk, ct, cs, m, dq, _, rfl, hb, tc, by omega, ?_⟩
        refine ⟨_, rfl, p, _, 3, xc, rfl, rfl, hp, atI_nat (j := 3) rfl, _, rfl, _, rfl, _, rfl, _, rfl, _, rfl, xc, dc, tk, ct, cs, m, dq, _, rfl, hc, tc, by omega, q⟩
      refine seq_go ?_
      refine ⟨_, rfl, dw, "give", SfG.Dp.dx hw, rfl, _, rfl, ?_⟩
      cases hgi : eqS dw "give" with
      | false => exact iteF (iteF (hF _ _ ⟨rfl, rfl, fun z => by rw [hgi] at z; cases z⟩))
      | true =>
      have nw := give_when hgi
      refine iteT ⟨_, rfl, p, _, rfl, .inr hp, rfl, _, rfl, ?_⟩
      by_cases l1' : dr.length = 1
      case neg =>
        rw [decide_eq_false (fun z => l1' (by have := V.int.inj z; rw [List.length_cons, lxr] at this; omega))]
        refine iteF (iteF (hF _ _ ⟨rfl, rfl, fun _ => ?_⟩))
        rw [e0]
        match dr, l1' with
        | [], _ => rfl
        | [a], h => exact absurd rfl h
        | [_, _], _ => rfl
        | [a, b, c], _ => exact if_neg (by rw [nw]; decide)
        | _ :: _ :: _ :: _ :: _, _ => rfl
      obtain ⟨da, rfl⟩ : ∃ a, dr = [a] := by
        match dr, l1' with
        | [a], _ => exact ⟨a, rfl⟩
      obtain ⟨xa, xr, rfl, ha, hxr⟩ := dpA_cons hxr
      cases dpA_nil hxr
      have e1 : lbb cs m (dq + 1 + 1) (.tuple [dw, da]) left = giveD cs m (dq + 1) da (left - 1) := e0.trans (if_pos hgi)
      have hIa := dp_is ha
      refine iteT ⟨_, rfl, p, _, 1, xa, rfl, rfl, hp, atI_nat (j := 1) rfl, xa, .ty "tuple", .type (tyD da), .type "tuple", (tyD da == "tuple"), rfl, .ty "tuple", hIa.1, kit_ty (kit_tuple _ hIa.2), _, rfl, ?_⟩
      rcases tup_is da with h1 | ⟨es, rfl⟩
      · rw [h1]
        exact iteF (iteF (hF _ _ ⟨rfl, rfl, fun _ => by rw [e1, giveD_no h1]⟩))
      rw [show (tyD (.tuple es) == "tuple") = true from by show ("tuple" == "tuple") = true; decide]
      obtain ⟨pa, ys, rfl, hpa, hys⟩ := dp_tup ha
      have ly := dpA_len hys
      refine iteT ⟨_, rfl, p, _, 1, _, rfl, rfl, hp, atI_nat (j := 1) rfl, pa, _, rfl, .inr hpa, _, rfl, rfl, _, rfl, ?_⟩
      by_cases lm : es.length = m
      case neg =>
        rw [decide_eq_false (fun z => lm (by have := V.int.inj z; omega))]
        exact iteF (hF _ _ ⟨rfl, rfl, fun _ => by rw [e1]; exact if_neg lm⟩)
      rw [decide_eq_true (by rw [ly, lm])]
      have e2 : lbb cs m (dq + 1 + 1) (.tuple [dw, .tuple es]) left = giv cs (dq + 1) es (left - 1) := e1.trans (if_pos lm)
      rw [e2] at q
      refine iteT ⟨_, rfl, p, _, 1, _, rfl, rfl, hp, atI_nat (j := 1) rfl, pa, rfl, ⟨_, hpa⟩, ?_⟩
      refine for_it (walk_tup (xs := ys)) (fun i σ S => ∃ (l : Int) (y7 : Option V), σ = [some (.ref p), some (.ref tk), some (.ref ct), some (.int ((m : Nat) : Int)), some (.int ((dq + 1 : Nat) : Int)), some (.int l), some xw, y7] ∧ S = H ∧ giv cs (dq + 1) es (left - 1) = giv cs (dq + 1) (es.drop i) l) ⟨left - 1, none, rfl, rfl, rfl⟩ ?f0 ?f1 ?f2
      case f0 =>
        rintro i σ S hi ⟨l, y7, rfl, rfl, _⟩
        exact hpa
      case f1 =>
        rintro i y σ S' S hi ⟨l, y7, rfl, rfl, eq⟩ ⟨rfl, hy⟩
        obtain ⟨de, hde, hdy⟩ := dpA_at hys hy
        have dr : es.drop i = de :: es.drop (i + 1) := by
          obtain ⟨li, ei⟩ := List.getElem?_eq_some_iff.mp hde
          rw [List.drop_eq_getElem_cons li, ei]
        rw [dr, giv] at eq
        refine ⟨_, rfl, l, 1, rfl, rfl, _, rfl, ?_⟩
        by_cases l0 : l < 1
        · rw [decide_eq_true l0]
          rw [if_pos l0] at eq
          rw [eq] at q
          exact iteT ⟨1, rfl, q⟩
        · rw [decide_eq_false l0]
          rw [if_neg l0] at eq
          exact iteF ⟨_, rfl, _, rfl, _, rfl, _, rfl, _, rfl, y, de, tk, ct, cs, dq, l, rfl, hdy, tc, by omega, _, _, rfl, rfl, eq⟩
      case f2 =>
      rintro σ S ⟨l, y7, rfl, rfl, eq⟩
      rw [ly, List.drop_length, giv] at eq
      rw [eq] at q
      exact ⟨_, rfl, q⟩
end
end SfM
namespace SfM
open PySem PySem.Spec PyProof.Rows L2 SfG SfC
/-! ### shapes, of any data -/
theorem scShape : FnScope ["thing", "product", "bound"] ["thing"] (defScope sShape) := ⟨rfl, rfl, rfl, by decide +kernel, rfl, by decide +kernel, by decide +kernel⟩
theorem cmul_small {i j : Int} (h0 : 0 ≤ j) (h1 : j ≤ 1000) : CMul i j := by
  have m64 : (-(2 ^ 64) : Int) = -18446744073709551616 := by decide
  have p64 : ((2 ^ 64) : Int) = 18446744073709551616 := by decide
  exact .inr ⟨by rw [m64]; omega, by rw [p64]; omega⟩
def nmI : PyData → Int
  | .int i => i
  | _ => 0
def shpL : List PyData → Int → Option Int
  | [], p => some p
  | d :: r, p => if amg d 2 9 = true then shpL r (p * nmI d) else none
def shpB (d : PyData) : Bool := match d with
  | .tuple ds => decide (1 ≤ ds.length) && (decide (ds.length ≤ 3) && (match shpL ds 1 with
    | some p => decide (p ≤ 16)
    | none => false))
  | _ => false
theorem shpB_t (ds : List PyData) : shpB (.tuple ds) = (decide (1 ≤ ds.length) && (decide (ds.length ≤ 3) && (match shpL ds 1 with
    | some p => decide (p ≤ 16)
    | none => false))) := rfl
theorem shpB_no {d : PyData} (h : (tyD d == "tuple") = false) : shpB d = false := by
  cases d with
  | tuple _ => exact absurd h (by show ¬ ("tuple" == "tuple") = false; decide)
  | _ => rfl
theorem drop_at {α : Type} {l : List α} {i : Nat} {a : α} (h : l[i]? = some a) : l.drop i = a :: l.drop (i + 1) := by
  obtain ⟨li, ei⟩ := List.getElem?_eq_some_iff.mp h
  rw [List.drop_eq_getElem_cons li, ei]
section
variable {P : Program} {w : World} {K : PySem.W.Frag} {mg : Str → Option Value} {base : Heap}
def spShape (K : PySem.W.Frag) : Sp := fun vs H Q _ => ∃ (x : V) (d : PyData), vs = [x] ∧ Dp K H x d ∧ Q (.bl (shpB d)) H
theorem ok_shape {f : Addr} {fd : FuncData} {k : Nat} (F : Fun K "is_shape" "is_shape" sShape f fd) (mi : mg "isinstance" = none) (mt : mg "tuple" = none) (mn : mg "int" = none) (ml : mg "len" = none) :
    FnOk P w K mg base CX0 (k + 1) f fd ["thing"] (spShape K) := by
  refine F.ok scShape (fun vs H Q E h => ?_) (fun cdv A outer s H vs Q E hr h => ?_)
  · obtain ⟨x, d, rfl, _⟩ := h
    rfl
  · obtain ⟨x, d, rfl, hd, q⟩ := h
    have nd := scShape.nd
    refine' ⟨_, pss_cons ?s1 (pss_cons ?s2 (pss_cons ?s3 (pss_one ?s4))), ?rd⟩
    case s1 => exact ps_if (PW.pt (pw_or (pt_not (pt_val (pe_isi "tuple" 0 mi mt (by decide +kernel)))) (pw_or1 (pt_not (pt_chain op_le op_le pe_int (pe_callB call_len_seq (by rfl) ml PySem.boot_len (pa_cons (pv 0) pa_nil)) pe_int))))) (pss_one (ps_ret pe_bl)) pss_nil
    case s2 => exact ps_set (i := 1) nd rfl (.inl rfl) pe_int
    case s3 =>
      exact ps_for PassesOwn.never rfl (pi_tup (pv 0)) (pg_name (i := 2) nd rfl (.inl rfl))
        (pss_cons (ps_if (PW.pt (pw_or (pt_not (pt_val (pe_isi "int" 2 mi mn (by decide +kernel)))) (pw_or1 (pt_not (pt_chain op_leN op_leY pe_int (pv 2) pe_int))))) (pss_one (ps_ret pe_bl)) pss_nil)
        (pss_one (ps_aug (i := 1) nd rfl (.inl rfl) (pv 2) ip_mul)))
    case s4 => exact ps_ret (pe_cmpR op_le (pv 1) pe_int (nomark _))
    case rd =>
    have hI := dp_is hd
    refine ⟨_, rfl, _, _, hI.1, kit_tuple _ hI.2, _, rfl, ?_⟩
    rcases tup_is d with h1 | ⟨ds, rfl⟩
    · rw [h1]
      rw [shpB_no h1] at q
      exact iteT (iteT q)
    rw [show (tyD (.tuple ds) == "tuple") = true from by show ("tuple" == "tuple") = true; decide]
    obtain ⟨p, xs, rfl, hp, hxs⟩ := dp_tup hd
    have lx := dpA_len hxs
    refine iteF ⟨_, rfl, p, _, rfl, .inr hp, 1, _, rfl, rfl, _, rfl, ?_⟩
    by_cases c1 : 1 ≤ ds.length
    case neg =>
      rw [decide_eq_false (show ¬ (1 : Int) ≤ ((xs.length : Nat) : Int) by omega)]
      rw [show shpB (.tuple ds) = false from by rw [shpB_t, decide_eq_false c1]; rfl] at q
      exact iteF ⟨_, rfl, iteT q⟩
    rw [decide_eq_true (show (1 : Int) ≤ ((xs.length : Nat) : Int) by omega)]
    refine iteT ⟨_, 3, rfl, rfl, _, rfl, ?_⟩
    by_cases c3 : ds.length ≤ 3
    case neg =>
      rw [decide_eq_false (show ¬ ((xs.length : Nat) : Int) ≤ 3 by omega)]
      refine iteT ?_
      rw [show shpB (.tuple ds) = false from by rw [shpB_t, decide_eq_false c3, Bool.false_and, Bool.and_false]] at q
      exact q
    rw [decide_eq_true (show ((xs.length : Nat) : Int) ≤ 3 by omega)]
    have e0 : shpB (.tuple ds) = (match shpL ds 1 with | some p => decide (p ≤ 16) | none => false) := by
      rw [shpB_t, decide_eq_true c1, decide_eq_true c3]
      rfl
    rw [e0] at q
    refine iteF ⟨_, rfl, p, rfl, ⟨_, hp⟩, ?_⟩
    refine for_it (walk_tup (xs := xs)) (fun i σ S => ∃ (pr : Int) (y2 : Option V), σ = [some (.ref p), some (.int pr), y2] ∧ S = H ∧ shpL ds 1 = shpL (ds.drop i) pr) ⟨1, none, rfl, rfl, rfl⟩ ?f0 ?f1 ?f2
    case f0 =>
      rintro i σ S hi ⟨pr, y2, rfl, rfl, _⟩
      exact hp
    case f1 =>
      rintro i y σ S' S hi ⟨pr, y2, rfl, rfl, eq⟩ ⟨rfl, hy⟩
      obtain ⟨de, hde, hdy⟩ := dpA_at hxs hy
      rw [drop_at hde, shpL] at eq
      have hIe := dp_is hdy
      have nve := num_vd hdy
      refine ⟨_, rfl, _, _, hIe.1, kit_intN, _, rfl, ?_⟩
      rcases num_cases de with ⟨i, rfl⟩ | ⟨b, rfl⟩ | ⟨nn, ge⟩
      · refine iteF ⟨_, rfl, 2, i, rfl, nve, _, rfl, ?_⟩
        cases dp_int hdy
        by_cases c : 2 ≤ i ∧ i ≤ 9
        · rw [amg_int, decide_eq_true c.1, decide_eq_true c.2, Bool.and_self, if_pos rfl] at eq
          rw [decide_eq_true c.1]
          refine iteT ⟨i, 9, rfl, rfl, _, rfl, ?_⟩
          rw [decide_eq_true c.2]
          have c1' := c.1
          have c2' := c.2
          exact iteF ⟨_, rfl, _, rfl, pr, i, rfl, rfl, cmul_small (by omega) (by omega), _, _, rfl, rfl, eq⟩
        · rw [if_neg (fun z => c (by rw [amg_int, Bool.and_eq_true, decide_eq_true_eq, decide_eq_true_eq] at z; exact z))] at eq
          rw [eq] at q
          by_cases c2 : 2 ≤ i
          · rw [decide_eq_true c2]
            refine iteT ⟨i, 9, rfl, rfl, _, rfl, ?_⟩
            rw [decide_eq_false (show ¬ i ≤ 9 from fun z => c ⟨c2, z⟩)]
            exact iteT q
          · rw [decide_eq_false c2]
            exact iteF ⟨_, rfl, iteT q⟩
      · rw [if_neg (by show ¬ false = true; decide)] at eq
        rw [eq] at q
        refine iteF ⟨_, rfl, 2, _, rfl, nve, _, rfl, ?_⟩
        cases b with
        | true => exact iteF ⟨_, rfl, iteT q⟩
        | false => exact iteF ⟨_, rfl, iteT q⟩
      · rw [ge, if_neg (by decide)] at eq
        rw [eq] at q
        rw [nn]
        exact iteT (iteT q)
    case f2 =>
    rintro σ S ⟨pr, y2, rfl, rfl, eq⟩
    rw [lx, List.drop_length, shpL] at eq
    rw [eq] at q
    exact ⟨_, rfl, pr, 16, rfl, rfl, q⟩
end
end SfM
namespace SfM
open PySem PySem.Spec PyProof.Rows L2 SfG SfC
/-! ### the fault of any thing that should be a making -/
abbrev nMF : List Str := ["face", "thing", "hidden", "deeds", "shapes", "bodies", "counts", "number", "shape", "name", "takes", "gives"]
theorem scMFault : FnScope nMF ["face", "thing"] (defScope sMFault) := ⟨rfl, rfl, rfl, by decide +kernel, rfl, by decide +kernel, by decide +kernel⟩
abbrev wSh : Str := "shapes"
abbrev wBd : Str := "bodies"
/-- where a name stands -/
def posS : List Str → Str → Nat
  | [], _ => 0
  | a :: r, s => if a = s then 0 else posS r s + 1
theorem pos_at : ∀ {l : List Str} {s : Str}, s ∈ l → l[posS l s]? = some s
  | a :: r, s, h => by
    by_cases e : a = s
    · rw [posS, if_pos e, e]
      rfl
    · rw [posS, if_neg e]
      rcases List.mem_cons.mp h with z | z
      · exact absurd z.symm e
      · exact pos_at z
theorem pos_first : ∀ {l : List Str} {s : Str} {m : Nat}, m < posS l s → l[m]? ≠ some s
  | [], s, m, h => by
    cases h
  | a :: r, s, 0, h => by
    intro z
    rw [posS, if_pos (Option.some.inj z)] at h
    cases h
  | a :: r, s, m + 1, h => by
    by_cases e : a = s
    · rw [posS, if_pos e] at h
      cases h
    · rw [posS, if_neg e] at h
      exact pos_first (l := r) (by omega)
theorem pos_eq {l : List Str} {s : Str} {j : Nat} (up : l.Pairwise lt) (h : l[j]? = some s) : posS l s = j := by
  have h1 := pos_at (List.mem_of_getElem? h)
  have n1 : ¬ posS l s < j := fun z => by
    obtain ⟨a1, e1⟩ := List.getElem?_eq_some_iff.mp h1
    obtain ⟨a2, e2⟩ := List.getElem?_eq_some_iff.mp h
    have := List.pairwise_iff_getElem.mp up _ _ a1 a2 z
    rw [e1, e2] at this
    exact List.lt_irrefl _ this
  have n2 : ¬ j < posS l s := fun z => pos_first z h
  omega
/-- how many fields a kind has -/
def cntK (hd : List Str) (ls : List Nat) : Kn → Nat
  | .h s => ls.getD (posS hd s) 1
  | .p _ => 1
def lenD : PyData → Nat
  | .tuple ds => ds.length
  | _ => 0
def shsL : List PyData → Nat → Option Nat
  | [], _ => none
  | d :: r, i => if shpB d = true then shsL r (i + 1) else some i
def bdsL (hd : List Str) (ls : List Nat) : List De → List PyData → Nat → Option Nat
  | e :: es, b :: bs, i => if lbb (e.tk.map (cntK hd ls)) (cntK hd ls e.gv) 8 b 60 < 0 then some i else bdsL hd ls es bs (i + 1)
  | _, _, _ => none
def mfl3 (f : Fc) (ss bs : List PyData) : Option (Option Str × Option Nat) := match shsL ss 0 with
  | some i => some (some wSh, some i)
  | none => (bdsL f.hd (ss.map lenD) f.ds bs 0).map fun i => (some wBd, some i)
def mfl2 (f : Fc) (a b : PyData) : Option (Option Str × Option Nat) := match a with
  | .tuple ss => if ss.length = f.hd.length then (match b with
    | .tuple bs => if bs.length = f.ds.length then mfl3 f ss bs else some (some wBd, none)
    | _ => some (some wBd, none)) else some (some wSh, none)
  | _ => some (some wSh, none)
/-- the fault of a thing -/
def mfl (f : Fc) (d : PyData) : Option (Option Str × Option Nat) := match d with
  | .tuple [a, b] => mfl2 f a b
  | _ => some (none, none)
def ovS : Option Str → V
  | none => .non
  | some z => .str z
def ovN : Option Nat → V
  | none => .non
  | some n => .int (n : Nat)
theorem mfl_no {f : Fc} {d : PyData} (h : (tyD d == "tuple") = false) : mfl f d = some (none, none) := by
  cases d with
  | tuple _ => exact absurd h (by show ¬ ("tuple" == "tuple") = false; decide)
  | _ => rfl
theorem mfl_len {f : Fc} {ds : List PyData} (h : ds.length ≠ 2) : mfl f (.tuple ds) = some (none, none) := by
  match ds, h with
  | [], _ => rfl
  | [_], _ => rfl
  | [_, _], h => exact absurd rfl h
  | _ :: _ :: _ :: _, _ => rfl
theorem mfl2_no {f : Fc} {a b : PyData} (h : (tyD a == "tuple") = false) : mfl2 f a b = some (some wSh, none) := by
  cases a with
  | tuple _ => exact absurd h (by show ¬ ("tuple" == "tuple") = false; decide)
  | _ => rfl
/-- what counts tells of the first i kinds -/
def CtI (hd : List Str) (ls : List Nat) (i : Nat) (kvs : List (Key × V)) : Prop :=
  (∀ n : Int, valV kvs (Sum.inl n) = none) ∧ (∀ (j : Nat) (s : Str) (n : Nat), j < i → hd[j]? = some s → ls[j]? = some n → valV kvs (Sum.inr s) = some (.int (n : Nat)))
theorem CtI.put {hd : List Str} {ls : List Nat} {i : Nat} {kvs : List (Key × V)} (up : hd.Pairwise lt) (h : CtI hd ls i kvs) {s : Str} {n : Nat} (hs : hd[i]? = some s) (hn : ls[i]? = some n) : CtI hd ls (i + 1) (putK kvs (Sum.inr s) (.int (n : Nat))) := by
  refine ⟨fun m => ?_, fun j t m hj ht hm => ?_⟩
  · rw [valV_put, if_neg (fun z => by cases z)]
    exact h.1 m
  · rw [valV_put]
    by_cases e : j = i
    · subst e
      have e1 : t = s := Option.some.inj (ht.symm.trans hs)
      have e2 : m = n := Option.some.inj (hm.symm.trans hn)
      rw [e1, e2, if_pos rfl]
    · rw [if_neg (fun z => ?_)]
      · exact h.2 j t m (by omega) ht hm
      · have z' : t = s := Sum.inr.inj z
        rw [z'] at ht
        have a1 := pos_eq up ht
        have a2 := pos_eq up hs
        omega
theorem CtI.get {hd : List Str} {ls : List Nat} {kvs : List (Key × V)} (hl : ls.length = hd.length) (h : CtI hd ls hd.length kvs) {k : Kn} (hk : goK hd k) : (valV kvs (kkey k)).getD (.int 1) = .int ((cntK hd ls k : Nat) : Int) := by
  cases k with
  | p n =>
    show (valV kvs (Sum.inl n)).getD _ = _
    rw [h.1 n]
    rfl
  | h s =>
    have hk' : s ∈ hd := hk
    have h1 := pos_at hk'
    have li : posS hd s < hd.length := (List.getElem?_eq_some_iff.mp h1).1
    have h2 : ls[posS hd s]? = some (ls[posS hd s]'(by omega)) := List.getElem?_eq_getElem _
    show (valV kvs (Sum.inr s)).getD _ = .int ((ls.getD (posS hd s) 1 : Nat) : Int)
    rw [h.2 _ s _ li h1 h2, List.getD_eq_getElem?_getD, h2]
    rfl
theorem mfl2_b {f : Fc} {ss : List PyData} {b : PyData} (hl : ss.length = f.hd.length) (h : (tyD b == "tuple") = false) : mfl2 f (.tuple ss) b = some (some wBd, none) := by
  show (if ss.length = f.hd.length then _ else _) = _
  rw [if_pos hl]
  cases b with
  | tuple _ => exact absurd h (by show ¬ ("tuple" == "tuple") = false; decide)
  | _ => rfl
theorem mfl2_t {f : Fc} {ss bs : List PyData} (hl : ss.length = f.hd.length) : mfl2 f (.tuple ss) (.tuple bs) = if bs.length = f.ds.length then mfl3 f ss bs else some (some wBd, none) := by
  show (if ss.length = f.hd.length then _ else _) = _
  rw [if_pos hl]
theorem bds_nil {hd : List Str} {ls : List Nat} (bs : List PyData) (i : Nat) : bdsL hd ls [] bs i = none := by cases bs <;> rfl
theorem shp_tup {d : PyData} (h : shpB d = true) : ∃ es, d = .tuple es := by
  cases d with
  | tuple es => exact ⟨es, rfl⟩
  | _ => cases h
section
variable {P : Program} {w : World} {K : PySem.W.Frag} {mg : Str → Option Value} {base : Heap}
/-- any thing; a tuple has no dict in it -/
def Mx (K : PySem.W.Frag) (H : Hp) (y : V) (d : PyData) : Prop := Dx K H y d ∧ ∀ ds, d = .tuple ds → Dp K H y d
def spMF (K : PySem.W.Frag) : Sp := fun vs H Q _ => ∃ (x y : V) (f : Fc) (d : PyData), vs = [x, y] ∧ Dp K H x f.d ∧ goF f ∧ Mx K H y d ∧ (mfl f d = none → ∀ H', Gr H H' → Q .non H') ∧ (∀ a b, mfl f d = some (a, b) → ∀ H' t, Gr H H' → H' t = some (.tup [ovS a, ovN b]) → Q (.ref t) H')
set_option maxHeartbeats 4000000 in
theorem ok_mfault {f fS fB : Addr} {fd fdS fdB : FuncData} {t60 t8 : Tok} (F : Fun K "making_fault" "making_fault" sMFault f fd) (HS : Has P w K mg base 18 "is_shape" ["thing"] (spShape K) fS fdS)
    (HB : Has P w K mg base 18 "left_by_body" ["thing", "takes", "counts", "many", "deep", "left"] (spLbb K 8) fB fdB) (mi : mg "isinstance" = none) (mt : mg "tuple" = none) (ml : mg "len" = none) (me : mg "enumerate" = none)
    (m60 : mg "MOST_PARTS" = some (.int 60 t60)) (m8 : mg "MOST_DEEP" = some (.int 8 t8)) :
    FnOk P w K mg base CX0 19 f fd ["face", "thing"] (spMF K) := by
  refine F.ok scMFault (fun vs H Q E h => ?_) (fun cdv A outer s H vs Q E hr h => ?_)
  · obtain ⟨x, y, f, d, rfl, _⟩ := h
    rfl
  · obtain ⟨x, y, f, d, rfl, hx, go, ⟨hy, hyp⟩, qn, qs⟩ := h
    have nd := scMFault.nd
    refine' ⟨_, pss_cons ?s1 (pss_cons ?s2 (pss_cons ?s3 (pss_cons ?s4 (pss_cons ?s5 (pss_cons ?s6 (pss_cons ?s7 (pss_cons ?s8 (pss_one ?s9)))))))), ?rd⟩
    case s1 => exact ps_if (PW.pt (pw_or (pt_not (pt_val (pe_isi "tuple" 1 mi mt (by decide +kernel)))) (pw_or1 (pt_cmpR op_ne (pe_callB call_len_seq (by rfl) ml PySem.boot_len (pa_cons (pv 1) pa_nil)) pe_int (nomark _))))) (pss_one (ps_ret (pe_tup (pa_cons pe_non (pa_cons pe_non pa_nil))))) pss_nil
    case s2 => exact ps_asg (pv 0) (pg_tup rfl (pgs_cons (pg_name (i := 2) nd rfl (.inl rfl)) (pgs_cons (pg_name (i := 3) nd rfl (.inl rfl)) pgs_nil)))
    case s3 => exact ps_asg (pv 1) (pg_tup rfl (pgs_cons (pg_name (i := 4) nd rfl (.inl rfl)) (pgs_cons (pg_name (i := 5) nd rfl (.inl rfl)) pgs_nil)))
    case s4 => exact ps_if (PW.pt (pw_or (pt_not (pt_val (pe_isi "tuple" 4 mi mt (by decide +kernel)))) (pw_or1 (pt_cmpR op_ne (pe_callB call_len_seq (by rfl) ml PySem.boot_len (pa_cons (pv 4) pa_nil)) (pe_callB call_len_seq (by rfl) ml PySem.boot_len (pa_cons (pv 2) pa_nil)) (nomark _))))) (pss_one (ps_ret (pe_tup (pa_cons pe_str (pa_cons pe_non pa_nil))))) pss_nil
    case s5 => exact ps_if (PW.pt (pw_or (pt_not (pt_val (pe_isi "tuple" 5 mi mt (by decide +kernel)))) (pw_or1 (pt_cmpR op_ne (pe_callB call_len_seq (by rfl) ml PySem.boot_len (pa_cons (pv 5) pa_nil)) (pe_callB call_len_seq (by rfl) ml PySem.boot_len (pa_cons (pv 3) pa_nil)) (nomark _))))) (pss_one (ps_ret (pe_tup (pa_cons pe_str (pa_cons pe_non pa_nil))))) pss_nil
    case s6 => exact ps_set (i := 6) nd rfl (.inl rfl) pe_dnewK
    case s7 =>
      exact ps_for PassesOwn.never rfl (pi_enumT (by rfl) me (pa_cons (pv 4) pa_nil)) (pg_tup rfl (pgs_cons (pg_name (i := 7) nd rfl (.inl rfl)) (pgs_cons (pg_name (i := 8) nd rfl (.inl rfl)) pgs_nil)))
        (pss_cons (ps_if (pt_not (pt_val (hcall HS hr (pa_cons (pv 8) pa_nil)))) (pss_one (ps_ret (pe_tup (pa_cons pe_str (pa_cons (pv 7) pa_nil))))) pss_nil)
        (pss_one (ps_dput (hu_of hr) (pv 6) (pe_ix ix_tup (pv 2) (pv 7) (fun _ _ => rfl)) (pe_callB call_len_seq (by rfl) ml PySem.boot_len (pa_cons (pv 8) pa_nil)) rfl)))
    case s8 =>
      exact ps_for PassesOwn.never rfl (pi_enumT (by rfl) me (pa_cons (pv 3) pa_nil)) (pg_tup rfl (pgs_cons (pg_name (i := 7) nd rfl (.inl rfl)) (pgs_cons (pg_tup rfl (pgs_cons (pg_name (i := 9) nd rfl (.inl rfl)) (pgs_cons (pg_name (i := 10) nd rfl (.inl rfl)) (pgs_cons (pg_name (i := 11) nd rfl (.inl rfl)) pgs_nil)))) pgs_nil)))
        (pss_one (ps_if (pt_cmpR op_lt (hcall HB hr (pa_cons (pe_ix ix_tup (pv 5) (pv 7) (fun _ _ => rfl)) (pa_cons (pv 10) (pa_cons (pv 6) (pa_cons (pe_dget2 (hu_of hr) (pv 6) (pv 11) pe_int ⟨rfl, rfl, rfl, rfl⟩) (pa_cons (pe_glob (v := .int 8) rfl m8 ⟨_, rfl⟩) (pa_cons (pe_glob (v := .int 60) rfl m60 ⟨_, rfl⟩) pa_nil))))))) pe_int (nomark _))
          (pss_one (ps_ret (pe_tup (pa_cons pe_str (pa_cons (pv 7) pa_nil))))) pss_nil))
    case s9 => exact ps_ret pe_non
    case rd =>
    have ty1 : ∀ l : List PyData, (tyD (.tuple l) == "tuple") = true := fun l => by show ("tuple" == "tuple") = true; decide
    have hI := dx_is hy
    refine ⟨_, rfl, _, _, hI.1, kit_tuple _ hI.2, _, rfl, ?_⟩
    rcases tup_is d with h1 | ⟨ds, rfl⟩
    · rw [h1]
      exact iteT (iteT ⟨by show 2 ≤ sizeLine; decide, fun t nt => qs none none (mfl_no h1) _ t (Gr.new nt) upd_same⟩)
    rw [ty1]
    have hd := hyp ds rfl
    clear hy hyp hI
    obtain ⟨p, xs, rfl, hp, hxs⟩ := dp_tup hd
    have lx := dpA_len hxs
    refine iteF ⟨_, rfl, p, _, rfl, .inr hp, rfl, _, rfl, ?_⟩
    by_cases l2 : ds.length = 2
    case neg =>
      rw [decide_eq_false (fun z => l2 (by have := V.int.inj z; omega))]
      exact iteT ⟨by show 2 ≤ sizeLine; decide, fun t nt => qs none none (mfl_len l2) _ t (Gr.new nt) upd_same⟩
    obtain ⟨da, db, rfl⟩ : ∃ a b, ds = [a, b] := by
      match ds, l2 with
      | [a, b], _ => exact ⟨a, b, rfl⟩
    obtain ⟨xa, xr, rfl, ha, hxr⟩ := dpA_cons hxs
    obtain ⟨xb, xr, rfl, hb, hxr⟩ := dpA_cons hxr
    cases dpA_nil hxr
    obtain ⟨pf, ph, pd, fxs, rfl, hpf, hph, hpd, dd⟩ := dp_face hx
    have lf : fxs.length = f.ds.length := by
      have := dpA_len dd
      rw [List.length_map] at this
      exact this
    refine iteF ⟨_, rfl, pf, _, rfl, hpf, rfl, _, _, rfl, _, _, rfl, rfl, ?_⟩
    refine ⟨_, rfl, p, _, rfl, hp, rfl, _, _, rfl, _, _, rfl, rfl, ?_⟩
    have hIa := dp_is ha
    refine ⟨_, rfl, _, _, hIa.1, kit_tuple _ hIa.2, _, rfl, ?_⟩
    rcases tup_is da with h1 | ⟨ss, rfl⟩
    · rw [h1]
      exact iteT (iteT ⟨by show 2 ≤ sizeLine; decide, fun t nt => qs (some wSh) none (mfl2_no h1) _ t (Gr.new nt) upd_same⟩)
    rw [ty1]
    obtain ⟨pa, ys, rfl, hpa, hys⟩ := dp_tup ha
    have ly := dpA_len hys
    refine iteF ⟨_, rfl, pa, _, rfl, .inr hpa, _, rfl, ph, _, rfl, .inr hph, rfl, _, rfl, ?_⟩
    by_cases ls : ss.length = f.hd.length
    case neg =>
      rw [decide_eq_false (fun z => ls (by have := V.int.inj z; rw [List.length_map] at this; omega))]
      exact iteT ⟨by show 2 ≤ sizeLine; decide, fun t nt => qs (some wSh) none (by show mfl2 f (.tuple ss) db = _; show (if _ then _ else _) = _; rw [if_neg ls]) _ t (Gr.new nt) upd_same⟩
    rw [decide_eq_true (show V.int ((ys.length : Nat) : Int) = V.int (((f.hd.map V.str).length : Nat) : Int) by rw [List.length_map, ly, ls])]
    refine iteF ?_
    have hIb := dp_is hb
    refine ⟨_, rfl, _, _, hIb.1, kit_tuple _ hIb.2, _, rfl, ?_⟩
    rcases tup_is db with h1 | ⟨bs, rfl⟩
    · rw [h1]
      exact iteT (iteT ⟨by show 2 ≤ sizeLine; decide, fun t nt => qs (some wBd) none (mfl2_b ls h1) _ t (Gr.new nt) upd_same⟩)
    rw [ty1]
    obtain ⟨pb, zs, rfl, hpb, hzs⟩ := dp_tup hb
    have lz := dpA_len hzs
    have e2 : mfl f (.tuple [.tuple ss, .tuple bs]) = if bs.length = f.ds.length then mfl3 f ss bs else some (some wBd, none) := mfl2_t ls
    refine iteF ⟨_, rfl, pb, _, rfl, .inr hpb, _, rfl, pd, _, rfl, .inr hpd, rfl, _, rfl, ?_⟩
    by_cases lb : bs.length = f.ds.length
    case neg =>
      rw [decide_eq_false (fun z => lb (by have := V.int.inj z; omega))]
      exact iteT ⟨by show 2 ≤ sizeLine; decide, fun t nt => qs (some wBd) none (by rw [e2, if_neg lb]) _ t (Gr.new nt) upd_same⟩
    rw [decide_eq_true (show V.int ((zs.length : Nat) : Int) = V.int ((fxs.length : Nat) : Int) by rw [lz, lb, lf])]
    rw [if_pos lb] at e2
    rw [e2] at qn qs
    clear e2 hIa hIb hd
    refine iteF (fun ct nct => ?_)
    have g1 : Gr H (upd H ct (.dK [])) := Gr.new nct
    have e1 : upd H ct (.dK []) ct = some (.dK []) := upd_same
    generalize upd H ct (.dK []) = H1 at g1 e1 ⊢
    have hi2 := go.hid.hi
    refine ⟨_, rfl, pa, _, rfl, g1.sqt hpa, for_it (walk_enumT (xs := ys)) (fun i σ S => ∃ (y7 y8 : Option V) (kvs : List (Key × V)), σ = [some (.ref pf), some (.ref p), some (.ref ph), some (.ref pd), some (.ref pa), some (.ref pb), some (.ref ct), y7, y8, none, none, none] ∧
      S ct = some (.dK kvs) ∧ kvs.length ≤ i ∧ CtI f.hd (ss.map lenD) i kvs ∧ Gr H S ∧ shsL ss 0 = shsL (ss.drop i) i) ⟨none, none, [], rfl, e1, Nat.le_refl _, ⟨fun _ => rfl, fun _ _ _ h => absurd h (Nat.not_lt_zero _)⟩, g1, rfl⟩ ?h1 ?h2 ?h3⟩
    case h1 =>
      rintro i σ S hi ⟨y7, y8, kvs, rfl, ec, lk, cI, g, eq⟩
      exact g.sqt hpa
    case h2 =>
      rintro i v σ S S' hi ⟨y7, y8, kvs, rfl, ec, lk, cI, g, eq⟩ ⟨T, a, b, rfl, nT, rfl, hna, hnb⟩
      cases hna
      obtain ⟨de, hde, hdy⟩ := dpA_at hys hnb
      rw [drop_at hde, shsL] at eq
      have g2 : Gr H (upd S T (.tup [.int (i : Nat), b])) := g.trans (Gr.new nT)
      have hT : upd S T (.tup [.int (i : Nat), b]) T = some (.tup [.int (i : Nat), b]) := upd_same
      have ec2 := (Gr.new (o := .tup [.int (i : Nat), b]) nT).dic ec
      generalize upd S T (.tup [.int (i : Nat), b]) = S2 at g2 hT ec2 ⊢
      have hdy2 := g2.kd.dp hdy
      refine ⟨T, _, rfl, .inl (.inl hT), rfl, _, _, rfl, _, _, rfl, rfl, ?_⟩
      refine ⟨_, rfl, b, de, rfl, hdy2, ?_⟩
      cases hs : shpB de with
      | false =>
        rw [if_neg (by rw [hs]; decide)] at eq
        exact ⟨_, rfl, iteT ⟨_, rfl, by show 2 ≤ sizeLine; decide, fun t nt => qs (some wSh) (some i) (by unfold mfl3; rw [eq]) _ t (g2.trans (Gr.new nt)) upd_same⟩⟩
      | true =>
        rw [if_pos hs] at eq
        obtain ⟨es, rfl⟩ := shp_tup hs
        obtain ⟨pe, ws, rfl, hpe, hws⟩ := dp_tup hdy2
        have lw := dpA_len hws
        have is_ : i < f.hd.length := by have := lt_of_at hde; omega
        have hn : f.hd[i]? = some f.hd[i] := List.getElem?_eq_getElem is_
        generalize f.hd[i] = nm at hn
        have hl : (ss.map lenD)[i]? = some es.length := by rw [List.getElem?_map, hde]; rfl
        refine ⟨_, rfl, iteF ⟨_, rfl, pe, _, rfl, .inr hpe, _, rfl, _, rfl, _, rfl, ph, _, _, _, rfl, rfl, g2.sqt hph, atI_nat (by rw [List.getElem?_map, hn]; rfl), ct, _, rfl, DPut.k (k := Sum.inr nm) ec2 (SfC.small1000 (by omega)), ?_⟩⟩
        refine ⟨_, _, putK kvs (Sum.inr nm) (.int ((ws.length : Nat) : Int)), rfl, upd_same, ?_, ?_, g2.upd_new nct, eq⟩
        · have := length_putK kvs (Sum.inr nm) (V.int ((ws.length : Nat) : Int))
          omega
        · rw [lw]
          exact cI.put go.hid.up hn hl
    case h3 =>
    rintro σ S ⟨y7, y8, kvs, rfl, ec, lk, cI, g, eq⟩
    rw [ly, List.drop_length, shsL] at eq
    rw [ly, ls] at cI
    have e3 : mfl3 f ss bs = (bdsL f.hd (ss.map lenD) f.ds bs 0).map fun i => (some wBd, some i) := by
      unfold mfl3
      rw [eq]
    rw [e3] at qn qs
    refine ⟨_, rfl, pd, _, rfl, g.sqt hpd, for_it (walk_enumT (xs := fxs)) (fun i σ S => ∃ (y7 y9 y10 y11 : Option V), σ = [some (.ref pf), some (.ref p), some (.ref ph), some (.ref pd), some (.ref pa), some (.ref pb), some (.ref ct), y7, y8, y9, y10, y11] ∧
      S ct = some (.dK kvs) ∧ Gr H S ∧ bdsL f.hd (ss.map lenD) f.ds bs 0 = bdsL f.hd (ss.map lenD) (f.ds.drop i) (bs.drop i) i) ⟨_, _, _, _, rfl, ec, g, rfl⟩ ?k1 ?k2 ?k3⟩
    case k1 =>
      rintro i σ S hi ⟨y7, y9, y10, y11, rfl, ec, g, eq⟩
      exact g.sqt hpd
    case k3 =>
      rintro σ S ⟨y7, y9, y10, y11, rfl, ec, g, eq⟩
      rw [lf, List.drop_length, bds_nil] at eq
      exact qn (by rw [eq]; rfl) S g
    case k2 =>
      rintro i v σ S S' hi ⟨y7, y9, y10, y11, rfl, ec, g, eq⟩ ⟨T, a, b, rfl, nT, rfl, hna, hnb⟩
      cases hna
      obtain ⟨e, he, hde⟩ := dpA_de dd hnb
      have ib : i < bs.length := by have := lt_of_at he; omega
      have hbb : bs[i]? = some bs[i] := List.getElem?_eq_getElem ib
      generalize bs[i] = bd at hbb
      obtain ⟨xbd, hxb, dbd⟩ := dpA_get hzs hbb
      rw [drop_at he, drop_at hbb, bdsL] at eq
      have ge := go.ok e (List.mem_of_getElem? he)
      have g2 : Gr H (upd S T (.tup [.int (i : Nat), b])) := g.trans (Gr.new nT)
      have hT : upd S T (.tup [.int (i : Nat), b]) T = some (.tup [.int (i : Nat), b]) := upd_same
      have ec2 := (Gr.new (o := .tup [.int (i : Nat), b]) nT).dic ec
      generalize upd S T (.tup [.int (i : Nat), b]) = S2 at g2 hT ec2 ⊢
      obtain ⟨pe, n1, t1, v1, rfl, hpe, dn, dt, dg⟩ := dp_3 (g2.kd.dp hde)
      cases dp_str dn
      cases dp_kn dg
      obtain ⟨pt, ts, rfl, hpt, hts⟩ := dp_tup dt
      cases dpA_kns hts
      have tc : TC K S2 pt ct (e.tk.map (cntK f.hd (ss.map lenD))) := ⟨⟨e.tk, hpt, by rw [List.length_map], kvs, ec2, fun j k c hk hc => by
        rw [List.getElem?_map, hk] at hc
        cases hc
        exact cI.get (by rw [List.length_map, ls]) (ge.tk k (List.mem_of_getElem? hk))⟩⟩
      refine ⟨T, _, rfl, .inl (.inl hT), rfl, _, _, rfl, _, _, rfl, pe, _, rfl, hpe, rfl, _, _, rfl, _, _, rfl, _, _, rfl, rfl, rfl, ?_⟩
      refine ⟨_, rfl, _, rfl, pb, _, _, _, rfl, rfl, g2.sqt hpb, atI_nat hxb, _, rfl, _, rfl, _, rfl, ct, rfl, .inl ⟨_, .inl ec2⟩, _, rfl, _, kn_key e.gv ▸ DGet.k (k := kkey e.gv) ec2, ?_⟩
      refine ⟨xbd, bd, pt, ct, _, cntK f.hd (ss.map lenD) e.gv, 7, 60, by rw [cI.get (by rw [List.length_map, ls]) ge.gv]; rfl, g2.kd.dp dbd, tc, Nat.le_refl _, ?_⟩
      refine ⟨_, 0, rfl, rfl, _, rfl, ?_⟩
      by_cases hneg : lbb (e.tk.map (cntK f.hd (ss.map lenD))) (cntK f.hd (ss.map lenD) e.gv) (7 + 1) bd 60 < 0
      · rw [if_pos hneg] at eq
        rw [decide_eq_true hneg]
        exact iteT ⟨_, rfl, by show 2 ≤ sizeLine; decide, fun t nt => qs (some wBd) (some i) (by rw [eq]; rfl) _ t (g2.trans (Gr.new nt)) upd_same⟩
      · rw [if_neg hneg] at eq
        rw [decide_eq_false hneg]
        exact iteF ⟨_, _, _, _, rfl, ec2, g2, eq⟩
end
end SfM
namespace SfC
open PySem PySem.Spec PyProof.Rows L2 SfG
/-! ### shown -/
/-- what a refusal's field may be -/
def Shn (v : V) : Prop := v = .non ∨ (∃ i, v = .int i) ∨ ∃ z : Str, v = .str z ∧ z.length ≤ 1000
def rStrX : List V → Hp → VK → Prop := fun xs H Q => (∃ a, xs = [.str a] ∧ Q (.str a) H) ∨ ∃ i : Int, xs = [.int i] ∧ i.natAbs.log2 < 1920 ∧ Q (.str (toString i)) H
theorem call_strX {X : Cx} : CallR X (.type "str") rStrX := by
  intro pins s σ H xs us Q I r h
  rcases h with h | h
  · exact SkE.call_str_str pins s σ H xs us Q I r h
  · exact call_str_int pins s σ H xs us Q I r h
theorem boot_isi : bootBuiltins "isinstance" = some (.builtin "isinstance") := by decide +kernel
theorem scShown : FnScope ["field"] ["field"] (defScope sShown) := ⟨rfl, rfl, rfl, by decide +kernel, rfl, by decide +kernel, by decide +kernel⟩
section
variable {P : Program} {w : World} {K : PySem.W.Frag} {mg : Str → Option Value} {base : Heap}
def spShown : Sp := fun vs H Q _ => ∃ x : V, vs = [x] ∧ Shn x ∧ ∀ (S : Str) H', Gr H H' → S.length ≤ 1100 → Q (.str S) H'
theorem ok_shown {f : Addr} {fd : FuncData} {k : Nat} (F : Fun K "shown" "shown" sShown f fd) (mi : mg "isinstance" = none) (mn : mg "int" = none) (ms : mg "str" = none) :
    FnOk P w K mg base CX0 (k + 1) f fd ["field"] spShown := by
  refine F.ok scShown (fun vs H Q E h => ?_) (fun cdv A outer s H vs Q E hr h => ?_)
  · obtain ⟨x, rfl, _⟩ := h
    rfl
  · obtain ⟨x, rfl, hx, q⟩ := h
    have nd := scShown.nd
    refine' ⟨_, pss_cons ?s1 (pss_cons ?s2 (pss_one ?s3)), ?rd⟩
    case s1 =>
      exact ps_if (PW.pt (pw_and (pt_val (pe_isi "int" 0 mi mn (by decide +kernel))) (pw_and1 (pt_not (pt_chain op_lt op_lt (pe_un un_neg pe_int) (pv 0) pe_int))))) (pss_one (ps_ret pe_str)) pss_nil
    case s2 =>
      exact ps_if (pt_val (pe_callB call_isiT (by rfl) mi boot_isi (pa_cons (pv 0) (pa_cons (pe_tup (pa_cons (pe_bltn (v := .ty "int") (by rfl) mn (by decide +kernel) rfl) (pa_cons (pe_bltn (v := .ty "str") (by rfl) ms (by decide +kernel) rfl) pa_nil))) pa_nil))))
        (pss_one (ps_ret (pe_callTy call_strX (by rfl) ms (by decide +kernel) (pa_cons (pv 0) pa_nil)))) pss_nil
    case s3 => exact ps_ret (pe_ifExp (pt_cmpR op_isN (pv 0) pe_non (nomark _)) pe_str pe_str)
    case rd =>
    have two : ∀ t, H t = none → upd H t (.tup [.ty "int", .ty "str"]) t = some (.tup [.ty "int", .ty "str"]) := fun t _ => upd_same
    rcases hx with rfl | ⟨i, rfl⟩ | ⟨z, rfl, hz⟩
    · refine ⟨.non, rfl, _, _, (is_non (K := K) (H := H)).1, kit_int _ (is_non (K := K) (H := H)).2, _, rfl, iteF ?_⟩
      refine ⟨_, rfl, by show 2 ≤ sizeLine; decide, fun t nt => ⟨.non, t, _, .type "NoneType", [.type "int", .type "str"], false, rfl, two t nt, .cons (.ty _) (.cons (.ty _) .nil), is_non.1, kitAny_cons (kit_ty (b := "int") (r := false) (by decide +kernel)) (fun _ => kitAny_cons (kit_ty (b := "str") (r := false) (by decide +kernel)) (fun _ => kitAny_nil) (fun z => by cases z)) (fun z => by cases z), _, rfl, iteF ?_⟩⟩
      exact ⟨_, rfl, rfl, _, rfl, iteT (q _ _ (Gr.new nt) (by decide +kernel))⟩
    · refine ⟨.int i, rfl, _, _, (is_int i).1, kit_int _ (is_int (K := K) (H := H) i).2, _, rfl, iteT ?_⟩
      have go : (-1000 < i ∧ i < 1000) → ∀ t, H t = none → Q (.str (toString i)) (upd H t (.tup [.ty "int", .ty "str"])) := fun h t nt => by
        refine q _ _ (Gr.new nt) ?_
        have e := int_text_length_le (k := 12) (a := i) (by decide) (by
          by_cases c : i.natAbs = 0
          · rw [c]
            decide
          · refine (Nat.log2_lt c).mpr ?_
            have : (2 : Nat) ^ 12 = 4096 := by decide
            omega)
        show (Str.ofString (toString i)).length ≤ 1100
        rw [PySem.ofString_length]
        omega
      have lg : (-1000 < i ∧ i < 1000) → i.natAbs.log2 < 1920 := fun h => by
        by_cases c : i.natAbs = 0
        · rw [c]
          decide
        · refine Nat.lt_of_lt_of_le ((Nat.log2_lt (k := 10) c).mpr ?_) (by decide)
          have : (2 : Nat) ^ 10 = 1024 := by decide
          omega
      refine ⟨1000, rfl, _, rfl, -1000, i, rfl, rfl, _, rfl, ite2 (fun e1 => ?_) (fun e1 => ?_)⟩
      · refine ⟨i, 1000, rfl, rfl, _, rfl, ?_⟩
        by_cases c2 : i < 1000
        · have hh : -1000 < i ∧ i < 1000 := ⟨of_decide_eq_true e1, c2⟩
          rw [decide_eq_true c2]
          refine iteF ⟨_, rfl, by show 2 ≤ sizeLine; decide, fun t nt => ⟨.int i, t, _, .type "int", [.type "int", .type "str"], true, rfl, two t nt, .cons (.ty _) (.cons (.ty _) .nil), (is_int i).1, kitAny_cons (kit_ty (b := "int") (r := true) (by decide +kernel)) (fun z => by cases z) (fun _ => rfl), _, rfl, iteT ?_⟩⟩
          exact ⟨_, rfl, .inr ⟨i, rfl, lg hh, go hh t nt⟩⟩
        · rw [decide_eq_false c2]
          exact iteT (q _ H (Gr.refl H) (by decide +kernel))
      · exact ⟨_, rfl, iteT (q _ H (Gr.refl H) (by decide +kernel))⟩
    · refine ⟨.str z, rfl, _, _, (is_str z).1, kit_int _ (is_str (K := K) (H := H) z).2, _, rfl, iteF ?_⟩
      refine ⟨_, rfl, by show 2 ≤ sizeLine; decide, fun t nt => ⟨.str z, t, _, .type "str", [.type "int", .type "str"], true, rfl, two t nt, .cons (.ty _) (.cons (.ty _) .nil), (is_str z).1, kitAny_cons (kit_ty (b := "int") (r := false) (by decide +kernel)) (fun _ => kitAny_cons (kit_ty (b := "str") (r := true) (by decide +kernel)) (fun z => by cases z) (fun _ => rfl)) (fun z => by cases z), _, rfl, iteT ?_⟩⟩
      exact ⟨_, rfl, .inl ⟨z, rfl, q _ _ (Gr.new nt) (by omega)⟩⟩
end
end SfC
namespace SfC
open PySem PySem.Spec PyProof.Rows L2 SfG
/-! ### refusals of two fields -/
def spIni (C : Addr) (f1 f2 : Str) : Sp := fun vs H Q _ => ∃ (a : Addr) (x y : V), vs = [.ref a, x, y] ∧ H a = some (exo a C none) ∧ Shn x ∧ Shn y ∧
  ∀ H1 dx, Gr H H1 → H1 dx = none → dx ≠ a → Q .non (upd (upd (upd H1 dx (exd dx [(f1, x)])) a (exo a C (some dx))) dx (exd dx [(f2, y), (f1, x)]))
/-- a class of refusals of two fields: where it stands, how it is made, what its fields are -/
structure Bad2 (P : Program) (w : World) (K : PySem.W.Frag) (mg : Str → Option Value) (base : Heap) (k : Nat) (x f1 f2 : Str) (C fI : Addr) (fd : FuncData) : Prop where
  T : OexC K C
  i : PySem.W.findIn K (.ref C) "__init__" = some (some (.ref fI))
  t : PySem.W.typeIn K (.ref fI) = some (.type "function")
  F : FnOk P w K mg base CX0 k fI fd ["self", f1, f2] (spIni C f1 f2)
  b : Binds K fd ["self", f1, f2] []
  g : mg x = some (.ref C)
theorem gr_made {H H1 : Hp} {a dx : Addr} {o o1 o2 o3 o4 : HO} (na : H a = none) (g : Gr (upd H a o) H1) (nd : H1 dx = none) (ne : dx ≠ a) (nt : ∀ ps, o ≠ .tbl ps) :
    Gr H (upd (del (upd (upd (upd H1 dx o1) a o2) dx o3) a) dx o4) := by
  have back : ∀ l, H1 l = none → H l = none := fun l h => by
    have := g.back l h
    by_cases e : l = a
    · rw [e]
      exact na
    · rw [upd_ne e] at this
      exact this
  have keep : ∀ b u, H b = some u → b ≠ a ∧ b ≠ dx := fun b u h => by
    refine ⟨ne_of_none h na, ?_⟩
    intro z
    have := back dx nd
    rw [← z, h] at this
    cases this
  have at_ : ∀ b, b ≠ a → b ≠ dx → upd (del (upd (upd (upd H1 dx o1) a o2) dx o3) a) dx o4 b = H1 b := fun b h1 h2 => by
    rw [upd_ne h2, del_ne h1, upd_ne h2, upd_ne h1, upd_ne h2]
  refine ⟨fun b u h n => ?_, fun P t => ?_, fun l h => ?_, fun P ps e => ?_⟩
  · obtain ⟨h1, h2⟩ := keep b u h
    rw [at_ b h1 h2]
    exact g.keep b u ((upd_ne h1).trans h) n
  · obtain ⟨ps, e, r⟩ := t
    obtain ⟨h1, h2⟩ := keep P _ e
    obtain ⟨ps', e', r'⟩ := g.tab P ⟨ps, (upd_ne h1).trans e, r⟩
    exact ⟨ps', (at_ P h1 h2).trans e', r'⟩
  · by_cases e1 : l = dx
    · rw [e1, upd_same] at h
      cases h
    · by_cases e2 : l = a
      · rw [e2]
        exact na
      · rw [at_ l e2 e1] at h
        exact back l h
  · obtain ⟨h1, h2⟩ := keep P _ e
    exact (at_ P h1 h2).trans (g.tbl P ps ((upd_ne h1).trans e))
/-- such a refusal, made -/
theorem made2 {C : Addr} {f1 f2 : Str} {x y : V} {H : Hp} {Q : XK} (hx : Shn x) (hy : Shn y) (q : ∀ d H', Gr H H' → H' d = some (.xd [(f2, y), (f1, x)]) → Q (.ref C) (some d) H') :
    ([x, y] : List V).length ≤ 1000 ∧ ∀ a, H a = none → spIni C f1 f2 (.ref a :: ([x, y] ++ [])) (upd H a (exo a C none))
      (fun v H2 => v = .non ∧ ∃ (d : Addr) (fs : List (Str × V)), H2 a = some (exo a C (some d)) ∧ H2 d = some (exd d fs) ∧ H d = none ∧ Q (.ref C) (some d) (upd (del H2 a) d (.xd fs))) (fun _ _ _ => False) := by
  refine ⟨by show 2 ≤ 1000; decide, fun a na => ⟨a, x, y, rfl, upd_same, hx, hy, fun H1 dx g nd ne => ⟨rfl, dx, _, ?_, upd_same, ?_, q dx _ (gr_made na g nd ne fun _ => exo_tbl) upd_same⟩⟩⟩
  · rw [upd_ne (Ne.symm ne), upd_same]
  · have := g.back dx nd
    rw [upd_ne ne] at this
    exact this
theorem app_len (a b : Str) : (a ++ b).length = a.length + b.length := by
  show (a.cps ++ b.cps).size = _
  exact Array.size_append
abbrev sFaceIni : Stmt := inClass sBadFace 0
theorem scFaceIni : SupScope ["self", "part", "number"] ["self", "part", "number"] (defScope sFaceIni) :=
  ⟨rfl, rfl, rfl, by decide +kernel, rfl, by decide +kernel, by decide +kernel, by decide +kernel, rfl, rfl⟩
section
variable {P : Program} {w : World} {K : PySem.W.Frag} {mg : Str → Option Value} {base : Heap}
/-- __init__ of BadFace -/
theorem ok_faceIni {f C cc cda fS : Addr} {fdS : FuncData} {k : Nat} {oc kV doc pm ct : Value} {od an : Option Addr} {osl : Array (Option Value)}
    (lk : K.lookup f = some ⟨oc, od, .func (PySem.W.ksFn "__init__" "BadFace.__init__" (defArgs sFaceIni) (defBody sFaceIni) (defScope sFaceIni) .none kV doc pm an (.ref cda) ct cc), osl⟩)
    (hcd : PySem.W.codeIn K (.ref cda) "BadFace.__init__" = true) (U : SupC P K mg C cc cda) (HS : Has P w K mg base (k + 1) "shown" ["field"] spShown fS fdS)
    (n1 : PySem.W.findIn K (.ref C) "part" = some none) (n2 : PySem.W.findIn K (.ref C) "number" = some none) :
    FnOk P w K mg base CX0 (k + 2) f (PySem.W.ksFn "__init__" "BadFace.__init__" (defArgs sFaceIni) (defBody sFaceIni) (defScope sFaceIni) .none kV doc pm an (.ref cda) ct cc) ["self", "part", "number"] (spIni C "part" "number") := by
  refine fn_super lk hcd scFaceIni U rfl rfl (fun vs H Q E h => ?_) (fun A outer s H vs Q E hr h => ?_) (fun _ => rfl) (fun _ => ⟨_, rfl⟩) (fun _ => rfl)
  · obtain ⟨a, x, y, rfl, _⟩ := h
    rfl
  · obtain ⟨a, x, y, rfl, ha, hx, hy, q⟩ := h
    refine ⟨a, [x, y], _, _, rfl, ha, pe_joined (.cons pe_str (.cons (pe_fmt (hcall HS hr (pa_cons (pv 1) pa_nil))) (.cons pe_str (.cons (pe_fmt (hcall HS hr (pa_cons (pv 2) pa_nil))) .nil)))), pss_cons (ps_ost (pv 0) (pv 1)) (pss_one (ps_ost (pv 0) (pv 2))), ?_⟩
    have e9 : (("no face: " : Str)).length = 9 := by decide +kernel
    have e2 : ((", " : Str)).length = 2 := by decide +kernel
    have ez : (Str.empty : Str).length = 0 := rfl
    refine ⟨_, rfl, ?_, _, rfl, x, rfl, hx, fun S1 H1 g1 l1 => .inl ⟨S1, rfl, by rw [sizeLine_eq]; omega, _, rfl, ?_, _, rfl, ?_, _, rfl, y, rfl, hy, fun S2 H2 g2 l2 => .inl ⟨S2, rfl, by rw [sizeLine_eq]; omega, _, rfl, ?_, ?_⟩⟩⟩
    · rw [app_len, ez, e9, sizeLine_eq]
      decide
    · rw [app_len, app_len, ez, e9, sizeLine_eq]
      omega
    · rw [app_len, app_len, app_len, ez, e9, e2, sizeLine_eq]
      omega
    · rw [app_len, app_len, app_len, app_len, ez, e9, e2, sizeLine_eq]
      omega
    · have g := g1.trans g2
      have ha2 : H2 a = some (exo a C none) := g.keep _ _ ha fun _ => exo_tbl
      refine ⟨ha2, ?_⟩
      refine ⟨_, rfl, _, rfl, a, C, rfl, U.T, n1, .inl ⟨ha2, fun dx nd ne => ?_⟩⟩
      refine ⟨_, rfl, _, rfl, a, C, rfl, U.T, n2, .inr ⟨dx, [("part", x)], upd_same, ?_, by show 1 ≤ 900; decide, q H2 dx g nd ne⟩⟩
      rw [upd_ne ne, upd_same]
end
end SfC
namespace SfC
open PySem PySem.Spec PyProof.Rows L2 SfG
/-! ### faces and what is none: names, kinds -/
/-- data that is not too great -/
abbrev Go (d : PyData) : Prop := Wt d 1000000 60
theorem Go.fit {z : Str} (h : Go (.str z)) : z.length ≤ sizeLine := by
  have := h.text
  rw [sizeLine_eq]
  omega
theorem Go.at {ds : List PyData} {i : Nat} {d : PyData} (h : Go (.tuple ds)) (e : ds[i]? = some d) : Go d := h.un.1.get e
theorem Go.mem {ds : List PyData} {d : PyData} (h : Go (.tuple ds)) (e : d ∈ ds) : Go d := by
  obtain ⟨i, hi⟩ := List.getElem?_of_mem e
  exact h.at hi
def nmD : PyData → Bool
  | .str z => isN z
  | _ => false
def knD (hd : List Str) : PyData → Bool
  | .str z => decide (z ∈ hd)
  | .int i => decide (2 ≤ i) && decide (i ≤ 9)
  | _ => false
def isS : PyData → Bool
  | .str _ => true
  | _ => false
/-- the first that can't be: no name, or one that doesn't rise behind the one ahead -/
def fbh (a : Str) (i : Nat) : List PyData → Option Nat
  | [] => none
  | .str z :: r => if (isN z && decide (lt a z)) = true then fbh z (i + 1) r else some i
  | _ :: _ => some i
def deD (hd : List Str) (a : Str) : PyData → Bool
  | .tuple [.str z, .tuple ks, g] => (isN z && decide (lt a z)) && (decide (ks.length ≤ 3) && (knD hd g && (ks.all (knD hd) && decide ((ks.filter isS).length ≤ 2))))
  | _ => false
def nmOf : PyData → Str
  | .tuple (.str z :: _) => z
  | _ => ""
def fbd (hd : List Str) (a : Str) (i : Nat) : List PyData → Option Nat
  | [] => none
  | d :: r => if deD hd a d = true then fbd hd (nmOf d) (i + 1) r else some i
def onV : Option Nat → V
  | none => .non
  | some n => .int (n : Int)
theorem isN_by (z : Str) : isN z = (decide ((z.length : Int) ≤ 8) && (Txt.isalpha z && (Txt.islower z && Txt.isascii z))) := by
  unfold isN
  rw [name_txt]
  have e : decide (z.length ≤ 8) = decide ((z.length : Int) ≤ 8) := by
    by_cases c : z.length ≤ 8
    · rw [decide_eq_true c, decide_eq_true (by omega)]
    · rw [decide_eq_false c, decide_eq_false (by omega)]
  rw [e]
theorem inV_strs {s : Str} {l : List Str} : inV (.str s) (l.map V.str) = decide (s ∈ l) := by
  by_cases h : s ∈ l
  · rw [decide_eq_true h]
    exact inV_mem h
  · rw [decide_eq_false h]
    unfold inV
    rw [List.any_map]
    refine List.any_eq_false.mpr fun y hy => ?_
    simp [eqV]
    intro e
    exact h (e ▸ hy)
section
variable {P : Program} {w : World} {K : PySem.W.Frag} {mg : Str → Option Value} {base : Heap}
def spNameX (K : PySem.W.Frag) : Sp := fun vs H Q _ => ∃ (x : V) (d : PyData), vs = [x] ∧ Dx K H x d ∧ Go d ∧ Q (.bl (nmD d)) H
theorem ok_nameX {f : Addr} {fd : FuncData} {k : Nat} (F : Fun K "is_name" "is_name" sName f fd) (mi : mg "isinstance" = none) (m1 : mg "str" = none) (ml : mg "len" = none) :
    FnOk P w K mg base CX0 (k + 1) f fd ["thing"] (spNameX K) := by
  refine F.ok scName (fun vs H Q E h => ?_) (fun cdv A outer s H vs Q E hr h => ?_)
  · obtain ⟨x, d, rfl, _⟩ := h
    rfl
  · obtain ⟨x, d, rfl, hx, hz, q⟩ := h
    have hI := dx_is hx
    refine ⟨_, pss_one (ps_ret (pe_and (pe_isi "str" 0 mi m1 (by decide +kernel))
      (pe_and (pe_cmpR op_le (pe_callB call_len_str (by rfl) ml PySem.boot_len (pa_cons (pv 0) pa_nil)) pe_int (nomark _))
      (pe_and (pe_m0 PySem.F.slot_str_isalpha PySem.F.type_str_isalpha mt_isalpha (pv 0))
      (pe_and (pe_m0 PySem.F.slot_str_islower PySem.F.type_str_islower mt_islower (pv 0))
      (pe_one (pe_m0 PySem.F.slot_str_isascii PySem.F.type_str_isascii mt_isascii (pv 0)))))))), ?_⟩
    refine ⟨x, rfl, _, _, hI.1, kit_str _ hI.2, _, rfl, ?_⟩
    cases d with
    | str z =>
      cases dx_str hx
      have q' : Q (.bl (isN z)) H := q
      rw [isN_by] at q'
      refine iteT ⟨_, rfl, z, rfl, hz.fit, _, 8, rfl, rfl, _, rfl, ?_⟩
      cases h1 : decide ((z.length : Int) ≤ 8) with
      | false =>
        rw [h1] at q'
        exact iteF q'
      | true =>
        rw [h1, Bool.true_and] at q'
        refine iteT ⟨_, rfl, ⟨z, rfl⟩, z, rfl, rfl, trivial, _, rfl, ?_⟩
        cases h2 : Txt.isalpha z with
        | false =>
          rw [h2] at q'
          exact iteF q'
        | true =>
          rw [h2, Bool.true_and] at q'
          refine iteT ⟨_, rfl, ⟨z, rfl⟩, z, rfl, rfl, trivial, _, rfl, ?_⟩
          cases h3 : Txt.islower z with
          | false =>
            rw [h3] at q'
            exact iteF q'
          | true =>
            rw [h3, Bool.true_and] at q'
            exact iteT ⟨_, rfl, ⟨z, rfl⟩, z, rfl, rfl, trivial, q'⟩
    | _ => exact iteF q
def spKindX (K : PySem.W.Frag) : Sp := fun vs H Q _ => ∃ (x : V) (d : PyData) (hd : List Str) (p : Addr), vs = [x, .ref p] ∧ Dx K H x d ∧ SqT K H p (hd.map V.str) ∧ Q (.bl (knD hd d)) H
theorem ok_kindX {f : Addr} {fd : FuncData} {k : Nat} (F : Fun K "is_kind" "is_kind" sKind f fd) (mi : mg "isinstance" = none) (m1 : mg "str" = none) (m2 : mg "int" = none) :
    FnOk P w K mg base CX0 (k + 1) f fd ["thing", "hidden"] (spKindX K) := by
  refine F.ok scKind (fun vs H Q E h => ?_) (fun cdv A outer s H vs Q E hr h => ?_)
  · obtain ⟨x, d, hd, p, rfl, _⟩ := h
    rfl
  · obtain ⟨x, d, hd, p, rfl, hx, hp, q⟩ := h
    have hI := dx_is hx
    refine ⟨_, pss_cons (ps_if (pt_val (pe_isi "str" 0 mi m1 (by decide +kernel))) (pss_one (ps_ret (pe_cmpR op_in_seq (pv 0) (pv 1) rfl))) pss_nil)
      (pss_one (ps_ret (pe_and (pe_isi "int" 0 mi m2 (by decide +kernel)) (pe_one (pe_chain op_leX op_le pe_int (pv 0) pe_int))))), ?_⟩
    refine ⟨x, rfl, _, _, hI.1, kit_str _ hI.2, _, rfl, ?_⟩
    cases d with
    | str z =>
      cases dx_str hx
      refine iteT ⟨_, rfl, _, rfl, p, _, rfl, .inr hp, rfl, flat_strs hd, ?_⟩
      show Q (.bl (inV (.str z) (hd.map V.str))) H
      rw [inV_strs]
      exact q
    | int i =>
      cases dx_int hx
      refine iteF ⟨.int i, rfl, _, _, hI.1, kit_int _ hI.2, _, rfl, iteT ⟨_, rfl, 2, rfl, .inl ⟨i, rfl, _, rfl, ?_⟩⟩⟩
      have q' : Q (.bl (decide (2 ≤ i) && decide (i ≤ 9))) H := q
      cases h1 : decide (2 ≤ i) with
      | true =>
        rw [h1] at q'
        exact iteT ⟨i, 9, rfl, rfl, q'⟩
      | false =>
        rw [h1] at q'
        exact iteF q'
    | bool b =>
      cases dx_bool hx
      refine iteF ⟨.bl b, rfl, _, _, hI.1, kit_int _ hI.2, _, rfl, iteT ⟨_, rfl, 2, rfl, .inr ⟨b, rfl, _, rfl, ?_⟩⟩⟩
      have e : decide ((2 : Int) ≤ SfG.b2i b) = false := by cases b <;> decide
      rw [e]
      exact iteF q
    | _ => exact iteF ⟨x, rfl, _, _, hI.1, kit_int _ hI.2, _, rfl, iteF q⟩
/-! ### first_bad_hidden -/
def spBadHX (K : PySem.W.Frag) : Sp := fun vs H Q _ => ∃ (x : V) (ds : List PyData), vs = [x] ∧ Dx K H x (.tuple ds) ∧ Go (.tuple ds) ∧ ∀ H', Gr H H' → Q (onV (fbh "" 0 ds)) H'
theorem ok_badHX {f fN : Addr} {fd fdN : FuncData} {k : Nat} (F : Fun K "first_bad_hidden" "first_bad_hidden" sBadH f fd) (HN : Has P w K mg base (k + 1) "is_name" ["thing"] (spNameX K) fN fdN) (me : mg "enumerate" = none) :
    FnOk P w K mg base CX0 (k + 2) f fd ["hidden"] (spBadHX K) := by
  refine F.ok scBadH (fun vs H Q E h => ?_) (fun cdv A outer s H vs Q E hr h => ?_)
  · obtain ⟨x, ds, rfl, _⟩ := h
    rfl
  · obtain ⟨x, ds, rfl, hx, go, q⟩ := h
    have nd := scBadH.nd
    refine' ⟨_, pss_cons (ps_set (i := 1) nd rfl (.inl rfl) pe_str) (pss_cons (ps_for PassesOwn.never rfl (pi_enumT (by rfl) me (pa_cons (pv 0) pa_nil))
      (pg_tup rfl (pgs_cons (pg_name (i := 2) nd rfl (.inl rfl)) (pgs_cons (pg_name (i := 3) nd rfl (.inl rfl)) pgs_nil))) (pss_cons ?b1 (pss_one ?b2))) (pss_one (ps_ret pe_non))), ?rd⟩
    case b1 => exact ps_if (PW.pt (pw_or (pt_not (pt_val (hcall HN hr (pa_cons (pv 3) pa_nil)))) (pw_or1 (pt_cmpR op_le_str (pv 3) (pv 1) (nomark _))))) (pss_one (ps_ret (pv 2))) pss_nil
    case b2 => exact ps_set (i := 1) nd rfl (.inl rfl) (pv 3)
    case rd =>
    obtain ⟨pd, xs, rfl, hpd, hxs⟩ := dx_tup hx
    have hl := dxA_len hxs
    refine ⟨_, rfl, pd, xs, rfl, hpd, for_it (walk_enumT (xs := xs)) (fun i σ H1 => ∃ (a : Str) (y2 y3 : Option V), σ = [some (.ref pd), some (.str a), y2, y3] ∧ Gr H H1 ∧ fbh "" 0 ds = fbh a i (ds.drop i)) ⟨"", none, none, rfl, Gr.refl H, rfl⟩ ?h1 ?h2 ?h3⟩
    case h1 =>
      rintro i σ H1 hi ⟨a, y2, y3, rfl, g, _⟩
      exact g.sqt hpd
    case h3 =>
      rintro σ H1 ⟨a, y2, y3, rfl, g, e⟩
      rw [hl, List.drop_length] at e
      have := q H1 g
      rw [e] at this
      exact this
    case h2 =>
      rintro i x σ H1 H2 hi ⟨a, y2, y3, rfl, g, e⟩ ⟨T, na, b, rfl, nT, rfl, ha, hb⟩
      cases ha
      obtain ⟨d, hd, dx⟩ := dxA_at hxs hb
      have ed : ds.drop i = d :: ds.drop (i + 1) := by
        obtain ⟨hi', e'⟩ := List.getElem?_eq_some_iff.mp hd
        rw [List.drop_eq_getElem_cons hi', e']
      have gd := go.at hd
      rw [ed] at e
      have g2 : Gr H (upd H1 T (.tup [.int (i : Nat), b])) := g.trans (Gr.new nT)
      have hT : upd H1 T (.tup [.int (i : Nat), b]) T = some (.tup [.int (i : Nat), b]) := upd_same
      generalize upd H1 T (.tup [.int (i : Nat), b]) = H2 at g2 hT ⊢
      have bad : fbh a i (d :: ds.drop (i + 1)) = some i → Q (.int (i : Int)) H2 := fun e2 => by
        have := q H2 g2
        rw [e, e2] at this
        exact this
      refine ⟨T, _, rfl, .inl (.inl hT), rfl, .int (i : Nat), [b], rfl, b, [], rfl, rfl, ?_⟩
      refine ⟨_, rfl, b, d, rfl, g2.kx.dx dx, gd, _, rfl, ?_⟩
      cases hn : nmD d with
      | false =>
        refine iteT ⟨_, rfl, bad ?_⟩
        cases d with
        | str z =>
          show (if (isN z && decide (lt a z)) = true then _ else _) = _
          rw [show isN z = false from hn]
          rfl
        | _ => rfl
      | true =>
        cases d with
        | str z =>
          cases dx_str dx
          refine iteF ⟨_, rfl, _, rfl, z, a, rfl, rfl, _, rfl, ?_⟩
          have hz : isN z = true := hn
          have ef : fbh a i (.str z :: ds.drop (i + 1)) = if (isN z && decide (lt a z)) = true then fbh z (i + 1) (ds.drop (i + 1)) else some i := rfl
          rw [hz, Bool.true_and] at ef
          by_cases c : lt a z
          · rw [decide_eq_true c] at ef ⊢
            exact iteF ⟨_, rfl, z, _, _, rfl, g2, e.trans ef⟩
          · rw [decide_eq_false c] at ef ⊢
            exact iteT ⟨_, rfl, bad ef⟩
        | _ => cases hn
end
end SfC
namespace SfC
open PySem PySem.Spec PyProof.Rows L2 SfG
theorem three_or : ∀ d : PyData, ((tyD d == "tuple") = false ∧ ∀ hd a, deD hd a d = false) ∨ (∃ ds, d = .tuple ds ∧ ds.length ≠ 3 ∧ ∀ hd a, deD hd a d = false) ∨ ∃ x y z, d = .tuple [x, y, z]
  | .tuple [] => .inr (.inl ⟨_, rfl, by decide, fun _ _ => rfl⟩)
  | .tuple [_] => .inr (.inl ⟨_, rfl, by simp, fun _ _ => by simp [deD]⟩)
  | .tuple [_, _] => .inr (.inl ⟨_, rfl, by simp, fun _ _ => by simp [deD]⟩)
  | .tuple [x, y, z] => .inr (.inr ⟨x, y, z, rfl⟩)
  | .tuple (_ :: _ :: _ :: _ :: r) => .inr (.inl ⟨_, rfl, by simp, fun _ _ => by simp [deD]⟩)
  | .none => .inl ⟨by decide, fun _ _ => rfl⟩
  | .bool _ => .inl ⟨by show ("bool" == "tuple") = false; decide, fun _ _ => rfl⟩
  | .int _ => .inl ⟨by show ("int" == "tuple") = false; decide, fun _ _ => rfl⟩
  | .str _ => .inl ⟨by show ("str" == "tuple") = false; decide, fun _ _ => rfl⟩
  | .list _ => .inl ⟨by show ("list" == "tuple") = false; decide, fun _ _ => rfl⟩
  | .dict _ => .inl ⟨by show ("dict" == "tuple") = false; decide, fun _ _ => rfl⟩
theorem deD_n {hd : List Str} {a : Str} {x y z : PyData} (h : isS x = false) : deD hd a (.tuple [x, y, z]) = false := by
  cases x with
  | str s => cases h
  | _ => simp [deD]
def isT : PyData → Bool
  | .tuple _ => true
  | _ => false
theorem deD_t {hd : List Str} {a : Str} {x y z : PyData} (h : isT y = false) : deD hd a (.tuple [x, y, z]) = false := by
  cases y with
  | tuple s => cases h
  | _ => cases x <;> simp [deD]
theorem ty_s (d : PyData) : (tyD d == "str") = isS d := by
  cases d with
  | none => decide
  | bool _ => show ("bool" == "str") = false; decide
  | int _ => show ("int" == "str") = false; decide
  | str _ => show ("str" == "str") = true; decide
  | list _ => show ("list" == "str") = false; decide
  | tuple _ => show ("tuple" == "str") = false; decide
  | dict _ => show ("dict" == "str") = false; decide
theorem ty_t (d : PyData) : (tyD d == "tuple") = isT d := by
  cases d with
  | none => decide
  | bool _ => show ("bool" == "tuple") = false; decide
  | int _ => show ("int" == "tuple") = false; decide
  | str _ => show ("str" == "tuple") = false; decide
  | list _ => show ("list" == "tuple") = false; decide
  | tuple _ => show ("tuple" == "tuple") = true; decide
  | dict _ => show ("dict" == "tuple") = false; decide
theorem is_str_of {d : PyData} (h : isS d = true) : ∃ z, d = .str z := by
  cases d with
  | str z => exact ⟨z, rfl⟩
  | _ => cases h
theorem is_tup_of {d : PyData} (h : isT d = true) : ∃ z, d = .tuple z := by
  cases d with
  | tuple z => exact ⟨z, rfl⟩
  | _ => cases h
theorem deD_is (hd : List Str) (a z : Str) (ks : List PyData) (g : PyData) : deD hd a (.tuple [.str z, .tuple ks, g]) = ((isN z && decide (lt a z)) && (decide (ks.length ≤ 3) && (knD hd g && (ks.all (knD hd) && decide ((ks.filter isS).length ≤ 2))))) := rfl
theorem cnt_take {ks : List PyData} {j : Nat} {d : PyData} (h : ks[j]? = some d) : ((ks.take (j + 1)).filter isS).length = ((ks.take j).filter isS).length + (if isS d = true then 1 else 0) := by
  rw [List.take_add_one, h, List.filter_append, List.length_append]
  cases hs : isS d <;> simp [hs]
theorem all_not {g : PyData → Bool} {ks : List PyData} {j : Nat} {d : PyData} (h : ks[j]? = some d) (hd : g d = false) : ks.all g = false := by
  refine Bool.eq_false_iff.mpr fun z => ?_
  have := List.all_eq_true.mp z d (List.mem_of_getElem? h)
  rw [hd] at this
  cases this
theorem take_allX (g : PyData → Bool) {ds : List PyData} {i : Nat} {d : PyData} (h : ds[i]? = some d) : (ds.take (i + 1)).all g = ((ds.take i).all g && g d) := by
  rw [List.take_add_one, h, List.all_append]
  simp
section
variable {P : Program} {w : World} {K : PySem.W.Frag} {mg : Str → Option Value} {base : Heap}
def spBadDX (K : PySem.W.Frag) : Sp := fun vs H Q _ => ∃ (x : V) (ds : List PyData) (hd : List Str) (p : Addr), vs = [x, .ref p] ∧ Dx K H x (.tuple ds) ∧ Go (.tuple ds) ∧ SqT K H p (hd.map V.str) ∧ ∀ H', Gr H H' → Q (onV (fbd hd "" 0 ds)) H'
set_option maxHeartbeats 2000000 in
theorem ok_badDX {f fK : Addr} {fd fdK : FuncData} {k : Nat} (F : Fun K "first_bad_deed" "first_bad_deed" sBadD f fd) (HK : Has P w K mg base (k + 1) "is_kind" ["thing", "hidden"] (spKindX K) fK fdK)
    (me : mg "enumerate" = none) (mi : mg "isinstance" = none) (m1 : mg "str" = none) (m2 : mg "int" = none) (m3 : mg "tuple" = none) (ml : mg "len" = none) :
    FnOk P w K mg base CX0 (k + 2) f fd ["deeds", "hidden"] (spBadDX K) := by
  refine F.ok scBadD (fun vs H Q E h => ?_) (fun cdv A outer s H vs Q E hr h => ?_)
  · obtain ⟨x, ds, hd, p, rfl, _⟩ := h
    rfl
  · obtain ⟨x, ds, hd, p, rfl, hx, go, hp, q⟩ := h
    have nd := scBadD.nd
    refine' ⟨_, pss_cons (ps_set (i := 2) nd rfl (.inl rfl) pe_str) (pss_cons (ps_for PassesOwn.never rfl (pi_enumT (by rfl) me (pa_cons (pv 0) pa_nil))
        (pg_tup rfl (pgs_cons (pg_name (i := 3) nd rfl (.inl rfl)) (pgs_cons (pg_name (i := 4) nd rfl (.inl rfl)) pgs_nil)))
        (pss_cons ?b1 (pss_cons ?b2 (pss_cons ?b3 (pss_cons ?b4 (pss_cons ?b5 (pss_cons ?b6 (pss_cons ?b7 (pss_cons ?b8 (pss_one ?b9)))))))))) (pss_one (ps_ret pe_non))), ?rd⟩
    case b1 =>
      exact ps_if (PW.pt (pw_or (pt_not (pt_val (pe_isi "tuple" 4 mi m3 (by decide +kernel)))) (pw_or1 (pt_cmpR op_ne (pe_callB call_len_seq (by rfl) ml PySem.boot_len (pa_cons (pv 4) pa_nil)) pe_int (nomark _))))) (pss_one (ps_ret (pv 3))) pss_nil
    case b2 =>
      exact ps_asg (pv 4) (pg_tup rfl (pgs_cons (pg_name (i := 5) nd rfl (.inl rfl)) (pgs_cons (pg_name (i := 6) nd rfl (.inl rfl)) (pgs_cons (pg_name (i := 7) nd rfl (.inl rfl)) pgs_nil))))
    case b3 =>
      exact ps_if (PW.pt (pw_or (pt_not (pt_val (pe_isi "str" 5 mi m1 (by decide +kernel)))) (pw_or (pt_cmpR op_gt (pe_callB call_len_str (by rfl) ml PySem.boot_len (pa_cons (pv 5) pa_nil)) pe_int (nomark _)) (pw_or1 (pt_cmpR op_le_str (pv 5) (pv 2) (nomark _)))))) (pss_one (ps_ret (pv 3))) pss_nil
    case b4 =>
      exact ps_if (PW.pt (pw_or (pt_not (pt_val (pe_m0 PySem.F.slot_str_isalpha PySem.F.type_str_isalpha mt_isalpha (pv 5)))) (pw_or (pt_not (pt_val (pe_m0 PySem.F.slot_str_islower PySem.F.type_str_islower mt_islower (pv 5)))) (pw_or1 (pt_not (pt_val (pe_m0 PySem.F.slot_str_isascii PySem.F.type_str_isascii mt_isascii (pv 5)))))))) (pss_one (ps_ret (pv 3))) pss_nil
    case b5 =>
      exact ps_if (PW.pt (pw_or (pt_not (pt_val (pe_isi "tuple" 6 mi m3 (by decide +kernel)))) (pw_or (pt_cmpR op_gt (pe_callB call_len_seq (by rfl) ml PySem.boot_len (pa_cons (pv 6) pa_nil)) pe_int (nomark _)) (pw_or1 (pt_not (pt_val (hcall HK hr (pa_cons (pv 7) (pa_cons (pv 1) pa_nil))))))))) (pss_one (ps_ret (pv 3))) pss_nil
    case b6 =>
      exact ps_set (i := 8) nd rfl (.inl rfl) pe_int
    case b7 =>
      refine' ps_for PassesOwn.never rfl (pi_tup (pv 6)) (pg_name (i := 9) nd rfl (.inl rfl)) (pss_one (ps_if (pt_val (pe_isi "str" 9 mi m1 (by decide +kernel))) (pss_cons ?c1 (pss_one ?c2)) (pss_one ?c3)))
      case c1 => exact ps_if (pt_cmpR op_notIn_seq (pv 9) (pv 1) rfl) (pss_one (ps_ret (pv 3))) pss_nil
      case c2 => exact ps_aug (i := 8) nd rfl (.inl rfl) pe_int ip_add
      case c3 => exact ps_if (PW.pt (pw_or (pt_not (pt_val (pe_isi "int" 9 mi m2 (by decide +kernel)))) (pw_or1 (pt_not (pt_chain op_leX op_le pe_int (pv 9) pe_int))))) (pss_one (ps_ret (pv 3))) pss_nil
    case b8 =>
      exact ps_if (pt_cmpR op_gt (pv 8) pe_int (nomark _)) (pss_one (ps_ret (pv 3))) pss_nil
    case b9 =>
      exact ps_set (i := 2) nd rfl (.inl rfl) (pv 5)
    case rd =>
    obtain ⟨pd, xs, rfl, hpd, hxs⟩ := dx_tup hx
    have hl := dxA_len hxs
    refine ⟨_, rfl, pd, xs, rfl, hpd, for_it (walk_enumT (xs := xs)) (fun i σ H1 => ∃ (a : Str) (y3 y4 y5 y6 y7 y8 y9 : Option V), σ = [some (.ref pd), some (.ref p), some (.str a), y3, y4, y5, y6, y7, y8, y9] ∧ Gr H H1 ∧ fbd hd "" 0 ds = fbd hd a i (ds.drop i)) ⟨"", none, none, none, none, none, none, none, rfl, Gr.refl H, rfl⟩ ?h1 ?h2 ?h3⟩
    case h1 =>
      rintro i σ H1 hi ⟨a, y3, y4, y5, y6, y7, y8, y9, rfl, g, _⟩
      exact g.sqt hpd
    case h3 =>
      rintro σ H1 ⟨a, y3, y4, y5, y6, y7, y8, y9, rfl, g, e⟩
      rw [hl, List.drop_length] at e
      have := q H1 g
      rw [e] at this
      exact this
    case h2 =>
      rintro i x σ H1 H2 hi ⟨a, y3, y4, y5, y6, y7, y8, y9, rfl, g, e⟩ ⟨T, na, b, rfl, nT, rfl, ha, hb⟩
      cases ha
      obtain ⟨d, hd0, dx⟩ := dxA_at hxs hb
      have ed : ds.drop i = d :: ds.drop (i + 1) := by
        obtain ⟨hi', e'⟩ := List.getElem?_eq_some_iff.mp hd0
        rw [List.drop_eq_getElem_cons hi', e']
      have gd := go.at hd0
      rw [ed] at e
      have g2 : Gr H (upd H1 T (.tup [.int (i : Nat), b])) := g.trans (Gr.new nT)
      have hT : upd H1 T (.tup [.int (i : Nat), b]) T = some (.tup [.int (i : Nat), b]) := upd_same
      generalize upd H1 T (.tup [.int (i : Nat), b]) = H2 at g2 hT ⊢
      have bad : deD hd a d = false → Q (.int (i : Int)) H2 := fun e2 => by
        have := q H2 g2
        rw [e, fbd, if_neg (by rw [e2]; decide)] at this
        exact this
      have next : deD hd a d = true → fbd hd "" 0 ds = fbd hd (nmOf d) (i + 1) (ds.drop (i + 1)) := fun e2 => by
        rw [e, fbd, if_pos e2]
      replace dx := g2.kx.dx dx
      have hp2 := g2.sqt hp
      have hI := dx_is dx
      refine ⟨T, _, rfl, .inl (.inl hT), rfl, .int (i : Nat), [b], rfl, b, [], rfl, rfl, ?_⟩
      -- a tuple of three
      refine ⟨_, rfl, _, _, hI.1, kit_tuple _ hI.2, _, rfl, ?_⟩
      rcases three_or d with ⟨h1, h2⟩ | ⟨es, rfl, h1, h2⟩ | ⟨dn, dt, dg, rfl⟩
      · rw [h1]
        exact iteT ⟨_, rfl, bad (h2 _ _)⟩
      · obtain ⟨pe, us, rfl, hpe, hus⟩ := dx_tup dx
        have hl2 := dxA_len hus
        refine iteF ⟨_, rfl, pe, us, rfl, .inr hpe, rfl, _, rfl, ?_⟩
        rw [decide_eq_false (fun z => h1 (by have := V.int.inj z; omega))]
        exact iteT ⟨_, rfl, bad (h2 _ _)⟩
      obtain ⟨pe, us, rfl, hpe, hus⟩ := dx_tup dx
      obtain ⟨vn, us, rfl, hvn, hus⟩ := dxA_cons hus
      obtain ⟨vt, us, rfl, hvt, hus⟩ := dxA_cons hus
      obtain ⟨vg, us, rfl, hvg, hus⟩ := dxA_cons hus
      cases dxA_nil hus
      have gn : Go dn := gd.at (i := 0) rfl
      have gt : Go dt := gd.at (i := 1) rfl
      have hIn := dx_is hvn
      have hIt := dx_is hvt
      refine iteF ⟨_, rfl, pe, _, rfl, .inr hpe, rfl, _, rfl, iteF ?_⟩
      refine ⟨_, rfl, pe, _, rfl, hpe, rfl, _, _, rfl, _, _, rfl, _, _, rfl, rfl, ?_⟩
      -- its name
      refine ⟨_, rfl, _, _, hIn.1, kit_str _ hIn.2, _, rfl, ?_⟩
      rw [ty_s]
      cases hs : isS dn with
      | false => exact iteT ⟨_, rfl, bad (deD_n hs)⟩
      | true =>
      obtain ⟨z, rfl⟩ := is_str_of hs
      cases dx_str hvn
      refine iteF ⟨_, rfl, z, rfl, gn.fit, _, 8, rfl, rfl, _, rfl, ?_⟩
      -- what the name lacks
      have noN : isN z = false → deD hd a (.tuple [.str z, dt, dg]) = false := fun h => by
        cases hb : isT dt with
        | false => exact deD_t hb
        | true =>
          obtain ⟨ks, rfl⟩ := is_tup_of hb
          rw [deD_is, h]
          rfl
      have noL : ¬ lt a z → deD hd a (.tuple [.str z, dt, dg]) = false := fun h => by
        cases hb : isT dt with
        | false => exact deD_t hb
        | true =>
          obtain ⟨ks, rfl⟩ := is_tup_of hb
          rw [deD_is, decide_eq_false h, Bool.and_false]
          rfl
      have en := isN_by z
      by_cases c8 : (z.length : Int) ≤ 8
      · rw [decide_eq_false (show ¬ (z.length : Int) > 8 by omega)]
        rw [decide_eq_true c8, Bool.true_and] at en
        refine iteF ⟨_, rfl, _, rfl, z, a, rfl, rfl, _, rfl, ?_⟩
        by_cases cl : lt a z
        · rw [decide_eq_true cl]
          refine iteF ⟨_, rfl, ⟨_, rfl⟩, z, rfl, rfl, trivial, _, rfl, ?_⟩
          cases h2 : Txt.isalpha z with
          | false =>
            rw [h2] at en
            exact iteT ⟨_, rfl, bad (noN en)⟩
          | true =>
          rw [h2, Bool.true_and] at en
          refine iteF ⟨_, rfl, ⟨_, rfl⟩, z, rfl, rfl, trivial, _, rfl, ?_⟩
          cases h3 : Txt.islower z with
          | false =>
            rw [h3] at en
            exact iteT ⟨_, rfl, bad (noN en)⟩
          | true =>
          rw [h3, Bool.true_and] at en
          refine iteF ⟨_, rfl, ⟨_, rfl⟩, z, rfl, rfl, trivial, _, rfl, ?_⟩
          cases h4 : Txt.isascii z with
          | false =>
            rw [h4] at en
            exact iteT ⟨_, rfl, bad (noN en)⟩
          | true =>
          rw [h4] at en
          refine iteF ?_
          -- what it takes and gives
          refine ⟨_, rfl, _, _, hIt.1, kit_tuple _ hIt.2, _, rfl, ?_⟩
          rw [ty_t]
          cases hb : isT dt with
          | false => exact iteT ⟨_, rfl, bad (deD_t hb)⟩
          | true =>
          obtain ⟨ks, rfl⟩ := is_tup_of hb
          have eD := deD_is hd a z ks dg
          rw [en, decide_eq_true cl, Bool.true_and, Bool.true_and] at eD
          obtain ⟨pt, ts, rfl, hpt, hts⟩ := dx_tup hvt
          have hlt := dxA_len hts
          refine iteF ⟨_, rfl, pt, ts, rfl, .inr hpt, _, 3, rfl, rfl, _, rfl, ?_⟩
          by_cases c3 : ks.length ≤ 3
          · rw [decide_eq_false (show ¬ (ts.length : Int) > 3 by omega)]
            rw [decide_eq_true c3, Bool.true_and] at eD
            refine iteF ⟨_, rfl, _, rfl, vg, dg, hd, p, rfl, hvg, hp2, _, rfl, ?_⟩
            cases hg : knD hd dg with
            | false =>
              rw [hg] at eD
              exact iteT ⟨_, rfl, bad eD⟩
            | true =>
            rw [hg, Bool.true_and] at eD
            refine iteF ?_
            refine ⟨_, rfl, pt, rfl, ⟨_, hpt⟩, for_it (walk_tup (xs := ts)) (fun j σ H3 => ∃ y9 : Option V, σ = [some (.ref pd), some (.ref p), some (.str a), some (.int (i : Nat)), some (.ref pe), some (.str z), some (.ref pt), some vg, some (.int (((ks.take j).filter isS).length : Nat)), y9] ∧ H3 = H2 ∧ (ks.take j).all (knD hd) = true) ⟨_, rfl, rfl, rfl⟩ ?i1 ?i2 ?i3⟩
            case i1 =>
              rintro j σ H3 hj ⟨y, rfl, rfl, _⟩
              exact hpt
            case i2 =>
              rintro j x σ H3 H4 hj ⟨y, rfl, rfl, hall⟩ ⟨rfl, hx⟩
              obtain ⟨dk, hdk, hvk⟩ := dxA_at hts hx
              have hIk := dx_is hvk
              have ht := cnt_take hdk
              have hta := take_allX (knD hd) hdk
              rw [hall, Bool.true_and] at hta
              have badk : knD hd dk = false → Q (.int (i : Int)) H4 := fun h => bad (by rw [eD, all_not hdk h]; rfl)
              refine ⟨_, rfl, _, _, hIk.1, kit_str _ hIk.2, _, rfl, ?_⟩
              rw [ty_s]
              cases hsk : isS dk with
              | true =>
                obtain ⟨zk, rfl⟩ := is_str_of hsk
                cases dx_str hvk
                refine iteT ⟨_, rfl, _, rfl, p, _, rfl, .inr hp2, rfl, flat_strs hd, _, rfl, ?_⟩
                show if (!inV (.str zk) (hd.map V.str)) = true then _ else _
                rw [inV_strs]
                cases hm : decide (zk ∈ hd) with
                | false => exact iteT ⟨_, rfl, badk hm⟩
                | true =>
                  refine iteF ⟨_, rfl, _, 1, rfl, rfl, ?_⟩
                  refine ⟨some (.str zk), ?_, rfl, hta.trans hm⟩
                  rw [ht, if_pos hsk]
                  rfl
              | false =>
                refine iteF ?_
                have keep : knD hd dk = true → ∃ y9 : Option V, [some (V.ref pd), some (.ref p), some (.str a), some (.int (i : Nat)), some (.ref pe), some (.str z), some (.ref pt), some vg, some (.int (((ks.take j).filter isS).length : Nat)), some x] = [some (.ref pd), some (.ref p), some (.str a), some (.int (i : Nat)), some (.ref pe), some (.str z), some (.ref pt), some vg, some (.int (((ks.take (j + 1)).filter isS).length : Nat)), y9] ∧ H4 = H4 ∧ (ks.take (j + 1)).all (knD hd) = true := fun h => by
                  refine ⟨some x, ?_, rfl, hta.trans h⟩
                  rw [ht, hsk]
                  rfl
                refine ⟨_, rfl, _, _, hIk.1, kit_int _ hIk.2, _, rfl, ?_⟩
                cases dk with
                | int n =>
                  cases dx_int hvk
                  refine iteF ⟨_, rfl, 2, rfl, .inl ⟨n, rfl, _, rfl, ?_⟩⟩
                  have ek : knD hd (.int n) = (decide (2 ≤ n) && decide (n ≤ 9)) := rfl
                  cases h2 : decide (2 ≤ n) with
                  | false =>
                    rw [h2] at ek
                    exact iteF ⟨_, rfl, iteT ⟨_, rfl, badk ek⟩⟩
                  | true =>
                    rw [h2, Bool.true_and] at ek
                    refine iteT ⟨n, 9, rfl, rfl, _, rfl, ?_⟩
                    cases h9 : decide (n ≤ 9) with
                    | false =>
                      rw [h9] at ek
                      exact iteT ⟨_, rfl, badk ek⟩
                    | true =>
                      rw [h9] at ek
                      exact iteF (keep ek)
                | bool b =>
                  cases dx_bool hvk
                  refine iteF ⟨_, rfl, 2, rfl, .inr ⟨b, rfl, _, rfl, ?_⟩⟩
                  have e : decide ((2 : Int) ≤ SfG.b2i b) = false := by cases b <;> decide
                  rw [e]
                  exact iteF ⟨_, rfl, iteT ⟨_, rfl, badk rfl⟩⟩
                | str _ => cases hsk
                | _ => exact iteT ⟨_, rfl, badk rfl⟩
            case i3 =>
              rintro σ H3 ⟨y, rfl, rfl, hall⟩
              rw [hlt, List.take_length] at hall ⊢
              rw [hall, Bool.true_and] at eD
              refine ⟨_, rfl, _, 2, rfl, rfl, _, rfl, ?_⟩
              by_cases c2 : (ks.filter isS).length ≤ 2
              · rw [decide_eq_false (show ¬ (((ks.filter isS).length : Nat) : Int) > 2 by omega)]
                rw [decide_eq_true c2] at eD
                exact iteF ⟨_, rfl, z, _, _, _, _, _, _, _, rfl, g2, next eD⟩
              · rw [decide_eq_true (show (((ks.filter isS).length : Nat) : Int) > 2 by omega)]
                rw [decide_eq_false c2] at eD
                exact iteT ⟨_, rfl, bad eD⟩
          · rw [decide_eq_true (show (ts.length : Int) > 3 by omega)]
            rw [decide_eq_false c3] at eD
            exact iteT ⟨_, rfl, bad eD⟩
        · rw [decide_eq_false cl]
          exact iteT ⟨_, rfl, bad (noL cl)⟩
      · rw [decide_eq_true (show (z.length : Int) > 8 by omega)]
        rw [decide_eq_false c8] at en
        exact iteT ⟨_, rfl, bad (noN en)⟩
end
end SfC
namespace SfC
open PySem PySem.Spec PyProof.Rows L2 SfG
/-! ### what is no face, and why -/
def its : PyData → List PyData
  | .tuple ds => ds
  | _ => []
def strsOf : List PyData → List Str := List.filterMap fun d => match d with | .str z => some z | _ => none
def flt2 (h e : PyData) : Option (Option Str × Option Nat) :=
  if tupD h 1 2 = false then some (some "hidden", none) else if tupD e 1 8 = false then some (some "deeds", none) else
  match fbh "" 0 (its h) with
  | some n => some (some "hidden", some n)
  | none => match fbd (strsOf (its h)) "" 0 (its e) with
    | some n => some (some "deeds", some n)
    | none => none
def fltD : PyData → Option (Option Str × Option Nat)
  | .tuple [h, e] => flt2 h e
  | _ => some (none, none)
def pV : Option Str → V
  | none => .non
  | some z => .str z
/-- the fault as it is told -/
def FtV (K : PySem.W.Frag) (H : Hp) (v : V) : Option (Option Str × Option Nat) → Prop
  | none => v = .non
  | some (p, n) => ∃ t, v = .ref t ∧ SqT K H t [pV p, onV n]
theorem two_orX : ∀ d : PyData, ((tyD d == "tuple") = false ∧ fltD d = some (none, none)) ∨ (∃ ds, d = .tuple ds ∧ ds.length ≠ 2 ∧ fltD d = some (none, none)) ∨ ∃ x y, d = .tuple [x, y]
  | .tuple [] => .inr (.inl ⟨_, rfl, by decide, rfl⟩)
  | .tuple [_] => .inr (.inl ⟨_, rfl, by simp, rfl⟩)
  | .tuple [x, y] => .inr (.inr ⟨x, y, rfl⟩)
  | .tuple (_ :: _ :: _ :: r) => .inr (.inl ⟨_, rfl, by simp, rfl⟩)
  | .none => .inl ⟨by decide, rfl⟩
  | .bool _ => .inl ⟨by show ("bool" == "tuple") = false; decide, rfl⟩
  | .int _ => .inl ⟨by show ("int" == "tuple") = false; decide, rfl⟩
  | .str _ => .inl ⟨by show ("str" == "tuple") = false; decide, rfl⟩
  | .list _ => .inl ⟨by show ("list" == "tuple") = false; decide, rfl⟩
  | .dict _ => .inl ⟨by show ("dict" == "tuple") = false; decide, rfl⟩
/-- what is let by as hidden kinds -/
theorem fbh_none : ∀ {ds : List PyData} {a : Str} {i : Nat}, fbh a i ds = none → ∃ hd : List Str, ds = hd.map .str ∧ (∀ z ∈ hd, isN z = true) ∧ hd.Pairwise lt ∧ (∀ z ∈ hd, lt a z)
  | [], _, _, _ => ⟨[], rfl, by simp, List.Pairwise.nil, by simp⟩
  | .str z :: r, a, i, h => by
    rw [fbh] at h
    by_cases c : (isN z && decide (lt a z)) = true
    · rw [if_pos c] at h
      obtain ⟨hd, rfl, h1, h2, h3⟩ := fbh_none h
      rw [Bool.and_eq_true, decide_eq_true_eq] at c
      refine ⟨z :: hd, rfl, ?_, List.pairwise_cons.mpr ⟨h3, h2⟩, ?_⟩
      · intro y hy
        rcases List.mem_cons.mp hy with rfl | hy
        · exact c.1
        · exact h1 y hy
      · intro y hy
        rcases List.mem_cons.mp hy with rfl | hy
        · exact c.2
        · exact List.lt_trans c.2 (h3 y hy)
    · rw [if_neg c] at h
      cases h
  | .none :: _, _, _, h => by cases h
  | .bool _ :: _, _, _, h => by cases h
  | .int _ :: _, _, _, h => by cases h
  | .list _ :: _, _, _, h => by cases h
  | .tuple _ :: _, _, _, h => by cases h
  | .dict _ :: _, _, _, h => by cases h
theorem strs_map (hd : List Str) : strsOf (hd.map .str) = hd := by
  unfold strsOf
  induction hd with
  | nil => rfl
  | cons a r ih => simp [ih]
theorem dxA_strs {K : PySem.W.Frag} {H : Hp} : ∀ {l : List Str} {xs : List V}, DxA K H xs (l.map PyData.str) → xs = l.map V.str
  | [], _, h => dxA_nil h
  | a :: r, _, h => by
    obtain ⟨x, t, rfl, hx, ht⟩ := dxA_cons h
    cases dx_str hx
    rw [dxA_strs ht]
    rfl
section
variable {P : Program} {w : World} {K : PySem.W.Frag} {mg : Str → Option Value} {base : Heap}
theorem FtV.gr {H H' : Hp} {v : V} {o : Option (Option Str × Option Nat)} (h : FtV K H v o) (g : Gr H H') : FtV K H' v o := by
  cases o with
  | none => exact h
  | some pn =>
    obtain ⟨p, n⟩ := pn
    obtain ⟨t, e, ht⟩ := h
    exact ⟨t, e, g.sqt ht⟩
def spFaultX (K : PySem.W.Frag) : Sp := fun vs H Q _ => ∃ (x : V) (d : PyData), vs = [x] ∧ Dx K H x d ∧ Go d ∧ ∀ H' v, Gr H H' → FtV K H' v (fltD d) → Q v H'
set_option maxHeartbeats 1000000 in
theorem ok_faultX {f fH fD : Addr} {fd fdH fdD : FuncData} {k : Nat} {t8 : Tok} (F : Fun K "face_fault" "face_fault" sFault f fd) (HH : Has P w K mg base (k + 2) "first_bad_hidden" ["hidden"] (spBadHX K) fH fdH)
    (HD : Has P w K mg base (k + 2) "first_bad_deed" ["deeds", "hidden"] (spBadDX K) fD fdD) (mi : mg "isinstance" = none) (m3 : mg "tuple" = none) (ml : mg "len" = none) (m8 : mg "MOST_DEEDS" = some (.int 8 t8)) :
    FnOk P w K mg base CX0 (k + 3) f fd ["thing"] (spFaultX K) := by
  refine F.ok scFault (fun vs H Q E h => ?_) (fun cdv A outer s H vs Q E hr h => ?_)
  · obtain ⟨x, f, rfl, _⟩ := h
    rfl
  · obtain ⟨x, d, rfl, hx, go, q⟩ := h
    have nd := scFault.nd
    have hI := dx_is hx
    refine' ⟨_, pss_cons ?s1 (pss_cons ?s2 (pss_cons ?s3 (pss_cons ?s4 (pss_cons ?s5 (pss_cons ?s6 (pss_cons ?s7 (pss_cons ?s8 (pss_one ?s9)))))))), ?rd⟩
    case s1 => exact ps_if (PW.pt (pw_or (pt_not (pt_val (pe_isi "tuple" 0 mi m3 (by decide +kernel)))) (pw_or1 (pt_cmpR op_ne (pe_callB call_len_seq (by rfl) ml PySem.boot_len (pa_cons (pv 0) pa_nil)) pe_int (nomark _))))) (pss_one (ps_ret (pe_tup (pa_cons pe_non (pa_cons pe_non pa_nil))))) pss_nil
    case s2 => exact ps_asg (pv 0) (pg_tup rfl (pgs_cons (pg_name (i := 1) nd rfl (.inl rfl)) (pgs_cons (pg_name (i := 2) nd rfl (.inl rfl)) pgs_nil)))
    case s3 => exact ps_if (PW.pt (pw_or (pt_not (pt_val (pe_isi "tuple" 1 mi m3 (by decide +kernel)))) (pw_or1 (pt_not (pt_chain op_le op_le pe_int (pe_callB call_len_seq (by rfl) ml PySem.boot_len (pa_cons (pv 1) pa_nil)) pe_int))))) (pss_one (ps_ret (pe_tup (pa_cons pe_str (pa_cons pe_non pa_nil))))) pss_nil
    case s4 => exact ps_if (PW.pt (pw_or (pt_not (pt_val (pe_isi "tuple" 2 mi m3 (by decide +kernel)))) (pw_or1 (pt_not (pt_chain op_le op_le pe_int (pe_callB call_len_seq (by rfl) ml PySem.boot_len (pa_cons (pv 2) pa_nil)) (pe_glob (v := .int 8) rfl m8 ⟨_, rfl⟩)))))) (pss_one (ps_ret (pe_tup (pa_cons pe_str (pa_cons pe_non pa_nil))))) pss_nil
    case s5 => exact ps_set (i := 3) nd rfl (.inl rfl) (hcall HH hr (pa_cons (pv 1) pa_nil))
    case s6 => exact ps_if (pt_cmpR op_notN (pv 3) pe_non (nomark _)) (pss_one (ps_ret (pe_tup (pa_cons pe_str (pa_cons (pv 3) pa_nil))))) pss_nil
    case s7 => exact ps_set (i := 3) nd rfl (.inl rfl) (hcall HD hr (pa_cons (pv 2) (pa_cons (pv 1) pa_nil)))
    case s8 => exact ps_if (pt_cmpR op_notN (pv 3) pe_non (nomark _)) (pss_one (ps_ret (pe_tup (pa_cons pe_str (pa_cons (pv 3) pa_nil))))) pss_nil
    case s9 => exact ps_ret pe_non
    case rd =>
    -- a fault that is told
    have told : ∀ (H1 : Hp) (p : Option Str) (n : Option Nat), Gr H H1 → fltD d = some (p, n) → (2 : Nat) ≤ sizeLine ∧ ∀ t, H1 t = none → Q (.ref t) (upd H1 t (.tup [pV p, onV n])) := fun H1 p n g e => by
      refine ⟨by decide, fun t nt => q _ _ (g.trans (Gr.new nt)) ?_⟩
      rw [e]
      exact ⟨t, rfl, .inl (.inl upd_same)⟩
    refine ⟨_, rfl, _, _, hI.1, kit_tuple _ hI.2, _, rfl, ?_⟩
    rcases two_orX d with ⟨h1, h2⟩ | ⟨ds, rfl, h1, h2⟩ | ⟨dh, de, rfl⟩
    · rw [h1]
      exact iteT (told H none none (Gr.refl H) h2)
    · obtain ⟨p, xs, rfl, hp, hxs⟩ := dx_tup hx
      have hl := dxA_len hxs
      refine iteF ⟨_, rfl, p, xs, rfl, .inr hp, rfl, _, rfl, ?_⟩
      rw [decide_eq_false (fun z => h1 (by have := V.int.inj z; omega))]
      exact iteT (told H none none (Gr.refl H) h2)
    obtain ⟨p, xs, rfl, hp, hxs⟩ := dx_tup hx
    obtain ⟨vh, xs, rfl, hvh, hxs⟩ := dxA_cons hxs
    obtain ⟨ve, xs, rfl, hve, hxs⟩ := dxA_cons hxs
    cases dxA_nil hxs
    have gh : Go dh := go.at (i := 0) rfl
    have ge : Go de := go.at (i := 1) rfl
    have hIh := dx_is hvh
    have hIe := dx_is hve
    refine iteF ⟨_, rfl, p, _, rfl, .inr hp, rfl, _, rfl, iteF ?_⟩
    refine ⟨_, rfl, p, _, rfl, hp, rfl, _, _, rfl, _, _, rfl, rfl, ?_⟩
    have e0 : fltD (.tuple [dh, de]) = flt2 dh de := rfl
    -- hidden
    refine ⟨_, rfl, _, _, hIh.1, kit_tuple _ hIh.2, _, rfl, ?_⟩
    rw [ty_t]
    cases ht : isT dh with
    | false =>
      refine iteT (told H (some "hidden") none (Gr.refl H) ?_)
      rw [e0, flt2, if_pos]
      cases dh with
      | tuple _ => cases ht
      | _ => rfl
    | true =>
    obtain ⟨hs, rfl⟩ := is_tup_of ht
    obtain ⟨ph, us, rfl, hph, hus⟩ := dx_tup hvh
    have lh := dxA_len hus
    refine iteF ⟨_, rfl, ph, us, rfl, .inr hph, 1, _, rfl, rfl, _, rfl, ?_⟩
    have noH : tupD (.tuple hs) 1 2 = false → fltD (.tuple [.tuple hs, de]) = (some (some ("hidden" : Str), none) : Option (Option Str × Option Nat)) := fun h => by rw [e0, flt2, if_pos h]
    by_cases c1 : 1 ≤ hs.length
    · rw [decide_eq_true (show (1 : Int) ≤ (us.length : Int) by omega)]
      refine iteT ⟨_, 2, rfl, rfl, _, rfl, ?_⟩
      by_cases c2 : hs.length ≤ 2
      · rw [decide_eq_true (show (us.length : Int) ≤ 2 by omega)]
        refine iteF ?_
        have yH : ¬ tupD (.tuple hs) 1 2 = false := by
          simp only [tupD]
          rw [decide_eq_true (show (1 : Int) ≤ (hs.length : Int) by omega), decide_eq_true (show (hs.length : Int) ≤ 2 by omega)]
          decide
        -- deeds
        refine ⟨_, rfl, _, _, hIe.1, kit_tuple _ hIe.2, _, rfl, ?_⟩
        rw [ty_t]
        cases hte : isT de with
        | false =>
          refine iteT (told H (some "deeds") none (Gr.refl H) ?_)
          rw [e0, flt2, if_neg yH, if_pos]
          cases de with
          | tuple _ => cases hte
          | _ => rfl
        | true =>
        obtain ⟨es, rfl⟩ := is_tup_of hte
        obtain ⟨pe, ws, rfl, hpe, hws⟩ := dx_tup hve
        have le := dxA_len hws
        have noE : tupD (.tuple es) 1 8 = false → fltD (.tuple [.tuple hs, .tuple es]) = (some (some ("deeds" : Str), none) : Option (Option Str × Option Nat)) := fun h => by rw [e0, flt2, if_neg yH, if_pos h]
        refine iteF ⟨_, rfl, pe, ws, rfl, .inr hpe, 1, _, rfl, rfl, _, rfl, ?_⟩
        by_cases c3 : 1 ≤ es.length
        · rw [decide_eq_true (show (1 : Int) ≤ (ws.length : Int) by omega)]
          refine iteT ⟨_, 8, rfl, rfl, _, rfl, ?_⟩
          by_cases c4 : es.length ≤ 8
          · rw [decide_eq_true (show (ws.length : Int) ≤ 8 by omega)]
            refine iteF ?_
            have yE : ¬ tupD (.tuple es) 1 8 = false := by
              simp only [tupD]
              rw [decide_eq_true (show (1 : Int) ≤ (es.length : Int) by omega), decide_eq_true (show (es.length : Int) ≤ 8 by omega)]
              decide
            have e1 : fltD (.tuple [.tuple hs, .tuple es]) = (match fbh "" 0 hs with | some n => some (some ("hidden" : Str), some n) | none => match fbd (strsOf hs) "" 0 es with | some n => some (some ("deeds" : Str), some n) | none => none : Option (Option Str × Option Nat)) := by
              rw [e0, flt2, if_neg yH, if_neg yE]
              rfl
            refine ⟨_, rfl, _, hs, rfl, hvh, gh, fun H1 g1 => ?_⟩
            cases hb : fbh "" 0 hs with
            | some n =>
              rw [hb] at e1
              refine ⟨_, rfl, rfl, _, rfl, iteT ⟨_, rfl, ?_⟩⟩
              exact told H1 (some "hidden") (some n) g1 e1
            | none =>
            rw [hb] at e1
            refine ⟨_, rfl, rfl, _, rfl, iteF ?_⟩
            obtain ⟨hd, rfl, _⟩ := fbh_none hb
            rw [strs_map] at e1
            cases dxA_strs hus
            refine ⟨_, rfl, _, rfl, _, es, hd, ph, rfl, g1.kx.dx hve, ge, g1.sqt hph, fun H2 g2 => ?_⟩
            cases hb2 : fbd hd "" 0 es with
            | some n =>
              rw [hb2] at e1
              refine ⟨_, rfl, rfl, _, rfl, iteT ⟨_, rfl, ?_⟩⟩
              exact told H2 (some "deeds") (some n) (g1.trans g2) e1
            | none =>
            rw [hb2] at e1
            refine ⟨_, rfl, rfl, _, rfl, iteF (q H2 _ (g1.trans g2) ?_)⟩
            rw [e1]
            rfl
          · rw [decide_eq_false (show ¬ (ws.length : Int) ≤ 8 by omega)]
            refine iteT (told H (some "deeds") none (Gr.refl H) (noE ?_))
            simp only [tupD]
            rw [decide_eq_false (show ¬ (es.length : Int) ≤ 8 by omega), Bool.and_false]
        · rw [decide_eq_false (show ¬ (1 : Int) ≤ (ws.length : Int) by omega)]
          refine iteF ⟨_, rfl, iteT (told H (some "deeds") none (Gr.refl H) (noE ?_))⟩
          simp only [tupD]
          rw [decide_eq_false (show ¬ (1 : Int) ≤ (es.length : Int) by omega), Bool.false_and]
      · rw [decide_eq_false (show ¬ (us.length : Int) ≤ 2 by omega)]
        refine iteT (told H (some "hidden") none (Gr.refl H) (noH ?_))
        simp only [tupD]
        rw [decide_eq_false (show ¬ (hs.length : Int) ≤ 2 by omega), Bool.and_false]
    · rw [decide_eq_false (show ¬ (1 : Int) ≤ (us.length : Int) by omega)]
      refine iteF ⟨_, rfl, iteT (told H (some "hidden") none (Gr.refl H) (noH ?_))⟩
      simp only [tupD]
      rw [decide_eq_false (show ¬ (1 : Int) ≤ (hs.length : Int) by omega), Bool.false_and]
/-! ### is_face; need_face and what asks it first -/
theorem ft_none {H : Hp} {v : V} {o : Option (Option Str × Option Nat)} (h : FtV K H v o) : decide (v = .non) = o.isNone := by
  cases o with
  | none => exact decide_eq_true h
  | some pn =>
    obtain ⟨p, n⟩ := pn
    obtain ⟨t, rfl, _⟩ := h
    exact decide_eq_false (fun z => by cases z)
/-- what is no face is refused: its part and its number -/
def spBadF (K : PySem.W.Frag) (C : Addr) : Sp := fun vs H _ E => ∃ (x : V) (d : PyData) (p : Option Str) (n : Option Nat), vs = [x] ∧ Dx K H x d ∧ Go d ∧ fltD d = some (p, n) ∧ ∀ H' dd, Gr H H' → H' dd = some (.xd [("number", onV n), ("part", pV p)]) → E (.ref C) (some dd) H'
theorem flt_small {d : PyData} {p : Option Str} {n : Option Nat} (h : fltD d = some (p, n)) : Shn (pV p) := by
  have two : p = none ∨ p = some "hidden" ∨ p = some "deeds" := by
    rcases two_orX d with ⟨_, h2⟩ | ⟨_, _, _, h2⟩ | ⟨x, y, rfl⟩
    · rw [h2] at h
      cases h
      exact .inl rfl
    · rw [h2] at h
      cases h
      exact .inl rfl
    · have h' : flt2 x y = some (p, n) := h
      unfold flt2 at h'
      split at h'
      · cases h'
        exact .inr (.inl rfl)
      split at h'
      · cases h'
        exact .inr (.inr rfl)
      split at h'
      · cases h'
        exact .inr (.inl rfl)
      split at h'
      · cases h'
        exact .inr (.inr rfl)
      · cases h'
  rcases two with rfl | rfl | rfl
  · exact .inl rfl
  · exact .inr (.inr ⟨_, rfl, by decide +kernel⟩)
  · exact .inr (.inr ⟨_, rfl, by decide +kernel⟩)
theorem on_small (n : Option Nat) : Shn (onV n) := by
  cases n with
  | none => exact .inl rfl
  | some n => exact .inr (.inl ⟨_, rfl⟩)
theorem ok_needX {f fF C fI : Addr} {fd fdF fdI : FuncData} {k : Nat} (F : Fun K "need_face" "need_face" sNeed f fd) (HF : Has P w K mg base (k + 3) "face_fault" ["thing"] (spFaultX K) fF fdF) (B : Bad2 P w K mg base (k + 2) "BadFace" "part" "number" C fI fdI) :
    FnOk P w K mg base (L2.CX P w) (k + 4) f fd ["face"] (spBadF K C) := by
  refine F.okX scNeed (fun vs H Q E h => ?_) (fun cdv A outer s H vs Q E hr h => ?_)
  · obtain ⟨x, d, p, n, rfl, _⟩ := h
    rfl
  · obtain ⟨x, d, p, n, rfl, hx, go, hf, q⟩ := h
    have nd := scNeed.nd
    refine ⟨_, pss_cons (ps_set (i := 1) nd rfl (.inl rfl) (hcall HF hr (pa_cons (pv 0) pa_nil))) (pss_one (ps_if (pt_cmpR op_notN (pv 1) pe_non (nomark _))
      (pss_cons (ps_asg (pv 1) (pg_tup rfl (pgs_cons (pg_name (i := 2) nd rfl (.inl rfl)) (pgs_cons (pg_name (i := 3) nd rfl (.inl rfl)) pgs_nil))))
        (pss_one (ps_raise rfl (takes_of (E := E) rfl rfl rfl rfl) (pmk_oex B.T B.i B.t B.F hr B.b .nil pass0 rfl B.g (pa_cons (pv 2) (pa_cons (pv 3) pa_nil)))))) pss_nil)), ?_⟩
    refine ⟨_, rfl, x, d, rfl, hx, go, fun H1 v g1 hv => ?_⟩
    rw [hf] at hv
    obtain ⟨t, rfl, ht⟩ := hv
    refine ⟨_, rfl, rfl, _, rfl, iteT ⟨_, rfl, t, _, rfl, ht, rfl, _, _, rfl, _, _, rfl, rfl, ?_⟩⟩
    exact ⟨_, rfl, _, rfl, made2 (flt_small hf) (on_small n) fun dd H2 g2 hd => q H2 dd (g1.trans g2) hd⟩
end
end SfC
namespace SfM
open PySem PySem.Spec PyProof.Rows L2 SfG SfC
/-! ### makings of any kind are looked at: let by, or refused -/
/-- a def that is called and may raise -/
structure HasX (P : Program) (w : World) (K : PySem.W.Frag) (mg : Str → Option Value) (base : Heap) (k : Nat) (x : Str) (ps : List Str) (sp : Sp) (f : Addr) (fd : FuncData) : Prop where
  ok : FnOk P w K mg base (L2.CX P w) k f fd ps sp
  at_ : mg x = some (.ref f)
  kp : PySem.W.keepIn K (.ref f) = true
  bd : Binds K fd ps []
abbrev sMakIni : Stmt := inClass sBadMaking 0
theorem scMakIni : SupScope ["self", "part", "number"] ["self", "part", "number"] (defScope sMakIni) :=
  ⟨rfl, rfl, rfl, by decide +kernel, rfl, by decide +kernel, by decide +kernel, by decide +kernel, rfl, rfl⟩
section
variable {P : Program} {w : World} {K : PySem.W.Frag} {mg : Str → Option Value} {base : Heap}
theorem ok_makIni {f C cc cda fS : Addr} {fdS : FuncData} {k : Nat} {oc kV doc pm ct : Value} {od an : Option Addr} {osl : Array (Option Value)}
    (lk : K.lookup f = some ⟨oc, od, .func (PySem.W.ksFn "__init__" "BadMaking.__init__" (defArgs sMakIni) (defBody sMakIni) (defScope sMakIni) .none kV doc pm an (.ref cda) ct cc), osl⟩)
    (hcd : PySem.W.codeIn K (.ref cda) "BadMaking.__init__" = true) (U : SupC P K mg C cc cda) (HS : Has P w K mg base (k + 1) "shown" ["field"] spShown fS fdS)
    (n1 : PySem.W.findIn K (.ref C) "part" = some none) (n2 : PySem.W.findIn K (.ref C) "number" = some none) :
    FnOk P w K mg base CX0 (k + 2) f (PySem.W.ksFn "__init__" "BadMaking.__init__" (defArgs sMakIni) (defBody sMakIni) (defScope sMakIni) .none kV doc pm an (.ref cda) ct cc) ["self", "part", "number"] (spIni C "part" "number") := by
  refine fn_super lk hcd scMakIni U rfl rfl (fun vs H Q E h => ?_) (fun A outer s H vs Q E hr h => ?_) (fun _ => rfl) (fun _ => ⟨_, rfl⟩) (fun _ => rfl)
  · obtain ⟨a, x, y, rfl, _⟩ := h
    rfl
  · obtain ⟨a, x, y, rfl, ha, hx, hy, q⟩ := h
    refine ⟨a, [x, y], _, _, rfl, ha, pe_joined (.cons pe_str (.cons (pe_fmt (hcall HS hr (pa_cons (pv 1) pa_nil))) (.cons pe_str (.cons (pe_fmt (hcall HS hr (pa_cons (pv 2) pa_nil))) .nil)))), pss_cons (ps_ost (pv 0) (pv 1)) (pss_one (ps_ost (pv 0) (pv 2))), ?_⟩
    have e9 : (("no making: " : Str)).length = 11 := by decide +kernel
    have e2 : ((", " : Str)).length = 2 := by decide +kernel
    have ez : (Str.empty : Str).length = 0 := rfl
    refine ⟨_, rfl, ?_, _, rfl, x, rfl, hx, fun S1 H1 g1 l1 => .inl ⟨S1, rfl, by rw [sizeLine_eq]; omega, _, rfl, ?_, _, rfl, ?_, _, rfl, y, rfl, hy, fun S2 H2 g2 l2 => .inl ⟨S2, rfl, by rw [sizeLine_eq]; omega, _, rfl, ?_, ?_⟩⟩⟩
    · rw [app_len, ez, e9, sizeLine_eq]
      decide
    · rw [app_len, app_len, ez, e9, sizeLine_eq]
      omega
    · rw [app_len, app_len, app_len, ez, e9, e2, sizeLine_eq]
      omega
    · rw [app_len, app_len, app_len, app_len, ez, e9, e2, sizeLine_eq]
      omega
    · have g := g1.trans g2
      have ha2 : H2 a = some (exo a C none) := g.keep _ _ ha fun _ => exo_tbl
      refine ⟨ha2, ?_⟩
      refine ⟨_, rfl, _, rfl, a, C, rfl, U.T, n1, .inl ⟨ha2, fun dx nd ne => ?_⟩⟩
      refine ⟨_, rfl, _, rfl, a, C, rfl, U.T, n2, .inr ⟨dx, [("part", x)], upd_same, ?_, by show 1 ≤ 900; decide, q H2 dx g nd ne⟩⟩
      rw [upd_ne ne, upd_same]
/-- refused: by its part and its number -/
def Rp (E : XK) (C : Addr) (H : Hp) (p n : V) : Prop := ∀ H' dd, Gr H H' → H' dd = some (.xd [("number", n), ("part", p)]) → E (.ref C) (some dd) H'
theorem Rp.gr {E : XK} {C : Addr} {H H1 : Hp} {p n : V} (h : Rp E C H p n) (g : Gr H H1) : Rp E C H1 p n := fun H' dd g' hd => h H' dd (g.trans g') hd
theorem ovN_small (n : Option Nat) : Shn (ovN n) := by
  cases n with
  | none => exact .inl rfl
  | some n => exact .inr (.inl ⟨_, rfl⟩)
theorem mfl_part {f : Fc} {d : PyData} {a : Option Str} {b : Option Nat} (h : mfl f d = some (a, b)) : a = none ∨ a = some wSh ∨ a = some wBd := by
  unfold mfl at h
  split at h
  · rename_i x y
    unfold mfl2 at h
    split at h
    · split at h
      · split at h
        · split at h
          · unfold mfl3 at h
            split at h
            · cases h
              exact .inr (.inl rfl)
            · obtain ⟨i, _, e⟩ := Option.map_eq_some_iff.mp h
              cases e
              exact .inr (.inr rfl)
          · cases h
            exact .inr (.inr rfl)
        · cases h
          exact .inr (.inr rfl)
      · cases h
        exact .inr (.inl rfl)
    · cases h
      exact .inr (.inl rfl)
  · cases h
    exact .inl rfl
theorem mfl_small {f : Fc} {d : PyData} {a : Option Str} {b : Option Nat} (h : mfl f d = some (a, b)) : Shn (ovS a) := by
  rcases mfl_part h with rfl | rfl | rfl
  · exact .inl rfl
  · exact .inr (.inr ⟨_, rfl, by decide +kernel⟩)
  · exact .inr (.inr ⟨_, rfl, by decide +kernel⟩)
theorem Mx.gr {H H' : Hp} {y : V} {d : PyData} (h : Mx K H y d) (g : Gr H H') : Mx K H' y d := ⟨g.kx.dx h.1, fun ds e => g.kd.dp (h.2 ds e)⟩
abbrev nRM : List Str := ["face", "making", "fault", "part", "number"]
theorem scRefM : FnScope nRM ["face", "making"] (defScope sRefM) := ⟨rfl, rfl, rfl, by decide +kernel, rfl, by decide +kernel, by decide +kernel⟩
theorem scNeedM : FnScope ["face", "making"] ["face", "making"] (defScope sNeedM) := ⟨rfl, rfl, rfl, by decide +kernel, rfl, by decide +kernel, by decide +kernel⟩
theorem scIsM : FnScope ["face", "thing"] ["face", "thing"] (defScope sIsM) := ⟨rfl, rfl, rfl, by decide +kernel, rfl, by decide +kernel, by decide +kernel⟩
/-- of a good face: None, or refused -/
def spMakX (K : PySem.W.Frag) (C : Addr) : Sp := fun vs H Q E => ∃ (x y : V) (f : Fc) (d : PyData), vs = [x, y] ∧ Dp K H x f.d ∧ goF f ∧ Mx K H y d ∧ (mfl f d = none → ∀ H', Gr H H' → Q .non H') ∧ (∀ a b, mfl f d = some (a, b) → Rp E C H (ovS a) (ovN b))
def spIsM (K : PySem.W.Frag) : Sp := fun vs H Q _ => ∃ (x y : V) (f : Fc) (d : PyData), vs = [x, y] ∧ Dp K H x f.d ∧ goF f ∧ Mx K H y d ∧ ∀ H', Gr H H' → Q (.bl (mfl f d).isNone) H'
/-- of what is no face: refused as it -/
def spOddX (K : PySem.W.Frag) (C : Addr) : Sp := fun vs H _ E => ∃ (x y : V) (d : PyData) (p : Option Str) (n : Option Nat), vs = [x, y] ∧ Dx K H x d ∧ Go d ∧ fltD d = some (p, n) ∧ Rp E C H (pV p) (onV n)
theorem ok_refMX {f fF C fI : Addr} {fd fdF fdI : FuncData} {k : Nat} (F : Fun K "refuse_no_making" "refuse_no_making" sRefM f fd) (HF : Has P w K mg base (k + 1) "making_fault" ["face", "thing"] (spMF K) fF fdF) (B : Bad2 P w K mg base k "BadMaking" "part" "number" C fI fdI) :
    FnOk P w K mg base (L2.CX P w) (k + 2) f fd ["face", "making"] (spMakX K C) := by
  refine F.okX scRefM (fun vs H Q E h => ?_) (fun cdv A outer s H vs Q E hr h => ?_)
  · obtain ⟨x, y, f, d, rfl, _⟩ := h
    rfl
  · obtain ⟨x, y, f, d, rfl, hx, go, hy, qn, qs⟩ := h
    have nd := scRefM.nd
    refine ⟨_, pss_cons (ps_set (i := 2) nd rfl (.inl rfl) (hcall HF hr (pa_cons (pv 0) (pa_cons (pv 1) pa_nil)))) (pss_one (ps_if (pt_cmpR op_notN (pv 2) pe_non (nomark _))
      (pss_cons (ps_asg (pv 2) (pg_tup rfl (pgs_cons (pg_name (i := 3) nd rfl (.inl rfl)) (pgs_cons (pg_name (i := 4) nd rfl (.inl rfl)) pgs_nil))))
        (pss_one (ps_raise rfl (takes_of (E := E) rfl rfl rfl rfl) (pmk_oex B.T B.i B.t B.F hr B.b .nil pass0 rfl B.g (pa_cons (pv 3) (pa_cons (pv 4) pa_nil)))))) pss_nil)), ?_⟩
    refine ⟨_, rfl, _, rfl, x, y, f, d, rfl, hx, go, hy, fun hf H1 g1 => ?_, fun a b hf H1 t g1 ht => ?_⟩
    · exact ⟨_, rfl, rfl, _, rfl, iteF (qn hf H1 g1)⟩
    · refine ⟨_, rfl, rfl, _, rfl, iteT ⟨_, rfl, t, _, rfl, .inl (.inl ht), rfl, _, _, rfl, _, _, rfl, rfl, ?_⟩⟩
      exact ⟨_, rfl, _, rfl, made2 (mfl_small hf) (ovN_small b) fun dd H2 g2 hd => qs a b hf H2 dd (g1.trans g2) hd⟩
theorem ok_needMX {f fN fU C : Addr} {fd fdN fdU : FuncData} {k : Nat} (F : Fun K "need_making" "need_making" sNeedM f fd) (HN : Has P w K mg base k "need_face" ["face"] (spGood K .non) fN fdN) (HU : HasX P w K mg base k "refuse_no_making" ["face", "making"] (spMakX K C) fU fdU) :
    FnOk P w K mg base (L2.CX P w) (k + 1) f fd ["face", "making"] (spMakX K C) := by
  refine F.okX scNeedM (fun vs H Q E h => ?_) (fun cdv A outer s H vs Q E hr h => ?_)
  · obtain ⟨x, y, f, d, rfl, _⟩ := h
    rfl
  · obtain ⟨x, y, f, d, rfl, hx, go, hy, qn, qs⟩ := h
    refine ⟨_, pss_cons (ps_expr (hcall HN hr (pa_cons (pv 0) pa_nil))) (pss_one (ps_expr (pe_call HU.ok hr (by rfl) HU.at_ HU.kp HU.bd .nil (passes_call (takes_of (E := E) rfl rfl rfl rfl) (fun _ _ _ _ h => h)) (pa_cons (pv 0) (pa_cons (pv 1) pa_nil))))), ?_⟩
    exact ⟨_, rfl, x, f, rfl, hx, go, fun H1 g1 => ⟨_, rfl, _, rfl, x, y, f, d, rfl, g1.kd.dp hx, go, hy.gr g1, fun hf H2 g2 => qn hf H2 (g1.trans g2), fun a b hf => (qs a b hf).gr g1⟩⟩
/-- need_making of what is no face -/
theorem ok_needOX {f fN fU C CM : Addr} {fd fdN fdU : FuncData} {k : Nat} (F : Fun K "need_making" "need_making" sNeedM f fd) (HN : HasX P w K mg base k "need_face" ["face"] (spBadF K C) fN fdN) (HU : HasX P w K mg base k "refuse_no_making" ["face", "making"] (spMakX K CM) fU fdU) :
    FnOk P w K mg base (L2.CX P w) (k + 1) f fd ["face", "making"] (spOddX K C) := by
  refine F.okX scNeedM (fun vs H Q E h => ?_) (fun cdv A outer s H vs Q E hr h => ?_)
  · obtain ⟨x, y, d, p, n, rfl, _⟩ := h
    rfl
  · obtain ⟨x, y, d, p, n, rfl, hx, go, hf, q⟩ := h
    refine ⟨_, pss_cons (ps_expr (pe_call HN.ok hr (by rfl) HN.at_ HN.kp HN.bd .nil (passes_call (takes_of (E := E) rfl rfl rfl rfl) (fun _ _ _ _ h => h)) (pa_cons (pv 0) pa_nil)))
      (pss_one (ps_expr (pe_call HU.ok hr (by rfl) HU.at_ HU.kp HU.bd .nil (passes_call (takes_of (E := E) rfl rfl rfl rfl) (fun _ _ _ _ h => h)) (pa_cons (pv 0) (pa_cons (pv 1) pa_nil))))), ?_⟩
    exact ⟨_, rfl, x, d, p, n, rfl, hx, go, hf, q⟩
theorem ok_isM {f fN fU : Addr} {fd fdN fdU : FuncData} {k : Nat} (F : Fun K "is_making" "is_making" sIsM f fd) (HN : Has P w K mg base k "need_face" ["face"] (spGood K .non) fN fdN) (HU : Has P w K mg base k "making_fault" ["face", "thing"] (spMF K) fU fdU) :
    FnOk P w K mg base CX0 (k + 1) f fd ["face", "thing"] (spIsM K) := by
  refine F.ok scIsM (fun vs H Q E h => ?_) (fun cdv A outer s H vs Q E hr h => ?_)
  · obtain ⟨x, y, f, d, rfl, _⟩ := h
    rfl
  · obtain ⟨x, y, f, d, rfl, hx, go, hy, q⟩ := h
    refine ⟨_, pss_cons (ps_expr (hcall HN hr (pa_cons (pv 0) pa_nil))) (pss_one (ps_ret (pe_cmpR op_isN (hcall HU hr (pa_cons (pv 0) (pa_cons (pv 1) pa_nil))) pe_non (nomark _)))), ?_⟩
    refine ⟨_, rfl, x, f, rfl, hx, go, fun H1 g1 => ⟨_, rfl, _, rfl, x, y, f, d, rfl, g1.kd.dp hx, go, hy.gr g1, fun hf H2 g2 => ?_, fun a b hf H2 t g2 ht => ?_⟩⟩
    · have q' := q H2 (g1.trans g2)
      rw [hf] at q'
      exact ⟨rfl, q'⟩
    · have q' := q H2 (g1.trans g2)
      rw [hf] at q'
      exact ⟨rfl, q'⟩
theorem ok_isOX {f fN fU C : Addr} {fd fdN fdU : FuncData} {k : Nat} (F : Fun K "is_making" "is_making" sIsM f fd) (HN : HasX P w K mg base k "need_face" ["face"] (spBadF K C) fN fdN) (HU : Has P w K mg base k "making_fault" ["face", "thing"] (spMF K) fU fdU) :
    FnOk P w K mg base (L2.CX P w) (k + 1) f fd ["face", "thing"] (spOddX K C) := by
  refine F.okX scIsM (fun vs H Q E h => ?_) (fun cdv A outer s H vs Q E hr h => ?_)
  · obtain ⟨x, y, d, p, n, rfl, _⟩ := h
    rfl
  · obtain ⟨x, y, d, p, n, rfl, hx, go, hf, q⟩ := h
    refine ⟨_, pss_cons (ps_expr (pe_call HN.ok hr (by rfl) HN.at_ HN.kp HN.bd .nil (passes_call (takes_of (E := E) rfl rfl rfl rfl) (fun _ _ _ _ h => h)) (pa_cons (pv 0) pa_nil)))
      (pss_one (ps_ret (pe_cmpR op_isN (hcall HU hr (pa_cons (pv 0) (pa_cons (pv 1) pa_nil))) pe_non (nomark _)))), ?_⟩
    exact ⟨_, rfl, x, d, p, n, rfl, hx, go, hf, q⟩
end
end SfM
namespace SfC
open PySem PySem.Spec PyProof.Rows L2 SfG
/-! ### _law_kinds of an error that has no dict of its own -/
abbrev nKinds : List Str := ["_law_error", "_law_kinds_here", "_law_name", "_law_fits"]
theorem scKinds : FnScope nKinds ["_law_error"] (defScope sKinds) := ⟨rfl, rfl, rfl, by decide +kernel, rfl, by decide +kernel, by decide +kernel⟩
/-- a pair of a word and whether the error is of the class c -/
theorem pair_isK {K : PySem.W.Frag} {D a : Addr} {c : V} {cv : Value} {b : Bool} {z : Str} {σ : L2.St} {H : Hp} {Q : VK} (h0 : σ[0]? = some (some (.ref a))) (hH : Ek H D a)
    (hc : ∀ u, RelV c u → u = cv) (hk : PySem.W.kitOne K (.ref D) cv = some b) (q : ∀ H' t, Gr H H' → H' t = some (.tup [.str z, .bl b]) → Q (.ref t) H') :
    tTup (tCons (tC (.str z)) (tCons (tCB (rIsX K D) (tCons (tVar 0) (tCons (tC c) tNil))) tNil)) σ H Q := by
  refine ⟨_, h0, a, c, cv, b, rfl, hH, hc, hk, by show 2 ≤ sizeLine; decide, fun t nt => q _ t (Gr.new nt) upd_same⟩
/-- the words so far, in pairs -/
def KdL (K : PySem.W.Frag) (H : Hp) (l : Addr) (ks : List (Str × Bool)) : Prop := ∃ xs, H l = some (.lst xs) ∧ DpAll K H xs (ks.map fun k => .tuple [.str k.1, .bool k.2])
theorem dp_pair {K : PySem.W.Frag} {H : Hp} {t : Addr} {z : Str} {b : Bool} (h : H t = some (.tup [.str z, .bl b])) : Dp K H (.ref t) (.tuple [.str z, .bool b]) := .tup (.inl (.inl h)) (.cons (.str z) (.cons (.bl b) .nil))
/-- two more of them -/
theorem two_isK {K : PySem.W.Frag} {D a l : Addr} {c c' : V} {cv cv' : Value} {b b' : Bool} {z z' : Str} {ks : List (Str × Bool)} {σ : L2.St} {H : Hp} {Q : VK} (h0 : σ[0]? = some (some (.ref a))) (h1 : σ[1]? = some (some (.ref l)))
    (hH : Ek H D a) (hl : KdL K H l ks) (hn : ks.length ≤ 100) (hc : ∀ u, RelV c u → u = cv) (hk : PySem.W.kitOne K (.ref D) cv = some b) (hc' : ∀ u, RelV c' u → u = cv') (hk' : PySem.W.kitOne K (.ref D) cv' = some b')
    (q : ∀ H' p, Gr H H' → H p = none → KdL K H' p (ks ++ [(z, b), (z', b')]) → Q (.ref p) H') :
    tOp rCat (tVar 1) (tLst (tCons (tTup (tCons (tC (.str z)) (tCons (tCB (rIsX K D) (tCons (tVar 0) (tCons (tC c) tNil))) tNil)))
      (tCons (tTup (tCons (tC (.str z')) (tCons (tCB (rIsX K D) (tCons (tVar 0) (tCons (tC c') tNil))) tNil))) tNil))) σ H Q := by
  refine ⟨_, h1, _, h0, a, c, cv, b, rfl, hH, hc, hk, (by show 2 ≤ sizeLine; decide), fun t1 nt1 => ?_⟩
  have g1 : Gr H (upd H t1 (.tup [.str z, .bl b])) := Gr.new nt1
  have e1 : upd H t1 (.tup [.str z, .bl b]) t1 = some (.tup [.str z, .bl b]) := upd_same
  generalize upd H t1 (.tup [.str z, .bl b]) = H1 at g1 e1 ⊢
  refine ⟨_, h0, a, c', cv', b', rfl, (hH.gr g1), hc', hk', (by show 2 ≤ sizeLine; decide), fun t2 nt2 => ?_⟩
  have g2 : Gr H1 (upd H1 t2 (.tup [.str z', .bl b'])) := Gr.new nt2
  have e2 : upd H1 t2 (.tup [.str z', .bl b']) t2 = some (.tup [.str z', .bl b']) := upd_same
  generalize upd H1 t2 (.tup [.str z', .bl b']) = H2 at g2 e2 ⊢
  obtain ⟨xs, hx, dx⟩ := hl
  refine ⟨by show 2 ≤ sizeLine; decide, fun m nm => ?_⟩
  have g3 : Gr H2 (upd H2 m (.lst [.ref t1, .ref t2])) := Gr.new nm
  have gx := (g1.trans g2).trans g3
  have hlen : xs.length = ks.length := by
    have := dpA_len dx
    rw [List.length_map] at this
    exact this
  refine ⟨l, m, xs, _, rfl, rfl, gx.lst hx, upd_same, ?_, fun p np => ?_⟩
  · rw [sizeLine_eq]
    show xs.length + 2 ≤ _
    omega
  · have g4 : Gr (upd H2 m (.lst [.ref t1, .ref t2])) (upd (upd H2 m (.lst [.ref t1, .ref t2])) p (.lst (xs ++ [.ref t1, .ref t2]))) := Gr.new np
    refine q _ p (gx.trans g4) (gx.back p np) ⟨_, upd_same, ?_⟩
    rw [List.map_append]
    refine dpA_app ((gx.trans g4).kd.dpA dx) (.cons (dp_pair (g4.tup (g3.tup (g2.tup e1)))) (.cons (dp_pair (g4.tup (g3.tup e2))) .nil))
theorem pairs_lst {K : PySem.W.Frag} {H : Hp} {l : Addr} {xs zs : List V} (hl : H l = some (.lst xs)) : ∀ {ks : List (Str × Bool)} {ys : List V}, DpAll K H ys (ks.map fun k => .tuple [.str k.1, .bool k.2]) →
    DpAll K (upd H l (.lst zs)) ys (ks.map fun k => .tuple [.str k.1, .bool k.2])
  | [], _, h => by
    cases h
    exact .nil
  | k :: r, _, h => by
    obtain ⟨x, t, rfl, hx, ht⟩ := dpA_cons h
    obtain ⟨p, a, b, rfl, hp, ha, hb⟩ := dp_2 hx
    cases dp_str ha
    cases hb
    exact .cons (.tup (kt_lst hl hp) (.cons (.str _) (.cons (.bl _) .nil))) (pairs_lst hl ht)
theorem pair_at {K : PySem.W.Frag} {H : Hp} : ∀ {ks : List (Str × Bool)} {xs : List V} {i : Nat} {x : V}, DpAll K H xs (ks.map fun k => .tuple [.str k.1, .bool k.2]) → xs[i]? = some x →
    ∃ z b p, ks[i]? = some (z, b) ∧ x = .ref p ∧ SqT K H p [.str z, .bl b]
  | [], _, i, x, h, hx => by
    cases h
    simp at hx
  | k :: r, _, 0, x, h, hx => by
    obtain ⟨y, t, rfl, hy, ht⟩ := dpA_cons h
    obtain ⟨p, a, b, rfl, hp, ha, hb⟩ := dp_2 hy
    cases dp_str ha
    cases hb
    exact ⟨k.1, k.2, p, rfl, (Option.some.inj hx).symm, hp⟩
  | k :: r, _, i + 1, x, h, hx => by
    obtain ⟨y, t, rfl, hy, ht⟩ := dpA_cons h
    exact pair_at (i := i) ht (by simpa using hx)
/-- where a class stands, and whether the error is of it -/
def Kxc (K : PySem.W.Frag) (mg : Str → Option Value) (D : Addr) (x : Str) (b : Bool) : Prop := ∃ c, mg x = some (.ref c) ∧ PySem.W.kitOne K (.ref D) (.ref c) = some b
structure Kxs (K : PySem.W.Frag) (mg : Str → Option Value) (D : Addr) (bs : List Bool) : Prop where
  e : ExcC K D
  n : bs.length = 16
  row : Kxc K mg D "BadRow" (bs.getD 0 false)
  face : Kxc K mg D "BadFace" (bs.getD 1 false)
  making : Kxc K mg D "BadMaking" (bs.getD 2 false)
  user : Kxc K mg D "BadUser" (bs.getD 3 false)
  steps : Kxc K mg D "BadSteps" (bs.getD 4 false)
  lead : Kxc K mg D "BadLead" (bs.getD 5 false)
  apart : Kxc K mg D "ToldApart" (bs.getD 6 false)
  place : Kxc K mg D "OutOfPlace" (bs.getD 7 false)
  great : Kxc K mg D "TooGreat" (bs.getD 8 false)
  paper : Kxc K mg D "BadPaper" (bs.getD 9 false)
  program : Kxc K mg D "BadProgram" (bs.getD 10 false)
  module : Kxc K mg D "BadModule" (bs.getD 11 false)
  refused : Kxc K mg D "Refused" (bs.getD 12 false)
  use : Kxc K mg D "BadUse" (bs.getD 13 false)
  input : Kxc K mg D "BadInput" (bs.getD 14 false)
  ve : PySem.W.kitOne K (.ref D) (.type "ValueError") = some true
  fe : Kxc K mg D "FaceError" true
  other : bs.getD 15 false = false
def kdW : List Str := ["row", "face", "making", "user", "steps", "lead", "apart", "place", "great", "paper", "program", "module", "refused", "use", "input", "other"]
def kdT (ks : List (Str × Bool)) : List V := (ks.filter (·.2)).map fun k => V.str k.1
theorem kdT_take {ks : List (Str × Bool)} {i : Nat} {z : Str} {b : Bool} (h : ks[i]? = some (z, b)) : kdT (ks.take (i + 1)) = kdT (ks.take i) ++ (if b = true then [V.str z] else []) := by
  unfold kdT
  rw [List.take_add_one, h, List.filter_append, List.map_append]
  cases b <;> rfl
theorem kdT_len (ks : List (Str × Bool)) : (kdT ks).length ≤ ks.length := by
  unfold kdT
  rw [List.length_map]
  exact List.length_filter_le _ _
section
variable {P : Program} {w : World} {K : PySem.W.Frag} {mg : Str → Option Value} {base : Heap}
def spKinds (K : PySem.W.Frag) (mg : Str → Option Value) : Sp := fun vs H Q _ => ∃ (a D : Addr) (bs : List Bool), vs = [.ref a] ∧ Ek H D a ∧ Kxs K mg D bs ∧ ∀ H' p, Gr H H' → H' p = some (.lst (kdT (kdW.zip bs))) → Q (.ref p) H'
set_option maxHeartbeats 2000000 in
theorem ok_kinds {f : Addr} {fd : FuncData} {k : Nat} (F : Fun K "_law_kinds" "_law_kinds" sKinds f fd) (mi : mg "isinstance" = none) (mv : mg "ValueError" = none) :
    FnOk P w K mg base CX0 (k + 1) f fd ["_law_error"] (spKinds K mg) := by
  refine F.ok scKinds (fun vs H Q E h => ?_) (fun cdv A outer s H vs Q E hr h => ?_)
  · obtain ⟨a, D, bs, rfl, _⟩ := h
    rfl
  · obtain ⟨a, D, bs, rfl, hH, X, q⟩ := h
    obtain ⟨c1, g1, k1⟩ := X.row
    obtain ⟨c2, g2, k2⟩ := X.face
    obtain ⟨c3, g3, k3⟩ := X.making
    obtain ⟨c4, g4, k4⟩ := X.user
    obtain ⟨c5, g5, k5⟩ := X.steps
    obtain ⟨c6, g6, k6⟩ := X.lead
    obtain ⟨c7, g7, k7⟩ := X.apart
    obtain ⟨c8, g8, k8⟩ := X.place
    obtain ⟨c9, g9, k9⟩ := X.great
    obtain ⟨c10, g10, k10⟩ := X.paper
    obtain ⟨c11, g11, k11⟩ := X.program
    obtain ⟨c12, g12, k12⟩ := X.module
    obtain ⟨c13, g13, k13⟩ := X.refused
    obtain ⟨c14, g14, k14⟩ := X.use
    obtain ⟨c15, g15, k15⟩ := X.input
    obtain ⟨c16, g16, k16⟩ := X.fe
    have eb : bs = [bs.getD 0 false, bs.getD 1 false, bs.getD 2 false, bs.getD 3 false, bs.getD 4 false, bs.getD 5 false, bs.getD 6 false, bs.getD 7 false, bs.getD 8 false, bs.getD 9 false, bs.getD 10 false, bs.getD 11 false, bs.getD 12 false, bs.getD 13 false, bs.getD 14 false, false] := by
      have h := X.n
      have h2 := X.other
      match bs, h, h2 with
      | [_, _, _, _, _, _, _, _, _, _, _, _, _, _, _, false], _, _ => rfl
      | [_, _, _, _, _, _, _, _, _, _, _, _, _, _, _, true], _, h2 => cases h2
    generalize bs.getD 0 false = b1 at *
    generalize bs.getD 1 false = b2 at *
    generalize bs.getD 2 false = b3 at *
    generalize bs.getD 3 false = b4 at *
    generalize bs.getD 4 false = b5 at *
    generalize bs.getD 5 false = b6 at *
    generalize bs.getD 6 false = b7 at *
    generalize bs.getD 7 false = b8 at *
    generalize bs.getD 8 false = b9 at *
    generalize bs.getD 9 false = b10 at *
    generalize bs.getD 10 false = b11 at *
    generalize bs.getD 11 false = b12 at *
    generalize bs.getD 12 false = b13 at *
    generalize bs.getD 13 false = b14 at *
    generalize bs.getD 14 false = b15 at *
    have EC := X.e
    have kve := X.ve
    clear X
    subst eb
    have nd := scKinds.nd
    refine' ⟨_, pss_cons ?s1 (pss_cons ?s2 (pss_cons ?s3 (pss_cons ?s4 (pss_cons ?s5 (pss_cons ?s6 (pss_cons ?s7 (pss_cons ?s8 (pss_cons ?s9 (pss_one ?s10))))))))), ?rd⟩
    case s1 => exact ps_set (i := 1) nd rfl (.inl rfl) (pe_lst (pa_cons (pe_tup (pa_cons pe_str (pa_cons (pe_callB (call_isX EC) (by rfl) mi boot_isinstance (pa_cons (pv 0) (pa_cons (pe_glob (v := .ref c1) rfl g1 rfl) pa_nil))) pa_nil))) (pa_cons (pe_tup (pa_cons pe_str (pa_cons (pe_callB (call_isX EC) (by rfl) mi boot_isinstance (pa_cons (pv 0) (pa_cons (pe_glob (v := .ref c2) rfl g2 rfl) pa_nil))) pa_nil))) pa_nil)))
    case s2 => exact ps_set (i := 1) nd rfl (.inl rfl) (pe_op op_cat (pv 1) (pe_lst (pa_cons (pe_tup (pa_cons pe_str (pa_cons (pe_callB (call_isX EC) (by rfl) mi boot_isinstance (pa_cons (pv 0) (pa_cons (pe_glob (v := .ref c3) rfl g3 rfl) pa_nil))) pa_nil))) (pa_cons (pe_tup (pa_cons pe_str (pa_cons (pe_callB (call_isX EC) (by rfl) mi boot_isinstance (pa_cons (pv 0) (pa_cons (pe_glob (v := .ref c4) rfl g4 rfl) pa_nil))) pa_nil))) pa_nil))))
    case s3 => exact ps_set (i := 1) nd rfl (.inl rfl) (pe_op op_cat (pv 1) (pe_lst (pa_cons (pe_tup (pa_cons pe_str (pa_cons (pe_callB (call_isX EC) (by rfl) mi boot_isinstance (pa_cons (pv 0) (pa_cons (pe_glob (v := .ref c5) rfl g5 rfl) pa_nil))) pa_nil))) (pa_cons (pe_tup (pa_cons pe_str (pa_cons (pe_callB (call_isX EC) (by rfl) mi boot_isinstance (pa_cons (pv 0) (pa_cons (pe_glob (v := .ref c6) rfl g6 rfl) pa_nil))) pa_nil))) pa_nil))))
    case s4 => exact ps_set (i := 1) nd rfl (.inl rfl) (pe_op op_cat (pv 1) (pe_lst (pa_cons (pe_tup (pa_cons pe_str (pa_cons (pe_callB (call_isX EC) (by rfl) mi boot_isinstance (pa_cons (pv 0) (pa_cons (pe_glob (v := .ref c7) rfl g7 rfl) pa_nil))) pa_nil))) (pa_cons (pe_tup (pa_cons pe_str (pa_cons (pe_callB (call_isX EC) (by rfl) mi boot_isinstance (pa_cons (pv 0) (pa_cons (pe_glob (v := .ref c8) rfl g8 rfl) pa_nil))) pa_nil))) pa_nil))))
    case s5 => exact ps_set (i := 1) nd rfl (.inl rfl) (pe_op op_cat (pv 1) (pe_lst (pa_cons (pe_tup (pa_cons pe_str (pa_cons (pe_callB (call_isX EC) (by rfl) mi boot_isinstance (pa_cons (pv 0) (pa_cons (pe_glob (v := .ref c9) rfl g9 rfl) pa_nil))) pa_nil))) (pa_cons (pe_tup (pa_cons pe_str (pa_cons (pe_callB (call_isX EC) (by rfl) mi boot_isinstance (pa_cons (pv 0) (pa_cons (pe_glob (v := .ref c10) rfl g10 rfl) pa_nil))) pa_nil))) pa_nil))))
    case s6 => exact ps_set (i := 1) nd rfl (.inl rfl) (pe_op op_cat (pv 1) (pe_lst (pa_cons (pe_tup (pa_cons pe_str (pa_cons (pe_callB (call_isX EC) (by rfl) mi boot_isinstance (pa_cons (pv 0) (pa_cons (pe_glob (v := .ref c11) rfl g11 rfl) pa_nil))) pa_nil))) (pa_cons (pe_tup (pa_cons pe_str (pa_cons (pe_callB (call_isX EC) (by rfl) mi boot_isinstance (pa_cons (pv 0) (pa_cons (pe_glob (v := .ref c12) rfl g12 rfl) pa_nil))) pa_nil))) pa_nil))))
    case s7 => exact ps_set (i := 1) nd rfl (.inl rfl) (pe_op op_cat (pv 1) (pe_lst (pa_cons (pe_tup (pa_cons pe_str (pa_cons (pe_callB (call_isX EC) (by rfl) mi boot_isinstance (pa_cons (pv 0) (pa_cons (pe_glob (v := .ref c13) rfl g13 rfl) pa_nil))) pa_nil))) (pa_cons (pe_tup (pa_cons pe_str (pa_cons (pe_callB (call_isX EC) (by rfl) mi boot_isinstance (pa_cons (pv 0) (pa_cons (pe_glob (v := .ref c14) rfl g14 rfl) pa_nil))) pa_nil))) pa_nil))))
    case s8 => exact ps_expr (pe_bm PySem.F.plainAttrs_list PySem.F.slot_list_append PySem.F.type_list_append mt_append (pv 1) (pa_cons (pe_tup (pa_cons pe_str (pa_cons (pe_callB (call_isX EC) (by rfl) mi boot_isinstance (pa_cons (pv 0) (pa_cons (pe_glob (v := .ref c15) rfl g15 rfl) pa_nil))) pa_nil))) pa_nil))
    case s9 => exact ps_expr (pe_bm PySem.F.plainAttrs_list PySem.F.slot_list_append PySem.F.type_list_append mt_append (pv 1) (pa_cons (pe_tup (pa_cons pe_str (pa_cons (pe_or (pe_not (pe_callB (call_isX EC) (by rfl) mi boot_isinstance (pa_cons (pv 0) (pa_cons (pe_bltn (v := .ty "ValueError") (by rfl) mv (by decide +kernel) rfl) pa_nil)))) (pe_one (pe_not (pe_callB (call_isX EC) (by rfl) mi boot_isinstance (pa_cons (pv 0) (pa_cons (pe_glob (v := .ref c16) rfl g16 rfl) pa_nil)))))) pa_nil))) pa_nil))
    case s10 => exact ps_ret (pe_lc (own := [("_law_name", 2), ("_law_fits", 3)]) (g := gTup K 2 (gCons (gName 2) (gCons (gName 3) gNil))) rfl nd (pi_list (pv 1))
        (blkOk_by (own := [("_law_name", 2), ("_law_fits", 3)]) (N := nKinds) (sc := defScope sKinds) (by decide +kernel)) (fun _ _ _ _ _ => pg_tup rfl (pgs_cons (pg_name (i := 2) nd rfl (.inl rfl)) (pgs_cons (pg_name (i := 3) nd rfl (.inl rfl)) pgs_nil)))
        (fun _ _ _ _ _ => pts_one (pt_val (pv 3))) (fun _ _ _ _ _ => pv 2))
    case rd =>
    have self : ∀ (c : Addr) (u : Value), RelV (.ref c) u → u = .ref c := fun c u h => h
    refine ⟨_, rfl, a, _, _, b1, rfl, hH, self c1, k1, (by show 2 ≤ sizeLine; decide), fun t1 nt1 => ?_⟩
    have r1 : Gr H (upd H t1 (.tup [.str "row", .bl b1])) := Gr.new nt1
    have e1 : upd H t1 (.tup [.str "row", .bl b1]) t1 = some (.tup [.str "row", .bl b1]) := upd_same
    generalize upd H t1 (.tup [.str "row", .bl b1]) = H1 at r1 e1 ⊢
    refine ⟨_, rfl, a, _, _, b2, rfl, (hH.gr r1), self c2, k2, (by show 2 ≤ sizeLine; decide), fun t2 nt2 => ?_⟩
    have r2 : Gr H1 (upd H1 t2 (.tup [.str "face", .bl b2])) := Gr.new nt2
    have e2 : upd H1 t2 (.tup [.str "face", .bl b2]) t2 = some (.tup [.str "face", .bl b2]) := upd_same
    generalize upd H1 t2 (.tup [.str "face", .bl b2]) = H2 at r2 e2 ⊢
    refine ⟨by show 2 ≤ sizeLine; decide, fun l1 nl1 => ?_⟩
    have r3 : Gr H (upd H2 l1 (.lst [.ref t1, .ref t2])) := (r1.trans r2).trans (Gr.new nl1)
    have L1 : KdL K (upd H2 l1 (.lst [.ref t1, .ref t2])) l1 [("row", b1), ("face", b2)] := ⟨_, upd_same, .cons (dp_pair ((Gr.new nl1).tup (r2.tup e1))) (.cons (dp_pair ((Gr.new nl1).tup e2)) .nil)⟩
    generalize upd H2 l1 (.lst [.ref t1, .ref t2]) = G1 at r3 L1 ⊢
    refine two_isK rfl rfl ((hH.gr r3)) L1 (by simp) (self c3) k3 (self c4) k4 fun G2 l2 s2 nw2 L2 => ?_
    have r4 := r3.trans s2
    refine two_isK rfl rfl ((hH.gr r4)) L2 (by simp) (self c5) k5 (self c6) k6 fun G3 l3 s3 nw3 L3 => ?_
    have r5 := r4.trans s3
    refine two_isK rfl rfl ((hH.gr r5)) L3 (by simp) (self c7) k7 (self c8) k8 fun G4 l4 s4 nw4 L4 => ?_
    have r6 := r5.trans s4
    refine two_isK rfl rfl ((hH.gr r6)) L4 (by simp) (self c9) k9 (self c10) k10 fun G5 l5 s5 nw5 L5 => ?_
    have r7 := r6.trans s5
    refine two_isK rfl rfl ((hH.gr r7)) L5 (by simp) (self c11) k11 (self c12) k12 fun G6 l6 s6 nw6 L6 => ?_
    have r8 := r7.trans s6
    refine two_isK rfl rfl ((hH.gr r8)) L6 (by simp) (self c13) k13 (self c14) k14 fun G7 l7 s7 nw7 L7 => ?_
    have r9 := r8.trans s7
    -- input
    obtain ⟨xs7, hx7, dx7⟩ := L7
    have n7 : xs7.length = 14 := by
      have := dpA_len dx7
      rw [List.length_map] at this
      exact this
    refine ⟨_, rfl, .inl ⟨rfl, _, .inl (.inl hx7)⟩, _, rfl, a, _, _, b15, rfl, (hH.gr r9), self c15, k15, (by show 2 ≤ sizeLine; decide), fun t8 nt8 => ?_⟩
    have r10 : Gr G7 (upd G7 t8 (.tup [.str "input", .bl b15])) := Gr.new nt8
    have e8 : upd G7 t8 (.tup [.str "input", .bl b15]) t8 = some (.tup [.str "input", .bl b15]) := upd_same
    generalize upd G7 t8 (.tup [.str "input", .bl b15]) = G8 at r10 e8 ⊢
    have hx8 := r10.lst hx7
    have nl7 : H l7 = none := r8.back l7 nw7
    refine ⟨l7, _, _, rfl, rfl, hx8, by rw [n7, sizeLine_eq]; decide, ?_⟩
    have r11 : Gr H (upd G8 l7 (.lst (xs7 ++ [.ref t8]))) := (r9.trans r10).upd_new nl7
    have dx7' : DpAll K G7 xs7 (([("row", b1), ("face", b2), ("making", b3), ("user", b4), ("steps", b5), ("lead", b6), ("apart", b7), ("place", b8), ("great", b9), ("paper", b10), ("program", b11), ("module", b12), ("refused", b13), ("use", b14)] : List (Str × Bool)).map fun k => .tuple [.str k.1, .bool k.2]) := dx7
    have d8 : DpAll K (upd G8 l7 (.lst (xs7 ++ [.ref t8]))) (xs7 ++ [.ref t8]) (([("row", b1), ("face", b2), ("making", b3), ("user", b4), ("steps", b5), ("lead", b6), ("apart", b7), ("place", b8), ("great", b9), ("paper", b10), ("program", b11), ("module", b12), ("refused", b13), ("use", b14), ("input", b15)] : List (Str × Bool)).map fun k => .tuple [.str k.1, .bool k.2]) :=
      pairs_lst hx8 (dpA_app (r10.kd.dpA dx7') (.cons (dp_pair (z := "input") e8) .nil))
    have hx9 : upd G8 l7 (.lst (xs7 ++ [.ref t8])) l7 = some (.lst (xs7 ++ [.ref t8])) := upd_same
    generalize upd G8 l7 (.lst (xs7 ++ [.ref t8])) = G9 at r11 d8 hx9 ⊢
    -- other
    refine ⟨_, rfl, .inl ⟨rfl, _, .inl (.inl hx9)⟩, _, rfl, a, _, _, true, rfl, (hH.gr r11), (fun u h => h), kve, true, rfl, false, rfl, ?_⟩
    refine iteF ⟨_, rfl, a, _, _, true, rfl, (hH.gr r11), self c16, k16, true, rfl, (by show 2 ≤ sizeLine; decide), fun t9 nt9 => ?_⟩
    have r12 : Gr G9 (upd G9 t9 (.tup [.str "other", .bl (!true)])) := Gr.new nt9
    have e9 : upd G9 t9 (.tup [.str "other", .bl (!true)]) t9 = some (.tup [.str "other", .bl false]) := upd_same
    generalize upd G9 t9 (.tup [.str "other", .bl (!true)]) = G10 at r12 e9 ⊢
    have hx10 := r12.lst hx9
    refine ⟨l7, _, _, rfl, rfl, hx10, by rw [List.length_append, n7, sizeLine_eq]; show 15 < 16777216; decide, ?_⟩
    have r13 : Gr H (upd G10 l7 (.lst ((xs7 ++ [.ref t8]) ++ [.ref t9]))) := (r11.trans r12).upd_new nl7
    have d9 : DpAll K (upd G10 l7 (.lst ((xs7 ++ [.ref t8]) ++ [.ref t9]))) ((xs7 ++ [.ref t8]) ++ [.ref t9]) (([("row", b1), ("face", b2), ("making", b3), ("user", b4), ("steps", b5), ("lead", b6), ("apart", b7), ("place", b8), ("great", b9), ("paper", b10), ("program", b11), ("module", b12), ("refused", b13), ("use", b14), ("input", b15), ("other", false)] : List (Str × Bool)).map fun k => .tuple [.str k.1, .bool k.2]) :=
      pairs_lst hx10 (dpA_app (r12.kd.dpA d8) (.cons (dp_pair (z := "other") e9) .nil))
    have hx11 : upd G10 l7 (.lst ((xs7 ++ [.ref t8]) ++ [.ref t9])) l7 = some (.lst ((xs7 ++ [.ref t8]) ++ [.ref t9])) := upd_same
    have n9 : ((xs7 ++ [V.ref t8]) ++ [V.ref t9]).length = 16 := by
      rw [List.length_append, List.length_append, n7]
      rfl
    have q' : ∀ H' p, Gr H H' → H' p = some (.lst (kdT ([("row", b1), ("face", b2), ("making", b3), ("user", b4), ("steps", b5), ("lead", b6), ("apart", b7), ("place", b8), ("great", b9), ("paper", b10), ("program", b11), ("module", b12), ("refused", b13), ("use", b14), ("input", b15), ("other", false)] : List (Str × Bool)))) → Q (.ref p) H' := q
    generalize upd G10 l7 (.lst ((xs7 ++ [.ref t8]) ++ [.ref t9])) = G11 at r13 d9 hx11 ⊢
    generalize ((xs7 ++ [V.ref t8]) ++ [V.ref t9]) = ys at d9 hx11 n9 ⊢
    have nks : ([("row", b1), ("face", b2), ("making", b3), ("user", b4), ("steps", b5), ("lead", b6), ("apart", b7), ("place", b8), ("great", b9), ("paper", b10), ("program", b11), ("module", b12), ("refused", b13), ("use", b14), ("input", b15), ("other", false)] : List (Str × Bool)).length = 16 := rfl
    generalize ([("row", b1), ("face", b2), ("making", b3), ("user", b4), ("steps", b5), ("lead", b6), ("apart", b7), ("place", b8), ("great", b9), ("paper", b10), ("program", b11), ("module", b12), ("refused", b13), ("use", b14), ("input", b15), ("other", false)] : List (Str × Bool)) = ks at d9 q' nks
    clear q dx7' d8 dx7
    refine ⟨_, rfl, l7, rfl, ⟨_, .inl (.inl hx11)⟩, fun D nD => ?_⟩
    have gD : ∀ o, Gr G11 (upd G11 D o) := fun o => Gr.new nD
    refine lc_it (walk_list (xs := ys)) (fun i H2 => H2 = upd G11 D (.lst (kdT (ks.take i)))) rfl ?c0 ?c1 ?c2
    case c0 =>
      rintro i H2 hi rfl
      exact .inl (.inl ((gD _).lst hx11))
    case c1 =>
      rintro i y H2 H2' hi rfl ⟨rfl, hy⟩
      obtain ⟨z, b, pp, hz, rfl, hpp⟩ := pair_at d9 hy
      refine ⟨pp, _, rfl, (gD _).sqt hpp, rfl, _, _, rfl, _, _, rfl, rfl, rfl, _, rfl, b, rfl, ?_⟩
      have ek := kdT_take hz
      cases b with
      | true =>
        refine iteT ⟨_, rfl, _, upd_same, ?_, ?_⟩
        · have := kdT_len (ks.take i)
          have h2 := List.length_take_le i ks
          rw [sizeLine_eq]
          have h3 : (ks.take i).length ≤ 16 := by
            rw [List.length_take]
            omega
          omega
        · rw [upd_upd, ek]
          rfl
      | false =>
        refine iteF ?_
        show _ = _
        rw [ek, if_neg (by decide), List.append_nil]
    case c2 =>
      rintro H2 rfl
      refine q' _ D (r13.trans (gD _)) ?_
      rw [upd_same, n9, List.take_of_length_le (by omega)]
end
end SfC
namespace SfM
open PySem PySem.Spec PyProof.Rows L2 SfG SfC
/-! ### _law_word: what a lambda told, or how it was refused -/
abbrev nWord : List Str := ["_law_deed", "_law_error", "_law_found", "caught", "_law_kinds_here"]
theorem scWord : FnScope nWord ["_law_deed"] (defScope sWord) := ⟨rfl, rfl, rfl, by decide +kernel, rfl, by decide +kernel, by decide +kernel⟩
def bsFace : List Bool := [false, true, false, false, false, false, false, false, false, false, false, false, false, false, false, false]
def bsMak : List Bool := [false, false, true, false, false, false, false, false, false, false, false, false, false, false, false, false]
/-- a class of refusals of a part and a number -/
structure WdC (K : PySem.W.Frag) (mg : Str → Option Value) (C CF : Addr) (word : Str) (bs : List Bool) : Prop where
  gF : mg "FaceError" = some (.ref CF)
  xC : PySem.W.exmOne K (.ref C) (.ref CF) = some true
  kC : Kxs K mg C bs
  hk : kdT (kdW.zip bs) = [.str word]
  hw : word = "face" ∨ word = "making"
  T : XfC K C
  f1 : PySem.W.findIn K (.ref C) "part" = some none
  f2 : PySem.W.findIn K (.ref C) "number" = some none
theorem one_strs {K : PySem.W.Frag} {H : Hp} {p : Addr} {z : Str} (h : H p = some (.lst [.str z])) : Dp K H (.ref p) (.list [.str z]) := .lst (.inl (.inl h)) (.cons (.str _) .nil)
theorem shp_face : SeqAt.shaped (.list [.str "face"]) = true := by decide +kernel
theorem shp_mak : SeqAt.shaped (.list [.str "making"]) = true := by decide +kernel
theorem eq_ff : PyData.eqv (.list [.str "face"]) (.list [.str "face"]) = true := by decide +kernel
theorem eq_mf : PyData.eqv (.list [.str "making"]) (.list [.str "face"]) = false := by decide +kernel
theorem eq_mm : PyData.eqv (.list [.str "making"]) (.list [.str "making"]) = true := by decide +kernel
/-- what _law_word makes of a lambda that tells, or is refused by the class C -/
def TWord (C : Addr) (word : Str) : (XK → Hp → VK → Prop) → Hp → VK → Prop := fun tl H Q =>
  ∃ (E' : XK) (Q' : VK), tl E' H Q' ∧ (∀ cls d H', E' cls d H' → cls = .ref C ∧ ∃ dd p n, d = some dd ∧ H' dd = some (.xd [("number", n), ("part", p)]) ∧ ∀ H2 t, Gr H' H2 → H2 t = some (.tup [.str word, p, n]) → Q (.ref t) H2) ∧
    (∀ v H', Q' v H' → ∀ H2 t, Gr H' H2 → H2 t = some (.lst [v]) → Q (.ref t) H2)
def tMo (t : TE) : TE := fun σ H Q => ∃ Q1 : VK, t σ H Q1 ∧ ∀ v H', Q1 v H' → Q v H'
theorem pe_mo {X : Cx} {e : Expr} {t : TE} (h : PE X e t) : PE X e (tMo t) := ⟨fun pins s σ H Q I hh => by
  obtain ⟨Q1, h1, hm⟩ := hh
  refine thn (h.run pins s σ H Q1 I h1) fun v s' hv => ?_
  obtain ⟨w', H', I', r, q⟩ := hv
  exact ⟨w', H', I', r, hm _ _ q⟩⟩
theorem takes_len {X : Cx} {W : WX} (t : Takes X W) : Takes X (fun c d σ H => σ.length = X.N.length → W c d σ H) := fun u s' h => by
  obtain ⟨a, B, sI, pins, σ, H, cls, d, e, I, nb, up, sky, na, os, ag, z⟩ := h
  exact t u s' ⟨a, B, sI, pins, σ, H, cls, d, e, I, nb, up, sky, na, os, ag, z I.len⟩
theorem five_of {σ : L2.St} (h : σ.length = 5) : ∃ a b c d e, σ = [a, b, c, d, e] := by
  match σ, h with
  | [a, b, c, d, e], _ => exact ⟨a, b, c, d, e, rfl⟩
section
variable {X : Cx}
set_option maxHeartbeats 4000000 in
theorem word_gives {g fK C CF : Addr} {cdg : Value} {fdK : FuncData} {k : Nat} {word q : Str} {bs : List Bool} (hr0 : Room (k + 1) X.A) (HK : Has X.prog X.w X.K X.mg X.base k "_law_kinds" ["_law_error"] (spKinds X.K X.mg) fK fdK) (T : WdC X.K X.mg C CF word bs) (mt : X.mg "tuple" = none) :
    LamX.GivesTo X nWord "_law_word" (defScope sWord) g cdg (defBody sWord) "_law_deed" q (TWord C word) := by
  intro f c' s H Q tl act hc h
  have nd := scWord.nd
  have hr := hr0.deeper (envOfC "_law_word" (defScope sWord) s.heap.objs.size g cdg)
  refine' ⟨_, pss_cons ?s1 (pss_cons ?s2 (pss_cons ?s3 (pss_cons ?s4 (pss_cons ?s5 (pss_cons ?s6 pss_never))))), ?rd⟩
  case s1 => exact ps_set (i := 1) nd rfl (.inl rfl) pe_non
  case s2 => exact ps_set (i := 2) nd rfl (.inl rfl) pe_non
  case s3 =>
    exact ps_try_keep (i := 3) (ts := fun a cls d => tAsg (tVar 3) (gName 1)) (Wout := fun _ _ _ _ => False)
      (tb := fun W D σ H => ∃ Ech : XK, (∀ (cls : Value) (d : Option Addr) (σ' : L2.St) (H' : Hp), Ech cls d H' → σ'.length = 5 → W cls d σ' H') ∧ tAsg (tLst (tCons (tMo fun σZ HZ Q => σZ[0]? = some (some (.ref f)) ∧ HZ c' = some (LamX.CodeO c' q) ∧ tl Ech HZ Q) tNil)) (gName 2) D σ H)
      rfl rfl rfl nd rfl rfl ⟨rfl, by decide, .inl T.gF⟩ takes0
      (fun W pn xe tk _ => ⟨fun pins s' σ H' D I h' => by
        obtain ⟨Ech, hW, h'⟩ := h'
        exact (pss_one (ps_set (i := 2) nd rfl (.inl rfl) (pe_lst (pa_cons (pe_mo (act _ pn xe Ech _ _ (takes_len tk) hW)) pa_nil)))).run pins s' σ H' D I h'⟩)
      (fun a oe cls d pn hz hf => pss_one (ps_set (i := 1) nd rfl (.inl rfl) (pv 3)))
      (by
        rintro D cls d σ H ⟨b, e, _, hn⟩
        cases b with
        | true => exact e
        | false => exact (hn rfl).elim)
  case s4 => exact ps_if (pt_cmpR op_isN (pv 1) pe_non (nomark _)) (pss_one (ps_ret (pv 2))) pss_nil
  case s5 => exact ps_set (i := 4) nd rfl (.inl rfl) (hcall HK hr (pa_cons (pv 1) pa_nil))
  case s6 =>
    exact ps_if (PW.pt (pw_or (pt_cmpR (op_eqD hr.units) (pv 4) (pe_lst (pa_cons pe_str pa_nil)) (nomark _)) (pw_or1 (pt_cmpR (op_eqD hr.units) (pv 4) (pe_lst (pa_cons pe_str pa_nil)) (nomark _)))))
      (pss_one (ps_ret (pe_tup (pa_cons (pe_ix ix_list (pv 4) pe_int (fun _ _ => rfl)) (pa_cons (pe_kf T.T T.f1 (pv 1)) (pa_cons (pe_kf T.T T.f2 (pv 1)) pa_nil)))))) pss_nil
  case rd =>
  obtain ⟨E', Q', h1, hE, hQ⟩ := h
  refine ⟨E', ?_, Q', ⟨rfl, hc, h1⟩, ?_⟩
  · intro cls d σ' H' he h5
    obtain ⟨y0, y1, y2, y3, y4, rfl⟩ := five_of h5
    obtain ⟨rfl, dd, p, n, rfl, hd, qk⟩ := hE cls d H' he
    refine ⟨true, T.xC, fun _ a na => ?_, fun z => by cases z⟩
    have hdd : upd H' a (EkO (.ref C) (some dd) a) dd = some (.xd [("number", n), ("part", p)]) := by
      rw [upd_ne (ne_of_none hd na)]
      exact hd
    have ek : EkF (upd H' a (EkO (.ref C) (some dd) a)) C a [("number", n), ("part", p)] := ⟨dd, upd_same, hdd⟩
    have g1 : Gr H' (upd H' a (EkO (.ref C) (some dd) a)) := Gr.new na
    refine ⟨_, rfl, ?_⟩
    refine ⟨_, rfl, rfl, _, rfl, iteF ?_⟩
    refine ⟨_, rfl, a, C, bs, rfl, ek.ek, T.kC, fun H2 l g2 hl => ?_⟩
    rw [T.hk] at hl
    have fin : ∀ H3, Gr H2 H3 → tRet (tTup (tCons (tOp (rIxL X.K) (tVar 4) (tC (.int 0))) (tCons (tKf C "part" (tVar 1)) (tCons (tKf C "number" (tVar 1)) tNil)))) { nx := fun _ _ => False, rt := Q } [y0, some (.ref a), y2, none, some (.ref l)] H3 := by
      intro H3 g3
      have e3 := (ek.gr g2).gr g3
      exact ⟨_, rfl, l, _, 0, .str word, rfl, rfl, .inl (.inl (g3.lst hl)), rfl, _, rfl, a, _, _, rfl, e3, rfl, _, rfl, a, _, _, rfl, e3, rfl, by show 3 ≤ sizeLine; decide, fun t nt => qk _ t (((g1.trans g2).trans g3).trans (Gr.new nt)) upd_same⟩
    refine ⟨_, rfl, by show 1 ≤ sizeLine; decide, fun p2 n2 => ?_⟩
    have g3 : Gr H2 (upd H2 p2 (.lst [.str "face"])) := Gr.new n2
    have e2 : upd H2 p2 (.lst [.str "face"]) p2 = some (.lst [.str "face"]) := upd_same
    generalize upd H2 p2 (.lst [.str "face"]) = H3 at g3 e2 ⊢
    rcases T.hw with rfl | rfl
    · refine ⟨_, _, one_strs (g3.lst hl), one_strs e2, shp_face, shp_face, _, rfl, ?_⟩
      rw [eq_ff]
      exact iteT (fin H3 g3)
    · refine ⟨_, _, one_strs (g3.lst hl), one_strs e2, shp_mak, shp_face, _, rfl, ?_⟩
      rw [eq_mf]
      refine iteF ⟨_, rfl, by show 1 ≤ sizeLine; decide, fun p3 n3 => ?_⟩
      have g4 : Gr H3 (upd H3 p3 (.lst [.str "making"])) := Gr.new n3
      refine ⟨_, _, one_strs (g4.lst (g3.lst hl)), one_strs upd_same, shp_mak, shp_mak, _, rfl, ?_⟩
      rw [eq_mm]
      exact iteT (fin _ (g3.trans g4))
  · intro v H' hv
    refine ⟨by show 1 ≤ sizeLine; decide, fun t nt => ?_⟩
    refine ⟨_, rfl, rfl, _, rfl, iteT ⟨_, rfl, hQ v H' hv _ t (Gr.new nt) upd_same⟩⟩
end
end SfM
namespace SfM
open PySem PySem.Spec PyProof.Rows L2 SfG SfC
def isT (d : PyData) : Bool := tyD d == "tuple"
theorem cut_one (x : V) (r : List V) : cutV (x :: r) (some 1) none = r := by
  unfold cutV
  have e1 : HT.sIx (x :: r).length 0 (some 1) = 1 := by
    rw [show HT.sIx (x :: r).length 0 (some 1) = min 1 (x :: r).length from HT.sIx_nat (x :: r).length 0 1, List.length_cons]
    omega
  rw [e1, HT.sIx_none]
  show List.take ((x :: r).length - 1) r = r
  exact List.take_of_length_le (by simp)
theorem cut_not (x : V) (r : List V) : ¬ (HT.sIx (x :: r).length 0 (some 1) = 0 ∧ HT.sIx (x :: r).length (x :: r).length none = (x :: r).length) := by
  intro h
  have e1 : HT.sIx (x :: r).length 0 (some 1) = min 1 (x :: r).length := HT.sIx_nat (x :: r).length 0 1
  have h1 := h.1
  rw [e1, List.length_cons] at h1
  omega
def sz6 : List (Key × V) := [(Sum.inr ("plus" : Str), .int 2), (Sum.inr ("less" : Str), .int 2), (Sum.inr ("times" : Str), .int 2), (Sum.inr ("same" : Str), .int 2), (Sum.inr ("under" : Str), .int 2), (Sum.inr ("if" : Str), .int 3)]
theorem scBeg : FnScope ["_law_script", "_law_k", "_law_cell", "_law_mixed"] ["_law_script", "_law_k"] (defScope sBeg) := ⟨rfl, rfl, rfl, by decide +kernel, rfl, by decide +kernel, by decide +kernel⟩
theorem scPick : FnScope ["_law_state", "_law_many", "_law_digits", "_law_number"] ["_law_state", "_law_many"] (defScope sPick) := ⟨rfl, rfl, rfl, by decide +kernel, rfl, by decide +kernel, by decide +kernel⟩
theorem scAmg : FnScope ["_law_thing", "_law_least", "_law_most"] ["_law_thing", "_law_least", "_law_most"] (defScope sAmg) := ⟨rfl, rfl, rfl, by decide +kernel, rfl, by decide +kernel, by decide +kernel⟩
abbrev kDig : Key := Sum.inr ("digits" : Str)
abbrev kNum : Key := Sum.inr ("number" : Str)
def kv2 (d n : Int) : List (Key × V) := [(kDig, .int d), (kNum, .int n)]
def Drw (H : Hp) (p : Addr) : Prop := ∃ d n, H p = some (.dK (kv2 d n)) ∧ 0 ≤ d ∧ 0 ≤ n ∧ n < 2147483647
theorem get_dig {H : Hp} {p : Addr} {d n : Int} (h : H p = some (.dK (kv2 d n))) : DGet H p (.str "digits") (some (.int d)) := DGet.k (k := kDig) h
theorem get_num {H : Hp} {p : Addr} {d n : Int} (h : H p = some (.dK (kv2 d n))) : DGet H p (.str "number") (some (.int n)) := DGet.k (k := kNum) h
theorem set_dig {H : Hp} {p : Addr} {d n d' : Int} (h : H p = some (.dK (kv2 d n))) : DPut H p (.str "digits") (.int d') (upd H p (.dK (kv2 d' n))) := DPut.k (k := kDig) h (by show 2 < sizeLine; decide)
theorem set_num {H : Hp} {p : Addr} {d n n' : Int} (h : H p = some (.dK (kv2 d n))) : DPut H p (.str "number") (.int n') (upd H p (.dK (kv2 d n'))) := DPut.k (k := kNum) h (by show 2 < sizeLine; decide)
theorem Drw.gr {H H' : Hp} {p : Addr} (d : Drw H p) (g : Gr H H') : Drw H' p := by
  obtain ⟨x, y, h, r⟩ := d
  exact ⟨x, y, g.dic h, r⟩
theorem Drw.ne {H : Hp} {p q : Addr} (d : Drw H p) (h : H q = none) : q ≠ p := by
  obtain ⟨x, y, e, _⟩ := d
  intro z
  rw [z, e] at h
  cases h
theorem Drw.new {H : Hp} {p q : Addr} {o : HO} (d : Drw H p) (h : H q = none) : Drw (upd H q o) p := d.gr (Gr.new h)
theorem Drw.upd {H : Hp} {p q : Addr} {o : HO} (d : Drw H p) (h : q ≠ p) : Drw (upd H q o) p := by
  obtain ⟨x, y, e, r⟩ := d
  exact ⟨x, y, (upd_ne (Ne.symm h)).trans e, r⟩
theorem Drw.kd {K : PySem.W.Frag} {H H' : Hp} {p : Addr} (d : Drw H p) (g : Gp p H H') : Kd K H H' := by
  obtain ⟨x, y, e, _⟩ := d
  exact g.kd e
theorem gr_new2 {H : Hp} {p : Addr} {o o' : HO} (h : H p = none) : Gr H (upd (upd H p o) p o') := by
  refine Gr.same ?_
  intro b x e
  have n : b ≠ p := ne_of_none e h
  rw [upd_ne n, upd_ne n]
  exact e
section
variable {P : Program} {w : World} {K : PySem.W.Frag} {mg : Str → Option Value} {base : Heap}
def spBeg (K : PySem.W.Frag) : Sp := fun vs H Q _ => ∃ (a : Addr) (ns : List Int) (k : Nat), vs = [.ref a, .int k] ∧ SqL K H a (ns.map V.int) ∧ k ≤ 1000 ∧ ∀ H' p, H p = none → Gr H H' → Drw H' p → Q (.ref p) H'
theorem ok_beg {f : Addr} {fd : FuncData} {k : Nat} (F : Fun K "_law_begun" "_law_begun" sBeg f fd) (ml : mg "len" = none) (ma : mg "abs" = none) : FnOk P w K mg base CX0 (k + 1) f fd ["_law_script", "_law_k"] (spBeg K) := by
  refine F.ok scBeg (fun vs H Q E h => ?_) (fun cdv A outer s H vs Q E hr h => ?_)
  · obtain ⟨a, ns, k, rfl, _⟩ := h
    rfl
  · obtain ⟨a, ns, k, rfl, hS, hk, q⟩ := h
    have nd := scBeg.nd
    refine' ⟨_, pss_cons ?s1 (pss_cons ?s2 (pss_cons ?s3 (pss_one ?s4))), ?rd⟩
    case s1 =>
      exact ps_set (i := 2) nd rfl (.inl rfl) (pe_ifExp (pt_chain op_le op_lt pe_int (pv 1) (pe_callB call_len_seq (by rfl) ml PySem.boot_len (pa_cons (pv 0) pa_nil))) (pe_ix ix_list (pv 0) (pv 1) (fun _ _ => rfl)) pe_int)
    case s2 =>
      exact ps_set (i := 3) nd rfl (.inl rfl) (pe_op op_add (pe_op op_add (pe_op op_mod (pv 2) pe_int) (pe_op op_mul pe_int (pv 1))) pe_int)
    case s3 =>
      exact ps_set (i := 3) nd rfl (.inl rfl) (pe_op op_mod (pe_op op_mul (pe_op op_mod (pe_op op_mul (pv 3) (pv 3)) pe_int) pe_int) pe_int)
    case s4 =>
      exact ps_ret (pe_disp (pps_cons pe_str (pe_ifExp (pt_cmpR op_ge (pe_callB call_abs (by rfl) ma (by decide +kernel) (pa_cons (pv 2) pa_nil)) (pe_op op_pow pe_int pe_int) (nomark _))
          (pe_op op_mod (pe_callB call_abs (by rfl) ma (by decide +kernel) (pa_cons (pv 2) pa_nil)) (pe_op op_mulW (pe_op op_pow pe_int pe_int) (pe_op op_pow pe_int pe_int))) pe_int)
        (pps_cons pe_str (pv 3) pps_nil)) (by rfl) (by rfl) (fun z => by cases z) (by decide))
    case rd =>
    have tail : ∀ c : Int, tSeq (tAsg (tOp (rI0 fun i j => .int (i + j)) (tOp (rI0 fun i j => .int (i + j)) (tOp (rI (fun _ j => 0 < j) fun i j => .int (i % j)) (tVar 2) (tC (.int 1000000007))) (tOp (rI CMul fun i j => .int (i * j)) (tC (.int 7919)) (tVar 1))) (tC (.int 13))) (gName 3))
        (tSeq (tAsg (tOp (rI (fun _ j => 0 < j) fun i j => .int (i % j)) (tOp (rI CMul fun i j => .int (i * j)) (tOp (rI (fun _ j => 0 < j) fun i j => .int (i % j)) (tOp (rI CMul fun i j => .int (i * j)) (tVar 3) (tVar 3)) (tC (.int 2147483629))) (tC (.int 48271))) (tC (.int 2147483647))) (gName 3))
        (tRet (tDisp [(tC (.str "digits"), tIf (tTest (tOp (rI0 fun i j => .bl (decide (i ≥ j))) (tCB (fun xs H Q => ∃ i, xs = [.int i] ∧ Q (.int (if i < 0 then -i else i)) H) (tCons (tVar 2) tNil)) (tOp (rI CPow fun i j => .int (i ^ j.toNat)) (tC (.int 10)) (tC (.int 18)))))
            (tOp (rI (fun _ j => 0 < j) fun i j => .int (i % j)) (tCB (fun xs H Q => ∃ i, xs = [.int i] ∧ Q (.int (if i < 0 then -i else i)) H) (tCons (tVar 2) tNil)) (tOp (rI CMulW fun i j => .int (i * j)) (tOp (rI CPow fun i j => .int (i ^ j.toNat)) (tC (.int 10)) (tC (.int 60))) (tOp (rI CPow fun i j => .int (i ^ j.toNat)) (tC (.int 10)) (tC (.int 60))))) (tC (.int 0))),
          (tC (.str "number"), tVar 3)])))
        { nx := fun _ H' => Q .non H', rt := Q } [some (.ref a), some (.int k), some (.int c), none] H := by
      intro c
      refine ⟨_, rfl, c, 1000000007, rfl, rfl, (by show (0 : Int) < 1000000007; decide), _, rfl, 7919, k, rfl, rfl, .inl ⟨by decide, by decide⟩, _, _, rfl, rfl, _, _, rfl, rfl, ?_⟩
      refine ⟨_, rfl, _, rfl, _, _, rfl, rfl, .inl ⟨?_, ?_⟩, _, 2147483629, rfl, rfl, (by show (0 : Int) < 2147483629; decide), _, 48271, rfl, rfl, .inr ⟨by decide, by decide⟩, _, 2147483647, rfl, rfl, (by show (0 : Int) < 2147483647; decide), ?_⟩
      · have : (-(2 ^ 64) : Int) = -18446744073709551616 := by decide
        rw [this]
        omega
      · have : ((2 ^ 64) : Int) = 18446744073709551616 := by decide
        rw [this]
        omega
      have m0 := Int.emod_nonneg ((c % 1000000007 + 7919 * (k : Int) + 13) * (c % 1000000007 + 7919 * (k : Int) + 13) % 2147483629 * 48271) (show (2147483647 : Int) ≠ 0 by decide)
      have m1 := Int.emod_lt_of_pos ((c % 1000000007 + 7919 * (k : Int) + 13) * (c % 1000000007 + 7919 * (k : Int) + 13) % 2147483629 * 48271) (show (0 : Int) < 2147483647 by decide)
      change gName 3 (V.int ((c % 1000000007 + 7919 * (k : Int) + 13) * (c % 1000000007 + 7919 * (k : Int) + 13) % 2147483629 * 48271 % 2147483647)) _ _ _
      generalize (c % 1000000007 + 7919 * (k : Int) + 13) * (c % 1000000007 + 7919 * (k : Int) + 13) % 2147483629 * 48271 % 2147483647 = m at m0 m1 ⊢
      intro p np
      have fin : ∀ d : Int, 0 ≤ d → Q (.ref p) (upd (upd H p (.dK [])) p (.dK (mergeK [] (kv2 d m)))) := by
        intro d hd
        refine q _ p np (gr_new2 np) ⟨d, m, ?_, hd, m0, m1⟩
        rw [upd_same]
        rfl
      refine ⟨_, rfl, c, rfl, 10, 18, rfl, rfl, ⟨by decide, by decide, by decide⟩, _, _, rfl, rfl, _, rfl, ite2 (fun e => ?_) (fun e => ?_)⟩
      · refine ⟨_, rfl, c, rfl, 10, 60, rfl, rfl, ⟨by decide, by decide, by decide⟩, 10, 60, rfl, rfl, ⟨by decide, by decide, by decide⟩, _, _, rfl, rfl, wide_mul (a := 300) (b := 300) (by decide) (by decide) (by decide) (by decide) (by decide), _, _, rfl, rfl, ?_, _, rfl, upd_same, kv2 _ m, rfl, by show 2 ≤ 15; decide, fin _ ?_⟩
        · show (0 : Int) < 10 ^ (60 : Int).toNat * 10 ^ (60 : Int).toNat
          decide
        · exact Int.emod_nonneg _ (by decide)
      · exact ⟨_, rfl, upd_same, kv2 0 m, rfl, by show 2 ≤ 15; decide, fin 0 (by decide)⟩
    refine ⟨_, rfl, 0, k, rfl, rfl, _, rfl, ?_⟩
    have k0 : decide ((0 : Int) ≤ (k : Int)) = true := decide_eq_true (by omega)
    rw [k0]
    refine iteT ⟨_, rfl, a, _, rfl, .inl hS, k, _, rfl, rfl, _, rfl, ite2 (fun e => ?_) (fun e => ?_)⟩
    · have e' : (k : Int) < ((ns.map V.int).length : Int) := of_decide_eq_true e
      have hk' : k < ns.length := by
        rw [List.length_map] at e'
        omega
      refine ⟨_, rfl, _, rfl, a, _, k, .int ns[k], rfl, rfl, hS, atI_nat (j := k) (by simp [hk']), ?_⟩
      exact tail ns[k]
    · exact tail 5
def spPick : Sp := fun vs H Q _ => ∃ (p : Addr) (m : Int), vs = [.ref p, .int m] ∧ Drw H p ∧ 0 < m ∧ m ≤ 1000000 ∧ ∀ H' d, But p H H' → Drw H' p → 0 ≤ d → d < m → Q (.int d) H'
theorem ok_pick {f : Addr} {fd : FuncData} {k : Nat} (F : Fun K "_law_pick" "_law_pick" sPick f fd) : FnOk P w K mg base CX0 (k + 1) f fd ["_law_state", "_law_many"] spPick := by
  refine F.ok scPick (fun vs H Q E h => ?_) (fun cdv A outer s H vs Q E hr h => ?_)
  · obtain ⟨p, m, rfl, _⟩ := h
    rfl
  · obtain ⟨p, m, rfl, ⟨d, n, hp, hd, hn, hn2⟩, hm0, hm1, q⟩ := h
    have nd := scPick.nd
    refine' ⟨_, pss_cons ?s1 (pss_cons ?s2 (pss_cons ?s3 (pss_cons ?s4 (pss_one ?s5)))), ?rd⟩
    case s1 =>
      exact ps_set (i := 2) nd rfl (.inl rfl) (pe_dget (hu_of hr) (pv 0) pe_str (fun _ _ => rfl))
    case s2 =>
      exact ps_if (pt_cmpR op_gt (pv 2) pe_int (nomark _)) (pss_cons (ps_dput (hu_of hr) (pv 0) pe_str (pe_op op_fdiv (pv 2) (pv 1)) rfl) (pss_one (ps_ret (pe_op op_mod (pv 2) (pv 1))))) pss_nil
    case s3 =>
      exact ps_set (i := 3) nd rfl (.inl rfl) (pe_op op_mod (pe_op op_add (pe_op op_mul (pe_dget (hu_of hr) (pv 0) pe_str (fun _ _ => rfl)) pe_int) pe_int) pe_int)
    case s4 =>
      exact ps_dput (hu_of hr) (pv 0) pe_str (pv 3) rfl
    case s5 =>
      exact ps_ret (pe_op op_mod (pe_op op_fdiv (pe_op op_mod (pe_op op_mul (pv 3) (pe_op op_add (pv 3) pe_int)) pe_int) pe_int) (pv 1))
    case rd =>
    refine ⟨_, rfl, p, _, rfl, get_dig hp, ?_⟩
    refine ⟨_, rfl, d, 0, rfl, rfl, _, rfl, ite2 (fun e => ?_) (fun e => ?_)⟩
    · refine ⟨_, rfl, _, rfl, d, m, rfl, rfl, ⟨hm0, by omega⟩, _, rfl, p, _, rfl, set_dig hp, ?_⟩
      refine ⟨_, rfl, _, rfl, d, m, rfl, rfl, hm0, q _ _ (But.upd fun _ _ => rfl) ⟨d / m, n, upd_same, Int.ediv_nonneg hd (by omega), hn, hn2⟩ (Int.emod_nonneg _ (by omega)) (Int.emod_lt_of_pos _ hm0)⟩
    · refine ⟨_, rfl, p, _, rfl, get_num hp, n, 48271, rfl, rfl, .inr ⟨by decide, by decide⟩, _, 11, rfl, rfl, _, 2147483647, rfl, rfl, (by show (0 : Int) < 2147483647; decide), ?_⟩
      have m0 := Int.emod_nonneg (n * 48271 + 11) (show (2147483647 : Int) ≠ 0 by decide)
      have m1 := Int.emod_lt_of_pos (n * 48271 + 11) (show (0 : Int) < 2147483647 by decide)
      change gName 3 (V.int ((n * 48271 + 11) % 2147483647)) _ _ _
      generalize (n * 48271 + 11) % 2147483647 = r at m0 m1 ⊢
      refine ⟨_, rfl, _, rfl, p, _, rfl, set_num hp, ?_⟩
      refine ⟨_, rfl, _, rfl, r, 7919, rfl, rfl, r, _, rfl, rfl, .inl ⟨?_, ?_⟩, _, 2147483629, rfl, rfl, (by show (0 : Int) < 2147483629; decide), _, 7, rfl, rfl, ⟨by decide, by decide⟩, _, rfl, _, m, rfl, rfl, hm0, q _ _ (But.upd fun _ _ => rfl) ⟨d, r, upd_same, hd, m0, m1⟩ (Int.emod_nonneg _ (by omega)) (Int.emod_lt_of_pos _ hm0)⟩
      · have : (-(2 ^ 64) : Int) = -18446744073709551616 := by decide
        rw [this]
        omega
      · have : ((2 ^ 64) : Int) = 18446744073709551616 := by decide
        rw [this]
        omega
/-- among: of anything -/
def spAmg (K : PySem.W.Frag) : Sp := fun vs H Q _ => ∃ (t : V) (d : PyData) (lo hi : Int), vs = [t, .int lo, .int hi] ∧ Dp K H t d ∧ Q (.bl (amg d lo hi)) H
theorem ok_amg {f : Addr} {fd : FuncData} {k : Nat} (F : Fun K "_law_among" "_law_among" sAmg f fd) (mi : mg "isinstance" = none) (m1 : mg "int" = none) (m2 : mg "bool" = none) :
    FnOk P w K mg base CX0 (k + 1) f fd ["_law_thing", "_law_least", "_law_most"] (spAmg K) := by
  refine F.ok scAmg (fun vs H Q E h => ?_) (fun cdv A outer s H vs Q E hr h => ?_)
  · obtain ⟨t, d, lo, hi, rfl, _⟩ := h
    rfl
  · obtain ⟨t, d, lo, hi, rfl, hd, q⟩ := h
    refine ⟨_, pss_one (ps_ret (pe_and (pe_isi "int" 0 mi m1 (by decide +kernel)) (pe_and (pe_not (pe_isi "bool" 0 mi m2 (by decide +kernel))) (pe_one (pe_chain op_le op_le (pv 1) (pv 0) (pv 2)))))), ?_⟩
    have hI := dp_is hd
    refine ⟨_, rfl, _, _, hI.1, kit_intN, _, rfl, ?_⟩
    cases hd with
    | int i =>
      refine iteT ⟨_, rfl, "int", false, .base (.int i), by decide +kernel, _, rfl, _, rfl, iteT ?_⟩
      refine ⟨_, rfl, _, rfl, lo, i, rfl, rfl, _, rfl, ?_⟩
      change Q (.bl (decide (lo ≤ i) && decide (i ≤ hi))) H at q
      cases h1 : decide (lo ≤ i) with
      | true =>
        rw [h1] at q
        exact iteT ⟨_, rfl, i, hi, rfl, rfl, q⟩
      | false =>
        rw [h1] at q
        exact iteF q
    | bl b => exact iteT ⟨_, rfl, "bool", true, .base (.bl b), by decide +kernel, _, rfl, _, rfl, iteF q⟩
    | _ => exact iteF q
end
end SfM
set_option maxRecDepth 10000000
namespace SfM
open PySem PySem.Spec PyProof.Rows L2 SfG SfC
abbrev nLook : List Str := ["_law_thing", "_law_counts", "_law_many", "_law_word_here", "_law_more", "_law_inner", "_law_sizes", "_law_found", "_law_one", "_law_kind_here"]
theorem scLook : FnScope nLook ["_law_thing", "_law_counts", "_law_many"] (defScope sLook) := ⟨rfl, rfl, rfl, by decide +kernel, rfl, by decide +kernel, by decide +kernel⟩
def cD (cs : List Nat) : PyData := .tuple (cs.map fun (c : Nat) => PyData.int (c : Int))
/-- what stands within, and what it must be -/
abbrev Inn := List (PyData × Option Nat)
def d0 (ds : List PyData) : PyData := ds.getD 0 .none
def d1 (ds : List PyData) : PyData := ds.getD 1 .none
def d2 (ds : List PyData) : PyData := ds.getD 2 .none
def szs (z : Str) : Nat := if z = "plus" ∨ z = "less" ∨ z = "times" ∨ z = "same" ∨ z = "under" then 2 else if z = "if" then 3 else 0
def o4 (m : Option Nat) (z : Str) (ds : List PyData) (o : Option Inn) : Option Inn := if m = none ∧ z = "number" ∧ ds.length = 1 ∧ amg (d0 ds) 0 99 = true then some [] else o
def nI : PyData → Int
  | .int i => i
  | _ => 0
def o5 (cs : List Nat) (m : Option Nat) (z : Str) (ds : List PyData) (o : Option Inn) : Option Inn :=
  if m = none ∧ z = "in" ∧ ds.length = 2 ∧ amg (d0 ds) 0 ((cs.length : Int) - 1) = true then (if amg (d1 ds) 0 (cAt cs (nI (d0 ds)) - 1) = true then some [] else none) else o
def o6 (m : Option Nat) (z : Str) (ds : List PyData) (o : Option Inn) : Option Inn := if m = none ∧ z = "rest" ∧ ds.length = 2 ∧ amg (d1 ds) 2 99 = true then some [(d0 ds, none)] else o
def o8 (m : Option Nat) (z : Str) (ds : List PyData) (o : Option Inn) : Option Inn := if m = none ∧ szs z = ds.length ∧ 0 < ds.length then some (ds.map fun d => (d, none)) else o
def o9 (m : Option Nat) (z : Str) (ds : List PyData) (o : Option Inn) : Option Inn := if m ≠ none ∧ z = "refuse" ∧ ds = [] then some [] else o
def esOf : PyData → List PyData
  | .tuple es => es
  | _ => []
def o10 (m : Option Nat) (z : Str) (ds : List PyData) (o : Option Inn) : Option Inn := if m ≠ none ∧ z = "give" ∧ ds.length = 1 ∧ isT (d0 ds) = true ∧ m = some (esOf (d0 ds)).length then some ((esOf (d0 ds)).map fun d => (d, none)) else o
def o11 (m : Option Nat) (z : Str) (ds : List PyData) (o : Option Inn) : Option Inn := if m ≠ none ∧ z = "when" ∧ ds.length = 3 then some [(d0 ds, none), (d1 ds, m), (d2 ds, m)] else o
def inn (cs : List Nat) (m : Option Nat) (z : Str) (ds : List PyData) : Option Inn := o11 m z ds (o10 m z ds (o9 m z ds (o8 m z ds (o6 m z ds (o5 cs m z ds (o4 m z ds none))))))
theorem merge6 : mergeK [] sz6 = sz6 := rfl
def kV : Option Nat → V
  | none => .non
  | some m => .int (m : Nat)
def NxD (K : PySem.W.Frag) (H : Hp) (ps : List V) (l : Inn) : Prop := ps.length = l.length ∧ ∀ (i : Nat) (x : V), ps[i]? = some x → ∃ (t : Addr) (c : V) (dm : PyData × Option Nat), x = .ref t ∧ SqT K H t [c, kV dm.2] ∧ l[i]? = some dm ∧ Dp K H c dm.1
def InnV (K : PySem.W.Frag) (H : Hp) (v : V) : Option Inn → Prop
  | none => v = .non
  | some l => ∃ (pi : Addr) (ps : List V), v = .ref pi ∧ H pi = some (.lst ps) ∧ NxD K H ps l
theorem InnV.gr {K : PySem.W.Frag} {H H' : Hp} {v : V} {o : Option Inn} (h : InnV K H v o) (g : Gr H H') : InnV K H' v o := by
  cases o with
  | none => exact h
  | some l =>
    obtain ⟨pi, ps, rfl, h1, h2, h3⟩ := h
    refine ⟨pi, ps, rfl, g.lst h1, h2, fun i x hx => ?_⟩
    obtain ⟨t, c, dm, e, a1, a2, a3⟩ := h3 i x hx
    exact ⟨t, c, dm, e, g.sqt a1, a2, g.kd.dp a3⟩
/-- pairs of what stands in a tuple, and None -/
def Prs (H : Hp) (xs : List V) (ps : List V) : Prop := ∀ (j : Nat) (x : V), ps[j]? = some x → ∃ t y, x = .ref t ∧ xs[j]? = some y ∧ H t = some (.tup [y, .non])
theorem Prs.step {H : Hp} {xs ps l : List V} {D t : Addr} {y : V} {o : HO} (h : Prs H xs ps) (hD : H D = some (.lst l)) (nt : H t = none) (hy : xs[ps.length]? = some y) :
    Prs (upd (upd H t (.tup [y, .non])) D o) xs (ps ++ [.ref t]) := by
  intro j x hx
  have tD : t ≠ D := fun z => by
    rw [z, hD] at nt
    cases nt
  by_cases hj : j < ps.length
  · rw [List.getElem?_append_left hj] at hx
    obtain ⟨t', y', h1, h2, h3⟩ := h j x hx
    refine ⟨t', y', h1, h2, ?_⟩
    have n1 : t' ≠ D := fun z => by
      rw [z, hD] at h3
      cases h3
    rw [upd_ne n1, upd_ne (ne_of_none h3 nt)]
    exact h3
  · rw [List.getElem?_append_right (by omega)] at hx
    have hj0 : j - ps.length = 0 := by
      rcases Nat.eq_zero_or_pos (j - ps.length) with z | z
      · exact z
      · rw [List.getElem?_eq_none (by show 1 ≤ _; exact z)] at hx
        cases hx
    rw [hj0] at hx
    have ej : j = ps.length := by omega
    refine ⟨t, y, (Option.some.inj hx).symm, by rw [ej]; exact hy, ?_⟩
    rw [upd_ne tD]
    exact upd_same
theorem nx_of {K : PySem.W.Frag} {H : Hp} {xs ps : List V} {ds : List PyData} (h : Prs H xs ps) (hl : ps.length = xs.length) (hd : DpAll K H xs ds) : NxD K H ps (ds.map fun d => (d, none)) := by
  refine ⟨by rw [hl, List.length_map, dpA_len hd], fun i x hx => ?_⟩
  obtain ⟨t, y, rfl, hy, ht⟩ := h i x hx
  obtain ⟨d, he, de⟩ := dpA_at hd hy
  exact ⟨t, y, (d, none), rfl, .inl (.inl ht), by rw [List.getElem?_map, he]; rfl, de⟩
theorem val_sz (z : Str) : ∃ ov, ov = valV sz6 (Sum.inr z) ∧ ((ov = none ∧ szs z = 0) ∨ (ov = some (.int ((szs z : Nat) : Int)) ∧ 0 < szs z)) := by
  refine ⟨_, rfl, ?_⟩
  by_cases h : z = "plus" ∨ z = "less" ∨ z = "times" ∨ z = "same" ∨ z = "under"
  · refine .inr ?_
    rcases h with rfl | rfl | rfl | rfl | rfl <;> exact ⟨by decide +kernel, by decide +kernel⟩
  · by_cases h2 : z = "if"
    · subst h2
      exact .inr ⟨by decide +kernel, by decide +kernel⟩
    · refine .inl ⟨?_, by unfold szs; rw [if_neg h, if_neg h2]⟩
      have ne : ∀ {x : Str}, z ≠ x → ¬ (Sum.inr z : Key) = Sum.inr x := fun h e => h (Sum.inr.inj e)
      have h1 : z ≠ "plus" := fun e => h (.inl e)
      have h3 : z ≠ "less" := fun e => h (.inr (.inl e))
      have h4 : z ≠ "times" := fun e => h (.inr (.inr (.inl e)))
      have h5 : z ≠ "same" := fun e => h (.inr (.inr (.inr (.inl e))))
      have h6 : z ≠ "under" := fun e => h (.inr (.inr (.inr (.inr e))))
      unfold valV
      rw [List.find?_eq_none.mpr]
      · rfl
      · intro kv hkv
        unfold sz6 at hkv
        simp only [List.mem_cons, List.not_mem_nil, or_false] at hkv
        rcases hkv with rfl | rfl | rfl | rfl | rfl | rfl <;> simp only [decide_eq_true_eq] <;> intro e <;> have e2 := Sum.inr.inj e
        · exact h1 e2.symm
        · exact h3 e2.symm
        · exact h4 e2.symm
        · exact h5 e2.symm
        · exact h6 e2.symm
        · exact h2 e2.symm
/-- what holds while a thing is looked at -/
structure LS (K : PySem.W.Frag) (H H1 : Hp) (pm : Addr) (rest : List V) (ds : List PyData) (c : V) (cs : List Nat) (v : V) (o : Option Inn) : Prop where
  g : Gr H H1
  hp : SqT K H1 pm rest
  hr : DpAll K H1 rest ds
  hc : Dp K H1 c (cD cs)
  inn : InnV K H1 v o
  sm : ds.length ≤ 10000000
  sm1 : ∀ d ∈ ds, (esOf d).length ≤ 10000000
theorem LS.gr {K : PySem.W.Frag} {H H1 H2 : Hp} {pm : Addr} {rest : List V} {ds : List PyData} {c : V} {cs : List Nat} {v : V} {o : Option Inn} (h : LS K H H1 pm rest ds c cs v o) (g : Gr H1 H2) : LS K H H2 pm rest ds c cs v o :=
  ⟨h.g.trans g, g.sqt h.hp, g.kd.dpA h.hr, g.kd.dp h.hc, h.inn.gr g, h.sm, h.sm1⟩
theorem LS.put {K : PySem.W.Frag} {H H1 : Hp} {pm : Addr} {rest : List V} {ds : List PyData} {c : V} {cs : List Nat} {v v' : V} {o o' : Option Inn} (h : LS K H H1 pm rest ds c cs v o) (i : InnV K H1 v' o') : LS K H H1 pm rest ds c cs v' o' :=
  ⟨h.g, h.hp, h.hr, h.hc, i, h.sm, h.sm1⟩
structure LookNames (mg : Str → Option Value) : Prop where
  mi : mg "isinstance" = none
  mt : mg "tuple" = none
  ms : mg "str" = none
  ml : mg "len" = none
  msum : mg "sum" = none
  mmax : mg "max" = none
abbrev stL (t c k : V) (z : Str) (pm : Addr) (v : V) (y6 y7 y8 y9 : Option V) : L2.St := [some t, some c, some k, some (.str z), some (.ref pm), some v, y6, y7, y8, y9]
theorem dec_s (a b : Str) : decide (V.str a = V.str b) = decide (a = b) := by
  by_cases h : a = b
  · rw [decide_eq_true h, decide_eq_true (by rw [h])]
  · rw [decide_eq_false h, decide_eq_false (fun z => h (V.str.inj z))]
theorem dec_i (a b : Int) : decide (V.int a = V.int b) = decide (a = b) := by
  by_cases h : a = b
  · rw [decide_eq_true h, decide_eq_true (by rw [h])]
  · rw [decide_eq_false h, decide_eq_false (fun z => h (V.int.inj z))]
section
variable {P : Program} {w : World} {K : PySem.W.Frag} {mg : Str → Option Value} {base : Heap}
section
variable {f fA : Addr} {fdA : FuncData} {q : Nat} {cdv : Value} {A : Around} {outer : List Env} {s : Shared} {H : Hp} {E : XK}
/-- one of the steps by which what stands within is found -/
def Step (P : Program) (w : World) (K : PySem.W.Frag) (mg : Str → Option Value) (base : Heap) (f : Addr) (cdv : Value) (A : Around) (outer : List Env) (s : Shared) (H : Hp) (E : XK) (i j : Nat) (oo : List Nat → Option Nat → Str → List PyData → Option Inn → Option Inn) : Prop :=
  ∀ tt, PSs (cxOf CX0 P w K mg base nLook "_law_looked" (defScope sLook) f cdv A outer s H E).nox ((defBody sLook).drop j) tt → ∃ ts, PSs (cxOf CX0 P w K mg base nLook "_law_looked" (defScope sLook) f cdv A outer s H E).nox ((defBody sLook).drop i) ts ∧
    ∀ (D : Ends) (H0 H1 : Hp) (t c : V) (m : Option Nat) (z : Str) (pm : Addr) (rest : List V) (ds : List PyData) (cs : List Nat) (v : V) (o : Option Inn) (y6 y7 y8 y9 : Option V), LS K H0 H1 pm rest ds c cs v o →
      (∀ H2 v2 y6' y8', LS K H0 H2 pm rest ds c cs v2 (oo cs m z ds o) → tt D (stL t c (kV m) z pm v2 y6' y7 y8' y9) H2) → ts D (stL t c (kV m) z pm v y6 y7 y8 y9) H1
theorem step4 (HA' : Has P w K mg base (q + 2) "_law_among" ["_law_thing", "_law_least", "_law_most"] (spAmg K) fA fdA) (N : LookNames mg)
    (hr : Room (q + 2) (A.deeper (envOfC "_law_looked" (defScope sLook) s.heap.objs.size f cdv))) : Step P w K mg base f cdv A outer s H E 3 4 (fun _ => o4) := by
  have nd := scLook.nd
  intro tt dT
  refine' ⟨_, pss_cons ?d dT, ?r⟩
  case d =>
    exact ps_if (PW.pt (pw_and (pt_cmpR op_isN (pv 2) pe_non (nomark _)) (pw_and (pt_cmpR op_eq (pv 3) pe_str (nomark _)) (pw_and (pt_cmpR op_eq (pe_callB call_len_seq (by rfl) N.ml PySem.boot_len (pa_cons (pv 4) pa_nil)) pe_int (nomark _))
          (pw_and1 (pt_val (hcall HA' hr (pa_cons (pe_ix ix_tup (pv 4) pe_int (fun _ _ => rfl)) (pa_cons pe_int (pa_cons pe_int pa_nil))))))))))
          (pss_one (ps_set (i := 5) nd rfl (.inl rfl) (pe_lst pa_nil))) pss_nil
  case r =>
    intro D H0 H1 t c m z pm rest ds cs v o y6 y7 y8 y9 L fin
    have no : ¬ (m = none ∧ z = "number" ∧ ds.length = 1 ∧ amg (d0 ds) 0 99 = true) → tt D (stL t c (kV m) z pm v y6 y7 y8 y9) H1 := fun hn => fin H1 v _ _ (by show LS K H0 H1 pm rest ds c cs v (o4 m z ds o); unfold o4; rw [if_neg hn]; exact L)
    cases m with
    | some m => exact ⟨_, rfl, rfl, _, rfl, iteF (iteF (no fun x => by cases x.1))⟩
    | none =>
    refine ⟨_, rfl, rfl, _, rfl, iteT ⟨_, rfl, rfl, _, rfl, ?_⟩⟩
    rw [dec_s]
    by_cases hz : z = "number"
    case neg =>
      rw [decide_eq_false hz]
      exact iteF (iteF (no fun x => hz x.2.1))
    rw [decide_eq_true hz]
    refine iteT ⟨_, rfl, pm, _, rfl, .inr L.hp, rfl, _, rfl, ?_⟩
    rw [dpA_len L.hr, dec_i]
    by_cases hl : ds.length = 1
    case neg =>
      rw [decide_eq_false (by omega)]
      exact iteF (iteF (no fun x => hl x.2.2.1))
    rw [decide_eq_true (by omega)]
    obtain ⟨da, rfl⟩ : ∃ a, ds = [a] := by
      match ds, hl with
      | [a], _ => exact ⟨a, rfl⟩
    obtain ⟨xa, xr, rfl, ha, hxr⟩ := dpA_cons L.hr
    refine iteT ⟨_, rfl, pm, _, 0, xa, rfl, rfl, L.hp, atI_nat (j := 0) rfl, xa, da, 0, 99, rfl, ha, _, rfl, ?_⟩
    cases hg : amg da 0 99 with
    | false => exact iteF (no fun x => by have : amg da 0 99 = true := x.2.2.2; rw [hg] at this; cases this)
    | true =>
    refine iteT ⟨Nat.zero_le _, fun pi npi => ?_⟩
    refine fin _ (.ref pi) _ _ ?_
    show LS K H0 _ pm _ _ c cs _ (o4 none z [da] o)
    unfold o4
    rw [if_pos ⟨rfl, hz, rfl, hg⟩]
    exact (L.gr (Gr.new npi)).put ⟨pi, [], rfl, upd_same, rfl, fun i x h => by cases h⟩
theorem step5 (HA' : Has P w K mg base (q + 2) "_law_among" ["_law_thing", "_law_least", "_law_most"] (spAmg K) fA fdA) (N : LookNames mg)
    (hr : Room (q + 2) (A.deeper (envOfC "_law_looked" (defScope sLook) s.heap.objs.size f cdv))) : Step P w K mg base f cdv A outer s H E 4 5 o5 := by
  have nd := scLook.nd
  intro tt dT
  refine' ⟨_, pss_cons ?d dT, ?r⟩
  case d =>
    exact ps_if (PW.pt (pw_and (pt_cmpR op_isN (pv 2) pe_non (nomark _)) (pw_and (pt_cmpR op_eq (pv 3) pe_str (nomark _)) (pw_and (pt_cmpR op_eq (pe_callB call_len_seq (by rfl) N.ml PySem.boot_len (pa_cons (pv 4) pa_nil)) pe_int (nomark _))
          (pw_and1 (pt_val (hcall HA' hr (pa_cons (pe_ix ix_tup (pv 4) pe_int (fun _ _ => rfl)) (pa_cons pe_int (pa_cons (pe_op op_sub (pe_callB call_len_seq (by rfl) N.ml PySem.boot_len (pa_cons (pv 1) pa_nil)) pe_int) pa_nil))))))))))
          (pss_one (ps_set (i := 5) nd rfl (.inl rfl) (pe_ifExp (pt_val (hcall HA' hr (pa_cons (pe_ix ix_tup (pv 4) pe_int (fun _ _ => rfl)) (pa_cons pe_int (pa_cons (pe_op op_sub (pe_ix ix_tup (pv 1) (pe_ix ix_tup (pv 4) pe_int (fun _ _ => rfl)) (fun _ _ => rfl)) pe_int) pa_nil))))) (pe_lst pa_nil) pe_non))) pss_nil
  case r =>
    intro D H0 H1 t c m z pm rest ds cs v o y6 y7 y8 y9 L fin
    have no : ¬ (m = none ∧ z = "in" ∧ ds.length = 2 ∧ amg (d0 ds) 0 ((cs.length : Int) - 1) = true) → tt D (stL t c (kV m) z pm v y6 y7 y8 y9) H1 := fun hn => fin H1 v _ _ (by show LS K H0 H1 pm rest ds c cs v (o5 cs m z ds o); unfold o5; rw [if_neg hn]; exact L)
    cases m with
    | some m => exact ⟨_, rfl, rfl, _, rfl, iteF (iteF (no fun x => by cases x.1))⟩
    | none =>
    refine ⟨_, rfl, rfl, _, rfl, iteT ⟨_, rfl, rfl, _, rfl, ?_⟩⟩
    rw [dec_s]
    by_cases hz : z = "in"
    case neg =>
      rw [decide_eq_false hz]
      exact iteF (iteF (no fun x => hz x.2.1))
    rw [decide_eq_true hz]
    refine iteT ⟨_, rfl, pm, _, rfl, .inr L.hp, rfl, _, rfl, ?_⟩
    rw [dpA_len L.hr, dec_i]
    by_cases hl : ds.length = 2
    case neg =>
      rw [decide_eq_false (by omega)]
      exact iteF (iteF (no fun x => hl x.2.2.1))
    rw [decide_eq_true (by omega)]
    obtain ⟨da, db, rfl⟩ : ∃ a b, ds = [a, b] := by
      match ds, hl with
      | [a, b], _ => exact ⟨a, b, rfl⟩
    obtain ⟨xa, xr, rfl, ha, hxr⟩ := dpA_cons L.hr
    obtain ⟨xb, xr, rfl, hb, hxr⟩ := dpA_cons hxr
    obtain ⟨pc, cx, rfl, hpc, hcx⟩ := dp_tup L.hc
    have hcl : cx.length = cs.length := by
      have := dpA_len hcx
      rw [List.length_map] at this
      exact this
    refine iteT ⟨_, rfl, pm, _, 0, xa, rfl, rfl, L.hp, atI_nat (j := 0) rfl, _, rfl, pc, _, rfl, .inr hpc, _, 1, rfl, rfl, xa, da, 0, _, rfl, ha, _, rfl, ?_⟩
    rw [hcl]
    cases hg : amg da 0 ((cs.length : Int) - 1) with
    | false => exact iteF (no fun x => by have h2 : amg da 0 ((cs.length : Int) - 1) = true := x.2.2.2; rw [hg] at h2; cases h2)
    | true =>
    obtain ⟨k, rfl, hk⟩ : ∃ k : Nat, da = .int (k : Nat) ∧ k < cs.length := by
      cases da with
      | int i =>
        have h2 : (decide (0 ≤ i) && decide (i ≤ (cs.length : Int) - 1)) = true := hg
        rw [Bool.and_eq_true, decide_eq_true_eq, decide_eq_true_eq] at h2
        exact ⟨i.toNat, by rw [Int.toNat_of_nonneg h2.1], by omega⟩
      | _ => cases hg
    obtain ⟨vc, evc, dvc⟩ := dpA_get (i := k) (d := .int ((cs[k] : Nat) : Int)) hcx (by rw [List.getElem?_map]; simp [hk])
    cases dp_int dvc
    cases dp_int ha
    have hcA : cAt cs ((k : Nat) : Int) = ((cs[k] : Nat) : Int) := by
      unfold cAt
      rw [Int.toNat_natCast, List.getD_eq_getElem?_getD]
      simp [hk]
    refine iteT ⟨_, rfl, pm, _, 1, xb, rfl, rfl, L.hp, atI_nat (j := 1) rfl, _, rfl, _, rfl, pm, _, 0, _, rfl, rfl, L.hp, atI_nat (j := 0) rfl, pc, _, k, _, rfl, rfl, hpc, atI_nat evc, _, 1, rfl, rfl, xb, db, 0, _, rfl, hb, _, rfl, ?_⟩
    have fin2 : ∀ H2 v2, LS K H0 H2 pm _ _ _ cs v2 (if amg db 0 (((cs[k] : Nat) : Int) - 1) = true then some [] else none) → tt D (stL t (.ref pc) .non z pm v2 y6 y7 y8 y9) H2 := fun H2 v2 L2 => fin H2 v2 _ _ (by
      show LS K H0 H2 pm _ _ _ cs v2 (o5 cs none z [.int ((k : Nat) : Int), db] o)
      unfold o5
      rw [if_pos ⟨rfl, hz, rfl, hg⟩]
      show LS K H0 H2 pm _ _ _ cs v2 (if amg db 0 (cAt cs ((k : Nat) : Int) - 1) = true then some [] else none)
      rw [hcA]
      exact L2)
    cases hg2 : amg db 0 (((cs[k] : Nat) : Int) - 1) with
    | false =>
      rw [hg2] at fin2
      exact iteF (fin2 _ _ (L.put rfl))
    | true =>
    rw [hg2] at fin2
    exact iteT ⟨Nat.zero_le _, fun pi npi => fin2 _ _ ((L.gr (Gr.new npi)).put ⟨pi, [], rfl, upd_same, rfl, fun i x h => by cases h⟩)⟩
theorem step6 (HA' : Has P w K mg base (q + 2) "_law_among" ["_law_thing", "_law_least", "_law_most"] (spAmg K) fA fdA) (N : LookNames mg)
    (hr : Room (q + 2) (A.deeper (envOfC "_law_looked" (defScope sLook) s.heap.objs.size f cdv))) : Step P w K mg base f cdv A outer s H E 5 6 (fun _ => o6) := by
  have nd := scLook.nd
  intro tt dT
  refine' ⟨_, pss_cons ?d dT, ?r⟩
  case d =>
    exact ps_if (PW.pt (pw_and (pt_cmpR op_isN (pv 2) pe_non (nomark _)) (pw_and (pt_cmpR op_eq (pv 3) pe_str (nomark _)) (pw_and (pt_cmpR op_eq (pe_callB call_len_seq (by rfl) N.ml PySem.boot_len (pa_cons (pv 4) pa_nil)) pe_int (nomark _))
          (pw_and1 (pt_val (hcall HA' hr (pa_cons (pe_ix ix_tup (pv 4) pe_int (fun _ _ => rfl)) (pa_cons pe_int (pa_cons pe_int pa_nil))))))))))
          (pss_one (ps_set (i := 5) nd rfl (.inl rfl) (pe_lst (pa_cons (pe_tup (pa_cons (pe_ix ix_tup (pv 4) pe_int (fun _ _ => rfl)) (pa_cons pe_non pa_nil))) pa_nil)))) pss_nil
  case r =>
    intro D H0 H1 t c m z pm rest ds cs v o y6 y7 y8 y9 L fin
    have no : ¬ (m = none ∧ z = "rest" ∧ ds.length = 2 ∧ amg (d1 ds) 2 99 = true) → tt D (stL t c (kV m) z pm v y6 y7 y8 y9) H1 := fun hn => fin H1 v _ _ (by show LS K H0 H1 pm rest ds c cs v (o6 m z ds o); unfold o6; rw [if_neg hn]; exact L)
    cases m with
    | some m => exact ⟨_, rfl, rfl, _, rfl, iteF (iteF (no fun x => by cases x.1))⟩
    | none =>
    refine ⟨_, rfl, rfl, _, rfl, iteT ⟨_, rfl, rfl, _, rfl, ?_⟩⟩
    rw [dec_s]
    by_cases hz : z = "rest"
    case neg =>
      rw [decide_eq_false hz]
      exact iteF (iteF (no fun x => hz x.2.1))
    rw [decide_eq_true hz]
    refine iteT ⟨_, rfl, pm, _, rfl, .inr L.hp, rfl, _, rfl, ?_⟩
    rw [dpA_len L.hr, dec_i]
    by_cases hl : ds.length = 2
    case neg =>
      rw [decide_eq_false (by omega)]
      exact iteF (iteF (no fun x => hl x.2.2.1))
    rw [decide_eq_true (by omega)]
    obtain ⟨da, db, rfl⟩ : ∃ a b, ds = [a, b] := by
      match ds, hl with
      | [a, b], _ => exact ⟨a, b, rfl⟩
    obtain ⟨xa, xr, rfl, ha, hxr⟩ := dpA_cons L.hr
    obtain ⟨xb, xr, rfl, hb, hxr⟩ := dpA_cons hxr
    refine iteT ⟨_, rfl, pm, _, 1, xb, rfl, rfl, L.hp, atI_nat (j := 1) rfl, xb, db, 2, 99, rfl, hb, _, rfl, ?_⟩
    cases hg : amg db 2 99 with
    | false => exact iteF (no fun x => by have h2 : amg db 2 99 = true := x.2.2.2; rw [hg] at h2; cases h2)
    | true =>
    refine iteT ⟨_, rfl, pm, _, 0, xa, rfl, rfl, L.hp, atI_nat (j := 0) rfl, by show 2 ≤ sizeLine; decide, fun tn nt => ⟨by show 1 ≤ sizeLine; decide, fun pi npi => ?_⟩⟩
    refine fin _ (.ref pi) _ _ ?_
    show LS K H0 _ pm _ _ c cs _ (o6 none z [da, db] o)
    unfold o6
    rw [if_pos ⟨rfl, hz, rfl, hg⟩]
    refine (L.gr ((Gr.new nt).trans (Gr.new npi))).put ⟨pi, [.ref tn], rfl, upd_same, rfl, fun i x h => ?_⟩
    have e0 : i = 0 := by
      rcases Nat.eq_zero_or_pos i with e | e
      · exact e
      · rw [List.getElem?_eq_none (by show 1 ≤ _; exact e)] at h
        cases h
    subst e0
    cases h
    exact ⟨tn, xa, (da, none), rfl, .inl (.inl ((Gr.new npi).tup upd_same)), rfl, ((Gr.new nt).trans (Gr.new npi)).kd.dp ha⟩
end
end
end SfM
set_option maxRecDepth 10000000
namespace SfM
open PySem PySem.Spec PyProof.Rows L2 SfG SfC
theorem small10000000 {n : Nat} (h : n ≤ 10000000) : n < sizeLine := by
  rw [sizeLine_eq]
  omega
section
variable {P : Program} {w : World} {K : PySem.W.Frag} {mg : Str → Option Value} {base : Heap}
section
variable {f fA : Addr} {fdA : FuncData} {q : Nat} {cdv : Value} {A : Around} {outer : List Env} {s : Shared} {H : Hp} {E : XK}
set_option maxHeartbeats 10000000 in
theorem step8 (N : LookNames mg) (hr : Room (q + 2) (A.deeper (envOfC "_law_looked" (defScope sLook) s.heap.objs.size f cdv))) : Step P w K mg base f cdv A outer s H E 6 8 (fun _ => o8) := by
  have nd := scLook.nd
  intro tt dT
  refine' ⟨_, pss_cons ?d7 (pss_cons ?d8 dT), ?r⟩
  case d7 =>
    exact ps_set (i := 6) nd rfl (.inl rfl) (pe_disp (pps_cons pe_str pe_int (pps_cons pe_str pe_int (pps_cons pe_str pe_int (pps_cons pe_str pe_int (pps_cons pe_str pe_int (pps_cons pe_str pe_int pps_nil)))))) (by rfl) (by rfl) (fun z => by cases z) (by decide))
  case d8 =>
    exact ps_if (PW.pt (pw_and (pt_cmpR op_isN (pv 2) pe_non (nomark _)) (pw_and1 (pt_chain op_eq op_gt (pe_dget2 (hu_of hr) (pv 6) (pv 3) pe_int ⟨rfl, rfl, rfl, rfl⟩) (pe_callB call_len_seq (by rfl) N.ml PySem.boot_len (pa_cons (pv 4) pa_nil)) pe_int))))
          (pss_one (ps_setLc (i := 5) (own := [("_law_one", 8)]) (g := gName 8) rfl nd rfl rfl (sw_true rfl rfl rfl (by decide +kernel)) (pi_tup (pv 4)) (blkOk_by (own := [("_law_one", 8)]) (N := nLook) (sc := defScope sLook) (by decide +kernel))
            (fun _ _ _ _ _ => pg_name (i := 8) nd rfl (Or.inl rfl)) (fun _ _ _ _ _ => pts_nil) (fun _ _ _ _ _ => pe_tup (pa_cons (pv 8) (pa_cons pe_non pa_nil))))) pss_nil
  case r =>
    intro D H0 H1 t c m z pm rest ds cs v o y6 y7 y8 y9 L fin
    intro sz nsz
    refine ⟨upd_same, sz6, rfl, by decide, ?_⟩
    have g3 : Gr H1 (upd (upd H1 sz (.dK [])) sz (.dK (mergeK [] sz6))) := gr_new2 nsz
    have hsz : upd (upd H1 sz (.dK [])) sz (.dK (mergeK [] sz6)) sz = some (.dK sz6) := upd_same
    have L3 := L.gr g3
    generalize upd (upd H1 sz (.dK [])) sz (.dK (mergeK [] sz6)) = H3 at g3 hsz L3 ⊢
    have no : ¬ (m = none ∧ szs z = ds.length ∧ 0 < ds.length) → tt D (stL t c (kV m) z pm v (some (.ref sz)) y7 y8 y9) H3 := fun hn => fin H3 v _ _ (by show LS K H0 H3 pm rest ds c cs v (o8 m z ds o); unfold o8; rw [if_neg hn]; exact L3)
    cases m with
    | some m => exact ⟨_, rfl, rfl, _, rfl, iteF (iteF (no fun x => by cases x.1))⟩
    | none =>
    obtain ⟨ov, hov, hcase⟩ := val_sz z
    have lr := dpA_len L3.hr
    have e1 : ov.getD (V.int 0) = .int ((szs z : Nat) : Int) := by
      rcases hcase with ⟨rfl, h2⟩ | ⟨rfl, h2⟩
      · rw [h2]; rfl
      · rfl
    refine ⟨_, rfl, rfl, _, rfl, iteT ⟨_, rfl, sz, rfl, .inl ⟨_, .inl hsz⟩, _, rfl, ov, .inl ⟨_, Sum.inr z, .inl hsz, rfl, hov⟩, _, rfl, pm, _, rfl, .inr L3.hp, ?_⟩⟩
    rw [e1, lr]
    refine ⟨rfl, _, rfl, ?_⟩
    rw [dec_i]
    by_cases hs : szs z = ds.length
    case neg =>
      rw [decide_eq_false (by omega)]
      exact iteF ⟨_, rfl, iteF (no fun x => hs x.2.1)⟩
    rw [decide_eq_true (by omega)]
    refine iteT ⟨_, 0, rfl, rfl, _, rfl, ?_⟩
    by_cases hp : 0 < ds.length
    case neg =>
      rw [decide_eq_false (by omega)]
      exact iteF (no fun x => hp x.2.2)
    rw [decide_eq_true (by omega)]
    refine iteT ⟨_, rfl, pm, rfl, ⟨_, L3.hp⟩, fun D1 nD => ?_⟩
    refine lc_it (walk_tup (xs := rest)) (fun i H4 => ∃ ps : List V, H4 D1 = some (.lst ps) ∧ ps.length = i ∧ Gr H3 H4 ∧ Prs H4 rest ps) ?z0 ?z1 ?z2 ?z3
    case z0 => exact ⟨[], upd_same, rfl, Gr.new nD, fun j x h => by cases h⟩
    case z1 =>
      rintro i H4 hi ⟨ps, hD, hl, g4, hP⟩
      exact g4.sqt L3.hp
    case z2 =>
      rintro i x H4 H4' hi ⟨ps, hD, hl, g4, hP⟩ ⟨rfl, hx⟩
      refine ⟨rfl, ?_⟩
      unfold tYes
      refine iteT ⟨_, rfl, by show 2 ≤ sizeLine; decide, fun tn nt => ?_⟩
      have nDt : D1 ≠ tn := ne_of_none hD nt
      have sm := L3.sm
      refine ⟨ps, (upd_ne nDt).trans hD, small10000000 (by omega), ps ++ [.ref tn], upd_same, ?_, ?_, ?_⟩
      · rw [List.length_append, hl]
        rfl
      · exact Gr.upd_new (g4.trans (Gr.new nt)) nD
      · exact hP.step hD nt (by rw [hl]; exact hx)
    case z3 =>
    rintro H5 ⟨ps, hD, hl, g5, hP⟩
    refine fin _ (.ref D1) _ _ ?_
    show LS K H0 _ pm _ _ c cs _ (o8 none z ds o)
    unfold o8
    rw [if_pos ⟨rfl, hs, hp⟩]
    exact (L3.gr g5).put ⟨D1, ps, rfl, hD, nx_of hP hl (g5.kd.dpA L3.hr)⟩
theorem step9 (N : LookNames mg) (hr : Room (q + 2) (A.deeper (envOfC "_law_looked" (defScope sLook) s.heap.objs.size f cdv))) : Step P w K mg base f cdv A outer s H E 8 9 (fun _ => o9) := by
  have nd := scLook.nd
  intro tt dT
  refine' ⟨_, pss_cons ?d dT, ?r⟩
  case d =>
    exact ps_if (PW.pt (pw_and (pt_cmpR op_notN (pv 2) pe_non (nomark _)) (pw_and (pt_cmpR op_eq (pv 3) pe_str (nomark _)) (pw_and1 (pt_cmpR (op_eqT0 hr) (pv 4) (pe_tup pa_nil) (nomark _))))))
          (pss_one (ps_set (i := 5) nd rfl (.inl rfl) (pe_lst pa_nil))) pss_nil
  case r =>
    intro D H0 H1 t c m z pm rest ds cs v o y6 y7 y8 y9 L fin
    have no : ∀ H2, Gr H1 H2 → ¬ (m ≠ none ∧ z = "refuse" ∧ ds = []) → tt D (stL t c (kV m) z pm v y6 y7 y8 y9) H2 := fun H2 g hn => fin H2 v _ _ (by show LS K H0 H2 pm rest ds c cs v (o9 m z ds o); unfold o9; rw [if_neg hn]; exact L.gr g)
    cases m with
    | none => exact ⟨_, rfl, rfl, _, rfl, iteF (iteF (no _ (Gr.refl _) fun x => x.1 rfl))⟩
    | some m =>
    refine ⟨_, rfl, rfl, _, rfl, iteT ⟨_, rfl, rfl, _, rfl, ?_⟩⟩
    rw [dec_s]
    by_cases hz : z = "refuse"
    case neg =>
      rw [decide_eq_false hz]
      exact iteF (iteF (no _ (Gr.refl _) fun x => hz x.2.1))
    rw [decide_eq_true hz]
    refine iteT ⟨_, rfl, by show 0 ≤ sizeLine; decide, fun p3 np3 => ?_⟩
    have g4 : Gr H1 (upd H1 p3 (.tup [])) := Gr.new np3
    refine ⟨pm, p3, rest, rfl, rfl, g4.sqt L.hp, .inl (.inl upd_same), _, rfl, ?_⟩
    cases ds with
    | cons a r =>
      obtain ⟨x1, xr, rfl, _, _⟩ := dpA_cons L.hr
      exact iteF (no _ g4 fun x => by cases x.2.2)
    | nil =>
    cases dpA_nil L.hr
    refine iteT ⟨Nat.zero_le _, fun pi npi => ?_⟩
    refine fin _ (.ref pi) _ _ ?_
    show LS K H0 _ pm _ _ c cs _ (o9 (some m) z [] o)
    unfold o9
    rw [if_pos ⟨by simp, hz, rfl⟩]
    exact (L.gr (g4.trans (Gr.new npi))).put ⟨pi, [], rfl, upd_same, rfl, fun i x h => by cases h⟩
set_option maxHeartbeats 10000000 in
theorem step10 (N : LookNames mg) (hr : Room (q + 2) (A.deeper (envOfC "_law_looked" (defScope sLook) s.heap.objs.size f cdv))) : Step P w K mg base f cdv A outer s H E 9 10 (fun _ => o10) := by
  have nd := scLook.nd
  intro tt dT
  refine' ⟨_, pss_cons ?d dT, ?r⟩
  case d =>
    exact ps_if (PW.pt (pw_and (pt_cmpR op_notN (pv 2) pe_non (nomark _)) (pw_and (pt_cmpR op_eq (pv 3) pe_str (nomark _)) (pw_and (pt_cmpR op_eq (pe_callB call_len_seq (by rfl) N.ml PySem.boot_len (pa_cons (pv 4) pa_nil)) pe_int (nomark _))
          (pw_and (pt_val (pe_callB call_isi (by rfl) N.mi (by decide +kernel) (pa_cons (pe_ix ix_tup (pv 4) pe_int (fun _ _ => rfl)) (pa_cons (pe_bltn (v := .ty "tuple") (by rfl) N.mt (by decide +kernel) rfl) pa_nil))))
          (pw_and1 (pt_cmpR op_eq (pe_callB call_len_seq (by rfl) N.ml PySem.boot_len (pa_cons (pe_ix ix_tup (pv 4) pe_int (fun _ _ => rfl)) pa_nil)) (pv 2) (nomark _))))))))
          (pss_one (ps_setLc (i := 5) (own := [("_law_one", 8)]) (g := gName 8) rfl nd rfl rfl (sw_true rfl rfl rfl (by decide +kernel)) (pi_tup (pe_ix ix_tup (pv 4) pe_int (fun _ _ => rfl))) (blkOk_by (own := [("_law_one", 8)]) (N := nLook) (sc := defScope sLook) (by decide +kernel))
            (fun _ _ _ _ _ => pg_name (i := 8) nd rfl (Or.inl rfl)) (fun _ _ _ _ _ => pts_nil) (fun _ _ _ _ _ => pe_tup (pa_cons (pv 8) (pa_cons pe_non pa_nil))))) pss_nil
  case r =>
    intro D H0 H1 t c m z pm rest ds cs v o y6 y7 y8 y9 L fin
    have no : ¬ (m ≠ none ∧ z = "give" ∧ ds.length = 1 ∧ isT (d0 ds) = true ∧ m = some (esOf (d0 ds)).length) → tt D (stL t c (kV m) z pm v y6 y7 y8 y9) H1 := fun hn => fin H1 v _ _ (by show LS K H0 H1 pm rest ds c cs v (o10 m z ds o); unfold o10; rw [if_neg hn]; exact L)
    cases m with
    | none => exact ⟨_, rfl, rfl, _, rfl, iteF (iteF (no fun x => x.1 rfl))⟩
    | some m =>
    refine ⟨_, rfl, rfl, _, rfl, iteT ⟨_, rfl, rfl, _, rfl, ?_⟩⟩
    rw [dec_s]
    by_cases hz : z = "give"
    case neg =>
      rw [decide_eq_false hz]
      exact iteF (iteF (no fun x => hz x.2.1))
    rw [decide_eq_true hz]
    refine iteT ⟨_, rfl, pm, _, rfl, .inr L.hp, rfl, _, rfl, ?_⟩
    rw [dpA_len L.hr, dec_i]
    by_cases hl : ds.length = 1
    case neg =>
      rw [decide_eq_false (by omega)]
      exact iteF (iteF (no fun x => hl x.2.2.1))
    rw [decide_eq_true (by omega)]
    obtain ⟨da, rfl⟩ : ∃ a, ds = [a] := by
      match ds, hl with
      | [a], _ => exact ⟨a, rfl⟩
    obtain ⟨xa, xr, rfl, ha, hxr⟩ := dpA_cons L.hr
    have hIa := dp_is ha
    refine iteT ⟨_, rfl, pm, _, 0, xa, rfl, rfl, L.hp, atI_nat (j := 0) rfl, xa, .ty "tuple", .type (tyD da), .type "tuple", (tyD da == "tuple"), rfl, .ty "tuple", hIa.1, kit_ty (kit_tuple _ hIa.2), _, rfl, ?_⟩
    rcases tup_is da with h1 | ⟨es, rfl⟩
    · rw [h1]
      exact iteF (iteF (no fun x => by have h2 : (tyD da == "tuple") = true := x.2.2.2.1; rw [h1] at h2; cases h2))
    rw [show (tyD (.tuple es) == "tuple") = true from by show ("tuple" == "tuple") = true; decide]
    obtain ⟨pg, ys, rfl, hpg, hys⟩ := dp_tup ha
    have ly := dpA_len hys
    refine iteT ⟨_, rfl, pm, _, 0, _, rfl, rfl, L.hp, atI_nat (j := 0) rfl, pg, _, rfl, .inr hpg, _, rfl, rfl, _, rfl, ?_⟩
    show (if decide (V.int ((ys.length : Nat) : Int) = V.int ((m : Nat) : Int)) = true then _ else _)
    rw [dec_i]
    by_cases hm : m = es.length
    case neg =>
      rw [decide_eq_false (by omega)]
      exact iteF (no fun x => hm (Option.some.inj x.2.2.2.2))
    rw [decide_eq_true (by omega)]
    refine iteT ⟨_, rfl, pm, _, 0, _, rfl, rfl, L.hp, atI_nat (j := 0) rfl, pg, rfl, ⟨_, hpg⟩, fun D1 nD => ?_⟩
    refine lc_it (walk_tup (xs := ys)) (fun i H4 => ∃ ps : List V, H4 D1 = some (.lst ps) ∧ ps.length = i ∧ Gr H1 H4 ∧ Prs H4 ys ps) ?z0 ?z1 ?z2 ?z3
    case z0 => exact ⟨[], upd_same, rfl, Gr.new nD, fun j x h => by cases h⟩
    case z1 =>
      rintro i H4 hi ⟨ps, hD, hl, g4, hP⟩
      exact g4.sqt hpg
    case z2 =>
      rintro i x H4 H4' hi ⟨ps, hD, hl, g4, hP⟩ ⟨rfl, hx⟩
      refine ⟨rfl, ?_⟩
      unfold tYes
      refine iteT ⟨_, rfl, by show 2 ≤ sizeLine; decide, fun tn nt => ?_⟩
      have nDt : D1 ≠ tn := ne_of_none hD nt
      have sm : es.length ≤ 10000000 := L.sm1 _ (List.mem_singleton.mpr rfl)
      refine ⟨ps, (upd_ne nDt).trans hD, small10000000 (by omega), ps ++ [.ref tn], upd_same, ?_, ?_, ?_⟩
      · rw [List.length_append, hl]
        rfl
      · exact Gr.upd_new (g4.trans (Gr.new nt)) nD
      · exact hP.step hD nt (by rw [hl]; exact hx)
    case z3 =>
    rintro H5 ⟨ps, hD, hl, g5, hP⟩
    refine fin _ (.ref D1) _ _ ?_
    show LS K H0 _ pm _ _ c cs _ (o10 (some m) z [.tuple es] o)
    unfold o10
    rw [if_pos ⟨by simp, hz, rfl, (by show ("tuple" == "tuple") = true; decide), (by rw [hm]; rfl)⟩]
    exact (L.gr g5).put ⟨D1, ps, rfl, hD, nx_of hP hl (g5.kd.dpA hys)⟩
theorem step11 (N : LookNames mg) (hr : Room (q + 2) (A.deeper (envOfC "_law_looked" (defScope sLook) s.heap.objs.size f cdv))) : Step P w K mg base f cdv A outer s H E 10 11 (fun _ => o11) := by
  have nd := scLook.nd
  intro tt dT
  refine' ⟨_, pss_cons ?d dT, ?r⟩
  case d =>
    exact ps_if (PW.pt (pw_and (pt_cmpR op_notN (pv 2) pe_non (nomark _)) (pw_and (pt_cmpR op_eq (pv 3) pe_str (nomark _)) (pw_and1 (pt_cmpR op_eq (pe_callB call_len_seq (by rfl) N.ml PySem.boot_len (pa_cons (pv 4) pa_nil)) pe_int (nomark _))))))
          (pss_one (ps_set (i := 5) nd rfl (.inl rfl) (pe_lst (pa_cons (pe_tup (pa_cons (pe_ix ix_tup (pv 4) pe_int (fun _ _ => rfl)) (pa_cons pe_non pa_nil))) (pa_cons (pe_tup (pa_cons (pe_ix ix_tup (pv 4) pe_int (fun _ _ => rfl)) (pa_cons (pv 2) pa_nil)))
            (pa_cons (pe_tup (pa_cons (pe_ix ix_tup (pv 4) pe_int (fun _ _ => rfl)) (pa_cons (pv 2) pa_nil))) pa_nil)))))) pss_nil
  case r =>
    intro D H0 H1 t c m z pm rest ds cs v o y6 y7 y8 y9 L fin
    have no : ¬ (m ≠ none ∧ z = "when" ∧ ds.length = 3) → tt D (stL t c (kV m) z pm v y6 y7 y8 y9) H1 := fun hn => fin H1 v _ _ (by show LS K H0 H1 pm rest ds c cs v (o11 m z ds o); unfold o11; rw [if_neg hn]; exact L)
    cases m with
    | none => exact ⟨_, rfl, rfl, _, rfl, iteF (iteF (no fun x => x.1 rfl))⟩
    | some m =>
    refine ⟨_, rfl, rfl, _, rfl, iteT ⟨_, rfl, rfl, _, rfl, ?_⟩⟩
    rw [dec_s]
    by_cases hz : z = "when"
    case neg =>
      rw [decide_eq_false hz]
      exact iteF (iteF (no fun x => hz x.2.1))
    rw [decide_eq_true hz]
    refine iteT ⟨_, rfl, pm, _, rfl, .inr L.hp, rfl, _, rfl, ?_⟩
    rw [dpA_len L.hr, dec_i]
    by_cases hl : ds.length = 3
    case neg =>
      rw [decide_eq_false (by omega)]
      exact iteF (no fun x => hl x.2.2)
    rw [decide_eq_true (by omega)]
    obtain ⟨da, db, dc, rfl⟩ : ∃ a b c, ds = [a, b, c] := by
      match ds, hl with
      | [a, b, c], _ => exact ⟨a, b, c, rfl⟩
    obtain ⟨v1, xr, rfl, e1, hxr⟩ := dpA_cons L.hr
    obtain ⟨v2, xr, rfl, e2, hxr⟩ := dpA_cons hxr
    obtain ⟨v3, xr, rfl, e3, hxr⟩ := dpA_cons hxr
    refine iteT ⟨_, rfl, pm, _, 0, v1, rfl, rfl, L.hp, atI_nat (j := 0) rfl, by show 2 ≤ sizeLine; decide, fun t1 nt1 => ?_⟩
    have k1 : Gr H1 (upd H1 t1 (.tup [v1, .non])) := Gr.new nt1
    refine ⟨_, rfl, pm, _, 1, v2, rfl, rfl, k1.sqt L.hp, atI_nat (j := 1) rfl, _, rfl, by show 2 ≤ sizeLine; decide, fun t2 nt2 => ?_⟩
    have k2 : Gr (upd H1 t1 (.tup [v1, .non])) (upd (upd H1 t1 (.tup [v1, .non])) t2 (.tup [v2, .int (m : Nat)])) := Gr.new nt2
    refine ⟨_, rfl, pm, _, 2, v3, rfl, rfl, (k1.trans k2).sqt L.hp, atI_nat (j := 2) rfl, _, rfl, by show 2 ≤ sizeLine; decide, fun t3 nt3 => ?_⟩
    have k3 : Gr (upd (upd H1 t1 (.tup [v1, .non])) t2 (.tup [v2, .int (m : Nat)])) (upd (upd (upd H1 t1 (.tup [v1, .non])) t2 (.tup [v2, .int (m : Nat)])) t3 (.tup [v3, .int (m : Nat)])) := Gr.new nt3
    refine ⟨by show 3 ≤ sizeLine; decide, fun pi npi => ?_⟩
    have k4 := Gr.new (o := .lst [.ref t1, .ref t2, .ref t3]) npi
    have f1 := (k2.trans (k3.trans k4)).tup (upd_same (H := H1) (a := t1) (o := .tup [v1, .non]))
    have f2 := (k3.trans k4).tup (upd_same (H := upd H1 t1 (.tup [v1, .non])) (a := t2) (o := .tup [v2, .int (m : Nat)]))
    have f3 := k4.tup (upd_same (H := upd (upd H1 t1 (.tup [v1, .non])) t2 (.tup [v2, .int (m : Nat)])) (a := t3) (o := .tup [v3, .int (m : Nat)]))
    have kk := k1.trans (k2.trans (k3.trans k4))
    refine fin _ (.ref pi) _ _ ?_
    show LS K H0 _ pm _ _ c cs _ (o11 (some m) z [da, db, dc] o)
    unfold o11
    rw [if_pos ⟨by simp, hz, rfl⟩]
    refine (L.gr kk).put ⟨pi, [.ref t1, .ref t2, .ref t3], rfl, upd_same, rfl, fun i x hx => ?_⟩
    have c3 : i = 0 ∨ i = 1 ∨ i = 2 := by
      rcases Nat.lt_or_ge i 3 with z | z
      · omega
      · rw [List.getElem?_eq_none (by show 3 ≤ _; exact z)] at hx
        cases hx
    rcases c3 with rfl | rfl | rfl
    · cases hx
      exact ⟨t1, v1, (da, none), rfl, .inl (.inl f1), rfl, kk.kd.dp e1⟩
    · cases hx
      exact ⟨t2, v2, (db, some m), rfl, .inl (.inl f2), rfl, kk.kd.dp e2⟩
    · cases hx
      exact ⟨t3, v3, (dc, some m), rfl, .inl (.inl f3), rfl, kk.kd.dp e3⟩
end
end
end SfM
namespace SfM
open PySem PySem.Spec PyProof.Rows L2 SfG SfC
def two (ab : Int × Int) : PyData := .tuple [.int ab.1, .int ab.2]
/-- pairs of numbers, told so far -/
def TwoAt (H : Hp) (rs : List V) (abs : List (Int × Int)) : Prop := rs.length = abs.length ∧ ∀ (j : Nat) (ab : Int × Int), abs[j]? = some ab → ∃ p, rs[j]? = some (.ref p) ∧ H p = some (.tup [.int ab.1, .int ab.2])
theorem TwoAt.gr {H H' : Hp} {rs : List V} {abs : List (Int × Int)} (h : TwoAt H rs abs) (g : Gr H H') : TwoAt H' rs abs := ⟨h.1, fun j ab e => by
  obtain ⟨p, h1, h2⟩ := h.2 j ab e
  exact ⟨p, h1, g.tup h2⟩⟩
theorem TwoAt.upd {H : Hp} {D : Addr} {l : List V} {o : HO} {rs : List V} {abs : List (Int × Int)} (h : TwoAt H rs abs) (hD : H D = some (.lst l)) : TwoAt (upd H D o) rs abs := ⟨h.1, fun j ab e => by
  obtain ⟨p, h1, h2⟩ := h.2 j ab e
  refine ⟨p, h1, (upd_ne fun z => ?_).trans h2⟩
  rw [z, hD] at h2
  cases h2⟩
theorem TwoAt.snoc {H : Hp} {rs : List V} {abs : List (Int × Int)} {p : Addr} {a b : Int} (h : TwoAt H rs abs) (hp : H p = some (.tup [.int a, .int b])) : TwoAt H (rs ++ [.ref p]) (abs ++ [(a, b)]) := by
  refine ⟨by rw [List.length_append, List.length_append, h.1]; rfl, fun j ab e => ?_⟩
  by_cases hj : j < abs.length
  · rw [List.getElem?_append_left hj] at e
    obtain ⟨p', h1, h2⟩ := h.2 j ab e
    exact ⟨p', by rw [List.getElem?_append_left (by rw [h.1]; exact hj)]; exact h1, h2⟩
  · rw [List.getElem?_append_right (by omega)] at e
    have hj0 : j - abs.length = 0 := by
      rcases Nat.eq_zero_or_pos (j - abs.length) with z | z
      · exact z
      · rw [List.getElem?_eq_none (by show 1 ≤ _; exact z)] at e
        cases e
    rw [hj0] at e
    have e' : (a, b) = ab := Option.some.inj e
    refine ⟨p, ?_, by rw [← e']; exact hp⟩
    rw [List.getElem?_append_right (by rw [h.1]; omega), h.1, hj0]
    rfl
theorem TwoAt.at {H : Hp} {rs : List V} {abs : List (Int × Int)} (h : TwoAt H rs abs) {i : Nat} {x : V} (hx : rs[i]? = some x) : ∃ ab p, abs[i]? = some ab ∧ x = .ref p ∧ H p = some (.tup [.int ab.1, .int ab.2]) := by
  have hi : i < rs.length := by
    rcases Nat.lt_or_ge i rs.length with h1 | h1
    · exact h1
    · rw [List.getElem?_eq_none h1] at hx
      cases hx
  have hi' : i < abs.length := by rw [← h.1]; exact hi
  obtain ⟨p, h1, h2⟩ := h.2 i abs[i] (by simp [hi'])
  rw [hx] at h1
  exact ⟨abs[i], p, by simp [hi'], Option.some.inj h1, h2⟩
/-- None, or a pair of numbers -/
def twoO : Option (Int × Int) → PyData
  | none => .none
  | some ab => two ab
/-- the greatest of some, 0 too -/
def mxI (l : List Int) : Int := l.foldr max 0
theorem mxI_ge : ∀ (l : List Int), 0 ≤ mxI l ∧ ∀ y ∈ l, y ≤ mxI l
  | [] => ⟨Int.le_refl 0, fun y h => by cases h⟩
  | a :: r => by
    obtain ⟨h1, h2⟩ := mxI_ge r
    have e : mxI (a :: r) = max a (mxI r) := rfl
    rw [e]
    refine ⟨by omega, fun y h => ?_⟩
    rcases List.mem_cons.mp h with rfl | h
    · omega
    · have := h2 y h
      omega
theorem mxI_mem : ∀ (l : List Int), mxI l ∈ (0 :: l)
  | [] => List.mem_cons_self
  | a :: r => by
    have h := mxI_mem r
    have e : mxI (a :: r) = max a (mxI r) := rfl
    rw [e]
    rcases Int.le_total a (mxI r) with z | z
    · rw [show max a (mxI r) = mxI r by omega]
      rcases List.mem_cons.mp h with h | h
      · rw [h]
        exact List.mem_cons_self
      · exact List.mem_cons_of_mem _ (List.mem_cons_of_mem _ h)
    · rw [show max a (mxI r) = a by omega]
      exact List.mem_cons_of_mem _ List.mem_cons_self
theorem mxI_is {l : List Int} {m : Int} (h1 : m ∈ (0 :: l)) (h2 : ∀ y ∈ (0 :: l), y ≤ m) : m = mxI l := by
  have a := h2 _ (mxI_mem l)
  obtain ⟨b1, b2⟩ := mxI_ge l
  rcases List.mem_cons.mp h1 with h | h
  · omega
  · have := b2 m h
    omega
/-- all of them, where there is none without -/
def allO : List (Option (Int × Int)) → Option (List (Int × Int))
  | [] => some []
  | none :: _ => none
  | some x :: r => (allO r).map (x :: ·)
theorem allO_any : ∀ (l : List (Option (Int × Int))), allO l = none → ((l.map twoO).any fun z => PyData.eqv z .none) = true
  | [], h => by cases h
  | none :: r, _ => rfl
  | some x :: r, h => by
    have h2 : (allO r).map (x :: ·) = none := h
    have := allO_any r (Option.map_eq_none_iff.mp h2)
    rw [List.map_cons, List.any_cons, this, Bool.or_true]
theorem allO_some : ∀ (l : List (Option (Int × Int))) (abs : List (Int × Int)), allO l = some abs → l = abs.map some ∧ ((l.map twoO).any fun z => PyData.eqv z .none) = false
  | [], _, h => by
    cases h
    exact ⟨rfl, rfl⟩
  | none :: r, _, h => by cases h
  | some x :: r, abs, h => by
    obtain ⟨b, hb, rfl⟩ := Option.map_eq_some_iff.mp (show (allO r).map (x :: ·) = some abs from h)
    obtain ⟨h1, h2⟩ := allO_some r b hb
    refine ⟨by rw [List.map_cons, ← h1], ?_⟩
    rw [List.map_cons, List.any_cons, h2, Bool.or_false]
    rfl
def outL (rs : List (Option (Int × Int))) : Option (Int × Int) := (allO rs).map fun abs => (1 + (abs.map (·.1)).sum, 1 + mxI (abs.map (·.2)))
/-- how many parts and how deep: what the law's own look tells -/
def lk (cs : List Nat) : Nat → Option Nat → PyData → Option (Int × Int)
  | 0, _, _ => none
  | n + 1, m, d => match d with
    | .tuple (.str z :: ds) => match inn cs m z ds with
      | none => none
      | some l => outL (l.map fun dm => lk cs n dm.2 dm.1)
    | _ => none
def endL (cs : List Nat) (q : Nat) : Option Inn → Option (Int × Int)
  | none => none
  | some l => outL (l.map fun dm => lk cs q dm.2 dm.1)
theorem lk_tup (cs : List Nat) (n : Nat) (m : Option Nat) (z : Str) (ds : List PyData) : lk cs (n + 1) m (.tuple (.str z :: ds)) = endL cs n (inn cs m z ds) := by
  rw [lk]
  cases inn cs m z ds <;> rfl
theorem twoOs_shape (l : List (Option (Int × Int))) : SeqAt.shaped (.list (l.map twoO)) = true := by
  have h1 : PyData.canLayAll0 (l.map twoO) = true := by
    induction l with
    | nil => rfl
    | cons a r ih => cases a <;> simp only [List.map_cons, PyData.canLayAll0, twoO, two, PyData.canLay0, ih] <;> rfl
  have h2 : ∀ l : List (Option (Int × Int)), PyData.depthAll (l.map twoO) ≤ 2 := fun l => by
    induction l with
    | nil => simp [PyData.depthAll]
    | cons a r ih =>
      cases a <;> simp only [List.map_cons, PyData.depthAll, twoO, two, PyData.depth] <;> omega
  unfold SeqAt.shaped
  rw [PyData.canLay0, h1]
  refine decide_eq_true ?_
  rw [PyData.depth]
  have := h2 l
  omega
/-- so far told: None, or a pair -/
def TwoO (H : Hp) (rs : List V) (os : List (Option (Int × Int))) : Prop := rs.length = os.length ∧ ∀ (j : Nat) (o : Option (Int × Int)), os[j]? = some o → match o with
  | none => rs[j]? = some .non
  | some ab => ∃ p, rs[j]? = some (.ref p) ∧ H p = some (.tup [.int ab.1, .int ab.2])
theorem TwoO.gr {H H' : Hp} {rs : List V} {os : List (Option (Int × Int))} (h : TwoO H rs os) (g : Gr H H') : TwoO H' rs os := ⟨h.1, fun j o e => by
  have := h.2 j o e
  cases o with
  | none => exact this
  | some ab =>
    obtain ⟨p, h1, h2⟩ := this
    exact ⟨p, h1, g.tup h2⟩⟩
theorem TwoO.upd {H : Hp} {D : Addr} {l : List V} {o' : HO} {rs : List V} {os : List (Option (Int × Int))} (h : TwoO H rs os) (hD : H D = some (.lst l)) : TwoO (upd H D o') rs os := ⟨h.1, fun j o e => by
  have := h.2 j o e
  cases o with
  | none => exact this
  | some ab =>
    obtain ⟨p, h1, h2⟩ := this
    refine ⟨p, h1, (upd_ne fun z => ?_).trans h2⟩
    rw [z, hD] at h2
    cases h2⟩
theorem TwoO.snoc {H : Hp} {rs : List V} {os : List (Option (Int × Int))} {x : V} {o : Option (Int × Int)} (h : TwoO H rs os) (hx : match o with
  | none => x = .non
  | some ab => ∃ p, x = .ref p ∧ H p = some (.tup [.int ab.1, .int ab.2])) : TwoO H (rs ++ [x]) (os ++ [o]) := by
  refine ⟨by rw [List.length_append, List.length_append, h.1]; rfl, fun j o' e => ?_⟩
  by_cases hj : j < os.length
  · rw [List.getElem?_append_left hj] at e
    have := h.2 j o' e
    rw [List.getElem?_append_left (by rw [h.1]; exact hj)]
    exact this
  · rw [List.getElem?_append_right (by omega)] at e
    have hj0 : j - os.length = 0 := by
      rcases Nat.eq_zero_or_pos (j - os.length) with z | z
      · exact z
      · rw [List.getElem?_eq_none (by show 1 ≤ _; exact z)] at e
        cases e
    rw [hj0] at e
    cases e
    rw [List.getElem?_append_right (by rw [h.1]; omega), h.1, hj0]
    cases o with
    | none =>
      have hx' : x = .non := hx
      rw [hx']
      rfl
    | some ab =>
      obtain ⟨p, rfl, hp⟩ := hx
      exact ⟨p, rfl, hp⟩
theorem TwoO.dp {K : PySem.W.Frag} {H : Hp} : ∀ {rs : List V} {os : List (Option (Int × Int))}, TwoO H rs os → DpAll K H rs (os.map twoO)
  | [], [], _ => .nil
  | [], _ :: _, h => absurd h.1 (by simp)
  | _ :: _, [], h => absurd h.1 (by simp)
  | r :: rs, o :: os, h => by
    have t : TwoO H rs os := ⟨by simpa using h.1, fun j o' e' => h.2 (j + 1) o' e'⟩
    have h0 := h.2 0 o rfl
    cases o with
    | none =>
      have e : r = .non := Option.some.inj h0
      rw [e]
      exact .cons .non (TwoO.dp t)
    | some ab =>
      obtain ⟨p, h1, h2⟩ := h0
      have e : r = .ref p := Option.some.inj h1
      rw [e]
      exact .cons (.tup (.inl (.inl h2)) (.cons (.int _) (.cons (.int _) .nil))) (TwoO.dp t)
theorem TwoO.two {H : Hp} {rs : List V} {abs : List (Int × Int)} (h : TwoO H rs (abs.map some)) : TwoAt H rs abs := ⟨by rw [h.1, List.length_map], fun j ab e => h.2 j (some ab) (by rw [List.getElem?_map, e]; rfl)⟩
end SfM
set_option maxRecDepth 10000000
namespace SfM
open PySem PySem.Spec PyProof.Rows L2 SfG SfC
theorem small10000001 {n : Nat} (h : n ≤ 10000001) : n < sizeLine := by
  rw [sizeLine_eq]
  omega
/-- what stands within is no deeper, no greater -/
def FitI (q : Nat) (o : Option Inn) : Prop := ∀ l, o = some l → l.length ≤ 10000000 ∧ ∀ dm ∈ l, dm.1.depth < q ∧ wt dm.1 ≤ 10000000
section
variable {P : Program} {w : World} {K : PySem.W.Frag} {mg : Str → Option Value} {base : Heap}
def spLk (K : PySem.W.Frag) (q : Nat) : Sp := fun vs H Q _ => ∃ (t c : V) (d : PyData) (cs : List Nat) (m : Option Nat), vs = [t, c, kV m] ∧ Dp K H t d ∧ Dp K H c (cD cs) ∧ d.depth < q ∧ wt d ≤ 10000000 ∧ q ≤ 60 ∧
  (lk cs q m d = none → ∀ H', Gr H H' → Q .non H') ∧ ∀ a b, lk cs q m d = some (a, b) → ∀ H' p, Gr H H' → H' p = some (.tup [.int a, .int b]) → Q (.ref p) H'
set_option maxHeartbeats 2000000 in
theorem look_tail {f : Addr} {fd : FuncData} {q : Nat} {cdv : Value} {A : Around} {outer : List Env} {s : Shared} {H : Hp} {E : XK}
    (bL : Binds K fd ["_law_thing", "_law_counts", "_law_many"] []) (gL : mg "_law_looked" = some (.ref f)) (kL : PySem.W.keepIn K (.ref f) = true)
    (GL : FnOk P w K mg base CX0 (q + 2) f fd ["_law_thing", "_law_counts", "_law_many"] (spLk K q)) (N : LookNames mg)
    (hr : Room (q + 2) (A.deeper (envOfC "_law_looked" (defScope sLook) s.heap.objs.size f cdv))) (hq : q ≤ 60) :
    ∃ tt, PSs (cxOf CX0 P w K mg base nLook "_law_looked" (defScope sLook) f cdv A outer s H E).nox ((defBody sLook).drop 11) tt ∧
      ∀ (D : Ends) (H0 H1 : Hp) (t c k : V) (z : Str) (pm : Addr) (rest : List V) (ds : List PyData) (cs : List Nat) (v : V) (o : Option Inn) (y6 y7 y8 y9 : Option V), LS K H0 H1 pm rest ds c cs v o → FitI q o →
        (endL cs q o = none → ∀ H', Gr H0 H' → D.rt .non H') → (∀ a b, endL cs q o = some (a, b) → ∀ H' p, Gr H0 H' → H' p = some (.tup [.int a, .int b]) → D.rt (.ref p) H') →
        tt D (stL t c k z pm v y6 y7 y8 y9) H1 := by
  have nd := scLook.nd
  refine' ⟨_, pss_cons ?s1 (pss_cons ?s2 (pss_cons ?s3 (pss_one ?s4))), ?rd⟩
  case s1 =>
    exact ps_if (pt_cmpR op_isN (pv 5) pe_non (nomark _)) (pss_one (ps_ret pe_non)) pss_nil
  case s2 =>
    exact ps_setLc (i := 7) (own := [("_law_one", 8), ("_law_kind_here", 9)]) (g := gTup K 2 (gCons (gName 8) (gCons (gName 9) gNil))) rfl nd rfl rfl (sw_true rfl rfl rfl (by decide +kernel)) (pi_list (pv 5))
      (blkOk_by (own := [("_law_one", 8), ("_law_kind_here", 9)]) (N := nLook) (sc := defScope sLook) (by decide +kernel))
      (fun _ _ _ _ _ => pg_tup rfl (pgs_cons (pg_name (i := 8) nd rfl (Or.inl rfl)) (pgs_cons (pg_name (i := 9) nd rfl (Or.inl rfl)) pgs_nil))) (fun _ _ _ _ _ => pts_nil)
      (fun _ _ _ _ _ => pe_call GL hr (by rfl) gL kL bL .nil pass0 (pa_cons (pv 8) (pa_cons (pv 1) (pa_cons (pv 9) pa_nil))))
  case s3 =>
    exact ps_if (pt_cmpR (op_inD (by have := hr.un; show A.units + 3 + 65 < cLine; have h2 : (A.deeper (envOfC "_law_looked" (defScope sLook) s.heap.objs.size f cdv)).units = A.units + 3 := rfl; omega)) pe_non (pv 7) rfl) (pss_one (ps_ret pe_non)) pss_nil
  case s4 =>
    exact ps_ret (pe_tup (pa_cons (pe_op op_add pe_int (pe_callB (cr_sum rfl) (by rfl) N.msum (by decide +kernel) (pa_cons (pe_lc (own := [("_law_one", 8)]) (g := gName 8) rfl nd (pi_list (pv 7))
          (blkOk_by (own := [("_law_one", 8)]) (N := nLook) (sc := defScope sLook) (by decide +kernel)) (fun _ _ _ _ _ => pg_name (i := 8) nd rfl (Or.inl rfl)) (fun _ _ _ _ _ => pts_nil) (fun _ _ _ _ _ => pe_ix (r := rIxT K) ix_tup (pv 8) pe_int (fun _ _ => rfl))) pa_nil)))
        (pa_cons (pe_op op_add pe_int (pe_callB (cr_max rfl) (by rfl) N.mmax (by decide +kernel) (pa_cons (pe_op op_cat (pe_lst (pa_cons pe_int pa_nil)) (pe_lc (own := [("_law_one", 8)]) (g := gName 8) rfl nd (pi_list (pv 7))
          (blkOk_by (own := [("_law_one", 8)]) (N := nLook) (sc := defScope sLook) (by decide +kernel)) (fun _ _ _ _ _ => pg_name (i := 8) nd rfl (Or.inl rfl)) (fun _ _ _ _ _ => pts_nil) (fun _ _ _ _ _ => pe_ix (r := rIxT K) ix_tup (pv 8) pe_int (fun _ _ => rfl)))) pa_nil))) pa_nil)))
  case rd =>
  intro D0 H0 H1 t c k z pm rest ds cs v o y6 y7 y8 y9 L fo q0 fin
  cases o with
  | none =>
    cases (show v = .non from L.inn)
    exact ⟨_, rfl, rfl, _, rfl, iteT (q0 rfl H1 L.g)⟩
  | some l =>
  obtain ⟨pi, ps, rfl, hpi, hpl, hps⟩ := L.inn
  obtain ⟨hlen, hfit⟩ := fo l rfl
  have g1 := L.g
  have hlp : ps.length ≤ 10000000 := by rw [hpl]; exact hlen
  refine ⟨_, rfl, rfl, _, rfl, iteF ?_⟩
  refine ⟨_, rfl, pi, rfl, ⟨_, .inl (.inl hpi)⟩, fun D nD => ?_⟩
  refine lc_it (walk_list (xs := ps)) (fun i H2 => ∃ rs : List V, H2 D = some (.lst rs) ∧ TwoO H2 rs ((l.take i).map fun dm => lk cs q dm.2 dm.1) ∧ Gr H1 H2) ?c0 ?c1 ?c2 ?c3
  case c0 => exact ⟨[], upd_same, ⟨rfl, fun j ab e => by cases e⟩, Gr.new nD⟩
  case c1 =>
    rintro i H2 hi ⟨rs, hD, ht, g2⟩
    exact .inl (.inl (g2.lst hpi))
  case c2 =>
    rintro i x H2 H2' hi ⟨rs, hD, ht, g2⟩ ⟨rfl, hx⟩
    obtain ⟨ta, c', dm, rfl, hT, hdm, hd⟩ := hps i x hx
    obtain ⟨f1, f2⟩ := hfit dm (List.mem_of_getElem? hdm)
    refine ⟨ta, [c', kV dm.2], rfl, g2.sqt hT, rfl, c', [kV dm.2], rfl, kV dm.2, [], rfl, rfl, rfl, ?_⟩
    unfold tYes
    have hrl : rs.length ≤ i := by
      rw [ht.1, List.length_map, List.length_take]
      omega
    have et : (l.take (i + 1)).map (fun dm => lk cs q dm.2 dm.1) = (l.take i).map (fun dm => lk cs q dm.2 dm.1) ++ [lk cs q dm.2 dm.1] := by
      rw [List.take_add_one, hdm, List.map_append]
      rfl
    refine iteT ⟨_, rfl, _, rfl, _, rfl, c', c, dm.1, cs, dm.2, rfl, g2.kd.dp hd, g2.kd.dp L.hc, f1, f2, hq, fun hn H3 g3 => ?_, fun a b hab H3 p g3 hp => ?_⟩
    · refine ⟨rs, g3.lst hD, small10000000 (by omega), rs ++ [.non], upd_same, ?_, Gr.upd_new (g2.trans g3) nD⟩
      rw [et, hn]
      exact ((ht.gr g3).snoc (x := .non) (o := none) rfl).upd (g3.lst hD)
    · refine ⟨rs, g3.lst hD, small10000000 (by omega), rs ++ [.ref p], upd_same, ?_, Gr.upd_new (g2.trans g3) nD⟩
      rw [et, hab]
      exact ((ht.gr g3).snoc (x := .ref p) (o := some (a, b)) ⟨p, rfl, hp⟩).upd (g3.lst hD)
  case c3 =>
  rintro H2 ⟨rs, hD, ht, g2⟩
  rw [hpl, List.take_length] at ht
  have hlr : rs.length ≤ 10000000 := by rw [ht.1, List.length_map]; exact hlen
  generalize eos : (l.map fun dm => lk cs q dm.2 dm.1) = os at ht
  have eo : endL cs q (some l) = outL os := by rw [← eos]; rfl
  refine ⟨_, rfl, .none, os.map twoO, .non, .lst (.inl (.inl hD)) ht.dp, rfl, twoOs_shape os, _, rfl, ?_⟩
  cases hal : allO os with
  | none =>
    rw [allO_any os hal]
    exact iteT (q0 (by rw [eo]; unfold outL; rw [hal]; rfl) H2 (g1.trans g2))
  | some abs =>
  obtain ⟨eos2, hany⟩ := allO_some os abs hal
  rw [hany]
  refine iteF ?_
  rw [eos2] at ht
  have ht := ht.two
  refine ⟨_, rfl, D, rfl, ⟨_, .inl (.inl hD)⟩, fun D2 nD2 => ?_⟩
  refine lc_it (walk_list (xs := rs)) (fun i H3 => H3 = upd H2 D2 (.lst ((abs.take i).map fun ab => V.int ab.1))) rfl ?d1 ?d2 ?d3
  case d1 =>
    rintro i H3 hi rfl
    exact .inl (.inl ((Gr.new nD2).lst hD))
  case d2 =>
    rintro i x H3 H3' hi rfl ⟨rfl, hx⟩
    obtain ⟨ab, p, hab, rfl, hp⟩ := ht.at hx
    refine ⟨rfl, ?_⟩
    unfold tYes
    refine iteT ⟨_, rfl, p, _, 0, _, rfl, rfl, .inl (.inl ((Gr.new nD2).tup hp)), rfl, _, upd_same, ?_, ?_⟩
    · rw [List.length_map, List.length_take]
      have := ht.1
      exact small10000000 (by omega)
    · rw [upd_upd, List.take_add_one, hab, List.map_append]
      rfl
  case d3 =>
  rintro H3 rfl
  have tk : abs.take rs.length = abs := by rw [ht.1, List.take_length]
  rw [tk]
  have g3 : Gr H2 (upd H2 D2 (.lst (abs.map fun ab => V.int ab.1))) := Gr.new nD2
  have hD2 : upd H2 D2 (.lst (abs.map fun ab => V.int ab.1)) D2 = some (.lst ((abs.map (·.1)).map V.int)) := by rw [upd_same, List.map_map]; rfl
  generalize upd H2 D2 (.lst (abs.map fun ab => V.int ab.1)) = H3 at g3 hD2 ⊢
  refine ⟨D2, abs.map (·.1), rfl, .inl (.inl hD2), 1, _, rfl, rfl, ?_⟩
  refine ⟨by show 1 ≤ sizeLine; decide, fun l0 n0 => ?_⟩
  have g4 : Gr H3 (upd H3 l0 (.lst [.int 0])) := Gr.new n0
  have hD4 := g4.lst (g3.lst hD)
  have hl0 : upd H3 l0 (.lst [.int 0]) l0 = some (.lst [.int 0]) := upd_same
  have ht4 := (ht.gr g3).gr g4
  generalize upd H3 l0 (.lst [.int 0]) = H4 at g4 hD4 hl0 ht4 ⊢
  refine ⟨_, rfl, D, rfl, ⟨_, .inl (.inl hD4)⟩, fun D3 nD3 => ?_⟩
  refine lc_it (walk_list (xs := rs)) (fun i H5 => H5 = upd H4 D3 (.lst ((abs.take i).map fun ab => V.int ab.2))) rfl ?e1 ?e2 ?e3
  case e1 =>
    rintro i H5 hi rfl
    exact .inl (.inl ((Gr.new nD3).lst hD4))
  case e2 =>
    rintro i x H5 H5' hi rfl ⟨rfl, hx⟩
    obtain ⟨ab, p, hab, rfl, hp⟩ := ht4.at hx
    refine ⟨rfl, ?_⟩
    unfold tYes
    refine iteT ⟨_, rfl, p, _, 1, _, rfl, rfl, .inl (.inl ((Gr.new nD3).tup hp)), rfl, _, upd_same, ?_, ?_⟩
    · rw [List.length_map, List.length_take]
      have := ht.1
      exact small10000000 (by omega)
    · rw [upd_upd, List.take_add_one, hab, List.map_append]
      rfl
  case e3 =>
  rintro H5 rfl
  rw [tk]
  have g5 : Gr H4 (upd H4 D3 (.lst (abs.map fun ab => V.int ab.2))) := Gr.new nD3
  have hD5 : upd H4 D3 (.lst (abs.map fun ab => V.int ab.2)) D3 = some (.lst (abs.map fun ab => V.int ab.2)) := upd_same
  have hl5 := g5.lst hl0
  generalize upd H4 D3 (.lst (abs.map fun ab => V.int ab.2)) = H5 at g5 hD5 hl5 ⊢
  refine ⟨l0, D3, _, _, rfl, rfl, hl5, hD5, ?_, fun l1 n1 => ?_⟩
  · rw [List.length_map]
    have := ht.1
    exact Nat.le_of_lt (small10000001 (by show 1 + abs.length ≤ 10000001; omega))
  refine ⟨l1, 0 :: abs.map (·.2), rfl, .inl (.inl ?_), by simp, fun mx mx1 mx2 => ?_⟩
  · rw [upd_same, List.map_cons, List.map_map]
    rfl
  refine ⟨1, mx, rfl, rfl, by show 2 ≤ sizeLine; decide, fun tp ntp => ?_⟩
  have em : mx = mxI (abs.map (·.2)) := mxI_is mx1 mx2
  subst em
  exact fin _ _ (by rw [eo]; unfold outL; rw [hal]; rfl) _ tp (((((g1.trans g2).trans g3).trans g4).trans g5).trans ((Gr.new n1).trans (Gr.new ntp))) upd_same
end
end SfM
set_option maxRecDepth 10000000
namespace SfM
open PySem PySem.Spec PyProof.Rows L2 SfG SfC
theorem depA_mem : ∀ {ds : List PyData} {d : PyData}, d ∈ ds → d.depth ≤ PyData.depthAll ds
  | a :: r, d, h => by
    rw [PyData.depthAll]
    rcases List.mem_cons.mp h with rfl | h
    · omega
    · have := depA_mem h
      omega
theorem wtA_mem : ∀ {ds : List PyData} {d : PyData}, d ∈ ds → wt d ≤ wtA ds
  | a :: r, d, h => by
    rw [wtA]
    rcases List.mem_cons.mp h with rfl | h
    · omega
    · have := wtA_mem h
      omega
theorem wtA_len : ∀ (ds : List PyData), ds.length ≤ wtA ds
  | [] => Nat.zero_le _
  | a :: r => by
    have := wtA_len r
    rw [wtA, List.length_cons]
    omega
theorem es_bnd {d : PyData} : wtA (esOf d) ≤ wt d ∧ ∀ e ∈ esOf d, e.depth < d.depth := by
  cases d with
  | tuple es =>
    refine ⟨by rw [wt]; exact Nat.le_add_right _ _, fun e he => ?_⟩
    have := depA_mem (show e ∈ es from he)
    rw [PyData.depth]
    omega
  | _ => exact ⟨Nat.zero_le _, fun e he => by cases he⟩
theorem FitI.ite {q : Nat} {c : Prop} [Decidable c] {a o : Option Inn} (h1 : c → FitI q a) (h2 : FitI q o) : FitI q (if c then a else o) := by
  by_cases h : c
  · rw [if_pos h]
    exact h1 h
  · rw [if_neg h]
    exact h2
theorem FitI.no {q : Nat} : FitI q none := fun l e => by cases e
theorem FitI.ls {q : Nat} {l : Inn} (h : l.length ≤ 10000000) (h2 : ∀ dm ∈ l, dm.1.depth < q ∧ wt dm.1 ≤ 10000000) : FitI q (some l) := fun l' e => by
  cases e
  exact ⟨h, h2⟩
theorem fit_inn {q : Nat} {cs : List Nat} {m : Option Nat} {z : Str} {ds : List PyData} (hd : ∀ d ∈ ds, d.depth < q) (hw : ∀ d ∈ ds, wt d ≤ 10000000) (hl : ds.length ≤ 10000000) (hq : 0 < q) : FitI q (inn cs m z ds) := by
  have get : ∀ i, (ds.getD i .none).depth < q ∧ wt (ds.getD i .none) ≤ 10000000 := fun i => by
    rw [List.getD_eq_getElem?_getD]
    cases h : ds[i]? with
    | none => exact ⟨hq, by show (5 : Nat) ≤ 10000000; decide⟩
    | some d => exact ⟨hd d (List.mem_of_getElem? h), hw d (List.mem_of_getElem? h)⟩
  have nil : FitI q (some []) := FitI.ls (Nat.zero_le _) fun dm h => by cases h
  unfold inn o11 o10 o9 o8 o6 o5 o4
  refine FitI.ite (fun _ => FitI.ls (by show 3 ≤ 10000000; decide) fun dm h => ?_) (FitI.ite (fun _ => FitI.ls ?_ fun dm h => ?_) (FitI.ite (fun _ => nil) (FitI.ite (fun _ => FitI.ls (by rw [List.length_map]; exact hl) fun dm h => ?_)
    (FitI.ite (fun _ => FitI.ls (by show 1 ≤ 10000000; decide) fun dm h => ?_) (FitI.ite (fun _ => FitI.ite (fun _ => nil) FitI.no) (FitI.ite (fun _ => nil) FitI.no))))))
  · simp only [List.mem_cons, List.not_mem_nil, or_false] at h
    rcases h with rfl | rfl | rfl
    · exact get 0
    · exact get 1
    · exact get 2
  · rw [List.length_map]
    have := (es_bnd (d := d0 ds)).1
    have h2 := wtA_len (esOf (d0 ds))
    have h3 := (get 0).2
    have h4 : wt (d0 ds) ≤ 10000000 := h3
    omega
  · obtain ⟨e, he, rfl⟩ := List.mem_map.mp h
    have h3 := (get 0).1
    have h4 : (d0 ds).depth < q := h3
    have h5 : wt (d0 ds) ≤ 10000000 := (get 0).2
    have h6 := (es_bnd (d := d0 ds)).2 e he
    have h7 := (es_bnd (d := d0 ds)).1
    have h8 := wtA_mem he
    exact ⟨by show e.depth < q; omega, by show wt e ≤ 10000000; omega⟩
  · obtain ⟨e, he, rfl⟩ := List.mem_map.mp h
    exact ⟨hd e he, hw e he⟩
  · simp only [List.mem_cons, List.not_mem_nil, or_false] at h
    subst h
    exact get 0
section
variable {P : Program} {w : World} {K : PySem.W.Frag} {mg : Str → Option Value} {base : Heap}
theorem lk_noT {cs : List Nat} {n : Nat} {m : Option Nat} {d : PyData} (h : (tyD d == "tuple") = false) : lk cs n m d = none := by
  cases n with
  | zero => rw [lk]
  | succ n =>
    cases d with
    | tuple _ => exact absurd h (by show ¬ ("tuple" == "tuple") = false; decide)
    | _ => rfl
theorem lk_noS {cs : List Nat} {n : Nat} {m : Option Nat} {d : PyData} {ds : List PyData} (h : (tyD d == "str") = false) : lk cs n m (.tuple (d :: ds)) = none := by
  cases n with
  | zero => rw [lk]
  | succ n =>
    cases d with
    | str _ => exact absurd h (by show ¬ ("str" == "str") = false; decide)
    | _ => rfl
theorem str_is (d : PyData) : (tyD d == "str") = false ∨ ∃ z, d = .str z := by
  cases d with
  | str z => exact .inr ⟨z, rfl⟩
  | none => exact .inl (by show ("NoneType" == "str") = false; decide)
  | bool _ => exact .inl (by show ("bool" == "str") = false; decide)
  | int _ => exact .inl (by show ("int" == "str") = false; decide)
  | tuple _ => exact .inl (by show ("tuple" == "str") = false; decide)
  | list _ => exact .inl (by show ("list" == "str") = false; decide)
  | dict _ => exact .inl (by show ("dict" == "str") = false; decide)
set_option maxHeartbeats 4000000 in
theorem ok_look {f fA : Addr} {fd fdA : FuncData} (F : Fun K "_law_looked" "_law_looked" sLook f fd) (bL : Binds K fd ["_law_thing", "_law_counts", "_law_many"] []) (gL : mg "_law_looked" = some (.ref f))
    (HA : Has P w K mg base 1 "_law_among" ["_law_thing", "_law_least", "_law_most"] (spAmg K) fA fdA) (N : LookNames mg) : ∀ q, FnOk P w K mg base CX0 (q + 2) f fd ["_law_thing", "_law_counts", "_law_many"] (spLk K q)
  | 0 => by
    refine F.ok scLook (fun vs H Q E h => ?_) (fun cdv A outer s H vs Q E hr h => ?_)
    · obtain ⟨t, c, d, cs, m, rfl, _⟩ := h
      rfl
    · obtain ⟨t, c, d, cs, m, rfl, _, _, hm, _⟩ := h
      omega
  | q + 1 => by
    have GL := ok_look F bL gL HA N q
    refine F.ok scLook (fun vs H Q E h => ?_) (fun cdv A outer s H vs Q E hr h => ?_)
    · obtain ⟨t, c, d, cs, m, rfl, _⟩ := h
      rfl
    · obtain ⟨t, c, d, cs, m, rfl, hd, hc, hdp, hw, hq, q0, fin⟩ := h
      have HA' : Has P w K mg base (q + 2) "_law_among" ["_law_thing", "_law_least", "_law_most"] (spAmg K) fA fdA := ⟨HA.ok.mono (by omega), HA.at_, HA.kp, HA.bd⟩
      obtain ⟨t11, dT, r11⟩ := look_tail (H := H) (outer := outer) (E := E) bL gL F.kp GL N hr (show q ≤ 60 by omega)
      obtain ⟨t10, dT, r10⟩ := step11 (K := K) N hr t11 dT
      obtain ⟨t9, dT, r9⟩ := step10 (K := K) N hr t10 dT
      obtain ⟨t8, dT, r8⟩ := step9 (K := K) N hr t9 dT
      obtain ⟨t6, dT, r6⟩ := step8 (K := K) N hr t8 dT
      obtain ⟨t5, dT, r5⟩ := step6 (K := K) HA' N hr t6 dT
      obtain ⟨t4, dT, r4⟩ := step5 (K := K) HA' N hr t5 dT
      obtain ⟨t3, dT, r3⟩ := step4 (K := K) HA' N hr t4 dT
      have nd := scLook.nd
      refine' ⟨_, pss_cons ?s1 (pss_cons ?s2 (pss_cons ?s3 dT)), ?rd⟩
      case s1 =>
        exact ps_if (PW.pt (pw_or (pt_not (pt_val (pe_isi "tuple" 0 N.mi N.mt (by decide +kernel)))) (pw_or (pt_cmpR (op_eqT0 hr) (pv 0) (pe_tup pa_nil) (nomark _))
          (pw_or1 (pt_not (pt_val (pe_callB call_isi (by rfl) N.mi (by decide +kernel) (pa_cons (pe_ix ix_tup (pv 0) pe_int (fun _ _ => rfl)) (pa_cons (pe_bltn (v := .ty "str") (by rfl) N.ms (by decide +kernel) rfl) pa_nil)))))))))
          (pss_one (ps_ret pe_non)) pss_nil
      case s2 =>
        exact ps_par (i := 3) (j := 4) rfl nd rfl rfl (by decide) rfl rfl (pa_cons (pe_ix ix_tup (pv 0) pe_int (fun _ _ => rfl)) (pa_cons (pe_slice sl_tup (pv 0) (po_some pe_int) po_none) pa_nil)) (by rfl)
      case s3 =>
        exact ps_set (i := 5) nd rfl (.inl rfl) pe_non
      case rd =>
      have hI := dp_is hd
      refine ⟨_, rfl, _, _, hI.1, kit_tuple _ hI.2, _, rfl, ?_⟩
      rcases tup_is d with h1 | ⟨es, rfl⟩
      · rw [h1]
        exact iteT (iteT (q0 (lk_noT h1) H (Gr.refl H)))
      rw [show (tyD (.tuple es) == "tuple") = true from by show ("tuple" == "tuple") = true; decide]
      obtain ⟨p, xs, rfl, hp, hxs⟩ := dp_tup hd
      refine iteF ⟨_, rfl, by show 0 ≤ sizeLine; decide, fun p0 n0 => ?_⟩
      have g0 : Gr H (upd H p0 (.tup [])) := Gr.new n0
      refine ⟨p, p0, xs, rfl, rfl, g0.sqt hp, .inl (.inl upd_same), _, rfl, ?_⟩
      generalize upd H p0 (.tup []) = H0 at g0 ⊢
      cases es with
      | nil =>
        cases dpA_nil hxs
        exact iteT (iteT (q0 rfl H0 g0))
      | cons dw ds =>
      obtain ⟨x0, rest, rfl, h0, hrest⟩ := dpA_cons hxs
      have hI0 := dp_is (g0.kd.dp h0)
      refine iteF ⟨_, rfl, p, _, 0, x0, rfl, rfl, g0.sqt hp, atI_nat (j := 0) rfl, x0, .ty "str", .type (tyD dw), .type "str", (tyD dw == "str"), rfl, .ty "str", hI0.1, kit_ty (kit_str _ hI0.2), _, rfl, ?_⟩
      rcases str_is dw with h1 | ⟨z, rfl⟩
      · rw [h1]
        exact iteT (q0 (lk_noS h1) H0 g0)
      rw [show (tyD (.str z) == "str") = true from by show ("str" == "str") = true; decide]
      cases dp_str h0
      refine iteF ?_
      refine ⟨_, rfl, p, _, 0, .str z, rfl, rfl, g0.sqt hp, atI_nat (j := 0) rfl, _, rfl, 1, rfl, p, _, rfl, g0.sqt hp, cut_not _ _, fun pm npm => ?_⟩
      refine ⟨_, _, rfl, ?_⟩
      rw [cut_one]
      have g1 : Gr H (upd H0 pm (.tup rest)) := g0.trans (Gr.new npm)
      rw [PyData.depth, PyData.depthAll] at hdp
      rw [wt, wtA] at hw
      have wl := wtA_len ds
      have L : LS K H (upd H0 pm (.tup rest)) pm rest ds c cs .non none := ⟨g1, .inl (.inl upd_same), g1.kd.dpA hrest, g1.kd.dp hc, rfl, by omega, fun d hd' => by
        have a1 := wtA_len (esOf d)
        have a2 := (es_bnd (d := d)).1
        have a3 := wtA_mem hd'
        omega⟩
      have fit : FitI q (inn cs m z ds) := fit_inn (fun d hd' => by have := depA_mem hd'; omega) (fun d hd' => by have := wtA_mem hd'; omega) (by omega) (by omega)
      refine r3 _ H _ _ _ _ _ _ _ _ _ _ _ _ _ _ _ L fun _ _ _ _ L => ?_
      refine r4 _ H _ _ _ _ _ _ _ _ _ _ _ _ _ _ _ L fun _ _ _ _ L => ?_
      refine r5 _ H _ _ _ _ _ _ _ _ _ _ _ _ _ _ _ L fun _ _ _ _ L => ?_
      refine r6 _ H _ _ _ _ _ _ _ _ _ _ _ _ _ _ _ L fun _ _ _ _ L => ?_
      refine r8 _ H _ _ _ _ _ _ _ _ _ _ _ _ _ _ _ L fun _ _ _ _ L => ?_
      refine r9 _ H _ _ _ _ _ _ _ _ _ _ _ _ _ _ _ L fun _ _ _ _ L => ?_
      refine r10 _ H _ _ _ _ _ _ _ _ _ _ _ _ _ _ _ L fun _ _ _ _ L => ?_
      refine r11 _ H _ _ _ _ _ _ _ _ _ _ _ _ _ _ _ L fit (fun hn H' g => q0 (by rw [lk_tup]; exact hn) H' g) fun a b hab H' p' g hp' => fin a b (by rw [lk_tup]; exact hab) H' p' g hp'
end
end SfM
namespace SfM
open PySem PySem.Spec PyProof.Rows L2 SfG SfC
/-! ### left_by_expression and left_by_body tell what the law's own look tells -/
def Pos (o : Option (Int × Int)) : Prop := ∀ p k, o = some (p, k) → 1 ≤ p ∧ 1 ≤ k
def Agree (o : Option (Int × Int)) (dp : Nat) (left r : Int) : Prop := match o with
  | none => r < 0
  | some pk => if pk.2 ≤ dp ∧ pk.1 ≤ left then r = left - pk.1 else r < 0
theorem Agree.neg {o : Option (Int × Int)} {dp : Nat} {l r : Int} (hp : Pos o) (h : Agree o dp l r) (hl : l < 0) : r < 0 := by
  cases o with
  | none => exact h
  | some pk =>
    have := (hp pk.1 pk.2 rfl).1
    have h : if pk.2 ≤ dp ∧ pk.1 ≤ l then r = l - pk.1 else r < 0 := h
    rw [if_neg (by omega)] at h
    exact h
theorem allO_pos : ∀ {os : List (Option (Int × Int))} {abs : List (Int × Int)}, (∀ o ∈ os, Pos o) → allO os = some abs → 0 ≤ (abs.map (·.1)).sum ∧ (os ≠ [] → 1 ≤ mxI (abs.map (·.2)))
  | [], _, _, h => by
    cases h
    exact ⟨Int.le_refl 0, fun z => absurd rfl z⟩
  | none :: r, _, _, h => by cases h
  | some x :: r, abs, hp, h => by
    obtain ⟨b, hb, rfl⟩ := Option.map_eq_some_iff.mp (show (allO r).map (x :: ·) = some abs from h)
    obtain ⟨h1, h2⟩ := allO_pos (fun o ho => hp o (List.mem_cons_of_mem _ ho)) hb
    obtain ⟨p1, p2⟩ := hp (some x) List.mem_cons_self x.1 x.2 rfl
    rw [List.map_cons, List.map_cons, List.sum_cons]
    refine ⟨by omega, fun _ => ?_⟩
    have e : mxI (x.2 :: b.map (·.2)) = max x.2 (mxI (b.map (·.2))) := rfl
    rw [e]
    omega
theorem outL_pos {os : List (Option (Int × Int))} (hp : ∀ o ∈ os, Pos o) : Pos (outL os) := by
  intro p k h
  unfold outL at h
  obtain ⟨abs, ha, e⟩ := Option.map_eq_some_iff.mp h
  have h1 := (allO_pos hp ha).1
  have h2 := (mxI_ge (abs.map (·.2))).1
  cases e
  exact ⟨by omega, by omega⟩
theorem lk_pos {cs : List Nat} : ∀ (n : Nat) (m : Option Nat) (d : PyData), Pos (lk cs n m d)
  | 0, m, d => fun p k h => by rw [lk] at h; cases h
  | n + 1, m, d => by
    rcases tup_is d with h1 | ⟨es, rfl⟩
    · rw [lk_noT h1]
      exact fun p k h => by cases h
    cases es with
    | nil => exact fun p k h => by cases h
    | cons dw ds =>
    rcases str_is dw with h1 | ⟨z, rfl⟩
    · rw [lk_noS h1]
      exact fun p k h => by cases h
    rw [lk_tup]
    cases inn cs m z ds with
    | none => exact fun p k h => by cases h
    | some l =>
      refine outL_pos fun o ho => ?_
      obtain ⟨dm, _, rfl⟩ := List.mem_map.mp ho
      exact lk_pos n dm.2 dm.1
/-- one behind the other -/
def Chain (dp : Nat) : List (Option (Int × Int)) → Int → Int → Prop
  | [], l, r => r = l
  | o :: os, l, r => ∃ r1, Agree o dp l r1 ∧ Chain dp os r1 r
theorem Chain.neg {dp : Nat} : ∀ {os : List (Option (Int × Int))} {l r : Int}, (∀ o ∈ os, Pos o) → Chain dp os l r → l < 0 → r < 0
  | [], l, r, _, h, hl => by rw [show r = l from h]; exact hl
  | o :: os, l, r, hp, ⟨r1, h1, h2⟩, hl => Chain.neg (fun o ho => hp o (List.mem_cons_of_mem _ ho)) h2 (h1.neg (hp o List.mem_cons_self) hl)
theorem Chain.out {dp : Nat} : ∀ {os : List (Option (Int × Int))} {l r : Int}, (∀ o ∈ os, Pos o) → Chain dp os l r → match allO os with
    | none => r < 0
    | some abs => if mxI (abs.map (·.2)) ≤ dp ∧ (abs.map (·.1)).sum ≤ l then r = l - (abs.map (·.1)).sum else r < 0
  | [], l, r, _, h => by
    have h : r = l := h
    show if mxI [] ≤ (dp : Int) ∧ ([] : List Int).sum ≤ l then r = l - ([] : List Int).sum else r < 0
    rw [show mxI [] = 0 from rfl, List.sum_nil]
    split <;> omega
  | none :: os, l, r, hp, ⟨r1, h1, h2⟩ => Chain.neg (fun o ho => hp o (List.mem_cons_of_mem _ ho)) h2 h1
  | some x :: os, l, r, hp, ⟨r1, h1, h2⟩ => by
    have hp' : ∀ o ∈ os, Pos o := fun o ho => hp o (List.mem_cons_of_mem _ ho)
    have ih := Chain.out hp' h2
    obtain ⟨p1, p2⟩ := hp (some x) List.mem_cons_self x.1 x.2 rfl
    have ea : allO (some x :: os) = (allO os).map (x :: ·) := rfl
    rw [ea]
    by_cases c : x.2 ≤ dp ∧ x.1 ≤ l
    · have h1' : r1 = l - x.1 := by
        have h1 : if x.2 ≤ dp ∧ x.1 ≤ l then r1 = l - x.1 else r1 < 0 := h1
        rw [if_pos c] at h1
        exact h1
      cases hal : allO os with
      | none =>
        rw [hal] at ih
        exact ih
      | some abs =>
        rw [hal] at ih
        obtain ⟨s0, _⟩ := allO_pos hp' hal
        show if mxI (x.2 :: abs.map (·.2)) ≤ (dp : Int) ∧ (x.1 :: abs.map (·.1)).sum ≤ l then r = l - (x.1 :: abs.map (·.1)).sum else r < 0
        have e : mxI (x.2 :: abs.map (·.2)) = max x.2 (mxI (abs.map (·.2))) := rfl
        rw [e, List.sum_cons]
        have ih : if mxI (abs.map (·.2)) ≤ (dp : Int) ∧ (abs.map (·.1)).sum ≤ r1 then r = r1 - (abs.map (·.1)).sum else r < 0 := ih
        subst h1'
        split at ih
        · rw [if_pos (by omega)]
          omega
        · rw [if_neg (by omega)]
          exact ih
    · have h1' : r1 < 0 := by
        have h1 : if x.2 ≤ dp ∧ x.1 ≤ l then r1 = l - x.1 else r1 < 0 := h1
        rw [if_neg c] at h1
        exact h1
      have hr : r < 0 := Chain.neg hp' h2 h1'
      cases hal : allO os with
      | none => exact hr
      | some abs =>
        obtain ⟨s0, _⟩ := allO_pos hp' hal
        show if mxI (x.2 :: abs.map (·.2)) ≤ (dp : Int) ∧ (x.1 :: abs.map (·.1)).sum ≤ l then r = l - (x.1 :: abs.map (·.1)).sum else r < 0
        have e : mxI (x.2 :: abs.map (·.2)) = max x.2 (mxI (abs.map (·.2))) := rfl
        rw [e, List.sum_cons, if_neg (by omega)]
        exact hr
theorem Chain.node {dp : Nat} {os : List (Option (Int × Int))} {l r : Int} (hp : ∀ o ∈ os, Pos o) (h : Chain dp os l r) : Agree (outL os) (dp + 1) (l + 1) r := by
  have := h.out hp
  unfold outL
  cases hal : allO os with
  | none =>
    rw [hal] at this
    exact this
  | some abs =>
    rw [hal] at this
    have this : if mxI (abs.map (·.2)) ≤ (dp : Int) ∧ (abs.map (·.1)).sum ≤ l then r = l - (abs.map (·.1)).sum else r < 0 := this
    show if 1 + mxI (abs.map (·.2)) ≤ ((dp + 1 : Nat) : Int) ∧ 1 + (abs.map (·.1)).sum ≤ l + 1 then r = l + 1 - (1 + (abs.map (·.1)).sum) else r < 0
    split at this
    · rw [if_pos (by omega)]
      omega
    · rw [if_neg (by omega)]
      exact this
/-- too deep, or too many -/
theorem agree_no {dp : Nat} {os : List (Option (Int × Int))} {l : Int} (hp : ∀ o ∈ os, Pos o) (hne : os ≠ []) (h : dp = 0 ∨ l < 1) : Agree (outL os) (dp + 1) l (-1) := by
  unfold outL
  cases hal : allO os with
  | none => exact (by decide : (-1 : Int) < 0)
  | some abs =>
    obtain ⟨s0, s1⟩ := allO_pos hp hal
    have := s1 hne
    show if 1 + mxI (abs.map (·.2)) ≤ ((dp + 1 : Nat) : Int) ∧ 1 + (abs.map (·.1)).sum ≤ l then (-1 : Int) = l - (1 + (abs.map (·.1)).sum) else (-1 : Int) < 0
    rw [if_neg (by omega)]
    decide
end SfM
namespace SfM
open PySem PySem.Spec PyProof.Rows L2 SfG SfC
theorem szs_or (z : Str) : szs z = 0 ∨ szs z = 2 ∨ szs z = 3 := by
  unfold szs
  split
  · exact .inr (.inl rfl)
  · split
    · exact .inr (.inr rfl)
    · exact .inl rfl
theorem inn_E (cs : List Nat) (z : Str) (ds : List PyData) : inn cs none z ds = o8 none z ds (o6 none z ds (o5 cs none z ds (o4 none z ds none))) := by
  unfold inn o11 o10 o9
  rw [if_neg (fun h => h.1 rfl), if_neg (fun h => h.1 rfl), if_neg (fun h => h.1 rfl)]
theorem inn_E1 (cs : List Nat) (z : Str) (a : PyData) : inn cs none z [a] = if z = "number" ∧ amg a 0 99 = true then some [] else none := by
  rw [inn_E]
  unfold o8 o6 o5 o4
  rw [if_neg (fun h => by have h2 : szs z = 1 := h.2.1; rcases szs_or z with e | e | e <;> omega), if_neg (fun h => absurd h.2.2.1 (by show ¬ (1 = 2); decide)), if_neg (fun h => absurd h.2.2.1 (by show ¬ (1 = 2); decide))]
  by_cases h : z = "number" ∧ amg a 0 99 = true
  · rw [if_pos h, if_pos ⟨rfl, h.1, rfl, h.2⟩]
  · rw [if_neg h, if_neg (fun x => h ⟨x.2.1, x.2.2.2⟩)]
theorem inn_E2 (cs : List Nat) (z : Str) (a b : PyData) : inn cs none z [a, b] = if z = "in" then (if amg a 0 ((cs.length : Int) - 1) = true then (if amg b 0 (cAt cs (nI a) - 1) = true then some [] else none) else none)
    else if szs z = 2 then some [(a, none), (b, none)] else if z = "rest" ∧ amg b 2 99 = true then some [(a, none)] else none := by
  rw [inn_E]
  unfold o8 o6 o5 o4
  by_cases h1 : z = "in"
  · subst h1
    rw [if_pos rfl, if_neg (fun h => absurd h.2.1 (by show ¬ (szs "in" = 2); decide +kernel)), if_neg (fun h => absurd h.2.1 (by decide +kernel))]
    by_cases h2 : amg a 0 ((cs.length : Int) - 1) = true
    · rw [if_pos h2, if_pos ⟨rfl, rfl, rfl, h2⟩]
      rfl
    · rw [if_neg h2, if_neg (fun h => h2 h.2.2.2), if_neg (fun h => absurd h.2.1 (by decide +kernel))]
  · rw [if_neg h1]
    by_cases h2 : szs z = 2
    · rw [if_pos h2, if_pos ⟨rfl, h2, (by show 0 < 2; decide)⟩]
      rfl
    · rw [if_neg h2, if_neg (fun h => h2 h.2.1)]
      by_cases h3 : z = "rest" ∧ amg b 2 99 = true
      · rw [if_pos h3, if_pos ⟨rfl, h3.1, rfl, h3.2⟩]
        rfl
      · rw [if_neg h3, if_neg (fun h => h3 ⟨h.2.1, h.2.2.2⟩), if_neg (fun h => h1 h.2.1), if_neg (fun h => absurd h.2.2.1 (by show ¬ (2 = 1); decide))]
theorem inn_E3 (cs : List Nat) (z : Str) (a b c : PyData) : inn cs none z [a, b, c] = if z = "if" then some [(a, none), (b, none), (c, none)] else none := by
  rw [inn_E]
  unfold o8 o6 o5 o4
  rw [if_neg (c := _ ∧ z = "rest" ∧ _ ∧ _) (fun h => absurd h.2.2.1 (by show ¬ (3 = 2); decide)), if_neg (c := _ ∧ z = "in" ∧ _ ∧ _) (fun h => absurd h.2.2.1 (by show ¬ (3 = 2); decide)), if_neg (c := _ ∧ z = "number" ∧ _ ∧ _) (fun h => absurd h.2.2.1 (by show ¬ (3 = 1); decide))]
  by_cases h : z = "if"
  · subst h
    rw [if_pos rfl, if_pos ⟨rfl, (by show szs "if" = 3; decide +kernel), (by show 0 < 3; decide)⟩]
    rfl
  · rw [if_neg h, if_neg]
    intro x
    have h2 : szs z = 3 := x.2.1
    unfold szs at h2
    rw [if_neg h] at h2
    split at h2 <;> cases h2
theorem inn_E0 (cs : List Nat) (z : Str) (ds : List PyData) (h : ds.length = 0 ∨ 4 ≤ ds.length) : inn cs none z ds = none := by
  rw [inn_E]
  unfold o8 o6 o5 o4
  rw [if_neg (fun x => by have h2 := x.2.1; have h3 := x.2.2; rcases szs_or z with e | e | e <;> omega), if_neg (fun x => by have := x.2.2.1; omega), if_neg (fun x => by have := x.2.2.1; omega), if_neg (fun x => by have := x.2.2.1; omega)]
theorem pair_sz (z : Str) : pairW (.str z) = decide (szs z = 2) := by
  by_cases h : z = "plus" ∨ z = "less" ∨ z = "times" ∨ z = "same" ∨ z = "under"
  · rw [decide_eq_true (by unfold szs; rw [if_pos h])]
    rcases h with rfl | rfl | rfl | rfl | rfl <;> decide +kernel
  · rw [decide_eq_false (by
      unfold szs
      rw [if_neg h]
      split <;> decide)]
    unfold pairW
    simp only [List.any_cons, List.any_nil, eqS]
    rw [decide_eq_false (fun e => h (.inl e)), decide_eq_false (fun e => h (.inr (.inl e))), decide_eq_false (fun e => h (.inr (.inr (.inl e)))), decide_eq_false (fun e => h (.inr (.inr (.inr (.inl e))))), decide_eq_false (fun e => h (.inr (.inr (.inr (.inr e)))))]
    rfl
theorem eqS_no {w : PyData} (h : (tyD w == "str") = false) (x : Str) : eqS w x = false := by
  cases w with
  | str _ => exact absurd h (by show ¬ ("str" == "str") = false; decide)
  | _ => rfl
theorem Agree.low {o : Option (Int × Int)} {dp : Nat} {l r : Int} (hr : r < 0) (h : ∀ pk, o = some pk → ¬ (pk.2 ≤ (dp : Int) ∧ pk.1 ≤ l)) : Agree o dp l r := by
  cases o with
  | none => exact hr
  | some pk =>
    show if pk.2 ≤ (dp : Int) ∧ pk.1 ≤ l then r = l - pk.1 else r < 0
    rw [if_neg (h pk rfl)]
    exact hr
/-- one part -/
theorem agree_one {dp : Nat} {l : Int} : Agree (outL []) (dp + 1) l (l - 1) := by
  show if 1 + mxI [] ≤ ((dp + 1 : Nat) : Int) ∧ 1 + ([] : List Int).sum ≤ l then l - 1 = l - (1 + ([] : List Int).sum) else l - 1 < 0
  rw [show mxI [] = 0 from rfl, List.sum_nil]
  split <;> omega
theorem inE_eq (cs : List Nat) (a b : PyData) (left : Int) : inE cs a b left = if (amg a 0 ((cs.length : Int) - 1) && amg b 0 (cAt cs (nI a) - 1)) = true then left - 1 else -1 := by cases a <;> rfl
theorem m1 : (-1 : Int) < 0 := by decide
theorem lbe_no {cs : List Nat} {dp : Nat} {w : PyData} {ds : List PyData} {l : Int} (h : (tyD w == "str") = false) : lbe cs dp (.tuple (w :: ds)) l = -1 := by
  cases dp with
  | zero => rw [lbe]
  | succ dp =>
    match ds with
    | [] => simp [lbe]
    | [a] => rw [lbe, eqS_no h]; rfl
    | [a, b] =>
      rw [lbe, eqS_no h, eqS_no h, if_neg (by decide)]
      have hp : pairW w = false := by
        unfold pairW
        simp only [List.any_cons, List.any_nil, eqS_no h]
        rfl
      rw [hp, if_neg (c := false = true) (by decide)]
      split <;> rfl
    | [a, b, c] =>
      rw [lbe, eqS_no h, if_neg (fun x => by cases x.1)]
    | _ :: _ :: _ :: _ :: _ => simp [lbe]
theorem lbe_ok (cs : List Nat) : ∀ (q : Nat) (d : PyData) (dp : Nat) (l : Int), d.depth < q → Agree (lk cs q none d) dp l (lbe cs dp d l)
  | 0, _, _, _, h => absurd h (Nat.not_lt_zero _)
  | q + 1, d, 0, l, h => by
    rw [lbe]
    exact Agree.low m1 fun pk e hh => by have := (lk_pos (q + 1) none d pk.1 pk.2 e).2; omega
  | q + 1, d, dp + 1, l, h => by
    rcases tup_is d with h1 | ⟨es, rfl⟩
    · rw [lk_noT h1]
      rcases tup_or d with ⟨_, h2⟩ | ⟨ds, rfl⟩
      · rw [h2]
        exact m1
      · exact absurd h1 (by show ¬ ("tuple" == "tuple") = false; decide)
    cases es with
    | nil =>
      rw [show lbe cs (dp + 1) (.tuple []) l = -1 by simp [lbe]]
      exact m1
    | cons w ds =>
    rcases str_is w with h1 | ⟨z, rfl⟩
    · rw [lk_noS h1, lbe_no h1]
      exact m1
    rw [lk_tup]
    rw [PyData.depth, PyData.depthAll] at h
    have hin : ∀ d ∈ ds, d.depth < q := fun d hd => by have := depA_mem hd; omega
    have pos : ∀ (l : List PyData), ∀ o ∈ l.map (fun d => lk cs q none d), Pos o := fun l o ho => by
      obtain ⟨d, _, rfl⟩ := List.mem_map.mp ho
      exact lk_pos q none d
    match ds, hin with
    | [], _ =>
      rw [inn_E0 cs z [] (.inl rfl), show lbe cs (dp + 1) (.tuple [.str z]) l = -1 by simp [lbe]]
      exact m1
    | a :: b :: c :: e :: r, _ =>
      rw [inn_E0 cs z _ (.inr (by simp)), show lbe cs (dp + 1) (.tuple (.str z :: a :: b :: c :: e :: r)) l = -1 by simp [lbe]]
      exact m1
    | [a], _ =>
      rw [inn_E1, lbe]
      by_cases hz : z = "number" ∧ amg a 0 99 = true
      · rw [if_pos hz, if_pos (by rw [show eqS (.str z) "number" = true from decide_eq_true hz.1, hz.2]; rfl)]
        exact agree_one
      · rw [if_neg hz, if_neg (fun x => by
          rw [Bool.and_eq_true] at x
          exact hz ⟨of_decide_eq_true (show decide (z = "number") = true from x.1), x.2⟩)]
        exact m1
    | [a, b], hin =>
      have ha := lbe_ok cs q a
      have hb := lbe_ok cs q b
      have da := hin a List.mem_cons_self
      have db := hin b (List.mem_cons_of_mem _ List.mem_cons_self)
      rw [inn_E2, lbe]
      by_cases hz : z = "in"
      · rw [if_pos hz, if_pos (show eqS (.str z) "in" = true from decide_eq_true hz)]
        rw [inE_eq]
        cases h1 : amg a 0 ((cs.length : Int) - 1) with
        | false =>
          rw [if_neg (by decide), Bool.false_and, if_neg (by decide)]
          exact m1
        | true =>
        rw [if_pos rfl, Bool.true_and]
        cases h2 : amg b 0 (cAt cs (nI a) - 1) with
        | false =>
          rw [if_neg (by decide), if_neg (by decide)]
          exact m1
        | true =>
          rw [if_pos rfl, if_pos rfl]
          exact agree_one
      · rw [if_neg hz, if_neg (show ¬ eqS (.str z) "in" = true from fun x => hz (of_decide_eq_true (show decide (z = "in") = true from x))), pair_sz]
        by_cases hs : szs z = 2
        · rw [if_pos hs, decide_eq_true hs, if_pos (c := true = true) rfl]
          have po := pos [a, b]
          by_cases hg : dp = 0 ∨ l < 1
          · rw [if_pos hg]
            exact agree_no po (by simp) hg
          · rw [if_neg hg]
            have := Chain.node (dp := dp) (l := l - 1) po ⟨_, ha dp (l - 1) da, _, hb dp _ db, rfl⟩
            rw [Int.sub_add_cancel] at this
            exact this
        · rw [if_neg hs, decide_eq_false hs, if_neg (c := false = true) (by decide)]
          by_cases hz3 : z = "rest" ∧ amg b 2 99 = true
          · rw [if_pos hz3, if_pos (c := (eqS (.str z) "rest" && amg b 2 99) = true) (by rw [show eqS (.str z) "rest" = true from decide_eq_true hz3.1, hz3.2]; rfl)]
            have po := pos [a]
            by_cases hg : dp = 0 ∨ l < 1
            · rw [if_pos hg]
              exact agree_no po (by simp) hg
            · rw [if_neg hg]
              have := Chain.node (dp := dp) (l := l - 1) po ⟨_, ha dp (l - 1) da, rfl⟩
              rw [Int.sub_add_cancel] at this
              exact this
          · rw [if_neg hz3, if_neg (c := (eqS (.str z) "rest" && amg b 2 99) = true) (fun x => by
              rw [Bool.and_eq_true] at x
              exact hz3 ⟨of_decide_eq_true (show decide (z = "rest") = true from x.1), x.2⟩)]
            show (if dp = 0 ∨ l < 1 then (-1 : Int) else -1) < 0
            split <;> exact m1
    | [a, b, c], hin =>
      have ha := lbe_ok cs q a
      have hb := lbe_ok cs q b
      have hc := lbe_ok cs q c
      have da := hin a List.mem_cons_self
      have db := hin b (List.mem_cons_of_mem _ List.mem_cons_self)
      have dc := hin c (List.mem_cons_of_mem _ (List.mem_cons_of_mem _ List.mem_cons_self))
      rw [inn_E3, lbe]
      by_cases hz : z = "if"
      · rw [if_pos hz]
        have po := pos [a, b, c]
        by_cases hg : dp = 0 ∨ l < 1
        · rw [if_neg (by omega)]
          exact agree_no po (by simp) hg
        · rw [if_pos ⟨show eqS (.str z) "if" = true from decide_eq_true hz, by omega, by omega⟩]
          have := Chain.node (dp := dp) (l := l - 1) po ⟨_, ha dp (l - 1) da, _, hb dp _ db, _, hc dp _ dc, rfl⟩
          rw [Int.sub_add_cancel] at this
          exact this
      · rw [if_neg hz, if_neg (fun x => hz (of_decide_eq_true (show decide (z = "if") = true from x.1)))]
        exact m1
end SfM
namespace SfM
open PySem PySem.Spec PyProof.Rows L2 SfG SfC
theorem inn_B (cs : List Nat) (m : Nat) (z : Str) (ds : List PyData) : inn cs (some m) z ds = o11 (some m) z ds (o10 (some m) z ds (o9 (some m) z ds none)) := by
  unfold inn o8 o6 o5 o4
  rw [if_neg (c := some m = none ∧ szs z = _ ∧ _) (fun h => by cases h.1), if_neg (c := some m = none ∧ z = "rest" ∧ _) (fun h => by cases h.1), if_neg (c := some m = none ∧ z = "in" ∧ _) (fun h => by cases h.1), if_neg (c := some m = none ∧ z = "number" ∧ _) (fun h => by cases h.1)]
theorem inn_B0 (cs : List Nat) (m : Nat) (z : Str) : inn cs (some m) z [] = if z = "refuse" then some [] else none := by
  rw [inn_B]
  unfold o11 o10 o9
  rw [if_neg (fun h => absurd h.2.2 (by show ¬ (0 = 3); decide)), if_neg (fun h => absurd h.2.2.1 (by show ¬ (0 = 1); decide))]
  by_cases h : z = "refuse"
  · rw [if_pos h, if_pos ⟨by simp, h, rfl⟩]
  · rw [if_neg h, if_neg (fun x => h x.2.1)]
theorem inn_B1 (cs : List Nat) (m : Nat) (z : Str) (a : PyData) : inn cs (some m) z [a] = if z = "give" ∧ isT a = true ∧ (esOf a).length = m then some ((esOf a).map fun d => (d, none)) else none := by
  rw [inn_B]
  unfold o11 o10 o9
  rw [if_neg (fun h => absurd h.2.2 (by show ¬ (1 = 3); decide)), if_neg (c := _ ∧ z = "refuse" ∧ _) (fun h => by cases h.2.2)]
  by_cases h : z = "give" ∧ isT a = true ∧ (esOf a).length = m
  · rw [if_pos h, if_pos ⟨by simp, h.1, rfl, h.2.1, by show some m = some (esOf a).length; rw [h.2.2]⟩]
    rfl
  · rw [if_neg h, if_neg (fun x => h ⟨x.2.1, x.2.2.2.1, (Option.some.inj x.2.2.2.2).symm⟩)]
theorem inn_B3 (cs : List Nat) (m : Nat) (z : Str) (a b c : PyData) : inn cs (some m) z [a, b, c] = if z = "when" then some [(a, none), (b, some m), (c, some m)] else none := by
  rw [inn_B]
  unfold o11 o10 o9
  rw [if_neg (c := _ ∧ z = "give" ∧ _) (fun h => absurd h.2.2.1 (by show ¬ (3 = 1); decide)), if_neg (c := _ ∧ z = "refuse" ∧ _) (fun h => by cases h.2.2)]
  by_cases h : z = "when"
  · rw [if_pos h, if_pos ⟨by simp, h, rfl⟩]
    rfl
  · rw [if_neg h, if_neg (fun x => h x.2.1)]
theorem inn_Bn (cs : List Nat) (m : Nat) (z : Str) (ds : List PyData) (h : ds.length = 2 ∨ 4 ≤ ds.length) : inn cs (some m) z ds = none := by
  rw [inn_B]
  unfold o11 o10 o9
  rw [if_neg (fun x => by have := x.2.2; omega), if_neg (fun x => by have := x.2.2.1; omega), if_neg (fun x => by have h2 := x.2.2; rw [h2] at h; rcases h with h | h <;> simp at h)]
theorem chain_m1 {dp : Nat} : ∀ {os : List (Option (Int × Int))}, (∀ o ∈ os, Pos o) → Chain dp os (-1) (-1)
  | [], _ => rfl
  | o :: os, hp => ⟨-1, Agree.low m1 fun pk e hh => by have := (hp o List.mem_cons_self pk.1 pk.2 e).1; omega, chain_m1 fun o ho => hp o (List.mem_cons_of_mem _ ho)⟩
theorem pos_map {cs : List Nat} {q : Nat} {m : Option Nat} (l : List PyData) : ∀ o ∈ l.map (fun d => lk cs q m d), Pos o := fun o ho => by
  obtain ⟨d, _, rfl⟩ := List.mem_map.mp ho
  exact lk_pos q m d
theorem giv_ch (cs : List Nat) (q dp : Nat) : ∀ (es : List PyData) (l : Int), (∀ e ∈ es, e.depth < q) → Chain dp (es.map fun e => lk cs q none e) l (giv cs dp es l)
  | [], l, _ => rfl
  | e :: r, l, h => by
    rw [giv]
    by_cases hl : l < 1
    · rw [if_pos hl]
      have po := pos_map (cs := cs) (q := q) (m := none) (e :: r)
      exact ⟨-1, Agree.low m1 fun pk e hh => by have := (po _ List.mem_cons_self pk.1 pk.2 e).1; omega, chain_m1 fun o ho => po o (List.mem_cons_of_mem _ ho)⟩
    · rw [if_neg hl]
      exact ⟨_, lbe_ok cs q e dp l (h e List.mem_cons_self), giv_ch cs q dp r _ fun e he => h e (List.mem_cons_of_mem _ he)⟩
theorem lbb_low {cs : List Nat} {m dp : Nat} {w : PyData} {ds : List PyData} {l : Int} (h1 : eqS w "refuse" = true → ds ≠ []) (h2 : ∀ a, ds = [a] → eqS w "give" = true → giveD cs m dp a (l - 1) = -1) (h3 : ∀ a b c, ds = [a, b, c] → eqS w "when" = false) : lbb cs m (dp + 1) (.tuple (w :: ds)) l = -1 := by
  rw [lbb_tup]
  by_cases hl : l < 1
  · rw [if_pos hl]
  rw [if_neg hl]
  by_cases hr : eqS w "refuse" = true
  · rw [if_pos hr, if_neg]
    have := h1 hr
    cases ds with
    | nil => exact absurd rfl this
    | cons _ _ => intro z; cases z
  rw [if_neg hr]
  by_cases hd : dp = 0
  · rw [if_pos hd]
  rw [if_neg hd]
  match ds with
  | [] => rfl
  | [a] =>
    show (if eqS w "give" = true then giveD cs m dp a (l - 1) else -1) = -1
    split
    · rename_i hg
      exact h2 a rfl hg
    · rfl
  | [_, _] => rfl
  | [a, b, c] =>
    show (if eqS w "when" = true then _ else (-1 : Int)) = -1
    rw [h3 a b c rfl, if_neg (by decide)]
  | _ :: _ :: _ :: _ :: _ => rfl
theorem lbb_ok (cs : List Nat) (m : Nat) (hm : 1 ≤ m) : ∀ (q : Nat) (d : PyData) (dp : Nat) (l : Int), d.depth < q → Agree (lk cs q (some m) d) dp l (lbb cs m dp d l)
  | 0, _, _, _, h => absurd h (Nat.not_lt_zero _)
  | q + 1, d, 0, l, h => by
    rw [lbb]
    exact Agree.low m1 fun pk e hh => by have := (lk_pos (q + 1) (some m) d pk.1 pk.2 e).2; omega
  | q + 1, d, dp + 1, l, h => by
    rcases tup_is d with h1 | ⟨es, rfl⟩
    · rw [lk_noT h1, lbb_no h1]
      exact m1
    cases es with
    | nil =>
      rw [show lbb cs m (dp + 1) (.tuple []) l = -1 by simp [lbb]]
      exact m1
    | cons w ds =>
    rcases str_is w with h1 | ⟨z, rfl⟩
    · rw [lk_noS h1, lbb_low (fun x => by rw [eqS_no h1] at x; cases x) (fun a _ x => by rw [eqS_no h1] at x; cases x) (fun _ _ _ _ => eqS_no h1 _)]
      exact m1
    rw [lk_tup]
    rw [PyData.depth, PyData.depthAll] at h
    have hin : ∀ d ∈ ds, d.depth < q := fun d hd => by have := depA_mem hd; omega
    have e1 : ∀ {x : Str}, eqS (.str z) x = true → z = x := fun {x} h => of_decide_eq_true (show decide (z = x) = true from h)
    match ds, hin with
    | [], _ =>
      rw [inn_B0]
      by_cases hz : z = "refuse"
      · rw [if_pos hz, lbb_tup, if_pos (c := eqS (.str z) "refuse" = true) (decide_eq_true hz)]
        by_cases hl : l < 1
        · rw [if_pos hl]
          refine Agree.low m1 fun pk e hh => ?_
          cases (show some (1 + ([] : List Int).sum, 1 + mxI []) = some pk from e)
          have := hh.2
          rw [List.sum_nil] at this
          omega
        · rw [if_neg hl]
          exact agree_one
      · rw [if_neg hz, lbb_low (fun x => absurd (e1 x) hz) (fun a x => by cases x) (fun _ _ _ x => by cases x)]
        exact m1
    | [a, b], _ =>
      rw [inn_Bn cs m z _ (.inl rfl), lbb_low (fun _ => by simp) (fun a x => by cases x) (fun _ _ _ x => by cases x)]
      exact m1
    | a :: b :: c :: e :: r, _ =>
      rw [inn_Bn cs m z _ (.inr (by simp)), lbb_low (fun _ => by simp) (fun a x => by cases x) (fun _ _ _ x => by cases x)]
      exact m1
    | [a], hin =>
      rw [inn_B1]
      by_cases hz : z = "give" ∧ isT a = true ∧ (esOf a).length = m
      case neg =>
        rw [if_neg hz, lbb_low (fun _ => by simp) (fun a' x hg => ?_) (fun _ _ _ x => by cases x)]
        · exact m1
        · cases x
          rcases tup_is a with h1 | ⟨es, rfl⟩
          · exact giveD_no h1
          · exact if_neg fun x => hz ⟨e1 hg, by show ("tuple" == "tuple") = true; decide, x⟩
      rw [if_pos hz]
      obtain ⟨hz1, ht, hl⟩ := hz
      rcases tup_is a with h1 | ⟨es, rfl⟩
      · unfold isT at ht
        rw [h1] at ht
        cases ht
      have hl : es.length = m := hl
      have hes : ∀ e ∈ es, e.depth < q := fun e he => by
        have a1 := hin _ List.mem_cons_self
        rw [PyData.depth] at a1
        have := depA_mem he
        omega
      have ee : endL cs q (some (es.map fun d => (d, none))) = outL (es.map fun e => lk cs q none e) := by
        show outL ((es.map fun d => (d, none)).map fun dm => lk cs q dm.2 dm.1) = _
        rw [List.map_map]
        rfl
      have po := pos_map (cs := cs) (q := q) (m := none) es
      have ne : (es.map fun e => lk cs q none e) ≠ [] := fun x => by
        have := congrArg List.length x
        rw [List.length_map, List.length_nil] at this
        omega
      show Agree (endL cs q (some (es.map fun d => (d, none)))) (dp + 1) l _
      rw [ee, lbb_tup]
      by_cases hg : dp = 0 ∨ l < 1
      · have er : (if l < 1 then (-1 : Int) else if eqS (.str z) "refuse" = true then (if ([PyData.tuple es] : List PyData).isEmpty = true then l - 1 else -1) else if dp = 0 then -1 else bodR cs m dp (.str z) [.tuple es] l (lbb cs m dp)) = -1 := by
          by_cases hl : l < 1
          · rw [if_pos hl]
          · rw [if_neg hl, if_neg (fun x => by have := e1 x; rw [hz1] at this; exact absurd this (by decide +kernel)), if_pos (by omega)]
        rw [er]
        exact agree_no po ne hg
      · rw [if_neg (by omega), if_neg (fun x => by have := e1 x; rw [hz1] at this; exact absurd this (by decide +kernel)), if_neg (by omega)]
        have eb : bodR cs m dp (.str z) [.tuple es] l (lbb cs m dp) = giv cs dp es (l - 1) := by
          show (if eqS (.str z) "give" = true then (if es.length = m then giv cs dp es (l - 1) else -1) else -1) = _
          rw [if_pos (show eqS (.str z) "give" = true from decide_eq_true hz1), if_pos hl]
        rw [eb]
        have := Chain.node (dp := dp) (l := l - 1) po (giv_ch cs q dp es (l - 1) hes)
        rw [Int.sub_add_cancel] at this
        exact this
    | [a, b, c], hin =>
      have da := hin a List.mem_cons_self
      have db := hin b (List.mem_cons_of_mem _ List.mem_cons_self)
      have dc := hin c (List.mem_cons_of_mem _ (List.mem_cons_of_mem _ List.mem_cons_self))
      have ha := lbe_ok cs q a
      have hb := lbb_ok cs m hm q b
      have hc := lbb_ok cs m hm q c
      rw [inn_B3]
      by_cases hz : z = "when"
      case neg =>
        rw [if_neg hz, lbb_low (fun _ => by simp) (fun a x => by cases x) (fun _ _ _ _ => by
          show decide (z = "when") = false
          exact decide_eq_false hz)]
        exact m1
      rw [if_pos hz]
      have po : ∀ o ∈ [lk cs q none a, lk cs q (some m) b, lk cs q (some m) c], Pos o := fun o ho => by
        simp only [List.mem_cons, List.not_mem_nil, or_false] at ho
        rcases ho with rfl | rfl | rfl <;> exact lk_pos _ _ _
      show Agree (outL [lk cs q none a, lk cs q (some m) b, lk cs q (some m) c]) (dp + 1) l _
      rw [lbb_tup]
      by_cases hg : dp = 0 ∨ l < 1
      · have er : (if l < 1 then (-1 : Int) else if eqS (.str z) "refuse" = true then (if ([a, b, c] : List PyData).isEmpty = true then l - 1 else -1) else if dp = 0 then -1 else bodR cs m dp (.str z) [a, b, c] l (lbb cs m dp)) = -1 := by
          by_cases hl : l < 1
          · rw [if_pos hl]
          · rw [if_neg hl, if_neg (fun x => by have := e1 x; rw [hz] at this; exact absurd this (by decide +kernel)), if_pos (by omega)]
        rw [er]
        exact agree_no po (by simp) hg
      · rw [if_neg (by omega), if_neg (fun x => by have := e1 x; rw [hz] at this; exact absurd this (by decide +kernel)), if_neg (by omega)]
        have eb : bodR cs m dp (.str z) [a, b, c] l (lbb cs m dp) = lbb cs m dp c (lbb cs m dp b (lbe cs dp a (l - 1))) := if_pos (show eqS (.str z) "when" = true from decide_eq_true hz)
        rw [eb]
        have := Chain.node (dp := dp) (l := l - 1) po ⟨_, ha dp (l - 1) da, _, hb dp _ db, _, hc dp _ dc, rfl⟩
        rw [Int.sub_add_cancel] at this
        exact this
/-- a body is what the law's own look has as one -/
theorem is_body_lk {cs : List Nat} {m q : Nat} {d : PyData} (hm : 1 ≤ m) (h : d.depth < q) : decide (0 ≤ lbb cs m 8 d 60) = match lk cs q (some m) d with
    | none => false
    | some pk => decide (pk.1 < 61) && decide (pk.2 < 9) := by
  have := lbb_ok cs m hm q d 8 60 h
  cases hl : lk cs q (some m) d with
  | none =>
    rw [hl] at this
    have this : lbb cs m 8 d 60 < 0 := this
    exact decide_eq_false (by omega)
  | some pk =>
    rw [hl] at this
    have this : if pk.2 ≤ ((8 : Nat) : Int) ∧ pk.1 ≤ 60 then lbb cs m 8 d 60 = 60 - pk.1 else lbb cs m 8 d 60 < 0 := this
    show _ = (decide (pk.1 < 61) && decide (pk.2 < 9))
    split at this
    · rename_i hh
      rw [decide_eq_true (by omega), decide_eq_true (show pk.1 < 61 by omega), decide_eq_true (show pk.2 < 9 by omega)]
      rfl
    · rename_i hh
      rw [decide_eq_false (by omega)]
      by_cases h1 : pk.1 < 61
      · rw [decide_eq_true h1, decide_eq_false (show ¬ pk.2 < 9 by omega)]
        rfl
      · rw [decide_eq_false h1]
        rfl
end SfM
namespace SfM
open PySem PySem.Spec PyProof.Rows L2 SfG SfC
abbrev nExp : List Str := ["_law_state", "_law_counts", "_law_deep", "_law_way", "_law_kind_here", "_law_number", "_law_thing", "_law_word_here", "_law_k"]
theorem scExp : FnScope nExp ["_law_state", "_law_counts", "_law_deep"] (defScope sExp) := ⟨rfl, rfl, rfl, by decide +kernel, rfl, by decide +kernel, by decide +kernel⟩
/-! ### Es stay where tuples stay -/
section
variable {K : PySem.W.Frag} {H H' : Hp}
theorem sqt_upd {D : Addr} {l : List V} {o : HO} (hD : H D = some (.lst l)) {a : Addr} {xs : List V} (h : SqT K H a xs) : SqT K (upd H D o) a xs := by
  rcases h with (h | ⟨o', h⟩) | h
  · refine .inl (.inl ((upd_ne fun z => ?_).trans h))
    rw [z, hD] at h
    cases h
  · refine .inl (.inr ⟨o', (upd_ne fun z => ?_).trans h⟩)
    rw [z, hD] at h
    cases h
  · exact .inr h
theorem ex_keep (kt : ∀ {a xs}, SqT K H a xs → SqT K H' a xs) : ∀ (E : Ex) {v : V}, Dp K H v E.d → Dp K H' v E.d
  | .num n, v, h => by
    obtain ⟨p, x, y, rfl, hp, hx, hy⟩ := dp_2 h
    cases dp_str hx
    cases dp_int hy
    exact .tup (kt hp) (.cons (.str _) (.cons (.int _) .nil))
  | .inp k f, v, h => by
    obtain ⟨p, x, y, z, rfl, hp, hx, hy, hz⟩ := dp_3 h
    cases dp_str hx
    cases dp_int hy
    cases dp_int hz
    exact .tup (kt hp) (.cons (.str _) (.cons (.int _) (.cons (.int _) .nil)))
  | .bin w a b, v, h => by
    obtain ⟨p, x, y, z, rfl, hp, hx, hy, hz⟩ := dp_3 h
    cases dp_str hx
    exact .tup (kt hp) (.cons (.str _) (.cons (ex_keep kt a hy) (.cons (ex_keep kt b hz) .nil)))
  | .rst a n, v, h => by
    obtain ⟨p, x, y, z, rfl, hp, hx, hy, hz⟩ := dp_3 h
    cases dp_str hx
    cases dp_int hz
    exact .tup (kt hp) (.cons (.str _) (.cons (ex_keep kt a hy) (.cons (.int _) .nil)))
  | .iff a b c, v, h => by
    obtain ⟨p, x, y, z, u, rfl, hp, hx, hy, hz, hu⟩ := dp_4 h
    cases dp_str hx
    exact .tup (kt hp) (.cons (.str _) (.cons (ex_keep kt a hy) (.cons (ex_keep kt b hz) (.cons (ex_keep kt c hu) .nil))))
theorem exs_keep (kt : ∀ {a xs}, SqT K H a xs → SqT K H' a xs) : ∀ (es : List Ex) {vs : List V}, DpAll K H vs (es.map Ex.d) → DpAll K H' vs (es.map Ex.d)
  | [], vs, h => by
    rw [dpA_nil h]
    exact .nil
  | e :: r, vs, h => by
    obtain ⟨x, r', rfl, hx, hr⟩ := dpA_cons h
    exact .cons (ex_keep kt e hx) (exs_keep kt r hr)
theorem dpA_snoc : ∀ {ds : List PyData} {vs : List V} {v : V} {d : PyData}, DpAll K H vs ds → Dp K H v d → DpAll K H (vs ++ [v]) (ds ++ [d])
  | [], vs, v, d, h, hv => by
    rw [dpA_nil h]
    exact .cons hv .nil
  | a :: r, vs, v, d, h, hv => by
    obtain ⟨x, r', rfl, hx, hr⟩ := dpA_cons h
    exact .cons hx (dpA_snoc hr hv)
end
theorem Drw.ne2 {H : Hp} {p q : Addr} {xs : List V} (d : Drw H p) (h : H q = some (.tup xs)) : q ≠ p := by
  obtain ⟨x, y, e, _⟩ := d
  intro z
  rw [z, e] at h
  cases h
/-- a good E of so many levels -/
def Gd (cs : List Nat) (d : Nat) (e : Ex) : Prop := okE cs e ∧ dep e ≤ d ∧ lvs e ≤ 3 ^ (d - 1)
theorem Gd.mono {cs : List Nat} {d d' : Nat} {e : Ex} (h : Gd cs d e) (hd : d ≤ d') : Gd cs d' e := ⟨h.1, Nat.le_trans h.2.1 hd, Nat.le_trans h.2.2 (Nat.pow_le_pow_right (by decide) (by omega))⟩
theorem pick5 {k a b : Int} (h0 : 0 ≤ k) (h1 : k < 5) (ha : 0 ≤ a ∧ a ≤ 99) (hb : 0 ≤ b ∧ b ≤ 99) : ∃ v : Int, atI [V.int 0, .int 1, .int 99, .int a, .int b] k = some (.int v) ∧ 0 ≤ v ∧ v ≤ 99 := by
  have c : k = 0 ∨ k = 1 ∨ k = 2 ∨ k = 3 ∨ k = 4 := by omega
  rcases c with rfl | rfl | rfl | rfl | rfl
  · exact ⟨0, rfl, by decide, by decide⟩
  · exact ⟨1, rfl, by decide, by decide⟩
  · exact ⟨99, rfl, by decide, by decide⟩
  · exact ⟨a, rfl, ha⟩
  · exact ⟨b, rfl, hb⟩
theorem pick4 {k a b : Int} (h0 : 0 ≤ k) (h1 : k < 4) (ha : 2 ≤ a ∧ a ≤ 99) (hb : 2 ≤ b ∧ b ≤ 99) : ∃ v : Int, atI [V.int 2, .int 99, .int a, .int b] k = some (.int v) ∧ 2 ≤ v ∧ v ≤ 99 := by
  have c : k = 0 ∨ k = 1 ∨ k = 2 ∨ k = 3 := by omega
  rcases c with rfl | rfl | rfl | rfl
  · exact ⟨2, rfl, by decide, by decide⟩
  · exact ⟨99, rfl, by decide, by decide⟩
  · exact ⟨a, rfl, ha⟩
  · exact ⟨b, rfl, hb⟩
theorem pickw {k : Int} (h0 : 0 ≤ k) (h1 : k < 5) : ∃ w : Nat, w ≤ 4 ∧ atI [V.str "plus", .str "less", .str "times", .str "same", .str "under"] k = some (.str (opw w)) := by
  have c : k = 0 ∨ k = 1 ∨ k = 2 ∨ k = 3 ∨ k = 4 := by omega
  rcases c with rfl | rfl | rfl | rfl | rfl
  · exact ⟨0, by decide, rfl⟩
  · exact ⟨1, by decide, rfl⟩
  · exact ⟨2, by decide, rfl⟩
  · exact ⟨3, by decide, rfl⟩
  · exact ⟨4, by decide, rfl⟩
theorem cD_shape (cs : List Nat) : SeqAt.shaped (cD cs) = true := by
  have h1 : PyData.canLayAll0 (cs.map fun (c : Nat) => PyData.int (c : Int)) = true := by
    induction cs with
    | nil => rfl
    | cons a r ih => simp only [List.map_cons, PyData.canLayAll0, PyData.canLay0, ih]; rfl
  have h2 : PyData.depthAll (cs.map fun (c : Nat) => PyData.int (c : Int)) ≤ 1 := by
    clear h1
    induction cs with
    | nil => simp [PyData.depthAll]
    | cons a r ih => simp only [List.map_cons, PyData.depthAll, PyData.depth]; omega
  unfold SeqAt.shaped cD
  rw [PyData.canLay0, h1]
  refine decide_eq_true ?_
  rw [PyData.depth]
  omega
theorem cD_nil (cs : List Nat) : PyData.eqv (cD cs) (.tuple []) = decide (cs = []) := by
  cases cs with
  | nil => rfl
  | cons a r =>
    rw [decide_eq_false (by simp)]
    rfl
section
variable {P : Program} {w : World} {K : PySem.W.Frag} {mg : Str → Option Value} {base : Heap}
def spExp (K : PySem.W.Frag) (n : Nat) : Sp := fun vs H Q _ => ∃ (p : Addr) (c : V) (d : Nat) (cs : List Nat), vs = [.ref p, c, .int d] ∧ Drw H p ∧ Dp K H c (cD cs) ∧ (cs.length ≤ 3 ∧ ∀ x ∈ cs, 1 ≤ x ∧ x ≤ 3) ∧ 1 ≤ d ∧ d ≤ n ∧ n ≤ 8 ∧
  ∀ H' v E, Gp p H H' → Drw H' p → Dp K H' v E.d → Gd cs d E → Q v H'
theorem less_one (p : Addr) (c : V) (d : Nat) : [V.ref p, c, V.int ((d : Int) + 1 - 1)] = [V.ref p, c, V.int d] := by rw [Int.add_sub_cancel]
def ifThen (s : Stmt) : List Stmt := match s with
  | .If _ a _ _ => a
  | _ => []
/-- an E of one level -/
theorem exp_small {f fP : Addr} {fdP : FuncData} {k : Nat} {cdv : Value} {A : Around} {outer : List Env} {s : Shared} {H : Hp} {Q : VK} {E : XK} {p : Addr} {c : V} {d0 : Nat} {cs : List Nat}
    (HP : Has P w K mg base k "_law_pick" ["_law_state", "_law_many"] spPick fP fdP) (ml : mg "len" = none) (hr : Room k (A.deeper (envOfC "_law_expression" (defScope sExp) s.heap.objs.size f cdv)))
    (hcs : cs.length ≤ 3 ∧ ∀ x ∈ cs, 1 ≤ x ∧ x ≤ 3) (hd : 1 ≤ d0) (fin : ∀ H' v E, Gp p H H' → Drw H' p → Dp K H' v E.d → Gd cs d0 E → Q v H') :
    ∃ tb, PSs (cxOf CX0 P w K mg base nExp "_law_expression" (defScope sExp) f cdv A outer s H E).nox (ifThen ((defBody sExp).getD 1 (.Pass ⟨0, 0, 0, 0⟩))) tb ∧
      ∀ (D : Ends) (H1 : Hp) (way : Int) (y4 y5 y6 y7 y8 : Option V), D.rt = Q → Gp p H H1 → Drw H1 p → Dp K H1 c (cD cs) → tb D [some (.ref p), some c, some (.int d0), some (.int way), y4, y5, y6, y7, y8] H1 := by
  have nd := scExp.nd
  refine' ⟨_, pss_cons ?a1 (pss_cons ?a2 (pss_cons ?a3 (pss_one ?a4))), ?rd⟩
  case a1 =>
    exact ps_par (i := 4) (j := 5) rfl nd rfl rfl (by decide) rfl rfl (pa_cons (hcall HP hr (pa_cons (pv 0) (pa_cons pe_int pa_nil))) (pa_cons (hcall HP hr (pa_cons (pv 0) (pa_cons pe_int pa_nil))) pa_nil)) (by rfl)
  case a2 =>
    exact ps_if (PW.pt (pw_or (pt_cmpR (op_eqD hr.units) (pv 1) (pe_tup pa_nil) (nomark _)) (pw_or (pt_cmpR op_eq (pv 4) pe_int (nomark _)) (pw_or1 (pt_cmpR op_eq (pv 3) pe_int (nomark _))))))
      (pss_one (ps_ret (pe_tup (pa_cons pe_str (pa_cons (pe_ix ix_list (pe_lst (pa_cons pe_int (pa_cons pe_int (pa_cons pe_int (pa_cons (pe_op op_mod (pv 5) pe_int) (pa_cons (pv 5) pa_nil)))))) (pv 4) (fun _ _ => rfl)) pa_nil))))) pss_nil
  case a3 =>
    exact ps_set (i := 6) nd rfl (.inl rfl) (pe_op op_mod (pv 5) (pe_callB call_len_seq (by rfl) ml PySem.boot_len (pa_cons (pv 1) pa_nil)))
  case a4 =>
    exact ps_ret (pe_tup (pa_cons pe_str (pa_cons (pv 6) (pa_cons (hcall HP hr (pa_cons (pv 0) (pa_cons (pe_ix ix_tup (pv 1) (pv 6) (fun _ _ => rfl)) pa_nil))) pa_nil))))
  case rd =>
  rintro ⟨nx, rt, bk, ct⟩ H1 way y4 y5 y6 y7 y8 rfl g1 dr1 hc1
  refine ⟨_, rfl, p, 5, rfl, dr1, by decide, by decide, fun H2 kd b2 dr2 k0 k5 => ?_⟩
  refine ⟨_, rfl, p, 100, rfl, dr2, by decide, by decide, fun H3 nu b3 dr3 n0 n1 => ?_⟩
  refine ⟨_, _, rfl, ?_⟩
  have g3 : Gp p H1 H3 := (Gp.but b2).trans (Gp.but b3)
  have hc3 : Dp K H3 c (cD cs) := (dr1.kd g3).dp hc1
  -- counts == ()
  refine ⟨_, rfl, by show 0 ≤ sizeLine; decide, fun p0 np0 => ?_⟩
  have g4 : Gr H3 (upd H3 p0 (.tup [])) := Gr.new np0
  have hc4 : Dp K (upd H3 p0 (.tup [])) c (cD cs) := g4.kd.dp hc3
  refine ⟨cD cs, .tuple [], hc4, .tup (.inl (.inl upd_same)) .nil, cD_shape cs, rfl, _, rfl, ?_⟩
  rw [cD_nil]
  have gp4 : Gp p H (upd H3 p0 (.tup [])) := (g1.trans g3).trans (Gp.gr g4)
  have dr4 : Drw (upd H3 p0 (.tup [])) p := dr3.gr g4
  generalize upd H3 p0 (.tup []) = H4 at g4 hc4 gp4 dr4 ⊢
  have num : tRet (tTup (tCons (tC (.str "number")) (tCons (tOp (rIxL K) (tLst (tCons (tC (.int 0)) (tCons (tC (.int 1)) (tCons (tC (.int 99)) (tCons (tOp (rI (fun _ j => 0 < j) fun i j => .int (i % j)) (tVar 5) (tC (.int 10))) (tCons (tVar 5) tNil)))))) (tVar 4)) tNil)))
      { nx := tSeq (tAsg (tOp (rI (fun _ j => 0 < j) fun i j => .int (i % j)) (tVar 5) (tCB (fun xs H Q => ∃ p ys, xs = [.ref p] ∧ (SqL K H p ys ∨ SqT K H p ys) ∧ Q (.int ys.length) H) (tCons (tVar 1) tNil))) (gName 6)) (tRet (tTup (tCons (tC (.str "in")) (tCons (tVar 6) (tCons (tCall spPick [] E0 (tCons (tVar 0) (tCons (tOp (rIxT K) (tVar 1) (tVar 6)) tNil))) tNil))))) { nx := nx, rt := rt, bk := bk, ct := ct }, rt := rt, bk := bk, ct := ct }
      [some (.ref p), some c, some (.int d0), some (.int way), some (.int kd), some (.int nu), y6, y7, y8] H4 := by
    have hm := Int.emod_nonneg nu (show (10 : Int) ≠ 0 by decide)
    have hm2 := Int.emod_lt_of_pos nu (show (0 : Int) < 10 by decide)
    obtain ⟨v, ev', v0, v1⟩ := pick5 (a := nu % 10) (b := nu) k0 k5 ⟨hm, by omega⟩ ⟨n0, by omega⟩
    refine ⟨_, rfl, nu, 10, rfl, rfl, (by show (0 : Int) < 10; decide), _, rfl, by show 5 ≤ sizeLine; decide, fun pl npl => ?_⟩
    refine ⟨_, rfl, pl, _, kd, .int v, rfl, rfl, .inl (.inl upd_same), ev', by show 2 ≤ sizeLine; decide, fun tp ntp => ?_⟩
    refine fin _ (.ref tp) (.num v) (gp4.trans (Gp.gr ((Gr.new npl).trans (Gr.new ntp)))) (dr4.gr ((Gr.new npl).trans (Gr.new ntp))) (.tup (.inl (.inl upd_same)) (.cons (.str _) (.cons (.int _) .nil))) ⟨⟨v0, v1⟩, hd, Nat.one_le_pow _ _ (by decide)⟩
  cases hcn : decide (cs = []) with
  | true => exact iteT (iteT num)
  | false =>
    have hne : cs ≠ [] := of_decide_eq_false hcn
    refine iteF ⟨_, rfl, rfl, _, rfl, ite2 (fun e => iteT num) (fun e => ⟨_, rfl, rfl, _, rfl, ite2 (fun e => num) (fun e => ?_)⟩)⟩
    obtain ⟨pc, cx, rfl, hpc, hcx⟩ := dp_tup hc4
    have hcl : cx.length = cs.length := by
      have := dpA_len hcx
      rw [List.length_map] at this
      exact this
    have hpos : 0 < cs.length := List.length_pos_iff.mpr hne
    refine ⟨_, rfl, _, rfl, pc, _, rfl, .inr hpc, nu, _, rfl, rfl, (by show (0 : Int) < (cx.length : Int); omega), ?_⟩
    have t0 := Int.emod_nonneg nu (show (cx.length : Int) ≠ 0 by omega)
    have t1 := Int.emod_lt_of_pos nu (show (0 : Int) < (cx.length : Int) by omega)
    change gName 6 (V.int (nu % (cx.length : Int))) _ _ _
    generalize hth : nu % (cx.length : Int) = th at t0 t1 ⊢
    obtain ⟨tn, rfl⟩ : ∃ tn : Nat, th = (tn : Int) := ⟨th.toNat, by omega⟩
    have htl : tn < cs.length := by omega
    obtain ⟨vc, evc, dvc⟩ := dpA_get (i := tn) (d := .int ((cs[tn] : Nat) : Int)) hcx (by rw [List.getElem?_map]; simp [htl])
    cases dp_int dvc
    have hb := hcs.2 cs[tn] (List.getElem_mem htl)
    refine ⟨_, rfl, _, rfl, _, rfl, _, rfl, pc, _, (tn : Int), _, rfl, rfl, hpc, atI_nat evc, p, _, rfl, dr4, by omega, by omega, fun H5 fj b5 dr5 f0 f1 => ?_⟩
    obtain ⟨fn, rfl⟩ : ∃ fn : Nat, fj = (fn : Int) := ⟨fj.toNat, by omega⟩
    refine ⟨by show 3 ≤ sizeLine; decide, fun tp ntp => ?_⟩
    refine fin _ (.ref tp) (.inp tn fn) ((gp4.trans (Gp.but b5)).trans (Gp.gr (Gr.new ntp))) (dr5.gr (Gr.new ntp)) (.tup (.inl (.inl upd_same)) (.cons (.str _) (.cons (.int _) (.cons (.int _) .nil)))) ⟨⟨cs[tn], by simp [htl], by omega⟩, hd, Nat.one_le_pow _ _ (by decide)⟩
set_option maxHeartbeats 4000000 in
theorem ok_exp {f fP : Addr} {fd fdP : FuncData} (F : Fun K "_law_expression" "_law_expression" sExp f fd) (bE : Binds K fd ["_law_state", "_law_counts", "_law_deep"] []) (gE : mg "_law_expression" = some (.ref f))
    (HP : Has P w K mg base 1 "_law_pick" ["_law_state", "_law_many"] spPick fP fdP) (ml : mg "len" = none) (mt : mg "tuple" = none) (mr : mg "range" = none) : ∀ n, FnOk P w K mg base CX0 (n + 2) f fd ["_law_state", "_law_counts", "_law_deep"] (spExp K n)
  | 0 => by
    refine F.ok scExp (fun vs H Q E h => ?_) (fun cdv A outer s H vs Q E hr h => ?_)
    · obtain ⟨p, c, d, cs, rfl, _⟩ := h
      rfl
    · obtain ⟨p, c, d, cs, rfl, _, _, _, h1, h2, _⟩ := h
      omega
  | n + 1 => by
    have GE := ok_exp F bE gE HP ml mt mr n
    refine F.ok scExp (fun vs H Q E h => ?_) (fun cdv A outer s H vs Q E hr h => ?_)
    · obtain ⟨p, c, d, cs, rfl, _⟩ := h
      rfl
    · obtain ⟨p, c, d0, cs, rfl, dr, hc, hcs, hd1', hdn, hn8, fin⟩ := h
      have nd := scExp.nd
      have HP' : Has P w K mg base (n + 2) "_law_pick" ["_law_state", "_law_many"] spPick fP fdP := ⟨HP.ok.mono (by omega), HP.at_, HP.kp, HP.bd⟩
      obtain ⟨tb, db, rb⟩ := exp_small (f := f) (outer := outer) (E := E) (c := c) HP' ml hr hcs hd1' fin
      refine' ⟨_, pss_cons ?s1 (pss_cons ?s2 (pss_cons ?s3 (pss_cons ?s4 (pss_cons ?s5 (pss_one ?s6))))), ?rd⟩
      case s1 =>
        exact ps_set (i := 3) nd rfl (.inl rfl) (hcall HP' hr (pa_cons (pv 0) (pa_cons pe_int pa_nil)))
      case s2 =>
        exact ps_if (PW.pt (pw_or (pt_cmpR op_eq (pv 2) pe_int (nomark _)) (pw_or1 (pt_cmpR op_lt (pv 3) pe_int (nomark _))))) db pss_nil
      case s3 =>
        refine' ps_if (pt_cmpR op_eq (pv 3) pe_int (nomark _)) (pss_cons ?b1 (pss_one ?b2)) pss_nil
        case b1 =>
          exact ps_par (i := 4) (j := 5) rfl nd rfl rfl (by decide) rfl rfl (pa_cons (hcall HP' hr (pa_cons (pv 0) (pa_cons pe_int pa_nil))) (pa_cons (pe_op op_add pe_int (hcall HP' hr (pa_cons (pv 0) (pa_cons pe_int pa_nil)))) pa_nil)) (by rfl)
        case b2 =>
          exact ps_ret (pe_tup (pa_cons pe_str (pa_cons (pe_call GE hr (by rfl) gE F.kp bE .nil pass0 (pa_cons (pv 0) (pa_cons (pv 1) (pa_cons (pe_op op_sub (pv 2) pe_int) pa_nil))))
            (pa_cons (pe_ix ix_list (pe_lst (pa_cons pe_int (pa_cons pe_int (pa_cons (pe_op op_add pe_int (pe_op op_mod (pv 5) pe_int)) (pa_cons (pv 5) pa_nil))))) (pv 4) (fun _ _ => rfl)) pa_nil))))
      case s4 =>
        exact ps_if (pt_cmpR op_eq (pv 3) pe_int (nomark _)) (pss_one (ps_ret (pe_op op_catT (pe_tup (pa_cons pe_str pa_nil)) (pe_callTy call_tuple_of (by rfl) mt (by decide +kernel) (pa_cons (pe_lc (own := [("_law_k", 8)]) (g := gName 8) rfl nd
          (pi_range1 (by rfl) mr (pa_cons pe_int pa_nil)) (blkOk_by (own := [("_law_k", 8)]) (N := nExp) (sc := defScope sExp) (by decide +kernel)) (fun _ _ _ _ _ => pg_name (i := 8) nd rfl (Or.inl rfl)) (fun _ _ _ _ _ => pts_nil)
          (fun _ _ _ _ _ => pe_call GE hr (by rfl) gE F.kp bE .nil pass0 (pa_cons (pv 0) (pa_cons (pv 1) (pa_cons (pe_op op_sub (pv 2) pe_int) pa_nil))))) pa_nil))))) pss_nil
      case s5 =>
        exact ps_set (i := 7) nd rfl (.inl rfl) (pe_ix ix_list (pe_lst (pa_cons pe_str (pa_cons pe_str (pa_cons pe_str (pa_cons pe_str (pa_cons pe_str pa_nil)))))) (pe_op op_sub (pv 3) pe_int) (fun _ _ => rfl))
      case s6 =>
        exact ps_ret (pe_op op_catT (pe_tup (pa_cons (pv 7) pa_nil)) (pe_callTy call_tuple_of (by rfl) mt (by decide +kernel) (pa_cons (pe_lc (own := [("_law_k", 8)]) (g := gName 8) rfl nd
          (pi_range1 (by rfl) mr (pa_cons pe_int pa_nil)) (blkOk_by (own := [("_law_k", 8)]) (N := nExp) (sc := defScope sExp) (by decide +kernel)) (fun _ _ _ _ _ => pg_name (i := 8) nd rfl (Or.inl rfl)) (fun _ _ _ _ _ => pts_nil)
          (fun _ _ _ _ _ => pe_call GE hr (by rfl) gE F.kp bE .nil pass0 (pa_cons (pv 0) (pa_cons (pv 1) (pa_cons (pe_op op_sub (pv 2) pe_int) pa_nil))))) pa_nil)))
      case rd =>
      refine ⟨_, rfl, p, 10, rfl, dr, by decide, by decide, fun H1 way b1 dr1 w0 w10 => ?_⟩
      have gp1 : Gp p H H1 := Gp.but b1
      have hc1 : Dp K H1 c (cD cs) := (dr.kd gp1).dp hc
      refine ⟨_, rfl, rfl, _, rfl, ite2 (fun e => iteT (rb _ H1 way _ _ _ _ _ rfl gp1 dr1 hc1)) (fun e => ?_)⟩
      refine ⟨_, rfl, way, 3, rfl, rfl, _, rfl, ite2 (fun e => rb _ H1 way _ _ _ _ _ rfl gp1 dr1 hc1) (fun e2 => ?_)⟩
      have hd1n : d0 ≠ 1 := fun z => e (decide_eq_true (by rw [z]; rfl))
      obtain ⟨d, rfl⟩ : ∃ d, d0 = d + 1 := ⟨d0 - 1, by omega⟩
      have hd1 : 1 ≤ d := by omega
      have hw3 : ¬ way < 3 := of_decide_eq_false (by simpa using e2)
      have cast : ∀ {g : Prop}, g → g := fun h => h
      -- way == 3
      refine ⟨_, rfl, rfl, _, rfl, ite2 (fun e3 => ?_) (fun e3 => ?_)⟩
      · refine ⟨_, rfl, p, 4, rfl, dr1, by decide, by decide, fun H2 kd b2 dr2 k0 k4 => ?_⟩
        refine ⟨_, rfl, p, 98, rfl, dr2, by decide, by decide, fun H3 nu b3 dr3 n0 n98 => ?_⟩
        refine ⟨2, nu, rfl, rfl, _, _, rfl, ?_⟩
        have g3 : Gp p H1 H3 := (Gp.but b2).trans (Gp.but b3)
        have hc3 : Dp K H3 c (cD cs) := (dr1.kd g3).dp hc1
        refine ⟨_, rfl, _, rfl, _, rfl, (d : Int) + 1, 1, rfl, rfl, p, c, d, cs, less_one p c d, dr3, hc3, hcs, hd1, by omega, by omega, fun H4 v e g4 dr4 hv he => ?_⟩
        have m0 := Int.emod_nonneg (2 + nu) (show (8 : Int) ≠ 0 by decide)
        have m1 := Int.emod_lt_of_pos (2 + nu) (show (0 : Int) < 8 by decide)
        obtain ⟨u, eu, u0, u1⟩ := pick4 (a := 2 + (2 + nu) % 8) (b := 2 + nu) k0 k4 ⟨by omega, by omega⟩ ⟨by omega, by omega⟩
        refine ⟨_, rfl, 2 + nu, 8, rfl, rfl, (by show (0 : Int) < 8; decide), 2, _, rfl, rfl, _, rfl, by show 4 ≤ sizeLine; decide, fun pl npl => ?_⟩
        refine ⟨_, rfl, pl, _, kd, .int u, rfl, rfl, .inl (.inl upd_same), eu, by show 3 ≤ sizeLine; decide, fun tp ntp => ?_⟩
        have gg := (Gr.new (o := .lst [.int 2, .int 99, .int (2 + (2 + nu) % 8), .int (2 + nu)]) npl).trans (Gr.new (o := .tup [.str "rest", v, .int u]) ntp)
        refine fin _ (.ref tp) (.rst e u) (((gp1.trans g3).trans g4).trans (Gp.gr gg)) (dr4.gr gg) (.tup (.inl (.inl upd_same)) (.cons (.str _) (.cons (gg.kd.dp hv) (.cons (.int _) .nil)))) ⟨⟨u0, u1, he.1⟩, ?_, ?_⟩
        · have := he.2.1
          simp only [dep]
          omega
        · exact Nat.le_trans he.2.2 (Nat.pow_le_pow_right (by decide) (by omega))
      -- way == 4
      refine ⟨_, rfl, rfl, _, rfl, ite2 (fun e4 => ?_) (fun e4 => ?_)⟩
      · refine ⟨by show 1 ≤ sizeLine; decide, fun t1 nt1 => ?_⟩
        have gt : Gr H1 (upd H1 t1 (.tup [.str "if"])) := Gr.new nt1
        have ht1 : upd H1 t1 (.tup [.str "if"]) t1 = some (.tup [.str "if"]) := upd_same
        have dr6 : Drw (upd H1 t1 (.tup [.str "if"])) p := dr1.gr gt
        have hc6 : Dp K (upd H1 t1 (.tup [.str "if"])) c (cD cs) := gt.kd.dp hc1
        have gp6 : Gp p H (upd H1 t1 (.tup [.str "if"])) := gp1.trans (Gp.gr gt)
        generalize upd H1 t1 (.tup [.str "if"]) = H6 at gt ht1 dr6 hc6 gp6 ⊢
        refine ⟨3, rfl, by decide, by decide, fun D nD => ?_⟩
        have nDp : D ≠ p := dr6.ne nD
        refine lc_it (walk_range (lo := 0) (n := 3)) (fun i H7 => ∃ (es : List Ex) (vs : List V), H7 D = some (.lst vs) ∧ es.length = i ∧ DpAll K H7 vs (es.map Ex.d) ∧ (∀ e ∈ es, Gd cs d e) ∧ Gp p H6 H7 ∧ Drw H7 p) ?z0 (fun _ _ _ _ => trivial) ?z2 ?z3
        case z0 => exact ⟨[], [], upd_same, rfl, .nil, fun e he => (by cases he), Gp.gr (Gr.new nD), dr6.new nD⟩
        case z2 =>
          rintro i x H7 H7' hi ⟨es, vs, hD, hl, hv, hg, g7, dr7⟩ ⟨rfl, rfl⟩
          refine ⟨rfl, ?_⟩
          unfold tYes
          refine iteT ⟨_, rfl, _, rfl, _, rfl, (d : Int) + 1, 1, rfl, rfl, p, c, d, cs, less_one p c d, dr7, (dr6.kd g7).dp hc6, hcs, hd1, by omega, by omega, fun H8 v e g8 dr8 hv8 hg8 => ?_⟩
          have hD8 : H8 D = some (.lst vs) := g8.lst nDp hD
          refine ⟨vs, hD8, ?_, es ++ [e], vs ++ [v], upd_same, ?_, ?_, ?_, ?_, ?_⟩
          · have := dpA_len hv
            rw [List.length_map] at this
            exact L2.small1000 (by omega)
          · rw [List.length_append, hl]
            rfl
          · rw [List.map_append]
            exact dpA_snoc (exs_keep (sqt_upd hD8) _ ((dr7.kd g8).dpA hv)) (ex_keep (sqt_upd hD8) e hv8)
          · intro e' he
            rcases List.mem_append.mp he with h | h
            · exact hg e' h
            · rw [show e' = e by simpa using h]
              exact hg8
          · exact Gp.upd_new (g7.trans g8) nD
          · exact dr8.upd nDp
        case z3 =>
        rintro H7 ⟨es, vs, hD, hl, hv, hg, g7, dr7⟩
        refine ⟨D, vs, rfl, .inl ⟨.inl (.inl hD), fun tq ntq => ?_⟩⟩
        have g8 : Gr H7 (upd H7 tq (.tup vs)) := Gr.new ntq
        have ht1' := g8.tup (g7.keep t1 _ (dr6.ne2 ht1) ht1 (fun _ z => by cases z))
        have hvl : vs.length = 3 := by
          have := dpA_len hv
          rw [List.length_map] at this
          omega
        refine ⟨t1, tq, _, vs, rfl, rfl, .inl (.inl ht1'), .inl (.inl upd_same), by simp, ?_, fun z => ?_, fun _ p2 np2 => ?_⟩
        · show 1 + vs.length ≤ sizeLine
          rw [hvl]
          decide
        · rw [z] at hvl
          cases hvl
        obtain ⟨a, b, d', rfl⟩ : ∃ a b d', es = [a, b, d'] := by
          match es, hl with
          | [a, b, d'], _ => exact ⟨a, b, d', rfl⟩
        have ha := hg a (by simp)
        have hb := hg b (by simp)
        have hd' := hg d' (by simp)
        have g9 : Gr H7 (upd (upd H7 tq (.tup vs)) p2 (.tup ([.str "if"] ++ vs))) := g8.trans (Gr.new np2)
        refine fin _ (.ref p2) (.iff a b d') ((gp6.trans g7).trans (Gp.gr g9)) (dr7.gr g9) (.tup (.inl (.inl upd_same)) (.cons (.str _) (g9.kd.dpA hv))) ⟨⟨ha.1, hb.1, hd'.1⟩, ?_, ?_⟩
        · have := ha.2.1
          have := hb.2.1
          have := hd'.2.1
          simp only [dep]
          omega
        · have := ha.2.2
          have := hb.2.2
          have := hd'.2.2
          obtain ⟨d2, rfl⟩ : ∃ d2, d = d2 + 1 := ⟨d - 1, by omega⟩
          simp only [lvs, Nat.add_sub_cancel, Nat.pow_succ] at *
          omega
      -- the others
      have e3' : way ≠ 3 := fun z => e3 (decide_eq_true (by rw [z]))
      have e4' : way ≠ 4 := fun z => e4 (decide_eq_true (by rw [z]))
      obtain ⟨wo, hwo, ewo⟩ := pickw (k := way - 5) (by omega) (by omega)
      refine ⟨by show 5 ≤ sizeLine; decide, fun pl npl => ?_⟩
      refine ⟨_, rfl, way, 5, rfl, rfl, pl, _, way - 5, .str (opw wo), rfl, rfl, .inl (.inl upd_same), ewo, ?_⟩
      have gl : Gr H1 (upd H1 pl (.lst [.str "plus", .str "less", .str "times", .str "same", .str "under"])) := Gr.new npl
      generalize upd H1 pl (.lst [.str "plus", .str "less", .str "times", .str "same", .str "under"]) = H5 at gl ⊢
      · refine ⟨_, rfl, by show 1 ≤ sizeLine; decide, fun t1 nt1 => ?_⟩
        have gt : Gr H1 (upd H5 t1 (.tup [.str (opw wo)])) := gl.trans (Gr.new nt1)
        have ht1 : upd H5 t1 (.tup [.str (opw wo)]) t1 = some (.tup [.str (opw wo)]) := upd_same
        have dr6 : Drw (upd H5 t1 (.tup [.str (opw wo)])) p := dr1.gr gt
        have hc6 : Dp K (upd H5 t1 (.tup [.str (opw wo)])) c (cD cs) := gt.kd.dp hc1
        have gp6 : Gp p H (upd H5 t1 (.tup [.str (opw wo)])) := gp1.trans (Gp.gr gt)
        generalize upd H5 t1 (.tup [.str (opw wo)]) = H6 at gt ht1 dr6 hc6 gp6 ⊢
        refine ⟨2, rfl, by decide, by decide, fun D nD => ?_⟩
        have nDp : D ≠ p := dr6.ne nD
        refine lc_it (walk_range (lo := 0) (n := 2)) (fun i H7 => ∃ (es : List Ex) (vs : List V), H7 D = some (.lst vs) ∧ es.length = i ∧ DpAll K H7 vs (es.map Ex.d) ∧ (∀ e ∈ es, Gd cs d e) ∧ Gp p H6 H7 ∧ Drw H7 p) ?z0 (fun _ _ _ _ => trivial) ?z2 ?z3
        case z0 => exact ⟨[], [], upd_same, rfl, .nil, fun e he => (by cases he), Gp.gr (Gr.new nD), dr6.new nD⟩
        case z2 =>
          rintro i x H7 H7' hi ⟨es, vs, hD, hl, hv, hg, g7, dr7⟩ ⟨rfl, rfl⟩
          refine ⟨rfl, ?_⟩
          unfold tYes
          refine iteT ⟨_, rfl, _, rfl, _, rfl, (d : Int) + 1, 1, rfl, rfl, p, c, d, cs, less_one p c d, dr7, (dr6.kd g7).dp hc6, hcs, hd1, by omega, by omega, fun H8 v e g8 dr8 hv8 hg8 => ?_⟩
          have hD8 : H8 D = some (.lst vs) := g8.lst nDp hD
          refine ⟨vs, hD8, ?_, es ++ [e], vs ++ [v], upd_same, ?_, ?_, ?_, ?_, ?_⟩
          · have := dpA_len hv
            rw [List.length_map] at this
            exact L2.small1000 (by omega)
          · rw [List.length_append, hl]
            rfl
          · rw [List.map_append]
            exact dpA_snoc (exs_keep (sqt_upd hD8) _ ((dr7.kd g8).dpA hv)) (ex_keep (sqt_upd hD8) e hv8)
          · intro e' he
            rcases List.mem_append.mp he with h | h
            · exact hg e' h
            · rw [show e' = e by simpa using h]
              exact hg8
          · exact Gp.upd_new (g7.trans g8) nD
          · exact dr8.upd nDp
        case z3 =>
        rintro H7 ⟨es, vs, hD, hl, hv, hg, g7, dr7⟩
        refine ⟨D, vs, rfl, .inl ⟨.inl (.inl hD), fun tq ntq => ?_⟩⟩
        have g8 : Gr H7 (upd H7 tq (.tup vs)) := Gr.new ntq
        have ht1' := g8.tup (g7.keep t1 _ (dr6.ne2 ht1) ht1 (fun _ z => by cases z))
        have hvl : vs.length = 2 := by
          have := dpA_len hv
          rw [List.length_map] at this
          omega
        refine ⟨t1, tq, _, vs, rfl, rfl, .inl (.inl ht1'), .inl (.inl upd_same), by simp, ?_, fun z => ?_, fun _ p2 np2 => ?_⟩
        · show 1 + vs.length ≤ sizeLine
          rw [hvl]
          decide
        · rw [z] at hvl
          cases hvl
        obtain ⟨a, b, rfl⟩ : ∃ a b, es = [a, b] := by
          match es, hl with
          | [a, b], _ => exact ⟨a, b, rfl⟩
        have ha := hg a (by simp)
        have hb := hg b (by simp)
        have g9 : Gr H7 (upd (upd H7 tq (.tup vs)) p2 (.tup ([.str (opw wo)] ++ vs))) := g8.trans (Gr.new np2)
        refine fin _ (.ref p2) (.bin wo a b) ((gp6.trans g7).trans (Gp.gr g9)) (dr7.gr g9) (.tup (.inl (.inl upd_same)) (.cons (.str _) (g9.kd.dpA hv))) ⟨⟨hwo, ha.1, hb.1⟩, ?_, ?_⟩
        · have := ha.2.1
          have := hb.2.1
          simp only [dep]
          omega
        · have := ha.2.2
          have := hb.2.2
          obtain ⟨d2, rfl⟩ : ∃ d2, d = d2 + 1 := ⟨d - 1, by omega⟩
          simp only [lvs, Nat.add_sub_cancel, Nat.pow_succ] at *
          omega
end
end SfM
namespace SfM
open PySem PySem.Spec PyProof.Rows L2 SfG SfC
theorem dep_pos (e : Ex) : 1 ≤ dep e := by cases e <;> simp only [dep] <;> omega
theorem depB_pos (e : Bd) : 1 ≤ depB e := by cases e <;> simp only [depB] <;> omega
theorem ex_deep : ∀ e : Ex, e.d.depth ≤ dep e + 1
  | .num n => by simp only [Ex.d, PyData.depth, PyData.depthAll, dep]; omega
  | .inp k f => by simp only [Ex.d, PyData.depth, PyData.depthAll, dep]; omega
  | .bin w a b => by have := ex_deep a; have := ex_deep b; simp only [Ex.d, PyData.depth, PyData.depthAll, dep]; omega
  | .rst a n => by have := ex_deep a; simp only [Ex.d, PyData.depth, PyData.depthAll, dep]; omega
  | .iff a b c => by have := ex_deep a; have := ex_deep b; have := ex_deep c; simp only [Ex.d, PyData.depth, PyData.depthAll, dep]; omega
theorem exs_deep {n : Nat} : ∀ es : List Ex, (∀ e ∈ es, dep e ≤ n) → PyData.depthAll (es.map Ex.d) ≤ n + 1
  | [], _ => by simp [PyData.depthAll]
  | a :: r, h => by
    have h1 := ex_deep a
    have h2 := h a List.mem_cons_self
    have h3 := exs_deep r fun e he => h e (List.mem_cons_of_mem _ he)
    simp only [List.map_cons, PyData.depthAll]
    omega
theorem bd_deep {cs : List Nat} {n m : Nat} : ∀ b : Bd, okB cs n m b → b.d.depth ≤ depB b + n + 3
  | .ref, _ => by simp only [Bd.d, PyData.depth, PyData.depthAll, depB]; omega
  | .giv es, h => by
    have := exs_deep es fun e he => (h.2 e he).2.1
    simp only [Bd.d, PyData.depth, PyData.depthAll, depB]
    omega
  | .whn e a b, h => by
    have h1 := ex_deep e
    have h2 := h.1.2.1
    have h3 := bd_deep a h.2.1
    have h4 := bd_deep b h.2.2
    simp only [Bd.d, PyData.depth, PyData.depthAll, depB]
    omega
/-! ### good Es, good bodies are looked at through and through -/
theorem out_some {os : List (Option (Int × Int))} (h : ∀ o ∈ os, ∃ pk, o = some pk) : ∃ pk, outL os = some pk := by
  have : ∃ abs, allO os = some abs := by
    induction os with
    | nil => exact ⟨[], rfl⟩
    | cons o r ih =>
      obtain ⟨pk, rfl⟩ := h o List.mem_cons_self
      obtain ⟨abs, ha⟩ := ih fun o ho => h o (List.mem_cons_of_mem _ ho)
      exact ⟨pk :: abs, by show (allO r).map (pk :: ·) = _; rw [ha]; rfl⟩
  obtain ⟨abs, ha⟩ := this
  exact ⟨_, by unfold outL; rw [ha]; rfl⟩
theorem amg_in {i lo hi : Int} (h1 : lo ≤ i) (h2 : i ≤ hi) : amg (.int i) lo hi = true := by
  show (decide (lo ≤ i) && decide (i ≤ hi)) = true
  rw [decide_eq_true h1, decide_eq_true h2]
  rfl
theorem opw_sz (w : Nat) : szs (opw w) = 2 ∧ opw w ≠ "in" := by
  unfold opw
  split <;> exact ⟨by decide +kernel, by decide +kernel⟩
theorem lk_ex {cs : List Nat} : ∀ {q : Nat} (e : Ex), okE cs e → dep e ≤ q → ∃ pk, lk cs q none e.d = some pk
  | 0, e, _, h => by have := dep_pos e; omega
  | q + 1, .num n, h, _ => by
    show ∃ pk, lk cs (q + 1) none (.tuple [.str "number", .int n]) = some pk
    rw [lk_tup, inn_E1, if_pos ⟨rfl, amg_in h.1 h.2⟩]
    exact ⟨_, rfl⟩
  | q + 1, .inp k f, h, _ => by
    obtain ⟨c, hc, hf⟩ := h
    obtain ⟨hk, ec⟩ := List.getElem?_eq_some_iff.mp hc
    show ∃ pk, lk cs (q + 1) none (.tuple [.str "in", .int k, .int f]) = some pk
    have e1 : cAt cs (nI (.int (k : Nat))) = (c : Nat) := by
      show ((cs.getD (((k : Nat) : Int)).toNat 1 : Nat) : Int) = _
      rw [Int.toNat_natCast, List.getD_eq_getElem?_getD, hc]
      rfl
    rw [lk_tup, inn_E2, if_pos rfl, if_pos (amg_in (by omega) (by omega)), e1, if_pos (amg_in (by omega) (by omega))]
    exact ⟨_, rfl⟩
  | q + 1, .bin w a b, h, hd => by
    simp only [dep] at hd
    obtain ⟨_, ha, hb⟩ := h
    show ∃ pk, lk cs (q + 1) none (.tuple [.str (opw w), a.d, b.d]) = some pk
    rw [lk_tup, inn_E2, if_neg (opw_sz w).2, if_pos (opw_sz w).1]
    refine out_some (os := [lk cs q none a.d, lk cs q none b.d]) fun o ho => ?_
    simp only [List.mem_cons, List.not_mem_nil, or_false] at ho
    rcases ho with rfl | rfl
    · exact lk_ex a ha (by omega)
    · exact lk_ex b hb (by omega)
  | q + 1, .rst a n, h, hd => by
    simp only [dep] at hd
    obtain ⟨h1, h2, ha⟩ := h
    show ∃ pk, lk cs (q + 1) none (.tuple [.str "rest", a.d, .int n]) = some pk
    rw [lk_tup, inn_E2, if_neg (by decide +kernel), if_neg (by decide +kernel), if_pos ⟨rfl, amg_in h1 h2⟩]
    refine out_some (os := [lk cs q none a.d]) fun o ho => ?_
    rw [List.mem_singleton.mp ho]
    exact lk_ex a ha (by omega)
  | q + 1, .iff a b c, h, hd => by
    simp only [dep] at hd
    obtain ⟨ha, hb, hc⟩ := h
    show ∃ pk, lk cs (q + 1) none (.tuple [.str "if", a.d, b.d, c.d]) = some pk
    rw [lk_tup, inn_E3, if_pos rfl]
    refine out_some (os := [lk cs q none a.d, lk cs q none b.d, lk cs q none c.d]) fun o ho => ?_
    simp only [List.mem_cons, List.not_mem_nil, or_false] at ho
    rcases ho with rfl | rfl | rfl
    · exact lk_ex a ha (by omega)
    · exact lk_ex b hb (by omega)
    · exact lk_ex c hc (by omega)
theorem lk_bd {cs : List Nat} {n m : Nat} : ∀ {q : Nat} (b : Bd), okB cs n m b → depB b + n ≤ q → ∃ pk, lk cs q (some m) b.d = some pk
  | 0, b, _, h => by have := depB_pos b; omega
  | q + 1, .ref, _, _ => by
    show ∃ pk, lk cs (q + 1) (some m) (.tuple [.str "refuse"]) = some pk
    rw [lk_tup, inn_B0, if_pos rfl]
    exact ⟨_, rfl⟩
  | q + 1, .giv es, h, hd => by
    simp only [depB] at hd
    show ∃ pk, lk cs (q + 1) (some m) (.tuple [.str "give", .tuple (es.map Ex.d)]) = some pk
    rw [lk_tup, inn_B1, if_pos ⟨rfl, (by show ("tuple" == "tuple") = true; decide), (by show (es.map Ex.d).length = m; rw [List.length_map]; exact h.1)⟩]
    refine out_some fun o ho => ?_
    obtain ⟨dm, hdm, rfl⟩ := List.mem_map.mp ho
    obtain ⟨d, hd', rfl⟩ := List.mem_map.mp hdm
    obtain ⟨e, he, rfl⟩ := List.mem_map.mp (show d ∈ es.map Ex.d from hd')
    obtain ⟨h1, h2, _⟩ := h.2 e he
    exact lk_ex e h1 (by omega)
  | q + 1, .whn e a b, h, hd => by
    simp only [depB] at hd
    obtain ⟨he, ha, hb⟩ := h
    have := depB_pos a
    show ∃ pk, lk cs (q + 1) (some m) (.tuple [.str "when", e.d, a.d, b.d]) = some pk
    rw [lk_tup, inn_B3, if_pos rfl]
    refine out_some (os := [lk cs q none e.d, lk cs q (some m) a.d, lk cs q (some m) b.d]) fun o ho => ?_
    simp only [List.mem_cons, List.not_mem_nil, or_false] at ho
    rcases ho with rfl | rfl | rfl
    · exact lk_ex e he.1 (by have := he.2.1; omega)
    · exact lk_bd a ha (by omega)
    · exact lk_bd b hb (by omega)
/-! how great they are -/
theorem wt_num {i : Int} (h0 : 0 ≤ i) (h1 : i ≤ 99) : wt (.int i) ≤ 9 := by
  rw [wt]
  have : i.natAbs.log2 ≤ 6 := by
    have h : i.natAbs ≤ 99 := by omega
    rcases Nat.eq_zero_or_pos i.natAbs with z | z
    · rw [z]; decide
    · have := (Nat.log2_lt (n := i.natAbs) (k := 7) (by omega)).mpr (by omega)
      omega
  omega
theorem wt_opw (w : Nat) : wt (.str (opw w)) ≤ 52 := by
  unfold opw
  split <;> decide +kernel
def WE : Nat → Nat
  | 0 => 78
  | n + 1 => 3 * WE n + 61
theorem WE_mono : ∀ {a b : Nat}, a ≤ b → WE a ≤ WE b
  | 0, 0, _ => Nat.le_refl _
  | 0, b + 1, _ => by
    have := WE_mono (Nat.zero_le b)
    show 78 ≤ 3 * WE b + 61
    have h : WE 0 = 78 := rfl
    omega
  | a + 1, b + 1, h => by
    have := WE_mono (show a ≤ b by omega)
    show 3 * WE a + 61 ≤ 3 * WE b + 61
    omega
theorem WE_ge (n : Nat) : 78 ≤ WE n := WE_mono (Nat.zero_le n)
theorem wt_ex {cs : List Nat} (hc : cs.length ≤ 3) (hf : ∀ x ∈ cs, x ≤ 3) : ∀ (n : Nat) (e : Ex), okE cs e → dep e ≤ n + 1 → wt e.d ≤ WE n
  | n, .num i, h, _ => by
    have h1 := wt_num h.1 h.2
    have h2 := WE_ge n
    show wt (.tuple [.str "number", .int i]) ≤ _
    simp only [wt, wtA] at h1 ⊢
    have : ("number" : Str).length = 6 := by decide +kernel
    omega
  | n, .inp k f, h, _ => by
    obtain ⟨c, hc', hf'⟩ := h
    obtain ⟨hk, ec⟩ := List.getElem?_eq_some_iff.mp hc'
    have h3 := hf c (List.mem_of_getElem? hc')
    have h1 := wt_num (i := (k : Nat)) (by omega) (by omega)
    have h4 := wt_num (i := (f : Nat)) (by omega) (by omega)
    have h2 := WE_ge n
    show wt (.tuple [.str "in", .int k, .int f]) ≤ _
    simp only [wt, wtA] at h1 h4 ⊢
    have : ("in" : Str).length = 2 := by decide +kernel
    omega
  | 0, .bin w a b, _, hd => by
    simp only [dep] at hd
    have := dep_pos a
    omega
  | n + 1, .bin w a b, h, hd => by
    simp only [dep] at hd
    have h1 := wt_ex hc hf n a h.2.1 (by omega)
    have h2 := wt_ex hc hf n b h.2.2 (by omega)
    have h3 := wt_opw w
    have h4 := WE_ge n
    show wt (.tuple [.str (opw w), a.d, b.d]) ≤ 3 * WE n + 61
    simp only [wt, wtA] at h3 ⊢
    omega
  | 0, .rst a i, _, hd => by
    simp only [dep] at hd
    have := dep_pos a
    omega
  | n + 1, .rst a i, h, hd => by
    simp only [dep] at hd
    have h1 := wt_ex hc hf n a h.2.2 (by omega)
    have h3 := wt_num (i := i) (by have := h.1; omega) h.2.1
    have h4 := WE_ge n
    show wt (.tuple [.str "rest", a.d, .int i]) ≤ 3 * WE n + 61
    simp only [wt, wtA] at h3 ⊢
    have : ("rest" : Str).length = 4 := by decide +kernel
    omega
  | 0, .iff a b c, _, hd => by
    simp only [dep] at hd
    have := dep_pos a
    omega
  | n + 1, .iff a b c, h, hd => by
    simp only [dep] at hd
    have h1 := wt_ex hc hf n a h.1 (by omega)
    have h2 := wt_ex hc hf n b h.2.1 (by omega)
    have h3 := wt_ex hc hf n c h.2.2 (by omega)
    have h4 := WE_ge n
    show wt (.tuple [.str "if", a.d, b.d, c.d]) ≤ 3 * WE n + 61
    simp only [wt, wtA]
    have : ("if" : Str).length = 2 := by decide +kernel
    omega
theorem wtA_le : ∀ {l : List PyData} {B : Nat}, (∀ d ∈ l, wt d ≤ B) → wtA l ≤ l.length * (B + 2)
  | [], _, _ => by rw [wtA]; omega
  | d :: r, B, h => by
    have h1 := h d List.mem_cons_self
    have h2 := wtA_le fun x hx => h x (List.mem_cons_of_mem _ hx)
    rw [wtA, List.length_cons, Nat.succ_mul]
    omega
def WB : Nat → Nat
  | 0 => 2900
  | n + 1 => 2 * WB n + 1000
theorem WB_ge : ∀ (n : Nat), 2900 ≤ WB n
  | 0 => Nat.le_refl _
  | n + 1 => by
    have := WB_ge n
    show 2900 ≤ 2 * WB n + 1000
    omega
theorem wt_bdn {cs : List Nat} {m : Nat} (hc : cs.length ≤ 3) (hf : ∀ x ∈ cs, x ≤ 3) (hm : m ≤ 3) : ∀ (n : Nat) (b : Bd), okB cs 3 m b → depB b ≤ n + 1 → wt b.d ≤ WB n
  | n, .ref, _, _ => by
    have := WB_ge n
    show wt (.tuple [.str "refuse"]) ≤ _
    simp only [wt, wtA]
    have : ("refuse" : Str).length = 6 := by decide +kernel
    omega
  | n, .giv es, h, _ => by
    have := WB_ge n
    have h1 : wtA (es.map Ex.d) ≤ (es.map Ex.d).length * (WE 2 + 2) := wtA_le fun d hd => by
      obtain ⟨e, he, rfl⟩ := List.mem_map.mp hd
      obtain ⟨h1, h2, _⟩ := h.2 e he
      exact wt_ex hc hf 2 e h1 h2
    rw [List.length_map, h.1, show WE 2 = 946 from rfl] at h1
    have h2 : m * (946 + 2) ≤ 3 * 948 := Nat.mul_le_mul_right _ hm
    show wt (.tuple [.str "give", .tuple (es.map Ex.d)]) ≤ _
    simp only [wt, wtA]
    have : ("give" : Str).length = 4 := by decide +kernel
    omega
  | 0, .whn e a b, h, hd => by
    simp only [depB] at hd
    have := depB_pos a
    omega
  | n + 1, .whn e a b, h, hd => by
    simp only [depB] at hd
    have h1 := wt_bdn hc hf hm n a h.2.1 (by omega)
    have h2 := wt_bdn hc hf hm n b h.2.2 (by omega)
    have h3 := wt_ex hc hf 2 e h.1.1 h.1.2.1
    rw [show WE 2 = 946 from rfl] at h3
    show wt (.tuple [.str "when", e.d, a.d, b.d]) ≤ 2 * WB n + 1000
    simp only [wt, wtA]
    have : ("when" : Str).length = 4 := by decide +kernel
    omega
theorem wt_bd {cs : List Nat} {m : Nat} (hcs : cs.length ≤ 3 ∧ ∀ x ∈ cs, 1 ≤ x ∧ x ≤ 3) (hm : m ≤ 3) (b : Bd) (h : okB cs 3 m b) (hd : depB b ≤ 4) : wt b.d ≤ 32000 :=
  Nat.le_trans (wt_bdn hcs.1 (fun x hx => (hcs.2 x hx).2) hm 3 b h hd) (by decide)
end SfM
namespace SfM
open PySem PySem.Spec PyProof.Rows L2 SfG SfC
abbrev nBod : List Str := ["_law_state", "_law_counts", "_law_many", "_law_deep", "_law_way", "_law_found", "_law_ahead", "_law_first", "_law_k"]
theorem scBod : FnScope nBod ["_law_state", "_law_counts", "_law_many", "_law_deep"] (defScope sBod) := ⟨rfl, rfl, rfl, by decide +kernel, rfl, by decide +kernel, by decide +kernel⟩
theorem pow_ok {a b : Nat} (h : b ≤ 9) (h2 : a ≤ b) : a ≤ 9 := Nat.le_trans h2 h
theorem less_one4 (p : Addr) (c : V) (m d : Nat) : [V.ref p, c, V.int m, V.int ((d : Int) + 1 - 1)] = [V.ref p, c, V.int m, V.int d] := by rw [Int.add_sub_cancel]
section
variable {P : Program} {w : World} {K : PySem.W.Frag} {mg : Str → Option Value} {base : Heap}
def spBod (K : PySem.W.Frag) (n : Nat) : Sp := fun vs H Q _ => ∃ (p : Addr) (c : V) (m d : Nat) (cs : List Nat), vs = [.ref p, c, .int m, .int d] ∧ Drw H p ∧ Dp K H c (cD cs) ∧ (cs.length ≤ 3 ∧ ∀ x ∈ cs, 1 ≤ x ∧ x ≤ 3) ∧ 1 ≤ m ∧ m ≤ 3 ∧ 1 ≤ d ∧ d ≤ n ∧ n ≤ 4 ∧
  ∀ H' v B, Gp p H H' → Drw H' p → Dp K H' v B.d → okB cs 3 m B → depB B ≤ d → Q v H'
theorem bod_tail {f fE fL : Addr} {fdE fdL : FuncData} {k : Nat} {cdv : Value} {A : Around} {outer : List Env} {s : Shared} {H : Hp} {Q : VK} {E : XK} {p : Addr} {c : V} {m d : Nat} {cs : List Nat}
    (HE : Has P w K mg base k "_law_expression" ["_law_state", "_law_counts", "_law_deep"] (spExp K 3) fE fdE) (HL : Has P w K mg base k "_law_looked" ["_law_thing", "_law_counts", "_law_many"] (spLk K 30) fL fdL)
    (mt : mg "tuple" = none) (mr : mg "range" = none) (hr : Room k (A.deeper (envOfC "_law_body" (defScope sBod) s.heap.objs.size f cdv)))
    (hcs : cs.length ≤ 3 ∧ ∀ x ∈ cs, 1 ≤ x ∧ x ≤ 3) (hm1 : 1 ≤ m) (hm : m ≤ 3) (hd : 1 ≤ d) (hd4 : d ≤ 4) (fin : ∀ H' v B, Gp p H H' → Drw H' p → Dp K H' v B.d → okB cs 3 m B → depB B ≤ d → Q v H') :
    ∃ tt, PSs (cxOf CX0 P w K mg base nBod "_law_body" (defScope sBod) f cdv A outer s H E).nox ((defBody sBod).drop 4) tt ∧
      ∀ (H1 : Hp) (vf : V) (B : Bd) (y4 y6 y7 y8 : Option V), Gp p H H1 → Drw H1 p → Dp K H1 c (cD cs) → Dp K H1 vf B.d → okB cs 3 m B → depB B ≤ d →
        tt { nx := fun _ H' => Q .non H', rt := Q } [some (.ref p), some c, some (.int m), some (.int d), y4, some vf, y6, y7, y8] H1 := by
  have nd := scBod.nd
  refine' ⟨_, pss_cons ?s1 (pss_one ?s2), ?rd⟩
  case s1 =>
    exact ps_if (pt_cmpR op_lt (pe_ix ix_tup (hcall HL hr (pa_cons (pv 5) (pa_cons (pv 1) (pa_cons (pv 2) pa_nil)))) pe_int (fun _ _ => rfl)) pe_int (nomark _)) (pss_one (ps_ret (pv 5))) pss_nil
  case s2 =>
    exact ps_ret (pe_tup (pa_cons pe_str (pa_cons (pe_callTy call_tuple_of (by rfl) mt (by decide +kernel) (pa_cons (pe_lc (own := [("_law_k", 8)]) (g := gName 8) rfl nd
      (pi_range1 (by rfl) mr (pa_cons (pv 2) pa_nil)) (blkOk_by (own := [("_law_k", 8)]) (N := nBod) (sc := defScope sBod) (by decide +kernel)) (fun _ _ _ _ _ => pg_name (i := 8) nd rfl (Or.inl rfl)) (fun _ _ _ _ _ => pts_nil)
      (fun _ _ _ _ _ => hcall HE hr (pa_cons (pv 0) (pa_cons (pv 1) (pa_cons pe_int pa_nil))))) pa_nil)) pa_nil)))
  case rd =>
  intro H1 vf B y4 y6 y7 y8 g1 dr1 hc1 hf hB hdB
  obtain ⟨⟨a, b⟩, hpk⟩ := lk_bd (q := 30) B hB (by omega)
  refine ⟨_, rfl, _, rfl, _, rfl, vf, c, B.d, cs, some m, rfl, hf, hc1, by have := bd_deep B hB; omega, Nat.le_trans (wt_bd hcs hm B hB (show depB B ≤ 4 by omega)) (by decide), by decide, fun hn => (by rw [hpk] at hn; cases hn), fun a b _ H2 pt g2 hpt => ?_⟩
  refine ⟨pt, _, 0, .int a, rfl, rfl, .inl (.inl hpt), rfl, a, 61, rfl, rfl, _, rfl, ite2 (fun e => ?_) (fun e => ?_)⟩
  · exact ⟨_, rfl, fin H2 vf B (g1.trans (Gp.gr g2)) (dr1.gr g2) (g2.kd.dp hf) hB hdB⟩
  have dr2 := dr1.gr g2
  have hc2 : Dp K H2 c (cD cs) := g2.kd.dp hc1
  refine ⟨_, rfl, ?_⟩
  refine ⟨m, rfl, by omega, by omega, fun D nD => ?_⟩
  have nDp : D ≠ p := dr2.ne nD
  refine lc_it (walk_range (lo := 0) (n := (m : Int).toNat)) (fun i H7 => ∃ (es : List Ex) (vs : List V), H7 D = some (.lst vs) ∧ es.length = i ∧ DpAll K H7 vs (es.map Ex.d) ∧ (∀ e ∈ es, Gd cs 1 e) ∧ Gp p H2 H7 ∧ Drw H7 p) ?z0 (fun _ _ _ _ => trivial) ?z2 ?z3
  case z0 => exact ⟨[], [], upd_same, rfl, .nil, fun e he => (by cases he), Gp.gr (Gr.new nD), dr2.new nD⟩
  case z2 =>
    rintro i x H7 H7' hi ⟨es, vs, hD, hl, hv, hg, g7, dr7⟩ ⟨rfl, rfl⟩
    refine ⟨rfl, ?_⟩
    unfold tYes
    refine iteT ⟨_, rfl, _, rfl, p, c, 1, cs, rfl, dr7, (dr2.kd g7).dp hc2, hcs, by decide, by decide, by decide, fun H8 v e g8 dr8 hv8 hg8 => ?_⟩
    have hD8 : H8 D = some (.lst vs) := g8.lst nDp hD
    refine ⟨vs, hD8, ?_, es ++ [e], vs ++ [v], upd_same, ?_, ?_, ?_, ?_, ?_⟩
    · have := dpA_len hv
      rw [List.length_map] at this
      exact L2.small1000 (by omega)
    · rw [List.length_append, hl]
      rfl
    · rw [List.map_append]
      exact dpA_snoc (exs_keep (sqt_upd hD8) _ ((dr7.kd g8).dpA hv)) (ex_keep (sqt_upd hD8) e hv8)
    · intro e' he
      rcases List.mem_append.mp he with h | h
      · exact hg e' h
      · rw [show e' = e by simpa using h]
        exact hg8
    · exact Gp.upd_new (g7.trans g8) nD
    · exact dr8.upd nDp
  case z3 =>
  rintro H7 ⟨es, vs, hD, hl, hv, hg, g7, dr7⟩
  refine ⟨D, vs, rfl, .inl ⟨.inl (.inl hD), fun tq ntq => ?_⟩⟩
  refine ⟨by show 2 ≤ sizeLine; decide, fun tp ntp => ?_⟩
  have g8 : Gr H7 (upd (upd H7 tq (.tup vs)) tp (.tup [.str "give", .ref tq])) := (Gr.new ntq).trans (Gr.new ntp)
  have htq : upd (upd H7 tq (.tup vs)) tp (.tup [.str "give", .ref tq]) tq = some (.tup vs) := (Gr.new ntp).tup upd_same
  have hel : es.length = m := by
    rw [hl]
    exact Int.toNat_natCast m
  have hB : okB cs 3 m (.giv es) := ⟨hel, fun e he => ⟨(hg e he).1, by have := (hg e he).2.1; omega, pow_ok (by decide) (hg e he).2.2⟩⟩
  have hdp : Dp K (upd (upd H7 tq (.tup vs)) tp (.tup [.str "give", .ref tq])) (.ref tp) (Bd.giv es).d := .tup (.inl (.inl upd_same)) (.cons (.str _) (.cons (.tup (.inl (.inl htq)) (g8.kd.dpA hv)) .nil))
  exact fin _ (.ref tp) (.giv es) (((g1.trans (Gp.gr g2)).trans g7).trans (Gp.gr g8)) (dr7.gr g8) hdp hB (by simp only [depB]; exact hd)
set_option maxHeartbeats 4000000 in
theorem ok_bod {f fP fE fL : Addr} {fd fdP fdE fdL : FuncData} (F : Fun K "_law_body" "_law_body" sBod f fd) (bB : Binds K fd ["_law_state", "_law_counts", "_law_many", "_law_deep"] []) (gB : mg "_law_body" = some (.ref f))
    (HP : Has P w K mg base 1 "_law_pick" ["_law_state", "_law_many"] spPick fP fdP) (HE : Has P w K mg base 32 "_law_expression" ["_law_state", "_law_counts", "_law_deep"] (spExp K 3) fE fdE)
    (HL : Has P w K mg base 32 "_law_looked" ["_law_thing", "_law_counts", "_law_many"] (spLk K 30) fL fdL) (mt : mg "tuple" = none) (mr : mg "range" = none) :
    ∀ n, FnOk P w K mg base CX0 (n + 33) f fd ["_law_state", "_law_counts", "_law_many", "_law_deep"] (spBod K n)
  | 0 => by
    refine F.ok scBod (fun vs H Q E h => ?_) (fun cdv A outer s H vs Q E hr h => ?_)
    · obtain ⟨p, c, m, d, cs, rfl, _⟩ := h
      rfl
    · obtain ⟨p, c, m, d, cs, rfl, _, _, _, _, _, h1, h2, _⟩ := h
      omega
  | n + 1 => by
    have GB := ok_bod F bB gB HP HE HL mt mr n
    refine F.ok scBod (fun vs H Q E h => ?_) (fun cdv A outer s H vs Q E hr h => ?_)
    · obtain ⟨p, c, m, d, cs, rfl, _⟩ := h
      rfl
    · obtain ⟨p, c, m, d, cs, rfl, dr, hc, hcs, hm1, hm, hd1, hdn, hn4, fin⟩ := h
      have nd := scBod.nd
      have HP' : Has P w K mg base (n + 33) "_law_pick" ["_law_state", "_law_many"] spPick fP fdP := ⟨HP.ok.mono (by omega), HP.at_, HP.kp, HP.bd⟩
      have HE' : Has P w K mg base (n + 33) "_law_expression" ["_law_state", "_law_counts", "_law_deep"] (spExp K 3) fE fdE := ⟨HE.ok.mono (by omega), HE.at_, HE.kp, HE.bd⟩
      have HL' : Has P w K mg base (n + 33) "_law_looked" ["_law_thing", "_law_counts", "_law_many"] (spLk K 30) fL fdL := ⟨HL.ok.mono (by omega), HL.at_, HL.kp, HL.bd⟩
      obtain ⟨tt, dT, rT⟩ := bod_tail (f := f) (outer := outer) (E := E) (c := c) HE' HL' mt mr hr hcs hm1 hm hd1 (show d ≤ 4 by omega) fin
      refine' ⟨_, pss_cons ?s1 (pss_cons ?s2 (pss_cons ?s3 (pss_cons ?s4 dT))), ?rd⟩
      case s1 =>
        exact ps_set (i := 4) nd rfl (.inl rfl) (hcall HP' hr (pa_cons (pv 0) (pa_cons pe_int pa_nil)))
      case s2 =>
        exact ps_if (pt_cmpR op_eq (pv 4) pe_int (nomark _)) (pss_one (ps_ret (pe_tup (pa_cons pe_str pa_nil)))) pss_nil
      case s3 =>
        exact ps_set (i := 5) nd rfl (.inl rfl) (pe_tup (pa_cons pe_str (pa_cons (pe_callTy call_tuple_of (by rfl) mt (by decide +kernel) (pa_cons (pe_lc (own := [("_law_k", 8)]) (g := gName 8) rfl nd
          (pi_range1 (by rfl) mr (pa_cons (pv 2) pa_nil)) (blkOk_by (own := [("_law_k", 8)]) (N := nBod) (sc := defScope sBod) (by decide +kernel)) (fun _ _ _ _ _ => pg_name (i := 8) nd rfl (Or.inl rfl)) (fun _ _ _ _ _ => pts_nil)
          (fun _ _ _ _ _ => hcall HE' hr (pa_cons (pv 0) (pa_cons (pv 1) (pa_cons pe_int pa_nil))))) pa_nil)) pa_nil)))
      case s4 =>
        exact ps_if (PW.pt (pw_and (pt_cmpR op_lt (pv 4) pe_int (nomark _)) (pw_and1 (pt_cmpR op_gt (pv 3) pe_int (nomark _)))))
          (pss_cons (ps_set (i := 6) nd rfl (.inl rfl) (hcall HE' hr (pa_cons (pv 0) (pa_cons (pv 1) (pa_cons pe_int pa_nil)))))
          (pss_cons (ps_set (i := 7) nd rfl (.inl rfl) (pe_call GB hr (by rfl) gB F.kp bB .nil pass0 (pa_cons (pv 0) (pa_cons (pv 1) (pa_cons (pv 2) (pa_cons (pe_op op_sub (pv 3) pe_int) pa_nil))))))
          (pss_one (ps_set (i := 5) nd rfl (.inl rfl) (pe_tup (pa_cons pe_str (pa_cons (pv 6) (pa_cons (pv 7) (pa_cons (pe_call GB hr (by rfl) gB F.kp bB .nil pass0 (pa_cons (pv 0) (pa_cons (pv 1) (pa_cons (pv 2) (pa_cons (pe_op op_sub (pv 3) pe_int) pa_nil))))) pa_nil))))))))) pss_nil
      case rd =>
      refine ⟨_, rfl, p, 8, rfl, dr, by decide, by decide, fun H1 way b1 dr1 w0 w8 => ?_⟩
      have g1 : Gp p H H1 := Gp.but b1
      have hc1 : Dp K H1 c (cD cs) := (dr.kd g1).dp hc
      refine ⟨_, rfl, rfl, _, rfl, ite2 (fun e => ?_) (fun e => ?_)⟩
      · refine ⟨by show 1 ≤ sizeLine; decide, fun tp ntp => ?_⟩
        exact fin _ (.ref tp) .ref (g1.trans (Gp.gr (Gr.new ntp))) (dr1.gr (Gr.new ntp)) (.tup (.inl (.inl upd_same)) (.cons (.str _) .nil)) trivial hd1
      refine ⟨_, rfl, ?_⟩
      refine ⟨m, rfl, by omega, by omega, fun D nD => ?_⟩
      have nDp : D ≠ p := dr1.ne nD
      refine lc_it (walk_range (lo := 0) (n := (m : Int).toNat)) (fun i H7 => ∃ (es : List Ex) (vs : List V), H7 D = some (.lst vs) ∧ es.length = i ∧ DpAll K H7 vs (es.map Ex.d) ∧ (∀ e ∈ es, Gd cs 3 e) ∧ Gp p H1 H7 ∧ Drw H7 p) ?z0 (fun _ _ _ _ => trivial) ?z2 ?z3
      case z0 => exact ⟨[], [], upd_same, rfl, .nil, fun e he => (by cases he), Gp.gr (Gr.new nD), dr1.new nD⟩
      case z2 =>
        rintro i x H7 H7' hi ⟨es, vs, hD, hl, hv, hg, g7, dr7⟩ ⟨rfl, rfl⟩
        refine ⟨rfl, ?_⟩
        unfold tYes
        refine iteT ⟨_, rfl, _, rfl, p, c, 3, cs, rfl, dr7, (dr1.kd g7).dp hc1, hcs, by decide, by decide, by decide, fun H8 v e g8 dr8 hv8 hg8 => ?_⟩
        have hD8 : H8 D = some (.lst vs) := g8.lst nDp hD
        refine ⟨vs, hD8, ?_, es ++ [e], vs ++ [v], upd_same, ?_, ?_, ?_, ?_, ?_⟩
        · have := dpA_len hv
          rw [List.length_map] at this
          exact L2.small1000 (by omega)
        · rw [List.length_append, hl]
          rfl
        · rw [List.map_append]
          exact dpA_snoc (exs_keep (sqt_upd hD8) _ ((dr7.kd g8).dpA hv)) (ex_keep (sqt_upd hD8) e hv8)
        · intro e' he
          rcases List.mem_append.mp he with h | h
          · exact hg e' h
          · rw [show e' = e by simpa using h]
            exact hg8
        · exact Gp.upd_new (g7.trans g8) nD
        · exact dr8.upd nDp
      case z3 =>
      rintro H7 ⟨es, vs, hD, hl, hv, hg, g7, dr7⟩
      refine ⟨D, vs, rfl, .inl ⟨.inl (.inl hD), fun tq ntq => ?_⟩⟩
      refine ⟨by show 2 ≤ sizeLine; decide, fun tp ntp => ?_⟩
      have g8 : Gr H7 (upd (upd H7 tq (.tup vs)) tp (.tup [.str "give", .ref tq])) := (Gr.new ntq).trans (Gr.new ntp)
      have htq : upd (upd H7 tq (.tup vs)) tp (.tup [.str "give", .ref tq]) tq = some (.tup vs) := (Gr.new ntp).tup upd_same
      have hel : es.length = m := by
        rw [hl]
        exact Int.toNat_natCast m
      have hB : okB cs 3 m (.giv es) := ⟨hel, fun e he => ⟨(hg e he).1, by have := (hg e he).2.1; omega, pow_ok (by decide) (hg e he).2.2⟩⟩
      have hdp : Dp K (upd (upd H7 tq (.tup vs)) tp (.tup [.str "give", .ref tq])) (.ref tp) (Bd.giv es).d := .tup (.inl (.inl upd_same)) (.cons (.str _) (.cons (.tup (.inl (.inl htq)) (g8.kd.dpA hv)) .nil))
      have gp8 : Gp p H (upd (upd H7 tq (.tup vs)) tp (.tup [.str "give", .ref tq])) := (g1.trans g7).trans (Gp.gr g8)
      have dr8 := dr7.gr g8
      have hc8 : Dp K (upd (upd H7 tq (.tup vs)) tp (.tup [.str "give", .ref tq])) c (cD cs) := (dr.kd gp8).dp hc
      generalize upd (upd H7 tq (.tup vs)) tp (.tup [.str "give", .ref tq]) = H8 at hdp gp8 dr8 hc8 ⊢
      refine ⟨_, rfl, way, 4, rfl, rfl, _, rfl, ite2 (fun e4 => ?_) (fun e4 => iteF ?_)⟩
      · refine ⟨_, rfl, d, 1, rfl, rfl, _, rfl, ite2 (fun e5 => ?_) (fun e5 => ?_)⟩
        · have hd2 : (d : Int) > 1 := of_decide_eq_true e5
          obtain ⟨d', rfl⟩ : ∃ d', d = d' + 1 := ⟨d - 1, by omega⟩
          refine ⟨_, rfl, _, rfl, p, c, 2, cs, rfl, dr8, hc8, hcs, by decide, by decide, by decide, fun H9 va ea g9 dr9 hva hga => ?_⟩
          have hc9 := (dr8.kd g9).dp hc8
          refine ⟨_, rfl, _, rfl, _, rfl, _, rfl, (d' : Int) + 1, 1, rfl, rfl, p, c, m, d', cs, less_one4 p c m d', dr9, hc9, hcs, hm1, hm, by omega, by omega, by omega, fun H10 vb Bb g10 dr10 hvb oBb dBb => ?_⟩
          have hc10 := (dr9.kd g10).dp hc9
          refine ⟨_, rfl, _, rfl, _, rfl, _, rfl, _, rfl, _, rfl, (d' : Int) + 1, 1, rfl, rfl, p, c, m, d', cs, less_one4 p c m d', dr10, hc10, hcs, hm1, hm, by omega, by omega, by omega, fun H11 vc Bc g11 dr11 hvc oBc dBc => ?_⟩
          refine ⟨by show 4 ≤ sizeLine; decide, fun tw ntw => ?_⟩
          have gw : Gr H11 (upd H11 tw (.tup [.str "when", va, vb, vc])) := Gr.new ntw
          have hva11 := (dr10.kd g11).dp ((dr9.kd g10).dp hva)
          have hvb11 := (dr10.kd g11).dp hvb
          refine rT _ (.ref tw) (.whn ea Bb Bc) _ _ _ _ ((((gp8.trans g9).trans g10).trans g11).trans (Gp.gr gw)) (dr11.gr gw) (gw.kd.dp ((dr10.kd g11).dp hc10)) (.tup (.inl (.inl upd_same)) (.cons (.str _) (.cons (gw.kd.dp hva11) (.cons (gw.kd.dp hvb11) (.cons (gw.kd.dp hvc) .nil))))) ⟨⟨hga.1, by have := hga.2.1; omega, pow_ok (by decide) hga.2.2⟩, oBb, oBc⟩ (by simp only [depB]; omega)
        · exact rT H8 (.ref tp) (.giv es) _ _ _ _ gp8 dr8 hc8 hdp hB (by simp only [depB]; exact hd1)
      · exact rT H8 (.ref tp) (.giv es) _ _ _ _ gp8 dr8 hc8 hdp hB (by simp only [depB]; exact hd1)
end
end SfM
namespace SfM
open PySem PySem.Spec PyProof.Rows L2 SfG SfC
/-! ### slices and sums of tuples of any data -/
theorem dpA_drop {K : PySem.W.Frag} {H : Hp} : ∀ {n : Nat} {ds : List PyData} {xs : List V}, DpAll K H xs ds → DpAll K H (xs.drop n) (ds.drop n)
  | 0, _, _, h => h
  | n + 1, [], _, h => by
    cases dpA_nil h
    exact .nil
  | n + 1, d :: r, _, h => by
    obtain ⟨x, xr, rfl, _, hr⟩ := dpA_cons h
    exact dpA_drop (n := n) hr
theorem dpA_take {K : PySem.W.Frag} {H : Hp} : ∀ {n : Nat} {ds : List PyData} {xs : List V}, DpAll K H xs ds → DpAll K H (xs.take n) (ds.take n)
  | 0, _, _, _ => .nil
  | n + 1, [], _, h => by
    cases dpA_nil h
    exact .nil
  | n + 1, d :: r, _, h => by
    obtain ⟨x, xr, rfl, hx, hr⟩ := dpA_cons h
    exact .cons hx (dpA_take (n := n) hr)
theorem dpA_cut {K : PySem.W.Frag} {H : Hp} {ds : List PyData} {xs : List V} (h : DpAll K H xs ds) (lo hi : Option Int) : DpAll K H (cutV xs lo hi) (SfG.cutD ds lo hi) := by
  unfold cutV SfG.cutD
  rw [dpA_len h]
  exact dpA_take (dpA_drop h)
theorem dpA_rev {K : PySem.W.Frag} {H : Hp} : ∀ {ds : List PyData} {xs : List V}, DpAll K H xs ds → DpAll K H xs.reverse ds.reverse
  | [], _, h => by
    cases dpA_nil h
    exact .nil
  | d :: r, _, h => by
    obtain ⟨x, xr, rfl, hx, hr⟩ := dpA_cons h
    rw [List.reverse_cons, List.reverse_cons]
    exact dpA_app (dpA_rev hr) (.cons hx .nil)
def rCatD (K : PySem.W.Frag) : R2 := fun x y H Q => ∃ (ds es : List PyData), Dp K H x (.tuple ds) ∧ Dp K H y (.tuple es) ∧ ds.length + es.length ≤ sizeLine ∧ ∀ v H', Gr H H' → Dp K H' v (.tuple (ds ++ es)) → Q v H'
def rSlD (K : PySem.W.Frag) : V → Option Int → Option Int → Hp → VK → Prop := fun x lo hi H Q => ∃ (ds : List PyData), Dp K H x (.tuple ds) ∧ ∀ v H', Gr H H' → Dp K H' v (.tuple (SfG.cutD ds lo hi)) → Q v H'
theorem new_TD {K : PySem.W.Frag} {H : Hp} {p : Addr} {xs : List V} {ds : List PyData} (np : H p = none) (h : DpAll K H xs ds) : Dp K (upd H p (.tup xs)) (.ref p) (.tuple ds) := .tup (.inl (.inl upd_same)) ((Gr.new np).kd.dpA h)
theorem new_LD {K : PySem.W.Frag} {H : Hp} {p : Addr} {xs : List V} {ds : List PyData} (np : H p = none) (h : DpAll K H xs ds) : Dp K (upd H p (.lst xs)) (.ref p) (.list ds) := .lst (.inl (.inl upd_same)) ((Gr.new np).kd.dpA h)
section
variable {X : Cx}
theorem op_catD : OpR X (binaryOp .Add) (rCatD X.K) := by
  intro pins s σ H x y v u Q I rx ry h
  obtain ⟨ds, es, hx, hy, hl, q⟩ := h
  obtain ⟨a, xs, rfl, ha, hxs⟩ := dp_tup hx
  obtain ⟨b, ys, rfl, hb, hys⟩ := dp_tup hy
  have l1 := dpA_len hxs
  have l2 := dpA_len hys
  refine op_catA pins s σ H _ _ v u Q I rx ry ⟨a, b, xs, ys, rfl, rfl, ha, hb, by omega, ?_, ?_, ?_⟩
  · rintro rfl
    have e : ds = [] := List.length_eq_zero_iff.mp (by rw [← l1]; rfl)
    subst e
    exact q _ H (Gr.refl H) hy
  · rintro _ rfl
    have e : es = [] := List.length_eq_zero_iff.mp (by rw [← l2]; rfl)
    subst e
    refine q _ H (Gr.refl H) ?_
    rw [List.append_nil]
    exact hx
  · intro _ _ r nr
    exact q _ _ (Gr.new nr) (new_TD nr (dpA_app hxs hys))
theorem sl_tupD : SlR X (rSlD X.K) := by
  intro pins s σ H x v vl vu lo hi sl Q I rx hs pl pu h
  obtain ⟨ds, hx, q⟩ := h
  obtain ⟨a, xs, rfl, ha, hxs⟩ := dp_tup hx
  have l1 := dpA_len hxs
  refine sl_tupA pins s σ H _ v vl vu lo hi sl Q I rx hs pl pu ⟨a, xs, rfl, ha, fun hw => ?_, fun _ p np => q _ _ (Gr.new np) (new_TD np (dpA_cut hxs lo hi))⟩
  have e : SfG.cutD ds lo hi = ds := by
    unfold SfG.cutD
    rw [← l1, hw.1, hw.2, List.drop_zero, Nat.sub_zero, l1, List.take_length]
  refine q _ H (Gr.refl H) ?_
  rw [e]
  exact hx
end
/-! the same, with some addresses hidden -/
def rCatH (K : PySem.W.Frag) : R2 := fun x y H Q => ∃ (Z : List Addr) (ds es : List PyData), Dp K (hide Z H) x (.tuple ds) ∧ Dp K (hide Z H) y (.tuple es) ∧ There Z H ∧ ds.length + es.length ≤ sizeLine ∧ ∀ v H', Gr H H' → Dp K (hide Z H') v (.tuple (ds ++ es)) → Q v H'
def rSlH (K : PySem.W.Frag) : V → Option Int → Option Int → Hp → VK → Prop := fun x lo hi H Q => ∃ (Z : List Addr) (ds : List PyData), Dp K (hide Z H) x (.tuple ds) ∧ There Z H ∧ ∀ v H', Gr H H' → Dp K (hide Z H') v (.tuple (SfG.cutD ds lo hi)) → Q v H'
theorem new_TH {K : PySem.W.Frag} {H : Hp} {Z : List Addr} {p : Addr} {xs : List V} {ds : List PyData} (np : H p = none) (hZ : There Z H) (h : DpAll K (hide Z H) xs ds) : Dp K (hide Z (upd H p (.tup xs))) (.ref p) (.tuple ds) := .tup (.inl (.inl (hide_new np hZ))) ((Gr.new np).hkx.kd.dpA h)
theorem new_LH {K : PySem.W.Frag} {H : Hp} {Z : List Addr} {p : Addr} {xs : List V} {ds : List PyData} (np : H p = none) (hZ : There Z H) (h : DpAll K (hide Z H) xs ds) : Dp K (hide Z (upd H p (.lst xs))) (.ref p) (.list ds) := .lst (.inl (.inl (hide_new np hZ))) ((Gr.new np).hkx.kd.dpA h)
section
variable {X : Cx}
theorem op_catH : OpR X (binaryOp .Add) (rCatH X.K) := by
  intro pins s σ H x y v u Q I rx ry h
  obtain ⟨Z, ds, es, hx, hy, hZ, hl, q⟩ := h
  obtain ⟨a, xs, rfl, ha, hxs⟩ := dp_tup hx
  obtain ⟨b, ys, rfl, hb, hys⟩ := dp_tup hy
  have l1 := dpA_len hxs
  have l2 := dpA_len hys
  refine op_catA pins s σ H _ _ v u Q I rx ry ⟨a, b, xs, ys, rfl, rfl, hide_kx.kd.t ha, hide_kx.kd.t hb, by omega, ?_, ?_, ?_⟩
  · rintro rfl
    have e : ds = [] := List.length_eq_zero_iff.mp (by rw [← l1]; rfl)
    subst e
    exact q _ H (Gr.refl H) hy
  · rintro _ rfl
    have e : es = [] := List.length_eq_zero_iff.mp (by rw [← l2]; rfl)
    subst e
    refine q _ H (Gr.refl H) ?_
    rw [List.append_nil]
    exact hx
  · intro _ _ r nr
    exact q _ _ (Gr.new nr) (new_TH nr hZ (dpA_app hxs hys))
theorem sl_tupH : SlR X (rSlH X.K) := by
  intro pins s σ H x v vl vu lo hi sl Q I rx hs pl pu h
  obtain ⟨Z, ds, hx, hZ, q⟩ := h
  obtain ⟨a, xs, rfl, ha, hxs⟩ := dp_tup hx
  have l1 := dpA_len hxs
  refine sl_tupA pins s σ H _ v vl vu lo hi sl Q I rx hs pl pu ⟨a, xs, rfl, hide_kx.kd.t ha, fun hw => ?_, fun _ p np => q _ _ (Gr.new np) (new_TH np hZ (dpA_cut hxs lo hi))⟩
  have e : SfG.cutD ds lo hi = ds := by
    unfold SfG.cutD
    rw [← l1, hw.1, hw.2, List.drop_zero, Nat.sub_zero, l1, List.take_length]
  refine q _ H (Gr.refl H) ?_
  rw [e]
  exact hx
end
theorem Drw.hkx {K : PySem.W.Frag} {Z : List Addr} {H H' : Hp} {p : Addr} (d : Drw H p) (g : Gp p H H') : Kx K (hide Z H) (hide Z H') := by
  obtain ⟨x, y, e, _⟩ := d
  exact g.hkx (k := (kv2 x y).head (by exact List.cons_ne_nil _ _)) (kv := (kv2 x y).tail) e
theorem There.gp {Z : List Addr} {H H' : Hp} {p : Addr} (h : There Z H) (g : Gp p H H') (d : Drw H' p) : There Z H' := fun f m z => by
  by_cases c : f = p
  · obtain ⟨x, y, e, _⟩ := d
    rw [← c, z] at e
    cases e
  · exact h f m (g.back f c z)
theorem wt_cut {ds : List PyData} {L D : Nat} (h : WtA ds L D) (lo hi : Option Int) : WtA (SfG.cutD ds lo hi) L D := (h.drop _).take _
/-! ### _law_odd -/
abbrev nOdd : List Str := ["_law_state", "_law_thing", "_law_way", "_law_some"]
theorem scOdd : FnScope nOdd ["_law_state", "_law_thing"] (defScope sOdd) := ⟨rfl, rfl, rfl, by decide +kernel, rfl, by decide +kernel, by decide +kernel⟩
/-- x + 1, x a number or a truth -/
def rAddN : R2 := fun x y H Q => ∃ (i j : Int), numV x = some i ∧ y = .int j ∧ Q (.int (i + j)) H
theorem op_addN {X : Cx} : OpR X (binaryOp .Add) rAddN := by
  intro pins s σ H x y v u Q I rx ry h
  obtain ⟨i, j, hx, rfl, q⟩ := h
  obtain ⟨t, rfl⟩ := ry
  cases x with
  | int k =>
    cases (show some k = some i from hx)
    exact op_add pins s σ H (.int i) (.int j) v (.int j t) Q I rx ⟨t, rfl⟩ ⟨_, _, rfl, rfl, q⟩
  | bl b =>
    cases (show some (SfG.b2i b) = some i from hx)
    cases rx
    refine PySem.IntBool.add_bool_int ⟨.int _, H, I.tok _, ⟨_, rfl⟩, ?_⟩
    cases b <;> exact q
  | _ => cases hx
end SfM
namespace SfM
open PySem PySem.Spec PyProof.Rows L2 SfG SfC
theorem dpA_pick {K : PySem.W.Frag} {H : Hp} {ds : List PyData} {xs : List V} {i : Int} {n : Nat} (h : DpAll K H xs ds) (h0 : 0 ≤ i) (h1 : i < (n : Nat)) (hn : xs.length = n := by rfl) : ∃ v d, atI xs i = some v ∧ d ∈ ds ∧ Dp K H v d := by
  obtain ⟨k, rfl⟩ : ∃ k : Nat, i = (k : Nat) := ⟨i.toNat, by omega⟩
  have hk : k < xs.length := by omega
  obtain ⟨d, hd, hv⟩ := dpA_at h (show xs[k]? = some xs[k] by simp [hk])
  exact ⟨xs[k], d, atI_nat (by simp [hk]), List.mem_of_getElem? hd, hv⟩
def oddT (ds : List PyData) : List PyData := [.list ds, .tuple (SfG.cutD ds none (some (-1))), .tuple (ds ++ [.tuple [.str "number", .int 1]]), .tuple ds.reverse, .none, .tuple (SfG.cutD ds none (some 1)), .tuple [.str "refuse"], .tuple (SfG.cutD ds (some 1) none), .tuple [.str "give", .tuple [.tuple ds]], .tuple [.str "rest", .tuple ds, .int 2], .tuple [.str "number", .int 1], .tuple [.str "in", .int 0, .int 0], .tuple (ds ++ ds), .int 5, .tuple [], .tuple [.str "plus", .tuple ds, .tuple ds]]
theorem wt_lit {z : Str} {D : Nat} (h : (okd (.str z) && decide (wt (.str z) ≤ 100)) = true) : Wt (.str z) 100 D := by
  rw [Bool.and_eq_true, decide_eq_true_eq] at h
  exact ⟨h.1, h.2, by rw [PyData.depth]; exact Nat.zero_le _⟩
theorem wt_sm {i : Int} {D : Nat} (h : (okd (.int i) && decide (wt (.int i) ≤ 20)) = true) : Wt (.int i) 20 D := by
  rw [Bool.and_eq_true, decide_eq_true_eq] at h
  exact ⟨h.1, h.2, by rw [PyData.depth]; exact Nat.zero_le _⟩
theorem odd_wt {ds : List PyData} {L D : Nat} (h : Wt (.tuple ds) L D) (hD : D ≤ 20) : ∀ d ∈ oddT ds, Wt d (2 * L + 500) (D + 2) := by
  obtain ⟨a, b, c⟩ := h.un
  obtain ⟨D', rfl⟩ : ∃ D', D = D' + 1 := ⟨D - 1, by omega⟩
  have w : WtA ds (L - 3) D' := ⟨a.ok, by omega, by omega⟩
  have sh : ∀ {es : List PyData}, WtA es (L - 3) D' → Wt (.tuple es) (2 * L + 500) (D' + 1 + 2) := fun h => (Wt.tup h).mono (by omega) (by omega)
  have num : ∀ {D}, Wt (.tuple [.str "number", .int 1]) 150 (D + 1) := (Wt.tup (WtA.cons (wt_lit (by decide +kernel)) (WtA.cons (wt_sm (by decide +kernel)) (WtA.nil (L := 0))))).mono (by omega) (Nat.le_refl _)
  intro d hd
  unfold oddT at hd
  simp only [List.mem_cons, List.not_mem_nil, or_false] at hd
  rcases hd with rfl | rfl | rfl | rfl | rfl | rfl | rfl | rfl | rfl | rfl | rfl | rfl | rfl | rfl | rfl | rfl
  · exact (Wt.lst w).mono (by omega) (by omega)
  · exact sh (wt_cut w _ _)
  · exact (Wt.tup ((w.mono (Nat.le_refl _) (show D' ≤ D' + 1 by omega)).app (WtA.cons num (WtA.nil (L := 0))))).mono (by omega) (by omega)
  · exact sh w.rev
  · exact ⟨rfl, (by show (5 : Nat) ≤ _; omega), (by rw [PyData.depth]; exact Nat.zero_le _)⟩
  · exact sh (wt_cut w _ _)
  · exact (Wt.tup (D := 0) (WtA.cons (wt_lit (by decide +kernel)) (WtA.nil (L := 0)))).mono (by omega) (by omega)
  · exact sh (wt_cut w _ _)
  · exact (Wt.tup (WtA.cons (wt_lit (by decide +kernel)) (WtA.cons (Wt.tup (WtA.cons h (WtA.nil (L := 0)))) (WtA.nil (L := 0))))).mono (by omega) (by omega)
  · exact (Wt.tup (WtA.cons (wt_lit (by decide +kernel)) (WtA.cons h (WtA.cons (wt_sm (by decide +kernel)) (WtA.nil (L := 0)))))).mono (by omega) (by omega)
  · exact (num (D := 0)).mono (by omega) (by omega)
  · exact (Wt.tup (D := 0) (WtA.cons (wt_lit (by decide +kernel)) (WtA.cons (wt_sm (by decide +kernel)) (WtA.cons (wt_sm (by decide +kernel)) (WtA.nil (L := 0)))))).mono (by omega) (by omega)
  · exact (Wt.tup (w.app w)).mono (by omega) (by omega)
  · exact (wt_sm (D := 0) (by decide +kernel)).mono (by omega) (by omega)
  · exact (Wt.tup (D := 0) (WtA.nil (L := 0))).mono (by omega) (by omega)
  · exact (Wt.tup (WtA.cons (wt_lit (by decide +kernel)) (WtA.cons h (WtA.cons h (WtA.nil (L := 0)))))).mono (by omega) (by omega)
mutual
theorem dp_nod {K : PySem.W.Frag} {H : Hp} : ∀ {d : PyData} {v : V}, Dp K H v d → d.hasDict = false
  | .none, _, _ => rfl
  | .bool _, _, _ => rfl
  | .int _, _, _ => rfl
  | .str _, _, _ => rfl
  | .list _, _, .lst _ h => by rw [PyData.hasDict]; exact dpA_nod h
  | .tuple _, _, .tup _ h => by rw [PyData.hasDict]; exact dpA_nod h
  | .dict _, _, h => by cases h
theorem dpA_nod {K : PySem.W.Frag} {H : Hp} : ∀ {ds : List PyData} {vs : List V}, DpAll K H vs ds → PyData.hasDictAll ds = false
  | [], _, _ => rfl
  | _ :: _, _, .cons h t => by rw [PyData.hasDictAll, dp_nod h, dpA_nod t]; rfl
end
theorem dpA_strs {K : PySem.W.Frag} {H : Hp} : ∀ (l : List Str), DpAll K H (l.map V.str) (l.map PyData.str)
  | [] => .nil
  | z :: r => .cons (.str z) (dpA_strs r)
def oddN (d : PyData) : List PyData := [d, .int 0, .int 1, .int 2, .int 3, .int 9, .int 10, .int 99, .int 100, .int (-1), .bool true, .bool false, .str d.shown, .none, .tuple [d], .list [d]]
theorem wt_bl {b : Bool} {D : Nat} : Wt (.bool b) 5 D := ⟨rfl, Nat.le_refl _, by rw [PyData.depth]; exact Nat.zero_le _⟩
theorem wt_no {D : Nat} : Wt .none 5 D := ⟨rfl, Nat.le_refl _, by rw [PyData.depth]; exact Nat.zero_le _⟩
theorem okd_txt {z : Str} (h : AscT z) : okd (.str z) = true := by
  rw [okd]
  exact List.all_eq_true.mpr fun c hc => decide_eq_true (h c hc)
theorem oddN_wt {d : PyData} {L D : Nat} (h : Wt d L D) (hD : D ≤ 20) : ∀ e ∈ oddN d, Wt e (10 * L + 500) (D + 2) := by
  intro e he
  unfold oddN at he
  simp only [List.mem_cons, List.not_mem_nil, or_false] at he
  rcases he with rfl | rfl | rfl | rfl | rfl | rfl | rfl | rfl | rfl | rfl | rfl | rfl | rfl | rfl | rfl | rfl
  · exact h.mono (by omega) (by omega)
  · exact (wt_sm (D := 0) (by decide +kernel)).mono (by omega) (by omega)
  · exact (wt_sm (D := 0) (by decide +kernel)).mono (by omega) (by omega)
  · exact (wt_sm (D := 0) (by decide +kernel)).mono (by omega) (by omega)
  · exact (wt_sm (D := 0) (by decide +kernel)).mono (by omega) (by omega)
  · exact (wt_sm (D := 0) (by decide +kernel)).mono (by omega) (by omega)
  · exact (wt_sm (D := 0) (by decide +kernel)).mono (by omega) (by omega)
  · exact (wt_sm (D := 0) (by decide +kernel)).mono (by omega) (by omega)
  · exact (wt_sm (D := 0) (by decide +kernel)).mono (by omega) (by omega)
  · exact (wt_sm (D := 0) (by decide +kernel)).mono (by omega) (by omega)
  · exact (wt_bl (D := 0)).mono (by omega) (by omega)
  · exact (wt_bl (D := 0)).mono (by omega) (by omega)
  · have h1 := okd_len h.ok
    have h2 := h.le
    exact ⟨okd_txt (okd_asc h.ok), by rw [wt]; omega, by rw [PyData.depth]; exact Nat.zero_le _⟩
  · exact (wt_no (D := 0)).mono (by omega) (by omega)
  · exact (Wt.tup (WtA.cons h (WtA.nil (L := 0)))).mono (by omega) (by omega)
  · exact (Wt.lst (WtA.cons h (WtA.nil (L := 0)))).mono (by omega) (by omega)
mutual
/-- no number beyond a bound -/
def sI (B : Nat) : PyData → Bool
  | .none => true
  | .bool _ => true
  | .int i => decide (i.natAbs ≤ B)
  | .str _ => true
  | .list ds => sIA B ds
  | .tuple ds => sIA B ds
  | .dict _ => true
def sIA (B : Nat) : List PyData → Bool
  | [] => true
  | d :: r => sI B d && sIA B r
end
theorem sIA_iff {B : Nat} : ∀ {ds : List PyData}, sIA B ds = true ↔ ∀ d ∈ ds, sI B d = true
  | [] => ⟨fun _ d h => (by cases h), fun _ => by rw [sIA]⟩
  | d :: r => by
    rw [sIA, Bool.and_eq_true, sIA_iff (ds := r)]
    exact ⟨fun h e he => by
      rcases List.mem_cons.mp he with rfl | he
      · exact h.1
      · exact h.2 e he, fun h => ⟨h d List.mem_cons_self, fun e he => h e (List.mem_cons_of_mem _ he)⟩⟩
theorem sI_tup {B : Nat} {ds : List PyData} : sI B (.tuple ds) = true ↔ ∀ d ∈ ds, sI B d = true := by rw [sI]; exact sIA_iff
theorem sI_lst {B : Nat} {ds : List PyData} : sI B (.list ds) = true ↔ ∀ d ∈ ds, sI B d = true := by rw [sI]; exact sIA_iff
mutual
theorem sI_mono {B C : Nat} (h : B ≤ C) : ∀ {d : PyData}, sI B d = true → sI C d = true
  | .none, _ => by rw [sI]
  | .bool _, _ => by rw [sI]
  | .int i, hd => by
    rw [sI, decide_eq_true_eq] at hd ⊢
    omega
  | .str _, _ => by rw [sI]
  | .list ds, hd => by
    rw [sI] at hd ⊢
    exact sIA_mono h hd
  | .tuple ds, hd => by
    rw [sI] at hd ⊢
    exact sIA_mono h hd
  | .dict _, _ => by rw [sI]
theorem sIA_mono {B C : Nat} (h : B ≤ C) : ∀ {ds : List PyData}, sIA B ds = true → sIA C ds = true
  | [], _ => by rw [sIA]
  | d :: r, hd => by
    rw [sIA, Bool.and_eq_true] at hd ⊢
    exact ⟨sI_mono h hd.1, sIA_mono h hd.2⟩
end
theorem sI_num {B : Nat} {i : Int} (h : i.natAbs ≤ B) : sI B (.int i) = true := by
  rw [sI]
  exact decide_eq_true h
theorem wt_next {d : PyData} {L D B : Nat} {i : Int} (hB : 100 ≤ B ∧ B ≤ 1000) (h : sI B d = true) (hN : numD d = some i) : Wt (.int (i + 1)) (10 * L + 500) (D + 2) := by
  have hi : i.natAbs ≤ 1000 := by
    cases d with
    | int j =>
      cases hN
      rw [sI, decide_eq_true_eq] at h
      omega
    | bool b => cases b <;> cases hN <;> decide
    | _ => cases hN
  have hl : (i + 1).natAbs.log2 < 10 := by
    rcases Nat.eq_zero_or_pos (i + 1).natAbs with z | z
    · rw [z]; decide
    · exact (Nat.log2_lt (by omega)).mpr (by omega)
  exact ⟨by rw [okd]; exact decide_eq_true (by omega), by rw [wt]; omega, by rw [PyData.depth]; exact Nat.zero_le _⟩
theorem sI_next {d : PyData} {B : Nat} {i : Int} (hB : 100 ≤ B ∧ B ≤ 1000) (h : sI B d = true) (hN : numD d = some i) : sI (B + 1) (.int (i + 1)) = true := by
  refine sI_num ?_
  cases d with
  | int j =>
    cases hN
    rw [sI, decide_eq_true_eq] at h
    omega
  | bool b =>
    have : i.natAbs ≤ 1 := by cases b <;> cases hN <;> decide
    omega
  | _ => cases hN
theorem sI_cut {B : Nat} {ds : List PyData} (h : ∀ d ∈ ds, sI B d = true) (lo hi : Option Int) : ∀ d ∈ SfG.cutD ds lo hi, sI B d = true := fun d hd => by
  unfold SfG.cutD at hd
  exact h d (List.mem_of_mem_drop (List.mem_of_mem_take hd))
theorem sI_lit {d : PyData} {B : Nat} (hB : 100 ≤ B) (h : sI 100 d = true) : sI (B + 1) d = true := sI_mono (by omega) h
theorem oddT_sI {ds : List PyData} {B : Nat} (hB : 100 ≤ B ∧ B ≤ 1000) (h0 : sI B (.tuple ds) = true) : ∀ d ∈ oddT ds, sI (B + 1) d = true := by
  have hT : sI (B + 1) (.tuple ds) = true := sI_mono (by omega) h0
  have h := sI_tup.mp hT
  have c := hB.1
  intro d hd
  unfold oddT at hd
  simp only [List.mem_cons, List.not_mem_nil, or_false] at hd
  rcases hd with rfl | rfl | rfl | rfl | rfl | rfl | rfl | rfl | rfl | rfl | rfl | rfl | rfl | rfl | rfl | rfl
  · exact sI_lst.mpr h
  · exact sI_tup.mpr (sI_cut h _ _)
  · refine sI_tup.mpr fun d hd => ?_
    rcases List.mem_append.mp hd with hd | hd
    · exact h d hd
    · rw [List.mem_singleton.mp hd]
      exact sI_lit c (by decide +kernel)
  · exact sI_tup.mpr fun d hd => h d (List.mem_reverse.mp hd)
  · rw [sI]
  · exact sI_tup.mpr (sI_cut h _ _)
  · exact sI_lit c (by decide +kernel)
  · exact sI_tup.mpr (sI_cut h _ _)
  · refine sI_tup.mpr fun d hd => ?_
    simp only [List.mem_cons, List.not_mem_nil, or_false] at hd
    rcases hd with rfl | rfl
    · rw [sI]
    · exact sI_tup.mpr fun d hd => by rw [List.mem_singleton.mp hd]; exact hT
  · refine sI_tup.mpr fun d hd => ?_
    simp only [List.mem_cons, List.not_mem_nil, or_false] at hd
    rcases hd with rfl | rfl | rfl
    · rw [sI]
    · exact hT
    · exact sI_lit c (by decide +kernel)
  · exact sI_lit c (by decide +kernel)
  · exact sI_lit c (by decide +kernel)
  · refine sI_tup.mpr fun d hd => ?_
    rcases List.mem_append.mp hd with hd | hd <;> exact h d hd
  · exact sI_lit c (by decide +kernel)
  · exact sI_lit c (by decide +kernel)
  · refine sI_tup.mpr fun d hd => ?_
    simp only [List.mem_cons, List.not_mem_nil, or_false] at hd
    rcases hd with rfl | rfl | rfl
    · rw [sI]
    · exact hT
    · exact hT
theorem oddN_sI {d : PyData} {B : Nat} (hB : 100 ≤ B ∧ B ≤ 1000) (h0 : sI B d = true) : ∀ e ∈ oddN d, sI (B + 1) e = true := by
  have hT : sI (B + 1) d = true := sI_mono (by omega) h0
  have c := hB.1
  intro e he
  unfold oddN at he
  simp only [List.mem_cons, List.not_mem_nil, or_false] at he
  rcases he with rfl | rfl | rfl | rfl | rfl | rfl | rfl | rfl | rfl | rfl | rfl | rfl | rfl | rfl | rfl | rfl
  · exact hT
  · exact sI_lit c (by decide +kernel)
  · exact sI_lit c (by decide +kernel)
  · exact sI_lit c (by decide +kernel)
  · exact sI_lit c (by decide +kernel)
  · exact sI_lit c (by decide +kernel)
  · exact sI_lit c (by decide +kernel)
  · exact sI_lit c (by decide +kernel)
  · exact sI_lit c (by decide +kernel)
  · exact sI_lit c (by decide +kernel)
  · rw [sI]
  · rw [sI]
  · rw [sI]
  · rw [sI]
  · exact sI_tup.mpr fun e he => by rw [List.mem_singleton.mp he]; exact hT
  · exact sI_lst.mpr fun e he => by rw [List.mem_singleton.mp he]; exact hT
def strs13 : List Str := ["plus", "less", "times", "rest", "same", "under", "if", "number", "in", "give", "refuse", "when", ""]
theorem oddS_sI {z : Str} {B : Nat} : ∀ e ∈ strs13.map PyData.str ++ [.str "Plus", .none, .str (z ++ "s")], sI B e = true := by
  intro e he
  rcases List.mem_append.mp he with he | he
  · obtain ⟨x, hx, rfl⟩ := List.mem_map.mp he
    rw [sI]
  · simp only [List.mem_cons, List.not_mem_nil, or_false] at he
    rcases he with rfl | rfl | rfl <;> rw [sI]
theorem oddS_wt {z : Str} {L D : Nat} (h : Wt (.str z) L D) : ∀ e ∈ strs13.map PyData.str ++ [.str "Plus", .none, .str (z ++ "s")], Wt e (10 * L + 500) (D + 2) := by
  intro e he
  rcases List.mem_append.mp he with he | he
  · obtain ⟨x, hx, rfl⟩ := List.mem_map.mp he
    have h2 : (strs13.all fun x => okd (.str x) && decide (wt (.str x) ≤ 100)) = true := by decide +kernel
    exact (wt_lit (D := 0) (List.all_eq_true.mp h2 x hx)).mono (by omega) (by omega)
  · simp only [List.mem_cons, List.not_mem_nil, or_false] at he
    rcases he with rfl | rfl | rfl
    · exact (wt_lit (D := 0) (by decide +kernel)).mono (by omega) (by omega)
    · exact (wt_no (D := 0)).mono (by omega) (by omega)
    · have h1 := h.text
      have h2 : (z ++ "s" : Str).length = z.length + 1 := PySem.strLen_append z "s"
      exact ⟨okd_txt (ascT_app (okd_str h.ok) (ascT_lit (by decide +kernel))), by rw [wt, h2]; omega, by rw [PyData.depth]; exact Nat.zero_le _⟩
mutual
/-- tuples of texts and numbers -/
def plT : PyData → Bool
  | .int _ => true
  | .str _ => true
  | .tuple ds => plA ds
  | _ => false
def plA : List PyData → Bool
  | [] => true
  | d :: r => plT d && plA r
end
theorem oddN_pl {d : PyData} {L B : Nat} (hB : 100 ≤ B ∧ B ≤ 1000) (hs : sI B d = true) (h1 : (tyD d == "tuple") = false) (h2 : (tyD d == "str") = false) (hp : plT d = true) : ∀ e ∈ oddN d, wt e ≤ 2 * L + 700 := by
  intro e he
  cases d with
  | int i =>
    rw [sI, decide_eq_true_eq] at hs
    have hl : i.natAbs.log2 < 10 := by
      rcases Nat.eq_zero_or_pos i.natAbs with z | z
      · rw [z]
        decide
      · exact (Nat.log2_lt (by omega)).mpr (by omega)
    have w : Wt (.int i) 13 0 := ⟨by rw [okd]; exact decide_eq_true (by omega), by rw [wt]; omega, by rw [PyData.depth]; exact Nat.zero_le _⟩
    exact Nat.le_trans (oddN_wt w (by decide) e he).le (by omega)
  | str z => exact absurd h2 (by show ¬ ("str" == "str") = false; decide)
  | tuple z => exact absurd h1 (by show ¬ ("tuple" == "tuple") = false; decide)
  | _ => simp [plT] at hp
theorem oddS_pl {z : Str} {L D : Nat} (h : Wt (.str z) L D) : ∀ e ∈ strs13.map PyData.str ++ [.str "Plus", .none, .str (z ++ "s")], wt e ≤ 2 * L + 700 := by
  intro e he
  rcases List.mem_append.mp he with he | he
  · obtain ⟨x, hx, rfl⟩ := List.mem_map.mp he
    have h2 : (strs13.all fun x => okd (.str x) && decide (wt (.str x) ≤ 100)) = true := by decide +kernel
    exact Nat.le_trans (wt_lit (D := 0) (List.all_eq_true.mp h2 x hx)).le (by omega)
  · simp only [List.mem_cons, List.not_mem_nil, or_false] at he
    rcases he with rfl | rfl | rfl
    · exact Nat.le_trans (wt_lit (D := 0) (by decide +kernel)).le (by omega)
    · exact Nat.le_trans (wt_no (D := 0)).le (by omega)
    · have h1 := h.text
      have h2 : (z ++ "s" : Str).length = z.length + 1 := PySem.strLen_append z "s"
      rw [wt, h2]
      omega
section
variable {P : Program} {w : World} {K : PySem.W.Frag} {mg : Str → Option Value} {base : Heap}
def spOdd (K : PySem.W.Frag) : Sp := fun vs H Q _ => ∃ (p : Addr) (t : V) (d : PyData) (L D B : Nat) (Z : List Addr), vs = [.ref p, t] ∧ Drw H p ∧ Dp K (hide Z H) t d ∧ There Z H ∧ Wt d L D ∧ sI B d = true ∧ (100 ≤ B ∧ B ≤ 1000) ∧ L ≤ 900000 ∧ D ≤ 20 ∧
  ∀ H' v d', Gp p H H' → Drw H' p → Dp K (hide Z H') v d' → Wt d' (10 * L + 500) (D + 2) → (plT d = true → wt d' ≤ 2 * L + 700) → sI (B + 1) d' = true → Q v H'
structure OddNames (mg : Str → Option Value) : Prop where
  mi : mg "isinstance" = none
  mt : mg "tuple" = none
  ms : mg "str" = none
  mli : mg "list" = none
  mn : mg "int" = none
set_option maxHeartbeats 8000000 in
theorem ok_odd {f fP : Addr} {fd fdP : FuncData} {k : Nat} (F : Fun K "_law_odd" "_law_odd" sOdd f fd) (HP : Has P w K mg base k "_law_pick" ["_law_state", "_law_many"] spPick fP fdP) (N : OddNames mg) :
    FnG P w K mg base CX0 (k + 1) f fd ["_law_state", "_law_thing"] (spOdd K) := by
  refine fng_of F scOdd (fun vs H Q E h => ?_) (fun cdv A outer s H vs Q E hr hgd h => ?_)
  · obtain ⟨p, t, d, L, D, B, Z, rfl, _⟩ := h
    rfl
  · obtain ⟨p, t, d, L, D, B, Z, rfl, dr, hd, hZ0, hw, hs, hB, hL, hD, fin⟩ := h
    have nd := scOdd.nd
    refine' ⟨_, pss_cons ?s1 (pss_cons ?s2 (pss_cons ?s3 (pss_cons ?s4 (pss_one ?s5)))), ?rd⟩
    case s1 => exact ps_set (i := 2) nd rfl (.inl rfl) (hcall HP hr (pa_cons (pv 0) (pa_cons pe_int pa_nil)))
    case s2 =>
      refine' ps_if (pt_val (pe_isi "tuple" 1 N.mi N.mt (by decide +kernel))) (pss_cons ?a1 (pss_cons ?a2 (pss_one ?a3))) pss_nil
      case a1 =>
        exact ps_set (i := 3) nd rfl (.inl rfl) (pe_lst (pa_cons (pe_callTy call_list_of (by rfl) N.mli (by decide +kernel) (pa_cons (pv 1) pa_nil)) (pa_cons (pe_slice sl_tupH (pv 1) po_none (po_some (pe_un un_neg pe_int)))
          (pa_cons (pe_op op_catH (pv 1) (pe_tup (pa_cons (pe_tup (pa_cons pe_str (pa_cons pe_int pa_nil))) pa_nil))) (pa_cons (pe_revT (pv 1)) (pa_cons pe_non (pa_cons (pe_slice sl_tupH (pv 1) po_none (po_some pe_int))
          (pa_cons (pe_tup (pa_cons pe_str pa_nil)) (pa_cons (pe_slice sl_tupH (pv 1) (po_some pe_int) po_none) pa_nil)))))))))
      case a2 =>
        exact ps_set (i := 3) nd rfl (.inl rfl) (pe_op op_cat (pv 3) (pe_lst (pa_cons (pe_tup (pa_cons pe_str (pa_cons (pe_tup (pa_cons (pv 1) pa_nil)) pa_nil))) (pa_cons (pe_tup (pa_cons pe_str (pa_cons (pv 1) (pa_cons pe_int pa_nil))))
          (pa_cons (pe_tup (pa_cons pe_str (pa_cons pe_int pa_nil))) (pa_cons (pe_tup (pa_cons pe_str (pa_cons pe_int (pa_cons pe_int pa_nil)))) (pa_cons (pe_op op_catH (pv 1) (pv 1)) (pa_cons pe_int (pa_cons (pe_tup pa_nil) pa_nil)))))))))
      case a3 =>
        exact ps_ret (pe_ix ix_list (pe_op op_cat (pv 3) (pe_lst (pa_cons (pe_tup (pa_cons pe_str (pa_cons (pv 1) (pa_cons (pv 1) pa_nil)))) pa_nil))) (pv 2) (fun _ _ => rfl))
    case s3 =>
      refine' ps_if (pt_val (pe_isi "str" 1 N.mi N.ms (by decide +kernel))) (pss_cons ?b1 (pss_one ?b2)) pss_nil
      case b1 =>
        exact ps_set (i := 3) nd rfl (.inl rfl) (pe_lst (pa_cons pe_str (pa_cons pe_str (pa_cons pe_str (pa_cons pe_str (pa_cons pe_str (pa_cons pe_str (pa_cons pe_str (pa_cons pe_str (pa_cons pe_str (pa_cons pe_str (pa_cons pe_str (pa_cons pe_str (pa_cons pe_str pa_nil))))))))))))))
      case b2 =>
        exact ps_ret (pe_ix ix_list (pe_op op_cat (pv 3) (pe_lst (pa_cons pe_str (pa_cons pe_non (pa_cons (pe_op op_add_str (pv 1) pe_str) pa_nil))))) (pv 2) (fun _ _ => rfl))
    case s4 =>
      exact ps_set (i := 3) nd rfl (.inl rfl) (pe_lst (pa_cons (pv 1) (pa_cons pe_int (pa_cons pe_int (pa_cons pe_int (pa_cons pe_int (pa_cons pe_int (pa_cons pe_int (pa_cons pe_int (pa_cons pe_int (pa_cons (pe_un un_neg pe_int) (pa_cons pe_bl (pa_cons pe_bl
        (pa_cons (pe_callTy (call_strD hr hgd) (by rfl) N.ms (by decide +kernel) (pa_cons (pv 1) pa_nil)) (pa_cons pe_non (pa_cons (pe_tup (pa_cons (pv 1) pa_nil)) (pa_cons (pe_lst (pa_cons (pv 1) pa_nil)) pa_nil)))))))))))))))))
    case s5 =>
      exact ps_ret (pe_ifExp (PW.pt (pw_or (pt_cmpR op_gt (pv 2) pe_int (nomark _)) (pw_or1 (pt_not (pt_val (pe_isi "int" 1 N.mi N.mn (by decide +kernel))))))) (pe_ix ix_list (pv 3) (pv 2) (fun _ _ => rfl)) (pe_op op_addN (pv 1) pe_int))
    case rd =>
    refine ⟨_, rfl, p, 16, rfl, dr, by decide, by decide, fun H1 way b1 dr1 w0 w16 => ?_⟩
    have g1 : Gp p H H1 := Gp.but b1
    have hd1 := (Drw.hkx dr g1).kd.dp hd
    have hZ : There Z H1 := There.gp hZ0 g1 dr1
    have hI := dp_is (hide_kx.kd.dp hd1)
    refine ⟨_, rfl, _, _, hI.1, kit_tuple _ hI.2, _, rfl, ?_⟩
    rcases tup_is d with h1 | ⟨ds, rfl⟩
    · rw [h1]
      refine iteF ?_
      refine ⟨_, rfl, _, _, hI.1, kit_str _ hI.2, _, rfl, ?_⟩
      rcases str_is d with h2 | ⟨z, rfl⟩
      · rw [h2]
        refine iteF ?_
        have nod := dp_nod hd1
        have wd := hw.dep
        have wl := hw.le
        have hsz : d.shown.length ≤ sizeLine := Nat.le_of_lt (small10000001 (by have := okd_len hw.ok; omega))
        have hns : ∀ z, d ≠ .str z := fun z e => by rw [e] at h2; exact absurd h2 (by show ¬ ("str" == "str") = false; decide)
        refine ⟨_, rfl, 1, rfl, _, rfl, t, d, rfl, hide_kx.kd.dp hd1, hns, okd_able hw.ok, nod, by omega, hsz, ?_⟩
        refine ⟨_, rfl, by show 1 ≤ sizeLine; decide, fun t1 n1 => ?_⟩
        have k1 : Gr H1 (upd H1 t1 (.tup [t])) := Gr.new n1
        have D1 : Dp K (hide Z (upd H1 t1 (.tup [t]))) (.ref t1) (.tuple [d]) := new_TH n1 hZ (.cons hd1 .nil)
        have hd2 := k1.hkx.kd.dp hd1
        generalize upd H1 t1 (.tup [t]) = S1 at k1 D1 hd2 ⊢
        refine ⟨_, rfl, by show 1 ≤ sizeLine; decide, fun t2 n2 => ?_⟩
        have k2 : Gr S1 (upd S1 t2 (.lst [t])) := Gr.new n2
        have D2 : Dp K (hide Z (upd S1 t2 (.lst [t]))) (.ref t2) (.list [d]) := new_LH n2 (hZ.gr k1) (.cons hd2 .nil)
        replace D1 := k2.hkx.kd.dp D1
        replace hd2 := k2.hkx.kd.dp hd2
        generalize upd S1 t2 (.lst [t]) = S2 at k2 D1 D2 hd2 ⊢
        refine ⟨by show 16 ≤ sizeLine; decide, fun l3 n3 => ?_⟩
        have k3 : Gr S2 (upd S2 l3 (.lst [t, .int 0, .int 1, .int 2, .int 3, .int 9, .int 10, .int 99, .int 100, .int (-1), .bl true, .bl false, .str d.shown, .non, .ref t1, .ref t2])) := Gr.new n3
        have L3 : upd S2 l3 (.lst [t, .int 0, .int 1, .int 2, .int 3, .int 9, .int 10, .int 99, .int 100, .int (-1), .bl true, .bl false, .str d.shown, .non, .ref t1, .ref t2]) l3 = some (.lst [t, .int 0, .int 1, .int 2, .int 3, .int 9, .int 10, .int 99, .int 100, .int (-1), .bl true, .bl false, .str d.shown, .non, .ref t1, .ref t2]) := upd_same
        replace D1 := k3.hkx.kd.dp D1
        replace D2 := k3.hkx.kd.dp D2
        replace hd2 := k3.hkx.kd.dp hd2
        refine gname_go ?_
        dsimp only
        generalize upd S2 l3 (.lst [t, .int 0, .int 1, .int 2, .int 3, .int 9, .int 10, .int 99, .int 100, .int (-1), .bl true, .bl false, .str d.shown, .non, .ref t1, .ref t2]) = S3 at k3 L3 D1 D2 hd2 ⊢
        have G : Gr H1 S3 := k1.trans (k2.trans k3)
        have A : DpAll K (hide Z S3) [t, .int 0, .int 1, .int 2, .int 3, .int 9, .int 10, .int 99, .int 100, .int (-1), .bl true, .bl false, .str d.shown, .non, .ref t1, .ref t2] (oddN d) :=
          .cons hd2 (.cons (.int _) (.cons (.int _) (.cons (.int _) (.cons (.int _) (.cons (.int _) (.cons (.int _) (.cons (.int _) (.cons (.int _) (.cons (.int _) (.cons (.bl _) (.cons (.bl _) (.cons (.str _) (.cons .non (.cons D1 (.cons D2 .nil)))))))))))))))
        have pick : ∃ v, atI [t, .int 0, .int 1, .int 2, .int 3, .int 9, .int 10, .int 99, .int 100, .int (-1), .bl true, .bl false, .str d.shown, .non, .ref t1, .ref t2] way = some v ∧ Q v S3 := by
          obtain ⟨v, d', ev, hm, hv⟩ := dpA_pick A w0 w16
          exact ⟨v, ev, fin _ v d' (g1.trans (Gp.gr G)) (dr1.gr G) hv (oddN_wt hw hD d' hm) (fun hp => oddN_pl hB hs h1 h2 hp d' hm) (oddN_sI hB hs d' hm)⟩
        obtain ⟨v, ev, hv⟩ := pick
        have take : tRet (tOp (rIxL K) (tVar 3) (tVar 2)) { nx := fun _ H' => Q .non H', rt := Q } [some (.ref p), some t, some (.int way), some (.ref l3)] S3 := ⟨_, rfl, _, rfl, l3, _, way, v, rfl, rfl, .inl (.inl L3), ev, hv⟩
        have hI3 := dp_is (hide_kx.kd.dp hd2)
        refine ⟨_, rfl, way, 0, rfl, rfl, _, rfl, ?_⟩
        by_cases hway : way > 0
        · rw [decide_eq_true hway]
          exact iteT (iteT take)
        rw [decide_eq_false hway]
        refine iteF ⟨_, rfl, _, _, hI3.1, kit_intN, _, rfl, ?_⟩
        cases hN : numD d with
        | none => exact iteT take
        | some i =>
          refine iteF ⟨_, rfl, i, 1, (num_vd hd2).trans hN, rfl, fin _ _ (.int (i + 1)) (g1.trans (Gp.gr G)) (dr1.gr G) (.int _) (wt_next hB hs hN) (fun _ => Nat.le_trans (wt_next (L := 0) (D := 0) hB hs hN).le (by omega)) (sI_next hB hs hN)⟩
      · rw [show (tyD (.str z) == "str") = true from by show ("str" == "str") = true; decide]
        refine iteT ?_
        cases dp_str hd1
        refine ⟨by show 13 ≤ sizeLine; decide, fun l1 nl1 => ?_⟩
        have L1 : upd H1 l1 (.lst (strs13.map V.str)) l1 = some (.lst (strs13.map V.str)) := upd_same
        have k1 : Gr H1 (upd H1 l1 (.lst (strs13.map V.str))) := Gr.new nl1
        refine gname_go ?_
        dsimp only
        change tRet _ _ _ (upd H1 l1 (.lst (strs13.map V.str)))
        generalize upd H1 l1 (.lst (strs13.map V.str)) = S1 at L1 k1 ⊢
        have zl : 10 * z.length + 2 ≤ L := hw.text
        refine ⟨_, rfl, _, rfl, z, "s", rfl, rfl, Nat.le_of_lt (small10000001 (by have : ("s" : Str).length = 1 := (by decide +kernel); omega)), ?_⟩
        refine ⟨by show 3 ≤ sizeLine; decide, fun l2 nl2 => ?_⟩
        have L2 : upd S1 l2 (.lst [.str "Plus", .non, .str (z ++ "s")]) l2 = some (.lst [.str "Plus", .non, .str (z ++ "s")]) := upd_same
        have k2 : Gr S1 (upd S1 l2 (.lst [.str "Plus", .non, .str (z ++ "s")])) := Gr.new nl2
        replace L1 := k2.lst L1
        generalize upd S1 l2 (.lst [.str "Plus", .non, .str (z ++ "s")]) = S2 at L1 L2 k2 ⊢
        refine ⟨l1, l2, _, _, rfl, rfl, L1, L2, by show 16 ≤ sizeLine; decide, fun l3 nl3 => ?_⟩
        have k3 : Gr S2 (upd S2 l3 (.lst (strs13.map V.str ++ [.str "Plus", .non, .str (z ++ "s")]))) := Gr.new nl3
        have L3 : upd S2 l3 (.lst (strs13.map V.str ++ [.str "Plus", .non, .str (z ++ "s")])) l3 = some (.lst (strs13.map V.str ++ [.str "Plus", .non, .str (z ++ "s")])) := upd_same
        generalize upd S2 l3 (.lst (strs13.map V.str ++ [.str "Plus", .non, .str (z ++ "s")])) = S3 at L3 k3 ⊢
        have G : Gr H1 S3 := k1.trans (k2.trans k3)
        have A : DpAll K (hide Z S3) (strs13.map V.str ++ [.str "Plus", .non, .str (z ++ "s")]) (strs13.map PyData.str ++ [.str "Plus", .none, .str (z ++ "s")]) := dpA_app (dpA_strs _) (.cons (.str _) (.cons .non (.cons (.str _) .nil)))
        obtain ⟨v, d, ev, hm, hv⟩ := dpA_pick A w0 w16
        exact ⟨_, rfl, l3, _, way, v, rfl, rfl, .inl (.inl L3), ev, fin _ v d (g1.trans (Gp.gr G)) (dr1.gr G) hv (oddS_wt hw d hm) (fun _ => oddS_pl hw d hm) (oddS_sI d hm)⟩
    · rw [show (tyD (.tuple ds) == "tuple") = true from by show ("tuple" == "tuple") = true; decide]
      refine iteT ?_
      have lsz : ds.length + [PyData.tuple [.str "number", .int 1]].length ≤ sizeLine := by
        have h1 := wtA_len ds
        have h2 := hw.un.2.2
        have h3 : ds.length + 1 < sizeLine := small10000001 (by omega)
        exact Nat.le_of_lt h3
      have lsz2 : ds.length + ds.length ≤ sizeLine := by
        have h1 := wtA_len ds
        have h2 := hw.un.2.2
        exact Nat.le_of_lt (small10000001 (by omega))
      obtain ⟨pt, xs, rfl, hp, hxs⟩ := dp_tup hd1
      have G : Gr H1 H1 := Gr.refl H1
      have lx := dpA_len hxs
      refine ⟨_, rfl, pt, _, rfl, .inr (hide_kx.kd.t hp), fun t1 nt1 => ?_⟩
      have k1 : Gr H1 (upd H1 t1 (.lst xs)) := Gr.new nt1
      have D1 : Dp K (hide Z (upd H1 t1 (.lst xs))) (.ref t1) (.list ds) := new_LH nt1 (hZ.gr G) hxs
      have U1 : upd H1 t1 (.lst xs) t1 = some (.lst xs) := upd_same
      generalize upd H1 t1 (.lst xs) = S1 at k1 D1 U1 ⊢
      replace hd1 := k1.hkx.kd.dp hd1
      replace G := G.trans k1
      refine ⟨_, rfl, 1, rfl, _, rfl, Z, ds, hd1, hZ.gr G, fun v2 S2 k2 D2 => ?_⟩
      replace hd1 := k2.hkx.kd.dp hd1
      replace D1 := k2.hkx.kd.dp D1
      replace G := G.trans k2
      refine ⟨_, rfl, by show 2 ≤ sizeLine; decide, fun t3 nt3 => ?_⟩
      have k3 : Gr S2 (upd S2 t3 (.tup [.str "number", .int 1])) := Gr.new nt3
      have D3 : Dp K (hide Z (upd S2 t3 (.tup [.str "number", .int 1]))) (.ref t3) (.tuple [.str "number", .int 1]) := new_TH nt3 (hZ.gr G) (.cons (.str _) (.cons (.int _) .nil))
      have U3 : upd S2 t3 (.tup [.str "number", .int 1]) t3 = some (.tup [.str "number", .int 1]) := upd_same
      generalize upd S2 t3 (.tup [.str "number", .int 1]) = S3 at k3 D3 U3 ⊢
      replace hd1 := k3.hkx.kd.dp hd1
      replace D1 := k3.hkx.kd.dp D1
      replace D2 := k3.hkx.kd.dp D2
      replace G := G.trans k3
      refine ⟨by show 1 ≤ sizeLine; decide, fun t4 nt4 => ?_⟩
      have k4 : Gr S3 (upd S3 t4 (.tup [.ref t3])) := Gr.new nt4
      have D4 : Dp K (hide Z (upd S3 t4 (.tup [.ref t3]))) (.ref t4) (.tuple [.tuple [.str "number", .int 1]]) := new_TH nt4 (hZ.gr G) (.cons D3 .nil)
      have U4 : upd S3 t4 (.tup [.ref t3]) t4 = some (.tup [.ref t3]) := upd_same
      generalize upd S3 t4 (.tup [.ref t3]) = S4 at k4 D4 U4 ⊢
      replace hd1 := k4.hkx.kd.dp hd1
      replace D1 := k4.hkx.kd.dp D1
      replace D2 := k4.hkx.kd.dp D2
      replace D3 := k4.hkx.kd.dp D3
      replace G := G.trans k4
      refine ⟨Z, ds, _, hd1, D4, hZ.gr G, lsz, fun v5 S5 k5 D5 => ?_⟩
      replace hd1 := k5.hkx.kd.dp hd1
      replace D1 := k5.hkx.kd.dp D1
      replace D2 := k5.hkx.kd.dp D2
      replace D3 := k5.hkx.kd.dp D3
      replace D4 := k5.hkx.kd.dp D4
      replace G := G.trans k5
      obtain ⟨pt2, xs2, ept, hp2, hxs2⟩ := dp_tup hd1
      cases ept
      refine ⟨_, rfl, pt, xs2, rfl, hide_kx.kd.t hp2, fun t6 nt6 => ?_⟩
      have k6 : Gr S5 (upd S5 t6 (.tup xs2.reverse)) := Gr.new nt6
      have D6 : Dp K (hide Z (upd S5 t6 (.tup xs2.reverse))) (.ref t6) (.tuple ds.reverse) := new_TH nt6 (hZ.gr G) (dpA_rev hxs2)
      have U6 : upd S5 t6 (.tup xs2.reverse) t6 = some (.tup xs2.reverse) := upd_same
      generalize upd S5 t6 (.tup xs2.reverse) = S6 at k6 D6 U6 ⊢
      replace hd1 := k6.hkx.kd.dp hd1
      replace D1 := k6.hkx.kd.dp D1
      replace D2 := k6.hkx.kd.dp D2
      replace D3 := k6.hkx.kd.dp D3
      replace D4 := k6.hkx.kd.dp D4
      replace D5 := k6.hkx.kd.dp D5
      replace G := G.trans k6
      refine ⟨_, rfl, 1, rfl, Z, ds, hd1, hZ.gr G, fun v7 S7 k7 D7 => ?_⟩
      replace hd1 := k7.hkx.kd.dp hd1
      replace D1 := k7.hkx.kd.dp D1
      replace D2 := k7.hkx.kd.dp D2
      replace D3 := k7.hkx.kd.dp D3
      replace D4 := k7.hkx.kd.dp D4
      replace D5 := k7.hkx.kd.dp D5
      replace D6 := k7.hkx.kd.dp D6
      replace G := G.trans k7
      refine ⟨by show 1 ≤ sizeLine; decide, fun t8 nt8 => ?_⟩
      have k8 : Gr S7 (upd S7 t8 (.tup [.str "refuse"])) := Gr.new nt8
      have D8 : Dp K (hide Z (upd S7 t8 (.tup [.str "refuse"]))) (.ref t8) (.tuple [.str "refuse"]) := new_TH nt8 (hZ.gr G) (.cons (.str _) .nil)
      have U8 : upd S7 t8 (.tup [.str "refuse"]) t8 = some (.tup [.str "refuse"]) := upd_same
      generalize upd S7 t8 (.tup [.str "refuse"]) = S8 at k8 D8 U8 ⊢
      replace hd1 := k8.hkx.kd.dp hd1
      replace D1 := k8.hkx.kd.dp D1
      replace D2 := k8.hkx.kd.dp D2
      replace D3 := k8.hkx.kd.dp D3
      replace D4 := k8.hkx.kd.dp D4
      replace D5 := k8.hkx.kd.dp D5
      replace D6 := k8.hkx.kd.dp D6
      replace D7 := k8.hkx.kd.dp D7
      replace G := G.trans k8
      refine ⟨_, rfl, 1, rfl, Z, ds, hd1, hZ.gr G, fun v9 S9 k9 D9 => ?_⟩
      replace hd1 := k9.hkx.kd.dp hd1
      replace D1 := k9.hkx.kd.dp D1
      replace D2 := k9.hkx.kd.dp D2
      replace D3 := k9.hkx.kd.dp D3
      replace D4 := k9.hkx.kd.dp D4
      replace D5 := k9.hkx.kd.dp D5
      replace D6 := k9.hkx.kd.dp D6
      replace D7 := k9.hkx.kd.dp D7
      replace D8 := k9.hkx.kd.dp D8
      replace G := G.trans k9
      refine ⟨by show 8 ≤ sizeLine; decide, fun l1 nl1 => ?_⟩
      have k10 : Gr S9 (upd S9 l1 (.lst [.ref t1, v2, v5, .ref t6, .non, v7, .ref t8, v9])) := Gr.new nl1
      have L1 : upd S9 l1 (.lst [.ref t1, v2, v5, .ref t6, .non, v7, .ref t8, v9]) l1 = some (.lst [.ref t1, v2, v5, .ref t6, .non, v7, .ref t8, v9]) := upd_same
      generalize upd S9 l1 (.lst [.ref t1, v2, v5, .ref t6, .non, v7, .ref t8, v9]) = S10 at k10 L1 ⊢
      replace hd1 := k10.hkx.kd.dp hd1
      replace D1 := k10.hkx.kd.dp D1
      replace D2 := k10.hkx.kd.dp D2
      replace D3 := k10.hkx.kd.dp D3
      replace D4 := k10.hkx.kd.dp D4
      replace D5 := k10.hkx.kd.dp D5
      replace D6 := k10.hkx.kd.dp D6
      replace D7 := k10.hkx.kd.dp D7
      replace D8 := k10.hkx.kd.dp D8
      replace D9 := k10.hkx.kd.dp D9
      replace G := G.trans k10
      refine gname_go ?_
      dsimp only
      refine ⟨_, rfl, _, rfl, by show 1 ≤ sizeLine; decide, fun t11 nt11 => ?_⟩
      have k11 : Gr S10 (upd S10 t11 (.tup [.ref pt])) := Gr.new nt11
      have D11 : Dp K (hide Z (upd S10 t11 (.tup [.ref pt]))) (.ref t11) (.tuple [.tuple ds]) := new_TH nt11 (hZ.gr G) (.cons hd1 .nil)
      have U11 : upd S10 t11 (.tup [.ref pt]) t11 = some (.tup [.ref pt]) := upd_same
      generalize upd S10 t11 (.tup [.ref pt]) = S11 at k11 D11 U11 ⊢
      replace hd1 := k11.hkx.kd.dp hd1
      replace D1 := k11.hkx.kd.dp D1
      replace D2 := k11.hkx.kd.dp D2
      replace D3 := k11.hkx.kd.dp D3
      replace D4 := k11.hkx.kd.dp D4
      replace D5 := k11.hkx.kd.dp D5
      replace D6 := k11.hkx.kd.dp D6
      replace D7 := k11.hkx.kd.dp D7
      replace D8 := k11.hkx.kd.dp D8
      replace D9 := k11.hkx.kd.dp D9
      replace L1 := k11.lst L1
      replace G := G.trans k11
      refine ⟨by show 2 ≤ sizeLine; decide, fun t12 nt12 => ?_⟩
      have k12 : Gr S11 (upd S11 t12 (.tup [.str "give", .ref t11])) := Gr.new nt12
      have D12 : Dp K (hide Z (upd S11 t12 (.tup [.str "give", .ref t11]))) (.ref t12) (.tuple [.str "give", .tuple [.tuple ds]]) := new_TH nt12 (hZ.gr G) (.cons (.str _) (.cons D11 .nil))
      have U12 : upd S11 t12 (.tup [.str "give", .ref t11]) t12 = some (.tup [.str "give", .ref t11]) := upd_same
      generalize upd S11 t12 (.tup [.str "give", .ref t11]) = S12 at k12 D12 U12 ⊢
      replace hd1 := k12.hkx.kd.dp hd1
      replace D1 := k12.hkx.kd.dp D1
      replace D2 := k12.hkx.kd.dp D2
      replace D3 := k12.hkx.kd.dp D3
      replace D4 := k12.hkx.kd.dp D4
      replace D5 := k12.hkx.kd.dp D5
      replace D6 := k12.hkx.kd.dp D6
      replace D7 := k12.hkx.kd.dp D7
      replace D8 := k12.hkx.kd.dp D8
      replace D9 := k12.hkx.kd.dp D9
      replace D11 := k12.hkx.kd.dp D11
      replace L1 := k12.lst L1
      replace G := G.trans k12
      refine ⟨_, rfl, by show 3 ≤ sizeLine; decide, fun t13 nt13 => ?_⟩
      have k13 : Gr S12 (upd S12 t13 (.tup [.str "rest", .ref pt, .int 2])) := Gr.new nt13
      have D13 : Dp K (hide Z (upd S12 t13 (.tup [.str "rest", .ref pt, .int 2]))) (.ref t13) (.tuple [.str "rest", .tuple ds, .int 2]) := new_TH nt13 (hZ.gr G) (.cons (.str _) (.cons hd1 (.cons (.int _) .nil)))
      have U13 : upd S12 t13 (.tup [.str "rest", .ref pt, .int 2]) t13 = some (.tup [.str "rest", .ref pt, .int 2]) := upd_same
      generalize upd S12 t13 (.tup [.str "rest", .ref pt, .int 2]) = S13 at k13 D13 U13 ⊢
      replace hd1 := k13.hkx.kd.dp hd1
      replace D1 := k13.hkx.kd.dp D1
      replace D2 := k13.hkx.kd.dp D2
      replace D3 := k13.hkx.kd.dp D3
      replace D4 := k13.hkx.kd.dp D4
      replace D5 := k13.hkx.kd.dp D5
      replace D6 := k13.hkx.kd.dp D6
      replace D7 := k13.hkx.kd.dp D7
      replace D8 := k13.hkx.kd.dp D8
      replace D9 := k13.hkx.kd.dp D9
      replace D11 := k13.hkx.kd.dp D11
      replace D12 := k13.hkx.kd.dp D12
      replace L1 := k13.lst L1
      replace G := G.trans k13
      refine ⟨by show 2 ≤ sizeLine; decide, fun t14 nt14 => ?_⟩
      have k14 : Gr S13 (upd S13 t14 (.tup [.str "number", .int 1])) := Gr.new nt14
      have D14 : Dp K (hide Z (upd S13 t14 (.tup [.str "number", .int 1]))) (.ref t14) (.tuple [.str "number", .int 1]) := new_TH nt14 (hZ.gr G) (.cons (.str _) (.cons (.int _) .nil))
      have U14 : upd S13 t14 (.tup [.str "number", .int 1]) t14 = some (.tup [.str "number", .int 1]) := upd_same
      generalize upd S13 t14 (.tup [.str "number", .int 1]) = S14 at k14 D14 U14 ⊢
      replace hd1 := k14.hkx.kd.dp hd1
      replace D1 := k14.hkx.kd.dp D1
      replace D2 := k14.hkx.kd.dp D2
      replace D3 := k14.hkx.kd.dp D3
      replace D4 := k14.hkx.kd.dp D4
      replace D5 := k14.hkx.kd.dp D5
      replace D6 := k14.hkx.kd.dp D6
      replace D7 := k14.hkx.kd.dp D7
      replace D8 := k14.hkx.kd.dp D8
      replace D9 := k14.hkx.kd.dp D9
      replace D11 := k14.hkx.kd.dp D11
      replace D12 := k14.hkx.kd.dp D12
      replace D13 := k14.hkx.kd.dp D13
      replace L1 := k14.lst L1
      replace G := G.trans k14
      refine ⟨by show 3 ≤ sizeLine; decide, fun t15 nt15 => ?_⟩
      have k15 : Gr S14 (upd S14 t15 (.tup [.str "in", .int 0, .int 0])) := Gr.new nt15
      have D15 : Dp K (hide Z (upd S14 t15 (.tup [.str "in", .int 0, .int 0]))) (.ref t15) (.tuple [.str "in", .int 0, .int 0]) := new_TH nt15 (hZ.gr G) (.cons (.str _) (.cons (.int _) (.cons (.int _) .nil)))
      have U15 : upd S14 t15 (.tup [.str "in", .int 0, .int 0]) t15 = some (.tup [.str "in", .int 0, .int 0]) := upd_same
      generalize upd S14 t15 (.tup [.str "in", .int 0, .int 0]) = S15 at k15 D15 U15 ⊢
      replace hd1 := k15.hkx.kd.dp hd1
      replace D1 := k15.hkx.kd.dp D1
      replace D2 := k15.hkx.kd.dp D2
      replace D3 := k15.hkx.kd.dp D3
      replace D4 := k15.hkx.kd.dp D4
      replace D5 := k15.hkx.kd.dp D5
      replace D6 := k15.hkx.kd.dp D6
      replace D7 := k15.hkx.kd.dp D7
      replace D8 := k15.hkx.kd.dp D8
      replace D9 := k15.hkx.kd.dp D9
      replace D11 := k15.hkx.kd.dp D11
      replace D12 := k15.hkx.kd.dp D12
      replace D13 := k15.hkx.kd.dp D13
      replace D14 := k15.hkx.kd.dp D14
      replace L1 := k15.lst L1
      replace G := G.trans k15
      refine ⟨_, rfl, _, rfl, Z, ds, ds, hd1, hd1, hZ.gr G, lsz2, fun v16 S16 k16 D16 => ?_⟩
      replace hd1 := k16.hkx.kd.dp hd1
      replace D1 := k16.hkx.kd.dp D1
      replace D2 := k16.hkx.kd.dp D2
      replace D3 := k16.hkx.kd.dp D3
      replace D4 := k16.hkx.kd.dp D4
      replace D5 := k16.hkx.kd.dp D5
      replace D6 := k16.hkx.kd.dp D6
      replace D7 := k16.hkx.kd.dp D7
      replace D8 := k16.hkx.kd.dp D8
      replace D9 := k16.hkx.kd.dp D9
      replace D11 := k16.hkx.kd.dp D11
      replace D12 := k16.hkx.kd.dp D12
      replace D13 := k16.hkx.kd.dp D13
      replace D14 := k16.hkx.kd.dp D14
      replace D15 := k16.hkx.kd.dp D15
      replace L1 := k16.lst L1
      replace G := G.trans k16
      refine ⟨by show 0 ≤ sizeLine; decide, fun t17 nt17 => ?_⟩
      have k17 : Gr S16 (upd S16 t17 (.tup [])) := Gr.new nt17
      have D17 : Dp K (hide Z (upd S16 t17 (.tup []))) (.ref t17) (.tuple []) := new_TH nt17 (hZ.gr G) .nil
      have U17 : upd S16 t17 (.tup []) t17 = some (.tup []) := upd_same
      generalize upd S16 t17 (.tup []) = S17 at k17 D17 U17 ⊢
      replace hd1 := k17.hkx.kd.dp hd1
      replace D1 := k17.hkx.kd.dp D1
      replace D2 := k17.hkx.kd.dp D2
      replace D3 := k17.hkx.kd.dp D3
      replace D4 := k17.hkx.kd.dp D4
      replace D5 := k17.hkx.kd.dp D5
      replace D6 := k17.hkx.kd.dp D6
      replace D7 := k17.hkx.kd.dp D7
      replace D8 := k17.hkx.kd.dp D8
      replace D9 := k17.hkx.kd.dp D9
      replace D11 := k17.hkx.kd.dp D11
      replace D12 := k17.hkx.kd.dp D12
      replace D13 := k17.hkx.kd.dp D13
      replace D14 := k17.hkx.kd.dp D14
      replace D15 := k17.hkx.kd.dp D15
      replace D16 := k17.hkx.kd.dp D16
      replace L1 := k17.lst L1
      replace G := G.trans k17
      refine ⟨by show 7 ≤ sizeLine; decide, fun l2 nl2 => ?_⟩
      have k18 : Gr S17 (upd S17 l2 (.lst ([.ref t12, .ref t13, .ref t14, .ref t15, v16, .int 5, .ref t17]))) := Gr.new nl2
      have L2 : upd S17 l2 (.lst ([.ref t12, .ref t13, .ref t14, .ref t15, v16, .int 5, .ref t17])) l2 = some (.lst ([.ref t12, .ref t13, .ref t14, .ref t15, v16, .int 5, .ref t17])) := upd_same
      generalize upd S17 l2 (.lst ([.ref t12, .ref t13, .ref t14, .ref t15, v16, .int 5, .ref t17])) = S18 at k18 L2 ⊢
      replace hd1 := k18.hkx.kd.dp hd1
      replace D1 := k18.hkx.kd.dp D1
      replace D2 := k18.hkx.kd.dp D2
      replace D3 := k18.hkx.kd.dp D3
      replace D4 := k18.hkx.kd.dp D4
      replace D5 := k18.hkx.kd.dp D5
      replace D6 := k18.hkx.kd.dp D6
      replace D7 := k18.hkx.kd.dp D7
      replace D8 := k18.hkx.kd.dp D8
      replace D9 := k18.hkx.kd.dp D9
      replace D11 := k18.hkx.kd.dp D11
      replace D12 := k18.hkx.kd.dp D12
      replace D13 := k18.hkx.kd.dp D13
      replace D14 := k18.hkx.kd.dp D14
      replace D15 := k18.hkx.kd.dp D15
      replace D16 := k18.hkx.kd.dp D16
      replace D17 := k18.hkx.kd.dp D17
      replace L1 := k18.lst L1
      replace G := G.trans k18
      refine ⟨l1, l2, _, _, rfl, rfl, L1, L2, by show 15 ≤ sizeLine; decide, fun l3 nl3 => ?_⟩
      have k19 : Gr S18 (upd S18 l3 (.lst ([.ref t1, v2, v5, .ref t6, .non, v7, .ref t8, v9] ++ [.ref t12, .ref t13, .ref t14, .ref t15, v16, .int 5, .ref t17]))) := Gr.new nl3
      have L3 : upd S18 l3 (.lst ([.ref t1, v2, v5, .ref t6, .non, v7, .ref t8, v9] ++ [.ref t12, .ref t13, .ref t14, .ref t15, v16, .int 5, .ref t17])) l3 = some (.lst ([.ref t1, v2, v5, .ref t6, .non, v7, .ref t8, v9] ++ [.ref t12, .ref t13, .ref t14, .ref t15, v16, .int 5, .ref t17])) := upd_same
      generalize upd S18 l3 (.lst ([.ref t1, v2, v5, .ref t6, .non, v7, .ref t8, v9] ++ [.ref t12, .ref t13, .ref t14, .ref t15, v16, .int 5, .ref t17])) = S19 at k19 L3 ⊢
      replace hd1 := k19.hkx.kd.dp hd1
      replace D1 := k19.hkx.kd.dp D1
      replace D2 := k19.hkx.kd.dp D2
      replace D3 := k19.hkx.kd.dp D3
      replace D4 := k19.hkx.kd.dp D4
      replace D5 := k19.hkx.kd.dp D5
      replace D6 := k19.hkx.kd.dp D6
      replace D7 := k19.hkx.kd.dp D7
      replace D8 := k19.hkx.kd.dp D8
      replace D9 := k19.hkx.kd.dp D9
      replace D11 := k19.hkx.kd.dp D11
      replace D12 := k19.hkx.kd.dp D12
      replace D13 := k19.hkx.kd.dp D13
      replace D14 := k19.hkx.kd.dp D14
      replace D15 := k19.hkx.kd.dp D15
      replace D16 := k19.hkx.kd.dp D16
      replace D17 := k19.hkx.kd.dp D17
      replace L1 := k19.lst L1
      replace L2 := k19.lst L2
      replace G := G.trans k19
      refine gname_go ?_
      dsimp only
      refine ⟨_, rfl, _, rfl, _, rfl, by show 3 ≤ sizeLine; decide, fun t20 nt20 => ?_⟩
      have k20 : Gr S19 (upd S19 t20 (.tup [.str "plus", .ref pt, .ref pt])) := Gr.new nt20
      have D20 : Dp K (hide Z (upd S19 t20 (.tup [.str "plus", .ref pt, .ref pt]))) (.ref t20) (.tuple [.str "plus", .tuple ds, .tuple ds]) := new_TH nt20 (hZ.gr G) (.cons (.str _) (.cons hd1 (.cons hd1 .nil)))
      have U20 : upd S19 t20 (.tup [.str "plus", .ref pt, .ref pt]) t20 = some (.tup [.str "plus", .ref pt, .ref pt]) := upd_same
      generalize upd S19 t20 (.tup [.str "plus", .ref pt, .ref pt]) = S20 at k20 D20 U20 ⊢
      replace hd1 := k20.hkx.kd.dp hd1
      replace D1 := k20.hkx.kd.dp D1
      replace D2 := k20.hkx.kd.dp D2
      replace D3 := k20.hkx.kd.dp D3
      replace D4 := k20.hkx.kd.dp D4
      replace D5 := k20.hkx.kd.dp D5
      replace D6 := k20.hkx.kd.dp D6
      replace D7 := k20.hkx.kd.dp D7
      replace D8 := k20.hkx.kd.dp D8
      replace D9 := k20.hkx.kd.dp D9
      replace D11 := k20.hkx.kd.dp D11
      replace D12 := k20.hkx.kd.dp D12
      replace D13 := k20.hkx.kd.dp D13
      replace D14 := k20.hkx.kd.dp D14
      replace D15 := k20.hkx.kd.dp D15
      replace D16 := k20.hkx.kd.dp D16
      replace D17 := k20.hkx.kd.dp D17
      replace L1 := k20.lst L1
      replace L2 := k20.lst L2
      replace L3 := k20.lst L3
      replace G := G.trans k20
      refine ⟨by show 1 ≤ sizeLine; decide, fun l4 nl4 => ?_⟩
      have k21 : Gr S20 (upd S20 l4 (.lst ([.ref t20]))) := Gr.new nl4
      have L4 : upd S20 l4 (.lst ([.ref t20])) l4 = some (.lst ([.ref t20])) := upd_same
      generalize upd S20 l4 (.lst ([.ref t20])) = S21 at k21 L4 ⊢
      replace hd1 := k21.hkx.kd.dp hd1
      replace D1 := k21.hkx.kd.dp D1
      replace D2 := k21.hkx.kd.dp D2
      replace D3 := k21.hkx.kd.dp D3
      replace D4 := k21.hkx.kd.dp D4
      replace D5 := k21.hkx.kd.dp D5
      replace D6 := k21.hkx.kd.dp D6
      replace D7 := k21.hkx.kd.dp D7
      replace D8 := k21.hkx.kd.dp D8
      replace D9 := k21.hkx.kd.dp D9
      replace D11 := k21.hkx.kd.dp D11
      replace D12 := k21.hkx.kd.dp D12
      replace D13 := k21.hkx.kd.dp D13
      replace D14 := k21.hkx.kd.dp D14
      replace D15 := k21.hkx.kd.dp D15
      replace D16 := k21.hkx.kd.dp D16
      replace D17 := k21.hkx.kd.dp D17
      replace D20 := k21.hkx.kd.dp D20
      replace L1 := k21.lst L1
      replace L2 := k21.lst L2
      replace L3 := k21.lst L3
      replace G := G.trans k21
      refine ⟨l3, l4, _, _, rfl, rfl, L3, L4, by show 16 ≤ sizeLine; decide, fun l5 nl5 => ?_⟩
      have k22 : Gr S21 (upd S21 l5 (.lst ([.ref t1, v2, v5, .ref t6, .non, v7, .ref t8, v9] ++ [.ref t12, .ref t13, .ref t14, .ref t15, v16, .int 5, .ref t17] ++ [.ref t20]))) := Gr.new nl5
      have L5 : upd S21 l5 (.lst ([.ref t1, v2, v5, .ref t6, .non, v7, .ref t8, v9] ++ [.ref t12, .ref t13, .ref t14, .ref t15, v16, .int 5, .ref t17] ++ [.ref t20])) l5 = some (.lst ([.ref t1, v2, v5, .ref t6, .non, v7, .ref t8, v9] ++ [.ref t12, .ref t13, .ref t14, .ref t15, v16, .int 5, .ref t17] ++ [.ref t20])) := upd_same
      generalize upd S21 l5 (.lst ([.ref t1, v2, v5, .ref t6, .non, v7, .ref t8, v9] ++ [.ref t12, .ref t13, .ref t14, .ref t15, v16, .int 5, .ref t17] ++ [.ref t20])) = S22 at k22 L5 ⊢
      replace hd1 := k22.hkx.kd.dp hd1
      replace D1 := k22.hkx.kd.dp D1
      replace D2 := k22.hkx.kd.dp D2
      replace D3 := k22.hkx.kd.dp D3
      replace D4 := k22.hkx.kd.dp D4
      replace D5 := k22.hkx.kd.dp D5
      replace D6 := k22.hkx.kd.dp D6
      replace D7 := k22.hkx.kd.dp D7
      replace D8 := k22.hkx.kd.dp D8
      replace D9 := k22.hkx.kd.dp D9
      replace D11 := k22.hkx.kd.dp D11
      replace D12 := k22.hkx.kd.dp D12
      replace D13 := k22.hkx.kd.dp D13
      replace D14 := k22.hkx.kd.dp D14
      replace D15 := k22.hkx.kd.dp D15
      replace D16 := k22.hkx.kd.dp D16
      replace D17 := k22.hkx.kd.dp D17
      replace D20 := k22.hkx.kd.dp D20
      replace L1 := k22.lst L1
      replace L2 := k22.lst L2
      replace L3 := k22.lst L3
      replace L4 := k22.lst L4
      replace G := G.trans k22
      have A : DpAll K (hide Z S22) [.ref t1, v2, v5, .ref t6, .non, v7, .ref t8, v9, .ref t12, .ref t13, .ref t14, .ref t15, v16, .int 5, .ref t17, .ref t20] (oddT ds) := (.cons D1 (.cons D2 (.cons D5 (.cons D6 (.cons .non (.cons D7 (.cons D8 (.cons D9 (.cons D12 (.cons D13 (.cons D14 (.cons D15 (.cons D16 (.cons (.int _) (.cons D17 (.cons D20 .nil))))))))))))))))
      obtain ⟨v, d, ev, hm, hv⟩ := dpA_pick A w0 w16
      exact ⟨_, rfl, l5, _, way, v, rfl, rfl, .inl (.inl L5), ev, fin _ v d (g1.trans (Gp.gr G)) (dr1.gr G) hv ((odd_wt hw hD d hm).mono (by omega) (Nat.le_refl _)) (fun _ => Nat.le_trans (odd_wt hw hD d hm).le (by omega)) (oddT_sI hB hs d hm)⟩
end
end SfM
namespace SfM
open PySem PySem.Spec PyProof.Rows L2 SfG SfC
abbrev nBent : List Str := ["_law_state", "_law_thing", "_law_at"]
theorem scBent : FnScope nBent ["_law_state", "_law_thing"] (defScope sBent) := ⟨rfl, rfl, rfl, by decide +kernel, rfl, by decide +kernel, by decide +kernel⟩
theorem fng_up {P : Program} {w : World} {K : PySem.W.Frag} {mg : Str → Option Value} {base : Heap} {CX : CXT} {j k : Nat} {f : Addr} {fd : FuncData} {ps : List Str} {sp : Sp} (F : FnG P w K mg base CX j f fd ps sp) (h : j ≤ k) : FnG P w K mg base CX k f fd ps sp :=
  ⟨F.size, fun A outer s H args us vs Q E hr => F.goes A outer s H args us vs Q E (hr.mono h)⟩
/-- what a bent thing is at the most -/
structure BentOf (d d' : PyData) (B : Nat) : Prop where
  ok : okd d' = true
  le : wt d' ≤ 11 * wt d + 500
  dp : d'.depth ≤ d.depth + 2
  sI : sI (B + 1) d' = true
  lp : plT d = true → wt d' ≤ 2 * wt d + 700
theorem bent_tup {ds : List PyData} {i : Nat} {e e' : PyData} {B : Nat} (hi : ds[i]? = some e) (ho : okd (.tuple ds) = true) (hs : sI B (.tuple ds) = true) (h : BentOf e e' B) :
    BentOf (.tuple ds) (.tuple (ds.take i ++ [e'] ++ ds.drop (i + 1))) B := by
  obtain ⟨li, ei⟩ := List.getElem?_eq_some_iff.mp hi
  have ed : ds = ds.take i ++ (e :: ds.drop (i + 1)) := by
    have := (List.take_append_drop i ds).symm
    rw [List.drop_eq_getElem_cons li, ei] at this
    exact this
  have w1 : wtA ds = wtA (ds.take i) + (wt e + 2 + wtA (ds.drop (i + 1))) := by
    conv => lhs; rw [ed, wtA_app, wtA]
  have d1 : PyData.depthAll ds = max (PyData.depthAll (ds.take i)) (max e.depth (PyData.depthAll (ds.drop (i + 1)))) := by
    conv => lhs; rw [ed, depA_app, PyData.depthAll]
  have o1 : okdA ds = (okdA (ds.take i) && (okd e && okdA (ds.drop (i + 1)))) := by
    conv => lhs; rw [ed, okdA_app, okdA]
  rw [okd, o1, Bool.and_eq_true, Bool.and_eq_true] at ho
  obtain ⟨h1, h2, h3, h4, h5⟩ := h
  refine ⟨?_, ?_, ?_, ?_, ?_⟩
  · rw [okd, okdA_app, okdA_app, okdA, okdA, ho.1, h1, ho.2.2]
    rfl
  · rw [wt, wt, wtA_app, wtA_app, wtA, wtA, w1]
    omega
  · rw [PyData.depth, PyData.depth, depA_app, depA_app, PyData.depthAll, PyData.depthAll, d1]
    omega
  · refine sI_tup.mpr fun d hd => ?_
    have hT := sI_tup.mp (sI_mono (C := B + 1) (by omega) hs)
    rcases List.mem_append.mp hd with hd | hd
    · rcases List.mem_append.mp hd with hd | hd
      · exact hT d (List.mem_of_mem_take hd)
      · rw [List.mem_singleton.mp hd]
        exact h4
    · exact hT d (List.mem_of_mem_drop hd)
  · intro hp
    have he : plT e = true := by
      rw [plT] at hp
      have : ∀ l : List PyData, plA l = true → ∀ x ∈ l, plT x = true := by
        intro l
        induction l with
        | nil => intro _ x hx; cases hx
        | cons a r ih =>
          intro h x hx
          rw [plA, Bool.and_eq_true] at h
          rcases List.mem_cons.mp hx with rfl | hx
          · exact h.1
          · exact ih h.2 x hx
      exact this ds hp e (List.mem_of_getElem? hi)
    have := h5 he
    rw [wt, wt, wtA_app, wtA_app, wtA, wtA, w1]
    omega
section
variable {P : Program} {w : World} {K : PySem.W.Frag} {mg : Str → Option Value} {base : Heap}
def spBent (K : PySem.W.Frag) (q : Nat) : Sp := fun vs H Q _ => ∃ (p : Addr) (t : V) (d : PyData) (B : Nat) (Z : List Addr), vs = [.ref p, t] ∧ Drw H p ∧ Dp K (hide Z H) t d ∧ There Z H ∧ okd d = true ∧ wt d ≤ 900000 ∧ d.depth < q ∧ q ≤ 20 ∧ sI B d = true ∧ (100 ≤ B ∧ B ≤ 1000) ∧
  ∀ H' v d', Gp p H H' → Drw H' p → Dp K (hide Z H') v d' → BentOf d d' B → Q v H'
set_option maxHeartbeats 4000000 in
theorem ok_bent {f fP fO : Addr} {fd fdP fdO : FuncData} (F : Fun K "_law_bent" "_law_bent" sBent f fd) (bB : Binds K fd ["_law_state", "_law_thing"] []) (gB : mg "_law_bent" = some (.ref f))
    (HP : Has P w K mg base 1 "_law_pick" ["_law_state", "_law_many"] spPick fP fdP) (GO : FnG P w K mg base CX0 2 fO fdO ["_law_state", "_law_thing"] (spOdd K)) (bO : Binds K fdO ["_law_state", "_law_thing"] []) (gO : mg "_law_odd" = some (.ref fO)) (kO : PySem.W.keepIn K (.ref fO) = true)
    (mi : mg "isinstance" = none) (mt : mg "tuple" = none) (ml : mg "len" = none) : ∀ q, FnG P w K mg base CX0 (q + 3) f fd ["_law_state", "_law_thing"] (spBent K q)
  | 0 => by
    refine fng_of F scBent (fun vs H Q E h => ?_) (fun cdv A outer s H vs Q E hr hgd h => ?_)
    · obtain ⟨p, t, d, B, Z, rfl, _⟩ := h
      rfl
    · obtain ⟨p, t, d, B, Z, rfl, _, _, _, _, _, h, _⟩ := h
      omega
  | q + 1 => by
    have GB := ok_bent F bB gB HP GO bO gO kO mi mt ml q
    refine fng_of F scBent (fun vs H Q E h => ?_) (fun cdv A outer s H vs Q E hr hgd h => ?_)
    · obtain ⟨p, t, d, B, Z, rfl, _⟩ := h
      rfl
    · obtain ⟨p, t, d, B, Z, rfl, dr, hd, hZ, hok, hw, hdp, hq, hs, hB, fin⟩ := h
      have nd := scBent.nd
      have HP' : Has P w K mg base (q + 3) "_law_pick" ["_law_state", "_law_many"] spPick fP fdP := ⟨HP.ok.mono (by omega), HP.at_, HP.kp, HP.bd⟩
      have GO' := fng_up GO (show 2 ≤ q + 3 by omega)
      refine' ⟨_, pss_cons ?s1 (pss_one ?s2), ?rd⟩
      case s1 =>
        exact ps_if (PW.pt (pw_and (pt_val (pe_isi "tuple" 1 mi mt (by decide +kernel))) (pw_and (pt_cmpR (op_neT0 hr) (pv 1) (pe_tup pa_nil) (nomark _)) (pw_and1 (pt_cmpR op_gt (hcall HP' hr (pa_cons (pv 0) (pa_cons pe_int pa_nil))) pe_int (nomark _))))))
          (pss_cons (ps_set (i := 2) nd rfl (.inl rfl) (hcall HP' hr (pa_cons (pv 0) (pa_cons (pe_callB call_len_seq (by rfl) ml PySem.boot_len (pa_cons (pv 1) pa_nil)) pa_nil))))
          (pss_one (ps_ret (pe_op op_catH (pe_op op_catH (pe_slice sl_tupH (pv 1) po_none (po_some (pv 2))) (pe_tup (pa_cons (pe_callG GB hr hgd (by rfl) gB F.kp bB .nil pass0 (pa_cons (pv 0) (pa_cons (pe_ix ix_tup (pv 1) (pv 2) (fun _ _ => rfl)) pa_nil))) pa_nil)))
            (pe_slice sl_tupH (pv 1) (po_some (pe_op op_add (pv 2) pe_int)) po_none))))) pss_nil
      case s2 => exact ps_ret (pe_callG GO' hr hgd (by rfl) gO kO bO .nil pass0 (pa_cons (pv 0) (pa_cons (pv 1) pa_nil)))
      case rd =>
      have odd : ∀ H1, Gp p H H1 → Drw H1 p → tRet (tCall (spOdd K) [] E0 (tCons (tVar 0) (tCons (tVar 1) tNil))) { nx := fun _ H' => Q .non H', rt := Q } [some (.ref p), some t, none] H1 := fun H1 g1 dr1 => by
        refine ⟨_, rfl, _, rfl, p, t, d, wt d, d.depth, B, Z, rfl, dr1, (Drw.hkx dr g1).kd.dp hd, There.gp hZ g1 dr1, ⟨hok, Nat.le_refl _, Nat.le_refl _⟩, hs, hB, hw, by omega, fun H' v d' g2 dr2 hv w2 p2 s2 => ?_⟩
        exact fin H' v d' (g1.trans g2) dr2 hv ⟨w2.ok, Nat.le_trans w2.le (by omega), w2.dep, s2, p2⟩
      have hI := dp_is (hide_kx.kd.dp hd)
      refine ⟨_, rfl, _, _, hI.1, kit_tuple _ hI.2, _, rfl, ?_⟩
      rcases tup_is d with h1 | ⟨ds, rfl⟩
      · rw [h1]
        exact iteF (iteF (odd H (Gp.gr (Gr.refl H)) dr))
      rw [show (tyD (.tuple ds) == "tuple") = true from by show ("tuple" == "tuple") = true; decide]
      obtain ⟨pt, xs, rfl, hp, hxs⟩ := dp_tup hd
      have lx := dpA_len hxs
      refine iteT ⟨_, rfl, by show 0 ≤ sizeLine; decide, fun p0 n0 => ?_⟩
      have g0 : Gr H (upd H p0 (.tup [])) := Gr.new n0
      refine ⟨pt, p0, xs, rfl, rfl, g0.sqt (hide_kx.kd.t hp), .inl (.inl upd_same), _, rfl, ?_⟩
      have dr0 := dr.gr g0
      generalize upd H p0 (.tup []) = H0 at g0 dr0 ⊢
      cases ds with
      | nil =>
        cases dpA_nil hxs
        exact iteF (iteF (odd H0 (Gp.gr g0) dr0))
      | cons e0 er =>
      obtain ⟨x0, xr, exs, _, _⟩ := dpA_cons hxs
      rw [exs]
      refine iteT ⟨_, rfl, p, 6, rfl, dr0, by decide, by decide, fun H1 a b1 dr1 a0 a6 => ?_⟩
      have g1 : Gp p H H1 := (Gp.gr g0).trans (Gp.but b1)
      refine ⟨a, 0, rfl, rfl, _, rfl, ?_⟩
      by_cases ha : a > 0
      case neg =>
        rw [decide_eq_false ha]
        exact iteF (odd H1 g1 dr1)
      rw [decide_eq_true ha]
      have hwl := wtA_len (e0 :: er)
      have hw2 := hw
      rw [wt] at hw2
      have hdl : (e0 :: er).length ≤ 900000 := by omega
      have hpos : 0 < (e0 :: er).length := Nat.succ_pos _
      refine iteT ⟨_, rfl, _, rfl, pt, xs, rfl, .inr ((dr.kd g1).t (hide_kx.kd.t hp)), p, _, rfl, dr1, by rw [lx]; omega, by rw [lx]; omega, fun H2 i b2 dr2 i0 i1 => ?_⟩
      obtain ⟨n, rfl⟩ : ∃ n : Nat, i = (n : Nat) := ⟨i.toNat, by omega⟩
      have hn : n < (e0 :: er).length := by rw [lx] at i1; omega
      generalize (e0 :: er) = ds at *
      have g2 : Gp p H H2 := g1.trans (Gp.but b2)
      have hd2 := (Drw.hkx (Z := Z) dr g2).kd.dp hd
      refine ⟨_, rfl, _, rfl, (n : Nat), rfl, Z, ds, hd2, There.gp hZ g2 dr2, fun v3 H3 k3 h3 => ?_⟩
      rw [cut_to ds (by omega)] at h3
      have dr3 := dr2.gr k3
      have g3 := g2.trans (Gp.gr k3)
      obtain ⟨e, he⟩ : ∃ e, ds[n]? = some e := ⟨ds[n], by simp [hn]⟩
      obtain ⟨xe, hxe, hve⟩ := dpA_get hxs he
      have hwe := wtA_mem (List.mem_of_getElem? he)
      have hde := depA_mem (List.mem_of_getElem? he)
      rw [PyData.depth] at hdp
      have hoe : okd e = true := (WtA.get (L := wtA ds) (D := PyData.depthAll ds) ⟨by rw [okd] at hok; exact hok, Nat.le_refl _, Nat.le_refl _⟩ he).ok
      refine ⟨_, rfl, _, rfl, _, rfl, pt, xs, n, xe, rfl, rfl, (dr.kd g3).t (hide_kx.kd.t hp), atI_nat hxe, p, xe, e, B, Z, rfl, dr3, (Drw.hkx dr g3).kd.dp hve, There.gp hZ g3 dr3, hoe, by omega, by omega, by omega, sI_tup.mp hs e (List.mem_of_getElem? he), hB, fun H4 v4 e4 g4 dr4 hv4 b4 => ?_⟩
      have hZ4 : There Z H4 := There.gp (There.gp hZ g3 dr3) g4 dr4
      have h34 := (Drw.hkx dr3 g4).kd.dp h3
      refine ⟨by show 1 ≤ sizeLine; decide, fun t5 n5 => ?_⟩
      have k5 : Gr H4 (upd H4 t5 (.tup [v4])) := Gr.new n5
      have D5 : Dp K (hide Z (upd H4 t5 (.tup [v4]))) (.ref t5) (.tuple [e4]) := new_TH n5 hZ4 (.cons hv4 .nil)
      have h35 := k5.hkx.kd.dp h34
      generalize upd H4 t5 (.tup [v4]) = H5 at k5 D5 h35 ⊢
      refine ⟨Z, ds.take n, [e4], h35, D5, hZ4.gr k5, Nat.le_of_lt (small10000001 (by rw [List.length_take, List.length_singleton]; omega)), fun v6 H6 k6 h6 => ?_⟩
      have g6 := (g3.trans g4).trans (Gp.gr (k5.trans k6))
      refine ⟨_, rfl, _, rfl, n, 1, rfl, rfl, _, rfl, Z, ds, (Drw.hkx dr g6).kd.dp hd, (hZ4.gr k5).gr k6, fun v7 H7 k7 h7 => ?_⟩
      have h7' : Dp K (hide Z H7) v7 (.tuple (ds.drop (n + 1))) := by
        have e1 : ((n : Nat) : Int) + 1 = ((n + 1 : Nat) : Int) := by omega
        have h8 : Dp K (hide Z H7) v7 (.tuple (SfG.cutD ds (some (((n : Nat) : Int) + 1)) none)) := h7
        rw [e1, cut_from ds (by omega)] at h8
        exact h8
      refine ⟨Z, _, _, k7.hkx.kd.dp h6, h7', ((hZ4.gr k5).gr k6).gr k7, Nat.le_of_lt (small10000001 (by rw [List.length_append, List.length_take, List.length_singleton, List.length_drop]; omega)), fun v8 H8 k8 h8 => ?_⟩
      exact fin H8 v8 _ (g6.trans (Gp.gr (k7.trans k8))) ((dr4.gr (k5.trans k6)).gr (k7.trans k8)) h8 (bent_tup he hok hs b4)
end
end SfM
namespace SfM
open PySem PySem.Spec PyProof.Rows L2 SfG SfC
abbrev nTru : List Str := ["_law_thing", "_law_one"]
theorem scTru : FnScope nTru ["_law_thing"] (defScope sTru) := ⟨rfl, rfl, rfl, by decide +kernel, rfl, by decide +kernel, by decide +kernel⟩
mutual
/-- a truth for 1 and 0 -/
def tru : PyData → PyData
  | .int i => if 0 ≤ i ∧ i ≤ 1 then .bool (decide (i = 1)) else .int i
  | .tuple ds => .tuple (truA ds)
  | d => d
def truA : List PyData → List PyData
  | [] => []
  | d :: r => tru d :: truA r
end
theorem truA_map : ∀ (ds : List PyData), truA ds = ds.map tru
  | [] => by rw [truA]; rfl
  | d :: r => by rw [truA, truA_map r]; rfl
theorem plA_iff : ∀ {ds : List PyData}, plA ds = true ↔ ∀ d ∈ ds, plT d = true
  | [] => ⟨fun _ d h => (by cases h), fun _ => by rw [plA]⟩
  | d :: r => by
    rw [plA, Bool.and_eq_true, plA_iff (ds := r)]
    exact ⟨fun h e he => by
      rcases List.mem_cons.mp he with rfl | he
      · exact h.1
      · exact h.2 e he, fun h => ⟨h d List.mem_cons_self, fun e he => h e (List.mem_cons_of_mem _ he)⟩⟩
mutual
theorem tru_keep {K : PySem.W.Frag} {H H' : Hp} (kt : ∀ {a xs}, SqT K H a xs → SqT K H' a xs) : ∀ {d : PyData} {v : V}, plT d = true → Dp K H v (tru d) → Dp K H' v (tru d)
  | .int i, v, _, h => by
    rw [tru] at h ⊢
    split
    · rename_i hi
      rw [if_pos hi] at h
      cases h
      exact .bl _
    · rename_i hi
      rw [if_neg hi] at h
      cases h
      exact .int _
  | .str z, v, _, h => by
    rw [show tru (.str z) = .str z by simp [tru]] at h ⊢
    cases h
    exact .str _
  | .tuple ds, v, hp, h => by
    rw [plT] at hp
    rw [tru] at h ⊢
    cases h with
    | tup h hs => exact .tup (kt h) (truA_keep kt hp hs)
theorem truA_keep {K : PySem.W.Frag} {H H' : Hp} (kt : ∀ {a xs}, SqT K H a xs → SqT K H' a xs) : ∀ {ds : List PyData} {vs : List V}, plA ds = true → DpAll K H vs (truA ds) → DpAll K H' vs (truA ds)
  | [], vs, _, h => by
    rw [truA] at h ⊢
    cases h
    exact .nil
  | d :: r, vs, hp, h => by
    rw [plA, Bool.and_eq_true] at hp
    rw [truA] at h ⊢
    cases h with
    | cons h hs => exact .cons (tru_keep kt hp.1 h) (truA_keep kt hp.2 hs)
end
mutual
theorem tru_ok : ∀ {d : PyData}, plT d = true → okd d = true → okd (tru d) = true ∧ wt (tru d) ≤ 2 * wt d ∧ (tru d).depth = d.depth ∧ ∀ B, sI B d = true → sI B (tru d) = true
  | .int i, _, ho => by
    rw [tru]
    split
    · exact ⟨rfl, by rw [wt, wt]; omega, by rw [PyData.depth, PyData.depth], fun _ _ => by rw [sI]⟩
    · exact ⟨ho, by omega, rfl, fun _ h => h⟩
  | .str z, _, ho => by
    rw [show tru (.str z) = .str z by simp [tru]]
    exact ⟨ho, by omega, rfl, fun _ h => h⟩
  | .tuple ds, hp, ho => by
    rw [plT] at hp
    rw [okd] at ho
    obtain ⟨h1, h2, h3, h4⟩ := truA_ok hp ho
    rw [tru]
    refine ⟨by rw [okd]; exact h1, by rw [wt, wt]; omega, by rw [PyData.depth, PyData.depth, h3], fun B h => ?_⟩
    rw [sI] at h ⊢
    exact h4 B h
theorem truA_ok : ∀ {ds : List PyData}, plA ds = true → okdA ds = true → okdA (truA ds) = true ∧ wtA (truA ds) ≤ 2 * wtA ds ∧ PyData.depthAll (truA ds) = PyData.depthAll ds ∧ ∀ B, sIA B ds = true → sIA B (truA ds) = true
  | [], _, _ => by
    rw [truA]
    exact ⟨by rw [okdA], by rw [wtA]; omega, rfl, fun _ h => h⟩
  | d :: r, hp, ho => by
    rw [plA, Bool.and_eq_true] at hp
    rw [okdA, Bool.and_eq_true] at ho
    obtain ⟨h1, h2, h3, h4⟩ := tru_ok hp.1 ho.1
    obtain ⟨t1, t2, t3, t4⟩ := truA_ok hp.2 ho.2
    rw [truA]
    refine ⟨by rw [okdA, h1, t1]; rfl, by rw [wtA, wtA]; omega, by rw [PyData.depthAll, PyData.depthAll, h3, t3], fun B h => ?_⟩
    rw [sIA, Bool.and_eq_true] at h ⊢
    exact ⟨h4 B h.1, t4 B h.2⟩
end
section
variable {P : Program} {w : World} {K : PySem.W.Frag} {mg : Str → Option Value} {base : Heap}
def spTru (K : PySem.W.Frag) (q : Nat) : Sp := fun vs H Q _ => ∃ (t : V) (d : PyData), vs = [t] ∧ Dp K H t d ∧ plT d = true ∧ wt d ≤ 900000 ∧ d.depth < q ∧ ∀ H' v, Gr H H' → Dp K H' v (tru d) → Q v H'
set_option maxHeartbeats 4000000 in
theorem ok_tru {f : Addr} {fd : FuncData} (F : Fun K "_law_truths" "_law_truths" sTru f fd) (bT : Binds K fd ["_law_thing"] []) (gT : mg "_law_truths" = some (.ref f)) (mi : mg "isinstance" = none) (mt : mg "tuple" = none) (mn : mg "int" = none) :
    ∀ q, FnOk P w K mg base CX0 (q + 1) f fd ["_law_thing"] (spTru K q)
  | 0 => by
    refine F.ok scTru (fun vs H Q E h => ?_) (fun cdv A outer s H vs Q E hr h => ?_)
    · obtain ⟨t, d, rfl, _⟩ := h
      rfl
    · obtain ⟨t, d, rfl, _, _, _, h, _⟩ := h
      omega
  | q + 1 => by
    have GT := ok_tru F bT gT mi mt mn q
    refine F.ok scTru (fun vs H Q E h => ?_) (fun cdv A outer s H vs Q E hr h => ?_)
    · obtain ⟨t, d, rfl, _⟩ := h
      rfl
    · obtain ⟨t, d, rfl, hd, hp, hw, hdp, fin⟩ := h
      have nd := scTru.nd
      refine' ⟨_, pss_cons ?s1 (pss_one ?s2), ?rd⟩
      case s1 =>
        exact ps_if (pt_val (pe_isi "tuple" 0 mi mt (by decide +kernel))) (pss_one (ps_ret (pe_callTy call_tuple_of (by rfl) mt (by decide +kernel) (pa_cons (pe_lc (own := [("_law_one", 1)]) (g := gName 1) rfl nd (pi_tup (pv 0))
          (blkOk_by (own := [("_law_one", 1)]) (N := nTru) (sc := defScope sTru) (by decide +kernel)) (fun _ _ _ _ _ => pg_name (i := 1) nd rfl (Or.inl rfl)) (fun _ _ _ _ _ => pts_nil) (fun _ _ _ _ _ => pe_call GT hr (by rfl) gT F.kp bT .nil pass0 (pa_cons (pv 1) pa_nil))) pa_nil)))) pss_nil
      case s2 =>
        exact ps_ret (pe_ifExp (PW.pt (pw_and (pt_val (pe_isi "int" 0 mi mn (by decide +kernel))) (pw_and1 (pt_chain op_le op_le pe_int (pv 0) pe_int)))) (pe_cmpR op_eq (pv 0) pe_int (nomark _)) (pv 0))
      case rd =>
      have hI := dp_is hd
      refine ⟨_, rfl, _, _, hI.1, kit_tuple _ hI.2, _, rfl, ?_⟩
      rcases tup_is d with h1 | ⟨ds, rfl⟩
      · rw [h1]
        refine iteF ⟨_, rfl, _, _, hI.1, kit_intN, _, rfl, ?_⟩
        cases d with
        | int i =>
          cases dp_int hd
          refine iteT ⟨_, rfl, 0, i, rfl, rfl, _, rfl, ?_⟩
          rw [tru] at fin
          by_cases h0 : 0 ≤ i
          · rw [decide_eq_true h0]
            refine iteT ⟨i, 1, rfl, rfl, _, rfl, ?_⟩
            by_cases h2 : i ≤ 1
            · rw [decide_eq_true h2]
              rw [if_pos ⟨h0, h2⟩] at fin
              refine iteT ⟨_, rfl, rfl, ?_⟩
              rw [dec_i]
              exact fin H _ (Gr.refl H) (.bl _)
            · rw [decide_eq_false h2]
              rw [if_neg (fun x => h2 x.2)] at fin
              exact iteF ⟨_, rfl, fin H _ (Gr.refl H) (.int _)⟩
          · rw [decide_eq_false h0]
            rw [if_neg (fun x => h0 x.1)] at fin
            exact iteF ⟨_, rfl, iteF ⟨_, rfl, fin H _ (Gr.refl H) (.int _)⟩⟩
        | str z =>
          rw [show tru (.str z) = .str z by simp [tru]] at fin
          exact iteF ⟨_, rfl, fin H _ (Gr.refl H) hd⟩
        | tuple _ => exact absurd h1 (by show ¬ ("tuple" == "tuple") = false; decide)
        | _ => cases hp
      · rw [show (tyD (.tuple ds) == "tuple") = true from by show ("tuple" == "tuple") = true; decide]
        rw [plT] at hp
        rw [tru] at fin
        obtain ⟨p, xs, rfl, hp1, hxs⟩ := dp_tup hd
        have lx := dpA_len hxs
        have wl := wtA_len ds
        rw [wt] at hw
        rw [PyData.depth] at hdp
        refine iteT ⟨_, rfl, p, rfl, ⟨_, hp1⟩, fun D nD => ?_⟩
        refine lc_it (walk_tup (xs := xs)) (fun i H4 => ∃ us : List V, H4 D = some (.lst us) ∧ DpAll K H4 us (truA (ds.take i)) ∧ Gr H H4) ?z0 ?z1 ?z2 ?z3
        case z0 => exact ⟨[], upd_same, (by rw [List.take_zero, truA]; exact .nil), Gr.new nD⟩
        case z1 =>
          rintro i H4 hi ⟨us, hD, hu, g4⟩
          exact g4.sqt hp1
        case z2 =>
          rintro i x H4 H4' hi ⟨us, hD, hu, g4⟩ ⟨rfl, hx⟩
          obtain ⟨e, he, hv⟩ := dpA_at hxs hx
          refine ⟨rfl, ?_⟩
          unfold tYes
          have hpe := plA_iff.mp hp e (List.mem_of_getElem? he)
          have hwe := wtA_mem (List.mem_of_getElem? he)
          have hde := depA_mem (List.mem_of_getElem? he)
          have lu : us.length ≤ i := by
            rw [dpA_len hu, truA_map, List.length_map, List.length_take]
            omega
          refine iteT ⟨_, rfl, x, e, rfl, g4.kd.dp hv, hpe, by omega, by omega, fun H5 v g5 hv5 => ?_⟩
          refine ⟨us, g5.lst hD, small10000001 (by omega), us ++ [v], upd_same, ?_, Gr.upd_new (g4.trans g5) nD⟩
          have et : truA (ds.take (i + 1)) = truA (ds.take i) ++ [tru e] := by
            rw [truA_map, truA_map, List.take_add_one, he, List.map_append]
            rfl
          rw [et]
          have hpt : plA (ds.take i) = true := plA_iff.mpr fun d hd => plA_iff.mp hp d (List.mem_of_mem_take hd)
          exact dpA_app (truA_keep (sqt_upd (g5.lst hD)) hpt (g5.kd.dpA hu)) (.cons (tru_keep (sqt_upd (g5.lst hD)) hpe hv5) .nil)
        case z3 =>
        rintro H4 ⟨us, hD, hu, g4⟩
        rw [lx, List.take_length] at hu
        refine ⟨D, us, rfl, .inl ⟨.inl (.inl hD), fun tq ntq => ?_⟩⟩
        exact fin _ _ (g4.trans (Gr.new ntq)) (new_TD ntq hu)
end
end SfM
/-! dict(zip(t, u)), t and u tuples -/
namespace SfG
open PySem PySem.Spec PyProof.Rows L2
section
variable {prog : Program} {w : World} {A : Around} {E : Value → Shared → Prop} {s : Shared}
/-- the next pair of a zip over two tuples, where the one ahead is still there -/
theorem zpt_held {Z N O M a1 a2 u1 u2 : Addr} {b : Bool} {oM : Obj} {k : Nat} {ps qs : Array Value} {x y : Value} {Q : Option Value → Shared → Prop} (D : ZipApart Z N O a1 a2 u1 u2)
    (gz : IsZipHeld s.heap Z N O M b) (gM : s.heap.get? M = some oM) (gN : IsPair s.heap N (.ref a1) (.ref a2)) (g1 : s.heap.IsTupleIter a1 u1 k) (g2 : s.heap.IsTupleIter a2 u2 k) (t1 : s.heap.IsTuple u1 ps) (t2 : s.heap.IsTuple u2 qs)
    (ex : ps[k]? = some x) (ey : qs[k]? = some y)
    (fin : ∀ h9, IsZipHeld h9 Z N O M true → h9.IsTupleIter a1 u1 (k + 1) → h9.IsTupleIter a2 u2 (k + 1) → IsPair h9 s.heap.objs.size x y → (∀ c u, c ≠ Z → c ≠ a1 → c ≠ a2 → s.heap.get? c = some u → h9.get? c = some u) → Q (some (.ref s.heap.objs.size)) { s with heap := h9 }) :
    wpAny (model prog w) A (pyNext (.ref Z)) Q E s := by
  have ty : s.TypeIs (.ref Z) "zip" := ⟨_, gz, rfl⟩
  unfold pyNext
  refine wpAny_bind (wpAny_attempt (wpAny_callSpecial?_slot (name := Str.ofString "__next__") ty F.slot_zip_next (wpAny_call_entry F.slot_zip_next ty F.entry_zip_next ?_ (F.args_zip_next_1 _))))
  show wpAny _ _ (field (.ref Z) 2 >>= _) _ _ _
  refine wpAny_bind (wpAny_field gz rfl (x := Value.bool false) rfl ?_)
  show wpAny _ _ (field (.ref Z) 3 >>= _) _ _ _
  refine wpAny_bind (wpAny_field gz rfl (x := Value.ref N) rfl ?_)
  refine wpAny_bind (wpAny_seqItems gN rfl ?_)
  show wpAny _ _ (Builtin.SmallTypes.ownedTupleIsFree (.ref Z) >>= _) _ _ _
  refine wpAny_bind (wpAny_tupleHeld_zip gz gM fun h1 gz1 sb1 => ?_)
  simp only [Bool.false_eq_true, if_false]
  refine wpAny_bind ?_
  rw [← Array.forIn_toList]
  simp only [List.forIn_cons, List.forIn_nil]
  refine wpAny_bind (wpAny_bind (wpAny_holding ?_))
  show wpAny _ _ (Builtin.SmallTypes.nextOf (.ref a1) >>= _) _ _ _
  refine wpAny_bind (wpAny_nextOf_tuple_item (s := { s with heap := h1 }) (g1.at fun u q => (sb1.2 _ D.i1z).trans q) (t1.at fun u q => (sb1.2 _ D.l1z).trans q) ex fun h2 i1 sb2 => wpAny_pure ?_)
  refine wpAny_pure ?_
  refine wpAny_bind (wpAny_bind (wpAny_holding ?_))
  show wpAny _ _ (Builtin.SmallTypes.nextOf (.ref a2) >>= _) _ _ _
  refine wpAny_bind (wpAny_nextOf_tuple_item (s := { s with heap := h2 }) (g2.at fun u q => (sb2.2 _ (Ne.symm D.i12)).trans ((sb1.2 _ D.i2z).trans q)) (t2.at fun u q => (sb2.2 _ D.l2i1).trans ((sb1.2 _ D.l2z).trans q)) ey fun h3 i2 sb3 => wpAny_pure ?_)
  refine wpAny_pure (wpAny_pure ?_)
  show wpAny _ _ (newTuple [x, y] >>= _) _ _ _
  refine wpAny_bind (wpAny_newTuple ?_)
  have sz : h3.objs.size = s.heap.objs.size := sb3.1.trans (sb2.1.trans sb1.1)
  have gz3 : IsZipHeld h3 Z N O M true := (sb3.2 _ (Ne.symm D.i2z)).trans ((sb2.2 _ (Ne.symm D.i1z)).trans gz1)
  have kp : ∀ c u, c ≠ Z → c ≠ a1 → c ≠ a2 → s.heap.get? c = some u → h3.get? c = some u := fun c u n0 n1 n2 q => (sb3.2 c n2).trans ((sb2.2 c n1).trans ((sb1.2 c n0).trans q))
  have i1' : h3.IsTupleIter a1 u1 (k + 1) := i1.at fun u q => (sb3.2 _ D.i12).trans q
  refine wpAny_pure ⟨_, rfl, ?_⟩
  have pr : IsPair (h3.push { cls := .type "tuple", data := .seq #[x, y] }) h3.objs.size x y := Heap.get?_push_size _ rfl
  refine wpAny_pure ?_
  rw [sz] at pr ⊢
  exact fin _ (Heap.get?_push_of_some _ gz3) (i1'.at fun u q => Heap.get?_push_of_some _ q) (i2.at fun u q => Heap.get?_push_of_some _ q) pr fun c u n0 n1 n2 q => Heap.get?_push_of_some _ (kp c u n0 n1 n2 q)
/-- its end -/
theorem zpt_stop {Z N O M a1 a2 u1 u2 : Addr} {b : Bool} {oM : Obj} {k : Nat} {ps qs : Array Value} {Q : Option Value → Shared → Prop} (calm : A.handled = none) (D : ZipApart Z N O a1 a2 u1 u2)
    (gz : IsZipHeld s.heap Z N O M b) (gM : s.heap.get? M = some oM) (gN : IsPair s.heap N (.ref a1) (.ref a2)) (g1 : s.heap.IsTupleIter a1 u1 k) (g2 : s.heap.IsTupleIter a2 u2 k) (t1 : s.heap.IsTuple u1 ps) (t2 : s.heap.IsTuple u2 qs)
    (over : ps[k]? = none ∨ qs[k]? = none)
    (fin : ∀ h9, (∀ c u, c ≠ Z → c ≠ a1 → c ≠ a2 → s.heap.get? c = some u → h9.get? c = some u) → Q none { s with heap := h9 }) :
    wpAny (model prog w) A (pyNext (.ref Z)) Q E s := by
  have ty : s.TypeIs (.ref Z) "zip" := ⟨_, gz, rfl⟩
  have out : ∀ h9 e, (∀ c u, c ≠ Z → c ≠ a1 → c ≠ a2 → s.heap.get? c = some u → h9.get? c = some u) → (∃ o, h9.get? e = some o ∧ o.cls = .type "StopIteration") →
      wpAny (model prog w) A (isInstance (.ref e) (.type "StopIteration") >>= fun b => if b = true then pure none else throw (.ref e)) Q E { s with heap := h9 } := by
    rintro h9 e kp ⟨oz, gz', cz⟩
    exact wpAny_bind (wpAny_isInstance (T := "StopIteration") (b := true) ⟨oz, gz', cz⟩ isSubtype_stop (wpAny_pure (fin h9 kp)))
  unfold pyNext
  refine wpAny_bind (wpAny_attempt (wpAny_callSpecial?_slot (name := Str.ofString "__next__") ty F.slot_zip_next (wpAny_call_entry F.slot_zip_next ty F.entry_zip_next ?_ (F.args_zip_next_1 _))))
  show wpAny _ _ (field (.ref Z) 2 >>= _) _ _ _
  refine wpAny_bind (wpAny_field gz rfl (x := Value.bool false) rfl ?_)
  show wpAny _ _ (field (.ref Z) 3 >>= _) _ _ _
  refine wpAny_bind (wpAny_field gz rfl (x := Value.ref N) rfl ?_)
  refine wpAny_bind (wpAny_seqItems gN rfl ?_)
  show wpAny _ _ (Builtin.SmallTypes.ownedTupleIsFree (.ref Z) >>= _) _ _ _
  refine wpAny_bind (wpAny_tupleHeld_zip gz gM fun h1 gz1 sb1 => ?_)
  simp only [Bool.false_eq_true, if_false]
  refine wpAny_bind ?_
  rw [← Array.forIn_toList]
  simp only [List.forIn_cons, List.forIn_nil]
  refine wpAny_bind (wpAny_bind (wpAny_holding ?_))
  show wpAny _ _ (Builtin.SmallTypes.nextOf (.ref a1) >>= _) _ _ _
  cases ex : ps[k]? with
  | none =>
    refine wpAny_bind (wpAny_nextOf_tuple_end (s := { s with heap := h1 }) calm (g1.at fun u q => (sb1.2 _ D.i1z).trans q) (t1.at fun u q => (sb1.2 _ D.l1z).trans q) ex fun h2 e eb st => ?_)
    exact out h2 e (fun c u n0 n1 _ q => eb _ _ n1 ((sb1.2 c n0).trans q)) st
  | some x =>
    have ey : qs[k]? = none := by
      rcases over with h | h
      · rw [ex] at h
        cases h
      · exact h
    refine wpAny_bind (wpAny_nextOf_tuple_item (s := { s with heap := h1 }) (g1.at fun u q => (sb1.2 _ D.i1z).trans q) (t1.at fun u q => (sb1.2 _ D.l1z).trans q) ex fun h2 i1 sb2 => wpAny_pure ?_)
    refine wpAny_pure ?_
    refine wpAny_bind (wpAny_bind (wpAny_holding ?_))
    show wpAny _ _ (Builtin.SmallTypes.nextOf (.ref a2) >>= _) _ _ _
    refine wpAny_bind (wpAny_nextOf_tuple_end (s := { s with heap := h2 }) calm (g2.at fun u q => (sb2.2 _ (Ne.symm D.i12)).trans ((sb1.2 _ D.i2z).trans q)) (t2.at fun u q => (sb2.2 _ D.l2i1).trans ((sb1.2 _ D.l2z).trans q)) ey fun h3 e eb st => ?_)
    exact out h3 e (fun c u n0 n1 n2 q => eb _ _ n2 ((sb2.2 c n1).trans ((sb1.2 c n0).trans q))) st
end
/-- pairs of a zip over two tuples -/
theorem pairs_zpt {prog : Program} {w : World} (Z N O a1 a2 u1 u2 : Addr) (D : ZipApart Z N O a1 a2 u1 u2) (ps qs : Array Value) :
    PairArg prog w "zip" Z [Z, N, O, a1, a2, u1, u2] [Z, O, a1, a2] (min ps.size qs.size) (fun k x y => ps[k]? = some x ∧ qs[k]? = some y)
      (fun h => IsZip h Z N O .none ∧ IsPair h N (.ref a1) (.ref a2) ∧ (∃ x y, IsPair h O x y) ∧ h.IsTupleIter a1 u1 0 ∧ h.IsTupleIter a2 u2 0 ∧ h.IsTuple u1 ps ∧ h.IsTuple u2 qs) := by
  have inA : ∀ {c : Addr}, c ∉ [Z, O, a1, a2] → c ≠ Z ∧ c ≠ O ∧ c ≠ a1 ∧ c ≠ a2 := fun h => ⟨fun z => h (by simp [z]), fun z => h (by simp [z]), fun z => h (by simp [z]), fun z => h (by simp [z])⟩
  refine { type := fun s ok => ⟨_, ok.1, rfl⟩, notDict := by decide, keep := ?keep, there := ?there, sub := ?sub, noKeys := ?nk, iter := ?iter }
  case keep =>
    rintro h h' ⟨f1, f2, ⟨x, y, f3⟩, f4, f5, f6, f7⟩ hk
    exact ⟨hk _ _ f1, hk _ _ f2, ⟨x, y, hk _ _ f3⟩, f4.at fun u q => hk _ u q, f5.at fun u q => hk _ u q, f6.at fun u q => hk _ u q, f7.at fun u q => hk _ u q⟩
  case there =>
    rintro h ⟨f1, f2, ⟨x, y, f3⟩, ⟨o4, f4, _⟩, ⟨o5, f5, _⟩, ⟨o6, f6, _⟩, ⟨o7, f7, _⟩⟩ c hc
    have seven : c = Z ∨ c = N ∨ c = O ∨ c = a1 ∨ c = a2 ∨ c = u1 ∨ c = u2 := by simpa using hc
    rcases seven with rfl | rfl | rfl | rfl | rfl | rfl | rfl
    · exact ⟨_, f1⟩
    · exact ⟨_, f2⟩
    · exact ⟨_, f3⟩
    · exact ⟨o4, f4⟩
    · exact ⟨o5, f5⟩
    · exact ⟨o6, f6⟩
    · exact ⟨o7, f7⟩
  case sub =>
    intro c hc
    have four : c = Z ∨ c = O ∨ c = a1 ∨ c = a2 := by simpa using hc
    rcases four with rfl | rfl | rfl | rfl <;> simp
  case nk => exact fun A s Q E hA ok h => getAttrOr_miss_zip ok.1 rfl rfl rfl zip_no_keys (by decide +kernel) hA h
  case iter =>
    intro A s d Q E calm ok hd hdf fin
    obtain ⟨f1, f2, f3, f4, f5, f6, f7⟩ := ok
    have dn : d ≠ Z ∧ d ≠ N ∧ d ≠ O ∧ d ≠ a1 ∧ d ≠ a2 ∧ d ≠ u1 ∧ d ≠ u2 := by
      simpa using hdf
    obtain ⟨dZ, dN, dO, da1, da2, du1, du2⟩ := dn
    refine wpAny_pyIter_zip f1 ?_
    refine fin Z [Z, O, a1, a2] (fun k h => IsPair h N (.ref a1) (.ref a2) ∧ h.IsTupleIter a1 u1 k ∧ h.IsTupleIter a2 u2 k ∧ h.IsTuple u1 ps ∧ h.IsTuple u2 qs ∧
      ((IsZip h Z N O .none ∧ ∃ x y, IsPair h O x y) ∨ ∃ M b oM, IsZipHeld h Z N O M b ∧ h.get? M = some oM ∧ M ≠ Z ∧ M ≠ a1 ∧ M ≠ a2 ∧ M ≠ d)) s.heap s.toks ?src ⟨f2, f4, f5, f6, f7, .inl ⟨f1, f3⟩⟩ (fun _ _ q => q) fun c hc => .inl hc
    refine { off := fun z => ?_, frame := ?_, item := ?_, done := ?_ }
    · have four : d = Z ∨ d = O ∨ d = a1 ∨ d = a2 := by simpa using z
      rcases four with z | z | z | z
      · exact dZ z
      · exact dO z
      · exact da1 z
      · exact da2 z
    · rintro k h h' ⟨e1, e2, e3, e4, e5, e6⟩ hk
      refine ⟨hk _ _ (Ne.symm dN) e1, e2.at fun u q => hk _ u (Ne.symm da1) q, e3.at fun u q => hk _ u (Ne.symm da2) q, e4.at fun u q => hk _ u (Ne.symm du1) q, e5.at fun u q => hk _ u (Ne.symm du2) q, ?_⟩
      rcases e6 with ⟨e6, x, y, e7⟩ | ⟨M, b, oM, e6, e7, m1, m2, m3, m4⟩
      · exact .inl ⟨hk _ _ (Ne.symm dZ) e6, x, y, hk _ _ (Ne.symm dO) e7⟩
      · exact .inr ⟨M, b, oM, hk _ _ (Ne.symm dZ) e6, hk _ _ m4 e7, m1, m2, m3, m4⟩
    · rintro k s1 Q1 E1 lt ⟨e1, e2, e3, e4, e5, e6⟩ big out
      have lp : k < ps.size := Nat.lt_of_lt_of_le lt (Nat.min_le_left _ _)
      have lq : k < qs.size := Nat.lt_of_lt_of_le lt (Nat.min_le_right _ _)
      have gx : ps[k]? = some ps[k] := Array.getElem?_eq_getElem lp
      have gy : qs[k]? = some qs[k] := Array.getElem?_eq_getElem lq
      generalize ps[k] = x at gx
      generalize qs[k] = y at gy
      have new : ∀ {c u}, s1.heap.get? c = some u → s1.heap.objs.size ≠ c := fun e => Nat.ne_of_gt (Heap.lt_size e)
      have n1 : s1.heap.objs.size ≠ a1 := by
        obtain ⟨_, q, _⟩ := e2
        exact new q
      have n2 : s1.heap.objs.size ≠ a2 := by
        obtain ⟨_, q, _⟩ := e3
        exact new q
      rcases e6 with ⟨e6, x0, y0, e7⟩ | ⟨M, b, oM, e6, e7, m1, m2, m3, m4⟩
      · refine RZ.pyNext_zipT_item D e6 e1 e7 e2 e3 e4 e5 gx gy fun h9 z9 o9 i9 j9 t9 _ k9 => ?_
        exact out s1.heap.objs.size _ _ h9 s1.toks ⟨gx, gy⟩ (.inl ⟨_, t9, rfl, _, rfl⟩)
          ⟨k9 _ _ D.TIz D.TITO D.TIi1 D.TIi2 e1, i9, j9, e4.at fun u q => k9 _ u D.l1z D.l1TO D.l1i1 D.l1i2 q, e5.at fun u q => k9 _ u D.l2z D.l2TO D.l2i1 D.l2i2 q, .inr ⟨s1.heap.objs.size, false, _, z9, t9, new e6, n1, n2, Nat.ne_of_gt big⟩⟩
          fun c u hc q => k9 c u (inA hc).1 (inA hc).2.1 (inA hc).2.2.1 (inA hc).2.2.2 q
      · refine zpt_held D e6 e7 e1 e2 e3 e4 e5 gx gy fun h9 z9 i9 j9 t9 k9 => ?_
        exact out s1.heap.objs.size _ _ h9 s1.toks ⟨gx, gy⟩ (.inl ⟨_, t9, rfl, _, rfl⟩)
          ⟨k9 _ _ D.TIz D.TIi1 D.TIi2 e1, i9, j9, e4.at fun u q => k9 _ u D.l1z D.l1i1 D.l1i2 q, e5.at fun u q => k9 _ u D.l2z D.l2i1 D.l2i2 q, .inr ⟨M, true, oM, z9, k9 _ _ m1 m2 m3 e7, m1, m2, m3, m4⟩⟩
          fun c u hc q => k9 c u (inA hc).1 (inA hc).2.2.1 (inA hc).2.2.2 q
    · rintro s1 Q1 E1 ⟨e1, e2, e3, e4, e5, e6⟩ out
      have over : ps[min ps.size qs.size]? = none ∨ qs[min ps.size qs.size]? = none := by
        rcases Nat.le_total ps.size qs.size with h | h
        · exact .inl (Array.getElem?_eq_none (by rw [Nat.min_eq_left h]; exact Nat.le_refl _))
        · exact .inr (Array.getElem?_eq_none (by rw [Nat.min_eq_right h]; exact Nat.le_refl _))
      rcases e6 with ⟨e6, x0, y0, e7⟩ | ⟨M, b, oM, e6, e7, m1, m2, m3, m4⟩
      · exact RZ.pyNext_zipT_end calm D e6 e1 e7 e2 e3 e4 e5 over fun h9 k9 => out h9 s1.toks fun c u hc q => k9 c u (inA hc).1 (inA hc).2.1 (inA hc).2.2.1 (inA hc).2.2.2 q
      · exact zpt_stop calm D e6 e7 e1 e2 e3 e4 e5 over fun h9 k9 => out h9 s1.toks fun c u hc q => k9 c u (inA hc).1 (inA hc).2.2.1 (inA hc).2.2.2 q
theorem zip_kv : ∀ {ks : List Key} {ys : List V} {us : List Value}, Vals ys us → KV (ks.zip ys) (ks.zip us)
  | [], _, _, _ => .nil
  | _ :: _, _, _, .nil => .nil
  | _ :: _, _, _, .cons a t => .cons ⟨rfl, a⟩ (zip_kv t)
theorem vals_at : ∀ {xs : List V} {us : List Value} {i : Nat} {u : Value}, Vals xs us → us[i]? = some u → ∃ x, xs[i]? = some x ∧ RelV x u
  | _, _, i, _, .nil, h => by simp at h
  | _, _, 0, _, .cons a t, h => by
    cases h
    exact ⟨_, rfl, a⟩
  | _, _, i + 1, u, .cons a t, h => vals_at (i := i) t (by simpa using h)
/-- dict(zip(t, u)) -/
def tDZpT (K : PySem.W.Frag) (ta : TA) : TE := fun σ H Q => ta σ H fun vs H1 => ∃ (a b : Addr) (ks : List Key) (ys : List V), vs = [.ref a, .ref b] ∧ SqT K H1 a (ks.map kV) ∧ SqT K H1 b ys ∧ ∀ p, H1 p = none → Q (.ref p) (upd H1 p (.dK (mergeK [] (ks.zip ys))))
theorem pe_dZpT {X : Cx} {e e' : Expr} {ta : TA} {p1 p2 c1 c2 : Pos} (calm : X.calm = true) (gd : Gl X "dict") (md : X.mg "dict" = none) (gz : Gl X "zip") (mz : X.mg "zip" = none) (ha : PA X [e, e'] ta)
    (hs : starEach [e, e'] X.env = (false, eval e X.env) :: starEach [e'] X.env := by rfl) (hp : (backTo c1 (starEach [e'] X.env)).any (·.1) = false := by rfl)
    (hs2 : starEach [Expr.Call (.Name "zip" p1) [e, e'] [] c1] X.env = [(false, eval (.Call (.Name "zip" p1) [e, e'] [] c1) X.env)] := by rfl) :
    PE X (.Call (.Name "dict" p2) [.Call (.Name "zip" p1) [e, e'] [] c1] [] c2) (tDZpT X.K ta) := by
  constructor
  intro pins s σ H Q I h
  refine Call_ (ld_blt I gd md (show bootBuiltins "dict" = some (.type "dict") by decide +kernel) (PyProof.Rows.callWith_type1 ?_ hs2 rfl))
  rw [hs2]
  refine Calls.spliced_cons ?_
  refine Call_ (ld_blt I gz mz PyProof.Rows.boot_zip (PyProof.Rows.callWith_type1 (thn (ha.run c1 pins s σ H _ I h) ?_) hs hp))
  rintro us s1 ⟨vs, H1, I1, r1, a, b, ks, ys, rfl, hqa, hqb, q⟩
  cases r1 with
  | cons ra rr =>
    cases rr with
    | cons rb rr =>
      cases rr
      cases ra
      cases rb
      obtain ⟨its, rv, pt, hz⟩ := I1.tuple hqa
      obtain ⟨its2, rv2, pt2, _⟩ := I1.tuple hqb
      have al : a < s1.heap.objs.size := by
        obtain ⟨_, g, _⟩ := id pt
        exact Heap.lt_size g
      have bl : b < s1.heap.objs.size := by
        obtain ⟨_, g, _⟩ := id pt2
        exact Heap.lt_size g
      refine RZ.call_zipT (show s1.heap.IsTuple a its.toArray from pt) (show s1.heap.IsTuple b its2.toArray from pt2) fun h2 z2 n2 o2 i2 j2 sz k2 => ?_
      refine Calls.spliced_nil ?_
      have P := pairs_zpt (prog := X.prog) (w := X.w) (s1.heap.objs.size + 4) (s1.heap.objs.size + 2) (s1.heap.objs.size + 3) s1.heap.objs.size (s1.heap.objs.size + 1) a b (PySem.W.ktu_apart s1.heap.objs.size a b al bl) its.toArray its2.toArray
      refine PySem.call_dict_pairs (knd := mixKind X.prog X.w) (kvs := ks.zip its2) P (I1.ok.hd calm) ⟨z2, n2, ⟨_, _, o2⟩, i2, j2, (id pt : s1.heap.IsTuple a its.toArray).at fun o g => k2 _ _ g, (id pt2 : s1.heap.IsTuple b its2.toArray).at fun o g => k2 _ _ g⟩ ⟨?_, ?_⟩ ?_ fun h3 tk dd k3 => ?_
      · have lx := rv.length
        rw [List.length_map] at lx
        simp [lx]
      · rintro i key v ⟨hk, hv⟩
        obtain ⟨x, hx, rx⟩ := vals_at rv (show its[i]? = some key by simpa using hk)
        rw [List.getElem?_map] at hx
        obtain ⟨k, hk', rfl⟩ := Option.map_eq_some_iff.mp hx
        refine ⟨k, ?_, kV_is (P := X.prog) (w := X.w) rx⟩
        rw [List.getElem?_zip_eq_some]
        exact ⟨hk', by simpa using hv⟩
      · have lx := rv.length
        rw [List.length_map] at lx hz
        simp
        omega
      · have le2 : s1.heap.objs.size ≤ h2.objs.size := by omega
        have keep : ∀ c o, s1.heap.get? c = some o → h3.get? c = some o := fun c o g => by
          have cl := Heap.lt_size g
          refine k3 c o (fun z => ?_) (k2 c o g)
          have four : c = s1.heap.objs.size + 4 ∨ c = s1.heap.objs.size + 3 ∨ c = s1.heap.objs.size ∨ c = s1.heap.objs.size + 1 := by simpa using z
          rcases four with z | z | z | z
          · rw [z] at cl
            exact absurd (show s1.heap.objs.size + 4 < s1.heap.objs.size from cl) (by omega)
          · rw [z] at cl
            exact absurd (show s1.heap.objs.size + 3 < s1.heap.objs.size from cl) (by omega)
          · rw [z] at cl
            exact Nat.lt_irrefl _ cl
          · rw [z] at cl
            exact absurd (show s1.heap.objs.size + 1 < s1.heap.objs.size from cl) (by omega)
        have hm : (h2.objs.size == sysModules) = false := beq_eq_false_iff_ne.mpr (Nat.ne_of_gt (Nat.lt_of_lt_of_le I1.big le2))
        have hlen : (mergeK [] (ks.zip ys)).length ≤ sizeLine := by
          refine Nat.le_trans (length_mergeK _ []) ?_
          rw [List.length_nil, Nat.zero_add, List.length_zip]
          have hz' : ks.length ≤ sizeLine := by simpa using hz
          exact Nat.le_trans (Nat.min_le_left _ _) hz'
        exact ⟨.ref h2.objs.size, upd H1 h2.objs.size (.dK (mergeK [] (ks.zip ys))), I1.laid (t' := tk) keep le2 (show ObjOk X.prog X.w _ _ _ (.dK (mergeK [] (ks.zip ys))) from ⟨hlen, hm, merged [] (ks.zip its2), KV.merge (zip_kv rv2) .nil, dd⟩), rfl, q _ (I1.hok.fresh le2)⟩
end SfG
namespace SfM
open PySem PySem.Spec PyProof.Rows L2 SfG SfC
/-! ### _law_fields, _law_is_shape -/
theorem scFields : FnScope ["_law_face_here", "_law_shapes", "_law_kind_here"] ["_law_face_here", "_law_shapes", "_law_kind_here"] (defScope sFields) := ⟨rfl, rfl, rfl, by decide +kernel, rfl, by decide +kernel, by decide +kernel⟩
theorem mrg_off : ∀ (more acc : List (Key × V)) (j : Key), (∀ kv ∈ more, kv.1 ≠ j) → valV (mergeK acc more) j = valV acc j
  | [], _, _, _ => rfl
  | kv :: r, acc, j, h => by
    show valV (mergeK (putK acc kv.1 kv.2) r) j = _
    rw [mrg_off r _ j fun x hx => h x (.tail _ hx), valV_put, if_neg (Ne.symm (h kv (.head _)))]
theorem zip_key {hd : List Str} {xs : List V} {kv : Key × V} (h : kv ∈ (hd.map Sum.inr).zip xs) : ∃ s ∈ hd, kv.1 = Sum.inr s := by
  obtain ⟨a, b⟩ := kv
  have := (List.of_mem_zip h).1
  obtain ⟨s, hs, e⟩ := List.mem_map.mp this
  exact ⟨s, hs, e.symm⟩
theorem val_zip : ∀ (hd : List Str) (xs : List V) (acc : List (Key × V)) (j : Nat) (s : Str) (x : V), hd.Pairwise lt → hd[j]? = some s → xs[j]? = some x → valV (mergeK acc ((hd.map Sum.inr).zip xs)) (Sum.inr s) = some x
  | [], _, _, j, _, _, _, h, _ => by simp at h
  | _ :: _, [], _, j, _, _, _, _, h => by simp at h
  | a :: r, y :: t, acc, 0, s, x, up, h1, h2 => by
    cases h1
    cases h2
    show valV (mergeK (putK acc (Sum.inr a) y) ((r.map Sum.inr).zip t)) _ = _
    rw [mrg_off _ _ _ fun kv hkv e => ?_, valV_put, if_pos rfl]
    obtain ⟨z, hz, e2⟩ := zip_key hkv
    rw [e2] at e
    have : z = a := Sum.inr.inj e
    have l := (List.pairwise_cons.mp up).1 z hz
    rw [this] at l
    exact List.lt_irrefl _ l
  | a :: r, y :: t, acc, j + 1, s, x, up, h1, h2 => val_zip r t _ j s x (List.pairwise_cons.mp up).2 (by simpa using h1) (by simpa using h2)
theorem val_num0 (hd : List Str) (xs : List V) (n : Int) : valV (mergeK [] ((hd.map Sum.inr).zip xs)) (Sum.inl n) = none := by
  rw [mrg_off _ _ _ fun kv hkv e => ?_]
  · rfl
  · obtain ⟨z, hz, e2⟩ := zip_key hkv
    rw [e2] at e
    cases e
theorem kV_strs (hd : List Str) : (hd.map (Sum.inr : Str → Key)).map L2.kV = hd.map V.str := by rw [List.map_map]; rfl
section
variable {P : Program} {w : World} {K : PySem.W.Frag} {mg : Str → Option Value} {base : Heap}
def spFields (K : PySem.W.Frag) : Sp := fun vs H Q _ => ∃ (x y : V) (f : Fc) (ss : List PyData) (k : Kn), vs = [x, y, k.v] ∧ Dp K H x f.d ∧ goF f ∧ Dp K H y (.tuple ss) ∧ ss.length = f.hd.length ∧ (∀ d ∈ ss, ∃ es, d = .tuple es) ∧ goK f.hd k ∧
  ∀ H', Gr H H' → Q (.int ((cntK f.hd (ss.map lenD) k : Nat) : Int)) H'
theorem ok_fields {f : Addr} {fd : FuncData} {k : Nat} (F : Fun K "_law_fields" "_law_fields" sFields f fd) (ml : mg "len" = none) (md : mg "dict" = none) (mz : mg "zip" = none) :
    FnOk P w K mg base CX0 (k + 1) f fd ["_law_face_here", "_law_shapes", "_law_kind_here"] (spFields K) := by
  refine F.ok scFields (fun vs H Q E h => ?_) (fun cdv A outer s H vs Q E hr h => ?_)
  · obtain ⟨x, y, f, ss, k, rfl, _⟩ := h
    rfl
  · obtain ⟨x, y, f, ss, k, rfl, hx, go, hy, hl, ht, gk, q⟩ := h
    refine ⟨_, pss_one (ps_ret (pe_callB call_len_seq (by rfl) ml PySem.boot_len (pa_cons (pe_dget2 (hu_of hr) (pe_dZpT rfl (by rfl) md (by rfl) mz (pa_cons (pe_ix ix_tup (pv 0) pe_int (fun _ _ => rfl)) (pa_cons (pv 1) pa_nil))) (pv 2) (pe_tup (pa_cons pe_int pa_nil)) ⟨rfl, rfl, rfl, rfl⟩) pa_nil))), ?_⟩
    obtain ⟨p, vh, vd, rfl, hp, dh, dd⟩ := dp_2 hx
    obtain ⟨ph, hs, rfl, hph, hhs⟩ := dp_tup dh
    cases SfC.dpA_strs hhs
    obtain ⟨py, ys, rfl, hpy, hys⟩ := dp_tup hy
    have ly := dpA_len hys
    refine ⟨_, rfl, p, _, 0, .ref ph, rfl, rfl, hp, rfl, _, rfl, ph, py, f.hd.map Sum.inr, ys, rfl, by rw [kV_strs]; exact hph, hpy, fun D nD => ?_⟩
    have g1 : Gr H (upd H D (.dK (mergeK [] ((f.hd.map Sum.inr).zip ys)))) := Gr.new nD
    have e1 : upd H D (.dK (mergeK [] ((f.hd.map Sum.inr).zip ys))) D = some (.dK (mergeK [] ((f.hd.map Sum.inr).zip ys))) := upd_same
    generalize upd H D (.dK (mergeK [] ((f.hd.map Sum.inr).zip ys))) = H1 at g1 e1 ⊢
    refine ⟨D, rfl, .inl ⟨_, .inl e1⟩, _, rfl, by show 1 ≤ sizeLine; decide, fun t nt => ?_⟩
    have g2 : Gr H1 (upd H1 t (.tup [.int 0])) := Gr.new nt
    have e2 : upd H1 t (.tup [.int 0]) t = some (.tup [.int 0]) := upd_same
    generalize upd H1 t (.tup [.int 0]) = H2 at g2 e2 ⊢
    refine ⟨_, kn_key k ▸ DGet.k (k := kkey k) (g2.dic e1), ?_⟩
    have g := g1.trans g2
    cases k with
    | p n =>
      rw [show kkey (.p n) = Sum.inl n from rfl, val_num0]
      exact ⟨t, _, rfl, .inr (.inl (.inl e2)), q H2 g⟩
    | h s =>
      have hk' : s ∈ f.hd := gk
      have h1 := pos_at hk'
      have li : posS f.hd s < f.hd.length := (List.getElem?_eq_some_iff.mp h1).1
      have h2 : ys[posS f.hd s]? = some (ys[posS f.hd s]'(by omega)) := List.getElem?_eq_getElem _
      generalize ys[posS f.hd s]'(by omega) = y at h2
      obtain ⟨d, hd, dy⟩ := dpA_at hys h2
      obtain ⟨es, rfl⟩ := ht d (List.mem_of_getElem? hd)
      obtain ⟨pe, ws, rfl, hpe, hws⟩ := dp_tup dy
      rw [show kkey (.h s) = Sum.inr s from rfl, val_zip _ _ _ _ _ _ go.hid.up h1 h2]
      refine ⟨pe, ws, rfl, .inr (g.sqt hpe), ?_⟩
      have e : cntK f.hd (ss.map lenD) (.h s) = ws.length := by
        show (ss.map lenD).getD (posS f.hd s) 1 = _
        rw [List.getD_eq_getElem?_getD, List.getElem?_map, hd, dpA_len hws]
        rfl
      rw [← e]
      exact q H2 g
end
end SfM
namespace SfM
open PySem PySem.Spec PyProof.Rows L2 SfG SfC
/-! ### _law_is_shape -/
abbrev nLIsS : List Str := ["_law_thing", "_law_one", "_law_first", "_law_second", "_law_third"]
theorem scLIsS : FnScope nLIsS ["_law_thing"] (defScope sLIsS) := ⟨rfl, rfl, rfl, by decide +kernel, rfl, by decide +kernel, by decide +kernel⟩
theorem shpL_no : ∀ {ds : List PyData} {p : Int}, ds.all (fun d => amg d 2 9) = false → shpL ds p = none
  | d :: r, p, h => by
    rw [shpL]
    by_cases c : amg d 2 9 = true
    · rw [if_pos c]
      rw [List.all_cons, c, Bool.true_and] at h
      exact shpL_no h
    · rw [if_neg c]
theorem amg_29 {d : PyData} (h : amg d 2 9 = true) : ∃ i, d = .int i ∧ 2 ≤ i ∧ i ≤ 9 := by
  cases d with
  | int i =>
    have h' : (decide (2 ≤ i) && decide (i ≤ 9)) = true := h
    rw [Bool.and_eq_true] at h'
    exact ⟨i, rfl, of_decide_eq_true h'.1, of_decide_eq_true h'.2⟩
  | _ => cases h
/-- one to three good bounds: what they come to, and how they are drawn out -/
theorem three_29 {ds : List PyData} (h : ds.all (fun d => amg d 2 9) = true) (h1 : 1 ≤ ds.length) (h3 : ds.length ≤ 3) :
    ∃ a b c : Int, SfG.cutD (ds ++ [.int 1, .int 1]) none (some 3) = [.int a, .int b, .int c] ∧ shpL ds 1 = some (a * b * c) ∧ (0 ≤ a ∧ a ≤ 9) ∧ (0 ≤ b ∧ b ≤ 9) ∧ (0 ≤ c ∧ c ≤ 9) := by
  match ds, h, h1, h3 with
  | [x], h, _, _ =>
    rw [List.all_cons, List.all_nil, Bool.and_true] at h
    obtain ⟨a, rfl, a1, a2⟩ := amg_29 h
    refine ⟨a, 1, 1, rfl, ?_, by omega, by omega, by omega⟩
    rw [shpL, if_pos h, shpL]
    show some (1 * a) = some (a * 1 * 1)
    rw [Int.one_mul, Int.mul_one, Int.mul_one]
  | [x, y], h, _, _ =>
    rw [List.all_cons, List.all_cons, List.all_nil, Bool.and_true, Bool.and_eq_true] at h
    obtain ⟨a, rfl, a1, a2⟩ := amg_29 h.1
    obtain ⟨b, rfl, b1, b2⟩ := amg_29 h.2
    refine ⟨a, b, 1, rfl, ?_, by omega, by omega, by omega⟩
    rw [shpL, if_pos h.1, shpL, if_pos h.2, shpL]
    show some (1 * a * b) = some (a * b * 1)
    rw [Int.one_mul, Int.mul_one]
  | [x, y, z], h, _, _ =>
    rw [List.all_cons, List.all_cons, List.all_cons, List.all_nil, Bool.and_true, Bool.and_eq_true, Bool.and_eq_true] at h
    obtain ⟨a, rfl, a1, a2⟩ := amg_29 h.1
    obtain ⟨b, rfl, b1, b2⟩ := amg_29 h.2.1
    obtain ⟨c, rfl, c1, c2⟩ := amg_29 h.2.2
    refine ⟨a, b, c, rfl, ?_, by omega, by omega, by omega⟩
    rw [shpL, if_pos h.1, shpL, if_pos h.2.1, shpL, if_pos h.2.2, shpL]
    show some (1 * a * b * c) = some (a * b * c)
    rw [Int.one_mul]
section
variable {P : Program} {w : World} {K : PySem.W.Frag} {mg : Str → Option Value} {base : Heap}
def spLIsS (K : PySem.W.Frag) : Sp := fun vs H Q _ => ∃ (x : V) (d : PyData), vs = [x] ∧ Dp K H x d ∧ ∀ H', Gr H H' → Q (.bl (shpB d)) H'
set_option maxHeartbeats 2000000 in
theorem ok_lIsS {f fA : Addr} {fd fdA : FuncData} {k : Nat} (F : Fun K "_law_is_shape" "_law_is_shape" sLIsS f fd) (HA : Has P w K mg base k "_law_among" ["_law_thing", "_law_least", "_law_most"] (spAmg K) fA fdA) (mi : mg "isinstance" = none) (mt : mg "tuple" = none) (ml : mg "len" = none) (ma : mg "all" = none) :
    FnOk P w K mg base CX0 (k + 1) f fd ["_law_thing"] (spLIsS K) := by
  refine F.ok scLIsS (fun vs H Q E h => ?_) (fun cdv A outer s H vs Q E hr h => ?_)
  · obtain ⟨x, d, rfl, _⟩ := h
    rfl
  · obtain ⟨x, d, rfl, hx, q⟩ := h
    have nd := scLIsS.nd
    refine' ⟨_, pss_cons ?s1 (pss_cons ?s2 (pss_one ?s3)), ?rd⟩
    case s1 =>
      exact ps_if (PW.pt (pw_or (pt_not (pt_val (pe_isi "tuple" 0 mi mt (by decide +kernel)))) (pw_or (pt_not (pt_chain op_lt op_lt pe_int (pe_callB call_len_seq (by rfl) ml PySem.boot_len (pa_cons (pv 0) pa_nil)) pe_int))
        (pw_or1 (pt_not (pt_val (pe_callB (cr_all rfl) (by rfl) ma (by decide +kernel) (pa_cons (pe_lc (own := [("_law_one", 1)]) (g := gName 1) rfl nd (pi_tup (pv 0)) (blkOk_by (own := [("_law_one", 1)]) (N := nLIsS) (sc := defScope sLIsS) (by decide +kernel))
          (fun _ _ _ _ _ => pg_name (i := 1) nd rfl (Or.inl rfl)) (fun _ _ _ _ _ => pts_nil) (fun _ _ _ _ _ => hcall HA hr (pa_cons (pv 1) (pa_cons pe_int (pa_cons pe_int pa_nil))))) pa_nil)))))))) (pss_one (ps_ret pe_bl)) pss_nil
    case s2 =>
      exact ps_asg (pe_slice sl_tupD (pe_op op_catD (pv 0) (pe_tup (pa_cons pe_int (pa_cons pe_int pa_nil)))) po_none (po_some pe_int)) (pg_tup rfl (pgs_cons (pg_name (i := 2) nd rfl (.inl rfl)) (pgs_cons (pg_name (i := 3) nd rfl (.inl rfl)) (pgs_cons (pg_name (i := 4) nd rfl (.inl rfl)) pgs_nil))))
    case s3 => exact ps_ret (pe_cmpR op_lt (pe_op op_mul (pe_op op_mul (pv 2) (pv 3)) (pv 4)) pe_int (nomark _))
    case rd =>
    have hI := dp_is hx
    refine ⟨_, rfl, _, _, hI.1, kit_tuple _ hI.2, _, rfl, ?_⟩
    rcases tup_is d with ht | ⟨ds, rfl⟩
    · rw [ht]
      have e := shpB_no ht
      rw [e] at q
      exact iteT (q H (Gr.refl H))
    obtain ⟨p, xs, rfl, hp, hxs⟩ := dp_tup hx
    have lx := dpA_len hxs
    refine iteF ⟨_, rfl, p, _, rfl, .inr hp, 0, _, rfl, rfl, _, rfl, ?_⟩
    have eB := shpB_t ds
    by_cases c1 : 1 ≤ ds.length
    case neg =>
      rw [decide_eq_false (show ¬ (0 : Int) < (xs.length : Int) by omega)]
      refine iteF ⟨_, rfl, iteT ?_⟩
      have := q H (Gr.refl H)
      rw [eB, decide_eq_false c1, Bool.false_and] at this
      exact this
    rw [decide_eq_true (show (0 : Int) < (xs.length : Int) by omega)]
    refine iteT ⟨_, 4, rfl, rfl, _, rfl, ?_⟩
    by_cases c3 : ds.length ≤ 3
    case neg =>
      rw [decide_eq_false (show ¬ (xs.length : Int) < 4 by omega)]
      refine iteT ?_
      have := q H (Gr.refl H)
      rw [eB, decide_eq_false c3, Bool.false_and, Bool.and_false] at this
      exact this
    rw [decide_eq_true (show (xs.length : Int) < 4 by omega)]
    rw [decide_eq_true c1, decide_eq_true c3, Bool.true_and, Bool.true_and] at eB
    refine iteF ⟨_, rfl, p, rfl, ⟨_, hp⟩, fun D nD => ?_⟩
    refine lc_it (walk_tup (xs := xs)) (fun i S => S D = some (.lst ((ds.take i).map fun d => V.bl (amg d 2 9))) ∧ Gr H S) ⟨upd_same, Gr.new nD⟩ ?h0 ?h1 ?h2
    case h0 =>
      rintro i S hi ⟨_, g⟩
      exact g.sqt hp
    case h1 =>
      rintro i y S' S hi ⟨e, g⟩ ⟨rfl, hy⟩
      obtain ⟨d, hd, dy⟩ := dpA_at hxs hy
      refine ⟨rfl, tYes_i (iteT ?_)⟩
      refine ⟨_, rfl, y, d, 2, 9, rfl, g.kd.dp dy, ?_⟩
      refine ⟨_, e, ?_, upd_same.trans ?_, g.upd_new nD⟩
      · rw [List.length_map, List.length_take]
        exact SfC.small1000 (by omega)
      · rw [List.take_add_one, hd, List.map_append]
        rfl
    case h2 =>
    rintro S ⟨e, g⟩
    rw [lx, List.take_length] at e
    refine ⟨D, ds.map (fun d => amg d 2 9), rfl, .inl (.inl (by rw [List.map_map]; exact e)), _, rfl, ?_⟩
    have ea : (ds.map fun d => amg d 2 9).all id = ds.all fun d => amg d 2 9 := by rw [List.all_map]; rfl
    rw [ea]
    cases hall : ds.all (fun d => amg d 2 9) with
    | false =>
      rw [shpL_no hall] at eB
      refine iteT ?_
      have := q S g
      rw [eB] at this
      exact this
    | true =>
    obtain ⟨a, b, c, e1, e2, ha, hb, hc⟩ := three_29 hall c1 c3
    rw [e2] at eB
    refine iteF ?_
    refine ⟨_, rfl, by show 2 ≤ sizeLine; decide, fun t nt => ?_⟩
    have g2 : Gr S (upd S t (.tup [.int 1, .int 1])) := Gr.new nt
    have h2 : Dp K (upd S t (.tup [.int 1, .int 1])) (.ref t) (.tuple [.int 1, .int 1]) := .tup (.inl (.inl upd_same)) (.cons (.int _) (.cons (.int _) .nil))
    generalize upd S t (.tup [.int 1, .int 1]) = S2 at g2 h2 ⊢
    refine ⟨ds, [.int 1, .int 1], (g.trans g2).kd.dp hx, h2, ?_, fun v S3 g3 hv => ?_⟩
    · rw [sizeLine_eq]
      show ds.length + 2 ≤ _
      omega
    refine ⟨3, rfl, ds ++ [.int 1, .int 1], hv, fun v2 S4 g4 hv2 => ?_⟩
    rw [e1] at hv2
    obtain ⟨pp, x1, x2, x3, rfl, hpp, d1, d2, d3⟩ := dp_3 hv2
    cases dp_int d1
    cases dp_int d2
    cases dp_int d3
    refine ⟨pp, _, rfl, hpp, rfl, _, _, rfl, _, _, rfl, _, _, rfl, rfl, ?_⟩
    have ab : 0 ≤ a * b ∧ a * b ≤ 81 := by
      refine ⟨Int.mul_nonneg ha.1 hb.1, ?_⟩
      have := Int.mul_le_mul ha.2 hb.2 hb.1 (by decide)
      omega
    refine ⟨_, rfl, _, rfl, a, b, rfl, rfl, cmul_small hb.1 (by omega), _, rfl, _, c, rfl, rfl, cmul_small hc.1 (by omega), _, 17, rfl, rfl, ?_⟩
    have := q S4 (((g.trans g2).trans g3).trans g4)
    rw [eB] at this
    have e : decide (a * b * c < 17) = decide (a * b * c ≤ 16) := by
      by_cases h : a * b * c ≤ 16
      · rw [decide_eq_true h, decide_eq_true (by omega)]
      · rw [decide_eq_false h, decide_eq_false (by omega)]
    show Q (.bl (decide (a * b * c < 17))) S4
    rw [e]
    exact this
end
end SfM
namespace SfM
open PySem PySem.Spec PyProof.Rows L2 SfG SfC
/-! ### _law_due: what the law's own look has -/
abbrev nDue : List Str := ["_law_face_here", "_law_thing", "_law_part", "_law_own", "_law_many", "_law_number", "_law_shape_here", "_law_body_here", "_law_name", "_law_takes", "_law_gives", "_law_counts", "_law_kind_here", "_law_sized"]
theorem scDue : FnScope nDue ["_law_face_here", "_law_thing"] (defScope sDue) := ⟨rfl, rfl, rfl, by decide +kernel, rfl, by decide +kernel, by decide +kernel⟩
theorem shs_all : ∀ {ss : List PyData} {i : Nat}, shsL ss i = none → ∀ d ∈ ss, shpB d = true
  | a :: r, i, h, d, hd => by
    rw [shsL] at h
    by_cases c : shpB a = true
    · rw [if_pos c] at h
      rcases List.mem_cons.mp hd with rfl | hd
      · exact c
      · exact shs_all h d hd
    · rw [if_neg c] at h
      cases h
theorem shp_len {d : PyData} (h : shpB d = true) : 1 ≤ lenD d := by
  obtain ⟨es, rfl⟩ := shp_tup h
  rw [shpB_t, Bool.and_eq_true] at h
  exact of_decide_eq_true h.1
theorem cnt_pos {hd : List Str} {ss : List PyData} (h : ∀ d ∈ ss, shpB d = true) (k : Kn) : 1 ≤ cntK hd (ss.map lenD) k := by
  cases k with
  | p _ => exact Nat.le_refl 1
  | h s =>
    show 1 ≤ (ss.map lenD).getD (posS hd s) 1
    rw [List.getD_eq_getElem?_getD]
    cases hg : (ss.map lenD)[posS hd s]? with
    | none => exact Nat.le_refl 1
    | some n =>
      rw [List.getElem?_map] at hg
      obtain ⟨d, hd, rfl⟩ := Option.map_eq_some_iff.mp hg
      exact shp_len (h d (List.mem_of_getElem? hd))
theorem wt_in {ds : List PyData} {d : PyData} (h : d ∈ ds) : wt d ≤ wt (.tuple ds) := by
  have h1 := wtA_mem h
  have h2 := (es_bnd (d := .tuple ds)).1
  exact Nat.le_trans h1 h2
theorem dep_in {ds : List PyData} {d : PyData} (h : d ∈ ds) : d.depth < (PyData.tuple ds).depth := (es_bnd (d := .tuple ds)).2 d h
/-- what is told of a fault -/
def DueV (H : Hp) (v : V) : Option (Option Str × Option Nat) → Prop
  | none => v = .non
  | some (a, b) => ∃ t, v = .ref t ∧ H t = some (.tup [ovS a, ovN b])
theorem cD_dp {K : PySem.W.Frag} {H : Hp} : ∀ cs : List Nat, DpAll K H (cs.map fun c : Nat => V.int (c : Nat)) (cs.map fun (c : Nat) => PyData.int (c : Int))
  | [] => .nil
  | _ :: r => .cons (.int _) (cD_dp r)
section
variable {P : Program} {w : World} {K : PySem.W.Frag} {mg : Str → Option Value} {base : Heap}
def spDue (K : PySem.W.Frag) : Sp := fun vs H Q _ => ∃ (x y : V) (f : Fc) (d : PyData), vs = [x, y] ∧ Dp K H x f.d ∧ goF f ∧ Mx K H y d ∧ d.depth < 30 ∧ wt d ≤ 9000000 ∧ ∀ H' v, Gr H H' → DueV H' v (mfl f d) → Q v H'
set_option maxHeartbeats 8000000 in
theorem ok_due {f fS fF fL : Addr} {fd fdS fdF fdL : FuncData} {k : Nat} (F : Fun K "_law_due" "_law_due" sDue f fd) (HS : Has P w K mg base k "_law_is_shape" ["_law_thing"] (spLIsS K) fS fdS)
    (HF : Has P w K mg base k "_law_fields" ["_law_face_here", "_law_shapes", "_law_kind_here"] (spFields K) fF fdF) (HL : Has P w K mg base k "_law_looked" ["_law_thing", "_law_counts", "_law_many"] (spLk K 30) fL fdL)
    (mi : mg "isinstance" = none) (mt : mg "tuple" = none) (ml : mg "len" = none) (me : mg "enumerate" = none) :
    FnOk P w K mg base CX0 (k + 1) f fd ["_law_face_here", "_law_thing"] (spDue K) := by
  refine F.ok scDue (fun vs H Q E h => ?_) (fun cdv A outer s H vs Q E hr h => ?_)
  · obtain ⟨x, y, f, d, rfl, _⟩ := h
    rfl
  · obtain ⟨x, y, f, d, rfl, hx, go, hy, hdd, hww, q⟩ := h
    have qn : mfl f d = none → ∀ H', Gr H H' → Q .non H' := fun e H' g => q H' .non g (by rw [e]; rfl)
    have qs : ∀ a b, mfl f d = some (a, b) → ∀ H' t, Gr H H' → H' t = some (.tup [ovS a, ovN b]) → Q (.ref t) H' := fun a b e H' t g ht => q H' _ g (by rw [e]; exact ⟨t, rfl, ht⟩)
    clear q
    have nd := scDue.nd
    refine' ⟨_, pss_cons ?s1 (pss_cons ?s2 (pss_cons ?s3 (pss_cons ?s4 (pss_one ?s5)))), ?rd⟩
    case s1 => exact ps_if (PW.pt (pw_or (pt_not (pt_val (pe_isi "tuple" 1 mi mt (by decide +kernel)))) (pw_or1 (pt_cmpR op_ne (pe_callB call_len_seq (by rfl) ml PySem.boot_len (pa_cons (pv 1) pa_nil)) pe_int (nomark _))))) (pss_one (ps_ret (pe_tup (pa_cons pe_non (pa_cons pe_non pa_nil))))) pss_nil
    case s2 =>
      exact ps_for PassesOwn.never rfl (pi_tup (pe_tup (pa_cons (pe_tup (pa_cons pe_str (pa_cons (pe_ix ix_tup (pv 1) pe_int (fun _ _ => rfl)) (pa_cons (pe_callB call_len_seq (by rfl) ml PySem.boot_len (pa_cons (pe_ix ix_tup (pv 0) pe_int (fun _ _ => rfl)) pa_nil)) pa_nil))))
          (pa_cons (pe_tup (pa_cons pe_str (pa_cons (pe_ix ix_tup (pv 1) pe_int (fun _ _ => rfl)) (pa_cons (pe_callB call_len_seq (by rfl) ml PySem.boot_len (pa_cons (pe_ix ix_tup (pv 0) pe_int (fun _ _ => rfl)) pa_nil)) pa_nil)))) pa_nil))))
        (pg_tup rfl (pgs_cons (pg_name (i := 2) nd rfl (.inl rfl)) (pgs_cons (pg_name (i := 3) nd rfl (.inl rfl)) (pgs_cons (pg_name (i := 4) nd rfl (.inl rfl)) pgs_nil))))
        (pss_one (ps_if (PW.pt (pw_or (pt_not (pt_val (pe_isi "tuple" 3 mi mt (by decide +kernel)))) (pw_or1 (pt_cmpR op_ne (pe_callB call_len_seq (by rfl) ml PySem.boot_len (pa_cons (pv 3) pa_nil)) (pv 4) (nomark _))))) (pss_one (ps_ret (pe_tup (pa_cons (pv 2) (pa_cons pe_non pa_nil))))) pss_nil))
    case s3 =>
      exact ps_for PassesOwn.never rfl (pi_enumT (by rfl) me (pa_cons (pe_ix ix_tup (pv 1) pe_int (fun _ _ => rfl)) pa_nil)) (pg_tup rfl (pgs_cons (pg_name (i := 5) nd rfl (.inl rfl)) (pgs_cons (pg_name (i := 6) nd rfl (.inl rfl)) pgs_nil)))
        (pss_one (ps_if (pt_not (pt_val (hcall HS hr (pa_cons (pv 6) pa_nil)))) (pss_one (ps_ret (pe_tup (pa_cons pe_str (pa_cons (pv 5) pa_nil))))) pss_nil))
    case s4 =>
      refine' ps_for PassesOwn.never rfl (pi_enumT (by rfl) me (pa_cons (pe_ix ix_tup (pv 1) pe_int (fun _ _ => rfl)) pa_nil)) (pg_tup rfl (pgs_cons (pg_name (i := 5) nd rfl (.inl rfl)) (pgs_cons (pg_name (i := 7) nd rfl (.inl rfl)) pgs_nil)))
        (pss_cons ?b1 (pss_cons ?b2 (pss_cons ?b3 (pss_one ?b4))))
      case b1 => exact ps_asg (pe_ix ix_tup (pe_ix ix_tup (pv 0) pe_int (fun _ _ => rfl)) (pv 5) (fun _ _ => rfl)) (pg_tup rfl (pgs_cons (pg_name (i := 8) nd rfl (.inl rfl)) (pgs_cons (pg_name (i := 9) nd rfl (.inl rfl)) (pgs_cons (pg_name (i := 10) nd rfl (.inl rfl)) pgs_nil))))
      case b2 =>
        exact ps_set (i := 11) nd rfl (.inl rfl) (pe_callTy call_tuple_of (by rfl) mt (by decide +kernel) (pa_cons (pe_lc (own := [("_law_kind_here", 12)]) (g := gName 12) rfl nd (pi_tup (pv 9)) (blkOk_by (own := [("_law_kind_here", 12)]) (N := nDue) (sc := defScope sDue) (by decide +kernel))
          (fun _ _ _ _ _ => pg_name (i := 12) nd rfl (Or.inl rfl)) (fun _ _ _ _ _ => pts_nil) (fun _ _ _ _ _ => hcall HF hr (pa_cons (pv 0) (pa_cons (pe_ix (r := rIxT K) ix_tup (pv 1) pe_int (fun _ _ => rfl)) (pa_cons (pv 12) pa_nil))))) pa_nil))
      case b3 => exact ps_set (i := 13) nd rfl (.inl rfl) (hcall HL hr (pa_cons (pv 7) (pa_cons (pv 11) (pa_cons (hcall HF hr (pa_cons (pv 0) (pa_cons (pe_ix ix_tup (pv 1) pe_int (fun _ _ => rfl)) (pa_cons (pv 10) pa_nil)))) pa_nil))))
      case b4 =>
        exact ps_if (PW.pt (pw_or (pt_cmpR op_isN (pv 13) pe_non (nomark _)) (pw_or (pt_cmpR op_gt (pe_ix ix_tup (pv 13) pe_int (fun _ _ => rfl)) pe_int (nomark _)) (pw_or1 (pt_cmpR op_gt (pe_ix ix_tup (pv 13) pe_int (fun _ _ => rfl)) pe_int (nomark _))))))
          (pss_one (ps_ret (pe_tup (pa_cons pe_str (pa_cons (pv 5) pa_nil))))) pss_nil
    case s5 => exact ps_ret pe_non
    case rd =>
    obtain ⟨p, vh, vd, rfl, hp, dh, dd⟩ := dp_2 hx
    obtain ⟨ph, hs, rfl, hph, hhs⟩ := dp_tup dh
    cases SfC.dpA_strs hhs
    obtain ⟨pd, fxs, rfl, hpd, dds⟩ := dp_tup dd
    have lf : fxs.length = f.ds.length := by
      have := dpA_len dds
      rw [List.length_map] at this
      exact this
    have hI := dx_is hy.1
    refine ⟨_, rfl, _, _, hI.1, kit_tuple _ hI.2, _, rfl, ?_⟩
    rcases tup_is d with ht | ⟨ds, rfl⟩
    · rw [ht]
      exact iteT ⟨by show 2 ≤ sizeLine; decide, fun t nt => qs none none (mfl_no ht) _ t (Gr.new nt) upd_same⟩
    have hyT := hy.2 ds rfl
    obtain ⟨py, ys, rfl, hpy, hys⟩ := dp_tup hyT
    have ly := dpA_len hys
    refine iteF ⟨_, rfl, py, _, rfl, .inr hpy, rfl, _, rfl, ?_⟩
    by_cases l2 : ds.length = 2
    case neg =>
      rw [decide_eq_false (fun z => l2 (by have := V.int.inj z; omega))]
      exact iteT ⟨by show 2 ≤ sizeLine; decide, fun t nt => qs none none (mfl_len l2) _ t (Gr.new nt) upd_same⟩
    rw [decide_eq_true (show V.int ((ys.length : Nat) : Int) = V.int 2 by rw [ly, l2]; rfl)]
    refine iteF ?_
    obtain ⟨da, db, rfl⟩ : ∃ a b, ds = [a, b] := by
      match ds, l2 with
      | [a, b], _ => exact ⟨a, b, rfl⟩
    obtain ⟨va, r1, rfl, hva, hr1⟩ := dpA_cons hys
    obtain ⟨vb, r2, rfl, hvb, hr2⟩ := dpA_cons hr1
    cases dpA_nil hr2
    have e0 : mfl f (.tuple [da, db]) = mfl2 f da db := rfl
    clear hr1 hr2 l2 ly
    have dpa : da.depth < 30 := by have := dep_in (ds := [da, db]) (d := da) (by simp); omega
    have dpb : db.depth < 30 := by have := dep_in (ds := [da, db]) (d := db) (by simp); omega
    have wtb : wt db ≤ 9000000 := by have := wt_in (ds := [da, db]) (d := db) (by simp); omega
    -- the two rows
    refine ⟨_, rfl, py, _, 0, va, rfl, rfl, hpy, rfl, _, rfl, p, _, 0, .ref ph, rfl, rfl, hp, rfl, ph, _, rfl, .inr hph, by show 3 ≤ sizeLine; decide, fun t1 n1 => ?_⟩
    rw [List.length_map]
    have g1 : Gr H (upd H t1 (.tup [.str "shapes", va, .int ((f.hd.length : Nat) : Int)])) := Gr.new n1
    have e1 : upd H t1 (.tup [.str "shapes", va, .int ((f.hd.length : Nat) : Int)]) t1 = some (.tup [.str "shapes", va, .int ((f.hd.length : Nat) : Int)]) := upd_same
    generalize upd H t1 (.tup [.str "shapes", va, .int ((f.hd.length : Nat) : Int)]) = H1 at g1 e1 ⊢
    refine ⟨_, rfl, py, _, 1, vb, rfl, rfl, g1.sqt hpy, rfl, _, rfl, p, _, 1, .ref pd, rfl, rfl, g1.sqt hp, rfl, pd, _, rfl, .inr (g1.sqt hpd), by show 3 ≤ sizeLine; decide, fun t2 n2 => ?_⟩
    rw [lf]
    have g2 : Gr H1 (upd H1 t2 (.tup [.str "bodies", vb, .int ((f.ds.length : Nat) : Int)])) := Gr.new n2
    have e2 : upd H1 t2 (.tup [.str "bodies", vb, .int ((f.ds.length : Nat) : Int)]) t2 = some (.tup [.str "bodies", vb, .int ((f.ds.length : Nat) : Int)]) := upd_same
    generalize upd H1 t2 (.tup [.str "bodies", vb, .int ((f.ds.length : Nat) : Int)]) = H2 at g2 e2 ⊢
    refine ⟨by show 2 ≤ sizeLine; decide, fun T nT => ?_⟩
    have g3 : Gr H2 (upd H2 T (.tup [.ref t1, .ref t2])) := Gr.new nT
    have e3 : upd H2 T (.tup [.ref t1, .ref t2]) T = some (.tup [.ref t1, .ref t2]) := upd_same
    generalize upd H2 T (.tup [.ref t1, .ref t2]) = H3 at g3 e3 ⊢
    have g03 := (g1.trans g2).trans g3
    refine ⟨T, rfl, ⟨_, .inl (.inl e3)⟩, ?_⟩
    refine for_it (walk_tup (xs := [V.ref t1, .ref t2])) (fun i σ S => ∃ y2 y3 y4 : Option V, σ = [some (.ref p), some (.ref py), y2, y3, y4, none, none, none, none, none, none, none, none, none] ∧ Gr H3 S ∧
      (1 ≤ i → ∃ ss, da = .tuple ss ∧ ss.length = f.hd.length) ∧ (2 ≤ i → ∃ bs, db = .tuple bs ∧ bs.length = f.ds.length)) ⟨_, _, _, rfl, Gr.refl _, fun h => absurd h (by decide), fun h => absurd h (by decide)⟩ ?a0 ?a1 ?a2
    case a0 =>
      rintro i σ S hi ⟨y2, y3, y4, rfl, g, _⟩
      exact g.sqt (.inl (.inl e3))
    case a1 =>
      rintro i y σ S' S hi ⟨y2, y3, y4, rfl, g, h1, h2⟩ ⟨rfl, hy⟩
      have g0 := g03.trans g
      match i, hi, hy with
      | 0, _, hy =>
        cases hy
        refine ⟨t1, _, rfl, .inl (.inl (g.tup (g3.tup (g2.tup e1)))), rfl, _, _, rfl, _, _, rfl, _, _, rfl, rfl, ?_⟩
        have hIa := dp_is (g0.kd.dp hva)
        refine ⟨_, rfl, _, _, hIa.1, kit_tuple _ hIa.2, _, rfl, ?_⟩
        rcases tup_is da with ht | ⟨ss, rfl⟩
        · rw [ht]
          exact iteT ⟨_, rfl, by show 2 ≤ sizeLine; decide, fun t nt => qs (some wSh) none (e0.trans (mfl2_no ht)) _ t (g0.trans (Gr.new nt)) upd_same⟩
        obtain ⟨pa, as, rfl, hpa, has⟩ := dp_tup hva
        have la := dpA_len has
        refine iteF ⟨_, rfl, pa, _, rfl, .inr (g0.sqt hpa), _, rfl, rfl, _, rfl, ?_⟩
        by_cases l : ss.length = f.hd.length
        · rw [decide_eq_true (show V.int ((as.length : Nat) : Int) = V.int ((f.hd.length : Nat) : Int) by rw [la, l])]
          exact iteF ⟨_, _, _, rfl, g, fun _ => ⟨ss, rfl, l⟩, fun h => absurd h (by decide)⟩
        · rw [decide_eq_false (fun z => l (by have := V.int.inj z; omega))]
          exact iteT ⟨_, rfl, by show 2 ≤ sizeLine; decide, fun t nt => qs (some wSh) none (e0.trans (if_neg l)) _ t (g0.trans (Gr.new nt)) upd_same⟩
      | 1, _, hy =>
        cases hy
        obtain ⟨ss, rfl, l⟩ := h1 (Nat.le_refl _)
        refine ⟨t2, _, rfl, .inl (.inl (g.tup (g3.tup e2))), rfl, _, _, rfl, _, _, rfl, _, _, rfl, rfl, ?_⟩
        have hIb := dp_is (g0.kd.dp hvb)
        refine ⟨_, rfl, _, _, hIb.1, kit_tuple _ hIb.2, _, rfl, ?_⟩
        rcases tup_is db with ht | ⟨bs, rfl⟩
        · rw [ht]
          exact iteT ⟨_, rfl, by show 2 ≤ sizeLine; decide, fun t nt => qs (some wBd) none (e0.trans (mfl2_b l ht)) _ t (g0.trans (Gr.new nt)) upd_same⟩
        obtain ⟨pb, zs, rfl, hpb, hzs⟩ := dp_tup hvb
        have lz := dpA_len hzs
        refine iteF ⟨_, rfl, pb, _, rfl, .inr (g0.sqt hpb), _, rfl, rfl, _, rfl, ?_⟩
        by_cases l' : bs.length = f.ds.length
        · rw [decide_eq_true (show V.int ((zs.length : Nat) : Int) = V.int ((f.ds.length : Nat) : Int) by rw [lz, l'])]
          exact iteF ⟨_, _, _, rfl, g, fun _ => ⟨ss, rfl, l⟩, fun _ => ⟨bs, rfl, l'⟩⟩
        · rw [decide_eq_false (fun z => l' (by have := V.int.inj z; omega))]
          exact iteT ⟨_, rfl, by show 2 ≤ sizeLine; decide, fun t nt => qs (some wBd) none (e0.trans ((mfl2_t l).trans (if_neg l'))) _ t (g0.trans (Gr.new nt)) upd_same⟩
      | i + 2, hi, _ => exact absurd hi (by show ¬ (i + 2 < 2); omega)
    case a2 =>
    rintro σ S ⟨y2, y3, y4, rfl, g, h1, h2⟩
    obtain ⟨ss, rfl, ls⟩ := h1 (by show 1 ≤ 2; decide)
    obtain ⟨bs, rfl, lb⟩ := h2 (Nat.le_refl _)
    have g0 := g03.trans g
    have e4 : mfl f (.tuple [.tuple ss, .tuple bs]) = mfl3 f ss bs := e0.trans ((mfl2_t ls).trans (if_pos lb))
    rw [e4] at qn qs
    clear e0 e4 h1 h2
    obtain ⟨pa, as, rfl, hpa, has⟩ := dp_tup hva
    obtain ⟨pb, zs, rfl, hpb, hzs⟩ := dp_tup hvb
    have la := dpA_len has
    have lz := dpA_len hzs
    -- shapes
    refine ⟨_, rfl, py, _, 0, .ref pa, rfl, rfl, g0.sqt hpy, rfl, pa, as, rfl, g0.sqt hpa, ?_⟩
    refine for_it (walk_enumT (xs := as)) (fun i σ S => ∃ y5 y6 : Option V, σ = [some (.ref p), some (.ref py), y2, y3, y4, y5, y6, none, none, none, none, none, none, none] ∧ Gr H S ∧ shsL ss 0 = shsL (ss.drop i) i) ⟨_, _, rfl, g0, rfl⟩ ?h0 ?h1 ?h2
    case h0 =>
      rintro i σ S hi ⟨y5, y6, rfl, g, eq⟩
      exact g.sqt hpa
    case h1 =>
      rintro i v σ S S' hi ⟨y5, y6, rfl, g, eq⟩ ⟨T', a, b, rfl, nT', rfl, hna, hnb⟩
      cases hna
      obtain ⟨de, hde, hdy⟩ := dpA_at has hnb
      rw [drop_at hde, shsL] at eq
      have g2 : Gr H (upd S T' (.tup [.int (i : Nat), b])) := g.trans (Gr.new nT')
      have hT : upd S T' (.tup [.int (i : Nat), b]) T' = some (.tup [.int (i : Nat), b]) := upd_same
      generalize upd S T' (.tup [.int (i : Nat), b]) = S2 at g2 hT ⊢
      refine ⟨T', _, rfl, .inl (.inl hT), rfl, _, _, rfl, _, _, rfl, rfl, ?_⟩
      refine ⟨_, rfl, b, de, rfl, g2.kd.dp hdy, fun S3 g3 => ?_⟩
      cases hs : shpB de with
      | false =>
        rw [if_neg (by rw [hs]; decide)] at eq
        exact ⟨_, rfl, iteT ⟨_, rfl, by show 2 ≤ sizeLine; decide, fun t nt => qs (some wSh) (some i) (by unfold mfl3; rw [eq]) _ t ((g2.trans g3).trans (Gr.new nt)) upd_same⟩⟩
      | true =>
        rw [if_pos hs] at eq
        exact ⟨_, rfl, iteF ⟨_, _, rfl, g2.trans g3, eq⟩⟩
    case h2 =>
    rintro σ S ⟨y5, y6, rfl, g, eq⟩
    rw [la, List.drop_length, shsL] at eq
    have good := shs_all eq
    have tups : ∀ d ∈ ss, ∃ es, d = .tuple es := fun d hd => shp_tup (good d hd)
    have e3' : mfl3 f ss bs = (bdsL f.hd (ss.map lenD) f.ds bs 0).map fun i => (some wBd, some i) := by
      unfold mfl3
      rw [eq]
    rw [e3'] at qn qs
    -- bodies
    refine ⟨_, rfl, py, _, 1, .ref pb, rfl, rfl, g.sqt hpy, rfl, pb, zs, rfl, g.sqt hpb, ?_⟩
    refine for_it (walk_enumT (xs := zs)) (fun i σ S => ∃ y5 y7 y8 y9 y10 y11 y13 : Option V, σ = [some (.ref p), some (.ref py), y2, y3, y4, y5, y6, y7, y8, y9, y10, y11, none, y13] ∧ Gr H S ∧
      bdsL f.hd (ss.map lenD) f.ds bs 0 = bdsL f.hd (ss.map lenD) (f.ds.drop i) (bs.drop i) i) ⟨_, _, _, _, _, _, _, rfl, g, rfl⟩ ?k0 ?k1 ?k2
    case k0 =>
      rintro i σ S hi ⟨y5, y7, y8, y9, y10, y11, y13, rfl, g, eq⟩
      exact g.sqt hpb
    case k2 =>
      rintro σ S ⟨y5, y7, y8, y9, y10, y11, y13, rfl, g, eq⟩
      rw [lz, lb, List.drop_length] at eq
      exact qn (by rw [eq]; rfl) S g
    case k1 =>
      rintro i v σ S S' hi ⟨y5, y7, y8, y9, y10, y11, y13, rfl, g, eq⟩ ⟨T', a, b, rfl, nT', rfl, hna, hnb⟩
      cases hna
      obtain ⟨bd, hbb, dbd⟩ := dpA_at hzs hnb
      have il : i < f.ds.length := by have := lt_of_at hbb; omega
      have he : f.ds[i]? = some f.ds[i] := List.getElem?_eq_getElem il
      generalize f.ds[i] = e at he
      rw [drop_at he, drop_at hbb, bdsL] at eq
      have ge := go.ok e (List.mem_of_getElem? he)
      have g2 : Gr H (upd S T' (.tup [.int (i : Nat), b])) := g.trans (Gr.new nT')
      have hT : upd S T' (.tup [.int (i : Nat), b]) T' = some (.tup [.int (i : Nat), b]) := upd_same
      generalize upd S T' (.tup [.int (i : Nat), b]) = S2 at g2 hT ⊢
      obtain ⟨xe, hxe, dxe⟩ := dpA_get dds (show (f.ds.map De.d)[i]? = some e.d by rw [List.getElem?_map, he]; rfl)
      obtain ⟨pe, n1, t1', v1, rfl, hpe, dn, dt, dg⟩ := dp_3 (g2.kd.dp dxe)
      cases dp_str dn
      cases dp_kn dg
      obtain ⟨pt, ts, rfl, hpt, hts⟩ := dp_tup dt
      cases dpA_kns hts
      have dsh : ∀ {S3 : Hp}, Gr H S3 → Dp K S3 (.ref pa) (.tuple ss) := fun g3 => g3.kd.dp hva
      refine ⟨T', _, rfl, .inl (.inl hT), rfl, _, _, rfl, _, _, rfl, rfl, ?_⟩
      refine ⟨_, rfl, p, _, 1, .ref pd, rfl, rfl, g2.sqt hp, rfl, _, rfl, pd, _, _, .ref pe, rfl, rfl, g2.sqt hpd, atI_nat hxe, pe, _, rfl, hpe, rfl, _, _, rfl, _, _, rfl, _, _, rfl, rfl, ?_⟩
      -- counts
      refine ⟨_, rfl, pt, rfl, ⟨_, hpt⟩, fun D nD => ?_⟩
      refine lc_it (walk_tup (xs := e.tk.map Kn.v)) (fun j S3 => S3 D = some (.lst (((e.tk.take j).map (cntK f.hd (ss.map lenD))).map fun c : Nat => V.int (c : Nat))) ∧ Gr S2 S3) ⟨upd_same, Gr.new nD⟩ ?j0 ?j1 ?j2
      case j0 =>
        rintro j S3 hj ⟨_, g3⟩
        exact g3.sqt hpt
      case j1 =>
        rintro j y S3' S3 hj ⟨eD, g3⟩ ⟨rfl, hy⟩
        rw [List.getElem?_map] at hy
        obtain ⟨kn, hkn, rfl⟩ := Option.map_eq_some_iff.mp hy
        refine ⟨rfl, tYes_i (iteT ?_)⟩
        have g03 := g2.trans g3
        refine ⟨_, rfl, _, rfl, py, _, 0, .ref pa, rfl, rfl, g03.sqt hpy, rfl, _, rfl, .ref p, .ref pa, f, ss, kn, rfl, g03.kd.dp hx, go, dsh g03, ls, tups, ge.tk kn (List.mem_of_getElem? hkn), fun S4 g4 => ?_⟩
        refine ⟨_, g4.lst eD, ?_, upd_same.trans ?_, (g3.trans g4).upd_new nD⟩
        · rw [List.length_map, List.length_map, List.length_take]
          have := ge.len
          exact SfC.small1000 (by omega)
        · rw [List.take_add_one, hkn, List.map_append, List.map_append]
          rfl
      case j2 =>
      rintro S3 ⟨eD, g3⟩
      rw [List.length_map, List.take_length] at eD
      refine ⟨D, _, rfl, .inl ⟨.inl (.inl eD), fun T2 nT2 => ?_⟩⟩
      have g4 : Gr S3 (upd S3 T2 (.tup ((e.tk.map (cntK f.hd (ss.map lenD))).map fun c : Nat => V.int (c : Nat)))) := Gr.new nT2
      have dc : Dp K (upd S3 T2 (.tup ((e.tk.map (cntK f.hd (ss.map lenD))).map fun c : Nat => V.int (c : Nat)))) (.ref T2) (cD (e.tk.map (cntK f.hd (ss.map lenD)))) := .tup (.inl (.inl upd_same)) (cD_dp _)
      generalize upd S3 T2 (.tup ((e.tk.map (cntK f.hd (ss.map lenD))).map fun c : Nat => V.int (c : Nat))) = S4 at g4 dc ⊢
      have g04 := (g2.trans g3).trans g4
      -- looked
      refine ⟨_, rfl, _, rfl, _, rfl, _, rfl, py, _, 0, .ref pa, rfl, rfl, g04.sqt hpy, rfl, _, rfl, .ref p, .ref pa, f, ss, e.gv, rfl, g04.kd.dp hx, go, dsh g04, ls, tups, ge.gv, fun S5 g5 => ?_⟩
      have g05 := g04.trans g5
      have hm := cnt_pos (hd := f.hd) good e.gv
      have hdb : bd.depth < 30 := by have := dep_in (List.mem_of_getElem? hbb); omega
      have hwb : wt bd ≤ 10000000 := by have := wt_in (List.mem_of_getElem? hbb); omega
      have eb := is_body_lk (cs := e.tk.map (cntK f.hd (ss.map lenD))) (m := cntK f.hd (ss.map lenD) e.gv) (q := 30) hm hdb
      refine ⟨b, .ref T2, bd, e.tk.map (cntK f.hd (ss.map lenD)), some (cntK f.hd (ss.map lenD) e.gv), rfl, g05.kd.dp dbd, g5.kd.dp dc, hdb, hwb, by decide, fun hn S6 g6 => ?_, fun u v hs S6 pp g6 hpp => ?_⟩
      · rw [hn] at eb
        have hneg : lbb (e.tk.map (cntK f.hd (ss.map lenD))) (cntK f.hd (ss.map lenD) e.gv) 8 bd 60 < 0 := by
          have := of_decide_eq_false eb
          omega
        rw [if_pos hneg] at eq
        exact ⟨_, rfl, rfl, _, rfl, iteT ⟨_, rfl, by show 2 ≤ sizeLine; decide, fun t nt => qs (some wBd) (some i) (by rw [eq]; rfl) _ t ((g05.trans g6).trans (Gr.new nt)) upd_same⟩⟩
      · rw [hs] at eb
        have eb : decide (0 ≤ lbb (e.tk.map (cntK f.hd (ss.map lenD))) (cntK f.hd (ss.map lenD) e.gv) 8 bd 60) = (decide (u < 61) && decide (v < 9)) := eb
        have no : ¬ (u < 61 ∧ v < 9) → ∀ t, S6 t = none → Q (.ref t) (upd S6 t (.tup [.str "bodies", .int (i : Nat)])) := fun h t nt => by
          have hneg : lbb (e.tk.map (cntK f.hd (ss.map lenD))) (cntK f.hd (ss.map lenD) e.gv) 8 bd 60 < 0 := by
            have h2 : (decide (u < 61) && decide (v < 9)) = false := by
              rw [Bool.and_eq_false_iff]
              by_cases h3 : u < 61
              · exact .inr (decide_eq_false fun h4 => h ⟨h3, h4⟩)
              · exact .inl (decide_eq_false h3)
            rw [h2] at eb
            have := of_decide_eq_false eb
            omega
          rw [if_pos hneg] at eq
          exact qs (some wBd) (some i) (by rw [eq]; rfl) _ t ((g05.trans g6).trans (Gr.new nt)) upd_same
        refine ⟨_, rfl, rfl, _, rfl, iteF ?_⟩
        refine ⟨_, rfl, pp, _, 0, .int u, rfl, rfl, .inl (.inl hpp), rfl, _, 60, rfl, rfl, _, rfl, ?_⟩
        by_cases h1 : u < 61
        · rw [decide_eq_false (show ¬ u > 60 by omega)]
          refine iteF ⟨_, rfl, pp, _, 1, .int v, rfl, rfl, .inl (.inl hpp), rfl, _, 8, rfl, rfl, _, rfl, ?_⟩
          by_cases h2 : v < 9
          · rw [decide_eq_false (show ¬ v > 8 by omega)]
            rw [decide_eq_true h1, decide_eq_true h2] at eb
            have hpos := of_decide_eq_true eb
            rw [if_neg (show ¬ lbb (e.tk.map (cntK f.hd (ss.map lenD))) (cntK f.hd (ss.map lenD) e.gv) 8 bd 60 < 0 by omega)] at eq
            exact iteF ⟨_, _, _, _, _, _, _, rfl, g05.trans g6, eq⟩
          · rw [decide_eq_true (show v > 8 by omega)]
            exact iteT ⟨_, rfl, by show 2 ≤ sizeLine; decide, fun t nt => no (fun h => h2 h.2) t nt⟩
        · rw [decide_eq_true (show u > 60 by omega)]
          exact iteT ⟨_, rfl, by show 2 ≤ sizeLine; decide, fun t nt => no (fun h => h1 h.1) t nt⟩
end
end SfM
namespace SfC
open PySem PySem.Spec PyProof.Rows L2 SfG
/-! ### weights of faces -/
theorem isN_ok {z : Str} (h : isN z = true) : Wt (.str z) 82 0 := by
  obtain ⟨h8, _, _, _, _, hl⟩ := isN_txt h
  refine ⟨?_, ?_, ?_⟩
  · rw [okd]
    exact List.all_eq_true.mpr fun c hc => decide_eq_true (let_range (List.all_eq_true.mp hl c hc))
  · rw [wt]
    omega
  · exact Nat.le_refl 0
theorem wt_kn {hd : List Str} {k : Kn} (hn : ∀ z ∈ hd, isN z = true) (h : goK hd k) : Wt k.d 82 0 := by
  cases k with
  | h s => exact isN_ok (hn s h)
  | p n =>
    obtain ⟨h1, h2⟩ := h
    have : n = 2 ∨ n = 3 ∨ n = 4 ∨ n = 5 ∨ n = 6 ∨ n = 7 ∨ n = 8 ∨ n = 9 := by omega
    rcases this with rfl | rfl | rfl | rfl | rfl | rfl | rfl | rfl <;> exact Wt.lit (by decide +kernel)
theorem wt_map {α : Type} {g : α → PyData} {L D : Nat} : ∀ {l : List α}, (∀ a ∈ l, Wt (g a) L D) → WtA (l.map g) (l.length * (L + 2)) D
  | [], _ => WtA.nil
  | a :: l, h => by
    refine (WtA.cons (h a List.mem_cons_self) (wt_map fun b hb => h b (List.mem_cons_of_mem _ hb))).mono ?_ (Nat.le_refl _)
    rw [List.length_cons, Nat.add_mul]
    omega
theorem wt_tk {hd : List Str} {e : De} (hn : ∀ z ∈ hd, isN z = true) (h : goD hd e) : WtA (e.tk.map Kn.d) 252 0 := by
  have := wt_map (g := Kn.d) (fun k hk => wt_kn hn (h.tk k hk))
  refine this.mono ?_ (Nat.le_refl _)
  have := h.len
  omega
theorem wt_de {hd : List Str} {e : De} (hn : ∀ z ∈ hd, isN z = true) (h : goD hd e) : Wt e.d 450 2 := by
  have a := Wt.tup (wt_tk hn h)
  exact (Wt.tup (D := 1) (WtA.cons ((isN_ok h.nm).mono (Nat.le_refl _) (by omega)) (WtA.cons a (WtA.cons ((wt_kn hn h.gv).mono (Nat.le_refl _) (by omega)) (WtA.nil (L := 0)))))).mono (by omega) (by omega)
theorem wt_hd {hd : List Str} (h : goH hd) : WtA (hd.map PyData.str) 170 0 := by
  refine (wt_map (g := PyData.str) fun z hz => isN_ok (h.nm z hz)).mono ?_ (Nat.le_refl _)
  have := h.hi
  omega
theorem wt_dd {f : Fc} (h : goF f) : WtA (f.ds.map De.d) 3700 2 := by
  refine (wt_map (g := De.d) fun e he => wt_de h.hid.nm (h.ok e he)).mono ?_ (Nat.le_refl _)
  have := h.hi
  omega
theorem wt_fc {f : Fc} (h : goF f) : Wt f.d 4000 4 :=
  (Wt.tup (D := 3) (WtA.cons ((Wt.tup (wt_hd h.hid)).mono (Nat.le_refl _) (by omega)) (WtA.cons (Wt.tup (wt_dd h)) (WtA.nil (L := 0))))).mono (by omega) (by omega)
end SfC
namespace SfM
open PySem PySem.Spec PyProof.Rows L2 SfG SfC
/-! ### _law_right -/
def rReprC (K : PySem.W.Frag) : List V → Hp → VK → Prop := fun xs H Q =>
  ∃ (v : V) (d : PyData), xs = [v] ∧ Dp K H v d ∧ d.showable = true ∧ d.depth ≤ 30 ∧ d.shown.length ≤ sizeLine ∧ Q (.str d.shown) H
theorem call_reprC {X : Cx} {k : Nat} (hr : Room k X.A) (hgd : X.A.guards = some []) : CallR X (.builtin "repr") (rReprC X.K) := by
  intro pins s σ H xs us Q I r h
  obtain ⟨v, d, rfl, hd, hs, hdep, hz, q⟩ := h
  have hn := dp_nod hd
  cases hd with
  | non => exact call_reprA hr hgd pins s σ H _ us Q I r ⟨_, .none, _, rfl, .non, .inl rfl, hs, hn, hdep, rfl, hz, q⟩
  | int i => exact call_reprA hr hgd pins s σ H _ us Q I r ⟨_, .int i, _, rfl, .int i, .inr (.inl ⟨i, rfl⟩), hs, hn, hdep, rfl, hz, q⟩
  | lst h hx => exact call_reprA hr hgd pins s σ H _ us Q I r ⟨_, _, _, rfl, .lst h hx, .inr (.inr ⟨_, rfl⟩), hs, hn, hdep, rfl, hz, q⟩
  | tup h hx => exact call_reprA hr hgd pins s σ H _ us Q I r ⟨_, _, _, rfl, .tup h hx, .inr (.inr ⟨_, rfl⟩), hs, hn, hdep, rfl, hz, q⟩
  | bl b =>
    obtain ⟨u, rfl, ru⟩ := vals1 r
    cases ru
    exact PySem.P.repr_of_bool ⟨.str _, H, I.tok _, ⟨_, rfl⟩, (by cases b <;> exact q)⟩
  | str z =>
    obtain ⟨u, rfl, ru⟩ := vals1 r
    obtain ⟨t, rfl⟩ := ru
    exact PySem.P.repr_of_str ⟨.str _, H, I.tok _, ⟨_, rfl⟩, q⟩ hz
theorem funC_okG {P : Program} {w : World} {K : PySem.W.Frag} {mg : Str → Option Value} {base : Heap} {x qual : Str} {st : Stmt} {f c : Addr} {fd : FuncData} {N ps : List Str} {k : Nat} {sp : Sp}
    (F : FunC K x qual st f fd c) (S : FnScope N ps (defScope st)) (len : ∀ vs H Q E, sp vs H Q E → vs.length = ps.length)
    (go : ∀ (A : Around) (outer : List Env) (s : Shared) (H : Hp) (vs : List V) (Q : VK) (E : XK), Room k (A.deeper (envOfC qual (defScope st) s.heap.objs.size f (.ref c))) → A.guards = some [] → sp vs H Q E →
      ∃ t, PSs (cxOf CX0 P w K mg base N qual (defScope st) f (.ref c) A outer s H E).nox (defBody st) t ∧ t { nx := fun _ H' => Q .non H', rt := Q } (start N vs) H) : FnG P w K mg base CX0 (k + 1) f fd ps sp := by
  obtain ⟨oc, od, kV, doc, pm, an, ct, osl, rfl, lk, hcd⟩ := F.ex
  refine ⟨len, fun A outer s H args us vs Q E hr hgd e0 hb r hsp => ?_⟩
  refine LamX.run_ofS lk hcd S hr e0 hb r (len _ _ _ _ hsp) (fun hr' => ?_)
  obtain ⟨t, h, q⟩ := go A outer s H vs Q E hr' hgd hsp
  exact ⟨t, h.nox, q⟩
theorem gr_all {H H' : Hp} (g : Gr H H') : ∀ b o, H b = some o → H' b = some o := fun b o h => by
  by_cases c : ∃ ps, o = .tbl ps
  · obtain ⟨ps, rfl⟩ := c
    exact g.tbl b ps h
  · exact g.keep b o h fun ps e => c ⟨ps, e⟩
theorem gr_tabs {T : List (Addr × Str)} {H H' : Hp} (g : Gr H H') (t : LamX.Tabs T H) : LamX.Tabs T H' := t.ext (gr_all g)
theorem gr_ext {H H' : Hp} (g : Gr H H') : LamX.ExtN H H' := fun b o h n => g.keep b o h n
theorem ext_kd {K : PySem.W.Frag} {H H' : Hp} (e : LamX.ExtN H H') : Kd K H H' := by
  refine ⟨fun h => ?_, fun h => ?_⟩
  · rcases h with (h | ⟨o, h⟩) | h
    · exact .inl (.inl (e _ _ h fun _ z => by cases z))
    · exact .inl (.inr ⟨o, e _ _ h fun _ z => by cases z⟩)
    · exact .inr h
  · rcases h with (h | ⟨o, h⟩) | h
    · exact .inl (.inl (e _ _ h fun _ z => by cases z))
    · exact .inl (.inr ⟨o, e _ _ h fun _ z => by cases z⟩)
    · exact .inr h
theorem ext_kx {K : PySem.W.Frag} {H H' : Hp} (e : LamX.ExtN H H') : Kx K H H' := ⟨ext_kd e, fun h => e _ _ h fun _ z => by cases z⟩
theorem Mx.ext {K : PySem.W.Frag} {H H' : Hp} {y : V} {d : PyData} (h : Mx K H y d) (e : LamX.ExtN H H') : Mx K H' y d := ⟨(ext_kx e).dx h.1, fun ds z => (ext_kd e).dp (h.2 ds z)⟩
theorem DueV.ext {H H' : Hp} {v : V} {o : Option (Option Str × Option Nat)} (h : DueV H v o) (e : LamX.ExtN H H') : DueV H' v o := by
  cases o with
  | none => exact h
  | some ab =>
    obtain ⟨t, rfl, ht⟩ := h
    exact ⟨t, rfl, e _ _ ht fun _ z => by cases z⟩
def dS : Option Str → PyData
  | none => .none
  | some z => .str z
def dN : Option Nat → PyData
  | none => .none
  | some n => .int (n : Nat)
theorem dp_S {K : PySem.W.Frag} {H : Hp} (a : Option Str) : Dp K H (ovS a) (dS a) := by
  cases a with
  | none => exact .non
  | some z => exact .str z
theorem dp_N {K : PySem.W.Frag} {H : Hp} (a : Option Nat) : Dp K H (ovN a) (dN a) := by
  cases a with
  | none => exact .non
  | some z => exact .int _
theorem shs_lt : ∀ {ss : List PyData} {i n : Nat}, shsL ss i = some n → n < i + ss.length
  | a :: r, i, n, h => by
    rw [shsL] at h
    rw [List.length_cons]
    split at h
    · have := shs_lt h
      omega
    · cases h
      omega
theorem bds_lt {hd : List Str} {ls : List Nat} : ∀ {es : List De} {bs : List PyData} {i n : Nat}, bdsL hd ls es bs i = some n → n < i + es.length
  | [], _, _, _, h => by rw [bds_nil] at h; cases h
  | _ :: _, [], _, _, h => by simp [bdsL] at h
  | e :: es, b :: bs, i, n, h => by
    rw [bdsL] at h
    rw [List.length_cons]
    split at h
    · cases h
      omega
    · have := bds_lt h
      omega
theorem mfl_lt {f : Fc} {d : PyData} {a : Option Str} {n : Nat} (go : goF f) (h : mfl f d = some (a, some n)) : n < 10 := by
  have h1 := go.hid.hi
  have h2 := go.hi
  unfold mfl at h
  split at h
  · rename_i x y
    unfold mfl2 at h
    split at h
    · split at h
      · rename_i ss e
        split at h
        · split at h
          · unfold mfl3 at h
            split at h
            · rename_i i hs
              cases h
              have := shs_lt hs
              omega
            · obtain ⟨i, hb, e'⟩ := Option.map_eq_some_iff.mp h
              cases e'
              have := bds_lt hb
              omega
          · cases h
        · cases h
      · cases h
    · cases h
  · cases h
theorem sh_S {f : Fc} {d : PyData} {a : Option Str} {b : Option Nat} (h : mfl f d = some (a, b)) : Wt (dS a) 100 0 := by
  rcases mfl_part h with rfl | rfl | rfl <;> exact Wt.lit (by decide +kernel)
theorem sh_N {f : Fc} {d : PyData} {a : Option Str} {b : Option Nat} (go : goF f) (h : mfl f d = some (a, b)) : Wt (dN b) 100 0 := by
  cases b with
  | none => exact Wt.lit (by decide +kernel)
  | some n =>
    have hn := mfl_lt go h
    have c : n = 0 ∨ n = 1 ∨ n = 2 ∨ n = 3 ∨ n = 4 ∨ n = 5 ∨ n = 6 ∨ n = 7 ∨ n = 8 ∨ n = 9 := by omega
    rcases c with rfl | rfl | rfl | rfl | rfl | rfl | rfl | rfl | rfl | rfl <;> exact Wt.lit (by decide +kernel)
abbrev nRight : List Str := ["_law_face_here", "_law_thing", "_law_due_here", "_law_kept", "_law_turn"]
theorem scRight : FnScope nRight ["_law_face_here", "_law_thing"] (defScope sRight) := ⟨rfl, rfl, rfl, by decide +kernel, rfl, by decide +kernel, by decide +kernel⟩
def qR : Str := (envOfC "_law_right" (defScope sRight) 0 0 .none).qual ++ "<lambda>"
/-- the lambda that a call is handed -/
def lamScope : Expr → Scope
  | .Lambda _ _ sc _ => sc
  | _ => default
/-- a def that is given a lambda: _law_word -/
structure WordC (K : PySem.W.Frag) (mg : Str → Option Value) (g : Addr) : Prop where
  at_ : mg "_law_word" = some (.ref g)
  kp : PySem.W.keepIn K (.ref g) = true
  ex : ∃ (oc dV kV doc pm cdv ct : Value) (an od : Option Addr) (osl : Array (Option Value)), K.lookup g = some ⟨oc, od, .func (PySem.W.fnOf "_law_word" "_law_word" (defArgs sWord) (defBody sWord) (defScope sWord) dV kV doc pm an cdv ct), osl⟩ ∧ PySem.W.codeIn K cdv "_law_word" = true ∧
    L2.Binds K (PySem.W.fnOf "_law_word" "_law_word" (defArgs sWord) (defBody sWord) (defScope sWord) dV kV doc pm an cdv ct) ["_law_deed"] []
section
variable {P : Program} {w : World} {K : PySem.W.Frag} {mg : Str → Option Value} {base : Heap}
def spRight (K : PySem.W.Frag) (T : List (Addr × Str)) : Sp := fun vs H Q _ => ∃ (x y : V) (f : Fc) (d : PyData), vs = [x, y] ∧ Dp K H x f.d ∧ goF f ∧ Mx K H y d ∧ okd d = true ∧ d.depth < 29 ∧ wt d ≤ 9000000 ∧ LamX.Tabs T H ∧ ∀ H', LamX.ExtN H H' → LamX.Tabs T H' → Q (.bl true) H'
set_option maxHeartbeats 8000000 in
theorem ok_right {f c cP fD fI fM fW fK CM CF : Addr} {fd dD dI dM dK : FuncData} {k : Nat} {T : List (Addr × Str)} (F : FunC K "_law_right" "_law_right" sRight f fd c) (HD : Has P w K mg base k "_law_due" ["_law_face_here", "_law_thing"] (spDue K) fD dD) (HI : Has P w K mg base k "is_making" ["face", "thing"] (spIsM K) fI dI)
    (HM : HasX P w K mg base k "need_making" ["face", "making"] (spMakX K CM) fM dM) (W : WordC K mg fW) (HK : Has P w K mg base (k + 1) "_law_kinds" ["_law_error"] (spKinds K mg) fK dK) (C : WdC K mg CM CF "making" bsMak)
    (TB : LamX.TabB base mg c cP) (hT : (cP, qR) ∈ T) (hu : ∀ p ∈ T, p.1 = cP → p.2 = qR) (mp : mg "repr" = none) (mr : mg "range" = none) (mt : mg "tuple" = none) :
    FnG P w K mg base CX0 (k + 3) f fd ["_law_face_here", "_law_thing"] (spRight K T) := by
  obtain ⟨oc, dV, kW, doc, pm, cdv, ct, an, od, osl, lkW, hcW, bW⟩ := W.ex
  refine funC_okG F scRight (fun vs H Q E h => ?_) (fun A outer s H vs Q E hr hgd h => ?_)
  · obtain ⟨x, y, f, d, rfl, _⟩ := h
    rfl
  · obtain ⟨x, y, f, d, rfl, hx, go, hy, ok, hdd, hww, hTs, q⟩ := h
    have nd := scRight.nd
    refine' ⟨_, pss_cons ?s1 (pss_cons ?s2 (pss_cons ?s3 (pss_one ?s4))), ?rd⟩
    case s1 => exact ps_set (i := 2) nd rfl (.inl rfl) (hcall HD (hr.mono (by omega)) (pa_cons (pv 0) (pa_cons (pv 1) pa_nil)))
    case s2 => exact ps_set (i := 3) nd rfl (.inl rfl) (pe_callB (call_reprX hr hgd) (by rfl) mp (by decide +kernel) (pa_cons (pe_lst (pa_cons (pv 0) (pa_cons (pv 1) pa_nil))) pa_nil))
    case s3 =>
      refine' ps_for PassesOwn.never rfl (pi_range1 (by rfl) mr (pa_cons pe_int pa_nil)) (pg_name (i := 4) nd rfl (.inl rfl)) (pss_cons ?b1 (pss_one ?b2))
      case b1 =>
        exact ps_if (pt_cmpR op_ne (pe_callB (call_reprC hr hgd) (by rfl) mp (by decide +kernel) (pa_cons (hcall HI (hr.mono (by omega)) (pa_cons (pv 0) (pa_cons (pv 1) pa_nil))) pa_nil)) (pe_callB (call_reprC hr hgd) (by rfl) mp (by decide +kernel) (pa_cons (pe_cmpR op_isN (pv 2) pe_non (nomark _)) pa_nil)) (nomark _)) pss_never pss_nil
      case b2 =>
        exact ps_if (pt_cmpR op_ne (pe_callB (call_reprC hr hgd) (by rfl) mp (by decide +kernel) (pa_cons (LamX.pe_lamcall (T := T) (TT := TWord CM "making") (t := fun E => tCall (spMakX K CM) [] E (tCons (tVar 0) (tCons (tVar 1) tNil))) (k := k) (by rfl) W.at_ W.kp lkW hcW bW scWord rfl (by first | exact Or.inl rfl | exact Or.inr (Or.inl rfl))
            (word_gives (hr.mono (by omega)) HK C mt) TB rfl hT hu (hr.mono (by omega)) (LamX.lamS_by (sc := defScope sRight) (by decide +kernel)) rfl (fun _ _ _ _ _ => rfl)
            (fun A outer s H E f c' hr2 => pe_call HM.ok hr2 (by rfl) HM.at_ HM.kp HM.bd .nil (passes_call (takes_of (E := E) rfl rfl rfl rfl) (fun _ _ _ _ h => h)) (pa_cons (pv 0) (pa_cons (pv 1) pa_nil)))) pa_nil))
          (pe_callB (call_reprC hr hgd) (by rfl) mp (by decide +kernel) (pa_cons (pe_ifExp (pt_cmpR op_isN (pv 2) pe_non (nomark _)) (pe_lst (pa_cons pe_non pa_nil)) (pe_op op_catD (pe_tup (pa_cons pe_str pa_nil)) (pv 2))) pa_nil)) (nomark _)) pss_never pss_nil
    case s4 => exact ps_ret (pe_cmpR op_eq (pe_callB (call_reprX hr hgd) (by rfl) mp (by decide +kernel) (pa_cons (pe_lst (pa_cons (pv 0) (pa_cons (pv 1) pa_nil))) pa_nil)) (pv 3) (nomark _))
    case rd =>
    refine ⟨_, rfl, _, rfl, x, y, f, d, rfl, hx, go, hy, by omega, by omega, fun H1 v g1 hv => ?_⟩
    have wf := wt_fc go
    have okl : okd (.list [f.d, d]) = true := by
      rw [okd, okdA, okdA, okdA, wf.ok, ok]
      rfl
    have lnl : (PyData.list [f.d, d]).shown.length ≤ sizeLine := by
      refine Nat.le_trans (okd_len okl) ?_
      rw [wt, wtA, wtA, wtA, sizeLine_eq]
      have := wf.le
      omega
    have shl : PyData.showableAll [f.d, d] = true := by
      have := okd_able okl
      rw [PyData.showable] at this
      exact this
    have dpl : (PyData.list [f.d, d]).depth ≤ 40 := by
      rw [PyData.depth, PyData.depthAll, PyData.depthAll, PyData.depthAll]
      have := wf.dep
      omega
    have dxl : ∀ {S : Hp} {l : Addr}, LamX.ExtN H S → S l = some (.lst [x, y]) → Dx K S (.ref l) (.list [f.d, d]) := fun e h => .lst (.inl (.inl h)) (.cons ((ext_kx e).dx (SfG.Dp.dx hx)) (.cons ((ext_kx e).dx hy.1) .nil))
    refine ⟨_, rfl, _, rfl, by show 2 ≤ sizeLine; decide, fun l nl => ?_⟩
    have g2 : Gr H1 (upd H1 l (.lst [x, y])) := Gr.new nl
    have e2 : upd H1 l (.lst [x, y]) l = some (.lst [x, y]) := upd_same
    generalize upd H1 l (.lst [x, y]) = H2 at g2 e2 ⊢
    have g02 := g1.trans g2
    refine ⟨.ref l, [f.d, d], _, rfl, dxl (gr_ext g02) e2, shl, dpl, rfl, lnl, ?_⟩
    have hv2 := hv.ext (gr_ext g2)
    refine ⟨2, rfl, by decide, by decide, for_range (n := 2) (fun i σ S => ∃ y4 : Option V, σ = [some x, some y, some v, some (.str (PyData.list [f.d, d]).shown), y4] ∧ LamX.ExtN H2 S ∧ LamX.Tabs T S) ?o0 ?o1 ?o2⟩
    case o0 => exact ⟨_, rfl, LamX.ExtN.refl _, gr_tabs g02 hTs⟩
    case o2 =>
      rintro σ S ⟨y4, rfl, e, tS⟩
      refine ⟨_, rfl, _, rfl, by show 2 ≤ sizeLine; decide, fun l' nl' => ?_⟩
      have g3 : Gr S (upd S l' (.lst [x, y])) := Gr.new nl'
      have e3 : upd S l' (.lst [x, y]) l' = some (.lst [x, y]) := upd_same
      generalize upd S l' (.lst [x, y]) = S3 at g3 e3 ⊢
      have ee := ((gr_ext g02).trans e).trans (gr_ext g3)
      refine ⟨.ref l', [f.d, d], _, rfl, dxl ee e3, shl, dpl, rfl, lnl, _, rfl, ?_⟩
      refine ⟨rfl, ?_⟩
      have := q S3 ee (gr_tabs g3 tS)
      rw [decide_eq_true rfl]
      exact this
    case o1 =>
    rintro i σ S hi ⟨y4, rfl, e, tS⟩
    have e0 := (gr_ext g02).trans e
    refine ⟨_, rfl, _, rfl, x, y, f, d, rfl, (ext_kd e0).dp hx, go, hy.ext e0, fun S2 gS2 => ?_⟩
    have e02 := e0.trans (gr_ext gS2)
    refine ⟨_, .bool (mfl f d).isNone, rfl, .bl _, rfl, by rw [PyData.depth]; decide, by cases (mfl f d).isNone <;> decide +kernel, ?_⟩
    have dn : decide (v = .non) = (mfl f d).isNone := by
      cases hm : mfl f d with
      | none =>
        rw [hm] at hv
        exact decide_eq_true hv
      | some ab =>
        rw [hm] at hv
        obtain ⟨t, rfl, _⟩ := hv
        exact decide_eq_false fun z => by cases z
    refine ⟨_, rfl, rfl, _, .bool (decide (v = .non)), rfl, .bl _, rfl, by rw [PyData.depth]; decide, by cases decide (v = .non) <;> decide +kernel, rfl, _, rfl, ?_⟩
    rw [dn, decide_eq_true rfl]
    refine iteF ?_
    have tS2 := gr_tabs gS2 tS
    refine ⟨tS2, fun H3 eH3 tH3 => ?_⟩
    have e03 := e02.trans eH3
    have hv3 := (hv2.ext e).ext ((gr_ext gS2).trans eH3)
    refine ⟨fun cls dd H' => ∃ a b, mfl f d = some (a, b) ∧ cls = .ref CM ∧ Gr H3 H' ∧ ∃ x, dd = some x ∧ H' x = some (.xd [("number", ovN b), ("part", ovS a)]), fun u H' => u = .non ∧ mfl f d = none ∧ Gr H3 H',
      ⟨_, rfl, _, rfl, x, y, f, d, rfl, (ext_kd e03).dp hx, go, hy.ext e03, fun hm H' g => ⟨rfl, hm, g⟩, fun a b hm H' x g hx => ⟨a, b, hm, rfl, g, x, rfl, hx⟩⟩, ?_, ?_⟩
    · rintro cls dd H' ⟨a, b, hm, rfl, gH, x', rfl, hx'⟩
      refine ⟨rfl, x', _, _, rfl, hx', fun H4 t g4 ht => ?_⟩
      have wD : Wt (.tuple [.str "making", dS a, dN b]) 1000 1 := (Wt.tup (WtA.cons (L1 := 100) (Wt.lit (by decide +kernel)) (WtA.cons (sh_S hm) (WtA.cons (sh_N go hm) (WtA.nil (L := 0)))))).mono (by omega) (by omega)
      have lD : (PyData.tuple [.str "making", dS a, dN b]).shown.length ≤ sizeLine := by
        refine Nat.le_trans (okd_len wD.ok) ?_
        have := wD.le
        rw [sizeLine_eq]
        omega
      have dD : (PyData.tuple [.str "making", dS a, dN b]).depth ≤ 30 := Nat.le_trans wD.dep (by decide)
      have g34 := gH.trans g4
      refine ⟨.ref t, .tuple [.str "making", dS a, dN b], rfl, .tup (.inl (.inl ht)) (.cons (.str _) (.cons (dp_S a) (.cons (dp_N b) .nil))), okd_able wD.ok, dD, lD, ?_⟩
      rw [hm] at hv3
      obtain ⟨t0, rfl, ht0⟩ := hv3
      refine ⟨_, rfl, rfl, _, rfl, iteF ⟨by show 1 ≤ sizeLine; decide, fun t1 n1 => ?_⟩⟩
      have g5 : Gr H4 (upd H4 t1 (.tup [.str "making"])) := Gr.new n1
      have d5 : Dp K (upd H4 t1 (.tup [.str "making"])) (.ref t1) (.tuple [.str "making"]) := .tup (.inl (.inl upd_same)) (.cons (.str _) .nil)
      generalize upd H4 t1 (.tup [.str "making"]) = H5 at g5 d5 ⊢
      have d0 : Dp K H5 (.ref t0) (.tuple [dS a, dN b]) := .tup (.inl (.inl (g5.tup (g34.tup ht0)))) (.cons (dp_S a) (.cons (dp_N b) .nil))
      refine ⟨_, rfl, [.str "making"], [dS a, dN b], d5, d0, by show 3 ≤ sizeLine; decide, fun v' H6 g6 hv' => ?_⟩
      have g36 := (g34.trans g5).trans g6
      refine ⟨v', .tuple [.str "making", dS a, dN b], rfl, hv', okd_able wD.ok, dD, lD, rfl, _, rfl, ?_⟩
      rw [decide_eq_true rfl]
      exact iteF ⟨_, rfl, ((e.trans (gr_ext gS2)).trans eH3).trans (gr_ext g36), gr_tabs g36 tH3⟩
    · rintro u H' ⟨rfl, hm, gH⟩ H4 t g4 ht
      have g34 := gH.trans g4
      rw [hm] at hv3
      cases hv3
      refine ⟨.ref t, .list [.none], rfl, .lst (.inl (.inl ht)) (.cons .non .nil), by decide +kernel, by decide +kernel, by decide +kernel, ?_⟩
      refine ⟨_, rfl, rfl, _, rfl, iteT ⟨by show 1 ≤ sizeLine; decide, fun t1 n1 => ?_⟩⟩
      have g5 : Gr H4 (upd H4 t1 (.lst [.non])) := Gr.new n1
      have g35 := g34.trans g5
      refine ⟨.ref t1, .list [.none], rfl, .lst (.inl (.inl upd_same)) (.cons .non .nil), by decide +kernel, by decide +kernel, by decide +kernel, rfl, _, rfl, ?_⟩
      rw [decide_eq_true rfl]
      exact iteF ⟨_, rfl, ((e.trans (gr_ext gS2)).trans eH3).trans (gr_ext g35), gr_tabs g35 tH3⟩
end
end SfM
namespace SfC
open PySem PySem.Spec PyProof.Rows L2 SfG
/-! ### a text some times -/
def repS (z : Str) (n : Nat) : Str := ⟨(List.replicate n z.cps).foldl (· ++ ·) #[]⟩
theorem foldl_len : ∀ (n : Nat) (x acc : Array Nat), ((List.replicate n x).foldl (· ++ ·) acc).size = acc.size + n * x.size
  | 0, x, acc => by simp
  | n + 1, x, acc => by
    rw [List.replicate_succ, List.foldl_cons, foldl_len n x, Array.size_append, Nat.succ_mul]
    omega
theorem rep_len (z : Str) (n : Nat) : (repS z n).length = n * z.length := by
  show ((List.replicate n z.cps).foldl (· ++ ·) #[]).size = n * z.cps.size
  rw [foldl_len]
  simp
theorem rep_one (z : Str) : repS z 1 = z := by
  unfold repS
  simp
theorem op_mulZ {X : Cx} : OpR X (binaryOp .Mult) (fun x y H Q => ∃ (z : Str) (n : Nat), x = .str z ∧ y = .int (n : Int) ∧ 1 ≤ n ∧ z.length * n ≤ 1000000 ∧ z.length ≠ 0 ∧ Q (.str (repS z n)) H) := by
  intro pins s σ H x y v u Q I rx ry h
  obtain ⟨z, n, rfl, rfl, hn, hl, h0, q⟩ := h
  obtain ⟨t, rfl⟩ := rx
  obtain ⟨t', rfl⟩ := ry
  have e63 : (2 : Int) ^ 63 = 9223372036854775808 := by decide
  have hnn : n ≤ 1000000 := by
    refine Nat.le_trans ?_ hl
    exact Nat.le_mul_of_pos_left n (Nat.pos_of_ne_zero h0)
  refine PySem.P.mul_str ?_ ?_ ?_ ?_
  · rw [e63]
    simp
    omega
  · intro _ _ h
    have e : (z.length : Int) ≤ (2 ^ 63 - 1) / (n : Int) := by
      refine Int.le_ediv_of_mul_le (by omega) ?_
      have hl' : ((z.length * n : Nat) : Int) ≤ 1000000 := by omega
      rw [Int.natCast_mul] at hl'
      rw [e63]
      omega
    omega
  · intro _ _
    rw [Int.toNat_natCast]
    unfold Builtin.Str.tooLong
    refine decide_eq_false ?_
    rw [sizeLine_eq]
    omega
  · have c1 : ¬ (n : Int) < 1 := by omega
    rw [if_neg c1]
    by_cases e1 : n = 1
    · subst e1
      have c2 : (((1 : Nat) : Int) == 1 || z.length == 0) = true := by simp
      rw [if_pos c2]
      rw [rep_one] at q
      exact ⟨.str z, H, I, ⟨_, rfl⟩, q⟩
    · have c2 : ¬ (((n : Int) == 1 || z.length == 0) = true) := by
        simp
        omega
      rw [if_neg c2]
      refine ⟨?_, .str (repS z n), H, I.tok _, ⟨_, rfl⟩, q⟩
      have hs := rep_len z n
      have hz : (repS z n).length ≤ sizeLine := by
        rw [hs, sizeLine_eq, Nat.mul_comm]
        omega
      exact hz
end SfC
namespace SfM
open PySem PySem.Spec PyProof.Rows L2 SfG SfC
/-! ### names that are drawn -/
def LZ (c : Nat) : Str := ⟨#[97 + c]⟩
theorem let_is : ∀ n, n < 26 → letters.cps[n]? = some (97 + n) := by decide +kernel
theorem let_ok : ∀ n, n < 26 → isLet (97 + n) = true := by decide +kernel
def sgs (f s n : Nat) : List Str := (List.range n).map fun k => LZ ((f + s * k) % 26)
theorem sgs_succ (f s n : Nat) : sgs f s (n + 1) = sgs f s n ++ [LZ ((f + s * n) % 26)] := by
  unfold sgs
  rw [List.range_succ, List.map_append]
  rfl
theorem sgs_len (f s n : Nat) : (sgs f s n).length = n := by
  unfold sgs
  rw [List.length_map, List.length_range]
theorem sgs_nd8 : ∀ f, f < 26 → ∀ s ∈ [1, 3, 5, 7, 9, 11, 15], (sgs f s 8).Nodup := by decide +kernel
theorem sgs_nd {f s n : Nat} (hf : f < 26) (hs : s ∈ [1, 3, 5, 7, 9, 11, 15]) (hn : n ≤ 8) : (sgs f s n).Nodup := ((List.range_sublist.mpr hn).map _).nodup (sgs_nd8 f hf s hs)
theorem sgs_one {f s n : Nat} : ∀ z ∈ sgs f s n, ∃ c, c < 26 ∧ z = LZ c := fun z hz => by
  obtain ⟨k, _, rfl⟩ := List.mem_map.mp hz
  exact ⟨_, Nat.mod_lt _ (by decide), rfl⟩
theorem rep_ok : ∀ c, c < 26 → ∀ m, m < 8 → isN (repS (LZ c) (m + 1)) = true := by decide +kernel
theorem rep_up8 : ∀ c, c < 26 → ((List.range 8).map fun k => repS (LZ c) (k + 1)).Pairwise lt := by decide +kernel
theorem rep_up {c n : Nat} (hc : c < 26) (hn : n ≤ 8) : ((List.range n).map fun k => repS (LZ c) (k + 1)).Pairwise lt := (rep_up8 c hc).sublist ((List.range_sublist.mpr hn).map _)
def w16 : List Str := ["apart", "bound", "give", "hidden", "if", "in", "less", "number", "plus", "refuse", "rest", "same", "shape", "times", "under", "when"]
abbrev t16 : Str := "apart bound give hidden if in less number plus refuse rest same shape times under when"
theorem split16 : Txt.split t16 " " = w16 := by decide +kernel
theorem w16_up : w16.Pairwise lt := by decide +kernel
theorem w16_ok : ∀ z ∈ w16, isN z = true := by decide +kernel
theorem cutV_fr (xs : List V) {n : Nat} (h : n ≤ xs.length) : cutV xs (some (n : Int)) none = xs.drop n := by
  unfold cutV
  rw [HT.sIx_none, HT.sIx_nat, Nat.min_eq_left h]
  exact List.take_of_length_le (by rw [List.length_drop]; omega)
theorem cutV_til (xs : List V) {n : Nat} (h : n ≤ xs.length) : cutV xs none (some (n : Int)) = xs.take n := by
  unfold cutV
  rw [HT.sIx_none, HT.sIx_nat, Nat.min_eq_left h, List.drop_zero, Nat.sub_zero]
/-- letters alone -/
def onlyL (z : Str) : Prop := z.cps.toList.all isLet = true
theorem join_let {acc : List Str} (h : ∀ y ∈ acc, one y) : (Txt.join nought acc).length = acc.length ∧ onlyL (Txt.join nought acc) := by
  constructor
  · have e : (TL.tl (Txt.join nought acc)).length = acc.length := by
      rw [TL.join_eq, TL.tl_join]
      rw [show TL.tl nought = [] from rfl, joinL_len, List.length_map]
      intro l hl
      obtain ⟨y, hy, rfl⟩ := List.mem_map.mp hl
      obtain ⟨c, rfl, _⟩ := h y hy
      rfl
    rw [SfC.len_list]
    exact e
  · refine List.all_eq_true.mpr fun c hc => ?_
    have hc' : c ∈ TL.tl (Str.join nought acc) := by
      rw [← TL.join_eq]
      exact hc
    rw [TL.tl_join] at hc'
    obtain ⟨l, hl', hcl⟩ := joinL_mem hc'
    obtain ⟨y, hy, rfl⟩ := List.mem_map.mp hl'
    obtain ⟨d, rfl, hd⟩ := h y hy
    have e : c = d := by simpa [TL.tl] using hcl
    rw [e]
    exact hd
/-- a sign put into a text -/
def midN (b : Str) (at_ : Nat) (z : Str) : Str := (cutS b none (some (at_ : Int)) ++ z) ++ cutS b (some (at_ : Int)) none
theorem cps_app (a b : Str) : (a ++ b).cps.toList = a.cps.toList ++ b.cps.toList := by
  show (a.cps ++ b.cps).toList = _
  simp
theorem cut_lo {b : Str} {n : Nat} (h : n ≤ b.length) : (cutS b none (some (n : Int))).cps.toList = b.cps.toList.take n := by
  unfold cutS
  rw [HT.sIx_none, HT.sIx_nat, Nat.min_eq_left h, Nat.sub_zero, List.drop_zero]
theorem cut_hi {b : Str} {n : Nat} (h : n ≤ b.length) : (cutS b (some (n : Int)) none).cps.toList = b.cps.toList.drop n := by
  unfold cutS
  rw [HT.sIx_none, HT.sIx_nat, Nat.min_eq_left h]
  exact List.take_of_length_le (by rw [List.length_drop, ← SfC.len_list]; omega)
theorem mid_cps {b : Str} {n : Nat} (h : n ≤ b.length) (z : Str) : (midN b n z).cps.toList = b.cps.toList.take n ++ (z.cps.toList ++ b.cps.toList.drop n) := by
  unfold midN
  rw [cps_app, cps_app, cut_lo h, cut_hi h, List.append_assoc]
theorem mid_ok {b : Str} {n c : Nat} (h : n ≤ b.length) (h7 : b.length ≤ 7) (hb : onlyL b) (hc : c < 26) : isN (midN b n (LZ c)) = true := by
  have e := mid_cps h (LZ c)
  have l : (midN b n (LZ c)).length = b.length + 1 := by
    rw [SfC.len_list, e, List.length_append, List.length_append, List.length_take, List.length_drop, ← SfC.len_list]
    show min n b.length + (1 + (b.length - n)) = _
    omega
  unfold isN
  rw [l, decide_eq_true (show b.length + 1 ≤ 8 by omega), decide_eq_true (show 1 ≤ b.length + 1 by omega), e]
  have hb' : ∀ x ∈ b.cps.toList, isLet x = true := List.all_eq_true.mp hb
  show (List.all _ _) = true
  refine List.all_eq_true.mpr fun x hx => ?_
  rcases List.mem_append.mp hx with hx | hx
  · exact hb' x (List.mem_of_mem_take hx)
  · rcases List.mem_append.mp hx with hx | hx
    · rw [List.mem_singleton.mp (show x ∈ [97 + c] from hx)]
      exact let_ok c hc
    · exact hb' x (List.mem_of_mem_drop hx)
theorem mid_inj {b : Str} {n : Nat} (h : n ≤ b.length) {x y : Str} (e : midN b n x = midN b n y) : x = y := by
  have e2 : (midN b n x).cps.toList = (midN b n y).cps.toList := by rw [e]
  rw [mid_cps h, mid_cps h] at e2
  exact str_ext (List.append_cancel_right (List.append_cancel_left e2))
theorem mid_nd {b : Str} {n : Nat} (h : n ≤ b.length) {l : List Str} (nd : l.Nodup) : (l.map (midN b n)).Nodup := List.pairwise_map.mpr (nd.imp fun ne e => ne (mid_inj h e))
abbrev nLNames : List Str := ["_law_state", "_law_many", "_law_letters", "_law_start", "_law_stride", "_law_way", "_law_size", "_law_at", "_law_base", "_law_k", "_law_signs", "_law_some", "_law_sign"]
theorem scLNames : FnScope nLNames ["_law_state", "_law_many"] (defScope sLNames) := ⟨rfl, rfl, rfl, by decide +kernel, rfl, by decide +kernel, by decide +kernel⟩
section
variable {P : Program} {w : World} {K : PySem.W.Frag} {mg : Str → Option Value} {base : Heap}
def spLNames (K : PySem.W.Frag) : Sp := fun vs H Q _ => ∃ (p : Addr) (n : Nat), vs = [.ref p, .int (n : Nat)] ∧ Drw H p ∧ 1 ≤ n ∧ n ≤ 8 ∧
  ∀ H' l (ys : List Str), Gp p H H' → Drw H' p → H l = none → l ≠ p → H' l = some (.lst (ys.map V.str)) → ys.Pairwise lt → (∀ z ∈ ys, isN z = true) → ys.length = n → Q (.ref l) H'
set_option maxHeartbeats 4000000 in
theorem ok_lnames {f fP : Addr} {fd dP : FuncData} {k : Nat} (F : Fun K "_law_names" "_law_names" sLNames f fd) (HP : Has P w K mg base k "_law_pick" ["_law_state", "_law_many"] spPick fP dP) (mr : mg "range" = none) (ms : mg "sorted" = none) :
    FnOk P w K mg base CX0 (k + 1) f fd ["_law_state", "_law_many"] (spLNames K) := by
  refine F.ok scLNames (fun vs H Q E h => ?_) (fun cdv A outer s H vs Q E hr h => ?_)
  · obtain ⟨p, n, rfl, _⟩ := h
    rfl
  · obtain ⟨p, n, rfl, d0, n1, n8, q⟩ := h
    have nd := scLNames.nd
    refine' ⟨_, pss_cons ?s1 (pss_cons ?s2 (pss_cons ?s3 (pss_cons ?s4 (pss_cons ?s5 (pss_cons ?s6 (pss_cons ?s7 (pss_cons ?s8 (pss_one ?s9)))))))), ?rd⟩
    case s1 => exact ps_set (i := 2) nd rfl (.inr rfl) pe_str
    case s2 =>
      exact ps_asg (pe_tup (pa_cons (hcall HP hr (pa_cons (pv 0) (pa_cons pe_int pa_nil))) (pa_cons (pe_ix (r := rIxL K) ix_list (pe_lst (pa_cons pe_int (pa_cons pe_int (pa_cons pe_int (pa_cons pe_int (pa_cons pe_int (pa_cons pe_int (pa_cons pe_int pa_nil)))))))) (hcall HP hr (pa_cons (pv 0) (pa_cons pe_int pa_nil))) (fun _ _ => rfl)) pa_nil)))
        (pg_tup rfl (pgs_cons (pg_name (i := 3) nd rfl (.inr rfl)) (pgs_cons (pg_name (i := 4) nd rfl (.inr rfl)) pgs_nil)))
    case s3 =>
      exact ps_par (i := 5) (j := 6) rfl nd rfl rfl (by decide) rfl rfl (pa_cons (hcall HP hr (pa_cons (pv 0) (pa_cons pe_int pa_nil))) (pa_cons (hcall HP hr (pa_cons (pv 0) (pa_cons pe_int pa_nil))) pa_nil)) (by rfl)
    case s4 => exact ps_set (i := 7) nd rfl (.inr rfl) (hcall HP hr (pa_cons (pv 0) (pa_cons (pe_op op_add (pv 6) pe_int) pa_nil)))
    case s5 =>
      exact ps_set (i := 8) nd rfl (.inr rfl) (pe_join pe_str (pe_lc (own := [("_law_k", 9)]) (g := gName 9) rfl nd (pi_range1 (by rfl) mr (pa_cons (pv 6) pa_nil)) (blkOk_by (own := [("_law_k", 9)]) (N := nLNames) (sc := defScope sLNames) (by decide +kernel))
        (fun _ _ _ _ _ => pg_name (i := 9) nd rfl (.inl rfl)) (fun _ _ _ _ _ => pts_nil) (fun _ _ _ _ _ => pe_item_str (pv 2) (hcall HP hr (pa_cons (pv 0) (pa_cons pe_int pa_nil))) (fun _ _ => rfl))))
    case s6 =>
      exact ps_set (i := 10) nd rfl (.inr rfl) (pe_lc (own := [("_law_k", 9)]) (g := gName 9) rfl nd (pi_range1 (by rfl) mr (pa_cons (pv 1) pa_nil)) (blkOk_by (own := [("_law_k", 9)]) (N := nLNames) (sc := defScope sLNames) (by decide +kernel))
        (fun _ _ _ _ _ => pg_name (i := 9) nd rfl (.inl rfl)) (fun _ _ _ _ _ => pts_nil) (fun _ _ _ _ _ => pe_item_str (pv 2) (pe_op op_mod (pe_op op_add (pv 3) (pe_op op_mul (pv 4) (pv 9))) pe_int) (fun _ _ => rfl)))
    case s7 =>
      exact ps_if (PW.pt (pw_and (pt_cmpR op_eq (pv 5) pe_int (nomark _)) (pw_and1 (pt_cmpR op_lt (pv 1) pe_int (nomark _)))))
        (pss_one (ps_ret (pe_lc (own := [("_law_k", 9)]) (g := gName 9) rfl nd (pi_range1 (by rfl) mr (pa_cons (pv 1) pa_nil)) (blkOk_by (own := [("_law_k", 9)]) (N := nLNames) (sc := defScope sLNames) (by decide +kernel))
          (fun _ _ _ _ _ => pg_name (i := 9) nd rfl (.inl rfl)) (fun _ _ _ _ _ => pts_nil) (fun _ _ _ _ _ => pe_op op_mulZ (pe_ix (r := rIxL K) ix_list (pv 10) pe_int (fun _ _ => rfl)) (pe_op op_add (pv 9) pe_int))))) pss_nil
    case s8 =>
      exact ps_if (pt_cmpR op_eq (pv 5) pe_int (nomark _)) (pss_cons (ps_set (i := 11) nd rfl (.inl rfl) (pe_split pe_str pe_str))
        (pss_one (ps_ret (pe_slice sl_list (pe_slice sl_list (pv 11) (po_some (pe_op op_mod (pv 3) (pe_op op_sub pe_int (pv 1)))) po_none) po_none (po_some (pv 1)))))) pss_nil
    case s9 =>
      exact ps_ret (pe_callB cr_sortedS (by rfl) ms (by decide +kernel) (pa_cons (pe_lc (own := [("_law_sign", 12)]) (g := gName 12) rfl nd (pi_list (pv 10)) (blkOk_by (own := [("_law_sign", 12)]) (N := nLNames) (sc := defScope sLNames) (by decide +kernel))
          (fun _ _ _ _ _ => pg_name (i := 12) nd rfl (.inl rfl)) (fun _ _ _ _ _ => pts_nil) (fun _ _ _ _ _ => pe_op op_add_str (pe_op op_add_str (pe_slice sl_str (pv 8) po_none (po_some (pv 7))) (pv 12)) (pe_slice sl_str (pv 8) (po_some (pv 7)) po_none))) pa_nil))
    case rd =>
    have lz : letters.length = 26 := by decide +kernel
    have m63 : ((2 ^ 63) : Int) = 9223372036854775808 := by decide
    have n63 : (-(2 ^ 63) : Int) = -9223372036854775808 := by decide
    refine ⟨_, rfl, p, 26, rfl, d0, by decide, by decide, fun H1 st b1 d1 st0 st1 => ?_⟩
    obtain ⟨fn, rfl⟩ : ∃ z : Nat, st = (z : Int) := ⟨st.toNat, by omega⟩
    have f26' : fn < 26 := by omega
    refine ⟨by show 7 ≤ sizeLine; decide, fun l1 nl1 => ?_⟩
    have nl1p : l1 ≠ p := d1.ne nl1
    have k1 : Gr H1 (upd H1 l1 (.lst [.int 1, .int 3, .int 5, .int 7, .int 9, .int 11, .int 15])) := Gr.new nl1
    have e1 : upd H1 l1 (.lst [.int 1, .int 3, .int 5, .int 7, .int 9, .int 11, .int 15]) l1 = some (.lst [.int 1, .int 3, .int 5, .int 7, .int 9, .int 11, .int 15]) := upd_same
    have d2 := d1.gr k1
    generalize upd H1 l1 (.lst [.int 1, .int 3, .int 5, .int 7, .int 9, .int 11, .int 15]) = H2 at k1 e1 d2 ⊢
    refine ⟨_, rfl, p, 7, rfl, d2, by decide, by decide, fun H3 j b3 d3 j0 j7 => ?_⟩
    have e13 := (Gp.but b3).lst nl1p e1
    obtain ⟨s, es, hs⟩ : ∃ s : Nat, atI [V.int 1, .int 3, .int 5, .int 7, .int 9, .int 11, .int 15] j = some (.int (s : Nat)) ∧ s ∈ [1, 3, 5, 7, 9, 11, 15] := by
      have c : j = 0 ∨ j = 1 ∨ j = 2 ∨ j = 3 ∨ j = 4 ∨ j = 5 ∨ j = 6 := by omega
      rcases c with rfl | rfl | rfl | rfl | rfl | rfl | rfl
      · exact ⟨1, rfl, by decide⟩
      · exact ⟨3, rfl, by decide⟩
      · exact ⟨5, rfl, by decide⟩
      · exact ⟨7, rfl, by decide⟩
      · exact ⟨9, rfl, by decide⟩
      · exact ⟨11, rfl, by decide⟩
      · exact ⟨15, rfl, by decide⟩
    have s15 : s ≤ 15 := by
      simp only [List.mem_cons, List.not_mem_nil, or_false] at hs
      omega
    refine ⟨l1, _, j, _, rfl, rfl, .inl (.inl e13), es, by show 2 ≤ sizeLine; decide, fun t1 n1t => ?_⟩
    have k2 : Gr H3 (upd H3 t1 (.tup [.int (fn : Nat), .int (s : Nat)])) := Gr.new n1t
    have e2 : upd H3 t1 (.tup [.int (fn : Nat), .int (s : Nat)]) t1 = some (.tup [.int (fn : Nat), .int (s : Nat)]) := upd_same
    have d4 := d3.gr k2
    have g04 : Gp p H (upd H3 t1 (.tup [.int (fn : Nat), .int (s : Nat)])) := (((Gp.but b1).trans (Gp.gr k1)).trans (Gp.but b3)).trans (Gp.gr k2)
    generalize upd H3 t1 (.tup [.int (fn : Nat), .int (s : Nat)]) = H4 at k2 e2 d4 g04 ⊢
    refine ⟨t1, _, rfl, .inl (.inl e2), rfl, _, _, rfl, _, _, rfl, rfl, ?_⟩
    clear k1 e1 d2 b3 e13 k2 e2 d3 b1 d1
    refine ⟨_, rfl, p, 4, rfl, d4, by decide, by decide, fun H5 wy b5 d5 wy0 wy4 => ?_⟩
    refine ⟨_, rfl, p, 8, rfl, d5, by decide, by decide, fun H6 sz b6 d6 sz0 sz8 => ?_⟩
    obtain ⟨zn, rfl⟩ : ∃ z : Nat, sz = (z : Int) := ⟨sz.toNat, by omega⟩
    refine ⟨_, _, rfl, ?_⟩
    refine ⟨_, rfl, _, rfl, _, _, rfl, rfl, p, _, rfl, d6, by show 0 < (zn : Int) + 1; omega, by show (zn : Int) + 1 ≤ _; omega, fun H7 a b7 d7 a0 a1 => ?_⟩
    obtain ⟨an, rfl⟩ : ∃ z : Nat, a = (z : Int) := ⟨a.toNat, by omega⟩
    have an1 : an ≤ zn := by
      have a1 : (an : Int) < (zn : Int) + 1 := a1
      omega
    have g07 : Gp p H H7 := ((g04.trans (Gp.but b5)).trans (Gp.but b6)).trans (Gp.but b7)
    clear b5 b6 b7 d5 d6 d4 g04 a0 a1 sz0 st0
    -- the base
    refine ⟨⟨_, rfl⟩, _, rfl, (zn : Nat), rfl, by omega, by omega, fun D nD => ?_⟩
    have nDp : D ≠ p := d7.ne nD
    have hD := g07.back D nDp nD
    refine lc_it (walk_range (lo := 0) (n := ((zn : Nat) : Int).toNat)) (fun i S => ∃ acc : List Str, S D = some (.lst (acc.map V.str)) ∧ acc.length = i ∧ (∀ y ∈ acc, one y) ∧ Gp p H S ∧ Drw S p)
      ⟨[], upd_same, rfl, by simp, g07.trans (Gp.gr (Gr.new nD)), d7.new nD⟩ (fun _ _ _ _ => trivial) ?c1 ?c2
    case c1 =>
      rintro i y S' S hi ⟨acc, eD, la, ho, g, d⟩ ⟨rfl, rfl⟩
      have i8 : i < 8 := by omega
      refine ⟨rfl, tYes_i (iteT ?_)⟩
      refine ⟨_, rfl, _, rfl, p, 26, rfl, d, by decide, by decide, fun S2 c b2 d2 c0 c1 => ?_⟩
      refine ⟨letters, c, 97 + c.toNat, rfl, rfl, c0, by rw [m63]; omega, by rw [lz]; omega, let_is _ (by omega), ?_⟩
      refine ⟨_, (Gp.but b2).lst nDp eD, ?_, acc ++ [LZ c.toNat], ?_, ?_, ?_, ((g.trans (Gp.but b2)).upd_new hD), d2.upd nDp⟩
      · rw [List.length_map]
        exact SfC.small1000 (by omega)
      · rw [upd_same, List.map_append]
        rfl
      · rw [List.length_append, la]
        rfl
      · intro z hz
        rcases List.mem_append.mp hz with h | h
        · exact ho z h
        · rw [List.mem_singleton.mp h]
          exact ⟨_, rfl, let_ok _ (by omega)⟩
    case c2 =>
    rintro S ⟨acc, eD, la, ho, g8, d8⟩
    rw [Int.toNat_natCast] at la
    obtain ⟨jl, jo⟩ := join_let ho
    rw [la] at jl
    refine ⟨_, D, acc, rfl, rfl, .inl (.inl (.inl eD)), ?_, ?_⟩
    · have so : (acc.map (·.length)).sum = acc.length := sum_ones fun y hy => by
        obtain ⟨c, rfl, _⟩ := ho y hy
        rfl
      rw [so]
      show acc.length + acc.length * 0 ≤ _
      omega
    change gName 8 (.str (Txt.join nought acc)) _ _ _
    generalize Txt.join nought acc = bz at jl jo
    clear eD hD nD nDp ho la
    -- signs
    refine ⟨_, rfl, (n : Nat), rfl, by omega, by omega, fun G nG => ?_⟩
    have nGp : G ≠ p := d8.ne nG
    have hG := g8.back G nGp nG
    refine lc_it (walk_range (lo := 0) (n := ((n : Nat) : Int).toNat)) (fun i S' => S' G = some (.lst ((sgs fn s i).map V.str)) ∧ Gr S S') ⟨upd_same, Gr.new nG⟩ (fun _ _ _ _ => trivial) ?e1 ?e2
    case e1 =>
      rintro i y S1' S1 hi ⟨eG, g⟩ ⟨rfl, rfl⟩
      have i8 : i < 8 := by omega
      refine ⟨rfl, tYes_i (iteT ?_)⟩
      obtain ⟨c0, hc0⟩ : ∃ z : Nat, (fn + s * i) % 26 = z := ⟨_, rfl⟩
      have c26 : c0 < 26 := by omega
      have ec : ((fn : Nat) + (s : Nat) * (0 + (i : Nat)) : Int) % 26 = (c0 : Nat) := by
        rw [← hc0]
        simp
      refine ⟨_, rfl, _, rfl, _, rfl, _, rfl, (s : Nat), 0 + (i : Nat), rfl, rfl, cmul_small (by omega) (by omega), _, _, rfl, rfl, _, 26, rfl, rfl, (by show (0 : Int) < 26; decide), ?_⟩
      refine ⟨letters, (c0 : Nat), 97 + c0, rfl, by show V.int (((fn : Nat) + (s : Nat) * (0 + (i : Nat)) : Int) % 26) = _; rw [ec], by omega, by rw [m63]; omega, by rw [lz]; omega, let_is _ (by omega), ?_⟩
      refine ⟨_, eG, ?_, upd_same.trans ?_, g.upd_new nG⟩
      · rw [List.length_map, sgs_len]
        exact SfC.small1000 (by omega)
      · rw [sgs_succ, List.map_append, hc0]
        rfl
    case e2 =>
    rintro S2 ⟨eG, g9⟩
    rw [Int.toNat_natCast] at eG
    have d9 := d8.gr g9
    have gp9 : Gp p H S2 := g8.trans (Gp.gr g9)
    refine gname_go ?_
    -- the ways
    refine ⟨_, rfl, rfl, _, rfl, ite2 (fun c0 => ?_) (fun c0 => ?_)⟩
    · refine ⟨_, rfl, _, _, rfl, rfl, _, rfl, ?_⟩
      rw [decide_eq_true (show ((n : Nat) : Int) < 9 by omega)]
      refine iteT ?_
      refine ⟨_, rfl, (n : Nat), rfl, by omega, by omega, fun l nl => ?_⟩
      have nlp : l ≠ p := d9.ne nl
      have hl := gp9.back l nlp nl
      have ef : ((sgs fn s n).map V.str)[0]? = some (.str (LZ (fn % 26))) := by
        obtain ⟨m, rfl⟩ : ∃ m, n = m + 1 := ⟨n - 1, by omega⟩
        unfold sgs
        rw [List.range_succ_eq_map]
        rfl
      have f26 : fn % 26 < 26 := Nat.mod_lt _ (by decide)
      refine lc_it (walk_range (lo := 0) (n := ((n : Nat) : Int).toNat)) (fun i S' => S' l = some (.lst (((List.range i).map fun k => repS (LZ (fn % 26)) (k + 1)).map V.str)) ∧ Gr S2 S') ⟨upd_same, Gr.new nl⟩ (fun _ _ _ _ => trivial) ?h1 ?h2
      case h1 =>
        rintro i y S' S3 hi ⟨el, g⟩ ⟨rfl, rfl⟩
        have i8 : i < 8 := by omega
        refine ⟨rfl, tYes_i (iteT ?_)⟩
        refine ⟨_, rfl, G, _, 0, _, rfl, rfl, .inl (.inl (g.lst eG)), atI_nat (j := 0) ef, _, rfl, 0 + (i : Nat), 1, rfl, rfl, LZ (fn % 26), i + 1, rfl, by show V.int (0 + (i : Int) + 1) = _; rw [Int.zero_add]; rfl, by omega, ?_, by show 1 ≠ 0; decide, ?_⟩
        · show 1 * (i + 1) ≤ _
          omega
        refine ⟨_, el, ?_, upd_same.trans ?_, g.upd_new nl⟩
        · rw [List.length_map, List.length_map, List.length_range]
          exact SfC.small1000 (by omega)
        · rw [List.range_succ, List.map_append, List.map_append]
          rfl
      case h2 =>
      rintro S3 ⟨el, g⟩
      rw [Int.toNat_natCast] at el
      refine q S3 l _ (gp9.trans (Gp.gr g)) (d9.gr g) hl nlp el (rep_up f26 n8) ?_ (by rw [List.length_map, List.length_range])
      intro z hz
      obtain ⟨k, hk, rfl⟩ := List.mem_map.mp hz
      exact rep_ok _ f26 k (by have := List.mem_range.mp hk; omega)
    · refine ⟨_, rfl, rfl, _, rfl, ite2 (fun c1 => ?_) (fun c1 => ?_)⟩
      · refine ⟨⟨_, rfl⟩, t16, " ", rfl, rfl, by decide +kernel, by decide +kernel, fun l nl => ?_⟩
        rw [split16]
        have g10 : Gr S2 (upd S2 l (.lst (w16.map V.str))) := Gr.new nl
        have e10 : upd S2 l (.lst (w16.map V.str)) l = some (.lst (w16.map V.str)) := upd_same
        generalize upd S2 l (.lst (w16.map V.str)) = S3 at g10 e10 ⊢
        obtain ⟨m, hm⟩ : ∃ m : Nat, ((fn : Nat) : Int) % (17 - (n : Nat)) = (m : Nat) := ⟨(((fn : Nat) : Int) % (17 - (n : Nat))).toNat, by
          have := Int.emod_nonneg ((fn : Nat) : Int) (show (17 - (n : Nat) : Int) ≠ 0 by omega)
          omega⟩
        have hmn : m + n ≤ 16 := by
          have := Int.emod_lt_of_pos ((fn : Nat) : Int) (show (0 : Int) < 17 - (n : Nat) by omega)
          omega
        refine ⟨_, rfl, _, rfl, _, rfl, 17, (n : Nat), rfl, rfl, (fn : Nat), _, rfl, rfl, (by show (0 : Int) < 17 - (n : Nat); omega), m, by show V.int (((fn : Nat) : Int) % (17 - (n : Nat))) = _; rw [hm], l, _, rfl, .inl (.inl e10), fun l2 nl2 => ?_⟩
        have lw : (w16.map V.str).length = 16 := rfl
        rw [cutV_fr _ (by omega)]
        have g11 : Gr S3 (upd S3 l2 (.lst ((w16.map V.str).drop m))) := Gr.new nl2
        have e11 : upd S3 l2 (.lst ((w16.map V.str).drop m)) l2 = some (.lst ((w16.map V.str).drop m)) := upd_same
        generalize upd S3 l2 (.lst ((w16.map V.str).drop m)) = S4 at g11 e11 ⊢
        refine ⟨_, rfl, n, rfl, l2, _, rfl, .inl (.inl e11), fun l3 nl3 => ?_⟩
        rw [cutV_til _ (by rw [List.length_drop]; omega)]
        have g12 : Gr S2 S4 := g10.trans g11
        have d12 := d9.gr g12
        have nl3p : l3 ≠ p := d12.ne nl3
        have e12 : ((w16.map V.str).drop m).take n = ((w16.drop m).take n).map V.str := by rw [List.map_take, List.map_drop]
        rw [e12]
        have sub : ((w16.drop m).take n).Sublist w16 := (List.take_sublist _ _).trans (List.drop_sublist _ _)
        refine q _ l3 ((w16.drop m).take n) ((gp9.trans (Gp.gr g12)).trans (Gp.gr (Gr.new nl3))) (d12.new nl3) ((gp9.trans (Gp.gr g12)).back l3 nl3p nl3) nl3p upd_same (w16_up.sublist sub) (fun z hz => w16_ok z (sub.subset hz)) ?_
        rw [List.length_take, List.length_drop]
        show min n (16 - m) = n
        omega
      · have bl : an ≤ bz.length := by omega
        refine ⟨_, rfl, G, rfl, ⟨_, .inl (.inl eG)⟩, fun l nl => ?_⟩
        refine lc_it (walk_list (xs := (sgs fn s n).map V.str)) (fun i S' => S' l = some (.lst ((((sgs fn s n).take i).map (midN bz an)).map V.str)) ∧ Gr S2 S') ⟨upd_same, Gr.new nl⟩ ?h0 ?h1 ?h2
        case h0 =>
          rintro i S' hi ⟨_, g⟩
          exact .inl (.inl (g.lst eG))
        case h1 =>
          rintro i y S' S3 hi ⟨el, g⟩ ⟨rfl, hy⟩
          rw [List.getElem?_map] at hy
          obtain ⟨z, hz, rfl⟩ := Option.map_eq_some_iff.mp hy
          obtain ⟨c, c26, rfl⟩ := sgs_one z (List.mem_of_getElem? hz)
          refine ⟨rfl, tYes_i (iteT ?_)⟩
          have l1 : (cutS bz none (some (an : Int))).length ≤ 7 := by
            rw [SfC.len_list, cut_lo bl, List.length_take]
            omega
          have l2 : (cutS bz (some (an : Int)) none).length ≤ 7 := by
            rw [SfC.len_list, cut_hi bl, List.length_drop, ← SfC.len_list]
            omega
          have lc1 : (LZ c).length = 1 := rfl
          refine ⟨_, rfl, _, rfl, an, rfl, bz, rfl, by rw [sizeLine_eq]; omega, _, rfl, _, _, rfl, rfl, by rw [lc1, sizeLine_eq]; omega, _, rfl, _, rfl, an, rfl, bz, rfl, by rw [sizeLine_eq]; omega, _, _, rfl, rfl, ?_, ?_⟩
          · rw [app_len, lc1, sizeLine_eq]
            omega
          refine ⟨_, el, ?_, upd_same.trans ?_, g.upd_new nl⟩
          · rw [List.length_map, List.length_map, List.length_take, sgs_len]
            exact SfC.small1000 (by omega)
          · rw [List.take_add_one, hz, List.map_append, List.map_append]
            rfl
        case h2 =>
        rintro S3 ⟨el, g⟩
        rw [List.length_map, List.take_length] at el
        have d10 := d9.gr g
        refine ⟨l, _, rfl, .inl (.inl el), by rw [List.length_map, sgs_len]; omega, fun ys l2 pm so nl2 => ?_⟩
        have nl2p : l2 ≠ p := d10.ne nl2
        have gp10 := gp9.trans (Gp.gr g)
        refine q _ l2 ys (gp10.trans (Gp.gr (Gr.new nl2))) (d10.new nl2) (gp10.back l2 nl2p nl2) nl2p upd_same (sorted_up so pm (mid_nd bl (sgs_nd f26' hs n8))) (fun z hz => ?_) ?_
        · obtain ⟨z', hz', rfl⟩ := List.mem_map.mp (pm.mem_iff.mp hz)
          obtain ⟨c, c26, rfl⟩ := sgs_one z' hz'
          exact mid_ok bl (by omega) jo c26
        · rw [pm.length_eq, List.length_map, sgs_len]
end
end SfM
namespace SfM
open PySem PySem.Spec PyProof.Rows L2 SfG SfC
/-! ### a list that is changed: what deeds are stays -/
theorem de_lst {K : PySem.W.Frag} {H : Hp} {l : Addr} {xs zs : List V} {x : V} {e : De} (hl : H l = some (.lst xs)) (h : Dp K H x e.d) : Dp K (upd H l (.lst zs)) x e.d := by
  obtain ⟨p, a, b, c, rfl, hp, ha, hb, hc⟩ := dp_3 h
  cases dp_str ha
  cases dp_kn hc
  obtain ⟨pt, ts, rfl, hpt, hts⟩ := dp_tup hb
  cases dpA_kns hts
  refine .tup (kt_lst hl hp) (.cons (.str _) (.cons (.tup (kt_lst hl hpt) ?_) (.cons ?_ .nil)))
  · generalize e.tk = l'
    induction l' with
    | nil => exact .nil
    | cons k r ih =>
      refine .cons ?_ ih
      cases k with
      | h s => exact .str s
      | p n => exact .int n
  · generalize e.gv = k
    cases k with
    | h s => exact .str s
    | p n => exact .int n
theorem des_lst {K : PySem.W.Frag} {H : Hp} {l : Addr} {xs zs : List V} (hl : H l = some (.lst xs)) : ∀ {es : List De} {ys : List V}, DpAll K H ys (es.map De.d) → DpAll K (upd H l (.lst zs)) ys (es.map De.d)
  | [], _, h => by
    cases h
    exact .nil
  | e :: r, _, h => by
    obtain ⟨x, t, rfl, hx, ht⟩ := dpA_cons h
    exact .cons (de_lst hl hx) (des_lst hl ht)
theorem dp_kv {K : PySem.W.Frag} {H : Hp} (k : Kn) : Dp K H k.v k.d := by
  cases k with
  | h s => exact .str s
  | p n => exact .int n
theorem dpA_kv {K : PySem.W.Frag} {H : Hp} : ∀ l : List Kn, DpAll K H (l.map Kn.v) (l.map Kn.d)
  | [] => .nil
  | k :: r => .cons (dp_kv k) (dpA_kv r)
theorem dpA_sv {K : PySem.W.Frag} {H : Hp} : ∀ l : List Str, DpAll K H (l.map V.str) (l.map PyData.str)
  | [] => .nil
  | k :: r => .cons (.str k) (dpA_sv r)
theorem flat_kn (k : Kn) : flatV k.v = true := by
  cases k <;> rfl
theorem in_kn {hd : List Str} {k : Kn} (h : goK hd k) : inV k.v (hd.map V.str) = k.isH := by
  cases k with
  | h s => exact inV_mem h
  | p n =>
    show inV (.int n) (hd.map V.str) = false
    unfold inV
    rw [List.any_map]
    exact List.any_eq_false.mpr fun y hy => by simp [eqV]
/-! ### kinds and faces that are drawn -/
abbrev nLKind : List Str := ["_law_state", "_law_hidden", "_law_way"]
theorem scLKind : FnScope nLKind ["_law_state", "_law_hidden"] (defScope sLKind) := ⟨rfl, rfl, rfl, by decide +kernel, rfl, by decide +kernel, by decide +kernel⟩
abbrev nFace : List Str := ["_law_state", "_law_most", "_law_hidden", "_law_deeds", "_law_name", "_law_takes", "_law_k", "_law_kind_here", "_law_one"]
theorem scFace : FnScope nFace ["_law_state", "_law_most"] (defScope sLFace) := ⟨rfl, rfl, rfl, by decide +kernel, rfl, by decide +kernel, by decide +kernel⟩
section
variable {P : Program} {w : World} {K : PySem.W.Frag} {mg : Str → Option Value} {base : Heap}
def spLKind (K : PySem.W.Frag) : Sp := fun vs H Q _ => ∃ (p ph : Addr) (hd : List Str), vs = [.ref p, .ref ph] ∧ SqT K H ph (hd.map V.str) ∧ 1 ≤ hd.length ∧ hd.length ≤ 2 ∧ Drw H p ∧
  ∀ H' (k : Kn), Gp p H H' → Drw H' p → goK hd k → Q k.v H'
theorem ok_lkind {f fP : Addr} {fd dP : FuncData} {k : Nat} (F : Fun K "_law_kind" "_law_kind" sLKind f fd) (HP : Has P w K mg base k "_law_pick" ["_law_state", "_law_many"] spPick fP dP) (ml : mg "len" = none) : FnOk P w K mg base CX0 (k + 1) f fd ["_law_state", "_law_hidden"] (spLKind K) := by
  refine F.ok scLKind (fun vs H Q E h => ?_) (fun cdv A outer s H vs Q E hr h => ?_)
  · obtain ⟨p, ph, hd, rfl, _⟩ := h
    rfl
  · obtain ⟨p, ph, hd, rfl, hph, h1, h2, dr, q⟩ := h
    have nd := scLKind.nd
    refine' ⟨_, pss_cons ?s1 (pss_cons ?s2 (pss_one ?s3)), ?rd⟩
    case s1 => exact ps_set (i := 2) nd rfl (.inl rfl) (hcall HP hr (pa_cons (pv 0) (pa_cons pe_int pa_nil)))
    case s2 => exact ps_if (pt_cmpR op_lt (pv 2) pe_int (nomark _)) (pss_one (ps_ret (pe_ix ix_tup (pv 1) (hcall HP hr (pa_cons (pv 0) (pa_cons (pe_callB call_len_seq (by rfl) ml PySem.boot_len (pa_cons (pv 1) pa_nil)) pa_nil))) (fun _ _ => rfl)))) pss_nil
    case s3 => exact ps_ret (pe_ifExp (pt_cmpR op_eq (pv 2) pe_int (nomark _)) (pe_op op_add pe_int (hcall HP hr (pa_cons (pv 0) (pa_cons pe_int pa_nil)))) (pe_ix (r := rIxL K) ix_list (pe_lst (pa_cons pe_int (pa_cons pe_int pa_nil))) (pe_op op_sub (pv 2) pe_int) (fun _ _ => rfl)))
    case rd =>
    refine ⟨_, rfl, p, 6, rfl, dr, by decide, by decide, fun H1 d b1 dr1 d0 d6 => ?_⟩
    have kd1 := dr.kd (K := K) (Gp.but b1)
    refine ⟨_, rfl, _, 3, rfl, rfl, _, rfl, ite2 (fun e => ?_) (fun e => ?_)⟩
    · refine ⟨_, rfl, _, rfl, _, rfl, ph, _, rfl, .inr (kd1.t hph), p, _, rfl, dr1, by rw [List.length_map]; omega, by rw [List.length_map]; omega, fun H2 i b2 dr2 i0 i1 => ?_⟩
      rw [List.length_map] at i1
      have hi : i.toNat < hd.length := by omega
      have kd2 := dr1.kd (K := K) (Gp.but b2)
      refine ⟨ph, _, i, .str hd[i.toNat], rfl, rfl, kd2.t (kd1.t hph), ?_, q H2 (.h hd[i.toNat]) ((Gp.but b1).trans (Gp.but b2)) dr2 (List.getElem_mem hi)⟩
      have := atI_nat (xs := hd.map V.str) (j := i.toNat) (by rw [List.getElem?_map, List.getElem?_eq_getElem hi]; rfl)
      rw [Int.toNat_of_nonneg i0] at this
      exact this
    · have d3 : ¬ d < 3 := fun h => e (decide_eq_true h)
      refine ⟨_, rfl, rfl, _, rfl, ite2 (fun e5 => ?_) (fun e5 => ?_)⟩
      · refine ⟨_, rfl, p, 8, rfl, dr1, by decide, by decide, fun H2 i b2 dr2 i0 i8 => ⟨2, i, rfl, rfl, ?_⟩⟩
        exact q H2 (.p (2 + i)) ((Gp.but b1).trans (Gp.but b2)) dr2 ⟨by omega, by omega⟩
      · have n5 : d ≠ 5 := fun h => e5 (decide_eq_true (by rw [h]))
        refine ⟨by show 2 ≤ sizeLine; decide, fun l nl => ?_⟩
        have c : d = 3 ∨ d = 4 := by omega
        have gp : Gp p H (upd H1 l (.lst [.int 2, .int 9])) := (Gp.but b1).trans (Gp.gr (Gr.new nl))
        rcases c with rfl | rfl
        · exact ⟨_, rfl, 3, 3, rfl, rfl, l, _, 0, .int 2, rfl, rfl, .inl (.inl upd_same), rfl, q _ (.p 2) gp (dr1.new nl) ⟨by decide, by decide⟩⟩
        · exact ⟨_, rfl, 4, 3, rfl, rfl, l, _, 1, .int 9, rfl, rfl, .inl (.inl upd_same), rfl, q _ (.p 9) gp (dr1.new nl) ⟨by decide, by decide⟩⟩
end
end SfM
namespace SfM
open PySem PySem.Spec PyProof.Rows L2 SfG SfC
section
variable {P : Program} {w : World} {K : PySem.W.Frag} {mg : Str → Option Value} {base : Heap}
def spLFace (K : PySem.W.Frag) : Sp := fun vs H Q _ => ∃ (p : Addr) (m : Nat), vs = [.ref p, .int (m : Nat)] ∧ 1 ≤ m ∧ m ≤ 8 ∧ Drw H p ∧ ∀ H' v f, Gp p H H' → Drw H' p → Dp K H' v (Fc.d f) → goF f → Q v H'
set_option maxHeartbeats 4000000 in
theorem ok_lface {f fP fN fK : Addr} {fd dP dN dK : FuncData} {k : Nat} (F : Fun K "_law_face" "_law_face" sLFace f fd) (HP : Has P w K mg base k "_law_pick" ["_law_state", "_law_many"] spPick fP dP)
    (HN : Has P w K mg base k "_law_names" ["_law_state", "_law_many"] (spLNames K) fN dN) (HK : Has P w K mg base k "_law_kind" ["_law_state", "_law_hidden"] (spLKind K) fK dK)
    (mr : mg "range" = none) (ml : mg "len" = none) (mt : mg "tuple" = none) : FnOk P w K mg base CX0 (k + 1) f fd ["_law_state", "_law_most"] (spLFace K) := by
  refine F.ok scFace (fun vs H Q E h => ?_) (fun cdv A outer s H vs Q E hr h => ?_)
  · obtain ⟨p, m, rfl, _⟩ := h
    rfl
  · obtain ⟨p, m, rfl, m1, m8, dr, q⟩ := h
    have nd := scFace.nd
    refine' ⟨_, pss_cons ?s1 (pss_cons ?s2 (pss_cons ?s3 (pss_one ?s4))), ?rd⟩
    case s1 => exact ps_set (i := 2) nd rfl (.inr rfl) (pe_callTy call_tuple_of (by rfl) mt (by decide +kernel) (pa_cons (hcall HN hr (pa_cons (pv 0) (pa_cons (pe_op op_add pe_int (hcall HP hr (pa_cons (pv 0) (pa_cons pe_int pa_nil)))) pa_nil))) pa_nil))
    case s2 => exact ps_set (i := 3) nd rfl (.inl rfl) (pe_lst pa_nil)
    case s3 =>
      refine' ps_for PassesOwn.never rfl (pi_list (hcall HN hr (pa_cons (pv 0) (pa_cons (pe_op op_add pe_int (hcall HP hr (pa_cons (pv 0) (pa_cons (pv 1) pa_nil)))) pa_nil)))) (pg_name (i := 4) nd rfl (.inl rfl)) (pss_cons ?b1 (pss_cons ?b2 (pss_one ?b3)))
      case b1 => exact ps_set (i := 5) nd rfl (.inl rfl) (pe_lst pa_nil)
      case b2 =>
        refine' ps_for PassesOwn.never rfl (pi_range1 (by rfl) mr (pa_cons (hcall HP hr (pa_cons (pv 0) (pa_cons pe_int pa_nil))) pa_nil)) (pg_name (i := 6) nd rfl (.inl rfl)) (pss_cons ?c1 (pss_one ?c2))
        case c1 => exact ps_set (i := 7) nd rfl (.inl rfl) (hcall HK hr (pa_cons (pv 0) (pa_cons (pv 2) pa_nil)))
        case c2 =>
          exact ps_expr (pe_bm PySem.F.plainAttrs_list PySem.F.slot_list_append PySem.F.type_list_append mt_append (pv 5) (pa_cons (pe_ifExp (pt_cmpR op_gt (pe_callB call_len_seq (by rfl) ml PySem.boot_len (pa_cons
            (pe_lc (own := [("_law_one", 8)]) (g := gName 8) rfl nd (pi_list (pe_op op_cat (pv 5) (pe_lst (pa_cons (pv 7) pa_nil)))) (blkOk_by (own := [("_law_one", 8)]) (N := nFace) (sc := defScope sLFace) (by decide +kernel)) (fun _ _ _ _ _ => pg_name (i := 8) nd rfl (Or.inl rfl))
              (fun _ _ _ _ _ => pts_one (pt_cmpR (r := rIn K false) op_in_seq (pv 8) (pv 2) rfl)) (fun _ _ _ _ _ => pv 8)) pa_nil)) pe_int (nomark _)) pe_int (pv 7)) pa_nil))
      case b3 =>
        exact ps_expr (pe_bm PySem.F.plainAttrs_list PySem.F.slot_list_append PySem.F.type_list_append mt_append (pv 3) (pa_cons (pe_tup (pa_cons (pv 4) (pa_cons (pe_callTy call_tuple_of (by rfl) mt (by decide +kernel) (pa_cons (pv 5) pa_nil)) (pa_cons (hcall HK hr (pa_cons (pv 0) (pa_cons (pv 2) pa_nil))) pa_nil)))) pa_nil))
    case s4 => exact ps_ret (pe_tup (pa_cons (pv 2) (pa_cons (pe_callTy call_tuple_of (by rfl) mt (by decide +kernel) (pa_cons (pv 3) pa_nil)) pa_nil)))
    case rd =>
    -- hidden
    refine ⟨_, rfl, _, rfl, p, 2, rfl, dr, by decide, by decide, fun H1 d b1 dr1 d0 d2 => ?_⟩
    refine ⟨1, d, rfl, rfl, ?_⟩
    have c1 : (1 : Int) + d = (((1 + d).toNat : Nat) : Int) := by omega
    refine ⟨p, (1 + d).toNat, (by show [V.ref p, V.int (1 + d)] = [V.ref p, V.int (((1 + d).toNat : Nat) : Int)]; rw [← c1]), dr1, by omega, by omega, fun H2 l hd g2 dr2 nl nlp0 hl up hn hlen => ?_⟩
    have h1 : 1 ≤ hd.length := by omega
    have h2 : hd.length ≤ 2 := by omega
    refine ⟨l, _, rfl, .inl ⟨.inl (.inl hl), fun ph nph => ?_⟩⟩
    have gp3 : Gp p H (upd H2 ph (.tup (hd.map V.str))) := ((Gp.but b1).trans g2).trans (Gp.gr (Gr.new nph))
    have dr3 : Drw (upd H2 ph (.tup (hd.map V.str))) p := dr2.new nph
    have hph : upd H2 ph (.tup (hd.map V.str)) ph = some (.tup (hd.map V.str)) := upd_same
    have gh : goH hd := ⟨h1, h2, hn, up⟩
    generalize upd H2 ph (.tup (hd.map V.str)) = H3 at gp3 dr3 hph ⊢
    clear hl nl nph g2 dr2 b1 dr1
    refine ⟨Nat.zero_le _, fun dl ndl => ?_⟩
    have ndp : dl ≠ p := dr3.ne ndl
    -- names of deeds
    refine ⟨_, rfl, _, rfl, _, rfl, p, m, rfl, dr3.new ndl, by omega, by omega, fun H4 d4 b4 dr4 e0 e1 => ?_⟩
    refine ⟨1, d4, rfl, rfl, ?_⟩
    have c4 : (1 : Int) + d4 = (((1 + d4).toNat : Nat) : Int) := by omega
    refine ⟨p, (1 + d4).toNat, (by show [V.ref p, V.int (1 + d4)] = [V.ref p, V.int (((1 + d4).toNat : Nat) : Int)]; rw [← c4]), dr4, by omega, by omega, fun H5 nl ns g5 dr5 nnl nlp hnl upn hnn nlen => ?_⟩
    have n1 : 1 ≤ ns.length := by omega
    have gp5 : Gp p H3 H5 := ((Gp.gr (Gr.new ndl)).trans (Gp.but b4)).trans g5
    have hdl5 : H5 dl = some (.lst []) := g5.lst ndp ((b4 dl ndp).trans upd_same)
    have php : ph ≠ p := dr3.ne2 hph
    have hph5 : H5 ph = some (.tup (hd.map V.str)) := gp5.keep ph _ php hph (fun _ z => by cases z)
    have hne : nl ≠ dl := by
      intro z
      rw [z] at nnl
      have z2 := (b4 dl ndp).trans (upd_same (H := H3) (a := dl) (o := .lst []))
      rw [nnl] at z2
      cases z2
    have gpF : Gp p H H5 := gp3.trans gp5
    have ndlH : H dl = none := gp3.back dl ndp ndl
    clear b4 dr4 g5 gp5
    have n8 : ns.length ≤ 8 := by omega
    refine ⟨nl, rfl, ⟨_, .inl (.inl hnl)⟩, ?_⟩
    refine for_it (walk_list (xs := ns.map V.str)) (fun i σ H6 => ∃ (es : List De) (xs : List V) (y4 y5 y6 y7 : Option V), σ = [some (.ref p), some (.int (m : Nat)), some (.ref ph), some (.ref dl), y4, y5, y6, y7, none] ∧
      H6 dl = some (.lst xs) ∧ DpAll K H6 xs (es.map De.d) ∧ es.map De.nm = ns.take i ∧ (∀ e ∈ es, goD hd e) ∧ H6 nl = some (.lst (ns.map V.str)) ∧ H6 ph = some (.tup (hd.map V.str)) ∧ Gp p H H6 ∧ Drw H6 p)
      ⟨[], [], none, none, none, none, rfl, hdl5, .nil, rfl, by simp, hnl, hph5, gpF, dr5⟩ ?h1 ?h2 ?h3
    case h1 =>
      rintro i σ H6 hi ⟨es, xs, y4, y5, y6, y7, rfl, _, _, _, _, hn6, _⟩
      exact .inl (.inl hn6)
    case h3 =>
      rintro σ H6 ⟨es, xs, y4, y5, y6, y7, rfl, hd6, da6, nm6, ok6, hn6, hp6, g6, dr6⟩
      rw [List.length_map, List.take_length] at nm6
      have les : es.length = ns.length := by rw [← nm6, List.length_map]
      refine ⟨_, rfl, _, rfl, dl, _, rfl, .inl ⟨.inl (.inl hd6), fun td ntd => ?_⟩⟩
      have g7 : Gr H6 (upd H6 td (.tup xs)) := Gr.new ntd
      have e7 : upd H6 td (.tup xs) td = some (.tup xs) := upd_same
      generalize upd H6 td (.tup xs) = H7 at g7 e7 ⊢
      refine ⟨by show 2 ≤ sizeLine; decide, fun tf ntf => ?_⟩
      have g8 : Gr H7 (upd H7 tf (.tup [.ref ph, .ref td])) := Gr.new ntf
      refine q _ (.ref tf) ⟨hd, es⟩ (g6.trans (Gp.gr (g7.trans g8))) ((dr6.gr g7).gr g8) ?_ ?_
      · exact .tup (.inl (.inl upd_same)) (.cons (.tup (.inl (.inl (g8.tup (g7.tup hp6)))) (dpA_sv hd)) (.cons (.tup (.inl (.inl (g8.tup e7))) ((g7.trans g8).kd.dpA da6)) .nil))
      · exact ⟨gh, by show 1 ≤ es.length; omega, by show es.length ≤ 8; omega, by show (es.map De.nm).Pairwise lt; rw [nm6]; exact upn, ok6⟩
    case h2 =>
      rintro i x σ H6' H6 hi ⟨es, xs, y4, y5, y6, y7, rfl, hd6, da6, nm6, ok6, hn6, hp6, g6, dr6⟩ ⟨rfl, hx⟩
      rw [List.length_map] at hi
      rw [List.getElem?_map] at hx
      obtain ⟨nm, hnm, rfl⟩ := Option.map_eq_some_iff.mp hx
      have gnm := hnn nm (List.mem_of_getElem? hnm)
      have lxs : xs.length ≤ 8 := by
        have a1 := dpA_len da6
        rw [List.length_map] at a1
        have a2 : es.length = (ns.take i).length := by rw [← nm6, List.length_map]
        rw [List.length_take] at a2
        omega
      -- takes
      refine ⟨Nat.zero_le _, fun tl ntl => ?_⟩
      have ntp : tl ≠ p := dr6.ne ntl
      refine ⟨_, rfl, p, 4, rfl, dr6.new ntl, by decide, by decide, fun H7 d7 b7 dr7 f0 f4 => ?_⟩
      have gp7 : Gp p H6 H7 := (Gp.gr (Gr.new ntl)).trans (Gp.but b7)
      have htl7 : H7 tl = some (.lst []) := (b7 tl ntp).trans upd_same
      refine ⟨_, rfl, by omega, by omega, ?_⟩
      refine for_it (walk_range (lo := 0) (n := d7.toNat)) (fun j σ H8 => ∃ (ks : List Kn) (y6 y7 : Option V), σ = [some (.ref p), some (.int (m : Nat)), some (.ref ph), some (.ref dl), some (.str nm), some (.ref tl), y6, y7, none] ∧
        H8 tl = some (.lst (ks.map Kn.v)) ∧ ks.length = j ∧ (∀ k ∈ ks, goK hd k) ∧ hidN ks ≤ 2 ∧ Gp p H6 H8 ∧ Drw H8 p)
        ⟨[], _, _, rfl, htl7, rfl, by simp, by decide, gp7, dr7⟩ (fun _ _ _ _ _ => trivial) ?i2 ?i3
      case i2 =>
        rintro j x σ H8' H8 hj ⟨ks, z6, z7, rfl, ht8, lk, gk8, hk8, g8, dr8⟩ ⟨rfl, rfl⟩
        have hp8 : H8 ph = some (.tup (hd.map V.str)) := g8.keep ph _ php hp6 (fun _ z => by cases z)
        refine ⟨_, rfl, _, rfl, p, ph, hd, rfl, .inl (.inl hp8), gh.lo, gh.hi, dr8, fun H9 kn g9 dr9 gkn => ?_⟩
        have ht9 : H9 tl = some (.lst (ks.map Kn.v)) := g9.lst ntp ht8
        have hp9 : H9 ph = some (.tup (hd.map V.str)) := g9.keep ph _ php hp8 (fun _ z => by cases z)
        -- how many are hidden with it
        refine ⟨_, rfl, .inl ⟨rfl, _, .inl (.inl ht9)⟩, _, rfl, _, rfl, by show 1 ≤ sizeLine; decide, fun l1 nl1 => ?_⟩
        have gl1 : Gr H9 (upd H9 l1 (.lst [kn.v])) := Gr.new nl1
        have el1 : upd H9 l1 (.lst [kn.v]) l1 = some (.lst [kn.v]) := upd_same
        generalize upd H9 l1 (.lst [kn.v]) = HA at gl1 el1 ⊢
        refine ⟨tl, l1, _, _, rfl, rfl, gl1.lst ht9, el1, by rw [List.length_map, sizeLine_eq]; show ks.length + 1 ≤ _; omega, fun l2 nl2 => ?_⟩
        have gl2 : Gr HA (upd HA l2 (.lst (ks.map Kn.v ++ [kn.v]))) := Gr.new nl2
        have el2 : upd HA l2 (.lst (ks.map Kn.v ++ [kn.v])) l2 = some (.lst ((ks ++ [kn]).map Kn.v)) := by rw [upd_same, List.map_append]; rfl
        generalize upd HA l2 (.lst (ks.map Kn.v ++ [kn.v])) = H10 at gl2 el2 ⊢
        have g10 : Gp p H8 H10 := g9.trans (Gp.gr (gl1.trans gl2))
        have dr10 := dr9.gr (gl1.trans gl2)
        have ht10 := (gl1.trans gl2).lst ht9
        have hp10 := (gl1.trans gl2).tup hp9
        have gkA : ∀ k ∈ ks ++ [kn], goK hd k := by
          intro k hk
          rcases List.mem_append.mp hk with h | h
          · exact gk8 k h
          · have : k = kn := by simpa using h
            rw [this]
            exact gkn
        have lkA : (ks ++ [kn]).length = j + 1 := by rw [List.length_append, lk]; rfl
        refine ⟨l2, rfl, ⟨_, .inl (.inl el2)⟩, fun D nD => ?_⟩
        have gD : ∀ o, Gr H10 (upd H10 D o) := fun o => Gr.new nD
        refine lc_it (walk_list (xs := (ks ++ [kn]).map Kn.v)) (fun a H11 => H11 = upd H10 D (.lst ((((ks ++ [kn]).take a).filter Kn.isH).map Kn.v))) rfl ?l0 ?l1 ?l2
        case l0 =>
          rintro a H11 ha rfl
          exact .inl (.inl ((gD _).lst el2))
        case l1 =>
          rintro a v H11 H11' ha rfl ⟨rfl, hv⟩
          rw [List.getElem?_map] at hv
          obtain ⟨ka, hka, rfl⟩ := Option.map_eq_some_iff.mp hv
          refine ⟨rfl, _, rfl, _, rfl, ph, _, rfl, .inr (.inl (.inl ((gD _).tup hp10))), flat_kn ka, flat_strs hd, _, rfl, ?_⟩
          show if inV ka.v (hd.map V.str) = true then _ else _
          rw [in_kn (gkA ka (List.mem_of_getElem? hka))]
          have ek : ((ks ++ [kn]).take (a + 1)).filter Kn.isH = ((ks ++ [kn]).take a).filter Kn.isH ++ (if ka.isH = true then [ka] else []) := by
            rw [List.take_add_one, hka, List.filter_append]
            cases h : ka.isH <;> simp [h]
          cases h : ka.isH with
          | true =>
            rw [h] at ek
            refine iteT ⟨_, rfl, _, upd_same, ?_, ?_⟩
            · rw [List.length_map]
              have a1 := List.length_filter_le Kn.isH ((ks ++ [kn]).take a)
              rw [List.length_take] at a1
              exact SfC.small1000 (by omega)
            · rw [upd_upd, ek, List.map_append]
              rfl
          | false =>
            rw [h] at ek
            refine iteF ?_
            show _ = _
            rw [ek, if_neg (by decide), List.append_nil]
        case l2 =>
        rintro H11 rfl
        rw [List.length_map, List.take_length]
        refine ⟨D, _, rfl, .inl (.inl (.inl upd_same)), _, 2, rfl, rfl, _, rfl, ?_⟩
        rw [List.length_map, show ((ks ++ [kn]).filter Kn.isH).length = hidN (ks ++ [kn]) from rfl]
        have g11 : Gp p H8 (upd H10 D (.lst (((ks ++ [kn]).filter Kn.isH).map Kn.v))) := g10.trans (Gp.gr (gD _))
        have ht11 := (gD (.lst (((ks ++ [kn]).filter Kn.isH).map Kn.v))).lst ht10
        have dr11 : Drw (upd H10 D (.lst (((ks ++ [kn]).filter Kn.isH).map Kn.v))) p := dr10.new nD
        generalize upd H10 D (.lst (((ks ++ [kn]).filter Kn.isH).map Kn.v)) = H11 at g11 ht11 dr11 ⊢
        have fin : ∀ kz : Kn, goK hd kz → hidN (ks ++ [kz]) ≤ 2 → ∃ (ks' : List Kn) (y6 y7 : Option V), [some (V.ref p), some (V.int (m : Nat)), some (.ref ph), some (.ref dl), some (.str nm), some (.ref tl), some (.int (0 + (j : Nat))), some kn.v, none] = [some (.ref p), some (.int (m : Nat)), some (.ref ph), some (.ref dl), some (.str nm), some (.ref tl), y6, y7, none] ∧
            upd H11 tl (.lst (ks.map Kn.v ++ [kz.v])) tl = some (.lst (ks'.map Kn.v)) ∧ ks'.length = j + 1 ∧ (∀ k ∈ ks', goK hd k) ∧ hidN ks' ≤ 2 ∧ Gp p H6 (upd H11 tl (.lst (ks.map Kn.v ++ [kz.v]))) ∧ Drw (upd H11 tl (.lst (ks.map Kn.v ++ [kz.v]))) p := by
          intro kz gz hz
          refine ⟨ks ++ [kz], _, _, rfl, ?_, ?_, ?_, hz, (g8.trans g11).upd_new ntl, dr11.upd ntp⟩
          · rw [upd_same, List.map_append]
            rfl
          · rw [List.length_append, lk]
            rfl
          · intro k hk
            rcases List.mem_append.mp hk with h | h
            · exact gk8 k h
            · have : k = kz := by simpa using h
              rw [this]
              exact gz
        have szt : (ks.map Kn.v).length < sizeLine := by
          rw [List.length_map]
          exact SfC.small1000 (by omega)
        by_cases h2 : hidN (ks ++ [kn]) > 2
        · rw [decide_eq_true (show ((hidN (ks ++ [kn]) : Nat) : Int) > 2 by omega)]
          refine iteT ⟨tl, _, _, rfl, rfl, ht11, szt, ?_⟩
          refine fin (.p 2) ⟨by decide, by decide⟩ ?_
          rw [hidN_snoc]
          show hidN ks + 0 ≤ 2
          omega
        · rw [decide_eq_false (show ¬ ((hidN (ks ++ [kn]) : Nat) : Int) > 2 by omega)]
          refine iteF ⟨_, rfl, tl, _, _, rfl, rfl, ht11, szt, ?_⟩
          exact fin kn gkn (by omega)
      case i3 =>
        rintro σ H8 ⟨ks, z6, z7, rfl, ht8, lk, gk8, hk8, g8, dr8⟩
        have hd8 : H8 dl = some (.lst xs) := g8.lst ndp hd6
        have hp8 : H8 ph = some (.tup (hd.map V.str)) := g8.keep ph _ php hp6 (fun _ z => by cases z)
        refine ⟨_, rfl, .inl ⟨rfl, _, .inl (.inl hd8)⟩, _, rfl, _, rfl, tl, _, rfl, .inl ⟨.inl (.inl ht8), fun tt ntt => ?_⟩⟩
        have g9 : Gr H8 (upd H8 tt (.tup (ks.map Kn.v))) := Gr.new ntt
        have e9 : upd H8 tt (.tup (ks.map Kn.v)) tt = some (.tup (ks.map Kn.v)) := upd_same
        generalize upd H8 tt (.tup (ks.map Kn.v)) = H9 at g9 e9 ⊢
        have dr9 := dr8.gr g9
        refine ⟨_, rfl, _, rfl, p, ph, hd, rfl, .inl (.inl (g9.tup hp8)), gh.lo, gh.hi, dr9, fun H10 kn g10 dr10 gkn => ?_⟩
        have ttp : tt ≠ p := dr9.ne2 e9
        have e10 : H10 tt = some (.tup (ks.map Kn.v)) := g10.keep tt _ ttp e9 (fun _ z => by cases z)
        refine ⟨by show 3 ≤ sizeLine; decide, fun te nte => ?_⟩
        have g11 : Gr H10 (upd H10 te (.tup [.str nm, .ref tt, kn.v])) := Gr.new nte
        have e11 : upd H10 te (.tup [.str nm, .ref tt, kn.v]) te = some (.tup [.str nm, .ref tt, kn.v]) := upd_same
        generalize upd H10 te (.tup [.str nm, .ref tt, kn.v]) = H11 at g11 e11 ⊢
        have gA : Gp p H6 H11 := (g8.trans (Gp.gr g9)).trans (g10.trans (Gp.gr g11))
        have hd11 : H11 dl = some (.lst xs) := gA.lst ndp hd6
        have hn11 : H11 nl = some (.lst (ns.map V.str)) := gA.lst nlp hn6
        have hp11 : H11 ph = some (.tup (hd.map V.str)) := gA.keep ph _ php hp6 (fun _ z => by cases z)
        have dr11 : Drw H11 p := dr10.gr g11
        have new : Dp K H11 (.ref te) (De.d ⟨nm, ks, kn⟩) := .tup (.inl (.inl e11)) (.cons (.str nm) (.cons (.tup (.inl (.inl (g11.tup e10))) (dpA_kv ks)) (.cons (dp_kv kn) .nil)))
        refine ⟨dl, _, _, rfl, rfl, hd11, SfC.small1000 (by omega), ?_⟩
        refine ⟨es ++ [⟨nm, ks, kn⟩], xs ++ [.ref te], _, _, _, _, rfl, upd_same, ?_, ?_, ?_, ?_, ?_, (g6.trans gA).upd_new ndlH, dr11.upd ndp⟩
        · rw [List.map_append]
          exact SfC.dpA_app (des_lst hd11 ((dr6.kd (K := K) gA).dpA da6)) (.cons (de_lst hd11 new) .nil)
        · rw [List.map_append, nm6, List.take_add_one, hnm]
          rfl
        · intro e he
          rcases List.mem_append.mp he with h | h
          · exact ok6 e h
          · have : e = ⟨nm, ks, kn⟩ := by simpa using h
            rw [this]
            exact ⟨gnm, by show ks.length ≤ 3; omega, gk8, hk8, gkn⟩
        · rw [upd_ne hne]
          exact hn11
        · rw [upd_ne (by intro z; rw [z, hd11] at hp11; cases hp11)]
          exact hp11
end
end SfM
namespace SfM
open PySem PySem.Spec PyProof.Rows L2 SfG SfC
/-! ### what is drawn is plain, and has small numbers -/
theorem okdA_iff : ∀ {ds : List PyData}, okdA ds = true ↔ ∀ d ∈ ds, okd d = true
  | [] => ⟨fun _ d h => (by cases h), fun _ => by rw [okdA]⟩
  | d :: r => by
    rw [okdA, Bool.and_eq_true, okdA_iff (ds := r)]
    exact ⟨fun h e he => by
      rcases List.mem_cons.mp he with rfl | he
      · exact h.1
      · exact h.2 e he, fun h => ⟨h d List.mem_cons_self, fun e he => h e (List.mem_cons_of_mem _ he)⟩⟩
def Pln (d : PyData) : Prop := okd d = true ∧ plT d = true ∧ sI 100 d = true
theorem pln_str {z : Str} (h : (okd (.str z)) = true) : Pln (.str z) := ⟨h, by rw [plT], by rw [sI]⟩
theorem pln_int {i : Int} (h0 : 0 ≤ i) (h1 : i ≤ 99) : Pln (.int i) := by
  have w1 := wt_num h0 h1
  rw [wt] at w1
  exact ⟨by rw [okd]; exact decide_eq_true (by omega), by rw [plT], sI_num (by omega)⟩
theorem pln_tup {ds : List PyData} (h : ∀ d ∈ ds, Pln d) : Pln (.tuple ds) :=
  ⟨by rw [okd]; exact okdA_iff.mpr fun d hd => (h d hd).1, by rw [plT]; exact plA_iff.mpr fun d hd => (h d hd).2.1, sI_tup.mpr fun d hd => (h d hd).2.2⟩
theorem pln_2 {a b : PyData} (h1 : Pln a) (h2 : Pln b) : Pln (.tuple [a, b]) := pln_tup fun d hd => by
  simp only [List.mem_cons, List.not_mem_nil, or_false] at hd
  rcases hd with rfl | rfl
  · exact h1
  · exact h2
theorem pln_3 {a b c : PyData} (h1 : Pln a) (h2 : Pln b) (h3 : Pln c) : Pln (.tuple [a, b, c]) := pln_tup fun d hd => by
  simp only [List.mem_cons, List.not_mem_nil, or_false] at hd
  rcases hd with rfl | rfl | rfl
  · exact h1
  · exact h2
  · exact h3
theorem pln_4 {a b c e : PyData} (h1 : Pln a) (h2 : Pln b) (h3 : Pln c) (h4 : Pln e) : Pln (.tuple [a, b, c, e]) := pln_tup fun d hd => by
  simp only [List.mem_cons, List.not_mem_nil, or_false] at hd
  rcases hd with rfl | rfl | rfl | rfl
  · exact h1
  · exact h2
  · exact h3
  · exact h4
theorem pln_opw (w : Nat) : Pln (.str (opw w)) := by
  unfold opw
  split <;> exact pln_str (by decide +kernel)
theorem pln_ex {cs : List Nat} (hc : cs.length ≤ 3) (hf : ∀ x ∈ cs, x ≤ 3) : ∀ e : Ex, okE cs e → Pln e.d
  | .num n, h => pln_2 (pln_str (by decide +kernel)) (pln_int h.1 h.2)
  | .inp k f, h => by
    obtain ⟨c, h1, h2⟩ := h
    obtain ⟨hk, _⟩ := List.getElem?_eq_some_iff.mp h1
    have h3 := hf c (List.mem_of_getElem? h1)
    exact pln_3 (pln_str (by decide +kernel)) (pln_int (by omega) (by omega)) (pln_int (by omega) (by omega))
  | .bin w a b, h => pln_3 (pln_opw w) (pln_ex hc hf a h.2.1) (pln_ex hc hf b h.2.2)
  | .rst a n, h => pln_3 (pln_str (by decide +kernel)) (pln_ex hc hf a h.2.2) (pln_int (by have := h.1; omega) h.2.1)
  | .iff a b c, h => pln_4 (pln_str (by decide +kernel)) (pln_ex hc hf a h.1) (pln_ex hc hf b h.2.1) (pln_ex hc hf c h.2.2)
theorem pln_bd {cs : List Nat} {n m : Nat} (hc : cs.length ≤ 3) (hf : ∀ x ∈ cs, x ≤ 3) : ∀ b : Bd, okB cs n m b → Pln b.d
  | .ref, _ => pln_tup fun d hd => by rw [List.mem_singleton.mp hd]; exact pln_str (by decide +kernel)
  | .giv es, h => pln_2 (pln_str (by decide +kernel)) (pln_tup fun d hd => by
      obtain ⟨e, he, rfl⟩ := List.mem_map.mp hd
      exact pln_ex hc hf e (h.2 e he).1)
  | .whn e a b, h => pln_4 (pln_str (by decide +kernel)) (pln_ex hc hf e h.1.1) (pln_bd hc hf a h.2.1) (pln_bd hc hf b h.2.2)
/-- tuples of numbers, laid one behind the other -/
def taI : List Int → TA
  | [] => tNil
  | n :: r => tCons (tC (.int n)) (taI r)
def taS : List (List Int) → TA
  | [] => tNil
  | s :: r => tCons (tTup (taI s)) (taS r)
theorem taI_ok : ∀ (s : List Int) {σ : L2.St} {H : Hp} {Q : List V → Hp → Prop}, Q (s.map V.int) H → taI s σ H Q
  | [], _, _, _, h => h
  | n :: r, σ, H, Q, h => taI_ok r (σ := σ) (H := H) (Q := fun xs H2 => Q (.int n :: xs) H2) h
theorem dpA_intI {K : PySem.W.Frag} {H : Hp} : ∀ s : List Int, DpAll K H (s.map V.int) (s.map .int)
  | [] => .nil
  | _ :: r => .cons (.int _) (dpA_intI r)
def shT (s : List Int) : PyData := .tuple (s.map .int)
theorem taS_ok {K : PySem.W.Frag} : ∀ (s : List (List Int)) {σ : L2.St} {H : Hp} {Q : List V → Hp → Prop}, (∀ t ∈ s, t.length ≤ 100) → (∀ H' vs, Gr H H' → DpAll K H' vs (s.map shT) → Q vs H') → taS s σ H Q
  | [], _, H, _, _, h => h H [] (Gr.refl H) .nil
  | t :: r, σ, H, Q, hl, h => by
    refine taI_ok t ?_
    refine ⟨?_, fun p np => ?_⟩
    · rw [List.length_map]
      exact Nat.le_of_lt (SfC.small1000 (by have := hl t (.head _); omega))
    · refine taS_ok r (K := K) (fun x hx => hl x (.tail _ hx)) (fun H' vs g d => h H' _ ((Gr.new np).trans g) ?_)
      exact .cons (.tup (g.sqt (.inl (.inl upd_same))) (dpA_intI t)) d
theorem tL_ok {K : PySem.W.Frag} {s : List (List Int)} (hs : ∀ t ∈ s, t.length ≤ 100) (hl : s.length ≤ 100) {σ : L2.St} {H : Hp} {Q : VK} (h : ∀ H1 l vs, Gr H H1 → H1 l = some (.lst vs) → DpAll K H1 vs (s.map shT) → Q (.ref l) H1) : tLst (taS s) σ H Q := by
  unfold tLst
  refine taS_ok (K := K) s hs (fun H1 vs g1 d1 => ?_)
  have lv := dpA_len d1
  rw [List.length_map] at lv
  exact ⟨Nat.le_of_lt (SfC.small1000 (by omega)), fun l nl => h _ l vs (g1.trans (Gr.new nl)) upd_same ((Gr.new nl).kd.dpA d1)⟩
theorem asg_go {te : TE} {g : TG} {D : Ends} {σ : L2.St} {H : Hp} (h : te σ H fun v H1 => g v σ H1 D.nx) : tAsg te g D σ H := h
def s13 : List (List Int) := [[2], [3], [5], [9], [2, 2], [2, 3], [3, 2], [4, 4], [2, 8], [8, 2], [3, 5], [2, 7], [2, 2, 2]]
def s3 : List (List Int) := [[2, 2, 4], [4, 2, 2], [2, 2, 3]]
def s16 : List (List Int) := s13 ++ s3
theorem s16_ok : ∀ s ∈ s16, (1 ≤ s.length ∧ s.length ≤ 3) ∧ ∀ n ∈ s, 0 ≤ n ∧ n ≤ 99 := by decide
def tS13 : TE := tLst (taS s13)
def tS3 : TE := tLst (taS s3)
theorem noL_shT (s : List Int) : noL (shT s) = true := by
  unfold shT
  rw [noL, noLA_map _ (fun _ => by rw [noL])]
theorem pln_shT {s : List Int} (h : s ∈ s16) : Pln (shT s) := pln_tup fun d hd => by
  obtain ⟨n, hn, rfl⟩ := List.mem_map.mp hd
  exact pln_int ((s16_ok s h).2 n hn).1 ((s16_ok s h).2 n hn).2
theorem shT_in {s : List Int} (h : s ∈ s16) : Wt (shT s) 100 1 := by
  have hh : (s16.all fun s => okd (shT s) && decide (wt (shT s) ≤ 100) && decide ((shT s).depth ≤ 1)) = true := by decide +kernel
  exact Wt.lit (List.all_eq_true.mp hh s h)
abbrev nLShape : List Str := ["_law_state", "_law_some"]
theorem scLShape : FnScope nLShape ["_law_state"] (defScope sLShape) := ⟨rfl, rfl, rfl, by decide +kernel, rfl, by decide +kernel, by decide +kernel⟩
section
variable {P : Program} {w : World} {K : PySem.W.Frag} {mg : Str → Option Value} {base : Heap}
def spLShape (K : PySem.W.Frag) : Sp := fun vs H Q _ => ∃ (p : Addr), vs = [.ref p] ∧ Drw H p ∧ ∀ H' v s, Gp p H H' → Drw H' p → Dp K H' v (shT s) → s ∈ s16 → Q v H'
theorem ok_lshape {f fP : Addr} {fd dP : FuncData} {k : Nat} (F : Fun K "_law_shape" "_law_shape" sLShape f fd) (HP : Has P w K mg base k "_law_pick" ["_law_state", "_law_many"] spPick fP dP) : FnOk P w K mg base CX0 (k + 1) f fd ["_law_state"] (spLShape K) := by
  refine F.ok scLShape (fun vs H Q E h => ?_) (fun cdv A outer s H vs Q E hr h => ?_)
  · obtain ⟨p, rfl, _⟩ := h
    rfl
  · obtain ⟨p, rfl, dr, q⟩ := h
    have nd := scLShape.nd
    refine' ⟨_, pss_cons ?s1 (pss_one ?s2), ?rd⟩
    case s1 =>
      exact ps_set (i := 1) nd rfl (.inl rfl) ((pe_lst (pa_cons (pe_tup (pa_cons pe_int pa_nil)) (pa_cons (pe_tup (pa_cons pe_int pa_nil)) (pa_cons (pe_tup (pa_cons pe_int pa_nil)) (pa_cons (pe_tup (pa_cons pe_int pa_nil))
        (pa_cons (pe_tup (pa_cons pe_int (pa_cons pe_int pa_nil))) (pa_cons (pe_tup (pa_cons pe_int (pa_cons pe_int pa_nil))) (pa_cons (pe_tup (pa_cons pe_int (pa_cons pe_int pa_nil))) (pa_cons (pe_tup (pa_cons pe_int (pa_cons pe_int pa_nil)))
        (pa_cons (pe_tup (pa_cons pe_int (pa_cons pe_int pa_nil))) (pa_cons (pe_tup (pa_cons pe_int (pa_cons pe_int pa_nil))) (pa_cons (pe_tup (pa_cons pe_int (pa_cons pe_int pa_nil))) (pa_cons (pe_tup (pa_cons pe_int (pa_cons pe_int pa_nil)))
        (pa_cons (pe_tup (pa_cons pe_int (pa_cons pe_int (pa_cons pe_int pa_nil)))) pa_nil))))))))))))) : PE _ _ tS13))
    case s2 =>
      exact ps_ret (pe_ix ix_list (pe_op op_cat (pv 1) ((pe_lst (pa_cons (pe_tup (pa_cons pe_int (pa_cons pe_int (pa_cons pe_int pa_nil)))) (pa_cons (pe_tup (pa_cons pe_int (pa_cons pe_int (pa_cons pe_int pa_nil)))) (pa_cons (pe_tup (pa_cons pe_int (pa_cons pe_int (pa_cons pe_int pa_nil)))) pa_nil)))) : PE _ _ tS3))
        (hcall HP hr (pa_cons (pv 0) (pa_cons pe_int pa_nil))) (fun _ _ => rfl))
    case rd =>
    have l100 : ∀ t ∈ s16, t.length ≤ 100 := fun t ht => by have := (s16_ok t ht).1.2; omega
    refine asg_go (tL_ok (K := K) (s := s13) (fun t ht => l100 t (List.mem_append_left _ ht)) (by decide) fun H2 l1 vs g2 e1 d1 => ?_)
    have lv : vs.length = 13 := dpA_len d1
    refine gname_go ?_
    refine ⟨_, rfl, tL_ok (K := K) (s := s3) (fun t ht => l100 t (List.mem_append_right _ ht)) (by decide) fun H4 l2 ws g4 e2 d3 => ?_⟩
    have lw : ws.length = 3 := dpA_len d3
    refine ⟨l1, l2, _, _, rfl, rfl, g4.lst e1, e2, Nat.le_of_lt (SfC.small1000 (by omega)), fun l3 n3 => ?_⟩
    have g5 : Gr H4 (upd H4 l3 (.lst (vs ++ ws))) := Gr.new n3
    have e3 : upd H4 l3 (.lst (vs ++ ws)) l3 = some (.lst (vs ++ ws)) := upd_same
    have d5 : DpAll K (upd H4 l3 (.lst (vs ++ ws))) (vs ++ ws) (s16.map shT) := by
      show DpAll K _ _ ((s13 ++ s3).map shT)
      rw [List.map_append]
      exact SfC.dpA_app ((g4.trans g5).kd.dpA d1) (g5.kd.dpA d3)
    generalize upd H4 l3 (.lst (vs ++ ws)) = H5 at g5 e3 d5 ⊢
    have g15 := g2.trans (g4.trans g5)
    have dr5 := dr.gr g15
    have n3p : l3 ≠ p := fun z => by
      obtain ⟨x, y, e, _⟩ := dr5
      rw [← z, e3] at e
      cases e
    refine ⟨_, rfl, p, 16, rfl, dr5, by decide, by decide, fun H6 j b6 dr6 j0 j16 => ?_⟩
    have hi : j.toNat < (vs ++ ws).length := by rw [List.length_append]; omega
    have ha : (vs ++ ws)[j.toNat]? = some (vs ++ ws)[j.toNat] := List.getElem?_eq_getElem hi
    obtain ⟨d, hd, dv⟩ := dpA_at d5 ha
    rw [List.getElem?_map] at hd
    obtain ⟨t, ht, rfl⟩ := Option.map_eq_some_iff.mp hd
    have hx := atI_nat ha
    rw [Int.toNat_of_nonneg j0] at hx
    exact ⟨l3, _, j, _, rfl, rfl, .inl (.inl ((b6 l3 n3p).trans e3)), hx, q H6 _ t ((Gp.gr g15).trans (Gp.but b6)) dr6 ((dr5.kd (Gp.but b6)).dp dv) (List.mem_of_getElem? ht)⟩
end
end SfM
namespace SfM
open PySem PySem.Spec PyProof.Rows L2 SfG SfC
/-! ### a making, drawn -/
abbrev nLMak : List Str := ["_law_state", "_law_face_here", "_law_shapes", "_law_kind_here", "_law_bodies", "_law_name", "_law_takes", "_law_gives", "_law_counts"]
theorem scLMak : FnScope nLMak ["_law_state", "_law_face_here"] (defScope sLMak) := ⟨rfl, rfl, rfl, by decide +kernel, rfl, by decide +kernel, by decide +kernel⟩
/-- bodies that are drawn -/
structure BdOk (d : PyData) : Prop where
  pl : Pln d
  le : wt d ≤ 32000
  dp : d.depth ≤ 9
structure MakOf (f : Fc) (sh : List (List Int)) (bs : List PyData) : Prop where
  ls : sh.length = f.hd.length
  lb : bs.length = f.ds.length
  sh : ∀ s ∈ sh, s ∈ s16
  bd : ∀ d ∈ bs, BdOk d
mutual
theorem plT_noL : ∀ {d : PyData}, plT d = true → noL d = true
  | .int _, _ => rfl
  | .str _, _ => rfl
  | .tuple ds, h => by
    rw [plT] at h
    rw [noL]
    exact plA_noL h
  | .none, _ => rfl
  | .bool _, _ => rfl
  | .list _, h => by simp [plT] at h
  | .dict _, h => by simp [plT] at h
theorem plA_noL : ∀ {ds : List PyData}, plA ds = true → noLA ds = true
  | [], _ => rfl
  | d :: r, h => by
    rw [plA, Bool.and_eq_true] at h
    rw [noLA, plT_noL h.1, plA_noL h.2]
    rfl
end
theorem noLA_all : ∀ {ds : List PyData}, (∀ d ∈ ds, noL d = true) → noLA ds = true
  | [], _ => rfl
  | d :: r, h => by
    rw [noLA, h d (.head _), noLA_all fun x hx => h x (.tail _ hx)]
    rfl
theorem len_shT (s : List Int) : lenD (shT s) = s.length := List.length_map _
theorem cnt_13 {hd : List Str} {sh : List (List Int)} (h : ∀ s ∈ sh, s ∈ s16) (k : Kn) : 1 ≤ cntK hd ((sh.map shT).map lenD) k ∧ cntK hd ((sh.map shT).map lenD) k ≤ 3 := by
  cases k with
  | p _ => exact ⟨Nat.le_refl 1, by show 1 ≤ 3; decide⟩
  | h z =>
    show 1 ≤ ((sh.map shT).map lenD).getD (posS hd z) 1 ∧ ((sh.map shT).map lenD).getD (posS hd z) 1 ≤ 3
    rw [List.getD_eq_getElem?_getD]
    cases hg : ((sh.map shT).map lenD)[posS hd z]? with
    | none => exact ⟨Nat.le_refl 1, by show 1 ≤ 3; decide⟩
    | some n =>
      rw [List.getElem?_map, List.getElem?_map] at hg
      obtain ⟨d, hd, rfl⟩ := Option.map_eq_some_iff.mp hg
      obtain ⟨s, hs, rfl⟩ := Option.map_eq_some_iff.mp hd
      show 1 ≤ lenD (shT s) ∧ lenD (shT s) ≤ 3
      rw [len_shT]
      exact (s16_ok s (h s (List.mem_of_getElem? hs))).1
section
variable {P : Program} {w : World} {K : PySem.W.Frag} {mg : Str → Option Value} {base : Heap}
def spLMak (K : PySem.W.Frag) : Sp := fun vs H Q _ => ∃ (p : Addr) (x : V) (f : Fc), vs = [.ref p, x] ∧ Drw H p ∧ Dp K H x f.d ∧ goF f ∧ ∀ H' v sh bs, Gp p H H' → Drw H' p → Dp K H' v (.tuple [.tuple (sh.map shT), .tuple bs]) → MakOf f sh bs → Q v H'
set_option maxHeartbeats 4000000 in
theorem ok_lmak {f fS fF fB : Addr} {fd dS dF dB : FuncData} {k : Nat} (F : Fun K "_law_making" "_law_making" sLMak f fd) (HS : Has P w K mg base k "_law_shape" ["_law_state"] (spLShape K) fS dS)
    (HF : Has P w K mg base k "_law_fields" ["_law_face_here", "_law_shapes", "_law_kind_here"] (spFields K) fF dF) (HB : Has P w K mg base k "_law_body" ["_law_state", "_law_counts", "_law_many", "_law_deep"] (spBod K 3) fB dB) (mt : mg "tuple" = none) :
    FnOk P w K mg base CX0 (k + 1) f fd ["_law_state", "_law_face_here"] (spLMak K) := by
  refine F.ok scLMak (fun vs H Q E h => ?_) (fun cdv A outer s H vs Q E hr h => ?_)
  · obtain ⟨p, x, f, rfl, _⟩ := h
    rfl
  · obtain ⟨p, x, f, rfl, dr, hx, go, q⟩ := h
    have nd := scLMak.nd
    refine' ⟨_, pss_cons ?s1 (pss_cons ?s2 (pss_cons ?s3 (pss_one ?s4))), ?rd⟩
    case s1 =>
      exact ps_set (i := 2) nd rfl (.inr rfl) (pe_callTy call_tuple_of (by rfl) mt (by decide +kernel) (pa_cons (pe_lc (own := [("_law_kind_here", 3)]) (g := gName 3) rfl nd (pi_tup (pe_ix (r := rIxT K) ix_tup (pv 1) pe_int (fun _ _ => rfl))) (blkOk_by (own := [("_law_kind_here", 3)]) (N := nLMak) (sc := defScope sLMak) (by decide +kernel))
        (fun _ _ _ _ _ => pg_name (i := 3) nd rfl (Or.inl rfl)) (fun _ _ _ _ _ => pts_nil) (fun _ _ _ _ _ => hcall HS hr (pa_cons (pv 0) pa_nil))) pa_nil))
    case s2 => exact ps_set (i := 4) nd rfl (.inl rfl) (pe_lst pa_nil)
    case s3 =>
      refine' ps_for PassesOwn.never rfl (pi_tup (pe_ix ix_tup (pv 1) pe_int (fun _ _ => rfl))) (pg_tup rfl (pgs_cons (pg_name (i := 5) nd rfl (.inl rfl)) (pgs_cons (pg_name (i := 6) nd rfl (.inl rfl)) (pgs_cons (pg_name (i := 7) nd rfl (.inl rfl)) pgs_nil)))) (pss_cons ?b1 (pss_one ?b2))
      case b1 =>
        exact ps_set (i := 8) nd rfl (.inl rfl) (pe_callTy call_tuple_of (by rfl) mt (by decide +kernel) (pa_cons (pe_lc (own := [("_law_kind_here", 3)]) (g := gName 3) rfl nd (pi_tup (pv 6)) (blkOk_by (own := [("_law_kind_here", 3)]) (N := nLMak) (sc := defScope sLMak) (by decide +kernel))
          (fun _ _ _ _ _ => pg_name (i := 3) nd rfl (Or.inl rfl)) (fun _ _ _ _ _ => pts_nil) (fun _ _ _ _ _ => hcall HF hr (pa_cons (pv 1) (pa_cons (pv 2) (pa_cons (pv 3) pa_nil))))) pa_nil))
      case b2 =>
        exact ps_expr (pe_bm PySem.F.plainAttrs_list PySem.F.slot_list_append PySem.F.type_list_append mt_append (pv 4) (pa_cons (hcall HB hr (pa_cons (pv 0) (pa_cons (pv 8) (pa_cons (hcall HF hr (pa_cons (pv 1) (pa_cons (pv 2) (pa_cons (pv 7) pa_nil)))) (pa_cons pe_int pa_nil))))) pa_nil))
    case s4 => exact ps_ret (pe_tup (pa_cons (pv 2) (pa_cons (pe_callTy call_tuple_of (by rfl) mt (by decide +kernel) (pa_cons (pv 4) pa_nil)) pa_nil)))
    case rd =>
    obtain ⟨pf, vh, vd, rfl, hpf, dh, dd⟩ := dp_2 hx
    obtain ⟨ph, hs, rfl, hph, hhs⟩ := dp_tup dh
    cases SfC.dpA_strs hhs
    obtain ⟨pd, fxs, rfl, hpd, dds⟩ := dp_tup dd
    have lf : fxs.length = f.ds.length := by
      have := dpA_len dds
      rw [List.length_map] at this
      exact this
    have kd0 : ∀ {S : Hp}, Gp p H S → Kd K H S := fun g => dr.kd g
    -- shapes
    refine ⟨_, rfl, pf, _, 0, .ref ph, rfl, rfl, hpf, rfl, ph, rfl, ⟨_, hph⟩, fun D nD => ?_⟩
    have nDp : D ≠ p := dr.ne nD
    refine lc_it (walk_tup (xs := f.hd.map V.str)) (fun i S => ∃ (xs : List V) (sh : List (List Int)), S D = some (.lst xs) ∧ DpAll K S xs (sh.map shT) ∧ sh.length = i ∧ (∀ s ∈ sh, s ∈ s16) ∧ Gp p H S ∧ Drw S p)
      ⟨[], [], upd_same, .nil, rfl, by simp, Gp.gr (Gr.new nD), dr.new nD⟩ ?c0 ?c1 ?c2
    case c0 =>
      rintro i S hi ⟨xs, sh, _, _, _, _, g, d⟩
      exact (kd0 g).t hph
    case c1 =>
      rintro i y S' S hi ⟨xs, sh, eD, da, lsh, hsh, g, d⟩ ⟨rfl, hy⟩
      rw [List.length_map] at hi
      have h2 := go.hid.hi
      refine ⟨rfl, tYes_i (iteT ?_)⟩
      refine ⟨_, rfl, p, rfl, d, fun S2 v s g2 d2 dv hs => ?_⟩
      have eD2 := g2.lst nDp eD
      have lx : xs.length = i := by
        have := dpA_len da
        rw [List.length_map, lsh] at this
        exact this
      refine ⟨_, eD2, SfC.small1000 (by omega), xs ++ [v], sh ++ [s], upd_same, ?_, ?_, ?_, (g.trans g2).upd_new nD, d2.upd nDp⟩
      · rw [List.map_append]
        exact Kt.dpA (kt_lst eD2) (SfC.dpA_app ((d.kd g2).dpA da) (.cons dv .nil)) (by rw [← List.map_append]; exact noLA_map _ noL_shT _)
      · rw [List.length_append, lsh]
        rfl
      · intro z hz
        rcases List.mem_append.mp hz with h | h
        · exact hsh z h
        · rw [List.mem_singleton.mp h]
          exact hs
    case c2 =>
    rintro S ⟨xs, sh, eD, da, lsh, hsh, g, d⟩
    rw [List.length_map] at lsh
    refine ⟨D, _, rfl, .inl ⟨.inl (.inl eD), fun T nT => ?_⟩⟩
    have gT : Gr S (upd S T (.tup xs)) := Gr.new nT
    have dT : Dp K (upd S T (.tup xs)) (.ref T) (.tuple (sh.map shT)) := .tup (.inl (.inl upd_same)) (gT.kd.dpA da)
    have d2 := d.gr gT
    have gp2 := g.trans (Gp.gr gT)
    generalize upd S T (.tup xs) = S2 at gT dT d2 gp2 ⊢
    clear eD da g d
    have tups : ∀ d ∈ sh.map shT, ∃ es, d = .tuple es := fun d hd => by
      obtain ⟨s, _, rfl⟩ := List.mem_map.mp hd
      exact ⟨_, rfl⟩
    have lss : (sh.map shT).length = f.hd.length := by rw [List.length_map]; exact lsh
    -- bodies
    refine ⟨Nat.zero_le _, fun L nL => ?_⟩
    have nLp : L ≠ p := d2.ne nL
    have gL : Gr S2 (upd S2 L (.lst [])) := Gr.new nL
    have eL : upd S2 L (.lst []) L = some (.lst []) := upd_same
    have d3 := d2.gr gL
    have gp3 := gp2.trans (Gp.gr gL)
    have dT3 := gL.kd.dp dT
    have hL : S2 L = none := nL
    generalize upd S2 L (.lst []) = S3 at gL eL d3 gp3 dT3 ⊢
    have hLH := gp2.back L nLp hL
    have hDp : ∀ {S4 : Hp}, Gp p S3 S4 → Kd K S3 S4 := fun g => d3.kd g
    refine ⟨_, rfl, pf, _, 1, .ref pd, rfl, rfl, (kd0 gp3).t hpf, rfl, pd, rfl, ⟨_, (kd0 gp3).t hpd⟩, ?_⟩
    refine for_it (walk_tup (xs := fxs)) (fun i σ S4 => ∃ (y3 y5 y6 y7 y8 : Option V) (xs : List V) (bs : List PyData), σ = [some (.ref p), some (.ref pf), some (.ref T), y3, some (.ref L), y5, y6, y7, y8] ∧ S4 L = some (.lst xs) ∧ DpAll K S4 xs bs ∧ bs.length = i ∧ (∀ d ∈ bs, BdOk d) ∧ Gp p S2 S4 ∧ Drw S4 p)
      ⟨_, _, _, _, _, [], [], rfl, eL, .nil, rfl, by simp, Gp.gr gL, d3⟩ ?h0 ?h1 ?h2
    case h0 =>
      rintro i σ S4 hi ⟨y3, y5, y6, y7, y8, xs, bs, rfl, _, _, _, _, g, _⟩
      exact (d2.kd g).t ((kd0 gp2).t hpd)
    case h2 =>
      rintro σ S4 ⟨y3, y5, y6, y7, y8, xs, bs, rfl, e4, da, lb, hb, g, d⟩
      refine ⟨_, rfl, _, rfl, L, _, rfl, .inl ⟨.inl (.inl e4), fun t1 n1 => ?_⟩⟩
      have g1 : Gr S4 (upd S4 t1 (.tup xs)) := Gr.new n1
      have D1 : Dp K (upd S4 t1 (.tup xs)) (.ref t1) (.tuple bs) := .tup (.inl (.inl upd_same)) (g1.kd.dpA da)
      generalize upd S4 t1 (.tup xs) = S5 at g1 D1 ⊢
      refine ⟨by show 2 ≤ sizeLine; decide, fun t2 n2 => ?_⟩
      have g2 : Gr S5 (upd S5 t2 (.tup [.ref T, .ref t1])) := Gr.new n2
      refine q _ (.ref t2) sh bs ((gp2.trans g).trans (Gp.gr (g1.trans g2))) ((d.gr g1).gr g2) (.tup (.inl (.inl upd_same)) (.cons (g2.kd.dp (g1.kd.dp ((d2.kd g).dp dT))) (.cons (g2.kd.dp D1) .nil))) ⟨lsh, by rw [lb]; exact lf, hsh, hb⟩
    case h1 =>
      rintro i y σ S4' S4 hi ⟨y3, y5, y6, y7, y8, xs, bs, rfl, e4, da, lb, hb, g, d⟩ ⟨rfl, hy⟩
      have gH := gp2.trans g
      obtain ⟨e, he, hde⟩ := dpA_de ((kd0 gH).dpA dds) hy
      have ge := go.ok e (List.mem_of_getElem? he)
      obtain ⟨pe, n1, t1, v1, rfl, hpe, dn, dt, dg⟩ := dp_3 hde
      cases dp_str dn
      cases dp_kn dg
      obtain ⟨pt, ts, rfl, hpt, hts⟩ := dp_tup dt
      cases dpA_kns hts
      have dTS : ∀ {S5 : Hp}, Gp p S2 S5 → Dp K S5 (.ref T) (.tuple (sh.map shT)) := fun g => (d2.kd g).dp dT
      refine ⟨pe, _, rfl, hpe, rfl, _, _, rfl, _, _, rfl, _, _, rfl, rfl, ?_⟩
      refine ⟨_, rfl, pt, rfl, ⟨_, hpt⟩, fun D2 nD2 => ?_⟩
      refine lc_it (walk_tup (xs := e.tk.map Kn.v)) (fun j S5 => S5 D2 = some (.lst (((e.tk.take j).map (cntK f.hd ((sh.map shT).map lenD))).map fun c : Nat => V.int (c : Nat))) ∧ Gr S4 S5) ⟨upd_same, Gr.new nD2⟩ ?j0 ?j1 ?j2
      case j0 =>
        rintro j S5 hj ⟨_, g3⟩
        exact g3.sqt hpt
      case j1 =>
        rintro j y S5' S5 hj ⟨eD, g3⟩ ⟨rfl, hy⟩
        rw [List.getElem?_map] at hy
        obtain ⟨kn, hkn, rfl⟩ := Option.map_eq_some_iff.mp hy
        refine ⟨rfl, tYes_i (iteT ?_)⟩
        have g25 := g.trans (Gp.gr g3)
        refine ⟨_, rfl, _, rfl, _, rfl, .ref pf, .ref T, f, sh.map shT, kn, rfl, (kd0 (gp2.trans g25)).dp hx, go, dTS g25, lss, tups, ge.tk kn (List.mem_of_getElem? hkn), fun S6 g4 => ?_⟩
        refine ⟨_, g4.lst eD, ?_, upd_same.trans ?_, (g3.trans g4).upd_new nD2⟩
        · rw [List.length_map, List.length_map, List.length_take]
          have := ge.len
          exact SfC.small1000 (by omega)
        · rw [List.take_add_one, hkn, List.map_append, List.map_append]
          rfl
      case j2 =>
      rintro S5 ⟨eD, g3⟩
      rw [List.length_map, List.take_length] at eD
      refine ⟨D2, _, rfl, .inl ⟨.inl (.inl eD), fun T2 nT2 => ?_⟩⟩
      have g4 : Gr S5 (upd S5 T2 (.tup ((e.tk.map (cntK f.hd ((sh.map shT).map lenD))).map fun c : Nat => V.int (c : Nat)))) := Gr.new nT2
      have dc : Dp K (upd S5 T2 (.tup ((e.tk.map (cntK f.hd ((sh.map shT).map lenD))).map fun c : Nat => V.int (c : Nat)))) (.ref T2) (cD (e.tk.map (cntK f.hd ((sh.map shT).map lenD)))) := .tup (.inl (.inl upd_same)) (cD_dp _)
      generalize upd S5 T2 (.tup ((e.tk.map (cntK f.hd ((sh.map shT).map lenD))).map fun c : Nat => V.int (c : Nat))) = S6 at g4 dc ⊢
      have g46 := g3.trans g4
      have g26 := g.trans (Gp.gr g46)
      refine ⟨_, rfl, .inl ⟨rfl, _, .inl (.inl (g46.lst e4))⟩, _, rfl, _, rfl, _, rfl, _, rfl, _, rfl, .ref pf, .ref T, f, sh.map shT, e.gv, rfl, (kd0 (gp2.trans g26)).dp hx, go, dTS g26, lss, tups, ge.gv, fun S7 g7 => ?_⟩
      have g47 := g46.trans g7
      have g27 := g.trans (Gp.gr g47)
      have c13 := cnt_13 (hd := f.hd) hsh e.gv
      have hcs : (e.tk.map (cntK f.hd ((sh.map shT).map lenD))).length ≤ 3 ∧ ∀ x ∈ e.tk.map (cntK f.hd ((sh.map shT).map lenD)), 1 ≤ x ∧ x ≤ 3 := by
        refine ⟨by rw [List.length_map]; exact ge.len, fun x hx => ?_⟩
        obtain ⟨kn, _, rfl⟩ := List.mem_map.mp hx
        exact cnt_13 hsh kn
      refine ⟨p, .ref T2, cntK f.hd ((sh.map shT).map lenD) e.gv, 3, e.tk.map (cntK f.hd ((sh.map shT).map lenD)), rfl, d.gr g47, g7.kd.dp dc, hcs, c13.1, c13.2, by decide, by decide, by decide, fun S8 v B g8 d8 dv okb dpb => ?_⟩
      have g48 : Gp p S4 S8 := (Gp.gr g47).trans g8
      have e8 := g48.lst nLp e4
      have lx : xs.length = i := by rw [dpA_len da, lb]
      have hi8 := go.hi
      have bok : BdOk B.d := ⟨pln_bd hcs.1 (fun x hx => (hcs.2 x hx).2) B okb, wt_bd hcs c13.2 B okb (by omega), by have := bd_deep B okb; omega⟩
      refine ⟨L, _, _, rfl, rfl, e8, SfC.small1000 (by omega), ?_⟩
      refine ⟨_, _, _, _, _, xs ++ [v], bs ++ [B.d], rfl, upd_same, ?_, ?_, ?_, (g.trans g48).upd_new hL, d8.upd nLp⟩
      · refine Kt.dpA (kt_lst e8) (SfC.dpA_app ((d.kd g48).dpA da) (.cons dv .nil)) (noLA_all fun x hx => ?_)
        rcases List.mem_append.mp hx with h | h
        · exact plT_noL (hb x h).pl.2.1
        · rw [List.mem_singleton.mp h]
          exact plT_noL bok.pl.2.1
      · rw [List.length_append, lb]
        rfl
      · intro x hx
        rcases List.mem_append.mp hx with h | h
        · exact hb x h
        · rw [List.mem_singleton.mp h]
          exact bok
end
end SfM
namespace SfM
open PySem PySem.Spec PyProof.Rows L2 SfG SfC
/-! ### a tuple with one thing otherwise; literals of many kinds -/
def tRepX (K : PySem.W.Frag) (i j : Nat) (te : TE) : TE := tOp (rCatD K) (tOp (rCatD K) (L2.tSl (rSlD K) (tVar i) tNoPart (tPart (tVar j))) (tTup (tCons te tNil))) (L2.tSl (rSlD K) (tVar i) (tPart (tOp (rI0 fun i j => .int (i + j)) (tVar j) (tC (.int 1)))) tNoPart)
theorem repX_ok {K : PySem.W.Frag} {i j : Nat} {te : TE} {σ : L2.St} {H : Hp} {Q : VK} {v : V} {ds : List PyData} {n : Nat} {d : PyData} (hv : σ[i]? = some (some v)) (dv : Dp K H v (.tuple ds)) (hj : σ[j]? = some (some (.int (n : Nat)))) (hn : n < ds.length) (hl : ds.length ≤ 1000)
    (hte : ∀ H1, Gr H H1 → ∀ R : VK, (∀ u, Dp K H1 u d → R u H1) → te σ H1 R) (q : ∀ H' v', Gr H H' → Dp K H' v' (.tuple (ds.take n ++ [d] ++ ds.drop (n + 1))) → Q v' H') : tRepX K i j te σ H Q := by
  refine ⟨_, hv, _, hj, (n : Nat), rfl, ds, dv, fun v1 H1 g1 h1 => ?_⟩
  rw [cut_to ds (by omega)] at h1
  refine hte H1 g1 _ fun u du => ?_
  refine ⟨by show 1 ≤ sizeLine; decide, fun t nt => ?_⟩
  have k2 : Gr H1 (upd H1 t (.tup [u])) := Gr.new nt
  have D2 : Dp K (upd H1 t (.tup [u])) (.ref t) (.tuple [d]) := new_TD nt (.cons du .nil)
  have h12 := k2.kd.dp h1
  generalize upd H1 t (.tup [u]) = H2 at k2 D2 h12 ⊢
  refine ⟨ds.take n, [d], h12, D2, Nat.le_of_lt (SfC.small1000 (by rw [List.length_take, List.length_singleton]; omega)), fun v3 H3 g3 h3 => ?_⟩
  have g03 := (g1.trans k2).trans g3
  refine ⟨_, hv, _, hj, (n : Nat), 1, rfl, rfl, ((n : Nat) : Int) + 1, rfl, ds, g03.kd.dp dv, fun v4 H4 g4 h4 => ?_⟩
  rw [show ((n : Nat) : Int) + 1 = ((n + 1 : Nat) : Int) by omega, cut_from ds (by omega)] at h4
  refine ⟨ds.take n ++ [d], ds.drop (n + 1), g4.kd.dp h3, h4, Nat.le_of_lt (SfC.small1000 ?_), fun v5 H5 g5 h5 => q H5 v5 ((g03.trans g4).trans g5) h5⟩
  rw [List.length_append, List.length_take, List.length_singleton, List.length_drop]
  omega
inductive Lit where
  | tup (l : List Int)
  | non
  | nol
  | wt (z : Str) (l : List Int)
  | str (z : Str)
def Lit.t : Lit → TE
  | .tup l => tTup (taI l)
  | .non => tC .non
  | .nol => tLst tNil
  | .wt z l => tTup (tCons (tC (.str z)) (taI l))
  | .str z => tC (.str z)
def Lit.d : Lit → PyData
  | .tup l => shT l
  | .non => .none
  | .nol => .list []
  | .wt z l => .tuple (.str z :: l.map .int)
  | .str z => .str z
def Lit.ok : Lit → Prop
  | .tup l => l.length ≤ 100
  | .wt _ l => l.length ≤ 100
  | _ => True
def taL : List Lit → TA → TA
  | [], t => t
  | a :: r, t => tCons a.t (taL r t)
theorem lit_ok {K : PySem.W.Frag} : ∀ (a : Lit) {σ : L2.St} {H : Hp} {Q : VK}, a.ok → (∀ H' v, Gr H H' → Dp K H' v a.d → Q v H') → a.t σ H Q
  | .tup l, σ, H, Q, hl, h => by
    refine taI_ok l ⟨?_, fun p np => h _ _ (Gr.new np) (.tup (.inl (.inl upd_same)) (dpA_intI l))⟩
    have hl : l.length ≤ 100 := hl
    rw [List.length_map]
    exact Nat.le_of_lt (SfC.small1000 (by omega))
  | .non, σ, H, Q, _, h => h H _ (Gr.refl H) .non
  | .nol, σ, H, Q, _, h => ⟨Nat.zero_le _, fun p np => h _ _ (Gr.new np) (.lst (.inl (.inl upd_same)) .nil)⟩
  | .str z, σ, H, Q, _, h => h H _ (Gr.refl H) (.str z)
  | .wt z l, σ, H, Q, hl, h => by
    have hl : l.length ≤ 100 := hl
    show taI l σ H _
    refine taI_ok l ⟨?_, fun p np => h _ _ (Gr.new np) (.tup (.inl (.inl upd_same)) (.cons (.str z) (dpA_intI l)))⟩
    show (V.str z :: l.map V.int).length ≤ sizeLine
    rw [List.length_cons, List.length_map]
    exact Nat.le_of_lt (SfC.small1000 (by omega))
theorem taL_ok {K : PySem.W.Frag} {t : TA} : ∀ (ls : List Lit) {σ : L2.St} {H : Hp} {Q : List V → Hp → Prop}, (∀ a ∈ ls, a.ok) → (∀ H' vs, Gr H H' → DpAll K H' vs (ls.map Lit.d) → t σ H' fun xs H2 => Q (vs ++ xs) H2) → taL ls t σ H Q
  | [], _, H, _, _, h => h H [] (Gr.refl H) .nil
  | a :: r, σ, H, Q, hl, h => by
    refine lit_ok (K := K) a (hl a (.head _)) fun H1 v g1 dv => ?_
    exact taL_ok r (K := K) (fun x hx => hl x (.tail _ hx)) fun H' vs g d => h H' (v :: vs) (g1.trans g) (.cons (g.kd.dp dv) d)
/-- one of a list of literals -/
theorem tL1_ok {K : PySem.W.Frag} {ls : List Lit} (hs : ∀ a ∈ ls, a.ok) (hl : ls.length ≤ 100) {σ : L2.St} {H : Hp} {Q : VK} (h : ∀ H1 l vs, Gr H H1 → H1 l = some (.lst vs) → DpAll K H1 vs (ls.map Lit.d) → Q (.ref l) H1) : tLst (taL ls tNil) σ H Q := by
  unfold tLst
  refine taL_ok (K := K) ls hs fun H1 vs g1 d1 => ?_
  have lv := dpA_len d1
  rw [List.length_map] at lv
  show (vs ++ []).length ≤ sizeLine ∧ _
  rw [List.append_nil]
  exact ⟨Nat.le_of_lt (SfC.small1000 (by omega)), fun l nl => h _ l vs (g1.trans (Gr.new nl)) upd_same ((Gr.new nl).kd.dpA d1)⟩
/-- a thing that is looked at -/
structure ThOk (d : PyData) : Prop where
  ok : okd d = true
  le : wt d ≤ 9000000
  dp : d.depth < 29
theorem wtA_all {L D : Nat} : ∀ {ds : List PyData}, (∀ d ∈ ds, Wt d L D) → WtA ds (ds.length * (L + 2)) D
  | [], _ => WtA.nil
  | d :: r, h => by
    refine (WtA.cons (h d (.head _)) (wtA_all fun x hx => h x (.tail _ hx))).mono ?_ (Nat.le_refl _)
    rw [List.length_cons, Nat.add_mul]
    omega
theorem MakOf.wts {f : Fc} {sh : List (List Int)} {bs : List PyData} (m : MakOf f sh bs) (go : goF f) : WtA (sh.map shT) 300 9 ∧ WtA bs 256100 9 := by
  have h2 := go.hid.hi
  have h8 := go.hi
  have ls := m.ls
  have lb := m.lb
  refine ⟨(wtA_all (L := 100) (D := 9) fun d hd => ?_).mono ?_ (Nat.le_refl _), (wtA_all (L := 32000) (D := 9) fun d hd => ?_).mono ?_ (Nat.le_refl _)⟩
  · obtain ⟨s, hs, rfl⟩ := List.mem_map.mp hd
    exact (shT_in (m.sh s hs)).mono (Nat.le_refl _) (by decide)
  · rw [List.length_map]
    omega
  · exact ⟨(m.bd d hd).pl.1, (m.bd d hd).le, (m.bd d hd).dp⟩
  · omega
theorem two_wt {a b : List PyData} {A B : Nat} (ha : WtA a A 9) (hb : WtA b B 9) : Wt (.tuple [.tuple a, .tuple b]) (A + B + 20) 11 := (Wt.tup (WtA.cons (Wt.tup ha) (WtA.cons (Wt.tup hb) (WtA.nil (L := 0))))).mono (by omega) (Nat.le_refl _)
theorem th_of {d : PyData} {L : Nat} (h : Wt d L 11) (hl : L ≤ 900000) : ThOk d := ⟨h.ok, by have := h.le; omega, by have := h.dep; omega⟩
theorem rep_wt {ds : List PyData} {L n : Nat} {d : PyData} (h : WtA ds L 9) (hd : Wt d 32000 9) : WtA (ds.take n ++ [d] ++ ds.drop (n + 1)) (2 * L + 32100) 9 :=
  (((h.take n).app (WtA.cons hd (WtA.nil (L := 0)))).app (h.drop (n + 1))).mono (by omega) (Nat.le_refl _)
end SfM
namespace SfM
open PySem PySem.Spec PyProof.Rows L2 SfG SfC
/-! ### _law_both -/
abbrev nBoth : List Str := ["_law_state", "_law_making_here", "_law_shapes", "_law_bodies", "_law_way", "_law_spot", "_law_at", "_law_shape_here", "_law_body_here"]
theorem scBoth : FnScope nBoth ["_law_state", "_law_making_here"] (defScope sBoth) := ⟨rfl, rfl, rfl, by decide +kernel, rfl, by decide +kernel, by decide +kernel⟩
theorem asgop_go {r : R2} {te tb : TE} {g : TG} {rest : TS} {D : Ends} {σ : L2.St} {H : Hp} (h : te σ H fun x H1 => tb σ H1 fun y H2 => r x y H2 fun v H3 => g v σ H3 (rest D)) : tSeq (tAsg (tOp r te tb) g) rest D σ H := h
def litA : List Lit := [.tup [17], .tup [2, 9], .non, .tup [], .tup [1]]
def litB : List Lit := [.non, .nol, .wt "refuse" [1], .str "refuse", .wt "give" []]
theorem lit_wt {ls : List Lit} (h : (ls.all fun a => okd a.d && decide (wt a.d ≤ 200) && decide (a.d.depth ≤ 3)) = true) : ∀ a ∈ ls, Wt a.d 200 3 := fun a ha => Wt.lit (List.all_eq_true.mp h a ha)
theorem litA_wt : ∀ a ∈ litA, Wt a.d 200 3 := lit_wt (by decide +kernel)
theorem litB_wt : ∀ a ∈ litB, Wt a.d 200 3 := lit_wt (by decide +kernel)
/-- what a list of literals has at a place -/
theorem lit_at {K : PySem.W.Frag} {H : Hp} {ls : List Lit} {xs : List V} {i : Int} (h : DpAll K H xs (ls.map Lit.d)) (h0 : 0 ≤ i) (h1 : i < (ls.length : Nat)) : ∃ v a, atI xs i = some v ∧ a ∈ ls ∧ Dp K H v a.d := by
  have lx := dpA_len h
  rw [List.length_map] at lx
  have hi : i.toNat < xs.length := by omega
  have ha : xs[i.toNat]? = some xs[i.toNat] := List.getElem?_eq_getElem hi
  obtain ⟨d, hd, dv⟩ := dpA_at h ha
  rw [List.getElem?_map] at hd
  obtain ⟨a, hm, rfl⟩ := Option.map_eq_some_iff.mp hd
  have := atI_nat ha
  rw [Int.toNat_of_nonneg h0] at this
  exact ⟨_, a, this, List.mem_of_getElem? hm, dv⟩
section
variable {P : Program} {w : World} {K : PySem.W.Frag} {mg : Str → Option Value} {base : Heap}
theorem Drw.nl {H : Hp} {p l : Addr} {xs : List V} (d : Drw H p) (h : H l = some (.lst xs)) : l ≠ p := fun z => by
  obtain ⟨x, y, e, _⟩ := d
  rw [← z, h] at e
  cases e
def spBoth (K : PySem.W.Frag) : Sp := fun vs H Q _ => ∃ (p : Addr) (v : V) (f : Fc) (sh : List (List Int)) (bs : List PyData), vs = [.ref p, v] ∧ Drw H p ∧ Dp K H v (.tuple [.tuple (sh.map shT), .tuple bs]) ∧ goF f ∧ MakOf f sh bs ∧
  ∀ H' v' d', Gp p H H' → Drw H' p → Dp K H' v' d' → ThOk d' → Q v' H'
set_option maxHeartbeats 4000000 in
theorem ok_both {f fP : Addr} {fd dP : FuncData} {k : Nat} (F : Fun K "_law_both" "_law_both" sBoth f fd) (HP : Has P w K mg base k "_law_pick" ["_law_state", "_law_many"] spPick fP dP) (ml : mg "len" = none) : FnOk P w K mg base CX0 (k + 1) f fd ["_law_state", "_law_making_here"] (spBoth K) := by
  refine F.ok scBoth (fun vs H Q E h => ?_) (fun cdv A outer s H vs Q E hr h => ?_)
  · obtain ⟨p, v, f, sh, bs, rfl, _⟩ := h
    rfl
  · obtain ⟨p, v, f, sh, bs, rfl, dr, dv, go, mk, q⟩ := h
    have nd := scBoth.nd
    refine' ⟨_, pss_cons ?s1 (pss_cons ?s2 (pss_cons ?s3 (pss_cons ?s4 (pss_one ?s5)))), ?rd⟩
    case s1 => exact ps_asg (pv 1) (pg_tup rfl (pgs_cons (pg_name (i := 2) nd rfl (.inl rfl)) (pgs_cons (pg_name (i := 3) nd rfl (.inl rfl)) pgs_nil)))
    case s2 =>
      exact ps_par3 (i := 4) (j := 5) (l := 6) rfl nd rfl rfl rfl (by decide) (by decide) (by decide) rfl rfl rfl (pa_cons (hcall HP hr (pa_cons (pv 0) (pa_cons pe_int pa_nil))) (pa_cons (hcall HP hr (pa_cons (pv 0) (pa_cons (pe_callB call_len_seq (by rfl) ml PySem.boot_len (pa_cons (pv 2) pa_nil)) pa_nil))) (pa_cons (hcall HP hr (pa_cons (pv 0) (pa_cons (pe_callB call_len_seq (by rfl) ml PySem.boot_len (pa_cons (pv 3) pa_nil)) pa_nil))) pa_nil))) (by rfl)
    case s3 =>
      exact ps_set (i := 7) nd rfl (.inl rfl) (pe_ix (r := rIxL K) ix_list ((pe_lst (pa_cons (pe_tup (pa_cons pe_int pa_nil)) (pa_cons (pe_tup (pa_cons pe_int (pa_cons pe_int pa_nil))) (pa_cons pe_non (pa_cons (pe_tup pa_nil) (pa_cons (pe_tup (pa_cons pe_int pa_nil)) pa_nil)))))) : PE _ _ (tLst (taL litA tNil))) (pv 4) (fun _ _ => rfl))
    case s4 =>
      exact ps_set (i := 8) nd rfl (.inl rfl) (pe_ix (r := rIxL K) ix_list ((pe_lst (pa_cons pe_non (pa_cons (pe_lst pa_nil) (pa_cons (pe_tup (pa_cons pe_str (pa_cons pe_int pa_nil))) (pa_cons pe_str (pa_cons (pe_tup (pa_cons pe_str pa_nil)) pa_nil)))))) : PE _ _ (tLst (taL litB tNil))) (hcall HP hr (pa_cons (pv 0) (pa_cons pe_int pa_nil))) (fun _ _ => rfl))
    case s5 =>
      exact ps_ret (pe_tup (pa_cons ((pe_op op_catD (pe_op op_catD (pe_slice sl_tupD (pv 2) po_none (po_some (pv 5))) (pe_tup (pa_cons (pv 7) pa_nil))) (pe_slice sl_tupD (pv 2) (po_some (pe_op op_add (pv 5) pe_int)) po_none)) : PE _ _ (tRepX K 2 5 (tVar 7)))
        (pa_cons ((pe_op op_catD (pe_op op_catD (pe_slice sl_tupD (pv 3) po_none (po_some (pv 6))) (pe_tup (pa_cons (pv 8) pa_nil))) (pe_slice sl_tupD (pv 3) (po_some (pe_op op_add (pv 6) pe_int)) po_none)) : PE _ _ (tRepX K 3 6 (tVar 8))) pa_nil)))
    case rd =>
    obtain ⟨pm, va, vb, rfl, hpm, da, db⟩ := dp_2 dv
    obtain ⟨pa, as, rfl, hpa, das⟩ := dp_tup da
    obtain ⟨pb, zs, rfl, hpb, dbs⟩ := dp_tup db
    have la := dpA_len das
    have lz := dpA_len dbs
    have ls := mk.ls
    have lb := mk.lb
    have g1 := go.hid.lo
    have g2 := go.hid.hi
    have g3 := go.lo
    have g8 := go.hi
    rw [List.length_map] at la
    refine ⟨_, rfl, pm, _, rfl, hpm, rfl, _, _, rfl, _, _, rfl, rfl, ?_⟩
    refine ⟨_, rfl, p, 5, rfl, dr, by decide, by decide, fun H1 wy b1 d1 w0 w5 => ?_⟩
    have k1 := dr.kd (K := K) (Gp.but b1)
    refine ⟨_, rfl, _, rfl, pa, _, rfl, .inr (k1.t hpa), p, _, rfl, d1, by omega, by omega, fun H2 sp b2 d2 s0 s1 => ?_⟩
    have k2 := dr.kd (K := K) ((Gp.but b1).trans (Gp.but b2))
    refine ⟨_, rfl, _, rfl, pb, _, rfl, .inr (k2.t hpb), p, _, rfl, d2, by omega, by omega, fun H3 at_ b3 d3 a0 a1 => ?_⟩
    have g03 : Gp p H H3 := ((Gp.but b1).trans (Gp.but b2)).trans (Gp.but b3)
    obtain ⟨sn, rfl⟩ : ∃ n : Nat, sp = (n : Nat) := ⟨sp.toNat, by omega⟩
    obtain ⟨an, rfl⟩ : ∃ n : Nat, at_ = (n : Nat) := ⟨at_.toNat, by omega⟩
    refine ⟨_, _, _, rfl, ?_⟩
    -- a shape, a body
    dsimp only
    refine asgop_go (tL1_ok (K := K) (ls := litA) (by intro a ha; simp only [litA, List.mem_cons, List.not_mem_nil, or_false] at ha; rcases ha with rfl | rfl | rfl | rfl | rfl <;> first | trivial | (show _ ≤ 100; decide)) (by decide) fun H5 l1 vs k5 e5 dvs => ?_)
    obtain ⟨v1, a1', ev1, ha1, dv1⟩ := lit_at dvs w0 w5
    refine ⟨_, rfl, l1, _, wy, v1, rfl, rfl, .inl (.inl e5), ev1, ?_⟩
    refine gname_go ?_
    refine asgop_go (tL1_ok (K := K) (ls := litB) (by intro a ha; simp only [litB, List.mem_cons, List.not_mem_nil, or_false] at ha; rcases ha with rfl | rfl | rfl | rfl | rfl <;> first | trivial | (show _ ≤ 100; decide)) (by decide) fun H6 l2 ws k6 e6 dws => ?_)
    have d6 := (d3.gr k5).gr k6
    refine ⟨_, rfl, p, 5, rfl, d6, by decide, by decide, fun H7 j b7 d7 j0 j5 => ?_⟩
    obtain ⟨v2, a2', ev2, ha2, dv2⟩ := lit_at ((d6.kd (Gp.but b7)).dpA dws) j0 j5
    refine ⟨l2, _, j, v2, rfl, rfl, .inl (.inl ((Gp.but b7).lst (d6.nl e6) e6)), ev2, ?_⟩
    refine gname_go ?_
    have g07 : Gp p H H7 := g03.trans ((Gp.gr (k5.trans k6)).trans (Gp.but b7))
    have dv1' : Dp K H7 v1 a1'.d := (d6.kd (Gp.but b7)).dp (k6.kd.dp dv1)
    obtain ⟨wA, wB⟩ := mk.wts go
    have dsa : Dp K H7 (.ref pa) (.tuple (sh.map shT)) := (dr.kd g07).dp da
    have dsb : Dp K H7 (.ref pb) (.tuple bs) := (dr.kd g07).dp db
    refine repX_ok (n := sn) (d := a1'.d) rfl dsa rfl (by rw [List.length_map]; omega) (by rw [List.length_map]; omega) (fun H8 g8 R hR => ⟨_, rfl, hR _ (g8.kd.dp dv1')⟩) fun H8 u1 g8 du1 => ?_
    refine repX_ok (n := an) (d := a2'.d) rfl (g8.kd.dp dsb) rfl (by omega) (by omega) (fun H9 g9 R hR => ⟨_, rfl, hR _ ((g8.trans g9).kd.dp dv2)⟩) fun H9 u2 g9 du2 => ?_
    refine ⟨by show 2 ≤ sizeLine; decide, fun tt ntt => ?_⟩
    have g10 : Gr H9 (upd H9 tt (.tup [u1, u2])) := Gr.new ntt
    have gA := (g8.trans g9).trans g10
    refine q _ (.ref tt) _ (g07.trans (Gp.gr gA)) (d7.gr gA) (.tup (.inl (.inl upd_same)) (.cons (g10.kd.dp (g9.kd.dp du1)) (.cons (g10.kd.dp du2) .nil))) ?_
    exact th_of (two_wt (rep_wt wA ((litA_wt a1' ha1).mono (by decide) (by decide))) (rep_wt wB ((litB_wt a2' ha2).mono (by decide) (by decide)))) (by decide)
end
end SfM
namespace SfM
open PySem PySem.Spec PyProof.Rows L2 SfG SfC
/-! ### _law_exchanged -/
abbrev nExch : List Str := ["_law_state", "_law_face_here", "_law_making_here", "_law_shapes", "_law_bodies", "_law_way", "_law_at", "_law_other", "_law_spot", "_law_shape_here"]
theorem scExch : FnScope nExch ["_law_state", "_law_face_here", "_law_making_here"] (defScope sExch) := ⟨rfl, rfl, rfl, by decide +kernel, rfl, by decide +kernel, by decide +kernel⟩
def litC : List Lit := [.tup [2, 9], .tup [3, 3, 2], .tup [17], .tup [2, 2, 2, 2], .tup [1, 2], .tup [10], .tup [5, 4]]
theorem litC_wt : ∀ a ∈ litC, Wt a.d 200 3 := lit_wt (by decide +kernel)
theorem noLA_iff : ∀ {ds : List PyData}, noLA ds = true ↔ ∀ d ∈ ds, noL d = true
  | [] => ⟨fun _ d h => (by cases h), fun _ => rfl⟩
  | d :: r => by
    rw [noLA, Bool.and_eq_true, noLA_iff (ds := r)]
    exact ⟨fun h e he => by
      rcases List.mem_cons.mp he with rfl | he
      · exact h.1
      · exact h.2 e he, fun h => ⟨h d List.mem_cons_self, fun e he => h e (List.mem_cons_of_mem _ he)⟩⟩
theorem noL_2 {a b : List PyData} (h1 : noLA a = true) (h2 : noLA b = true) : noL (.tuple [.tuple a, .tuple b]) = true := by
  rw [noL, noLA, noLA, noLA, noL, noL, h1, h2]
  rfl
theorem noLA_cut {a : List PyData} (h : noLA a = true) (lo hi : Option Int) : noLA (SfG.cutD a lo hi) = true := noLA_iff.mpr fun d hd => noLA_iff.mp h d (List.mem_of_mem_drop (List.mem_of_mem_take hd))
theorem noLA_app {a b : List PyData} (h1 : noLA a = true) (h2 : noLA b = true) : noLA (a ++ b) = true := noLA_iff.mpr fun d hd => by
  rcases List.mem_append.mp hd with hd | hd
  · exact noLA_iff.mp h1 d hd
  · exact noLA_iff.mp h2 d hd
theorem noLA_rep {ds : List PyData} {n : Nat} {d : PyData} (h : noLA ds = true) (hd : noL d = true) : noLA (ds.take n ++ [d] ++ ds.drop (n + 1)) = true := noLA_iff.mpr fun x hx => by
  rcases List.mem_append.mp hx with hx | hx
  · rcases List.mem_append.mp hx with hx | hx
    · exact noLA_iff.mp h x (List.mem_of_mem_take hx)
    · rw [List.mem_singleton.mp hx]
      exact hd
  · exact noLA_iff.mp h x (List.mem_of_mem_drop hx)
theorem litC_noL : ∀ a ∈ litC, noL a.d = true := fun a ha => List.all_eq_true.mp (show (litC.all fun a => noL a.d) = true by decide +kernel) a ha
section
variable {P : Program} {w : World} {K : PySem.W.Frag} {mg : Str → Option Value} {base : Heap}
def spExch (K : PySem.W.Frag) : Sp := fun vs H Q _ => ∃ (p : Addr) (x v : V) (f : Fc) (sh : List (List Int)) (bs : List PyData), vs = [.ref p, x, v] ∧ Drw H p ∧ Dp K H v (.tuple [.tuple (sh.map shT), .tuple bs]) ∧ goF f ∧ MakOf f sh bs ∧
  ∀ H' v' d', Gp p H H' → Drw H' p → Dp K H' v' d' → ThOk d' → noL d' = true → Q v' H'
set_option maxHeartbeats 4000000 in
theorem ok_exch {f fP fS : Addr} {fd dP dS : FuncData} {k : Nat} (F : Fun K "_law_exchanged" "_law_exchanged" sExch f fd) (HP : Has P w K mg base k "_law_pick" ["_law_state", "_law_many"] spPick fP dP) (HS : Has P w K mg base k "_law_shape" ["_law_state"] (spLShape K) fS dS) (ml : mg "len" = none) :
    FnOk P w K mg base CX0 (k + 1) f fd ["_law_state", "_law_face_here", "_law_making_here"] (spExch K) := by
  refine F.ok scExch (fun vs H Q E h => ?_) (fun cdv A outer s H vs Q E hr h => ?_)
  · obtain ⟨p, x, v, f, sh, bs, rfl, _⟩ := h
    rfl
  · obtain ⟨p, x, v, f, sh, bs, rfl, dr, dv, go, mk, q⟩ := h
    have nd := scExch.nd
    refine' ⟨_, pss_cons ?s1 (pss_cons ?s2 (pss_cons ?s3 (pss_cons ?s4 (pss_cons ?s5 (pss_cons ?s6 (pss_cons ?s7 (pss_one ?s8))))))), ?rd⟩
    case s1 => exact ps_asg (pv 2) (pg_tup rfl (pgs_cons (pg_name (i := 3) nd rfl (.inl rfl)) (pgs_cons (pg_name (i := 4) nd rfl (.inl rfl)) pgs_nil)))
    case s2 =>
      exact ps_par3 (i := 5) (j := 6) (l := 7) rfl nd rfl rfl rfl (by decide) (by decide) (by decide) rfl rfl rfl (pa_cons (hcall HP hr (pa_cons (pv 0) (pa_cons pe_int pa_nil))) (pa_cons (hcall HP hr (pa_cons (pv 0) (pa_cons (pe_callB call_len_seq (by rfl) ml PySem.boot_len (pa_cons (pv 4) pa_nil)) pa_nil))) (pa_cons (hcall HP hr (pa_cons (pv 0) (pa_cons (pe_callB call_len_seq (by rfl) ml PySem.boot_len (pa_cons (pv 4) pa_nil)) pa_nil))) pa_nil))) (by rfl)
    case s3 => exact ps_set (i := 8) nd rfl (.inl rfl) (hcall HP hr (pa_cons (pv 0) (pa_cons (pe_callB call_len_seq (by rfl) ml PySem.boot_len (pa_cons (pv 3) pa_nil)) pa_nil)))
    case s4 =>
      exact ps_set (i := 9) nd rfl (.inl rfl) (pe_ix (r := rIxL K) ix_list ((pe_lst (pa_cons (pe_tup (pa_cons pe_int (pa_cons pe_int pa_nil))) (pa_cons (pe_tup (pa_cons pe_int (pa_cons pe_int (pa_cons pe_int pa_nil)))) (pa_cons (pe_tup (pa_cons pe_int pa_nil)) (pa_cons (pe_tup (pa_cons pe_int (pa_cons pe_int (pa_cons pe_int (pa_cons pe_int pa_nil)))))
        (pa_cons (pe_tup (pa_cons pe_int (pa_cons pe_int pa_nil))) (pa_cons (pe_tup (pa_cons pe_int pa_nil)) (pa_cons (pe_tup (pa_cons pe_int (pa_cons pe_int pa_nil))) (pa_cons (hcall HS hr (pa_cons (pv 0) pa_nil)) pa_nil))))))))) : PE _ _ (tLst (taL litC (tCons (tCall (spLShape K) [] E0 (tCons (tVar 0) tNil)) tNil))))
        (hcall HP hr (pa_cons (pv 0) (pa_cons pe_int pa_nil))) (fun _ _ => rfl))
    case s5 =>
      exact ps_if (pt_cmpR op_eq (pv 5) pe_int (nomark _)) (pss_one (ps_ret (pe_tup (pa_cons ((pe_op op_catD (pe_op op_catD (pe_slice sl_tupD (pv 3) po_none (po_some (pv 8))) (pe_tup (pa_cons (pv 9) pa_nil))) (pe_slice sl_tupD (pv 3) (po_some (pe_op op_add (pv 8) pe_int)) po_none)) : PE _ _ (tRepX K 3 8 (tVar 9)))
        (pa_cons (pv 4) pa_nil))))) pss_nil
    case s6 => exact ps_if (pt_cmpR op_eq (pv 5) pe_int (nomark _)) (pss_one (ps_ret (pe_tup (pa_cons (pe_revT (pv 3)) (pa_cons (pv 4) pa_nil))))) pss_nil
    case s7 =>
      exact ps_if (pt_cmpR op_eq (pv 5) pe_int (nomark _)) (pss_one (ps_ret (pe_tup (pa_cons (pv 3) (pa_cons ((pe_op op_catD (pe_op op_catD (pe_slice sl_tupD (pv 4) po_none (po_some (pv 6))) (pe_tup (pa_cons (pe_ix (r := rIxT K) ix_tup (pv 4) (pv 7) (fun _ _ => rfl)) pa_nil))) (pe_slice sl_tupD (pv 4) (po_some (pe_op op_add (pv 6) pe_int)) po_none)) : PE _ _ (tRepX K 4 6 (tOp (rIxT K) (tVar 4) (tVar 7)))) pa_nil))))) pss_nil
    case s8 =>
      exact ps_ret (pe_ix (r := rIxL K) ix_list (pe_lst (pa_cons (pe_tup (pa_cons (pe_op op_catD (pv 3) (pe_slice sl_tupD (pv 3) po_none (po_some pe_int))) (pa_cons (pv 4) pa_nil))) (pa_cons (pe_tup (pa_cons (pv 3) (pa_cons (pe_slice sl_tupD (pv 4) po_none (po_some (pe_un un_neg pe_int))) pa_nil)))
        (pa_cons (pe_tup (pa_cons (pv 3) (pa_cons (pe_op op_catD (pv 4) (pe_slice sl_tupD (pv 4) po_none (po_some pe_int))) pa_nil))) (pa_cons (pe_revT (pv 2)) pa_nil))))) (pe_op op_mod (pv 6) pe_int) (fun _ _ => rfl))
    case rd =>
    obtain ⟨pm, va, vb, rfl, hpm, da, db⟩ := dp_2 dv
    obtain ⟨pa, as, rfl, hpa, das⟩ := dp_tup da
    obtain ⟨pb, zs, rfl, hpb, dbs⟩ := dp_tup db
    have la := dpA_len das
    have lz := dpA_len dbs
    have ls := mk.ls
    have lb := mk.lb
    have g1 := go.hid.lo
    have g2 := go.hid.hi
    have g3 := go.lo
    have g8 := go.hi
    rw [List.length_map] at la
    refine ⟨_, rfl, pm, _, rfl, hpm, rfl, _, _, rfl, _, _, rfl, rfl, ?_⟩
    refine ⟨_, rfl, p, 4, rfl, dr, by decide, by decide, fun H1 wy b1 d1 w0 w5 => ?_⟩
    have k1 := dr.kd (K := K) (Gp.but b1)
    refine ⟨_, rfl, _, rfl, pb, _, rfl, .inr (k1.t hpb), p, _, rfl, d1, by omega, by omega, fun H2 at_ b2 d2 a0 a1 => ?_⟩
    have k2 := dr.kd (K := K) ((Gp.but b1).trans (Gp.but b2))
    refine ⟨_, rfl, _, rfl, pb, _, rfl, .inr (k2.t hpb), p, _, rfl, d2, by omega, by omega, fun H3 ot b3 d3 o0 o1 => ?_⟩
    have g03 : Gp p H H3 := ((Gp.but b1).trans (Gp.but b2)).trans (Gp.but b3)
    refine ⟨_, _, _, rfl, ?_⟩
    refine ⟨_, rfl, _, rfl, pa, _, rfl, .inr ((dr.kd (K := K) g03).t hpa), p, _, rfl, d3, by omega, by omega, fun H4 sp b4 d4 s0 s1 => ?_⟩
    have g04 : Gp p H H4 := g03.trans (Gp.but b4)
    obtain ⟨sn, rfl⟩ : ∃ n : Nat, sp = (n : Nat) := ⟨sp.toNat, by omega⟩
    obtain ⟨an, rfl⟩ : ∃ n : Nat, at_ = (n : Nat) := ⟨at_.toNat, by omega⟩
    obtain ⟨on, rfl⟩ : ∃ n : Nat, ot = (n : Nat) := ⟨ot.toNat, by omega⟩
    -- a shape
    refine gname_go ?_
    dsimp only
    refine asgop_go ?_
    unfold tLst
    refine (taL_ok (K := K) litC (by intro a ha; simp only [litC, List.mem_cons, List.not_mem_nil, or_false] at ha; rcases ha with rfl | rfl | rfl | rfl | rfl | rfl | rfl <;> (show _ ≤ 100; decide)) fun H5 vs k5 dvs => ?_)
    have d5 := d4.gr k5
    refine ⟨_, rfl, p, rfl, d5, fun H6 v6 s6 g6 d6 dv6 hs6 => ?_⟩
    have lvs : vs.length = 7 := dpA_len dvs
    refine ⟨Nat.le_of_lt (SfC.small1000 (by rw [List.length_append, lvs]; show 7 + 1 ≤ 1000; decide)), fun l1 nl1 => ?_⟩
    have k7 : Gr H6 (upd H6 l1 (.lst (vs ++ [v6]))) := Gr.new nl1
    have e7 : upd H6 l1 (.lst (vs ++ [v6])) l1 = some (.lst (vs ++ [v6])) := upd_same
    have d7 := d6.gr k7
    have D7 : DpAll K (upd H6 l1 (.lst (vs ++ [v6]))) (vs ++ [v6]) (litC.map Lit.d ++ [shT s6]) := SfC.dpA_app (k7.kd.dpA ((d5.kd g6).dpA dvs)) (.cons (k7.kd.dp dv6) .nil)
    change tCall spPick [] E0 (tCons (tVar 0) (tCons (tC (.int 8)) tNil)) _ (upd H6 l1 (.lst (vs ++ [v6]))) _
    generalize upd H6 l1 (.lst (vs ++ [v6])) = H7 at k7 e7 d7 D7 ⊢
    refine ⟨_, rfl, p, 8, rfl, d7, by decide, by decide, fun H8 j b8 d8 j0 j8 => ?_⟩
    have hi : j.toNat < (vs ++ [v6]).length := by rw [List.length_append, lvs]; show _ < 7 + 1; omega
    have hat : (vs ++ [v6])[j.toNat]? = some (vs ++ [v6])[j.toNat] := List.getElem?_eq_getElem hi
    obtain ⟨dS, hdS, dvS⟩ := dpA_at D7 hat
    have hx := atI_nat hat
    rw [Int.toNat_of_nonneg j0] at hx
    generalize (vs ++ [v6])[j.toNat] = vS at hat dvS hx
    have wS : Wt dS 200 3 := by
      rcases List.mem_append.mp (List.mem_of_getElem? hdS) with h | h
      · obtain ⟨a, ha, rfl⟩ := List.mem_map.mp h
        exact litC_wt a ha
      · rw [List.mem_singleton.mp h]
        exact (shT_in hs6).mono (by decide) (by decide)
    refine ⟨l1, _, j, vS, rfl, rfl, .inl (.inl ((Gp.but b8).lst (d7.nl e7) e7)), hx, ?_⟩
    refine gname_go ?_
    have g08 : Gp p H H8 := g04.trans (((Gp.gr k5).trans g6).trans ((Gp.gr k7).trans (Gp.but b8)))
    have dvS8 : Dp K H8 vS dS := (d7.kd (Gp.but b8)).dp dvS
    obtain ⟨wA, wB⟩ := mk.wts go
    have dsa : Dp K H8 (.ref pa) (.tuple (sh.map shT)) := (dr.kd g08).dp da
    have dsb : Dp K H8 (.ref pb) (.tuple bs) := (dr.kd g08).dp db
    have lsh : (sh.map shT).length = sh.length := List.length_map _
    have nA : noLA (sh.map shT) = true := noLA_map _ noL_shT _
    have nB : noLA bs = true := noLA_iff.mpr fun d hd => plT_noL (mk.bd d hd).pl.2.1
    have nS : noL dS = true := by
      rcases List.mem_append.mp (List.mem_of_getElem? hdS) with h | h
      · obtain ⟨a, ha, rfl⟩ := List.mem_map.mp h
        exact litC_noL a ha
      · rw [List.mem_singleton.mp h]
        exact noL_shT _
    -- the end: a pair
    have pair : ∀ {S : Hp} {u1 u2 : V} {x1 x2 : List PyData} {A B : Nat}, Gr H8 S → Dp K S u1 (.tuple x1) → Dp K S u2 (.tuple x2) → WtA x1 A 9 → WtA x2 B 9 → A + B + 20 ≤ 900000 → noLA x1 = true → noLA x2 = true → 2 ≤ sizeLine ∧ ∀ t, S t = none → Q (.ref t) (upd S t (.tup [u1, u2])) := by
      intro S u1 u2 x1 x2 A B gS h1 h2 w1 w2 hAB n1 n2
      refine ⟨by decide, fun t nt => ?_⟩
      have g10 : Gr S (upd S t (.tup [u1, u2])) := Gr.new nt
      exact q _ (.ref t) _ (g08.trans (Gp.gr (gS.trans g10))) (d8.gr (gS.trans g10)) (.tup (.inl (.inl upd_same)) (.cons (g10.kd.dp h1) (.cons (g10.kd.dp h2) .nil))) (th_of (two_wt w1 w2) hAB) (noL_2 n1 n2)
    refine ⟨_, rfl, rfl, _, rfl, ite2 (fun _ => ?_) (fun _ => ⟨_, rfl, rfl, _, rfl, ite2 (fun _ => ?_) (fun _ => ⟨_, rfl, rfl, _, rfl, ite2 (fun _ => ?_) (fun _ => ?_)⟩)⟩)⟩
    · refine repX_ok (n := sn) (d := dS) rfl dsa rfl (by rw [lsh]; omega) (by rw [lsh]; omega) (fun H9 g9 R hR => ⟨_, rfl, hR _ (g9.kd.dp dvS8)⟩) fun H9 u1 g9 du1 => ?_
      exact ⟨_, rfl, pair g9 du1 (g9.kd.dp dsb) (rep_wt wA (wS.mono (by decide) (by decide))) wB (by decide) (noLA_rep nA nS) nB⟩
    · obtain ⟨pa', xs', e', hp', hxs'⟩ := dp_tup dsa
      cases e'
      refine ⟨_, rfl, pa, xs', rfl, hp', fun t nt => ?_⟩
      have g9 : Gr H8 (upd H8 t (.tup xs'.reverse)) := Gr.new nt
      have D9 : Dp K (upd H8 t (.tup xs'.reverse)) (.ref t) (.tuple (sh.map shT).reverse) := new_TD nt (dpA_rev hxs')
      exact ⟨_, rfl, pair g9 D9 (g9.kd.dp dsb) wA.rev wB (by decide) (noLA_iff.mpr fun d hd => noLA_iff.mp nA d (List.mem_reverse.mp hd)) nB⟩
    · refine ⟨_, rfl, ?_⟩
      have hon : on < bs.length := by omega
      have hbo : bs[on]? = some bs[on] := List.getElem?_eq_getElem hon
      generalize bs[on] = bo at hbo
      have okb := mk.bd bo (List.mem_of_getElem? hbo)
      refine repX_ok (n := an) (d := bo) rfl dsb rfl (by omega) (by omega) (fun H9 g9 R hR => ?_) fun H9 u1 g9 du1 => ?_
      · obtain ⟨pb', xs', e', hp', hxs'⟩ := dp_tup (g9.kd.dp dsb)
        cases e'
        obtain ⟨xo, hxo, dxo⟩ := dpA_get hxs' hbo
        exact ⟨_, rfl, _, rfl, pb, xs', (on : Nat), xo, rfl, rfl, hp', atI_nat hxo, hR _ dxo⟩
      · exact pair g9 (g9.kd.dp dsa) du1 wA (rep_wt wB ⟨okb.pl.1, okb.le, okb.dp⟩) (by decide) nA (noLA_rep nB (plT_noL okb.pl.2.1))
    · have gP : ∀ {S : Hp} {t : Addr} {u1 u2 : V} {x1 x2 : List PyData}, S t = none → Dp K S u1 (.tuple x1) → Dp K S u2 (.tuple x2) → Dp K (upd S t (.tup [u1, u2])) (.ref t) (.tuple [.tuple x1, .tuple x2]) := fun nt h1 h2 => new_TD nt (.cons h1 (.cons h2 .nil))
      have wcut : ∀ {a : List PyData} {L : Nat} (lo hi : Option Int), WtA a L 9 → WtA (SfG.cutD a lo hi) L 9 := fun lo hi h => (h.drop _).take _
      have lcut : ∀ (a : List PyData) (lo hi : Option Int), (SfG.cutD a lo hi).length ≤ a.length := fun a lo hi => by
        unfold SfG.cutD
        rw [List.length_take, List.length_drop]
        omega
      have lt1 : ∀ n, n ≤ 20 → n ≤ sizeLine := fun n hn => Nat.le_of_lt (SfC.small1000 (by omega))
      refine ⟨_, rfl, _, rfl, 1, rfl, _, dsa, fun v1 H9 g9 h9 => ?_⟩
      have h9' := h9
      refine ⟨_, _, g9.kd.dp dsa, h9, lt1 _ ?_, fun v2 H10 g10 h10 => ?_⟩
      · have := lcut (sh.map shT) none (some 1)
        omega
      refine ⟨_, rfl, lt1 _ (by show 2 ≤ 20; decide), fun t1 n1 => ?_⟩
      have q1 : Gr H10 (upd H10 t1 (.tup [v2, .ref pb])) := Gr.new n1
      have c1 := (g9.trans g10).trans q1
      have D1 := gP n1 h10 ((g9.trans g10).kd.dp dsb)
      generalize upd H10 t1 (.tup [v2, .ref pb]) = S1 at q1 c1 D1 ⊢
      refine ⟨_, rfl, _, rfl, 1, rfl, _, rfl, _, (c1.kd.dp dsb), fun v3 S2 g2 h2 => ?_⟩
      have c2 := c1.trans g2
      refine ⟨lt1 _ (by show 2 ≤ 20; decide), fun t2 n2 => ?_⟩
      have q2 : Gr S2 (upd S2 t2 (.tup [.ref pa, v3])) := Gr.new n2
      have c3 := c2.trans q2
      have D2 := gP n2 (c2.kd.dp dsa) h2
      have D21 := (g2.trans q2).kd.dp D1
      generalize upd S2 t2 (.tup [.ref pa, v3]) = S3 at q2 c3 D2 D21 ⊢
      refine ⟨_, rfl, _, rfl, _, rfl, 1, rfl, _, c3.kd.dp dsb, fun v4 S4 g4 h4 => ?_⟩
      refine ⟨_, _, (c3.trans g4).kd.dp dsb, h4, lt1 _ ?_, fun v5 S5 g5 h5 => ?_⟩
      · have := lcut bs none (some 1)
        omega
      refine ⟨lt1 _ (by show 2 ≤ 20; decide), fun t3 n3 => ?_⟩
      have q3 : Gr S5 (upd S5 t3 (.tup [.ref pa, v5])) := Gr.new n3
      have c5 := ((c3.trans g4).trans g5)
      have c6 := c5.trans q3
      have D3 := gP n3 (c5.kd.dp dsa) h5
      have D32 := ((g4.trans g5).trans q3).kd.dp D2
      have D31 := ((g4.trans g5).trans q3).kd.dp D21
      generalize upd S5 t3 (.tup [.ref pa, v5]) = S6 at q3 c6 D3 D31 D32 ⊢
      have hpm6 := (dr.kd (K := K) (g08.trans (Gp.gr c6))).t hpm
      refine ⟨_, rfl, pm, _, rfl, hpm6, fun t4 n4 => ?_⟩
      have q4 : Gr S6 (upd S6 t4 (.tup [.ref pa, .ref pb].reverse)) := Gr.new n4
      have c7 := c6.trans q4
      have D4 := gP n4 (c6.kd.dp dsb) (c6.kd.dp dsa)
      have D43 := q4.kd.dp D3
      have D42 := q4.kd.dp D32
      have D41 := q4.kd.dp D31
      change Dp K (upd S6 t4 (.tup [.ref pa, .ref pb].reverse)) _ _ at D4
      generalize upd S6 t4 (.tup [.ref pa, .ref pb].reverse) = S7 at q4 c7 D4 D43 D42 D41 ⊢
      refine ⟨lt1 _ (by show 4 ≤ 20; decide), fun l2 nl2 => ?_⟩
      have q5 : Gr S7 (upd S7 l2 (.lst [.ref t1, .ref t2, .ref t3, .ref t4])) := Gr.new nl2
      have DA : DpAll K (upd S7 l2 (.lst [.ref t1, .ref t2, .ref t3, .ref t4])) [.ref t1, .ref t2, .ref t3, .ref t4] _ := .cons (q5.kd.dp D41) (.cons (q5.kd.dp D42) (.cons (q5.kd.dp D43) (.cons (q5.kd.dp D4) .nil)))
      have e7 : upd S7 l2 (.lst [.ref t1, .ref t2, .ref t3, .ref t4]) l2 = some (.lst [.ref t1, .ref t2, .ref t3, .ref t4]) := upd_same
      have c8 := c7.trans q5
      change tOp _ _ _ _ (upd S7 l2 (.lst [.ref t1, .ref t2, .ref t3, .ref t4])) _
      generalize upd S7 l2 (.lst [.ref t1, .ref t2, .ref t3, .ref t4]) = S8 at q5 DA e7 c8 ⊢
      have T : ∀ d ∈ [PyData.tuple [.tuple (sh.map shT ++ SfG.cutD (sh.map shT) none (some 1)), .tuple bs], .tuple [.tuple (sh.map shT), .tuple (SfG.cutD bs none (some (-1)))], .tuple [.tuple (sh.map shT), .tuple (bs ++ SfG.cutD bs none (some 1))], .tuple [.tuple bs, .tuple (sh.map shT)]], ThOk d ∧ noL d = true := by
        intro d hd
        simp only [List.mem_cons, List.not_mem_nil, or_false] at hd
        rcases hd with rfl | rfl | rfl | rfl
        · exact ⟨th_of (two_wt (wA.app (wcut _ _ wA)) wB) (by decide), noL_2 (noLA_app nA (noLA_cut nA _ _)) nB⟩
        · exact ⟨th_of (two_wt wA (wcut _ _ wB)) (by decide), noL_2 nA (noLA_cut nB _ _)⟩
        · exact ⟨th_of (two_wt wA (wB.app (wcut _ _ wB))) (by decide), noL_2 nA (noLA_app nB (noLA_cut nB _ _))⟩
        · exact ⟨th_of (two_wt wB wA) (by decide), noL_2 nB nA⟩
      refine ⟨_, rfl, (an : Nat), 4, rfl, rfl, (by show (0 : Int) < 4; decide), ?_⟩
      have hi : (((an : Nat) : Int) % 4).toNat < [V.ref t1, .ref t2, .ref t3, .ref t4].length := by show _ < 4; omega
      have hat : [V.ref t1, .ref t2, .ref t3, .ref t4][(((an : Nat) : Int) % 4).toNat]? = some _ := List.getElem?_eq_getElem hi
      have hx := atI_nat hat
      rw [Int.toNat_of_nonneg (by omega)] at hx
      obtain ⟨dd, hdd, ddv⟩ := dpA_at DA hat
      exact ⟨l2, _, _, _, rfl, rfl, .inl (.inl e7), hx, q _ _ dd (g08.trans (Gp.gr c8)) (d8.gr c8) ddv (T dd (List.mem_of_getElem? hdd)).1 (T dd (List.mem_of_getElem? hdd)).2⟩
end
end SfM
namespace SfM
open PySem PySem.Spec PyProof.Rows L2 SfG SfC
/-! ### the law -/
abbrev nLaw : List Str := ["_law_script", "_law_last", "_law_k", "_law_state", "_law_face_here", "_law_making_here", "_law_bent_here", "_law_some", "_law_turn", "_law_odd_here", "_law_kinds_here", "_law_thing", "_law_word_here"]
theorem scLaw : FnScope nLaw ["_law_script"] (defScope sLaw) := ⟨rfl, rfl, rfl, by decide +kernel, rfl, by decide +kernel, by decide +kernel⟩
def qL : Str := (envOfC "law" (defScope sLaw) 0 0 .none).qual ++ "<lambda>"
/-- a thing that is looked at, in the heap -/
def Th (K : PySem.W.Frag) (H : Hp) (v : V) : Prop := ∃ d, Mx K H v d ∧ ThOk d
section
variable {P : Program} {w : World} {K : PySem.W.Frag} {mg : Str → Option Value} {base : Heap}
theorem Th.gr {H H' : Hp} {v : V} (h : Th K H v) (g : Gr H H') : Th K H' v := by
  obtain ⟨d, m, o⟩ := h
  exact ⟨d, m.gr g, o⟩
theorem Th.ext {H H' : Hp} {v : V} (h : Th K H v) (e : LamX.ExtN H H') : Th K H' v := by
  obtain ⟨d, m, o⟩ := h
  exact ⟨d, m.ext e, o⟩
theorem Th.dp {H : Hp} {v : V} {d : PyData} (h : Dp K H v d) (o : ThOk d) : Th K H v := ⟨d, ⟨SfG.Dp.dx h, fun ds z => h⟩, o⟩
theorem Mx.kx {H H' : Hp} {v : V} {d : PyData} (h : Mx K H v d) (g : Kx K H H') : Mx K H' v d := ⟨g.dx h.1, fun ds z => g.kd.dp (h.2 ds z)⟩
theorem Th.kx {H H' : Hp} {v : V} (h : Th K H v) (g : Kx K H H') : Th K H' v := by
  obtain ⟨d, m, o⟩ := h
  exact ⟨d, m.kx g, o⟩
theorem Th.non {H : Hp} : Th K H .non := ⟨.none, ⟨.non, fun ds z => by cases z⟩, ⟨rfl, by show (5 : Nat) ≤ _; decide, by show (0 : Nat) < 29; decide⟩⟩
theorem drw_kx {H H' : Hp} {p : Addr} (d : Drw H p) (g : Gp p H H') : Kx K H H' := by
  have := Drw.hkx (K := K) (Z := []) d g
  rw [hide_nil, hide_nil] at this
  exact this
abbrev makD (sh : List (List Int)) (bs : List PyData) : PyData := .tuple [.tuple (sh.map shT), .tuple bs]
structure MkFacts (d : PyData) : Prop where
  pl : Pln d
  le : wt d ≤ 256420
  dp : d.depth ≤ 11
theorem mk_facts {f : Fc} {sh : List (List Int)} {bs : List PyData} (m : MakOf f sh bs) (go : goF f) : MkFacts (makD sh bs) := by
  obtain ⟨wA, wB⟩ := m.wts go
  have w2 := two_wt wA wB
  refine ⟨pln_2 (pln_tup fun d hd => ?_) (pln_tup fun d hd => (m.bd d hd).pl), w2.le, w2.dep⟩
  obtain ⟨s, hs, rfl⟩ := List.mem_map.mp hd
  exact pln_shT (m.sh s hs)
theorem MkFacts.th {d : PyData} (m : MkFacts d) : ThOk d := ⟨m.pl.1, by have := m.le; omega, by have := m.dp; omega⟩
theorem BentOf.th {d d' : PyData} {B : Nat} (b : BentOf d d' B) (hw : 11 * wt d + 500 ≤ 9000000) (hd : d.depth ≤ 20) : ThOk d' := ⟨b.ok, by have := b.le; omega, by have := b.dp; omega⟩
theorem Drw.ext {H H' : Hp} {p : Addr} (d : Drw H p) (e : LamX.ExtN H H') : Drw H' p := by
  obtain ⟨x, y, h, r⟩ := d
  exact ⟨x, y, e _ _ h (fun _ z => by cases z), r⟩
theorem kt_hide {H : Hp} {l : Addr} {xs : List V} (h : H l = some (.lst xs)) : Kt K H (hide [l] H) := by
  intro a ys e
  have ne : ∀ {o : HO}, H a = some o → (∀ zs, o ≠ .lst zs) → hide [l] H a = some o := fun {o} h1 h2 => by
    rw [hide_ne]
    · exact h1
    · intro z
      rw [List.mem_singleton.mp z, h] at h1
      cases h1
      exact h2 _ rfl
  rcases e with (e | ⟨o, e⟩) | e
  · exact .inl (.inl (ne e fun _ z => by cases z))
  · exact .inl (.inr ⟨o, ne e fun _ z => by cases z⟩)
  · exact .inr e
theorem lit_th {d : PyData} (h : (okd d && decide (wt d ≤ 9000000) && decide (d.depth < 29)) = true) : ThOk d := by
  rw [Bool.and_eq_true, Bool.and_eq_true, decide_eq_true_eq, decide_eq_true_eq] at h
  exact ⟨h.1.1, h.1.2, h.2⟩
theorem th_wt {d : PyData} {L : Nat} (h : Wt d L 11) (hl : L ≤ 900000) : ThOk d := th_of h hl
theorem tabs_upd {T : List (Addr × Str)} {l : Addr} {xs : List V} {o : HO} {H : Hp} (t : LamX.Tabs T H) (h : H l = some (.lst xs)) : LamX.Tabs T (upd H l o) := fun z hz => by
  obtain ⟨ps, h1, h2, h3⟩ := t z hz
  have n1 : z.1 ≠ l := fun e => by
    rw [e, h] at h1
    cases h1
  refine ⟨ps, (upd_ne n1).trans h1, h2, fun pos cv hc => ?_⟩
  obtain ⟨c, c1, c2⟩ := h3 pos cv hc
  have n2 : c ≠ l := fun e => by
    rw [e, h] at c2
    cases c2
  exact ⟨c, c1, (upd_ne n2).trans c2⟩
theorem two_face : PyData.eqv (.list [.str "face", .str "face"]) (.list [.str "face", .str "face"]) = true := by decide +kernel
theorem two_shp : SeqAt.shaped (.list [.str "face", .str "face"]) = true := by decide +kernel
/-- what is no face -/
def Odd (K : PySem.W.Frag) (H : Hp) (v : V) : Prop := ∃ d p n, Dx K H v d ∧ Go d ∧ fltD d = some (p, n)
theorem Odd.kx {H H' : Hp} {v : V} (h : Odd K H v) (g : Kx K H H') : Odd K H' v := by
  obtain ⟨d, p, n, h, r⟩ := h
  exact ⟨d, p, n, g.dx h, r⟩
theorem odd_of {H : Hp} {v : V} {d : PyData} (h : Dx K H v d) (g : Go d) (f : fltD d = some (none, none)) : Odd K H v := ⟨d, none, none, h, g, f⟩
theorem odd_2 {H : Hp} {v : V} {a : PyData} (h : Dx K H v (.tuple [a, .tuple []])) (g : Go (.tuple [a, .tuple []])) : Odd K H v := by
  by_cases c : tupD a 1 2 = false
  · refine ⟨_, some "hidden", none, h, g, ?_⟩
    show flt2 a (.tuple []) = _
    unfold flt2
    rw [if_pos c]
  · refine ⟨_, some "deeds", none, h, g, ?_⟩
    show flt2 a (.tuple []) = _
    unfold flt2
    rw [if_neg c, if_pos (by decide)]
theorem go_lit {d : PyData} (h : (okd d && decide (wt d ≤ 1000000) && decide (d.depth ≤ 60)) = true) : Go d := Wt.lit h
/-- what was there ahead of the state -/
theorem ext_out {p : Addr} {H0 H H' : Hp} (e : LamX.ExtN H0 H) (n : H0 p = none) (b : But p H H') : LamX.ExtN H0 H' := fun c o h t => (b c (ne_of_none h n)).trans (e c o h t)
theorem tabs_but {T : List (Addr × Str)} {p : Addr} {H H' : Hp} (d : Drw H p) (t : LamX.Tabs T H) (b : But p H H') : LamX.Tabs T H' := fun z hz => by
  obtain ⟨x, y, hp, _⟩ := d
  obtain ⟨ps, h1, h2, h3⟩ := t z hz
  have n1 : z.1 ≠ p := fun e => by
    rw [e, hp] at h1
    cases h1
  refine ⟨ps, (b _ n1).trans h1, h2, fun pos cv hc => ?_⟩
  obtain ⟨c, c1, c2⟩ := h3 pos cv hc
  have n2 : c ≠ p := fun e => by
    rw [e, hp] at c2
    cases c2
  exact ⟨c, c1, (b _ n2).trans c2⟩
def spLaw (K : PySem.W.Frag) (T : List (Addr × Str)) : Sp := fun vs H Q _ => ∃ (a : Addr) (ns : List Int), vs = [.ref a] ∧ SqL K H a (ns.map V.int) ∧ LamX.Tabs T H ∧ ∀ H', Q (.bl true) H'
structure LawC (P : Program) (w : World) (K : PySem.W.Frag) (mg : Str → Option Value) (base : Heap) (k : Nat) (T : List (Addr × Str)) (CF CE : Addr) where
  fb : Addr
  fp : Addr
  fF : Addr
  fM : Addr
  fB : Addr
  ft : Addr
  fo : Addr
  fx : Addr
  fR : Addr
  fI : Addr
  fN : Addr
  fW : Addr
  fK : Addr
  db : FuncData
  dp : FuncData
  dF : FuncData
  dM : FuncData
  dB : FuncData
  dt : FuncData
  do_ : FuncData
  dx : FuncData
  dR : FuncData
  dI : FuncData
  dN : FuncData
  dK : FuncData
  HBg : Has P w K mg base k "_law_begun" ["_law_script", "_law_k"] (spBeg K) fb db
  HP : Has P w K mg base k "_law_pick" ["_law_state", "_law_many"] spPick fp dp
  HF : Has P w K mg base k "_law_face" ["_law_state", "_law_most"] (spLFace K) fF dF
  HM : Has P w K mg base k "_law_making" ["_law_state", "_law_face_here"] (spLMak K) fM dM
  BG : FnG P w K mg base CX0 k fB dB ["_law_state", "_law_thing"] (spBent K 20)
  gB : mg "_law_bent" = some (.ref fB)
  kB : PySem.W.keepIn K (.ref fB) = true
  bB : Binds K dB ["_law_state", "_law_thing"] []
  HT : Has P w K mg base k "_law_truths" ["_law_thing"] (spTru K 20) ft dt
  HO : Has P w K mg base k "_law_both" ["_law_state", "_law_making_here"] (spBoth K) fo do_
  HX : Has P w K mg base k "_law_exchanged" ["_law_state", "_law_face_here", "_law_making_here"] (spExch K) fx dx
  RG : FnG P w K mg base CX0 k fR dR ["_law_face_here", "_law_thing"] (spRight K T)
  gR : mg "_law_right" = some (.ref fR)
  kR : PySem.W.keepIn K (.ref fR) = true
  bR : Binds K dR ["_law_face_here", "_law_thing"] []
  HI : HasX P w K mg base k "is_making" ["face", "thing"] (spOddX K CF) fI dI
  HN : HasX P w K mg base k "need_making" ["face", "making"] (spOddX K CF) fN dN
  W : WordC K mg fW
  HK : Has P w K mg base (k + 1) "_law_kinds" ["_law_error"] (spKinds K mg) fK dK
  C : WdC K mg CF CE "face" bsFace
  mr : mg "range" = none
  mx : mg "max" = none
  mn : mg "min" = none
  ml : mg "len" = none
  mt : mg "tuple" = none
  mli : mg "list" = none
set_option maxHeartbeats 8000000 in
theorem ok_law {f c cP CF CE : Addr} {fd : FuncData} {k : Nat} {T : List (Addr × Str)} (F : FunC K "law" "law" sLaw f fd c) (C : LawC P w K mg base k T CF CE) (TB : LamX.TabB base mg c cP) (hT : (cP, qL) ∈ T) (hu : ∀ p ∈ T, p.1 = cP → p.2 = qL) :
    FnG P w K mg base CX0 (k + 3) f fd ["_law_script"] (spLaw K T) := by
  obtain ⟨oc, dV, kW, doc, pm, cdv, ct, an, od, osl, lkW, hcW, bW⟩ := C.W.ex
  refine funC_okG F scLaw (fun vs H Q E h => ?_) (fun A outer s H vs Q E hr hgd h => ?_)
  · obtain ⟨a, ns, rfl, _⟩ := h
    rfl
  · obtain ⟨a, ns, rfl, hS, hTs, q⟩ := h
    have nd := scLaw.nd
    have hr0 := hr.mono (show k ≤ k + 2 by omega)
    refine' ⟨_, pss_cons ?s1 (pss_cons ?s2 (pss_one ?s3)), ?rd⟩
    case s1 => exact ps_set (i := 1) nd rfl (.inl rfl) pe_non
    case s2 =>
      refine' ps_for PassesOwn.never rfl (pi_range1 rfl C.mr (pa_cons (pe_callB (call_max2 rfl) (by rfl) C.mx (by decide +kernel) (pa_cons pe_int (pa_cons (pe_callB (call_min2 rfl) (by rfl) C.mn (by decide +kernel) (pa_cons pe_int (pa_cons (pe_callB call_len_seq (by rfl) C.ml PySem.boot_len (pa_cons (pv 0) pa_nil)) pa_nil))) pa_nil))) pa_nil))
        (pg_name (i := 2) nd rfl (.inl rfl)) (pss_cons ?b1 (pss_cons ?b2 (pss_cons ?b3 (pss_cons ?b4 (pss_cons ?b5 (pss_cons ?b6 (pss_cons ?b7 (pss_cons ?b8 (pss_cons ?b9 (pss_cons ?b10 (pss_cons ?b11 (pss_cons ?b12 (pss_one ?b13)))))))))))))
      case b1 => exact ps_set (i := 3) nd rfl (.inl rfl) (hcall C.HBg hr0 (pa_cons (pv 0) (pa_cons (pv 2) pa_nil)))
      case b2 => exact ps_set (i := 4) nd rfl (.inr rfl) (hcall C.HF hr0 (pa_cons (pv 3) (pa_cons pe_int pa_nil)))
      case b3 => exact ps_set (i := 5) nd rfl (.inr rfl) (hcall C.HM hr0 (pa_cons (pv 3) (pa_cons (pv 4) pa_nil)))
      case b4 => exact ps_set (i := 6) nd rfl (.inr rfl) (pe_callG C.BG hr0 hgd (by rfl) C.gB C.kB C.bB .nil pass0 (pa_cons (pv 3) (pa_cons (pv 5) pa_nil)))
      case b5 =>
        exact ps_set (i := 7) nd rfl (.inl rfl) (pe_lst (pa_cons (pv 5) (pa_cons (hcall C.HT hr0 (pa_cons (pv 5) pa_nil)) (pa_cons (hcall C.HO hr0 (pa_cons (pv 3) (pa_cons (pv 5) pa_nil))) (pa_cons (pv 6)
          (pa_cons (pe_callG C.BG hr0 hgd (by rfl) C.gB C.kB C.bB .nil pass0 (pa_cons (pv 3) (pa_cons (pv 6) pa_nil))) (pa_cons (pv 1) (pa_cons (pv 5) pa_nil))))))))
      case b6 =>
        exact ps_for PassesOwn.never rfl (pi_range1 (by rfl) C.mr (pa_cons pe_int pa_nil)) (pg_name (i := 8) nd rfl (.inl rfl)) (pss_cons
          (ps_expr (pe_bm PySem.F.plainAttrs_list PySem.F.slot_list_append PySem.F.type_list_append mt_append (pv 7) (pa_cons (hcall C.HX hr0 (pa_cons (pv 3) (pa_cons (pv 4) (pa_cons (pv 5) pa_nil)))) pa_nil)))
          (pss_one (ps_expr (pe_bm PySem.F.plainAttrs_list PySem.F.slot_list_append PySem.F.type_list_append mt_append (pv 7) (pa_cons (pe_callG C.BG hr0 hgd (by rfl) C.gB C.kB C.bB .nil pass0 (pa_cons (pv 3) (pa_cons (pv 5) pa_nil))) pa_nil)))))
      case b7 =>
        exact ps_expr (pe_bm PySem.F.plainAttrs_list PySem.F.slot_list_append PySem.F.type_list_append mt_append (pv 7) (pa_cons (pe_ix (r := rIxL K) ix_list (pe_lst (pa_cons pe_non (pa_cons (pe_tup pa_nil) (pa_cons pe_int (pa_cons (pe_callTy call_list_of (by rfl) C.mli (by decide +kernel) (pa_cons (pv 5) pa_nil))
          (pa_cons pe_dnewK (pa_cons (pe_op op_catD (pv 5) (pe_tup (pa_cons (pe_tup pa_nil) pa_nil))) (pa_cons pe_str (pa_cons pe_bl pa_nil))))))))) (hcall C.HP hr0 (pa_cons (pv 3) (pa_cons pe_int pa_nil))) (fun _ _ => rfl)) pa_nil))
      case b8 =>
        refine' ps_if (pt_cmpR (op_neD hr.units) ?lc (pe_lst pa_nil) (nomark _)) (pss_one (ps_ret pe_bl)) pss_nil
        case lc =>
          exact pe_lc (own := [("_law_thing", 11)]) (g := gName 11) rfl nd (pi_list (pv 7)) (blkOk_by (own := [("_law_thing", 11)]) (N := nLaw) (sc := defScope sLaw) (by decide +kernel))
            (fun _ _ _ _ _ => pg_name (i := 11) nd rfl (Or.inl rfl)) (fun _ _ _ _ _ => pts_one (pt_not (pt_val (pe_callG C.RG hr0 hgd (by rfl) C.gR C.kR C.bR .nil pass0 (pa_cons (pv 4) (pa_cons (pv 11) pa_nil)))))) (fun _ _ _ _ _ => pv 11)
      case b9 =>
        exact ps_set (i := 9) nd rfl (.inr rfl) (pe_ix (r := rIxL K) ix_list (pe_lst (pa_cons pe_non (pa_cons (pe_tup pa_nil) (pa_cons (pe_slice sl_tupD (pv 4) po_none (po_some pe_int)) (pa_cons (pe_callTy call_list_of (by rfl) C.mli (by decide +kernel) (pa_cons (pv 4) pa_nil))
          (pa_cons pe_dnewK (pa_cons (pe_tup (pa_cons (pe_ix (r := rIxT K) ix_tup (pv 4) pe_int (fun _ _ => rfl)) (pa_cons (pe_tup pa_nil) pa_nil))) (pa_cons pe_str pa_nil)))))))) (hcall C.HP hr0 (pa_cons (pv 3) (pa_cons pe_int pa_nil))) (fun _ _ => rfl))
      case b10 =>
        exact ps_set (i := 10) nd rfl (.inl rfl) (pe_lst (pa_cons (LamX.pe_lamcall (T := T) (TT := TWord CF "face") (t := fun E => tCall (spOddX K CF) [] E (tCons (tVar 9) (tCons (tVar 5) tNil))) (k := k) (by rfl) C.W.at_ C.W.kp lkW hcW bW scWord rfl (by first | exact Or.inl rfl | exact Or.inr (Or.inl rfl))
            (word_gives (hr.mono (by omega)) C.HK C.C C.mt) TB rfl hT hu (hr.mono (by omega)) (LamX.lamS_by (sc := defScope sLaw) (by decide +kernel)) rfl (fun _ _ _ _ _ => rfl)
            (fun A outer s H E f c' hr2 => pe_call C.HI.ok hr2 (by rfl) C.HI.at_ C.HI.kp C.HI.bd .nil (passes_call (takes_of (E := E) rfl rfl rfl rfl) (fun _ _ _ _ h => h)) (pa_cons (pv 9) (pa_cons (pv 5) pa_nil)))) pa_nil))
      case b11 =>
        exact ps_expr (pe_bm PySem.F.plainAttrs_list PySem.F.slot_list_append PySem.F.type_list_append mt_append (pv 10) (pa_cons (LamX.pe_lamcall (T := T) (TT := TWord CF "face") (t := fun E => tCall (spOddX K CF) [] E (tCons (tVar 9) (tCons (tVar 6) tNil))) (k := k) (by rfl) C.W.at_ C.W.kp lkW hcW bW scWord rfl (by first | exact Or.inl rfl | exact Or.inr (Or.inl rfl))
            (word_gives (hr.mono (by omega)) C.HK C.C C.mt) TB rfl hT hu (hr.mono (by omega)) (LamX.lamS_by (sc := defScope sLaw) (by decide +kernel)) rfl (fun _ _ _ _ _ => rfl)
            (fun A outer s H E f c' hr2 => pe_call C.HN.ok hr2 (by rfl) C.HN.at_ C.HN.kp C.HN.bd .nil (passes_call (takes_of (E := E) rfl rfl rfl rfl) (fun _ _ _ _ h => h)) (pa_cons (pv 9) (pa_cons (pv 6) pa_nil)))) pa_nil))
      case b12 =>
        refine' ps_if (pt_cmpR (op_neD hr.units) ?lc2 (pe_lst (pa_cons pe_str (pa_cons pe_str pa_nil))) (nomark _)) (pss_one (ps_ret pe_bl)) pss_nil
        case lc2 =>
          exact pe_lc (own := [("_law_word_here", 12)]) (g := gName 12) rfl nd (pi_list (pv 10)) (blkOk_by (own := [("_law_word_here", 12)]) (N := nLaw) (sc := defScope sLaw) (by decide +kernel))
            (fun _ _ _ _ _ => pg_name (i := 12) nd rfl (Or.inl rfl)) (fun _ _ _ _ _ => pts_nil) (fun _ _ _ _ _ => pe_ix (r := rIxT K) ix_tup (pv 12) pe_int (fun _ _ => rfl))
      case b13 => exact ps_set (i := 1) nd rfl (.inl rfl) (pv 5)
    case s3 => exact ps_ret pe_bl
    case rd =>
    refine ⟨_, rfl, a, _, rfl, .inl hS, 6, _, rfl, 2, _, rfl, _, rfl, ?lo, ?hi, ?loop⟩
    case lo =>
      have : (-(2 ^ 62) : Int) = -4611686018427387904 := by decide
      rw [this]
      split <;> omega
    case hi =>
      have : ((2 ^ 62) : Int) = 4611686018427387904 := by decide
      rw [this]
      split
      · split <;> omega
      · omega
    case loop =>
    have hM : (if (if (((ns.map V.int).length : Nat) : Int) < 6 then (((ns.map V.int).length : Nat) : Int) else 6) > 2 then (if (((ns.map V.int).length : Nat) : Int) < 6 then (((ns.map V.int).length : Nat) : Int) else 6) else (2 : Int)).toNat ≤ 6 := by
      split
      · split <;> omega
      · omega
    generalize (if (if (((ns.map V.int).length : Nat) : Int) < 6 then (((ns.map V.int).length : Nat) : Int) else 6) > 2 then (if (((ns.map V.int).length : Nat) : Int) < 6 then (((ns.map V.int).length : Nat) : Int) else 6) else (2 : Int)).toNat = M at hM ⊢
    refine for_range (n := M) (fun i σ H1 => ∃ (lv : V) (y2 y3 y4 y5 y6 y7 y8 y9 y10 : Option V), σ = [some (.ref a), some lv, y2, y3, y4, y5, y6, y7, y8, y9, y10, none, none] ∧ LamX.ExtN H H1 ∧ LamX.Tabs T H1 ∧ Th K H1 lv) ?o0 ?o1 ?o2
    case o0 => exact ⟨.non, _, _, _, _, _, _, _, _, _, rfl, LamX.ExtN.refl _, hTs, Th.non⟩
    case o2 =>
      rintro σ H1 ⟨lv, y2, y3, y4, y5, y6, y7, y8, y9, y10, rfl, _⟩
      exact q H1
    case o1 =>
    rintro i σ H1 hi ⟨lv, y2, y3, y4, y5, y6, y7, y8, y9, y10, rfl, e1, t1, hl⟩
    refine ⟨_, rfl, _, rfl, a, ns, i, by rw [Int.zero_add]; rfl, (ext_kd e1).l hS, by omega, fun H2 p np g2 dr => ?_⟩
    refine ⟨_, rfl, p, 8, rfl, by decide, by decide, dr, fun H3 vf f g3 dr3 hf go => ?_⟩
    refine ⟨_, rfl, _, rfl, p, vf, f, rfl, dr3, hf, go, fun H4 vm sh bs g4 dr4 hm mk => ?_⟩
    have mf := mk_facts mk go
    have mle := mf.le
    have mdp := mf.dp
    have hfm := (dr3.kd g4).dp hf
    refine ⟨_, rfl, _, rfl, p, vm, makD sh bs, 100, [], rfl, dr4, by rw [hide_nil]; exact hm, There.nil, mf.pl.1, by omega, by omega, by decide, mf.pl.2.2, by decide, fun H5 vb db g5 dr5 hb ob => ?_⟩
    rw [hide_nil] at hb
    have oble := ob.lp mf.pl.2.1
    have obdp := ob.dp
    have hm5 := (dr4.kd g5).dp hm
    have hf5 := (dr4.kd g5).dp hfm
    have gp5 : Gp p H2 H5 := (g3.trans g4).trans g5
    have hl2 := hl.gr g2
    have hl5 := hl2.kx (drw_kx dr gp5)
    clear hl hf hfm hm g3 g4 g5 dr3 dr4
    -- some things
    refine ⟨_, rfl, _, rfl, vm, makD sh bs, rfl, hm5, mf.pl.2.1, by omega, by omega, fun H6 v1 g6 h1 => ?_⟩
    have o1 := tru_ok mf.pl.2.1 mf.pl.1
    have th1 : ThOk (tru (makD sh bs)) := ⟨o1.1, by have := o1.2.1; omega, by rw [o1.2.2.1]; omega⟩
    have dr6 := dr5.gr g6
    have gp6 := gp5.trans (Gp.gr g6)
    refine ⟨_, rfl, _, rfl, p, vm, f, sh, bs, rfl, dr6, g6.kd.dp hm5, go, mk, fun H7 v2 d2 g7 dr7 h2 th2 => ?_⟩
    have gp7 := gp6.trans g7
    have hb7 : Dp K H7 vb db := (dr6.kd g7).dp (g6.kd.dp hb)
    refine ⟨_, rfl, _, rfl, _, rfl, p, vb, db, 101, [], rfl, dr7, by rw [hide_nil]; exact hb7, There.nil, ob.ok, by omega, by omega, by decide, ob.sI, by decide, fun H8 v3 d3 g8 dr8 h3 o3 => ?_⟩
    rw [hide_nil] at h3
    have th3 : ThOk d3 := o3.th (by omega) (by omega)
    have thb : ThOk db := ob.th (by omega) (by omega)
    have thm := mf.th
    have gp8 := gp7.trans g8
    have hm8 := (dr7.kd g8).dp ((dr6.kd g7).dp (g6.kd.dp hm5))
    have hf8 := (dr7.kd g8).dp ((dr6.kd g7).dp (g6.kd.dp hf5))
    have hb8 := (dr7.kd g8).dp hb7
    have hl8 := hl2.kx (drw_kx dr gp8)
    have all8 : ∀ v ∈ [vm, v1, v2, vb, v3, lv, vm], Th K H8 v := by
      intro v hv
      simp only [List.mem_cons, List.not_mem_nil, or_false] at hv
      rcases hv with rfl | rfl | rfl | rfl | rfl | rfl | rfl
      · exact Th.dp hm8 thm
      · exact Th.dp ((dr7.kd g8).dp ((dr6.kd g7).dp h1)) th1
      · exact Th.dp ((dr7.kd g8).dp h2) th2
      · exact Th.dp hb8 thb
      · exact Th.dp h3 th3
      · exact hl8
      · exact Th.dp hm8 thm
    clear gp6 gp7 hb7 h1 h2 h3 hl8 hm5 hf5 hb dr5 dr6 dr7 g6 g7 g8 gp5
    refine ⟨_, rfl, _, rfl, by show 7 ≤ sizeLine; decide, fun l nl => ?_⟩
    have gl : Gr H8 (upd H8 l (.lst [vm, v1, v2, vb, v3, lv, vm])) := Gr.new nl
    have el : upd H8 l (.lst [vm, v1, v2, vb, v3, lv, vm]) l = some (.lst [vm, v1, v2, vb, v3, lv, vm]) := upd_same
    have all9 : ∀ v ∈ [vm, v1, v2, vb, v3, lv, vm], Th K (hide [l] (upd H8 l (.lst [vm, v1, v2, vb, v3, lv, vm]))) v := fun v hv => by
      have := all8 v hv
      rw [← hide_nil (H := H8)] at this
      exact this.kx (hide_cons nl)
    have hc9 : Kx K H8 (hide [l] (upd H8 l (.lst [vm, v1, v2, vb, v3, lv, vm]))) := by
      have := hide_cons (K := K) (S := []) (o := .lst [vm, v1, v2, vb, v3, lv, vm]) nl
      rw [hide_nil] at this
      exact this
    have gp9 := gp8.trans (Gp.gr gl)
    have dr9 := dr8.gr gl
    have hm9 := hc9.kd.dp hm8
    have hf9 := hc9.kd.dp hf8
    have hb9 := hc9.kd.dp hb8
    have l7 : [vm, v1, v2, vb, v3, lv, vm].length ≤ 7 := Nat.le_refl _
    refine gname_go ?_
    dsimp only
    have nlp : l ≠ p := dr8.ne nl
    have nl2 : H2 l = none := gp8.back l nlp nl
    clear all8 hm8 hf8 hb8 dr8 gp8 hc9 gl
    generalize [vm, v1, v2, vb, v3, lv, vm] = vs at all9 l7 el gp9 dr9 hm9 hf9 hb9 ⊢
    generalize upd H8 l (.lst vs) = H9 at all9 l7 el gp9 dr9 hm9 hf9 hb9 ⊢
    -- twice: exchanged, bent
    refine ⟨2, rfl, by decide, by decide, for_range (n := 2) (fun j σ S => ∃ (z2 y8 : Option V) (us : List V), σ = [some (.ref a), some lv, z2, some (.ref p), some vf, some vm, some vb, some (.ref l), y8, y9, y10, none, none] ∧ S l = some (.lst us) ∧ us.length ≤ 7 + 2 * j ∧ (∀ v ∈ us, Th K (hide [l] S) v) ∧
      Dp K (hide [l] S) vf f.d ∧ Dp K (hide [l] S) vm (makD sh bs) ∧ Dp K (hide [l] S) vb db ∧ Gp p H2 S ∧ Drw S p) ?p0 ?p1 ?p2⟩
    case p0 => exact ⟨_, _, vs, rfl, el, l7, all9, hf9, hm9, hb9, gp9, dr9⟩
    case p1 =>
      rintro j σ S hj ⟨z2, y8, us, rfl, eS, lu, hu, hf, hm, hb, g, d⟩
      have th : There [l] S := There.nil.cons (by rw [eS]; exact fun z => by cases z)
      refine ⟨_, rfl, .inl ⟨rfl, _, .inl (.inl eS)⟩, _, rfl, _, rfl, _, rfl, p, vf, vm, f, sh, bs, rfl, d, hide_kx.kd.dp hm, go, mk, fun S1 w1 x1 g1 d1 hw1 t1 n1 => ?_⟩
      have eS1 := g1.lst nlp eS
      have kS1 : Kx K (hide [l] S) (hide [l] S1) := Drw.hkx d g1
      refine ⟨l, us, w1, rfl, rfl, eS1, SfC.small1000 (by omega), ?_⟩
      have eU : upd S1 l (.lst (us ++ [w1])) l = some (.lst (us ++ [w1])) := upd_same
      have hU : hide [l] (upd S1 l (.lst (us ++ [w1]))) = hide [l] S1 := hide_upd (by simp)
      have gU : Gp p H2 (upd S1 l (.lst (us ++ [w1]))) := (g.trans g1).upd_new nl2
      have dU : Drw (upd S1 l (.lst (us ++ [w1]))) p := d1.upd nlp
      have hw1' : Dp K (hide [l] S1) w1 x1 := Kt.dp (kt_hide eS1) hw1 n1
      generalize upd S1 l (.lst (us ++ [w1])) = S2 at eU hU gU dU ⊢
      have th2 : There [l] S2 := There.nil.cons (by rw [eU]; exact fun z => by cases z)
      have hm2 : Dp K (hide [l] S2) vm (makD sh bs) := by rw [hU]; exact kS1.kd.dp hm
      refine ⟨_, rfl, .inl ⟨rfl, _, .inl (.inl eU)⟩, _, rfl, _, rfl, p, vm, makD sh bs, 100, [l], rfl, dU, hm2, th2, mf.pl.1, by omega, by omega, by decide, mf.pl.2.2, by decide, fun S3 w3 x3 g3 d3 hw3 o3' => ?_⟩
      have eS3 := g3.lst nlp eU
      have kS3 : Kx K (hide [l] S2) (hide [l] S3) := Drw.hkx dU g3
      refine ⟨l, us ++ [w1], w3, rfl, rfl, eS3, SfC.small1000 (by rw [List.length_append, List.length_singleton]; omega), ?_⟩
      have hV : hide [l] (upd S3 l (.lst (us ++ [w1] ++ [w3]))) = hide [l] S3 := hide_upd (by simp)
      refine ⟨_, _, us ++ [w1] ++ [w3], rfl, upd_same, ?_, ?_, ?_, ?_, ?_, (gU.trans g3).upd_new nl2, d3.upd nlp⟩
      · rw [List.length_append, List.length_append, List.length_singleton, List.length_singleton]
        omega
      · rw [hV]
        intro v hv
        rcases List.mem_append.mp hv with hv | hv
        · refine Th.kx ?_ kS3
          rw [hU]
          rcases List.mem_append.mp hv with hv | hv
          · exact (hu v hv).kx kS1
          · rw [List.mem_singleton.mp hv]
            exact Th.dp hw1' t1
        · rw [List.mem_singleton.mp hv]
          exact Th.dp hw3 (o3'.th (by omega) (by omega))
      · rw [hV]
        refine kS3.kd.dp ?_
        rw [hU]
        exact kS1.kd.dp hf
      · rw [hV]
        exact kS3.kd.dp hm2
      · rw [hV]
        refine kS3.kd.dp ?_
        rw [hU]
        exact kS1.kd.dp hb
    case p2 =>
    rintro σ S ⟨z2, y8, us, rfl, eS, lu, hu, hf, hm, hb, g, d⟩
    have th : There [l] S := There.nil.cons (by rw [eS]; exact fun z => by cases z)
    -- one of eight
    refine ⟨_, rfl, .inl ⟨rfl, _, .inl (.inl eS)⟩, by show 0 ≤ sizeLine; decide, fun q1 n1 => ?_⟩
    have k1 : Gr S (upd S q1 (.tup [])) := Gr.new n1
    have A1 : Dp K (hide [l] (upd S q1 (.tup []))) (.ref q1) (.tuple []) := new_TH n1 th .nil
    generalize upd S q1 (.tup []) = S1 at k1 A1 ⊢
    have th1 := th.gr k1
    have hm1 := k1.hkx (S := [l]).kd.dp hm
    obtain ⟨pm, vas, epm, hpm, hvas⟩ := dp_tup hm1
    subst epm
    refine ⟨_, rfl, pm, _, rfl, .inr (hide_kx.kd.t hpm), fun q2 n2 => ?_⟩
    have k2 : Gr S1 (upd S1 q2 (.lst vas)) := Gr.new n2
    have A2 : Dp K (hide [l] (upd S1 q2 (.lst vas))) (.ref q2) (.list [.tuple (sh.map shT), .tuple bs]) := new_LH n2 th1 hvas
    generalize upd S1 q2 (.lst vas) = S2 at k2 A2 ⊢
    have th2 := th1.gr k2
    intro q3 n3
    have k3 : Gr S2 (upd S2 q3 (.dK [])) := Gr.new n3
    have A3 : Dx K (hide [l] (upd S2 q3 (.dK []))) (.ref q3) (.dict []) := .emp (hide_new n3 th2)
    generalize upd S2 q3 (.dK []) = S3 at k3 A3 ⊢
    have th3 := th2.gr k3
    refine ⟨_, rfl, by show 0 ≤ sizeLine; decide, fun q4 n4 => ?_⟩
    have k4 : Gr S3 (upd S3 q4 (.tup [])) := Gr.new n4
    have A4 : Dp K (upd S3 q4 (.tup [])) (.ref q4) (.tuple []) := new_TD n4 .nil
    generalize upd S3 q4 (.tup []) = S4 at k4 A4 ⊢
    have th4 := th3.gr k4
    refine ⟨by show 1 ≤ sizeLine; decide, fun q5 n5 => ?_⟩
    have k5 : Gr S4 (upd S4 q5 (.tup [.ref q4])) := Gr.new n5
    have A5 : Dp K (upd S4 q5 (.tup [.ref q4])) (.ref q5) (.tuple [.tuple []]) := new_TD n5 (.cons A4 .nil)
    generalize upd S4 q5 (.tup [.ref q4]) = S5 at k5 A5 ⊢
    have th5 := th4.gr k5
    have k15 := k2.trans (k3.trans (k4.trans k5))
    refine ⟨_, _, hide_kx.kd.dp (k15.hkx (S := [l]).kd.dp hm1), A5, by show 3 ≤ sizeLine; decide, fun v6 S6 k6 A6 => ?_⟩
    have k26 := k3.trans (k4.trans (k5.trans k6))
    have k36 := k4.trans (k5.trans k6)
    have k16 := k2.trans k26
    have k06 := k1.trans k16
    have eS6 := k06.lst eS
    have A6 : Dp K (hide [l] S6) v6 (.tuple [.tuple (sh.map shT), .tuple bs, .tuple []]) := Kt.dp (kt_hide eS6) A6 (by
      show noL (.tuple [.tuple (sh.map shT), .tuple bs, .tuple []]) = true
      have := plT_noL mf.pl.2.1
      rw [noL, noLA, noLA, noLA, Bool.and_eq_true, Bool.and_eq_true] at this
      rw [noL, noLA, noLA, noLA, noLA, this.1, this.2.1]
      rfl)
    obtain ⟨wA, wB⟩ := mk.wts go
    have all6 : ∀ v ∈ [V.non, .ref q1, .int 5, .ref q2, .ref q3, v6, .str "making", .bl true], Th K (hide [l] S6) v := by
      intro v hv
      simp only [List.mem_cons, List.not_mem_nil, or_false] at hv
      rcases hv with rfl | rfl | rfl | rfl | rfl | rfl | rfl | rfl
      · exact Th.non
      · exact Th.dp (k16.hkx.kd.dp A1) (lit_th (by decide +kernel))
      · exact Th.dp (.int 5) (lit_th (by decide +kernel))
      · exact Th.dp (k26.hkx.kd.dp A2) (th_wt ((Wt.lst (WtA.cons (Wt.tup wA) (WtA.cons (Wt.tup wB) (WtA.nil (L := 0))))).mono (Nat.le_refl _) (Nat.le_refl _)) (by decide))
      · exact ⟨_, ⟨(k36.hkx.dx A3), fun ds z => by cases z⟩, lit_th (by decide +kernel)⟩
      · exact Th.dp A6 (th_wt ((Wt.tup (WtA.cons (Wt.tup wA) (WtA.cons (Wt.tup wB) (WtA.cons (Wt.tup (WtA.nil (L := 0))) (WtA.nil (L := 0)))))).mono (Nat.le_refl _) (Nat.le_refl _)) (by decide))
      · exact Th.dp (.str _) (lit_th (by decide +kernel))
      · exact Th.dp (.bl _) (lit_th (by decide +kernel))
    have hf6 := k06.hkx (S := [l]).kd.dp hf
    have hm6 := k16.hkx (S := [l]).kd.dp hm1
    have hb6 := k06.hkx (S := [l]).kd.dp hb
    have hu6 : ∀ v ∈ us, Th K (hide [l] S6) v := fun v hv => (hu v hv).kx k06.hkx
    have th6 := th.gr k06
    have g6 := g.trans (Gp.gr k06)
    have d6 := d.gr k06
    clear A1 A2 A3 A4 A5 A6 k1 k2 k3 k4 k5 k6 k15 k26 k36 k16 k06 th1 th2 th3 th4 th5 hm1 hpm hvas wA wB hf hm hb hu th g d eS n1 n2 n3 n4 n5
    refine ⟨by show 8 ≤ sizeLine; decide, fun l8 n8 => ?_⟩
    have e8 : upd S6 l8 (.lst [V.non, .ref q1, .int 5, .ref q2, .ref q3, v6, .str "making", .bl true]) l8 = some (.lst [V.non, .ref q1, .int 5, .ref q2, .ref q3, v6, .str "making", .bl true]) := upd_same
    have k8 : Gr S6 (upd S6 l8 (.lst [V.non, .ref q1, .int 5, .ref q2, .ref q3, v6, .str "making", .bl true])) := Gr.new n8
    have l8l : [V.non, .ref q1, .int 5, .ref q2, .ref q3, v6, .str "making", .bl true].length = 8 := rfl
    change tCall spPick [] E0 (tCons (tVar 3) (tCons (tC (.int 8)) tNil)) _ (upd S6 l8 (.lst [V.non, .ref q1, .int 5, .ref q2, .ref q3, v6, .str "making", .bl true])) _
    generalize [V.non, .ref q1, .int 5, .ref q2, .ref q3, v6, .str "making", .bl true] = ws at e8 k8 l8l all6 ⊢
    generalize upd S6 l8 (.lst ws) = S8 at e8 k8 ⊢
    have d8 := d6.gr k8
    refine ⟨_, rfl, p, 8, rfl, d8, by decide, by decide, fun S9 w9 b9 d9 w0 w8 => ?_⟩
    have n8p : l8 ≠ p := d6.ne n8
    have hi8 : w9.toNat < ws.length := by omega
    have hat : ws[w9.toNat]? = some ws[w9.toNat] := List.getElem?_eq_getElem hi8
    have hx := atI_nat hat
    rw [Int.toNat_of_nonneg w0] at hx
    have th9 := all6 _ (List.mem_of_getElem? hat)
    generalize ws[w9.toNat] = v9 at hat hx th9
    refine ⟨l8, _, w9, v9, rfl, rfl, .inl (.inl ((b9 l8 n8p).trans e8)), hx, ?_⟩
    have kx9 : Kx K (hide [l] S6) (hide [l] S9) := by
      have a1 := k8.hkx (K := K) (S := [l])
      have a2 := Drw.hkx (K := K) (Z := [l]) d8 (Gp.but b9)
      exact ⟨⟨fun h => a2.kd.l (a1.kd.l h), fun h => a2.kd.t (a1.kd.t h)⟩, fun h => a2.e (a1.e h)⟩
    have e9 : S9 l = some (.lst us) := (b9 l nlp).trans (k8.lst eS6)
    refine ⟨l, us, v9, rfl, rfl, e9, SfC.small1000 (by omega), ?_⟩
    have eW : upd S9 l (.lst (us ++ [v9])) l = some (.lst (us ++ [v9])) := upd_same
    have hW : hide [l] (upd S9 l (.lst (us ++ [v9]))) = hide [l] S9 := hide_upd (by simp)
    have gW : Gp p H2 (upd S9 l (.lst (us ++ [v9]))) := ((g6.trans (Gp.gr k8)).trans (Gp.but b9)).upd_new nl2
    have dW : Drw (upd S9 l (.lst (us ++ [v9]))) p := d9.upd nlp
    have allW : ∀ v ∈ us ++ [v9], Th K (upd S9 l (.lst (us ++ [v9]))) v := fun v hv => by
      refine Th.kx ?_ (hide_kx (S := [l]))
      rw [hW]
      rcases List.mem_append.mp hv with hv | hv
      · exact (hu6 v hv).kx kx9
      · rw [List.mem_singleton.mp hv]
        exact th9.kx kx9
    have hfW : Dp K (upd S9 l (.lst (us ++ [v9]))) vf f.d := hide_kx.kd.dp (by rw [hW]; exact kx9.kd.dp hf6)
    have hmW : Dp K (upd S9 l (.lst (us ++ [v9]))) (.ref pm) (makD sh bs) := hide_kx.kd.dp (by rw [hW]; exact kx9.kd.dp hm6)
    have hbW : Dp K (upd S9 l (.lst (us ++ [v9]))) vb db := hide_kx.kd.dp (by rw [hW]; exact kx9.kd.dp hb6)
    have gO : Gr H1 (upd S9 l (.lst (us ++ [v9]))) := Gp.out g2 np gW
    generalize upd S9 l (.lst (us ++ [v9])) = HW at eW gW dW allW hfW hmW hbW gO ⊢
    generalize us ++ [v9] = xs at eW allW ⊢
    clear hW kx9 th9 hx e8 all6 hu6 hf6 hm6 hb6
    have tW := gr_tabs gO t1
    have eO := e1.trans (gr_ext gO)
    -- all are right
    refine ⟨_, rfl, l, rfl, ⟨_, .inl (.inl eW)⟩, fun D nD => ?_⟩
    have gD : Gr HW (upd HW D (.lst [])) := Gr.new nD
    refine lc_it (walk_list (xs := xs)) (fun j S' => LamX.ExtN (upd HW D (.lst [])) S' ∧ LamX.Tabs T S') ⟨LamX.ExtN.refl _, gr_tabs gD tW⟩ ?v0 ?v1 ?v2
    case v0 =>
      rintro j S' hj ⟨e', t'⟩
      exact .inl (.inl (e' _ _ (gD.lst eW) fun _ z => by cases z))
    case v1 =>
      rintro j x S' S hj ⟨e', t'⟩ ⟨rfl, ex⟩
      obtain ⟨dx, mx, tx⟩ := allW x (List.mem_of_getElem? ex)
      have ee := (gr_ext gD).trans e'
      exact ⟨rfl, _, rfl, _, rfl, vf, x, f, dx, rfl, (ext_kd ee).dp hfW, go, mx.ext ee, tx.ok, tx.dp, tx.le, t', fun S2 e2 t2 => ⟨_, rfl, iteF ⟨e'.trans e2, t2⟩⟩⟩
    case v2 =>
    rintro S ⟨e', t'⟩
    have eD : S D = some (.lst []) := e' _ _ upd_same fun _ z => by cases z
    refine ⟨Nat.zero_le _, fun p5 np5 => ?_⟩
    have nD5 : D ≠ p5 := ne_of_none eD np5
    have g5 : Gr S (upd S p5 (.lst [])) := Gr.new np5
    refine ⟨.list [], .list [], .lst (.inl (.inl ((upd_ne nD5).trans eD))) .nil, .lst (.inl (.inl upd_same)) .nil, rfl, rfl, _, rfl, iteF ?_⟩
    have ee := ((gr_ext gD).trans e').trans (gr_ext g5)
    have tX := gr_tabs g5 t'
    have dX := dW.ext ee
    have hfX := (ext_kd ee).dp hfW
    have hmX := (ext_kd ee).dp hmW
    have hbX := (ext_kd ee).dp hbW
    have eX := eO.trans ee
    have e1X := (gr_ext gO).trans ee
    generalize upd S p5 (.lst []) = HX at tX dX hfX hmX hbX eX e1X ⊢
    clear e' t' eD nD5 g5 ee gD tW eO gO gW dW allW hfW hmW hbW eW e9 eS6 np5 nD
    -- one of seven that are no face
    have wf := wt_fc go
    obtain ⟨pf, va, vb', epf, hpf, hva, hvb⟩ := dp_2 hfX
    subst epf
    refine ⟨by show 0 ≤ sizeLine; decide, fun q1 n1 => ?_⟩
    have k1 : Gr HX (upd HX q1 (.tup [])) := Gr.new n1
    have A1 : Dp K (upd HX q1 (.tup [])) (.ref q1) (.tuple []) := new_TD n1 .nil
    generalize upd HX q1 (.tup []) = S1 at k1 A1 ⊢
    refine ⟨_, rfl, 1, rfl, _, k1.kd.dp hfX, fun v2 S2 k2 A2 => ?_⟩
    have k02 := k1.trans k2
    refine ⟨_, rfl, pf, _, rfl, .inr (k02.sqt hpf), fun q3 n3 => ?_⟩
    have k3 : Gr S2 (upd S2 q3 (.lst [va, vb'])) := Gr.new n3
    have A3 : Dp K (upd S2 q3 (.lst [va, vb'])) (.ref q3) (.list [.tuple (f.hd.map .str), .tuple (f.ds.map De.d)]) := new_LD n3 (.cons (k02.kd.dp hva) (.cons (k02.kd.dp hvb) .nil))
    generalize upd S2 q3 (.lst [va, vb']) = S3 at k3 A3 ⊢
    intro q4 n4
    have k4 : Gr S3 (upd S3 q4 (.dK [])) := Gr.new n4
    have A4 : Dx K (upd S3 q4 (.dK [])) (.ref q4) (.dict []) := .emp upd_same
    generalize upd S3 q4 (.dK []) = S4 at k4 A4 ⊢
    have k04 := k02.trans (k3.trans k4)
    refine ⟨_, rfl, pf, _, 0, va, rfl, rfl, k04.sqt hpf, rfl, by show 0 ≤ sizeLine; decide, fun q5 n5 => ?_⟩
    have k5 : Gr S4 (upd S4 q5 (.tup [])) := Gr.new n5
    have A5 : Dp K (upd S4 q5 (.tup [])) (.ref q5) (.tuple []) := new_TD n5 .nil
    generalize upd S4 q5 (.tup []) = S5 at k5 A5 ⊢
    have k05 := k04.trans k5
    refine ⟨by show 2 ≤ sizeLine; decide, fun q6 n6 => ?_⟩
    have k6 : Gr S5 (upd S5 q6 (.tup [va, .ref q5])) := Gr.new n6
    have A6 : Dp K (upd S5 q6 (.tup [va, .ref q5])) (.ref q6) (.tuple [.tuple (f.hd.map .str), .tuple []]) := new_TD n6 (.cons (k05.kd.dp hva) (.cons A5 .nil))
    generalize upd S5 q6 (.tup [va, .ref q5]) = S6 at k6 A6 ⊢
    have whd := wt_hd go.hid
    have wdd := wt_dd go
    have all6 : ∀ v ∈ [V.non, .ref q1, v2, .ref q3, .ref q4, .ref q6, .str "face"], Odd K S6 v := by
      intro v hv
      simp only [List.mem_cons, List.not_mem_nil, or_false] at hv
      rcases hv with rfl | rfl | rfl | rfl | rfl | rfl | rfl
      · exact odd_of .non (go_lit (by decide +kernel)) rfl
      · exact odd_of (SfG.Dp.dx ((k2.trans (k3.trans (k4.trans (k5.trans k6)))).kd.dp A1)) (go_lit (by decide +kernel)) rfl
      · exact odd_of (d := .tuple [.tuple (f.hd.map .str)]) (SfG.Dp.dx ((k3.trans (k4.trans (k5.trans k6))).kd.dp A2)) ((Wt.tup (WtA.cons (Wt.tup whd) (WtA.nil (L := 0)))).mono (by decide) (by decide)) rfl
      · exact odd_of (SfG.Dp.dx ((k4.trans (k5.trans k6)).kd.dp A3)) ((Wt.lst (WtA.cons ((Wt.tup whd).mono (Nat.le_refl _) (show 1 ≤ 3 by decide)) (WtA.cons (Wt.tup wdd) (WtA.nil (L := 0))))).mono (by decide) (by decide)) rfl
      · exact odd_of ((k5.trans k6).kx.dx A4) (go_lit (by decide +kernel)) rfl
      · exact odd_2 (SfG.Dp.dx A6) ((Wt.tup (WtA.cons (Wt.tup whd) (WtA.cons ((Wt.tup (WtA.nil (L := 0) (D := 0))).mono (Nat.le_refl _) (by decide)) (WtA.nil (L := 0))))).mono (by decide) (by decide))
      · exact odd_of (.str _) (go_lit (by decide +kernel)) rfl
    have k06 := k05.trans k6
    have hm6 := k06.kd.dp hmX
    have hb6 := k06.kd.dp hbX
    have d6 := dX.gr k06
    have t6 := gr_tabs k06 tX
    have e6 := e1X.trans (gr_ext k06)
    clear k1 k2 k3 k4 k5 k6 k02 k04 k05 A1 A2 A3 A4 A5 A6 n1 n3 n4 n5 n6 hva hvb hmX hbX tX e1X
    refine ⟨by show 7 ≤ sizeLine; decide, fun l8 n8 => ?_⟩
    have e8 : upd S6 l8 (.lst [V.non, .ref q1, v2, .ref q3, .ref q4, .ref q6, .str "face"]) l8 = some (.lst [V.non, .ref q1, v2, .ref q3, .ref q4, .ref q6, .str "face"]) := upd_same
    have k8 : Gr S6 (upd S6 l8 (.lst [V.non, .ref q1, v2, .ref q3, .ref q4, .ref q6, .str "face"])) := Gr.new n8
    have l8l : [V.non, .ref q1, v2, .ref q3, .ref q4, .ref q6, .str "face"].length = 7 := rfl
    change tCall spPick [] E0 (tCons (tVar 3) (tCons (tC (.int 7)) tNil)) _ (upd S6 l8 (.lst [V.non, .ref q1, v2, .ref q3, .ref q4, .ref q6, .str "face"])) _
    generalize [V.non, .ref q1, v2, .ref q3, .ref q4, .ref q6, .str "face"] = ws at e8 k8 l8l all6 ⊢
    generalize upd S6 l8 (.lst ws) = S8 at e8 k8 ⊢
    have d8 := d6.gr k8
    refine ⟨_, rfl, p, 7, rfl, d8, by decide, by decide, fun S9 w9 b9 d9 w0 w8 => ?_⟩
    have n8p : l8 ≠ p := d6.ne n8
    have hi8 : w9.toNat < ws.length := by omega
    have hat : ws[w9.toNat]? = some ws[w9.toNat] := List.getElem?_eq_getElem hi8
    have hx := atI_nat hat
    rw [Int.toNat_of_nonneg w0] at hx
    have th9 := all6 _ (List.mem_of_getElem? hat)
    generalize ws[w9.toNat] = v9 at hat hx th9
    refine ⟨l8, _, w9, v9, rfl, rfl, .inl (.inl ((b9 l8 n8p).trans e8)), hx, ?_⟩
    have kx9 := drw_kx (K := K) d8 (Gp.but b9)
    have od9 := (th9.kx k8.kx).kx kx9
    have hm9 := kx9.kd.dp (k8.kd.dp hm6)
    have t9 := tabs_but d8 (gr_tabs k8 t6) b9
    have e9 := ext_out (e6.trans (gr_ext k8)) np b9
    refine gname_go ?_
    dsimp only
    clear kx9 th9 hx hat e8 k8 all6 d8 d6 hm6 hb6 t6 e6 b9 n8
    obtain ⟨od, pp, nn, hod, god, fod⟩ := od9
    -- refused as no face: is_making
    refine ⟨t9, fun R1 r1 u1 => ?_⟩
    refine ⟨fun cls dd H' => cls = .ref CF ∧ Gr R1 H' ∧ ∃ x, dd = some x ∧ H' x = some (.xd [("number", onV nn), ("part", pV pp)]), fun _ _ => False,
      ⟨_, rfl, _, rfl, v9, .ref pm, od, pp, nn, rfl, (ext_kx r1).dx hod, god, fod, fun H' dd g' hd => ⟨rfl, g', dd, rfl, hd⟩⟩, ?_, fun _ _ h => h.elim⟩
    rintro cls dd R2 ⟨rfl, g12, x1, rfl, hx1⟩
    refine ⟨rfl, x1, _, _, rfl, hx1, fun R3 T1 g23 hT1 => ?_⟩
    have g13 := g12.trans g23
    refine ⟨by show 1 ≤ sizeLine; decide, fun lk nlk => ?_⟩
    have g34 : Gr R3 (upd R3 lk (.lst [.ref T1])) := Gr.new nlk
    have eK : upd R3 lk (.lst [.ref T1]) lk = some (.lst [.ref T1]) := upd_same
    have hT4 := g34.tup hT1
    generalize upd R3 lk (.lst [.ref T1]) = R4 at g34 eK hT4 ⊢
    have u4 := gr_tabs (g13.trans g34) u1
    have r4 := r1.trans (gr_ext (g13.trans g34))
    refine gname_go ?_
    dsimp only
    have nH : ∀ o, H1 lk = some o → (∀ ps, o ≠ .tbl ps) → False := fun o h t => by
      rw [(e9.trans (r1.trans (gr_ext g13))) _ _ h t] at nlk
      cases nlk
    clear hx1 g12 g23 g13 g34 hT1 nlk u1
    -- and need_making
    refine ⟨_, rfl, .inl ⟨rfl, _, .inl (.inl eK)⟩, u4, fun R5 r5 u5 => ?_⟩
    refine ⟨fun cls dd H' => cls = .ref CF ∧ Gr R5 H' ∧ ∃ x, dd = some x ∧ H' x = some (.xd [("number", onV nn), ("part", pV pp)]), fun _ _ => False,
      ⟨_, rfl, _, rfl, v9, vb, od, pp, nn, rfl, (ext_kx (r4.trans r5)).dx hod, god, fod, fun H' dd g' hd => ⟨rfl, g', dd, rfl, hd⟩⟩, ?_, fun _ _ h => h.elim⟩
    rintro cls dd R6 ⟨rfl, g56, x2, rfl, hx2⟩
    refine ⟨rfl, x2, _, _, rfl, hx2, fun R7 T2 g67 hT2 => ?_⟩
    have g57 := g56.trans g67
    have eK7 : R7 lk = some (.lst [.ref T1]) := g57.lst (r5 _ _ eK fun _ z => by cases z)
    have hT7 : R7 T1 = some (.tup [.str "face", pV pp, onV nn]) := g57.tup (r5 _ _ hT4 fun _ z => by cases z)
    refine ⟨lk, _, _, rfl, rfl, eK7, by show 1 < sizeLine; decide, ?_⟩
    have eL : upd R7 lk (.lst ([.ref T1] ++ [.ref T2])) lk = some (.lst [.ref T1, .ref T2]) := upd_same
    have n1 : T1 ≠ lk := fun z => by
      rw [z, eK7] at hT7
      cases hT7
    have n2 : T2 ≠ lk := fun z => by
      rw [z, eK7] at hT2
      cases hT2
    have hT18 := (upd_ne (H := R7) (o := .lst ([.ref T1] ++ [.ref T2])) n1).trans hT7
    have hT28 := (upd_ne (H := R7) (o := .lst ([.ref T1] ++ [.ref T2])) n2).trans hT2
    have u8 : LamX.Tabs T (upd R7 lk (.lst ([.ref T1] ++ [.ref T2]))) := tabs_upd (gr_tabs g57 u5) eK7
    have eR7 := e9.trans (r4.trans (r5.trans (gr_ext g57)))
    have e8 : LamX.ExtN H1 (upd R7 lk (.lst ([.ref T1] ++ [.ref T2]))) := fun b o h t => by
      have nb : b ≠ lk := fun z => nH o (by rw [← z]; exact h) t
      rw [upd_ne nb]
      exact eR7 b o h t
    have hm8 : Dp K (upd R7 lk (.lst ([.ref T1] ++ [.ref T2]))) (.ref pm) (makD sh bs) := Kt.dp (kt_lst eK7) ((ext_kd (r4.trans (r5.trans (gr_ext g57)))).dp hm9) (plT_noL mf.pl.2.1)
    generalize upd R7 lk (.lst ([.ref T1] ++ [.ref T2])) = R8 at eL hT18 hT28 u8 e8 hm8 ⊢
    refine ⟨_, rfl, lk, rfl, ⟨_, .inl (.inl eL)⟩, fun D nD => ?_⟩
    refine lc_it (walk_list (xs := [.ref T1, .ref T2])) (fun j S' => S' D = some (.lst (List.replicate j (.str "face"))) ∧ Gr R8 S') ⟨upd_same, Gr.new nD⟩ ?x0 ?x1 ?x2
    case x0 =>
      rintro j S' hj ⟨_, g'⟩
      exact .inl (.inl (g'.lst eL))
    case x1 =>
      rintro j x S' S hj ⟨eD, g'⟩ ⟨rfl, ex⟩
      have hj2 : j < 2 := hj
      obtain ⟨t, rfl, ht⟩ : ∃ t, x = .ref t ∧ R8 t = some (.tup [.str "face", pV pp, onV nn]) := by
        have := List.mem_of_getElem? ex
        simp only [List.mem_cons, List.not_mem_nil, or_false] at this
        rcases this with rfl | rfl
        · exact ⟨_, rfl, hT18⟩
        · exact ⟨_, rfl, hT28⟩
      refine ⟨rfl, tYes_i (iteT ⟨_, rfl, t, _, 0, .str "face", rfl, rfl, .inl (.inl (g'.tup ht)), rfl, _, eD, SfC.small1000 (by rw [List.length_replicate]; omega), ?_, g'.upd_new nD⟩)⟩
      rw [upd_same, List.replicate_succ']
    case x2 =>
    rintro S ⟨eD, g'⟩
    refine ⟨by show 2 ≤ sizeLine; decide, fun p9 n9 => ?_⟩
    have nD9 : D ≠ p9 := ne_of_none eD n9
    have g9 : Gr S (upd S p9 (.lst [.str "face", .str "face"])) := Gr.new n9
    refine ⟨.list [.str "face", .str "face"], .list [.str "face", .str "face"], .lst (.inl (.inl ((upd_ne nD9).trans eD))) (.cons (.str _) (.cons (.str _) .nil)), .lst (.inl (.inl upd_same)) (.cons (.str _) (.cons (.str _) .nil)), two_shp, two_shp, _, rfl, ?_⟩
    rw [two_face]
    refine iteF ?_
    have gg := g'.trans g9
    exact ⟨_, rfl, .ref pm, _, _, _, _, _, _, _, _, _, rfl, e1.trans (e8.trans (gr_ext gg)), gr_tabs gg u8, Th.dp (gg.kd.dp hm8) mf.th⟩
end
end SfM
namespace SfM
open PySem PySem.Spec PyProof.Rows L2 SfG
open SfC
theorem init_bindsM {K : PySem.W.Frag} {kV doc pm ct : Value} {an : Option Addr} {cda cc : Addr} : Binds K (PySem.W.ksFn "__init__" "BadMaking.__init__" (defArgs sMakIni) (defBody sMakIni) (defScope sMakIni) .none kV doc pm an (.ref cda) ct cc) ["self", "part", "number"] [] := Binds.all fun us hl => match us, hl with | [_, _, _], _ => rfl
theorem init_bindsF {K : PySem.W.Frag} {kV doc pm ct : Value} {an : Option Addr} {cda cc : Addr} : Binds K (PySem.W.ksFn "__init__" "BadFace.__init__" (defArgs sFaceIni) (defBody sFaceIni) (defScope sFaceIni) .none kV doc pm an (.ref cda) ct cc) ["self", "part", "number"] [] := Binds.all fun us hl => match us, hl with | [_, _, _], _ => rfl
set_option maxHeartbeats 4000000 in
theorem all_mk {l : PySem.W.OpenLaw} {w : World} {K : PySem.W.Frag} {h : Heap} {mg : Str → Option Value} {fa : Addr} (X : K.In h) (G : h.Ns mainGlobals mg) (hfa : mg "law" = some (.ref fa))
    {q : Program} (T : TabsOf q mg h)
    {fSh : Addr} {odSh anSh : Option Addr} {slSh : Array (Option Value)} {ocSh kVSh dcSh pmSh ctSh cdSh : Value}
    (aSh : PySem.W.nsIn K mainGlobals "shown" = some (some (.ref fSh))) (lSh : K.lookup fSh = some ⟨ocSh, odSh, .func (PySem.W.fnOf "shown" "shown" (defArgs sShown) (defBody sShown) (defScope sShown) .none kVSh dcSh pmSh anSh cdSh ctSh), slSh⟩) (hSh : PySem.W.codeIn K cdSh "shown" = true) (kSh : PySem.W.keepIn K (.ref fSh) = true)
    {fA : Addr} {odA anA : Option Addr} {slA : Array (Option Value)} {ocA kVA dcA pmA ctA cdA : Value}
    (aA : PySem.W.nsIn K mainGlobals "is_name" = some (some (.ref fA))) (lA : K.lookup fA = some ⟨ocA, odA, .func (PySem.W.fnOf "is_name" "is_name" (defArgs sName) (defBody sName) (defScope sName) .none kVA dcA pmA anA cdA ctA), slA⟩) (hA : PySem.W.codeIn K cdA "is_name" = true) (kA : PySem.W.keepIn K (.ref fA) = true)
    {fB : Addr} {odB anB : Option Addr} {slB : Array (Option Value)} {ocB kVB dcB pmB ctB cdB : Value}
    (aB : PySem.W.nsIn K mainGlobals "is_kind" = some (some (.ref fB))) (lB : K.lookup fB = some ⟨ocB, odB, .func (PySem.W.fnOf "is_kind" "is_kind" (defArgs sKind) (defBody sKind) (defScope sKind) .none kVB dcB pmB anB cdB ctB), slB⟩) (hB : PySem.W.codeIn K cdB "is_kind" = true) (kB : PySem.W.keepIn K (.ref fB) = true)
    {fC : Addr} {odC anC : Option Addr} {slC : Array (Option Value)} {ocC kVC dcC pmC ctC cdC : Value}
    (aC : PySem.W.nsIn K mainGlobals "first_bad_deed" = some (some (.ref fC))) (lC : K.lookup fC = some ⟨ocC, odC, .func (PySem.W.fnOf "first_bad_deed" "first_bad_deed" (defArgs sBadD) (defBody sBadD) (defScope sBadD) .none kVC dcC pmC anC cdC ctC), slC⟩) (hC : PySem.W.codeIn K cdC "first_bad_deed" = true) (kC : PySem.W.keepIn K (.ref fC) = true)
    {fD : Addr} {odD anD : Option Addr} {slD : Array (Option Value)} {ocD kVD dcD pmD ctD cdD : Value}
    (aD : PySem.W.nsIn K mainGlobals "first_bad_hidden" = some (some (.ref fD))) (lD : K.lookup fD = some ⟨ocD, odD, .func (PySem.W.fnOf "first_bad_hidden" "first_bad_hidden" (defArgs sBadH) (defBody sBadH) (defScope sBadH) .none kVD dcD pmD anD cdD ctD), slD⟩) (hD : PySem.W.codeIn K cdD "first_bad_hidden" = true) (kD : PySem.W.keepIn K (.ref fD) = true)
    {fE : Addr} {odE anE : Option Addr} {slE : Array (Option Value)} {ocE kVE dcE pmE ctE cdE : Value}
    (aE : PySem.W.nsIn K mainGlobals "face_fault" = some (some (.ref fE))) (lE : K.lookup fE = some ⟨ocE, odE, .func (PySem.W.fnOf "face_fault" "face_fault" (defArgs sFault) (defBody sFault) (defScope sFault) .none kVE dcE pmE anE cdE ctE), slE⟩) (hE : PySem.W.codeIn K cdE "face_fault" = true) (kE : PySem.W.keepIn K (.ref fE) = true)
    {fN : Addr} {odN anN : Option Addr} {slN : Array (Option Value)} {ocN kVN dcN pmN ctN cdN : Value}
    (aN : PySem.W.nsIn K mainGlobals "need_face" = some (some (.ref fN))) (lN : K.lookup fN = some ⟨ocN, odN, .func (PySem.W.fnOf "need_face" "need_face" (defArgs sNeed) (defBody sNeed) (defScope sNeed) .none kVN dcN pmN anN cdN ctN), slN⟩) (hN : PySem.W.codeIn K cdN "need_face" = true) (kN : PySem.W.keepIn K (.ref fN) = true)
    {fLe : Addr} {odLe anLe : Option Addr} {slLe : Array (Option Value)} {ocLe kVLe dcLe pmLe ctLe cdLe : Value}
    (aLe : PySem.W.nsIn K mainGlobals "left_by_expression" = some (some (.ref fLe))) (lLe : K.lookup fLe = some ⟨ocLe, odLe, .func (PySem.W.fnOf "left_by_expression" "left_by_expression" (defArgs sLbe) (defBody sLbe) (defScope sLbe) .none kVLe dcLe pmLe anLe cdLe ctLe), slLe⟩) (hLe : PySem.W.codeIn K cdLe "left_by_expression" = true) (kLe : PySem.W.keepIn K (.ref fLe) = true)
    {fLb : Addr} {odLb anLb : Option Addr} {slLb : Array (Option Value)} {ocLb kVLb dcLb pmLb ctLb cdLb : Value}
    (aLb : PySem.W.nsIn K mainGlobals "left_by_body" = some (some (.ref fLb))) (lLb : K.lookup fLb = some ⟨ocLb, odLb, .func (PySem.W.fnOf "left_by_body" "left_by_body" (defArgs sLbb) (defBody sLbb) (defScope sLbb) .none kVLb dcLb pmLb anLb cdLb ctLb), slLb⟩) (hLb : PySem.W.codeIn K cdLb "left_by_body" = true) (kLb : PySem.W.keepIn K (.ref fLb) = true)
    {fSp : Addr} {odSp anSp : Option Addr} {slSp : Array (Option Value)} {ocSp kVSp dcSp pmSp ctSp cdSp : Value}
    (aSp : PySem.W.nsIn K mainGlobals "is_shape" = some (some (.ref fSp))) (lSp : K.lookup fSp = some ⟨ocSp, odSp, .func (PySem.W.fnOf "is_shape" "is_shape" (defArgs sShape) (defBody sShape) (defScope sShape) .none kVSp dcSp pmSp anSp cdSp ctSp), slSp⟩) (hSp : PySem.W.codeIn K cdSp "is_shape" = true) (kSp : PySem.W.keepIn K (.ref fSp) = true)
    {fMf : Addr} {odMf anMf : Option Addr} {slMf : Array (Option Value)} {ocMf kVMf dcMf pmMf ctMf cdMf : Value}
    (aMf : PySem.W.nsIn K mainGlobals "making_fault" = some (some (.ref fMf))) (lMf : K.lookup fMf = some ⟨ocMf, odMf, .func (PySem.W.fnOf "making_fault" "making_fault" (defArgs sMFault) (defBody sMFault) (defScope sMFault) .none kVMf dcMf pmMf anMf cdMf ctMf), slMf⟩) (hMf : PySem.W.codeIn K cdMf "making_fault" = true) (kMf : PySem.W.keepIn K (.ref fMf) = true)
    {fIm : Addr} {odIm anIm : Option Addr} {slIm : Array (Option Value)} {ocIm kVIm dcIm pmIm ctIm cdIm : Value}
    (aIm : PySem.W.nsIn K mainGlobals "is_making" = some (some (.ref fIm))) (lIm : K.lookup fIm = some ⟨ocIm, odIm, .func (PySem.W.fnOf "is_making" "is_making" (defArgs sIsM) (defBody sIsM) (defScope sIsM) .none kVIm dcIm pmIm anIm cdIm ctIm), slIm⟩) (hIm : PySem.W.codeIn K cdIm "is_making" = true) (kIm : PySem.W.keepIn K (.ref fIm) = true)
    {fRm : Addr} {odRm anRm : Option Addr} {slRm : Array (Option Value)} {ocRm kVRm dcRm pmRm ctRm cdRm : Value}
    (aRm : PySem.W.nsIn K mainGlobals "refuse_no_making" = some (some (.ref fRm))) (lRm : K.lookup fRm = some ⟨ocRm, odRm, .func (PySem.W.fnOf "refuse_no_making" "refuse_no_making" (defArgs sRefM) (defBody sRefM) (defScope sRefM) .none kVRm dcRm pmRm anRm cdRm ctRm), slRm⟩) (hRm : PySem.W.codeIn K cdRm "refuse_no_making" = true) (kRm : PySem.W.keepIn K (.ref fRm) = true)
    {fNm : Addr} {odNm anNm : Option Addr} {slNm : Array (Option Value)} {ocNm kVNm dcNm pmNm ctNm cdNm : Value}
    (aNm : PySem.W.nsIn K mainGlobals "need_making" = some (some (.ref fNm))) (lNm : K.lookup fNm = some ⟨ocNm, odNm, .func (PySem.W.fnOf "need_making" "need_making" (defArgs sNeedM) (defBody sNeedM) (defScope sNeedM) .none kVNm dcNm pmNm anNm cdNm ctNm), slNm⟩) (hNm : PySem.W.codeIn K cdNm "need_making" = true) (kNm : PySem.W.keepIn K (.ref fNm) = true)
    {fBg : Addr} {odBg anBg : Option Addr} {slBg : Array (Option Value)} {ocBg kVBg dcBg pmBg ctBg cdBg : Value}
    (aBg : PySem.W.nsIn K mainGlobals "_law_begun" = some (some (.ref fBg))) (lBg : K.lookup fBg = some ⟨ocBg, odBg, .func (PySem.W.fnOf "_law_begun" "_law_begun" (defArgs sBeg) (defBody sBeg) (defScope sBeg) .none kVBg dcBg pmBg anBg cdBg ctBg), slBg⟩) (hBg : PySem.W.codeIn K cdBg "_law_begun" = true) (kBg : PySem.W.keepIn K (.ref fBg) = true)
    {fPk : Addr} {odPk anPk : Option Addr} {slPk : Array (Option Value)} {ocPk kVPk dcPk pmPk ctPk cdPk : Value}
    (aPk : PySem.W.nsIn K mainGlobals "_law_pick" = some (some (.ref fPk))) (lPk : K.lookup fPk = some ⟨ocPk, odPk, .func (PySem.W.fnOf "_law_pick" "_law_pick" (defArgs sPick) (defBody sPick) (defScope sPick) .none kVPk dcPk pmPk anPk cdPk ctPk), slPk⟩) (hPk : PySem.W.codeIn K cdPk "_law_pick" = true) (kPk : PySem.W.keepIn K (.ref fPk) = true)
    {fLn : Addr} {odLn anLn : Option Addr} {slLn : Array (Option Value)} {ocLn kVLn dcLn pmLn ctLn cdLn : Value}
    (aLn : PySem.W.nsIn K mainGlobals "_law_names" = some (some (.ref fLn))) (lLn : K.lookup fLn = some ⟨ocLn, odLn, .func (PySem.W.fnOf "_law_names" "_law_names" (defArgs sLNames) (defBody sLNames) (defScope sLNames) .none kVLn dcLn pmLn anLn cdLn ctLn), slLn⟩) (hLn : PySem.W.codeIn K cdLn "_law_names" = true) (kLn : PySem.W.keepIn K (.ref fLn) = true)
    {fLk : Addr} {odLk anLk : Option Addr} {slLk : Array (Option Value)} {ocLk kVLk dcLk pmLk ctLk cdLk : Value}
    (aLk : PySem.W.nsIn K mainGlobals "_law_kind" = some (some (.ref fLk))) (lLk : K.lookup fLk = some ⟨ocLk, odLk, .func (PySem.W.fnOf "_law_kind" "_law_kind" (defArgs sLKind) (defBody sLKind) (defScope sLKind) .none kVLk dcLk pmLk anLk cdLk ctLk), slLk⟩) (hLk : PySem.W.codeIn K cdLk "_law_kind" = true) (kLk : PySem.W.keepIn K (.ref fLk) = true)
    {fLf : Addr} {odLf anLf : Option Addr} {slLf : Array (Option Value)} {ocLf kVLf dcLf pmLf ctLf cdLf : Value}
    (aLf : PySem.W.nsIn K mainGlobals "_law_face" = some (some (.ref fLf))) (lLf : K.lookup fLf = some ⟨ocLf, odLf, .func (PySem.W.fnOf "_law_face" "_law_face" (defArgs sLFace) (defBody sLFace) (defScope sLFace) .none kVLf dcLf pmLf anLf cdLf ctLf), slLf⟩) (hLf : PySem.W.codeIn K cdLf "_law_face" = true) (kLf : PySem.W.keepIn K (.ref fLf) = true)
    {fLs : Addr} {odLs anLs : Option Addr} {slLs : Array (Option Value)} {ocLs kVLs dcLs pmLs ctLs cdLs : Value}
    (aLs : PySem.W.nsIn K mainGlobals "_law_shape" = some (some (.ref fLs))) (lLs : K.lookup fLs = some ⟨ocLs, odLs, .func (PySem.W.fnOf "_law_shape" "_law_shape" (defArgs sLShape) (defBody sLShape) (defScope sLShape) .none kVLs dcLs pmLs anLs cdLs ctLs), slLs⟩) (hLs : PySem.W.codeIn K cdLs "_law_shape" = true) (kLs : PySem.W.keepIn K (.ref fLs) = true)
    {fFi : Addr} {odFi anFi : Option Addr} {slFi : Array (Option Value)} {ocFi kVFi dcFi pmFi ctFi cdFi : Value}
    (aFi : PySem.W.nsIn K mainGlobals "_law_fields" = some (some (.ref fFi))) (lFi : K.lookup fFi = some ⟨ocFi, odFi, .func (PySem.W.fnOf "_law_fields" "_law_fields" (defArgs sFields) (defBody sFields) (defScope sFields) .none kVFi dcFi pmFi anFi cdFi ctFi), slFi⟩) (hFi : PySem.W.codeIn K cdFi "_law_fields" = true) (kFi : PySem.W.keepIn K (.ref fFi) = true)
    {fAm : Addr} {odAm anAm : Option Addr} {slAm : Array (Option Value)} {ocAm kVAm dcAm pmAm ctAm cdAm : Value}
    (aAm : PySem.W.nsIn K mainGlobals "_law_among" = some (some (.ref fAm))) (lAm : K.lookup fAm = some ⟨ocAm, odAm, .func (PySem.W.fnOf "_law_among" "_law_among" (defArgs sAmg) (defBody sAmg) (defScope sAmg) .none kVAm dcAm pmAm anAm cdAm ctAm), slAm⟩) (hAm : PySem.W.codeIn K cdAm "_law_among" = true) (kAm : PySem.W.keepIn K (.ref fAm) = true)
    {fLo : Addr} {odLo anLo : Option Addr} {slLo : Array (Option Value)} {ocLo kVLo dcLo pmLo ctLo cdLo : Value}
    (aLo : PySem.W.nsIn K mainGlobals "_law_looked" = some (some (.ref fLo))) (lLo : K.lookup fLo = some ⟨ocLo, odLo, .func (PySem.W.fnOf "_law_looked" "_law_looked" (defArgs sLook) (defBody sLook) (defScope sLook) .none kVLo dcLo pmLo anLo cdLo ctLo), slLo⟩) (hLo : PySem.W.codeIn K cdLo "_law_looked" = true) (kLo : PySem.W.keepIn K (.ref fLo) = true)
    {fEx : Addr} {odEx anEx : Option Addr} {slEx : Array (Option Value)} {ocEx kVEx dcEx pmEx ctEx cdEx : Value}
    (aEx : PySem.W.nsIn K mainGlobals "_law_expression" = some (some (.ref fEx))) (lEx : K.lookup fEx = some ⟨ocEx, odEx, .func (PySem.W.fnOf "_law_expression" "_law_expression" (defArgs sExp) (defBody sExp) (defScope sExp) .none kVEx dcEx pmEx anEx cdEx ctEx), slEx⟩) (hEx : PySem.W.codeIn K cdEx "_law_expression" = true) (kEx : PySem.W.keepIn K (.ref fEx) = true)
    {fBo : Addr} {odBo anBo : Option Addr} {slBo : Array (Option Value)} {ocBo kVBo dcBo pmBo ctBo cdBo : Value}
    (aBo : PySem.W.nsIn K mainGlobals "_law_body" = some (some (.ref fBo))) (lBo : K.lookup fBo = some ⟨ocBo, odBo, .func (PySem.W.fnOf "_law_body" "_law_body" (defArgs sBod) (defBody sBod) (defScope sBod) .none kVBo dcBo pmBo anBo cdBo ctBo), slBo⟩) (hBo : PySem.W.codeIn K cdBo "_law_body" = true) (kBo : PySem.W.keepIn K (.ref fBo) = true)
    {fLm : Addr} {odLm anLm : Option Addr} {slLm : Array (Option Value)} {ocLm kVLm dcLm pmLm ctLm cdLm : Value}
    (aLm : PySem.W.nsIn K mainGlobals "_law_making" = some (some (.ref fLm))) (lLm : K.lookup fLm = some ⟨ocLm, odLm, .func (PySem.W.fnOf "_law_making" "_law_making" (defArgs sLMak) (defBody sLMak) (defScope sLMak) .none kVLm dcLm pmLm anLm cdLm ctLm), slLm⟩) (hLm : PySem.W.codeIn K cdLm "_law_making" = true) (kLm : PySem.W.keepIn K (.ref fLm) = true)
    {fK : Addr} {odK anK : Option Addr} {slK : Array (Option Value)} {ocK kVK dcK pmK ctK cdK : Value}
    (aK : PySem.W.nsIn K mainGlobals "_law_kinds" = some (some (.ref fK))) (lK : K.lookup fK = some ⟨ocK, odK, .func (PySem.W.fnOf "_law_kinds" "_law_kinds" (defArgs sKinds) (defBody sKinds) (defScope sKinds) .none kVK dcK pmK anK cdK ctK), slK⟩) (hK : PySem.W.codeIn K cdK "_law_kinds" = true) (kK : PySem.W.keepIn K (.ref fK) = true)
    {fWo : Addr} {odWo anWo : Option Addr} {slWo : Array (Option Value)} {ocWo kVWo dcWo pmWo ctWo cdWo : Value}
    (aWo : PySem.W.nsIn K mainGlobals "_law_word" = some (some (.ref fWo))) (lWo : K.lookup fWo = some ⟨ocWo, odWo, .func (PySem.W.fnOf "_law_word" "_law_word" (defArgs sWord) (defBody sWord) (defScope sWord) .none kVWo dcWo pmWo anWo cdWo ctWo), slWo⟩) (hWo : PySem.W.codeIn K cdWo "_law_word" = true) (kWo : PySem.W.keepIn K (.ref fWo) = true)
    {fIs : Addr} {odIs anIs : Option Addr} {slIs : Array (Option Value)} {ocIs kVIs dcIs pmIs ctIs cdIs : Value}
    (aIs : PySem.W.nsIn K mainGlobals "_law_is_shape" = some (some (.ref fIs))) (lIs : K.lookup fIs = some ⟨ocIs, odIs, .func (PySem.W.fnOf "_law_is_shape" "_law_is_shape" (defArgs sLIsS) (defBody sLIsS) (defScope sLIsS) .none kVIs dcIs pmIs anIs cdIs ctIs), slIs⟩) (hIs : PySem.W.codeIn K cdIs "_law_is_shape" = true) (kIs : PySem.W.keepIn K (.ref fIs) = true)
    {fDu : Addr} {odDu anDu : Option Addr} {slDu : Array (Option Value)} {ocDu kVDu dcDu pmDu ctDu cdDu : Value}
    (aDu : PySem.W.nsIn K mainGlobals "_law_due" = some (some (.ref fDu))) (lDu : K.lookup fDu = some ⟨ocDu, odDu, .func (PySem.W.fnOf "_law_due" "_law_due" (defArgs sDue) (defBody sDue) (defScope sDue) .none kVDu dcDu pmDu anDu cdDu ctDu), slDu⟩) (hDu : PySem.W.codeIn K cdDu "_law_due" = true) (kDu : PySem.W.keepIn K (.ref fDu) = true)
    {fOd : Addr} {odOd anOd : Option Addr} {slOd : Array (Option Value)} {ocOd kVOd dcOd pmOd ctOd cdOd : Value}
    (aOd : PySem.W.nsIn K mainGlobals "_law_odd" = some (some (.ref fOd))) (lOd : K.lookup fOd = some ⟨ocOd, odOd, .func (PySem.W.fnOf "_law_odd" "_law_odd" (defArgs sOdd) (defBody sOdd) (defScope sOdd) .none kVOd dcOd pmOd anOd cdOd ctOd), slOd⟩) (hOd : PySem.W.codeIn K cdOd "_law_odd" = true) (kOd : PySem.W.keepIn K (.ref fOd) = true)
    {fBe : Addr} {odBe anBe : Option Addr} {slBe : Array (Option Value)} {ocBe kVBe dcBe pmBe ctBe cdBe : Value}
    (aBe : PySem.W.nsIn K mainGlobals "_law_bent" = some (some (.ref fBe))) (lBe : K.lookup fBe = some ⟨ocBe, odBe, .func (PySem.W.fnOf "_law_bent" "_law_bent" (defArgs sBent) (defBody sBent) (defScope sBent) .none kVBe dcBe pmBe anBe cdBe ctBe), slBe⟩) (hBe : PySem.W.codeIn K cdBe "_law_bent" = true) (kBe : PySem.W.keepIn K (.ref fBe) = true)
    {fTr : Addr} {odTr anTr : Option Addr} {slTr : Array (Option Value)} {ocTr kVTr dcTr pmTr ctTr cdTr : Value}
    (aTr : PySem.W.nsIn K mainGlobals "_law_truths" = some (some (.ref fTr))) (lTr : K.lookup fTr = some ⟨ocTr, odTr, .func (PySem.W.fnOf "_law_truths" "_law_truths" (defArgs sTru) (defBody sTru) (defScope sTru) .none kVTr dcTr pmTr anTr cdTr ctTr), slTr⟩) (hTr : PySem.W.codeIn K cdTr "_law_truths" = true) (kTr : PySem.W.keepIn K (.ref fTr) = true)
    {fRi coRi ptRi : Addr} {odRi anRi : Option Addr} {slRi : Array (Option Value)} {ocRi kVRi dcRi pmRi ctRi : Value}
    (aRi : PySem.W.nsIn K mainGlobals "_law_right" = some (some (.ref fRi))) (lRi : K.lookup fRi = some ⟨ocRi, odRi, .func (PySem.W.fnOf "_law_right" "_law_right" (defArgs sRight) (defBody sRight) (defScope sRight) .none kVRi dcRi pmRi anRi (.ref coRi) ctRi), slRi⟩) (hRi : PySem.W.codeIn K (.ref coRi) "_law_right" = true) (kRi : PySem.W.keepIn K (.ref fRi) = true)
    {ceRi : Value} {ckRi : Option Addr} {cvRi : Array Value} {csRi : Array (Option Value)} (cfRi : K.lookup coRi = some ⟨ceRi, ckRi, .fields cvRi, csRi⟩) (cpRi : cvRi[11]? = some (.ref ptRi)) (cnRi : K.lookup ptRi = none) (crRi : ((recsOf q).any fun d => d.name == ("_law_right" : Str)) = true)
    {fBt : Addr} {odBt anBt : Option Addr} {slBt : Array (Option Value)} {ocBt kVBt dcBt pmBt ctBt cdBt : Value}
    (aBt : PySem.W.nsIn K mainGlobals "_law_both" = some (some (.ref fBt))) (lBt : K.lookup fBt = some ⟨ocBt, odBt, .func (PySem.W.fnOf "_law_both" "_law_both" (defArgs sBoth) (defBody sBoth) (defScope sBoth) .none kVBt dcBt pmBt anBt cdBt ctBt), slBt⟩) (hBt : PySem.W.codeIn K cdBt "_law_both" = true) (kBt : PySem.W.keepIn K (.ref fBt) = true)
    {fXc : Addr} {odXc anXc : Option Addr} {slXc : Array (Option Value)} {ocXc kVXc dcXc pmXc ctXc cdXc : Value}
    (aXc : PySem.W.nsIn K mainGlobals "_law_exchanged" = some (some (.ref fXc))) (lXc : K.lookup fXc = some ⟨ocXc, odXc, .func (PySem.W.fnOf "_law_exchanged" "_law_exchanged" (defArgs sExch) (defBody sExch) (defScope sExch) .none kVXc dcXc pmXc anXc cdXc ctXc), slXc⟩) (hXc : PySem.W.codeIn K cdXc "_law_exchanged" = true) (kXc : PySem.W.keepIn K (.ref fXc) = true)
    {fL coL ptL : Addr} {odL anL : Option Addr} {slL : Array (Option Value)} {ocL kVL dcL pmL ctL : Value}
    (aL : PySem.W.nsIn K mainGlobals "law" = some (some (.ref fL))) (lL : K.lookup fL = some ⟨ocL, odL, .func (PySem.W.fnOf "law" "law" (defArgs sLaw) (defBody sLaw) (defScope sLaw) .none kVL dcL pmL anL (.ref coL) ctL), slL⟩) (hL : PySem.W.codeIn K (.ref coL) "law" = true) (kL : PySem.W.keepIn K (.ref fL) = true)
    {ceL : Value} {ckL : Option Addr} {cvL : Array Value} {csL : Array (Option Value)} (cfL : K.lookup coL = some ⟨ceL, ckL, .fields cvL, csL⟩) (cpL : cvL[11]? = some (.ref ptL)) (cnL : K.lookup ptL = none) (crL : ((recsOf q).any fun d => d.name == ("law" : Str)) = true)
    {tmd : Tok} (cmd : PySem.W.nsIn K mainGlobals "MOST_DEEDS" = some (some (.int 8 tmd)))
    {tmp : Tok} (cmp : PySem.W.nsIn K mainGlobals "MOST_PARTS" = some (some (.int 60 tmp)))
    {tme : Tok} (cme : PySem.W.nsIn K mainGlobals "MOST_DEEP" = some (some (.int 8 tme)))
    {cBadRow cBadFace cBadMaking cBadUser cBadSteps cBadLead cToldApart cOutOfPlace cTooGreat cBadPaper cBadProgram cBadModule cRefused cBadUse cBadInput cFaceError : Addr}
    (nBadRow : PySem.W.nsIn K mainGlobals "BadRow" = some (some (.ref cBadRow)))
    (nBadFace : PySem.W.nsIn K mainGlobals "BadFace" = some (some (.ref cBadFace)))
    (nBadMaking : PySem.W.nsIn K mainGlobals "BadMaking" = some (some (.ref cBadMaking)))
    (nBadUser : PySem.W.nsIn K mainGlobals "BadUser" = some (some (.ref cBadUser)))
    (nBadSteps : PySem.W.nsIn K mainGlobals "BadSteps" = some (some (.ref cBadSteps)))
    (nBadLead : PySem.W.nsIn K mainGlobals "BadLead" = some (some (.ref cBadLead)))
    (nToldApart : PySem.W.nsIn K mainGlobals "ToldApart" = some (some (.ref cToldApart)))
    (nOutOfPlace : PySem.W.nsIn K mainGlobals "OutOfPlace" = some (some (.ref cOutOfPlace)))
    (nTooGreat : PySem.W.nsIn K mainGlobals "TooGreat" = some (some (.ref cTooGreat)))
    (nBadPaper : PySem.W.nsIn K mainGlobals "BadPaper" = some (some (.ref cBadPaper)))
    (nBadProgram : PySem.W.nsIn K mainGlobals "BadProgram" = some (some (.ref cBadProgram)))
    (nBadModule : PySem.W.nsIn K mainGlobals "BadModule" = some (some (.ref cBadModule)))
    (nRefused : PySem.W.nsIn K mainGlobals "Refused" = some (some (.ref cRefused)))
    (nBadUse : PySem.W.nsIn K mainGlobals "BadUse" = some (some (.ref cBadUse)))
    (nBadInput : PySem.W.nsIn K mainGlobals "BadInput" = some (some (.ref cBadInput)))
    (nFaceError : PySem.W.nsIn K mainGlobals "FaceError" = some (some (.ref cFaceError)))
    (tBadRow : PySem.W.kitOne K (.ref cBadMaking) (.ref cBadRow) = some false)
    (tBadFace : PySem.W.kitOne K (.ref cBadMaking) (.ref cBadFace) = some false)
    (tBadMaking : PySem.W.kitOne K (.ref cBadMaking) (.ref cBadMaking) = some true)
    (tBadUser : PySem.W.kitOne K (.ref cBadMaking) (.ref cBadUser) = some false)
    (tBadSteps : PySem.W.kitOne K (.ref cBadMaking) (.ref cBadSteps) = some false)
    (tBadLead : PySem.W.kitOne K (.ref cBadMaking) (.ref cBadLead) = some false)
    (tToldApart : PySem.W.kitOne K (.ref cBadMaking) (.ref cToldApart) = some false)
    (tOutOfPlace : PySem.W.kitOne K (.ref cBadMaking) (.ref cOutOfPlace) = some false)
    (tTooGreat : PySem.W.kitOne K (.ref cBadMaking) (.ref cTooGreat) = some false)
    (tBadPaper : PySem.W.kitOne K (.ref cBadMaking) (.ref cBadPaper) = some false)
    (tBadProgram : PySem.W.kitOne K (.ref cBadMaking) (.ref cBadProgram) = some false)
    (tBadModule : PySem.W.kitOne K (.ref cBadMaking) (.ref cBadModule) = some false)
    (tRefused : PySem.W.kitOne K (.ref cBadMaking) (.ref cRefused) = some false)
    (tBadUse : PySem.W.kitOne K (.ref cBadMaking) (.ref cBadUse) = some false)
    (tBadInput : PySem.W.kitOne K (.ref cBadMaking) (.ref cBadInput) = some false)
    (tFaceError : PySem.W.kitOne K (.ref cBadMaking) (.ref cFaceError) = some true)
    (tVE : PySem.W.kitOne K (.ref cBadMaking) (.type "ValueError") = some true)
    (teg : PySem.W.findIn K (.ref cBadMaking) "__getattribute__" = some (some (.builtin "BaseException.__getattribute__")))
    (tek : PySem.W.findIn K (.ref cBadMaking) "__getattr__" = some none)
    (tes : PySem.W.subIn K (.ref cBadMaking) (.type "BaseException") = some true)
    (ted : PySem.W.hasDictIn K cBadMaking = true)
    (tea : PySem.W.findIn K (.ref cBadMaking) "__class__" = some (some (.builtin "object.__class__")))
    (tem : PySem.W.mroIn K cBadMaking (.type "object") = some true)
    (tkp : PySem.W.keepIn K (.ref cBadMaking) = true)
    (tty : PySem.W.typeIn K (.ref cBadMaking) = some (.type "type"))
    (txm : PySem.W.exmOne K (.ref cBadMaking) (.ref cFaceError) = some true)
    (uBadRow : PySem.W.kitOne K (.ref cBadFace) (.ref cBadRow) = some false)
    (uBadFace : PySem.W.kitOne K (.ref cBadFace) (.ref cBadFace) = some true)
    (uBadMaking : PySem.W.kitOne K (.ref cBadFace) (.ref cBadMaking) = some false)
    (uBadUser : PySem.W.kitOne K (.ref cBadFace) (.ref cBadUser) = some false)
    (uBadSteps : PySem.W.kitOne K (.ref cBadFace) (.ref cBadSteps) = some false)
    (uBadLead : PySem.W.kitOne K (.ref cBadFace) (.ref cBadLead) = some false)
    (uToldApart : PySem.W.kitOne K (.ref cBadFace) (.ref cToldApart) = some false)
    (uOutOfPlace : PySem.W.kitOne K (.ref cBadFace) (.ref cOutOfPlace) = some false)
    (uTooGreat : PySem.W.kitOne K (.ref cBadFace) (.ref cTooGreat) = some false)
    (uBadPaper : PySem.W.kitOne K (.ref cBadFace) (.ref cBadPaper) = some false)
    (uBadProgram : PySem.W.kitOne K (.ref cBadFace) (.ref cBadProgram) = some false)
    (uBadModule : PySem.W.kitOne K (.ref cBadFace) (.ref cBadModule) = some false)
    (uRefused : PySem.W.kitOne K (.ref cBadFace) (.ref cRefused) = some false)
    (uBadUse : PySem.W.kitOne K (.ref cBadFace) (.ref cBadUse) = some false)
    (uBadInput : PySem.W.kitOne K (.ref cBadFace) (.ref cBadInput) = some false)
    (uFaceError : PySem.W.kitOne K (.ref cBadFace) (.ref cFaceError) = some true)
    (uVE : PySem.W.kitOne K (.ref cBadFace) (.type "ValueError") = some true)
    (ueg : PySem.W.findIn K (.ref cBadFace) "__getattribute__" = some (some (.builtin "BaseException.__getattribute__")))
    (uek : PySem.W.findIn K (.ref cBadFace) "__getattr__" = some none)
    (ues : PySem.W.subIn K (.ref cBadFace) (.type "BaseException") = some true)
    (ued : PySem.W.hasDictIn K cBadFace = true)
    (uea : PySem.W.findIn K (.ref cBadFace) "__class__" = some (some (.builtin "object.__class__")))
    (uem : PySem.W.mroIn K cBadFace (.type "object") = some true)
    (ukp : PySem.W.keepIn K (.ref cBadFace) = true)
    (uty : PySem.W.typeIn K (.ref cBadFace) = some (.type "type"))
    (uxm : PySem.W.exmOne K (.ref cBadFace) (.ref cFaceError) = some true)
    (en : PySem.W.specialIn K (.builtin "object.__class__") "__get__" = some (some (.builtin "getset_descriptor.__get__"))) (et : PySem.W.takesIn K (.builtin "object.__class__") = some true)
    (btop : (l.prog.main.scope.names.lookup ("super" : Str)).isSome = false) (bany : PySem.W.nsIn K cStatics "thirdparty.any" = some none)
    (tbc : ∃ nm q N bs bm sn sub ab col dd k0 k1 k2 k3 k5, K.lookup cBadMaking = some (excClassObj nm q cBadMaking N bs bm true sn sub ab col dd k0 k1 k2 k3 k5 "ValueError.__new__") ∧ PySem.HandSPX.refsVE bm = true)
    (tbsa : PySem.W.findIn K (.ref cBadMaking) "__setattr__" = some (some (.builtin "object.__setattr__")))
    {tfBI : Addr} (tbi : PySem.W.findIn K (.ref cBadMaking) "__init__" = some (some (.ref tfBI))) (tbt : PySem.W.typeIn K (.ref tfBI) = some (.type "function"))
    {tbcc tbcda : Addr} {tboc tbkV tbdoc tbpm tbct : Value} {tbod tban : Option Addr} {tbosl : Array (Option Value)}
    (tbl : K.lookup tfBI = some ⟨tboc, tbod, .func (PySem.W.ksFn "__init__" "BadMaking.__init__" (defArgs sMakIni) (defBody sMakIni) (defScope sMakIni) .none tbkV tbdoc tbpm tban (.ref tbcda) tbct tbcc), tbosl⟩)
    (tbh : PySem.W.codeIn K (.ref tbcda) "BadMaking.__init__" = true)
    {tbcl : Value} {tbcld : Option Addr} {tbcsl : Array (Option Value)} (tbce : K.lookup tbcc = some ⟨tbcl, tbcld, .cell (some (.ref cBadMaking)), tbcsl⟩)
    {tbccl : Value} {tbcdd : Option Addr} {tbvs : Array Value} {tbccs : Array (Option Value)} {tbfile : Str} {tbtf : Tok} (tbco : K.lookup tbcda = some ⟨tbccl, tbcdd, .fields tbvs, tbccs⟩) (tbv2 : tbvs[2]? = some (.str tbfile tbtf)) (tbfi : ((l.prog.main.file : Str) == tbfile) = true)
    (tbmr : PySem.W.mroIn K cBadMaking (.ref cBadMaking) = some true)
    (tbini : PySem.W.ks_superIn K cBadMaking cBadMaking "__init__" = some (some (.builtin "ValueError.__init__"))) (tbve : PySem.W.subIn K (.ref cBadMaking) (.type "ValueError") = some true)
    (tbn1 : PySem.W.findIn K (.ref cBadMaking) "part" = some none) (tbn2 : PySem.W.findIn K (.ref cBadMaking) "number" = some none)
    (ubc : ∃ nm q N bs bm sn sub ab col dd k0 k1 k2 k3 k5, K.lookup cBadFace = some (excClassObj nm q cBadFace N bs bm true sn sub ab col dd k0 k1 k2 k3 k5 "ValueError.__new__") ∧ PySem.HandSPX.refsVE bm = true)
    (ubsa : PySem.W.findIn K (.ref cBadFace) "__setattr__" = some (some (.builtin "object.__setattr__")))
    {ufBI : Addr} (ubi : PySem.W.findIn K (.ref cBadFace) "__init__" = some (some (.ref ufBI))) (ubt : PySem.W.typeIn K (.ref ufBI) = some (.type "function"))
    {ubcc ubcda : Addr} {uboc ubkV ubdoc ubpm ubct : Value} {ubod uban : Option Addr} {ubosl : Array (Option Value)}
    (ubl : K.lookup ufBI = some ⟨uboc, ubod, .func (PySem.W.ksFn "__init__" "BadFace.__init__" (defArgs sFaceIni) (defBody sFaceIni) (defScope sFaceIni) .none ubkV ubdoc ubpm uban (.ref ubcda) ubct ubcc), ubosl⟩)
    (ubh : PySem.W.codeIn K (.ref ubcda) "BadFace.__init__" = true)
    {ubcl : Value} {ubcld : Option Addr} {ubcsl : Array (Option Value)} (ubce : K.lookup ubcc = some ⟨ubcl, ubcld, .cell (some (.ref cBadFace)), ubcsl⟩)
    {ubccl : Value} {ubcdd : Option Addr} {ubvs : Array Value} {ubccs : Array (Option Value)} {ubfile : Str} {ubtf : Tok} (ubco : K.lookup ubcda = some ⟨ubccl, ubcdd, .fields ubvs, ubccs⟩) (ubv2 : ubvs[2]? = some (.str ubfile ubtf)) (ubfi : ((l.prog.main.file : Str) == ubfile) = true)
    (ubmr : PySem.W.mroIn K cBadFace (.ref cBadFace) = some true)
    (ubini : PySem.W.ks_superIn K cBadFace cBadFace "__init__" = some (some (.builtin "ValueError.__init__"))) (ubve : PySem.W.subIn K (.ref cBadFace) (.type "ValueError") = some true)
    (ubn1 : PySem.W.findIn K (.ref cBadFace) "part" = some none) (ubn2 : PySem.W.findIn K (.ref cBadFace) "number" = some none)
    {pw : Addr} {oW : Obj} {itW : Array Value} {nW : Nat} (aPW : PySem.W.nsIn K mainGlobals "PAIR_WORDS" = some (some (.ref pw))) (lPW : K.lookup pw = some oW) (cPW : oW.cls = .type "tuple") (dPW : oW.data = .seq itW nW) (zPW : itW.size ≤ sizeLine) (vPW : Vals (fiveW.map V.str) itW.toList)
    (dRL : ptRi ≠ ptL)
    (z_isinstance : PySem.W.nsIn K mainGlobals "isinstance" = some none)
    (z_str : PySem.W.nsIn K mainGlobals "str" = some none)
    (z_int : PySem.W.nsIn K mainGlobals "int" = some none)
    (z_bool : PySem.W.nsIn K mainGlobals "bool" = some none)
    (z_tuple : PySem.W.nsIn K mainGlobals "tuple" = some none)
    (z_len : PySem.W.nsIn K mainGlobals "len" = some none)
    (z_list : PySem.W.nsIn K mainGlobals "list" = some none)
    (z_dict : PySem.W.nsIn K mainGlobals "dict" = some none)
    (z_zip : PySem.W.nsIn K mainGlobals "zip" = some none)
    (z_enumerate : PySem.W.nsIn K mainGlobals "enumerate" = some none)
    (z_range : PySem.W.nsIn K mainGlobals "range" = some none)
    (z_sorted : PySem.W.nsIn K mainGlobals "sorted" = some none)
    (z_repr : PySem.W.nsIn K mainGlobals "repr" = some none)
    (z_sum : PySem.W.nsIn K mainGlobals "sum" = some none)
    (z_max : PySem.W.nsIn K mainGlobals "max" = some none)
    (z_min : PySem.W.nsIn K mainGlobals "min" = some none)
    (z_abs : PySem.W.nsIn K mainGlobals "abs" = some none)
    (z_all : PySem.W.nsIn K mainGlobals "all" = some none)
    (z_ValueError : PySem.W.nsIn K mainGlobals "ValueError" = some none)
    (z_super : PySem.W.nsIn K mainGlobals "super" = some none) :
    LawG l w K CX0 40 63 "_law_script" mg fa h := by
  have e := hfa.symm.trans (PySem.W.mg_of X G aL)
  cases e
  have FSh := fun_mk (st := sShown) lSh hSh kSh
  have bSh := (FSh).binds (ps := ["field"]) fun _ _ _ _ _ _ us hl => match us, hl with | [_], _ => rfl
  have gSh := PySem.W.mg_of X G aSh
  have FA := fun_mk (st := sName) lA hA kA
  have bA := (FA).binds (ps := ["thing"]) fun _ _ _ _ _ _ us hl => match us, hl with | [_], _ => rfl
  have gA := PySem.W.mg_of X G aA
  have FB := fun_mk (st := sKind) lB hB kB
  have bB := (FB).binds (ps := ["thing", "hidden"]) fun _ _ _ _ _ _ us hl => match us, hl with | [_, _], _ => rfl
  have gB := PySem.W.mg_of X G aB
  have FC := fun_mk (st := sBadD) lC hC kC
  have bC := (FC).binds (ps := ["deeds", "hidden"]) fun _ _ _ _ _ _ us hl => match us, hl with | [_, _], _ => rfl
  have gC := PySem.W.mg_of X G aC
  have FD := fun_mk (st := sBadH) lD hD kD
  have bD := (FD).binds (ps := ["hidden"]) fun _ _ _ _ _ _ us hl => match us, hl with | [_], _ => rfl
  have gD := PySem.W.mg_of X G aD
  have FE := fun_mk (st := sFault) lE hE kE
  have bE := (FE).binds (ps := ["thing"]) fun _ _ _ _ _ _ us hl => match us, hl with | [_], _ => rfl
  have gE := PySem.W.mg_of X G aE
  have FN := fun_mk (st := sNeed) lN hN kN
  have bN := (FN).binds (ps := ["face"]) fun _ _ _ _ _ _ us hl => match us, hl with | [_], _ => rfl
  have gN := PySem.W.mg_of X G aN
  have FLe := fun_mk (st := sLbe) lLe hLe kLe
  have bLe := (FLe).binds (ps := ["thing", "takes", "counts", "deep", "left"]) fun _ _ _ _ _ _ us hl => match us, hl with | [_, _, _, _, _], _ => rfl
  have gLe := PySem.W.mg_of X G aLe
  have FLb := fun_mk (st := sLbb) lLb hLb kLb
  have bLb := (FLb).binds (ps := ["thing", "takes", "counts", "many", "deep", "left"]) fun _ _ _ _ _ _ us hl => match us, hl with | [_, _, _, _, _, _], _ => rfl
  have gLb := PySem.W.mg_of X G aLb
  have FSp := fun_mk (st := sShape) lSp hSp kSp
  have bSp := (FSp).binds (ps := ["thing"]) fun _ _ _ _ _ _ us hl => match us, hl with | [_], _ => rfl
  have gSp := PySem.W.mg_of X G aSp
  have FMf := fun_mk (st := sMFault) lMf hMf kMf
  have bMf := (FMf).binds (ps := ["face", "thing"]) fun _ _ _ _ _ _ us hl => match us, hl with | [_, _], _ => rfl
  have gMf := PySem.W.mg_of X G aMf
  have FIm := fun_mk (st := sIsM) lIm hIm kIm
  have bIm := (FIm).binds (ps := ["face", "thing"]) fun _ _ _ _ _ _ us hl => match us, hl with | [_, _], _ => rfl
  have gIm := PySem.W.mg_of X G aIm
  have FRm := fun_mk (st := sRefM) lRm hRm kRm
  have bRm := (FRm).binds (ps := ["face", "making"]) fun _ _ _ _ _ _ us hl => match us, hl with | [_, _], _ => rfl
  have gRm := PySem.W.mg_of X G aRm
  have FNm := fun_mk (st := sNeedM) lNm hNm kNm
  have bNm := (FNm).binds (ps := ["face", "making"]) fun _ _ _ _ _ _ us hl => match us, hl with | [_, _], _ => rfl
  have gNm := PySem.W.mg_of X G aNm
  have FBg := fun_mk (st := sBeg) lBg hBg kBg
  have bBg := (FBg).binds (ps := ["_law_script", "_law_k"]) fun _ _ _ _ _ _ us hl => match us, hl with | [_, _], _ => rfl
  have gBg := PySem.W.mg_of X G aBg
  have FPk := fun_mk (st := sPick) lPk hPk kPk
  have bPk := (FPk).binds (ps := ["_law_state", "_law_many"]) fun _ _ _ _ _ _ us hl => match us, hl with | [_, _], _ => rfl
  have gPk := PySem.W.mg_of X G aPk
  have FLn := fun_mk (st := sLNames) lLn hLn kLn
  have bLn := (FLn).binds (ps := ["_law_state", "_law_many"]) fun _ _ _ _ _ _ us hl => match us, hl with | [_, _], _ => rfl
  have gLn := PySem.W.mg_of X G aLn
  have FLk := fun_mk (st := sLKind) lLk hLk kLk
  have bLk := (FLk).binds (ps := ["_law_state", "_law_hidden"]) fun _ _ _ _ _ _ us hl => match us, hl with | [_, _], _ => rfl
  have gLk := PySem.W.mg_of X G aLk
  have FLf := fun_mk (st := sLFace) lLf hLf kLf
  have bLf := (FLf).binds (ps := ["_law_state", "_law_most"]) fun _ _ _ _ _ _ us hl => match us, hl with | [_, _], _ => rfl
  have gLf := PySem.W.mg_of X G aLf
  have FLs := fun_mk (st := sLShape) lLs hLs kLs
  have bLs := (FLs).binds (ps := ["_law_state"]) fun _ _ _ _ _ _ us hl => match us, hl with | [_], _ => rfl
  have gLs := PySem.W.mg_of X G aLs
  have FFi := fun_mk (st := sFields) lFi hFi kFi
  have bFi := (FFi).binds (ps := ["_law_face_here", "_law_shapes", "_law_kind_here"]) fun _ _ _ _ _ _ us hl => match us, hl with | [_, _, _], _ => rfl
  have gFi := PySem.W.mg_of X G aFi
  have FAm := fun_mk (st := sAmg) lAm hAm kAm
  have bAm := (FAm).binds (ps := ["_law_thing", "_law_least", "_law_most"]) fun _ _ _ _ _ _ us hl => match us, hl with | [_, _, _], _ => rfl
  have gAm := PySem.W.mg_of X G aAm
  have FLo := fun_mk (st := sLook) lLo hLo kLo
  have bLo := (FLo).binds (ps := ["_law_thing", "_law_counts", "_law_many"]) fun _ _ _ _ _ _ us hl => match us, hl with | [_, _, _], _ => rfl
  have gLo := PySem.W.mg_of X G aLo
  have FEx := fun_mk (st := sExp) lEx hEx kEx
  have bEx := (FEx).binds (ps := ["_law_state", "_law_counts", "_law_deep"]) fun _ _ _ _ _ _ us hl => match us, hl with | [_, _, _], _ => rfl
  have gEx := PySem.W.mg_of X G aEx
  have FBo := fun_mk (st := sBod) lBo hBo kBo
  have bBo := (FBo).binds (ps := ["_law_state", "_law_counts", "_law_many", "_law_deep"]) fun _ _ _ _ _ _ us hl => match us, hl with | [_, _, _, _], _ => rfl
  have gBo := PySem.W.mg_of X G aBo
  have FLm := fun_mk (st := sLMak) lLm hLm kLm
  have bLm := (FLm).binds (ps := ["_law_state", "_law_face_here"]) fun _ _ _ _ _ _ us hl => match us, hl with | [_, _], _ => rfl
  have gLm := PySem.W.mg_of X G aLm
  have FK := fun_mk (st := sKinds) lK hK kK
  have bK := (FK).binds (ps := ["_law_error"]) fun _ _ _ _ _ _ us hl => match us, hl with | [_], _ => rfl
  have gK := PySem.W.mg_of X G aK
  have FWo := fun_mk (st := sWord) lWo hWo kWo
  have bWo := (FWo).binds (ps := ["_law_deed"]) fun _ _ _ _ _ _ us hl => match us, hl with | [_], _ => rfl
  have gWo := PySem.W.mg_of X G aWo
  have FIs := fun_mk (st := sLIsS) lIs hIs kIs
  have bIs := (FIs).binds (ps := ["_law_thing"]) fun _ _ _ _ _ _ us hl => match us, hl with | [_], _ => rfl
  have gIs := PySem.W.mg_of X G aIs
  have FDu := fun_mk (st := sDue) lDu hDu kDu
  have bDu := (FDu).binds (ps := ["_law_face_here", "_law_thing"]) fun _ _ _ _ _ _ us hl => match us, hl with | [_, _], _ => rfl
  have gDu := PySem.W.mg_of X G aDu
  have FOd := fun_mk (st := sOdd) lOd hOd kOd
  have bOd := (FOd).binds (ps := ["_law_state", "_law_thing"]) fun _ _ _ _ _ _ us hl => match us, hl with | [_, _], _ => rfl
  have gOd := PySem.W.mg_of X G aOd
  have FBe := fun_mk (st := sBent) lBe hBe kBe
  have bBe := (FBe).binds (ps := ["_law_state", "_law_thing"]) fun _ _ _ _ _ _ us hl => match us, hl with | [_, _], _ => rfl
  have gBe := PySem.W.mg_of X G aBe
  have FTr := fun_mk (st := sTru) lTr hTr kTr
  have bTr := (FTr).binds (ps := ["_law_thing"]) fun _ _ _ _ _ _ us hl => match us, hl with | [_], _ => rfl
  have gTr := PySem.W.mg_of X G aTr
  have CRi : FunC K "_law_right" "_law_right" sRight fRi _ coRi := ⟨⟨_, _, _, _, _, _, _, _, rfl, lRi, hRi⟩, kRi⟩
  have FRi := CRi.fn
  have bRi := (FRi).binds (ps := ["_law_face_here", "_law_thing"]) fun _ _ _ _ _ _ us hl => match us, hl with | [_, _], _ => rfl
  have gRi := PySem.W.mg_of X G aRi
  have FBt := fun_mk (st := sBoth) lBt hBt kBt
  have bBt := (FBt).binds (ps := ["_law_state", "_law_making_here"]) fun _ _ _ _ _ _ us hl => match us, hl with | [_, _], _ => rfl
  have gBt := PySem.W.mg_of X G aBt
  have FXc := fun_mk (st := sExch) lXc hXc kXc
  have bXc := (FXc).binds (ps := ["_law_state", "_law_face_here", "_law_making_here"]) fun _ _ _ _ _ _ us hl => match us, hl with | [_, _, _], _ => rfl
  have gXc := PySem.W.mg_of X G aXc
  have CL : FunC K "law" "law" sLaw fa _ coL := ⟨⟨_, _, _, _, _, _, _, _, rfl, lL, hL⟩, kL⟩
  have FL := CL.fn
  have bL := (FL).binds (ps := ["_law_script"]) fun _ _ _ _ _ _ us hl => match us, hl with | [_], _ => rfl
  have gL := PySem.W.mg_of X G aL
  have m_isinstance := PySem.W.mg_none_of X G z_isinstance
  have m_str := PySem.W.mg_none_of X G z_str
  have m_int := PySem.W.mg_none_of X G z_int
  have m_bool := PySem.W.mg_none_of X G z_bool
  have m_tuple := PySem.W.mg_none_of X G z_tuple
  have m_len := PySem.W.mg_none_of X G z_len
  have m_list := PySem.W.mg_none_of X G z_list
  have m_dict := PySem.W.mg_none_of X G z_dict
  have m_zip := PySem.W.mg_none_of X G z_zip
  have m_enumerate := PySem.W.mg_none_of X G z_enumerate
  have m_range := PySem.W.mg_none_of X G z_range
  have m_sorted := PySem.W.mg_none_of X G z_sorted
  have m_repr := PySem.W.mg_none_of X G z_repr
  have m_sum := PySem.W.mg_none_of X G z_sum
  have m_max := PySem.W.mg_none_of X G z_max
  have m_min := PySem.W.mg_none_of X G z_min
  have m_abs := PySem.W.mg_none_of X G z_abs
  have m_all := PySem.W.mg_none_of X G z_all
  have m_ValueError := PySem.W.mg_none_of X G z_ValueError
  have m_super := PySem.W.mg_none_of X G z_super
  have mmd := PySem.W.mg_of X G cmd
  have mmp := PySem.W.mg_of X G cmp
  have mme := PySem.W.mg_of X G cme
  have gPW := PySem.W.mg_of X G aPW
  have hPW : ∀ H : Hp, SqT K H pw (fiveW.map V.str) := fun H => .inr ⟨oW, itW, nW, lPW, cPW, dPW, zPW, vPW⟩
  have KM : Kxs K mg cBadMaking bsMak := ⟨⟨teg, tek, tes, ted, tea, en, et, tem⟩, rfl, ⟨_, PySem.W.mg_of X G nBadRow, tBadRow⟩, ⟨_, PySem.W.mg_of X G nBadFace, tBadFace⟩, ⟨_, PySem.W.mg_of X G nBadMaking, tBadMaking⟩, ⟨_, PySem.W.mg_of X G nBadUser, tBadUser⟩, ⟨_, PySem.W.mg_of X G nBadSteps, tBadSteps⟩, ⟨_, PySem.W.mg_of X G nBadLead, tBadLead⟩, ⟨_, PySem.W.mg_of X G nToldApart, tToldApart⟩, ⟨_, PySem.W.mg_of X G nOutOfPlace, tOutOfPlace⟩, ⟨_, PySem.W.mg_of X G nTooGreat, tTooGreat⟩, ⟨_, PySem.W.mg_of X G nBadPaper, tBadPaper⟩, ⟨_, PySem.W.mg_of X G nBadProgram, tBadProgram⟩, ⟨_, PySem.W.mg_of X G nBadModule, tBadModule⟩, ⟨_, PySem.W.mg_of X G nRefused, tRefused⟩, ⟨_, PySem.W.mg_of X G nBadUse, tBadUse⟩, ⟨_, PySem.W.mg_of X G nBadInput, tBadInput⟩, tVE, ⟨_, PySem.W.mg_of X G nFaceError, tFaceError⟩, rfl⟩
  have KF : Kxs K mg cBadFace bsFace := ⟨⟨ueg, uek, ues, ued, uea, en, et, uem⟩, rfl, ⟨_, PySem.W.mg_of X G nBadRow, uBadRow⟩, ⟨_, PySem.W.mg_of X G nBadFace, uBadFace⟩, ⟨_, PySem.W.mg_of X G nBadMaking, uBadMaking⟩, ⟨_, PySem.W.mg_of X G nBadUser, uBadUser⟩, ⟨_, PySem.W.mg_of X G nBadSteps, uBadSteps⟩, ⟨_, PySem.W.mg_of X G nBadLead, uBadLead⟩, ⟨_, PySem.W.mg_of X G nToldApart, uToldApart⟩, ⟨_, PySem.W.mg_of X G nOutOfPlace, uOutOfPlace⟩, ⟨_, PySem.W.mg_of X G nTooGreat, uTooGreat⟩, ⟨_, PySem.W.mg_of X G nBadPaper, uBadPaper⟩, ⟨_, PySem.W.mg_of X G nBadProgram, uBadProgram⟩, ⟨_, PySem.W.mg_of X G nBadModule, uBadModule⟩, ⟨_, PySem.W.mg_of X G nRefused, uRefused⟩, ⟨_, PySem.W.mg_of X G nBadUse, uBadUse⟩, ⟨_, PySem.W.mg_of X G nBadInput, uBadInput⟩, uVE, ⟨_, PySem.W.mg_of X G nFaceError, uFaceError⟩, rfl⟩
  have TOt : OexC K cBadMaking := ⟨tbc, tbsa, tes, tty, tkp⟩
  have TOu : OexC K cBadFace := ⟨ubc, ubsa, ues, uty, ukp⟩
  have WM : WdC K mg cBadMaking cFaceError "making" bsMak := ⟨PySem.W.mg_of X G nFaceError, txm, KM, rfl, .inr rfl, ⟨teg, tek, tes, ted⟩, tbn1, tbn2⟩
  have WF : WdC K mg cBadFace cFaceError "face" bsFace := ⟨PySem.W.mg_of X G nFaceError, uxm, KF, rfl, .inl rfl, ⟨ueg, uek, ues, ued⟩, ubn1, ubn2⟩
  have WO : WordC K mg fWo := ⟨gWo, kWo, _, _, _, _, _, _, _, _, _, _, lWo, hWo, bWo⟩
  have tRi := tab_of T crRi gRi X CRi cfRi cpRi
  have tL := tab_of T crL gL X CL cfL cpL
  refine ⟨PySem.W.fnOf "law" "law" (defArgs sLaw) (defBody sLaw) (defScope sLaw) .none kVL dcL pmL anL (.ref coL) ctL, [(coRi, ptRi), (coL, ptL)], spLaw K [(ptRi, qR), (ptL, qL)], ?_, ?_, ?_, fun s v => .of_eq rfl, ?_, ?_⟩
  · intro p hp
    simp only [List.mem_cons, List.not_mem_nil, or_false] at hp
    rcases hp with rfl | rfl
    · exact tRi.1
    · exact tL.1
  · intro p hp
    simp only [List.mem_cons, List.not_mem_nil, or_false] at hp
    rcases hp with rfl | rfl
    · exact cnRi
    · exact cnL
  · intro p hp
    simp only [List.mem_cons, List.not_mem_nil, or_false] at hp
    rcases hp with rfl | rfl
    · exact tRi.2
    · exact tL.2
  · intro H a ns hl hH hS
    have tabs : LamX.Tabs [(ptRi, qR), (ptL, qL)] H := by
     intro p hp
     simp only [List.mem_cons, List.not_mem_nil, or_false] at hp
     rcases hp with rfl | rfl
     · exact LamX.TabS.nil (hH (coRi, ptRi) (by simp))
     · exact LamX.TabS.nil (hH (coL, ptL) (by simp))
    exact ⟨a, ns, rfl, hS, tabs, fun _ => rfl⟩
  · intro base KB NB TB
    have b_Ri := TB (coRi, ptRi) (by simp)
    have b_L := TB (coL, ptL) (by simp)
    have yRi : LamX.TabB base mg coRi ptRi := ⟨b_Ri.code, b_Ri.bm, b_Ri.gP⟩
    have yL : LamX.TabB base mg coL ptL := ⟨b_L.code, b_L.bm, b_L.gP⟩
    have OSh : FnOk l.prog w K mg base CX0 1 fSh _ ["field"] spShown := ok_shown FSh m_isinstance m_int m_str
    have OBM := ok_makIni (P := l.prog) (w := w) (base := base) (k := 0) tbl tbh ⟨TOt, ⟨_, _, _, tbce⟩, ⟨_, _, _, _, _, _, tbco, tbv2, tbfi⟩, tbmr, m_super, btop, bany, tbini, tbve⟩ ⟨OSh, gSh, kSh, bSh⟩ tbn1 tbn2
    have OBF := ok_faceIni (P := l.prog) (w := w) (base := base) (k := 0) ubl ubh ⟨TOu, ⟨_, _, _, ubce⟩, ⟨_, _, _, _, _, _, ubco, ubv2, ubfi⟩, ubmr, m_super, btop, bany, ubini, ubve⟩ ⟨OSh, gSh, kSh, bSh⟩ ubn1 ubn2
    have BM : Bad2 l.prog w K mg base 18 "BadMaking" "part" "number" cBadMaking tfBI _ := ⟨TOt, tbi, tbt, OBM.mono (by decide), init_bindsM, PySem.W.mg_of X G nBadMaking⟩
    have BF : Bad2 l.prog w K mg base 2 "BadFace" "part" "number" cBadFace ufBI _ := ⟨TOu, ubi, ubt, OBF, init_bindsF, PySem.W.mg_of X G nBadFace⟩
    have OA : FnOk l.prog w K mg base CX0 1 fA _ ["thing"] spName := ok_name FA m_isinstance m_str m_len
    have OAx : FnOk l.prog w K mg base CX0 1 fA _ ["thing"] (spNameX K) := ok_nameX FA m_isinstance m_str m_len
    have OB : FnOk l.prog w K mg base CX0 1 fB _ ["thing", "hidden"] (spKind K) := ok_kind FB m_isinstance m_str m_int
    have OBx : FnOk l.prog w K mg base CX0 1 fB _ ["thing", "hidden"] (spKindX K) := ok_kindX FB m_isinstance m_str m_int
    have OD := ok_badH (P := l.prog) (w := w) (base := base) (k := 0) FD ⟨OA, gA, kA, bA⟩ m_enumerate
    have ODx := ok_badHX (P := l.prog) (w := w) (base := base) (k := 0) FD ⟨OAx, gA, kA, bA⟩ m_enumerate
    have OC := ok_badD (P := l.prog) (w := w) (base := base) (k := 0) FC ⟨OB, gB, kB, bB⟩ m_enumerate m_isinstance m_str m_int m_tuple m_len
    have OCx := ok_badDX (P := l.prog) (w := w) (base := base) (k := 0) FC ⟨OBx, gB, kB, bB⟩ m_enumerate m_isinstance m_str m_int m_tuple m_len
    have OE := ok_fault (P := l.prog) (w := w) (base := base) (k := 0) FE ⟨OD, gD, kD, bD⟩ ⟨OC, gC, kC, bC⟩ m_isinstance m_tuple m_len mmd
    have OEx := ok_faultX (P := l.prog) (w := w) (base := base) (k := 0) FE ⟨ODx, gD, kD, bD⟩ ⟨OCx, gC, kC, bC⟩ m_isinstance m_tuple m_len mmd
    have ON := ok_need (P := l.prog) (w := w) (base := base) (k := 0) FN ⟨OE, gE, kE, bE⟩
    have ONx := ok_needX (P := l.prog) (w := w) (base := base) (k := 0) FN ⟨OEx, gE, kE, bE⟩ BF
    have OLe := ok_lbe (P := l.prog) (w := w) (base := base) FLe bLe gLe m_isinstance m_tuple m_int m_len gPW hPW
    have OLb := ok_lbb (P := l.prog) (w := w) (base := base) FLb bLb gLb ⟨OLe 8, gLe, kLe, bLe⟩ m_isinstance m_tuple m_len
    have OSp : FnOk l.prog w K mg base CX0 1 fSp _ ["thing"] (spShape K) := ok_shape FSp m_isinstance m_tuple m_int m_len
    have OMf := ok_mfault (P := l.prog) (w := w) (base := base) FMf ⟨OSp.mono (by decide), gSp, kSp, bSp⟩ ⟨OLb 8 (by decide), gLb, kLb, bLb⟩ m_isinstance m_tuple m_len m_enumerate mmp mme
    have OIm := ok_isM (P := l.prog) (w := w) (base := base) (k := 19) FIm ⟨ON.mono (by decide), gN, kN, bN⟩ ⟨OMf, gMf, kMf, bMf⟩
    have ORm := ok_refMX (P := l.prog) (w := w) (base := base) (k := 18) FRm ⟨OMf, gMf, kMf, bMf⟩ BM
    have ONm := ok_needMX (P := l.prog) (w := w) (base := base) (k := 20) FNm ⟨ON.mono (by decide), gN, kN, bN⟩ ⟨ORm, gRm, kRm, bRm⟩
    have ONo := ok_needOX (P := l.prog) (w := w) (base := base) (k := 20) FNm ⟨ONx.mono (by decide), gN, kN, bN⟩ ⟨ORm, gRm, kRm, bRm⟩
    have OIo := ok_isOX (P := l.prog) (w := w) (base := base) (k := 19) FIm ⟨ONx.mono (by decide), gN, kN, bN⟩ ⟨OMf, gMf, kMf, bMf⟩
    have OBg : FnOk l.prog w K mg base CX0 1 fBg _ ["_law_script", "_law_k"] (spBeg K) := ok_beg FBg m_len m_abs
    have OPk : FnOk l.prog w K mg base CX0 1 fPk _ ["_law_state", "_law_many"] spPick := ok_pick FPk
    have OAm : FnOk l.prog w K mg base CX0 1 fAm _ ["_law_thing", "_law_least", "_law_most"] (spAmg K) := ok_amg FAm m_isinstance m_int m_bool
    have OLo := ok_look (P := l.prog) (w := w) (base := base) FLo bLo gLo ⟨OAm, gAm, kAm, bAm⟩ ⟨m_isinstance, m_tuple, m_str, m_len, m_sum, m_max⟩
    have OEx := ok_exp (P := l.prog) (w := w) (base := base) FEx bEx gEx ⟨OPk, gPk, kPk, bPk⟩ m_len m_tuple m_range
    have OBo := ok_bod (P := l.prog) (w := w) (base := base) FBo bBo gBo ⟨OPk, gPk, kPk, bPk⟩ ⟨(OEx 3).mono (by decide), gEx, kEx, bEx⟩ ⟨OLo 30, gLo, kLo, bLo⟩ m_tuple m_range 3
    have OK : FnOk l.prog w K mg base CX0 34 fK _ ["_law_error"] (spKinds K mg) := ok_kinds FK m_isinstance m_ValueError
    have OIs := ok_lIsS (P := l.prog) (w := w) (base := base) (k := 1) FIs ⟨OAm, gAm, kAm, bAm⟩ m_isinstance m_tuple m_len m_all
    have OFi : FnOk l.prog w K mg base CX0 1 fFi _ ["_law_face_here", "_law_shapes", "_law_kind_here"] (spFields K) := ok_fields FFi m_len m_dict m_zip
    have ODu := ok_due (P := l.prog) (w := w) (base := base) (k := 32) FDu ⟨OIs.mono (by decide), gIs, kIs, bIs⟩ ⟨OFi.mono (by decide), gFi, kFi, bFi⟩ ⟨OLo 30, gLo, kLo, bLo⟩ m_isinstance m_tuple m_len m_enumerate
    have OOd := ok_odd (P := l.prog) (w := w) (base := base) (k := 1) FOd ⟨OPk, gPk, kPk, bPk⟩ ⟨m_isinstance, m_tuple, m_str, m_list, m_int⟩
    have OBe := ok_bent (P := l.prog) (w := w) (base := base) FBe bBe gBe ⟨OPk, gPk, kPk, bPk⟩ OOd bOd gOd kOd m_isinstance m_tuple m_len 20
    have OTr := ok_tru (P := l.prog) (w := w) (base := base) FTr bTr gTr m_isinstance m_tuple m_int 20
    have hu1 : ∀ p ∈ [(ptRi, qR), (ptL, qL)], p.1 = ptRi → p.2 = qR := by
      intro p hp e
      simp only [List.mem_cons, List.not_mem_nil, or_false] at hp
      rcases hp with rfl | rfl
      · rfl
      · exact (dRL e.symm).elim
    have hu2 : ∀ p ∈ [(ptRi, qR), (ptL, qL)], p.1 = ptL → p.2 = qL := by
      intro p hp e
      simp only [List.mem_cons, List.not_mem_nil, or_false] at hp
      rcases hp with rfl | rfl
      · exact (dRL e).elim
      · rfl
    have ORi := ok_right (P := l.prog) (w := w) (base := base) (k := 33) CRi ⟨ODu, gDu, kDu, bDu⟩ ⟨OIm.mono (by decide), gIm, kIm, bIm⟩ ⟨ONm.mono (by decide), gNm, kNm, bNm⟩ WO ⟨OK, gK, kK, bK⟩ WM yRi (by simp) hu1 m_repr m_range m_tuple
    have OLn := ok_lnames (P := l.prog) (w := w) (base := base) (k := 1) FLn ⟨OPk, gPk, kPk, bPk⟩ m_range m_sorted
    have OLk := ok_lkind (P := l.prog) (w := w) (base := base) (k := 1) FLk ⟨OPk, gPk, kPk, bPk⟩ m_len
    have OLf := ok_lface (P := l.prog) (w := w) (base := base) (k := 2) FLf ⟨OPk.mono (by decide), gPk, kPk, bPk⟩ ⟨OLn, gLn, kLn, bLn⟩ ⟨OLk, gLk, kLk, bLk⟩ m_range m_len m_tuple
    have OLs := ok_lshape (P := l.prog) (w := w) (base := base) (k := 1) FLs ⟨OPk, gPk, kPk, bPk⟩
    have OLm := ok_lmak (P := l.prog) (w := w) (base := base) (k := 36) FLm ⟨OLs.mono (by decide), gLs, kLs, bLs⟩ ⟨OFi.mono (by decide), gFi, kFi, bFi⟩ ⟨OBo, gBo, kBo, bBo⟩ m_tuple
    have OBt := ok_both (P := l.prog) (w := w) (base := base) (k := 1) FBt ⟨OPk, gPk, kPk, bPk⟩ m_len
    have OXc := ok_exch (P := l.prog) (w := w) (base := base) (k := 2) FXc ⟨OPk.mono (by decide), gPk, kPk, bPk⟩ ⟨OLs, gLs, kLs, bLs⟩ m_len
    have LC : LawC l.prog w K mg base 37 [(ptRi, qR), (ptL, qL)] cBadFace cFaceError := {
      fb := _, fp := _, fF := _, fM := _, fB := _, ft := _, fo := _, fx := _, fR := _, fI := _, fN := _, fW := _, fK := _, db := _, dp := _, dF := _, dM := _, dB := _, dt := _, do_ := _, dx := _, dR := _, dI := _, dN := _, dK := _, HBg := ⟨OBg.mono (by decide), gBg, kBg, bBg⟩, HP := ⟨OPk.mono (by decide), gPk, kPk, bPk⟩, HF := ⟨OLf.mono (by decide), gLf, kLf, bLf⟩, HM := ⟨OLm, gLm, kLm, bLm⟩, BG := fng_up OBe (by decide), gB := gBe, kB := kBe, bB := bBe, HT := ⟨OTr.mono (by decide), gTr, kTr, bTr⟩, HO := ⟨OBt.mono (by decide), gBt, kBt, bBt⟩, HX := ⟨OXc.mono (by decide), gXc, kXc, bXc⟩, RG := fng_up ORi (by decide), gR := gRi, kR := kRi, bR := bRi, HI := ⟨OIo.mono (by decide), gIm, kIm, bIm⟩, HN := ⟨ONo.mono (by decide), gNm, kNm, bNm⟩, W := WO, HK := ⟨OK.mono (by decide), gK, kK, bK⟩, C := WF, mr := m_range, mx := m_max, mn := m_min, ml := m_len, mt := m_tuple, mli := m_list }
    exact ok_law (k := 37) CL LC yL (by simp) hu2
end SfM
open PySem PySem.W PyProof.Rows
set_option maxRecDepth 100000 in
set_option maxHeartbeats 0 in
theorem PySem.Challenge.cw_sameface_k11_makings_looked_at_holds : PySem.Challenge.rw_sameface_k11_makings_looked_at.Holds := by
  w_on; o_law; k_head; (case hw => w_witness2)
  k_fill
  refine SfG.walk_G (l := PySem.Challenge.rw_sameface_k11_makings_looked_at) (n := 63) (k := 40) (x := "_law_script") (CX := fun _ => L2.CX0) rfl (by decide) rfl ⟨rfl, by decide, by decide⟩ (fun w h Y => PySem.W.km_in_of Y) ?F (fun _ _ _ _ _ h => h)
  case F =>
    intro w mg fa h KX G hmg T
    refine' SfM.all_mk KX G hmg T ?aSh ?lSh ?hSh ?kSh ?aA ?lA ?hA ?kA ?aB ?lB ?hB ?kB ?aC ?lC ?hC ?kC ?aD ?lD ?hD ?kD ?aE ?lE ?hE ?kE ?aN ?lN ?hN ?kN ?aLe ?lLe ?hLe ?kLe ?aLb ?lLb ?hLb ?kLb ?aSp ?lSp ?hSp ?kSp ?aMf ?lMf ?hMf ?kMf ?aIm ?lIm ?hIm ?kIm ?aRm ?lRm ?hRm ?kRm ?aNm ?lNm ?hNm ?kNm ?aBg ?lBg ?hBg ?kBg ?aPk ?lPk ?hPk ?kPk ?aLn ?lLn ?hLn ?kLn ?aLk ?lLk ?hLk ?kLk ?aLf ?lLf ?hLf ?kLf ?aLs ?lLs ?hLs ?kLs ?aFi ?lFi ?hFi ?kFi ?aAm ?lAm ?hAm ?kAm ?aLo ?lLo ?hLo ?kLo ?aEx ?lEx ?hEx ?kEx ?aBo ?lBo ?hBo ?kBo ?aLm ?lLm ?hLm ?kLm ?aK ?lK ?hK ?kK ?aWo ?lWo ?hWo ?kWo ?aIs ?lIs ?hIs ?kIs ?aDu ?lDu ?hDu ?kDu ?aOd ?lOd ?hOd ?kOd ?aBe ?lBe ?hBe ?kBe ?aTr ?lTr ?hTr ?kTr ?aRi ?lRi ?hRi ?kRi ?cfRi ?cpRi ?cnRi ?crRi ?aBt ?lBt ?hBt ?kBt ?aXc ?lXc ?hXc ?kXc ?aL ?lL ?hL ?kL ?cfL ?cpL ?cnL ?crL ?cmd ?cmp ?cme ?nBadRow ?nBadFace ?nBadMaking ?nBadUser ?nBadSteps ?nBadLead ?nToldApart ?nOutOfPlace ?nTooGreat ?nBadPaper ?nBadProgram ?nBadModule ?nRefused ?nBadUse ?nBadInput ?nFaceError ?tBadRow ?tBadFace ?tBadMaking ?tBadUser ?tBadSteps ?tBadLead ?tToldApart ?tOutOfPlace ?tTooGreat ?tBadPaper ?tBadProgram ?tBadModule ?tRefused ?tBadUse ?tBadInput ?tFaceError ?tVE ?teg ?tek ?tes ?ted ?tea ?tem ?tkp ?tty ?txm ?uBadRow ?uBadFace ?uBadMaking ?uBadUser ?uBadSteps ?uBadLead ?uToldApart ?uOutOfPlace ?uTooGreat ?uBadPaper ?uBadProgram ?uBadModule ?uRefused ?uBadUse ?uBadInput ?uFaceError ?uVE ?ueg ?uek ?ues ?ued ?uea ?uem ?ukp ?uty ?uxm ?en ?et ?btop ?bany ?tbc ?tbsa ?tbi ?tbt ?tbl ?tbh ?tbce ?tbco ?tbv2 ?tbfi ?tbmr ?tbini ?tbve ?tbn1 ?tbn2 ?ubc ?ubsa ?ubi ?ubt ?ubl ?ubh ?ubce ?ubco ?ubv2 ?ubfi ?ubmr ?ubini ?ubve ?ubn1 ?ubn2 ?aPW ?lPW ?cPW ?dPW ?zPW ?vPW ?dRL ?z_isinstance ?z_str ?z_int ?z_bool ?z_tuple ?z_len ?z_list ?z_dict ?z_zip ?z_enumerate ?z_range ?z_sorted ?z_repr ?z_sum ?z_max ?z_min ?z_abs ?z_all ?z_ValueError ?z_super
    (case aSh => k_is)
    (case lSh => k_is)
    (case hSh => k_is)
    (case kSh => k_is)
    (case aA => k_is)
    (case lA => k_is)
    (case hA => k_is)
    (case kA => k_is)
    (case aB => k_is)
    (case lB => k_is)
    (case hB => k_is)
    (case kB => k_is)
    (case aC => k_is)
    (case lC => k_is)
    (case hC => k_is)
    (case kC => k_is)
    (case aD => k_is)
    (case lD => k_is)
    (case hD => k_is)
    (case kD => k_is)
    (case aE => k_is)
    (case lE => k_is)
    (case hE => k_is)
    (case kE => k_is)
    (case aN => k_is)
    (case lN => k_is)
    (case hN => k_is)
    (case kN => k_is)
    (case aLe => k_is)
    (case lLe => k_is)
    (case hLe => k_is)
    (case kLe => k_is)
    (case aLb => k_is)
    (case lLb => k_is)
    (case hLb => k_is)
    (case kLb => k_is)
    (case aSp => k_is)
    (case lSp => k_is)
    (case hSp => k_is)
    (case kSp => k_is)
    (case aMf => k_is)
    (case lMf => k_is)
    (case hMf => k_is)
    (case kMf => k_is)
    (case aIm => k_is)
    (case lIm => k_is)
    (case hIm => k_is)
    (case kIm => k_is)
    (case aRm => k_is)
    (case lRm => k_is)
    (case hRm => k_is)
    (case kRm => k_is)
    (case aNm => k_is)
    (case lNm => k_is)
    (case hNm => k_is)
    (case kNm => k_is)
    (case aBg => k_is)
    (case lBg => k_is)
    (case hBg => k_is)
    (case kBg => k_is)
    (case aPk => k_is)
    (case lPk => k_is)
    (case hPk => k_is)
    (case kPk => k_is)
    (case aLn => k_is)
    (case lLn => k_is)
    (case hLn => k_is)
    (case kLn => k_is)
    (case aLk => k_is)
    (case lLk => k_is)
    (case hLk => k_is)
    (case kLk => k_is)
    (case aLf => k_is)
    (case lLf => k_is)
    (case hLf => k_is)
    (case kLf => k_is)
    (case aLs => k_is)
    (case lLs => k_is)
    (case hLs => k_is)
    (case kLs => k_is)
    (case aFi => k_is)
    (case lFi => k_is)
    (case hFi => k_is)
    (case kFi => k_is)
    (case aAm => k_is)
    (case lAm => k_is)
    (case hAm => k_is)
    (case kAm => k_is)
    (case aLo => k_is)
    (case lLo => k_is)
    (case hLo => k_is)
    (case kLo => k_is)
    (case aEx => k_is)
    (case lEx => k_is)
    (case hEx => k_is)
    (case kEx => k_is)
    (case aBo => k_is)
    (case lBo => k_is)
    (case hBo => k_is)
    (case kBo => k_is)
    (case aLm => k_is)
    (case lLm => k_is)
    (case hLm => k_is)
    (case kLm => k_is)
    (case aK => k_is)
    (case lK => k_is)
    (case hK => k_is)
    (case kK => k_is)
    (case aWo => k_is)
    (case lWo => k_is)
    (case hWo => k_is)
    (case kWo => k_is)
    (case aIs => k_is)
    (case lIs => k_is)
    (case hIs => k_is)
    (case kIs => k_is)
    (case aDu => k_is)
    (case lDu => k_is)
    (case hDu => k_is)
    (case kDu => k_is)
    (case aOd => k_is)
    (case lOd => k_is)
    (case hOd => k_is)
    (case kOd => k_is)
    (case aBe => k_is)
    (case lBe => k_is)
    (case hBe => k_is)
    (case kBe => k_is)
    (case aTr => k_is)
    (case lTr => k_is)
    (case hTr => k_is)
    (case kTr => k_is)
    (case aRi => k_is)
    (case lRi => k_is)
    (case hRi => k_is)
    (case kRi => k_is)
    (case cfRi => k_is)
    (case cpRi => first | exact rfl | k_is)
    (case cnRi => first | k_not | k_is | exact rfl | decide +kernel)
    (case crRi => first | exact rfl | decide +kernel)
    (case aBt => k_is)
    (case lBt => k_is)
    (case hBt => k_is)
    (case kBt => k_is)
    (case aXc => k_is)
    (case lXc => k_is)
    (case hXc => k_is)
    (case kXc => k_is)
    (case aL => k_is)
    (case lL => k_is)
    (case hL => k_is)
    (case kL => k_is)
    (case cfL => k_is)
    (case cpL => first | exact rfl | k_is)
    (case cnL => first | k_not | k_is | exact rfl | decide +kernel)
    (case crL => first | exact rfl | decide +kernel)
    (case cmd => k_is)
    (case cmp => k_is)
    (case cme => k_is)
    (case nBadRow => k_is)
    (case nBadFace => k_is)
    (case nBadMaking => k_is)
    (case nBadUser => k_is)
    (case nBadSteps => k_is)
    (case nBadLead => k_is)
    (case nToldApart => k_is)
    (case nOutOfPlace => k_is)
    (case nTooGreat => k_is)
    (case nBadPaper => k_is)
    (case nBadProgram => k_is)
    (case nBadModule => k_is)
    (case nRefused => k_is)
    (case nBadUse => k_is)
    (case nBadInput => k_is)
    (case nFaceError => k_is)
    (case tBadRow => first | k_is | decide +kernel | exact rfl)
    (case tBadFace => first | k_is | decide +kernel | exact rfl)
    (case tBadMaking => first | k_is | decide +kernel | exact rfl)
    (case tBadUser => first | k_is | decide +kernel | exact rfl)
    (case tBadSteps => first | k_is | decide +kernel | exact rfl)
    (case tBadLead => first | k_is | decide +kernel | exact rfl)
    (case tToldApart => first | k_is | decide +kernel | exact rfl)
    (case tOutOfPlace => first | k_is | decide +kernel | exact rfl)
    (case tTooGreat => first | k_is | decide +kernel | exact rfl)
    (case tBadPaper => first | k_is | decide +kernel | exact rfl)
    (case tBadProgram => first | k_is | decide +kernel | exact rfl)
    (case tBadModule => first | k_is | decide +kernel | exact rfl)
    (case tRefused => first | k_is | decide +kernel | exact rfl)
    (case tBadUse => first | k_is | decide +kernel | exact rfl)
    (case tBadInput => first | k_is | decide +kernel | exact rfl)
    (case tFaceError => first | k_is | decide +kernel | exact rfl)
    (case tVE => first | k_is | decide +kernel | exact rfl)
    (case teg => first | k_is | decide +kernel | exact rfl)
    (case tek => first | k_is | decide +kernel | exact rfl)
    (case tes => first | k_is | decide +kernel | exact rfl)
    (case ted => first | k_is | decide +kernel | exact rfl)
    (case tea => first | k_is | decide +kernel | exact rfl)
    (case tem => first | k_is | decide +kernel | exact rfl)
    (case tkp => first | k_is | decide +kernel | exact rfl)
    (case tty => first | k_is | decide +kernel | exact rfl)
    (case txm => first | k_is | decide +kernel | exact rfl)
    (case uBadRow => first | k_is | decide +kernel | exact rfl)
    (case uBadFace => first | k_is | decide +kernel | exact rfl)
    (case uBadMaking => first | k_is | decide +kernel | exact rfl)
    (case uBadUser => first | k_is | decide +kernel | exact rfl)
    (case uBadSteps => first | k_is | decide +kernel | exact rfl)
    (case uBadLead => first | k_is | decide +kernel | exact rfl)
    (case uToldApart => first | k_is | decide +kernel | exact rfl)
    (case uOutOfPlace => first | k_is | decide +kernel | exact rfl)
    (case uTooGreat => first | k_is | decide +kernel | exact rfl)
    (case uBadPaper => first | k_is | decide +kernel | exact rfl)
    (case uBadProgram => first | k_is | decide +kernel | exact rfl)
    (case uBadModule => first | k_is | decide +kernel | exact rfl)
    (case uRefused => first | k_is | decide +kernel | exact rfl)
    (case uBadUse => first | k_is | decide +kernel | exact rfl)
    (case uBadInput => first | k_is | decide +kernel | exact rfl)
    (case uFaceError => first | k_is | decide +kernel | exact rfl)
    (case uVE => first | k_is | decide +kernel | exact rfl)
    (case ueg => first | k_is | decide +kernel | exact rfl)
    (case uek => first | k_is | decide +kernel | exact rfl)
    (case ues => first | k_is | decide +kernel | exact rfl)
    (case ued => first | k_is | decide +kernel | exact rfl)
    (case uea => first | k_is | decide +kernel | exact rfl)
    (case uem => first | k_is | decide +kernel | exact rfl)
    (case ukp => first | k_is | decide +kernel | exact rfl)
    (case uty => first | k_is | decide +kernel | exact rfl)
    (case uxm => first | k_is | decide +kernel | exact rfl)
    (case en => first | k_is | decide +kernel | exact rfl)
    (case et => first | k_is | decide +kernel | exact rfl)
    (case btop => first | exact rfl | decide +kernel)
    (case bany => k_is)
    (case tbc => refine' ⟨_, _, _, _, _, _, _, _, _, _, _, _, _, _, _, ?bc1, ?bc2⟩; (case bc1 => first | k_is | exact rfl); (case bc2 => first | exact rfl | decide +kernel))
    (case tbsa => first | k_is | decide +kernel | exact rfl)
    (case tbi => k_is)
    (case tbt => first | k_is | decide +kernel | exact rfl)
    (case tbl => k_is)
    (case tbh => k_is)
    (case tbce => k_is)
    (case tbco => k_is)
    (case tbv2 => first | exact rfl | k_is)
    (case tbfi => first | exact rfl | decide +kernel)
    (case tbmr => first | k_is | decide +kernel | exact rfl)
    (case tbini => ks_is)
    (case tbve => first | k_is | decide +kernel | exact rfl)
    (case tbn1 => first | k_is | decide +kernel | exact rfl)
    (case tbn2 => first | k_is | decide +kernel | exact rfl)
    (case ubc => refine' ⟨_, _, _, _, _, _, _, _, _, _, _, _, _, _, _, ?bc1, ?bc2⟩; (case bc1 => first | k_is | exact rfl); (case bc2 => first | exact rfl | decide +kernel))
    (case ubsa => first | k_is | decide +kernel | exact rfl)
    (case ubi => k_is)
    (case ubt => first | k_is | decide +kernel | exact rfl)
    (case ubl => k_is)
    (case ubh => k_is)
    (case ubce => k_is)
    (case ubco => k_is)
    (case ubv2 => first | exact rfl | k_is)
    (case ubfi => first | exact rfl | decide +kernel)
    (case ubmr => first | k_is | decide +kernel | exact rfl)
    (case ubini => ks_is)
    (case ubve => first | k_is | decide +kernel | exact rfl)
    (case ubn1 => first | k_is | decide +kernel | exact rfl)
    (case ubn2 => first | k_is | decide +kernel | exact rfl)
    (case aPW => k_is)
    (case lPW => k_is)
    (case cPW => exact rfl)
    (case dPW => exact rfl)
    (case zPW => decide)
    (case vPW => exact .cons ⟨_, rfl⟩ (.cons ⟨_, rfl⟩ (.cons ⟨_, rfl⟩ (.cons ⟨_, rfl⟩ (.cons ⟨_, rfl⟩ .nil)))))
    (case dRL => first | decide | decide +kernel)
    (case z_isinstance => k_is)
    (case z_str => k_is)
    (case z_int => k_is)
    (case z_bool => k_is)
    (case z_tuple => k_is)
    (case z_len => k_is)
    (case z_list => k_is)
    (case z_dict => k_is)
    (case z_zip => k_is)
    (case z_enumerate => k_is)
    (case z_range => k_is)
    (case z_sorted => k_is)
    (case z_repr => k_is)
    (case z_sum => k_is)
    (case z_max => k_is)
    (case z_min => k_is)
    (case z_abs => k_is)
    (case z_all => k_is)
    (case z_ValueError => k_is)
    (case z_super => k_is)
