import PyProof.Rows.All
import Wide.All
import OpenK.AllK
import Wide.FinOn
import HandS.ForMost
import HandS.Walk
import HandS.Wide
import HandS.IsInst
import HandS.AnyAll
import HandS.Replace
import HandS.EndTab
import HandS.RaiseMore
import HandS.TupLe
import PyProof.ReprRoads
import PyProof.StrOps2
import HandS.TupAny
import PyProof.DictUpdate
import PyProof.ListIndex
import PyProof.FactsAll.bool_1
import HandS.StrMore
import HandS.Style
import PyProof.FactsAll.bool_2
import PyProof.EqKinds
import HandS.ForExc
import HandS.ExcIs
import HandS.ExcValue
import KE.GoesEnum
import KE.GoesMore
import KE.KDictZip
import PyProof.StrLawsRepr
import HandS.TupMul
import KE.KRevSl
import HandS.Text
import HandS.Conv
import HandS.Deep
import PyProof.Rows.IntBool
import PySem.Challenge.RW_sameface_k09_bodies_looked_at
set_option Elab.async false
set_option linter.all false
set_option maxRecDepth 100000
/-! calls made where no repr is under way; repr of lists; all(..) over a text with a module's name in its test; the law's end -/
namespace SfG
open PySem PySem.Spec PyProof.Rows L2
/-! ### a def's promise where no repr is under way -/
structure FnG (P : Program) (w : World) (K : PySem.W.Frag) (mg : Str → Option Value) (base : Heap)
    (CX : CXT) (k : Nat) (f : Addr) (fd : FuncData) (ps : List Str) (sp : Sp) : Prop where
  size : ∀ vs H Q E, sp vs H Q E → vs.length = ps.length
  goes : ∀ (A : Around) (outer : List Env) (s : Shared) (H : Hp) (args : Args) (us : List Value)
    (vs : List V) (Q : VK) (E : XK), Room k A → A.guards = some [] → Env0 P w K mg base A outer s H →
    BindsTo s fd args (ps.zip us) → Vals vs us → sp vs H Q E →
    codeAny (model P w) A (.call (.ref f) args) (CR CX outer P w H s Q E) s
section
variable {P : Program} {w : World} {K : PySem.W.Frag} {mg : Str → Option Value} {base : Heap}
/-- a def by its body, where no repr is under way -/
theorem fng_of {x qual : Str} {st : Stmt} {f : Addr} {fd : FuncData} {N ps : List Str} {k : Nat} {sp : Sp}
    (F : Fun K x qual st f fd) (S : FnScope N ps (defScope st)) (len : ∀ vs H Q E, sp vs H Q E → vs.length = ps.length)
    (hbody : ∀ (cdv : Value) (A : Around) (outer : List Env) (s : Shared) (H : Hp) (vs : List V) (Q : VK) (E : XK),
      Room k (A.deeper (envOfC qual (defScope st) s.heap.objs.size f cdv)) → A.guards = some [] → sp vs H Q E →
      ∃ t, PSs (cxOf CX0 P w K mg base N qual (defScope st) f cdv A outer s H E).nox (defBody st) t ∧
        t { nx := fun _ H' => Q .non H', rt := Q } (start N vs) H) :
    FnG P w K mg base CX0 (k + 1) f fd ps sp := by
  obtain ⟨oc, od, kV, doc, pm, an, cdv, ct, osl, rfl, lk, hcd⟩ := F.ex
  refine ⟨len, ?_⟩
  intro A outer s H args us vs Q E hr hgd e0 hb r hsp
  refine LamX.run_ofS lk hcd S hr e0 hb r (len _ _ _ _ hsp) ?_
  intro hr'
  obtain ⟨t, h, q⟩ := hbody cdv A outer s H vs Q E hr' hgd hsp
  exact ⟨t, h.nox, q⟩
end
section
variable {X : Cx} {CX : CXT} {k : Nat} {f : Addr} {fd : FuncData} {ps : List Str} {sp : Sp} {dvs : List V}
  {ds : List Value} {E : XK} {x : Str} {p pos : Pos} {e : Expr} {es : List Expr} {t : TA}
theorem run_fng {pins : List (Addr × Obj)} {σ : L2.St} {H : Hp} {s : Shared} {Q : VK} {us : List Value} {vs : List V}
    (F : FnG X.prog X.w X.K X.mg X.base CX k f fd ps sp) (hr : Room k X.A) (hgd : X.A.guards = some [])
    (hb : Binds X.K fd ps ds) (hd : Vals dvs ds) (hx : Passes CX X E) (I : L2.Inv X pins σ H s) (r : Vals vs us)
    (h : sp (vs ++ dvs) H Q E) : wpAny (model X.prog X.w) X.A (call (.ref f) us) (EP X pins σ Q) X.xe s := by
  have r2 := r.append hd
  have hl : (us ++ ds).length = ps.length := r2.length.symm.trans (F.size _ _ _ _ h)
  have go := F.goes X.A X.stack s H ⟨us, []⟩ _ _ Q E hr hgd I.env0 (hb s us I.kIn hl) r2 h
  refine wpAny_call (codeAny_mono go ?_)
  intro res s' hq
  match res, hq with
  | .error e, hq => exact hx pins σ H s e s' I hq
  | .ok (.ret u), hq => exact I.after hq
  | .ok .next, hq => exact False.elim hq
  | .ok .brk, hq => exact False.elim hq
  | .ok .cont, hq => exact False.elim hq
theorem pe_callG (F : FnG X.prog X.w X.K X.mg X.base CX k f fd ps sp) (hr : Room k X.A) (hgd : X.A.guards = some [])
    (hg : Gl X x) (hm : X.mg x = some (.ref f)) (hk : PySem.W.keepIn X.K (.ref f) = true)
    (hb : Binds X.K fd ps ds) (hd : Vals dvs ds) (hx : Passes CX X E) (ha : PA X (e :: es) t)
    (hdb : (x == ("__debug__" : Str)) = false := by decide)
    (he : starEach (e :: es) X.env = (false, eval e X.env) :: starEach es X.env := by rfl)
    (hpl : (backTo pos (starEach es X.env)).any (·.1) = false := by rfl) :
    PE X (.Call (.Name x p) (e :: es) [] pos) (tCall sp dvs E t) := by
  constructor
  intro pins s σ H Q I h
  refine wpAny_Call_Name_kw (ld_glob I hg hm ?_ hdb)
  refine PySem.W.callWith_K (h₀ := X.base) I.ok.mod.kin hk ?_ he hpl
  refine thn (ha.run pos pins s σ H _ I h) ?_
  rintro us s1 ⟨vs, H1, I1, r, q⟩
  exact ⟨I1.kIn, run_fng F hr hgd hb hd hx I1 r q⟩
end
/-! ### repr of a list or a tuple of plain data -/
def rRepr (K : PySem.W.Frag) : List V → Hp → VK → Prop := fun xs H Q =>
  ∃ (a : Addr) (d : PyData) (S : Str), xs = [.ref a] ∧ Dp K H (.ref a) d ∧ d.showable = true ∧ d.hasDict = false ∧
    d.depth ≤ 30 ∧ d.shown = S ∧ S.length ≤ sizeLine ∧ Q (.str S) H
theorem call_repr {X : Cx} {k : Nat} (hr : Room k X.A) (hgd : X.A.guards = some []) :
    CallR X (.builtin "repr") (rRepr X.K) := by
  intro pins s σ H xs us Q I r h
  obtain ⟨a, d, S, rfl, hd, hs, hn, hdep, rfl, hz, q⟩ := h
  obtain ⟨u, rfl, ru⟩ := vals1 r
  cases (show u = Value.ref a from ru)
  obtain ⟨as, rd⟩ := Dp.reads I d _ _ hd (show RelV (.ref a) (.ref a) from rfl)
  have hun := hr.un
  refine repr_of_reads' rd hs (fun z => ?_) hgd (by omega) (fun _ _ z => z) (fun h' u' tk hk => ?_) hz
  · rw [hn] at z
    cases z
  · exact ⟨.str d.shown, H, I.kept hk, ⟨_, rfl⟩, q⟩
/-! ### all(test for x in e), e a text, the test may name what the module holds -/
/-- the test of one sign, run in the expression's own frame; the module's names are to be had -/
def EltG (X : Cx) (scope : Scope) (x : Str) (elt : Expr) (pb : Nat → Bool) : Prop :=
  ∀ (cenv : Env) (A' : Around) (E' : Value → Shared → Prop) (c : Nat) (t : Tok) (s2 : Shared) (m2 : Str → Option Value),
    cenv.scope = scope → cenv.globals = mainGlobals → s2.heap.Ns mainGlobals X.mg → s2.heap.Ns cenv.locals m2 →
    m2 x = some (.str ⟨#[c]⟩ t) →
    wpAny (model X.prog X.w) A' (eval elt cenv) (fun y s3 => y = .bool (pb c) ∧ Keeps s2 s3) E' s2
/-- x in NAME, NAME a text of the module -/
theorem elt_in {X : Cx} {scope : Scope} {x g : Str} {z : Str} {tz : Tok} {p1 p2 p3 : Pos} (hk : scope.kind = .function)
    (hl : scope.names.lookup x = some .local) (hgl : scope.names.lookup g = some .globalImplicit) (hz : X.mg g = some (.str z tz))
    (hd : (x == ("__debug__" : Str)) = false := by decide) (hd2 : (g == ("__debug__" : Str)) = false := by decide) :
    EltG X scope x (.Compare (.Name x p1) [.In] [.Name g p2] p3) (fun c => decide (c ∈ z.cps.toList)) := by
  intro cenv A' E' c t s2 m2 hs hgb hmn hn hm
  have kd : cenv.scope.kind = .function := by rw [hs]; exact hk
  refine wpAny_Compare1 ?_
  refine wpAny_Name (wpAny_loadName_local kd (show cenv.scope.names.lookup x = some .local by rw [hs]; exact hl) hn hm ?_) hd
  refine Calls.Name_function_global kd (show cenv.scope.names.lookup g = some .globalImplicit by rw [hs]; exact hgl) ?_ hd2
  refine Calls.loadGlobal_global (by rw [hgb]; exact hmn) hz ?_
  refine PyProof.Rows.in_str ?_
  exact ⟨congrArg Value.bool (PySem.StrLaws.found_one z c), GxR.keeps_refl _⟩
/-- the expression's code object: found in the def's table, or laid there -/
theorem gen_code {prog : Program} {w : World} {A : Around} {E : Value → Shared → Prop} {env : Env} {gpos : Pos} {q : Str} {scope : Scope}
    {c P : Addr} {ps : Array Value} {s2 : Shared} {Q : Value → Shared → Prop} (hcode : env.code = .ref c) (cd : PySem.W.CodeHd s2.heap c P)
    (hP : s2.heap.get? P = some { cls := .none, data := .fields ps }) (ht : TriplesOk ps.toList)
    (h : ∀ (code : Value) (h3 : Heap) (tk : Nat) (ps' : Array Value), Heap.ExtBut P s2.heap h3 → s2.heap.objs.size ≤ h3.objs.size →
      h3.get? P = some { cls := .none, data := .fields ps' } → (∃ more, ps' = ps ++ more) → TriplesOk ps'.toList →
      Q code { s2 with heap := h3, toks := tk }) : wpAny (model prog w) A (genexprCode env gpos q scope) Q E s2 := by
  cases hf : codeAmong gpos ps.toList with
  | some cv =>
    exact wpAny_genexprCode_hit hcode (cd.code hP ht) hf (h cv s2.heap s2.toks ps (Heap.ExtBut.refl _ _) (Nat.le_refl _) hP ⟨#[], by simp⟩ ht)
  | none =>
    refine wpAny_genexprCodeX hcode (cd.code hP ht) (cd.tab hP) hf ?_
    intro c' h' tk hx hge hlt hco' _ htab' _
    obtain ⟨o1, vs, f1, tf, fl, tg, inF, tx, tt, op, _, _, _, _, _, _, _, _, _, htr, _⟩ := hco'
    exact h _ h' tk _ hx (Nat.le_trans hge (Nat.le_of_lt hlt)) htab'.2 ⟨_, rfl⟩ htr
section
variable {X : Cx} {pins : List (Addr × Obj)} {σ : L2.St} {H : Hp} {s : Shared}
theorem gen_made {c P : Addr} {elt iter : Expr} {x : Str} {px gpos : Pos} {scope : Scope} {pb : Nat → Bool} {te : TE} {k : Nat}
    {Q' : Value → Shared → Prop} {R : Str → Hp → Prop} (hr : Room k X.A) (TB : GxR.TabB X.base X.mg c P) (hcode : X.env.code = .ref c)
    (S : GxR.GenS X.env scope x) (hi : PE X iter te) (hel : EltG X scope x elt pb) (hs : ∀ v, genFold iter X.env v = pure v)
    (I : L2.Inv X pins σ H s) (h : te σ H fun v H1 => ∃ a : Str, v = .str a ∧ GxR.TabG H1 P ∧ R a H1)
    (hQ : ∀ a H1 g s5, R a H1 → GxR.Ready X pins σ H1 P a pb g s5 → Q' (.ref g) s5) :
    wpAny (model X.prog X.w) X.A (eval (.GeneratorExp elt [⟨.Name x px, iter, [], 0⟩] scope gpos) X.env) Q' X.xe s := by
  have hdp := hr.dp
  refine wpAny_GeneratorExp_walksQ hr.hd S.co (closure_ok S.free) S.cell S.dot S.loc S.kind (by omega) ?_ hs
  refine thn (hi.run pins s σ H _ I h) ?_
  rintro xv s1 ⟨v, H1, I1, r1, a, rfl, ⟨ps, hP, ht⟩, q1⟩
  obtain ⟨t, rfl⟩ := _root_.id r1
  refine wpAny_pyIter_str ?_
  intro o St W hst
  have hPs : s1.heap.get? P = some { cls := .none, data := .fields ps } := I1.hok P _ hP
  have hPlt := Heap.lt_size hPs
  have lim2 : (s1.heap.push o).NoLimit := I1.nolimit.push o
  refine ⟨lim2, ?_⟩
  refine gen_code (s2 := { s1 with heap := s1.heap.push o }) hcode (TB.code.keeps fun b u e => Heap.get?_push_of_some _ (I1.bk b u e)) (Heap.get?_push_of_some _ hPs) ht ?_
  intro code h3 tk ps' hx hsz hP3 hmore ht3
  have hcl : cStatics < s1.heap.objs.size := by
    obtain ⟨_, hns, _⟩ := I1.nolimit
    exact hns.lt
  have hcP : cStatics ≠ P := by
    intro e
    obtain ⟨_, ⟨o', es, ep, ho, hd, _⟩, _⟩ := I1.nolimit
    rw [e, hPs] at ho
    cases ho
    cases hd
  have sz2 : (s1.heap.push o).objs.size = s1.heap.objs.size + 1 := Heap.size_push ..
  have keep3 : ∀ b u, b ≠ P → s1.heap.get? b = some u → h3.get? b = some u :=
    fun b u hb e => hx b u hb (Heap.get?_push_of_some _ e)
  have hsz' : s1.heap.objs.size + 1 ≤ h3.objs.size := by
    rw [← sz2]
    exact hsz
  have ns3 : h3.Ns mainGlobals X.mg := ((I1.mod.glob.keeps I1.bk).push o).extBut hx TB.gP
  obtain ⟨bm, ob, e1, e2, e3, e4, e5, e6, e7, e8⟩ := TB.bm
  refine wpAny_builtinsFor (m := X.mg) (by rw [I1.ok.glob]; exact ns3) e1 e2 (keep3 _ _ e4 (I1.bk _ _ e5)) e6 e7 e8 ?_
  refine ⟨s1.heap.objs.size, [s1.heap.objs.size], [s1.heap.objs.size], a.cps.size, SignAt a, St, fun _ => true,
    fun i y => ∃ cc, a.cps[i]? = some cc ∧ y = .bool (pb cc), rfl, W, ?_, ?_, lim2.extBut hx hcP, ?_, ?_, ?_⟩
  · refine (W X.A hr.hd).frame _ _ _ hst ?_
    intro b hb u e
    have eb : b = s1.heap.objs.size := by simpa using hb
    refine hx b u ?_ e
    intro z
    rw [← z, eb] at hPlt
    exact Nat.lt_irrefl _ hPlt
  · intro b hb
    have eb : b = s1.heap.objs.size := by simpa using hb
    rw [eb]
    show s1.heap.objs.size < h3.objs.size
    omega
  · intro z
    have eb : cStatics = s1.heap.objs.size := by simpa using z
    rw [eb] at hcl
    exact Nat.lt_irrefl _ hcl
  · intro href hhref
    constructor
    · intro A' E' i v s2 m2 hA hPv hn hm hk
      simp only [List.forIn_nil]
      exact wpAny_pure ⟨rfl, GxR.keeps_refl _⟩
    · intro A' E' i v s2 m2 hA hPv hp hn hm hk
      obtain ⟨cc, u, hcc, rfl⟩ := hPv
      have nsM : s2.heap.Ns mainGlobals X.mg := by
        obtain ⟨om, es, ep, g1, g2⟩ := ns3
        have glt : mainGlobals < s1.heap.objs.size := by
          obtain ⟨o9, _, _, g9, _⟩ := I1.mod.glob.keeps I1.bk
          exact Heap.lt_size g9
        refine ⟨om, es, ep, hk mainGlobals ?_ ?_ om (hhref _ _ g1), g2⟩
        · refine List.mem_range.mpr ?_
          show mainGlobals < h3.objs.size
          exact Heap.lt_size g1
        · intro z
          have eb : mainGlobals = s1.heap.objs.size := by simpa using z
          rw [eb] at glt
          exact Nat.lt_irrefl _ glt
      exact wpAny_mono (hel _ A' E' cc u s2 m2 rfl I1.ok.glob nsM hn hm) (fun y s3 r => ⟨⟨cc, hcc, r.1⟩, r.2⟩) (fun _ _ e => e)
  · intro g h5 tk5 gs hgb hag hsz5 hk5 W5 hat
    simp only [GxR.passing_true, List.length_range] at W5
    refine hQ a H1 g _ q1 ⟨_, _, _, _, _, W5.in4_1, hat, ?_, ?_⟩
    · intro j y sj Qj Ej hy hQj
      obtain ⟨i, hij, cc, hcc, rfl⟩ := hy
      obtain ⟨hj, ej⟩ := List.getElem?_eq_some_iff.mp hij
      rw [List.getElem_range] at ej
      subst ej
      have e9 : a.cps.toList[j]? = some cc := by rw [Array.getElem?_toList]; exact hcc
      have hQ2 : Qj (GxR.trF pb a.cps.toList j) sj := hQj
      rw [GxR.trF_some e9] at hQ2
      exact wpAny_truthy_bool hQ2
    · intro s' hmv
      obtain ⟨more, em⟩ := hmore
      have nwr : ∀ b u, s1.heap.get? b = some u → b ∉ h3.objs.size :: [s1.heap.objs.size] := by
        intro b u e hb
        have hl := Heap.lt_size e
        rcases List.mem_cons.mp hb with z | z
        · rw [z] at hl
          have h9 : (h3.objs.size : Nat) < s1.heap.objs.size := hl
          omega
        · have eb : b = s1.heap.objs.size := by simpa using z
          rw [eb] at hl
          exact Nat.lt_irrefl _ hl
      have J := GxR.inv_tab (more := more) (h' := s'.heap) (g' := s'.gens) (d' := s'.drawn) (t' := s'.toks) I1 hP
        (fun b u hb e => hmv.heap b u (nwr b u e) (hk5 b u (keep3 b u hb e)))
        (by rw [← em]; exact hmv.heap P _ (nwr P _ hPs) (hk5 P _ hP3)) (AllBare.movedS (I1.bare.push hgb) hmv)
      rw [GxR.sh_eta s1 s' hmv.os] at J
      exact ⟨upd H1 P (.tbl (ps ++ more)), ⟨⟨ps ++ more, upd_same, by rw [← em]; exact ht3⟩, fun b hb => upd_ne hb⟩, J⟩
theorem pe_allG {c P : Addr} {elt iter : Expr} {x : Str} {px p pos gpos : Pos} {scope : Scope} {pb : Nat → Bool} {te : TE} {k : Nat}
    (hr : Room k X.A) (hg : Gl X "all") (hm : X.mg "all" = none) (TB : GxR.TabB X.base X.mg c P) (hcode : X.env.code = .ref c)
    (S : GxR.GenS X.env scope x) (hi : PE X iter te) (hel : EltG X scope x elt pb) (hs : ∀ v, genFold iter X.env v = pure v)
    (he : starEach [.GeneratorExp elt [⟨.Name x px, iter, [], 0⟩] scope gpos] X.env =
      (false, eval (.GeneratorExp elt [⟨.Name x px, iter, [], 0⟩] scope gpos) X.env) :: starEach [] X.env := by rfl) :
    PE X (.Call (.Name "all" p) [.GeneratorExp elt [⟨.Name x px, iter, [], 0⟩] scope gpos] [] pos) (GxR.tAllS P pb te) := by
  constructor
  intro pins s σ H Q I h
  refine wpAny_Call_Name_kw (ld_blt I hg hm (show bootBuiltins "all" = some (.builtin "all") by decide +kernel) ?_)
  refine PyProof.Rows.callWith_builtin1 ?_ he (by rfl)
  rw [he]
  refine Calls.spliced_cons (gen_made (R := fun a H1 => ∀ H2, GxR.Tabbed P H1 H2 → Q (.bl (a.cps.toList.all pb)) H2) hr TB hcode S hi hel hs I h ?_)
  intro a H1 g s5 hR hG
  obtain ⟨fp, wr, G, F, St, W, hst, htr, hI⟩ := hG
  refine Calls.spliced_nil (call_all_walkS (W.self 0 _ _ _ hst ⟨g, fp, wr, G, _, F, St, _, rfl, W, hst, htr, ?_⟩))
  intro s' hmv
  obtain ⟨H2, hT, J⟩ := hI s' hmv
  refine ⟨.bl _, H2, J, rfl, ?_⟩
  rw [GxR.all_signs a pb]
  exact hR H2 hT
end
end SfG
namespace SfG
open PySem PySem.Spec PyProof.Rows L2
/-! ### the law's end: tables of code objects, no repr under way -/
theorem noneIn (b : Addr) (l : List Addr) (h : l = []) : ¬ b ∈ l := by
  rw [h]
  simp
section
variable {P : Program} {w : World} {K : PySem.W.Frag} {mg mb : Str → Option Value} {CX : CXT} {k : Nat} {fa a : Addr}
  {cs : List (Addr × Addr)} {fd : FuncData} {x : Str} {sp : Sp} {s1 : Shared} {vs : List Value} {ns : List Int}
/-- what stands at s1: the module, its tables, the script -/
structure Stands (K : PySem.W.Frag) (mg mb : Str → Option Value) (cs : List (Addr × Addr)) (s1 : Shared) (a : Addr) (vs : List Value) : Prop where
  kin : K.In s1.heap
  glob : s1.heap.Ns mainGlobals mg
  blt : s1.heap.Ns builtinsNs mb
  bltv : ∀ y : Str, y ≠ "__name__" → mb y = bootBuiltins y
  lim : s1.heap.NoLimit
  gens : s1.gens = #[]
  tab : ∀ p ∈ cs, s1.heap.get? p.2 = some { cls := .none, data := .fields #[] }
  ntab : ∀ p ∈ cs, K.lookup p.2 = none
  code : ∀ p ∈ cs, PySem.W.CodeHd s1.heap p.1 p.2
  bmain : ∃ (bm : Addr) (ob : Obj), mg "__builtins__" = some (.ref bm) ∧ bm ≠ builtinsNs ∧ s1.heap.get? bm = some ob ∧
    ob.cls = .type "module" ∧ ob.dict = some builtinsNs ∧ ob.data = .plain
  scr : s1.heap.get? a = some { cls := .type "list", data := .seq vs.toArray }
/-- what is tracked there: the tables, and the script where the written part doesn't hold it -/
def Tracks (K : PySem.W.Frag) (cs : List (Addr × Addr)) (a : Addr) (H : Hp) : Prop :=
  ∀ b u, H b = some u → (b ∈ cs.map (·.2) ∧ u = .tbl #[]) ∨ (b = a ∧ K.lookup a = none ∧ ∃ o xs, u = .frz o (.lst xs))
theorem Stands.untracked {H : Hp} (S : Stands K mg mb cs s1 a vs) (T : Tracks K cs a H) {b : Addr} {o : Obj} (e : s1.heap.get? b = some o)
    (h1 : ∀ us n, o.data ≠ .seq us n) (h2 : o.data ≠ .fields #[]) : H b = none := by
  cases q : H b with
  | none => rfl
  | some u =>
    exfalso
    rcases T b u q with ⟨hb, _⟩ | ⟨hb, _⟩
    · obtain ⟨p, hp, ep⟩ := List.mem_map.mp hb
      have z := S.tab p hp
      rw [ep, e] at z
      cases z
      exact h2 rfl
    · have z := S.scr
      rw [← hb, e] at z
      cases z
      exact h1 _ _ rfl
theorem end_core {H : Hp} (S : Stands K mg mb cs s1 a vs) (T : Tracks K cs a H) (hH : ∀ p ∈ cs, H p.2 = some (.tbl #[]))
    (hok : HOk P w H s1.heap) (hr : Room k callerA)
    (F : ∀ base : Heap, K.In base → base.Ns mainGlobals mg → (∀ p ∈ cs, GxR.TabB base mg p.1 p.2) → FnG P w K mg base CX k fa fd [x] sp)
    (hbind : ∀ (s : Shared) (u : Value), BindsTo s fd ⟨[u], []⟩ [(x, u)])
    (hsp : sp [.ref a] H (fun v _ => v = .bl true) fun _ _ _ => False)
    (hCX : ∀ H e s', CX [] H s1 (fun _ _ _ => False) e s' → False) :
    codeAny (model P w) callerA (.call (.ref fa) ⟨[.ref a], []⟩)
      (fun r s' => r = .ok (.ret (.bool true)) ∧ OldK s1.heap s'.heap ∧ s'.os = s1.os ∧ AllBare s'.gens) s1 := by
  have low : ∀ {b : Addr} {o : Obj}, s1.heap.get? b = some o → H b = none → (hidT s1.heap H).get? b = some o := fun e n => hidT_get e n
  have lowNs : ∀ {b : Addr} {m : Str → Option Value}, s1.heap.Ns b m → (hidT s1.heap H).Ns b m := by
    rintro b m ⟨o, es, ep, e, d, r⟩
    refine ⟨o, es, ep, low e (S.untracked T e ?_ ?_), d, r⟩
    · intro us n z
      rw [d] at z
      cases z
    · intro z
      rw [d] at z
      cases z
  have lowK : K.In (hidT s1.heap H) := by
    intro b o e
    refine low (S.kin b o e) ?_
    cases q : H b with
    | none => rfl
    | some u =>
      exfalso
      rcases T b u q with ⟨hb, _⟩ | ⟨hb, hk, _⟩
      · obtain ⟨p, hp, ep⟩ := List.mem_map.mp hb
        rw [← ep, S.ntab p hp] at e
        cases e
      · rw [hb, hk] at e
        cases e
  have lowT : ∀ p ∈ cs, GxR.TabB (hidT s1.heap H) mg p.1 p.2 := by
    intro p hp
    have tp := S.tab p hp
    constructor
    · obtain ⟨o, us, file, tf, flags, tg, inF, text, tt, e1, r1, r2, r3, rest⟩ := S.code p hp
      refine ⟨o, us, file, tf, flags, tg, inF, text, tt, low e1 (S.untracked T e1 ?_ ?_), r1, r2, r3, rest⟩
      · intro us n z
        rw [r2] at z
        cases z
      · intro z
        rw [r2] at z
        cases z
        simp at r3
    · obtain ⟨bm, ob, b1, b2, b3, b4, b5, b6⟩ := S.bmain
      refine ⟨bm, ob, b1, b2, ?_, ?_, low b3 (S.untracked T b3 ?_ ?_), b4, b5, b6⟩
      · intro q
        obtain ⟨o, es, ep, e, hd, _⟩ := S.glob
        rw [q, e] at b3
        cases b3
        rw [hd] at b6
        cases b6
      · intro q
        rw [q, tp] at b3
        cases b3
        cases b6
      · intro us n z
        rw [b6] at z
        cases z
      · intro z
        rw [b6] at z
        cases z
    · intro z
      obtain ⟨o, es, ep, e, hd, _⟩ := S.glob
      rw [z, tp] at e
      cases e
      cases hd
  have md : L2.Mod K mg (hidT s1.heap H) := by
    refine ⟨lowK, lowNs S.glob, ⟨mb, lowNs S.blt, S.bltv⟩, ?_⟩
    obtain ⟨mc, h1, h2⟩ := S.lim
    exact ⟨mc, lowNs h1, h2⟩
  have e0 : Env0 P w K mg (hidT s1.heap H) callerA [] s1 H :=
    ⟨rfl, md, fun b o e => of_hidT e, Nat.le_of_eq (hidT_size _ _), trivial, fun b hb => absurd hb (noneIn b _ rfl), hok, .of_eq S.gens⟩
  have go := (F _ lowK (lowNs S.glob) lowT).goes callerA [] s1 H ⟨[.ref a], []⟩ [.ref a] [.ref a] _ _ hr rfl e0 (hbind s1 (.ref a)) (.cons rfl .nil) hsp
  refine codeAny_mono go ?_
  intro res s' h
  match res, h with
  | .error e, h => exact (hCX H e s' h).elim
  | .ok .next, h => exact False.elim h
  | .ok .brk, h => exact False.elim h
  | .ok .cont, h => exact False.elim h
  | .ok (.ret u), h =>
    obtain ⟨v, H', os, bare, un, hok', r', q⟩ := h
    cases (show v = .bl true from q)
    cases (show u = Value.bool true from r')
    have stay : ∀ b o, b ∉ cs.map (·.2) → s1.heap.get? b = some o → s'.heap.get? b = some o := by
      intro b o nb e
      cases q : H b with
      | none => exact un.keep b o e q (noneIn b _ rfl) (by simp)
      | some u =>
        rcases T b u q with ⟨hb, _⟩ | ⟨_, _, ob, xs, z⟩
        · exact absurd hb nb
        · rw [z] at q
          obtain ⟨g1, _⟩ := hok b _ q
          obtain ⟨g2, _⟩ := hok' b _ (un.frzs b ob _ q)
          rw [e] at g1
          cases g1
          exact g2
    have tabs : ∀ p ∈ cs, ∃ more : Array Value, s'.heap.get? p.2 = some { cls := .none, data := .fields more } := by
      intro p hp
      obtain ⟨more, z⟩ := un.tbls p.2 #[] (hH p hp)
      exact ⟨_, hok' p.2 _ z⟩
    refine ⟨rfl, ⟨fun b o e => ?_, fun b o e => ?_⟩, os, bare⟩
    · by_cases hb : b ∈ cs.map (·.2)
      · obtain ⟨p, hp, ep⟩ := List.mem_map.mp hb
        subst ep
        obtain ⟨more, hm⟩ := tabs p hp
        rw [S.tab p hp] at e
        cases e
        refine .inr (.inl ⟨((S.code p hp).tab (S.tab p hp)).isCodeTable, rfl, #[], more, rfl, ?_⟩)
        rw [Array.empty_append]
        exact hm
      · exact .inl (stay b o hb e)
    · by_cases hb : b ∈ cs.map (·.2)
      · obtain ⟨p, hp, ep⟩ := List.mem_map.mp hb
        subst ep
        obtain ⟨more, hm⟩ := tabs p hp
        exact ⟨_, hm⟩
      · exact ⟨o, stay b o hb e⟩
/-- the abstract heap at the start -/
def hp0 (cs : List (Addr × Addr)) (sc : Option HO) (a : Addr) : Hp := fun b => if b ∈ cs.map (·.2) then some (.tbl #[]) else if b = a then sc else none
theorem end_call (S : Stands K mg mb cs s1 a vs) (hi : IntsAre vs ns) (hl : ns.length ≤ sizeLine) (hr : Room k callerA)
    (F : ∀ base : Heap, K.In base → base.Ns mainGlobals mg → (∀ p ∈ cs, GxR.TabB base mg p.1 p.2) → FnG P w K mg base CX k fa fd [x] sp)
    (hbind : ∀ (s : Shared) (u : Value), BindsTo s fd ⟨[u], []⟩ [(x, u)])
    (hsp : ∀ H : Hp, (∀ p ∈ cs, H p.2 = some (.tbl #[])) → SqL K H a (ns.map V.int) → sp [.ref a] H (fun v _ => v = .bl true) fun _ _ _ => False)
    (hCX : ∀ H e s', CX [] H s1 (fun _ _ _ => False) e s' → False) :
    codeAny (model P w) callerA (.call (.ref fa) ⟨[.ref a], []⟩)
      (fun r s' => r = .ok (.ret (.bool true)) ∧ OldK s1.heap s'.heap ∧ s'.os = s1.os ∧ AllBare s'.gens) s1 := by
  have rv := vals_ints hi
  have hH : ∀ sc, ∀ p ∈ cs, hp0 cs sc a p.2 = some (.tbl #[]) := fun sc p hp => if_pos (List.mem_map.mpr ⟨p, hp, rfl⟩)
  have na : a ∉ cs.map (·.2) := by
    intro z
    obtain ⟨p, hp, ep⟩ := List.mem_map.mp z
    have q := S.tab p hp
    rw [ep, S.scr] at q
    cases congrArg Obj.data (Option.some.inj q)
  have at_a : ∀ sc, hp0 cs sc a a = sc := fun sc => by
    unfold hp0
    rw [if_neg na, if_pos rfl]
  have cases_of : ∀ sc b u, hp0 cs sc a b = some u → (b ∈ cs.map (·.2) ∧ u = .tbl #[]) ∨ (b = a ∧ sc = some u) := by
    intro sc b u h
    unfold hp0 at h
    by_cases h1 : b ∈ cs.map (·.2)
    · rw [if_pos h1] at h
      exact .inl ⟨h1, (Option.some.inj h).symm⟩
    · rw [if_neg h1] at h
      by_cases h2 : b = a
      · rw [if_pos h2] at h
        exact .inr ⟨h2, h⟩
      · rw [if_neg h2] at h
        cases h
  have tabOk : ∀ (H : Hp) b, b ∈ cs.map (·.2) → ObjOk P w H s1.heap b (.tbl #[]) := by
    intro H b hb
    obtain ⟨p, hp, ep⟩ := List.mem_map.mp hb
    rw [← ep]
    exact S.tab p hp
  cases hk : K.lookup a with
  | some o =>
    have e := S.kin a o hk
    rw [S.scr] at e
    cases e
    refine end_core (H := hp0 cs none a) S ?_ (hH none) ?_ hr F hbind (hsp _ (hH none) (.inr ⟨_, vs.toArray, _, hk, rfl, rfl, rfl, ?_, ?_⟩)) hCX
    · intro b u h
      rcases cases_of none b u h with h | ⟨_, h⟩
      · exact .inl h
      · cases h
    · intro b u h
      rcases cases_of none b u h with ⟨h1, rfl⟩ | ⟨_, h⟩
      · exact tabOk _ b h1
      · cases h
    · rw [List.size_toArray, hi.length]
      exact hl
    · simpa using rv
  | none =>
    refine end_core (H := hp0 cs (some (.frz { cls := .type "list", data := .seq vs.toArray } (.lst (ns.map V.int)))) a) S ?_ (hH _) ?_ hr F hbind
      (hsp _ (hH _) (.inl (.inr ⟨{ cls := .type "list", data := .seq vs.toArray }, at_a _⟩))) hCX
    · intro b u h
      rcases cases_of _ b u h with h | ⟨h1, h2⟩
      · exact .inl h
      · exact .inr ⟨h1, hk, _, _, (Option.some.inj h2).symm⟩
    · intro b u h
      rcases cases_of _ b u h with ⟨h1, rfl⟩ | ⟨rfl, h2⟩
      · exact tabOk _ b h1
      · cases h2
        refine ⟨S.scr, ?_, vs, _, rv, S.scr⟩
        rw [List.length_map]
        exact hl
end
end SfG
namespace SfG
open PySem PySem.Spec PyProof.Rows L2
/-! ### a def whose code object is known -/
structure FunC (K : PySem.W.Frag) (x qual : Str) (st : Stmt) (f : Addr) (fd : FuncData) (c : Addr) : Prop where
  ex : ∃ (oc : Value) (od : Option Addr) (kV doc pm : Value) (an : Option Addr) (ct : Value) (osl : Array (Option Value)),
    fd = PySem.W.fnOf x qual (defArgs st) (defBody st) (defScope st) .none kV doc pm an (.ref c) ct ∧
      K.lookup f = some ⟨oc, od, .func fd, osl⟩ ∧ PySem.W.codeIn K (.ref c) qual = true
  kp : PySem.W.keepIn K (.ref f) = true
theorem FunC.fn {K : PySem.W.Frag} {x qual : Str} {st : Stmt} {f c : Addr} {fd : FuncData} (F : FunC K x qual st f fd c) : Fun K x qual st f fd := by
  obtain ⟨oc, od, kV, doc, pm, an, ct, osl, h1, h2, h3⟩ := F.ex
  exact ⟨⟨oc, od, kV, doc, pm, an, .ref c, ct, osl, h1, h2, h3⟩, F.kp⟩
section
variable {P : Program} {w : World} {K : PySem.W.Frag} {mg : Str → Option Value} {base : Heap}
theorem FunC.ok {x qual : Str} {st : Stmt} {f c : Addr} {fd : FuncData} {N ps : List Str} {k : Nat} {sp : Sp}
    (F : FunC K x qual st f fd c) (S : FnScope N ps (defScope st)) (len : ∀ vs H Q E, sp vs H Q E → vs.length = ps.length)
    (hbody : ∀ (A : Around) (outer : List Env) (s : Shared) (H : Hp) (vs : List V) (Q : VK) (E : XK),
      Room k (A.deeper (envOfC qual (defScope st) s.heap.objs.size f (.ref c))) → sp vs H Q E →
      ∃ t, PSs (cxOf CX0 P w K mg base N qual (defScope st) f (.ref c) A outer s H E).nox (defBody st) t ∧
        t { nx := fun _ H' => Q .non H', rt := Q } (start N vs) H) : FnOk P w K mg base CX0 (k + 1) f fd ps sp := by
  obtain ⟨oc, od, kV, doc, pm, an, ct, osl, rfl, lk, hcd⟩ := F.ex
  refine fn_of lk hcd S len ?_
  intro A outer s H vs Q E hr hsp
  obtain ⟨t, h, q⟩ := hbody A outer s H vs Q E hr hsp
  exact ⟨t, h.nox, q⟩
end
/-! ### heaps that grow: what stood stands, tables of code objects may be longer -/
structure Gr (H H' : Hp) : Prop where
  keep : ∀ b o, H b = some o → (∀ ps, o ≠ .tbl ps) → H' b = some o
  tab : ∀ P, GxR.TabG H P → GxR.TabG H' P
  back : ∀ l, H' l = none → H l = none
theorem Gr.refl (H : Hp) : Gr H H := ⟨fun _ _ h _ => h, fun _ h => h, fun _ h => h⟩
theorem Gr.trans {H H1 H2 : Hp} (a : Gr H H1) (b : Gr H1 H2) : Gr H H2 :=
  ⟨fun c o h n => b.keep c o (a.keep c o h n) n, fun P h => b.tab P (a.tab P h), fun l h => a.back l (b.back l h)⟩
theorem Gr.same {H H' : Hp} (e : Same H H') : Gr H H' := by
  refine ⟨fun b o h _ => e b o h, ?_, fun l h => e.free h⟩
  rintro P ⟨ps, h1, h2⟩
  exact ⟨ps, e P _ h1, h2⟩
theorem Gr.new {H : Hp} {p : Addr} {o : HO} (h : H p = none) : Gr H (upd H p o) := by
  refine Gr.same ?_
  intro b x e
  rw [upd_ne (ne_of_none e h)]
  exact e
theorem Gr.tabbed {P : Addr} {H H' : Hp} (t : GxR.TabG H P) (e : GxR.Tabbed P H H') : Gr H H' := by
  refine ⟨?_, ?_, ?_⟩
  · intro b o h n
    refine (e.2 b ?_).trans h
    intro z
    obtain ⟨ps, h1, _⟩ := t
    rw [z, h1] at h
    exact n ps (Option.some.inj h).symm
  · intro P' t'
    by_cases z : P' = P
    · rw [z]
      exact e.1
    · obtain ⟨ps, h1, h2⟩ := t'
      exact ⟨ps, (e.2 P' z).trans h1, h2⟩
  · intro l h
    by_cases z : l = P
    · obtain ⟨ps, h1, _⟩ := e.1
      rw [z, h1] at h
      cases h
    · rw [← e.2 l z]
      exact h
/-- a list that is changed in the heap: all else stays -/
theorem Gr.lst {H H' : Hp} (g : Gr H H') {b : Addr} {xs : List V} (h : H b = some (.lst xs)) : H' b = some (.lst xs) := g.keep b _ h (fun _ z => (by cases z))
theorem Gr.tup {H H' : Hp} (g : Gr H H') {b : Addr} {xs : List V} (h : H b = some (.tup xs)) : H' b = some (.tup xs) := g.keep b _ h (fun _ z => (by cases z))
theorem Gr.dic {H H' : Hp} (g : Gr H H') {b : Addr} {kvs : List (Key × V)} (h : H b = some (.dK kvs)) : H' b = some (.dK kvs) := g.keep b _ h (fun _ z => (by cases z))
theorem Gr.seq {K : PySem.W.Frag} {H H' : Hp} {a : Addr} {xs : List V} (e : Gr H H') (h : SqL K H a xs) : SqL K H' a xs := by
  rcases h with (h | ⟨o, h⟩) | h
  · exact .inl (.inl (e.lst h))
  · exact .inl (.inr ⟨o, e.keep _ _ h (fun _ z => (by cases z))⟩)
  · exact .inr h
/-! ### kinds of things -/
def kinds : List String := ["NoneType", "bool", "int", "str", "list", "tuple", "dict"]
theorem kit_int : ∀ T ∈ kinds, kitB T "int" = some (T == "int" || T == "bool") := by decide +kernel
theorem kit_bool : ∀ T ∈ kinds, kitB T "bool" = some (T == "bool") := by decide +kernel
theorem kit_str : ∀ T ∈ kinds, kitB T "str" = some (T == "str") := by decide +kernel
/-- x is a thing of the built-in type T -/
def Is (K : PySem.W.Frag) (H : Hp) (x : V) (T : String) : Prop := TyX K H x (.type T) ∧ T ∈ kinds
theorem tyx_is {K : PySem.W.Frag} {H : Hp} {x : V} {t : Value} {T : String} (h : TyX K H x t) (e : t = .type T) :
    (T = "int" → ∃ i, x = .int i) ∧ (T = "str" → ∃ z, x = .str z) ∧ (∀ i, x = .int i → T = "int") ∧ (∀ z, x = .str z → T = "str") := by
  cases h with
  | base b =>
    cases b with
    | int i => cases e; exact ⟨fun _ => ⟨i, rfl⟩, fun z => absurd z (by decide), fun _ _ => rfl, fun _ z => (by cases z)⟩
    | str i => cases e; exact ⟨fun z => absurd z (by decide), fun _ => ⟨i, rfl⟩, fun _ z => (by cases z), fun _ _ => rfl⟩
    | ins => cases e
    | _ => cases e; exact ⟨fun z => absurd z (by decide), fun z => absurd z (by decide), fun _ z => (by cases z), fun _ z => (by cases z)⟩
  | _ => cases e; exact ⟨fun z => absurd z (by decide), fun z => absurd z (by decide), fun _ z => (by cases z), fun _ z => (by cases z)⟩
section
variable {K : PySem.W.Frag} {H : Hp} {x : V} {T : String}
theorem Is.whole (h : Is K H x T) (e : T = "int") : ∃ i, x = .int i := (tyx_is h.1 rfl).1 e
theorem Is.text (h : Is K H x T) (e : T = "str") : ∃ z, x = .str z := (tyx_is h.1 rfl).2.1 e
theorem Is.nint (h : Is K H x T) (e : T ≠ "int") : ∀ i, x ≠ .int i := fun i z => e ((tyx_is h.1 rfl).2.2.1 i z)
theorem Is.ntext (h : Is K H x T) (e : T ≠ "str") : ∀ z, x ≠ .str z := fun i z => e ((tyx_is h.1 rfl).2.2.2 i z)
end
theorem is_int {K : PySem.W.Frag} {H : Hp} (i : Int) : Is K H (.int i) "int" := ⟨.base (.int i), by decide⟩
theorem is_str {K : PySem.W.Frag} {H : Hp} (z : Str) : Is K H (.str z) "str" := ⟨.base (.str z), by decide⟩
theorem is_bl {K : PySem.W.Frag} {H : Hp} (b : Bool) : Is K H (.bl b) "bool" := ⟨.base (.bl b), by decide⟩
theorem is_non {K : PySem.W.Frag} {H : Hp} : Is K H .non "NoneType" := ⟨.base .non, by decide⟩
/-! ### isinstance(x, T), x a name, T a built-in class -/
def tIsi (T : String) (K : PySem.W.Frag) (i : Nat) : TE := fun σ H Q => ∃ v, σ[i]? = some (some v) ∧ ∃ (T' : String) (b : Bool), TyX K H v (.type T') ∧ kitB T' T = some b ∧ Q (.bl b) H
theorem pe_isi {X : Cx} {x nm : Str} {p p1 p2 pos : Pos} (T : String) (i : Nat) (mi : X.mg "isinstance" = none) (mT : X.mg nm = none)
    (hv : bootBuiltins nm = some (.type T)) (hN : X.N[i]? = some x := by rfl) (hvis : Vis X.env.scope x := by first | exact Or.inl rfl | exact Or.inr (Or.inl rfl) | exact Or.inr (Or.inr rfl))
    (hg : Gl X "isinstance" := by rfl) (hgT : Gl X nm := by rfl) (hxd : (x == ("__debug__" : Str)) = false := by decide) (hxc : (x == ("__classdict__" : Str)) = false := by decide)
    (hn : nm ≠ "__name__" := by decide) (hd : (nm == ("__debug__" : Str)) = false := by decide) :
    PE X (.Call (.Name "isinstance" p) [.Name x p1, .Name nm p2] [] pos) (tIsi T X.K i) := by
  have h := pe_callB (p := p) (pos := pos) call_isi hg mi (show bootBuiltins "isinstance" = some (.builtin "isinstance") by decide +kernel)
    (pa_cons (pe_var (pos := p1) hN hvis hxd hxc) (pa_cons (pe_bltn (v := .ty T) (pos := p2) hgT mT hv rfl hn hd) pa_nil))
  constructor
  intro pins s σ H Q I hq
  refine h.run pins s σ H Q I ?_
  obtain ⟨v, hs, T', b, h1, h2, h3⟩ := hq
  exact ⟨v, hs, v, .ty T, .type T', .type T, b, rfl, .ty T, h1, kit_ty h2, h3⟩
end SfG
namespace SfG
open PySem PySem.Spec PyProof.Rows L2
/-! ### the end of a law whose defs have tables -/
/-- the top's defs and their tables, still empty -/
def TabsOf (q : Program) (mg : Str → Option Value) (h : Heap) : Prop := ∀ d ∈ recsOf q, ∃ a o fd c P,
  mg d.name = some (.ref a) ∧ h.get? a = some o ∧ o.data = .func fd ∧ fd.code = .ref c ∧ h.IsCode c P #[] ∧ h.TableAt c P #[]
theorem tab_of {q : Program} {mg : Str → Option Value} {h : Heap} {K : PySem.W.Frag} {nm x qual : Str} {st : Stmt} {f c P : Addr} {fd : FuncData}
    {e : Value} {dd : Option Addr} {vs : Array Value} {sl : Array (Option Value)} (T : TabsOf q mg h) (hrec : ((recsOf q).any fun d => d.name == nm) = true)
    (g : mg nm = some (.ref f)) (KX : K.In h) (F : FunC K x qual st f fd c) (kc : K.lookup c = some ⟨e, dd, .fields vs, sl⟩) (kp : vs[11]? = some (.ref P)) :
    h.get? P = some { cls := .none, data := .fields #[] } ∧ PySem.W.CodeHd h c P := by
  obtain ⟨d, hm, hn⟩ := List.any_eq_true.mp hrec
  have hn2 : d.name = nm := beq_iff_eq.mp hn
  obtain ⟨a, o, fd', c', P', h1, h2, h3, h4, h5, h6⟩ := T d hm
  rw [hn2, g] at h1
  cases h1
  obtain ⟨oc, od, kV, doc, pm, an, ct, osl, rfl, lk, hcd⟩ := F.ex
  rw [KX _ _ lk] at h2
  cases h2
  cases h3
  have ec : c = c' := by
    have z : Value.ref c = Value.ref c' := h4
    cases z
    rfl
  subst ec
  obtain ⟨⟨o1, v1, a1, a2, a3, a4⟩, hP⟩ := h6
  have ek := KX _ _ kc
  rw [ek] at a1
  cases a1
  cases a3
  rw [kp] at a4
  cases a4
  obtain ⟨o2, v2, file, tf, flags, tg, inF, text, tt, op, b1, b2, b3, b4, b5, b6, b7, b8, b9, b10, b11⟩ := h5
  rw [ek] at b1
  cases b1
  cases b2
  exact ⟨hP, _, _, file, tf, flags, tg, inF, text, tt, ek, a2, rfl, kp, b3, b4, b5, b6, b7, b11⟩
/-- what is known of the law's promise at the head's heap h -/
def LawG (l : PySem.W.OpenLaw) (w : World) (K : PySem.W.Frag) (CX : CXT) (k n : Nat) (x : Str) (mg : Str → Option Value) (fa : Addr) (h : Heap) : Prop :=
  ∃ (fd : FuncData) (cs : List (Addr × Addr)) (sp : Sp), (∀ p ∈ cs, h.get? p.2 = some { cls := .none, data := .fields #[] }) ∧ (∀ p ∈ cs, K.lookup p.2 = none) ∧
    (∀ p ∈ cs, PySem.W.CodeHd h p.1 p.2) ∧ (∀ (s : Shared) (u : Value), BindsTo s fd ⟨[u], []⟩ [(x, u)]) ∧
    (∀ (H : Hp) (a : Addr) (ns : List Int), ns.length ≤ n → (∀ p ∈ cs, H p.2 = some (.tbl #[])) → SqL K H a (ns.map V.int) → sp [.ref a] H (fun v _ => v = .bl true) fun _ _ _ => False) ∧
    ∀ base : Heap, K.In base → base.Ns mainGlobals mg → (∀ p ∈ cs, GxR.TabB base mg p.1 p.2) → FnG l.prog w K mg base CX k fa fd [x] sp
theorem walk_G {l : PySem.W.OpenLaw} {n k : Nat} {q : Program} {loose : List Str} {XP : (Str → Option Value) → Heap → Prop} {YP : World → Heap → Prop} {d : DefRec}
    {K : Params → PySem.W.Frag} {CX : World → CXT} {x : Str} (hn : l.most = some n) (hn2 : n ≤ sizeLine) (hdf : d.params.defaults = []) (hr : Room k callerA)
    (hY : ∀ (w : World) (h : Heap), YP w h → (K w.params).In h)
    (F : ∀ (w : World) (mg : Str → Option Value) (fa : Addr) (h : Heap), (K w.params).In h → h.Ns mainGlobals mg → mg d.name = some (.ref fa) → TabsOf q mg h →
      LawG l w (K w.params) (CX w) k n x mg fa h)
    (hCX : ∀ (w : World) (H : Hp) (s : Shared) (e : Value) (s' : Shared), CX w [] H s (fun _ _ _ => False) e s' → False) :
    PySem.W.WalkO q loose XP YP l.row.toRowW d [] (fun f vs => PySem.call f vs) := by
  refine Att.attach_callB hn hdf ?_
  intro w s0 s1 mg mb fa o pm cd doc a vs ns G Y ho hd hcd hmg hobj hints hlen hbits hg
  have KX := hY w _ Y
  obtain ⟨fd, cs, sp, hT, nT, C, hb, hsp, hF⟩ := F w mg fa _ KX G.T.g hmg G.T.tab
  have S : Stands (K w.params) mg mb cs s1 a vs := ⟨KX, G.T.g, G.T.b, G.T.builtins, G.T.nolimit, hg, hT, nT, C, G.T.bmain, hobj⟩
  exact end_call S hints (Nat.le_trans hlen hn2) hr hF hb (fun H hH hS => hsp H a ns hlen hH hS) fun H e s' => hCX w H s1 e s'
end SfG
namespace SfG
open PySem PySem.Spec PyProof.Rows L2
/-- all but p as it was -/
def But (p : Addr) (H H' : Hp) : Prop := ∀ b, b ≠ p → H' b = H b
theorem But.upd {p : Addr} {H H' : Hp} {o : HO} (h : But p H H') : But p H (upd H' p o) := fun b n => (upd_ne n).trans (h b n)
theorem Gr.upd_new {H0 H : Hp} {p : Addr} {o : HO} (g : Gr H0 H) (h : H0 p = none) : Gr H0 (upd H p o) := by
  refine ⟨?_, ?_, ?_⟩
  · intro b u e n
    rw [upd_ne (ne_of_none e h)]
    exact g.keep b u e n
  · intro P t
    have np : P ≠ p := by
      obtain ⟨ps, h1, _⟩ := t
      exact ne_of_none h1 h
    obtain ⟨ps, h1, h2⟩ := g.tab P t
    exact ⟨ps, (upd_ne np).trans h1, h2⟩
  · intro l e
    by_cases z : l = p
    · rw [z]
      exact h
    · rw [upd_ne z] at e
      exact g.back l e
/-! ### heaps in a turn: the draw's state at p is changed, all else grows -/
structure Gp (p : Addr) (H H' : Hp) : Prop where
  keep : ∀ b o, b ≠ p → H b = some o → (∀ ps, o ≠ .tbl ps) → H' b = some o
  tab : ∀ P, P ≠ p → GxR.TabG H P → GxR.TabG H' P
  back : ∀ l, l ≠ p → H' l = none → H l = none
theorem Gp.refl (p : Addr) (H : Hp) : Gp p H H := ⟨fun _ _ _ h _ => h, fun _ _ h => h, fun _ _ h => h⟩
theorem Gp.gr {p : Addr} {H H' : Hp} (g : Gr H H') : Gp p H H' := ⟨fun b o _ => g.keep b o, fun P _ => g.tab P, fun l _ => g.back l⟩
theorem Gp.but {p : Addr} {H H' : Hp} (g : But p H H') : Gp p H H' := by
  refine ⟨fun b o n h _ => (g b n).trans h, ?_, fun l n h => (g l n).symm.trans h⟩
  rintro P n ⟨ps, h1, h2⟩
  exact ⟨ps, (g P n).trans h1, h2⟩
theorem Gp.trans {p : Addr} {H H1 H2 : Hp} (a : Gp p H H1) (b : Gp p H1 H2) : Gp p H H2 :=
  ⟨fun c o n h t => b.keep c o n (a.keep c o n h t) t, fun P n h => b.tab P n (a.tab P n h), fun l n h => a.back l n (b.back l n h)⟩
/-- what was there ahead of p grows -/
theorem Gp.out {p : Addr} {H0 H H' : Hp} (g : Gr H0 H) (h : H0 p = none) (a : Gp p H H') : Gr H0 H' := by
  refine ⟨?_, ?_, ?_⟩
  · intro b o e t
    exact a.keep b o (ne_of_none e h) (g.keep b o e t) t
  · intro P t
    have n : P ≠ p := by
      obtain ⟨ps, h1, _⟩ := t
      exact ne_of_none h1 h
    exact a.tab P n (g.tab P t)
  · intro l e
    by_cases z : l = p
    · rw [z]
      exact h
    · exact g.back l (a.back l z e)
theorem Gp.lst {p : Addr} {H H' : Hp} (g : Gp p H H') {b : Addr} {xs : List V} (n : b ≠ p) (h : H b = some (.lst xs)) : H' b = some (.lst xs) := g.keep b _ n h (fun _ z => by cases z)
theorem Gp.upd_new {p q : Addr} {H0 H : Hp} {o : HO} (g : Gp p H0 H) (h : H0 q = none) : Gp p H0 (upd H q o) := by
  refine ⟨?_, ?_, ?_⟩
  · intro b u nb e n
    rw [upd_ne (ne_of_none e h)]
    exact g.keep b u nb e n
  · intro P nP t
    have np : P ≠ q := by
      obtain ⟨ps, h1, _⟩ := t
      exact ne_of_none h1 h
    obtain ⟨ps, h1, h2⟩ := g.tab P nP t
    exact ⟨ps, (upd_ne np).trans h1, h2⟩
  · intro l nl e
    by_cases z : l = q
    · rw [z]
      exact h
    · rw [upd_ne z] at e
      exact g.back l nl e
/-- a def that is called: where it stands, how it is bound, what it promises -/
structure Has (P : Program) (w : World) (K : PySem.W.Frag) (mg : Str → Option Value) (base : Heap) (k : Nat) (x : Str) (ps : List Str) (sp : Sp) (f : Addr) (fd : FuncData) : Prop where
  ok : FnOk P w K mg base CX0 k f fd ps sp
  at_ : mg x = some (.ref f)
  kp : PySem.W.keepIn K (.ref f) = true
  bd : Binds K fd ps []
theorem hcall {X : Cx} {k : Nat} {x : Str} {ps : List Str} {sp : Sp} {f : Addr} {fd : FuncData} {e : Expr} {es : List Expr} {t : TA} {p pos : Pos} (h : Has X.prog X.w X.K X.mg X.base k x ps sp f fd) (hr : Room k X.A) (ha : PA X (e :: es) t)
    (hg : Gl X x := by rfl) (hdb : (x == ("__debug__" : Str)) = false := by decide) (he : starEach (e :: es) X.env = (false, eval e X.env) :: starEach es X.env := by rfl)
    (hpl : (backTo pos (starEach es X.env)).any (·.1) = false := by rfl) : PE X (.Call (.Name x p) (e :: es) [] pos) (tCall sp [] E0 t) :=
  pe_call h.ok hr hg h.at_ h.kp h.bd .nil pass0 ha hdb he hpl
/-! ### data that stays -/
theorem Gr.sqt {K : PySem.W.Frag} {H H' : Hp} {a : Addr} {xs : List V} (e : Gr H H') (h : SqT K H a xs) : SqT K H' a xs := by
  rcases h with (h | ⟨o, h⟩) | h
  · exact .inl (.inl (e.tup h))
  · exact .inl (.inr ⟨o, e.keep _ _ h (fun _ z => by cases z)⟩)
  · exact .inr h
theorem Gp.sqt {K : PySem.W.Frag} {p : Addr} {H H' : Hp} {a : Addr} {xs : List V} {kv : List (Key × V)} (e : Gp p H H') (hp : H p = some (.dK kv)) (h : SqT K H a xs) : SqT K H' a xs := by
  rcases h with (h | ⟨o, h⟩) | h
  · refine .inl (.inl (e.keep a _ (fun z => ?_) h (fun _ z => by cases z)))
    rw [z, hp] at h
    cases h
  · refine .inl (.inr ⟨o, e.keep a _ (fun z => ?_) h (fun _ z => by cases z)⟩)
    rw [z, hp] at h
    cases h
  · exact .inr h
theorem Gp.sql {K : PySem.W.Frag} {p : Addr} {H H' : Hp} {a : Addr} {xs : List V} {kv : List (Key × V)} (e : Gp p H H') (hp : H p = some (.dK kv)) (h : SqL K H a xs) : SqL K H' a xs := by
  rcases h with (h | ⟨o, h⟩) | h
  · refine .inl (.inl (e.keep a _ (fun z => ?_) h (fun _ z => by cases z)))
    rw [z, hp] at h
    cases h
  · refine .inl (.inr ⟨o, e.keep a _ (fun z => ?_) h (fun _ z => by cases z)⟩)
    rw [z, hp] at h
    cases h
  · exact .inr h
/-- what keeps all lists and tuples keeps data -/
structure Kd (K : PySem.W.Frag) (H H' : Hp) : Prop where
  l : ∀ {a xs}, SqL K H a xs → SqL K H' a xs
  t : ∀ {a xs}, SqT K H a xs → SqT K H' a xs
theorem Gr.kd {K : PySem.W.Frag} {H H' : Hp} (g : Gr H H') : Kd K H H' := ⟨fun h => g.seq h, fun h => g.sqt h⟩
theorem Gp.kd {K : PySem.W.Frag} {p : Addr} {H H' : Hp} {kv : List (Key × V)} (g : Gp p H H') (hp : H p = some (.dK kv)) : Kd K H H' := ⟨fun h => g.sql hp h, fun h => g.sqt hp h⟩
mutual
theorem Kd.dp {K : PySem.W.Frag} {H H' : Hp} (g : Kd K H H') : ∀ {d : PyData} {v : V}, Dp K H v d → Dp K H' v d
  | _, _, .non => .non
  | _, _, .bl b => .bl b
  | _, _, .int i => .int i
  | _, _, .str x => .str x
  | _, _, .lst h hs => .lst (g.l h) (g.dpA hs)
  | _, _, .tup h hs => .tup (g.t h) (g.dpA hs)
theorem Kd.dpA {K : PySem.W.Frag} {H H' : Hp} (g : Kd K H H') : ∀ {ds : List PyData} {vs : List V}, DpAll K H vs ds → DpAll K H' vs ds
  | _, _, .nil => .nil
  | _, _, .cons h hs => .cons (g.dp h) (g.dpA hs)
end
section
variable {K : PySem.W.Frag} {H : Hp} {v : V}
theorem dp_str {z : Str} (h : Dp K H v (.str z)) : v = .str z := by cases h; rfl
theorem dp_int {n : Int} (h : Dp K H v (.int n)) : v = .int n := by cases h; rfl
theorem dp_tup {ds : List PyData} (h : Dp K H v (.tuple ds)) : ∃ p xs, v = .ref p ∧ SqT K H p xs ∧ DpAll K H xs ds := by
  cases h with
  | tup h hs => exact ⟨_, _, rfl, h, hs⟩
theorem dpA_nil {xs : List V} (h : DpAll K H xs []) : xs = [] := by cases h; rfl
theorem dpA_cons {xs : List V} {d : PyData} {ds : List PyData} (h : DpAll K H xs (d :: ds)) : ∃ x r, xs = x :: r ∧ Dp K H x d ∧ DpAll K H r ds := by
  cases h with
  | cons a b => exact ⟨_, _, rfl, a, b⟩
theorem dp_1 {a : PyData} (h : Dp K H v (.tuple [a])) : ∃ p x, v = .ref p ∧ SqT K H p [x] ∧ Dp K H x a := by
  obtain ⟨p, xs, rfl, hp, hs⟩ := dp_tup h
  obtain ⟨x, r, rfl, hx, hs⟩ := dpA_cons hs
  cases dpA_nil hs
  exact ⟨p, x, rfl, hp, hx⟩
theorem dp_2 {a b : PyData} (h : Dp K H v (.tuple [a, b])) : ∃ p x y, v = .ref p ∧ SqT K H p [x, y] ∧ Dp K H x a ∧ Dp K H y b := by
  obtain ⟨p, xs, rfl, hp, hs⟩ := dp_tup h
  obtain ⟨x, r, rfl, hx, hs⟩ := dpA_cons hs
  obtain ⟨y, r, rfl, hy, hs⟩ := dpA_cons hs
  cases dpA_nil hs
  exact ⟨p, x, y, rfl, hp, hx, hy⟩
theorem dp_3 {a b c : PyData} (h : Dp K H v (.tuple [a, b, c])) : ∃ p x y z, v = .ref p ∧ SqT K H p [x, y, z] ∧ Dp K H x a ∧ Dp K H y b ∧ Dp K H z c := by
  obtain ⟨p, xs, rfl, hp, hs⟩ := dp_tup h
  obtain ⟨x, r, rfl, hx, hs⟩ := dpA_cons hs
  obtain ⟨y, r, rfl, hy, hs⟩ := dpA_cons hs
  obtain ⟨z, r, rfl, hz, hs⟩ := dpA_cons hs
  cases dpA_nil hs
  exact ⟨p, x, y, z, rfl, hp, hx, hy, hz⟩
theorem dp_4 {a b c d : PyData} (h : Dp K H v (.tuple [a, b, c, d])) : ∃ p x y z w, v = .ref p ∧ SqT K H p [x, y, z, w] ∧ Dp K H x a ∧ Dp K H y b ∧ Dp K H z c ∧ Dp K H w d := by
  obtain ⟨p, xs, rfl, hp, hs⟩ := dp_tup h
  obtain ⟨x, r, rfl, hx, hs⟩ := dpA_cons hs
  obtain ⟨y, r, rfl, hy, hs⟩ := dpA_cons hs
  obtain ⟨z, r, rfl, hz, hs⟩ := dpA_cons hs
  obtain ⟨u, r, rfl, hu, hs⟩ := dpA_cons hs
  cases dpA_nil hs
  exact ⟨p, x, y, z, u, rfl, hp, hx, hy, hz, hu⟩
/-- the i-th of a tuple of data -/
theorem dpA_get : ∀ {ds : List PyData} {xs : List V} {i : Nat} {d : PyData}, DpAll K H xs ds → ds[i]? = some d → ∃ x, xs[i]? = some x ∧ Dp K H x d
  | [], _, i, d, _, h => by simp at h
  | a :: r, xs, 0, d, hs, h => by
    obtain ⟨x, r', rfl, hx, _⟩ := dpA_cons hs
    have e : a = d := Option.some.inj h
    exact ⟨x, rfl, e ▸ hx⟩
  | a :: r, xs, i + 1, d, hs, h => by
    obtain ⟨x, r', rfl, _, hr⟩ := dpA_cons hs
    obtain ⟨y, hy, hd⟩ := dpA_get hr (show r[i]? = some d from h)
    exact ⟨y, hy, hd⟩
theorem dpA_len : ∀ {ds : List PyData} {xs : List V}, DpAll K H xs ds → xs.length = ds.length
  | [], _, h => by
    rw [dpA_nil h]
    rfl
  | _ :: _, _, h => by
    obtain ⟨x, r, rfl, _, hr⟩ := dpA_cons h
    rw [List.length_cons, List.length_cons, dpA_len hr]
end
end SfG
namespace SfG
open PySem PySem.Spec PyProof.Rows L2
/-! ### d.update(e), two dicts -/
def rDUpd : V → List V → Hp → VK → Prop := fun x vs H Q => ∃ (a b : Addr) (kvs more : List (Key × V)), x = .ref a ∧ vs = [.ref b] ∧ H a = some (.dK kvs) ∧ H b = some (.dK more) ∧ a ≠ b ∧ kvs.length + more.length ≤ 1000 ∧ Q .non (upd H a (.dK (mergeK kvs more)))
theorem mt_dupd {X : Cx} : MtR X "dict.update" rDUpd := by
  intro pins s σ H x vs v us Q I rx rv h
  obtain ⟨a, b, kvs, more, rfl, rfl, ea, eb, ne, hz, q⟩ := h
  cases (show v = Value.ref a from rx)
  obtain ⟨u, rfl, ru⟩ := vals1 rv
  cases (show u = Value.ref b from ru)
  obtain ⟨za, ha, va, ra, da⟩ := dk_of I.hok ea
  obtain ⟨zb, hb, vb, rb, db⟩ := dk_of I.hok eb
  have sz : va.length + vb.length ≤ sizeLine := by
    rw [← ra.length, ← rb.length]
    exact Nat.le_of_lt (small1000 hz)
  refine call_meetsIn PySem.F.slot_dict_update da.typeIs PySem.F.entry_dict_update (PySem.F.args_dict_update_2 _ _) (meets_dict_update (mixKind X.prog X.w) a b ne hb) ⟨va, vb, da, db, sz, fun h' dd' _ hs => ?_⟩
  have he : ∃ o, h'.get? a = some o := by
    obtain ⟨o, _, _, ho, _⟩ := dd'
    exact ⟨o, ho⟩
  have hm : (mergeK kvs more).length ≤ sizeLine := by
    have := length_mergeK more kvs
    exact Nat.le_of_lt (small1000 (by omega))
  exact ⟨.non, _, d_write (t' := s.toks) I (by rw [ea]; exact True.intro) hs he (dk_new hm ha (rb.merge ra) dd'), rfl, q⟩
/-! ### xs[b], b a truth -/
section
variable {prog : Program} {w : World} {A : Around} {E : Value → Shared → Prop} {s : Shared}
theorem sub_bool {M : Model} {b : Bool} {Q : Option Int → Shared → Prop} (h : Q (some (if b then 1 else 0)) s) : wpAny M A (Builtin.List.listSubscript? (.bool b)) Q E s := by
  unfold Builtin.List.listSubscript?
  refine wpAny_bind (wpAny_specialOf (T := "bool") (show s.TypeIs (.bool b) "bool" from rfl) PySem.F.slot_bool_index.lookup ?_)
  cases b with
  | true =>
    refine wpAny_bind (wpAny_of_eq (a := (1 : Int)) rfl ?_)
    exact wpAny_pure h
  | false =>
    refine wpAny_bind (wpAny_of_eq (a := (0 : Int)) rfl ?_)
    exact wpAny_pure h
theorem get_bool {l : Addr} {items : Array Value} {b : Bool} {x : Value} {Q : Value → Shared → Prop} (hl : s.heap.IsList l items) (hx : items[(if b then 1 else 0)]? = some x) (h : Q x s) :
    wpAny (model prog w) A (getItem (.ref l) (.bool b)) Q E s := by
  obtain ⟨o, ho, hc, ne, hd⟩ := id hl
  unfold getItem
  try with_reducible refine wpAny_holding ?_
  first | refine wpAny_bind (wpAny_pure ?_) | skip
  refine wpAny_bind (wpAny_sequenceKey hl.typeIs (by decide) ?_)
  refine wpAny_bind (wpAny_callSpecial?_slot (name := Str.ofString "__getitem__") hl.typeIs slot_list_getitem (wpAny_call_entry slot_list_getitem hl.typeIs entry_list_getitem ?_ (args_list_getitem _ _)))
  refine wpAny_bind (m := Builtin.List.listSubscript? (.bool b)) (sub_bool ?_)
  cases b with
  | true =>
    show wpAny _ _ ((seqItemAt l 1 >>= fun r => pure (r.map (1, ·))) >>= _) _ _ s
    refine wpAny_bind (wpAny_bind (wpAny_seqItemAt ho hd (wpAny_pure ?_)))
    rw [show items[1]? = some x from hx]
    first
      | exact wpAny_bind (wpAny_pure (wpAny_pure ⟨x, rfl, wpAny_pure h⟩))
      | exact wpAny_pure ⟨x, rfl, wpAny_pure h⟩
  | false =>
    show wpAny _ _ ((seqItemAt l 0 >>= fun r => pure (r.map (0, ·))) >>= _) _ _ s
    refine wpAny_bind (wpAny_bind (wpAny_seqItemAt ho hd (wpAny_pure ?_)))
    rw [show items[0]? = some x from hx]
    first
      | exact wpAny_bind (wpAny_pure (wpAny_pure ⟨x, rfl, wpAny_pure h⟩))
      | exact wpAny_pure ⟨x, rfl, wpAny_pure h⟩
end
def rIxB (K : PySem.W.Frag) : R2 := fun x y H Q => ∃ (p : Addr) (xs : List V) (b : Bool) (v : V), x = .ref p ∧ y = .bl b ∧ SqL K H p xs ∧ xs[(if b then 1 else 0)]? = some v ∧ Q v H
theorem ix_bool {X : Cx} : IxR X (rIxB X.K) := by
  intro value slice pins s σ H x y v u Q I rx ry h hs
  obtain ⟨p, xs, b, z, rfl, rfl, hq, he, q⟩ := h
  cases (show v = Value.ref p from rx)
  cases (show u = Value.bool b from ry)
  obtain ⟨its, r, pl, hz⟩ := I.list hq
  obtain ⟨t, et, rt⟩ := r.get he
  exact subscriptTail_builtinR pl.isList.typeIs PySem.slot_list_getitem.lookup (get_bool (Q := fun r' s' => r' = t ∧ EP X pins σ Q r' s') pl.isList (by simpa using et) ⟨rfl, z, H, I, rt, q⟩) hs
end SfG
namespace SfG
open PySem PySem.Spec PyProof.Rows L2
/-! ### repr of None, of a number, of a list or a tuple -/
def rReprA (K : PySem.W.Frag) : List V → Hp → VK → Prop := fun xs H Q =>
  ∃ (v : V) (d : PyData) (S : Str), xs = [v] ∧ Dp K H v d ∧ (v = .non ∨ (∃ i, v = .int i) ∨ ∃ a, v = .ref a) ∧ d.showable = true ∧ d.hasDict = false ∧
    d.depth ≤ 30 ∧ d.shown = S ∧ S.length ≤ sizeLine ∧ Q (.str S) H
theorem call_reprA {X : Cx} {k : Nat} (hr : Room k X.A) (hgd : X.A.guards = some []) :
    CallR X (.builtin "repr") (rReprA X.K) := by
  intro pins s σ H xs us Q I r h
  obtain ⟨v, d, S, rfl, hd, hv, hs, hn, hdep, rfl, hz, q⟩ := h
  rcases hv with rfl | ⟨i, rfl⟩ | ⟨a, rfl⟩
  · cases hd
    obtain ⟨u, rfl, ru⟩ := vals1 r
    cases ru
    exact PySem.P.repr_of_none ⟨.str _, H, I.tok _, ⟨_, rfl⟩, q⟩
  · cases hd
    obtain ⟨u, rfl, t, rfl⟩ := vals1 r
    exact PySem.P.repr_of_int (by simpa [PyData.showable] using hs) ⟨.str _, H, I.tok _, ⟨_, rfl⟩, q⟩
  · exact call_repr hr hgd pins s σ H _ us Q I r ⟨a, d, _, rfl, hd, hs, hn, hdep, rfl, hz, q⟩
/-! ### what can be shown, and how long that is -/
structure Sh (d : PyData) (L D : Nat) : Prop where
  able : d.showable = true
  nod : d.hasDict = false
  dep : d.depth ≤ D
  len : d.shown.length ≤ L
structure ShA (ds : List PyData) (L D : Nat) : Prop where
  able : PyData.showableAll ds = true
  nod : PyData.hasDictAll ds = false
  dep : PyData.depthAll ds ≤ D
  len : ((PyData.shownAll ds).map (·.length)).sum + 2 * ds.length ≤ L
theorem Sh.mono {d : PyData} {L D L' D' : Nat} (h : Sh d L D) (hL : L ≤ L') (hD : D ≤ D') : Sh d L' D' := ⟨h.able, h.nod, Nat.le_trans h.dep hD, Nat.le_trans h.len hL⟩
theorem ShA.mono {d : List PyData} {L D L' D' : Nat} (h : ShA d L D) (hL : L ≤ L') (hD : D ≤ D') : ShA d L' D' := ⟨h.able, h.nod, Nat.le_trans h.dep hD, Nat.le_trans h.len hL⟩
theorem ShA.nil {D : Nat} : ShA [] 0 D := ⟨rfl, rfl, by simp [PyData.depthAll], by simp [PyData.shownAll]⟩
theorem ShA.cons {d : PyData} {ds : List PyData} {L1 L2 D : Nat} (h : Sh d L1 D) (t : ShA ds L2 D) : ShA (d :: ds) (L1 + 2 + L2) D := by
  refine ⟨?_, ?_, ?_, ?_⟩
  · rw [PyData.showableAll, h.able, t.able]
    rfl
  · rw [PyData.hasDictAll, h.nod, t.nod]
    rfl
  · have h1 := h.dep
    have h2 := t.dep
    simp only [PyData.depthAll]
    omega
  · have h1 := h.len
    have h2 := t.len
    simp only [PyData.shownAll, List.map_cons, List.sum_cons, List.length_cons]
    omega
theorem Sh.tup {ds : List PyData} {L D : Nat} (h : ShA ds L D) : Sh (.tuple ds) (L + 3) (D + 1) := by
  refine ⟨h.able, h.nod, ?_, ?_⟩
  · have h1 := h.dep
    simp only [PyData.depth]
    omega
  · have h1 := h.len
    have h2 := tupleText_len_le (PyData.shownAll ds)
    have h3 := PyData.shownAll_length ds
    simp only [PyData.shown]
    omega
theorem Sh.lst {ds : List PyData} {L D : Nat} (h : ShA ds L D) : Sh (.list ds) (L + 3) (D + 1) := by
  refine ⟨h.able, h.nod, ?_, ?_⟩
  · have h1 := h.dep
    simp only [PyData.depth]
    omega
  · have h1 := h.len
    have h2 := listText_len_le (PyData.shownAll ds)
    have h3 := PyData.shownAll_length ds
    simp only [PyData.shown]
    omega
theorem Sh.non {D : Nat} : Sh .none 4 (D + 1) := ⟨rfl, rfl, by simp [PyData.depth], by decide⟩
theorem Sh.int {i : Int} {k D : Nat} (h : i.natAbs < 2 ^ k) (h0 : 0 < k) (hk : k ≤ 1920) : Sh (.int i) (k + 1) (D + 1) := by
  have hl : i.natAbs.log2 < k := by
    by_cases z : i.natAbs = 0
    · rw [z]
      exact h0
    · exact (Nat.log2_lt z).mpr h
  refine ⟨by simp only [PyData.showable]; exact decide_eq_true (by omega), rfl, by simp [PyData.depth], ?_⟩
  have e := int_text_length_le h0 hl
  show (Str.ofString (toString i)).length ≤ k + 1
  rw [PySem.ofString_length]
  exact e
theorem ShA.ints {k D : Nat} (h0 : 0 < k) (hk : k ≤ 1920) : ∀ {l : List Int}, (∀ x ∈ l, x.natAbs < 2 ^ k) → ShA (l.map PyData.int) (l.length * (k + 3)) (D + 1)
  | [], _ => ShA.nil.mono (by omega) (Nat.le_refl _)
  | a :: r, h => by
    have h1 := ShA.cons (Sh.int (h a List.mem_cons_self) h0 hk) (ShA.ints (D := D) h0 hk (l := r) fun x hx => h x (List.mem_cons_of_mem _ hx))
    refine h1.mono ?_ (Nat.le_refl _)
    rw [List.length_cons, Nat.succ_mul]
    omega
theorem Sh.fits {d : PyData} {L D : Nat} (h : Sh d L D) (hL : L ≤ 10000000) : d.shown.length ≤ sizeLine := by
  rw [sizeLine_eq]
  have := h.len
  omega
end SfG
namespace SfG
open PySem PySem.Spec PyProof.Rows L2
/-! ### x is not True, x is not False, x a whole number or a truth -/
def rNotBx : R2 := fun x y H Q => ∃ b : Bool, y = .bl b ∧ ((∃ a : Bool, x = .bl a ∧ Q (.bl (!decide (a = b))) H) ∨ ∃ i : Int, x = .int i ∧ Q (.bl true) H)
theorem op_notBx {X : Cx} : OpR X (compareOp .IsNot) rNotBx := by
  intro pins s σ H x y v u Q I rx ry h
  obtain ⟨b, rfl, ⟨a, rfl, q⟩ | ⟨i, rfl, q⟩⟩ := h
  · exact op_notBl pins s σ H _ _ v u Q I rx ry ⟨a, b, rfl, rfl, q⟩
  · cases (show u = Value.bool b from ry)
    obtain ⟨t, rfl⟩ := _root_.id rx
    exact wpAny_isNot_other rfl (fun z => by cases z) ⟨.bl true, H, I, rfl, q⟩
theorem tyx_bool {K : PySem.W.Frag} {H : Hp} {x : V} {t : Value} (h : TyX K H x t) (e : t = .type "bool") : ∃ b, x = .bl b := by
  cases h with
  | base b =>
    cases b with
    | bl b => exact ⟨b, rfl⟩
    | ins => cases e
    | _ => exact absurd (Value.type.inj e) (by decide)
  | _ => exact absurd (Value.type.inj e) (by decide)
theorem is_truth {K : PySem.W.Frag} {H : Hp} {x : V} {T : String} (h : Is K H x T) (e : T = "bool") : ∃ b, x = .bl b := tyx_bool h.1 (by rw [e])
end SfG
namespace SfG
open PySem PySem.Spec PyProof.Rows L2
/-! ### the kind of plain data -/
def tyD : PyData → String
  | .none => "NoneType"
  | .bool _ => "bool"
  | .int _ => "int"
  | .str _ => "str"
  | .list _ => "list"
  | .tuple _ => "tuple"
  | .dict _ => "dict"
theorem tyx_tup {K : PySem.W.Frag} {H : Hp} {p : Addr} {xs : List V} (h : SqT K H p xs) : TyX K H (.ref p) (.type "tuple") := by
  rcases h with (h | ⟨o, h⟩) | ⟨o, its, n, h1, h2, _⟩
  · exact .base (.tup h)
  · exact .fTuple h
  · exact .kTuple h1 h2
theorem tyx_lst {K : PySem.W.Frag} {H : Hp} {p : Addr} {xs : List V} (h : SqL K H p xs) : TyX K H (.ref p) (.type "list") := by
  rcases h with (h | ⟨o, h⟩) | ⟨o, its, n, h1, h2, _⟩
  · exact .base (.lst h)
  · exact .base (.frz h)
  · exact .kList h1 h2
theorem dp_is {K : PySem.W.Frag} {H : Hp} {v : V} {d : PyData} (h : Dp K H v d) : Is K H v (tyD d) := by
  cases h with
  | non => exact ⟨.base .non, by decide +kernel⟩
  | bl b => exact ⟨.base (.bl b), by show "bool" ∈ kinds; decide +kernel⟩
  | int i => exact ⟨.base (.int i), by show "int" ∈ kinds; decide +kernel⟩
  | str x => exact ⟨.base (.str x), by show "str" ∈ kinds; decide +kernel⟩
  | lst h _ => exact ⟨tyx_lst h, by show "list" ∈ kinds; decide +kernel⟩
  | tup h _ => exact ⟨tyx_tup h, by show "tuple" ∈ kinds; decide +kernel⟩
theorem kit_tuple : ∀ T ∈ kinds, kitB T "tuple" = some (T == "tuple") := by decide +kernel
def whD : PyData → Bool
  | .int _ => true
  | _ => false
def amD (d : PyData) (lo hi : Int) : Bool := match d with
  | .int i => decide (lo ≤ i) && decide (i ≤ hi)
  | _ => false
def tupD (d : PyData) (lo hi : Int) : Bool := match d with
  | .tuple ds => decide (lo ≤ (ds.length : Int)) && decide ((ds.length : Int) ≤ hi)
  | _ => false
end SfG
/-! data with empty dicts: what is read, shown, compared -/
namespace SfG
open PySem PySem.Spec PyProof.Rows L2
mutual
inductive Dx (K : PySem.W.Frag) (H : Hp) : V → PyData → Prop
  | non : Dx K H .non .none
  | bl (b : Bool) : Dx K H (.bl b) (.bool b)
  | int (i : Int) : Dx K H (.int i) (.int i)
  | str (z : Str) : Dx K H (.str z) (.str z)
  | lst {p : Addr} {l : List V} {ds : List PyData} : SqL K H p l → DxA K H l ds → Dx K H (.ref p) (.list ds)
  | tup {p : Addr} {l : List V} {ds : List PyData} : SqT K H p l → DxA K H l ds → Dx K H (.ref p) (.tuple ds)
  | emp {p : Addr} : H p = some (.dK []) → Dx K H (.ref p) (.dict [])
inductive DxA (K : PySem.W.Frag) (H : Hp) : List V → List PyData → Prop
  | nil : DxA K H [] []
  | cons {v : V} {l : List V} {d : PyData} {ds : List PyData} : Dx K H v d → DxA K H l ds → DxA K H (v :: l) (d :: ds)
end
section
variable {X : Cx} {pins : List (Addr × Obj)} {σ : L2.St} {H : Hp} {s : Shared}
theorem emp_at (I : L2.Inv X pins σ H s) {p : Addr} (h : H p = some (.dK [])) : ∃ o n, s.heap.get? p = some o ∧ o.cls = .type "dict" ∧ o.data = .dict #[] n ∧ (p == sysModules) = false := by
  obtain ⟨_, hsm, vs, r, o, es, ep, e1, e2, e3, e4, e5, _⟩ := dk_of I.hok h
  cases r
  obtain ⟨l⟩ := es
  have e5' : Pairs (mixKind X.prog X.w) l [] := e5
  have e : l = [] := by
    cases l with
    | nil => rfl
    | cons a b => cases e5'
  subst e
  exact ⟨o, ep, e1, e2.1, e3, hsm⟩
mutual
theorem Dx.reads (I : L2.Inv X pins σ H s) : ∀ (d : PyData) (v : V) (u : Value), Dx X.K H v d → RelV v u → ∃ q, Reads s.heap u d q
  | .none, _, _, h, r => by
    cases h
    cases r
    exact ⟨_, .none⟩
  | .bool b, _, _, h, r => by
    cases h
    cases r
    exact ⟨_, .bool b⟩
  | .int i, _, _, h, r => by
    cases h
    obtain ⟨t, rfl⟩ := r
    exact ⟨_, .int i t⟩
  | .str x, _, _, h, r => by
    cases h
    obtain ⟨t, rfl⟩ := r
    exact ⟨_, .str x t⟩
  | .list ds, _, _, h, r => by
    cases h with
    | lst hp hl =>
      cases r
      obtain ⟨us, rv, ⟨o, n, g1, g2, _, g3⟩, _⟩ := I.list hp
      obtain ⟨q, hq⟩ := DxA.reads I ds _ us hl rv
      exact ⟨_, .list g1 g2 g3 hq⟩
  | .tuple ds, _, _, h, r => by
    cases h with
    | tup hp hl =>
      cases r
      obtain ⟨us, rv, ⟨o, g1, g2, n, g3⟩, _⟩ := I.tuple hp
      obtain ⟨q, hq⟩ := DxA.reads I ds _ us hl rv
      exact ⟨_, .tuple g1 g2 g3 hq⟩
  | .dict _, _, _, h, r => by
    cases h with
    | emp hp =>
      cases r
      obtain ⟨o, n, g1, g2, g3, _⟩ := emp_at I hp
      exact ⟨_, .dict g1 g2 g3 ReadsAll.nil ReadsAll.nil⟩
theorem DxA.reads (I : L2.Inv X pins σ H s) : ∀ (ds : List PyData) (l : List V) (us : List Value), DxA X.K H l ds → Vals l us → ∃ q, ReadsAll s.heap us ds q
  | [], _, _, h, r => by
    cases h
    cases r
    exact ⟨_, .nil⟩
  | d :: ds, _, _, h, r => by
    cases h with
    | cons h1 h2 =>
      cases r with
      | cons r1 r2 =>
        obtain ⟨q1, g1⟩ := Dx.reads I d _ _ h1 r1
        obtain ⟨q2, g2⟩ := DxA.reads I ds _ _ h2 r2
        exact ⟨_, .cons g1 g2⟩
end
theorem noRead (h : Heap) (n : Nat) : ReadAtMost h n [] := by
  intro b z
  cases z
theorem text_empty_dict : PyData.shown (.dict []) = dictText [] := rfl
mutual
/-- what is shown of it, at any depth -/
theorem Dx.look (I : L2.Inv X pins σ H s) : ∀ (d : PyData) (v : V) (u : Value), Dx X.K H v d → RelV v u → d.showable = true → d.shown.length ≤ sizeLine →
    ∃ q, ReadAtMost s.heap d.depth q ∧ ReprK X.prog X.w q s.heap d.depth u d.shown
  | .none, _, _, h, r, _, _ => by
    cases h
    cases r
    exact ⟨[], noRead _ _, .of_is ReprIs.none _ _ _⟩
  | .bool b, _, _, h, r, _, _ => by
    cases h
    cases r
    exact ⟨[], noRead _ _, .of_is (ReprIs.bool b) _ _ _⟩
  | .int i, _, _, h, r, hs, _ => by
    cases h
    obtain ⟨t, rfl⟩ := r
    exact ⟨[], noRead _ _, .of_is (ReprIs.int t (of_decide_eq_true hs)) _ _ _⟩
  | .str x, _, _, h, r, _, hz => by
    cases h
    obtain ⟨t, rfl⟩ := r
    exact ⟨[], noRead _ _, .of_is (ReprIs.str x t hz) _ _ _⟩
  | .list ds, v, u, h, r, hs, hz => by
    obtain ⟨q0, rd⟩ := Dx.reads I _ v u h r
    cases h with
    | lst hp hl =>
      cases r
      obtain ⟨us, rv, ⟨o, n, g1, g2, _, g3⟩, _⟩ := I.list hp
      have hz1 : (listText (PyData.shownAll ds)).length ≤ sizeLine := hz
      obtain ⟨q, hq, hk⟩ := DxA.look I ds _ us hl rv hs fun t ht => Nat.le_trans (listText_mem_le ht) hz1
      have hd : (PyData.list ds).depth = PyData.depthAll ds + 1 := by rw [PyData.depth]
      have hn := not_mem_of_deeper rd (by omega) hq
      refine ⟨_ :: q, .cons rd (by omega) hq, ?_⟩
      rw [hd]
      show ReprK _ _ _ _ _ _ (listText (PyData.shownAll ds))
      cases us with
      | nil =>
        have e : PyData.shownAll ds = [] := List.length_eq_zero_iff.mp hk.length_eq
        rw [e]
        exact .listEmpty g1 g2 g3
      | cons a b => exact .list g1 g2 g3 hn (by simpa using hk.length_eq) fun i y e => hk.item i y (by simpa using e)
  | .tuple ds, v, u, h, r, hs, hz => by
    obtain ⟨q0, rd⟩ := Dx.reads I _ v u h r
    cases h with
    | tup hp hl =>
      cases r
      obtain ⟨us, rv, ⟨o, g1, g2, n, g3⟩, _⟩ := I.tuple hp
      have hz1 : (tupleText (PyData.shownAll ds)).length ≤ sizeLine := hz
      obtain ⟨q, hq, hk⟩ := DxA.look I ds _ us hl rv hs fun t ht => Nat.le_trans (tupleText_mem_le ht) hz1
      have hd : (PyData.tuple ds).depth = PyData.depthAll ds + 1 := by rw [PyData.depth]
      have hn := not_mem_of_deeper rd (by omega) hq
      refine ⟨_ :: q, .cons rd (by omega) hq, ?_⟩
      rw [hd]
      exact .tuple g1 g2 g3 hn hk
  | .dict _, v, u, h, r, _, _ => by
    obtain ⟨q0, rd⟩ := Dx.reads I _ v u h r
    cases h with
    | emp hp =>
      cases r
      obtain ⟨o, n, g1, g2, g3, g4⟩ := emp_at I hp
      have hd : (PyData.dict []).depth = 0 + 1 := by decide
      refine ⟨[_], .cons rd (n := 0) (by omega) (noRead _ _), ?_⟩
      rw [hd, text_empty_dict]
      exact .dict g1 g2 g3 g4 (by simp) ReprEntriesK.nil
theorem DxA.look (I : L2.Inv X pins σ H s) : ∀ (ds : List PyData) (l : List V) (us : List Value), DxA X.K H l ds → Vals l us → PyData.showableAll ds = true → (∀ t ∈ PyData.shownAll ds, t.length ≤ sizeLine) →
    ∃ q, ReadAtMost s.heap (PyData.depthAll ds) q ∧ ReprAllK X.prog X.w q s.heap (PyData.depthAll ds) us (PyData.shownAll ds)
  | [], _, _, h, r, _, _ => by
    cases h
    cases r
    exact ⟨[], noRead _ _, ReprAllK.nil⟩
  | d :: ds, _, _, h, r, hs, hz => by
    cases h with
    | cons h1 h2 =>
      cases r with
      | cons r1 r2 =>
        rw [PyData.showableAll, Bool.and_eq_true] at hs
        have hm : d.shown ∈ PyData.shownAll (d :: ds) := by
          rw [PyData.shownAll]
          exact List.mem_cons_self
        obtain ⟨q1, a1, k1⟩ := Dx.look I d _ _ h1 r1 hs.1 (hz _ hm)
        obtain ⟨q2, a2, k2⟩ := DxA.look I ds _ _ h2 r2 hs.2 fun t ht => hz t (by rw [PyData.shownAll]; exact List.mem_cons_of_mem _ ht)
        have m1 : d.depth ≤ PyData.depthAll (d :: ds) := by
          rw [PyData.depthAll]
          omega
        have m2 : PyData.depthAll ds ≤ PyData.depthAll (d :: ds) := by
          rw [PyData.depthAll]
          omega
        refine ⟨q1 ++ q2, (a1.mono m1).append (a2.mono m2), ?_⟩
        rw [PyData.shownAll]
        exact .cons ((k1.more fun b z => List.mem_append_left _ z).level_le m1) (k2.more_le (fun b z => List.mem_append_right _ z) m2)
end
end
/-! ### repr of a list of such data -/
def rReprX (K : PySem.W.Frag) : List V → Hp → VK → Prop := fun xs H Q =>
  ∃ (v : V) (ds : List PyData) (S : Str), xs = [v] ∧ Dx K H v (.list ds) ∧ PyData.showableAll ds = true ∧
    (PyData.list ds).depth ≤ 40 ∧ (PyData.list ds).shown = S ∧ S.length ≤ sizeLine ∧ Q (.str S) H
theorem call_reprX {X : Cx} {k : Nat} (hr : Room k X.A) (hgd : X.A.guards = some []) :
    CallR X (.builtin "repr") (rReprX X.K) := by
  intro pins s σ H xs us Q I r h
  obtain ⟨v, ds, S, rfl, hd, hs, hdep, rfl, hz, q⟩ := h
  obtain ⟨u, rfl, ru⟩ := vals1 r
  obtain ⟨q0, rd⟩ := Dx.reads I _ v u hd ru
  cases hd with
  | lst hp hl =>
    cases ru
    obtain ⟨vs, rv, ⟨o, n, g1, g2, _, g3⟩, _⟩ := I.list hp
    have hz1 : (listText (PyData.shownAll ds)).length ≤ sizeLine := hz
    obtain ⟨q1, hq, hk⟩ := DxA.look I ds _ vs hl rv hs fun t ht => Nat.le_trans (listText_mem_le ht) hz1
    have hde : (PyData.list ds).depth = PyData.depthAll ds + 1 := by rw [PyData.depth]
    have hn := not_mem_of_deeper rd (by omega) hq
    have hun := hr.un
    refine call_repr_slot (by omega) ⟨o, g1, g2⟩ F.slot_list_repr.toG ?_
    cases vs with
    | nil =>
      have e0 : PyData.shownAll ds = [] := List.length_eq_zero_iff.mp hk.length_eq
      have e : (PyData.list ds).shown = "[]" := by
        rw [PyData.shown, e0]
        rfl
      rw [e] at q
      exact call_list_repr_empty ⟨o, g1, g2⟩ g1 g3 ⟨_, _, rfl, .str "[]", H, I.tok _, ⟨_, rfl⟩, q⟩
    | cons a b =>
      refine call_list_reprK g1 g2 g3 hn (by simpa using hk.length_eq) (fun i y e => hk.item i y (by simpa using e)) (show X.A.in1.guards = some [] from hgd) (fun b _ => Clear.nil b) ?_ (fun _ _ z => z) (fun h' u' tk hk' => ?_) hz1
      · show X.A.units + 1 + _ < cLine
        omega
      · exact ⟨_, _, rfl, .str _, H, I.kept hk', ⟨_, rfl⟩, q⟩
end SfG
/-! such data: its parts, how it stays, == with a text, with () and [] -/
namespace SfG
open PySem PySem.Spec PyProof.Rows L2
section
variable {K : PySem.W.Frag} {H : Hp} {v : V}
theorem dx_str {z : Str} (h : Dx K H v (.str z)) : v = .str z := by cases h; rfl
theorem dx_int {n : Int} (h : Dx K H v (.int n)) : v = .int n := by cases h; rfl
theorem dx_bool {b : Bool} (h : Dx K H v (.bool b)) : v = .bl b := by cases h; rfl
theorem dx_tup {ds : List PyData} (h : Dx K H v (.tuple ds)) : ∃ p xs, v = .ref p ∧ SqT K H p xs ∧ DxA K H xs ds := by
  cases h with
  | tup h hs => exact ⟨_, _, rfl, h, hs⟩
theorem dx_lst {ds : List PyData} (h : Dx K H v (.list ds)) : ∃ p xs, v = .ref p ∧ SqL K H p xs ∧ DxA K H xs ds := by
  cases h with
  | lst h hs => exact ⟨_, _, rfl, h, hs⟩
theorem dxA_nil {xs : List V} (h : DxA K H xs []) : xs = [] := by cases h; rfl
theorem dxA_cons {xs : List V} {d : PyData} {ds : List PyData} (h : DxA K H xs (d :: ds)) : ∃ x r, xs = x :: r ∧ Dx K H x d ∧ DxA K H r ds := by
  cases h with
  | cons a b => exact ⟨_, _, rfl, a, b⟩
theorem dxA_len : ∀ {ds : List PyData} {xs : List V}, DxA K H xs ds → xs.length = ds.length
  | [], _, h => by
    rw [dxA_nil h]
    rfl
  | _ :: _, _, h => by
    obtain ⟨x, r, rfl, _, hr⟩ := dxA_cons h
    rw [List.length_cons, List.length_cons, dxA_len hr]
theorem dxA_get : ∀ {ds : List PyData} {xs : List V} {i : Nat} {d : PyData}, DxA K H xs ds → ds[i]? = some d → ∃ x, xs[i]? = some x ∧ Dx K H x d
  | [], _, i, d, _, h => by simp at h
  | a :: r, xs, 0, d, hs, h => by
    obtain ⟨x, r', rfl, hx, _⟩ := dxA_cons hs
    have e : a = d := Option.some.inj h
    exact ⟨x, rfl, e ▸ hx⟩
  | a :: r, xs, i + 1, d, hs, h => by
    obtain ⟨x, r', rfl, _, hr⟩ := dxA_cons hs
    obtain ⟨y, hy, hd⟩ := dxA_get hr (show r[i]? = some d from h)
    exact ⟨y, hy, hd⟩
/-- by the item -/
theorem dxA_at : ∀ {ds : List PyData} {xs : List V} {i : Nat} {x : V}, DxA K H xs ds → xs[i]? = some x → ∃ d, ds[i]? = some d ∧ Dx K H x d
  | [], _, i, d, hs, h => by
    rw [dxA_nil hs] at h
    simp at h
  | a :: r, xs, 0, d, hs, h => by
    obtain ⟨x, r', rfl, hx, _⟩ := dxA_cons hs
    have e : x = d := Option.some.inj h
    exact ⟨a, rfl, e ▸ hx⟩
  | a :: r, xs, i + 1, d, hs, h => by
    obtain ⟨x, r', rfl, _, hr⟩ := dxA_cons hs
    obtain ⟨y, hy, hd⟩ := dxA_at hr (show r'[i]? = some d from h)
    exact ⟨y, hy, hd⟩
theorem dxA_take : ∀ {ds : List PyData} {xs : List V} (n : Nat), DxA K H xs ds → DxA K H (xs.take n) (ds.take n)
  | [], _, n, h => by
    rw [dxA_nil h]
    simpa using DxA.nil
  | _ :: _, _, 0, _ => by simpa using DxA.nil
  | _ :: _, _, n + 1, h => by
    obtain ⟨x, r, rfl, hx, hr⟩ := dxA_cons h
    exact .cons hx (dxA_take n hr)
theorem dxA_drop : ∀ {ds : List PyData} {xs : List V} (n : Nat), DxA K H xs ds → DxA K H (xs.drop n) (ds.drop n)
  | [], _, n, h => by
    rw [dxA_nil h]
    simpa using DxA.nil
  | _ :: _, _, 0, h => h
  | _ :: _, _, n + 1, h => by
    obtain ⟨x, r, rfl, hx, hr⟩ := dxA_cons h
    exact dxA_drop n hr
theorem dxA_app : ∀ {ds es : List PyData} {xs ys : List V}, DxA K H xs ds → DxA K H ys es → DxA K H (xs ++ ys) (ds ++ es)
  | [], _, _, _, h, g => by
    rw [dxA_nil h]
    exact g
  | _ :: _, _, _, _, h, g => by
    obtain ⟨x, r, rfl, hx, hr⟩ := dxA_cons h
    exact .cons hx (dxA_app hr g)
theorem dxA_rev : ∀ {ds : List PyData} {xs : List V}, DxA K H xs ds → DxA K H xs.reverse ds.reverse
  | [], _, h => by
    rw [dxA_nil h]
    exact .nil
  | _ :: _, _, h => by
    obtain ⟨x, r, rfl, hx, hr⟩ := dxA_cons h
    rw [List.reverse_cons, List.reverse_cons]
    exact dxA_app (dxA_rev hr) (.cons hx .nil)
mutual
theorem Dp.dx : ∀ {d : PyData} {v : V}, Dp K H v d → Dx K H v d
  | _, _, .non => .non
  | _, _, .bl b => .bl b
  | _, _, .int i => .int i
  | _, _, .str x => .str x
  | _, _, .lst h hs => .lst h (Dp.dxA hs)
  | _, _, .tup h hs => .tup h (Dp.dxA hs)
theorem Dp.dxA : ∀ {ds : List PyData} {vs : List V}, DpAll K H vs ds → DxA K H vs ds
  | _, _, .nil => .nil
  | _, _, .cons h hs => .cons (Dp.dx h) (Dp.dxA hs)
end
end
/-- what keeps lists, tuples and empty dicts keeps such data -/
structure Kx (K : PySem.W.Frag) (H H' : Hp) : Prop where
  kd : Kd K H H'
  e : ∀ {p}, H p = some (.dK []) → H' p = some (.dK [])
theorem Gr.kx {K : PySem.W.Frag} {H H' : Hp} (g : Gr H H') : Kx K H H' := ⟨g.kd, fun h => g.dic h⟩
theorem Gp.kx {K : PySem.W.Frag} {p : Addr} {H H' : Hp} {k : Key × V} {kv : List (Key × V)} (g : Gp p H H') (hp : H p = some (.dK (k :: kv))) : Kx K H H' := by
  refine ⟨g.kd hp, ?_⟩
  intro b h
  refine g.keep b _ ?_ h (fun _ z => by cases z)
  intro z
  rw [z, hp] at h
  cases h
theorem Kx.trans {K : PySem.W.Frag} {H H1 H2 : Hp} (a : Kx K H H1) (b : Kx K H1 H2) : Kx K H H2 := ⟨⟨fun h => b.kd.l (a.kd.l h), fun h => b.kd.t (a.kd.t h)⟩, fun h => b.e (a.e h)⟩
mutual
theorem Kx.dx {K : PySem.W.Frag} {H H' : Hp} (g : Kx K H H') : ∀ {d : PyData} {v : V}, Dx K H v d → Dx K H' v d
  | _, _, .non => .non
  | _, _, .bl b => .bl b
  | _, _, .int i => .int i
  | _, _, .str x => .str x
  | _, _, .lst h hs => .lst (g.kd.l h) (g.dxA hs)
  | _, _, .tup h hs => .tup (g.kd.t h) (g.dxA hs)
  | _, _, .emp h => .emp (g.e h)
theorem Kx.dxA {K : PySem.W.Frag} {H H' : Hp} (g : Kx K H H') : ∀ {ds : List PyData} {vs : List V}, DxA K H vs ds → DxA K H' vs ds
  | _, _, .nil => .nil
  | _, _, .cons h hs => .cons (g.dx h) (g.dxA hs)
end
theorem dx_is {K : PySem.W.Frag} {H : Hp} {v : V} {d : PyData} (h : Dx K H v d) : Is K H v (tyD d) := by
  cases h with
  | non => exact ⟨.base .non, by decide +kernel⟩
  | bl b => exact ⟨.base (.bl b), by show "bool" ∈ kinds; decide +kernel⟩
  | int i => exact ⟨.base (.int i), by show "int" ∈ kinds; decide +kernel⟩
  | str x => exact ⟨.base (.str x), by show "str" ∈ kinds; decide +kernel⟩
  | lst h _ => exact ⟨tyx_lst h, by show "list" ∈ kinds; decide +kernel⟩
  | tup h _ => exact ⟨tyx_tup h, by show "tuple" ∈ kinds; decide +kernel⟩
  | emp h => exact ⟨.base (.dK h), by show "dict" ∈ kinds; decide +kernel⟩
/-! ### == -/
theorem dict_eq_str (l : Addr) (es : Array DictEntry) (n : Nat) (dd : Option Addr) (sl : Array (Option Value)) (b : Str) (u : Tok) :
    Meets (Builtin.«dict.__eq__» ⟨[.ref l, .str b u], []⟩) (fun _ R s => s.heap.get? l = some { cls := .type "dict", dict := dd, data := .dict es n, slots := sl } ∧ R (.ok (.ret .notImplemented)) s) := by
  refine .of_wp fun prog w A R s h => ?_
  obtain ⟨hp, g, d, tk, os⟩ := s
  obtain ⟨hl, h⟩ := h
  have f1 := F.sub_str_dict
  wp_walk using wpAny_loadPart' hl
  exact ⟨_, rfl, h⟩
theorem str_eq_dict (b : Str) (u : Tok) (l : Addr) (es : Array DictEntry) (n : Nat) (dd : Option Addr) (sl : Array (Option Value)) :
    Meets (Builtin.«str.__eq__» ⟨[.str b u, .ref l], []⟩) (fun _ R s => s.heap.get? l = some { cls := .type "dict", dict := dd, data := .dict es n, slots := sl } ∧ R (.ok (.ret .notImplemented)) s) := by
  refine .of_wp fun prog w A R s h => ?_
  obtain ⟨hp, g, d, tk, os⟩ := s
  obtain ⟨hl, h⟩ := h
  wp_walk using wpAny_loadPart' hl, wpAny_load hl
  exact ⟨_, rfl, h⟩
end SfG
namespace SfG
open PySem PySem.Spec PyProof.Rows L2
section
variable {A : Around} {s : Shared}
theorem rc_dict_str {l : Addr} {o : Obj} {es : Array DictEntry} {n : Nat} (b : Str) (u : Tok) (ho : s.heap.get? l = some o) (hc : o.cls = .type "dict") (hd : o.data = .dict es n) (hu : A.units < cLine) :
    SeqAt.RcAt A s (.ref l) (.str b u) false := fun prog w E Q h => by
  obtain ⟨cls, dd, data, sl⟩ := o
  simp only at hc hd
  subst hc hd
  refine SeqAt.rc_eq_decline_or (k := false) ⟨_, ho, rfl⟩ (typeIs_str s b u) (by decide) F.sub_str_dict F.slot_dict_eq F.slot_str_eq_refl ?_ ?_ ?_ (.inr hu) h
  · intro Q' hq
    exact call_meets F.slot_dict_eq ⟨_, ho, rfl⟩ F.entry_dict_eq (F.args_dict_eq_2 _ _) (dict_eq_str l es n dd sl b u) ⟨ho, hq⟩
  · intro Q' hq
    exact call_meets F.slot_str_eq_refl (typeIs_str s b u) F.entry_str_eq (F.args_str_eq_2 _ _) (str_eq_dict b u l es n dd sl) ⟨ho, hq⟩
  · intro Q' hq
    exact wpAny_of_eq (show isSame (.ref l) (.str b u) = pure false from rfl) hq
end
/-- a thing is this text -/
def eqS : PyData → Str → Bool
  | .str a, z => decide (a = z)
  | _, _ => false
def rEqXS (K : PySem.W.Frag) : R2 := fun x y H Q => ∃ (d : PyData) (z : Str), Dx K H x d ∧ y = .str z ∧ Q (.bl (eqS d z)) H
section
variable {X : Cx}
theorem op_eqXS {k : Nat} (hr : Room k X.A) : OpR X (compareOp .Eq) (rEqXS X.K) := by
  intro pins s σ H x y v u Q I rx ry h
  obtain ⟨d, z, hx, rfl, q⟩ := h
  obtain ⟨t, rfl⟩ := ry
  have hu : X.A.units < cLine := by
    have := hr.un
    omega
  have fin : Q (.bl (eqS d z)) H → EP X pins σ Q (.bool (eqS d z)) s := fun q => ⟨.bl _, H, I, rfl, q⟩
  cases hx with
  | non =>
    cases rx
    exact SeqAt.RcAt.none_str z t _ _ _ _ (fin q)
  | bl b =>
    cases rx
    exact SeqAt.RcAt.bool_str b z t _ _ _ _ (fin q)
  | int i =>
    obtain ⟨t', rfl⟩ := rx
    exact SeqAt.RcAt.int_str i t' z t _ _ _ _ (fin q)
  | str a =>
    obtain ⟨t', rfl⟩ := rx
    have e : (a == z) = decide (a = z) := by
      by_cases c : a = z
      · rw [decide_eq_true c, c]
        exact beq_self_eq_true z
      · rw [decide_eq_false c]
        exact beq_eq_false_iff_ne.mpr c
    refine SeqAt.RcAt.str_str a t' z t _ _ _ _ ?_
    rw [e]
    exact fin q
  | lst hp hl =>
    cases rx
    obtain ⟨us, rv, ⟨o, n, g1, g2, _, g3⟩, _⟩ := I.list hp
    exact SeqAt.RcAt.list_str z t ⟨o, g1, g2, n, g3⟩ hu _ _ _ _ (fin q)
  | tup hp hl =>
    cases rx
    obtain ⟨us, rv, ⟨o, g1, g2, n, g3⟩, _⟩ := I.tuple hp
    exact SeqAt.RcAt.tuple_str z t ⟨o, g1, g2, n, g3⟩ hu _ _ _ _ (fin q)
  | emp hp =>
    cases rx
    obtain ⟨o, n, g1, g2, g3, _⟩ := emp_at I hp
    exact rc_dict_str z t g1 g2 g3 hu _ _ _ _ (fin q)
def rEqT0 (K : PySem.W.Frag) : R2 := fun x y H Q => ∃ (p q : Addr) (l : List V), x = .ref p ∧ y = .ref q ∧ SqT K H p l ∧ SqT K H q [] ∧ Q (.bl l.isEmpty) H
theorem op_eqT0 {k : Nat} (hr : Room k X.A) : OpR X (compareOp .Eq) (rEqT0 X.K) := by
  intro pins s σ H x y v u Q I rx ry h
  obtain ⟨p, q, l, rfl, rfl, hp, hq, g⟩ := h
  cases rx
  cases ry
  have hu : X.A.units < cLine := by
    have := hr.un
    omega
  obtain ⟨us, rv, tp, _⟩ := I.tuple hp
  obtain ⟨ws, rw', tq, _⟩ := I.tuple hq
  cases rw'
  refine SeqAt.eq_tupleAt (e := fun _ => true) tp tq hu (fun j h1 h2 => absurd h2 (by simp)) ?_
  have e : ((List.range (min us.toArray.size ([] : List Value).toArray.size)).all (fun _ => true) && us.toArray.size == ([] : List Value).toArray.size) = l.isEmpty := by
    cases rv with
    | nil => rfl
    | cons a b => simp
  rw [e]
  exact ⟨.bl _, H, I, rfl, g⟩
def rEqL0 (K : PySem.W.Frag) : R2 := fun x y H Q => ∃ (p q : Addr) (l : List V), x = .ref p ∧ y = .ref q ∧ SqL K H p l ∧ SqL K H q [] ∧ Q (.bl l.isEmpty) H
theorem op_eqL0 {k : Nat} (hr : Room k X.A) : OpR X (compareOp .Eq) (rEqL0 X.K) := by
  intro pins s σ H x y v u Q I rx ry h
  obtain ⟨p, q, l, rfl, rfl, hp, hq, g⟩ := h
  cases rx
  cases ry
  have hu : X.A.units < cLine := by
    have := hr.un
    omega
  obtain ⟨us, rv, ⟨o, n, a1, a2, _, a3⟩, _⟩ := I.list hp
  obtain ⟨ws, rw', ⟨o2, n2, b1, b2, _, b3⟩, _⟩ := I.list hq
  cases rw'
  cases rv with
  | nil => exact SeqAt.eq_listAt (e := fun _ => true) ⟨o, a1, a2, n, a3⟩ ⟨o2, b1, b2, n2, b3⟩ rfl hu (fun j h1 h2 => absurd h2 (by simp)) ⟨.bl true, H, I, rfl, g⟩
  | cons a b => exact SeqAt.eq_list_lengthsAt ⟨o, a1, a2, n, a3⟩ ⟨o2, b1, b2, n2, b3⟩ (by simp) hu ⟨.bl false, H, I, rfl, g⟩
end
end SfG
/-! i <= x, i < x, x a whole number or a truth -/
namespace SfG
open PySem PySem.Spec PyProof.Rows L2
def b2i (b : Bool) : Int := if b = true then 1 else 0
theorem ge_bool_int (a : Bool) (b : Int) (u : Tok) : Gives (Builtin.«int.__ge__» ⟨[.bool a, .int b u], []⟩) (.val (Value.bool ((fun x1 x2 => decide (x1 ≥ x2)) (if a = true then (1 : Int) else 0) b))) :=
  .of_wp fun M A E s Q h => by obtain ⟨hp, g, d, tk, os⟩ := s; wp_walk; exact ⟨_, rfl, h⟩
theorem gt_bool_int (a : Bool) (b : Int) (u : Tok) : Gives (Builtin.«int.__gt__» ⟨[.bool a, .int b u], []⟩) (.val (Value.bool ((fun x1 x2 => decide (x1 > x2)) (if a = true then (1 : Int) else 0) b))) :=
  .of_wp fun M A E s Q h => by obtain ⟨hp, g, d, tk, os⟩ := s; wp_walk; exact ⟨_, rfl, h⟩
section
variable {X : Cx}
def rLeX : R2 := fun x y H Q => ∃ i : Int, x = .int i ∧ ((∃ j : Int, y = .int j ∧ Q (.bl (decide (i ≤ j))) H) ∨ ∃ b : Bool, y = .bl b ∧ Q (.bl (decide (i ≤ b2i b))) H)
theorem op_leX : OpR X (compareOp .LtE) rLeX := by
  intro pins s σ H x y v u Q I rx ry h
  obtain ⟨i, rfl, ⟨j, rfl, q⟩ | ⟨b, rfl, q⟩⟩ := h
  · exact op_le pins s σ H _ _ v u Q I rx ry ⟨i, j, rfl, rfl, q⟩
  · obtain ⟨t, rfl⟩ := _root_.id rx
    cases (show u = Value.bool b from ry)
    show wpAny _ _ (richCompare .LtE (.int i t) (.bool b)) _ _ s
    exact SeqAt.rc_sub_first_or (typeIs_int s i t) rfl (by decide) F.sub_bool_int F.slot_bool_ge_refl
      (call_gives F.slot_bool_ge_refl rfl F.entry_int_ge (F.args_int_ge_2 _ _) (ge_bool_int b i t) ⟨nofun, ⟨.bl (decide (i ≤ b2i b)), H, I, rfl, q⟩⟩) (.inl rfl)
def rLtX : R2 := fun x y H Q => ∃ i : Int, x = .int i ∧ ((∃ j : Int, y = .int j ∧ Q (.bl (decide (i < j))) H) ∨ ∃ b : Bool, y = .bl b ∧ Q (.bl (decide (i < b2i b))) H)
theorem op_ltX : OpR X (compareOp .Lt) rLtX := by
  intro pins s σ H x y v u Q I rx ry h
  obtain ⟨i, rfl, ⟨j, rfl, q⟩ | ⟨b, rfl, q⟩⟩ := h
  · exact op_lt pins s σ H _ _ v u Q I rx ry ⟨i, j, rfl, rfl, q⟩
  · obtain ⟨t, rfl⟩ := _root_.id rx
    cases (show u = Value.bool b from ry)
    show wpAny _ _ (richCompare .Lt (.int i t) (.bool b)) _ _ s
    exact SeqAt.rc_sub_first_or (typeIs_int s i t) rfl (by decide) F.sub_bool_int F.slot_bool_gt_refl
      (call_gives F.slot_bool_gt_refl rfl F.entry_int_gt (F.args_int_gt_2 _ _) (gt_bool_int b i t) ⟨nofun, ⟨.bl (decide (i < b2i b)), H, I, rfl, q⟩⟩) (.inl rfl)
end
end SfG
/-! a thing in a tuple of texts; truths beside numbers: <, <=, + -/
namespace SfG
open PySem PySem.Spec PyProof.Rows L2
theorem lt_bool_int (a : Bool) (b : Int) (u : Tok) : Gives (Builtin.«int.__lt__» ⟨[.bool a, .int b u], []⟩) (.val (Value.bool ((fun x1 x2 => decide (x1 < x2)) (if a = true then (1 : Int) else 0) b))) :=
  .of_wp fun M A E s Q h => by obtain ⟨hp, g, d, tk, os⟩ := s; wp_walk; exact ⟨_, rfl, h⟩
theorem le_bool_int (a : Bool) (b : Int) (u : Tok) : Gives (Builtin.«int.__le__» ⟨[.bool a, .int b u], []⟩) (.val (Value.bool ((fun x1 x2 => decide (x1 ≤ x2)) (if a = true then (1 : Int) else 0) b))) :=
  .of_wp fun M A E s Q h => by obtain ⟨hp, g, d, tk, os⟩ := s; wp_walk; exact ⟨_, rfl, h⟩
/-- the number that a whole number or a truth is -/
def numV : V → Option Int
  | .int i => some i
  | .bl b => some (b2i b)
  | _ => none
section
variable {X : Cx}
def rYlt : R2 := fun x y H Q => ∃ i j : Int, numV x = some i ∧ y = .int j ∧ Q (.bl (decide (i < j))) H
def rYle : R2 := fun x y H Q => ∃ i j : Int, numV x = some i ∧ y = .int j ∧ Q (.bl (decide (i ≤ j))) H
theorem op_ltY : OpR X (compareOp .Lt) rYlt := by
  intro pins s σ H x y v u Q I rx ry h
  obtain ⟨i, j, hx, rfl, q⟩ := h
  cases x with
  | int i' =>
    cases hx
    exact op_lt pins s σ H _ _ v u Q I rx ry ⟨i, j, rfl, rfl, q⟩
  | bl b =>
    cases hx
    cases (show v = Value.bool b from rx)
    obtain ⟨t, rfl⟩ := _root_.id ry
    show wpAny _ _ (richCompare .Lt (.bool b) (.int j t)) _ _ s
    exact SeqAt.rc_left_or rfl (typeIs_int s j t) (by decide) F.sub_int_bool F.slot_bool_lt
      (call_gives F.slot_bool_lt rfl F.entry_int_lt (F.args_int_lt_2 _ _) (lt_bool_int b j t) ⟨nofun, ⟨.bl (decide (b2i b < j)), H, I, rfl, q⟩⟩) (.inl rfl)
  | _ => cases hx
theorem op_leY : OpR X (compareOp .LtE) rYle := by
  intro pins s σ H x y v u Q I rx ry h
  obtain ⟨i, j, hx, rfl, q⟩ := h
  cases x with
  | int i' =>
    cases hx
    exact op_le pins s σ H _ _ v u Q I rx ry ⟨i, j, rfl, rfl, q⟩
  | bl b =>
    cases hx
    cases (show v = Value.bool b from rx)
    obtain ⟨t, rfl⟩ := _root_.id ry
    show wpAny _ _ (richCompare .LtE (.bool b) (.int j t)) _ _ s
    exact SeqAt.rc_left_or rfl (typeIs_int s j t) (by decide) F.sub_int_bool F.slot_bool_le
      (call_gives F.slot_bool_le rfl F.entry_int_le (F.args_int_le_2 _ _) (le_bool_int b j t) ⟨nofun, ⟨.bl (decide (b2i b ≤ j)), H, I, rfl, q⟩⟩) (.inl rfl)
  | _ => cases hx
/-- i <= x, x a number or a truth -/
def rXL : R2 := fun x y H Q => ∃ i j : Int, x = .int i ∧ numV y = some j ∧ Q (.bl (decide (i ≤ j))) H
theorem op_leN : OpR X (compareOp .LtE) rXL := by
  intro pins s σ H x y v u Q I rx ry h
  obtain ⟨i, j, rfl, hy, q⟩ := h
  refine op_leX pins s σ H _ _ v u Q I rx ry ⟨i, rfl, ?_⟩
  cases y with
  | int j' =>
    cases hy
    exact .inl ⟨j, rfl, q⟩
  | bl b =>
    cases hy
    exact .inr ⟨b, rfl, q⟩
  | _ => cases hy
/-- a thing in a tuple of texts -/
def rInXS (K : PySem.W.Frag) : R2 := fun x y H Q => ∃ (d : PyData) (p : Addr) (zs : List Str), Dp K H x d ∧ y = .ref p ∧ SqT K H p (zs.map V.str) ∧ Q (.bl (zs.any fun z => eqS d z)) H
theorem vals_strs : ∀ {zs : List Str} {its : List Value}, Vals (zs.map V.str) its → ∀ w ∈ its, ∃ z t, z ∈ zs ∧ w = Value.str z t
  | [], _, h, w, hw => by
    cases h
    cases hw
  | z :: zs, _, h, w, hw => by
    cases h with
    | cons r1 r2 =>
      obtain ⟨t, rfl⟩ := r1
      rcases List.mem_cons.mp hw with rfl | hw
      · exact ⟨z, t, List.mem_cons_self, rfl⟩
      · obtain ⟨z', t', h1, h2⟩ := vals_strs r2 w hw
        exact ⟨z', t', List.mem_cons_of_mem _ h1, h2⟩
def eqVS (d : PyData) : Value → Bool
  | .str z _ => eqS d z
  | _ => false
theorem any_strs {d : PyData} : ∀ {zs : List Str} {its : List Value}, Vals (zs.map V.str) its → its.any (eqVS d) = zs.any fun z => eqS d z
  | [], _, h => by
    cases h
    rfl
  | z :: zs, _, h => by
    cases h with
    | cons r1 r2 =>
      obtain ⟨t, rfl⟩ := r1
      rw [List.any_cons, List.any_cons, any_strs r2]
      rfl
theorem op_inXS {k : Nat} (hr : Room k X.A) : OpR X (compareOp .In) (rInXS X.K) := by
  intro pins s σ H x y v u Q I rx ry h
  obtain ⟨d, p, zs, hx, rfl, hp, q⟩ := h
  cases ry
  obtain ⟨its, r, pl, hz⟩ := I.tuple hp
  have hu : X.A.in1.units < cLine := by
    have := hr.un
    show X.A.units + 1 < cLine
    omega
  refine SeqAt.in_tupleAt (eqVS d) pl (fun w hw => ?_) ⟨.bl _, H, I, rfl, ?_⟩
  · obtain ⟨z, t, _, rfl⟩ := vals_strs r w (by simpa using hw)
    show SeqAt.EqAt _ s (.str z t) v (eqS d z)
    cases hx with
    | non =>
      cases rx
      exact SeqAt.EqAt.str_none z t
    | bl b =>
      cases rx
      exact SeqAt.EqAt.str_bool z t b
    | int i =>
      obtain ⟨t', rfl⟩ := rx
      exact SeqAt.EqAt.str_int z t i t'
    | str a =>
      obtain ⟨t', rfl⟩ := rx
      have e : (z == a) = decide (a = z) := by
        by_cases c : a = z
        · rw [decide_eq_true c, c]
          exact beq_self_eq_true z
        · rw [decide_eq_false c]
          exact beq_eq_false_iff_ne.mpr (fun e => c e.symm)
      have := SeqAt.EqAt.str_str (A := X.A.in1) (s := s) z t a t'
      rw [e] at this
      exact this
    | lst hp hl =>
      cases rx
      obtain ⟨us, rv, ⟨o, n, g1, g2, _, g3⟩, _⟩ := I.list hp
      exact SeqAt.EqAt.str_list z t ⟨o, g1, g2, n, g3⟩ hu
    | tup hp hl =>
      cases rx
      obtain ⟨us, rv, ⟨o, g1, g2, n, g3⟩, _⟩ := I.tuple hp
      exact SeqAt.EqAt.str_tuple z t ⟨o, g1, g2, n, g3⟩ hu
  · rw [show its.toArray.any (eqVS d) = its.any (eqVS d) by simp, any_strs r]
    exact q
end
end SfG
namespace SfG
open PySem PySem.Spec PyProof.Rows L2
/-! ### an exception that is held behind its try -/
/-- an exception of the class cls, caught, at a -/
def EkO (cls : Value) (d : Option Addr) (a : Addr) : HO := .ext fun h => ∃ oe : Obj, h.get? a = some oe ∧ Zc cls d oe ∧ ∃ vs, oe.data = .fields vs
section
variable {X : Cx} {pins : List (Addr × Obj)} {σ : L2.St} {H : Hp} {s : Shared}
theorem inv_track {a : Addr} {oe : Obj} {vs : Array Value} {φ : Heap → Prop} (I : L2.Inv X pins σ H s) (ha : s.heap.get? a = some oe) (hd : oe.data = .fields vs) (na : H a = none) (nL : a ≠ X.env.locals)
    (n0 : X.s_0.heap.get? a = none) (np : ∀ p ∈ X.pn ++ pins, p.1 ≠ a) (new : ObjOk X.prog X.w (upd H a (.ext φ)) s.heap a (.ext φ)) : L2.Inv X pins σ (upd H a (.ext φ)) s where
  ok := I.ok
  os := I.os
  bare := I.bare
  base := {
    keep := I.base.keep
    slot := I.base.slot
    free := by
      intro b o e n hx
      rw [upd_ne (by intro z; rw [z, n0] at e; cases e)]
      exact I.base.free b o e n hx
    there := I.base.there
    tups := by
      intro b xs e
      have q := I.base.tups b xs e
      rw [upd_ne (ne_of_none q na)]
      exact q
    frzs := by
      intro b o u e
      have q := I.base.frzs b o u e
      rw [upd_ne (ne_of_none q na)]
      exact q
    tbls := by
      intro b ps e
      obtain ⟨more, q⟩ := I.base.tbls b ps e
      exact ⟨more, by rw [upd_ne (ne_of_none q na)]; exact q⟩ }
  loc := I.loc
  cell := I.cell
  free := by
    rw [upd_ne (Ne.symm nL)]
    exact I.free
  freeC := by
    intro x c e
    rw [upd_ne ?_]
    · exact I.freeC x c e
    · intro z
      obtain ⟨v, o, ho, hc⟩ := I.cell x c e
      rw [z, ha] at ho
      cases ho
      rw [hd] at hc
      cases hc
  pin := by
    intro p hp
    obtain ⟨e, n, rest⟩ := I.pin p hp
    exact ⟨e, by rw [upd_ne (np p hp)]; exact n, rest⟩
  hok := I.hok.laidN (fun _ _ e => e) na new
  len := I.len
end
/-- what the clause wishes: the exception is held behind the suite -/
def wKeep (K : PySem.W.Frag) (c : Value) (i : Nat) (ts : Addr → Value → Option Addr → TS) (Wout : WX) (D : Ends) : WX := fun cls d σ H =>
  ∃ b, PySem.W.exmOne K cls c = some b ∧
    (b = true → ∀ a, H a = none → ts a cls d { nx := fun σ' H' => D.nx (σ'.set i none) (upd H' a (EkO cls d a)), rt := fun _ _ => False, bk := fun _ _ => False, ct := fun _ _ => False } (σ.set i (some (.ref a))) H) ∧
    (b = false → Wout cls d σ H)
section
variable {X : Cx} {x n : Str} {c : Value} {i : Nat} {body more : List Stmt} {st0 : Stmt} {p1 p2 p3 : Pos} {tb : WX → TS} {ts : Addr → Value → Option Addr → TS} {Wout : WX}
theorem ps_try_keep (stk : X.stack = X.env :: X.outer) (frm : X.env.frame = some X.env.locals) (hex : X.ex = []) (hN : X.N.Nodup) (hi : X.N[i]? = some n) (hn : X.env.kindOf n = some .local) (hc : Names X x c) (tk : Takes X Wout)
    (bd : ∀ (W : WX) (pn : List (Addr × Obj)) (xe : Value → Shared → Prop), Takes (X.tr pn xe) W → PassesOwn (model X.prog X.w) X.A X.env xe → PSs (X.tr pn xe) body (tb W))
    (su : ∀ (a : Addr) (oe : Obj) (cls : Value) (d : Option Addr) (pn : List (Addr × Obj)), Zc cls d oe → (∃ vs, oe.data = .fields vs) → PSs (X.suite a ((a, oe) :: pn)) (st0 :: more) (ts a cls d))
    (yes : ∀ D cls d σ H, wKeep X.K c i ts Wout D cls d σ H → PySem.W.exmOne X.K cls c = some true) :
    PS X (.Try body [.ExceptHandler (some (.Name x p1)) (some n) (st0 :: more) p2] [] [] p3) (fun D σ H => tb (wKeep X.K c i ts Wout D) D σ H) := by
  constructor
  intro pins s σ H D I h
  have okX := I.ok
  have frames : X.A.frames = some (X.env :: X.outer) := by
    rw [okX.frames, stk]
  refine wpAny_Try_except ?_
  have B1 := bd (wKeep X.K c i ts Wout D) (X.pn ++ pins)
    (fun e s₁ => wpAny (model X.prog X.w) X.A (noteFrame e X.env)
      (fun _ s₂ => wpAny (model X.prog X.w) X.A (setFlight e none)
        (fun _ s₃ => wpAny (model X.prog X.w) X.A
          (handleBy e X.env [.ExceptHandler (some (.Name x p1)) (some n) (st0 :: more) p2]) (SP X pins D) X.xe s₃) X.xe s₂) X.xe s₁)
    ?caught PassesOwn.looking
  · refine wpAny_mono (B1.run [] s σ H D (I.toTry _) h) ?_ (fun _ _ z => z)
    intro f s1 hs1
    cases f with
    | next =>
      obtain ⟨σ', H', J, q⟩ := hs1
      exact wpAny_execs_nil ⟨σ', H', J.ofTry okX, q⟩
    | ret u =>
      obtain ⟨v, σ', H', J, r, q⟩ := hs1
      exact ⟨v, σ', H', J.ofTry okX, r, q⟩
    | brk =>
      obtain ⟨σ', H', J, q⟩ := hs1
      exact ⟨σ', H', J.ofTry okX, q⟩
    | cont =>
      obtain ⟨σ', H', J, q⟩ := hs1
      exact ⟨σ', H', J.ofTry okX, q⟩
  case caught =>
    intro u s' air
    obtain ⟨a, B, sI, pins', σ', H', cls, d, rfl, J', ground, up, sky, na, os, ag, wish⟩ := air
    have hyes := yes D cls d σ' H' wish
    obtain ⟨b, hb1, hgo, _⟩ := wish
    rw [hyes] at hb1
    cases hb1
    have J : L2.Inv X pins σ' H' sI := J'.ofTry okX
    have skyX : Sky B (X.env :: X.outer) a (Zc cls d) X.env.locals s'.heap := by
      rw [← stk]
      exact sky
    show wpAny (model X.prog X.w) X.A (noteFrame (.ref a) X.env) _ _ _
    refine Sky.land Zc.steady frames frm skyX ?_
    intro h3 fl3 up3
    obtain ⟨oe3, vs3, get3, z3, dat3⟩ := fl3.there
    have noFrame : a ∉ frs (X.env :: X.outer) := by
      intro hm
      obtain ⟨_, o', e', nof⟩ := fl3.2.2.1.mem hm
      rw [get3] at e'
      cases e'
      exact nof _ dat3
    have notL : a ≠ X.env.locals := by
      intro z
      refine noFrame (List.mem_filterMap.mpr ⟨X.env, List.mem_cons_self, ?_⟩)
      rw [frm, z]
    have notF : a ∉ X.fs := by
      intro hm
      obtain ⟨e, he, q⟩ := List.mem_filterMap.mp hm
      exact noFrame (List.mem_filterMap.mpr ⟨e, List.mem_cons_of_mem _ he, q⟩)
    have newI : sI.heap.get? a = none := by
      cases e : sI.heap.get? a with
      | none => rfl
      | some o =>
        have z := ground a o e (by rw [stk]; exact noFrame)
        rw [fl3.2.1] at z
        cases z
    have new0 : X.s_0.heap.get? a = none := by
      cases e : X.s_0.heap.get? a with
      | none => rfl
      | some o =>
        obtain ⟨o', z⟩ := J.base.there a o e (by rw [hex]; exact fun q => nomatch q)
        rw [newI] at z
        cases z
    have notP : ∀ p ∈ X.pn ++ pins, p.1 ≠ a := by
      intro p hp z
      have q := (J.pin p hp).1
      rw [z, newI] at q
      cases q
    have J3 : L2.Inv X pins σ' H' { s' with heap := h3 } := J.landed ground fl3.1 (up.trans up3) os ag
    have S3 := J3.suite get3 dat3 na notL notF
    refine wpAny_handleBy_cons (codeAny_handlers_test ?_) (by intro q; cases q)
    have kindly : PySem.W.Looks (model X.prog X.w) h3 (typeOf (.ref a)) cls := by
      intro A2 Q2 E2 s2 k2 q2
      refine wpAny_typeOf_ref (k2 _ _ get3) ?_
      rw [z3.1]
      exact q2
    have match_ := PySem.W.exm_one (M := model X.prog X.w) J3.kIn kindly hyes
    have named : ∀ {Q2 : Value → Shared → Prop} {E2 : Value → Shared → Prop}, Q2 c { s' with heap := h3 } →
        wpAny (model X.prog X.w) (X.A.mark (some (.ref a))) (eval (.Name x p1) X.env) Q2 E2 { s' with heap := h3 } := by
      intro Q2 E2 q2
      obtain ⟨g1, g2, g3 | ⟨g3, g4, g5⟩⟩ := hc
      · exact ld_glob (X := X.suite a ((a, oe3) :: (X.pn ++ pins))) S3 g1 g3 q2 g2
      · exact ld_blt (X := X.suite a ((a, oe3) :: (X.pn ++ pins))) S3 g1 g3 g4 q2 g5 g2
    refine named (match_.here ?_)
    refine codeAny_handlers_suite_as ?_
    refine HandSPX.lands_againZ fl3 ?_
    intro h4 fl4 up4
    obtain ⟨oe4, vs4, get4, z4, dat4⟩ := fl4.there
    have J4 : L2.Inv X pins σ' H' { s' with heap := h4 } := J.landed ground fl4.1 ((up.trans up3).trans up4) os ag
    have S4 := J4.suite get4 dat4 na notL notF
    refine store_ok (X := X.suite a ((a, oe4) :: (X.pn ++ pins))) (v := .ref a) S4 hN hi (.inl hn) rfl ?_ (.inr hn)
    intro s5 S5
    refine wpAny_mono ((su a oe4 cls d (X.pn ++ pins) z4 ⟨_, dat4⟩).run [] s5 _ H' _ S5 (hgo rfl a na)) ?_ (fun _ _ z => False.elim z)
    intro f s6 hs6
    cases f with
    | next =>
      obtain ⟨σ6, H6, S6, q6⟩ := hs6
      obtain ⟨get6, na6, _⟩ := S6.pin (a, oe4) (List.mem_append_left _ List.mem_cons_self)
      have J6 : L2.Inv X pins σ6 H6 s6 := S6.unsuite okX
      have T6 := inv_track (φ := fun h => ∃ oe : Obj, h.get? a = some oe ∧ Zc cls d oe ∧ ∃ vs, oe.data = .fields vs) J6 get6 dat4 na6 notL new0 notP
        ⟨⟨oe4, get6, z4, _, dat4⟩, ⟨oe4, get6⟩, fun h1 h2 ⟨o, e, r⟩ k => ⟨o, k o e, r⟩⟩
      refine gone_ok T6 hN hi hn ?_
      intro s7 J7
      exact ⟨_, _, J7, q6⟩
    | brk =>
      obtain ⟨σ6, H6, S6, q6⟩ := hs6
      exact q6.elim
    | cont =>
      obtain ⟨σ6, H6, S6, q6⟩ := hs6
      exact q6.elim
    | ret u =>
      obtain ⟨v6, σ6, H6, S6, r6, q6⟩ := hs6
      exact q6.elim
end
/-! ### isinstance of such an exception -/
def rIsK (K : PySem.W.Frag) (D : Addr) : List V → Hp → VK → Prop := fun xs H Q =>
  ∃ (a : Addr) (c : V) (cv : Value) (b : Bool), xs = [.ref a, c] ∧ H a = some (EkO (.ref D) none a) ∧ (∀ u, RelV c u → u = cv) ∧ PySem.W.kitOne K (.ref D) cv = some b ∧ Q (.bl b) H
theorem call_isK {X : Cx} {D : Addr} (C : ExcC X.K D) : CallR X (.builtin "isinstance") (rIsK X.K D) := by
  intro pins s σ H xs us Q I r h
  obtain ⟨a, c, cv, b, rfl, hH, hcv, e, q⟩ := h
  obtain ⟨⟨oe, get, z, vs, dat⟩, _⟩ := I.hok a _ hH
  cases r with
  | cons rx rr =>
    cases rr with
    | cons rt rr =>
      cases rr
      cases rx
      have ec := hcv _ rt
      subst ec
      have J : PySem.W.InstAt s.heap a oe D none := by
        obtain ⟨oc, od, oda, osl⟩ := oe
        obtain ⟨h1, h2⟩ := z
        dsimp only at h1 h2 dat
        subst h1 h2 dat
        exact ⟨get, rfl, rfl, trivial⟩
      refine PySem.W.kia_one (PySem.W.handS_kitx_exc C.hg C.hk C.hs C.hd C.ha C.hn C.ht C.hm) I.kIn J e (fun z => nomatch z) ?_
      intro tk
      exact ⟨.bl b, H, I.kept (t' := tk) fun _ _ z => z, rfl, q⟩
end SfG
namespace SfG
open PySem PySem.Spec PyProof.Rows L2
/-! ### enumerate(t), t a tuple -/
set_option maxHeartbeats 1000000 in
theorem meets_enum1 {v : Value} {o : Obj} {H : Heap → Prop} (B : Begins v o H) :
    Meets (Builtin.«enumerate.__new__» ⟨[.type "enumerate", v], []⟩) (fun _ R s => H s.heap ∧
      R (.ok (.ret (.ref (s.heap.push o).objs.size)))
        { s with heap := (s.heap.push o).push { cls := .type "enumerate", data := .fields #[.none, .bool false, .ref s.heap.objs.size, rawInt 0, .none, .none] } }) :=
  .of_wp fun prog w A R s hh => by
    obtain ⟨hp, g, d, tk, os⟩ := s
    obtain ⟨h1, fin⟩ := hh
    have hsub := sub_enumerate
    have it1 : ∀ {A' : Around} {E : Value → Shared → Prop} {Q : Value → Shared → Prop}, Q (.ref hp.objs.size) ⟨hp.push o, g, d, tk, os⟩ →
        wpAny (model prog w) A' (pyIter v) Q E ⟨hp, g, d, tk, os⟩ := fun q => B.iter prog w _ _ ⟨hp, g, d, tk, os⟩ _ h1 q
    wp_walk using it1
    refine wpAny_stack_any fun st => wpAny_pure ?_
    split
    · rename_i c _ _ _ _ _
      cases (c == Value.type "enumerate") <;> (wp_walk using it1; exact ⟨_, rfl, fin⟩)
    · wp_walk using it1
      exact ⟨_, rfl, fin⟩
section
variable {prog : Program} {w : World} {A : Around} {E : Value → Shared → Prop} {s : Shared}
theorem enum1 {v : Value} {o : Obj} {H : Heap → Prop} {Q : Value → Shared → Prop} (B : Begins v o H) (h1 : H s.heap)
    (h : ∀ h', IsEnum h' (s.heap.objs.size + 1) s.heap.objs.size 0 .none → h'.get? s.heap.objs.size = some o →
      (∀ b u, s.heap.get? b = some u → h'.get? b = some u) → Q (.ref (s.heap.objs.size + 1)) { s with heap := h' }) :
    wpAny (model prog w) A (call (.type "enumerate") [v]) Q E s := by
  refine callType_new F.called_enumerate (by decide) (F.typeCall_enumerate_1 _) (F.newCall_enumerate_1 _) (fun obj => F.args_object_init_2 obj _)
    F.entry_enumerate_new (meets_enum1 B) ⟨h1, ?_⟩
  have sz : (s.heap.push o).objs.size = s.heap.objs.size + 1 := Heap.size_push ..
  show _ ∧ _
  rw [sz]
  have made : IsEnum ((s.heap.push o).push { cls := .type "enumerate", data := .fields #[.none, .bool false, .ref s.heap.objs.size, rawInt 0, .none, .none] })
      (s.heap.objs.size + 1) s.heap.objs.size 0 .none := by
    have z := Heap.get?_push_size (s.heap.push o) (o := { cls := .type "enumerate", data := .fields #[.none, .bool false, .ref s.heap.objs.size, rawInt 0, .none, .none] }) rfl
    rw [sz] at z
    exact z
  refine ⟨⟨_, made, rfl⟩, h _ made (Heap.get?_push_of_some _ (Heap.get?_push_size _ B.free)) ?_⟩
  intro b u x
  exact Heap.get?_push_of_some _ (Heap.get?_push_of_some _ x)
end
/-- the tuple at a as it stands at each turn, each item in a new pair -/
def IteT (K : PySem.W.Frag) (a : Addr) : It :=
  ⟨fun i H => ∃ (xs : List V) (x : V), SqT K H a xs ∧ xs[i]? = some x,
   fun i H v H' => ∃ T x, v = .ref T ∧ H T = none ∧ H' = upd H T (.tup [.int (i : Nat), x]) ∧ ∀ xs, SqT K H a xs → xs[i]? = some x,
   fun i H => ∃ xs : List V, SqT K H a xs ∧ xs.length = i⟩
theorem turn_enumT {P : Program} {w : World} {K : PySem.W.Frag} {elts : List Expr} {kk : Nat} {tpos : Pos} (a e it : Addr) :
    Turn P w K (.Tuple elts kk tpos) (IteT K a) [e, it] e (fun i h => (∃ old, IsEnum h e it ((i : Nat) : Int) old) ∧ h.IsTupleIter it a i ∧ e ≠ it) where
  mem := by simp
  obj := by
    rintro i h ⟨⟨old, he⟩, ⟨o, ho, hc, hd⟩, _⟩ b hb
    have two : b = e ∨ b = it := by simpa using hb
    rcases two with rfl | rfl
    · exact ⟨_, he, fun v q => nomatch q⟩
    · exact ⟨o, ho, fun v q => by rw [hd] at q; cases q⟩
  keep := by
    rintro i h h' ⟨⟨old, he⟩, hi, hne⟩ k
    exact ⟨⟨old, k e (by simp) _ he⟩, hi.at fun o q => k it (by simp) o q, hne⟩
  item := by
    intro X hP hw hK hc i pins s σ H E I hf st hg
    subst hP hw hK
    obtain ⟨⟨old, he⟩, hit, hne⟩ := st
    obtain ⟨xs, x, hq, hx⟩ := hg
    obtain ⟨its, rv, p, hz⟩ := I.tuple hq
    obtain ⟨u, hu, ru⟩ := rv.get hx
    have ea : e ≠ a := by
      intro z
      obtain ⟨o, ho, hcl, _⟩ := p
      rw [← z] at ho
      have q := he
      unfold IsEnum at q
      rw [ho] at q
      have q1 := Option.some.inj q
      rw [q1] at hcl
      exact absurd (Value.type.inj hcl) (by decide)
    have ia : a ≠ it := by
      intro z
      obtain ⟨o, ho, hcl, _⟩ := p
      obtain ⟨o', ho', hcl', _⟩ := hit
      rw [z, ho'] at ho
      cases ho
      rw [hcl'] at hcl
      exact absurd (Value.type.inj hcl) (by decide)
    have D : Draws X.prog X.w X.A.in1 it [it, a] its.toArray.size (fun i v => its.toArray[i]? = some v) (fun i h => h.IsTupleIter it a i ∧ h.IsTuple a its.toArray) :=
      Draws.tuple (show X.A.in1.handled = none from I.ok.hd hc) it a ia its.toArray
    have hlt : i < its.toArray.size := by
      have hl := rv.length
      have hi : i < xs.length := by
        rcases Nat.lt_or_ge i xs.length with h1 | h1
        · exact h1
        · rw [List.getElem?_eq_none h1] at hx
          cases hx
      simp
      omega
    have hel : e < s.heap.objs.size := Heap.lt_size he
    have hil : it < s.heap.objs.size := by
      obtain ⟨_, q, _⟩ := hit
      exact Heap.lt_size q
    refine wpAny_pyNext_enum_itemD D he ⟨hit, p⟩ hlt hne (by simp [hne, ea]) ?_
    intro y h' tk hy ho hst hT hsz hk
    have ey : y = u := by
      have h1 : its.toArray[i]? = some u := by simpa using hu
      have h2 : its.toArray[i]? = some y := hy
      rw [h1] at h2
      exact (Option.some.inj h2).symm
    subst ey
    refine ⟨_, rfl, wpAny_letOwnedTupleGo_enum (s := { s with heap := h', toks := tk + 1 }) ho ?_⟩
    intro h'' he' sb
    have hT2 : h''.get? s.heap.objs.size = some { cls := .type "tuple", data := .seq #[.int i tk, y] } := (sb.2 _ (Nat.ne_of_gt hel)).trans hT
    have new : ObjOk X.prog X.w (upd H s.heap.objs.size (.tup [.int (i : Nat), x])) h'' s.heap.objs.size (.tup [.int (i : Nat), x]) :=
      ⟨by show 2 ≤ sizeLine; decide, [.int i tk, y], .cons ⟨_, rfl⟩ (.cons ru .nil), ⟨_, hT2, rfl, _, rfl⟩⟩
    have I1 : L2.Inv X pins σ (upd H s.heap.objs.size (.tup [.int (i : Nat), x])) { s with heap := h'', toks := tk + 1 } := by
      refine I.turnedNew (ch := [e, it]) ?_ hf (Nat.le_refl _) new
      intro b ob hb q
      exact (sb.2 b (fun z => hb (by simp [z]))).trans (hk b ob (fun z => hb (by simp [z])) (fun z => hb (by simp [z])) q)
    refine ⟨.ref s.heap.objs.size, _, I1, rfl, ⟨_, x, rfl, I.hok.fresh (Nat.le_refl _), rfl, ?_⟩, ⟨⟨y, ?_⟩, hst.1.at fun o q => (sb.2 it (Ne.symm hne)).trans q, hne⟩, ?_⟩
    · intro ys hy'
      rw [I.tuple_inj hy' hq]
      exact hx
    · have e1 : ((i + 1 : Nat) : Int) = (i : Int) + 1 := by omega
      rw [e1]
      exact he'
    · intro b hb
      have hb' : b < s.heap.objs.size := by
        have two : b = e ∨ b = it := by simpa using hb
        rcases two with rfl | rfl
        · exact hel
        · exact hil
      rw [upd_ne (Nat.ne_of_lt hb')]
      exact (hf b hb).1
  done := by
    intro X hP hw hK hc i pins s σ H E I hf st hg
    subst hP hw hK
    obtain ⟨⟨old, he⟩, hit, hne⟩ := st
    obtain ⟨xs, hq, hx⟩ := hg
    obtain ⟨its, rv, p, hz⟩ := I.tuple hq
    have ia : a ≠ it := by
      intro z
      obtain ⟨o, ho, hcl, _⟩ := p
      obtain ⟨o', ho', hcl', _⟩ := hit
      rw [z, ho'] at ho
      cases ho
      rw [hcl'] at hcl
      exact absurd (Value.type.inj hcl) (by decide)
    obtain ⟨f0, f1, f2, f3, f4, f5⟩ := hf it (by simp)
    have hl := rv.length
    have D : Draws X.prog X.w X.A.in1 it [it, a] its.toArray.size (fun i v => its.toArray[i]? = some v) (fun i h => h.IsTupleIter it a i ∧ h.IsTuple a its.toArray) :=
      Draws.tuple (show X.A.in1.handled = none from I.ok.hd hc) it a ia its.toArray
    have ei : its.toArray.size = i := by
      simp
      omega
    rw [← ei] at hit
    exact wpAny_pyNext_enum_endD D he ⟨hit, p⟩ fun h' eb => ⟨rfl, I.turned (t' := s.toks) (fun b o hb q => eb b o hb q) f0 f1 f3 f4 f5⟩
  self := by
    rintro A i s Q E ⟨⟨_, he⟩, _⟩ h
    exact wpAny_pyIter_enum he h
def iEnumT (K : PySem.W.Frag) (ta : TA) : TI := fun σ H R => ta σ H fun vs H1 => ∃ a xs, vs = [.ref a] ∧ SqT K H1 a xs ∧ R (IteT K a) H1
theorem pi_enumT {X : Cx} {e : Expr} {ta : TA} {p pos tpos : Pos} {elts : List Expr} {kk : Nat} (hg : Gl X "enumerate") (hm : X.mg "enumerate" = none) (ha : PA X [e] ta)
    (hs : starEach [e] X.env = [(false, eval e X.env)] := by rfl) : PI X (.Tuple elts kk tpos) (.Call (.Name "enumerate" p) [e] [] pos) (iEnumT X.K ta) := by
  constructor
  intro pins s σ H R I h
  refine Call_ (ld_blt I hg hm boot_enumerate (PyProof.Rows.callWith_type1 (thn (ha.run pos pins s σ H _ I h) ?_) hs rfl))
  rintro us s1 ⟨vs, H1, I1, r1, a, xs, rfl, hq, q⟩
  obtain ⟨u, rfl, ru⟩ := vals1 r1
  cases (show u = Value.ref a from ru)
  obtain ⟨its, rv, p', hz⟩ := I1.tuple hq
  refine enum1 (begins_tuple a its.toArray) p' ?_
  intro h' he hit hk
  refine wpAny_pyIter_enum he ?_
  have I2 : L2.Inv X pins σ H1 { s1 with heap := h' } := I1.kept (t' := s1.toks) hk
  refine ⟨s1.heap.objs.size + 1, [s1.heap.objs.size + 1, s1.heap.objs.size], _, _, H1, rfl, I2, turn_enumT a (s1.heap.objs.size + 1) s1.heap.objs.size,
    ⟨⟨.none, he⟩, ⟨_, hit, rfl, rfl⟩, Nat.succ_ne_self _⟩, ?_, q⟩
  intro b hb
  have two : b = s1.heap.objs.size + 1 ∨ b = s1.heap.objs.size := by simpa using hb
  have hle : s1.heap.objs.size ≤ b := by
    rcases two with z | z
    · rw [z]
      exact Nat.le_succ _
    · rw [z]
      exact Nat.le_refl _
  exact I1.fpOk hle (I1.hok.fresh hle)
theorem walk_enumT {K : PySem.W.Frag} {a : Addr} {xs : List V} : Walk (IteT K a) xs.length (fun H => SqT K H a xs) (YPair (fun i => some (.int (i : Nat))) (fun i => xs[i]?)) := by
  refine ⟨?_, ?_, ?_⟩
  · intro i _ hi q
    exact ⟨xs, xs[i], q, by simp [hi]⟩
  · intro _ q
    exact ⟨xs, q, rfl⟩
  · rintro i H v H' _ q ⟨T, x, h1, h2, h3, h4⟩
    exact ⟨T, .int (i : Nat), x, h1, h2, h3, rfl, h4 xs q⟩
end SfG
/-! dict(enumerate(t)), t a tuple -/
namespace SfG
open PySem PySem.Spec PyProof.Rows L2
section
variable {prog : Program} {w : World} {A : Around} {E : Value → Shared → Prop} {s : Shared}
/-- the next pair of an enumerate over a tuple, where the one ahead is still there -/
theorem ent_held {eA iA tA hA : Addr} {k : Nat} {ys : Array Value} {y z0 : Value} {b : Bool} {oh : Obj} {Q : Option Value → Shared → Prop} (en : IsEnumHeld s.heap eA iA k z0 hA b) (gh : s.heap.get? hA = some oh) (n1 : hA ≠ eA) (n2 : hA ≠ iA) (n3 : eA ≠ iA)
    (gi : s.heap.IsTupleIter iA tA k) (gt : s.heap.IsTuple tA ys) (gy : ys[k]? = some y)
    (fin : ∀ h9, IsEnumHeld h9 eA iA ((k : Int) + 1) z0 hA true → h9.IsTupleIter iA tA (k + 1) → h9.get? s.heap.objs.size = some { cls := .type "tuple", data := .seq #[.int k s.toks, y] } →
      (∀ c u, c ≠ eA → c ≠ iA → s.heap.get? c = some u → h9.get? c = some u) → Q (some (.ref s.heap.objs.size)) { s with heap := h9, toks := s.toks + 1 }) :
    wpAny (model prog w) A (pyNext (.ref eA)) Q E s := by
  have ty : s.TypeIs (.ref eA) "enumerate" := ⟨_, en, rfl⟩
  unfold pyNext
  refine wpAny_bind (wpAny_attempt (wpAny_callSpecial?_slot (name := Str.ofString "__next__") ty F.slot_enumerate_next (wpAny_call_entry F.slot_enumerate_next ty F.entry_enumerate_next ?_ (F.args_enumerate_next_1 _))))
  obtain ⟨h0, g0, d0, t0, o0⟩ := s
  show wpAny _ _ (field (.ref eA) 2 >>= _) _ _ _
  refine wpAny_bind (wpAny_field (x := Value.ref iA) en rfl rfl ?_)
  refine wpAny_bind (wpAny_nextOf_tuple_item gi gt gy fun h1 gi1 sb1 => ?_)
  have en1 : IsEnumHeld h1 eA iA k z0 hA b := (sb1.2 eA n3).trans en
  show wpAny _ _ (field (.ref eA) 3 >>= _) _ _ (⟨h1, g0, d0, t0, o0⟩ : Shared)
  refine wpAny_bind (wpAny_field (x := rawInt k) (s := ⟨h1, g0, d0, t0, o0⟩) en1 rfl rfl ?_)
  show wpAny _ _ (field (.ref eA) 4 >>= _) _ _ (⟨h1, g0, d0, t0, o0⟩ : Shared)
  refine wpAny_bind (wpAny_field (x := Value.none) (s := ⟨h1, g0, d0, t0, o0⟩) en1 rfl rfl ?_)
  show wpAny _ _ (mkInt k >>= _) _ _ (⟨h1, g0, d0, t0, o0⟩ : Shared)
  refine wpAny_bind (wpAny_mkInt ?_)
  show wpAny _ _ (setField (.ref eA) 3 (rawInt ((k : Int) + 1)) >>= _) _ _ (⟨h1, g0, d0, t0 + 1, o0⟩ : Shared)
  refine wpAny_bind (wpAny_setField_rec (s := ⟨h1, g0, d0, t0 + 1, o0⟩) en1 (by simp) fun h2 en2 sb2 => ?_)
  show wpAny _ _ (setField (.ref eA) 4 .none >>= _) _ _ (⟨h2, g0, d0, t0 + 1, o0⟩ : Shared)
  refine wpAny_bind (wpAny_setField_rec (s := ⟨h2, g0, d0, t0 + 1, o0⟩) en2 (by simp) fun h3 en3 sb3 => ?_)
  show wpAny _ _ (newTuple [.int k t0, y] >>= _) _ _ (⟨h3, g0, d0, t0 + 1, o0⟩ : Shared)
  refine wpAny_bind (wpAny_newTuple ?_)
  have size3 : h3.objs.size = h0.objs.size := sb3.1.trans (sb2.1.trans sb1.1)
  have el : eA < h0.objs.size := Heap.lt_size en
  have keep3 : ∀ c u, c ≠ eA → c ≠ iA → h0.get? c = some u → h3.get? c = some u := fun c u c1 c2 q => (sb3.2 c c1).trans ((sb2.2 c c1).trans ((sb1.2 c c2).trans q))
  have gi3 : h3.IsTupleIter iA tA (k + 1) := gi1.at fun u q => (sb3.2 iA (Ne.symm n3)).trans ((sb2.2 iA (Ne.symm n3)).trans q)
  show wpAny _ _ (Builtin.SmallTypes.ownedTupleIsFree (.ref eA) >>= _) _ _ (⟨h3.push _, g0, d0, t0 + 1, o0⟩ : Shared)
  refine wpAny_bind (wpAny_tupleHeld_enum (s := ⟨h3.push _, g0, d0, t0 + 1, o0⟩) (T := hA) (oT := oh) (Heap.get?_push_of_some _ en3) (Heap.get?_push_of_some _ (keep3 hA oh n1 n2 gh)) fun h5 en5 sb5 => ?_)
  simp only [Bool.false_eq_true, if_false]
  refine wpAny_pure ⟨_, rfl, ?_⟩
  have e3 : h3.objs.size ≠ eA := by
    rw [size3]
    exact Nat.ne_of_gt el
  show wpAny _ _ _ _ _ _
  rw [size3] at e3
  refine wpAny_pure ?_
  rw [size3]
  refine fin h5 en5 (gi3.at fun u q => (sb5.2 iA (Ne.symm n3)).trans (Heap.get?_push_of_some _ q)) ?_ fun c u c1 c2 q => (sb5.2 c c1).trans (Heap.get?_push_of_some _ (keep3 c u c1 c2 q))
  refine (sb5.2 _ e3).trans ?_
  rw [← size3]
  exact Heap.get?_push_size _ rfl
/-- its end -/
theorem ent_stop {eA iA tA hA : Addr} {k : Nat} {ys : Array Value} {z0 : Value} {b : Bool} {Q : Option Value → Shared → Prop} (calm : A.handled = none) (en : IsEnumHeld s.heap eA iA k z0 hA b) (gi : s.heap.IsTupleIter iA tA k) (gt : s.heap.IsTuple tA ys) (gy : ys[k]? = none)
    (fin : ∀ h9, Heap.ExtBut iA s.heap h9 → Q none { s with heap := h9 }) : wpAny (model prog w) A (pyNext (.ref eA)) Q E s := by
  have ty : s.TypeIs (.ref eA) "enumerate" := ⟨_, en, rfl⟩
  unfold pyNext
  refine wpAny_bind (wpAny_attempt (wpAny_callSpecial?_slot (name := Str.ofString "__next__") ty F.slot_enumerate_next (wpAny_call_entry F.slot_enumerate_next ty F.entry_enumerate_next ?_ (F.args_enumerate_next_1 _))))
  show wpAny _ _ (field (.ref eA) 2 >>= _) _ _ _
  refine wpAny_bind (wpAny_field (x := Value.ref iA) en rfl rfl ?_)
  refine wpAny_bind (wpAny_nextOf_tuple_end calm gi gt gy fun h9 z eb ⟨oz, gz, cz⟩ => ?_)
  exact wpAny_bind (wpAny_isInstance (T := "StopIteration") (b := true) ⟨oz, gz, cz⟩ isSubtype_stop (wpAny_pure (fin h9 eb)))
end
/-- pairs of an enumerate over a tuple -/
theorem pairs_ent {prog : Program} {w : World} (eA iA tA : Addr) (ne : eA ≠ iA) (n1 : tA ≠ eA) (n2 : tA ≠ iA) (ys : Array Value) :
    PairArg prog w "enumerate" eA [eA, iA, tA] [eA, iA] ys.size (fun k x y => (∃ t, x = Value.int k t) ∧ ys[k]? = some y) (fun h => IsEnum h eA iA 0 .none ∧ h.IsTupleIter iA tA 0 ∧ h.IsTuple tA ys) := by
  have inA : ∀ {c : Addr}, c ∉ [eA, iA] → c ≠ eA ∧ c ≠ iA := fun h => ⟨fun z => h (by simp [z]), fun z => h (by simp [z])⟩
  refine { type := fun s ok => ⟨_, ok.1, rfl⟩, notDict := by decide, keep := ?keep, there := ?there, sub := ?sub, noKeys := ?nk, iter := ?iter }
  case keep => exact fun h h' ok hk => ⟨hk _ _ ok.1, ok.2.1.at fun u q => hk _ u q, ok.2.2.at fun u q => hk _ u q⟩
  case there =>
    rintro h ⟨g1, ⟨u1, g2, _⟩, ⟨u2, g3, _⟩⟩ c hc
    have three : c = eA ∨ c = iA ∨ c = tA := by simpa using hc
    rcases three with rfl | rfl | rfl
    · exact ⟨_, g1⟩
    · exact ⟨u1, g2⟩
    · exact ⟨u2, g3⟩
  case sub =>
    intro c hc
    have two : c = eA ∨ c = iA := by simpa using hc
    rcases two with rfl | rfl <;> simp
  case nk => exact fun A s Q E hA ok h => getAttrOr_miss_enumerate ok.1 rfl rfl rfl enumerate_no_keys (by decide +kernel) hA h
  case iter =>
    intro A s d Q E calm ok hd hdf fin
    obtain ⟨g1, g2, g3⟩ := ok
    have dn : d ≠ eA ∧ d ≠ iA ∧ d ≠ tA := ⟨fun z => hdf (by simp [z]), fun z => hdf (by simp [z]), fun z => hdf (by simp [z])⟩
    have D : Draws prog w A.in1 iA [iA, tA] ys.size (fun k v => ys[k]? = some v) (fun k h => h.IsTupleIter iA tA k ∧ h.IsTuple tA ys) := Draws.tuple (show A.in1.handled = none from calm) iA tA n2 ys
    have D0 : Draws prog w A iA [iA, tA] ys.size (fun k v => ys[k]? = some v) (fun k h => h.IsTupleIter iA tA k ∧ h.IsTuple tA ys) := Draws.tuple calm iA tA n2 ys
    refine wpAny_pyIter_enum g1 ?_
    refine fin eA [eA, iA] (fun k h => h.IsTupleIter iA tA k ∧ h.IsTuple tA ys ∧ ((∃ z0, IsEnum h eA iA k z0) ∨ ∃ z0 hA b oh, IsEnumHeld h eA iA k z0 hA b ∧ h.get? hA = some oh ∧ hA ≠ eA ∧ hA ≠ iA ∧ hA ≠ d)) s.heap s.toks ?src ⟨g2, g3, .inl ⟨_, g1⟩⟩ (fun _ _ q => q) fun c hc => .inl hc
    refine { off := fun z => ?_, frame := ?_, item := ?_, done := ?_ }
    · have two : d = eA ∨ d = iA := by simpa using z
      rcases two with z | z
      · exact dn.1 z
      · exact dn.2.1 z
    · rintro k h h' ⟨f1, f2, f3⟩ hk
      refine ⟨f1.at fun u q => hk _ u (Ne.symm dn.2.1) q, f2.at fun u q => hk _ u (Ne.symm dn.2.2) q, ?_⟩
      rcases f3 with ⟨z0, f3⟩ | ⟨z0, hA, b, oh, f3, f4, m1, m2, m3⟩
      · exact .inl ⟨z0, hk _ _ (Ne.symm dn.1) f3⟩
      · exact .inr ⟨z0, hA, b, oh, hk _ _ (Ne.symm dn.1) f3, hk _ _ m3 f4, m1, m2, m3⟩
    · rintro k s1 Q1 E1 lt ⟨f1, f2, f3⟩ big out
      have gy : ys[k]? = some ys[k] := Array.getElem?_eq_getElem lt
      generalize ys[k] = y at gy
      have up : ((k + 1 : Nat) : Int) = (k : Int) + 1 := by omega
      have iLt : iA < s1.heap.objs.size := by
        obtain ⟨_, q, _⟩ := f1
        exact Heap.lt_size q
      rcases f3 with ⟨z0, f3⟩ | ⟨z0, hA, b, oh, f3, f4, m1, m2, m3⟩
      · refine wpAny_pyNext_enum_itemD D f3 ⟨f1, f2⟩ lt ne (by simp [ne, Ne.symm n1]) fun y' h' tk hy ho hst hT hsz hk => ?_
        exact out s1.heap.objs.size _ _ h' _ ⟨⟨_, rfl⟩, hy⟩ (.inl ⟨_, hT, rfl, _, rfl⟩) ⟨hst.1, hst.2, .inr ⟨_, s1.heap.objs.size, false, _, (by rw [up]; exact ho), hT, Nat.ne_of_gt (Heap.lt_size f3), Nat.ne_of_gt iLt, Nat.ne_of_gt big⟩⟩
          fun c u hc q => hk c u (inA hc).1 (fun z => (inA hc).2 z) q
      · refine ent_held f3 f4 m1 m2 ne f1 f2 gy fun h9 e9 i9 t9 k9 => ?_
        exact out s1.heap.objs.size _ _ h9 _ ⟨⟨_, rfl⟩, gy⟩ (.inl ⟨_, t9, rfl, _, rfl⟩) ⟨i9, f2.at fun u q => k9 _ u n1 n2 q, .inr ⟨z0, hA, true, oh, (by rw [up]; exact e9), k9 _ _ m1 m2 f4, m1, m2, m3⟩⟩
          fun c u hc q => k9 c u (inA hc).1 (inA hc).2 q
    · rintro s1 Q1 E1 ⟨f1, f2, f3⟩ out
      have gy : ys[ys.size]? = none := Array.getElem?_eq_none (Nat.le_refl _)
      rcases f3 with ⟨z0, f3⟩ | ⟨z0, hA, b, oh, f3, f4, m1, m2, m3⟩
      · exact wpAny_pyNext_enum_endD D f3 ⟨f1, f2⟩ fun h9 eb => out h9 s1.toks fun c u hc q => eb c u (inA hc).2 q
      · exact ent_stop calm f3 f1 f2 gy fun h9 eb => out h9 s1.toks fun c u hc q => eb c u (inA hc).2 q
/-- numbers from i on, beside what stands there -/
def numK {α : Type} : List α → Nat → List (Key × α)
  | [], _ => []
  | x :: r, i => (Sum.inl ((i : Nat) : Int), x) :: numK r (i + 1)
theorem numK_len {α : Type} : ∀ (l : List α) (i : Nat), (numK l i).length = l.length
  | [], _ => rfl
  | x :: r, i => by rw [numK, List.length_cons, List.length_cons, numK_len]
theorem numK_at {α : Type} : ∀ {l : List α} {i j : Nat} {x : α}, l[j]? = some x → (numK l i)[j]? = some (Sum.inl ((i + j : Nat) : Int), x)
  | [], _, j, _, h => by simp at h
  | y :: r, i, 0, _, h => by
    cases h
    rfl
  | y :: r, i, j + 1, x, h => by
    have := numK_at (i := i + 1) (show r[j]? = some x from h)
    rw [numK]
    show (numK r (i + 1))[j]? = _
    rw [this, show i + 1 + j = i + (j + 1) by omega]
theorem numK_kv : ∀ {xs : List V} {us : List Value} (i : Nat), Vals xs us → KV (numK xs i) (numK us i)
  | _, _, _, .nil => .nil
  | _, _, i, .cons a t => .cons ⟨rfl, a⟩ (numK_kv (i + 1) t)
/-- dict(enumerate(t)) -/
def tDEnT (K : PySem.W.Frag) (ta : TA) : TE := fun σ H Q => ta σ H fun vs H1 => ∃ a xs, vs = [.ref a] ∧ SqT K H1 a xs ∧ ∀ p, H1 p = none → Q (.ref p) (upd H1 p (.dK (mergeK [] (numK xs 0))))
theorem pe_dEnT {X : Cx} {e : Expr} {ta : TA} {p1 p2 c1 c2 : Pos} (calm : X.calm = true) (gd : Gl X "dict") (md : X.mg "dict" = none) (ge : Gl X "enumerate") (me : X.mg "enumerate" = none) (ha : PA X [e] ta)
    (hs : starEach [e] X.env = [(false, eval e X.env)] := by rfl) (hs2 : starEach [Expr.Call (.Name "enumerate" p1) [e] [] c1] X.env = [(false, eval (.Call (.Name "enumerate" p1) [e] [] c1) X.env)] := by rfl) :
    PE X (.Call (.Name "dict" p2) [.Call (.Name "enumerate" p1) [e] [] c1] [] c2) (tDEnT X.K ta) := by
  constructor
  intro pins s σ H Q I h
  refine Call_ (ld_blt I gd md (show bootBuiltins "dict" = some (.type "dict") by decide +kernel) (PyProof.Rows.callWith_type1 ?_ hs2 rfl))
  rw [hs2]
  refine Calls.spliced_cons ?_
  refine Call_ (ld_blt I ge me boot_enumerate (PyProof.Rows.callWith_type1 (thn (ha.run c1 pins s σ H _ I h) ?_) hs rfl))
  rintro us s1 ⟨vs, H1, I1, r1, a, xs, rfl, hq, q⟩
  obtain ⟨u, rfl, ru⟩ := vals1 r1
  cases (show u = Value.ref a from ru)
  obtain ⟨its, rv, pt, hz⟩ := I1.tuple hq
  refine enum1 (begins_tuple a its.toArray) pt ?_
  intro h2 en it k2
  refine Calls.spliced_nil ?_
  have al : a < s1.heap.objs.size := by
    obtain ⟨_, g, _⟩ := pt
    exact Heap.lt_size g
  have n1 : s1.heap.objs.size + 1 ≠ s1.heap.objs.size := Nat.succ_ne_self _
  have P := pairs_ent (prog := X.prog) (w := X.w) (s1.heap.objs.size + 1) s1.heap.objs.size a n1 (Nat.ne_of_lt (Nat.lt_succ_of_lt al)) (Nat.ne_of_lt al) its.toArray
  have lx := rv.length
  refine PySem.call_dict_pairs (knd := mixKind X.prog X.w) (kvs := numK its 0) P (I1.ok.hd calm) ⟨en, ⟨_, it, rfl, rfl⟩, (id pt : s1.heap.IsTuple a its.toArray).at fun o g => k2 _ _ g⟩ ⟨?_, ?_⟩ ?_ fun h3 tk dd k3 => ?_
  · rw [numK_len]
    simp
  · rintro i key v ⟨⟨t, rfl⟩, hv⟩
    refine ⟨Sum.inl ((i : Nat) : Int), ?_, ?_⟩
    · have := numK_at (i := 0) (j := i) (x := v) (l := its) (by simpa using hv)
      rw [Nat.zero_add] at this
      exact this
    · exact kV_is (P := X.prog) (w := X.w) (k := Sum.inl ((i : Nat) : Int)) ⟨t, rfl⟩
  · simp
    omega
  · have le2 : s1.heap.objs.size ≤ h2.objs.size := by
      exact Nat.le_of_lt (Nat.lt_of_succ_lt (Heap.lt_size en))
    have keep : ∀ b o, s1.heap.get? b = some o → h3.get? b = some o := fun b o g => by
      have bl := Heap.lt_size g
      refine k3 b o (fun z => ?_) (k2 b o g)
      have two : b = s1.heap.objs.size + 1 ∨ b = s1.heap.objs.size := by simpa using z
      rcases two with z | z
      · rw [z] at bl
        exact Nat.lt_irrefl _ (Nat.lt_of_succ_lt bl)
      · rw [z] at bl
        exact Nat.lt_irrefl _ bl
    have hm : (h2.objs.size == sysModules) = false := beq_eq_false_iff_ne.mpr (Nat.ne_of_gt (Nat.lt_of_lt_of_le I1.big le2))
    have hlen : (mergeK [] (numK xs 0)).length ≤ sizeLine := by
      refine Nat.le_trans (length_mergeK _ []) ?_
      rw [List.length_nil, Nat.zero_add, numK_len]
      omega
    exact ⟨.ref h2.objs.size, upd H1 h2.objs.size (.dK (mergeK [] (numK xs 0))), I1.laid (t' := tk) keep le2 (show ObjOk X.prog X.w _ _ _ (.dK (mergeK [] (numK xs 0))) from ⟨hlen, hm, merged [] (numK its 0), KV.merge (numK_kv 0 rv) .nil, dd⟩), rfl, q _ (I1.hok.fresh le2)⟩
end SfG
/-! what stands behind a statement, said once for all the ways to it -/
namespace SfG
open PySem PySem.Spec PyProof.Rows L2
theorem seq_end {t u : TS} {D : Ends} {σ : L2.St} {H : Hp} (Fa : L2.St → Hp → Prop) (hE : ∀ σ S, Fa σ S → u D σ S) (h : (∀ σ S, Fa σ S → u D σ S) → tSeq t u D σ H) : tSeq t u D σ H := h hE
theorem seq_go {t u : TS} {D : Ends} {σ : L2.St} {H : Hp} (h : t { D with nx := u D } σ H) : tSeq t u D σ H := h
theorem gname_go {i : Nat} {v : V} {σ : L2.St} {H : Hp} {Q : L2.St → Hp → Prop} (h : Q (σ.set i (some v)) H) : gName i v σ H Q := h
theorem if_else {tc : TT} {t u : TS} {D : Ends} {σ : L2.St} {H : Hp} (Fa : Hp → Prop) (hE : ∀ S, Fa S → u D σ S) (h : (∀ S, Fa S → u D σ S) → tIfS tc t u D σ H) : tIfS tc t u D σ H := h hE
end SfG
/-! how great data is -/
namespace SfG
open PySem PySem.Spec PyProof.Rows L2
mutual
/-- how long it is when shown, at most -/
def wt : PyData → Nat
  | .none => 5
  | .bool _ => 5
  | .int i => i.natAbs.log2 + 3
  | .str z => 10 * z.length + 2
  | .list ds => wtA ds + 3
  | .tuple ds => wtA ds + 3
  | .dict _ => 2
def wtA : List PyData → Nat
  | [] => 0
  | d :: ds => wt d + 2 + wtA ds
end
mutual
/-- of plain texts, of numbers that can be shown, of empty dicts -/
def okd : PyData → Bool
  | .none => true
  | .bool _ => true
  | .int i => decide (i.natAbs.log2 < 1900)
  | .str z => z.cps.toList.all fun c => decide (c < 128)
  | .list ds => okdA ds
  | .tuple ds => okdA ds
  | .dict kvs => kvs.isEmpty
def okdA : List PyData → Bool
  | [] => true
  | d :: ds => okd d && okdA ds
end
theorem okd_str {z : Str} (h : okd (.str z) = true) : ∀ c ∈ z.cps.toList, c < 128 := by
  rw [okd] at h
  exact fun c hc => of_decide_eq_true (List.all_eq_true.mp h c hc)
mutual
theorem okd_able : ∀ {d : PyData}, okd d = true → d.showable = true
  | .none, _ => rfl
  | .bool _, _ => rfl
  | .int i, h => by
    rw [okd, decide_eq_true_eq] at h
    rw [PyData.showable]
    exact decide_eq_true (by omega)
  | .str z, _ => rfl
  | .list ds, h => by
    rw [okd] at h
    rw [PyData.showable]
    exact okdA_able h
  | .tuple ds, h => by
    rw [okd] at h
    rw [PyData.showable]
    exact okdA_able h
  | .dict [], _ => rfl
  | .dict (_ :: _), h => by
    rw [okd] at h
    cases h
theorem okdA_able : ∀ {ds : List PyData}, okdA ds = true → PyData.showableAll ds = true
  | [], _ => rfl
  | d :: ds, h => by
    rw [okdA, Bool.and_eq_true] at h
    rw [PyData.showableAll, okd_able h.1, okdA_able h.2]
    rfl
end
mutual
theorem okd_len : ∀ {d : PyData}, okd d = true → d.shown.length ≤ wt d
  | .none, _ => by decide
  | .bool true, _ => by decide
  | .bool false, _ => by decide
  | .int i, h => by
    have hl : i.natAbs.log2 < i.natAbs.log2 + 1 := by omega
    have e := int_text_length_le (k := i.natAbs.log2 + 1) (a := i) (by omega) hl
    show (Str.ofString (toString i)).length ≤ _
    rw [PySem.ofString_length, wt]
    omega
  | .str z, h => by
    have h1 := PySem.StrLaws.reprText_len z fun c hc => Nat.lt_of_lt_of_le (okd_str h c hc) (by decide)
    show (reprText z).length ≤ _
    rw [wt]
    omega
  | .list ds, h => by
    rw [okd] at h
    have h1 := okdA_len h
    have h2 := listText_len_le (PyData.shownAll ds)
    have h3 := PyData.shownAll_length ds
    rw [PyData.shown, wt]
    omega
  | .tuple ds, h => by
    rw [okd] at h
    have h1 := okdA_len h
    have h2 := tupleText_len_le (PyData.shownAll ds)
    have h3 := PyData.shownAll_length ds
    rw [PyData.shown, wt]
    omega
  | .dict [], _ => by decide
  | .dict (_ :: _), h => by
    rw [okd] at h
    cases h
theorem okdA_len : ∀ {ds : List PyData}, okdA ds = true → ((PyData.shownAll ds).map (·.length)).sum + 2 * ds.length ≤ wtA ds
  | [], _ => by decide
  | d :: ds, h => by
    rw [okdA, Bool.and_eq_true] at h
    have h1 := okd_len h.1
    have h2 := okdA_len h.2
    rw [PyData.shownAll, List.map_cons, List.sum_cons, List.length_cons, wtA]
    omega
end
/-! ### parts -/
theorem okdA_app : ∀ {a b : List PyData}, okdA (a ++ b) = (okdA a && okdA b)
  | [], b => by
    rw [okdA]
    simp
  | d :: a, b => by
    rw [List.cons_append, okdA, okdA, okdA_app, Bool.and_assoc]
theorem wtA_app : ∀ {a b : List PyData}, wtA (a ++ b) = wtA a + wtA b
  | [], b => by
    rw [wtA]
    simp
  | d :: a, b => by
    rw [List.cons_append, wtA, wtA, wtA_app]
    omega
theorem depA_app : ∀ {a b : List PyData}, PyData.depthAll (a ++ b) = max (PyData.depthAll a) (PyData.depthAll b)
  | [], b => by
    rw [PyData.depthAll]
    simp
  | d :: a, b => by
    rw [List.cons_append, PyData.depthAll, PyData.depthAll, depA_app]
    omega
structure Wt (d : PyData) (L D : Nat) : Prop where
  ok : okd d = true
  le : wt d ≤ L
  dep : d.depth ≤ D
structure WtA (ds : List PyData) (L D : Nat) : Prop where
  ok : okdA ds = true
  le : wtA ds ≤ L
  dep : PyData.depthAll ds ≤ D
theorem Wt.mono {d : PyData} {L D L' D' : Nat} (h : Wt d L D) (hL : L ≤ L') (hD : D ≤ D') : Wt d L' D' := ⟨h.ok, Nat.le_trans h.le hL, Nat.le_trans h.dep hD⟩
theorem WtA.mono {d : List PyData} {L D L' D' : Nat} (h : WtA d L D) (hL : L ≤ L') (hD : D ≤ D') : WtA d L' D' := ⟨h.ok, Nat.le_trans h.le hL, Nat.le_trans h.dep hD⟩
theorem WtA.nil {L D : Nat} : WtA [] L D := ⟨rfl, by rw [wtA]; omega, by rw [PyData.depthAll]; omega⟩
theorem WtA.cons {d : PyData} {ds : List PyData} {L1 L2 D : Nat} (h : Wt d L1 D) (t : WtA ds L2 D) : WtA (d :: ds) (L1 + 2 + L2) D := by
  refine ⟨?_, ?_, ?_⟩
  · rw [okdA, h.ok, t.ok]
    rfl
  · have := h.le
    have := t.le
    rw [wtA]
    omega
  · have := h.dep
    have := t.dep
    rw [PyData.depthAll]
    omega
theorem WtA.app {a b : List PyData} {L1 L2 D : Nat} (h : WtA a L1 D) (t : WtA b L2 D) : WtA (a ++ b) (L1 + L2) D := by
  refine ⟨?_, ?_, ?_⟩
  · rw [okdA_app, h.ok, t.ok]
    rfl
  · have := h.le
    have := t.le
    rw [wtA_app]
    omega
  · have := h.dep
    have := t.dep
    rw [depA_app]
    omega
theorem WtA.take {a : List PyData} {L D : Nat} (h : WtA a L D) (n : Nat) : WtA (a.take n) L D := by
  obtain ⟨h1, h2, h3⟩ := h
  rw [← List.take_append_drop n a] at h1 h2 h3
  rw [okdA_app, Bool.and_eq_true] at h1
  rw [wtA_app] at h2
  rw [depA_app] at h3
  exact ⟨h1.1, by omega, by omega⟩
theorem WtA.drop {a : List PyData} {L D : Nat} (h : WtA a L D) (n : Nat) : WtA (a.drop n) L D := by
  obtain ⟨h1, h2, h3⟩ := h
  rw [← List.take_append_drop n a] at h1 h2 h3
  rw [okdA_app, Bool.and_eq_true] at h1
  rw [wtA_app] at h2
  rw [depA_app] at h3
  exact ⟨h1.2, by omega, by omega⟩
/-- both ends of it weigh no more than it -/
theorem wtA_ends (a : List PyData) {m n : Nat} (h : m ≤ n) : wtA (a.take m) + wtA (a.drop n) ≤ wtA a := by
  have e : a.drop m = (a.drop m).take (n - m) ++ a.drop n := by
    have := (List.take_append_drop (n - m) (a.drop m)).symm
    rw [List.drop_drop, show m + (n - m) = n by omega] at this
    exact this
  have e1 : wtA a = wtA (a.take m) + wtA (a.drop m) := by rw [← wtA_app, List.take_append_drop]
  rw [e1, e, wtA_app]
  omega
theorem WtA.get {a : List PyData} {L D i : Nat} {d : PyData} (h : WtA a L D) (e : a[i]? = some d) : Wt d L D := by
  have hd : a.drop i = d :: a.drop (i + 1) := by
    obtain ⟨hi, e'⟩ := List.getElem?_eq_some_iff.mp e
    rw [List.drop_eq_getElem_cons hi, e']
  obtain ⟨h1, h2, h3⟩ := h.drop i
  rw [hd, okdA, Bool.and_eq_true] at h1
  rw [hd, wtA] at h2
  rw [hd, PyData.depthAll] at h3
  exact ⟨h1.1, by omega, by omega⟩
theorem WtA.rev : ∀ {a : List PyData} {L D : Nat}, WtA a L D → WtA a.reverse L D
  | [], _, _, _ => WtA.nil
  | d :: ds, L, D, h => by
    obtain ⟨h1, h2, h3⟩ := h
    rw [okdA, Bool.and_eq_true] at h1
    rw [wtA] at h2
    rw [PyData.depthAll] at h3
    have r : WtA ds.reverse (wtA ds) D := WtA.rev ⟨h1.2, Nat.le_refl _, by omega⟩
    rw [List.reverse_cons]
    exact (r.app (WtA.cons (L1 := wt d) ⟨h1.1, Nat.le_refl _, by omega⟩ (WtA.nil (L := 0)))).mono (by omega) (Nat.le_refl _)
theorem Wt.tup {ds : List PyData} {L D : Nat} (h : WtA ds L D) : Wt (.tuple ds) (L + 3) (D + 1) := by
  refine ⟨h.ok, ?_, ?_⟩
  · have := h.le
    rw [wt]
    omega
  · have := h.dep
    rw [PyData.depth]
    omega
theorem Wt.lst {ds : List PyData} {L D : Nat} (h : WtA ds L D) : Wt (.list ds) (L + 3) (D + 1) := by
  refine ⟨h.ok, ?_, ?_⟩
  · have := h.le
    rw [wt]
    omega
  · have := h.dep
    rw [PyData.depth]
    omega
theorem Wt.un {ds : List PyData} {L D : Nat} (h : Wt (.tuple ds) L D) : WtA ds L D ∧ PyData.depthAll ds + 1 ≤ D ∧ wtA ds + 3 ≤ L := by
  obtain ⟨h1, h2, h3⟩ := h
  rw [wt] at h2
  rw [PyData.depth] at h3
  exact ⟨⟨h1, by omega, by omega⟩, h3, h2⟩
theorem Wt.text {z : Str} {L D : Nat} (h : Wt (.str z) L D) : 10 * z.length + 2 ≤ L := by
  have := h.le
  rw [wt] at this
  exact this
theorem Wt.lit {d : PyData} {L D : Nat} (h : (okd d && decide (wt d ≤ L) && decide (d.depth ≤ D)) = true) : Wt d L D := by
  rw [Bool.and_eq_true, Bool.and_eq_true, decide_eq_true_eq, decide_eq_true_eq] at h
  exact ⟨h.1.1, h.1.2, h.2⟩
end SfG
/-! d.get(k) of a written dict by texts -/
namespace SfG
open PySem PySem.Spec PyProof.Rows L2
/-- a dict of the module, all its keys texts: what is there by each -/
def KDo (K : PySem.W.Frag) (w : World) (p : Addr) (f : Str → Option V) : Prop :=
  ∃ es n, K.lookup p = some ⟨.type "dict", none, .dict es n, #[]⟩ ∧ PySem.W.KeysLit w.params es.toList ∧ (p == sysModules) = false ∧ ∀ z, RelO (f z) (findBy Value.isStrOf es z)
def tKGet (K : PySem.W.Frag) (w : World) (td ty : TE) : TE := fun σ H Q => td σ H fun x H1 => ∃ (p : Addr) (f : Str → Option V), x = .ref p ∧ KDo K w p f ∧ ty σ H1 fun y H2 => ∃ z : Str, y = .str z ∧ Q ((f z).getD .non) H2
theorem relO_getD {a : Option V} {b : Option Value} (h : RelO a b) : RelV (a.getD .non) (b.getD .none) := by
  cases a with
  | none =>
    cases b with
    | none => exact rfl
    | some u => exact absurd h id
  | some v =>
    cases b with
    | none => exact absurd h id
    | some u => exact h
theorem pe_kget {X : Cx} {o e : Expr} {apos cpos : Pos} {td ty : TE} (ho : PE X o td) (he : PE X e ty) (m : M1 X o "get" apos e cpos) : PE X (.Call (.Attribute o "get" apos) [e] [] cpos) (tKGet X.K X.w td ty) := by
  constructor
  intro pins s σ H Q I h
  refine wpAny_Call_method m.base m.few m.line PySem.F.plainAttrs_dict PySem.F.slot_dict_get PySem.F.type_dict_get ?_
  refine thn (ho.run pins s σ H _ I h) ?_
  rintro u s1 ⟨x, H1, I1, rx, p, f, rfl, ⟨es, n, hl, hk, hs, hf⟩, q1⟩
  cases (show u = Value.ref p from rx)
  have hm := fun (I : L2.Inv X pins σ H1 s1) => PySem.W.mapOf_K (prog := X.prog) (w := X.w) I.kIn hl hk
  refine ⟨(hm I1).typeIs, ?_, ?_⟩
  · intro b z
    cases z
    exact ⟨_, I1.kIn _ _ hl, rfl⟩
  rw [m.trees]
  refine Calls.callWith_builtin rfl (Calls.evalArgs_plain (Calls.spliced_cons (thn (he.run pins s1 σ H1 _ I1 q1) ?_)))
  rintro v s2 ⟨y, H2, I2, ry, z, rfl, q2⟩
  obtain ⟨t, rfl⟩ := (show ∃ t, v = Value.str z t from ry)
  refine Calls.spliced_nil ?_
  have hm2 := PySem.W.mapOf_K (prog := X.prog) (w := X.w) I2.kIn hl hk
  exact call_meetsIn PySem.F.slot_dict_get hm2.typeIs PySem.F.entry_dict_get (PySem.F.args_dict_get_2 _ _) (meets_dict_get (strKind X.prog X.w) p (strKind_is X.prog X.w z t) hs) ⟨_, hm2, _, H2, I2.tok _, relO_getD (hf z), q2⟩
end SfG
/-! data beside a thing that is changed: the heap without it -/
namespace SfG
open PySem PySem.Spec PyProof.Rows L2
def hide (S : List Addr) (H : Hp) : Hp := fun b => if b ∈ S then none else H b
/-- all these are there -/
def There (S : List Addr) (H : Hp) : Prop := ∀ f ∈ S, H f ≠ none
section
variable {K : PySem.W.Frag} {S : List Addr} {p r f : Addr} {H H' : Hp} {o : HO}
theorem hide_ne {b : Addr} (n : b ∉ S) : hide S H b = H b := if_neg n
theorem hide_of {b : Addr} (h : hide S H b = some o) : b ∉ S ∧ H b = some o := by
  by_cases c : b ∈ S
  · unfold hide at h
    rw [if_pos c] at h
    cases h
  · rw [hide_ne c] at h
    exact ⟨c, h⟩
theorem hide_upd (h : f ∈ S) : hide S (upd H f o) = hide S H := by
  funext b
  by_cases c : b ∈ S
  · unfold hide
    rw [if_pos c, if_pos c]
  · have n : b ≠ f := fun z => c (by rw [z]; exact h)
    rw [hide_ne c, hide_ne c, upd_ne n]
theorem hide_nil : hide [] H = H := by
  funext b
  exact hide_ne (by simp)
theorem kx_of (h : ∀ b o, H b = some o → (∀ ps, o ≠ .tbl ps) → (∀ k kv, o ≠ .dK (k :: kv)) → H' b = some o) : Kx K H H' := by
  refine ⟨⟨?_, ?_⟩, ?_⟩
  · intro a xs e
    rcases e with (e | ⟨o, e⟩) | e
    · exact .inl (.inl (h _ _ e (fun _ z => by cases z) (fun _ _ z => by cases z)))
    · exact .inl (.inr ⟨o, h _ _ e (fun _ z => by cases z) (fun _ _ z => by cases z)⟩)
    · exact .inr e
  · intro a xs e
    rcases e with (e | ⟨o, e⟩) | e
    · exact .inl (.inl (h _ _ e (fun _ z => by cases z) (fun _ _ z => by cases z)))
    · exact .inl (.inr ⟨o, h _ _ e (fun _ z => by cases z) (fun _ _ z => by cases z)⟩)
    · exact .inr e
  · intro q e
    exact h _ _ e (fun _ z => by cases z) (fun _ _ z => by cases z)
theorem hide_kx : Kx K (hide S H) H := kx_of fun b o h _ _ => (hide_of h).2
/-- fewer hidden -/
theorem hide_less {T : List Addr} (h : ∀ b ∈ T, b ∈ S) : Kx K (hide S H) (hide T H) := kx_of fun b o e _ _ => by
  obtain ⟨n, e1⟩ := hide_of e
  rw [hide_ne fun z => n (h b z)]
  exact e1
theorem hide_tail : Kx K (hide (f :: S) H) (hide S H) := hide_less fun b h => List.mem_cons_of_mem _ h
/-- a new one hidden: all that was stays -/
theorem hide_cons (n : H f = none) : Kx K (hide S H) (hide (f :: S) (upd H f o)) := kx_of fun b u e _ _ => by
  obtain ⟨n1, e1⟩ := hide_of e
  have nb : b ≠ f := ne_of_none e1 n
  rw [hide_ne (by simp [nb, n1]), upd_ne nb]
  exact e1
theorem Gr.hkx (g : Gr H H') : Kx K (hide S H) (hide S H') := kx_of fun b o h n _ => by
  obtain ⟨n1, h1⟩ := hide_of h
  rw [hide_ne n1]
  exact g.keep b o h1 n
theorem Gp.hkx {k : Key × V} {kv : List (Key × V)} (g : Gp p H H') (hp : H p = some (.dK (k :: kv))) : Kx K (hide S H) (hide S H') := kx_of fun b o h n nk => by
  obtain ⟨n1, h1⟩ := hide_of h
  rw [hide_ne n1]
  refine g.keep b o (fun z => ?_) h1 n
  rw [z, hp] at h1
  exact nk _ _ (Option.some.inj h1).symm
/-- with some hidden, one that is new -/
theorem hide_new (np : H r = none) (hf : There S H) : hide S (upd H r o) r = some o := by
  have n : r ∉ S := fun z => hf r z np
  rw [hide_ne n, upd_same]
theorem dx_newT {xs : List V} {ds : List PyData} (np : H r = none) (hf : There S H) (h : DxA K (hide S H) xs ds) : Dx K (hide S (upd H r (.tup xs))) (.ref r) (.tuple ds) :=
  .tup (.inl (.inl (hide_new np hf))) ((Gr.new np).hkx.dxA h)
theorem dx_newL {xs : List V} {ds : List PyData} (np : H r = none) (hf : There S H) (h : DxA K (hide S H) xs ds) : Dx K (hide S (upd H r (.lst xs))) (.ref r) (.list ds) :=
  .lst (.inl (.inl (hide_new np hf))) ((Gr.new np).hkx.dxA h)
theorem dx_newE (np : H r = none) (hf : There S H) : Dx K (hide S (upd H r (.dK []))) (.ref r) (.dict []) := .emp (hide_new np hf)
theorem There.gr (h : There S H) (g : Gr H H') : There S H' := fun f m z => h f m (g.back f z)
theorem There.upd (h : There S H) : There S (upd H r o) := fun f m z => by
  by_cases c : f = r
  · rw [c, upd_same] at z
    cases z
  · rw [upd_ne c] at z
    exact h f m z
theorem There.cons (h : There S H) (hf : H f ≠ none) : There (f :: S) H := fun b m => by
  rcases List.mem_cons.mp m with rfl | m
  · exact hf
  · exact h b m
theorem There.tail (h : There (f :: S) H) : There S H := fun b m => h b (List.mem_cons_of_mem _ m)
theorem There.nil : There [] H := fun b m => by cases m
end
/-! ### t + u, t[:n], t[n:]: whatever tuple comes -/
def rCatX (K : PySem.W.Frag) : R2 := fun x y H Q => ∃ (S : List Addr) (ds es : List PyData), Dx K (hide S H) x (.tuple ds) ∧ Dx K (hide S H) y (.tuple es) ∧ There S H ∧ ds.length + es.length ≤ sizeLine ∧
  ∀ v H', Gr H H' → Dx K (hide S H') v (.tuple (ds ++ es)) → Q v H'
section
variable {X : Cx}
theorem op_catX : OpR X (binaryOp .Add) (rCatX X.K) := by
  intro pins s σ H x y v u Q I rx ry h
  obtain ⟨f, ds, es, hx, hy, hf, hl, q⟩ := h
  obtain ⟨a, xs, rfl, ha, hxs⟩ := dx_tup hx
  obtain ⟨b, ys, rfl, hb, hys⟩ := dx_tup hy
  have l1 := dxA_len hxs
  have l2 := dxA_len hys
  refine op_catA pins s σ H _ _ v u Q I rx ry ⟨a, b, xs, ys, rfl, rfl, hide_kx.kd.t ha, hide_kx.kd.t hb, by omega, ?_, ?_, ?_⟩
  · rintro rfl
    have e : ds = [] := List.length_eq_zero_iff.mp (by rw [← l1]; rfl)
    subst e
    exact q _ H (Gr.refl H) hy
  · rintro _ rfl
    have e : es = [] := List.length_eq_zero_iff.mp (by rw [← l2]; rfl)
    subst e
    refine q _ H (Gr.refl H) ?_
    rw [List.append_nil]
    exact hx
  · intro _ _ r nr
    exact q _ _ (Gr.new nr) (dx_newT nr hf (dxA_app hxs hys))
/-- [lo:hi], both within it -/
def cutD (ds : List PyData) (lo hi : Option Int) : List PyData := (ds.drop (HT.sIx ds.length 0 lo)).take (HT.sIx ds.length ds.length hi - HT.sIx ds.length 0 lo)
theorem cut_to (ds : List PyData) {n : Nat} (h : n ≤ ds.length) : cutD ds none (some (n : Int)) = ds.take n := by
  unfold cutD
  rw [HT.sIx_none, HT.sIx_nat, Nat.min_eq_left h, List.drop_zero, Nat.sub_zero]
theorem cut_from (ds : List PyData) {n : Nat} (h : n ≤ ds.length) : cutD ds (some (n : Int)) none = ds.drop n := by
  unfold cutD
  rw [HT.sIx_none, HT.sIx_nat, Nat.min_eq_left h]
  refine List.take_of_length_le ?_
  rw [List.length_drop]
  exact Nat.le_refl _
def rSlX (K : PySem.W.Frag) : V → Option Int → Option Int → Hp → VK → Prop := fun x lo hi H Q => ∃ (S : List Addr) (ds : List PyData), Dx K (hide S H) x (.tuple ds) ∧ There S H ∧
  ∀ v H', Gr H H' → Dx K (hide S H') v (.tuple (cutD ds lo hi)) → Q v H'
theorem sl_tupX : SlR X (rSlX X.K) := by
  intro pins s σ H x v vl vu lo hi sl Q I rx hs pl pu h
  obtain ⟨f, ds, hx, hf, q⟩ := h
  obtain ⟨a, xs, rfl, ha, hxs⟩ := dx_tup hx
  have l1 := dxA_len hxs
  refine sl_tupA pins s σ H _ v vl vu lo hi sl Q I rx hs pl pu ⟨a, xs, rfl, hide_kx.kd.t ha, ?_, ?_⟩
  · intro hw
    refine q _ H (Gr.refl H) ?_
    rw [l1] at hw
    have e : cutD ds lo hi = ds := by
      unfold cutD
      rw [hw.1, hw.2, List.drop_zero, Nat.sub_zero, List.take_length]
    rw [e]
    exact hx
  · intro _ r nr
    refine q _ _ (Gr.new nr) (dx_newT nr hf ?_)
    unfold cutV cutD
    rw [l1]
    exact dxA_take _ (dxA_drop _ hxs)
end
end SfG
/-! t[::-1], t * n of tuples -/
namespace SfG
open PySem PySem.Spec PyProof.Rows L2
section
variable {prog : Program} {w : World} {A : Around} {E : Value → Shared → Prop} {s : Shared}
theorem adjust_rev (n : Nat) : Builtin.Slice.sliceAdjust none none (-1) (n : Int) = ((n : Int) - 1, -1) := by
  unfold Builtin.Slice.sliceAdjust
  have h1 : ((-1 : Int) < 0) := by omega
  simp only [h1, if_true]
theorem places_rev (n : Nat) : Builtin.Slice.slicePlaces ((n : Int) - 1) (-1) (-1) = n := by
  unfold Builtin.Slice.slicePlaces
  have h1 : ¬ ((-1 : Int) > 0) := by omega
  simp only [h1, if_false]
  have e1 : (- -1 : Int) = 1 := by decide
  rw [e1, Int.ediv_one]
  split <;> omega
theorem fm_congr {α β : Type} {f g : α → Option β} : ∀ {l : List α}, (∀ x ∈ l, f x = g x) → l.filterMap f = l.filterMap g
  | [], _ => rfl
  | a :: r, h => by
    rw [List.filterMap_cons, List.filterMap_cons, h a List.mem_cons_self, fm_congr fun x hx => h x (List.mem_cons_of_mem _ hx)]
theorem applied_rev {sl : Addr} {vl vu vs : Value} {n : Nat} {Q : Int × Int × Nat → Shared → Prop} (hs : s.heap.IsSliceOf sl vl vu vs) (pl : IsPart vl none) (pu : IsPart vu none) (pk : IsPart vs (some (-1)))
    (h : Q ((n : Int) - 1, -1, n) s) : wpAny (model prog w) A (Builtin.Slice.sliceApplied (.ref sl) (pure (n : Int))) Q E s := by
  obtain ⟨os, hos, hcs, hds⟩ := id hs
  unfold Builtin.Slice.sliceApplied Builtin.Slice.sliceFields
  refine wpAny_bind (wpAny_bind (wpAny_field hos hds (x := vl) rfl (wpAny_bind (wpAny_field hos hds (x := vu) rfl (wpAny_bind (wpAny_field hos hds (x := vs) rfl (wpAny_pure ?_)))))))
  refine wpAny_bind (HT.slicePart_ pk ?_)
  show wpAny _ _ (if ((-1 : Int) == 0) = true then _ else _) _ _ s
  rw [if_neg (by decide)]
  refine wpAny_bind (HT.slicePart_ pl (wpAny_bind (HT.slicePart_ pu (wpAny_bind (wpAny_pure ?_)))))
  show wpAny _ _ (match Builtin.Slice.sliceAdjust none none (-1) (n : Int) with | (lo, hi) => pure (lo, (-1 : Int), Builtin.Slice.slicePlaces lo hi (-1))) _ _ s
  rw [adjust_rev n]
  show wpAny _ _ (pure ((n : Int) - 1, (-1 : Int), Builtin.Slice.slicePlaces ((n : Int) - 1) (-1) (-1))) _ _ s
  rw [places_rev]
  exact wpAny_pure h
theorem pick_rev (xs : Array Value) : ((List.range xs.size).filterMap fun (m : Nat) => xs[(((xs.size : Int) - 1) + (m : Int) * (-1)).toNat]?).toArray = xs.toList.reverse.toArray := by
  have e : ∀ m ∈ List.range xs.size, (xs[(((xs.size : Int) - 1) + (m : Int) * (-1)).toNat]?) = xs[xs.size - 1 - m]? := by
    intro m hm
    have hm' := List.mem_range.mp hm
    have : (((xs.size : Int) - 1) + (m : Int) * (-1)).toNat = xs.size - 1 - m := by omega
    rw [this]
  rw [fm_congr e]
  have := PySem.W.krv_pick xs
  have e2 : (List.range xs.size).filterMap (fun m => xs[xs.size - 1 - m]?) = xs.toList.reverse := by
    have h1 : (List.range xs.size).filterMap (fun m => xs[xs.size - 1 - m]?) = ((List.range xs.size).map (fun k => xs.size - 1 - k)).filterMap (xs[·]?) := by
      rw [List.filterMap_map]
      rfl
    rw [h1, PySem.W.krv_range, List.filterMap_reverse, PySem.W.krv_all]
  rw [e2]
theorem getItem_tuple_rev {t sl : Addr} {items : Array Value} {vl vu vs : Value} {Q : Value → Shared → Prop} (ht : IsTup s.heap t items) (hs : s.heap.IsSliceOf sl vl vu vs) (pl : IsPart vl none) (pu : IsPart vu none) (pk : IsPart vs (some (-1)))
    (h : Q (.ref s.heap.objs.size) { s with heap := s.heap.push { cls := .type "tuple", data := .seq items.toList.reverse.toArray } })
    (hsz : items.size ≤ sizeLine) : wpAny (model prog w) A (getItem (.ref t) (.ref sl)) Q E s := by
  have htake : sizeOk (.seq items.toList.reverse.toArray) := by
    show items.toList.reverse.toArray.size ≤ sizeLine
    rw [List.size_toArray, List.length_reverse, Array.length_toList]
    exact hsz
  obtain ⟨os, hos, hcs, hds⟩ := id hs
  have hTs : s.TypeIs (.ref sl) "slice" := ⟨os, hos, hcs⟩
  unfold getItem
  try with_reducible refine wpAny_holding ?_
  first | refine wpAny_bind (wpAny_pure ?_) | skip
  refine wpAny_bind (wpAny_sequenceKey ht.typeIs (by decide) ?_)
  refine wpAny_bind (wpAny_callSpecial?_slot (name := Str.ofString "__getitem__") ht.typeIs PyProof.Rows.slot_tuple_getitem
    (wpAny_call_entry PyProof.Rows.slot_tuple_getitem ht.typeIs entry_tuple_getitem ?_ (args_tuple_getitem _ _)))
  show wpAny _ _ (Builtin.Tuple.tupleItemsOf (.ref t) >>= _) _ _ s
  refine wpAny_bind (tupleItemsOf_ ht ?_)
  refine wpAny_bind (wpAny_typeOf hTs ?_)
  rw [if_pos (by decide)]
  refine wpAny_bind (applied_rev hs pl pu pk ?_)
  have hno : ¬ ((((items.size : Int) - 1) == 0 && (-1 : Int) == 1 && items.size == items.size) = true) := by simp
  show wpAny _ _ (if (((items.size : Int) - 1) == 0 && (-1 : Int) == 1 && items.size == items.size) = true then _ else _) _ _ s
  rw [if_neg hno, pick_rev]
  first
    | exact wpAny_bind (m := Builtin.Tuple.tupleExact _) (wpAny_newObj_type (wpAny_pure ⟨_, rfl, wpAny_pure h⟩) htake)
    | exact wpAny_bind (m := Builtin.Tuple.tupleExact _) (wpAny_newObj_type (wpAny_bind (wpAny_pure (wpAny_pure ⟨_, rfl, wpAny_pure h⟩))) htake)
    | exact wpAny_bind (wpAny_bind (m := Builtin.Tuple.tupleExact _) (wpAny_newObj_type (wpAny_pure (wpAny_pure ⟨_, rfl, wpAny_pure h⟩)) htake))
    | exact wpAny_bind (wpAny_bind (m := Builtin.Tuple.tupleExact _) (wpAny_newObj_type (wpAny_pure ⟨_, rfl, wpAny_pure h⟩) htake))
end
section
variable {X : Cx}
/-- t[::-1] -/
def tRevT (K : PySem.W.Frag) (te : TE) : TE := fun σ H Q => te σ H fun x H1 => ∃ a xs, x = .ref a ∧ SqT K H1 a xs ∧ ∀ p, H1 p = none → Q (.ref p) (upd H1 p (.tup xs.reverse))
theorem pe_revT {e : Expr} {te : TE} {k : Nat} {p1 p2 p3 pos : Pos} (he : PE X e te) : PE X (.Subscript e (.Slice none none (some (.UnaryOp .USub (.Constant (.int 1) k p1) p2)) p3) pos) (tRevT X.K te) := by
  refine ⟨fun pins s σ H Q I h => ?_⟩
  refine Subscript_ (thn (he.run pins s σ H _ I h) fun v s1 ⟨x, H1, I1, r1, q1⟩ => ?_)
  obtain ⟨a, xs, ex, hx, q⟩ := q1
  subst ex
  cases r1
  have hst : PO X (some (.UnaryOp .USub (.Constant (.int 1) k p1) p2)) (tPart (tUn (rU fun i => .int (-i)) (tC (.int 1)))) := po_some (pe_un un_neg pe_int)
  refine wpAny_Slice (thn (po_none.run pins s1 σ H1 (fun o H2 => o = none ∧ H2 = H1) I1 ⟨rfl, rfl⟩) fun vl s2 ⟨l, H2, I2, pl, el, e2⟩ => ?_)
  subst el e2
  refine thn (po_none.run pins s2 σ H2 (fun o H3 => o = none ∧ H3 = H2) I2 ⟨rfl, rfl⟩) fun vu s3 ⟨u, H3, I3, pu, eu, e3⟩ => ?_
  subst eu e3
  refine thn (hst.run pins s3 σ H3 (fun o H4 => o = some (-1) ∧ H4 = H3) I3 ⟨1, rfl, -1, rfl, rfl, rfl⟩) fun vs s4 ⟨o, H4, I4, ps, eo, e4⟩ => ?_
  subst eo e4
  have I5 : Inv X pins σ H4 { s4 with heap := s4.heap.push { cls := .type "slice", data := .fields #[vl, vu, vs] } } := I4.kept (t' := s4.toks) fun b ob q => Heap.get?_push_of_some _ q
  obtain ⟨its, r, ht, hz⟩ := I5.tuple hx
  have hlen := r.length
  show wpAny (model X.prog X.w) X.A (subscriptTail e (.Slice none none (some (.UnaryOp .USub (.Constant (.int 1) k p1) p2)) p3) (.ref a) (.ref s4.heap.objs.size)) (EP X pins σ Q) X.xe { s4 with heap := s4.heap.push { cls := .type "slice", data := .fields #[vl, vu, vs] } }
  refine tail_any (ops := [.ref a, .ref s4.heap.objs.size]) ht.typeIs (PyProof.Rows.slot_tuple_getitem.lookup) ?_ (by with_unfolding_all rfl)
  refine getItem_tuple_rev ht (Heap.IsSliceOf.new _ vl vu vs) pl pu ps ?_ (by rw [List.size_toArray]; omega)
  refine ⟨.ref _, _, I5.laid (t' := s4.toks) (o := .tup xs.reverse) (fun b ob q => Heap.get?_push_of_some _ q) (Nat.le_refl _) ?_, rfl, q _ (I5.hok.fresh (Nat.le_refl _))⟩
  exact ⟨by rw [List.length_reverse]; exact hz, _, r.reverse, IsTup.new _ _⟩
end
end SfG
namespace SfG
open PySem PySem.Spec PyProof.Rows L2
/-! ### the same of data, whatever tuple comes -/
section
variable {K : PySem.W.Frag} {H : Hp} {r : Addr}
theorem new_T {xs : List V} {ds : List PyData} (np : H r = none) (h : DxA K H xs ds) : Dx K (upd H r (.tup xs)) (.ref r) (.tuple ds) := .tup (.inl (.inl upd_same)) ((Gr.new np).kx.dxA h)
theorem new_L {xs : List V} {ds : List PyData} (np : H r = none) (h : DxA K H xs ds) : Dx K (upd H r (.lst xs)) (.ref r) (.list ds) := .lst (.inl (.inl upd_same)) ((Gr.new np).kx.dxA h)
theorem new_E (np : H r = none) : Dx K (upd H r (.dK [])) (.ref r) (.dict []) := .emp upd_same
end
def rCat0 (K : PySem.W.Frag) : R2 := fun x y H Q => ∃ (ds es : List PyData), Dx K H x (.tuple ds) ∧ Dx K H y (.tuple es) ∧ ds.length + es.length ≤ sizeLine ∧ ∀ v H', Gr H H' → Dx K H' v (.tuple (ds ++ es)) → Q v H'
def rSl0 (K : PySem.W.Frag) : V → Option Int → Option Int → Hp → VK → Prop := fun x lo hi H Q => ∃ (ds : List PyData), Dx K H x (.tuple ds) ∧ ∀ v H', Gr H H' → Dx K H' v (.tuple (cutD ds lo hi)) → Q v H'
def rRep0 (K : PySem.W.Frag) : R2 := fun x y H Q => ∃ (ds : List PyData) (n : Nat), Dx K H x (.tuple ds) ∧ y = .int (n : Int) ∧ ds ≠ [] ∧ 2 ≤ n ∧ n ≤ 1000 ∧ ds.length ≤ 1000 ∧ ∀ v H', Gr H H' → Dx K H' v (.tuple (List.replicate n ds).flatten) → Q v H'
theorem dxA_rep {K : PySem.W.Frag} {H : Hp} {xs : List V} {ds : List PyData} (h : DxA K H xs ds) : ∀ n : Nat, DxA K H (List.replicate n xs).flatten (List.replicate n ds).flatten
  | 0 => .nil
  | n + 1 => by
    rw [List.replicate_succ, List.replicate_succ, List.flatten_cons, List.flatten_cons]
    exact dxA_app h (dxA_rep h n)
section
variable {X : Cx}
theorem op_cat0 : OpR X (binaryOp .Add) (rCat0 X.K) := by
  intro pins s σ H x y v u Q I rx ry h
  obtain ⟨ds, es, hx, hy, hl, q⟩ := h
  refine op_catX pins s σ H x y v u Q I rx ry ⟨[], ds, es, ?_, ?_, There.nil, hl, fun v' H' g h' => ?_⟩
  · rw [hide_nil]
    exact hx
  · rw [hide_nil]
    exact hy
  · rw [hide_nil] at h'
    exact q v' H' g h'
theorem sl_tup0 : SlR X (rSl0 X.K) := by
  intro pins s σ H x v vl vu lo hi sl Q I rx hs pl pu h
  obtain ⟨ds, hx, q⟩ := h
  refine sl_tupX pins s σ H x v vl vu lo hi sl Q I rx hs pl pu ⟨[], ds, ?_, There.nil, fun v' H' g h' => ?_⟩
  · rw [hide_nil]
    exact hx
  · rw [hide_nil] at h'
    exact q v' H' g h'
theorem op_rep0 : OpR X (binaryOp .Mult) (rRep0 X.K) := by
  intro pins s σ H x y v u Q I rx ry h
  obtain ⟨ds, n, hx, rfl, hne, h2, h3, hl, q⟩ := h
  obtain ⟨a, xs, rfl, ha, hxs⟩ := dx_tup hx
  have l1 := dxA_len hxs
  refine op_repT pins s σ H _ _ v u Q I rx ry ⟨a, n, xs, rfl, rfl, ha, ?_, by omega, by omega, by omega, fun p np => ?_⟩
  · rintro rfl
    exact hne (List.length_eq_zero_iff.mp (by rw [← l1]; rfl))
  · rw [Int.toNat_natCast]
    exact q _ _ (Gr.new np) (new_T np (dxA_rep hxs n))
end
end SfG
/-! t * n, n 0 or 1 too; t != () -/
namespace SfG
open PySem PySem.Spec PyProof.Rows L2
theorem tuple_mul_same (l : Addr) (items : Array Value) (n : Nat) (dd : Option Addr) (sl : Array (Option Value)) (x : Int) (u : Tok) (c0 : (decide (x < -(2 ^ 63)) || decide (x ≥ 2 ^ 63)) = false) (c1 : (items.isEmpty || x == 1) = true) :
    Meets (Builtin.«tuple.__mul__» ⟨[.ref l, .int x u], []⟩) (fun _ R s => s.heap.get? l = some { cls := .type "tuple", dict := dd, data := .seq items n, slots := sl } ∧ R (.ok (.ret (Value.ref l))) s) :=
  .of_wp fun prog w A R s h => by
    obtain ⟨hp, g, d, tk, os⟩ := s
    obtain ⟨hl, h⟩ := h
    have f1 := AutoSeq1.idx_int
    wp_walk using wpAny_loadPart' hl
    repeat (first
      | (refine wpAny_ite_false (decide_eq_false (by rw [c0]; exact Bool.false_ne_true)) ?_; wp_walk using wpAny_loadPart' hl)
      | (refine wpAny_ite_true (decide_eq_true c1) ?_; wp_walk using wpAny_loadPart' hl))
    exact ⟨_, rfl, h⟩
theorem tuple_mul_none (l : Addr) (items : Array Value) (n : Nat) (dd : Option Addr) (sl : Array (Option Value)) (x : Int) (u : Tok) (c0 : (decide (x < -(2 ^ 63)) || decide (x ≥ 2 ^ 63)) = false) (c1 : (items.isEmpty || x == 1) = false) (c2 : (decide (x ≤ 0) || items.isEmpty) = true) :
    Meets (Builtin.«tuple.__mul__» ⟨[.ref l, .int x u], []⟩) (fun _ R s => s.heap.get? l = some { cls := .type "tuple", dict := dd, data := .seq items n, slots := sl } ∧
      R (.ok (.ret (Value.ref s.heap.objs.size))) { s with heap := s.heap.push { cls := Value.type "tuple", data := Data.seq #[] }, toks := s.toks }) :=
  .of_wp fun prog w A R s h => by
    obtain ⟨hp, g, d, tk, os⟩ := s
    obtain ⟨hl, h⟩ := h
    have f1 := AutoSeq1.idx_int
    wp_walk using wpAny_loadPart' hl
    repeat (first
      | (refine wpAny_ite_false (decide_eq_false (by rw [c0]; exact Bool.false_ne_true)) ?_; wp_walk using wpAny_loadPart' hl)
      | (refine wpAny_ite_false (decide_eq_false (by rw [c1]; exact Bool.false_ne_true)) ?_; wp_walk using wpAny_loadPart' hl)
      | (refine wpAny_ite_true (decide_eq_true c2) ?_; wp_walk using wpAny_loadPart' hl))
    exact ⟨_, rfl, h⟩
/-- of one thing at least -/
def rMulT (K : PySem.W.Frag) : R2 := fun x y H Q => ∃ (l : Addr) (k : Nat) (xs : List V), x = .ref l ∧ y = .int (k : Nat) ∧ SqT K H l xs ∧ xs ≠ [] ∧ k ≤ 1000 ∧ xs.length ≤ 1000 ∧ ∀ p H', Gr H H' → SqT K H' p (List.replicate k xs).flatten → Q (.ref p) H'
section
variable {X : Cx}
theorem op_mulT : OpR X (binaryOp .Mult) (rMulT X.K) := by
  intro pins s σ H x y v u Q I rx ry h
  obtain ⟨l, k, xs, rfl, rfl, hT, hne, h2, hz, q⟩ := h
  rcases Nat.lt_or_ge 1 k with hk | hk
  · refine op_repT pins s σ H _ _ v u Q I rx ry ⟨l, (k : Nat), xs, rfl, rfl, hT, hne, by omega, by omega, hz, fun p np => ?_⟩
    rw [Int.toNat_natCast]
    exact q p _ (Gr.new np) (.inl (.inl upd_same))
  cases rx
  obtain ⟨t, rfl⟩ := ry
  obtain ⟨its, r, ⟨⟨cls, dd, data, sl⟩, ho, hc, n, hd⟩, hs⟩ := I.tuple hT
  simp only at hc hd
  subst hc hd
  have hle : its.length = xs.length := r.length.symm
  have hn : its ≠ [] := fun e => hne (by
    rw [e] at hle
    exact List.eq_nil_of_length_eq_zero hle.symm)
  have hi : its.toArray.isEmpty = false := by
    cases its with
    | nil => exact absurd rfl hn
    | cons a b => rfl
  have c0 : (decide (((k : Nat) : Int) < -(2 ^ 63)) || decide (((k : Nat) : Int) ≥ 2 ^ 63)) = false := by
    rw [decide_eq_false (by omega), decide_eq_false (by omega)] <;> rfl
  by_cases k1 : k = 1
  · subst k1
    refine wpAny_binaryOp_repeat_ref (T := "tuple") (U := "int") (by decide) ⟨_, ho, rfl⟩ (fun s' => typeIs_int s' _ t) noFill_tuple_mul F.fills_int_mul F.slot_int_rmul repeat_tuple F.slot_int_index.lookup
      (call_meets F.slot_int_rmul (typeIs_int s _ t) F.entry_int_rmul (F.args_int_rmul_2 _ _) (int_rmul_tuple _ t l its.toArray n dd sl)
        ⟨ho, rfl, ⟨_, ho, rfl⟩, call_meets F.slot_tuple_mul ⟨_, ho, rfl⟩ F.entry_tuple_mul (F.args_tuple_mul_2 _ _) (tuple_mul_same l its.toArray n dd sl _ t c0 (by rw [hi]; rfl)) ⟨ho, ?_⟩⟩)
    refine ⟨.ref l, H, I, rfl, q l H (Gr.refl H) ?_⟩
    rw [List.replicate_one, List.flatten_singleton]
    exact hT
  · have k0 : k = 0 := by omega
    subst k0
    refine wpAny_binaryOp_repeat_ref (T := "tuple") (U := "int") (by decide) ⟨_, ho, rfl⟩ (fun s' => typeIs_int s' _ t) noFill_tuple_mul F.fills_int_mul F.slot_int_rmul repeat_tuple F.slot_int_index.lookup
      (call_meets F.slot_int_rmul (typeIs_int s _ t) F.entry_int_rmul (F.args_int_rmul_2 _ _) (int_rmul_tuple _ t l its.toArray n dd sl)
        ⟨ho, rfl, ⟨_, ho, rfl⟩, call_meets F.slot_tuple_mul ⟨_, ho, rfl⟩ F.entry_tuple_mul (F.args_tuple_mul_2 _ _) (tuple_mul_none l its.toArray n dd sl _ t c0 (by rw [hi]; rfl) (by rfl)) ⟨ho, ?_⟩⟩)
    refine ⟨.ref s.heap.objs.size, _, I.laid (t' := s.toks) (o := .tup (List.replicate 0 xs).flatten) (fun b ob q => Heap.get?_push_of_some _ q) (Nat.le_refl _) ?_, rfl, q _ _ (Gr.new (I.hok.fresh (Nat.le_refl _))) (.inl (.inl upd_same))⟩
    exact ⟨Nat.zero_le _, _, .nil, IsTup.new _ _⟩
/-- t != () -/
def rNeT0 (K : PySem.W.Frag) : R2 := fun x y H Q => ∃ (p q : Addr) (l : List V), x = .ref p ∧ y = .ref q ∧ SqT K H p l ∧ SqT K H q [] ∧ Q (.bl (!l.isEmpty)) H
theorem op_neT0 {k : Nat} (hr : Room k X.A) : OpR X (compareOp .NotEq) (rNeT0 X.K) := by
  intro pins s σ H x y v u Q I rx ry h
  obtain ⟨p, q, l, rfl, rfl, hp, hq, g⟩ := h
  cases rx
  cases ry
  have hu : X.A.units < cLine := by
    have := hr.un
    omega
  obtain ⟨us, rv, tp, _⟩ := I.tuple hp
  obtain ⟨ws, rw', tq, _⟩ := I.tuple hq
  cases rw'
  show wpAny _ _ (richCompare .NotEq _ _) _ _ s
  refine SeqAt.RcNeAt.tuples (e := fun _ => true) tp tq hu (fun j h1 h2 => absurd h2 (by simp)) _ _ _ _ ?_
  have e : (!((List.range (min us.toArray.size ([] : List Value).toArray.size)).all (fun _ => true) && us.toArray.size == ([] : List Value).toArray.size)) = !l.isEmpty := by
    cases rv with
    | nil => rfl
    | cons a b => simp
  rw [e]
  exact ⟨.bl _, H, I, rfl, g⟩
end
end SfG
/-! data of plain texts is shown by a plain text; str of it -/
namespace SfG
open PySem PySem.Spec PyProof.Rows L2
def AscT (z : Str) : Prop := ∀ c ∈ z.cps.toList, c < 128
theorem ascT_app {a b : Str} (ha : AscT a) (hb : AscT b) : AscT (a ++ b) := by
  intro c hc
  have hc : c ∈ TL.tl (a ++ b) := hc
  rw [TL.tl_append] at hc
  rcases List.mem_append.mp hc with h | h
  · exact ha c h
  · exact hb c h
theorem ascT_char (q c : Nat) (hq : q = 34 ∨ q = 39) (hc : c < 128) : ∀ e ∈ PySem.Builtin.Str.reprChar q c, e < 128 := by
  have h : ((List.range 128).all fun c => (PySem.Builtin.Str.reprChar 34 c).all (fun e => decide (e < 128)) && (PySem.Builtin.Str.reprChar 39 c).all (fun e => decide (e < 128))) = true := by decide +kernel
  have h1 := List.all_eq_true.mp h c (List.mem_range.mpr hc)
  rw [Bool.and_eq_true] at h1
  intro e he
  rcases hq with rfl | rfl
  · exact of_decide_eq_true (List.all_eq_true.mp h1.1 e he)
  · exact of_decide_eq_true (List.all_eq_true.mp h1.2 e he)
theorem ascT_fold (q : Nat) (hq : q = 34 ∨ q = 39) : ∀ (l : List Nat) (acc : Array Nat), (∀ c ∈ l, c < 128) → (∀ c ∈ acc.toList, c < 128) → ∀ c ∈ (l.foldl (fun out c => out ++ (PySem.Builtin.Str.reprChar q c).toArray) acc).toList, c < 128
  | [], acc, _, h => h
  | x :: r, acc, hl, h => by
    refine ascT_fold q hq r _ (fun c hc => hl c (List.mem_cons_of_mem _ hc)) fun c hc => ?_
    rw [Array.toList_append] at hc
    rcases List.mem_append.mp hc with h1 | h1
    · exact h c h1
    · exact ascT_char q x hq (hl x List.mem_cons_self) c h1
theorem ascT_repr {x : Str} (h : AscT x) : AscT (reprText x) := by
  have hq : reprQuote x = 34 ∨ reprQuote x = 39 := by
    unfold reprQuote
    split
    · exact .inl rfl
    · exact .inr rfl
  intro c hc
  unfold reprText at hc
  rw [Array.toList_push] at hc
  rcases List.mem_append.mp hc with h1 | h1
  · rw [← Array.foldl_toList] at h1
    refine ascT_fold (reprQuote x) hq x.cps.toList #[reprQuote x] h (fun c hc => ?_) c h1
    have : c = reprQuote x := by simpa using hc
    omega
  · have : c = reprQuote x := by simpa using h1
    omega
theorem ascT_lit {z : String} (h : ((Str.ofString z).cps.toList.all fun c => decide (c < 128)) = true) : AscT (Str.ofString z) := fun c hc => of_decide_eq_true (List.all_eq_true.mp h c hc)
theorem ascT_from : ∀ (ts : List Str) (k : Nat) (acc : Str), AscT acc → (∀ t ∈ ts, AscT t) → AscT (textFrom k acc ts)
  | [], _, acc, h, _ => h
  | t :: r, k, acc, h, ht => by
    refine ascT_from r (k + 1) _ (ascT_app (ascT_app h ?_) (ht t List.mem_cons_self)) fun t h => ht t (List.mem_cons_of_mem _ h)
    split
    · exact ascT_lit (by decide +kernel)
    · exact ascT_lit (by decide +kernel)
theorem ascT_join : ∀ (ts : List Str), (∀ t ∈ ts, AscT t) → AscT (Str.join ", " ts)
  | [], _ => by
    intro c hc
    cases hc
  | [x], h => h x List.mem_cons_self
  | x :: y :: r, h => ascT_app (ascT_app (h x List.mem_cons_self) (ascT_lit (by decide +kernel))) (ascT_join (y :: r) fun t ht => h t (List.mem_cons_of_mem _ ht))
theorem ascT_int (i : Int) : AscT (Str.ofString (toString i)) := by
  have nat : ∀ n : Nat, AscT (Str.ofString (toString ((n : Nat) : Int))) := fun n c hc => by
    have hc : c ∈ TL.tl (Str.ofString (toString ((n : Nat) : Int))) := hc
    rw [TL.tl_num] at hc
    have := TL.numL_digits n c hc
    omega
  cases i with
  | ofNat n => exact nat n
  | negSucc m =>
    have e : (Str.ofString (toString (Int.negSucc m))).cps.toList = 45 :: (Str.ofString (toString (((m + 1 : Nat) : Nat) : Int))).cps.toList := by
      have e1 : toString (Int.negSucc m) = "-" ++ toString (((m + 1 : Nat) : Nat) : Int) := rfl
      rw [e1, Str.ofString_eq_toList, Str.ofString_eq_toList, String.toList_append, List.map_append]
      rfl
    intro c hc
    rw [e] at hc
    rcases List.mem_cons.mp hc with h | h
    · omega
    · exact nat (m + 1) c h
mutual
theorem okd_asc : ∀ {d : PyData}, okd d = true → AscT d.shown
  | .none, _ => ascT_lit (by decide +kernel)
  | .bool true, _ => ascT_lit (by decide +kernel)
  | .bool false, _ => ascT_lit (by decide +kernel)
  | .int i, _ => ascT_int i
  | .str z, h => ascT_repr (okd_str h)
  | .list ds, h => by
    rw [okd] at h
    rw [PyData.shown]
    exact ascT_app (ascT_from _ 0 _ (ascT_lit (by decide +kernel)) (okdA_asc h)) (ascT_lit (by decide +kernel))
  | .tuple ds, h => by
    rw [okd] at h
    rw [PyData.shown]
    unfold tupleText
    refine ascT_app (ascT_app (ascT_lit (by decide +kernel)) (ascT_join _ (okdA_asc h))) ?_
    split
    · exact ascT_lit (by decide +kernel)
    · exact ascT_lit (by decide +kernel)
  | .dict [], _ => by
    intro c hc
    have h : ((PyData.dict []).shown.cps.toList.all fun c => decide (c < 128)) = true := by decide +kernel
    exact of_decide_eq_true (List.all_eq_true.mp h c hc)
  | .dict (_ :: _), h => by
    rw [okd] at h
    cases h
theorem okdA_asc : ∀ {ds : List PyData}, okdA ds = true → ∀ t ∈ PyData.shownAll ds, AscT t
  | [], _ => fun t h => by cases h
  | d :: ds, h => by
    rw [okdA, Bool.and_eq_true] at h
    intro t ht
    rw [PyData.shownAll] at ht
    rcases List.mem_cons.mp ht with rfl | ht
    · exact okd_asc h.1
    · exact okdA_asc h.2 t ht
end
/-- str(x) of data that is no text -/
def rStrD (K : PySem.W.Frag) : List V → Hp → VK → Prop := fun xs H Q =>
  ∃ (v : V) (d : PyData), xs = [v] ∧ Dp K H v d ∧ (∀ z, d ≠ .str z) ∧ d.showable = true ∧ d.hasDict = false ∧ d.depth ≤ 30 ∧ d.shown.length ≤ sizeLine ∧ Q (.str d.shown) H
theorem call_strD {X : Cx} {k : Nat} (hr : Room k X.A) (hgd : X.A.guards = some []) : CallR X (.type "str") (rStrD X.K) := by
  intro pins s σ H xs us Q I r h
  obtain ⟨v, d, rfl, hd, hns, hs, hn, hdep, hz, q⟩ := h
  obtain ⟨u, rfl, ru⟩ := vals1 r
  have hun := hr.un
  have go : ∀ a, v = .ref a → wpAny (model X.prog X.w) X.A (call (.type "str") [.ref a]) (EP X pins σ Q) X.xe s := by
    rintro a rfl
    obtain ⟨as, rd⟩ := Dp.reads I d _ _ hd (show RelV (.ref a) (.ref a) from rfl)
    refine str_of_reads rd hs (fun z => ?_) hgd (by omega) (fun _ _ z => z) (fun h' u' tk hk => ?_) hz
    · rw [hn] at z
      cases z
    · exact ⟨.str d.shown, H, I.kept hk, ⟨_, rfl⟩, q⟩
  cases hd with
  | non =>
    cases ru
    exact PySem.P.str_of_none ⟨.str _, H, I.tok _, ⟨_, rfl⟩, q⟩
  | bl b =>
    cases ru
    exact PySem.P.str_of_bool ⟨.str _, H, I.tok _, ⟨_, rfl⟩, (by cases b <;> exact q)⟩
  | int i =>
    obtain ⟨t, rfl⟩ := ru
    exact PySem.P.str_of_int (by simpa [PyData.showable] using hs) ⟨.str _, H, I.tok _, ⟨_, rfl⟩, q⟩
  | str z => exact absurd rfl (hns z)
  | lst h hx =>
    cases ru
    exact go _ rfl
  | tup h hx =>
    cases ru
    exact go _ rfl
end SfG
/-! t[::s], s told by an expression: 1 or -1 -/
namespace SfG
open PySem PySem.Spec PyProof.Rows L2
section
variable {prog : Program} {w : World} {A : Around} {E : Value → Shared → Prop} {s : Shared}
theorem places_one (n : Nat) : Builtin.Slice.slicePlaces 0 (n : Int) 1 = n := by
  unfold Builtin.Slice.slicePlaces
  have h1 : ((1 : Int) > 0) := by omega
  simp only [h1, if_true]
  rw [Int.ediv_one]
  split <;> omega
theorem applied_one {sl : Addr} {vl vu vs : Value} {n : Nat} {Q : Int × Int × Nat → Shared → Prop} (hs : s.heap.IsSliceOf sl vl vu vs) (pl : IsPart vl none) (pu : IsPart vu none) (pk : IsPart vs (some 1))
    (h : Q (0, 1, n) s) : wpAny (model prog w) A (Builtin.Slice.sliceApplied (.ref sl) (pure (n : Int))) Q E s := by
  obtain ⟨os, hos, hcs, hds⟩ := id hs
  unfold Builtin.Slice.sliceApplied Builtin.Slice.sliceFields
  refine wpAny_bind (wpAny_bind (wpAny_field hos hds (x := vl) rfl (wpAny_bind (wpAny_field hos hds (x := vu) rfl (wpAny_bind (wpAny_field hos hds (x := vs) rfl (wpAny_pure ?_)))))))
  refine wpAny_bind (HT.slicePart_ pk ?_)
  show wpAny _ _ (if ((1 : Int) == 0) = true then _ else _) _ _ s
  rw [if_neg (by decide)]
  refine wpAny_bind (HT.slicePart_ pl (wpAny_bind (HT.slicePart_ pu (wpAny_bind (wpAny_pure ?_)))))
  show wpAny _ _ (match Builtin.Slice.sliceAdjust none none 1 (n : Int) with | (lo, hi) => pure (lo, (1 : Int), Builtin.Slice.slicePlaces lo hi 1)) _ _ s
  rw [HT.adjust_gen none none n, HT.sIx_none, HT.sIx_none]
  show wpAny _ _ (pure (0, (1 : Int), Builtin.Slice.slicePlaces 0 (n : Int) 1)) _ _ s
  rw [places_one]
  exact wpAny_pure h
theorem getItem_tuple_one {t sl : Addr} {items : Array Value} {vl vu vs : Value} {Q : Value → Shared → Prop} (ht : IsTup s.heap t items) (hs : s.heap.IsSliceOf sl vl vu vs) (pl : IsPart vl none) (pu : IsPart vu none) (pk : IsPart vs (some 1))
    (h : Q (.ref t) s) : wpAny (model prog w) A (getItem (.ref t) (.ref sl)) Q E s := by
  obtain ⟨os, hos, hcs, hds⟩ := id hs
  have hTs : s.TypeIs (.ref sl) "slice" := ⟨os, hos, hcs⟩
  unfold getItem
  try with_reducible refine wpAny_holding ?_
  first | refine wpAny_bind (wpAny_pure ?_) | skip
  refine wpAny_bind (wpAny_sequenceKey ht.typeIs (by decide) ?_)
  refine wpAny_bind (wpAny_callSpecial?_slot (name := Str.ofString "__getitem__") ht.typeIs PyProof.Rows.slot_tuple_getitem
    (wpAny_call_entry PyProof.Rows.slot_tuple_getitem ht.typeIs entry_tuple_getitem ?_ (args_tuple_getitem _ _)))
  show wpAny _ _ (Builtin.Tuple.tupleItemsOf (.ref t) >>= _) _ _ s
  refine wpAny_bind (tupleItemsOf_ ht ?_)
  refine wpAny_bind (wpAny_typeOf hTs ?_)
  rw [if_pos (by decide)]
  refine wpAny_bind (applied_one hs pl pu pk ?_)
  have hyes : ((0 : Int) == 0 && (1 : Int) == 1 && items.size == items.size) = true := by simp
  show wpAny _ _ (if ((0 : Int) == 0 && (1 : Int) == 1 && items.size == items.size) = true then _ else _) _ _ s
  rw [if_pos hyes]
  refine wpAny_bind ?_
  show wpAny _ _ (typeOf (.ref t) >>= fun T => pure (T == .type "tuple")) _ _ s
  refine wpAny_bind (wpAny_typeOf ht.typeIs (wpAny_pure ?_))
  first
    | rw [if_pos (by decide)]
    | simp only [beq_self_eq_true, if_true]
  first
    | exact wpAny_bind (wpAny_rule (wpAny_pure ⟨_, rfl, wpAny_pure h⟩))
    | exact wpAny_bind (wpAny_rule (wpAny_bind (wpAny_pure (wpAny_pure ⟨_, rfl, wpAny_pure h⟩))))
end
section
variable {X : Cx}
def tStepT (K : PySem.W.Frag) (te ts : TE) : TE := fun σ H Q => te σ H fun x H1 => ∃ a xs, x = .ref a ∧ SqT K H1 a xs ∧ tPart ts σ H1 fun o H2 => ∃ i : Int, o = some i ∧ SqT K H2 a xs ∧
  ((i = 1 ∧ Q (.ref a) H2) ∨ (i = -1 ∧ ∀ p, H2 p = none → Q (.ref p) (upd H2 p (.tup xs.reverse))))
theorem pe_stepT {e st : Expr} {te ts : TE} {p3 pos : Pos} (he : PE X e te) (hs : PE X st ts) : PE X (.Subscript e (.Slice none none (some st) p3) pos) (tStepT X.K te ts) := by
  refine ⟨fun pins s σ H Q I h => ?_⟩
  refine Subscript_ (thn (he.run pins s σ H _ I h) fun v s1 ⟨x, H1, I1, r1, q1⟩ => ?_)
  obtain ⟨a, xs, ex, hx, q⟩ := q1
  subst ex
  cases r1
  have hst : PO X (some st) (tPart ts) := po_some hs
  refine wpAny_Slice (thn (po_none.run pins s1 σ H1 (fun o H2 => o = none ∧ H2 = H1) I1 ⟨rfl, rfl⟩) fun vl s2 ⟨l, H2, I2, pl, el, e2⟩ => ?_)
  subst el e2
  refine thn (po_none.run pins s2 σ H2 (fun o H3 => o = none ∧ H3 = H2) I2 ⟨rfl, rfl⟩) fun vu s3 ⟨u, H3, I3, pu, eu, e3⟩ => ?_
  subst eu e3
  refine thn (hst.run pins s3 σ H3 _ I3 q) fun vs s4 ⟨o, H4, I4, ps, i, eo, hx4, hq⟩ => ?_
  subst eo
  have I5 : Inv X pins σ H4 { s4 with heap := s4.heap.push { cls := .type "slice", data := .fields #[vl, vu, vs] } } := I4.kept (t' := s4.toks) fun b ob q => Heap.get?_push_of_some _ q
  obtain ⟨its, r, ht, hz⟩ := I5.tuple hx4
  have hlen := r.length
  show wpAny (model X.prog X.w) X.A (subscriptTail e (.Slice none none (some st) p3) (.ref a) (.ref s4.heap.objs.size)) (EP X pins σ Q) X.xe { s4 with heap := s4.heap.push { cls := .type "slice", data := .fields #[vl, vu, vs] } }
  refine tail_any (ops := [.ref a, .ref s4.heap.objs.size]) ht.typeIs (PyProof.Rows.slot_tuple_getitem.lookup) ?_ (by with_unfolding_all rfl)
  rcases hq with ⟨rfl, q⟩ | ⟨rfl, q⟩
  · exact getItem_tuple_one ht (Heap.IsSliceOf.new _ vl vu vs) pl pu ps ⟨.ref a, _, I5, rfl, q⟩
  · refine getItem_tuple_rev ht (Heap.IsSliceOf.new _ vl vu vs) pl pu ps ?_ (by rw [List.size_toArray]; omega)
    refine ⟨.ref _, _, I5.laid (t' := s4.toks) (o := .tup xs.reverse) (fun b ob q => Heap.get?_push_of_some _ q) (Nat.le_refl _) ?_, rfl, q _ (I5.hok.fresh (Nat.le_refl _))⟩
    exact ⟨by rw [List.length_reverse]; exact hz, _, r.reverse, IsTup.new _ _⟩
end
end SfG
namespace SfE
open PySem PySem.Spec PyProof.Rows L2 SfG
def topS (i : Nat) : Stmt := PySem.Challenge.pw_sameface_k09_bodies_looked_at.main.body.getD i (.Pass ⟨0, 0, 0, 0⟩)
abbrev sLbe : Stmt := topS 4
abbrev sLbb : Stmt := topS 5
abbrev sIsB : Stmt := topS 6
abbrev sBelow : Stmt := topS 7
abbrev sParts : Stmt := topS 8
abbrev sDeepI : Stmt := topS 9
abbrev sOdd : Stmt := topS 17
abbrev sBent : Stmt := topS 18
abbrev sTru : Stmt := topS 19
abbrev sRight : Stmt := topS 20
abbrev sSum : Stmt := topS 21
abbrev sChain : Stmt := topS 22
abbrev sWhens : Stmt := topS 23
abbrev sCase : Stmt := topS 24
abbrev sDeepR : Stmt := topS 25
abbrev sBoundR : Stmt := topS 26
abbrev sLaw : Stmt := topS 27
/-! ### Es and bodies -/
inductive Ex where
  | num (n : Int)
  | inp (k f : Nat)
  | bin (w : Nat) (a b : Ex)
  | rst (a : Ex) (n : Int)
  | iff (a b c : Ex)
def opw : Nat → Str
  | 0 => "plus"
  | 1 => "less"
  | 2 => "times"
  | 3 => "same"
  | _ => "under"
def Ex.d : Ex → PyData
  | .num n => .tuple [.str "number", .int n]
  | .inp k f => .tuple [.str "in", .int k, .int f]
  | .bin w a b => .tuple [.str (opw w), a.d, b.d]
  | .rst a n => .tuple [.str "rest", a.d, .int n]
  | .iff a b c => .tuple [.str "if", a.d, b.d, c.d]
/-- an E as the document has it, for things of so many fields -/
def okE (cs : List Nat) : Ex → Prop
  | .num n => 0 ≤ n ∧ n ≤ 99
  | .inp k f => ∃ c, cs[k]? = some c ∧ f < c
  | .bin w a b => w ≤ 4 ∧ okE cs a ∧ okE cs b
  | .rst a n => 2 ≤ n ∧ n ≤ 99 ∧ okE cs a
  | .iff a b c => okE cs a ∧ okE cs b ∧ okE cs c
def dep : Ex → Nat
  | .num _ => 1
  | .inp _ _ => 1
  | .bin _ a b => 1 + max (dep a) (dep b)
  | .rst a _ => 1 + dep a
  | .iff a b c => 1 + max (dep a) (max (dep b) (dep c))
/-- how many ends an E has -/
def lvs : Ex → Nat
  | .num _ => 1
  | .inp _ _ => 1
  | .bin _ a b => lvs a + lvs b
  | .rst a _ => lvs a
  | .iff a b c => lvs a + lvs b + lvs c
theorem lvs_pos : ∀ e : Ex, 1 ≤ lvs e
  | .num _ => Nat.le_refl 1
  | .inp _ _ => Nat.le_refl 1
  | .bin _ a b => by have := lvs_pos a; simp only [lvs]; omega
  | .rst a _ => lvs_pos a
  | .iff a b c => by have := lvs_pos a; simp only [lvs]; omega
theorem opw_ne (w : Nat) : V.str (opw w) ≠ .str "number" ∧ V.str (opw w) ≠ .str "in" ∧ V.str (opw w) ≠ .str "rest" ∧ V.str (opw w) ≠ .str "if" := by
  unfold opw
  split <;> decide +kernel
theorem opw_is (w v : Nat) (hw : w ≤ 4) (hv : v ≤ 3) : decide (V.str (opw w) = V.str (opw v)) = decide (w = v) := by
  have : w = 0 ∨ w = 1 ∨ w = 2 ∨ w = 3 ∨ w = 4 := by omega
  have : v = 0 ∨ v = 1 ∨ v = 2 ∨ v = 3 := by omega
  rcases ‹w = 0 ∨ _› with rfl | rfl | rfl | rfl | rfl <;> rcases ‹v = 0 ∨ _› with rfl | rfl | rfl | rfl <;> decide +kernel
inductive Bd where
  | ref
  | giv (es : List Ex)
  | whn (e : Ex) (a b : Bd)
def Bd.d : Bd → PyData
  | .ref => .tuple [.str "refuse"]
  | .giv es => .tuple [.str "give", .tuple (es.map Ex.d)]
  | .whn e a b => .tuple [.str "when", e.d, a.d, b.d]
/-- an E that is good, not too deep -/
def goE (cs : List Nat) (n : Nat) (e : Ex) : Prop := okE cs e ∧ dep e ≤ n ∧ lvs e ≤ 9
def okB (cs : List Nat) (n m : Nat) : Bd → Prop
  | .ref => True
  | .giv es => es.length = m ∧ ∀ e ∈ es, goE cs n e
  | .whn e a b => goE cs n e ∧ okB cs n m a ∧ okB cs n m b
def depB : Bd → Nat
  | .ref => 1
  | .giv _ => 1
  | .whn _ a b => 1 + max (depB a) (depB b)
theorem dpA_ex {K : PySem.W.Frag} {H : Hp} {xs : List V} {es : List Ex} (h : DpAll K H xs (es.map Ex.d)) {i : Nat} {x : V} (hx : xs[i]? = some x) : ∃ e, es[i]? = some e ∧ Dp K H x e.d := by
  have hl := dpA_len h
  rw [List.length_map] at hl
  have hi : i < xs.length := by
    rcases Nat.lt_or_ge i xs.length with h1 | h1
    · exact h1
    · rw [List.getElem?_eq_none h1] at hx
      cases hx
  have hi' : i < es.length := by omega
  obtain ⟨y, hy, hd⟩ := dpA_get (i := i) (d := (es[i]).d) h (by simp [hi'])
  rw [hx] at hy
  cases hy
  exact ⟨es[i], by simp [hi'], hd⟩
end SfE
namespace SfE
open PySem PySem.Spec PyProof.Rows L2 SfG
/-! ### left_by_expression, left_by_body -/
abbrev nLbe : List Str := ["thing", "takes", "counts", "deep", "left", "size", "word", "first", "second", "fits"]
theorem scLbe : FnScope nLbe ["thing", "takes", "counts", "deep", "left"] (defScope sLbe) := ⟨rfl, rfl, rfl, by decide +kernel, rfl, by decide +kernel, by decide +kernel⟩
def amg (d : PyData) (lo hi : Int) : Bool := match d with
  | .int i => decide (lo ≤ i) && decide (i ≤ hi)
  | _ => false
/-- so many fields has the i-th kind -/
def cAt (cs : List Nat) (i : Int) : Int := ((cs.getD i.toNat 1 : Nat) : Int)
def inE (cs : List Nat) (a b : PyData) (left : Int) : Int := if (amg a 0 ((cs.length : Int) - 1) && amg b 0 (cAt cs (match a with | .int i => i | _ => 0) - 1)) = true then left - 1 else -1
def pairW (d : PyData) : Bool := (["plus", "less", "times", "same", "under"] : List Str).any fun z => eqS d z
/-- what left_by_expression tells -/
def lbe (cs : List Nat) : Nat → PyData → Int → Int
  | 0, _, _ => -1
  | dp + 1, d, left => match d with
    | .tuple [w, a, b] => if eqS w "in" = true then inE cs a b left else if dp = 0 ∨ left < 1 then -1 else if pairW w = true then lbe cs dp b (lbe cs dp a (left - 1)) else if (eqS w "rest" && amg b 2 99) = true then lbe cs dp a (left - 1) else -1
    | .tuple [w, a] => if (eqS w "number" && amg a 0 99) = true then left - 1 else -1
    | .tuple [w, a, b, c] => if eqS w "if" = true ∧ dp ≠ 0 ∧ 0 < left then lbe cs dp c (lbe cs dp b (lbe cs dp a (left - 1))) else -1
    | _ => -1
/-- what takes and counts hold -/
structure TC (H : Hp) (tk ct : Addr) (cs : List Nat) : Prop where
  tk : H tk = some (.lst ((List.range cs.length).map fun j : Nat => V.int (j : Nat)))
  ct : ∃ kvs : List (Key × V), H ct = some (.dK kvs) ∧ ∀ (i : Nat) (c : Nat), cs[i]? = some c → valV kvs (Sum.inl ((i : Nat) : Int)) = some (.int (c : Nat))
  sm : cs.length ≤ 1000
theorem TC.gr {H H' : Hp} {tk ct : Addr} {cs : List Nat} (h : TC H tk ct cs) (g : Gr H H') : TC H' tk ct cs := by
  obtain ⟨h1, ⟨kvs, h2, h3⟩, h4⟩ := h
  exact ⟨g.lst h1, ⟨kvs, g.dic h2, h3⟩, h4⟩
/-- the number that a thing is, a truth too -/
def numD : PyData → Option Int
  | .int i => some i
  | .bool b => some (SfG.b2i b)
  | _ => none
theorem num_vd {K : PySem.W.Frag} {H : Hp} {v : V} {d : PyData} (h : Dp K H v d) : numV v = numD d := by
  cases h <;> rfl
theorem kit_intN {d : PyData} : kitB (tyD d) "int" = some (numD d).isSome := by
  cases d with
  | none => decide +kernel
  | bool b => show kitB "bool" "int" = some true; decide +kernel
  | int i => show kitB "int" "int" = some true; decide +kernel
  | str z => show kitB "str" "int" = some false; decide +kernel
  | list l => show kitB "list" "int" = some false; decide +kernel
  | tuple l => show kitB "tuple" "int" = some false; decide +kernel
  | dict l => show kitB "dict" "int" = some false; decide +kernel
/-- not a truth -/
def notT : PyData → Bool
  | .bool _ => false
  | _ => true
def isTr (d : PyData) (b : Bool) : Bool := match d with
  | .bool c => decide (c = b)
  | _ => false
/-- `x is not True`, x a number or a truth -/
theorem not_bx {K : PySem.W.Frag} {H : Hp} {v : V} {d : PyData} {b : Bool} {Q : VK} (h : Dp K H v d) (hn : (numD d).isSome = true) (q : Q (.bl (!isTr d b)) H) : rNotBx v (.bl b) H Q := by
  cases h with
  | int i => exact ⟨b, rfl, .inr ⟨i, rfl, q⟩⟩
  | bl c => exact ⟨b, rfl, .inl ⟨c, rfl, q⟩⟩
  | _ => cases hn
theorem both_tr (d : PyData) : (!isTr d true && !isTr d false) = notT d := by
  cases d with
  | bool b => cases b <;> rfl
  | _ => rfl
theorem tup_or (d : PyData) : (tyD d == "tuple") = false ∧ (∀ cs dp l, lbe cs dp d l = -1) ∨ ∃ ds, d = .tuple ds := by
  have no : (∀ ds, d ≠ .tuple ds) → ∀ cs dp l, lbe cs dp d l = -1 := fun h cs dp l => by
    cases dp with
    | zero => rw [lbe]
    | succ n =>
      cases d with
      | tuple ds => exact absurd rfl (h ds)
      | _ => rw [lbe]; all_goals (intros; first | (intro z; cases z) | contradiction)
  cases d with
  | tuple ds => exact .inr ⟨ds, rfl⟩
  | none => exact .inl ⟨by show ("NoneType" == "tuple") = false; decide, no (fun ds z => by cases z)⟩
  | bool _ => exact .inl ⟨by show ("bool" == "tuple") = false; decide, no (fun ds z => by cases z)⟩
  | int _ => exact .inl ⟨by show ("int" == "tuple") = false; decide, no (fun ds z => by cases z)⟩
  | str _ => exact .inl ⟨by show ("str" == "tuple") = false; decide, no (fun ds z => by cases z)⟩
  | list _ => exact .inl ⟨by show ("list" == "tuple") = false; decide, no (fun ds z => by cases z)⟩
  | dict _ => exact .inl ⟨by show ("dict" == "tuple") = false; decide, no (fun ds z => by cases z)⟩
end SfE
namespace SfE
open PySem PySem.Spec PyProof.Rows L2 SfG
abbrev fiveW : List Str := ["plus", "less", "times", "same", "under"]
section
variable {P : Program} {w : World} {K : PySem.W.Frag} {mg : Str → Option Value} {base : Heap}
def spLbe (K : PySem.W.Frag) (n : Nat) : Sp := fun vs H Q _ => ∃ (t : V) (d : PyData) (tk ct : Addr) (cs : List Nat) (dp : Nat) (left : Int), vs = [t, .ref tk, .ref ct, .int ((dp + 1 : Nat) : Int), .int left] ∧ Dp K H t d ∧ TC H tk ct cs ∧ dp + 1 ≤ n ∧ Q (.int (lbe cs (dp + 1) d left)) H
theorem chain_le {σ : L2.St} {x : V} {i lo hi : Int} (hn : numV x = some i) {Q : VK} {H : Hp} (q : Q (.bl (decide (lo ≤ i) && decide (i ≤ hi))) H) : rXL (.int lo) x H fun z H3 => ∃ k, z = .bl k ∧ (if k = true then tC (.int hi) σ H3 (fun w' H4 => rYle x w' H4 Q) else Q (.bl false) H3) := by
  refine ⟨lo, i, rfl, hn, _, rfl, ?_⟩
  cases h : decide (lo ≤ i) with
  | true =>
    rw [h] at q
    exact iteT ⟨i, hi, hn, rfl, q⟩
  | false =>
    rw [h] at q
    exact iteF q
theorem chain_lt {σ : L2.St} {x : V} {i lo hi : Int} (hn : numV x = some i) {Q : VK} {H : Hp} (q : Q (.bl (decide (lo ≤ i) && decide (i < hi))) H) : rXL (.int lo) x H fun z H3 => ∃ k, z = .bl k ∧ (if k = true then tC (.int hi) σ H3 (fun w' H4 => rYlt x w' H4 Q) else Q (.bl false) H3) := by
  refine ⟨lo, i, rfl, hn, _, rfl, ?_⟩
  cases h : decide (lo ≤ i) with
  | true =>
    rw [h] at q
    exact iteT ⟨i, hi, hn, rfl, q⟩
  | false =>
    rw [h] at q
    exact iteF q
/-- beyond four -/
theorem not_bxC {K : PySem.W.Frag} {H : Hp} {σ : L2.St} {v : V} {d : PyData} {b : Bool} {Q : VK} (h : Dp K H v d) (hn : (numD d).isSome = true) (q : Q (.bl (!isTr d b)) H) : tC (.bl b) σ H (fun y H2 => rNotBx v y H2 Q) := not_bx h hn q
theorem three_or (ds : List PyData) : (∃ w a b, ds = [w, a, b]) ∨ (∃ w a, ds = [w, a]) ∨ (∃ w a b c, ds = [w, a, b, c]) ∨ ((∀ cs m l, lbe cs (m + 1) (.tuple ds) l = -1) ∧ ds.length ≠ 3 ∧ ds.length ≠ 2 ∧ ds.length ≠ 4) := by
  match ds with
  | [] => exact .inr (.inr (.inr ⟨fun _ _ _ => rfl, by decide, by decide, by decide⟩))
  | [_] => exact .inr (.inr (.inr ⟨fun _ _ _ => rfl, by simp, by simp, by simp⟩))
  | [w, a] => exact .inr (.inl ⟨w, a, rfl⟩)
  | [w, a, b] => exact .inl ⟨w, a, b, rfl⟩
  | [w, a, b, c] => exact .inr (.inr (.inl ⟨w, a, b, c, rfl⟩))
  | a :: b :: c :: e :: f :: r => exact .inr (.inr (.inr ⟨fun _ _ _ => rfl, by simp only [List.length_cons]; omega, by simp only [List.length_cons]; omega, by simp only [List.length_cons]; omega⟩))
theorem amg_int (i lo hi : Int) : amg (.int i) lo hi = (decide (lo ≤ i) && decide (i ≤ hi)) := rfl
theorem num_cases (d : PyData) : (∃ i, d = .int i) ∨ (∃ b, d = .bool b) ∨ (numD d = none ∧ ∀ lo hi, amg d lo hi = false) := by
  cases d with
  | int i => exact .inl ⟨i, rfl⟩
  | bool b => exact .inr (.inl ⟨b, rfl⟩)
  | _ => exact .inr (.inr ⟨rfl, fun _ _ => rfl⟩)
theorem lbe_long (cs : List Nat) (m : Nat) (a b c e f : PyData) (r : List PyData) (l : Int) : lbe cs (m + 1) (.tuple (a :: b :: c :: e :: f :: r)) l = -1 := rfl
set_option maxHeartbeats 4000000 in
theorem ok_lbe {f pw : Addr} {fd : FuncData} (F : Fun K "left_by_expression" "left_by_expression" sLbe f fd) (bL : Binds K fd ["thing", "takes", "counts", "deep", "left"] []) (gL : mg "left_by_expression" = some (.ref f))
    (mi : mg "isinstance" = none) (mt : mg "tuple" = none) (mn : mg "int" = none) (ml : mg "len" = none) (gP : mg "PAIR_WORDS" = some (.ref pw)) (hP : ∀ H : Hp, SqT K H pw (fiveW.map V.str)) :
    ∀ n, FnOk P w K mg base CX0 (n + 1) f fd ["thing", "takes", "counts", "deep", "left"] (spLbe K n)
  | 0 => by
    refine F.ok scLbe (fun vs H Q E h => ?_) (fun cdv A outer s H vs Q E hr h => ?_)
    · obtain ⟨t, d, tk, ct, cs, dp, left, rfl, _⟩ := h
      rfl
    · obtain ⟨t, d, tk, ct, cs, dp, left, rfl, _, _, hd, _⟩ := h
      omega
  | n + 1 => by
    have GL := ok_lbe F bL gL mi mt mn ml gP hP n
    refine F.ok scLbe (fun vs H Q E h => ?_) (fun cdv A outer s H vs Q E hr h => ?_)
    · obtain ⟨t, d, tk, ct, cs, dp, left, rfl, _⟩ := h
      rfl
    · obtain ⟨t, d, tk, ct, cs, dp, left, rfl, hd0, tc, hdp, q⟩ := h
      have nd := scLbe.nd
      obtain ⟨htk, ⟨kvs, hct, hkv⟩, hsm⟩ := tc
      have tc : TC H tk ct cs := ⟨htk, ⟨kvs, hct, hkv⟩, hsm⟩
      refine' ⟨_, pss_cons ?s1 (pss_one ?s2), ?rd⟩
      case s1 =>
        refine' ps_while PassesOwn.never (pt_val (pe_isi "tuple" 0 mi mt (by decide +kernel))) (pss_cons ?w1 (pss_one (ps_if (pt_cmpR op_eq (pv 5) pe_int (nomark _)) (pss_cons ?a1 (pss_cons ?a2 (pss_cons ?a3 (pss_cons ?a4 (pss_cons ?a5 (pss_one ?a6))))))
          (pss_one (ps_if (pt_cmpR op_eq (pv 5) pe_int (nomark _)) (pss_cons ?b1 (pss_cons ?b2 (pss_one ?b3))) (pss_one ?c1))))))
        case w1 => exact ps_set (i := 5) nd rfl (.inl rfl) (pe_callB call_len_seq (by rfl) ml PySem.boot_len (pa_cons (pv 0) pa_nil))
        case a1 => exact ps_asg (pv 0) (pg_tup rfl (pgs_cons (pg_name (i := 6) nd rfl (.inl rfl)) (pgs_cons (pg_name (i := 7) nd rfl (.inl rfl)) (pgs_cons (pg_name (i := 8) nd rfl (.inl rfl)) pgs_nil))))
        case a2 =>
          exact ps_if (pt_cmpR (op_eqXS hr) (pv 6) pe_str (nomark _)) (pss_cons (ps_if (PW.pt (pw_and (pt_val (pe_isi "int" 7 mi mn (by decide +kernel))) (pw_and (pt_val (pe_isi "int" 8 mi mn (by decide +kernel))) (pw_and1 (pt_chain op_leN op_ltY pe_int (pv 7) (pe_callB call_len_seq (by rfl) ml PySem.boot_len (pa_cons (pv 1) pa_nil)))))))
              (pss_one (ps_if (PW.pt (pw_and (pt_cmpR op_notBx (pv 7) pe_bl (nomark _)) (pw_and (pt_cmpR op_notBx (pv 7) pe_bl (nomark _)) (pw_and (pt_cmpR op_notBx (pv 8) pe_bl (nomark _)) (pw_and1 (pt_cmpR op_notBx (pv 8) pe_bl (nomark _)))))))
                (pss_one (ps_ret (pe_ifExp (pt_chain op_leN op_ltY pe_int (pv 8) (pe_dget2 (hu_of hr) (pv 2) (pe_ix ix_list (pv 1) (pv 7) (fun _ _ => rfl)) pe_int ⟨rfl, rfl, rfl, rfl⟩)) (pe_op op_sub (pv 4) pe_int) (pe_un un_neg pe_int)))) pss_nil)) pss_nil)
            (pss_one (ps_ret (pe_un un_neg pe_int)))) pss_nil
        case a3 => exact ps_if (PW.pt (pw_or (pt_cmpR op_lt (pv 3) pe_int (nomark _)) (pw_or1 (pt_cmpR op_lt (pv 4) pe_int (nomark _))))) (pss_one (ps_ret (pe_un un_neg pe_int))) pss_nil
        case a4 => exact ps_aug (i := 3) nd rfl (.inl rfl) pe_int ip_sub
        case a5 => exact ps_aug (i := 4) nd rfl (.inl rfl) pe_int ip_sub
        case a6 =>
          exact ps_if (pt_cmpR (op_inXS hr) (pv 6) (pe_glob (v := .ref pw) rfl gP rfl) rfl)
            (pss_cons (ps_set (i := 4) nd rfl (.inl rfl) (pe_call GL hr (by rfl) gL F.kp bL .nil pass0 (pa_cons (pv 7) (pa_cons (pv 1) (pa_cons (pv 2) (pa_cons (pv 3) (pa_cons (pv 4) pa_nil))))))) (pss_one (ps_set (i := 0) nd rfl (.inl rfl) (pv 8))))
            (pss_one (ps_if (PW.pt (pw_and (pt_cmpR (op_eqXS hr) (pv 6) pe_str (nomark _)) (pw_and (pt_val (pe_isi "int" 8 mi mn (by decide +kernel))) (pw_and1 (pt_chain op_leN op_leY pe_int (pv 8) pe_int)))))
              (pss_one (ps_set (i := 0) nd rfl (.inl rfl) (pv 7))) (pss_one (ps_ret (pe_un un_neg pe_int)))))
        case b1 => exact ps_asg (pv 0) (pg_tup rfl (pgs_cons (pg_name (i := 6) nd rfl (.inl rfl)) (pgs_cons (pg_name (i := 7) nd rfl (.inl rfl)) pgs_nil)))
        case b2 => exact ps_set (i := 9) nd rfl (.inl rfl) (pe_and (pe_cmpR (op_eqXS hr) (pv 6) pe_str (nomark _)) (pe_and (pe_isi "int" 7 mi mn (by decide +kernel)) (pe_one (pe_chain op_leN op_leY pe_int (pv 7) pe_int))))
        case b3 => exact ps_ret (pe_ifExp (PW.pt (pw_and (pt_val (pv 9)) (pw_and (pt_cmpR op_notBx (pv 7) pe_bl (nomark _)) (pw_and1 (pt_cmpR op_notBx (pv 7) pe_bl (nomark _)))))) (pe_op op_sub (pv 4) pe_int) (pe_un un_neg pe_int))
        case c1 =>
          exact ps_if (PW.pt (pw_and (pt_cmpR op_eq (pv 5) pe_int (nomark _)) (pw_and (pt_cmpR (op_eqXS hr) (pe_ix ix_tup (pv 0) pe_int (fun _ _ => rfl)) pe_str (nomark _)) (pw_and (pt_cmpR op_gt (pv 3) pe_int (nomark _)) (pw_and1 (pt_cmpR op_gt (pv 4) pe_int (nomark _)))))))
            (pss_cons (ps_aug (i := 3) nd rfl (.inl rfl) pe_int ip_sub)
              (pss_cons (ps_set (i := 4) nd rfl (.inl rfl) (pe_call GL hr (by rfl) gL F.kp bL .nil pass0 (pa_cons (pe_ix ix_tup (pv 0) pe_int (fun _ _ => rfl)) (pa_cons (pv 1) (pa_cons (pv 2) (pa_cons (pv 3) (pa_cons (pe_op op_sub (pv 4) pe_int) pa_nil)))))))
              (pss_cons (ps_set (i := 4) nd rfl (.inl rfl) (pe_call GL hr (by rfl) gL F.kp bL .nil pass0 (pa_cons (pe_ix ix_tup (pv 0) pe_int (fun _ _ => rfl)) (pa_cons (pv 1) (pa_cons (pv 2) (pa_cons (pv 3) (pa_cons (pv 4) pa_nil)))))))
              (pss_one (ps_set (i := 0) nd rfl (.inl rfl) (pe_ix ix_tup (pv 0) pe_int (fun _ _ => rfl)))))))
            (pss_one (ps_ret (pe_un un_neg pe_int)))
      case s2 => exact ps_ret (pe_un un_neg pe_int)
      case rd =>
      refine ⟨fun m σ H1 => H1 = H ∧ ∃ (t' : V) (d' : PyData) (left' : Int) (y5 y6 y7 y8 y9 : Option V), σ = [some t', some (.ref tk), some (.ref ct), some (.int ((m + 1 : Nat) : Int)), some (.int left'), y5, y6, y7, y8, y9] ∧ Dp K H t' d' ∧ m + 1 ≤ n + 1 ∧ lbe cs (m + 1) d' left' = lbe cs (dp + 1) d left,
        ⟨dp, rfl, t, d, left, none, none, none, none, none, rfl, hd0, hdp, rfl⟩, ?_⟩
      rintro m σ H1 ⟨rfl, t', d', left', y5, y6, y7, y8, y9, rfl, hd, hm, eq⟩
      clear hd0
      have hI := dp_is hd
      refine ⟨_, rfl, _, _, hI.1, kit_tuple _ hI.2, _, rfl, ?_⟩
      rcases tup_or d' with ⟨h1, h2⟩ | ⟨ds, rfl⟩
      · rw [h1]
        rw [← eq, h2] at q
        exact iteF ⟨1, rfl, q⟩
      rw [show (tyD (.tuple ds) == "tuple") = true from by show ("tuple" == "tuple") = true; decide]
      refine iteT ⟨fun σ' H' => ∃ m', m' < m ∧ (H' = H1 ∧ ∃ (t' : V) (d' : PyData) (left' : Int) (y5 y6 y7 y8 y9 : Option V), σ' = [some t', some (.ref tk), some (.ref ct), some (.int ((m' + 1 : Nat) : Int)), some (.int left'), y5, y6, y7, y8, y9] ∧ Dp K H1 t' d' ∧ m' + 1 ≤ n + 1 ∧ lbe cs (m' + 1) d' left' = lbe cs (dp + 1) d left), fun _ _ h => h, ?_⟩
      obtain ⟨p, xs, rfl, hp, hxs⟩ := dp_tup hd
      have lx := dpA_len hxs
      have ret : ∀ {r : Int}, lbe cs (m + 1) (.tuple ds) left' = r → Q (.int r) H1 := fun e => by
        rw [← e, eq]
        exact q
      refine ⟨_, rfl, p, _, rfl, .inr hp, ?_⟩
      rcases three_or ds with ⟨dw, da, db, rfl⟩ | ⟨dw, da, rfl⟩ | ⟨dw, da, db, dc, rfl⟩ | ⟨hno, l3, l2, l4⟩
      · -- three
        obtain ⟨xw, xs, rfl, hw, hxs⟩ := dpA_cons hxs
        obtain ⟨xa, xs, rfl, ha, hxs⟩ := dpA_cons hxs
        obtain ⟨xb, xs, rfl, hb, hxs⟩ := dpA_cons hxs
        cases dpA_nil hxs
        have nva := num_vd ha
        have nvb := num_vd hb
        refine ⟨_, rfl, rfl, _, rfl, iteT ?_⟩
        refine ⟨_, rfl, p, _, rfl, hp, rfl, _, _, rfl, _, _, rfl, _, _, rfl, rfl, ?_⟩
        refine ⟨_, rfl, dw, "in", SfG.Dp.dx hw, rfl, _, rfl, ?_⟩
        have hIa := dp_is ha
        have hIb := dp_is hb
        cases hin : eqS dw "in" with
        | true =>
          have e1 : lbe cs (m + 1) (.tuple [dw, da, db]) left' = inE cs da db left' := by rw [lbe, if_pos hin]
          rw [e1] at ret
          clear e1 eq q
          refine iteT ⟨_, rfl, _, _, hIa.1, kit_intN, _, rfl, ?_⟩
          rcases num_cases da with ⟨i, rfl⟩ | ⟨ba, rfl⟩ | ⟨na, ga⟩
          case inr.inr =>
            rw [na]
            exact iteF (iteF ⟨1, rfl, ret (by unfold inE; rw [ga, Bool.false_and]; rfl)⟩)
          case inr.inl =>
            have bad : inE cs (.bool ba) db left' = -1 := rfl
            refine iteT ⟨_, rfl, _, _, hIb.1, kit_intN, _, rfl, ?_⟩
            cases nb : (numD db).isSome with
            | false => exact iteF (iteF ⟨1, rfl, ret bad⟩)
            | true =>
            refine iteT ⟨_, rfl, 0, _, rfl, nva, _, rfl, ?_⟩
            cases hc : decide ((0 : Int) ≤ SfG.b2i ba) with
            | false => exact iteF ⟨_, rfl, iteF ⟨1, rfl, ret bad⟩⟩
            | true =>
            refine iteT ⟨_, rfl, tk, _, rfl, .inl (.inl (.inl htk)), _, _, nva, rfl, _, rfl, ?_⟩
            dsimp only
            rw [List.length_map, List.length_range]
            cases hc2 : decide (SfG.b2i ba < (cs.length : Int)) with
            | false => exact iteF ⟨1, rfl, ret bad⟩
            | true =>
            refine iteT ⟨_, rfl, ?_⟩
            refine not_bxC ha rfl ?_
            refine ⟨_, rfl, ?_⟩
            cases ba with
            | true => exact iteF (iteF ⟨1, rfl, ret bad⟩)
            | false =>
              refine iteT ⟨_, rfl, ?_⟩
              refine not_bxC ha rfl ?_
              refine ⟨_, rfl, ?_⟩
              exact iteF (iteF ⟨1, rfl, ret bad⟩)
          case inl =>
            cases dp_int ha
            refine iteT ⟨_, rfl, _, _, hIb.1, kit_intN, _, rfl, ?_⟩
            rcases num_cases db with ⟨j, rfl⟩ | ⟨bb, rfl⟩ | ⟨nb, gb⟩
            case inr.inr =>
              rw [nb]
              exact iteF (iteF ⟨1, rfl, ret (by unfold inE; rw [gb, Bool.and_false]; rfl)⟩)
            all_goals
              refine iteT ⟨_, rfl, 0, i, rfl, rfl, _, rfl, ?_⟩
              by_cases c0 : (0 : Int) ≤ i
              case neg =>
                rw [decide_eq_false c0]
                refine iteF ⟨_, rfl, iteF ⟨1, rfl, ret ?_⟩⟩
                unfold inE
                rw [amg_int, decide_eq_false c0, Bool.false_and, Bool.false_and]
                rfl
              rw [decide_eq_true c0]
              refine iteT ⟨_, rfl, tk, _, rfl, .inl (.inl (.inl htk)), i, _, rfl, rfl, _, rfl, ?_⟩
              dsimp only
              rw [List.length_map, List.length_range]
              by_cases c1 : i < (cs.length : Int)
              case neg =>
                rw [decide_eq_false c1]
                refine iteF ⟨1, rfl, ret ?_⟩
                unfold inE
                rw [amg_int, decide_eq_false (show ¬ i ≤ (cs.length : Int) - 1 by omega), Bool.and_false, Bool.false_and]
                rfl
              rw [decide_eq_true c1]
              refine iteT ⟨_, rfl, ?_⟩
              refine not_bxC ha rfl ?_
              refine ⟨_, rfl, ?_⟩
              refine iteT ⟨_, rfl, ?_⟩
              refine not_bxC ha rfl ?_
              refine ⟨_, rfl, ?_⟩
              refine iteT ⟨_, rfl, ?_⟩
              refine not_bxC hb rfl ?_
              refine ⟨_, rfl, ?_⟩
            rotate_left
            · have bad : inE cs (.int i) (.bool bb) left' = -1 := by
                unfold inE
                rw [show ∀ lo hi, amg (.bool bb) lo hi = false from fun _ _ => rfl, Bool.and_false]
                rfl
              cases bb with
              | true => exact iteF (iteF ⟨1, rfl, ret bad⟩)
              | false =>
                refine iteT ⟨_, rfl, ?_⟩
                refine not_bxC hb rfl ?_
                refine ⟨_, rfl, ?_⟩
                exact iteF ⟨1, rfl, ret bad⟩
            · cases dp_int hb
              refine iteT ⟨_, rfl, ?_⟩
              refine not_bxC hb rfl ?_
              refine ⟨_, rfl, ?_⟩
              refine iteT ?_
              have ga : amg (.int i) 0 ((cs.length : Int) - 1) = true := by
                rw [amg_int, decide_eq_true c0, decide_eq_true (show i ≤ (cs.length : Int) - 1 by omega)]
                rfl
              have eI : inE cs (.int i) (.int j) left' = if (decide ((0 : Int) ≤ j) && decide (j ≤ cAt cs i - 1)) = true then left' - 1 else -1 := by
                unfold inE
                rw [ga, Bool.true_and]
                rfl
              rw [eI] at ret
              obtain ⟨iN, rfl⟩ : ∃ z : Nat, i = (z : Int) := ⟨i.toNat, by omega⟩
              have li : iN < cs.length := by omega
              have hc : cs[iN]? = some cs[iN] := List.getElem?_eq_getElem li
              have ec : cAt cs ((iN : Nat) : Int) = ((cs[iN] : Nat) : Int) := by
                unfold cAt
                rw [Int.toNat_natCast, List.getD_eq_getElem?_getD, hc]
                rfl
              rw [ec] at ret
              generalize cs[iN] = c at hc ret
              refine ⟨_, rfl, 0, j, rfl, rfl, _, rfl, ?_⟩
              by_cases j0 : (0 : Int) ≤ j
              case neg =>
                rw [decide_eq_false j0]
                refine iteF ⟨_, rfl, iteF ⟨1, rfl, ret ?_⟩⟩
                rw [decide_eq_false j0, Bool.false_and]
                rfl
              rw [decide_eq_true j0]
              have atk : atI ((List.range cs.length).map fun j : Nat => V.int (j : Nat)) ((iN : Nat) : Int) = some (.int ((iN : Nat) : Int)) := atI_nat (by rw [List.getElem?_map, List.getElem?_range li]; rfl)
              refine iteT ⟨_, rfl, ct, rfl, .inl ⟨_, .inl hct⟩, _, rfl, _, rfl, tk, _, _, _, rfl, rfl, .inl (.inl htk), atk, _, DGet.k (k := Sum.inl ((iN : Nat) : Int)) hct, ?_⟩
              rw [hkv iN c hc]
              refine ⟨j, _, rfl, rfl, _, rfl, ?_⟩
              dsimp only
              by_cases j1 : j < ((c : Nat) : Int)
              · rw [decide_eq_true j1]
                refine iteT ⟨_, rfl, left', 1, rfl, rfl, ret ?_⟩
                rw [decide_eq_true j0, decide_eq_true (show j ≤ ((c : Nat) : Int) - 1 by omega)]
                rfl
              · rw [decide_eq_false j1]
                refine iteF ⟨1, rfl, ret ?_⟩
                rw [decide_eq_true j0, decide_eq_false (show ¬ j ≤ ((c : Nat) : Int) - 1 by omega)]
                rfl
        | false =>
        refine iteF ?_
        have nin : ¬ eqS dw "in" = true := by rw [hin]; decide
        refine ⟨_, rfl, _, 2, rfl, rfl, _, rfl, ?_⟩
        by_cases m0 : m = 0
        · subst m0
          refine iteT (iteT ⟨1, rfl, ret ?_⟩)
          rw [lbe, if_neg nin, if_pos (.inl rfl)]
        rw [decide_eq_false (show ¬ ((m + 1 : Nat) : Int) < 2 by omega)]
        refine iteF ⟨_, rfl, left', 1, rfl, rfl, _, rfl, ?_⟩
        by_cases l1 : left' < 1
        · rw [decide_eq_true l1]
          refine iteT ⟨1, rfl, ret ?_⟩
          rw [lbe, if_neg nin, if_pos (.inr l1)]
        rw [decide_eq_false l1]
        refine iteF ?_
        have nor : ¬ (m = 0 ∨ left' < 1) := fun z => z.elim m0 l1
        have e1 : lbe cs (m + 1) (.tuple [dw, da, db]) left' = if pairW dw = true then lbe cs m db (lbe cs m da (left' - 1)) else if (eqS dw "rest" && amg db 2 99) = true then lbe cs m da (left' - 1) else -1 := by
          rw [lbe, if_neg nin, if_neg nor]
        obtain ⟨m', rfl⟩ : ∃ z, m = z + 1 := ⟨m - 1, by omega⟩
        refine ⟨_, rfl, _, 1, rfl, rfl, ?_⟩
        refine ⟨_, rfl, left', 1, rfl, rfl, ?_⟩
        have em : ((m' + 1 + 1 : Nat) : Int) - 1 = ((m' + 1 : Nat) : Int) := by omega
        dsimp only
        rw [em]
        refine ⟨_, rfl, dw, pw, fiveW, hw, rfl, hP _, _, rfl, ?_⟩
        rw [show (fiveW.any fun z => eqS dw z) = pairW dw from rfl]
        rw [e1] at ret eq
        clear e1
        cases hpw : pairW dw with
        | true =>
          rw [if_pos hpw] at eq
          refine iteT ⟨_, rfl, _, rfl, _, rfl, _, rfl, _, rfl, xa, da, tk, ct, cs, m', left' - 1, rfl, ha, tc, by omega, ?_⟩
          exact ⟨_, rfl, m', by omega, rfl, xb, db, _, _, _, _, _, _, rfl, hb, by omega, eq⟩
        | false =>
          rw [if_neg (by rw [hpw]; decide)] at ret eq
          refine iteF ⟨_, rfl, dw, "rest", SfG.Dp.dx hw, rfl, _, rfl, ?_⟩
          cases hre : eqS dw "rest" with
          | false =>
            rw [hre, Bool.false_and] at ret
            exact iteF (iteF ⟨1, rfl, ret rfl⟩)
          | true =>
          rw [hre, Bool.true_and] at ret eq
          refine iteT ⟨_, rfl, _, _, hIb.1, kit_intN, _, rfl, ?_⟩
          rcases num_cases db with ⟨j, rfl⟩ | ⟨bb, rfl⟩ | ⟨nb, gb⟩
          · refine iteT ⟨_, rfl, chain_le (i := j) nvb ⟨_, rfl, ?_⟩⟩
            cases hg : (decide ((2 : Int) ≤ j) && decide (j ≤ 99)) with
            | true =>
              rw [if_pos (show amg (.int j) 2 99 = true from hg)] at eq
              exact iteT ⟨_, rfl, m', by omega, rfl, xa, da, _, _, _, _, _, _, rfl, ha, by omega, eq⟩
            | false =>
              refine iteF ⟨1, rfl, ret ?_⟩
              rw [if_neg (show ¬ amg (.int j) 2 99 = true from by rw [show amg (.int j) 2 99 = false from hg]; decide)]
          · refine iteT ⟨_, rfl, chain_le (i := SfG.b2i bb) nvb ⟨_, rfl, ?_⟩⟩
            rw [show (decide ((2 : Int) ≤ SfG.b2i bb) && decide (SfG.b2i bb ≤ 99)) = false from by cases bb <;> rfl]
            exact iteF ⟨1, rfl, ret rfl⟩
          · rw [nb]
            refine iteF (iteF ⟨1, rfl, ret ?_⟩)
            rw [gb]
            rfl
      · -- two
        obtain ⟨xw, xs, rfl, hw, hxs⟩ := dpA_cons hxs
        obtain ⟨xa, xs, rfl, ha, hxs⟩ := dpA_cons hxs
        cases dpA_nil hxs
        have nva := num_vd ha
        have hIa := dp_is ha
        refine ⟨_, rfl, rfl, _, rfl, iteF ⟨_, rfl, rfl, _, rfl, iteT ?_⟩⟩
        refine ⟨_, rfl, p, _, rfl, hp, rfl, _, _, rfl, _, _, rfl, rfl, ?_⟩
        refine ⟨_, rfl, dw, "number", SfG.Dp.dx hw, rfl, _, rfl, ?_⟩
        have e1 : lbe cs (m + 1) (.tuple [dw, da]) left' = if (eqS dw "number" && amg da 0 99) = true then left' - 1 else -1 := by rw [lbe]
        rw [e1] at ret
        cases hnm : eqS dw "number" with
        | false =>
          rw [hnm, Bool.false_and] at ret
          exact iteF ⟨_, rfl, _, rfl, iteF (iteF ⟨1, rfl, ret rfl⟩)⟩
        | true =>
        rw [hnm, Bool.true_and] at ret
        refine iteT ⟨_, rfl, _, _, hIa.1, kit_intN, _, rfl, ?_⟩
        rcases num_cases da with ⟨i, rfl⟩ | ⟨ba, rfl⟩ | ⟨na, ga⟩
        · refine iteT ⟨_, rfl, chain_le (i := i) nva ?_⟩
          cases hg : (decide ((0 : Int) ≤ i) && decide (i ≤ 99)) with
          | true =>
            refine ⟨_, rfl, _, rfl, iteT ⟨_, rfl, ?_⟩⟩
            refine not_bxC ha rfl ?_
            refine ⟨_, rfl, ?_⟩
            refine iteT ⟨_, rfl, ?_⟩
            refine not_bxC ha rfl ?_
            refine ⟨_, rfl, ?_⟩
            refine iteT ⟨_, rfl, left', 1, rfl, rfl, ret ?_⟩
            rw [if_pos (show amg (.int i) 0 99 = true from hg)]
          | false =>
            refine ⟨_, rfl, _, rfl, iteF (iteF ⟨1, rfl, ret ?_⟩)⟩
            rw [if_neg (show ¬ amg (.int i) 0 99 = true from by rw [show amg (.int i) 0 99 = false from hg]; decide)]
        · refine iteT ⟨_, rfl, chain_le (i := SfG.b2i ba) nva ?_⟩
          cases ba with
          | true =>
            refine ⟨_, rfl, _, rfl, iteT ⟨_, rfl, ?_⟩⟩
            refine not_bxC ha rfl ?_
            refine ⟨_, rfl, ?_⟩
            exact iteF (iteF ⟨1, rfl, ret rfl⟩)
          | false =>
            refine ⟨_, rfl, _, rfl, iteT ⟨_, rfl, ?_⟩⟩
            refine not_bxC ha rfl ?_
            refine ⟨_, rfl, ?_⟩
            refine iteT ⟨_, rfl, ?_⟩
            refine not_bxC ha rfl ?_
            refine ⟨_, rfl, ?_⟩
            exact iteF ⟨1, rfl, ret rfl⟩
        · rw [na]
          refine iteF ⟨_, rfl, _, rfl, iteF (iteF ⟨1, rfl, ret ?_⟩)⟩
          rw [ga]
          rfl
      · -- four
        obtain ⟨xw, xs, rfl, hw, hxs⟩ := dpA_cons hxs
        obtain ⟨xa, xs, rfl, ha, hxs⟩ := dpA_cons hxs
        obtain ⟨xb, xs, rfl, hb, hxs⟩ := dpA_cons hxs
        obtain ⟨xc, xs, rfl, hc, hxs⟩ := dpA_cons hxs
        cases dpA_nil hxs
        refine ⟨_, rfl, rfl, _, rfl, iteF ⟨_, rfl, rfl, _, rfl, iteF ⟨_, rfl, rfl, _, rfl, iteT ?_⟩⟩⟩
        refine ⟨_, rfl, p, _, 0, xw, rfl, rfl, hp, atI_nat (j := 0) rfl, dw, "if", SfG.Dp.dx hw, rfl, _, rfl, ?_⟩
        cases hif : eqS dw "if" with
        | false =>
          refine iteF (iteF ⟨1, rfl, ret ?_⟩)
          rw [lbe, if_neg (fun z => by rw [hif] at z; cases z.1)]
        | true =>
        refine iteT ⟨_, rfl, _, 1, rfl, rfl, _, rfl, ?_⟩
        by_cases m0 : m = 0
        · subst m0
          refine iteF (iteF ⟨1, rfl, ret ?_⟩)
          rw [lbe, if_neg (fun z => z.2.1 rfl)]
        rw [decide_eq_true (show (1 : Int) < ((m + 1 : Nat) : Int) by omega)]
        refine iteT ⟨_, rfl, left', 0, rfl, rfl, _, rfl, ?_⟩
        by_cases l0 : (0 : Int) < left'
        case neg =>
          rw [decide_eq_false l0]
          refine iteF ⟨1, rfl, ret ?_⟩
          rw [lbe, if_neg (fun z => l0 z.2.2)]
        rw [decide_eq_true l0]
        have e1 : lbe cs (m + 1) (.tuple [dw, da, db, dc]) left' = lbe cs m dc (lbe cs m db (lbe cs m da (left' - 1))) := by rw [lbe, if_pos ⟨hif, m0, l0⟩]
        rw [e1] at eq
        obtain ⟨m', rfl⟩ : ∃ z, m = z + 1 := ⟨m - 1, by omega⟩
        refine iteT ⟨_, rfl, _, 1, rfl, rfl, ?_⟩
        have em : ((m' + 1 + 1 : Nat) : Int) - 1 = ((m' + 1 : Nat) : Int) := by omega
        dsimp only
        rw [em]
        refine ⟨_, rfl, p, _, 1, xa, rfl, rfl, hp, atI_nat (j := 1) rfl, _, rfl, _, rfl, _, rfl, _, rfl, left', 1, rfl, rfl, xa, da, tk, ct, cs, m', left' - 1, rfl, ha, tc, by omega, ?_⟩
        refine ⟨_, rfl, p, _, 2, xb, rfl, rfl, hp, atI_nat (j := 2) rfl, _, rfl, _, rfl, _, rfl, _, rfl, xb, db, tk, ct, cs, m', _, rfl, hb, tc, by omega, ?_⟩
        refine ⟨_, rfl, p, _, 3, xc, rfl, rfl, hp, atI_nat (j := 3) rfl, ?_⟩
        exact ⟨m', by omega, rfl, xc, dc, _, _, _, _, _, _, rfl, hc, by omega, eq⟩
      · -- else
        rw [hno] at ret
        refine ⟨_, rfl, rfl, _, rfl, ?_⟩
        rw [decide_eq_false (fun z => l3 (by have := V.int.inj z; omega))]
        refine iteF ⟨_, rfl, rfl, _, rfl, ?_⟩
        rw [decide_eq_false (fun z => l2 (by have := V.int.inj z; omega))]
        refine iteF ⟨_, rfl, rfl, _, rfl, ?_⟩
        rw [decide_eq_false (fun z => l4 (by have := V.int.inj z; omega))]
        exact iteF (iteF ⟨1, rfl, ret rfl⟩)
end
end SfE
namespace SfE
open PySem PySem.Spec PyProof.Rows L2 SfG
abbrev nLbb : List Str := ["thing", "takes", "counts", "many", "deep", "left", "word", "expression"]
theorem scLbb : FnScope nLbb ["thing", "takes", "counts", "many", "deep", "left"] (defScope sLbb) := ⟨rfl, rfl, rfl, by decide +kernel, rfl, by decide +kernel, by decide +kernel⟩
theorem scIsB : FnScope ["thing", "counts", "many", "takes"] ["thing", "counts", "many"] (defScope sIsB) := ⟨rfl, rfl, rfl, by decide +kernel, rfl, by decide +kernel, by decide +kernel⟩
/-- the Es of a give -/
def giv (cs : List Nat) (dp : Nat) : List PyData → Int → Int
  | [], l => l
  | e :: r, l => if l < 1 then -1 else giv cs dp r (lbe cs dp e l)
def giveD (cs : List Nat) (m dp : Nat) (a : PyData) (l : Int) : Int := match a with
  | .tuple es => if es.length = m then giv cs dp es l else -1
  | _ => -1
/-- a give, a when -/
def bodR (cs : List Nat) (m dp : Nat) (w : PyData) (r : List PyData) (left : Int) (rec : PyData → Int → Int) : Int := match r with
  | [a] => if eqS w "give" = true then giveD cs m dp a (left - 1) else -1
  | [a, b, c] => if eqS w "when" = true then rec c (rec b (lbe cs dp a (left - 1))) else -1
  | _ => -1
/-- what left_by_body tells -/
def lbb (cs : List Nat) (m : Nat) : Nat → PyData → Int → Int
  | 0, _, _ => -1
  | dp + 1, d, left => match d with
    | .tuple (w :: r) => if left < 1 then -1 else if eqS w "refuse" = true then (if r.isEmpty = true then left - 1 else -1) else if dp = 0 then -1 else bodR cs m dp w r left (lbb cs m dp)
    | _ => -1
theorem lbb_tup (cs : List Nat) (m dp : Nat) (w : PyData) (r : List PyData) (left : Int) : lbb cs m (dp + 1) (.tuple (w :: r)) left = if left < 1 then -1 else if eqS w "refuse" = true then (if r.isEmpty = true then left - 1 else -1) else if dp = 0 then -1 else bodR cs m dp w r left (lbb cs m dp) := by rw [lbb]
theorem give_when {d : PyData} (h : eqS d "give" = true) : eqS d "when" = false := by
  cases d with
  | str z =>
    have e : z = "give" := of_decide_eq_true h
    rw [e]
    decide +kernel
  | _ => cases h
theorem giveD_no {cs : List Nat} {m dp : Nat} {a : PyData} {l : Int} (h : (tyD a == "tuple") = false) : giveD cs m dp a l = -1 := by
  cases a with
  | tuple _ => exact absurd h (by show ¬ ("tuple" == "tuple") = false; decide)
  | _ => rfl
theorem tup_is (d : PyData) : (tyD d == "tuple") = false ∨ ∃ ds, d = .tuple ds := by
  rcases tup_or d with ⟨h, _⟩ | h
  · exact .inl h
  · exact .inr h
theorem lbb_no {cs : List Nat} {m dp : Nat} {d : PyData} {l : Int} (h : (tyD d == "tuple") = false) : lbb cs m (dp + 1) d l = -1 := by
  cases d with
  | tuple _ => exact absurd h (by show ¬ ("tuple" == "tuple") = false; decide)
  | _ => rfl
theorem dpA_at {K : PySem.W.Frag} {H : Hp} : ∀ {ds : List PyData} {xs : List V} {i : Nat} {x : V}, DpAll K H xs ds → xs[i]? = some x → ∃ d, ds[i]? = some d ∧ Dp K H x d
  | [], _, i, _, h, e => by
    cases dpA_nil h
    simp at e
  | d :: ds, _, 0, _, h, e => by
    obtain ⟨y, r, rfl, hy, _⟩ := dpA_cons h
    cases e
    exact ⟨d, rfl, hy⟩
  | d :: ds, _, i + 1, _, h, e => by
    obtain ⟨y, r, rfl, _, hr⟩ := dpA_cons h
    obtain ⟨d', h1, h2⟩ := dpA_at (i := i) hr (by simpa using e)
    exact ⟨d', by simpa using h1, h2⟩
section
variable {P : Program} {w : World} {K : PySem.W.Frag} {mg : Str → Option Value} {base : Heap}
def spLbb (K : PySem.W.Frag) (n : Nat) : Sp := fun vs H Q _ => ∃ (t : V) (d : PyData) (tk ct : Addr) (cs : List Nat) (m dp : Nat) (left : Int), vs = [t, .ref tk, .ref ct, .int (m : Nat), .int ((dp + 1 : Nat) : Int), .int left] ∧ Dp K H t d ∧ TC H tk ct cs ∧ dp + 1 ≤ n ∧ Q (.int (lbb cs m (dp + 1) d left)) H
set_option maxHeartbeats 4000000 in
theorem ok_lbb {f fE : Addr} {fd fdE : FuncData} (F : Fun K "left_by_body" "left_by_body" sLbb f fd) (bL : Binds K fd ["thing", "takes", "counts", "many", "deep", "left"] []) (gL : mg "left_by_body" = some (.ref f))
    (HE : Has P w K mg base 9 "left_by_expression" ["thing", "takes", "counts", "deep", "left"] (spLbe K 8) fE fdE) (mi : mg "isinstance" = none) (mt : mg "tuple" = none) (ml : mg "len" = none) :
    ∀ n, n ≤ 8 → FnOk P w K mg base CX0 (n + 10) f fd ["thing", "takes", "counts", "many", "deep", "left"] (spLbb K n)
  | 0, _ => by
    refine F.ok scLbb (fun vs H Q E h => ?_) (fun cdv A outer s H vs Q E hr h => ?_)
    · obtain ⟨t, d, tk, ct, cs, m, dp, left, rfl, _⟩ := h
      rfl
    · obtain ⟨t, d, tk, ct, cs, m, dp, left, rfl, _, _, hd, _⟩ := h
      omega
  | n + 1, hn => by
    have GL := ok_lbb F bL gL HE mi mt ml n (by omega)
    refine F.ok scLbb (fun vs H Q E h => ?_) (fun cdv A outer s H vs Q E hr h => ?_)
    · obtain ⟨t, d, tk, ct, cs, m, dp, left, rfl, _⟩ := h
      rfl
    · obtain ⟨t, d, tk, ct, cs, m, dp, left, rfl, hd, tc, hdp, q⟩ := h
      have nd := scLbb.nd
      have HE' : Has P w K mg base (n + 10) "left_by_expression" ["thing", "takes", "counts", "deep", "left"] (spLbe K 8) fE fdE := ⟨HE.ok.mono (by omega), HE.at_, HE.kp, HE.bd⟩
      refine' ⟨_, pss_cons ?s1 (pss_cons ?s2 (pss_cons ?s3 (pss_cons ?s4 (pss_cons ?s5 (pss_cons ?s6 (pss_cons ?s7 (pss_cons ?s8 (pss_one ?s9)))))))), ?rd⟩
      case s1 => exact ps_if (PW.pt (pw_or (pt_not (pt_val (pe_isi "tuple" 0 mi mt (by decide +kernel)))) (pw_or (pt_not (pt_truth (pv 0) (fun _ => rfl))) (pw_or1 (pt_cmpR op_lt (pv 5) pe_int (nomark _)))))) (pss_one (ps_ret (pe_un un_neg pe_int))) pss_nil
      case s2 => exact ps_set (i := 6) nd rfl (.inl rfl) (pe_ix ix_tup (pv 0) pe_int (fun _ _ => rfl))
      case s3 => exact ps_if (pt_cmpR (op_eqXS hr) (pv 6) pe_str (nomark _)) (pss_one (ps_ret (pe_ifExp (pt_cmpR op_eq (pe_callB call_len_seq (by rfl) ml PySem.boot_len (pa_cons (pv 0) pa_nil)) pe_int (nomark _)) (pe_op op_sub (pv 5) pe_int) (pe_un un_neg pe_int)))) pss_nil
      case s4 => exact ps_if (pt_cmpR op_lt (pv 4) pe_int (nomark _)) (pss_one (ps_ret (pe_un un_neg pe_int))) pss_nil
      case s5 => exact ps_aug (i := 4) nd rfl (.inl rfl) pe_int ip_sub
      case s6 => exact ps_aug (i := 5) nd rfl (.inl rfl) pe_int ip_sub
      case s7 =>
        refine' ps_if (PW.pt (pw_and (pt_cmpR (op_eqXS hr) (pv 6) pe_str (nomark _)) (pw_and (pt_cmpR op_eq (pe_callB call_len_seq (by rfl) ml PySem.boot_len (pa_cons (pv 0) pa_nil)) pe_int (nomark _))
          (pw_and (pt_val (pe_callB call_isi (by rfl) mi boot_isinstance (pa_cons (pe_ix ix_tup (pv 0) pe_int (fun _ _ => rfl)) (pa_cons (pe_bltn (v := .ty "tuple") (by rfl) mt (by decide +kernel) rfl) pa_nil))))
          (pw_and1 (pt_cmpR op_eq (pe_callB call_len_seq (by rfl) ml PySem.boot_len (pa_cons (pe_ix ix_tup (pv 0) pe_int (fun _ _ => rfl)) pa_nil)) (pv 3) (nomark _)))))))
          (pss_cons ?l1 (pss_one (ps_ret (pv 5)))) pss_nil
        case l1 =>
          exact ps_for PassesOwn.never rfl (pi_tup (pe_ix ix_tup (pv 0) pe_int (fun _ _ => rfl))) (pg_name (i := 7) nd rfl (.inl rfl))
            (pss_cons (ps_if (pt_cmpR op_lt (pv 5) pe_int (nomark _)) (pss_one (ps_ret (pe_un un_neg pe_int))) pss_nil)
            (pss_one (ps_set (i := 5) nd rfl (.inl rfl) (hcall HE' hr (pa_cons (pv 7) (pa_cons (pv 1) (pa_cons (pv 2) (pa_cons (pv 4) (pa_cons (pv 5) pa_nil)))))))))
      case s8 =>
        exact ps_if (PW.pt (pw_and (pt_cmpR (op_eqXS hr) (pv 6) pe_str (nomark _)) (pw_and1 (pt_cmpR op_eq (pe_callB call_len_seq (by rfl) ml PySem.boot_len (pa_cons (pv 0) pa_nil)) pe_int (nomark _)))))
          (pss_cons (ps_set (i := 5) nd rfl (.inl rfl) (hcall HE' hr (pa_cons (pe_ix ix_tup (pv 0) pe_int (fun _ _ => rfl)) (pa_cons (pv 1) (pa_cons (pv 2) (pa_cons (pv 4) (pa_cons (pv 5) pa_nil)))))))
          (pss_cons (ps_set (i := 5) nd rfl (.inl rfl) (pe_call GL hr (by rfl) gL F.kp bL .nil pass0 (pa_cons (pe_ix ix_tup (pv 0) pe_int (fun _ _ => rfl)) (pa_cons (pv 1) (pa_cons (pv 2) (pa_cons (pv 3) (pa_cons (pv 4) (pa_cons (pv 5) pa_nil))))))))
          (pss_one (ps_ret (pe_call GL hr (by rfl) gL F.kp bL .nil pass0 (pa_cons (pe_ix ix_tup (pv 0) pe_int (fun _ _ => rfl)) (pa_cons (pv 1) (pa_cons (pv 2) (pa_cons (pv 3) (pa_cons (pv 4) (pa_cons (pv 5) pa_nil)))))))))))
          pss_nil
      case s9 => exact ps_ret (pe_un un_neg pe_int)
      case rd =>
      have hI := dp_is hd
      have ret : ∀ {r : Int}, lbb cs m (dp + 1) d left = r → Q (.int r) H := fun e => by
        rw [← e]
        exact q
      refine ⟨_, rfl, _, _, hI.1, kit_tuple _ hI.2, _, rfl, ?_⟩
      rcases tup_is d with h1 | ⟨ds, rfl⟩
      · rw [h1]
        exact iteT (iteT ⟨1, rfl, ret (lbb_no h1)⟩)
      rw [show (tyD (.tuple ds) == "tuple") = true from by show ("tuple" == "tuple") = true; decide]
      obtain ⟨p, xs, rfl, hp, hxs⟩ := dp_tup hd
      have lx := dpA_len hxs
      cases ds with
      | nil =>
        cases dpA_nil hxs
        exact iteF ⟨_, rfl, false, .inr (.inl ⟨_, hp, rfl⟩), iteT (iteT ⟨1, rfl, ret rfl⟩)⟩
      | cons dw dr =>
      obtain ⟨xw, xr, rfl, hw, hxr⟩ := dpA_cons hxs
      have lxr := dpA_len hxr
      have e0 := lbb_tup cs m dp dw dr left
      refine iteF ⟨_, rfl, true, .inr (.inl ⟨_, hp, rfl⟩), iteF ⟨_, rfl, left, 1, rfl, rfl, _, rfl, ?_⟩⟩
      by_cases l1 : left < 1
      · rw [decide_eq_true l1]
        exact iteT ⟨1, rfl, ret (by rw [e0, if_pos l1])⟩
      rw [if_neg l1] at e0
      rw [decide_eq_false l1]
      refine iteF ⟨_, rfl, p, _, 0, xw, rfl, rfl, hp, atI_nat (j := 0) rfl, ?_⟩
      refine ⟨_, rfl, dw, "refuse", SfG.Dp.dx hw, rfl, _, rfl, ?_⟩
      cases hre : eqS dw "refuse" with
      | true =>
        rw [if_pos hre] at e0
        refine iteT ⟨_, rfl, p, _, rfl, .inr hp, rfl, _, rfl, ?_⟩
        cases dr with
        | nil =>
          cases dpA_nil hxr
          exact iteT ⟨_, rfl, left, 1, rfl, rfl, ret e0⟩
        | cons a r =>
          rw [decide_eq_false (fun z => by have := V.int.inj z; rw [List.length_cons, lxr, List.length_cons] at this; omega)]
          exact iteF ⟨1, rfl, ret e0⟩
      | false =>
      rw [if_neg (by rw [hre]; decide)] at e0
      refine iteF ⟨_, rfl, _, 2, rfl, rfl, _, rfl, ?_⟩
      by_cases d0 : dp = 0
      · subst d0
        exact iteT ⟨1, rfl, ret (by rw [e0, if_pos rfl])⟩
      rw [if_neg d0] at e0
      rw [decide_eq_false (show ¬ ((dp + 1 : Nat) : Int) < 2 by omega)]
      refine iteF ⟨_, rfl, _, 1, rfl, rfl, _, rfl, left, 1, rfl, rfl, ?_⟩
      obtain ⟨dq, rfl⟩ : ∃ z, dp = z + 1 := ⟨dp - 1, by omega⟩
      have em : ((dq + 1 + 1 : Nat) : Int) - 1 = ((dq + 1 : Nat) : Int) := by omega
      dsimp only
      rw [em]
      refine seq_end (fun σ S => σ = [some (.ref p), some (.ref tk), some (.ref ct), some (.int ((m : Nat) : Int)), some (.int ((dq + 1 : Nat) : Int)), some (.int (left - 1)), some xw, none] ∧ S = H ∧ (eqS dw "give" = true → lbb cs m (dq + 1 + 1) (.tuple (dw :: dr)) left = -1)) ?nog (fun hF => ?_)
      case nog =>
        rintro σ S ⟨rfl, rfl, hno⟩
        have low : eqS dw "when" = false → lbb cs m (dq + 1 + 1) (.tuple (dw :: dr)) left = -1 := fun hwn => by
          by_cases hg : eqS dw "give" = true
          · exact hno hg
          · rw [e0]
            match dr with
            | [] => rfl
            | [a] => exact if_neg hg
            | [_, _] => rfl
            | [a, b, c] => exact if_neg (by rw [hwn]; decide)
            | _ :: _ :: _ :: _ :: _ => rfl
        refine ⟨_, rfl, dw, "when", SfG.Dp.dx hw, rfl, _, rfl, ?_⟩
        cases hwn : eqS dw "when" with
        | false => exact iteF (iteF ⟨1, rfl, ret (low hwn)⟩)
        | true =>
        have ng : ¬ eqS dw "give" = true := fun z => by rw [give_when z] at hwn; cases hwn
        refine iteT ⟨_, rfl, p, _, rfl, .inr hp, rfl, _, rfl, ?_⟩
        by_cases l3 : dr.length = 3
        case neg =>
          rw [decide_eq_false (fun z => l3 (by have := V.int.inj z; rw [List.length_cons, lxr] at this; omega))]
          refine iteF ⟨1, rfl, ret ?_⟩
          rw [e0]
          match dr, l3 with
          | [], _ => rfl
          | [a], _ => exact if_neg ng
          | [_, _], _ => rfl
          | [a, b, c], h => exact absurd rfl h
          | _ :: _ :: _ :: _ :: _, _ => rfl
        obtain ⟨da, db, dc, rfl⟩ : ∃ a b c, dr = [a, b, c] := by
          match dr, l3 with
          | [a, b, c], _ => exact ⟨a, b, c, rfl⟩
        obtain ⟨xa, xr, rfl, ha, hxr⟩ := dpA_cons hxr
        obtain ⟨xb, xr, rfl, hb, hxr⟩ := dpA_cons hxr
        obtain ⟨xc, xr, rfl, hc, hxr⟩ := dpA_cons hxr
        cases dpA_nil hxr
        have e1 : lbb cs m (dq + 1 + 1) (.tuple [dw, da, db, dc]) left = lbb cs m (dq + 1) dc (lbb cs m (dq + 1) db (lbe cs (dq + 1) da (left - 1))) := e0.trans (if_pos hwn)
        rw [e1] at q
        refine iteT ⟨_, rfl, p, _, 1, xa, rfl, rfl, hp, atI_nat (j := 1) rfl, _, rfl, _, rfl, _, rfl, _, rfl, xa, da, tk, ct, cs, dq, left - 1, rfl, ha, tc, by omega, ?_⟩
        refine ⟨_, rfl, p, _, 2, xb, rfl, rfl, hp, atI_nat (j := 2) rfl, _, rfl, _, rfl, _, rfl, _, rfl, _, rfl, xb, db, tk, ct, cs, m, dq, _, rfl, hb, tc, by omega, ?_⟩
        refine ⟨_, rfl, p, _, 3, xc, rfl, rfl, hp, atI_nat (j := 3) rfl, _, rfl, _, rfl, _, rfl, _, rfl, _, rfl, xc, dc, tk, ct, cs, m, dq, _, rfl, hc, tc, by omega, q⟩
      refine seq_go ?_
      refine ⟨_, rfl, dw, "give", SfG.Dp.dx hw, rfl, _, rfl, ?_⟩
      cases hgi : eqS dw "give" with
      | false => exact iteF (iteF (hF _ _ ⟨rfl, rfl, fun z => by rw [hgi] at z; cases z⟩))
      | true =>
      have nw := give_when hgi
      refine iteT ⟨_, rfl, p, _, rfl, .inr hp, rfl, _, rfl, ?_⟩
      by_cases l1' : dr.length = 1
      case neg =>
        rw [decide_eq_false (fun z => l1' (by have := V.int.inj z; rw [List.length_cons, lxr] at this; omega))]
        refine iteF (iteF (hF _ _ ⟨rfl, rfl, fun _ => ?_⟩))
        rw [e0]
        match dr, l1' with
        | [], _ => rfl
        | [a], h => exact absurd rfl h
        | [_, _], _ => rfl
        | [a, b, c], _ => exact if_neg (by rw [nw]; decide)
        | _ :: _ :: _ :: _ :: _, _ => rfl
      obtain ⟨da, rfl⟩ : ∃ a, dr = [a] := by
        match dr, l1' with
        | [a], _ => exact ⟨a, rfl⟩
      obtain ⟨xa, xr, rfl, ha, hxr⟩ := dpA_cons hxr
      cases dpA_nil hxr
      have e1 : lbb cs m (dq + 1 + 1) (.tuple [dw, da]) left = giveD cs m (dq + 1) da (left - 1) := e0.trans (if_pos hgi)
      have hIa := dp_is ha
      refine iteT ⟨_, rfl, p, _, 1, xa, rfl, rfl, hp, atI_nat (j := 1) rfl, xa, .ty "tuple", .type (tyD da), .type "tuple", (tyD da == "tuple"), rfl, .ty "tuple", hIa.1, kit_ty (kit_tuple _ hIa.2), _, rfl, ?_⟩
      rcases tup_is da with h1 | ⟨es, rfl⟩
      · rw [h1]
        exact iteF (iteF (hF _ _ ⟨rfl, rfl, fun _ => by rw [e1, giveD_no h1]⟩))
      rw [show (tyD (.tuple es) == "tuple") = true from by show ("tuple" == "tuple") = true; decide]
      obtain ⟨pa, ys, rfl, hpa, hys⟩ := dp_tup ha
      have ly := dpA_len hys
      refine iteT ⟨_, rfl, p, _, 1, _, rfl, rfl, hp, atI_nat (j := 1) rfl, pa, _, rfl, .inr hpa, _, rfl, rfl, _, rfl, ?_⟩
      by_cases lm : es.length = m
      case neg =>
        rw [decide_eq_false (fun z => lm (by have := V.int.inj z; omega))]
        exact iteF (hF _ _ ⟨rfl, rfl, fun _ => by rw [e1]; exact if_neg lm⟩)
      rw [decide_eq_true (by rw [ly, lm])]
      have e2 : lbb cs m (dq + 1 + 1) (.tuple [dw, .tuple es]) left = giv cs (dq + 1) es (left - 1) := e1.trans (if_pos lm)
      rw [e2] at q
      refine iteT ⟨_, rfl, p, _, 1, _, rfl, rfl, hp, atI_nat (j := 1) rfl, pa, rfl, ⟨_, hpa⟩, ?_⟩
      refine for_it (walk_tup (xs := ys)) (fun i σ S => ∃ (l : Int) (y7 : Option V), σ = [some (.ref p), some (.ref tk), some (.ref ct), some (.int ((m : Nat) : Int)), some (.int ((dq + 1 : Nat) : Int)), some (.int l), some xw, y7] ∧ S = H ∧ giv cs (dq + 1) es (left - 1) = giv cs (dq + 1) (es.drop i) l) ⟨left - 1, none, rfl, rfl, rfl⟩ ?f0 ?f1 ?f2
      case f0 =>
        rintro i σ S hi ⟨l, y7, rfl, rfl, _⟩
        exact hpa
      case f1 =>
        rintro i y σ S' S hi ⟨l, y7, rfl, rfl, eq⟩ ⟨rfl, hy⟩
        obtain ⟨de, hde, hdy⟩ := dpA_at hys hy
        have dr : es.drop i = de :: es.drop (i + 1) := by
          obtain ⟨li, ei⟩ := List.getElem?_eq_some_iff.mp hde
          rw [List.drop_eq_getElem_cons li, ei]
        rw [dr, giv] at eq
        refine ⟨_, rfl, l, 1, rfl, rfl, _, rfl, ?_⟩
        by_cases l0 : l < 1
        · rw [decide_eq_true l0]
          rw [if_pos l0] at eq
          rw [eq] at q
          exact iteT ⟨1, rfl, q⟩
        · rw [decide_eq_false l0]
          rw [if_neg l0] at eq
          exact iteF ⟨_, rfl, _, rfl, _, rfl, _, rfl, _, rfl, y, de, tk, ct, cs, dq, l, rfl, hdy, tc, by omega, _, _, rfl, rfl, eq⟩
      case f2 =>
      rintro σ S ⟨l, y7, rfl, rfl, eq⟩
      rw [ly, List.drop_length, giv] at eq
      rw [eq] at q
      exact ⟨_, rfl, q⟩
end
end SfE
namespace SfE
open PySem PySem.Spec PyProof.Rows L2 SfG
theorem mrg_no : ∀ (more acc : List (Key × V)) (j : Key), (∀ kv ∈ more, kv.1 ≠ j) → valV (mergeK acc more) j = valV acc j
  | [], _, _, _ => rfl
  | kv :: r, acc, j, h => by
    show valV (mergeK (putK acc kv.1 kv.2) r) j = _
    rw [mrg_no r _ j fun x hx => h x (.tail _ hx), valV_put, if_neg (Ne.symm (h kv (.head _)))]
theorem numK_ge {α : Type} : ∀ (l : List α) (i : Nat) (kv : Key × α), kv ∈ numK l i → ∃ j : Nat, i ≤ j ∧ kv.1 = Sum.inl ((j : Nat) : Int)
  | [], _, _, h => by cases h
  | x :: r, i, kv, h => by
    rcases List.mem_cons.mp h with h | h
    · exact ⟨i, Nat.le_refl _, by rw [h]⟩
    · obtain ⟨j, h1, h2⟩ := numK_ge r (i + 1) kv h
      exact ⟨j, by omega, h2⟩
/-- what a dict of an enumerate holds -/
theorem val_num : ∀ (xs : List V) (s : Nat) (acc : List (Key × V)) (i : Nat) (x : V), xs[i]? = some x → valV (mergeK acc (numK xs s)) (Sum.inl ((s + i : Nat) : Int)) = some x
  | [], _, _, i, _, h => by simp at h
  | y :: r, s, acc, 0, x, h => by
    cases h
    show valV (mergeK (putK acc (Sum.inl ((s : Nat) : Int)) y) (numK r (s + 1))) _ = _
    rw [mrg_no _ _ _ fun kv hkv e => ?_, valV_put, Nat.add_zero, if_pos rfl]
    obtain ⟨j, h1, h2⟩ := numK_ge r (s + 1) kv hkv
    rw [h2] at e
    have := Sum.inl.inj e
    omega
  | y :: r, s, acc, i + 1, x, h => by
    show valV (mergeK (putK acc (Sum.inl ((s : Nat) : Int)) y) (numK r (s + 1))) _ = _
    rw [← val_num r (s + 1) _ i x (show r[i]? = some x from h)]
    congr 2
    omega
theorem rg_of (n : Nat) : rgV 0 (n : Nat) = (List.range n).map fun j : Nat => V.int (j : Nat) := by
  unfold rgV
  rw [show ((n : Nat) - 0 : Int).toNat = n by omega]
  exact List.map_congr_left fun j _ => by rw [Int.zero_add]
section
variable {P : Program} {w : World} {K : PySem.W.Frag} {mg : Str → Option Value} {base : Heap}
abbrev cV (cs : List Nat) : List V := cs.map fun c : Nat => V.int (c : Nat)
def spIsB (K : PySem.W.Frag) : Sp := fun vs H Q _ => ∃ (t : V) (d : PyData) (ca : Addr) (cs : List Nat) (m : Nat), vs = [t, .ref ca, .int (m : Nat)] ∧ Dp K H t d ∧ SqT K H ca (cV cs) ∧ cs.length ≤ 1000 ∧ ∀ H', Gr H H' → Q (.bl (decide (0 ≤ lbb cs m 8 d 60))) H'
set_option maxHeartbeats 4000000 in
theorem ok_isB {f fL : Addr} {fd fdL : FuncData} {t60 t8 : Tok} (F : Fun K "is_body" "is_body" sIsB f fd)
    (HL : Has P w K mg base 18 "left_by_body" ["thing", "takes", "counts", "many", "deep", "left"] (spLbb K 8) fL fdL) (ml : mg "len" = none) (mr : mg "range" = none) (mli : mg "list" = none) (md : mg "dict" = none) (me : mg "enumerate" = none)
    (m60 : mg "MOST_PARTS" = some (.int 60 t60)) (m8 : mg "MOST_DEEP" = some (.int 8 t8)) :
    FnOk P w K mg base CX0 19 f fd ["thing", "counts", "many"] (spIsB K) := by
  refine F.ok scIsB (fun vs H Q E h => ?_) (fun cdv A outer s H vs Q E hr h => ?_)
  · obtain ⟨t, d, ca, cs, m, rfl, _⟩ := h
    rfl
  · obtain ⟨t, d, ca, cs, m, rfl, hd, hc, hl, q⟩ := h
    have nd := scIsB.nd
    refine' ⟨_, pss_cons ?s1 (pss_one ?s2), ?rd⟩
    case s1 => exact ps_set (i := 3) nd rfl (.inl rfl) (pe_listRg rfl (by rfl) mli (prg_1 (by rfl) mr (pe_callB call_len_seq (by rfl) ml PySem.boot_len (pa_cons (pv 1) pa_nil))))
    case s2 => exact ps_ret (pe_cmpR op_ge (hcall HL hr (pa_cons (pv 0) (pa_cons (pv 3) (pa_cons (pe_dEnT rfl (by rfl) md (by rfl) me (pa_cons (pv 1) pa_nil)) (pa_cons (pv 2) (pa_cons (pe_glob (v := .int 8) rfl m8 ⟨_, rfl⟩) (pa_cons (pe_glob (v := .int 60) rfl m60 ⟨_, rfl⟩) pa_nil))))))) pe_int (nomark _))
    case rd =>
    refine ⟨_, rfl, ca, _, rfl, .inr hc, _, rfl, RgOk.of_le (by omega) (by rw [List.length_map]; omega) (by omega) (by omega), fun q1 n1 => ?_⟩
    rw [List.length_map, rg_of]
    have g1 : Gr H (upd H q1 (.lst ((List.range cs.length).map fun j : Nat => V.int (j : Nat)))) := Gr.new n1
    have h1 : upd H q1 (.lst ((List.range cs.length).map fun j : Nat => V.int (j : Nat))) q1 = some (.lst ((List.range cs.length).map fun j : Nat => V.int (j : Nat))) := upd_same
    generalize upd H q1 (.lst ((List.range cs.length).map fun j : Nat => V.int (j : Nat))) = H1 at g1 h1 ⊢
    refine ⟨_, rfl, _, rfl, _, rfl, ca, cV cs, rfl, g1.sqt hc, fun q2 n2 => ?_⟩
    have g2 : Gr H1 (upd H1 q2 (.dK (mergeK [] (numK (cV cs) 0)))) := Gr.new n2
    have h2 : upd H1 q2 (.dK (mergeK [] (numK (cV cs) 0))) q2 = some (.dK (mergeK [] (numK (cV cs) 0))) := upd_same
    generalize upd H1 q2 (.dK (mergeK [] (numK (cV cs) 0))) = H2 at g2 h2 ⊢
    have tc : TC H2 q1 q2 cs := ⟨g2.lst h1, ⟨_, h2, fun i c e => by
      have := val_num (cV cs) 0 [] i (.int (c : Nat)) (by show (cs.map _)[i]? = _; rw [List.getElem?_map, e]; rfl)
      rw [Nat.zero_add] at this
      exact this⟩, hl⟩
    refine ⟨_, rfl, t, d, q1, q2, cs, m, 7, 60, rfl, (g1.trans g2).kd.dp hd, tc, Nat.le_refl _, ?_⟩
    exact ⟨_, 0, rfl, rfl, q H2 (g1.trans g2)⟩
end
end SfE
namespace SfE
open PySem PySem.Spec PyProof.Rows L2 SfG
/-! ### the parts of a body, level by level -/
abbrev nBelow : List Str := ["level", "below", "part", "things", "thing"]
theorem scBelow : FnScope nBelow ["level"] (defScope sBelow) := ⟨rfl, rfl, rfl, by decide +kernel, rfl, by decide +kernel, by decide +kernel⟩
abbrev nParts : List Str := ["body", "parts", "level"]
theorem scParts : FnScope nParts ["body"] (defScope sParts) := ⟨rfl, rfl, rfl, by decide +kernel, rfl, by decide +kernel, by decide +kernel⟩
abbrev nDeepI : List Str := ["body", "depth", "level"]
theorem scDeepI : FnScope nDeepI ["body"] (defScope sDeepI) := ⟨rfl, rfl, rfl, by decide +kernel, rfl, by decide +kernel, by decide +kernel⟩
theorem cut_one (x : V) (r : List V) : cutV (x :: r) (some 1) none = r := by
  unfold cutV
  have e1 : HT.sIx (x :: r).length 0 (some 1) = 1 := by
    rw [show HT.sIx (x :: r).length 0 (some 1) = min 1 (x :: r).length from HT.sIx_nat (x :: r).length 0 1, List.length_cons]
    omega
  rw [e1, HT.sIx_none]
  show List.take ((x :: r).length - 1) r = r
  exact List.take_of_length_le (by simp)
theorem cut_not (x : V) (r : List V) : ¬ (HT.sIx (x :: r).length 0 (some 1) = 0 ∧ HT.sIx (x :: r).length (x :: r).length none = (x :: r).length) := by
  intro h
  have e1 : HT.sIx (x :: r).length 0 (some 1) = min 1 (x :: r).length := HT.sIx_nat (x :: r).length 0 1
  have h1 := h.1
  rw [e1, List.length_cons] at h1
  omega
def sz6 : List (Key × V) := [(Sum.inr ("plus" : Str), .int 2), (Sum.inr ("less" : Str), .int 2), (Sum.inr ("times" : Str), .int 2), (Sum.inr ("same" : Str), .int 2), (Sum.inr ("under" : Str), .int 2), (Sum.inr ("if" : Str), .int 3)]
/-- what stands in a part -/
def thgs (w : PyData) (r : List PyData) : List PyData := if eqS w "give" = true then (match r with | .tuple es :: _ => es | _ => []) else r
theorem thgs_no {w : PyData} {r : List PyData} (h : eqS w "give" = false) : thgs w r = r := by
  unfold thgs
  exact if_neg (by rw [h]; decide)
theorem thgs_gv {w : PyData} {es r : List PyData} (h : eqS w "give" = true) : thgs w (.tuple es :: r) = es := by
  unfold thgs
  exact if_pos h
def isT (d : PyData) : Bool := tyD d == "tuple"
def sub : PyData → List PyData
  | .tuple (w :: r) => (thgs w r).filter isT
  | _ => []
/-- a thing that may be looked into -/
def Opn (d : PyData) : Prop := ∃ w r, d = .tuple (w :: r) ∧ (eqS w "give" = true → ∃ es q, r = .tuple es :: q)
theorem dpA_app {K : PySem.W.Frag} {H : Hp} : ∀ {as bs : List PyData} {xs ys : List V}, DpAll K H xs as → DpAll K H ys bs → DpAll K H (xs ++ ys) (as ++ bs)
  | [], _, _, _, h, h2 => by
    cases dpA_nil h
    exact h2
  | a :: r, _, _, _, h, h2 => by
    obtain ⟨x, xr, rfl, h1, h3⟩ := dpA_cons h
    exact .cons h1 (dpA_app h3 h2)
section
variable {P : Program} {w : World} {K : PySem.W.Frag} {mg : Str → Option Value} {base : Heap}
def spBelow (K : PySem.W.Frag) : Sp := fun vs H Q _ => ∃ (a : Addr) (xs : List V) (ds : List PyData), vs = [.ref a] ∧ SqL K H a xs ∧ DpAll K H xs ds ∧ (∀ d ∈ ds, Opn d) ∧ (ds.flatMap sub).length ≤ 1000 ∧
  ∀ H' l ys, Gr H H' → H' l = some (.lst ys) → DpAll K H' ys (ds.flatMap sub) → Q (.ref l) H'
set_option maxHeartbeats 4000000 in
theorem ok_below {f : Addr} {fd : FuncData} {k : Nat} (F : Fun K "parts_below" "parts_below" sBelow f fd) (mi : mg "isinstance" = none) (mt : mg "tuple" = none) :
    FnOk P w K mg base CX0 (k + 1) f fd ["level"] (spBelow K) := by
  refine F.ok scBelow (fun vs H Q E h => ?_) (fun cdv A outer s H vs Q E hr h => ?_)
  · obtain ⟨a, xs, ds, rfl, _⟩ := h
    rfl
  · obtain ⟨a, xs, ds, rfl, ha, hds, ho, hl, q⟩ := h
    have nd := scBelow.nd
    refine' ⟨_, pss_cons ?s1 (pss_cons ?s2 (pss_one ?s3)), ?rd⟩
    case s1 => exact ps_set (i := 1) nd rfl (.inl rfl) (pe_lst pa_nil)
    case s2 =>
      refine' ps_for PassesOwn.never rfl (pi_list (pv 0)) (pg_name (i := 2) nd rfl (.inl rfl)) (pss_cons ?b1 (pss_one ?b2))
      case b1 => exact ps_set (i := 3) nd rfl (.inl rfl) (pe_ifExp (pt_cmpR (op_eqXS hr) (pe_ix ix_tup (pv 2) pe_int (fun _ _ => rfl)) pe_str (nomark _)) (pe_ix ix_tup (pv 2) pe_int (fun _ _ => rfl)) (pe_slice sl_tup (pv 2) (po_some pe_int) po_none))
      case b2 =>
        exact ps_expr (pe_bm PySem.F.plainAttrs_list PySem.F.slot_list_extend PySem.F.type_list_extend mt_extend (pv 1) (pa_cons (pe_lc (own := [("thing", 4)]) (g := gName 4) (tt := tB (tIsi "tuple" K 4)) rfl nd (pi_tup (pv 3))
          (blkOk_by (own := [("thing", 4)]) (N := nBelow) (sc := defScope sBelow) (by decide +kernel)) (fun _ _ _ _ _ => pg_name (i := 4) nd rfl (Or.inl rfl)) (fun _ _ _ _ _ => pts_one (pt_val (pe_isi "tuple" 4 mi mt (by decide +kernel)))) (fun _ _ _ _ _ => pv 4)) pa_nil))
    case s3 => exact ps_ret (pv 1)
    case rd =>
    refine ⟨by show 0 ≤ sizeLine; decide, fun l nl => ?_⟩
    refine ⟨_, rfl, a, rfl, ⟨_, (Gr.new nl).seq ha⟩, ?_⟩
    have lx := dpA_len hds
    refine for_it (walk_list (xs := xs)) (fun i σ S => ∃ (y2 y3 y4 : Option V) (ys : List V), σ = [some (.ref a), some (.ref l), y2, y3, y4] ∧ Gr H S ∧ S l = some (.lst ys) ∧ DpAll K H ys ((ds.take i).flatMap sub))
      ⟨none, none, none, [], rfl, Gr.new nl, upd_same, .nil⟩ ?f0 ?f1 ?f2
    case f0 =>
      rintro i σ S hi ⟨y2, y3, y4, ys, rfl, g, _, _⟩
      exact g.seq ha
    case f1 =>
      rintro i x σ S' S hi ⟨y2, y3, y4, ys, rfl, g, hL, hys⟩ ⟨rfl, hx⟩
      obtain ⟨d, hd, hdx⟩ := dpA_at hds hx
      obtain ⟨dw, dr, rfl, hop⟩ := ho d (List.mem_of_getElem? hd)
      obtain ⟨p, vs, rfl, hp, hvs⟩ := dp_tup hdx
      obtain ⟨xw, xr, rfl, hw, hxr⟩ := dpA_cons hvs
      have et : (ds.take (i + 1)).flatMap sub = (ds.take i).flatMap sub ++ (thgs dw dr).filter isT := by
        rw [List.take_add_one, hd, List.flatMap_append]
        show _ ++ (List.flatMap sub [.tuple (dw :: dr)]) = _
        rw [List.flatMap_singleton]
        rfl
      have bnd : ((ds.take i).flatMap sub).length + ((thgs dw dr).filter isT).length ≤ 1000 := by
        rw [← List.length_append, ← et]
        refine Nat.le_trans ?_ hl
        conv => rhs; rw [← List.take_append_drop (i + 1) ds, List.flatMap_append, List.length_append]
        omega
      have lys := dpA_len hys
      refine seq_end (fun σ S2 => ∃ (q3 : Addr) (zs : List V) (y4 : Option V), σ = [some (.ref a), some (.ref l), some (.ref p), some (.ref q3), y4] ∧ Gr H S2 ∧ S2 l = some (.lst ys) ∧ SqT K S2 q3 zs ∧ DpAll K H zs (thgs dw dr)) ?nog (fun hF => ?_)
      case nog =>
        rintro σ S2 ⟨q3, zs, y4, rfl, g2, hL2, hq3, hzs⟩
        have lzs := dpA_len hzs
        refine ⟨_, rfl, .inl ⟨rfl, ⟨_, .inl (.inl hL2)⟩⟩, _, rfl, q3, rfl, ⟨_, hq3⟩, fun D nD => ?_⟩
        have gD : ∀ o, Gr S2 (upd S2 D o) := fun o => Gr.new nD
        have nlD : l ≠ D := fun z => by rw [z, nD] at hL2; cases hL2
        refine lc_it (walk_tup (xs := zs)) (fun j S3 => ∃ us : List V, S3 = upd S2 D (.lst us) ∧ DpAll K H us (((thgs dw dr).take j).filter isT)) ⟨[], rfl, .nil⟩ ?c0 ?c1 ?c2
        case c0 =>
          rintro j S3 hj ⟨us, rfl, _⟩
          exact (gD _).sqt hq3
        case c1 =>
          rintro j v S3 S3' hj ⟨us, rfl, hus⟩ ⟨rfl, hv⟩
          obtain ⟨e, he, hev⟩ := dpA_at hzs hv
          have hI := dp_is ((g2.trans (gD (.lst us))).kd.dp hev)
          have ek : ((thgs dw dr).take (j + 1)).filter isT = ((thgs dw dr).take j).filter isT ++ (if isT e = true then [e] else []) := by
            rw [List.take_add_one, he, List.filter_append]
            cases h : isT e <;> simp [List.filter, h]
          refine ⟨rfl, _, rfl, _, _, hI.1, kit_tuple _ hI.2, _, rfl, ?_⟩
          have lus := dpA_len hus
          have lf := List.length_filter_le isT ((thgs dw dr).take j)
          have bj : (((thgs dw dr).take j).filter isT).length ≤ ((thgs dw dr).filter isT).length := (((List.take_sublist j _).filter isT).length_le)
          show if isT e = true then _ else _
          cases h : isT e with
          | true =>
            rw [h, if_pos rfl] at ek
            exact iteT ⟨_, rfl, us, upd_same, small1000 (by omega), us ++ [v], upd_upd, by rw [ek]; exact dpA_app hus (.cons hev .nil)⟩
          | false =>
            rw [h, if_neg (by decide), List.append_nil] at ek
            exact iteF ⟨us, rfl, by rw [ek]; exact hus⟩
        case c2 =>
        rintro S3 ⟨us, rfl, hus⟩
        rw [lzs, List.take_length] at hus
        have lus := dpA_len hus
        have e2 : (upd S2 D (.lst us)) l = some (.lst ys) := (gD _).lst hL2
        refine ⟨l, D, ys, us, rfl, rfl, e2, upd_same, by have := small1000 (show ys.length + us.length ≤ 1000 by omega); omega, ?_⟩
        refine ⟨_, _, _, ys ++ us, rfl, (g2.trans (gD _)).upd_new nl, upd_same, ?_⟩
        rw [et]
        exact dpA_app hys hus
      refine seq_go ?_
      refine ⟨_, rfl, p, _, 0, xw, rfl, rfl, g.sqt hp, atI_nat (j := 0) rfl, dw, "give", SfG.Dp.dx (g.kd.dp hw), rfl, _, rfl, ?_⟩
      cases hgi : eqS dw "give" with
      | true =>
        obtain ⟨es, r2, rfl⟩ := hop hgi
        obtain ⟨xe, xr2, rfl, he, _⟩ := dpA_cons hxr
        obtain ⟨pe, zs, rfl, hpe, hzs⟩ := dp_tup he
        exact iteT ⟨_, rfl, p, _, 1, _, rfl, rfl, g.sqt hp, atI_nat (j := 1) rfl, hF _ _ ⟨pe, zs, y4, rfl, g, hL, g.sqt hpe, by rw [thgs_gv hgi]; exact hzs⟩⟩
      | false =>
        refine iteF ⟨_, rfl, 1, rfl, p, _, rfl, g.sqt hp, ?_, fun q3 n3 => hF _ _ ⟨q3, xr, y4, rfl, g.trans (Gr.new n3), (Gr.new n3).lst hL, .inl (.inl ?_), by rw [thgs_no hgi]; exact hxr⟩⟩
        · exact cut_not xw xr
        · rw [show cutV (xw :: xr) (some 1) none = xr from cut_one xw xr]
          exact upd_same
    case f2 =>
    rintro σ S ⟨y2, y3, y4, ys, rfl, g, hL, hys⟩
    rw [lx, List.take_length] at hys
    exact ⟨_, rfl, q S l ys g hL (g.kd.dpA hys)⟩
end
end SfE
namespace SfE
open PySem PySem.Spec PyProof.Rows L2 SfG
/-- what may be looked into so deep -/
def GoodL : Nat → List PyData → Prop
  | 0, l => l = []
  | n + 1, l => (∀ d ∈ l, Opn d) ∧ l.length ≤ 1000 ∧ GoodL n (l.flatMap sub)
theorem GoodL.ln : ∀ {n : Nat} {l : List PyData}, GoodL n l → l.length ≤ 1000
  | 0, l, h => by rw [show l = [] from h]; exact Nat.zero_le _
  | n + 1, l, h => h.2.1
/-- parts of some -/
def psz : Nat → List PyData → Nat
  | 0, _ => 0
  | n + 1, l => l.length + psz n (l.flatMap sub)
/-- how deep they are -/
def dpt : Nat → List PyData → Nat
  | 0, _ => 0
  | n + 1, l => if l.isEmpty = true then 0 else 1 + dpt n (l.flatMap sub)
theorem psz_nil : ∀ n, psz n [] = 0
  | 0 => rfl
  | n + 1 => by
    rw [psz]
    exact (Nat.zero_add _).trans (psz_nil n)
theorem dpt_nil : ∀ n, dpt n [] = 0
  | 0 => rfl
  | n + 1 => rfl
section
variable {P : Program} {w : World} {K : PySem.W.Frag} {mg : Str → Option Value} {base : Heap}
def spPin (K : PySem.W.Frag) (cnt : Nat → List PyData → Nat) : Sp := fun vs H Q _ => ∃ (t : V) (d : PyData) (n : Nat), vs = [t] ∧ Dp K H t d ∧ GoodL n [d] ∧ ∀ H', Gr H H' → Q (.int (cnt n [d] : Nat)) H'
set_option maxHeartbeats 4000000 in
theorem ok_parts {f fB : Addr} {fd fdB : FuncData} {k : Nat} (F : Fun K "parts_in" "parts_in" sParts f fd) (HB : Has P w K mg base k "parts_below" ["level"] (spBelow K) fB fdB) (ml : mg "len" = none) :
    FnOk P w K mg base CX0 (k + 1) f fd ["body"] (spPin K psz) := by
  refine F.ok scParts (fun vs H Q E h => ?_) (fun cdv A outer s H vs Q E hr h => ?_)
  · obtain ⟨t, d, n, rfl, _⟩ := h
    rfl
  · obtain ⟨t, d, n, rfl, hd, hg, q⟩ := h
    have nd := scParts.nd
    refine' ⟨_, pss_cons ?s1 (pss_cons ?s2 (pss_cons ?s3 (pss_one ?s4))), ?rd⟩
    case s1 => exact ps_set (i := 1) nd rfl (.inl rfl) pe_int
    case s2 => exact ps_set (i := 2) nd rfl (.inl rfl) (pe_lst (pa_cons (pv 0) pa_nil))
    case s3 =>
      exact ps_while PassesOwn.never (pt_truth (pv 2) (fun _ => rfl)) (pss_cons (ps_aug (i := 1) nd rfl (.inl rfl) (pe_callB call_len_seq (by rfl) ml PySem.boot_len (pa_cons (pv 2) pa_nil)) ip_add)
        (pss_one (ps_set (i := 2) nd rfl (.inl rfl) (hcall HB hr (pa_cons (pv 2) pa_nil)))))
    case s4 => exact ps_ret (pv 1)
    case rd =>
    refine ⟨_, rfl, by show 1 ≤ sizeLine; decide, fun l nl => ?_⟩
    refine ⟨fun m σ S => ∃ (lv : Addr) (us : List V) (ds : List PyData) (c : Int), σ = [some t, some (.int c), some (.ref lv)] ∧ Gr H S ∧ S lv = some (.lst us) ∧ DpAll K S us ds ∧ GoodL m ds ∧ c + (psz m ds : Nat) = (psz n [d] : Nat),
      ⟨n, l, [t], [d], 0, rfl, Gr.new nl, upd_same, .cons ((Gr.new nl).kd.dp hd) .nil, hg, Int.zero_add _⟩, ?_⟩
    rintro m σ S ⟨lv, us, ds, c, rfl, g, hlv, hds, hgd, eq⟩
    have lu := dpA_len hds
    refine ⟨_, rfl, !us.isEmpty, .inl ⟨us, .inl (.inl hlv), rfl⟩, ?_⟩
    cases ds with
    | nil =>
      cases dpA_nil hds
      refine iteF ⟨_, rfl, ?_⟩
      rw [psz_nil] at eq
      have e2 : c = (psz n [d] : Nat) := by omega
      rw [e2]
      exact q S g
    | cons d1 dr =>
    obtain ⟨x1, xr, rfl, _, _⟩ := dpA_cons hds
    cases m with
    | zero => exact absurd hgd (by intro z; cases z)
    | succ m =>
    obtain ⟨ho, hl, hg2⟩ := hgd
    refine iteT ⟨fun σ' S' => ∃ m', m' < m + 1 ∧ ∃ (lv : Addr) (us : List V) (ds : List PyData) (c : Int), σ' = [some t, some (.int c), some (.ref lv)] ∧ Gr H S' ∧ S' lv = some (.lst us) ∧ DpAll K S' us ds ∧ GoodL m' ds ∧ c + (psz m' ds : Nat) = (psz n [d] : Nat), fun σ' S' h => h, ?_⟩
    refine ⟨_, rfl, _, rfl, lv, _, rfl, .inl (.inl (.inl hlv)), c, _, rfl, rfl, ?_⟩
    refine ⟨_, rfl, lv, _, _, rfl, .inl (.inl hlv), hds, ho, hg2.ln, fun S' l2 ys g2 hl2 hys => ?_⟩
    refine ⟨m, Nat.lt_succ_self _, l2, ys, _, _, rfl, g.trans g2, hl2, hys, hg2, ?_⟩
    rw [← eq, psz, lu]
    show c + _ + _ = _
    omega
set_option maxHeartbeats 4000000 in
theorem ok_deepI {f fB : Addr} {fd fdB : FuncData} {k : Nat} (F : Fun K "depth_in" "depth_in" sDeepI f fd) (HB : Has P w K mg base k "parts_below" ["level"] (spBelow K) fB fdB) :
    FnOk P w K mg base CX0 (k + 1) f fd ["body"] (spPin K dpt) := by
  refine F.ok scDeepI (fun vs H Q E h => ?_) (fun cdv A outer s H vs Q E hr h => ?_)
  · obtain ⟨t, d, n, rfl, _⟩ := h
    rfl
  · obtain ⟨t, d, n, rfl, hd, hg, q⟩ := h
    have nd := scDeepI.nd
    refine' ⟨_, pss_cons ?s1 (pss_cons ?s2 (pss_cons ?s3 (pss_one ?s4))), ?rd⟩
    case s1 => exact ps_set (i := 1) nd rfl (.inl rfl) pe_int
    case s2 => exact ps_set (i := 2) nd rfl (.inl rfl) (pe_lst (pa_cons (pv 0) pa_nil))
    case s3 =>
      exact ps_while PassesOwn.never (pt_truth (pv 2) (fun _ => rfl)) (pss_cons (ps_aug (i := 1) nd rfl (.inl rfl) pe_int ip_add)
        (pss_one (ps_set (i := 2) nd rfl (.inl rfl) (hcall HB hr (pa_cons (pv 2) pa_nil)))))
    case s4 => exact ps_ret (pv 1)
    case rd =>
    refine ⟨_, rfl, by show 1 ≤ sizeLine; decide, fun l nl => ?_⟩
    refine ⟨fun m σ S => ∃ (lv : Addr) (us : List V) (ds : List PyData) (c : Int), σ = [some t, some (.int c), some (.ref lv)] ∧ Gr H S ∧ S lv = some (.lst us) ∧ DpAll K S us ds ∧ GoodL m ds ∧ c + (dpt m ds : Nat) = (dpt n [d] : Nat),
      ⟨n, l, [t], [d], 0, rfl, Gr.new nl, upd_same, .cons ((Gr.new nl).kd.dp hd) .nil, hg, Int.zero_add _⟩, ?_⟩
    rintro m σ S ⟨lv, us, ds, c, rfl, g, hlv, hds, hgd, eq⟩
    have lu := dpA_len hds
    refine ⟨_, rfl, !us.isEmpty, .inl ⟨us, .inl (.inl hlv), rfl⟩, ?_⟩
    cases ds with
    | nil =>
      cases dpA_nil hds
      refine iteF ⟨_, rfl, ?_⟩
      rw [dpt_nil] at eq
      have e2 : c = (dpt n [d] : Nat) := by omega
      rw [e2]
      exact q S g
    | cons d1 dr =>
    obtain ⟨x1, xr, rfl, _, _⟩ := dpA_cons hds
    cases m with
    | zero => exact absurd hgd (by intro z; cases z)
    | succ m =>
    obtain ⟨ho, hl, hg2⟩ := hgd
    refine iteT ⟨fun σ' S' => ∃ m', m' < m + 1 ∧ ∃ (lv : Addr) (us : List V) (ds : List PyData) (c : Int), σ' = [some t, some (.int c), some (.ref lv)] ∧ Gr H S' ∧ S' lv = some (.lst us) ∧ DpAll K S' us ds ∧ GoodL m' ds ∧ c + (dpt m' ds : Nat) = (dpt n [d] : Nat), fun σ' S' h => h, ?_⟩
    refine ⟨_, rfl, c, _, rfl, rfl, ?_⟩
    refine ⟨_, rfl, lv, _, _, rfl, .inl (.inl hlv), hds, ho, hg2.ln, fun S' l2 ys g2 hl2 hys => ?_⟩
    refine ⟨m, Nat.lt_succ_self _, l2, ys, _, _, rfl, g.trans g2, hl2, hys, hg2, ?_⟩
    rw [← eq, dpt, if_neg (fun z => by cases z)]
    show c + 1 + _ = _
    omega
end
end SfE
namespace SfE
open PySem PySem.Spec PyProof.Rows L2 SfG
abbrev sBeg : Stmt := topS 11
abbrev sPick : Stmt := topS 12
abbrev sAmg : Stmt := topS 13
theorem scBeg : FnScope ["_law_script", "_law_k", "_law_cell", "_law_mixed"] ["_law_script", "_law_k"] (defScope sBeg) := ⟨rfl, rfl, rfl, by decide +kernel, rfl, by decide +kernel, by decide +kernel⟩
theorem scPick : FnScope ["_law_state", "_law_many", "_law_digits", "_law_number"] ["_law_state", "_law_many"] (defScope sPick) := ⟨rfl, rfl, rfl, by decide +kernel, rfl, by decide +kernel, by decide +kernel⟩
theorem scAmg : FnScope ["_law_thing", "_law_least", "_law_most"] ["_law_thing", "_law_least", "_law_most"] (defScope sAmg) := ⟨rfl, rfl, rfl, by decide +kernel, rfl, by decide +kernel, by decide +kernel⟩
abbrev kDig : Key := Sum.inr ("digits" : Str)
abbrev kNum : Key := Sum.inr ("number" : Str)
def kv2 (d n : Int) : List (Key × V) := [(kDig, .int d), (kNum, .int n)]
def Drw (H : Hp) (p : Addr) : Prop := ∃ d n, H p = some (.dK (kv2 d n)) ∧ 0 ≤ d ∧ 0 ≤ n ∧ n < 2147483647
theorem get_dig {H : Hp} {p : Addr} {d n : Int} (h : H p = some (.dK (kv2 d n))) : DGet H p (.str "digits") (some (.int d)) := DGet.k (k := kDig) h
theorem get_num {H : Hp} {p : Addr} {d n : Int} (h : H p = some (.dK (kv2 d n))) : DGet H p (.str "number") (some (.int n)) := DGet.k (k := kNum) h
theorem set_dig {H : Hp} {p : Addr} {d n d' : Int} (h : H p = some (.dK (kv2 d n))) : DPut H p (.str "digits") (.int d') (upd H p (.dK (kv2 d' n))) := DPut.k (k := kDig) h (by show 2 < sizeLine; decide)
theorem set_num {H : Hp} {p : Addr} {d n n' : Int} (h : H p = some (.dK (kv2 d n))) : DPut H p (.str "number") (.int n') (upd H p (.dK (kv2 d n'))) := DPut.k (k := kNum) h (by show 2 < sizeLine; decide)
theorem Drw.gr {H H' : Hp} {p : Addr} (d : Drw H p) (g : Gr H H') : Drw H' p := by
  obtain ⟨x, y, h, r⟩ := d
  exact ⟨x, y, g.dic h, r⟩
theorem Drw.ne {H : Hp} {p q : Addr} (d : Drw H p) (h : H q = none) : q ≠ p := by
  obtain ⟨x, y, e, _⟩ := d
  intro z
  rw [z, e] at h
  cases h
theorem Drw.new {H : Hp} {p q : Addr} {o : HO} (d : Drw H p) (h : H q = none) : Drw (upd H q o) p := d.gr (Gr.new h)
theorem Drw.upd {H : Hp} {p q : Addr} {o : HO} (d : Drw H p) (h : q ≠ p) : Drw (upd H q o) p := by
  obtain ⟨x, y, e, r⟩ := d
  exact ⟨x, y, (upd_ne (Ne.symm h)).trans e, r⟩
theorem Drw.kd {K : PySem.W.Frag} {H H' : Hp} {p : Addr} (d : Drw H p) (g : Gp p H H') : Kd K H H' := by
  obtain ⟨x, y, e, _⟩ := d
  exact g.kd e
theorem gr_new2 {H : Hp} {p : Addr} {o o' : HO} (h : H p = none) : Gr H (upd (upd H p o) p o') := by
  refine Gr.same ?_
  intro b x e
  have n : b ≠ p := ne_of_none e h
  rw [upd_ne n, upd_ne n]
  exact e
section
variable {P : Program} {w : World} {K : PySem.W.Frag} {mg : Str → Option Value} {base : Heap}
def spBeg (K : PySem.W.Frag) : Sp := fun vs H Q _ => ∃ (a : Addr) (ns : List Int) (k : Nat), vs = [.ref a, .int k] ∧ SqL K H a (ns.map V.int) ∧ k ≤ 1000 ∧ ∀ H' p, H p = none → Gr H H' → Drw H' p → Q (.ref p) H'
theorem ok_beg {f : Addr} {fd : FuncData} {k : Nat} (F : Fun K "_law_begun" "_law_begun" sBeg f fd) (ml : mg "len" = none) (ma : mg "abs" = none) : FnOk P w K mg base CX0 (k + 1) f fd ["_law_script", "_law_k"] (spBeg K) := by
  refine F.ok scBeg (fun vs H Q E h => ?_) (fun cdv A outer s H vs Q E hr h => ?_)
  · obtain ⟨a, ns, k, rfl, _⟩ := h
    rfl
  · obtain ⟨a, ns, k, rfl, hS, hk, q⟩ := h
    have nd := scBeg.nd
    refine' ⟨_, pss_cons ?s1 (pss_cons ?s2 (pss_cons ?s3 (pss_one ?s4))), ?rd⟩
    case s1 =>
      exact ps_set (i := 2) nd rfl (.inl rfl) (pe_ifExp (pt_chain op_le op_lt pe_int (pv 1) (pe_callB call_len_seq (by rfl) ml PySem.boot_len (pa_cons (pv 0) pa_nil))) (pe_ix ix_list (pv 0) (pv 1) (fun _ _ => rfl)) pe_int)
    case s2 =>
      exact ps_set (i := 3) nd rfl (.inl rfl) (pe_op op_add (pe_op op_add (pe_op op_mod (pv 2) pe_int) (pe_op op_mul pe_int (pv 1))) pe_int)
    case s3 =>
      exact ps_set (i := 3) nd rfl (.inl rfl) (pe_op op_mod (pe_op op_mul (pe_op op_mod (pe_op op_mul (pv 3) (pv 3)) pe_int) pe_int) pe_int)
    case s4 =>
      exact ps_ret (pe_disp (pps_cons pe_str (pe_ifExp (pt_cmpR op_ge (pe_callB call_abs (by rfl) ma (by decide +kernel) (pa_cons (pv 2) pa_nil)) (pe_op op_pow pe_int pe_int) (nomark _))
          (pe_op op_mod (pe_callB call_abs (by rfl) ma (by decide +kernel) (pa_cons (pv 2) pa_nil)) (pe_op op_mulW (pe_op op_pow pe_int pe_int) (pe_op op_pow pe_int pe_int))) pe_int)
        (pps_cons pe_str (pv 3) pps_nil)) (by rfl) (by rfl) (fun z => by cases z) (by decide))
    case rd =>
    have tail : ∀ c : Int, tSeq (tAsg (tOp (rI0 fun i j => .int (i + j)) (tOp (rI0 fun i j => .int (i + j)) (tOp (rI (fun _ j => 0 < j) fun i j => .int (i % j)) (tVar 2) (tC (.int 1000000007))) (tOp (rI CMul fun i j => .int (i * j)) (tC (.int 7919)) (tVar 1))) (tC (.int 13))) (gName 3))
        (tSeq (tAsg (tOp (rI (fun _ j => 0 < j) fun i j => .int (i % j)) (tOp (rI CMul fun i j => .int (i * j)) (tOp (rI (fun _ j => 0 < j) fun i j => .int (i % j)) (tOp (rI CMul fun i j => .int (i * j)) (tVar 3) (tVar 3)) (tC (.int 2147483629))) (tC (.int 48271))) (tC (.int 2147483647))) (gName 3))
        (tRet (tDisp [(tC (.str "digits"), tIf (tTest (tOp (rI0 fun i j => .bl (decide (i ≥ j))) (tCB (fun xs H Q => ∃ i, xs = [.int i] ∧ Q (.int (if i < 0 then -i else i)) H) (tCons (tVar 2) tNil)) (tOp (rI CPow fun i j => .int (i ^ j.toNat)) (tC (.int 10)) (tC (.int 18)))))
            (tOp (rI (fun _ j => 0 < j) fun i j => .int (i % j)) (tCB (fun xs H Q => ∃ i, xs = [.int i] ∧ Q (.int (if i < 0 then -i else i)) H) (tCons (tVar 2) tNil)) (tOp (rI CMulW fun i j => .int (i * j)) (tOp (rI CPow fun i j => .int (i ^ j.toNat)) (tC (.int 10)) (tC (.int 60))) (tOp (rI CPow fun i j => .int (i ^ j.toNat)) (tC (.int 10)) (tC (.int 60))))) (tC (.int 0))),
          (tC (.str "number"), tVar 3)])))
        { nx := fun _ H' => Q .non H', rt := Q } [some (.ref a), some (.int k), some (.int c), none] H := by
      intro c
      refine ⟨_, rfl, c, 1000000007, rfl, rfl, (by show (0 : Int) < 1000000007; decide), _, rfl, 7919, k, rfl, rfl, .inl ⟨by decide, by decide⟩, _, _, rfl, rfl, _, _, rfl, rfl, ?_⟩
      refine ⟨_, rfl, _, rfl, _, _, rfl, rfl, .inl ⟨?_, ?_⟩, _, 2147483629, rfl, rfl, (by show (0 : Int) < 2147483629; decide), _, 48271, rfl, rfl, .inr ⟨by decide, by decide⟩, _, 2147483647, rfl, rfl, (by show (0 : Int) < 2147483647; decide), ?_⟩
      · have : (-(2 ^ 64) : Int) = -18446744073709551616 := by decide
        rw [this]
        omega
      · have : ((2 ^ 64) : Int) = 18446744073709551616 := by decide
        rw [this]
        omega
      have m0 := Int.emod_nonneg ((c % 1000000007 + 7919 * (k : Int) + 13) * (c % 1000000007 + 7919 * (k : Int) + 13) % 2147483629 * 48271) (show (2147483647 : Int) ≠ 0 by decide)
      have m1 := Int.emod_lt_of_pos ((c % 1000000007 + 7919 * (k : Int) + 13) * (c % 1000000007 + 7919 * (k : Int) + 13) % 2147483629 * 48271) (show (0 : Int) < 2147483647 by decide)
      change gName 3 (V.int ((c % 1000000007 + 7919 * (k : Int) + 13) * (c % 1000000007 + 7919 * (k : Int) + 13) % 2147483629 * 48271 % 2147483647)) _ _ _
      generalize (c % 1000000007 + 7919 * (k : Int) + 13) * (c % 1000000007 + 7919 * (k : Int) + 13) % 2147483629 * 48271 % 2147483647 = m at m0 m1 ⊢
      intro p np
      have fin : ∀ d : Int, 0 ≤ d → Q (.ref p) (upd (upd H p (.dK [])) p (.dK (mergeK [] (kv2 d m)))) := by
        intro d hd
        refine q _ p np (gr_new2 np) ⟨d, m, ?_, hd, m0, m1⟩
        rw [upd_same]
        rfl
      refine ⟨_, rfl, c, rfl, 10, 18, rfl, rfl, ⟨by decide, by decide, by decide⟩, _, _, rfl, rfl, _, rfl, ite2 (fun e => ?_) (fun e => ?_)⟩
      · refine ⟨_, rfl, c, rfl, 10, 60, rfl, rfl, ⟨by decide, by decide, by decide⟩, 10, 60, rfl, rfl, ⟨by decide, by decide, by decide⟩, _, _, rfl, rfl, wide_mul (a := 300) (b := 300) (by decide) (by decide) (by decide) (by decide) (by decide), _, _, rfl, rfl, ?_, _, rfl, upd_same, kv2 _ m, rfl, by show 2 ≤ 15; decide, fin _ ?_⟩
        · show (0 : Int) < 10 ^ (60 : Int).toNat * 10 ^ (60 : Int).toNat
          decide
        · exact Int.emod_nonneg _ (by decide)
      · exact ⟨_, rfl, upd_same, kv2 0 m, rfl, by show 2 ≤ 15; decide, fin 0 (by decide)⟩
    refine ⟨_, rfl, 0, k, rfl, rfl, _, rfl, ?_⟩
    have k0 : decide ((0 : Int) ≤ (k : Int)) = true := decide_eq_true (by omega)
    rw [k0]
    refine iteT ⟨_, rfl, a, _, rfl, .inl hS, k, _, rfl, rfl, _, rfl, ite2 (fun e => ?_) (fun e => ?_)⟩
    · have e' : (k : Int) < ((ns.map V.int).length : Int) := of_decide_eq_true e
      have hk' : k < ns.length := by
        rw [List.length_map] at e'
        omega
      refine ⟨_, rfl, _, rfl, a, _, k, .int ns[k], rfl, rfl, hS, atI_nat (j := k) (by simp [hk']), ?_⟩
      exact tail ns[k]
    · exact tail 5
def spPick : Sp := fun vs H Q _ => ∃ (p : Addr) (m : Int), vs = [.ref p, .int m] ∧ Drw H p ∧ 0 < m ∧ m ≤ 1000000 ∧ ∀ H' d, But p H H' → Drw H' p → 0 ≤ d → d < m → Q (.int d) H'
theorem ok_pick {f : Addr} {fd : FuncData} {k : Nat} (F : Fun K "_law_pick" "_law_pick" sPick f fd) : FnOk P w K mg base CX0 (k + 1) f fd ["_law_state", "_law_many"] spPick := by
  refine F.ok scPick (fun vs H Q E h => ?_) (fun cdv A outer s H vs Q E hr h => ?_)
  · obtain ⟨p, m, rfl, _⟩ := h
    rfl
  · obtain ⟨p, m, rfl, ⟨d, n, hp, hd, hn, hn2⟩, hm0, hm1, q⟩ := h
    have nd := scPick.nd
    refine' ⟨_, pss_cons ?s1 (pss_cons ?s2 (pss_cons ?s3 (pss_cons ?s4 (pss_one ?s5)))), ?rd⟩
    case s1 =>
      exact ps_set (i := 2) nd rfl (.inl rfl) (pe_dget (hu_of hr) (pv 0) pe_str (fun _ _ => rfl))
    case s2 =>
      exact ps_if (pt_cmpR op_gt (pv 2) pe_int (nomark _)) (pss_cons (ps_dput (hu_of hr) (pv 0) pe_str (pe_op op_fdiv (pv 2) (pv 1)) rfl) (pss_one (ps_ret (pe_op op_mod (pv 2) (pv 1))))) pss_nil
    case s3 =>
      exact ps_set (i := 3) nd rfl (.inl rfl) (pe_op op_mod (pe_op op_add (pe_op op_mul (pe_dget (hu_of hr) (pv 0) pe_str (fun _ _ => rfl)) pe_int) pe_int) pe_int)
    case s4 =>
      exact ps_dput (hu_of hr) (pv 0) pe_str (pv 3) rfl
    case s5 =>
      exact ps_ret (pe_op op_mod (pe_op op_fdiv (pe_op op_mod (pe_op op_mul (pv 3) (pe_op op_add (pv 3) pe_int)) pe_int) pe_int) (pv 1))
    case rd =>
    refine ⟨_, rfl, p, _, rfl, get_dig hp, ?_⟩
    refine ⟨_, rfl, d, 0, rfl, rfl, _, rfl, ite2 (fun e => ?_) (fun e => ?_)⟩
    · refine ⟨_, rfl, _, rfl, d, m, rfl, rfl, ⟨hm0, by omega⟩, _, rfl, p, _, rfl, set_dig hp, ?_⟩
      refine ⟨_, rfl, _, rfl, d, m, rfl, rfl, hm0, q _ _ (But.upd fun _ _ => rfl) ⟨d / m, n, upd_same, Int.ediv_nonneg hd (by omega), hn, hn2⟩ (Int.emod_nonneg _ (by omega)) (Int.emod_lt_of_pos _ hm0)⟩
    · refine ⟨_, rfl, p, _, rfl, get_num hp, n, 48271, rfl, rfl, .inr ⟨by decide, by decide⟩, _, 11, rfl, rfl, _, 2147483647, rfl, rfl, (by show (0 : Int) < 2147483647; decide), ?_⟩
      have m0 := Int.emod_nonneg (n * 48271 + 11) (show (2147483647 : Int) ≠ 0 by decide)
      have m1 := Int.emod_lt_of_pos (n * 48271 + 11) (show (0 : Int) < 2147483647 by decide)
      change gName 3 (V.int ((n * 48271 + 11) % 2147483647)) _ _ _
      generalize (n * 48271 + 11) % 2147483647 = r at m0 m1 ⊢
      refine ⟨_, rfl, _, rfl, p, _, rfl, set_num hp, ?_⟩
      refine ⟨_, rfl, _, rfl, r, 7919, rfl, rfl, r, _, rfl, rfl, .inl ⟨?_, ?_⟩, _, 2147483629, rfl, rfl, (by show (0 : Int) < 2147483629; decide), _, 7, rfl, rfl, ⟨by decide, by decide⟩, _, rfl, _, m, rfl, rfl, hm0, q _ _ (But.upd fun _ _ => rfl) ⟨d, r, upd_same, hd, m0, m1⟩ (Int.emod_nonneg _ (by omega)) (Int.emod_lt_of_pos _ hm0)⟩
      · have : (-(2 ^ 64) : Int) = -18446744073709551616 := by decide
        rw [this]
        omega
      · have : ((2 ^ 64) : Int) = 18446744073709551616 := by decide
        rw [this]
        omega
/-- among: of anything -/
def spAmg (K : PySem.W.Frag) : Sp := fun vs H Q _ => ∃ (t : V) (d : PyData) (lo hi : Int), vs = [t, .int lo, .int hi] ∧ Dp K H t d ∧ Q (.bl (amg d lo hi)) H
theorem ok_amg {f : Addr} {fd : FuncData} {k : Nat} (F : Fun K "_law_among" "_law_among" sAmg f fd) (mi : mg "isinstance" = none) (m1 : mg "int" = none) (m2 : mg "bool" = none) :
    FnOk P w K mg base CX0 (k + 1) f fd ["_law_thing", "_law_least", "_law_most"] (spAmg K) := by
  refine F.ok scAmg (fun vs H Q E h => ?_) (fun cdv A outer s H vs Q E hr h => ?_)
  · obtain ⟨t, d, lo, hi, rfl, _⟩ := h
    rfl
  · obtain ⟨t, d, lo, hi, rfl, hd, q⟩ := h
    refine ⟨_, pss_one (ps_ret (pe_and (pe_isi "int" 0 mi m1 (by decide +kernel)) (pe_and (pe_not (pe_isi "bool" 0 mi m2 (by decide +kernel))) (pe_one (pe_chain op_le op_le (pv 1) (pv 0) (pv 2)))))), ?_⟩
    have hI := dp_is hd
    refine ⟨_, rfl, _, _, hI.1, kit_intN, _, rfl, ?_⟩
    cases hd with
    | int i =>
      refine iteT ⟨_, rfl, "int", false, .base (.int i), by decide +kernel, _, rfl, _, rfl, iteT ?_⟩
      refine ⟨_, rfl, _, rfl, lo, i, rfl, rfl, _, rfl, ?_⟩
      change Q (.bl (decide (lo ≤ i) && decide (i ≤ hi))) H at q
      cases h1 : decide (lo ≤ i) with
      | true =>
        rw [h1] at q
        exact iteT ⟨_, rfl, i, hi, rfl, rfl, q⟩
      | false =>
        rw [h1] at q
        exact iteF q
    | bl b => exact iteT ⟨_, rfl, "bool", true, .base (.bl b), by decide +kernel, _, rfl, _, rfl, iteF q⟩
    | _ => exact iteF q
end
end SfE
set_option maxRecDepth 10000000
namespace SfE
open PySem PySem.Spec PyProof.Rows L2 SfG
abbrev sLook : Stmt := topS 14
abbrev nLook : List Str := ["_law_thing", "_law_counts", "_law_many", "_law_word", "_law_more", "_law_inner", "_law_sizes", "_law_found", "_law_one", "_law_kind"]
theorem scLook : FnScope nLook ["_law_thing", "_law_counts", "_law_many"] (defScope sLook) := ⟨rfl, rfl, rfl, by decide +kernel, rfl, by decide +kernel, by decide +kernel⟩
def cD (cs : List Nat) : PyData := .tuple (cs.map fun (c : Nat) => PyData.int (c : Int))
/-- what stands within, and what it must be -/
abbrev Inn := List (PyData × Option Nat)
def d0 (ds : List PyData) : PyData := ds.getD 0 .none
def d1 (ds : List PyData) : PyData := ds.getD 1 .none
def d2 (ds : List PyData) : PyData := ds.getD 2 .none
def szs (z : Str) : Nat := if z = "plus" ∨ z = "less" ∨ z = "times" ∨ z = "same" ∨ z = "under" then 2 else if z = "if" then 3 else 0
def o4 (m : Option Nat) (z : Str) (ds : List PyData) (o : Option Inn) : Option Inn := if m = none ∧ z = "number" ∧ ds.length = 1 ∧ amg (d0 ds) 0 99 = true then some [] else o
def nI : PyData → Int
  | .int i => i
  | _ => 0
def o5 (cs : List Nat) (m : Option Nat) (z : Str) (ds : List PyData) (o : Option Inn) : Option Inn :=
  if m = none ∧ z = "in" ∧ ds.length = 2 ∧ amg (d0 ds) 0 ((cs.length : Int) - 1) = true then (if amg (d1 ds) 0 (cAt cs (nI (d0 ds)) - 1) = true then some [] else none) else o
def o6 (m : Option Nat) (z : Str) (ds : List PyData) (o : Option Inn) : Option Inn := if m = none ∧ z = "rest" ∧ ds.length = 2 ∧ amg (d1 ds) 2 99 = true then some [(d0 ds, none)] else o
def o8 (m : Option Nat) (z : Str) (ds : List PyData) (o : Option Inn) : Option Inn := if m = none ∧ szs z = ds.length ∧ 0 < ds.length then some (ds.map fun d => (d, none)) else o
def o9 (m : Option Nat) (z : Str) (ds : List PyData) (o : Option Inn) : Option Inn := if m ≠ none ∧ z = "refuse" ∧ ds = [] then some [] else o
def esOf : PyData → List PyData
  | .tuple es => es
  | _ => []
def o10 (m : Option Nat) (z : Str) (ds : List PyData) (o : Option Inn) : Option Inn := if m ≠ none ∧ z = "give" ∧ ds.length = 1 ∧ isT (d0 ds) = true ∧ m = some (esOf (d0 ds)).length then some ((esOf (d0 ds)).map fun d => (d, none)) else o
def o11 (m : Option Nat) (z : Str) (ds : List PyData) (o : Option Inn) : Option Inn := if m ≠ none ∧ z = "when" ∧ ds.length = 3 then some [(d0 ds, none), (d1 ds, m), (d2 ds, m)] else o
def inn (cs : List Nat) (m : Option Nat) (z : Str) (ds : List PyData) : Option Inn := o11 m z ds (o10 m z ds (o9 m z ds (o8 m z ds (o6 m z ds (o5 cs m z ds (o4 m z ds none))))))
theorem merge6 : mergeK [] sz6 = sz6 := rfl
def kV : Option Nat → V
  | none => .non
  | some m => .int (m : Nat)
def NxD (K : PySem.W.Frag) (H : Hp) (ps : List V) (l : Inn) : Prop := ps.length = l.length ∧ ∀ (i : Nat) (x : V), ps[i]? = some x → ∃ (t : Addr) (c : V) (dm : PyData × Option Nat), x = .ref t ∧ SqT K H t [c, kV dm.2] ∧ l[i]? = some dm ∧ Dp K H c dm.1
def InnV (K : PySem.W.Frag) (H : Hp) (v : V) : Option Inn → Prop
  | none => v = .non
  | some l => ∃ (pi : Addr) (ps : List V), v = .ref pi ∧ H pi = some (.lst ps) ∧ NxD K H ps l
theorem InnV.gr {K : PySem.W.Frag} {H H' : Hp} {v : V} {o : Option Inn} (h : InnV K H v o) (g : Gr H H') : InnV K H' v o := by
  cases o with
  | none => exact h
  | some l =>
    obtain ⟨pi, ps, rfl, h1, h2, h3⟩ := h
    refine ⟨pi, ps, rfl, g.lst h1, h2, fun i x hx => ?_⟩
    obtain ⟨t, c, dm, e, a1, a2, a3⟩ := h3 i x hx
    exact ⟨t, c, dm, e, g.sqt a1, a2, g.kd.dp a3⟩
/-- pairs of what stands in a tuple, and None -/
def Prs (H : Hp) (xs : List V) (ps : List V) : Prop := ∀ (j : Nat) (x : V), ps[j]? = some x → ∃ t y, x = .ref t ∧ xs[j]? = some y ∧ H t = some (.tup [y, .non])
theorem Prs.step {H : Hp} {xs ps l : List V} {D t : Addr} {y : V} {o : HO} (h : Prs H xs ps) (hD : H D = some (.lst l)) (nt : H t = none) (hy : xs[ps.length]? = some y) :
    Prs (upd (upd H t (.tup [y, .non])) D o) xs (ps ++ [.ref t]) := by
  intro j x hx
  have tD : t ≠ D := fun z => by
    rw [z, hD] at nt
    cases nt
  by_cases hj : j < ps.length
  · rw [List.getElem?_append_left hj] at hx
    obtain ⟨t', y', h1, h2, h3⟩ := h j x hx
    refine ⟨t', y', h1, h2, ?_⟩
    have n1 : t' ≠ D := fun z => by
      rw [z, hD] at h3
      cases h3
    rw [upd_ne n1, upd_ne (ne_of_none h3 nt)]
    exact h3
  · rw [List.getElem?_append_right (by omega)] at hx
    have hj0 : j - ps.length = 0 := by
      rcases Nat.eq_zero_or_pos (j - ps.length) with z | z
      · exact z
      · rw [List.getElem?_eq_none (by show 1 ≤ _; exact z)] at hx
        cases hx
    rw [hj0] at hx
    have ej : j = ps.length := by omega
    refine ⟨t, y, (Option.some.inj hx).symm, by rw [ej]; exact hy, ?_⟩
    rw [upd_ne tD]
    exact upd_same
theorem nx_of {K : PySem.W.Frag} {H : Hp} {xs ps : List V} {ds : List PyData} (h : Prs H xs ps) (hl : ps.length = xs.length) (hd : DpAll K H xs ds) : NxD K H ps (ds.map fun d => (d, none)) := by
  refine ⟨by rw [hl, List.length_map, dpA_len hd], fun i x hx => ?_⟩
  obtain ⟨t, y, rfl, hy, ht⟩ := h i x hx
  obtain ⟨d, he, de⟩ := dpA_at hd hy
  exact ⟨t, y, (d, none), rfl, .inl (.inl ht), by rw [List.getElem?_map, he]; rfl, de⟩
theorem val_sz (z : Str) : ∃ ov, ov = valV sz6 (Sum.inr z) ∧ ((ov = none ∧ szs z = 0) ∨ (ov = some (.int ((szs z : Nat) : Int)) ∧ 0 < szs z)) := by
  refine ⟨_, rfl, ?_⟩
  by_cases h : z = "plus" ∨ z = "less" ∨ z = "times" ∨ z = "same" ∨ z = "under"
  · refine .inr ?_
    rcases h with rfl | rfl | rfl | rfl | rfl <;> exact ⟨by decide +kernel, by decide +kernel⟩
  · by_cases h2 : z = "if"
    · subst h2
      exact .inr ⟨by decide +kernel, by decide +kernel⟩
    · refine .inl ⟨?_, by unfold szs; rw [if_neg h, if_neg h2]⟩
      have ne : ∀ {x : Str}, z ≠ x → ¬ (Sum.inr z : Key) = Sum.inr x := fun h e => h (Sum.inr.inj e)
      have h1 : z ≠ "plus" := fun e => h (.inl e)
      have h3 : z ≠ "less" := fun e => h (.inr (.inl e))
      have h4 : z ≠ "times" := fun e => h (.inr (.inr (.inl e)))
      have h5 : z ≠ "same" := fun e => h (.inr (.inr (.inr (.inl e))))
      have h6 : z ≠ "under" := fun e => h (.inr (.inr (.inr (.inr e))))
      unfold valV
      rw [List.find?_eq_none.mpr]
      · rfl
      · intro kv hkv
        unfold sz6 at hkv
        simp only [List.mem_cons, List.not_mem_nil, or_false] at hkv
        rcases hkv with rfl | rfl | rfl | rfl | rfl | rfl <;> simp only [decide_eq_true_eq] <;> intro e <;> have e2 := Sum.inr.inj e
        · exact h1 e2.symm
        · exact h3 e2.symm
        · exact h4 e2.symm
        · exact h5 e2.symm
        · exact h6 e2.symm
        · exact h2 e2.symm
/-- what holds while a thing is looked at -/
structure LS (K : PySem.W.Frag) (H H1 : Hp) (pm : Addr) (rest : List V) (ds : List PyData) (c : V) (cs : List Nat) (v : V) (o : Option Inn) : Prop where
  g : Gr H H1
  hp : SqT K H1 pm rest
  hr : DpAll K H1 rest ds
  hc : Dp K H1 c (cD cs)
  inn : InnV K H1 v o
  sm : ds.length ≤ 10000000
  sm1 : ∀ d ∈ ds, (esOf d).length ≤ 10000000
theorem LS.gr {K : PySem.W.Frag} {H H1 H2 : Hp} {pm : Addr} {rest : List V} {ds : List PyData} {c : V} {cs : List Nat} {v : V} {o : Option Inn} (h : LS K H H1 pm rest ds c cs v o) (g : Gr H1 H2) : LS K H H2 pm rest ds c cs v o :=
  ⟨h.g.trans g, g.sqt h.hp, g.kd.dpA h.hr, g.kd.dp h.hc, h.inn.gr g, h.sm, h.sm1⟩
theorem LS.put {K : PySem.W.Frag} {H H1 : Hp} {pm : Addr} {rest : List V} {ds : List PyData} {c : V} {cs : List Nat} {v v' : V} {o o' : Option Inn} (h : LS K H H1 pm rest ds c cs v o) (i : InnV K H1 v' o') : LS K H H1 pm rest ds c cs v' o' :=
  ⟨h.g, h.hp, h.hr, h.hc, i, h.sm, h.sm1⟩
structure LookNames (mg : Str → Option Value) : Prop where
  mi : mg "isinstance" = none
  mt : mg "tuple" = none
  ms : mg "str" = none
  ml : mg "len" = none
  msum : mg "sum" = none
  mmax : mg "max" = none
abbrev stL (t c k : V) (z : Str) (pm : Addr) (v : V) (y6 y7 y8 y9 : Option V) : L2.St := [some t, some c, some k, some (.str z), some (.ref pm), some v, y6, y7, y8, y9]
theorem dec_s (a b : Str) : decide (V.str a = V.str b) = decide (a = b) := by
  by_cases h : a = b
  · rw [decide_eq_true h, decide_eq_true (by rw [h])]
  · rw [decide_eq_false h, decide_eq_false (fun z => h (V.str.inj z))]
theorem dec_i (a b : Int) : decide (V.int a = V.int b) = decide (a = b) := by
  by_cases h : a = b
  · rw [decide_eq_true h, decide_eq_true (by rw [h])]
  · rw [decide_eq_false h, decide_eq_false (fun z => h (V.int.inj z))]
section
variable {P : Program} {w : World} {K : PySem.W.Frag} {mg : Str → Option Value} {base : Heap}
section
variable {f fA : Addr} {fdA : FuncData} {q : Nat} {cdv : Value} {A : Around} {outer : List Env} {s : Shared} {H : Hp} {E : XK}
/-- one of the steps by which what stands within is found -/
def Step (P : Program) (w : World) (K : PySem.W.Frag) (mg : Str → Option Value) (base : Heap) (f : Addr) (cdv : Value) (A : Around) (outer : List Env) (s : Shared) (H : Hp) (E : XK) (i j : Nat) (oo : List Nat → Option Nat → Str → List PyData → Option Inn → Option Inn) : Prop :=
  ∀ tt, PSs (cxOf CX0 P w K mg base nLook "_law_looked" (defScope sLook) f cdv A outer s H E).nox ((defBody sLook).drop j) tt → ∃ ts, PSs (cxOf CX0 P w K mg base nLook "_law_looked" (defScope sLook) f cdv A outer s H E).nox ((defBody sLook).drop i) ts ∧
    ∀ (D : Ends) (H0 H1 : Hp) (t c : V) (m : Option Nat) (z : Str) (pm : Addr) (rest : List V) (ds : List PyData) (cs : List Nat) (v : V) (o : Option Inn) (y6 y7 y8 y9 : Option V), LS K H0 H1 pm rest ds c cs v o →
      (∀ H2 v2 y6' y8', LS K H0 H2 pm rest ds c cs v2 (oo cs m z ds o) → tt D (stL t c (kV m) z pm v2 y6' y7 y8' y9) H2) → ts D (stL t c (kV m) z pm v y6 y7 y8 y9) H1
theorem step4 (HA' : Has P w K mg base (q + 2) "_law_among" ["_law_thing", "_law_least", "_law_most"] (spAmg K) fA fdA) (N : LookNames mg)
    (hr : Room (q + 2) (A.deeper (envOfC "_law_looked" (defScope sLook) s.heap.objs.size f cdv))) : Step P w K mg base f cdv A outer s H E 3 4 (fun _ => o4) := by
  have nd := scLook.nd
  intro tt dT
  refine' ⟨_, pss_cons ?d dT, ?r⟩
  case d =>
    exact ps_if (PW.pt (pw_and (pt_cmpR op_isN (pv 2) pe_non (nomark _)) (pw_and (pt_cmpR op_eq (pv 3) pe_str (nomark _)) (pw_and (pt_cmpR op_eq (pe_callB call_len_seq (by rfl) N.ml PySem.boot_len (pa_cons (pv 4) pa_nil)) pe_int (nomark _))
          (pw_and1 (pt_val (hcall HA' hr (pa_cons (pe_ix ix_tup (pv 4) pe_int (fun _ _ => rfl)) (pa_cons pe_int (pa_cons pe_int pa_nil))))))))))
          (pss_one (ps_set (i := 5) nd rfl (.inl rfl) (pe_lst pa_nil))) pss_nil
  case r =>
    intro D H0 H1 t c m z pm rest ds cs v o y6 y7 y8 y9 L fin
    have no : ¬ (m = none ∧ z = "number" ∧ ds.length = 1 ∧ amg (d0 ds) 0 99 = true) → tt D (stL t c (kV m) z pm v y6 y7 y8 y9) H1 := fun hn => fin H1 v _ _ (by show LS K H0 H1 pm rest ds c cs v (o4 m z ds o); unfold o4; rw [if_neg hn]; exact L)
    cases m with
    | some m => exact ⟨_, rfl, rfl, _, rfl, iteF (iteF (no fun x => by cases x.1))⟩
    | none =>
    refine ⟨_, rfl, rfl, _, rfl, iteT ⟨_, rfl, rfl, _, rfl, ?_⟩⟩
    rw [dec_s]
    by_cases hz : z = "number"
    case neg =>
      rw [decide_eq_false hz]
      exact iteF (iteF (no fun x => hz x.2.1))
    rw [decide_eq_true hz]
    refine iteT ⟨_, rfl, pm, _, rfl, .inr L.hp, rfl, _, rfl, ?_⟩
    rw [dpA_len L.hr, dec_i]
    by_cases hl : ds.length = 1
    case neg =>
      rw [decide_eq_false (by omega)]
      exact iteF (iteF (no fun x => hl x.2.2.1))
    rw [decide_eq_true (by omega)]
    obtain ⟨da, rfl⟩ : ∃ a, ds = [a] := by
      match ds, hl with
      | [a], _ => exact ⟨a, rfl⟩
    obtain ⟨xa, xr, rfl, ha, hxr⟩ := dpA_cons L.hr
    refine iteT ⟨_, rfl, pm, _, 0, xa, rfl, rfl, L.hp, atI_nat (j := 0) rfl, xa, da, 0, 99, rfl, ha, _, rfl, ?_⟩
    cases hg : amg da 0 99 with
    | false => exact iteF (no fun x => by have : amg da 0 99 = true := x.2.2.2; rw [hg] at this; cases this)
    | true =>
    refine iteT ⟨Nat.zero_le _, fun pi npi => ?_⟩
    refine fin _ (.ref pi) _ _ ?_
    show LS K H0 _ pm _ _ c cs _ (o4 none z [da] o)
    unfold o4
    rw [if_pos ⟨rfl, hz, rfl, hg⟩]
    exact (L.gr (Gr.new npi)).put ⟨pi, [], rfl, upd_same, rfl, fun i x h => by cases h⟩
theorem step5 (HA' : Has P w K mg base (q + 2) "_law_among" ["_law_thing", "_law_least", "_law_most"] (spAmg K) fA fdA) (N : LookNames mg)
    (hr : Room (q + 2) (A.deeper (envOfC "_law_looked" (defScope sLook) s.heap.objs.size f cdv))) : Step P w K mg base f cdv A outer s H E 4 5 o5 := by
  have nd := scLook.nd
  intro tt dT
  refine' ⟨_, pss_cons ?d dT, ?r⟩
  case d =>
    exact ps_if (PW.pt (pw_and (pt_cmpR op_isN (pv 2) pe_non (nomark _)) (pw_and (pt_cmpR op_eq (pv 3) pe_str (nomark _)) (pw_and (pt_cmpR op_eq (pe_callB call_len_seq (by rfl) N.ml PySem.boot_len (pa_cons (pv 4) pa_nil)) pe_int (nomark _))
          (pw_and1 (pt_val (hcall HA' hr (pa_cons (pe_ix ix_tup (pv 4) pe_int (fun _ _ => rfl)) (pa_cons pe_int (pa_cons (pe_op op_sub (pe_callB call_len_seq (by rfl) N.ml PySem.boot_len (pa_cons (pv 1) pa_nil)) pe_int) pa_nil))))))))))
          (pss_one (ps_set (i := 5) nd rfl (.inl rfl) (pe_ifExp (pt_val (hcall HA' hr (pa_cons (pe_ix ix_tup (pv 4) pe_int (fun _ _ => rfl)) (pa_cons pe_int (pa_cons (pe_op op_sub (pe_ix ix_tup (pv 1) (pe_ix ix_tup (pv 4) pe_int (fun _ _ => rfl)) (fun _ _ => rfl)) pe_int) pa_nil))))) (pe_lst pa_nil) pe_non))) pss_nil
  case r =>
    intro D H0 H1 t c m z pm rest ds cs v o y6 y7 y8 y9 L fin
    have no : ¬ (m = none ∧ z = "in" ∧ ds.length = 2 ∧ amg (d0 ds) 0 ((cs.length : Int) - 1) = true) → tt D (stL t c (kV m) z pm v y6 y7 y8 y9) H1 := fun hn => fin H1 v _ _ (by show LS K H0 H1 pm rest ds c cs v (o5 cs m z ds o); unfold o5; rw [if_neg hn]; exact L)
    cases m with
    | some m => exact ⟨_, rfl, rfl, _, rfl, iteF (iteF (no fun x => by cases x.1))⟩
    | none =>
    refine ⟨_, rfl, rfl, _, rfl, iteT ⟨_, rfl, rfl, _, rfl, ?_⟩⟩
    rw [dec_s]
    by_cases hz : z = "in"
    case neg =>
      rw [decide_eq_false hz]
      exact iteF (iteF (no fun x => hz x.2.1))
    rw [decide_eq_true hz]
    refine iteT ⟨_, rfl, pm, _, rfl, .inr L.hp, rfl, _, rfl, ?_⟩
    rw [dpA_len L.hr, dec_i]
    by_cases hl : ds.length = 2
    case neg =>
      rw [decide_eq_false (by omega)]
      exact iteF (iteF (no fun x => hl x.2.2.1))
    rw [decide_eq_true (by omega)]
    obtain ⟨da, db, rfl⟩ : ∃ a b, ds = [a, b] := by
      match ds, hl with
      | [a, b], _ => exact ⟨a, b, rfl⟩
    obtain ⟨xa, xr, rfl, ha, hxr⟩ := dpA_cons L.hr
    obtain ⟨xb, xr, rfl, hb, hxr⟩ := dpA_cons hxr
    obtain ⟨pc, cx, rfl, hpc, hcx⟩ := dp_tup L.hc
    have hcl : cx.length = cs.length := by
      have := dpA_len hcx
      rw [List.length_map] at this
      exact this
    refine iteT ⟨_, rfl, pm, _, 0, xa, rfl, rfl, L.hp, atI_nat (j := 0) rfl, _, rfl, pc, _, rfl, .inr hpc, _, 1, rfl, rfl, xa, da, 0, _, rfl, ha, _, rfl, ?_⟩
    rw [hcl]
    cases hg : amg da 0 ((cs.length : Int) - 1) with
    | false => exact iteF (no fun x => by have h2 : amg da 0 ((cs.length : Int) - 1) = true := x.2.2.2; rw [hg] at h2; cases h2)
    | true =>
    obtain ⟨k, rfl, hk⟩ : ∃ k : Nat, da = .int (k : Nat) ∧ k < cs.length := by
      cases da with
      | int i =>
        have h2 : (decide (0 ≤ i) && decide (i ≤ (cs.length : Int) - 1)) = true := hg
        rw [Bool.and_eq_true, decide_eq_true_eq, decide_eq_true_eq] at h2
        exact ⟨i.toNat, by rw [Int.toNat_of_nonneg h2.1], by omega⟩
      | _ => cases hg
    obtain ⟨vc, evc, dvc⟩ := dpA_get (i := k) (d := .int ((cs[k] : Nat) : Int)) hcx (by rw [List.getElem?_map]; simp [hk])
    cases dp_int dvc
    cases dp_int ha
    have hcA : cAt cs ((k : Nat) : Int) = ((cs[k] : Nat) : Int) := by
      unfold cAt
      rw [Int.toNat_natCast, List.getD_eq_getElem?_getD]
      simp [hk]
    refine iteT ⟨_, rfl, pm, _, 1, xb, rfl, rfl, L.hp, atI_nat (j := 1) rfl, _, rfl, _, rfl, pm, _, 0, _, rfl, rfl, L.hp, atI_nat (j := 0) rfl, pc, _, k, _, rfl, rfl, hpc, atI_nat evc, _, 1, rfl, rfl, xb, db, 0, _, rfl, hb, _, rfl, ?_⟩
    have fin2 : ∀ H2 v2, LS K H0 H2 pm _ _ _ cs v2 (if amg db 0 (((cs[k] : Nat) : Int) - 1) = true then some [] else none) → tt D (stL t (.ref pc) .non z pm v2 y6 y7 y8 y9) H2 := fun H2 v2 L2 => fin H2 v2 _ _ (by
      show LS K H0 H2 pm _ _ _ cs v2 (o5 cs none z [.int ((k : Nat) : Int), db] o)
      unfold o5
      rw [if_pos ⟨rfl, hz, rfl, hg⟩]
      show LS K H0 H2 pm _ _ _ cs v2 (if amg db 0 (cAt cs ((k : Nat) : Int) - 1) = true then some [] else none)
      rw [hcA]
      exact L2)
    cases hg2 : amg db 0 (((cs[k] : Nat) : Int) - 1) with
    | false =>
      rw [hg2] at fin2
      exact iteF (fin2 _ _ (L.put rfl))
    | true =>
    rw [hg2] at fin2
    exact iteT ⟨Nat.zero_le _, fun pi npi => fin2 _ _ ((L.gr (Gr.new npi)).put ⟨pi, [], rfl, upd_same, rfl, fun i x h => by cases h⟩)⟩
theorem step6 (HA' : Has P w K mg base (q + 2) "_law_among" ["_law_thing", "_law_least", "_law_most"] (spAmg K) fA fdA) (N : LookNames mg)
    (hr : Room (q + 2) (A.deeper (envOfC "_law_looked" (defScope sLook) s.heap.objs.size f cdv))) : Step P w K mg base f cdv A outer s H E 5 6 (fun _ => o6) := by
  have nd := scLook.nd
  intro tt dT
  refine' ⟨_, pss_cons ?d dT, ?r⟩
  case d =>
    exact ps_if (PW.pt (pw_and (pt_cmpR op_isN (pv 2) pe_non (nomark _)) (pw_and (pt_cmpR op_eq (pv 3) pe_str (nomark _)) (pw_and (pt_cmpR op_eq (pe_callB call_len_seq (by rfl) N.ml PySem.boot_len (pa_cons (pv 4) pa_nil)) pe_int (nomark _))
          (pw_and1 (pt_val (hcall HA' hr (pa_cons (pe_ix ix_tup (pv 4) pe_int (fun _ _ => rfl)) (pa_cons pe_int (pa_cons pe_int pa_nil))))))))))
          (pss_one (ps_set (i := 5) nd rfl (.inl rfl) (pe_lst (pa_cons (pe_tup (pa_cons (pe_ix ix_tup (pv 4) pe_int (fun _ _ => rfl)) (pa_cons pe_non pa_nil))) pa_nil)))) pss_nil
  case r =>
    intro D H0 H1 t c m z pm rest ds cs v o y6 y7 y8 y9 L fin
    have no : ¬ (m = none ∧ z = "rest" ∧ ds.length = 2 ∧ amg (d1 ds) 2 99 = true) → tt D (stL t c (kV m) z pm v y6 y7 y8 y9) H1 := fun hn => fin H1 v _ _ (by show LS K H0 H1 pm rest ds c cs v (o6 m z ds o); unfold o6; rw [if_neg hn]; exact L)
    cases m with
    | some m => exact ⟨_, rfl, rfl, _, rfl, iteF (iteF (no fun x => by cases x.1))⟩
    | none =>
    refine ⟨_, rfl, rfl, _, rfl, iteT ⟨_, rfl, rfl, _, rfl, ?_⟩⟩
    rw [dec_s]
    by_cases hz : z = "rest"
    case neg =>
      rw [decide_eq_false hz]
      exact iteF (iteF (no fun x => hz x.2.1))
    rw [decide_eq_true hz]
    refine iteT ⟨_, rfl, pm, _, rfl, .inr L.hp, rfl, _, rfl, ?_⟩
    rw [dpA_len L.hr, dec_i]
    by_cases hl : ds.length = 2
    case neg =>
      rw [decide_eq_false (by omega)]
      exact iteF (iteF (no fun x => hl x.2.2.1))
    rw [decide_eq_true (by omega)]
    obtain ⟨da, db, rfl⟩ : ∃ a b, ds = [a, b] := by
      match ds, hl with
      | [a, b], _ => exact ⟨a, b, rfl⟩
    obtain ⟨xa, xr, rfl, ha, hxr⟩ := dpA_cons L.hr
    obtain ⟨xb, xr, rfl, hb, hxr⟩ := dpA_cons hxr
    refine iteT ⟨_, rfl, pm, _, 1, xb, rfl, rfl, L.hp, atI_nat (j := 1) rfl, xb, db, 2, 99, rfl, hb, _, rfl, ?_⟩
    cases hg : amg db 2 99 with
    | false => exact iteF (no fun x => by have h2 : amg db 2 99 = true := x.2.2.2; rw [hg] at h2; cases h2)
    | true =>
    refine iteT ⟨_, rfl, pm, _, 0, xa, rfl, rfl, L.hp, atI_nat (j := 0) rfl, by show 2 ≤ sizeLine; decide, fun tn nt => ⟨by show 1 ≤ sizeLine; decide, fun pi npi => ?_⟩⟩
    refine fin _ (.ref pi) _ _ ?_
    show LS K H0 _ pm _ _ c cs _ (o6 none z [da, db] o)
    unfold o6
    rw [if_pos ⟨rfl, hz, rfl, hg⟩]
    refine (L.gr ((Gr.new nt).trans (Gr.new npi))).put ⟨pi, [.ref tn], rfl, upd_same, rfl, fun i x h => ?_⟩
    have e0 : i = 0 := by
      rcases Nat.eq_zero_or_pos i with e | e
      · exact e
      · rw [List.getElem?_eq_none (by show 1 ≤ _; exact e)] at h
        cases h
    subst e0
    cases h
    exact ⟨tn, xa, (da, none), rfl, .inl (.inl ((Gr.new npi).tup upd_same)), rfl, ((Gr.new nt).trans (Gr.new npi)).kd.dp ha⟩
end
end
end SfE
set_option maxRecDepth 10000000
namespace SfE
open PySem PySem.Spec PyProof.Rows L2 SfG
theorem small10000000 {n : Nat} (h : n ≤ 10000000) : n < sizeLine := by
  rw [sizeLine_eq]
  omega
section
variable {P : Program} {w : World} {K : PySem.W.Frag} {mg : Str → Option Value} {base : Heap}
section
variable {f fA : Addr} {fdA : FuncData} {q : Nat} {cdv : Value} {A : Around} {outer : List Env} {s : Shared} {H : Hp} {E : XK}
set_option maxHeartbeats 10000000 in
theorem step8 (N : LookNames mg) (hr : Room (q + 2) (A.deeper (envOfC "_law_looked" (defScope sLook) s.heap.objs.size f cdv))) : Step P w K mg base f cdv A outer s H E 6 8 (fun _ => o8) := by
  have nd := scLook.nd
  intro tt dT
  refine' ⟨_, pss_cons ?d7 (pss_cons ?d8 dT), ?r⟩
  case d7 =>
    exact ps_set (i := 6) nd rfl (.inl rfl) (pe_disp (pps_cons pe_str pe_int (pps_cons pe_str pe_int (pps_cons pe_str pe_int (pps_cons pe_str pe_int (pps_cons pe_str pe_int (pps_cons pe_str pe_int pps_nil)))))) (by rfl) (by rfl) (fun z => by cases z) (by decide))
  case d8 =>
    exact ps_if (PW.pt (pw_and (pt_cmpR op_isN (pv 2) pe_non (nomark _)) (pw_and1 (pt_chain op_eq op_gt (pe_dget2 (hu_of hr) (pv 6) (pv 3) pe_int ⟨rfl, rfl, rfl, rfl⟩) (pe_callB call_len_seq (by rfl) N.ml PySem.boot_len (pa_cons (pv 4) pa_nil)) pe_int))))
          (pss_one (ps_setLc (i := 5) (own := [("_law_one", 8)]) (g := gName 8) rfl nd rfl rfl (sw_true rfl rfl rfl (by decide +kernel)) (pi_tup (pv 4)) (blkOk_by (own := [("_law_one", 8)]) (N := nLook) (sc := defScope sLook) (by decide +kernel))
            (fun _ _ _ _ _ => pg_name (i := 8) nd rfl (Or.inl rfl)) (fun _ _ _ _ _ => pts_nil) (fun _ _ _ _ _ => pe_tup (pa_cons (pv 8) (pa_cons pe_non pa_nil))))) pss_nil
  case r =>
    intro D H0 H1 t c m z pm rest ds cs v o y6 y7 y8 y9 L fin
    intro sz nsz
    refine ⟨upd_same, sz6, rfl, by decide, ?_⟩
    have g3 : Gr H1 (upd (upd H1 sz (.dK [])) sz (.dK (mergeK [] sz6))) := gr_new2 nsz
    have hsz : upd (upd H1 sz (.dK [])) sz (.dK (mergeK [] sz6)) sz = some (.dK sz6) := upd_same
    have L3 := L.gr g3
    generalize upd (upd H1 sz (.dK [])) sz (.dK (mergeK [] sz6)) = H3 at g3 hsz L3 ⊢
    have no : ¬ (m = none ∧ szs z = ds.length ∧ 0 < ds.length) → tt D (stL t c (kV m) z pm v (some (.ref sz)) y7 y8 y9) H3 := fun hn => fin H3 v _ _ (by show LS K H0 H3 pm rest ds c cs v (o8 m z ds o); unfold o8; rw [if_neg hn]; exact L3)
    cases m with
    | some m => exact ⟨_, rfl, rfl, _, rfl, iteF (iteF (no fun x => by cases x.1))⟩
    | none =>
    obtain ⟨ov, hov, hcase⟩ := val_sz z
    have lr := dpA_len L3.hr
    have e1 : ov.getD (V.int 0) = .int ((szs z : Nat) : Int) := by
      rcases hcase with ⟨rfl, h2⟩ | ⟨rfl, h2⟩
      · rw [h2]; rfl
      · rfl
    refine ⟨_, rfl, rfl, _, rfl, iteT ⟨_, rfl, sz, rfl, .inl ⟨_, .inl hsz⟩, _, rfl, ov, .inl ⟨_, Sum.inr z, .inl hsz, rfl, hov⟩, _, rfl, pm, _, rfl, .inr L3.hp, ?_⟩⟩
    rw [e1, lr]
    refine ⟨rfl, _, rfl, ?_⟩
    rw [dec_i]
    by_cases hs : szs z = ds.length
    case neg =>
      rw [decide_eq_false (by omega)]
      exact iteF ⟨_, rfl, iteF (no fun x => hs x.2.1)⟩
    rw [decide_eq_true (by omega)]
    refine iteT ⟨_, 0, rfl, rfl, _, rfl, ?_⟩
    by_cases hp : 0 < ds.length
    case neg =>
      rw [decide_eq_false (by omega)]
      exact iteF (no fun x => hp x.2.2)
    rw [decide_eq_true (by omega)]
    refine iteT ⟨_, rfl, pm, rfl, ⟨_, L3.hp⟩, fun D1 nD => ?_⟩
    refine lc_it (walk_tup (xs := rest)) (fun i H4 => ∃ ps : List V, H4 D1 = some (.lst ps) ∧ ps.length = i ∧ Gr H3 H4 ∧ Prs H4 rest ps) ?z0 ?z1 ?z2 ?z3
    case z0 => exact ⟨[], upd_same, rfl, Gr.new nD, fun j x h => by cases h⟩
    case z1 =>
      rintro i H4 hi ⟨ps, hD, hl, g4, hP⟩
      exact g4.sqt L3.hp
    case z2 =>
      rintro i x H4 H4' hi ⟨ps, hD, hl, g4, hP⟩ ⟨rfl, hx⟩
      refine ⟨rfl, ?_⟩
      unfold tYes
      refine iteT ⟨_, rfl, by show 2 ≤ sizeLine; decide, fun tn nt => ?_⟩
      have nDt : D1 ≠ tn := ne_of_none hD nt
      have sm := L3.sm
      refine ⟨ps, (upd_ne nDt).trans hD, small10000000 (by omega), ps ++ [.ref tn], upd_same, ?_, ?_, ?_⟩
      · rw [List.length_append, hl]
        rfl
      · exact Gr.upd_new (g4.trans (Gr.new nt)) nD
      · exact hP.step hD nt (by rw [hl]; exact hx)
    case z3 =>
    rintro H5 ⟨ps, hD, hl, g5, hP⟩
    refine fin _ (.ref D1) _ _ ?_
    show LS K H0 _ pm _ _ c cs _ (o8 none z ds o)
    unfold o8
    rw [if_pos ⟨rfl, hs, hp⟩]
    exact (L3.gr g5).put ⟨D1, ps, rfl, hD, nx_of hP hl (g5.kd.dpA L3.hr)⟩
theorem step9 (N : LookNames mg) (hr : Room (q + 2) (A.deeper (envOfC "_law_looked" (defScope sLook) s.heap.objs.size f cdv))) : Step P w K mg base f cdv A outer s H E 8 9 (fun _ => o9) := by
  have nd := scLook.nd
  intro tt dT
  refine' ⟨_, pss_cons ?d dT, ?r⟩
  case d =>
    exact ps_if (PW.pt (pw_and (pt_cmpR op_notN (pv 2) pe_non (nomark _)) (pw_and (pt_cmpR op_eq (pv 3) pe_str (nomark _)) (pw_and1 (pt_cmpR (op_eqT0 hr) (pv 4) (pe_tup pa_nil) (nomark _))))))
          (pss_one (ps_set (i := 5) nd rfl (.inl rfl) (pe_lst pa_nil))) pss_nil
  case r =>
    intro D H0 H1 t c m z pm rest ds cs v o y6 y7 y8 y9 L fin
    have no : ∀ H2, Gr H1 H2 → ¬ (m ≠ none ∧ z = "refuse" ∧ ds = []) → tt D (stL t c (kV m) z pm v y6 y7 y8 y9) H2 := fun H2 g hn => fin H2 v _ _ (by show LS K H0 H2 pm rest ds c cs v (o9 m z ds o); unfold o9; rw [if_neg hn]; exact L.gr g)
    cases m with
    | none => exact ⟨_, rfl, rfl, _, rfl, iteF (iteF (no _ (Gr.refl _) fun x => x.1 rfl))⟩
    | some m =>
    refine ⟨_, rfl, rfl, _, rfl, iteT ⟨_, rfl, rfl, _, rfl, ?_⟩⟩
    rw [dec_s]
    by_cases hz : z = "refuse"
    case neg =>
      rw [decide_eq_false hz]
      exact iteF (iteF (no _ (Gr.refl _) fun x => hz x.2.1))
    rw [decide_eq_true hz]
    refine iteT ⟨_, rfl, by show 0 ≤ sizeLine; decide, fun p3 np3 => ?_⟩
    have g4 : Gr H1 (upd H1 p3 (.tup [])) := Gr.new np3
    refine ⟨pm, p3, rest, rfl, rfl, g4.sqt L.hp, .inl (.inl upd_same), _, rfl, ?_⟩
    cases ds with
    | cons a r =>
      obtain ⟨x1, xr, rfl, _, _⟩ := dpA_cons L.hr
      exact iteF (no _ g4 fun x => by cases x.2.2)
    | nil =>
    cases dpA_nil L.hr
    refine iteT ⟨Nat.zero_le _, fun pi npi => ?_⟩
    refine fin _ (.ref pi) _ _ ?_
    show LS K H0 _ pm _ _ c cs _ (o9 (some m) z [] o)
    unfold o9
    rw [if_pos ⟨by simp, hz, rfl⟩]
    exact (L.gr (g4.trans (Gr.new npi))).put ⟨pi, [], rfl, upd_same, rfl, fun i x h => by cases h⟩
set_option maxHeartbeats 10000000 in
theorem step10 (N : LookNames mg) (hr : Room (q + 2) (A.deeper (envOfC "_law_looked" (defScope sLook) s.heap.objs.size f cdv))) : Step P w K mg base f cdv A outer s H E 9 10 (fun _ => o10) := by
  have nd := scLook.nd
  intro tt dT
  refine' ⟨_, pss_cons ?d dT, ?r⟩
  case d =>
    exact ps_if (PW.pt (pw_and (pt_cmpR op_notN (pv 2) pe_non (nomark _)) (pw_and (pt_cmpR op_eq (pv 3) pe_str (nomark _)) (pw_and (pt_cmpR op_eq (pe_callB call_len_seq (by rfl) N.ml PySem.boot_len (pa_cons (pv 4) pa_nil)) pe_int (nomark _))
          (pw_and (pt_val (pe_callB call_isi (by rfl) N.mi (by decide +kernel) (pa_cons (pe_ix ix_tup (pv 4) pe_int (fun _ _ => rfl)) (pa_cons (pe_bltn (v := .ty "tuple") (by rfl) N.mt (by decide +kernel) rfl) pa_nil))))
          (pw_and1 (pt_cmpR op_eq (pe_callB call_len_seq (by rfl) N.ml PySem.boot_len (pa_cons (pe_ix ix_tup (pv 4) pe_int (fun _ _ => rfl)) pa_nil)) (pv 2) (nomark _))))))))
          (pss_one (ps_setLc (i := 5) (own := [("_law_one", 8)]) (g := gName 8) rfl nd rfl rfl (sw_true rfl rfl rfl (by decide +kernel)) (pi_tup (pe_ix ix_tup (pv 4) pe_int (fun _ _ => rfl))) (blkOk_by (own := [("_law_one", 8)]) (N := nLook) (sc := defScope sLook) (by decide +kernel))
            (fun _ _ _ _ _ => pg_name (i := 8) nd rfl (Or.inl rfl)) (fun _ _ _ _ _ => pts_nil) (fun _ _ _ _ _ => pe_tup (pa_cons (pv 8) (pa_cons pe_non pa_nil))))) pss_nil
  case r =>
    intro D H0 H1 t c m z pm rest ds cs v o y6 y7 y8 y9 L fin
    have no : ¬ (m ≠ none ∧ z = "give" ∧ ds.length = 1 ∧ isT (d0 ds) = true ∧ m = some (esOf (d0 ds)).length) → tt D (stL t c (kV m) z pm v y6 y7 y8 y9) H1 := fun hn => fin H1 v _ _ (by show LS K H0 H1 pm rest ds c cs v (o10 m z ds o); unfold o10; rw [if_neg hn]; exact L)
    cases m with
    | none => exact ⟨_, rfl, rfl, _, rfl, iteF (iteF (no fun x => x.1 rfl))⟩
    | some m =>
    refine ⟨_, rfl, rfl, _, rfl, iteT ⟨_, rfl, rfl, _, rfl, ?_⟩⟩
    rw [dec_s]
    by_cases hz : z = "give"
    case neg =>
      rw [decide_eq_false hz]
      exact iteF (iteF (no fun x => hz x.2.1))
    rw [decide_eq_true hz]
    refine iteT ⟨_, rfl, pm, _, rfl, .inr L.hp, rfl, _, rfl, ?_⟩
    rw [dpA_len L.hr, dec_i]
    by_cases hl : ds.length = 1
    case neg =>
      rw [decide_eq_false (by omega)]
      exact iteF (iteF (no fun x => hl x.2.2.1))
    rw [decide_eq_true (by omega)]
    obtain ⟨da, rfl⟩ : ∃ a, ds = [a] := by
      match ds, hl with
      | [a], _ => exact ⟨a, rfl⟩
    obtain ⟨xa, xr, rfl, ha, hxr⟩ := dpA_cons L.hr
    have hIa := dp_is ha
    refine iteT ⟨_, rfl, pm, _, 0, xa, rfl, rfl, L.hp, atI_nat (j := 0) rfl, xa, .ty "tuple", .type (tyD da), .type "tuple", (tyD da == "tuple"), rfl, .ty "tuple", hIa.1, kit_ty (kit_tuple _ hIa.2), _, rfl, ?_⟩
    rcases tup_is da with h1 | ⟨es, rfl⟩
    · rw [h1]
      exact iteF (iteF (no fun x => by have h2 : (tyD da == "tuple") = true := x.2.2.2.1; rw [h1] at h2; cases h2))
    rw [show (tyD (.tuple es) == "tuple") = true from by show ("tuple" == "tuple") = true; decide]
    obtain ⟨pg, ys, rfl, hpg, hys⟩ := dp_tup ha
    have ly := dpA_len hys
    refine iteT ⟨_, rfl, pm, _, 0, _, rfl, rfl, L.hp, atI_nat (j := 0) rfl, pg, _, rfl, .inr hpg, _, rfl, rfl, _, rfl, ?_⟩
    show (if decide (V.int ((ys.length : Nat) : Int) = V.int ((m : Nat) : Int)) = true then _ else _)
    rw [dec_i]
    by_cases hm : m = es.length
    case neg =>
      rw [decide_eq_false (by omega)]
      exact iteF (no fun x => hm (Option.some.inj x.2.2.2.2))
    rw [decide_eq_true (by omega)]
    refine iteT ⟨_, rfl, pm, _, 0, _, rfl, rfl, L.hp, atI_nat (j := 0) rfl, pg, rfl, ⟨_, hpg⟩, fun D1 nD => ?_⟩
    refine lc_it (walk_tup (xs := ys)) (fun i H4 => ∃ ps : List V, H4 D1 = some (.lst ps) ∧ ps.length = i ∧ Gr H1 H4 ∧ Prs H4 ys ps) ?z0 ?z1 ?z2 ?z3
    case z0 => exact ⟨[], upd_same, rfl, Gr.new nD, fun j x h => by cases h⟩
    case z1 =>
      rintro i H4 hi ⟨ps, hD, hl, g4, hP⟩
      exact g4.sqt hpg
    case z2 =>
      rintro i x H4 H4' hi ⟨ps, hD, hl, g4, hP⟩ ⟨rfl, hx⟩
      refine ⟨rfl, ?_⟩
      unfold tYes
      refine iteT ⟨_, rfl, by show 2 ≤ sizeLine; decide, fun tn nt => ?_⟩
      have nDt : D1 ≠ tn := ne_of_none hD nt
      have sm : es.length ≤ 10000000 := L.sm1 _ (List.mem_singleton.mpr rfl)
      refine ⟨ps, (upd_ne nDt).trans hD, small10000000 (by omega), ps ++ [.ref tn], upd_same, ?_, ?_, ?_⟩
      · rw [List.length_append, hl]
        rfl
      · exact Gr.upd_new (g4.trans (Gr.new nt)) nD
      · exact hP.step hD nt (by rw [hl]; exact hx)
    case z3 =>
    rintro H5 ⟨ps, hD, hl, g5, hP⟩
    refine fin _ (.ref D1) _ _ ?_
    show LS K H0 _ pm _ _ c cs _ (o10 (some m) z [.tuple es] o)
    unfold o10
    rw [if_pos ⟨by simp, hz, rfl, (by show ("tuple" == "tuple") = true; decide), (by rw [hm]; rfl)⟩]
    exact (L.gr g5).put ⟨D1, ps, rfl, hD, nx_of hP hl (g5.kd.dpA hys)⟩
theorem step11 (N : LookNames mg) (hr : Room (q + 2) (A.deeper (envOfC "_law_looked" (defScope sLook) s.heap.objs.size f cdv))) : Step P w K mg base f cdv A outer s H E 10 11 (fun _ => o11) := by
  have nd := scLook.nd
  intro tt dT
  refine' ⟨_, pss_cons ?d dT, ?r⟩
  case d =>
    exact ps_if (PW.pt (pw_and (pt_cmpR op_notN (pv 2) pe_non (nomark _)) (pw_and (pt_cmpR op_eq (pv 3) pe_str (nomark _)) (pw_and1 (pt_cmpR op_eq (pe_callB call_len_seq (by rfl) N.ml PySem.boot_len (pa_cons (pv 4) pa_nil)) pe_int (nomark _))))))
          (pss_one (ps_set (i := 5) nd rfl (.inl rfl) (pe_lst (pa_cons (pe_tup (pa_cons (pe_ix ix_tup (pv 4) pe_int (fun _ _ => rfl)) (pa_cons pe_non pa_nil))) (pa_cons (pe_tup (pa_cons (pe_ix ix_tup (pv 4) pe_int (fun _ _ => rfl)) (pa_cons (pv 2) pa_nil)))
            (pa_cons (pe_tup (pa_cons (pe_ix ix_tup (pv 4) pe_int (fun _ _ => rfl)) (pa_cons (pv 2) pa_nil))) pa_nil)))))) pss_nil
  case r =>
    intro D H0 H1 t c m z pm rest ds cs v o y6 y7 y8 y9 L fin
    have no : ¬ (m ≠ none ∧ z = "when" ∧ ds.length = 3) → tt D (stL t c (kV m) z pm v y6 y7 y8 y9) H1 := fun hn => fin H1 v _ _ (by show LS K H0 H1 pm rest ds c cs v (o11 m z ds o); unfold o11; rw [if_neg hn]; exact L)
    cases m with
    | none => exact ⟨_, rfl, rfl, _, rfl, iteF (iteF (no fun x => x.1 rfl))⟩
    | some m =>
    refine ⟨_, rfl, rfl, _, rfl, iteT ⟨_, rfl, rfl, _, rfl, ?_⟩⟩
    rw [dec_s]
    by_cases hz : z = "when"
    case neg =>
      rw [decide_eq_false hz]
      exact iteF (iteF (no fun x => hz x.2.1))
    rw [decide_eq_true hz]
    refine iteT ⟨_, rfl, pm, _, rfl, .inr L.hp, rfl, _, rfl, ?_⟩
    rw [dpA_len L.hr, dec_i]
    by_cases hl : ds.length = 3
    case neg =>
      rw [decide_eq_false (by omega)]
      exact iteF (no fun x => hl x.2.2)
    rw [decide_eq_true (by omega)]
    obtain ⟨da, db, dc, rfl⟩ : ∃ a b c, ds = [a, b, c] := by
      match ds, hl with
      | [a, b, c], _ => exact ⟨a, b, c, rfl⟩
    obtain ⟨v1, xr, rfl, e1, hxr⟩ := dpA_cons L.hr
    obtain ⟨v2, xr, rfl, e2, hxr⟩ := dpA_cons hxr
    obtain ⟨v3, xr, rfl, e3, hxr⟩ := dpA_cons hxr
    refine iteT ⟨_, rfl, pm, _, 0, v1, rfl, rfl, L.hp, atI_nat (j := 0) rfl, by show 2 ≤ sizeLine; decide, fun t1 nt1 => ?_⟩
    have k1 : Gr H1 (upd H1 t1 (.tup [v1, .non])) := Gr.new nt1
    refine ⟨_, rfl, pm, _, 1, v2, rfl, rfl, k1.sqt L.hp, atI_nat (j := 1) rfl, _, rfl, by show 2 ≤ sizeLine; decide, fun t2 nt2 => ?_⟩
    have k2 : Gr (upd H1 t1 (.tup [v1, .non])) (upd (upd H1 t1 (.tup [v1, .non])) t2 (.tup [v2, .int (m : Nat)])) := Gr.new nt2
    refine ⟨_, rfl, pm, _, 2, v3, rfl, rfl, (k1.trans k2).sqt L.hp, atI_nat (j := 2) rfl, _, rfl, by show 2 ≤ sizeLine; decide, fun t3 nt3 => ?_⟩
    have k3 : Gr (upd (upd H1 t1 (.tup [v1, .non])) t2 (.tup [v2, .int (m : Nat)])) (upd (upd (upd H1 t1 (.tup [v1, .non])) t2 (.tup [v2, .int (m : Nat)])) t3 (.tup [v3, .int (m : Nat)])) := Gr.new nt3
    refine ⟨by show 3 ≤ sizeLine; decide, fun pi npi => ?_⟩
    have k4 := Gr.new (o := .lst [.ref t1, .ref t2, .ref t3]) npi
    have f1 := (k2.trans (k3.trans k4)).tup (upd_same (H := H1) (a := t1) (o := .tup [v1, .non]))
    have f2 := (k3.trans k4).tup (upd_same (H := upd H1 t1 (.tup [v1, .non])) (a := t2) (o := .tup [v2, .int (m : Nat)]))
    have f3 := k4.tup (upd_same (H := upd (upd H1 t1 (.tup [v1, .non])) t2 (.tup [v2, .int (m : Nat)])) (a := t3) (o := .tup [v3, .int (m : Nat)]))
    have kk := k1.trans (k2.trans (k3.trans k4))
    refine fin _ (.ref pi) _ _ ?_
    show LS K H0 _ pm _ _ c cs _ (o11 (some m) z [da, db, dc] o)
    unfold o11
    rw [if_pos ⟨by simp, hz, rfl⟩]
    refine (L.gr kk).put ⟨pi, [.ref t1, .ref t2, .ref t3], rfl, upd_same, rfl, fun i x hx => ?_⟩
    have c3 : i = 0 ∨ i = 1 ∨ i = 2 := by
      rcases Nat.lt_or_ge i 3 with z | z
      · omega
      · rw [List.getElem?_eq_none (by show 3 ≤ _; exact z)] at hx
        cases hx
    rcases c3 with rfl | rfl | rfl
    · cases hx
      exact ⟨t1, v1, (da, none), rfl, .inl (.inl f1), rfl, kk.kd.dp e1⟩
    · cases hx
      exact ⟨t2, v2, (db, some m), rfl, .inl (.inl f2), rfl, kk.kd.dp e2⟩
    · cases hx
      exact ⟨t3, v3, (dc, some m), rfl, .inl (.inl f3), rfl, kk.kd.dp e3⟩
end
end
end SfE
namespace SfE
open PySem PySem.Spec PyProof.Rows L2 SfG
def two (ab : Int × Int) : PyData := .tuple [.int ab.1, .int ab.2]
/-- pairs of numbers, told so far -/
def TwoAt (H : Hp) (rs : List V) (abs : List (Int × Int)) : Prop := rs.length = abs.length ∧ ∀ (j : Nat) (ab : Int × Int), abs[j]? = some ab → ∃ p, rs[j]? = some (.ref p) ∧ H p = some (.tup [.int ab.1, .int ab.2])
theorem TwoAt.gr {H H' : Hp} {rs : List V} {abs : List (Int × Int)} (h : TwoAt H rs abs) (g : Gr H H') : TwoAt H' rs abs := ⟨h.1, fun j ab e => by
  obtain ⟨p, h1, h2⟩ := h.2 j ab e
  exact ⟨p, h1, g.tup h2⟩⟩
theorem TwoAt.upd {H : Hp} {D : Addr} {l : List V} {o : HO} {rs : List V} {abs : List (Int × Int)} (h : TwoAt H rs abs) (hD : H D = some (.lst l)) : TwoAt (upd H D o) rs abs := ⟨h.1, fun j ab e => by
  obtain ⟨p, h1, h2⟩ := h.2 j ab e
  refine ⟨p, h1, (upd_ne fun z => ?_).trans h2⟩
  rw [z, hD] at h2
  cases h2⟩
theorem TwoAt.snoc {H : Hp} {rs : List V} {abs : List (Int × Int)} {p : Addr} {a b : Int} (h : TwoAt H rs abs) (hp : H p = some (.tup [.int a, .int b])) : TwoAt H (rs ++ [.ref p]) (abs ++ [(a, b)]) := by
  refine ⟨by rw [List.length_append, List.length_append, h.1]; rfl, fun j ab e => ?_⟩
  by_cases hj : j < abs.length
  · rw [List.getElem?_append_left hj] at e
    obtain ⟨p', h1, h2⟩ := h.2 j ab e
    exact ⟨p', by rw [List.getElem?_append_left (by rw [h.1]; exact hj)]; exact h1, h2⟩
  · rw [List.getElem?_append_right (by omega)] at e
    have hj0 : j - abs.length = 0 := by
      rcases Nat.eq_zero_or_pos (j - abs.length) with z | z
      · exact z
      · rw [List.getElem?_eq_none (by show 1 ≤ _; exact z)] at e
        cases e
    rw [hj0] at e
    have e' : (a, b) = ab := Option.some.inj e
    refine ⟨p, ?_, by rw [← e']; exact hp⟩
    rw [List.getElem?_append_right (by rw [h.1]; omega), h.1, hj0]
    rfl
theorem TwoAt.at {H : Hp} {rs : List V} {abs : List (Int × Int)} (h : TwoAt H rs abs) {i : Nat} {x : V} (hx : rs[i]? = some x) : ∃ ab p, abs[i]? = some ab ∧ x = .ref p ∧ H p = some (.tup [.int ab.1, .int ab.2]) := by
  have hi : i < rs.length := by
    rcases Nat.lt_or_ge i rs.length with h1 | h1
    · exact h1
    · rw [List.getElem?_eq_none h1] at hx
      cases hx
  have hi' : i < abs.length := by rw [← h.1]; exact hi
  obtain ⟨p, h1, h2⟩ := h.2 i abs[i] (by simp [hi'])
  rw [hx] at h1
  exact ⟨abs[i], p, by simp [hi'], Option.some.inj h1, h2⟩
/-- None, or a pair of numbers -/
def twoO : Option (Int × Int) → PyData
  | none => .none
  | some ab => two ab
/-- the greatest of some, 0 too -/
def mxI (l : List Int) : Int := l.foldr max 0
theorem mxI_ge : ∀ (l : List Int), 0 ≤ mxI l ∧ ∀ y ∈ l, y ≤ mxI l
  | [] => ⟨Int.le_refl 0, fun y h => by cases h⟩
  | a :: r => by
    obtain ⟨h1, h2⟩ := mxI_ge r
    have e : mxI (a :: r) = max a (mxI r) := rfl
    rw [e]
    refine ⟨by omega, fun y h => ?_⟩
    rcases List.mem_cons.mp h with rfl | h
    · omega
    · have := h2 y h
      omega
theorem mxI_mem : ∀ (l : List Int), mxI l ∈ (0 :: l)
  | [] => List.mem_cons_self
  | a :: r => by
    have h := mxI_mem r
    have e : mxI (a :: r) = max a (mxI r) := rfl
    rw [e]
    rcases Int.le_total a (mxI r) with z | z
    · rw [show max a (mxI r) = mxI r by omega]
      rcases List.mem_cons.mp h with h | h
      · rw [h]
        exact List.mem_cons_self
      · exact List.mem_cons_of_mem _ (List.mem_cons_of_mem _ h)
    · rw [show max a (mxI r) = a by omega]
      exact List.mem_cons_of_mem _ List.mem_cons_self
theorem mxI_is {l : List Int} {m : Int} (h1 : m ∈ (0 :: l)) (h2 : ∀ y ∈ (0 :: l), y ≤ m) : m = mxI l := by
  have a := h2 _ (mxI_mem l)
  obtain ⟨b1, b2⟩ := mxI_ge l
  rcases List.mem_cons.mp h1 with h | h
  · omega
  · have := b2 m h
    omega
/-- all of them, where there is none without -/
def allO : List (Option (Int × Int)) → Option (List (Int × Int))
  | [] => some []
  | none :: _ => none
  | some x :: r => (allO r).map (x :: ·)
theorem allO_any : ∀ (l : List (Option (Int × Int))), allO l = none → ((l.map twoO).any fun z => PyData.eqv z .none) = true
  | [], h => by cases h
  | none :: r, _ => rfl
  | some x :: r, h => by
    have h2 : (allO r).map (x :: ·) = none := h
    have := allO_any r (Option.map_eq_none_iff.mp h2)
    rw [List.map_cons, List.any_cons, this, Bool.or_true]
theorem allO_some : ∀ (l : List (Option (Int × Int))) (abs : List (Int × Int)), allO l = some abs → l = abs.map some ∧ ((l.map twoO).any fun z => PyData.eqv z .none) = false
  | [], _, h => by
    cases h
    exact ⟨rfl, rfl⟩
  | none :: r, _, h => by cases h
  | some x :: r, abs, h => by
    obtain ⟨b, hb, rfl⟩ := Option.map_eq_some_iff.mp (show (allO r).map (x :: ·) = some abs from h)
    obtain ⟨h1, h2⟩ := allO_some r b hb
    refine ⟨by rw [List.map_cons, ← h1], ?_⟩
    rw [List.map_cons, List.any_cons, h2, Bool.or_false]
    rfl
def outL (rs : List (Option (Int × Int))) : Option (Int × Int) := (allO rs).map fun abs => (1 + (abs.map (·.1)).sum, 1 + mxI (abs.map (·.2)))
/-- how many parts and how deep: what the law's own look tells -/
def lk (cs : List Nat) : Nat → Option Nat → PyData → Option (Int × Int)
  | 0, _, _ => none
  | n + 1, m, d => match d with
    | .tuple (.str z :: ds) => match inn cs m z ds with
      | none => none
      | some l => outL (l.map fun dm => lk cs n dm.2 dm.1)
    | _ => none
def endL (cs : List Nat) (q : Nat) : Option Inn → Option (Int × Int)
  | none => none
  | some l => outL (l.map fun dm => lk cs q dm.2 dm.1)
theorem lk_tup (cs : List Nat) (n : Nat) (m : Option Nat) (z : Str) (ds : List PyData) : lk cs (n + 1) m (.tuple (.str z :: ds)) = endL cs n (inn cs m z ds) := by
  rw [lk]
  cases inn cs m z ds <;> rfl
theorem twoOs_shape (l : List (Option (Int × Int))) : SeqAt.shaped (.list (l.map twoO)) = true := by
  have h1 : PyData.canLayAll0 (l.map twoO) = true := by
    induction l with
    | nil => rfl
    | cons a r ih => cases a <;> simp only [List.map_cons, PyData.canLayAll0, twoO, two, PyData.canLay0, ih] <;> rfl
  have h2 : ∀ l : List (Option (Int × Int)), PyData.depthAll (l.map twoO) ≤ 2 := fun l => by
    induction l with
    | nil => simp [PyData.depthAll]
    | cons a r ih =>
      cases a <;> simp only [List.map_cons, PyData.depthAll, twoO, two, PyData.depth] <;> omega
  unfold SeqAt.shaped
  rw [PyData.canLay0, h1]
  refine decide_eq_true ?_
  rw [PyData.depth]
  have := h2 l
  omega
/-- so far told: None, or a pair -/
def TwoO (H : Hp) (rs : List V) (os : List (Option (Int × Int))) : Prop := rs.length = os.length ∧ ∀ (j : Nat) (o : Option (Int × Int)), os[j]? = some o → match o with
  | none => rs[j]? = some .non
  | some ab => ∃ p, rs[j]? = some (.ref p) ∧ H p = some (.tup [.int ab.1, .int ab.2])
theorem TwoO.gr {H H' : Hp} {rs : List V} {os : List (Option (Int × Int))} (h : TwoO H rs os) (g : Gr H H') : TwoO H' rs os := ⟨h.1, fun j o e => by
  have := h.2 j o e
  cases o with
  | none => exact this
  | some ab =>
    obtain ⟨p, h1, h2⟩ := this
    exact ⟨p, h1, g.tup h2⟩⟩
theorem TwoO.upd {H : Hp} {D : Addr} {l : List V} {o' : HO} {rs : List V} {os : List (Option (Int × Int))} (h : TwoO H rs os) (hD : H D = some (.lst l)) : TwoO (upd H D o') rs os := ⟨h.1, fun j o e => by
  have := h.2 j o e
  cases o with
  | none => exact this
  | some ab =>
    obtain ⟨p, h1, h2⟩ := this
    refine ⟨p, h1, (upd_ne fun z => ?_).trans h2⟩
    rw [z, hD] at h2
    cases h2⟩
theorem TwoO.snoc {H : Hp} {rs : List V} {os : List (Option (Int × Int))} {x : V} {o : Option (Int × Int)} (h : TwoO H rs os) (hx : match o with
  | none => x = .non
  | some ab => ∃ p, x = .ref p ∧ H p = some (.tup [.int ab.1, .int ab.2])) : TwoO H (rs ++ [x]) (os ++ [o]) := by
  refine ⟨by rw [List.length_append, List.length_append, h.1]; rfl, fun j o' e => ?_⟩
  by_cases hj : j < os.length
  · rw [List.getElem?_append_left hj] at e
    have := h.2 j o' e
    rw [List.getElem?_append_left (by rw [h.1]; exact hj)]
    exact this
  · rw [List.getElem?_append_right (by omega)] at e
    have hj0 : j - os.length = 0 := by
      rcases Nat.eq_zero_or_pos (j - os.length) with z | z
      · exact z
      · rw [List.getElem?_eq_none (by show 1 ≤ _; exact z)] at e
        cases e
    rw [hj0] at e
    cases e
    rw [List.getElem?_append_right (by rw [h.1]; omega), h.1, hj0]
    cases o with
    | none =>
      have hx' : x = .non := hx
      rw [hx']
      rfl
    | some ab =>
      obtain ⟨p, rfl, hp⟩ := hx
      exact ⟨p, rfl, hp⟩
theorem TwoO.dp {K : PySem.W.Frag} {H : Hp} : ∀ {rs : List V} {os : List (Option (Int × Int))}, TwoO H rs os → DpAll K H rs (os.map twoO)
  | [], [], _ => .nil
  | [], _ :: _, h => absurd h.1 (by simp)
  | _ :: _, [], h => absurd h.1 (by simp)
  | r :: rs, o :: os, h => by
    have t : TwoO H rs os := ⟨by simpa using h.1, fun j o' e' => h.2 (j + 1) o' e'⟩
    have h0 := h.2 0 o rfl
    cases o with
    | none =>
      have e : r = .non := Option.some.inj h0
      rw [e]
      exact .cons .non (TwoO.dp t)
    | some ab =>
      obtain ⟨p, h1, h2⟩ := h0
      have e : r = .ref p := Option.some.inj h1
      rw [e]
      exact .cons (.tup (.inl (.inl h2)) (.cons (.int _) (.cons (.int _) .nil))) (TwoO.dp t)
theorem TwoO.two {H : Hp} {rs : List V} {abs : List (Int × Int)} (h : TwoO H rs (abs.map some)) : TwoAt H rs abs := ⟨by rw [h.1, List.length_map], fun j ab e => h.2 j (some ab) (by rw [List.getElem?_map, e]; rfl)⟩
end SfE
set_option maxRecDepth 10000000
namespace SfE
open PySem PySem.Spec PyProof.Rows L2 SfG
theorem small10000001 {n : Nat} (h : n ≤ 10000001) : n < sizeLine := by
  rw [sizeLine_eq]
  omega
/-- what stands within is no deeper, no greater -/
def FitI (q : Nat) (o : Option Inn) : Prop := ∀ l, o = some l → l.length ≤ 10000000 ∧ ∀ dm ∈ l, dm.1.depth < q ∧ wt dm.1 ≤ 10000000
section
variable {P : Program} {w : World} {K : PySem.W.Frag} {mg : Str → Option Value} {base : Heap}
def spLk (K : PySem.W.Frag) (q : Nat) : Sp := fun vs H Q _ => ∃ (t c : V) (d : PyData) (cs : List Nat) (m : Option Nat), vs = [t, c, kV m] ∧ Dp K H t d ∧ Dp K H c (cD cs) ∧ d.depth < q ∧ wt d ≤ 10000000 ∧ q ≤ 60 ∧
  (lk cs q m d = none → ∀ H', Gr H H' → Q .non H') ∧ ∀ a b, lk cs q m d = some (a, b) → ∀ H' p, Gr H H' → H' p = some (.tup [.int a, .int b]) → Q (.ref p) H'
set_option maxHeartbeats 2000000 in
theorem look_tail {f : Addr} {fd : FuncData} {q : Nat} {cdv : Value} {A : Around} {outer : List Env} {s : Shared} {H : Hp} {E : XK}
    (bL : Binds K fd ["_law_thing", "_law_counts", "_law_many"] []) (gL : mg "_law_looked" = some (.ref f)) (kL : PySem.W.keepIn K (.ref f) = true)
    (GL : FnOk P w K mg base CX0 (q + 2) f fd ["_law_thing", "_law_counts", "_law_many"] (spLk K q)) (N : LookNames mg)
    (hr : Room (q + 2) (A.deeper (envOfC "_law_looked" (defScope sLook) s.heap.objs.size f cdv))) (hq : q ≤ 60) :
    ∃ tt, PSs (cxOf CX0 P w K mg base nLook "_law_looked" (defScope sLook) f cdv A outer s H E).nox ((defBody sLook).drop 11) tt ∧
      ∀ (D : Ends) (H0 H1 : Hp) (t c k : V) (z : Str) (pm : Addr) (rest : List V) (ds : List PyData) (cs : List Nat) (v : V) (o : Option Inn) (y6 y7 y8 y9 : Option V), LS K H0 H1 pm rest ds c cs v o → FitI q o →
        (endL cs q o = none → ∀ H', Gr H0 H' → D.rt .non H') → (∀ a b, endL cs q o = some (a, b) → ∀ H' p, Gr H0 H' → H' p = some (.tup [.int a, .int b]) → D.rt (.ref p) H') →
        tt D (stL t c k z pm v y6 y7 y8 y9) H1 := by
  have nd := scLook.nd
  refine' ⟨_, pss_cons ?s1 (pss_cons ?s2 (pss_cons ?s3 (pss_one ?s4))), ?rd⟩
  case s1 =>
    exact ps_if (pt_cmpR op_isN (pv 5) pe_non (nomark _)) (pss_one (ps_ret pe_non)) pss_nil
  case s2 =>
    exact ps_setLc (i := 7) (own := [("_law_one", 8), ("_law_kind", 9)]) (g := gTup K 2 (gCons (gName 8) (gCons (gName 9) gNil))) rfl nd rfl rfl (sw_true rfl rfl rfl (by decide +kernel)) (pi_list (pv 5))
      (blkOk_by (own := [("_law_one", 8), ("_law_kind", 9)]) (N := nLook) (sc := defScope sLook) (by decide +kernel))
      (fun _ _ _ _ _ => pg_tup rfl (pgs_cons (pg_name (i := 8) nd rfl (Or.inl rfl)) (pgs_cons (pg_name (i := 9) nd rfl (Or.inl rfl)) pgs_nil))) (fun _ _ _ _ _ => pts_nil)
      (fun _ _ _ _ _ => pe_call GL hr (by rfl) gL kL bL .nil pass0 (pa_cons (pv 8) (pa_cons (pv 1) (pa_cons (pv 9) pa_nil))))
  case s3 =>
    exact ps_if (pt_cmpR (op_inD (by have := hr.un; show A.units + 3 + 65 < cLine; have h2 : (A.deeper (envOfC "_law_looked" (defScope sLook) s.heap.objs.size f cdv)).units = A.units + 3 := rfl; omega)) pe_non (pv 7) rfl) (pss_one (ps_ret pe_non)) pss_nil
  case s4 =>
    exact ps_ret (pe_tup (pa_cons (pe_op op_add pe_int (pe_callB (cr_sum rfl) (by rfl) N.msum (by decide +kernel) (pa_cons (pe_lc (own := [("_law_one", 8)]) (g := gName 8) rfl nd (pi_list (pv 7))
          (blkOk_by (own := [("_law_one", 8)]) (N := nLook) (sc := defScope sLook) (by decide +kernel)) (fun _ _ _ _ _ => pg_name (i := 8) nd rfl (Or.inl rfl)) (fun _ _ _ _ _ => pts_nil) (fun _ _ _ _ _ => pe_ix (r := rIxT K) ix_tup (pv 8) pe_int (fun _ _ => rfl))) pa_nil)))
        (pa_cons (pe_op op_add pe_int (pe_callB (cr_max rfl) (by rfl) N.mmax (by decide +kernel) (pa_cons (pe_op op_cat (pe_lst (pa_cons pe_int pa_nil)) (pe_lc (own := [("_law_one", 8)]) (g := gName 8) rfl nd (pi_list (pv 7))
          (blkOk_by (own := [("_law_one", 8)]) (N := nLook) (sc := defScope sLook) (by decide +kernel)) (fun _ _ _ _ _ => pg_name (i := 8) nd rfl (Or.inl rfl)) (fun _ _ _ _ _ => pts_nil) (fun _ _ _ _ _ => pe_ix (r := rIxT K) ix_tup (pv 8) pe_int (fun _ _ => rfl)))) pa_nil))) pa_nil)))
  case rd =>
  intro D0 H0 H1 t c k z pm rest ds cs v o y6 y7 y8 y9 L fo q0 fin
  cases o with
  | none =>
    cases (show v = .non from L.inn)
    exact ⟨_, rfl, rfl, _, rfl, iteT (q0 rfl H1 L.g)⟩
  | some l =>
  obtain ⟨pi, ps, rfl, hpi, hpl, hps⟩ := L.inn
  obtain ⟨hlen, hfit⟩ := fo l rfl
  have g1 := L.g
  have hlp : ps.length ≤ 10000000 := by rw [hpl]; exact hlen
  refine ⟨_, rfl, rfl, _, rfl, iteF ?_⟩
  refine ⟨_, rfl, pi, rfl, ⟨_, .inl (.inl hpi)⟩, fun D nD => ?_⟩
  refine lc_it (walk_list (xs := ps)) (fun i H2 => ∃ rs : List V, H2 D = some (.lst rs) ∧ TwoO H2 rs ((l.take i).map fun dm => lk cs q dm.2 dm.1) ∧ Gr H1 H2) ?c0 ?c1 ?c2 ?c3
  case c0 => exact ⟨[], upd_same, ⟨rfl, fun j ab e => by cases e⟩, Gr.new nD⟩
  case c1 =>
    rintro i H2 hi ⟨rs, hD, ht, g2⟩
    exact .inl (.inl (g2.lst hpi))
  case c2 =>
    rintro i x H2 H2' hi ⟨rs, hD, ht, g2⟩ ⟨rfl, hx⟩
    obtain ⟨ta, c', dm, rfl, hT, hdm, hd⟩ := hps i x hx
    obtain ⟨f1, f2⟩ := hfit dm (List.mem_of_getElem? hdm)
    refine ⟨ta, [c', kV dm.2], rfl, g2.sqt hT, rfl, c', [kV dm.2], rfl, kV dm.2, [], rfl, rfl, rfl, ?_⟩
    unfold tYes
    have hrl : rs.length ≤ i := by
      rw [ht.1, List.length_map, List.length_take]
      omega
    have et : (l.take (i + 1)).map (fun dm => lk cs q dm.2 dm.1) = (l.take i).map (fun dm => lk cs q dm.2 dm.1) ++ [lk cs q dm.2 dm.1] := by
      rw [List.take_add_one, hdm, List.map_append]
      rfl
    refine iteT ⟨_, rfl, _, rfl, _, rfl, c', c, dm.1, cs, dm.2, rfl, g2.kd.dp hd, g2.kd.dp L.hc, f1, f2, hq, fun hn H3 g3 => ?_, fun a b hab H3 p g3 hp => ?_⟩
    · refine ⟨rs, g3.lst hD, small10000000 (by omega), rs ++ [.non], upd_same, ?_, Gr.upd_new (g2.trans g3) nD⟩
      rw [et, hn]
      exact ((ht.gr g3).snoc (x := .non) (o := none) rfl).upd (g3.lst hD)
    · refine ⟨rs, g3.lst hD, small10000000 (by omega), rs ++ [.ref p], upd_same, ?_, Gr.upd_new (g2.trans g3) nD⟩
      rw [et, hab]
      exact ((ht.gr g3).snoc (x := .ref p) (o := some (a, b)) ⟨p, rfl, hp⟩).upd (g3.lst hD)
  case c3 =>
  rintro H2 ⟨rs, hD, ht, g2⟩
  rw [hpl, List.take_length] at ht
  have hlr : rs.length ≤ 10000000 := by rw [ht.1, List.length_map]; exact hlen
  generalize eos : (l.map fun dm => lk cs q dm.2 dm.1) = os at ht
  have eo : endL cs q (some l) = outL os := by rw [← eos]; rfl
  refine ⟨_, rfl, .none, os.map twoO, .non, .lst (.inl (.inl hD)) ht.dp, rfl, twoOs_shape os, _, rfl, ?_⟩
  cases hal : allO os with
  | none =>
    rw [allO_any os hal]
    exact iteT (q0 (by rw [eo]; unfold outL; rw [hal]; rfl) H2 (g1.trans g2))
  | some abs =>
  obtain ⟨eos2, hany⟩ := allO_some os abs hal
  rw [hany]
  refine iteF ?_
  rw [eos2] at ht
  have ht := ht.two
  refine ⟨_, rfl, D, rfl, ⟨_, .inl (.inl hD)⟩, fun D2 nD2 => ?_⟩
  refine lc_it (walk_list (xs := rs)) (fun i H3 => H3 = upd H2 D2 (.lst ((abs.take i).map fun ab => V.int ab.1))) rfl ?d1 ?d2 ?d3
  case d1 =>
    rintro i H3 hi rfl
    exact .inl (.inl ((Gr.new nD2).lst hD))
  case d2 =>
    rintro i x H3 H3' hi rfl ⟨rfl, hx⟩
    obtain ⟨ab, p, hab, rfl, hp⟩ := ht.at hx
    refine ⟨rfl, ?_⟩
    unfold tYes
    refine iteT ⟨_, rfl, p, _, 0, _, rfl, rfl, .inl (.inl ((Gr.new nD2).tup hp)), rfl, _, upd_same, ?_, ?_⟩
    · rw [List.length_map, List.length_take]
      have := ht.1
      exact small10000000 (by omega)
    · rw [upd_upd, List.take_add_one, hab, List.map_append]
      rfl
  case d3 =>
  rintro H3 rfl
  have tk : abs.take rs.length = abs := by rw [ht.1, List.take_length]
  rw [tk]
  have g3 : Gr H2 (upd H2 D2 (.lst (abs.map fun ab => V.int ab.1))) := Gr.new nD2
  have hD2 : upd H2 D2 (.lst (abs.map fun ab => V.int ab.1)) D2 = some (.lst ((abs.map (·.1)).map V.int)) := by rw [upd_same, List.map_map]; rfl
  generalize upd H2 D2 (.lst (abs.map fun ab => V.int ab.1)) = H3 at g3 hD2 ⊢
  refine ⟨D2, abs.map (·.1), rfl, .inl (.inl hD2), 1, _, rfl, rfl, ?_⟩
  refine ⟨by show 1 ≤ sizeLine; decide, fun l0 n0 => ?_⟩
  have g4 : Gr H3 (upd H3 l0 (.lst [.int 0])) := Gr.new n0
  have hD4 := g4.lst (g3.lst hD)
  have hl0 : upd H3 l0 (.lst [.int 0]) l0 = some (.lst [.int 0]) := upd_same
  have ht4 := (ht.gr g3).gr g4
  generalize upd H3 l0 (.lst [.int 0]) = H4 at g4 hD4 hl0 ht4 ⊢
  refine ⟨_, rfl, D, rfl, ⟨_, .inl (.inl hD4)⟩, fun D3 nD3 => ?_⟩
  refine lc_it (walk_list (xs := rs)) (fun i H5 => H5 = upd H4 D3 (.lst ((abs.take i).map fun ab => V.int ab.2))) rfl ?e1 ?e2 ?e3
  case e1 =>
    rintro i H5 hi rfl
    exact .inl (.inl ((Gr.new nD3).lst hD4))
  case e2 =>
    rintro i x H5 H5' hi rfl ⟨rfl, hx⟩
    obtain ⟨ab, p, hab, rfl, hp⟩ := ht4.at hx
    refine ⟨rfl, ?_⟩
    unfold tYes
    refine iteT ⟨_, rfl, p, _, 1, _, rfl, rfl, .inl (.inl ((Gr.new nD3).tup hp)), rfl, _, upd_same, ?_, ?_⟩
    · rw [List.length_map, List.length_take]
      have := ht.1
      exact small10000000 (by omega)
    · rw [upd_upd, List.take_add_one, hab, List.map_append]
      rfl
  case e3 =>
  rintro H5 rfl
  rw [tk]
  have g5 : Gr H4 (upd H4 D3 (.lst (abs.map fun ab => V.int ab.2))) := Gr.new nD3
  have hD5 : upd H4 D3 (.lst (abs.map fun ab => V.int ab.2)) D3 = some (.lst (abs.map fun ab => V.int ab.2)) := upd_same
  have hl5 := g5.lst hl0
  generalize upd H4 D3 (.lst (abs.map fun ab => V.int ab.2)) = H5 at g5 hD5 hl5 ⊢
  refine ⟨l0, D3, _, _, rfl, rfl, hl5, hD5, ?_, fun l1 n1 => ?_⟩
  · rw [List.length_map]
    have := ht.1
    exact Nat.le_of_lt (small10000001 (by show 1 + abs.length ≤ 10000001; omega))
  refine ⟨l1, 0 :: abs.map (·.2), rfl, .inl (.inl ?_), by simp, fun mx mx1 mx2 => ?_⟩
  · rw [upd_same, List.map_cons, List.map_map]
    rfl
  refine ⟨1, mx, rfl, rfl, by show 2 ≤ sizeLine; decide, fun tp ntp => ?_⟩
  have em : mx = mxI (abs.map (·.2)) := mxI_is mx1 mx2
  subst em
  exact fin _ _ (by rw [eo]; unfold outL; rw [hal]; rfl) _ tp (((((g1.trans g2).trans g3).trans g4).trans g5).trans ((Gr.new n1).trans (Gr.new ntp))) upd_same
end
end SfE
set_option maxRecDepth 10000000
namespace SfE
open PySem PySem.Spec PyProof.Rows L2 SfG
theorem depA_mem : ∀ {ds : List PyData} {d : PyData}, d ∈ ds → d.depth ≤ PyData.depthAll ds
  | a :: r, d, h => by
    rw [PyData.depthAll]
    rcases List.mem_cons.mp h with rfl | h
    · omega
    · have := depA_mem h
      omega
theorem wtA_mem : ∀ {ds : List PyData} {d : PyData}, d ∈ ds → wt d ≤ wtA ds
  | a :: r, d, h => by
    rw [wtA]
    rcases List.mem_cons.mp h with rfl | h
    · omega
    · have := wtA_mem h
      omega
theorem wtA_len : ∀ (ds : List PyData), ds.length ≤ wtA ds
  | [] => Nat.zero_le _
  | a :: r => by
    have := wtA_len r
    rw [wtA, List.length_cons]
    omega
theorem es_bnd {d : PyData} : wtA (esOf d) ≤ wt d ∧ ∀ e ∈ esOf d, e.depth < d.depth := by
  cases d with
  | tuple es =>
    refine ⟨by rw [wt]; exact Nat.le_add_right _ _, fun e he => ?_⟩
    have := depA_mem (show e ∈ es from he)
    rw [PyData.depth]
    omega
  | _ => exact ⟨Nat.zero_le _, fun e he => by cases he⟩
theorem FitI.ite {q : Nat} {c : Prop} [Decidable c] {a o : Option Inn} (h1 : c → FitI q a) (h2 : FitI q o) : FitI q (if c then a else o) := by
  by_cases h : c
  · rw [if_pos h]
    exact h1 h
  · rw [if_neg h]
    exact h2
theorem FitI.no {q : Nat} : FitI q none := fun l e => by cases e
theorem FitI.ls {q : Nat} {l : Inn} (h : l.length ≤ 10000000) (h2 : ∀ dm ∈ l, dm.1.depth < q ∧ wt dm.1 ≤ 10000000) : FitI q (some l) := fun l' e => by
  cases e
  exact ⟨h, h2⟩
theorem fit_inn {q : Nat} {cs : List Nat} {m : Option Nat} {z : Str} {ds : List PyData} (hd : ∀ d ∈ ds, d.depth < q) (hw : ∀ d ∈ ds, wt d ≤ 10000000) (hl : ds.length ≤ 10000000) (hq : 0 < q) : FitI q (inn cs m z ds) := by
  have get : ∀ i, (ds.getD i .none).depth < q ∧ wt (ds.getD i .none) ≤ 10000000 := fun i => by
    rw [List.getD_eq_getElem?_getD]
    cases h : ds[i]? with
    | none => exact ⟨hq, by show (5 : Nat) ≤ 10000000; decide⟩
    | some d => exact ⟨hd d (List.mem_of_getElem? h), hw d (List.mem_of_getElem? h)⟩
  have nil : FitI q (some []) := FitI.ls (Nat.zero_le _) fun dm h => by cases h
  unfold inn o11 o10 o9 o8 o6 o5 o4
  refine FitI.ite (fun _ => FitI.ls (by show 3 ≤ 10000000; decide) fun dm h => ?_) (FitI.ite (fun _ => FitI.ls ?_ fun dm h => ?_) (FitI.ite (fun _ => nil) (FitI.ite (fun _ => FitI.ls (by rw [List.length_map]; exact hl) fun dm h => ?_)
    (FitI.ite (fun _ => FitI.ls (by show 1 ≤ 10000000; decide) fun dm h => ?_) (FitI.ite (fun _ => FitI.ite (fun _ => nil) FitI.no) (FitI.ite (fun _ => nil) FitI.no))))))
  · simp only [List.mem_cons, List.not_mem_nil, or_false] at h
    rcases h with rfl | rfl | rfl
    · exact get 0
    · exact get 1
    · exact get 2
  · rw [List.length_map]
    have := (es_bnd (d := d0 ds)).1
    have h2 := wtA_len (esOf (d0 ds))
    have h3 := (get 0).2
    have h4 : wt (d0 ds) ≤ 10000000 := h3
    omega
  · obtain ⟨e, he, rfl⟩ := List.mem_map.mp h
    have h3 := (get 0).1
    have h4 : (d0 ds).depth < q := h3
    have h5 : wt (d0 ds) ≤ 10000000 := (get 0).2
    have h6 := (es_bnd (d := d0 ds)).2 e he
    have h7 := (es_bnd (d := d0 ds)).1
    have h8 := wtA_mem he
    exact ⟨by show e.depth < q; omega, by show wt e ≤ 10000000; omega⟩
  · obtain ⟨e, he, rfl⟩ := List.mem_map.mp h
    exact ⟨hd e he, hw e he⟩
  · simp only [List.mem_cons, List.not_mem_nil, or_false] at h
    subst h
    exact get 0
section
variable {P : Program} {w : World} {K : PySem.W.Frag} {mg : Str → Option Value} {base : Heap}
theorem lk_noT {cs : List Nat} {n : Nat} {m : Option Nat} {d : PyData} (h : (tyD d == "tuple") = false) : lk cs n m d = none := by
  cases n with
  | zero => rw [lk]
  | succ n =>
    cases d with
    | tuple _ => exact absurd h (by show ¬ ("tuple" == "tuple") = false; decide)
    | _ => rfl
theorem lk_noS {cs : List Nat} {n : Nat} {m : Option Nat} {d : PyData} {ds : List PyData} (h : (tyD d == "str") = false) : lk cs n m (.tuple (d :: ds)) = none := by
  cases n with
  | zero => rw [lk]
  | succ n =>
    cases d with
    | str _ => exact absurd h (by show ¬ ("str" == "str") = false; decide)
    | _ => rfl
theorem str_is (d : PyData) : (tyD d == "str") = false ∨ ∃ z, d = .str z := by
  cases d with
  | str z => exact .inr ⟨z, rfl⟩
  | none => exact .inl (by show ("NoneType" == "str") = false; decide)
  | bool _ => exact .inl (by show ("bool" == "str") = false; decide)
  | int _ => exact .inl (by show ("int" == "str") = false; decide)
  | tuple _ => exact .inl (by show ("tuple" == "str") = false; decide)
  | list _ => exact .inl (by show ("list" == "str") = false; decide)
  | dict _ => exact .inl (by show ("dict" == "str") = false; decide)
set_option maxHeartbeats 4000000 in
theorem ok_look {f fA : Addr} {fd fdA : FuncData} (F : Fun K "_law_looked" "_law_looked" sLook f fd) (bL : Binds K fd ["_law_thing", "_law_counts", "_law_many"] []) (gL : mg "_law_looked" = some (.ref f))
    (HA : Has P w K mg base 1 "_law_among" ["_law_thing", "_law_least", "_law_most"] (spAmg K) fA fdA) (N : LookNames mg) : ∀ q, FnOk P w K mg base CX0 (q + 2) f fd ["_law_thing", "_law_counts", "_law_many"] (spLk K q)
  | 0 => by
    refine F.ok scLook (fun vs H Q E h => ?_) (fun cdv A outer s H vs Q E hr h => ?_)
    · obtain ⟨t, c, d, cs, m, rfl, _⟩ := h
      rfl
    · obtain ⟨t, c, d, cs, m, rfl, _, _, hm, _⟩ := h
      omega
  | q + 1 => by
    have GL := ok_look F bL gL HA N q
    refine F.ok scLook (fun vs H Q E h => ?_) (fun cdv A outer s H vs Q E hr h => ?_)
    · obtain ⟨t, c, d, cs, m, rfl, _⟩ := h
      rfl
    · obtain ⟨t, c, d, cs, m, rfl, hd, hc, hdp, hw, hq, q0, fin⟩ := h
      have HA' : Has P w K mg base (q + 2) "_law_among" ["_law_thing", "_law_least", "_law_most"] (spAmg K) fA fdA := ⟨HA.ok.mono (by omega), HA.at_, HA.kp, HA.bd⟩
      obtain ⟨t11, dT, r11⟩ := look_tail (H := H) (outer := outer) (E := E) bL gL F.kp GL N hr (show q ≤ 60 by omega)
      obtain ⟨t10, dT, r10⟩ := step11 (K := K) N hr t11 dT
      obtain ⟨t9, dT, r9⟩ := step10 (K := K) N hr t10 dT
      obtain ⟨t8, dT, r8⟩ := step9 (K := K) N hr t9 dT
      obtain ⟨t6, dT, r6⟩ := step8 (K := K) N hr t8 dT
      obtain ⟨t5, dT, r5⟩ := step6 (K := K) HA' N hr t6 dT
      obtain ⟨t4, dT, r4⟩ := step5 (K := K) HA' N hr t5 dT
      obtain ⟨t3, dT, r3⟩ := step4 (K := K) HA' N hr t4 dT
      have nd := scLook.nd
      refine' ⟨_, pss_cons ?s1 (pss_cons ?s2 (pss_cons ?s3 dT)), ?rd⟩
      case s1 =>
        exact ps_if (PW.pt (pw_or (pt_not (pt_val (pe_isi "tuple" 0 N.mi N.mt (by decide +kernel)))) (pw_or (pt_cmpR (op_eqT0 hr) (pv 0) (pe_tup pa_nil) (nomark _))
          (pw_or1 (pt_not (pt_val (pe_callB call_isi (by rfl) N.mi (by decide +kernel) (pa_cons (pe_ix ix_tup (pv 0) pe_int (fun _ _ => rfl)) (pa_cons (pe_bltn (v := .ty "str") (by rfl) N.ms (by decide +kernel) rfl) pa_nil)))))))))
          (pss_one (ps_ret pe_non)) pss_nil
      case s2 =>
        exact ps_par (i := 3) (j := 4) rfl nd rfl rfl (by decide) rfl rfl (pa_cons (pe_ix ix_tup (pv 0) pe_int (fun _ _ => rfl)) (pa_cons (pe_slice sl_tup (pv 0) (po_some pe_int) po_none) pa_nil)) (by rfl)
      case s3 =>
        exact ps_set (i := 5) nd rfl (.inl rfl) pe_non
      case rd =>
      have hI := dp_is hd
      refine ⟨_, rfl, _, _, hI.1, kit_tuple _ hI.2, _, rfl, ?_⟩
      rcases tup_is d with h1 | ⟨es, rfl⟩
      · rw [h1]
        exact iteT (iteT (q0 (lk_noT h1) H (Gr.refl H)))
      rw [show (tyD (.tuple es) == "tuple") = true from by show ("tuple" == "tuple") = true; decide]
      obtain ⟨p, xs, rfl, hp, hxs⟩ := dp_tup hd
      refine iteF ⟨_, rfl, by show 0 ≤ sizeLine; decide, fun p0 n0 => ?_⟩
      have g0 : Gr H (upd H p0 (.tup [])) := Gr.new n0
      refine ⟨p, p0, xs, rfl, rfl, g0.sqt hp, .inl (.inl upd_same), _, rfl, ?_⟩
      generalize upd H p0 (.tup []) = H0 at g0 ⊢
      cases es with
      | nil =>
        cases dpA_nil hxs
        exact iteT (iteT (q0 rfl H0 g0))
      | cons dw ds =>
      obtain ⟨x0, rest, rfl, h0, hrest⟩ := dpA_cons hxs
      have hI0 := dp_is (g0.kd.dp h0)
      refine iteF ⟨_, rfl, p, _, 0, x0, rfl, rfl, g0.sqt hp, atI_nat (j := 0) rfl, x0, .ty "str", .type (tyD dw), .type "str", (tyD dw == "str"), rfl, .ty "str", hI0.1, kit_ty (kit_str _ hI0.2), _, rfl, ?_⟩
      rcases str_is dw with h1 | ⟨z, rfl⟩
      · rw [h1]
        exact iteT (q0 (lk_noS h1) H0 g0)
      rw [show (tyD (.str z) == "str") = true from by show ("str" == "str") = true; decide]
      cases dp_str h0
      refine iteF ?_
      refine ⟨_, rfl, p, _, 0, .str z, rfl, rfl, g0.sqt hp, atI_nat (j := 0) rfl, _, rfl, 1, rfl, p, _, rfl, g0.sqt hp, cut_not _ _, fun pm npm => ?_⟩
      refine ⟨_, _, rfl, ?_⟩
      rw [cut_one]
      have g1 : Gr H (upd H0 pm (.tup rest)) := g0.trans (Gr.new npm)
      rw [PyData.depth, PyData.depthAll] at hdp
      rw [wt, wtA] at hw
      have wl := wtA_len ds
      have L : LS K H (upd H0 pm (.tup rest)) pm rest ds c cs .non none := ⟨g1, .inl (.inl upd_same), g1.kd.dpA hrest, g1.kd.dp hc, rfl, by omega, fun d hd' => by
        have a1 := wtA_len (esOf d)
        have a2 := (es_bnd (d := d)).1
        have a3 := wtA_mem hd'
        omega⟩
      have fit : FitI q (inn cs m z ds) := fit_inn (fun d hd' => by have := depA_mem hd'; omega) (fun d hd' => by have := wtA_mem hd'; omega) (by omega) (by omega)
      refine r3 _ H _ _ _ _ _ _ _ _ _ _ _ _ _ _ _ L fun _ _ _ _ L => ?_
      refine r4 _ H _ _ _ _ _ _ _ _ _ _ _ _ _ _ _ L fun _ _ _ _ L => ?_
      refine r5 _ H _ _ _ _ _ _ _ _ _ _ _ _ _ _ _ L fun _ _ _ _ L => ?_
      refine r6 _ H _ _ _ _ _ _ _ _ _ _ _ _ _ _ _ L fun _ _ _ _ L => ?_
      refine r8 _ H _ _ _ _ _ _ _ _ _ _ _ _ _ _ _ L fun _ _ _ _ L => ?_
      refine r9 _ H _ _ _ _ _ _ _ _ _ _ _ _ _ _ _ L fun _ _ _ _ L => ?_
      refine r10 _ H _ _ _ _ _ _ _ _ _ _ _ _ _ _ _ L fun _ _ _ _ L => ?_
      refine r11 _ H _ _ _ _ _ _ _ _ _ _ _ _ _ _ _ L fit (fun hn H' g => q0 (by rw [lk_tup]; exact hn) H' g) fun a b hab H' p' g hp' => fin a b (by rw [lk_tup]; exact hab) H' p' g hp'
end
end SfE
namespace SfE
open PySem PySem.Spec PyProof.Rows L2 SfG
/-! ### left_by_expression and left_by_body tell what the law's own look tells -/
def Pos (o : Option (Int × Int)) : Prop := ∀ p k, o = some (p, k) → 1 ≤ p ∧ 1 ≤ k
def Agree (o : Option (Int × Int)) (dp : Nat) (left r : Int) : Prop := match o with
  | none => r < 0
  | some pk => if pk.2 ≤ dp ∧ pk.1 ≤ left then r = left - pk.1 else r < 0
theorem Agree.neg {o : Option (Int × Int)} {dp : Nat} {l r : Int} (hp : Pos o) (h : Agree o dp l r) (hl : l < 0) : r < 0 := by
  cases o with
  | none => exact h
  | some pk =>
    have := (hp pk.1 pk.2 rfl).1
    have h : if pk.2 ≤ dp ∧ pk.1 ≤ l then r = l - pk.1 else r < 0 := h
    rw [if_neg (by omega)] at h
    exact h
theorem allO_pos : ∀ {os : List (Option (Int × Int))} {abs : List (Int × Int)}, (∀ o ∈ os, Pos o) → allO os = some abs → 0 ≤ (abs.map (·.1)).sum ∧ (os ≠ [] → 1 ≤ mxI (abs.map (·.2)))
  | [], _, _, h => by
    cases h
    exact ⟨Int.le_refl 0, fun z => absurd rfl z⟩
  | none :: r, _, _, h => by cases h
  | some x :: r, abs, hp, h => by
    obtain ⟨b, hb, rfl⟩ := Option.map_eq_some_iff.mp (show (allO r).map (x :: ·) = some abs from h)
    obtain ⟨h1, h2⟩ := allO_pos (fun o ho => hp o (List.mem_cons_of_mem _ ho)) hb
    obtain ⟨p1, p2⟩ := hp (some x) List.mem_cons_self x.1 x.2 rfl
    rw [List.map_cons, List.map_cons, List.sum_cons]
    refine ⟨by omega, fun _ => ?_⟩
    have e : mxI (x.2 :: b.map (·.2)) = max x.2 (mxI (b.map (·.2))) := rfl
    rw [e]
    omega
theorem outL_pos {os : List (Option (Int × Int))} (hp : ∀ o ∈ os, Pos o) : Pos (outL os) := by
  intro p k h
  unfold outL at h
  obtain ⟨abs, ha, e⟩ := Option.map_eq_some_iff.mp h
  have h1 := (allO_pos hp ha).1
  have h2 := (mxI_ge (abs.map (·.2))).1
  cases e
  exact ⟨by omega, by omega⟩
theorem lk_pos {cs : List Nat} : ∀ (n : Nat) (m : Option Nat) (d : PyData), Pos (lk cs n m d)
  | 0, m, d => fun p k h => by rw [lk] at h; cases h
  | n + 1, m, d => by
    rcases tup_is d with h1 | ⟨es, rfl⟩
    · rw [lk_noT h1]
      exact fun p k h => by cases h
    cases es with
    | nil => exact fun p k h => by cases h
    | cons dw ds =>
    rcases str_is dw with h1 | ⟨z, rfl⟩
    · rw [lk_noS h1]
      exact fun p k h => by cases h
    rw [lk_tup]
    cases inn cs m z ds with
    | none => exact fun p k h => by cases h
    | some l =>
      refine outL_pos fun o ho => ?_
      obtain ⟨dm, _, rfl⟩ := List.mem_map.mp ho
      exact lk_pos n dm.2 dm.1
/-- one behind the other -/
def Chain (dp : Nat) : List (Option (Int × Int)) → Int → Int → Prop
  | [], l, r => r = l
  | o :: os, l, r => ∃ r1, Agree o dp l r1 ∧ Chain dp os r1 r
theorem Chain.neg {dp : Nat} : ∀ {os : List (Option (Int × Int))} {l r : Int}, (∀ o ∈ os, Pos o) → Chain dp os l r → l < 0 → r < 0
  | [], l, r, _, h, hl => by rw [show r = l from h]; exact hl
  | o :: os, l, r, hp, ⟨r1, h1, h2⟩, hl => Chain.neg (fun o ho => hp o (List.mem_cons_of_mem _ ho)) h2 (h1.neg (hp o List.mem_cons_self) hl)
theorem Chain.out {dp : Nat} : ∀ {os : List (Option (Int × Int))} {l r : Int}, (∀ o ∈ os, Pos o) → Chain dp os l r → match allO os with
    | none => r < 0
    | some abs => if mxI (abs.map (·.2)) ≤ dp ∧ (abs.map (·.1)).sum ≤ l then r = l - (abs.map (·.1)).sum else r < 0
  | [], l, r, _, h => by
    have h : r = l := h
    show if mxI [] ≤ (dp : Int) ∧ ([] : List Int).sum ≤ l then r = l - ([] : List Int).sum else r < 0
    rw [show mxI [] = 0 from rfl, List.sum_nil]
    split <;> omega
  | none :: os, l, r, hp, ⟨r1, h1, h2⟩ => Chain.neg (fun o ho => hp o (List.mem_cons_of_mem _ ho)) h2 h1
  | some x :: os, l, r, hp, ⟨r1, h1, h2⟩ => by
    have hp' : ∀ o ∈ os, Pos o := fun o ho => hp o (List.mem_cons_of_mem _ ho)
    have ih := Chain.out hp' h2
    obtain ⟨p1, p2⟩ := hp (some x) List.mem_cons_self x.1 x.2 rfl
    have ea : allO (some x :: os) = (allO os).map (x :: ·) := rfl
    rw [ea]
    by_cases c : x.2 ≤ dp ∧ x.1 ≤ l
    · have h1' : r1 = l - x.1 := by
        have h1 : if x.2 ≤ dp ∧ x.1 ≤ l then r1 = l - x.1 else r1 < 0 := h1
        rw [if_pos c] at h1
        exact h1
      cases hal : allO os with
      | none =>
        rw [hal] at ih
        exact ih
      | some abs =>
        rw [hal] at ih
        obtain ⟨s0, _⟩ := allO_pos hp' hal
        show if mxI (x.2 :: abs.map (·.2)) ≤ (dp : Int) ∧ (x.1 :: abs.map (·.1)).sum ≤ l then r = l - (x.1 :: abs.map (·.1)).sum else r < 0
        have e : mxI (x.2 :: abs.map (·.2)) = max x.2 (mxI (abs.map (·.2))) := rfl
        rw [e, List.sum_cons]
        have ih : if mxI (abs.map (·.2)) ≤ (dp : Int) ∧ (abs.map (·.1)).sum ≤ r1 then r = r1 - (abs.map (·.1)).sum else r < 0 := ih
        subst h1'
        split at ih
        · rw [if_pos (by omega)]
          omega
        · rw [if_neg (by omega)]
          exact ih
    · have h1' : r1 < 0 := by
        have h1 : if x.2 ≤ dp ∧ x.1 ≤ l then r1 = l - x.1 else r1 < 0 := h1
        rw [if_neg c] at h1
        exact h1
      have hr : r < 0 := Chain.neg hp' h2 h1'
      cases hal : allO os with
      | none => exact hr
      | some abs =>
        obtain ⟨s0, _⟩ := allO_pos hp' hal
        show if mxI (x.2 :: abs.map (·.2)) ≤ (dp : Int) ∧ (x.1 :: abs.map (·.1)).sum ≤ l then r = l - (x.1 :: abs.map (·.1)).sum else r < 0
        have e : mxI (x.2 :: abs.map (·.2)) = max x.2 (mxI (abs.map (·.2))) := rfl
        rw [e, List.sum_cons, if_neg (by omega)]
        exact hr
theorem Chain.node {dp : Nat} {os : List (Option (Int × Int))} {l r : Int} (hp : ∀ o ∈ os, Pos o) (h : Chain dp os l r) : Agree (outL os) (dp + 1) (l + 1) r := by
  have := h.out hp
  unfold outL
  cases hal : allO os with
  | none =>
    rw [hal] at this
    exact this
  | some abs =>
    rw [hal] at this
    have this : if mxI (abs.map (·.2)) ≤ (dp : Int) ∧ (abs.map (·.1)).sum ≤ l then r = l - (abs.map (·.1)).sum else r < 0 := this
    show if 1 + mxI (abs.map (·.2)) ≤ ((dp + 1 : Nat) : Int) ∧ 1 + (abs.map (·.1)).sum ≤ l + 1 then r = l + 1 - (1 + (abs.map (·.1)).sum) else r < 0
    split at this
    · rw [if_pos (by omega)]
      omega
    · rw [if_neg (by omega)]
      exact this
/-- too deep, or too many -/
theorem agree_no {dp : Nat} {os : List (Option (Int × Int))} {l : Int} (hp : ∀ o ∈ os, Pos o) (hne : os ≠ []) (h : dp = 0 ∨ l < 1) : Agree (outL os) (dp + 1) l (-1) := by
  unfold outL
  cases hal : allO os with
  | none => exact (by decide : (-1 : Int) < 0)
  | some abs =>
    obtain ⟨s0, s1⟩ := allO_pos hp hal
    have := s1 hne
    show if 1 + mxI (abs.map (·.2)) ≤ ((dp + 1 : Nat) : Int) ∧ 1 + (abs.map (·.1)).sum ≤ l then (-1 : Int) = l - (1 + (abs.map (·.1)).sum) else (-1 : Int) < 0
    rw [if_neg (by omega)]
    decide
end SfE
namespace SfE
open PySem PySem.Spec PyProof.Rows L2 SfG
theorem szs_or (z : Str) : szs z = 0 ∨ szs z = 2 ∨ szs z = 3 := by
  unfold szs
  split
  · exact .inr (.inl rfl)
  · split
    · exact .inr (.inr rfl)
    · exact .inl rfl
theorem inn_E (cs : List Nat) (z : Str) (ds : List PyData) : inn cs none z ds = o8 none z ds (o6 none z ds (o5 cs none z ds (o4 none z ds none))) := by
  unfold inn o11 o10 o9
  rw [if_neg (fun h => h.1 rfl), if_neg (fun h => h.1 rfl), if_neg (fun h => h.1 rfl)]
theorem inn_E1 (cs : List Nat) (z : Str) (a : PyData) : inn cs none z [a] = if z = "number" ∧ amg a 0 99 = true then some [] else none := by
  rw [inn_E]
  unfold o8 o6 o5 o4
  rw [if_neg (fun h => by have h2 : szs z = 1 := h.2.1; rcases szs_or z with e | e | e <;> omega), if_neg (fun h => absurd h.2.2.1 (by show ¬ (1 = 2); decide)), if_neg (fun h => absurd h.2.2.1 (by show ¬ (1 = 2); decide))]
  by_cases h : z = "number" ∧ amg a 0 99 = true
  · rw [if_pos h, if_pos ⟨rfl, h.1, rfl, h.2⟩]
  · rw [if_neg h, if_neg (fun x => h ⟨x.2.1, x.2.2.2⟩)]
theorem inn_E2 (cs : List Nat) (z : Str) (a b : PyData) : inn cs none z [a, b] = if z = "in" then (if amg a 0 ((cs.length : Int) - 1) = true then (if amg b 0 (cAt cs (nI a) - 1) = true then some [] else none) else none)
    else if szs z = 2 then some [(a, none), (b, none)] else if z = "rest" ∧ amg b 2 99 = true then some [(a, none)] else none := by
  rw [inn_E]
  unfold o8 o6 o5 o4
  by_cases h1 : z = "in"
  · subst h1
    rw [if_pos rfl, if_neg (fun h => absurd h.2.1 (by show ¬ (szs "in" = 2); decide +kernel)), if_neg (fun h => absurd h.2.1 (by decide +kernel))]
    by_cases h2 : amg a 0 ((cs.length : Int) - 1) = true
    · rw [if_pos h2, if_pos ⟨rfl, rfl, rfl, h2⟩]
      rfl
    · rw [if_neg h2, if_neg (fun h => h2 h.2.2.2), if_neg (fun h => absurd h.2.1 (by decide +kernel))]
  · rw [if_neg h1]
    by_cases h2 : szs z = 2
    · rw [if_pos h2, if_pos ⟨rfl, h2, (by show 0 < 2; decide)⟩]
      rfl
    · rw [if_neg h2, if_neg (fun h => h2 h.2.1)]
      by_cases h3 : z = "rest" ∧ amg b 2 99 = true
      · rw [if_pos h3, if_pos ⟨rfl, h3.1, rfl, h3.2⟩]
        rfl
      · rw [if_neg h3, if_neg (fun h => h3 ⟨h.2.1, h.2.2.2⟩), if_neg (fun h => h1 h.2.1), if_neg (fun h => absurd h.2.2.1 (by show ¬ (2 = 1); decide))]
theorem inn_E3 (cs : List Nat) (z : Str) (a b c : PyData) : inn cs none z [a, b, c] = if z = "if" then some [(a, none), (b, none), (c, none)] else none := by
  rw [inn_E]
  unfold o8 o6 o5 o4
  rw [if_neg (c := _ ∧ z = "rest" ∧ _ ∧ _) (fun h => absurd h.2.2.1 (by show ¬ (3 = 2); decide)), if_neg (c := _ ∧ z = "in" ∧ _ ∧ _) (fun h => absurd h.2.2.1 (by show ¬ (3 = 2); decide)), if_neg (c := _ ∧ z = "number" ∧ _ ∧ _) (fun h => absurd h.2.2.1 (by show ¬ (3 = 1); decide))]
  by_cases h : z = "if"
  · subst h
    rw [if_pos rfl, if_pos ⟨rfl, (by show szs "if" = 3; decide +kernel), (by show 0 < 3; decide)⟩]
    rfl
  · rw [if_neg h, if_neg]
    intro x
    have h2 : szs z = 3 := x.2.1
    unfold szs at h2
    rw [if_neg h] at h2
    split at h2 <;> cases h2
theorem inn_E0 (cs : List Nat) (z : Str) (ds : List PyData) (h : ds.length = 0 ∨ 4 ≤ ds.length) : inn cs none z ds = none := by
  rw [inn_E]
  unfold o8 o6 o5 o4
  rw [if_neg (fun x => by have h2 := x.2.1; have h3 := x.2.2; rcases szs_or z with e | e | e <;> omega), if_neg (fun x => by have := x.2.2.1; omega), if_neg (fun x => by have := x.2.2.1; omega), if_neg (fun x => by have := x.2.2.1; omega)]
theorem pair_sz (z : Str) : pairW (.str z) = decide (szs z = 2) := by
  by_cases h : z = "plus" ∨ z = "less" ∨ z = "times" ∨ z = "same" ∨ z = "under"
  · rw [decide_eq_true (by unfold szs; rw [if_pos h])]
    rcases h with rfl | rfl | rfl | rfl | rfl <;> decide +kernel
  · rw [decide_eq_false (by
      unfold szs
      rw [if_neg h]
      split <;> decide)]
    unfold pairW
    simp only [List.any_cons, List.any_nil, eqS]
    rw [decide_eq_false (fun e => h (.inl e)), decide_eq_false (fun e => h (.inr (.inl e))), decide_eq_false (fun e => h (.inr (.inr (.inl e)))), decide_eq_false (fun e => h (.inr (.inr (.inr (.inl e))))), decide_eq_false (fun e => h (.inr (.inr (.inr (.inr e)))))]
    rfl
theorem eqS_no {w : PyData} (h : (tyD w == "str") = false) (x : Str) : eqS w x = false := by
  cases w with
  | str _ => exact absurd h (by show ¬ ("str" == "str") = false; decide)
  | _ => rfl
theorem Agree.low {o : Option (Int × Int)} {dp : Nat} {l r : Int} (hr : r < 0) (h : ∀ pk, o = some pk → ¬ (pk.2 ≤ (dp : Int) ∧ pk.1 ≤ l)) : Agree o dp l r := by
  cases o with
  | none => exact hr
  | some pk =>
    show if pk.2 ≤ (dp : Int) ∧ pk.1 ≤ l then r = l - pk.1 else r < 0
    rw [if_neg (h pk rfl)]
    exact hr
/-- one part -/
theorem agree_one {dp : Nat} {l : Int} : Agree (outL []) (dp + 1) l (l - 1) := by
  show if 1 + mxI [] ≤ ((dp + 1 : Nat) : Int) ∧ 1 + ([] : List Int).sum ≤ l then l - 1 = l - (1 + ([] : List Int).sum) else l - 1 < 0
  rw [show mxI [] = 0 from rfl, List.sum_nil]
  split <;> omega
theorem inE_eq (cs : List Nat) (a b : PyData) (left : Int) : inE cs a b left = if (amg a 0 ((cs.length : Int) - 1) && amg b 0 (cAt cs (nI a) - 1)) = true then left - 1 else -1 := by cases a <;> rfl
theorem m1 : (-1 : Int) < 0 := by decide
theorem lbe_no {cs : List Nat} {dp : Nat} {w : PyData} {ds : List PyData} {l : Int} (h : (tyD w == "str") = false) : lbe cs dp (.tuple (w :: ds)) l = -1 := by
  cases dp with
  | zero => rw [lbe]
  | succ dp =>
    match ds with
    | [] => simp [lbe]
    | [a] => rw [lbe, eqS_no h]; rfl
    | [a, b] =>
      rw [lbe, eqS_no h, eqS_no h, if_neg (by decide)]
      have hp : pairW w = false := by
        unfold pairW
        simp only [List.any_cons, List.any_nil, eqS_no h]
        rfl
      rw [hp, if_neg (c := false = true) (by decide)]
      split <;> rfl
    | [a, b, c] =>
      rw [lbe, eqS_no h, if_neg (fun x => by cases x.1)]
    | _ :: _ :: _ :: _ :: _ => simp [lbe]
theorem lbe_ok (cs : List Nat) : ∀ (q : Nat) (d : PyData) (dp : Nat) (l : Int), d.depth < q → Agree (lk cs q none d) dp l (lbe cs dp d l)
  | 0, _, _, _, h => absurd h (Nat.not_lt_zero _)
  | q + 1, d, 0, l, h => by
    rw [lbe]
    exact Agree.low m1 fun pk e hh => by have := (lk_pos (q + 1) none d pk.1 pk.2 e).2; omega
  | q + 1, d, dp + 1, l, h => by
    rcases tup_is d with h1 | ⟨es, rfl⟩
    · rw [lk_noT h1]
      rcases tup_or d with ⟨_, h2⟩ | ⟨ds, rfl⟩
      · rw [h2]
        exact m1
      · exact absurd h1 (by show ¬ ("tuple" == "tuple") = false; decide)
    cases es with
    | nil =>
      rw [show lbe cs (dp + 1) (.tuple []) l = -1 by simp [lbe]]
      exact m1
    | cons w ds =>
    rcases str_is w with h1 | ⟨z, rfl⟩
    · rw [lk_noS h1, lbe_no h1]
      exact m1
    rw [lk_tup]
    rw [PyData.depth, PyData.depthAll] at h
    have hin : ∀ d ∈ ds, d.depth < q := fun d hd => by have := depA_mem hd; omega
    have pos : ∀ (l : List PyData), ∀ o ∈ l.map (fun d => lk cs q none d), Pos o := fun l o ho => by
      obtain ⟨d, _, rfl⟩ := List.mem_map.mp ho
      exact lk_pos q none d
    match ds, hin with
    | [], _ =>
      rw [inn_E0 cs z [] (.inl rfl), show lbe cs (dp + 1) (.tuple [.str z]) l = -1 by simp [lbe]]
      exact m1
    | a :: b :: c :: e :: r, _ =>
      rw [inn_E0 cs z _ (.inr (by simp)), show lbe cs (dp + 1) (.tuple (.str z :: a :: b :: c :: e :: r)) l = -1 by simp [lbe]]
      exact m1
    | [a], _ =>
      rw [inn_E1, lbe]
      by_cases hz : z = "number" ∧ amg a 0 99 = true
      · rw [if_pos hz, if_pos (by rw [show eqS (.str z) "number" = true from decide_eq_true hz.1, hz.2]; rfl)]
        exact agree_one
      · rw [if_neg hz, if_neg (fun x => by
          rw [Bool.and_eq_true] at x
          exact hz ⟨of_decide_eq_true (show decide (z = "number") = true from x.1), x.2⟩)]
        exact m1
    | [a, b], hin =>
      have ha := lbe_ok cs q a
      have hb := lbe_ok cs q b
      have da := hin a List.mem_cons_self
      have db := hin b (List.mem_cons_of_mem _ List.mem_cons_self)
      rw [inn_E2, lbe]
      by_cases hz : z = "in"
      · rw [if_pos hz, if_pos (show eqS (.str z) "in" = true from decide_eq_true hz)]
        rw [inE_eq]
        cases h1 : amg a 0 ((cs.length : Int) - 1) with
        | false =>
          rw [if_neg (by decide), Bool.false_and, if_neg (by decide)]
          exact m1
        | true =>
        rw [if_pos rfl, Bool.true_and]
        cases h2 : amg b 0 (cAt cs (nI a) - 1) with
        | false =>
          rw [if_neg (by decide), if_neg (by decide)]
          exact m1
        | true =>
          rw [if_pos rfl, if_pos rfl]
          exact agree_one
      · rw [if_neg hz, if_neg (show ¬ eqS (.str z) "in" = true from fun x => hz (of_decide_eq_true (show decide (z = "in") = true from x))), pair_sz]
        by_cases hs : szs z = 2
        · rw [if_pos hs, decide_eq_true hs, if_pos (c := true = true) rfl]
          have po := pos [a, b]
          by_cases hg : dp = 0 ∨ l < 1
          · rw [if_pos hg]
            exact agree_no po (by simp) hg
          · rw [if_neg hg]
            have := Chain.node (dp := dp) (l := l - 1) po ⟨_, ha dp (l - 1) da, _, hb dp _ db, rfl⟩
            rw [Int.sub_add_cancel] at this
            exact this
        · rw [if_neg hs, decide_eq_false hs, if_neg (c := false = true) (by decide)]
          by_cases hz3 : z = "rest" ∧ amg b 2 99 = true
          · rw [if_pos hz3, if_pos (c := (eqS (.str z) "rest" && amg b 2 99) = true) (by rw [show eqS (.str z) "rest" = true from decide_eq_true hz3.1, hz3.2]; rfl)]
            have po := pos [a]
            by_cases hg : dp = 0 ∨ l < 1
            · rw [if_pos hg]
              exact agree_no po (by simp) hg
            · rw [if_neg hg]
              have := Chain.node (dp := dp) (l := l - 1) po ⟨_, ha dp (l - 1) da, rfl⟩
              rw [Int.sub_add_cancel] at this
              exact this
          · rw [if_neg hz3, if_neg (c := (eqS (.str z) "rest" && amg b 2 99) = true) (fun x => by
              rw [Bool.and_eq_true] at x
              exact hz3 ⟨of_decide_eq_true (show decide (z = "rest") = true from x.1), x.2⟩)]
            show (if dp = 0 ∨ l < 1 then (-1 : Int) else -1) < 0
            split <;> exact m1
    | [a, b, c], hin =>
      have ha := lbe_ok cs q a
      have hb := lbe_ok cs q b
      have hc := lbe_ok cs q c
      have da := hin a List.mem_cons_self
      have db := hin b (List.mem_cons_of_mem _ List.mem_cons_self)
      have dc := hin c (List.mem_cons_of_mem _ (List.mem_cons_of_mem _ List.mem_cons_self))
      rw [inn_E3, lbe]
      by_cases hz : z = "if"
      · rw [if_pos hz]
        have po := pos [a, b, c]
        by_cases hg : dp = 0 ∨ l < 1
        · rw [if_neg (by omega)]
          exact agree_no po (by simp) hg
        · rw [if_pos ⟨show eqS (.str z) "if" = true from decide_eq_true hz, by omega, by omega⟩]
          have := Chain.node (dp := dp) (l := l - 1) po ⟨_, ha dp (l - 1) da, _, hb dp _ db, _, hc dp _ dc, rfl⟩
          rw [Int.sub_add_cancel] at this
          exact this
      · rw [if_neg hz, if_neg (fun x => hz (of_decide_eq_true (show decide (z = "if") = true from x.1)))]
        exact m1
end SfE
namespace SfE
open PySem PySem.Spec PyProof.Rows L2 SfG
theorem inn_B (cs : List Nat) (m : Nat) (z : Str) (ds : List PyData) : inn cs (some m) z ds = o11 (some m) z ds (o10 (some m) z ds (o9 (some m) z ds none)) := by
  unfold inn o8 o6 o5 o4
  rw [if_neg (c := some m = none ∧ szs z = _ ∧ _) (fun h => by cases h.1), if_neg (c := some m = none ∧ z = "rest" ∧ _) (fun h => by cases h.1), if_neg (c := some m = none ∧ z = "in" ∧ _) (fun h => by cases h.1), if_neg (c := some m = none ∧ z = "number" ∧ _) (fun h => by cases h.1)]
theorem inn_B0 (cs : List Nat) (m : Nat) (z : Str) : inn cs (some m) z [] = if z = "refuse" then some [] else none := by
  rw [inn_B]
  unfold o11 o10 o9
  rw [if_neg (fun h => absurd h.2.2 (by show ¬ (0 = 3); decide)), if_neg (fun h => absurd h.2.2.1 (by show ¬ (0 = 1); decide))]
  by_cases h : z = "refuse"
  · rw [if_pos h, if_pos ⟨by simp, h, rfl⟩]
  · rw [if_neg h, if_neg (fun x => h x.2.1)]
theorem inn_B1 (cs : List Nat) (m : Nat) (z : Str) (a : PyData) : inn cs (some m) z [a] = if z = "give" ∧ isT a = true ∧ (esOf a).length = m then some ((esOf a).map fun d => (d, none)) else none := by
  rw [inn_B]
  unfold o11 o10 o9
  rw [if_neg (fun h => absurd h.2.2 (by show ¬ (1 = 3); decide)), if_neg (c := _ ∧ z = "refuse" ∧ _) (fun h => by cases h.2.2)]
  by_cases h : z = "give" ∧ isT a = true ∧ (esOf a).length = m
  · rw [if_pos h, if_pos ⟨by simp, h.1, rfl, h.2.1, by show some m = some (esOf a).length; rw [h.2.2]⟩]
    rfl
  · rw [if_neg h, if_neg (fun x => h ⟨x.2.1, x.2.2.2.1, (Option.some.inj x.2.2.2.2).symm⟩)]
theorem inn_B3 (cs : List Nat) (m : Nat) (z : Str) (a b c : PyData) : inn cs (some m) z [a, b, c] = if z = "when" then some [(a, none), (b, some m), (c, some m)] else none := by
  rw [inn_B]
  unfold o11 o10 o9
  rw [if_neg (c := _ ∧ z = "give" ∧ _) (fun h => absurd h.2.2.1 (by show ¬ (3 = 1); decide)), if_neg (c := _ ∧ z = "refuse" ∧ _) (fun h => by cases h.2.2)]
  by_cases h : z = "when"
  · rw [if_pos h, if_pos ⟨by simp, h, rfl⟩]
    rfl
  · rw [if_neg h, if_neg (fun x => h x.2.1)]
theorem inn_Bn (cs : List Nat) (m : Nat) (z : Str) (ds : List PyData) (h : ds.length = 2 ∨ 4 ≤ ds.length) : inn cs (some m) z ds = none := by
  rw [inn_B]
  unfold o11 o10 o9
  rw [if_neg (fun x => by have := x.2.2; omega), if_neg (fun x => by have := x.2.2.1; omega), if_neg (fun x => by have h2 := x.2.2; rw [h2] at h; rcases h with h | h <;> simp at h)]
theorem chain_m1 {dp : Nat} : ∀ {os : List (Option (Int × Int))}, (∀ o ∈ os, Pos o) → Chain dp os (-1) (-1)
  | [], _ => rfl
  | o :: os, hp => ⟨-1, Agree.low m1 fun pk e hh => by have := (hp o List.mem_cons_self pk.1 pk.2 e).1; omega, chain_m1 fun o ho => hp o (List.mem_cons_of_mem _ ho)⟩
theorem pos_map {cs : List Nat} {q : Nat} {m : Option Nat} (l : List PyData) : ∀ o ∈ l.map (fun d => lk cs q m d), Pos o := fun o ho => by
  obtain ⟨d, _, rfl⟩ := List.mem_map.mp ho
  exact lk_pos q m d
theorem giv_ch (cs : List Nat) (q dp : Nat) : ∀ (es : List PyData) (l : Int), (∀ e ∈ es, e.depth < q) → Chain dp (es.map fun e => lk cs q none e) l (giv cs dp es l)
  | [], l, _ => rfl
  | e :: r, l, h => by
    rw [giv]
    by_cases hl : l < 1
    · rw [if_pos hl]
      have po := pos_map (cs := cs) (q := q) (m := none) (e :: r)
      exact ⟨-1, Agree.low m1 fun pk e hh => by have := (po _ List.mem_cons_self pk.1 pk.2 e).1; omega, chain_m1 fun o ho => po o (List.mem_cons_of_mem _ ho)⟩
    · rw [if_neg hl]
      exact ⟨_, lbe_ok cs q e dp l (h e List.mem_cons_self), giv_ch cs q dp r _ fun e he => h e (List.mem_cons_of_mem _ he)⟩
theorem lbb_low {cs : List Nat} {m dp : Nat} {w : PyData} {ds : List PyData} {l : Int} (h1 : eqS w "refuse" = true → ds ≠ []) (h2 : ∀ a, ds = [a] → eqS w "give" = true → giveD cs m dp a (l - 1) = -1) (h3 : ∀ a b c, ds = [a, b, c] → eqS w "when" = false) : lbb cs m (dp + 1) (.tuple (w :: ds)) l = -1 := by
  rw [lbb_tup]
  by_cases hl : l < 1
  · rw [if_pos hl]
  rw [if_neg hl]
  by_cases hr : eqS w "refuse" = true
  · rw [if_pos hr, if_neg]
    have := h1 hr
    cases ds with
    | nil => exact absurd rfl this
    | cons _ _ => intro z; cases z
  rw [if_neg hr]
  by_cases hd : dp = 0
  · rw [if_pos hd]
  rw [if_neg hd]
  match ds with
  | [] => rfl
  | [a] =>
    show (if eqS w "give" = true then giveD cs m dp a (l - 1) else -1) = -1
    split
    · rename_i hg
      exact h2 a rfl hg
    · rfl
  | [_, _] => rfl
  | [a, b, c] =>
    show (if eqS w "when" = true then _ else (-1 : Int)) = -1
    rw [h3 a b c rfl, if_neg (by decide)]
  | _ :: _ :: _ :: _ :: _ => rfl
theorem lbb_ok (cs : List Nat) (m : Nat) (hm : 1 ≤ m) : ∀ (q : Nat) (d : PyData) (dp : Nat) (l : Int), d.depth < q → Agree (lk cs q (some m) d) dp l (lbb cs m dp d l)
  | 0, _, _, _, h => absurd h (Nat.not_lt_zero _)
  | q + 1, d, 0, l, h => by
    rw [lbb]
    exact Agree.low m1 fun pk e hh => by have := (lk_pos (q + 1) (some m) d pk.1 pk.2 e).2; omega
  | q + 1, d, dp + 1, l, h => by
    rcases tup_is d with h1 | ⟨es, rfl⟩
    · rw [lk_noT h1, lbb_no h1]
      exact m1
    cases es with
    | nil =>
      rw [show lbb cs m (dp + 1) (.tuple []) l = -1 by simp [lbb]]
      exact m1
    | cons w ds =>
    rcases str_is w with h1 | ⟨z, rfl⟩
    · rw [lk_noS h1, lbb_low (fun x => by rw [eqS_no h1] at x; cases x) (fun a _ x => by rw [eqS_no h1] at x; cases x) (fun _ _ _ _ => eqS_no h1 _)]
      exact m1
    rw [lk_tup]
    rw [PyData.depth, PyData.depthAll] at h
    have hin : ∀ d ∈ ds, d.depth < q := fun d hd => by have := depA_mem hd; omega
    have e1 : ∀ {x : Str}, eqS (.str z) x = true → z = x := fun {x} h => of_decide_eq_true (show decide (z = x) = true from h)
    match ds, hin with
    | [], _ =>
      rw [inn_B0]
      by_cases hz : z = "refuse"
      · rw [if_pos hz, lbb_tup, if_pos (c := eqS (.str z) "refuse" = true) (decide_eq_true hz)]
        by_cases hl : l < 1
        · rw [if_pos hl]
          refine Agree.low m1 fun pk e hh => ?_
          cases (show some (1 + ([] : List Int).sum, 1 + mxI []) = some pk from e)
          have := hh.2
          rw [List.sum_nil] at this
          omega
        · rw [if_neg hl]
          exact agree_one
      · rw [if_neg hz, lbb_low (fun x => absurd (e1 x) hz) (fun a x => by cases x) (fun _ _ _ x => by cases x)]
        exact m1
    | [a, b], _ =>
      rw [inn_Bn cs m z _ (.inl rfl), lbb_low (fun _ => by simp) (fun a x => by cases x) (fun _ _ _ x => by cases x)]
      exact m1
    | a :: b :: c :: e :: r, _ =>
      rw [inn_Bn cs m z _ (.inr (by simp)), lbb_low (fun _ => by simp) (fun a x => by cases x) (fun _ _ _ x => by cases x)]
      exact m1
    | [a], hin =>
      rw [inn_B1]
      by_cases hz : z = "give" ∧ isT a = true ∧ (esOf a).length = m
      case neg =>
        rw [if_neg hz, lbb_low (fun _ => by simp) (fun a' x hg => ?_) (fun _ _ _ x => by cases x)]
        · exact m1
        · cases x
          rcases tup_is a with h1 | ⟨es, rfl⟩
          · exact giveD_no h1
          · exact if_neg fun x => hz ⟨e1 hg, by show ("tuple" == "tuple") = true; decide, x⟩
      rw [if_pos hz]
      obtain ⟨hz1, ht, hl⟩ := hz
      rcases tup_is a with h1 | ⟨es, rfl⟩
      · unfold isT at ht
        rw [h1] at ht
        cases ht
      have hl : es.length = m := hl
      have hes : ∀ e ∈ es, e.depth < q := fun e he => by
        have a1 := hin _ List.mem_cons_self
        rw [PyData.depth] at a1
        have := depA_mem he
        omega
      have ee : endL cs q (some (es.map fun d => (d, none))) = outL (es.map fun e => lk cs q none e) := by
        show outL ((es.map fun d => (d, none)).map fun dm => lk cs q dm.2 dm.1) = _
        rw [List.map_map]
        rfl
      have po := pos_map (cs := cs) (q := q) (m := none) es
      have ne : (es.map fun e => lk cs q none e) ≠ [] := fun x => by
        have := congrArg List.length x
        rw [List.length_map, List.length_nil] at this
        omega
      show Agree (endL cs q (some (es.map fun d => (d, none)))) (dp + 1) l _
      rw [ee, lbb_tup]
      by_cases hg : dp = 0 ∨ l < 1
      · have er : (if l < 1 then (-1 : Int) else if eqS (.str z) "refuse" = true then (if ([PyData.tuple es] : List PyData).isEmpty = true then l - 1 else -1) else if dp = 0 then -1 else bodR cs m dp (.str z) [.tuple es] l (lbb cs m dp)) = -1 := by
          by_cases hl : l < 1
          · rw [if_pos hl]
          · rw [if_neg hl, if_neg (fun x => by have := e1 x; rw [hz1] at this; exact absurd this (by decide +kernel)), if_pos (by omega)]
        rw [er]
        exact agree_no po ne hg
      · rw [if_neg (by omega), if_neg (fun x => by have := e1 x; rw [hz1] at this; exact absurd this (by decide +kernel)), if_neg (by omega)]
        have eb : bodR cs m dp (.str z) [.tuple es] l (lbb cs m dp) = giv cs dp es (l - 1) := by
          show (if eqS (.str z) "give" = true then (if es.length = m then giv cs dp es (l - 1) else -1) else -1) = _
          rw [if_pos (show eqS (.str z) "give" = true from decide_eq_true hz1), if_pos hl]
        rw [eb]
        have := Chain.node (dp := dp) (l := l - 1) po (giv_ch cs q dp es (l - 1) hes)
        rw [Int.sub_add_cancel] at this
        exact this
    | [a, b, c], hin =>
      have da := hin a List.mem_cons_self
      have db := hin b (List.mem_cons_of_mem _ List.mem_cons_self)
      have dc := hin c (List.mem_cons_of_mem _ (List.mem_cons_of_mem _ List.mem_cons_self))
      have ha := lbe_ok cs q a
      have hb := lbb_ok cs m hm q b
      have hc := lbb_ok cs m hm q c
      rw [inn_B3]
      by_cases hz : z = "when"
      case neg =>
        rw [if_neg hz, lbb_low (fun _ => by simp) (fun a x => by cases x) (fun _ _ _ _ => by
          show decide (z = "when") = false
          exact decide_eq_false hz)]
        exact m1
      rw [if_pos hz]
      have po : ∀ o ∈ [lk cs q none a, lk cs q (some m) b, lk cs q (some m) c], Pos o := fun o ho => by
        simp only [List.mem_cons, List.not_mem_nil, or_false] at ho
        rcases ho with rfl | rfl | rfl <;> exact lk_pos _ _ _
      show Agree (outL [lk cs q none a, lk cs q (some m) b, lk cs q (some m) c]) (dp + 1) l _
      rw [lbb_tup]
      by_cases hg : dp = 0 ∨ l < 1
      · have er : (if l < 1 then (-1 : Int) else if eqS (.str z) "refuse" = true then (if ([a, b, c] : List PyData).isEmpty = true then l - 1 else -1) else if dp = 0 then -1 else bodR cs m dp (.str z) [a, b, c] l (lbb cs m dp)) = -1 := by
          by_cases hl : l < 1
          · rw [if_pos hl]
          · rw [if_neg hl, if_neg (fun x => by have := e1 x; rw [hz] at this; exact absurd this (by decide +kernel)), if_pos (by omega)]
        rw [er]
        exact agree_no po (by simp) hg
      · rw [if_neg (by omega), if_neg (fun x => by have := e1 x; rw [hz] at this; exact absurd this (by decide +kernel)), if_neg (by omega)]
        have eb : bodR cs m dp (.str z) [a, b, c] l (lbb cs m dp) = lbb cs m dp c (lbb cs m dp b (lbe cs dp a (l - 1))) := if_pos (show eqS (.str z) "when" = true from decide_eq_true hz)
        rw [eb]
        have := Chain.node (dp := dp) (l := l - 1) po ⟨_, ha dp (l - 1) da, _, hb dp _ db, _, hc dp _ dc, rfl⟩
        rw [Int.sub_add_cancel] at this
        exact this
/-- a body is what the law's own look has as one -/
theorem is_body_lk {cs : List Nat} {m q : Nat} {d : PyData} (hm : 1 ≤ m) (h : d.depth < q) : decide (0 ≤ lbb cs m 8 d 60) = match lk cs q (some m) d with
    | none => false
    | some pk => decide (pk.1 < 61) && decide (pk.2 < 9) := by
  have := lbb_ok cs m hm q d 8 60 h
  cases hl : lk cs q (some m) d with
  | none =>
    rw [hl] at this
    have this : lbb cs m 8 d 60 < 0 := this
    exact decide_eq_false (by omega)
  | some pk =>
    rw [hl] at this
    have this : if pk.2 ≤ ((8 : Nat) : Int) ∧ pk.1 ≤ 60 then lbb cs m 8 d 60 = 60 - pk.1 else lbb cs m 8 d 60 < 0 := this
    show _ = (decide (pk.1 < 61) && decide (pk.2 < 9))
    split at this
    · rename_i hh
      rw [decide_eq_true (by omega), decide_eq_true (show pk.1 < 61 by omega), decide_eq_true (show pk.2 < 9 by omega)]
      rfl
    · rename_i hh
      rw [decide_eq_false (by omega)]
      by_cases h1 : pk.1 < 61
      · rw [decide_eq_true h1, decide_eq_false (show ¬ pk.2 < 9 by omega)]
        rfl
      · rw [decide_eq_false h1]
        rfl
end SfE
namespace SfE
open PySem PySem.Spec PyProof.Rows L2 SfG
/-! ### parts_in and depth_in tell of a good one what the law's own look tells -/
def GoodO : Nat → List PyData → Prop
  | 0, l => l = []
  | n + 1, l => (∀ d ∈ l, Opn d) ∧ GoodO n (l.flatMap sub)
theorem GoodO.app : ∀ {n : Nat} {a b : List PyData}, GoodO n a → GoodO n b → GoodO n (a ++ b)
  | 0, a, b, h1, h2 => by
    rw [show a = [] from h1, show b = [] from h2]
    rfl
  | n + 1, a, b, h1, h2 => by
    refine ⟨fun d hd => ?_, ?_⟩
    · rcases List.mem_append.mp hd with hd | hd
      · exact h1.1 d hd
      · exact h2.1 d hd
    · rw [List.flatMap_append]
      exact GoodO.app h1.2 h2.2
theorem GoodO.nil : ∀ (n : Nat), GoodO n []
  | 0 => rfl
  | n + 1 => ⟨fun d hd => (by cases hd), GoodO.nil n⟩
theorem psz_app : ∀ (n : Nat) (a b : List PyData), psz n (a ++ b) = psz n a + psz n b
  | 0, _, _ => rfl
  | n + 1, a, b => by
    rw [psz, psz, psz, List.flatMap_append, psz_app n, List.length_append]
    omega
theorem dpt_app : ∀ (n : Nat) (a b : List PyData), dpt n (a ++ b) = max (dpt n a) (dpt n b)
  | 0, _, _ => rfl
  | n + 1, [], b => by
    rw [List.nil_append, dpt_nil]
    omega
  | n + 1, x :: a, [] => by
    rw [List.append_nil, dpt_nil]
    omega
  | n + 1, x :: a, y :: b => by
    have e : ∀ (x : PyData) (a : List PyData), dpt (n + 1) (x :: a) = 1 + dpt n ((x :: a).flatMap sub) := fun x a => if_neg (fun z => by cases z)
    rw [List.cons_append, e, e, e, ← List.cons_append, List.flatMap_append, dpt_app n]
    omega
theorem psz_len : ∀ {n : Nat} {l : List PyData}, GoodO n l → l.length ≤ psz n l
  | 0, l, h => by
    rw [show l = [] from h]
    exact Nat.zero_le _
  | n + 1, l, _ => by
    rw [psz]
    omega
theorem good_of : ∀ {n : Nat} {l : List PyData}, GoodO n l → psz n l ≤ 1000 → GoodL n l
  | 0, l, h, _ => h
  | n + 1, l, h, hp => by
    rw [psz] at hp
    exact ⟨h.1, by omega, good_of h.2 (by omega)⟩
theorem psz_one (n : Nat) (d : PyData) : psz (n + 1) [d] = 1 + psz n (sub d) := by
  rw [psz, List.flatMap_singleton]
  rfl
theorem dpt_one (n : Nat) (d : PyData) : dpt (n + 1) [d] = 1 + dpt n (sub d) := by
  show 1 + dpt n ([d].flatMap sub) = _
  rw [List.flatMap_singleton]
theorem amg_noT {a : PyData} {lo hi : Int} (h : amg a lo hi = true) : isT a = false := by
  cases a with
  | int _ => exact (by decide : ("int" == "tuple") = false)
  | _ => cases h
theorem filt_all {l : List PyData} (h : ∀ d ∈ l, isT d = true) : l.filter isT = l := List.filter_eq_self.mpr h
theorem eqS_is {z x : Str} : eqS (.str z) x = decide (z = x) := rfl
/-- what stands within is what parts_below finds -/
theorem inn_sub {cs : List Nat} {m : Option Nat} {z : Str} {ds : List PyData} {l : Inn} (h : inn cs m z ds = some l) (ht : ∀ dm ∈ l, isT dm.1 = true) : sub (.tuple (.str z :: ds)) = l.map (·.1) ∧ Opn (.tuple (.str z :: ds)) := by
  have opn : z ≠ "give" → Opn (.tuple (.str z :: ds)) := fun hz => ⟨_, _, rfl, fun e => absurd (of_decide_eq_true (show decide (z = "give") = true from e)) hz⟩
  have sb : z ≠ "give" → sub (.tuple (.str z :: ds)) = ds.filter isT := fun hz => by
    show (thgs (.str z) ds).filter isT = _
    rw [thgs_no (show eqS (.str z) "give" = false from decide_eq_false hz)]
  cases m with
  | none =>
    match ds with
    | [] => rw [inn_E0 cs z [] (.inl rfl)] at h; cases h
    | [a] =>
      rw [inn_E1] at h
      split at h
      · rename_i hz
        cases h
        have ng : z ≠ "give" := by rw [hz.1]; decide +kernel
        rw [sb ng]
        refine ⟨?_, opn ng⟩
        rw [List.filter_cons, amg_noT hz.2]
        rfl
      · cases h
    | [a, b] =>
      rw [inn_E2] at h
      split at h
      · rename_i hz
        split at h
        · rename_i h1
          split at h
          · rename_i h2
            cases h
            have ng : z ≠ "give" := by rw [hz]; decide +kernel
            rw [sb ng]
            refine ⟨?_, opn ng⟩
            rw [List.filter_cons, amg_noT h1, List.filter_cons, amg_noT h2]
            rfl
          · cases h
        · cases h
      · split at h
        · rename_i hs
          cases h
          have ng : z ≠ "give" := fun e => by rw [e] at hs; exact absurd hs (by decide +kernel)
          rw [sb ng]
          exact ⟨filt_all fun d hd => by
            simp only [List.mem_cons, List.not_mem_nil, or_false] at hd
            rcases hd with rfl | rfl
            · exact ht _ List.mem_cons_self
            · exact ht _ (List.mem_cons_of_mem _ List.mem_cons_self), opn ng⟩
        · split at h
          · rename_i hz
            cases h
            have ng : z ≠ "give" := by rw [hz.1]; decide +kernel
            rw [sb ng]
            refine ⟨?_, opn ng⟩
            rw [List.filter_cons, show isT a = true from ht _ List.mem_cons_self, List.filter_cons, amg_noT hz.2]
            rfl
          · cases h
    | [a, b, c] =>
      rw [inn_E3] at h
      split at h
      · rename_i hz
        cases h
        have ng : z ≠ "give" := by rw [hz]; decide +kernel
        rw [sb ng]
        exact ⟨filt_all fun d hd => by
          simp only [List.mem_cons, List.not_mem_nil, or_false] at hd
          rcases hd with rfl | rfl | rfl
          · exact ht _ List.mem_cons_self
          · exact ht _ (List.mem_cons_of_mem _ List.mem_cons_self)
          · exact ht _ (List.mem_cons_of_mem _ (List.mem_cons_of_mem _ List.mem_cons_self)), opn ng⟩
      · cases h
    | a :: b :: c :: e :: r => rw [inn_E0 cs z _ (.inr (by simp))] at h; cases h
  | some m =>
    match ds with
    | [] =>
      rw [inn_B0] at h
      split at h
      · rename_i hz
        cases h
        have ng : z ≠ "give" := by rw [hz]; decide +kernel
        rw [sb ng]
        exact ⟨rfl, opn ng⟩
      · cases h
    | [a] =>
      rw [inn_B1] at h
      split at h
      · rename_i hz
        cases h
        obtain ⟨h1, h2, h3⟩ := hz
        rcases tup_is a with h4 | ⟨es, rfl⟩
        · unfold isT at h2
          rw [h4] at h2
          cases h2
        refine ⟨?_, ⟨_, _, rfl, fun _ => ⟨es, [], rfl⟩⟩⟩
        show (thgs (.str z) [.tuple es]).filter isT = (es.map fun d => (d, (none : Option Nat))).map (·.1)
        rw [thgs_gv (show eqS (.str z) "give" = true from decide_eq_true h1), List.map_map, show ((fun x : PyData × Option Nat => x.1) ∘ fun d => (d, (none : Option Nat))) = id from rfl, List.map_id]
        exact filt_all fun d hd => ht (d, none) (List.mem_map.mpr ⟨d, hd, rfl⟩)
      · cases h
    | [a, b] => rw [inn_Bn cs m z _ (.inl rfl)] at h; cases h
    | [a, b, c] =>
      rw [inn_B3] at h
      split at h
      · rename_i hz
        cases h
        have ng : z ≠ "give" := by rw [hz]; decide +kernel
        rw [sb ng]
        exact ⟨filt_all fun d hd => by
          simp only [List.mem_cons, List.not_mem_nil, or_false] at hd
          rcases hd with rfl | rfl | rfl
          · exact ht _ List.mem_cons_self
          · exact ht _ (List.mem_cons_of_mem _ List.mem_cons_self)
          · exact ht _ (List.mem_cons_of_mem _ (List.mem_cons_of_mem _ List.mem_cons_self)), opn ng⟩
      · cases h
    | a :: b :: c :: e :: r => rw [inn_Bn cs m z _ (.inr (by simp))] at h; cases h
theorem lk_isT {cs : List Nat} {q : Nat} {m : Option Nat} {d : PyData} {pk : Int × Int} (h : lk cs q m d = some pk) : isT d = true := by
  unfold isT
  cases ht : (tyD d == "tuple") with
  | true => rfl
  | false =>
    rw [lk_noT ht] at h
    cases h
theorem lk_parts (cs : List Nat) : ∀ (q : Nat) (m : Option Nat) (d : PyData) (pk : Int × Int), lk cs q m d = some pk → GoodO q [d] ∧ ((psz q [d] : Nat) : Int) = pk.1 ∧ ((dpt q [d] : Nat) : Int) = pk.2
  | 0, m, d, pk, h => by rw [lk] at h; cases h
  | q + 1, m, d, pk, h => by
    rcases tup_is d with h1 | ⟨es, rfl⟩
    · rw [lk_noT h1] at h
      cases h
    cases es with
    | nil => cases h
    | cons w ds =>
    rcases str_is w with h1 | ⟨z, rfl⟩
    · rw [lk_noS h1] at h
      cases h
    rw [lk_tup] at h
    cases hi : inn cs m z ds with
    | none =>
      rw [hi] at h
      cases h
    | some l =>
    rw [hi] at h
    have h : outL (l.map fun dm => lk cs q dm.2 dm.1) = some pk := h
    unfold outL at h
    obtain ⟨abs, ha, e⟩ := Option.map_eq_some_iff.mp h
    have go : ∀ (l : Inn) (abs : List (Int × Int)), allO (l.map fun dm => lk cs q dm.2 dm.1) = some abs → (∀ dm ∈ l, isT dm.1 = true) ∧ GoodO q (l.map (·.1)) ∧ ((psz q (l.map (·.1)) : Nat) : Int) = (abs.map (·.1)).sum ∧ ((dpt q (l.map (·.1)) : Nat) : Int) = mxI (abs.map (·.2)) := by
      intro l
      induction l with
      | nil =>
        intro abs h
        cases (show some [] = some abs from h)
        exact ⟨fun dm h => (by cases h), GoodO.nil q, by rw [List.map_nil, psz_nil]; rfl, by rw [List.map_nil, dpt_nil]; rfl⟩
      | cons dm r ih =>
        intro abs h
        rw [List.map_cons] at h
        cases hx : lk cs q dm.2 dm.1 with
        | none =>
          rw [hx] at h
          cases h
        | some x =>
          rw [hx] at h
          obtain ⟨b, hb, rfl⟩ := Option.map_eq_some_iff.mp (show (allO (r.map fun dm => lk cs q dm.2 dm.1)).map (x :: ·) = some abs from h)
          obtain ⟨i1, i2, i3, i4⟩ := ih b hb
          obtain ⟨j1, j2, j3⟩ := lk_parts cs q dm.2 dm.1 x hx
          have el : (dm :: r).map (·.1) = [dm.1] ++ r.map (·.1) := rfl
          rw [el]
          refine ⟨fun d hd => ?_, j1.app i2, ?_, ?_⟩
          · rcases List.mem_cons.mp hd with rfl | hd
            · exact lk_isT hx
            · exact i1 d hd
          · rw [psz_app, List.map_cons, List.sum_cons]
            omega
          · rw [dpt_app]
            have e2 : mxI ((x :: b).map (·.2)) = max x.2 (mxI (b.map (·.2))) := rfl
            rw [e2]
            omega
    obtain ⟨g1, g2, g3, g4⟩ := go l abs ha
    obtain ⟨s1, s2⟩ := inn_sub hi g1
    refine ⟨⟨fun d hd => by rw [List.mem_singleton.mp hd]; exact s2, ?_⟩, ?_, ?_⟩
    · rw [List.flatMap_singleton, s1]
      exact g2
    · rw [psz_one, s1, ← e]
      show ((1 + _ : Nat) : Int) = 1 + _
      omega
    · rw [dpt_one, s1, ← e]
      show ((1 + _ : Nat) : Int) = 1 + _
      omega
end SfE
namespace SfE
open PySem PySem.Spec PyProof.Rows L2 SfG
abbrev sExp : Stmt := topS 15
abbrev nExp : List Str := ["_law_state", "_law_counts", "_law_deep", "_law_way", "_law_kind", "_law_number", "_law_thing", "_law_word", "_law_k"]
theorem scExp : FnScope nExp ["_law_state", "_law_counts", "_law_deep"] (defScope sExp) := ⟨rfl, rfl, rfl, by decide +kernel, rfl, by decide +kernel, by decide +kernel⟩
/-! ### Es stay where tuples stay -/
section
variable {K : PySem.W.Frag} {H H' : Hp}
theorem sqt_upd {D : Addr} {l : List V} {o : HO} (hD : H D = some (.lst l)) {a : Addr} {xs : List V} (h : SqT K H a xs) : SqT K (upd H D o) a xs := by
  rcases h with (h | ⟨o', h⟩) | h
  · refine .inl (.inl ((upd_ne fun z => ?_).trans h))
    rw [z, hD] at h
    cases h
  · refine .inl (.inr ⟨o', (upd_ne fun z => ?_).trans h⟩)
    rw [z, hD] at h
    cases h
  · exact .inr h
theorem ex_keep (kt : ∀ {a xs}, SqT K H a xs → SqT K H' a xs) : ∀ (E : Ex) {v : V}, Dp K H v E.d → Dp K H' v E.d
  | .num n, v, h => by
    obtain ⟨p, x, y, rfl, hp, hx, hy⟩ := dp_2 h
    cases dp_str hx
    cases dp_int hy
    exact .tup (kt hp) (.cons (.str _) (.cons (.int _) .nil))
  | .inp k f, v, h => by
    obtain ⟨p, x, y, z, rfl, hp, hx, hy, hz⟩ := dp_3 h
    cases dp_str hx
    cases dp_int hy
    cases dp_int hz
    exact .tup (kt hp) (.cons (.str _) (.cons (.int _) (.cons (.int _) .nil)))
  | .bin w a b, v, h => by
    obtain ⟨p, x, y, z, rfl, hp, hx, hy, hz⟩ := dp_3 h
    cases dp_str hx
    exact .tup (kt hp) (.cons (.str _) (.cons (ex_keep kt a hy) (.cons (ex_keep kt b hz) .nil)))
  | .rst a n, v, h => by
    obtain ⟨p, x, y, z, rfl, hp, hx, hy, hz⟩ := dp_3 h
    cases dp_str hx
    cases dp_int hz
    exact .tup (kt hp) (.cons (.str _) (.cons (ex_keep kt a hy) (.cons (.int _) .nil)))
  | .iff a b c, v, h => by
    obtain ⟨p, x, y, z, u, rfl, hp, hx, hy, hz, hu⟩ := dp_4 h
    cases dp_str hx
    exact .tup (kt hp) (.cons (.str _) (.cons (ex_keep kt a hy) (.cons (ex_keep kt b hz) (.cons (ex_keep kt c hu) .nil))))
theorem exs_keep (kt : ∀ {a xs}, SqT K H a xs → SqT K H' a xs) : ∀ (es : List Ex) {vs : List V}, DpAll K H vs (es.map Ex.d) → DpAll K H' vs (es.map Ex.d)
  | [], vs, h => by
    rw [dpA_nil h]
    exact .nil
  | e :: r, vs, h => by
    obtain ⟨x, r', rfl, hx, hr⟩ := dpA_cons h
    exact .cons (ex_keep kt e hx) (exs_keep kt r hr)
theorem dpA_snoc : ∀ {ds : List PyData} {vs : List V} {v : V} {d : PyData}, DpAll K H vs ds → Dp K H v d → DpAll K H (vs ++ [v]) (ds ++ [d])
  | [], vs, v, d, h, hv => by
    rw [dpA_nil h]
    exact .cons hv .nil
  | a :: r, vs, v, d, h, hv => by
    obtain ⟨x, r', rfl, hx, hr⟩ := dpA_cons h
    exact .cons hx (dpA_snoc hr hv)
end
theorem Drw.ne2 {H : Hp} {p q : Addr} {xs : List V} (d : Drw H p) (h : H q = some (.tup xs)) : q ≠ p := by
  obtain ⟨x, y, e, _⟩ := d
  intro z
  rw [z, e] at h
  cases h
/-- a good E of so many levels -/
def Gd (cs : List Nat) (d : Nat) (e : Ex) : Prop := okE cs e ∧ dep e ≤ d ∧ lvs e ≤ 3 ^ (d - 1)
theorem Gd.mono {cs : List Nat} {d d' : Nat} {e : Ex} (h : Gd cs d e) (hd : d ≤ d') : Gd cs d' e := ⟨h.1, Nat.le_trans h.2.1 hd, Nat.le_trans h.2.2 (Nat.pow_le_pow_right (by decide) (by omega))⟩
theorem pick5 {k a b : Int} (h0 : 0 ≤ k) (h1 : k < 5) (ha : 0 ≤ a ∧ a ≤ 99) (hb : 0 ≤ b ∧ b ≤ 99) : ∃ v : Int, atI [V.int 0, .int 1, .int 99, .int a, .int b] k = some (.int v) ∧ 0 ≤ v ∧ v ≤ 99 := by
  have c : k = 0 ∨ k = 1 ∨ k = 2 ∨ k = 3 ∨ k = 4 := by omega
  rcases c with rfl | rfl | rfl | rfl | rfl
  · exact ⟨0, rfl, by decide, by decide⟩
  · exact ⟨1, rfl, by decide, by decide⟩
  · exact ⟨99, rfl, by decide, by decide⟩
  · exact ⟨a, rfl, ha⟩
  · exact ⟨b, rfl, hb⟩
theorem pick4 {k a b : Int} (h0 : 0 ≤ k) (h1 : k < 4) (ha : 2 ≤ a ∧ a ≤ 99) (hb : 2 ≤ b ∧ b ≤ 99) : ∃ v : Int, atI [V.int 2, .int 99, .int a, .int b] k = some (.int v) ∧ 2 ≤ v ∧ v ≤ 99 := by
  have c : k = 0 ∨ k = 1 ∨ k = 2 ∨ k = 3 := by omega
  rcases c with rfl | rfl | rfl | rfl
  · exact ⟨2, rfl, by decide, by decide⟩
  · exact ⟨99, rfl, by decide, by decide⟩
  · exact ⟨a, rfl, ha⟩
  · exact ⟨b, rfl, hb⟩
theorem pickw {k : Int} (h0 : 0 ≤ k) (h1 : k < 5) : ∃ w : Nat, w ≤ 4 ∧ atI [V.str "plus", .str "less", .str "times", .str "same", .str "under"] k = some (.str (opw w)) := by
  have c : k = 0 ∨ k = 1 ∨ k = 2 ∨ k = 3 ∨ k = 4 := by omega
  rcases c with rfl | rfl | rfl | rfl | rfl
  · exact ⟨0, by decide, rfl⟩
  · exact ⟨1, by decide, rfl⟩
  · exact ⟨2, by decide, rfl⟩
  · exact ⟨3, by decide, rfl⟩
  · exact ⟨4, by decide, rfl⟩
theorem cD_shape (cs : List Nat) : SeqAt.shaped (cD cs) = true := by
  have h1 : PyData.canLayAll0 (cs.map fun (c : Nat) => PyData.int (c : Int)) = true := by
    induction cs with
    | nil => rfl
    | cons a r ih => simp only [List.map_cons, PyData.canLayAll0, PyData.canLay0, ih]; rfl
  have h2 : PyData.depthAll (cs.map fun (c : Nat) => PyData.int (c : Int)) ≤ 1 := by
    clear h1
    induction cs with
    | nil => simp [PyData.depthAll]
    | cons a r ih => simp only [List.map_cons, PyData.depthAll, PyData.depth]; omega
  unfold SeqAt.shaped cD
  rw [PyData.canLay0, h1]
  refine decide_eq_true ?_
  rw [PyData.depth]
  omega
theorem cD_nil (cs : List Nat) : PyData.eqv (cD cs) (.tuple []) = decide (cs = []) := by
  cases cs with
  | nil => rfl
  | cons a r =>
    rw [decide_eq_false (by simp)]
    rfl
section
variable {P : Program} {w : World} {K : PySem.W.Frag} {mg : Str → Option Value} {base : Heap}
def spExp (K : PySem.W.Frag) (n : Nat) : Sp := fun vs H Q _ => ∃ (p : Addr) (c : V) (d : Nat) (cs : List Nat), vs = [.ref p, c, .int d] ∧ Drw H p ∧ Dp K H c (cD cs) ∧ (cs.length ≤ 3 ∧ ∀ x ∈ cs, 1 ≤ x ∧ x ≤ 3) ∧ 1 ≤ d ∧ d ≤ n ∧ n ≤ 8 ∧
  ∀ H' v E, Gp p H H' → Drw H' p → Dp K H' v E.d → Gd cs d E → Q v H'
theorem less_one (p : Addr) (c : V) (d : Nat) : [V.ref p, c, V.int ((d : Int) + 1 - 1)] = [V.ref p, c, V.int d] := by rw [Int.add_sub_cancel]
def ifThen (s : Stmt) : List Stmt := match s with
  | .If _ a _ _ => a
  | _ => []
/-- an E of one level -/
theorem exp_small {f fP : Addr} {fdP : FuncData} {k : Nat} {cdv : Value} {A : Around} {outer : List Env} {s : Shared} {H : Hp} {Q : VK} {E : XK} {p : Addr} {c : V} {d0 : Nat} {cs : List Nat}
    (HP : Has P w K mg base k "_law_pick" ["_law_state", "_law_many"] spPick fP fdP) (ml : mg "len" = none) (hr : Room k (A.deeper (envOfC "_law_expression" (defScope sExp) s.heap.objs.size f cdv)))
    (hcs : cs.length ≤ 3 ∧ ∀ x ∈ cs, 1 ≤ x ∧ x ≤ 3) (hd : 1 ≤ d0) (fin : ∀ H' v E, Gp p H H' → Drw H' p → Dp K H' v E.d → Gd cs d0 E → Q v H') :
    ∃ tb, PSs (cxOf CX0 P w K mg base nExp "_law_expression" (defScope sExp) f cdv A outer s H E).nox (ifThen ((defBody sExp).getD 1 (.Pass ⟨0, 0, 0, 0⟩))) tb ∧
      ∀ (D : Ends) (H1 : Hp) (way : Int) (y4 y5 y6 y7 y8 : Option V), D.rt = Q → Gp p H H1 → Drw H1 p → Dp K H1 c (cD cs) → tb D [some (.ref p), some c, some (.int d0), some (.int way), y4, y5, y6, y7, y8] H1 := by
  have nd := scExp.nd
  refine' ⟨_, pss_cons ?a1 (pss_cons ?a2 (pss_cons ?a3 (pss_one ?a4))), ?rd⟩
  case a1 =>
    exact ps_par (i := 4) (j := 5) rfl nd rfl rfl (by decide) rfl rfl (pa_cons (hcall HP hr (pa_cons (pv 0) (pa_cons pe_int pa_nil))) (pa_cons (hcall HP hr (pa_cons (pv 0) (pa_cons pe_int pa_nil))) pa_nil)) (by rfl)
  case a2 =>
    exact ps_if (PW.pt (pw_or (pt_cmpR (op_eqD hr.units) (pv 1) (pe_tup pa_nil) (nomark _)) (pw_or (pt_cmpR op_eq (pv 4) pe_int (nomark _)) (pw_or1 (pt_cmpR op_eq (pv 3) pe_int (nomark _))))))
      (pss_one (ps_ret (pe_tup (pa_cons pe_str (pa_cons (pe_ix ix_list (pe_lst (pa_cons pe_int (pa_cons pe_int (pa_cons pe_int (pa_cons (pe_op op_mod (pv 5) pe_int) (pa_cons (pv 5) pa_nil)))))) (pv 4) (fun _ _ => rfl)) pa_nil))))) pss_nil
  case a3 =>
    exact ps_set (i := 6) nd rfl (.inl rfl) (pe_op op_mod (pv 5) (pe_callB call_len_seq (by rfl) ml PySem.boot_len (pa_cons (pv 1) pa_nil)))
  case a4 =>
    exact ps_ret (pe_tup (pa_cons pe_str (pa_cons (pv 6) (pa_cons (hcall HP hr (pa_cons (pv 0) (pa_cons (pe_ix ix_tup (pv 1) (pv 6) (fun _ _ => rfl)) pa_nil))) pa_nil))))
  case rd =>
  rintro ⟨nx, rt, bk, ct⟩ H1 way y4 y5 y6 y7 y8 rfl g1 dr1 hc1
  refine ⟨_, rfl, p, 5, rfl, dr1, by decide, by decide, fun H2 kd b2 dr2 k0 k5 => ?_⟩
  refine ⟨_, rfl, p, 100, rfl, dr2, by decide, by decide, fun H3 nu b3 dr3 n0 n1 => ?_⟩
  refine ⟨_, _, rfl, ?_⟩
  have g3 : Gp p H1 H3 := (Gp.but b2).trans (Gp.but b3)
  have hc3 : Dp K H3 c (cD cs) := (dr1.kd g3).dp hc1
  -- counts == ()
  refine ⟨_, rfl, by show 0 ≤ sizeLine; decide, fun p0 np0 => ?_⟩
  have g4 : Gr H3 (upd H3 p0 (.tup [])) := Gr.new np0
  have hc4 : Dp K (upd H3 p0 (.tup [])) c (cD cs) := g4.kd.dp hc3
  refine ⟨cD cs, .tuple [], hc4, .tup (.inl (.inl upd_same)) .nil, cD_shape cs, rfl, _, rfl, ?_⟩
  rw [cD_nil]
  have gp4 : Gp p H (upd H3 p0 (.tup [])) := (g1.trans g3).trans (Gp.gr g4)
  have dr4 : Drw (upd H3 p0 (.tup [])) p := dr3.gr g4
  generalize upd H3 p0 (.tup []) = H4 at g4 hc4 gp4 dr4 ⊢
  have num : tRet (tTup (tCons (tC (.str "number")) (tCons (tOp (rIxL K) (tLst (tCons (tC (.int 0)) (tCons (tC (.int 1)) (tCons (tC (.int 99)) (tCons (tOp (rI (fun _ j => 0 < j) fun i j => .int (i % j)) (tVar 5) (tC (.int 10))) (tCons (tVar 5) tNil)))))) (tVar 4)) tNil)))
      { nx := tSeq (tAsg (tOp (rI (fun _ j => 0 < j) fun i j => .int (i % j)) (tVar 5) (tCB (fun xs H Q => ∃ p ys, xs = [.ref p] ∧ (SqL K H p ys ∨ SqT K H p ys) ∧ Q (.int ys.length) H) (tCons (tVar 1) tNil))) (gName 6)) (tRet (tTup (tCons (tC (.str "in")) (tCons (tVar 6) (tCons (tCall spPick [] E0 (tCons (tVar 0) (tCons (tOp (rIxT K) (tVar 1) (tVar 6)) tNil))) tNil))))) { nx := nx, rt := rt, bk := bk, ct := ct }, rt := rt, bk := bk, ct := ct }
      [some (.ref p), some c, some (.int d0), some (.int way), some (.int kd), some (.int nu), y6, y7, y8] H4 := by
    have hm := Int.emod_nonneg nu (show (10 : Int) ≠ 0 by decide)
    have hm2 := Int.emod_lt_of_pos nu (show (0 : Int) < 10 by decide)
    obtain ⟨v, ev', v0, v1⟩ := pick5 (a := nu % 10) (b := nu) k0 k5 ⟨hm, by omega⟩ ⟨n0, by omega⟩
    refine ⟨_, rfl, nu, 10, rfl, rfl, (by show (0 : Int) < 10; decide), _, rfl, by show 5 ≤ sizeLine; decide, fun pl npl => ?_⟩
    refine ⟨_, rfl, pl, _, kd, .int v, rfl, rfl, .inl (.inl upd_same), ev', by show 2 ≤ sizeLine; decide, fun tp ntp => ?_⟩
    refine fin _ (.ref tp) (.num v) (gp4.trans (Gp.gr ((Gr.new npl).trans (Gr.new ntp)))) (dr4.gr ((Gr.new npl).trans (Gr.new ntp))) (.tup (.inl (.inl upd_same)) (.cons (.str _) (.cons (.int _) .nil))) ⟨⟨v0, v1⟩, hd, Nat.one_le_pow _ _ (by decide)⟩
  cases hcn : decide (cs = []) with
  | true => exact iteT (iteT num)
  | false =>
    have hne : cs ≠ [] := of_decide_eq_false hcn
    refine iteF ⟨_, rfl, rfl, _, rfl, ite2 (fun e => iteT num) (fun e => ⟨_, rfl, rfl, _, rfl, ite2 (fun e => num) (fun e => ?_)⟩)⟩
    obtain ⟨pc, cx, rfl, hpc, hcx⟩ := dp_tup hc4
    have hcl : cx.length = cs.length := by
      have := dpA_len hcx
      rw [List.length_map] at this
      exact this
    have hpos : 0 < cs.length := List.length_pos_iff.mpr hne
    refine ⟨_, rfl, _, rfl, pc, _, rfl, .inr hpc, nu, _, rfl, rfl, (by show (0 : Int) < (cx.length : Int); omega), ?_⟩
    have t0 := Int.emod_nonneg nu (show (cx.length : Int) ≠ 0 by omega)
    have t1 := Int.emod_lt_of_pos nu (show (0 : Int) < (cx.length : Int) by omega)
    change gName 6 (V.int (nu % (cx.length : Int))) _ _ _
    generalize hth : nu % (cx.length : Int) = th at t0 t1 ⊢
    obtain ⟨tn, rfl⟩ : ∃ tn : Nat, th = (tn : Int) := ⟨th.toNat, by omega⟩
    have htl : tn < cs.length := by omega
    obtain ⟨vc, evc, dvc⟩ := dpA_get (i := tn) (d := .int ((cs[tn] : Nat) : Int)) hcx (by rw [List.getElem?_map]; simp [htl])
    cases dp_int dvc
    have hb := hcs.2 cs[tn] (List.getElem_mem htl)
    refine ⟨_, rfl, _, rfl, _, rfl, _, rfl, pc, _, (tn : Int), _, rfl, rfl, hpc, atI_nat evc, p, _, rfl, dr4, by omega, by omega, fun H5 fj b5 dr5 f0 f1 => ?_⟩
    obtain ⟨fn, rfl⟩ : ∃ fn : Nat, fj = (fn : Int) := ⟨fj.toNat, by omega⟩
    refine ⟨by show 3 ≤ sizeLine; decide, fun tp ntp => ?_⟩
    refine fin _ (.ref tp) (.inp tn fn) ((gp4.trans (Gp.but b5)).trans (Gp.gr (Gr.new ntp))) (dr5.gr (Gr.new ntp)) (.tup (.inl (.inl upd_same)) (.cons (.str _) (.cons (.int _) (.cons (.int _) .nil)))) ⟨⟨cs[tn], by simp [htl], by omega⟩, hd, Nat.one_le_pow _ _ (by decide)⟩
set_option maxHeartbeats 4000000 in
theorem ok_exp {f fP : Addr} {fd fdP : FuncData} (F : Fun K "_law_expression" "_law_expression" sExp f fd) (bE : Binds K fd ["_law_state", "_law_counts", "_law_deep"] []) (gE : mg "_law_expression" = some (.ref f))
    (HP : Has P w K mg base 1 "_law_pick" ["_law_state", "_law_many"] spPick fP fdP) (ml : mg "len" = none) (mt : mg "tuple" = none) (mr : mg "range" = none) : ∀ n, FnOk P w K mg base CX0 (n + 2) f fd ["_law_state", "_law_counts", "_law_deep"] (spExp K n)
  | 0 => by
    refine F.ok scExp (fun vs H Q E h => ?_) (fun cdv A outer s H vs Q E hr h => ?_)
    · obtain ⟨p, c, d, cs, rfl, _⟩ := h
      rfl
    · obtain ⟨p, c, d, cs, rfl, _, _, _, h1, h2, _⟩ := h
      omega
  | n + 1 => by
    have GE := ok_exp F bE gE HP ml mt mr n
    refine F.ok scExp (fun vs H Q E h => ?_) (fun cdv A outer s H vs Q E hr h => ?_)
    · obtain ⟨p, c, d, cs, rfl, _⟩ := h
      rfl
    · obtain ⟨p, c, d0, cs, rfl, dr, hc, hcs, hd1', hdn, hn8, fin⟩ := h
      have nd := scExp.nd
      have HP' : Has P w K mg base (n + 2) "_law_pick" ["_law_state", "_law_many"] spPick fP fdP := ⟨HP.ok.mono (by omega), HP.at_, HP.kp, HP.bd⟩
      obtain ⟨tb, db, rb⟩ := exp_small (f := f) (outer := outer) (E := E) (c := c) HP' ml hr hcs hd1' fin
      refine' ⟨_, pss_cons ?s1 (pss_cons ?s2 (pss_cons ?s3 (pss_cons ?s4 (pss_cons ?s5 (pss_one ?s6))))), ?rd⟩
      case s1 =>
        exact ps_set (i := 3) nd rfl (.inl rfl) (hcall HP' hr (pa_cons (pv 0) (pa_cons pe_int pa_nil)))
      case s2 =>
        exact ps_if (PW.pt (pw_or (pt_cmpR op_eq (pv 2) pe_int (nomark _)) (pw_or1 (pt_cmpR op_lt (pv 3) pe_int (nomark _))))) db pss_nil
      case s3 =>
        refine' ps_if (pt_cmpR op_eq (pv 3) pe_int (nomark _)) (pss_cons ?b1 (pss_one ?b2)) pss_nil
        case b1 =>
          exact ps_par (i := 4) (j := 5) rfl nd rfl rfl (by decide) rfl rfl (pa_cons (hcall HP' hr (pa_cons (pv 0) (pa_cons pe_int pa_nil))) (pa_cons (pe_op op_add pe_int (hcall HP' hr (pa_cons (pv 0) (pa_cons pe_int pa_nil)))) pa_nil)) (by rfl)
        case b2 =>
          exact ps_ret (pe_tup (pa_cons pe_str (pa_cons (pe_call GE hr (by rfl) gE F.kp bE .nil pass0 (pa_cons (pv 0) (pa_cons (pv 1) (pa_cons (pe_op op_sub (pv 2) pe_int) pa_nil))))
            (pa_cons (pe_ix ix_list (pe_lst (pa_cons pe_int (pa_cons pe_int (pa_cons (pe_op op_add pe_int (pe_op op_mod (pv 5) pe_int)) (pa_cons (pv 5) pa_nil))))) (pv 4) (fun _ _ => rfl)) pa_nil))))
      case s4 =>
        exact ps_if (pt_cmpR op_eq (pv 3) pe_int (nomark _)) (pss_one (ps_ret (pe_op op_catT (pe_tup (pa_cons pe_str pa_nil)) (pe_callTy call_tuple_of (by rfl) mt (by decide +kernel) (pa_cons (pe_lc (own := [("_law_k", 8)]) (g := gName 8) rfl nd
          (pi_range1 (by rfl) mr (pa_cons pe_int pa_nil)) (blkOk_by (own := [("_law_k", 8)]) (N := nExp) (sc := defScope sExp) (by decide +kernel)) (fun _ _ _ _ _ => pg_name (i := 8) nd rfl (Or.inl rfl)) (fun _ _ _ _ _ => pts_nil)
          (fun _ _ _ _ _ => pe_call GE hr (by rfl) gE F.kp bE .nil pass0 (pa_cons (pv 0) (pa_cons (pv 1) (pa_cons (pe_op op_sub (pv 2) pe_int) pa_nil))))) pa_nil))))) pss_nil
      case s5 =>
        exact ps_set (i := 7) nd rfl (.inl rfl) (pe_ix ix_list (pe_lst (pa_cons pe_str (pa_cons pe_str (pa_cons pe_str (pa_cons pe_str (pa_cons pe_str pa_nil)))))) (pe_op op_sub (pv 3) pe_int) (fun _ _ => rfl))
      case s6 =>
        exact ps_ret (pe_op op_catT (pe_tup (pa_cons (pv 7) pa_nil)) (pe_callTy call_tuple_of (by rfl) mt (by decide +kernel) (pa_cons (pe_lc (own := [("_law_k", 8)]) (g := gName 8) rfl nd
          (pi_range1 (by rfl) mr (pa_cons pe_int pa_nil)) (blkOk_by (own := [("_law_k", 8)]) (N := nExp) (sc := defScope sExp) (by decide +kernel)) (fun _ _ _ _ _ => pg_name (i := 8) nd rfl (Or.inl rfl)) (fun _ _ _ _ _ => pts_nil)
          (fun _ _ _ _ _ => pe_call GE hr (by rfl) gE F.kp bE .nil pass0 (pa_cons (pv 0) (pa_cons (pv 1) (pa_cons (pe_op op_sub (pv 2) pe_int) pa_nil))))) pa_nil)))
      case rd =>
      refine ⟨_, rfl, p, 10, rfl, dr, by decide, by decide, fun H1 way b1 dr1 w0 w10 => ?_⟩
      have gp1 : Gp p H H1 := Gp.but b1
      have hc1 : Dp K H1 c (cD cs) := (dr.kd gp1).dp hc
      refine ⟨_, rfl, rfl, _, rfl, ite2 (fun e => iteT (rb _ H1 way _ _ _ _ _ rfl gp1 dr1 hc1)) (fun e => ?_)⟩
      refine ⟨_, rfl, way, 3, rfl, rfl, _, rfl, ite2 (fun e => rb _ H1 way _ _ _ _ _ rfl gp1 dr1 hc1) (fun e2 => ?_)⟩
      have hd1n : d0 ≠ 1 := fun z => e (decide_eq_true (by rw [z]; rfl))
      obtain ⟨d, rfl⟩ : ∃ d, d0 = d + 1 := ⟨d0 - 1, by omega⟩
      have hd1 : 1 ≤ d := by omega
      have hw3 : ¬ way < 3 := of_decide_eq_false (by simpa using e2)
      have cast : ∀ {g : Prop}, g → g := fun h => h
      -- way == 3
      refine ⟨_, rfl, rfl, _, rfl, ite2 (fun e3 => ?_) (fun e3 => ?_)⟩
      · refine ⟨_, rfl, p, 4, rfl, dr1, by decide, by decide, fun H2 kd b2 dr2 k0 k4 => ?_⟩
        refine ⟨_, rfl, p, 98, rfl, dr2, by decide, by decide, fun H3 nu b3 dr3 n0 n98 => ?_⟩
        refine ⟨2, nu, rfl, rfl, _, _, rfl, ?_⟩
        have g3 : Gp p H1 H3 := (Gp.but b2).trans (Gp.but b3)
        have hc3 : Dp K H3 c (cD cs) := (dr1.kd g3).dp hc1
        refine ⟨_, rfl, _, rfl, _, rfl, (d : Int) + 1, 1, rfl, rfl, p, c, d, cs, less_one p c d, dr3, hc3, hcs, hd1, by omega, by omega, fun H4 v e g4 dr4 hv he => ?_⟩
        have m0 := Int.emod_nonneg (2 + nu) (show (8 : Int) ≠ 0 by decide)
        have m1 := Int.emod_lt_of_pos (2 + nu) (show (0 : Int) < 8 by decide)
        obtain ⟨u, eu, u0, u1⟩ := pick4 (a := 2 + (2 + nu) % 8) (b := 2 + nu) k0 k4 ⟨by omega, by omega⟩ ⟨by omega, by omega⟩
        refine ⟨_, rfl, 2 + nu, 8, rfl, rfl, (by show (0 : Int) < 8; decide), 2, _, rfl, rfl, _, rfl, by show 4 ≤ sizeLine; decide, fun pl npl => ?_⟩
        refine ⟨_, rfl, pl, _, kd, .int u, rfl, rfl, .inl (.inl upd_same), eu, by show 3 ≤ sizeLine; decide, fun tp ntp => ?_⟩
        have gg := (Gr.new (o := .lst [.int 2, .int 99, .int (2 + (2 + nu) % 8), .int (2 + nu)]) npl).trans (Gr.new (o := .tup [.str "rest", v, .int u]) ntp)
        refine fin _ (.ref tp) (.rst e u) (((gp1.trans g3).trans g4).trans (Gp.gr gg)) (dr4.gr gg) (.tup (.inl (.inl upd_same)) (.cons (.str _) (.cons (gg.kd.dp hv) (.cons (.int _) .nil)))) ⟨⟨u0, u1, he.1⟩, ?_, ?_⟩
        · have := he.2.1
          simp only [dep]
          omega
        · exact Nat.le_trans he.2.2 (Nat.pow_le_pow_right (by decide) (by omega))
      -- way == 4
      refine ⟨_, rfl, rfl, _, rfl, ite2 (fun e4 => ?_) (fun e4 => ?_)⟩
      · refine ⟨by show 1 ≤ sizeLine; decide, fun t1 nt1 => ?_⟩
        have gt : Gr H1 (upd H1 t1 (.tup [.str "if"])) := Gr.new nt1
        have ht1 : upd H1 t1 (.tup [.str "if"]) t1 = some (.tup [.str "if"]) := upd_same
        have dr6 : Drw (upd H1 t1 (.tup [.str "if"])) p := dr1.gr gt
        have hc6 : Dp K (upd H1 t1 (.tup [.str "if"])) c (cD cs) := gt.kd.dp hc1
        have gp6 : Gp p H (upd H1 t1 (.tup [.str "if"])) := gp1.trans (Gp.gr gt)
        generalize upd H1 t1 (.tup [.str "if"]) = H6 at gt ht1 dr6 hc6 gp6 ⊢
        refine ⟨3, rfl, by decide, by decide, fun D nD => ?_⟩
        have nDp : D ≠ p := dr6.ne nD
        refine lc_it (walk_range (lo := 0) (n := 3)) (fun i H7 => ∃ (es : List Ex) (vs : List V), H7 D = some (.lst vs) ∧ es.length = i ∧ DpAll K H7 vs (es.map Ex.d) ∧ (∀ e ∈ es, Gd cs d e) ∧ Gp p H6 H7 ∧ Drw H7 p) ?z0 (fun _ _ _ _ => trivial) ?z2 ?z3
        case z0 => exact ⟨[], [], upd_same, rfl, .nil, fun e he => (by cases he), Gp.gr (Gr.new nD), dr6.new nD⟩
        case z2 =>
          rintro i x H7 H7' hi ⟨es, vs, hD, hl, hv, hg, g7, dr7⟩ ⟨rfl, rfl⟩
          refine ⟨rfl, ?_⟩
          unfold tYes
          refine iteT ⟨_, rfl, _, rfl, _, rfl, (d : Int) + 1, 1, rfl, rfl, p, c, d, cs, less_one p c d, dr7, (dr6.kd g7).dp hc6, hcs, hd1, by omega, by omega, fun H8 v e g8 dr8 hv8 hg8 => ?_⟩
          have hD8 : H8 D = some (.lst vs) := g8.lst nDp hD
          refine ⟨vs, hD8, ?_, es ++ [e], vs ++ [v], upd_same, ?_, ?_, ?_, ?_, ?_⟩
          · have := dpA_len hv
            rw [List.length_map] at this
            exact small1000 (by omega)
          · rw [List.length_append, hl]
            rfl
          · rw [List.map_append]
            exact dpA_snoc (exs_keep (sqt_upd hD8) _ ((dr7.kd g8).dpA hv)) (ex_keep (sqt_upd hD8) e hv8)
          · intro e' he
            rcases List.mem_append.mp he with h | h
            · exact hg e' h
            · rw [show e' = e by simpa using h]
              exact hg8
          · exact Gp.upd_new (g7.trans g8) nD
          · exact dr8.upd nDp
        case z3 =>
        rintro H7 ⟨es, vs, hD, hl, hv, hg, g7, dr7⟩
        refine ⟨D, vs, rfl, .inl ⟨.inl (.inl hD), fun tq ntq => ?_⟩⟩
        have g8 : Gr H7 (upd H7 tq (.tup vs)) := Gr.new ntq
        have ht1' := g8.tup (g7.keep t1 _ (dr6.ne2 ht1) ht1 (fun _ z => by cases z))
        have hvl : vs.length = 3 := by
          have := dpA_len hv
          rw [List.length_map] at this
          omega
        refine ⟨t1, tq, _, vs, rfl, rfl, .inl (.inl ht1'), .inl (.inl upd_same), by simp, ?_, fun z => ?_, fun _ p2 np2 => ?_⟩
        · show 1 + vs.length ≤ sizeLine
          rw [hvl]
          decide
        · rw [z] at hvl
          cases hvl
        obtain ⟨a, b, d', rfl⟩ : ∃ a b d', es = [a, b, d'] := by
          match es, hl with
          | [a, b, d'], _ => exact ⟨a, b, d', rfl⟩
        have ha := hg a (by simp)
        have hb := hg b (by simp)
        have hd' := hg d' (by simp)
        have g9 : Gr H7 (upd (upd H7 tq (.tup vs)) p2 (.tup ([.str "if"] ++ vs))) := g8.trans (Gr.new np2)
        refine fin _ (.ref p2) (.iff a b d') ((gp6.trans g7).trans (Gp.gr g9)) (dr7.gr g9) (.tup (.inl (.inl upd_same)) (.cons (.str _) (g9.kd.dpA hv))) ⟨⟨ha.1, hb.1, hd'.1⟩, ?_, ?_⟩
        · have := ha.2.1
          have := hb.2.1
          have := hd'.2.1
          simp only [dep]
          omega
        · have := ha.2.2
          have := hb.2.2
          have := hd'.2.2
          obtain ⟨d2, rfl⟩ : ∃ d2, d = d2 + 1 := ⟨d - 1, by omega⟩
          simp only [lvs, Nat.add_sub_cancel, Nat.pow_succ] at *
          omega
      -- the others
      have e3' : way ≠ 3 := fun z => e3 (decide_eq_true (by rw [z]))
      have e4' : way ≠ 4 := fun z => e4 (decide_eq_true (by rw [z]))
      obtain ⟨wo, hwo, ewo⟩ := pickw (k := way - 5) (by omega) (by omega)
      refine ⟨by show 5 ≤ sizeLine; decide, fun pl npl => ?_⟩
      refine ⟨_, rfl, way, 5, rfl, rfl, pl, _, way - 5, .str (opw wo), rfl, rfl, .inl (.inl upd_same), ewo, ?_⟩
      have gl : Gr H1 (upd H1 pl (.lst [.str "plus", .str "less", .str "times", .str "same", .str "under"])) := Gr.new npl
      generalize upd H1 pl (.lst [.str "plus", .str "less", .str "times", .str "same", .str "under"]) = H5 at gl ⊢
      · refine ⟨_, rfl, by show 1 ≤ sizeLine; decide, fun t1 nt1 => ?_⟩
        have gt : Gr H1 (upd H5 t1 (.tup [.str (opw wo)])) := gl.trans (Gr.new nt1)
        have ht1 : upd H5 t1 (.tup [.str (opw wo)]) t1 = some (.tup [.str (opw wo)]) := upd_same
        have dr6 : Drw (upd H5 t1 (.tup [.str (opw wo)])) p := dr1.gr gt
        have hc6 : Dp K (upd H5 t1 (.tup [.str (opw wo)])) c (cD cs) := gt.kd.dp hc1
        have gp6 : Gp p H (upd H5 t1 (.tup [.str (opw wo)])) := gp1.trans (Gp.gr gt)
        generalize upd H5 t1 (.tup [.str (opw wo)]) = H6 at gt ht1 dr6 hc6 gp6 ⊢
        refine ⟨2, rfl, by decide, by decide, fun D nD => ?_⟩
        have nDp : D ≠ p := dr6.ne nD
        refine lc_it (walk_range (lo := 0) (n := 2)) (fun i H7 => ∃ (es : List Ex) (vs : List V), H7 D = some (.lst vs) ∧ es.length = i ∧ DpAll K H7 vs (es.map Ex.d) ∧ (∀ e ∈ es, Gd cs d e) ∧ Gp p H6 H7 ∧ Drw H7 p) ?z0 (fun _ _ _ _ => trivial) ?z2 ?z3
        case z0 => exact ⟨[], [], upd_same, rfl, .nil, fun e he => (by cases he), Gp.gr (Gr.new nD), dr6.new nD⟩
        case z2 =>
          rintro i x H7 H7' hi ⟨es, vs, hD, hl, hv, hg, g7, dr7⟩ ⟨rfl, rfl⟩
          refine ⟨rfl, ?_⟩
          unfold tYes
          refine iteT ⟨_, rfl, _, rfl, _, rfl, (d : Int) + 1, 1, rfl, rfl, p, c, d, cs, less_one p c d, dr7, (dr6.kd g7).dp hc6, hcs, hd1, by omega, by omega, fun H8 v e g8 dr8 hv8 hg8 => ?_⟩
          have hD8 : H8 D = some (.lst vs) := g8.lst nDp hD
          refine ⟨vs, hD8, ?_, es ++ [e], vs ++ [v], upd_same, ?_, ?_, ?_, ?_, ?_⟩
          · have := dpA_len hv
            rw [List.length_map] at this
            exact small1000 (by omega)
          · rw [List.length_append, hl]
            rfl
          · rw [List.map_append]
            exact dpA_snoc (exs_keep (sqt_upd hD8) _ ((dr7.kd g8).dpA hv)) (ex_keep (sqt_upd hD8) e hv8)
          · intro e' he
            rcases List.mem_append.mp he with h | h
            · exact hg e' h
            · rw [show e' = e by simpa using h]
              exact hg8
          · exact Gp.upd_new (g7.trans g8) nD
          · exact dr8.upd nDp
        case z3 =>
        rintro H7 ⟨es, vs, hD, hl, hv, hg, g7, dr7⟩
        refine ⟨D, vs, rfl, .inl ⟨.inl (.inl hD), fun tq ntq => ?_⟩⟩
        have g8 : Gr H7 (upd H7 tq (.tup vs)) := Gr.new ntq
        have ht1' := g8.tup (g7.keep t1 _ (dr6.ne2 ht1) ht1 (fun _ z => by cases z))
        have hvl : vs.length = 2 := by
          have := dpA_len hv
          rw [List.length_map] at this
          omega
        refine ⟨t1, tq, _, vs, rfl, rfl, .inl (.inl ht1'), .inl (.inl upd_same), by simp, ?_, fun z => ?_, fun _ p2 np2 => ?_⟩
        · show 1 + vs.length ≤ sizeLine
          rw [hvl]
          decide
        · rw [z] at hvl
          cases hvl
        obtain ⟨a, b, rfl⟩ : ∃ a b, es = [a, b] := by
          match es, hl with
          | [a, b], _ => exact ⟨a, b, rfl⟩
        have ha := hg a (by simp)
        have hb := hg b (by simp)
        have g9 : Gr H7 (upd (upd H7 tq (.tup vs)) p2 (.tup ([.str (opw wo)] ++ vs))) := g8.trans (Gr.new np2)
        refine fin _ (.ref p2) (.bin wo a b) ((gp6.trans g7).trans (Gp.gr g9)) (dr7.gr g9) (.tup (.inl (.inl upd_same)) (.cons (.str _) (g9.kd.dpA hv))) ⟨⟨hwo, ha.1, hb.1⟩, ?_, ?_⟩
        · have := ha.2.1
          have := hb.2.1
          simp only [dep]
          omega
        · have := ha.2.2
          have := hb.2.2
          obtain ⟨d2, rfl⟩ : ∃ d2, d = d2 + 1 := ⟨d - 1, by omega⟩
          simp only [lvs, Nat.add_sub_cancel, Nat.pow_succ] at *
          omega
end
end SfE
namespace SfE
open PySem PySem.Spec PyProof.Rows L2 SfG
theorem dep_pos (e : Ex) : 1 ≤ dep e := by cases e <;> simp only [dep] <;> omega
theorem depB_pos (e : Bd) : 1 ≤ depB e := by cases e <;> simp only [depB] <;> omega
theorem ex_deep : ∀ e : Ex, e.d.depth ≤ dep e + 1
  | .num n => by simp only [Ex.d, PyData.depth, PyData.depthAll, dep]; omega
  | .inp k f => by simp only [Ex.d, PyData.depth, PyData.depthAll, dep]; omega
  | .bin w a b => by have := ex_deep a; have := ex_deep b; simp only [Ex.d, PyData.depth, PyData.depthAll, dep]; omega
  | .rst a n => by have := ex_deep a; simp only [Ex.d, PyData.depth, PyData.depthAll, dep]; omega
  | .iff a b c => by have := ex_deep a; have := ex_deep b; have := ex_deep c; simp only [Ex.d, PyData.depth, PyData.depthAll, dep]; omega
theorem exs_deep {n : Nat} : ∀ es : List Ex, (∀ e ∈ es, dep e ≤ n) → PyData.depthAll (es.map Ex.d) ≤ n + 1
  | [], _ => by simp [PyData.depthAll]
  | a :: r, h => by
    have h1 := ex_deep a
    have h2 := h a List.mem_cons_self
    have h3 := exs_deep r fun e he => h e (List.mem_cons_of_mem _ he)
    simp only [List.map_cons, PyData.depthAll]
    omega
theorem bd_deep {cs : List Nat} {n m : Nat} : ∀ b : Bd, okB cs n m b → b.d.depth ≤ depB b + n + 3
  | .ref, _ => by simp only [Bd.d, PyData.depth, PyData.depthAll, depB]; omega
  | .giv es, h => by
    have := exs_deep es fun e he => (h.2 e he).2.1
    simp only [Bd.d, PyData.depth, PyData.depthAll, depB]
    omega
  | .whn e a b, h => by
    have h1 := ex_deep e
    have h2 := h.1.2.1
    have h3 := bd_deep a h.2.1
    have h4 := bd_deep b h.2.2
    simp only [Bd.d, PyData.depth, PyData.depthAll, depB]
    omega
/-! ### good Es, good bodies are looked at through and through -/
theorem out_some {os : List (Option (Int × Int))} (h : ∀ o ∈ os, ∃ pk, o = some pk) : ∃ pk, outL os = some pk := by
  have : ∃ abs, allO os = some abs := by
    induction os with
    | nil => exact ⟨[], rfl⟩
    | cons o r ih =>
      obtain ⟨pk, rfl⟩ := h o List.mem_cons_self
      obtain ⟨abs, ha⟩ := ih fun o ho => h o (List.mem_cons_of_mem _ ho)
      exact ⟨pk :: abs, by show (allO r).map (pk :: ·) = _; rw [ha]; rfl⟩
  obtain ⟨abs, ha⟩ := this
  exact ⟨_, by unfold outL; rw [ha]; rfl⟩
theorem amg_in {i lo hi : Int} (h1 : lo ≤ i) (h2 : i ≤ hi) : amg (.int i) lo hi = true := by
  show (decide (lo ≤ i) && decide (i ≤ hi)) = true
  rw [decide_eq_true h1, decide_eq_true h2]
  rfl
theorem opw_sz (w : Nat) : szs (opw w) = 2 ∧ opw w ≠ "in" := by
  unfold opw
  split <;> exact ⟨by decide +kernel, by decide +kernel⟩
theorem lk_ex {cs : List Nat} : ∀ {q : Nat} (e : Ex), okE cs e → dep e ≤ q → ∃ pk, lk cs q none e.d = some pk
  | 0, e, _, h => by have := dep_pos e; omega
  | q + 1, .num n, h, _ => by
    show ∃ pk, lk cs (q + 1) none (.tuple [.str "number", .int n]) = some pk
    rw [lk_tup, inn_E1, if_pos ⟨rfl, amg_in h.1 h.2⟩]
    exact ⟨_, rfl⟩
  | q + 1, .inp k f, h, _ => by
    obtain ⟨c, hc, hf⟩ := h
    obtain ⟨hk, ec⟩ := List.getElem?_eq_some_iff.mp hc
    show ∃ pk, lk cs (q + 1) none (.tuple [.str "in", .int k, .int f]) = some pk
    have e1 : cAt cs (nI (.int (k : Nat))) = (c : Nat) := by
      show ((cs.getD (((k : Nat) : Int)).toNat 1 : Nat) : Int) = _
      rw [Int.toNat_natCast, List.getD_eq_getElem?_getD, hc]
      rfl
    rw [lk_tup, inn_E2, if_pos rfl, if_pos (amg_in (by omega) (by omega)), e1, if_pos (amg_in (by omega) (by omega))]
    exact ⟨_, rfl⟩
  | q + 1, .bin w a b, h, hd => by
    simp only [dep] at hd
    obtain ⟨_, ha, hb⟩ := h
    show ∃ pk, lk cs (q + 1) none (.tuple [.str (opw w), a.d, b.d]) = some pk
    rw [lk_tup, inn_E2, if_neg (opw_sz w).2, if_pos (opw_sz w).1]
    refine out_some (os := [lk cs q none a.d, lk cs q none b.d]) fun o ho => ?_
    simp only [List.mem_cons, List.not_mem_nil, or_false] at ho
    rcases ho with rfl | rfl
    · exact lk_ex a ha (by omega)
    · exact lk_ex b hb (by omega)
  | q + 1, .rst a n, h, hd => by
    simp only [dep] at hd
    obtain ⟨h1, h2, ha⟩ := h
    show ∃ pk, lk cs (q + 1) none (.tuple [.str "rest", a.d, .int n]) = some pk
    rw [lk_tup, inn_E2, if_neg (by decide +kernel), if_neg (by decide +kernel), if_pos ⟨rfl, amg_in h1 h2⟩]
    refine out_some (os := [lk cs q none a.d]) fun o ho => ?_
    rw [List.mem_singleton.mp ho]
    exact lk_ex a ha (by omega)
  | q + 1, .iff a b c, h, hd => by
    simp only [dep] at hd
    obtain ⟨ha, hb, hc⟩ := h
    show ∃ pk, lk cs (q + 1) none (.tuple [.str "if", a.d, b.d, c.d]) = some pk
    rw [lk_tup, inn_E3, if_pos rfl]
    refine out_some (os := [lk cs q none a.d, lk cs q none b.d, lk cs q none c.d]) fun o ho => ?_
    simp only [List.mem_cons, List.not_mem_nil, or_false] at ho
    rcases ho with rfl | rfl | rfl
    · exact lk_ex a ha (by omega)
    · exact lk_ex b hb (by omega)
    · exact lk_ex c hc (by omega)
theorem lk_bd {cs : List Nat} {n m : Nat} : ∀ {q : Nat} (b : Bd), okB cs n m b → depB b + n ≤ q → ∃ pk, lk cs q (some m) b.d = some pk
  | 0, b, _, h => by have := depB_pos b; omega
  | q + 1, .ref, _, _ => by
    show ∃ pk, lk cs (q + 1) (some m) (.tuple [.str "refuse"]) = some pk
    rw [lk_tup, inn_B0, if_pos rfl]
    exact ⟨_, rfl⟩
  | q + 1, .giv es, h, hd => by
    simp only [depB] at hd
    show ∃ pk, lk cs (q + 1) (some m) (.tuple [.str "give", .tuple (es.map Ex.d)]) = some pk
    rw [lk_tup, inn_B1, if_pos ⟨rfl, (by show ("tuple" == "tuple") = true; decide), (by show (es.map Ex.d).length = m; rw [List.length_map]; exact h.1)⟩]
    refine out_some fun o ho => ?_
    obtain ⟨dm, hdm, rfl⟩ := List.mem_map.mp ho
    obtain ⟨d, hd', rfl⟩ := List.mem_map.mp hdm
    obtain ⟨e, he, rfl⟩ := List.mem_map.mp (show d ∈ es.map Ex.d from hd')
    obtain ⟨h1, h2, _⟩ := h.2 e he
    exact lk_ex e h1 (by omega)
  | q + 1, .whn e a b, h, hd => by
    simp only [depB] at hd
    obtain ⟨he, ha, hb⟩ := h
    have := depB_pos a
    show ∃ pk, lk cs (q + 1) (some m) (.tuple [.str "when", e.d, a.d, b.d]) = some pk
    rw [lk_tup, inn_B3, if_pos rfl]
    refine out_some (os := [lk cs q none e.d, lk cs q (some m) a.d, lk cs q (some m) b.d]) fun o ho => ?_
    simp only [List.mem_cons, List.not_mem_nil, or_false] at ho
    rcases ho with rfl | rfl | rfl
    · exact lk_ex e he.1 (by have := he.2.1; omega)
    · exact lk_bd a ha (by omega)
    · exact lk_bd b hb (by omega)
/-! how great they are -/
theorem wt_num {i : Int} (h0 : 0 ≤ i) (h1 : i ≤ 99) : wt (.int i) ≤ 9 := by
  rw [wt]
  have : i.natAbs.log2 ≤ 6 := by
    have h : i.natAbs ≤ 99 := by omega
    rcases Nat.eq_zero_or_pos i.natAbs with z | z
    · rw [z]; decide
    · have := (Nat.log2_lt (n := i.natAbs) (k := 7) (by omega)).mpr (by omega)
      omega
  omega
theorem wt_opw (w : Nat) : wt (.str (opw w)) ≤ 52 := by
  unfold opw
  split <;> decide +kernel
def WE : Nat → Nat
  | 0 => 78
  | n + 1 => 3 * WE n + 61
theorem WE_mono : ∀ {a b : Nat}, a ≤ b → WE a ≤ WE b
  | 0, 0, _ => Nat.le_refl _
  | 0, b + 1, _ => by
    have := WE_mono (Nat.zero_le b)
    show 78 ≤ 3 * WE b + 61
    have h : WE 0 = 78 := rfl
    omega
  | a + 1, b + 1, h => by
    have := WE_mono (show a ≤ b by omega)
    show 3 * WE a + 61 ≤ 3 * WE b + 61
    omega
theorem WE_ge (n : Nat) : 78 ≤ WE n := WE_mono (Nat.zero_le n)
theorem wt_ex {cs : List Nat} (hc : cs.length ≤ 3) (hf : ∀ x ∈ cs, x ≤ 3) : ∀ (n : Nat) (e : Ex), okE cs e → dep e ≤ n + 1 → wt e.d ≤ WE n
  | n, .num i, h, _ => by
    have h1 := wt_num h.1 h.2
    have h2 := WE_ge n
    show wt (.tuple [.str "number", .int i]) ≤ _
    simp only [wt, wtA] at h1 ⊢
    have : ("number" : Str).length = 6 := by decide +kernel
    omega
  | n, .inp k f, h, _ => by
    obtain ⟨c, hc', hf'⟩ := h
    obtain ⟨hk, ec⟩ := List.getElem?_eq_some_iff.mp hc'
    have h3 := hf c (List.mem_of_getElem? hc')
    have h1 := wt_num (i := (k : Nat)) (by omega) (by omega)
    have h4 := wt_num (i := (f : Nat)) (by omega) (by omega)
    have h2 := WE_ge n
    show wt (.tuple [.str "in", .int k, .int f]) ≤ _
    simp only [wt, wtA] at h1 h4 ⊢
    have : ("in" : Str).length = 2 := by decide +kernel
    omega
  | 0, .bin w a b, _, hd => by
    simp only [dep] at hd
    have := dep_pos a
    omega
  | n + 1, .bin w a b, h, hd => by
    simp only [dep] at hd
    have h1 := wt_ex hc hf n a h.2.1 (by omega)
    have h2 := wt_ex hc hf n b h.2.2 (by omega)
    have h3 := wt_opw w
    have h4 := WE_ge n
    show wt (.tuple [.str (opw w), a.d, b.d]) ≤ 3 * WE n + 61
    simp only [wt, wtA] at h3 ⊢
    omega
  | 0, .rst a i, _, hd => by
    simp only [dep] at hd
    have := dep_pos a
    omega
  | n + 1, .rst a i, h, hd => by
    simp only [dep] at hd
    have h1 := wt_ex hc hf n a h.2.2 (by omega)
    have h3 := wt_num (i := i) (by have := h.1; omega) h.2.1
    have h4 := WE_ge n
    show wt (.tuple [.str "rest", a.d, .int i]) ≤ 3 * WE n + 61
    simp only [wt, wtA] at h3 ⊢
    have : ("rest" : Str).length = 4 := by decide +kernel
    omega
  | 0, .iff a b c, _, hd => by
    simp only [dep] at hd
    have := dep_pos a
    omega
  | n + 1, .iff a b c, h, hd => by
    simp only [dep] at hd
    have h1 := wt_ex hc hf n a h.1 (by omega)
    have h2 := wt_ex hc hf n b h.2.1 (by omega)
    have h3 := wt_ex hc hf n c h.2.2 (by omega)
    have h4 := WE_ge n
    show wt (.tuple [.str "if", a.d, b.d, c.d]) ≤ 3 * WE n + 61
    simp only [wt, wtA]
    have : ("if" : Str).length = 2 := by decide +kernel
    omega
theorem wtA_le : ∀ {l : List PyData} {B : Nat}, (∀ d ∈ l, wt d ≤ B) → wtA l ≤ l.length * (B + 2)
  | [], _, _ => by rw [wtA]; omega
  | d :: r, B, h => by
    have h1 := h d List.mem_cons_self
    have h2 := wtA_le fun x hx => h x (List.mem_cons_of_mem _ hx)
    rw [wtA, List.length_cons, Nat.succ_mul]
    omega
def WB : Nat → Nat
  | 0 => 2900
  | n + 1 => 2 * WB n + 1000
theorem WB_ge : ∀ (n : Nat), 2900 ≤ WB n
  | 0 => Nat.le_refl _
  | n + 1 => by
    have := WB_ge n
    show 2900 ≤ 2 * WB n + 1000
    omega
theorem wt_bdn {cs : List Nat} {m : Nat} (hc : cs.length ≤ 3) (hf : ∀ x ∈ cs, x ≤ 3) (hm : m ≤ 3) : ∀ (n : Nat) (b : Bd), okB cs 3 m b → depB b ≤ n + 1 → wt b.d ≤ WB n
  | n, .ref, _, _ => by
    have := WB_ge n
    show wt (.tuple [.str "refuse"]) ≤ _
    simp only [wt, wtA]
    have : ("refuse" : Str).length = 6 := by decide +kernel
    omega
  | n, .giv es, h, _ => by
    have := WB_ge n
    have h1 : wtA (es.map Ex.d) ≤ (es.map Ex.d).length * (WE 2 + 2) := wtA_le fun d hd => by
      obtain ⟨e, he, rfl⟩ := List.mem_map.mp hd
      obtain ⟨h1, h2, _⟩ := h.2 e he
      exact wt_ex hc hf 2 e h1 h2
    rw [List.length_map, h.1, show WE 2 = 946 from rfl] at h1
    have h2 : m * (946 + 2) ≤ 3 * 948 := Nat.mul_le_mul_right _ hm
    show wt (.tuple [.str "give", .tuple (es.map Ex.d)]) ≤ _
    simp only [wt, wtA]
    have : ("give" : Str).length = 4 := by decide +kernel
    omega
  | 0, .whn e a b, h, hd => by
    simp only [depB] at hd
    have := depB_pos a
    omega
  | n + 1, .whn e a b, h, hd => by
    simp only [depB] at hd
    have h1 := wt_bdn hc hf hm n a h.2.1 (by omega)
    have h2 := wt_bdn hc hf hm n b h.2.2 (by omega)
    have h3 := wt_ex hc hf 2 e h.1.1 h.1.2.1
    rw [show WE 2 = 946 from rfl] at h3
    show wt (.tuple [.str "when", e.d, a.d, b.d]) ≤ 2 * WB n + 1000
    simp only [wt, wtA]
    have : ("when" : Str).length = 4 := by decide +kernel
    omega
theorem wt_bd {cs : List Nat} {m : Nat} (hcs : cs.length ≤ 3 ∧ ∀ x ∈ cs, 1 ≤ x ∧ x ≤ 3) (hm : m ≤ 3) (b : Bd) (h : okB cs 3 m b) (hd : depB b ≤ 4) : wt b.d ≤ 32000 :=
  Nat.le_trans (wt_bdn hcs.1 (fun x hx => (hcs.2 x hx).2) hm 3 b h hd) (by decide)
end SfE
namespace SfE
open PySem PySem.Spec PyProof.Rows L2 SfG
abbrev sBod : Stmt := topS 16
abbrev nBod : List Str := ["_law_state", "_law_counts", "_law_many", "_law_deep", "_law_way", "_law_found", "_law_ahead", "_law_first", "_law_k"]
theorem scBod : FnScope nBod ["_law_state", "_law_counts", "_law_many", "_law_deep"] (defScope sBod) := ⟨rfl, rfl, rfl, by decide +kernel, rfl, by decide +kernel, by decide +kernel⟩
theorem pow_ok {a b : Nat} (h : b ≤ 9) (h2 : a ≤ b) : a ≤ 9 := Nat.le_trans h2 h
theorem less_one4 (p : Addr) (c : V) (m d : Nat) : [V.ref p, c, V.int m, V.int ((d : Int) + 1 - 1)] = [V.ref p, c, V.int m, V.int d] := by rw [Int.add_sub_cancel]
section
variable {P : Program} {w : World} {K : PySem.W.Frag} {mg : Str → Option Value} {base : Heap}
def spBod (K : PySem.W.Frag) (n : Nat) : Sp := fun vs H Q _ => ∃ (p : Addr) (c : V) (m d : Nat) (cs : List Nat), vs = [.ref p, c, .int m, .int d] ∧ Drw H p ∧ Dp K H c (cD cs) ∧ (cs.length ≤ 3 ∧ ∀ x ∈ cs, 1 ≤ x ∧ x ≤ 3) ∧ 1 ≤ m ∧ m ≤ 3 ∧ 1 ≤ d ∧ d ≤ n ∧ n ≤ 4 ∧
  ∀ H' v B, Gp p H H' → Drw H' p → Dp K H' v B.d → okB cs 3 m B → depB B ≤ d → Q v H'
theorem bod_tail {f fE fL : Addr} {fdE fdL : FuncData} {k : Nat} {cdv : Value} {A : Around} {outer : List Env} {s : Shared} {H : Hp} {Q : VK} {E : XK} {p : Addr} {c : V} {m d : Nat} {cs : List Nat}
    (HE : Has P w K mg base k "_law_expression" ["_law_state", "_law_counts", "_law_deep"] (spExp K 3) fE fdE) (HL : Has P w K mg base k "_law_looked" ["_law_thing", "_law_counts", "_law_many"] (spLk K 30) fL fdL)
    (mt : mg "tuple" = none) (mr : mg "range" = none) (hr : Room k (A.deeper (envOfC "_law_body" (defScope sBod) s.heap.objs.size f cdv)))
    (hcs : cs.length ≤ 3 ∧ ∀ x ∈ cs, 1 ≤ x ∧ x ≤ 3) (hm1 : 1 ≤ m) (hm : m ≤ 3) (hd : 1 ≤ d) (hd4 : d ≤ 4) (fin : ∀ H' v B, Gp p H H' → Drw H' p → Dp K H' v B.d → okB cs 3 m B → depB B ≤ d → Q v H') :
    ∃ tt, PSs (cxOf CX0 P w K mg base nBod "_law_body" (defScope sBod) f cdv A outer s H E).nox ((defBody sBod).drop 4) tt ∧
      ∀ (H1 : Hp) (vf : V) (B : Bd) (y4 y6 y7 y8 : Option V), Gp p H H1 → Drw H1 p → Dp K H1 c (cD cs) → Dp K H1 vf B.d → okB cs 3 m B → depB B ≤ d →
        tt { nx := fun _ H' => Q .non H', rt := Q } [some (.ref p), some c, some (.int m), some (.int d), y4, some vf, y6, y7, y8] H1 := by
  have nd := scBod.nd
  refine' ⟨_, pss_cons ?s1 (pss_one ?s2), ?rd⟩
  case s1 =>
    exact ps_if (pt_cmpR op_lt (pe_ix ix_tup (hcall HL hr (pa_cons (pv 5) (pa_cons (pv 1) (pa_cons (pv 2) pa_nil)))) pe_int (fun _ _ => rfl)) pe_int (nomark _)) (pss_one (ps_ret (pv 5))) pss_nil
  case s2 =>
    exact ps_ret (pe_tup (pa_cons pe_str (pa_cons (pe_callTy call_tuple_of (by rfl) mt (by decide +kernel) (pa_cons (pe_lc (own := [("_law_k", 8)]) (g := gName 8) rfl nd
      (pi_range1 (by rfl) mr (pa_cons (pv 2) pa_nil)) (blkOk_by (own := [("_law_k", 8)]) (N := nBod) (sc := defScope sBod) (by decide +kernel)) (fun _ _ _ _ _ => pg_name (i := 8) nd rfl (Or.inl rfl)) (fun _ _ _ _ _ => pts_nil)
      (fun _ _ _ _ _ => hcall HE hr (pa_cons (pv 0) (pa_cons (pv 1) (pa_cons pe_int pa_nil))))) pa_nil)) pa_nil)))
  case rd =>
  intro H1 vf B y4 y6 y7 y8 g1 dr1 hc1 hf hB hdB
  obtain ⟨⟨a, b⟩, hpk⟩ := lk_bd (q := 30) B hB (by omega)
  refine ⟨_, rfl, _, rfl, _, rfl, vf, c, B.d, cs, some m, rfl, hf, hc1, by have := bd_deep B hB; omega, Nat.le_trans (wt_bd hcs hm B hB (show depB B ≤ 4 by omega)) (by decide), by decide, fun hn => (by rw [hpk] at hn; cases hn), fun a b _ H2 pt g2 hpt => ?_⟩
  refine ⟨pt, _, 0, .int a, rfl, rfl, .inl (.inl hpt), rfl, a, 61, rfl, rfl, _, rfl, ite2 (fun e => ?_) (fun e => ?_)⟩
  · exact ⟨_, rfl, fin H2 vf B (g1.trans (Gp.gr g2)) (dr1.gr g2) (g2.kd.dp hf) hB hdB⟩
  have dr2 := dr1.gr g2
  have hc2 : Dp K H2 c (cD cs) := g2.kd.dp hc1
  refine ⟨_, rfl, ?_⟩
  refine ⟨m, rfl, by omega, by omega, fun D nD => ?_⟩
  have nDp : D ≠ p := dr2.ne nD
  refine lc_it (walk_range (lo := 0) (n := (m : Int).toNat)) (fun i H7 => ∃ (es : List Ex) (vs : List V), H7 D = some (.lst vs) ∧ es.length = i ∧ DpAll K H7 vs (es.map Ex.d) ∧ (∀ e ∈ es, Gd cs 1 e) ∧ Gp p H2 H7 ∧ Drw H7 p) ?z0 (fun _ _ _ _ => trivial) ?z2 ?z3
  case z0 => exact ⟨[], [], upd_same, rfl, .nil, fun e he => (by cases he), Gp.gr (Gr.new nD), dr2.new nD⟩
  case z2 =>
    rintro i x H7 H7' hi ⟨es, vs, hD, hl, hv, hg, g7, dr7⟩ ⟨rfl, rfl⟩
    refine ⟨rfl, ?_⟩
    unfold tYes
    refine iteT ⟨_, rfl, _, rfl, p, c, 1, cs, rfl, dr7, (dr2.kd g7).dp hc2, hcs, by decide, by decide, by decide, fun H8 v e g8 dr8 hv8 hg8 => ?_⟩
    have hD8 : H8 D = some (.lst vs) := g8.lst nDp hD
    refine ⟨vs, hD8, ?_, es ++ [e], vs ++ [v], upd_same, ?_, ?_, ?_, ?_, ?_⟩
    · have := dpA_len hv
      rw [List.length_map] at this
      exact small1000 (by omega)
    · rw [List.length_append, hl]
      rfl
    · rw [List.map_append]
      exact dpA_snoc (exs_keep (sqt_upd hD8) _ ((dr7.kd g8).dpA hv)) (ex_keep (sqt_upd hD8) e hv8)
    · intro e' he
      rcases List.mem_append.mp he with h | h
      · exact hg e' h
      · rw [show e' = e by simpa using h]
        exact hg8
    · exact Gp.upd_new (g7.trans g8) nD
    · exact dr8.upd nDp
  case z3 =>
  rintro H7 ⟨es, vs, hD, hl, hv, hg, g7, dr7⟩
  refine ⟨D, vs, rfl, .inl ⟨.inl (.inl hD), fun tq ntq => ?_⟩⟩
  refine ⟨by show 2 ≤ sizeLine; decide, fun tp ntp => ?_⟩
  have g8 : Gr H7 (upd (upd H7 tq (.tup vs)) tp (.tup [.str "give", .ref tq])) := (Gr.new ntq).trans (Gr.new ntp)
  have htq : upd (upd H7 tq (.tup vs)) tp (.tup [.str "give", .ref tq]) tq = some (.tup vs) := (Gr.new ntp).tup upd_same
  have hel : es.length = m := by
    rw [hl]
    exact Int.toNat_natCast m
  have hB : okB cs 3 m (.giv es) := ⟨hel, fun e he => ⟨(hg e he).1, by have := (hg e he).2.1; omega, pow_ok (by decide) (hg e he).2.2⟩⟩
  have hdp : Dp K (upd (upd H7 tq (.tup vs)) tp (.tup [.str "give", .ref tq])) (.ref tp) (Bd.giv es).d := .tup (.inl (.inl upd_same)) (.cons (.str _) (.cons (.tup (.inl (.inl htq)) (g8.kd.dpA hv)) .nil))
  exact fin _ (.ref tp) (.giv es) (((g1.trans (Gp.gr g2)).trans g7).trans (Gp.gr g8)) (dr7.gr g8) hdp hB (by simp only [depB]; exact hd)
set_option maxHeartbeats 4000000 in
theorem ok_bod {f fP fE fL : Addr} {fd fdP fdE fdL : FuncData} (F : Fun K "_law_body" "_law_body" sBod f fd) (bB : Binds K fd ["_law_state", "_law_counts", "_law_many", "_law_deep"] []) (gB : mg "_law_body" = some (.ref f))
    (HP : Has P w K mg base 1 "_law_pick" ["_law_state", "_law_many"] spPick fP fdP) (HE : Has P w K mg base 32 "_law_expression" ["_law_state", "_law_counts", "_law_deep"] (spExp K 3) fE fdE)
    (HL : Has P w K mg base 32 "_law_looked" ["_law_thing", "_law_counts", "_law_many"] (spLk K 30) fL fdL) (mt : mg "tuple" = none) (mr : mg "range" = none) :
    ∀ n, FnOk P w K mg base CX0 (n + 33) f fd ["_law_state", "_law_counts", "_law_many", "_law_deep"] (spBod K n)
  | 0 => by
    refine F.ok scBod (fun vs H Q E h => ?_) (fun cdv A outer s H vs Q E hr h => ?_)
    · obtain ⟨p, c, m, d, cs, rfl, _⟩ := h
      rfl
    · obtain ⟨p, c, m, d, cs, rfl, _, _, _, _, _, h1, h2, _⟩ := h
      omega
  | n + 1 => by
    have GB := ok_bod F bB gB HP HE HL mt mr n
    refine F.ok scBod (fun vs H Q E h => ?_) (fun cdv A outer s H vs Q E hr h => ?_)
    · obtain ⟨p, c, m, d, cs, rfl, _⟩ := h
      rfl
    · obtain ⟨p, c, m, d, cs, rfl, dr, hc, hcs, hm1, hm, hd1, hdn, hn4, fin⟩ := h
      have nd := scBod.nd
      have HP' : Has P w K mg base (n + 33) "_law_pick" ["_law_state", "_law_many"] spPick fP fdP := ⟨HP.ok.mono (by omega), HP.at_, HP.kp, HP.bd⟩
      have HE' : Has P w K mg base (n + 33) "_law_expression" ["_law_state", "_law_counts", "_law_deep"] (spExp K 3) fE fdE := ⟨HE.ok.mono (by omega), HE.at_, HE.kp, HE.bd⟩
      have HL' : Has P w K mg base (n + 33) "_law_looked" ["_law_thing", "_law_counts", "_law_many"] (spLk K 30) fL fdL := ⟨HL.ok.mono (by omega), HL.at_, HL.kp, HL.bd⟩
      obtain ⟨tt, dT, rT⟩ := bod_tail (f := f) (outer := outer) (E := E) (c := c) HE' HL' mt mr hr hcs hm1 hm hd1 (show d ≤ 4 by omega) fin
      refine' ⟨_, pss_cons ?s1 (pss_cons ?s2 (pss_cons ?s3 (pss_cons ?s4 dT))), ?rd⟩
      case s1 =>
        exact ps_set (i := 4) nd rfl (.inl rfl) (hcall HP' hr (pa_cons (pv 0) (pa_cons pe_int pa_nil)))
      case s2 =>
        exact ps_if (pt_cmpR op_eq (pv 4) pe_int (nomark _)) (pss_one (ps_ret (pe_tup (pa_cons pe_str pa_nil)))) pss_nil
      case s3 =>
        exact ps_set (i := 5) nd rfl (.inl rfl) (pe_tup (pa_cons pe_str (pa_cons (pe_callTy call_tuple_of (by rfl) mt (by decide +kernel) (pa_cons (pe_lc (own := [("_law_k", 8)]) (g := gName 8) rfl nd
          (pi_range1 (by rfl) mr (pa_cons (pv 2) pa_nil)) (blkOk_by (own := [("_law_k", 8)]) (N := nBod) (sc := defScope sBod) (by decide +kernel)) (fun _ _ _ _ _ => pg_name (i := 8) nd rfl (Or.inl rfl)) (fun _ _ _ _ _ => pts_nil)
          (fun _ _ _ _ _ => hcall HE' hr (pa_cons (pv 0) (pa_cons (pv 1) (pa_cons pe_int pa_nil))))) pa_nil)) pa_nil)))
      case s4 =>
        exact ps_if (PW.pt (pw_and (pt_cmpR op_lt (pv 4) pe_int (nomark _)) (pw_and1 (pt_cmpR op_gt (pv 3) pe_int (nomark _)))))
          (pss_cons (ps_set (i := 6) nd rfl (.inl rfl) (hcall HE' hr (pa_cons (pv 0) (pa_cons (pv 1) (pa_cons pe_int pa_nil)))))
          (pss_cons (ps_set (i := 7) nd rfl (.inl rfl) (pe_call GB hr (by rfl) gB F.kp bB .nil pass0 (pa_cons (pv 0) (pa_cons (pv 1) (pa_cons (pv 2) (pa_cons (pe_op op_sub (pv 3) pe_int) pa_nil))))))
          (pss_one (ps_set (i := 5) nd rfl (.inl rfl) (pe_tup (pa_cons pe_str (pa_cons (pv 6) (pa_cons (pv 7) (pa_cons (pe_call GB hr (by rfl) gB F.kp bB .nil pass0 (pa_cons (pv 0) (pa_cons (pv 1) (pa_cons (pv 2) (pa_cons (pe_op op_sub (pv 3) pe_int) pa_nil))))) pa_nil))))))))) pss_nil
      case rd =>
      refine ⟨_, rfl, p, 8, rfl, dr, by decide, by decide, fun H1 way b1 dr1 w0 w8 => ?_⟩
      have g1 : Gp p H H1 := Gp.but b1
      have hc1 : Dp K H1 c (cD cs) := (dr.kd g1).dp hc
      refine ⟨_, rfl, rfl, _, rfl, ite2 (fun e => ?_) (fun e => ?_)⟩
      · refine ⟨by show 1 ≤ sizeLine; decide, fun tp ntp => ?_⟩
        exact fin _ (.ref tp) .ref (g1.trans (Gp.gr (Gr.new ntp))) (dr1.gr (Gr.new ntp)) (.tup (.inl (.inl upd_same)) (.cons (.str _) .nil)) trivial hd1
      refine ⟨_, rfl, ?_⟩
      refine ⟨m, rfl, by omega, by omega, fun D nD => ?_⟩
      have nDp : D ≠ p := dr1.ne nD
      refine lc_it (walk_range (lo := 0) (n := (m : Int).toNat)) (fun i H7 => ∃ (es : List Ex) (vs : List V), H7 D = some (.lst vs) ∧ es.length = i ∧ DpAll K H7 vs (es.map Ex.d) ∧ (∀ e ∈ es, Gd cs 3 e) ∧ Gp p H1 H7 ∧ Drw H7 p) ?z0 (fun _ _ _ _ => trivial) ?z2 ?z3
      case z0 => exact ⟨[], [], upd_same, rfl, .nil, fun e he => (by cases he), Gp.gr (Gr.new nD), dr1.new nD⟩
      case z2 =>
        rintro i x H7 H7' hi ⟨es, vs, hD, hl, hv, hg, g7, dr7⟩ ⟨rfl, rfl⟩
        refine ⟨rfl, ?_⟩
        unfold tYes
        refine iteT ⟨_, rfl, _, rfl, p, c, 3, cs, rfl, dr7, (dr1.kd g7).dp hc1, hcs, by decide, by decide, by decide, fun H8 v e g8 dr8 hv8 hg8 => ?_⟩
        have hD8 : H8 D = some (.lst vs) := g8.lst nDp hD
        refine ⟨vs, hD8, ?_, es ++ [e], vs ++ [v], upd_same, ?_, ?_, ?_, ?_, ?_⟩
        · have := dpA_len hv
          rw [List.length_map] at this
          exact small1000 (by omega)
        · rw [List.length_append, hl]
          rfl
        · rw [List.map_append]
          exact dpA_snoc (exs_keep (sqt_upd hD8) _ ((dr7.kd g8).dpA hv)) (ex_keep (sqt_upd hD8) e hv8)
        · intro e' he
          rcases List.mem_append.mp he with h | h
          · exact hg e' h
          · rw [show e' = e by simpa using h]
            exact hg8
        · exact Gp.upd_new (g7.trans g8) nD
        · exact dr8.upd nDp
      case z3 =>
      rintro H7 ⟨es, vs, hD, hl, hv, hg, g7, dr7⟩
      refine ⟨D, vs, rfl, .inl ⟨.inl (.inl hD), fun tq ntq => ?_⟩⟩
      refine ⟨by show 2 ≤ sizeLine; decide, fun tp ntp => ?_⟩
      have g8 : Gr H7 (upd (upd H7 tq (.tup vs)) tp (.tup [.str "give", .ref tq])) := (Gr.new ntq).trans (Gr.new ntp)
      have htq : upd (upd H7 tq (.tup vs)) tp (.tup [.str "give", .ref tq]) tq = some (.tup vs) := (Gr.new ntp).tup upd_same
      have hel : es.length = m := by
        rw [hl]
        exact Int.toNat_natCast m
      have hB : okB cs 3 m (.giv es) := ⟨hel, fun e he => ⟨(hg e he).1, by have := (hg e he).2.1; omega, pow_ok (by decide) (hg e he).2.2⟩⟩
      have hdp : Dp K (upd (upd H7 tq (.tup vs)) tp (.tup [.str "give", .ref tq])) (.ref tp) (Bd.giv es).d := .tup (.inl (.inl upd_same)) (.cons (.str _) (.cons (.tup (.inl (.inl htq)) (g8.kd.dpA hv)) .nil))
      have gp8 : Gp p H (upd (upd H7 tq (.tup vs)) tp (.tup [.str "give", .ref tq])) := (g1.trans g7).trans (Gp.gr g8)
      have dr8 := dr7.gr g8
      have hc8 : Dp K (upd (upd H7 tq (.tup vs)) tp (.tup [.str "give", .ref tq])) c (cD cs) := (dr.kd gp8).dp hc
      generalize upd (upd H7 tq (.tup vs)) tp (.tup [.str "give", .ref tq]) = H8 at hdp gp8 dr8 hc8 ⊢
      refine ⟨_, rfl, way, 4, rfl, rfl, _, rfl, ite2 (fun e4 => ?_) (fun e4 => iteF ?_)⟩
      · refine ⟨_, rfl, d, 1, rfl, rfl, _, rfl, ite2 (fun e5 => ?_) (fun e5 => ?_)⟩
        · have hd2 : (d : Int) > 1 := of_decide_eq_true e5
          obtain ⟨d', rfl⟩ : ∃ d', d = d' + 1 := ⟨d - 1, by omega⟩
          refine ⟨_, rfl, _, rfl, p, c, 2, cs, rfl, dr8, hc8, hcs, by decide, by decide, by decide, fun H9 va ea g9 dr9 hva hga => ?_⟩
          have hc9 := (dr8.kd g9).dp hc8
          refine ⟨_, rfl, _, rfl, _, rfl, _, rfl, (d' : Int) + 1, 1, rfl, rfl, p, c, m, d', cs, less_one4 p c m d', dr9, hc9, hcs, hm1, hm, by omega, by omega, by omega, fun H10 vb Bb g10 dr10 hvb oBb dBb => ?_⟩
          have hc10 := (dr9.kd g10).dp hc9
          refine ⟨_, rfl, _, rfl, _, rfl, _, rfl, _, rfl, _, rfl, (d' : Int) + 1, 1, rfl, rfl, p, c, m, d', cs, less_one4 p c m d', dr10, hc10, hcs, hm1, hm, by omega, by omega, by omega, fun H11 vc Bc g11 dr11 hvc oBc dBc => ?_⟩
          refine ⟨by show 4 ≤ sizeLine; decide, fun tw ntw => ?_⟩
          have gw : Gr H11 (upd H11 tw (.tup [.str "when", va, vb, vc])) := Gr.new ntw
          have hva11 := (dr10.kd g11).dp ((dr9.kd g10).dp hva)
          have hvb11 := (dr10.kd g11).dp hvb
          refine rT _ (.ref tw) (.whn ea Bb Bc) _ _ _ _ ((((gp8.trans g9).trans g10).trans g11).trans (Gp.gr gw)) (dr11.gr gw) (gw.kd.dp ((dr10.kd g11).dp hc10)) (.tup (.inl (.inl upd_same)) (.cons (.str _) (.cons (gw.kd.dp hva11) (.cons (gw.kd.dp hvb11) (.cons (gw.kd.dp hvc) .nil))))) ⟨⟨hga.1, by have := hga.2.1; omega, pow_ok (by decide) hga.2.2⟩, oBb, oBc⟩ (by simp only [depB]; omega)
        · exact rT H8 (.ref tp) (.giv es) _ _ _ _ gp8 dr8 hc8 hdp hB (by simp only [depB]; exact hd1)
      · exact rT H8 (.ref tp) (.giv es) _ _ _ _ gp8 dr8 hc8 hdp hB (by simp only [depB]; exact hd1)
end
end SfE
namespace SfE
open PySem PySem.Spec PyProof.Rows L2 SfG
/-! ### slices and sums of tuples of any data -/
theorem dpA_drop {K : PySem.W.Frag} {H : Hp} : ∀ {n : Nat} {ds : List PyData} {xs : List V}, DpAll K H xs ds → DpAll K H (xs.drop n) (ds.drop n)
  | 0, _, _, h => h
  | n + 1, [], _, h => by
    cases dpA_nil h
    exact .nil
  | n + 1, d :: r, _, h => by
    obtain ⟨x, xr, rfl, _, hr⟩ := dpA_cons h
    exact dpA_drop (n := n) hr
theorem dpA_take {K : PySem.W.Frag} {H : Hp} : ∀ {n : Nat} {ds : List PyData} {xs : List V}, DpAll K H xs ds → DpAll K H (xs.take n) (ds.take n)
  | 0, _, _, _ => .nil
  | n + 1, [], _, h => by
    cases dpA_nil h
    exact .nil
  | n + 1, d :: r, _, h => by
    obtain ⟨x, xr, rfl, hx, hr⟩ := dpA_cons h
    exact .cons hx (dpA_take (n := n) hr)
theorem dpA_cut {K : PySem.W.Frag} {H : Hp} {ds : List PyData} {xs : List V} (h : DpAll K H xs ds) (lo hi : Option Int) : DpAll K H (cutV xs lo hi) (SfG.cutD ds lo hi) := by
  unfold cutV SfG.cutD
  rw [dpA_len h]
  exact dpA_take (dpA_drop h)
theorem dpA_rev {K : PySem.W.Frag} {H : Hp} : ∀ {ds : List PyData} {xs : List V}, DpAll K H xs ds → DpAll K H xs.reverse ds.reverse
  | [], _, h => by
    cases dpA_nil h
    exact .nil
  | d :: r, _, h => by
    obtain ⟨x, xr, rfl, hx, hr⟩ := dpA_cons h
    rw [List.reverse_cons, List.reverse_cons]
    exact dpA_app (dpA_rev hr) (.cons hx .nil)
def rCatD (K : PySem.W.Frag) : R2 := fun x y H Q => ∃ (ds es : List PyData), Dp K H x (.tuple ds) ∧ Dp K H y (.tuple es) ∧ ds.length + es.length ≤ sizeLine ∧ ∀ v H', Gr H H' → Dp K H' v (.tuple (ds ++ es)) → Q v H'
def rSlD (K : PySem.W.Frag) : V → Option Int → Option Int → Hp → VK → Prop := fun x lo hi H Q => ∃ (ds : List PyData), Dp K H x (.tuple ds) ∧ ∀ v H', Gr H H' → Dp K H' v (.tuple (SfG.cutD ds lo hi)) → Q v H'
theorem new_TD {K : PySem.W.Frag} {H : Hp} {p : Addr} {xs : List V} {ds : List PyData} (np : H p = none) (h : DpAll K H xs ds) : Dp K (upd H p (.tup xs)) (.ref p) (.tuple ds) := .tup (.inl (.inl upd_same)) ((Gr.new np).kd.dpA h)
theorem new_LD {K : PySem.W.Frag} {H : Hp} {p : Addr} {xs : List V} {ds : List PyData} (np : H p = none) (h : DpAll K H xs ds) : Dp K (upd H p (.lst xs)) (.ref p) (.list ds) := .lst (.inl (.inl upd_same)) ((Gr.new np).kd.dpA h)
section
variable {X : Cx}
theorem op_catD : OpR X (binaryOp .Add) (rCatD X.K) := by
  intro pins s σ H x y v u Q I rx ry h
  obtain ⟨ds, es, hx, hy, hl, q⟩ := h
  obtain ⟨a, xs, rfl, ha, hxs⟩ := dp_tup hx
  obtain ⟨b, ys, rfl, hb, hys⟩ := dp_tup hy
  have l1 := dpA_len hxs
  have l2 := dpA_len hys
  refine op_catA pins s σ H _ _ v u Q I rx ry ⟨a, b, xs, ys, rfl, rfl, ha, hb, by omega, ?_, ?_, ?_⟩
  · rintro rfl
    have e : ds = [] := List.length_eq_zero_iff.mp (by rw [← l1]; rfl)
    subst e
    exact q _ H (Gr.refl H) hy
  · rintro _ rfl
    have e : es = [] := List.length_eq_zero_iff.mp (by rw [← l2]; rfl)
    subst e
    refine q _ H (Gr.refl H) ?_
    rw [List.append_nil]
    exact hx
  · intro _ _ r nr
    exact q _ _ (Gr.new nr) (new_TD nr (dpA_app hxs hys))
theorem sl_tupD : SlR X (rSlD X.K) := by
  intro pins s σ H x v vl vu lo hi sl Q I rx hs pl pu h
  obtain ⟨ds, hx, q⟩ := h
  obtain ⟨a, xs, rfl, ha, hxs⟩ := dp_tup hx
  have l1 := dpA_len hxs
  refine sl_tupA pins s σ H _ v vl vu lo hi sl Q I rx hs pl pu ⟨a, xs, rfl, ha, fun hw => ?_, fun _ p np => q _ _ (Gr.new np) (new_TD np (dpA_cut hxs lo hi))⟩
  have e : SfG.cutD ds lo hi = ds := by
    unfold SfG.cutD
    rw [← l1, hw.1, hw.2, List.drop_zero, Nat.sub_zero, l1, List.take_length]
  refine q _ H (Gr.refl H) ?_
  rw [e]
  exact hx
end
theorem wt_cut {ds : List PyData} {L D : Nat} (h : WtA ds L D) (lo hi : Option Int) : WtA (SfG.cutD ds lo hi) L D := (h.drop _).take _
/-! ### _law_odd -/
abbrev nOdd : List Str := ["_law_state", "_law_thing", "_law_way", "_law_some"]
theorem scOdd : FnScope nOdd ["_law_state", "_law_thing"] (defScope sOdd) := ⟨rfl, rfl, rfl, by decide +kernel, rfl, by decide +kernel, by decide +kernel⟩
/-- x + 1, x a number or a truth -/
def rAddN : R2 := fun x y H Q => ∃ (i j : Int), numV x = some i ∧ y = .int j ∧ Q (.int (i + j)) H
theorem op_addN {X : Cx} : OpR X (binaryOp .Add) rAddN := by
  intro pins s σ H x y v u Q I rx ry h
  obtain ⟨i, j, hx, rfl, q⟩ := h
  obtain ⟨t, rfl⟩ := ry
  cases x with
  | int k =>
    cases (show some k = some i from hx)
    exact op_add pins s σ H (.int i) (.int j) v (.int j t) Q I rx ⟨t, rfl⟩ ⟨_, _, rfl, rfl, q⟩
  | bl b =>
    cases (show some (SfG.b2i b) = some i from hx)
    cases rx
    refine PySem.IntBool.add_bool_int ⟨.int _, H, I.tok _, ⟨_, rfl⟩, ?_⟩
    cases b <;> exact q
  | _ => cases hx
end SfE
namespace SfE
open PySem PySem.Spec PyProof.Rows L2 SfG
theorem dpA_pick {K : PySem.W.Frag} {H : Hp} {ds : List PyData} {xs : List V} {i : Int} {n : Nat} (h : DpAll K H xs ds) (h0 : 0 ≤ i) (h1 : i < (n : Nat)) (hn : xs.length = n := by rfl) : ∃ v d, atI xs i = some v ∧ d ∈ ds ∧ Dp K H v d := by
  obtain ⟨k, rfl⟩ : ∃ k : Nat, i = (k : Nat) := ⟨i.toNat, by omega⟩
  have hk : k < xs.length := by omega
  obtain ⟨d, hd, hv⟩ := dpA_at h (show xs[k]? = some xs[k] by simp [hk])
  exact ⟨xs[k], d, atI_nat (by simp [hk]), List.mem_of_getElem? hd, hv⟩
def oddT (ds : List PyData) : List PyData := [.list ds, .tuple (SfG.cutD ds none (some (-1))), .tuple (ds ++ [.tuple [.str "number", .int 1]]), .tuple ds.reverse, .none, .tuple (SfG.cutD ds none (some 1)), .tuple [.str "refuse"], .tuple (SfG.cutD ds (some 1) none), .tuple [.str "give", .tuple [.tuple ds]], .tuple [.str "rest", .tuple ds, .int 2], .tuple [.str "number", .int 1], .tuple [.str "in", .int 0, .int 0], .tuple (ds ++ ds), .int 5, .tuple [], .tuple [.str "plus", .tuple ds, .tuple ds]]
theorem wt_lit {z : Str} {D : Nat} (h : (okd (.str z) && decide (wt (.str z) ≤ 100)) = true) : Wt (.str z) 100 D := by
  rw [Bool.and_eq_true, decide_eq_true_eq] at h
  exact ⟨h.1, h.2, by rw [PyData.depth]; exact Nat.zero_le _⟩
theorem wt_sm {i : Int} {D : Nat} (h : (okd (.int i) && decide (wt (.int i) ≤ 20)) = true) : Wt (.int i) 20 D := by
  rw [Bool.and_eq_true, decide_eq_true_eq] at h
  exact ⟨h.1, h.2, by rw [PyData.depth]; exact Nat.zero_le _⟩
theorem odd_wt {ds : List PyData} {L D : Nat} (h : Wt (.tuple ds) L D) (hD : D ≤ 20) : ∀ d ∈ oddT ds, Wt d (10 * L + 500) (D + 2) := by
  obtain ⟨a, b, c⟩ := h.un
  obtain ⟨D', rfl⟩ : ∃ D', D = D' + 1 := ⟨D - 1, by omega⟩
  have w : WtA ds (L - 3) D' := ⟨a.ok, by omega, by omega⟩
  have sh : ∀ {es : List PyData}, WtA es (L - 3) D' → Wt (.tuple es) (10 * L + 500) (D' + 1 + 2) := fun h => (Wt.tup h).mono (by omega) (by omega)
  have num : ∀ {D}, Wt (.tuple [.str "number", .int 1]) 150 (D + 1) := (Wt.tup (WtA.cons (wt_lit (by decide +kernel)) (WtA.cons (wt_sm (by decide +kernel)) (WtA.nil (L := 0))))).mono (by omega) (Nat.le_refl _)
  intro d hd
  unfold oddT at hd
  simp only [List.mem_cons, List.not_mem_nil, or_false] at hd
  rcases hd with rfl | rfl | rfl | rfl | rfl | rfl | rfl | rfl | rfl | rfl | rfl | rfl | rfl | rfl | rfl | rfl
  · exact (Wt.lst w).mono (by omega) (by omega)
  · exact sh (wt_cut w _ _)
  · exact (Wt.tup ((w.mono (Nat.le_refl _) (show D' ≤ D' + 1 by omega)).app (WtA.cons num (WtA.nil (L := 0))))).mono (by omega) (by omega)
  · exact sh w.rev
  · exact ⟨rfl, (by show (5 : Nat) ≤ _; omega), (by rw [PyData.depth]; exact Nat.zero_le _)⟩
  · exact sh (wt_cut w _ _)
  · exact (Wt.tup (D := 0) (WtA.cons (wt_lit (by decide +kernel)) (WtA.nil (L := 0)))).mono (by omega) (by omega)
  · exact sh (wt_cut w _ _)
  · exact (Wt.tup (WtA.cons (wt_lit (by decide +kernel)) (WtA.cons (Wt.tup (WtA.cons h (WtA.nil (L := 0)))) (WtA.nil (L := 0))))).mono (by omega) (by omega)
  · exact (Wt.tup (WtA.cons (wt_lit (by decide +kernel)) (WtA.cons h (WtA.cons (wt_sm (by decide +kernel)) (WtA.nil (L := 0)))))).mono (by omega) (by omega)
  · exact (num (D := 0)).mono (by omega) (by omega)
  · exact (Wt.tup (D := 0) (WtA.cons (wt_lit (by decide +kernel)) (WtA.cons (wt_sm (by decide +kernel)) (WtA.cons (wt_sm (by decide +kernel)) (WtA.nil (L := 0)))))).mono (by omega) (by omega)
  · exact (Wt.tup (w.app w)).mono (by omega) (by omega)
  · exact (wt_sm (D := 0) (by decide +kernel)).mono (by omega) (by omega)
  · exact (Wt.tup (D := 0) (WtA.nil (L := 0))).mono (by omega) (by omega)
  · exact (Wt.tup (WtA.cons (wt_lit (by decide +kernel)) (WtA.cons h (WtA.cons h (WtA.nil (L := 0)))))).mono (by omega) (by omega)
mutual
theorem dp_nod {K : PySem.W.Frag} {H : Hp} : ∀ {d : PyData} {v : V}, Dp K H v d → d.hasDict = false
  | .none, _, _ => rfl
  | .bool _, _, _ => rfl
  | .int _, _, _ => rfl
  | .str _, _, _ => rfl
  | .list _, _, .lst _ h => by rw [PyData.hasDict]; exact dpA_nod h
  | .tuple _, _, .tup _ h => by rw [PyData.hasDict]; exact dpA_nod h
  | .dict _, _, h => by cases h
theorem dpA_nod {K : PySem.W.Frag} {H : Hp} : ∀ {ds : List PyData} {vs : List V}, DpAll K H vs ds → PyData.hasDictAll ds = false
  | [], _, _ => rfl
  | _ :: _, _, .cons h t => by rw [PyData.hasDictAll, dp_nod h, dpA_nod t]; rfl
end
theorem dpA_strs {K : PySem.W.Frag} {H : Hp} : ∀ (l : List Str), DpAll K H (l.map V.str) (l.map PyData.str)
  | [] => .nil
  | z :: r => .cons (.str z) (dpA_strs r)
def oddN (d : PyData) : List PyData := [d, .int 0, .int 1, .int 2, .int 3, .int 9, .int 10, .int 99, .int 100, .int (-1), .bool true, .bool false, .str d.shown, .none, .tuple [d], .list [d]]
theorem wt_bl {b : Bool} {D : Nat} : Wt (.bool b) 5 D := ⟨rfl, Nat.le_refl _, by rw [PyData.depth]; exact Nat.zero_le _⟩
theorem wt_no {D : Nat} : Wt .none 5 D := ⟨rfl, Nat.le_refl _, by rw [PyData.depth]; exact Nat.zero_le _⟩
theorem okd_txt {z : Str} (h : AscT z) : okd (.str z) = true := by
  rw [okd]
  exact List.all_eq_true.mpr fun c hc => decide_eq_true (h c hc)
theorem oddN_wt {d : PyData} {L D : Nat} (h : Wt d L D) (hD : D ≤ 20) : ∀ e ∈ oddN d, Wt e (10 * L + 500) (D + 2) := by
  intro e he
  unfold oddN at he
  simp only [List.mem_cons, List.not_mem_nil, or_false] at he
  rcases he with rfl | rfl | rfl | rfl | rfl | rfl | rfl | rfl | rfl | rfl | rfl | rfl | rfl | rfl | rfl | rfl
  · exact h.mono (by omega) (by omega)
  · exact (wt_sm (D := 0) (by decide +kernel)).mono (by omega) (by omega)
  · exact (wt_sm (D := 0) (by decide +kernel)).mono (by omega) (by omega)
  · exact (wt_sm (D := 0) (by decide +kernel)).mono (by omega) (by omega)
  · exact (wt_sm (D := 0) (by decide +kernel)).mono (by omega) (by omega)
  · exact (wt_sm (D := 0) (by decide +kernel)).mono (by omega) (by omega)
  · exact (wt_sm (D := 0) (by decide +kernel)).mono (by omega) (by omega)
  · exact (wt_sm (D := 0) (by decide +kernel)).mono (by omega) (by omega)
  · exact (wt_sm (D := 0) (by decide +kernel)).mono (by omega) (by omega)
  · exact (wt_sm (D := 0) (by decide +kernel)).mono (by omega) (by omega)
  · exact (wt_bl (D := 0)).mono (by omega) (by omega)
  · exact (wt_bl (D := 0)).mono (by omega) (by omega)
  · have h1 := okd_len h.ok
    have h2 := h.le
    exact ⟨okd_txt (okd_asc h.ok), by rw [wt]; omega, by rw [PyData.depth]; exact Nat.zero_le _⟩
  · exact (wt_no (D := 0)).mono (by omega) (by omega)
  · exact (Wt.tup (WtA.cons h (WtA.nil (L := 0)))).mono (by omega) (by omega)
  · exact (Wt.lst (WtA.cons h (WtA.nil (L := 0)))).mono (by omega) (by omega)
mutual
/-- no number beyond a bound -/
def sI (B : Nat) : PyData → Bool
  | .none => true
  | .bool _ => true
  | .int i => decide (i.natAbs ≤ B)
  | .str _ => true
  | .list ds => sIA B ds
  | .tuple ds => sIA B ds
  | .dict _ => true
def sIA (B : Nat) : List PyData → Bool
  | [] => true
  | d :: r => sI B d && sIA B r
end
theorem sIA_iff {B : Nat} : ∀ {ds : List PyData}, sIA B ds = true ↔ ∀ d ∈ ds, sI B d = true
  | [] => ⟨fun _ d h => (by cases h), fun _ => by rw [sIA]⟩
  | d :: r => by
    rw [sIA, Bool.and_eq_true, sIA_iff (ds := r)]
    exact ⟨fun h e he => by
      rcases List.mem_cons.mp he with rfl | he
      · exact h.1
      · exact h.2 e he, fun h => ⟨h d List.mem_cons_self, fun e he => h e (List.mem_cons_of_mem _ he)⟩⟩
theorem sI_tup {B : Nat} {ds : List PyData} : sI B (.tuple ds) = true ↔ ∀ d ∈ ds, sI B d = true := by rw [sI]; exact sIA_iff
theorem sI_lst {B : Nat} {ds : List PyData} : sI B (.list ds) = true ↔ ∀ d ∈ ds, sI B d = true := by rw [sI]; exact sIA_iff
mutual
theorem sI_mono {B C : Nat} (h : B ≤ C) : ∀ {d : PyData}, sI B d = true → sI C d = true
  | .none, _ => by rw [sI]
  | .bool _, _ => by rw [sI]
  | .int i, hd => by
    rw [sI, decide_eq_true_eq] at hd ⊢
    omega
  | .str _, _ => by rw [sI]
  | .list ds, hd => by
    rw [sI] at hd ⊢
    exact sIA_mono h hd
  | .tuple ds, hd => by
    rw [sI] at hd ⊢
    exact sIA_mono h hd
  | .dict _, _ => by rw [sI]
theorem sIA_mono {B C : Nat} (h : B ≤ C) : ∀ {ds : List PyData}, sIA B ds = true → sIA C ds = true
  | [], _ => by rw [sIA]
  | d :: r, hd => by
    rw [sIA, Bool.and_eq_true] at hd ⊢
    exact ⟨sI_mono h hd.1, sIA_mono h hd.2⟩
end
theorem sI_num {B : Nat} {i : Int} (h : i.natAbs ≤ B) : sI B (.int i) = true := by
  rw [sI]
  exact decide_eq_true h
theorem wt_next {d : PyData} {L D B : Nat} {i : Int} (hB : 100 ≤ B ∧ B ≤ 1000) (h : sI B d = true) (hN : numD d = some i) : Wt (.int (i + 1)) (10 * L + 500) (D + 2) := by
  have hi : i.natAbs ≤ 1000 := by
    cases d with
    | int j =>
      cases hN
      rw [sI, decide_eq_true_eq] at h
      omega
    | bool b => cases b <;> cases hN <;> decide
    | _ => cases hN
  have hl : (i + 1).natAbs.log2 < 10 := by
    rcases Nat.eq_zero_or_pos (i + 1).natAbs with z | z
    · rw [z]; decide
    · exact (Nat.log2_lt (by omega)).mpr (by omega)
  exact ⟨by rw [okd]; exact decide_eq_true (by omega), by rw [wt]; omega, by rw [PyData.depth]; exact Nat.zero_le _⟩
theorem sI_next {d : PyData} {B : Nat} {i : Int} (hB : 100 ≤ B ∧ B ≤ 1000) (h : sI B d = true) (hN : numD d = some i) : sI (B + 1) (.int (i + 1)) = true := by
  refine sI_num ?_
  cases d with
  | int j =>
    cases hN
    rw [sI, decide_eq_true_eq] at h
    omega
  | bool b =>
    have : i.natAbs ≤ 1 := by cases b <;> cases hN <;> decide
    omega
  | _ => cases hN
theorem sI_cut {B : Nat} {ds : List PyData} (h : ∀ d ∈ ds, sI B d = true) (lo hi : Option Int) : ∀ d ∈ SfG.cutD ds lo hi, sI B d = true := fun d hd => by
  unfold SfG.cutD at hd
  exact h d (List.mem_of_mem_drop (List.mem_of_mem_take hd))
theorem sI_lit {d : PyData} {B : Nat} (hB : 100 ≤ B) (h : sI 100 d = true) : sI (B + 1) d = true := sI_mono (by omega) h
theorem oddT_sI {ds : List PyData} {B : Nat} (hB : 100 ≤ B ∧ B ≤ 1000) (h0 : sI B (.tuple ds) = true) : ∀ d ∈ oddT ds, sI (B + 1) d = true := by
  have hT : sI (B + 1) (.tuple ds) = true := sI_mono (by omega) h0
  have h := sI_tup.mp hT
  have c := hB.1
  intro d hd
  unfold oddT at hd
  simp only [List.mem_cons, List.not_mem_nil, or_false] at hd
  rcases hd with rfl | rfl | rfl | rfl | rfl | rfl | rfl | rfl | rfl | rfl | rfl | rfl | rfl | rfl | rfl | rfl
  · exact sI_lst.mpr h
  · exact sI_tup.mpr (sI_cut h _ _)
  · refine sI_tup.mpr fun d hd => ?_
    rcases List.mem_append.mp hd with hd | hd
    · exact h d hd
    · rw [List.mem_singleton.mp hd]
      exact sI_lit c (by decide +kernel)
  · exact sI_tup.mpr fun d hd => h d (List.mem_reverse.mp hd)
  · rw [sI]
  · exact sI_tup.mpr (sI_cut h _ _)
  · exact sI_lit c (by decide +kernel)
  · exact sI_tup.mpr (sI_cut h _ _)
  · refine sI_tup.mpr fun d hd => ?_
    simp only [List.mem_cons, List.not_mem_nil, or_false] at hd
    rcases hd with rfl | rfl
    · rw [sI]
    · exact sI_tup.mpr fun d hd => by rw [List.mem_singleton.mp hd]; exact hT
  · refine sI_tup.mpr fun d hd => ?_
    simp only [List.mem_cons, List.not_mem_nil, or_false] at hd
    rcases hd with rfl | rfl | rfl
    · rw [sI]
    · exact hT
    · exact sI_lit c (by decide +kernel)
  · exact sI_lit c (by decide +kernel)
  · exact sI_lit c (by decide +kernel)
  · refine sI_tup.mpr fun d hd => ?_
    rcases List.mem_append.mp hd with hd | hd <;> exact h d hd
  · exact sI_lit c (by decide +kernel)
  · exact sI_lit c (by decide +kernel)
  · refine sI_tup.mpr fun d hd => ?_
    simp only [List.mem_cons, List.not_mem_nil, or_false] at hd
    rcases hd with rfl | rfl | rfl
    · rw [sI]
    · exact hT
    · exact hT
theorem oddN_sI {d : PyData} {B : Nat} (hB : 100 ≤ B ∧ B ≤ 1000) (h0 : sI B d = true) : ∀ e ∈ oddN d, sI (B + 1) e = true := by
  have hT : sI (B + 1) d = true := sI_mono (by omega) h0
  have c := hB.1
  intro e he
  unfold oddN at he
  simp only [List.mem_cons, List.not_mem_nil, or_false] at he
  rcases he with rfl | rfl | rfl | rfl | rfl | rfl | rfl | rfl | rfl | rfl | rfl | rfl | rfl | rfl | rfl | rfl
  · exact hT
  · exact sI_lit c (by decide +kernel)
  · exact sI_lit c (by decide +kernel)
  · exact sI_lit c (by decide +kernel)
  · exact sI_lit c (by decide +kernel)
  · exact sI_lit c (by decide +kernel)
  · exact sI_lit c (by decide +kernel)
  · exact sI_lit c (by decide +kernel)
  · exact sI_lit c (by decide +kernel)
  · exact sI_lit c (by decide +kernel)
  · rw [sI]
  · rw [sI]
  · rw [sI]
  · rw [sI]
  · exact sI_tup.mpr fun e he => by rw [List.mem_singleton.mp he]; exact hT
  · exact sI_lst.mpr fun e he => by rw [List.mem_singleton.mp he]; exact hT
def strs13 : List Str := ["plus", "less", "times", "rest", "same", "under", "if", "number", "in", "give", "refuse", "when", ""]
theorem oddS_sI {z : Str} {B : Nat} : ∀ e ∈ strs13.map PyData.str ++ [.str "Plus", .none, .str (z ++ "s")], sI B e = true := by
  intro e he
  rcases List.mem_append.mp he with he | he
  · obtain ⟨x, hx, rfl⟩ := List.mem_map.mp he
    rw [sI]
  · simp only [List.mem_cons, List.not_mem_nil, or_false] at he
    rcases he with rfl | rfl | rfl <;> rw [sI]
theorem oddS_wt {z : Str} {L D : Nat} (h : Wt (.str z) L D) : ∀ e ∈ strs13.map PyData.str ++ [.str "Plus", .none, .str (z ++ "s")], Wt e (10 * L + 500) (D + 2) := by
  intro e he
  rcases List.mem_append.mp he with he | he
  · obtain ⟨x, hx, rfl⟩ := List.mem_map.mp he
    have h2 : (strs13.all fun x => okd (.str x) && decide (wt (.str x) ≤ 100)) = true := by decide +kernel
    exact (wt_lit (D := 0) (List.all_eq_true.mp h2 x hx)).mono (by omega) (by omega)
  · simp only [List.mem_cons, List.not_mem_nil, or_false] at he
    rcases he with rfl | rfl | rfl
    · exact (wt_lit (D := 0) (by decide +kernel)).mono (by omega) (by omega)
    · exact (wt_no (D := 0)).mono (by omega) (by omega)
    · have h1 := h.text
      have h2 : (z ++ "s" : Str).length = z.length + 1 := PySem.strLen_append z "s"
      exact ⟨okd_txt (ascT_app (okd_str h.ok) (ascT_lit (by decide +kernel))), by rw [wt, h2]; omega, by rw [PyData.depth]; exact Nat.zero_le _⟩
section
variable {P : Program} {w : World} {K : PySem.W.Frag} {mg : Str → Option Value} {base : Heap}
def spOdd (K : PySem.W.Frag) : Sp := fun vs H Q _ => ∃ (p : Addr) (t : V) (d : PyData) (L D B : Nat), vs = [.ref p, t] ∧ Drw H p ∧ Dp K H t d ∧ Wt d L D ∧ sI B d = true ∧ (100 ≤ B ∧ B ≤ 1000) ∧ L ≤ 900000 ∧ D ≤ 20 ∧
  ∀ H' v d', Gp p H H' → Drw H' p → Dp K H' v d' → Wt d' (10 * L + 500) (D + 2) → sI (B + 1) d' = true → Q v H'
structure OddNames (mg : Str → Option Value) : Prop where
  mi : mg "isinstance" = none
  mt : mg "tuple" = none
  ms : mg "str" = none
  mli : mg "list" = none
  mn : mg "int" = none
set_option maxHeartbeats 8000000 in
theorem ok_odd {f fP : Addr} {fd fdP : FuncData} {k : Nat} (F : Fun K "_law_odd" "_law_odd" sOdd f fd) (HP : Has P w K mg base k "_law_pick" ["_law_state", "_law_many"] spPick fP fdP) (N : OddNames mg) :
    FnG P w K mg base CX0 (k + 1) f fd ["_law_state", "_law_thing"] (spOdd K) := by
  refine fng_of F scOdd (fun vs H Q E h => ?_) (fun cdv A outer s H vs Q E hr hgd h => ?_)
  · obtain ⟨p, t, d, L, D, B, rfl, _⟩ := h
    rfl
  · obtain ⟨p, t, d, L, D, B, rfl, dr, hd, hw, hs, hB, hL, hD, fin⟩ := h
    have nd := scOdd.nd
    refine' ⟨_, pss_cons ?s1 (pss_cons ?s2 (pss_cons ?s3 (pss_cons ?s4 (pss_one ?s5)))), ?rd⟩
    case s1 => exact ps_set (i := 2) nd rfl (.inl rfl) (hcall HP hr (pa_cons (pv 0) (pa_cons pe_int pa_nil)))
    case s2 =>
      refine' ps_if (pt_val (pe_isi "tuple" 1 N.mi N.mt (by decide +kernel))) (pss_cons ?a1 (pss_cons ?a2 (pss_one ?a3))) pss_nil
      case a1 =>
        exact ps_set (i := 3) nd rfl (.inl rfl) (pe_lst (pa_cons (pe_callTy call_list_of (by rfl) N.mli (by decide +kernel) (pa_cons (pv 1) pa_nil)) (pa_cons (pe_slice sl_tupD (pv 1) po_none (po_some (pe_un un_neg pe_int)))
          (pa_cons (pe_op op_catD (pv 1) (pe_tup (pa_cons (pe_tup (pa_cons pe_str (pa_cons pe_int pa_nil))) pa_nil))) (pa_cons (pe_revT (pv 1)) (pa_cons pe_non (pa_cons (pe_slice sl_tupD (pv 1) po_none (po_some pe_int))
          (pa_cons (pe_tup (pa_cons pe_str pa_nil)) (pa_cons (pe_slice sl_tupD (pv 1) (po_some pe_int) po_none) pa_nil)))))))))
      case a2 =>
        exact ps_set (i := 3) nd rfl (.inl rfl) (pe_op op_cat (pv 3) (pe_lst (pa_cons (pe_tup (pa_cons pe_str (pa_cons (pe_tup (pa_cons (pv 1) pa_nil)) pa_nil))) (pa_cons (pe_tup (pa_cons pe_str (pa_cons (pv 1) (pa_cons pe_int pa_nil))))
          (pa_cons (pe_tup (pa_cons pe_str (pa_cons pe_int pa_nil))) (pa_cons (pe_tup (pa_cons pe_str (pa_cons pe_int (pa_cons pe_int pa_nil)))) (pa_cons (pe_op op_catD (pv 1) (pv 1)) (pa_cons pe_int (pa_cons (pe_tup pa_nil) pa_nil)))))))))
      case a3 =>
        exact ps_ret (pe_ix ix_list (pe_op op_cat (pv 3) (pe_lst (pa_cons (pe_tup (pa_cons pe_str (pa_cons (pv 1) (pa_cons (pv 1) pa_nil)))) pa_nil))) (pv 2) (fun _ _ => rfl))
    case s3 =>
      refine' ps_if (pt_val (pe_isi "str" 1 N.mi N.ms (by decide +kernel))) (pss_cons ?b1 (pss_one ?b2)) pss_nil
      case b1 =>
        exact ps_set (i := 3) nd rfl (.inl rfl) (pe_lst (pa_cons pe_str (pa_cons pe_str (pa_cons pe_str (pa_cons pe_str (pa_cons pe_str (pa_cons pe_str (pa_cons pe_str (pa_cons pe_str (pa_cons pe_str (pa_cons pe_str (pa_cons pe_str (pa_cons pe_str (pa_cons pe_str pa_nil))))))))))))))
      case b2 =>
        exact ps_ret (pe_ix ix_list (pe_op op_cat (pv 3) (pe_lst (pa_cons pe_str (pa_cons pe_non (pa_cons (pe_op op_add_str (pv 1) pe_str) pa_nil))))) (pv 2) (fun _ _ => rfl))
    case s4 =>
      exact ps_set (i := 3) nd rfl (.inl rfl) (pe_lst (pa_cons (pv 1) (pa_cons pe_int (pa_cons pe_int (pa_cons pe_int (pa_cons pe_int (pa_cons pe_int (pa_cons pe_int (pa_cons pe_int (pa_cons pe_int (pa_cons (pe_un un_neg pe_int) (pa_cons pe_bl (pa_cons pe_bl
        (pa_cons (pe_callTy (call_strD hr hgd) (by rfl) N.ms (by decide +kernel) (pa_cons (pv 1) pa_nil)) (pa_cons pe_non (pa_cons (pe_tup (pa_cons (pv 1) pa_nil)) (pa_cons (pe_lst (pa_cons (pv 1) pa_nil)) pa_nil)))))))))))))))))
    case s5 =>
      exact ps_ret (pe_ifExp (PW.pt (pw_or (pt_cmpR op_gt (pv 2) pe_int (nomark _)) (pw_or1 (pt_not (pt_val (pe_isi "int" 1 N.mi N.mn (by decide +kernel))))))) (pe_ix ix_list (pv 3) (pv 2) (fun _ _ => rfl)) (pe_op op_addN (pv 1) pe_int))
    case rd =>
    refine ⟨_, rfl, p, 16, rfl, dr, by decide, by decide, fun H1 way b1 dr1 w0 w16 => ?_⟩
    have g1 : Gp p H H1 := Gp.but b1
    have hd1 := (dr.kd g1).dp hd
    have hI := dp_is hd1
    refine ⟨_, rfl, _, _, hI.1, kit_tuple _ hI.2, _, rfl, ?_⟩
    rcases tup_is d with h1 | ⟨ds, rfl⟩
    · rw [h1]
      refine iteF ?_
      refine ⟨_, rfl, _, _, hI.1, kit_str _ hI.2, _, rfl, ?_⟩
      rcases str_is d with h2 | ⟨z, rfl⟩
      · rw [h2]
        refine iteF ?_
        have nod := dp_nod hd1
        have wd := hw.dep
        have wl := hw.le
        have hsz : d.shown.length ≤ sizeLine := Nat.le_of_lt (small10000001 (by have := okd_len hw.ok; omega))
        have hns : ∀ z, d ≠ .str z := fun z e => by rw [e] at h2; exact absurd h2 (by show ¬ ("str" == "str") = false; decide)
        refine ⟨_, rfl, 1, rfl, _, rfl, t, d, rfl, hd1, hns, okd_able hw.ok, nod, by omega, hsz, ?_⟩
        refine ⟨_, rfl, by show 1 ≤ sizeLine; decide, fun t1 n1 => ?_⟩
        have k1 : Gr H1 (upd H1 t1 (.tup [t])) := Gr.new n1
        have D1 : Dp K (upd H1 t1 (.tup [t])) (.ref t1) (.tuple [d]) := new_TD n1 (.cons hd1 .nil)
        have hd2 := k1.kd.dp hd1
        generalize upd H1 t1 (.tup [t]) = S1 at k1 D1 hd2 ⊢
        refine ⟨_, rfl, by show 1 ≤ sizeLine; decide, fun t2 n2 => ?_⟩
        have k2 : Gr S1 (upd S1 t2 (.lst [t])) := Gr.new n2
        have D2 : Dp K (upd S1 t2 (.lst [t])) (.ref t2) (.list [d]) := new_LD n2 (.cons hd2 .nil)
        replace D1 := k2.kd.dp D1
        replace hd2 := k2.kd.dp hd2
        generalize upd S1 t2 (.lst [t]) = S2 at k2 D1 D2 hd2 ⊢
        refine ⟨by show 16 ≤ sizeLine; decide, fun l3 n3 => ?_⟩
        have k3 : Gr S2 (upd S2 l3 (.lst [t, .int 0, .int 1, .int 2, .int 3, .int 9, .int 10, .int 99, .int 100, .int (-1), .bl true, .bl false, .str d.shown, .non, .ref t1, .ref t2])) := Gr.new n3
        have L3 : upd S2 l3 (.lst [t, .int 0, .int 1, .int 2, .int 3, .int 9, .int 10, .int 99, .int 100, .int (-1), .bl true, .bl false, .str d.shown, .non, .ref t1, .ref t2]) l3 = some (.lst [t, .int 0, .int 1, .int 2, .int 3, .int 9, .int 10, .int 99, .int 100, .int (-1), .bl true, .bl false, .str d.shown, .non, .ref t1, .ref t2]) := upd_same
        replace D1 := k3.kd.dp D1
        replace D2 := k3.kd.dp D2
        replace hd2 := k3.kd.dp hd2
        refine gname_go ?_
        dsimp only
        generalize upd S2 l3 (.lst [t, .int 0, .int 1, .int 2, .int 3, .int 9, .int 10, .int 99, .int 100, .int (-1), .bl true, .bl false, .str d.shown, .non, .ref t1, .ref t2]) = S3 at k3 L3 D1 D2 hd2 ⊢
        have G : Gr H1 S3 := k1.trans (k2.trans k3)
        have A : DpAll K S3 [t, .int 0, .int 1, .int 2, .int 3, .int 9, .int 10, .int 99, .int 100, .int (-1), .bl true, .bl false, .str d.shown, .non, .ref t1, .ref t2] (oddN d) :=
          .cons hd2 (.cons (.int _) (.cons (.int _) (.cons (.int _) (.cons (.int _) (.cons (.int _) (.cons (.int _) (.cons (.int _) (.cons (.int _) (.cons (.int _) (.cons (.bl _) (.cons (.bl _) (.cons (.str _) (.cons .non (.cons D1 (.cons D2 .nil)))))))))))))))
        have pick : ∃ v, atI [t, .int 0, .int 1, .int 2, .int 3, .int 9, .int 10, .int 99, .int 100, .int (-1), .bl true, .bl false, .str d.shown, .non, .ref t1, .ref t2] way = some v ∧ Q v S3 := by
          obtain ⟨v, d', ev, hm, hv⟩ := dpA_pick A w0 w16
          exact ⟨v, ev, fin _ v d' (g1.trans (Gp.gr G)) (dr1.gr G) hv (oddN_wt hw hD d' hm) (oddN_sI hB hs d' hm)⟩
        obtain ⟨v, ev, hv⟩ := pick
        have take : tRet (tOp (rIxL K) (tVar 3) (tVar 2)) { nx := fun _ H' => Q .non H', rt := Q } [some (.ref p), some t, some (.int way), some (.ref l3)] S3 := ⟨_, rfl, _, rfl, l3, _, way, v, rfl, rfl, .inl (.inl L3), ev, hv⟩
        have hI3 := dp_is hd2
        refine ⟨_, rfl, way, 0, rfl, rfl, _, rfl, ?_⟩
        by_cases hway : way > 0
        · rw [decide_eq_true hway]
          exact iteT (iteT take)
        rw [decide_eq_false hway]
        refine iteF ⟨_, rfl, _, _, hI3.1, kit_intN, _, rfl, ?_⟩
        cases hN : numD d with
        | none => exact iteT take
        | some i =>
          refine iteF ⟨_, rfl, i, 1, (num_vd hd2).trans hN, rfl, fin _ _ (.int (i + 1)) (g1.trans (Gp.gr G)) (dr1.gr G) (.int _) (wt_next hB hs hN) (sI_next hB hs hN)⟩
      · rw [show (tyD (.str z) == "str") = true from by show ("str" == "str") = true; decide]
        refine iteT ?_
        cases dp_str hd1
        refine ⟨by show 13 ≤ sizeLine; decide, fun l1 nl1 => ?_⟩
        have L1 : upd H1 l1 (.lst (strs13.map V.str)) l1 = some (.lst (strs13.map V.str)) := upd_same
        have k1 : Gr H1 (upd H1 l1 (.lst (strs13.map V.str))) := Gr.new nl1
        refine gname_go ?_
        dsimp only
        change tRet _ _ _ (upd H1 l1 (.lst (strs13.map V.str)))
        generalize upd H1 l1 (.lst (strs13.map V.str)) = S1 at L1 k1 ⊢
        have zl : 10 * z.length + 2 ≤ L := hw.text
        refine ⟨_, rfl, _, rfl, z, "s", rfl, rfl, Nat.le_of_lt (small10000001 (by have : ("s" : Str).length = 1 := (by decide +kernel); omega)), ?_⟩
        refine ⟨by show 3 ≤ sizeLine; decide, fun l2 nl2 => ?_⟩
        have L2 : upd S1 l2 (.lst [.str "Plus", .non, .str (z ++ "s")]) l2 = some (.lst [.str "Plus", .non, .str (z ++ "s")]) := upd_same
        have k2 : Gr S1 (upd S1 l2 (.lst [.str "Plus", .non, .str (z ++ "s")])) := Gr.new nl2
        replace L1 := k2.lst L1
        generalize upd S1 l2 (.lst [.str "Plus", .non, .str (z ++ "s")]) = S2 at L1 L2 k2 ⊢
        refine ⟨l1, l2, _, _, rfl, rfl, L1, L2, by show 16 ≤ sizeLine; decide, fun l3 nl3 => ?_⟩
        have k3 : Gr S2 (upd S2 l3 (.lst (strs13.map V.str ++ [.str "Plus", .non, .str (z ++ "s")]))) := Gr.new nl3
        have L3 : upd S2 l3 (.lst (strs13.map V.str ++ [.str "Plus", .non, .str (z ++ "s")])) l3 = some (.lst (strs13.map V.str ++ [.str "Plus", .non, .str (z ++ "s")])) := upd_same
        generalize upd S2 l3 (.lst (strs13.map V.str ++ [.str "Plus", .non, .str (z ++ "s")])) = S3 at L3 k3 ⊢
        have G : Gr H1 S3 := k1.trans (k2.trans k3)
        have A : DpAll K S3 (strs13.map V.str ++ [.str "Plus", .non, .str (z ++ "s")]) (strs13.map PyData.str ++ [.str "Plus", .none, .str (z ++ "s")]) := dpA_app (dpA_strs _) (.cons (.str _) (.cons .non (.cons (.str _) .nil)))
        obtain ⟨v, d, ev, hm, hv⟩ := dpA_pick A w0 w16
        exact ⟨_, rfl, l3, _, way, v, rfl, rfl, .inl (.inl L3), ev, fin _ v d (g1.trans (Gp.gr G)) (dr1.gr G) hv (oddS_wt hw d hm) (oddS_sI d hm)⟩
    · rw [show (tyD (.tuple ds) == "tuple") = true from by show ("tuple" == "tuple") = true; decide]
      refine iteT ?_
      have lsz : ds.length + [PyData.tuple [.str "number", .int 1]].length ≤ sizeLine := by
        have h1 := wtA_len ds
        have h2 := hw.un.2.2
        have h3 : ds.length + 1 < sizeLine := small10000001 (by omega)
        exact Nat.le_of_lt h3
      have lsz2 : ds.length + ds.length ≤ sizeLine := by
        have h1 := wtA_len ds
        have h2 := hw.un.2.2
        exact Nat.le_of_lt (small10000001 (by omega))
      obtain ⟨pt, xs, rfl, hp, hxs⟩ := dp_tup hd1
      have G : Gr H1 H1 := Gr.refl H1
      have lx := dpA_len hxs
      refine ⟨_, rfl, pt, _, rfl, .inr hp, fun t1 nt1 => ?_⟩
      have k1 : Gr H1 (upd H1 t1 (.lst xs)) := Gr.new nt1
      have D1 : Dp K (upd H1 t1 (.lst xs)) (.ref t1) (.list ds) := new_LD nt1 hxs
      have U1 : upd H1 t1 (.lst xs) t1 = some (.lst xs) := upd_same
      generalize upd H1 t1 (.lst xs) = S1 at k1 D1 U1 ⊢
      replace hd1 := k1.kd.dp hd1
      replace G := G.trans k1
      refine ⟨_, rfl, 1, rfl, _, rfl, ds, hd1, fun v2 S2 k2 D2 => ?_⟩
      replace hd1 := k2.kd.dp hd1
      replace D1 := k2.kd.dp D1
      replace G := G.trans k2
      refine ⟨_, rfl, by show 2 ≤ sizeLine; decide, fun t3 nt3 => ?_⟩
      have k3 : Gr S2 (upd S2 t3 (.tup [.str "number", .int 1])) := Gr.new nt3
      have D3 : Dp K (upd S2 t3 (.tup [.str "number", .int 1])) (.ref t3) (.tuple [.str "number", .int 1]) := new_TD nt3 (.cons (.str _) (.cons (.int _) .nil))
      have U3 : upd S2 t3 (.tup [.str "number", .int 1]) t3 = some (.tup [.str "number", .int 1]) := upd_same
      generalize upd S2 t3 (.tup [.str "number", .int 1]) = S3 at k3 D3 U3 ⊢
      replace hd1 := k3.kd.dp hd1
      replace D1 := k3.kd.dp D1
      replace D2 := k3.kd.dp D2
      replace G := G.trans k3
      refine ⟨by show 1 ≤ sizeLine; decide, fun t4 nt4 => ?_⟩
      have k4 : Gr S3 (upd S3 t4 (.tup [.ref t3])) := Gr.new nt4
      have D4 : Dp K (upd S3 t4 (.tup [.ref t3])) (.ref t4) (.tuple [.tuple [.str "number", .int 1]]) := new_TD nt4 (.cons D3 .nil)
      have U4 : upd S3 t4 (.tup [.ref t3]) t4 = some (.tup [.ref t3]) := upd_same
      generalize upd S3 t4 (.tup [.ref t3]) = S4 at k4 D4 U4 ⊢
      replace hd1 := k4.kd.dp hd1
      replace D1 := k4.kd.dp D1
      replace D2 := k4.kd.dp D2
      replace D3 := k4.kd.dp D3
      replace G := G.trans k4
      refine ⟨ds, _, hd1, D4, lsz, fun v5 S5 k5 D5 => ?_⟩
      replace hd1 := k5.kd.dp hd1
      replace D1 := k5.kd.dp D1
      replace D2 := k5.kd.dp D2
      replace D3 := k5.kd.dp D3
      replace D4 := k5.kd.dp D4
      replace G := G.trans k5
      obtain ⟨pt2, xs2, ept, hp2, hxs2⟩ := dp_tup hd1
      cases ept
      refine ⟨_, rfl, pt, xs2, rfl, hp2, fun t6 nt6 => ?_⟩
      have k6 : Gr S5 (upd S5 t6 (.tup xs2.reverse)) := Gr.new nt6
      have D6 : Dp K (upd S5 t6 (.tup xs2.reverse)) (.ref t6) (.tuple ds.reverse) := new_TD nt6 (dpA_rev hxs2)
      have U6 : upd S5 t6 (.tup xs2.reverse) t6 = some (.tup xs2.reverse) := upd_same
      generalize upd S5 t6 (.tup xs2.reverse) = S6 at k6 D6 U6 ⊢
      replace hd1 := k6.kd.dp hd1
      replace D1 := k6.kd.dp D1
      replace D2 := k6.kd.dp D2
      replace D3 := k6.kd.dp D3
      replace D4 := k6.kd.dp D4
      replace D5 := k6.kd.dp D5
      replace G := G.trans k6
      refine ⟨_, rfl, 1, rfl, ds, hd1, fun v7 S7 k7 D7 => ?_⟩
      replace hd1 := k7.kd.dp hd1
      replace D1 := k7.kd.dp D1
      replace D2 := k7.kd.dp D2
      replace D3 := k7.kd.dp D3
      replace D4 := k7.kd.dp D4
      replace D5 := k7.kd.dp D5
      replace D6 := k7.kd.dp D6
      replace G := G.trans k7
      refine ⟨by show 1 ≤ sizeLine; decide, fun t8 nt8 => ?_⟩
      have k8 : Gr S7 (upd S7 t8 (.tup [.str "refuse"])) := Gr.new nt8
      have D8 : Dp K (upd S7 t8 (.tup [.str "refuse"])) (.ref t8) (.tuple [.str "refuse"]) := new_TD nt8 (.cons (.str _) .nil)
      have U8 : upd S7 t8 (.tup [.str "refuse"]) t8 = some (.tup [.str "refuse"]) := upd_same
      generalize upd S7 t8 (.tup [.str "refuse"]) = S8 at k8 D8 U8 ⊢
      replace hd1 := k8.kd.dp hd1
      replace D1 := k8.kd.dp D1
      replace D2 := k8.kd.dp D2
      replace D3 := k8.kd.dp D3
      replace D4 := k8.kd.dp D4
      replace D5 := k8.kd.dp D5
      replace D6 := k8.kd.dp D6
      replace D7 := k8.kd.dp D7
      replace G := G.trans k8
      refine ⟨_, rfl, 1, rfl, ds, hd1, fun v9 S9 k9 D9 => ?_⟩
      replace hd1 := k9.kd.dp hd1
      replace D1 := k9.kd.dp D1
      replace D2 := k9.kd.dp D2
      replace D3 := k9.kd.dp D3
      replace D4 := k9.kd.dp D4
      replace D5 := k9.kd.dp D5
      replace D6 := k9.kd.dp D6
      replace D7 := k9.kd.dp D7
      replace D8 := k9.kd.dp D8
      replace G := G.trans k9
      refine ⟨by show 8 ≤ sizeLine; decide, fun l1 nl1 => ?_⟩
      have k10 : Gr S9 (upd S9 l1 (.lst [.ref t1, v2, v5, .ref t6, .non, v7, .ref t8, v9])) := Gr.new nl1
      have L1 : upd S9 l1 (.lst [.ref t1, v2, v5, .ref t6, .non, v7, .ref t8, v9]) l1 = some (.lst [.ref t1, v2, v5, .ref t6, .non, v7, .ref t8, v9]) := upd_same
      generalize upd S9 l1 (.lst [.ref t1, v2, v5, .ref t6, .non, v7, .ref t8, v9]) = S10 at k10 L1 ⊢
      replace hd1 := k10.kd.dp hd1
      replace D1 := k10.kd.dp D1
      replace D2 := k10.kd.dp D2
      replace D3 := k10.kd.dp D3
      replace D4 := k10.kd.dp D4
      replace D5 := k10.kd.dp D5
      replace D6 := k10.kd.dp D6
      replace D7 := k10.kd.dp D7
      replace D8 := k10.kd.dp D8
      replace D9 := k10.kd.dp D9
      replace G := G.trans k10
      refine gname_go ?_
      dsimp only
      refine ⟨_, rfl, _, rfl, by show 1 ≤ sizeLine; decide, fun t11 nt11 => ?_⟩
      have k11 : Gr S10 (upd S10 t11 (.tup [.ref pt])) := Gr.new nt11
      have D11 : Dp K (upd S10 t11 (.tup [.ref pt])) (.ref t11) (.tuple [.tuple ds]) := new_TD nt11 (.cons hd1 .nil)
      have U11 : upd S10 t11 (.tup [.ref pt]) t11 = some (.tup [.ref pt]) := upd_same
      generalize upd S10 t11 (.tup [.ref pt]) = S11 at k11 D11 U11 ⊢
      replace hd1 := k11.kd.dp hd1
      replace D1 := k11.kd.dp D1
      replace D2 := k11.kd.dp D2
      replace D3 := k11.kd.dp D3
      replace D4 := k11.kd.dp D4
      replace D5 := k11.kd.dp D5
      replace D6 := k11.kd.dp D6
      replace D7 := k11.kd.dp D7
      replace D8 := k11.kd.dp D8
      replace D9 := k11.kd.dp D9
      replace L1 := k11.lst L1
      replace G := G.trans k11
      refine ⟨by show 2 ≤ sizeLine; decide, fun t12 nt12 => ?_⟩
      have k12 : Gr S11 (upd S11 t12 (.tup [.str "give", .ref t11])) := Gr.new nt12
      have D12 : Dp K (upd S11 t12 (.tup [.str "give", .ref t11])) (.ref t12) (.tuple [.str "give", .tuple [.tuple ds]]) := new_TD nt12 (.cons (.str _) (.cons D11 .nil))
      have U12 : upd S11 t12 (.tup [.str "give", .ref t11]) t12 = some (.tup [.str "give", .ref t11]) := upd_same
      generalize upd S11 t12 (.tup [.str "give", .ref t11]) = S12 at k12 D12 U12 ⊢
      replace hd1 := k12.kd.dp hd1
      replace D1 := k12.kd.dp D1
      replace D2 := k12.kd.dp D2
      replace D3 := k12.kd.dp D3
      replace D4 := k12.kd.dp D4
      replace D5 := k12.kd.dp D5
      replace D6 := k12.kd.dp D6
      replace D7 := k12.kd.dp D7
      replace D8 := k12.kd.dp D8
      replace D9 := k12.kd.dp D9
      replace D11 := k12.kd.dp D11
      replace L1 := k12.lst L1
      replace G := G.trans k12
      refine ⟨_, rfl, by show 3 ≤ sizeLine; decide, fun t13 nt13 => ?_⟩
      have k13 : Gr S12 (upd S12 t13 (.tup [.str "rest", .ref pt, .int 2])) := Gr.new nt13
      have D13 : Dp K (upd S12 t13 (.tup [.str "rest", .ref pt, .int 2])) (.ref t13) (.tuple [.str "rest", .tuple ds, .int 2]) := new_TD nt13 (.cons (.str _) (.cons hd1 (.cons (.int _) .nil)))
      have U13 : upd S12 t13 (.tup [.str "rest", .ref pt, .int 2]) t13 = some (.tup [.str "rest", .ref pt, .int 2]) := upd_same
      generalize upd S12 t13 (.tup [.str "rest", .ref pt, .int 2]) = S13 at k13 D13 U13 ⊢
      replace hd1 := k13.kd.dp hd1
      replace D1 := k13.kd.dp D1
      replace D2 := k13.kd.dp D2
      replace D3 := k13.kd.dp D3
      replace D4 := k13.kd.dp D4
      replace D5 := k13.kd.dp D5
      replace D6 := k13.kd.dp D6
      replace D7 := k13.kd.dp D7
      replace D8 := k13.kd.dp D8
      replace D9 := k13.kd.dp D9
      replace D11 := k13.kd.dp D11
      replace D12 := k13.kd.dp D12
      replace L1 := k13.lst L1
      replace G := G.trans k13
      refine ⟨by show 2 ≤ sizeLine; decide, fun t14 nt14 => ?_⟩
      have k14 : Gr S13 (upd S13 t14 (.tup [.str "number", .int 1])) := Gr.new nt14
      have D14 : Dp K (upd S13 t14 (.tup [.str "number", .int 1])) (.ref t14) (.tuple [.str "number", .int 1]) := new_TD nt14 (.cons (.str _) (.cons (.int _) .nil))
      have U14 : upd S13 t14 (.tup [.str "number", .int 1]) t14 = some (.tup [.str "number", .int 1]) := upd_same
      generalize upd S13 t14 (.tup [.str "number", .int 1]) = S14 at k14 D14 U14 ⊢
      replace hd1 := k14.kd.dp hd1
      replace D1 := k14.kd.dp D1
      replace D2 := k14.kd.dp D2
      replace D3 := k14.kd.dp D3
      replace D4 := k14.kd.dp D4
      replace D5 := k14.kd.dp D5
      replace D6 := k14.kd.dp D6
      replace D7 := k14.kd.dp D7
      replace D8 := k14.kd.dp D8
      replace D9 := k14.kd.dp D9
      replace D11 := k14.kd.dp D11
      replace D12 := k14.kd.dp D12
      replace D13 := k14.kd.dp D13
      replace L1 := k14.lst L1
      replace G := G.trans k14
      refine ⟨by show 3 ≤ sizeLine; decide, fun t15 nt15 => ?_⟩
      have k15 : Gr S14 (upd S14 t15 (.tup [.str "in", .int 0, .int 0])) := Gr.new nt15
      have D15 : Dp K (upd S14 t15 (.tup [.str "in", .int 0, .int 0])) (.ref t15) (.tuple [.str "in", .int 0, .int 0]) := new_TD nt15 (.cons (.str _) (.cons (.int _) (.cons (.int _) .nil)))
      have U15 : upd S14 t15 (.tup [.str "in", .int 0, .int 0]) t15 = some (.tup [.str "in", .int 0, .int 0]) := upd_same
      generalize upd S14 t15 (.tup [.str "in", .int 0, .int 0]) = S15 at k15 D15 U15 ⊢
      replace hd1 := k15.kd.dp hd1
      replace D1 := k15.kd.dp D1
      replace D2 := k15.kd.dp D2
      replace D3 := k15.kd.dp D3
      replace D4 := k15.kd.dp D4
      replace D5 := k15.kd.dp D5
      replace D6 := k15.kd.dp D6
      replace D7 := k15.kd.dp D7
      replace D8 := k15.kd.dp D8
      replace D9 := k15.kd.dp D9
      replace D11 := k15.kd.dp D11
      replace D12 := k15.kd.dp D12
      replace D13 := k15.kd.dp D13
      replace D14 := k15.kd.dp D14
      replace L1 := k15.lst L1
      replace G := G.trans k15
      refine ⟨_, rfl, _, rfl, ds, ds, hd1, hd1, lsz2, fun v16 S16 k16 D16 => ?_⟩
      replace hd1 := k16.kd.dp hd1
      replace D1 := k16.kd.dp D1
      replace D2 := k16.kd.dp D2
      replace D3 := k16.kd.dp D3
      replace D4 := k16.kd.dp D4
      replace D5 := k16.kd.dp D5
      replace D6 := k16.kd.dp D6
      replace D7 := k16.kd.dp D7
      replace D8 := k16.kd.dp D8
      replace D9 := k16.kd.dp D9
      replace D11 := k16.kd.dp D11
      replace D12 := k16.kd.dp D12
      replace D13 := k16.kd.dp D13
      replace D14 := k16.kd.dp D14
      replace D15 := k16.kd.dp D15
      replace L1 := k16.lst L1
      replace G := G.trans k16
      refine ⟨by show 0 ≤ sizeLine; decide, fun t17 nt17 => ?_⟩
      have k17 : Gr S16 (upd S16 t17 (.tup [])) := Gr.new nt17
      have D17 : Dp K (upd S16 t17 (.tup [])) (.ref t17) (.tuple []) := new_TD nt17 .nil
      have U17 : upd S16 t17 (.tup []) t17 = some (.tup []) := upd_same
      generalize upd S16 t17 (.tup []) = S17 at k17 D17 U17 ⊢
      replace hd1 := k17.kd.dp hd1
      replace D1 := k17.kd.dp D1
      replace D2 := k17.kd.dp D2
      replace D3 := k17.kd.dp D3
      replace D4 := k17.kd.dp D4
      replace D5 := k17.kd.dp D5
      replace D6 := k17.kd.dp D6
      replace D7 := k17.kd.dp D7
      replace D8 := k17.kd.dp D8
      replace D9 := k17.kd.dp D9
      replace D11 := k17.kd.dp D11
      replace D12 := k17.kd.dp D12
      replace D13 := k17.kd.dp D13
      replace D14 := k17.kd.dp D14
      replace D15 := k17.kd.dp D15
      replace D16 := k17.kd.dp D16
      replace L1 := k17.lst L1
      replace G := G.trans k17
      refine ⟨by show 7 ≤ sizeLine; decide, fun l2 nl2 => ?_⟩
      have k18 : Gr S17 (upd S17 l2 (.lst ([.ref t12, .ref t13, .ref t14, .ref t15, v16, .int 5, .ref t17]))) := Gr.new nl2
      have L2 : upd S17 l2 (.lst ([.ref t12, .ref t13, .ref t14, .ref t15, v16, .int 5, .ref t17])) l2 = some (.lst ([.ref t12, .ref t13, .ref t14, .ref t15, v16, .int 5, .ref t17])) := upd_same
      generalize upd S17 l2 (.lst ([.ref t12, .ref t13, .ref t14, .ref t15, v16, .int 5, .ref t17])) = S18 at k18 L2 ⊢
      replace hd1 := k18.kd.dp hd1
      replace D1 := k18.kd.dp D1
      replace D2 := k18.kd.dp D2
      replace D3 := k18.kd.dp D3
      replace D4 := k18.kd.dp D4
      replace D5 := k18.kd.dp D5
      replace D6 := k18.kd.dp D6
      replace D7 := k18.kd.dp D7
      replace D8 := k18.kd.dp D8
      replace D9 := k18.kd.dp D9
      replace D11 := k18.kd.dp D11
      replace D12 := k18.kd.dp D12
      replace D13 := k18.kd.dp D13
      replace D14 := k18.kd.dp D14
      replace D15 := k18.kd.dp D15
      replace D16 := k18.kd.dp D16
      replace D17 := k18.kd.dp D17
      replace L1 := k18.lst L1
      replace G := G.trans k18
      refine ⟨l1, l2, _, _, rfl, rfl, L1, L2, by show 15 ≤ sizeLine; decide, fun l3 nl3 => ?_⟩
      have k19 : Gr S18 (upd S18 l3 (.lst ([.ref t1, v2, v5, .ref t6, .non, v7, .ref t8, v9] ++ [.ref t12, .ref t13, .ref t14, .ref t15, v16, .int 5, .ref t17]))) := Gr.new nl3
      have L3 : upd S18 l3 (.lst ([.ref t1, v2, v5, .ref t6, .non, v7, .ref t8, v9] ++ [.ref t12, .ref t13, .ref t14, .ref t15, v16, .int 5, .ref t17])) l3 = some (.lst ([.ref t1, v2, v5, .ref t6, .non, v7, .ref t8, v9] ++ [.ref t12, .ref t13, .ref t14, .ref t15, v16, .int 5, .ref t17])) := upd_same
      generalize upd S18 l3 (.lst ([.ref t1, v2, v5, .ref t6, .non, v7, .ref t8, v9] ++ [.ref t12, .ref t13, .ref t14, .ref t15, v16, .int 5, .ref t17])) = S19 at k19 L3 ⊢
      replace hd1 := k19.kd.dp hd1
      replace D1 := k19.kd.dp D1
      replace D2 := k19.kd.dp D2
      replace D3 := k19.kd.dp D3
      replace D4 := k19.kd.dp D4
      replace D5 := k19.kd.dp D5
      replace D6 := k19.kd.dp D6
      replace D7 := k19.kd.dp D7
      replace D8 := k19.kd.dp D8
      replace D9 := k19.kd.dp D9
      replace D11 := k19.kd.dp D11
      replace D12 := k19.kd.dp D12
      replace D13 := k19.kd.dp D13
      replace D14 := k19.kd.dp D14
      replace D15 := k19.kd.dp D15
      replace D16 := k19.kd.dp D16
      replace D17 := k19.kd.dp D17
      replace L1 := k19.lst L1
      replace L2 := k19.lst L2
      replace G := G.trans k19
      refine gname_go ?_
      dsimp only
      refine ⟨_, rfl, _, rfl, _, rfl, by show 3 ≤ sizeLine; decide, fun t20 nt20 => ?_⟩
      have k20 : Gr S19 (upd S19 t20 (.tup [.str "plus", .ref pt, .ref pt])) := Gr.new nt20
      have D20 : Dp K (upd S19 t20 (.tup [.str "plus", .ref pt, .ref pt])) (.ref t20) (.tuple [.str "plus", .tuple ds, .tuple ds]) := new_TD nt20 (.cons (.str _) (.cons hd1 (.cons hd1 .nil)))
      have U20 : upd S19 t20 (.tup [.str "plus", .ref pt, .ref pt]) t20 = some (.tup [.str "plus", .ref pt, .ref pt]) := upd_same
      generalize upd S19 t20 (.tup [.str "plus", .ref pt, .ref pt]) = S20 at k20 D20 U20 ⊢
      replace hd1 := k20.kd.dp hd1
      replace D1 := k20.kd.dp D1
      replace D2 := k20.kd.dp D2
      replace D3 := k20.kd.dp D3
      replace D4 := k20.kd.dp D4
      replace D5 := k20.kd.dp D5
      replace D6 := k20.kd.dp D6
      replace D7 := k20.kd.dp D7
      replace D8 := k20.kd.dp D8
      replace D9 := k20.kd.dp D9
      replace D11 := k20.kd.dp D11
      replace D12 := k20.kd.dp D12
      replace D13 := k20.kd.dp D13
      replace D14 := k20.kd.dp D14
      replace D15 := k20.kd.dp D15
      replace D16 := k20.kd.dp D16
      replace D17 := k20.kd.dp D17
      replace L1 := k20.lst L1
      replace L2 := k20.lst L2
      replace L3 := k20.lst L3
      replace G := G.trans k20
      refine ⟨by show 1 ≤ sizeLine; decide, fun l4 nl4 => ?_⟩
      have k21 : Gr S20 (upd S20 l4 (.lst ([.ref t20]))) := Gr.new nl4
      have L4 : upd S20 l4 (.lst ([.ref t20])) l4 = some (.lst ([.ref t20])) := upd_same
      generalize upd S20 l4 (.lst ([.ref t20])) = S21 at k21 L4 ⊢
      replace hd1 := k21.kd.dp hd1
      replace D1 := k21.kd.dp D1
      replace D2 := k21.kd.dp D2
      replace D3 := k21.kd.dp D3
      replace D4 := k21.kd.dp D4
      replace D5 := k21.kd.dp D5
      replace D6 := k21.kd.dp D6
      replace D7 := k21.kd.dp D7
      replace D8 := k21.kd.dp D8
      replace D9 := k21.kd.dp D9
      replace D11 := k21.kd.dp D11
      replace D12 := k21.kd.dp D12
      replace D13 := k21.kd.dp D13
      replace D14 := k21.kd.dp D14
      replace D15 := k21.kd.dp D15
      replace D16 := k21.kd.dp D16
      replace D17 := k21.kd.dp D17
      replace D20 := k21.kd.dp D20
      replace L1 := k21.lst L1
      replace L2 := k21.lst L2
      replace L3 := k21.lst L3
      replace G := G.trans k21
      refine ⟨l3, l4, _, _, rfl, rfl, L3, L4, by show 16 ≤ sizeLine; decide, fun l5 nl5 => ?_⟩
      have k22 : Gr S21 (upd S21 l5 (.lst ([.ref t1, v2, v5, .ref t6, .non, v7, .ref t8, v9] ++ [.ref t12, .ref t13, .ref t14, .ref t15, v16, .int 5, .ref t17] ++ [.ref t20]))) := Gr.new nl5
      have L5 : upd S21 l5 (.lst ([.ref t1, v2, v5, .ref t6, .non, v7, .ref t8, v9] ++ [.ref t12, .ref t13, .ref t14, .ref t15, v16, .int 5, .ref t17] ++ [.ref t20])) l5 = some (.lst ([.ref t1, v2, v5, .ref t6, .non, v7, .ref t8, v9] ++ [.ref t12, .ref t13, .ref t14, .ref t15, v16, .int 5, .ref t17] ++ [.ref t20])) := upd_same
      generalize upd S21 l5 (.lst ([.ref t1, v2, v5, .ref t6, .non, v7, .ref t8, v9] ++ [.ref t12, .ref t13, .ref t14, .ref t15, v16, .int 5, .ref t17] ++ [.ref t20])) = S22 at k22 L5 ⊢
      replace hd1 := k22.kd.dp hd1
      replace D1 := k22.kd.dp D1
      replace D2 := k22.kd.dp D2
      replace D3 := k22.kd.dp D3
      replace D4 := k22.kd.dp D4
      replace D5 := k22.kd.dp D5
      replace D6 := k22.kd.dp D6
      replace D7 := k22.kd.dp D7
      replace D8 := k22.kd.dp D8
      replace D9 := k22.kd.dp D9
      replace D11 := k22.kd.dp D11
      replace D12 := k22.kd.dp D12
      replace D13 := k22.kd.dp D13
      replace D14 := k22.kd.dp D14
      replace D15 := k22.kd.dp D15
      replace D16 := k22.kd.dp D16
      replace D17 := k22.kd.dp D17
      replace D20 := k22.kd.dp D20
      replace L1 := k22.lst L1
      replace L2 := k22.lst L2
      replace L3 := k22.lst L3
      replace L4 := k22.lst L4
      replace G := G.trans k22
      have A : DpAll K S22 [.ref t1, v2, v5, .ref t6, .non, v7, .ref t8, v9, .ref t12, .ref t13, .ref t14, .ref t15, v16, .int 5, .ref t17, .ref t20] (oddT ds) := (.cons D1 (.cons D2 (.cons D5 (.cons D6 (.cons .non (.cons D7 (.cons D8 (.cons D9 (.cons D12 (.cons D13 (.cons D14 (.cons D15 (.cons D16 (.cons (.int _) (.cons D17 (.cons D20 .nil))))))))))))))))
      obtain ⟨v, d, ev, hm, hv⟩ := dpA_pick A w0 w16
      exact ⟨_, rfl, l5, _, way, v, rfl, rfl, .inl (.inl L5), ev, fin _ v d (g1.trans (Gp.gr G)) (dr1.gr G) hv (odd_wt hw hD d hm) (oddT_sI hB hs d hm)⟩
end
end SfE
namespace SfE
open PySem PySem.Spec PyProof.Rows L2 SfG
abbrev nBent : List Str := ["_law_state", "_law_thing", "_law_at"]
theorem scBent : FnScope nBent ["_law_state", "_law_thing"] (defScope sBent) := ⟨rfl, rfl, rfl, by decide +kernel, rfl, by decide +kernel, by decide +kernel⟩
theorem fng_up {P : Program} {w : World} {K : PySem.W.Frag} {mg : Str → Option Value} {base : Heap} {CX : CXT} {j k : Nat} {f : Addr} {fd : FuncData} {ps : List Str} {sp : Sp} (F : FnG P w K mg base CX j f fd ps sp) (h : j ≤ k) : FnG P w K mg base CX k f fd ps sp :=
  ⟨F.size, fun A outer s H args us vs Q E hr => F.goes A outer s H args us vs Q E (hr.mono h)⟩
/-- what a bent thing is at the most -/
structure BentOf (d d' : PyData) (B : Nat) : Prop where
  ok : okd d' = true
  le : wt d' ≤ 11 * wt d + 500
  dp : d'.depth ≤ d.depth + 2
  sI : sI (B + 1) d' = true
theorem bent_tup {ds : List PyData} {i : Nat} {e e' : PyData} {B : Nat} (hi : ds[i]? = some e) (ho : okd (.tuple ds) = true) (hs : sI B (.tuple ds) = true) (h : BentOf e e' B) :
    BentOf (.tuple ds) (.tuple (ds.take i ++ [e'] ++ ds.drop (i + 1))) B := by
  obtain ⟨li, ei⟩ := List.getElem?_eq_some_iff.mp hi
  have ed : ds = ds.take i ++ (e :: ds.drop (i + 1)) := by
    have := (List.take_append_drop i ds).symm
    rw [List.drop_eq_getElem_cons li, ei] at this
    exact this
  have w1 : wtA ds = wtA (ds.take i) + (wt e + 2 + wtA (ds.drop (i + 1))) := by
    conv => lhs; rw [ed, wtA_app, wtA]
  have d1 : PyData.depthAll ds = max (PyData.depthAll (ds.take i)) (max e.depth (PyData.depthAll (ds.drop (i + 1)))) := by
    conv => lhs; rw [ed, depA_app, PyData.depthAll]
  have o1 : okdA ds = (okdA (ds.take i) && (okd e && okdA (ds.drop (i + 1)))) := by
    conv => lhs; rw [ed, okdA_app, okdA]
  rw [okd, o1, Bool.and_eq_true, Bool.and_eq_true] at ho
  obtain ⟨h1, h2, h3, h4⟩ := h
  refine ⟨?_, ?_, ?_, ?_⟩
  · rw [okd, okdA_app, okdA_app, okdA, okdA, ho.1, h1, ho.2.2]
    rfl
  · rw [wt, wt, wtA_app, wtA_app, wtA, wtA, w1]
    omega
  · rw [PyData.depth, PyData.depth, depA_app, depA_app, PyData.depthAll, PyData.depthAll, d1]
    omega
  · refine sI_tup.mpr fun d hd => ?_
    have hT := sI_tup.mp (sI_mono (C := B + 1) (by omega) hs)
    rcases List.mem_append.mp hd with hd | hd
    · rcases List.mem_append.mp hd with hd | hd
      · exact hT d (List.mem_of_mem_take hd)
      · rw [List.mem_singleton.mp hd]
        exact h4
    · exact hT d (List.mem_of_mem_drop hd)
section
variable {P : Program} {w : World} {K : PySem.W.Frag} {mg : Str → Option Value} {base : Heap}
def spBent (K : PySem.W.Frag) (q : Nat) : Sp := fun vs H Q _ => ∃ (p : Addr) (t : V) (d : PyData) (B : Nat), vs = [.ref p, t] ∧ Drw H p ∧ Dp K H t d ∧ okd d = true ∧ wt d ≤ 900000 ∧ d.depth < q ∧ q ≤ 20 ∧ sI B d = true ∧ (100 ≤ B ∧ B ≤ 1000) ∧
  ∀ H' v d', Gp p H H' → Drw H' p → Dp K H' v d' → BentOf d d' B → Q v H'
set_option maxHeartbeats 4000000 in
theorem ok_bent {f fP fO : Addr} {fd fdP fdO : FuncData} (F : Fun K "_law_bent" "_law_bent" sBent f fd) (bB : Binds K fd ["_law_state", "_law_thing"] []) (gB : mg "_law_bent" = some (.ref f))
    (HP : Has P w K mg base 1 "_law_pick" ["_law_state", "_law_many"] spPick fP fdP) (GO : FnG P w K mg base CX0 2 fO fdO ["_law_state", "_law_thing"] (spOdd K)) (bO : Binds K fdO ["_law_state", "_law_thing"] []) (gO : mg "_law_odd" = some (.ref fO)) (kO : PySem.W.keepIn K (.ref fO) = true)
    (mi : mg "isinstance" = none) (mt : mg "tuple" = none) (ml : mg "len" = none) : ∀ q, FnG P w K mg base CX0 (q + 3) f fd ["_law_state", "_law_thing"] (spBent K q)
  | 0 => by
    refine fng_of F scBent (fun vs H Q E h => ?_) (fun cdv A outer s H vs Q E hr hgd h => ?_)
    · obtain ⟨p, t, d, B, rfl, _⟩ := h
      rfl
    · obtain ⟨p, t, d, B, rfl, _, _, _, _, h, _⟩ := h
      omega
  | q + 1 => by
    have GB := ok_bent F bB gB HP GO bO gO kO mi mt ml q
    refine fng_of F scBent (fun vs H Q E h => ?_) (fun cdv A outer s H vs Q E hr hgd h => ?_)
    · obtain ⟨p, t, d, B, rfl, _⟩ := h
      rfl
    · obtain ⟨p, t, d, B, rfl, dr, hd, hok, hw, hdp, hq, hs, hB, fin⟩ := h
      have nd := scBent.nd
      have HP' : Has P w K mg base (q + 3) "_law_pick" ["_law_state", "_law_many"] spPick fP fdP := ⟨HP.ok.mono (by omega), HP.at_, HP.kp, HP.bd⟩
      have GO' := fng_up GO (show 2 ≤ q + 3 by omega)
      refine' ⟨_, pss_cons ?s1 (pss_one ?s2), ?rd⟩
      case s1 =>
        exact ps_if (PW.pt (pw_and (pt_val (pe_isi "tuple" 1 mi mt (by decide +kernel))) (pw_and (pt_cmpR (op_neT0 hr) (pv 1) (pe_tup pa_nil) (nomark _)) (pw_and1 (pt_cmpR op_gt (hcall HP' hr (pa_cons (pv 0) (pa_cons pe_int pa_nil))) pe_int (nomark _))))))
          (pss_cons (ps_set (i := 2) nd rfl (.inl rfl) (hcall HP' hr (pa_cons (pv 0) (pa_cons (pe_callB call_len_seq (by rfl) ml PySem.boot_len (pa_cons (pv 1) pa_nil)) pa_nil))))
          (pss_one (ps_ret (pe_op op_catD (pe_op op_catD (pe_slice sl_tupD (pv 1) po_none (po_some (pv 2))) (pe_tup (pa_cons (pe_callG GB hr hgd (by rfl) gB F.kp bB .nil pass0 (pa_cons (pv 0) (pa_cons (pe_ix ix_tup (pv 1) (pv 2) (fun _ _ => rfl)) pa_nil))) pa_nil)))
            (pe_slice sl_tupD (pv 1) (po_some (pe_op op_add (pv 2) pe_int)) po_none))))) pss_nil
      case s2 => exact ps_ret (pe_callG GO' hr hgd (by rfl) gO kO bO .nil pass0 (pa_cons (pv 0) (pa_cons (pv 1) pa_nil)))
      case rd =>
      have odd : ∀ H1, Gp p H H1 → Drw H1 p → tRet (tCall (spOdd K) [] E0 (tCons (tVar 0) (tCons (tVar 1) tNil))) { nx := fun _ H' => Q .non H', rt := Q } [some (.ref p), some t, none] H1 := fun H1 g1 dr1 => by
        refine ⟨_, rfl, _, rfl, p, t, d, wt d, d.depth, B, rfl, dr1, (dr.kd g1).dp hd, ⟨hok, Nat.le_refl _, Nat.le_refl _⟩, hs, hB, hw, by omega, fun H' v d' g2 dr2 hv w2 s2 => ?_⟩
        exact fin H' v d' (g1.trans g2) dr2 hv ⟨w2.ok, Nat.le_trans w2.le (by omega), w2.dep, s2⟩
      have hI := dp_is hd
      refine ⟨_, rfl, _, _, hI.1, kit_tuple _ hI.2, _, rfl, ?_⟩
      rcases tup_is d with h1 | ⟨ds, rfl⟩
      · rw [h1]
        exact iteF (iteF (odd H (Gp.gr (Gr.refl H)) dr))
      rw [show (tyD (.tuple ds) == "tuple") = true from by show ("tuple" == "tuple") = true; decide]
      obtain ⟨pt, xs, rfl, hp, hxs⟩ := dp_tup hd
      have lx := dpA_len hxs
      refine iteT ⟨_, rfl, by show 0 ≤ sizeLine; decide, fun p0 n0 => ?_⟩
      have g0 : Gr H (upd H p0 (.tup [])) := Gr.new n0
      refine ⟨pt, p0, xs, rfl, rfl, g0.sqt hp, .inl (.inl upd_same), _, rfl, ?_⟩
      have dr0 := dr.gr g0
      generalize upd H p0 (.tup []) = H0 at g0 dr0 ⊢
      cases ds with
      | nil =>
        cases dpA_nil hxs
        exact iteF (iteF (odd H0 (Gp.gr g0) dr0))
      | cons e0 er =>
      obtain ⟨x0, xr, exs, _, _⟩ := dpA_cons hxs
      rw [exs]
      refine iteT ⟨_, rfl, p, 6, rfl, dr0, by decide, by decide, fun H1 a b1 dr1 a0 a6 => ?_⟩
      have g1 : Gp p H H1 := (Gp.gr g0).trans (Gp.but b1)
      refine ⟨a, 0, rfl, rfl, _, rfl, ?_⟩
      by_cases ha : a > 0
      case neg =>
        rw [decide_eq_false ha]
        exact iteF (odd H1 g1 dr1)
      rw [decide_eq_true ha]
      have hd1 := (dr.kd g1).dp hd
      have hwl := wtA_len (e0 :: er)
      have hw2 := hw
      rw [wt] at hw2
      have hdl : (e0 :: er).length ≤ 900000 := by omega
      have hpos : 0 < (e0 :: er).length := Nat.succ_pos _
      refine iteT ⟨_, rfl, _, rfl, pt, xs, rfl, .inr ((dr.kd g1).t hp), p, _, rfl, dr1, by rw [lx]; omega, by rw [lx]; omega, fun H2 i b2 dr2 i0 i1 => ?_⟩
      obtain ⟨n, rfl⟩ : ∃ n : Nat, i = (n : Nat) := ⟨i.toNat, by omega⟩
      have hn : n < (e0 :: er).length := by rw [lx] at i1; omega
      generalize (e0 :: er) = ds at *
      have g2 : Gp p H H2 := g1.trans (Gp.but b2)
      have hd2 := (dr.kd g2).dp hd
      refine ⟨_, rfl, _, rfl, (n : Nat), rfl, ds, hd2, fun v3 H3 k3 h3 => ?_⟩
      rw [cut_to ds (by omega)] at h3
      have dr3 := dr2.gr k3
      have g3 := g2.trans (Gp.gr k3)
      obtain ⟨e, he⟩ : ∃ e, ds[n]? = some e := ⟨ds[n], by simp [hn]⟩
      obtain ⟨xe, hxe, hve⟩ := dpA_get hxs he
      have hwe := wtA_mem (List.mem_of_getElem? he)
      have hde := depA_mem (List.mem_of_getElem? he)
      rw [PyData.depth] at hdp
      have hoe : okd e = true := (WtA.get (L := wtA ds) (D := PyData.depthAll ds) ⟨by rw [okd] at hok; exact hok, Nat.le_refl _, Nat.le_refl _⟩ he).ok
      refine ⟨_, rfl, _, rfl, _, rfl, pt, xs, n, xe, rfl, rfl, (dr.kd g3).t hp, atI_nat hxe, p, xe, e, B, rfl, dr3, (dr.kd g3).dp hve, hoe, by omega, by omega, by omega, sI_tup.mp hs e (List.mem_of_getElem? he), hB, fun H4 v4 e4 g4 dr4 hv4 b4 => ?_⟩
      have h34 := (dr3.kd g4).dp h3
      refine ⟨by show 1 ≤ sizeLine; decide, fun t5 n5 => ?_⟩
      have k5 : Gr H4 (upd H4 t5 (.tup [v4])) := Gr.new n5
      have D5 : Dp K (upd H4 t5 (.tup [v4])) (.ref t5) (.tuple [e4]) := new_TD n5 (.cons hv4 .nil)
      have h35 := k5.kd.dp h34
      generalize upd H4 t5 (.tup [v4]) = H5 at k5 D5 h35 ⊢
      refine ⟨ds.take n, [e4], h35, D5, Nat.le_of_lt (small10000001 (by rw [List.length_take, List.length_singleton]; omega)), fun v6 H6 k6 h6 => ?_⟩
      have g6 := (g3.trans g4).trans (Gp.gr (k5.trans k6))
      refine ⟨_, rfl, _, rfl, n, 1, rfl, rfl, _, rfl, ds, (dr.kd g6).dp hd, fun v7 H7 k7 h7 => ?_⟩
      have h7' : Dp K H7 v7 (.tuple (ds.drop (n + 1))) := by
        have e1 : ((n : Nat) : Int) + 1 = ((n + 1 : Nat) : Int) := by omega
        have h8 : Dp K H7 v7 (.tuple (SfG.cutD ds (some (((n : Nat) : Int) + 1)) none)) := h7
        rw [e1, cut_from ds (by omega)] at h8
        exact h8
      refine ⟨_, _, k7.kd.dp h6, h7', Nat.le_of_lt (small10000001 (by rw [List.length_append, List.length_take, List.length_singleton, List.length_drop]; omega)), fun v8 H8 k8 h8 => ?_⟩
      exact fin H8 v8 _ (g6.trans (Gp.gr (k7.trans k8))) ((dr4.gr (k5.trans k6)).gr (k7.trans k8)) h8 (bent_tup he hok hs b4)
end
end SfE
namespace SfE
open PySem PySem.Spec PyProof.Rows L2 SfG
abbrev nTru : List Str := ["_law_thing", "_law_one"]
theorem scTru : FnScope nTru ["_law_thing"] (defScope sTru) := ⟨rfl, rfl, rfl, by decide +kernel, rfl, by decide +kernel, by decide +kernel⟩
mutual
/-- a truth for 1 and 0 -/
def tru : PyData → PyData
  | .int i => if 0 ≤ i ∧ i ≤ 1 then .bool (decide (i = 1)) else .int i
  | .tuple ds => .tuple (truA ds)
  | d => d
def truA : List PyData → List PyData
  | [] => []
  | d :: r => tru d :: truA r
end
theorem truA_map : ∀ (ds : List PyData), truA ds = ds.map tru
  | [] => by rw [truA]; rfl
  | d :: r => by rw [truA, truA_map r]; rfl
mutual
/-- tuples of texts and numbers -/
def plT : PyData → Bool
  | .int _ => true
  | .str _ => true
  | .tuple ds => plA ds
  | _ => false
def plA : List PyData → Bool
  | [] => true
  | d :: r => plT d && plA r
end
theorem plA_iff : ∀ {ds : List PyData}, plA ds = true ↔ ∀ d ∈ ds, plT d = true
  | [] => ⟨fun _ d h => (by cases h), fun _ => by rw [plA]⟩
  | d :: r => by
    rw [plA, Bool.and_eq_true, plA_iff (ds := r)]
    exact ⟨fun h e he => by
      rcases List.mem_cons.mp he with rfl | he
      · exact h.1
      · exact h.2 e he, fun h => ⟨h d List.mem_cons_self, fun e he => h e (List.mem_cons_of_mem _ he)⟩⟩
mutual
theorem tru_keep {K : PySem.W.Frag} {H H' : Hp} (kt : ∀ {a xs}, SqT K H a xs → SqT K H' a xs) : ∀ {d : PyData} {v : V}, plT d = true → Dp K H v (tru d) → Dp K H' v (tru d)
  | .int i, v, _, h => by
    rw [tru] at h ⊢
    split
    · rename_i hi
      rw [if_pos hi] at h
      cases h
      exact .bl _
    · rename_i hi
      rw [if_neg hi] at h
      cases h
      exact .int _
  | .str z, v, _, h => by
    rw [show tru (.str z) = .str z by simp [tru]] at h ⊢
    cases h
    exact .str _
  | .tuple ds, v, hp, h => by
    rw [plT] at hp
    rw [tru] at h ⊢
    cases h with
    | tup h hs => exact .tup (kt h) (truA_keep kt hp hs)
theorem truA_keep {K : PySem.W.Frag} {H H' : Hp} (kt : ∀ {a xs}, SqT K H a xs → SqT K H' a xs) : ∀ {ds : List PyData} {vs : List V}, plA ds = true → DpAll K H vs (truA ds) → DpAll K H' vs (truA ds)
  | [], vs, _, h => by
    rw [truA] at h ⊢
    cases h
    exact .nil
  | d :: r, vs, hp, h => by
    rw [plA, Bool.and_eq_true] at hp
    rw [truA] at h ⊢
    cases h with
    | cons h hs => exact .cons (tru_keep kt hp.1 h) (truA_keep kt hp.2 hs)
end
mutual
theorem tru_ok : ∀ {d : PyData}, plT d = true → okd d = true → okd (tru d) = true ∧ wt (tru d) ≤ 2 * wt d ∧ (tru d).depth = d.depth ∧ ∀ B, sI B d = true → sI B (tru d) = true
  | .int i, _, ho => by
    rw [tru]
    split
    · exact ⟨rfl, by rw [wt, wt]; omega, by rw [PyData.depth, PyData.depth], fun _ _ => by rw [sI]⟩
    · exact ⟨ho, by omega, rfl, fun _ h => h⟩
  | .str z, _, ho => by
    rw [show tru (.str z) = .str z by simp [tru]]
    exact ⟨ho, by omega, rfl, fun _ h => h⟩
  | .tuple ds, hp, ho => by
    rw [plT] at hp
    rw [okd] at ho
    obtain ⟨h1, h2, h3, h4⟩ := truA_ok hp ho
    rw [tru]
    refine ⟨by rw [okd]; exact h1, by rw [wt, wt]; omega, by rw [PyData.depth, PyData.depth, h3], fun B h => ?_⟩
    rw [sI] at h ⊢
    exact h4 B h
theorem truA_ok : ∀ {ds : List PyData}, plA ds = true → okdA ds = true → okdA (truA ds) = true ∧ wtA (truA ds) ≤ 2 * wtA ds ∧ PyData.depthAll (truA ds) = PyData.depthAll ds ∧ ∀ B, sIA B ds = true → sIA B (truA ds) = true
  | [], _, _ => by
    rw [truA]
    exact ⟨by rw [okdA], by rw [wtA]; omega, rfl, fun _ h => h⟩
  | d :: r, hp, ho => by
    rw [plA, Bool.and_eq_true] at hp
    rw [okdA, Bool.and_eq_true] at ho
    obtain ⟨h1, h2, h3, h4⟩ := tru_ok hp.1 ho.1
    obtain ⟨t1, t2, t3, t4⟩ := truA_ok hp.2 ho.2
    rw [truA]
    refine ⟨by rw [okdA, h1, t1]; rfl, by rw [wtA, wtA]; omega, by rw [PyData.depthAll, PyData.depthAll, h3, t3], fun B h => ?_⟩
    rw [sIA, Bool.and_eq_true] at h ⊢
    exact ⟨h4 B h.1, t4 B h.2⟩
end
section
variable {P : Program} {w : World} {K : PySem.W.Frag} {mg : Str → Option Value} {base : Heap}
def spTru (K : PySem.W.Frag) (q : Nat) : Sp := fun vs H Q _ => ∃ (t : V) (d : PyData), vs = [t] ∧ Dp K H t d ∧ plT d = true ∧ wt d ≤ 900000 ∧ d.depth < q ∧ ∀ H' v, Gr H H' → Dp K H' v (tru d) → Q v H'
set_option maxHeartbeats 4000000 in
theorem ok_tru {f : Addr} {fd : FuncData} (F : Fun K "_law_truths" "_law_truths" sTru f fd) (bT : Binds K fd ["_law_thing"] []) (gT : mg "_law_truths" = some (.ref f)) (mi : mg "isinstance" = none) (mt : mg "tuple" = none) (mn : mg "int" = none) :
    ∀ q, FnOk P w K mg base CX0 (q + 1) f fd ["_law_thing"] (spTru K q)
  | 0 => by
    refine F.ok scTru (fun vs H Q E h => ?_) (fun cdv A outer s H vs Q E hr h => ?_)
    · obtain ⟨t, d, rfl, _⟩ := h
      rfl
    · obtain ⟨t, d, rfl, _, _, _, h, _⟩ := h
      omega
  | q + 1 => by
    have GT := ok_tru F bT gT mi mt mn q
    refine F.ok scTru (fun vs H Q E h => ?_) (fun cdv A outer s H vs Q E hr h => ?_)
    · obtain ⟨t, d, rfl, _⟩ := h
      rfl
    · obtain ⟨t, d, rfl, hd, hp, hw, hdp, fin⟩ := h
      have nd := scTru.nd
      refine' ⟨_, pss_cons ?s1 (pss_one ?s2), ?rd⟩
      case s1 =>
        exact ps_if (pt_val (pe_isi "tuple" 0 mi mt (by decide +kernel))) (pss_one (ps_ret (pe_callTy call_tuple_of (by rfl) mt (by decide +kernel) (pa_cons (pe_lc (own := [("_law_one", 1)]) (g := gName 1) rfl nd (pi_tup (pv 0))
          (blkOk_by (own := [("_law_one", 1)]) (N := nTru) (sc := defScope sTru) (by decide +kernel)) (fun _ _ _ _ _ => pg_name (i := 1) nd rfl (Or.inl rfl)) (fun _ _ _ _ _ => pts_nil) (fun _ _ _ _ _ => pe_call GT hr (by rfl) gT F.kp bT .nil pass0 (pa_cons (pv 1) pa_nil))) pa_nil)))) pss_nil
      case s2 =>
        exact ps_ret (pe_ifExp (PW.pt (pw_and (pt_val (pe_isi "int" 0 mi mn (by decide +kernel))) (pw_and1 (pt_chain op_le op_le pe_int (pv 0) pe_int)))) (pe_cmpR op_eq (pv 0) pe_int (nomark _)) (pv 0))
      case rd =>
      have hI := dp_is hd
      refine ⟨_, rfl, _, _, hI.1, kit_tuple _ hI.2, _, rfl, ?_⟩
      rcases tup_is d with h1 | ⟨ds, rfl⟩
      · rw [h1]
        refine iteF ⟨_, rfl, _, _, hI.1, kit_intN, _, rfl, ?_⟩
        cases d with
        | int i =>
          cases dp_int hd
          refine iteT ⟨_, rfl, 0, i, rfl, rfl, _, rfl, ?_⟩
          rw [tru] at fin
          by_cases h0 : 0 ≤ i
          · rw [decide_eq_true h0]
            refine iteT ⟨i, 1, rfl, rfl, _, rfl, ?_⟩
            by_cases h2 : i ≤ 1
            · rw [decide_eq_true h2]
              rw [if_pos ⟨h0, h2⟩] at fin
              refine iteT ⟨_, rfl, rfl, ?_⟩
              rw [dec_i]
              exact fin H _ (Gr.refl H) (.bl _)
            · rw [decide_eq_false h2]
              rw [if_neg (fun x => h2 x.2)] at fin
              exact iteF ⟨_, rfl, fin H _ (Gr.refl H) (.int _)⟩
          · rw [decide_eq_false h0]
            rw [if_neg (fun x => h0 x.1)] at fin
            exact iteF ⟨_, rfl, iteF ⟨_, rfl, fin H _ (Gr.refl H) (.int _)⟩⟩
        | str z =>
          rw [show tru (.str z) = .str z by simp [tru]] at fin
          exact iteF ⟨_, rfl, fin H _ (Gr.refl H) hd⟩
        | tuple _ => exact absurd h1 (by show ¬ ("tuple" == "tuple") = false; decide)
        | _ => cases hp
      · rw [show (tyD (.tuple ds) == "tuple") = true from by show ("tuple" == "tuple") = true; decide]
        rw [plT] at hp
        rw [tru] at fin
        obtain ⟨p, xs, rfl, hp1, hxs⟩ := dp_tup hd
        have lx := dpA_len hxs
        have wl := wtA_len ds
        rw [wt] at hw
        rw [PyData.depth] at hdp
        refine iteT ⟨_, rfl, p, rfl, ⟨_, hp1⟩, fun D nD => ?_⟩
        refine lc_it (walk_tup (xs := xs)) (fun i H4 => ∃ us : List V, H4 D = some (.lst us) ∧ DpAll K H4 us (truA (ds.take i)) ∧ Gr H H4) ?z0 ?z1 ?z2 ?z3
        case z0 => exact ⟨[], upd_same, (by rw [List.take_zero, truA]; exact .nil), Gr.new nD⟩
        case z1 =>
          rintro i H4 hi ⟨us, hD, hu, g4⟩
          exact g4.sqt hp1
        case z2 =>
          rintro i x H4 H4' hi ⟨us, hD, hu, g4⟩ ⟨rfl, hx⟩
          obtain ⟨e, he, hv⟩ := dpA_at hxs hx
          refine ⟨rfl, ?_⟩
          unfold tYes
          have hpe := plA_iff.mp hp e (List.mem_of_getElem? he)
          have hwe := wtA_mem (List.mem_of_getElem? he)
          have hde := depA_mem (List.mem_of_getElem? he)
          have lu : us.length ≤ i := by
            rw [dpA_len hu, truA_map, List.length_map, List.length_take]
            omega
          refine iteT ⟨_, rfl, x, e, rfl, g4.kd.dp hv, hpe, by omega, by omega, fun H5 v g5 hv5 => ?_⟩
          refine ⟨us, g5.lst hD, small10000001 (by omega), us ++ [v], upd_same, ?_, Gr.upd_new (g4.trans g5) nD⟩
          have et : truA (ds.take (i + 1)) = truA (ds.take i) ++ [tru e] := by
            rw [truA_map, truA_map, List.take_add_one, he, List.map_append]
            rfl
          rw [et]
          have hpt : plA (ds.take i) = true := plA_iff.mpr fun d hd => plA_iff.mp hp d (List.mem_of_mem_take hd)
          exact dpA_app (truA_keep (sqt_upd (g5.lst hD)) hpt (g5.kd.dpA hu)) (.cons (tru_keep (sqt_upd (g5.lst hD)) hpe hv5) .nil)
        case z3 =>
        rintro H4 ⟨us, hD, hu, g4⟩
        rw [lx, List.take_length] at hu
        refine ⟨D, us, rfl, .inl ⟨.inl (.inl hD), fun tq ntq => ?_⟩⟩
        exact fin _ _ (g4.trans (Gr.new ntq)) (new_TD ntq hu)
end
end SfE
namespace SfE
open PySem PySem.Spec PyProof.Rows L2 SfG
/-- repr of any data -/
def rReprC (K : PySem.W.Frag) : List V → Hp → VK → Prop := fun xs H Q =>
  ∃ (v : V) (d : PyData), xs = [v] ∧ Dp K H v d ∧ d.showable = true ∧ d.depth ≤ 30 ∧ d.shown.length ≤ sizeLine ∧ Q (.str d.shown) H
theorem call_reprC {X : Cx} {k : Nat} (hr : Room k X.A) (hgd : X.A.guards = some []) : CallR X (.builtin "repr") (rReprC X.K) := by
  intro pins s σ H xs us Q I r h
  obtain ⟨v, d, rfl, hd, hs, hdep, hz, q⟩ := h
  have hn := dp_nod hd
  cases hd with
  | non => exact call_reprA hr hgd pins s σ H _ us Q I r ⟨_, .none, _, rfl, .non, .inl rfl, hs, hn, hdep, rfl, hz, q⟩
  | int i => exact call_reprA hr hgd pins s σ H _ us Q I r ⟨_, .int i, _, rfl, .int i, .inr (.inl ⟨i, rfl⟩), hs, hn, hdep, rfl, hz, q⟩
  | lst h hx => exact call_reprA hr hgd pins s σ H _ us Q I r ⟨_, _, _, rfl, .lst h hx, .inr (.inr ⟨_, rfl⟩), hs, hn, hdep, rfl, hz, q⟩
  | tup h hx => exact call_reprA hr hgd pins s σ H _ us Q I r ⟨_, _, _, rfl, .tup h hx, .inr (.inr ⟨_, rfl⟩), hs, hn, hdep, rfl, hz, q⟩
  | bl b =>
    obtain ⟨u, rfl, ru⟩ := vals1 r
    cases ru
    exact PySem.P.repr_of_bool ⟨.str _, H, I.tok _, ⟨_, rfl⟩, (by cases b <;> exact q)⟩
  | str z =>
    obtain ⟨u, rfl, ru⟩ := vals1 r
    obtain ⟨t, rfl⟩ := ru
    exact PySem.P.repr_of_str ⟨.str _, H, I.tok _, ⟨_, rfl⟩, q⟩ hz
def TwoV (S : Hp) (v : V) : Option (Int × Int) → Prop
  | none => v = .non
  | some ab => ∃ p, v = .ref p ∧ S p = some (.tup [.int ab.1, .int ab.2])
theorem TwoV.gr {S S' : Hp} {v : V} {o : Option (Int × Int)} (h : TwoV S v o) (g : Gr S S') : TwoV S' v o := by
  cases o with
  | none => exact h
  | some ab =>
    obtain ⟨p, h1, h2⟩ := h
    exact ⟨p, h1, g.tup h2⟩
def dueB : Option (Int × Int) → Bool
  | none => false
  | some pk => decide (pk.1 < 61) && decide (pk.2 < 9)
theorem sh_bl (b : Bool) : (PyData.bool b).showable = true ∧ (PyData.bool b).depth ≤ 30 ∧ (PyData.bool b).shown.length ≤ sizeLine := by
  cases b <;> exact ⟨rfl, by rw [PyData.depth]; omega, by decide⟩
abbrev nRt : List Str := ["_law_thing", "_law_counts", "_law_many", "_law_sized", "_law_due", "_law_kept", "_law_turn", "_law_inner", "_law_found", "_law_one"]
theorem scRt : FnScope nRt ["_law_thing", "_law_counts", "_law_many"] (defScope sRight) := ⟨rfl, rfl, rfl, by decide +kernel, rfl, by decide +kernel, by decide +kernel⟩
structure RtNames (mg : Str → Option Value) : Prop where
  mp : mg "repr" = none
  mli : mg "list" = none
  mr : mg "range" = none
theorem sh_two {cs : List Nat} {q : Nat} {m : Option Nat} {d : PyData} {ab : Int × Int} (h : lk cs q m d = some ab) (hd : dueB (some ab) = true) :
    (PyData.list [.int ab.1, .int ab.2]).showable = true ∧ (PyData.list [.int ab.1, .int ab.2]).depth ≤ 30 ∧ (PyData.list [.int ab.1, .int ab.2]).shown.length ≤ sizeLine := by
  obtain ⟨h1, h2⟩ := lk_pos q m d ab.1 ab.2 h
  have h5 : (decide (ab.1 < 61) && decide (ab.2 < 9)) = true := hd
  rw [Bool.and_eq_true, decide_eq_true_eq, decide_eq_true_eq] at h5
  have s1 : ∀ {i : Int}, 1 ≤ i → i < 61 → okd (.int i) = true ∧ wt (.int i) ≤ 9 := fun {i} a b => by
    have w1 := wt_num (i := i) (by omega) (by omega)
    refine ⟨?_, w1⟩
    rw [wt] at w1
    rw [okd]
    exact decide_eq_true (by omega)
  obtain ⟨a1, a2⟩ := s1 h1 h5.1
  obtain ⟨b1, b2⟩ := s1 h2 (by omega)
  have ok : okd (.list [.int ab.1, .int ab.2]) = true := by rw [okd, okdA, okdA, okdA, a1, b1]; rfl
  refine ⟨okd_able ok, by simp only [PyData.depth, PyData.depthAll]; omega, ?_⟩
  have h6 := okd_len ok
  rw [wt, wtA, wtA, wtA] at h6
  exact Nat.le_of_lt (small10000001 (by omega))
theorem okdA_iff : ∀ {ds : List PyData}, okdA ds = true ↔ ∀ d ∈ ds, okd d = true
  | [] => ⟨fun _ d h => (by cases h), fun _ => by rw [okdA]⟩
  | d :: r => by
    rw [okdA, Bool.and_eq_true, okdA_iff (ds := r)]
    exact ⟨fun h e he => by
      rcases List.mem_cons.mp he with rfl | he
      · exact h.1
      · exact h.2 e he, fun h => ⟨h d List.mem_cons_self, fun e he => h e (List.mem_cons_of_mem _ he)⟩⟩
/-- the Es that are asked one by one -/
structure Inner (cs : List Nat) (es : List PyData) (abs : List (Int × Int)) : Prop where
  al : (es.map fun e => lk cs 29 none e) = abs.map some
  bnd : ∀ ab ∈ abs, 1 ≤ ab.1 ∧ ab.1 ≤ 60 ∧ 1 ≤ ab.2 ∧ ab.2 ≤ 60
  sm : es.length ≤ 1000
  fit : ∀ e ∈ es, e.depth < 29 ∧ wt e ≤ 10000000
theorem Inner.nil (cs : List Nat) : Inner cs [] [] := ⟨rfl, fun ab h => (by cases h), Nat.zero_le _, fun e h => (by cases h)⟩
theorem Inner.sh {cs : List Nat} {es : List PyData} {abs : List (Int × Int)} (h : Inner cs es abs) :
    (PyData.list ((abs.map some).map twoO)).showable = true ∧ (PyData.list ((abs.map some).map twoO)).depth ≤ 30 ∧ (PyData.list ((abs.map some).map twoO)).shown.length ≤ sizeLine := by
  have la : abs.length = es.length := by
    have := congrArg List.length h.al
    rw [List.length_map, List.length_map] at this
    omega
  have s1 : ∀ {i : Int}, 1 ≤ i → i < 61 → okd (.int i) = true ∧ wt (.int i) ≤ 9 := fun {i} a b => by
    have w1 := wt_num (i := i) (by omega) (by omega)
    refine ⟨?_, w1⟩
    rw [wt] at w1
    rw [okd]
    exact decide_eq_true (by omega)
  have each : ∀ d ∈ (abs.map some).map twoO, okd d = true ∧ wt d ≤ 40 ∧ d.depth ≤ 1 := fun d hd => by
    obtain ⟨o, ho, rfl⟩ := List.mem_map.mp hd
    obtain ⟨ab, hab, rfl⟩ := List.mem_map.mp ho
    obtain ⟨b1, b2, b3, b4⟩ := h.bnd ab hab
    obtain ⟨a1, a2⟩ := s1 b1 (by omega)
    obtain ⟨e1, e2⟩ := s1 b3 (by omega)
    show okd (.tuple [.int ab.1, .int ab.2]) = true ∧ wt (.tuple [.int ab.1, .int ab.2]) ≤ 40 ∧ (PyData.tuple [.int ab.1, .int ab.2]).depth ≤ 1
    refine ⟨by rw [okd, okdA, okdA, okdA, a1, e1]; rfl, ?_, by simp only [PyData.depth, PyData.depthAll]; omega⟩
    rw [wt, wtA, wtA, wtA]
    omega
  have ok : okd (.list ((abs.map some).map twoO)) = true := by
    rw [okd]
    exact okdA_iff.mpr fun d hd => (each d hd).1
  have w1 := wtA_le fun d hd => (each d hd).2.1
  rw [List.length_map, List.length_map] at w1
  have dA : ∀ {l : List PyData}, (∀ d ∈ l, d.depth ≤ 1) → PyData.depthAll l ≤ 1 := fun {l} hl => by
    induction l with
    | nil => rw [PyData.depthAll]; omega
    | cons a r ih =>
      have h1 := hl a List.mem_cons_self
      have h2 := ih fun d hd => hl d (List.mem_cons_of_mem _ hd)
      rw [PyData.depthAll]
      omega
  have d1 := dA fun d hd => (each d hd).2.2
  refine ⟨okd_able ok, by rw [PyData.depth]; omega, ?_⟩
  have h6 := okd_len ok
  rw [wt] at h6
  have := h.sm
  have h7 : abs.length * (40 + 2) ≤ 1000 * 42 := Nat.mul_le_mul_right _ (by omega)
  exact Nat.le_of_lt (small10000001 (by omega))
theorem allO_bnd : ∀ {os : List (Option (Int × Int))} {abs : List (Int × Int)}, (∀ o ∈ os, Pos o) → allO os = some abs → (abs.length : Int) ≤ (abs.map (·.1)).sum ∧ ∀ x ∈ abs, 1 ≤ x.1 ∧ x.1 ≤ (abs.map (·.1)).sum ∧ 1 ≤ x.2 ∧ x.2 ≤ mxI (abs.map (·.2))
  | [], _, _, h => by
    cases h
    exact ⟨Int.le_refl 0, fun x h => by cases h⟩
  | none :: r, _, _, h => by cases h
  | some y :: r, abs, hp, h => by
    obtain ⟨b, hb, rfl⟩ := Option.map_eq_some_iff.mp (show (allO r).map (y :: ·) = some abs from h)
    obtain ⟨h1, h2⟩ := allO_bnd (fun o ho => hp o (List.mem_cons_of_mem _ ho)) hb
    obtain ⟨p1, p2⟩ := hp (some y) List.mem_cons_self y.1 y.2 rfl
    have e : mxI ((y :: b).map (·.2)) = max y.2 (mxI (b.map (·.2))) := rfl
    rw [e, List.map_cons, List.sum_cons, List.length_cons]
    have h0 : (0 : Int) ≤ (b.map (·.1)).sum := by omega
    refine ⟨by omega, fun x hx => ?_⟩
    rcases List.mem_cons.mp hx with rfl | hx
    · exact ⟨p1, by omega, p2, by omega⟩
    · obtain ⟨a1, a2, a3, a4⟩ := h2 x hx
      exact ⟨a1, by omega, a3, by omega⟩
theorem lk_give {cs : List Nat} {m : Nat} {dw : PyData} {dr : List PyData} {ab : Int × Int} (h : lk cs 30 (some m) (.tuple (dw :: dr)) = some ab) (hdu : dueB (some ab) = true) (hg : eqS dw "give" = true)
    (hdp : PyData.depthAll (dw :: dr) + 1 < 29) (hw : wt (.tuple (dw :: dr)) ≤ 9000000) : ∃ es abs, dr = [.tuple es] ∧ Inner cs es abs := by
  rcases str_is dw with h1 | ⟨z, rfl⟩
  · rw [eqS_no h1] at hg
    cases hg
  have hz : z = "give" := of_decide_eq_true (show decide (z = "give") = true from hg)
  rw [lk_tup] at h
  have h5 : (decide (ab.1 < 61) && decide (ab.2 < 9)) = true := hdu
  rw [Bool.and_eq_true, decide_eq_true_eq, decide_eq_true_eq] at h5
  match dr with
  | [] => rw [inn_B0, if_neg (by rw [hz]; decide +kernel)] at h; cases h
  | [a, b] => rw [inn_Bn cs m z _ (.inl rfl)] at h; cases h
  | [a, b, c] => rw [inn_B3, if_neg (by rw [hz]; decide +kernel)] at h; cases h
  | a :: b :: c :: e :: r => rw [inn_Bn cs m z _ (.inr (by simp))] at h; cases h
  | [a] =>
    rw [inn_B1] at h
    split at h
    case isFalse => cases h
    case isTrue hc =>
      rcases tup_is a with h1 | ⟨es, rfl⟩
      · have := hc.2.1
        unfold isT at this
        rw [h1] at this
        cases this
      have h : outL ((es.map fun d => (d, (none : Option Nat))).map fun dm => lk cs 29 dm.2 dm.1) = some ab := h
      rw [List.map_map] at h
      have h : outL (es.map fun e => lk cs 29 none e) = some ab := h
      unfold outL at h
      obtain ⟨abs, ha, e⟩ := Option.map_eq_some_iff.mp h
      obtain ⟨b1, b2⟩ := allO_bnd (pos_map es) ha
      have e1 : 1 + (abs.map (·.1)).sum = ab.1 := by rw [← e]
      have e2 : 1 + mxI (abs.map (·.2)) = ab.2 := by rw [← e]
      have al := (allO_some _ _ ha).1
      have la : es.length = abs.length := by
        have := congrArg List.length al
        rw [List.length_map, List.length_map] at this
        exact this
      refine ⟨es, abs, rfl, ⟨al, fun x hx => ?_, by omega, fun x hx => ?_⟩⟩
      · obtain ⟨a1, a2, a3, a4⟩ := b2 x hx
        exact ⟨a1, by omega, a3, by omega⟩
      · have d1 := depA_mem hx
        have w1 := wtA_mem hx
        simp only [wt, wtA] at hw
        simp only [PyData.depthAll, PyData.depth] at hdp
        exact ⟨by omega, by omega⟩
theorem cs_of {K : PySem.W.Frag} {H : Hp} : ∀ {cs : List Nat} {xs : List V}, DpAll K H xs (cs.map fun (c : Nat) => PyData.int (c : Int)) → xs = cV cs
  | [], _, h => dpA_nil h
  | c :: r, _, h => by
    obtain ⟨x, xr, rfl, hx, hr⟩ := dpA_cons h
    rw [dp_int hx, cs_of hr]
    rfl
section
variable {P : Program} {w : World} {K : PySem.W.Frag} {mg : Str → Option Value} {base : Heap}
def spRight (K : PySem.W.Frag) : Sp := fun vs H Q _ => ∃ (t c : V) (d : PyData) (cs : List Nat) (m : Nat), vs = [t, c, .int (m : Nat)] ∧ Dp K H t d ∧ Dp K H c (cD cs) ∧ cs.length ≤ 10 ∧ 1 ≤ m ∧ okd d = true ∧ wt d ≤ 9000000 ∧ d.depth < 29 ∧ ∀ H', Gr H H' → Q (.bl true) H'
set_option maxHeartbeats 8000000 in
theorem ok_right {f fL fI fP fD : Addr} {fd dL dI dP dD : FuncData} {k : Nat} (F : Fun K "_law_right" "_law_right" sRight f fd) (HL : Has P w K mg base k "_law_looked" ["_law_thing", "_law_counts", "_law_many"] (spLk K 30) fL dL)
    (HL9 : Has P w K mg base k "_law_looked" ["_law_thing", "_law_counts", "_law_many"] (spLk K 29) fL dL) (HI : Has P w K mg base k "is_body" ["thing", "counts", "many"] (spIsB K) fI dI)
    (HP : Has P w K mg base k "parts_in" ["body"] (spPin K psz) fP dP) (HD : Has P w K mg base k "depth_in" ["body"] (spPin K dpt) fD dD) (N : RtNames mg) :
    FnG P w K mg base CX0 (k + 1) f fd ["_law_thing", "_law_counts", "_law_many"] (spRight K) := by
  refine fng_of F scRt (fun vs H Q E h => ?_) (fun cdv A outer s H vs Q E hr hgd h => ?_)
  · obtain ⟨t, c, d, cs, m, rfl, _⟩ := h
    rfl
  · obtain ⟨t, c, d, cs, m, rfl, hd, hc, hcl, hm, hok, hw, hdp, fin⟩ := h
    have nd := scRt.nd
    refine' ⟨_, pss_cons ?s1 (pss_cons ?s2 (pss_cons ?s3 (pss_cons ?s4 (pss_cons ?s5 (pss_cons ?s6 (pss_one ?s7)))))), ?rd⟩
    case s1 => exact ps_set (i := 3) nd rfl (.inl rfl) (hcall HL hr (pa_cons (pv 0) (pa_cons (pv 1) (pa_cons (pv 2) pa_nil))))
    case s2 => exact ps_set (i := 4) nd rfl (.inl rfl) (pe_and (pe_cmpR op_notN (pv 3) pe_non (nomark _)) (pe_and (pe_cmpR op_lt (pe_ix ix_tup (pv 3) pe_int (fun _ _ => rfl)) pe_int (nomark _)) (pe_one (pe_cmpR op_lt (pe_ix ix_tup (pv 3) pe_int (fun _ _ => rfl)) pe_int (nomark _)))))
    case s3 => exact ps_set (i := 5) nd rfl (.inl rfl) (pe_callB (call_reprC hr hgd) (by rfl) N.mp (by decide +kernel) (pa_cons (pv 0) pa_nil))
    case s4 =>
      refine' ps_for PassesOwn.never rfl (pi_range1 (by rfl) N.mr (pa_cons pe_int pa_nil)) (pg_name (i := 6) nd rfl (.inl rfl)) (pss_cons ?b1 (pss_one ?b2))
      case b1 =>
        exact ps_if (pt_cmpR op_ne (pe_callB (call_reprC hr hgd) (by rfl) N.mp (by decide +kernel) (pa_cons (hcall HI hr (pa_cons (pv 0) (pa_cons (pv 1) (pa_cons (pv 2) pa_nil)))) pa_nil)) (pe_callB (call_reprC hr hgd) (by rfl) N.mp (by decide +kernel) (pa_cons (pv 4) pa_nil)) (nomark _)) (pss_one (ps_ret pe_bl)) pss_nil
      case b2 =>
        exact ps_if (PW.pt (pw_and (pt_val (pv 4)) (pw_and1 (pt_cmpR op_ne (pe_callB (call_reprC hr hgd) (by rfl) N.mp (by decide +kernel) (pa_cons (pe_lst (pa_cons (hcall HP hr (pa_cons (pv 0) pa_nil)) (pa_cons (hcall HD hr (pa_cons (pv 0) pa_nil)) pa_nil))) pa_nil))
          (pe_callB (call_reprC hr hgd) (by rfl) N.mp (by decide +kernel) (pa_cons (pe_callTy call_list_of (by rfl) N.mli (by decide +kernel) (pa_cons (pv 3) pa_nil)) pa_nil)) (nomark _))))) (pss_one (ps_ret pe_bl)) pss_nil
    case s5 =>
      exact ps_set (i := 7) nd rfl (.inl rfl) (pe_ifExp (PW.pt (pw_and (pt_val (pv 4)) (pw_and1 (pt_cmpR (op_eqXS hr) (pe_ix ix_tup (pv 0) pe_int (fun _ _ => rfl)) pe_str (nomark _))))) (pe_ix ix_tup (pv 0) pe_int (fun _ _ => rfl)) (pe_tup pa_nil))
    case s6 =>
      exact ps_setLc (i := 8) (own := [("_law_one", 9)]) (g := gName 9) rfl nd rfl rfl (sw_true rfl rfl rfl (by decide +kernel)) (pi_tup (pv 7)) (blkOk_by (own := [("_law_one", 9)]) (N := nRt) (sc := defScope sRight) (by decide +kernel))
        (fun _ _ _ _ _ => pg_name (i := 9) nd rfl (Or.inl rfl)) (fun _ _ _ _ _ => pts_nil) (fun _ _ _ _ _ => pe_tup (pa_cons (hcall HP hr (pa_cons (pv 9) pa_nil)) (pa_cons (hcall HD hr (pa_cons (pv 9) pa_nil)) pa_nil)))
    case s7 =>
      exact ps_ret (pe_and (pe_cmpR op_eq (pe_callB (call_reprC hr hgd) (by rfl) N.mp (by decide +kernel) (pa_cons (pv 8) pa_nil)) (pe_callB (call_reprC hr hgd) (by rfl) N.mp (by decide +kernel) (pa_cons (pe_lc (own := [("_law_one", 9)]) (g := gName 9) rfl nd (pi_tup (pv 7)) (blkOk_by (own := [("_law_one", 9)]) (N := nRt) (sc := defScope sRight) (by decide +kernel))
        (fun _ _ _ _ _ => pg_name (i := 9) nd rfl (Or.inl rfl)) (fun _ _ _ _ _ => pts_nil) (fun _ _ _ _ _ => hcall HL9 hr (pa_cons (pv 9) (pa_cons (pv 1) (pa_cons pe_non pa_nil))))) pa_nil)) (nomark _))
        (pe_one (pe_cmpR op_eq (pe_callB (call_reprC hr hgd) (by rfl) N.mp (by decide +kernel) (pa_cons (pv 0) pa_nil)) (pv 5) (nomark _))))
    case rd =>
    have hlen : d.shown.length ≤ sizeLine := Nat.le_of_lt (small10000001 (by have := okd_len hok; omega))
    obtain ⟨ca, cx, rfl, hca, hcx⟩ := dp_tup hc
    have ecx : cx = cV cs := cs_of hcx
    subst ecx
    have eq8 : decide (0 ≤ lbb cs m 8 d 60) = dueB (lk cs 30 (some m) d) := is_body_lk hm (by omega)
    generalize ho : lk cs 30 (some m) d = o at *
    refine seq_end (fun σ S => ∃ sv, σ = [some t, some (.ref ca), some (.int (m : Nat)), some sv, none, none, none, none, none, none] ∧ Gr H S ∧ TwoV S sv o) ?A1 (fun h1 => ?call1)
    case call1 =>
      refine seq_go ?_
      refine ⟨_, rfl, _, rfl, _, rfl, t, .ref ca, d, cs, some m, rfl, hd, hc, by omega, by omega, by decide, fun hn H1 g1 => ?_, fun a b hab H1 p g1 hp => ?_⟩
      · rw [ho] at hn
        subst hn
        exact h1 _ _ ⟨.non, rfl, g1, rfl⟩
      · rw [ho] at hab
        subst hab
        exact h1 _ _ ⟨.ref p, rfl, g1, p, rfl, hp⟩
    rintro σ S1 ⟨sv, rfl, g1, htv⟩
    refine seq_end (fun σ S => S = S1 ∧ σ = [some t, some (.ref ca), some (.int (m : Nat)), some sv, some (.bl (dueB o)), none, none, none, none, none]) ?A2 (fun h2 => ?due)
    case due =>
      refine seq_go ?_
      cases o with
      | none =>
        cases (show sv = .non from htv)
        exact ⟨_, rfl, rfl, _, rfl, iteF (h2 _ _ ⟨rfl, rfl⟩)⟩
      | some ab =>
        obtain ⟨p, rfl, hp⟩ := htv
        refine ⟨_, rfl, rfl, _, rfl, iteT ⟨_, rfl, p, _, 0, _, rfl, rfl, .inl (.inl hp), atI_nat (j := 0) rfl, ab.1, 61, rfl, rfl, _, rfl, ?_⟩⟩
        cases h3 : decide (ab.1 < 61) with
        | false => exact iteF (h2 _ _ ⟨rfl, by show _ = [_, _, _, _, some (V.bl (decide (ab.1 < 61) && decide (ab.2 < 9))), _, _, _, _, _]; rw [h3]; rfl⟩)
        | true =>
          refine iteT ⟨_, rfl, p, _, 1, _, rfl, rfl, .inl (.inl hp), atI_nat (j := 1) rfl, ab.2, 9, rfl, rfl, h2 _ _ ⟨rfl, ?_⟩⟩
          show _ = [_, _, _, _, some (V.bl (decide (ab.1 < 61) && decide (ab.2 < 9))), _, _, _, _, _]
          rw [h3]
          rfl
    rintro σ S ⟨rfl, rfl⟩
    have hd1 := g1.kd.dp hd
    refine ⟨_, rfl, t, d, rfl, hd1, okd_able hok, by omega, hlen, ?_⟩
    refine gname_go ?_
    dsimp only
    refine ⟨2, rfl, by decide, by decide, ?_⟩
    refine for_it (walk_range (lo := 0) (n := (2 : Int).toNat)) (fun i σ S => ∃ y6, σ = [some t, some (.ref ca), some (.int (m : Nat)), some sv, some (.bl (dueB o)), some (.str d.shown), y6, none, none, none] ∧ Gr H S ∧ TwoV S sv o) ⟨none, rfl, g1, htv⟩ (fun _ _ _ _ _ => trivial) ?f1 ?f2
    case f1 =>
      rintro i x σ S S' hi ⟨y6, rfl, g, htv⟩ ⟨rfl, rfl⟩
      refine ⟨_, rfl, _, rfl, _, rfl, t, d, ca, cs, m, rfl, g.kd.dp hd, g.sqt hca, by omega, fun S2 g2 => ?_⟩
      rw [eq8]
      obtain ⟨b1, b2, b3⟩ := sh_bl (dueB o)
      refine ⟨_, .bool (dueB o), rfl, .bl _, b1, b2, b3, ?_⟩
      refine ⟨_, rfl, _, .bool (dueB o), rfl, .bl _, b1, b2, b3, ?_⟩
      have ne : ∀ z : Str, (!decide (V.str z = V.str z)) = false := fun z => by rw [decide_eq_true rfl]; rfl
      refine ⟨rfl, _, rfl, ?_⟩
      rw [ne]
      refine iteF ?_
      have g3 := g.trans g2
      have htv3 := htv.gr g2
      refine ⟨_, rfl, _, rfl, ?_⟩
      cases hdu : dueB o with
      | false => exact iteF (iteF ⟨_, rfl, g3, htv3⟩)
      | true =>
      cases ho2 : o with
      | none => rw [ho2] at hdu; cases hdu
      | some ab =>
      subst ho2
      obtain ⟨q1, q2, q3⟩ := lk_parts cs 30 (some m) d ab ho
      have hp60 : psz 30 [d] ≤ 1000 := by
        have h5 : (decide (ab.1 < 61) && decide (ab.2 < 9)) = true := hdu
        rw [Bool.and_eq_true, decide_eq_true_eq] at h5
        omega
      have gl := good_of q1 hp60
      obtain ⟨p, rfl, hp⟩ := htv3
      refine iteT ⟨_, rfl, t, d, 30, rfl, g3.kd.dp hd, gl, fun S3 g4 => ?_⟩
      refine ⟨_, rfl, t, d, 30, rfl, (g3.trans g4).kd.dp hd, gl, fun S4 g5 => ?_⟩
      refine ⟨by show 2 ≤ sizeLine; decide, fun l1 n1 => ?_⟩
      rw [q2, q3]
      have k1 : Gr S4 (upd S4 l1 (.lst [.int ab.1, .int ab.2])) := Gr.new n1
      have D1 : Dp K (upd S4 l1 (.lst [.int ab.1, .int ab.2])) (.ref l1) (.list [.int ab.1, .int ab.2]) := new_LD n1 (.cons (.int _) (.cons (.int _) .nil))
      generalize upd S4 l1 (.lst [.int ab.1, .int ab.2]) = S5 at k1 D1 ⊢
      obtain ⟨c1, c2, c3⟩ := sh_two ho hdu
      refine ⟨_, _, rfl, D1, c1, c2, c3, ?_⟩
      have g5 := ((g3.trans g4).trans g5).trans k1
      have hp5 := ((g4.trans ‹Gr S3 S4›).trans k1).tup hp
      refine ⟨_, rfl, p, _, rfl, .inr (.inl (.inl hp5)), fun l2 n2 => ?_⟩
      have k2 : Gr S5 (upd S5 l2 (.lst [.int ab.1, .int ab.2])) := Gr.new n2
      have D2 : Dp K (upd S5 l2 (.lst [.int ab.1, .int ab.2])) (.ref l2) (.list [.int ab.1, .int ab.2]) := new_LD n2 (.cons (.int _) (.cons (.int _) .nil))
      refine ⟨_, _, rfl, D2, c1, c2, c3, ?_⟩
      refine ⟨rfl, _, rfl, ?_⟩
      rw [ne]
      exact iteF ⟨_, rfl, g5.trans k2, p, rfl, k2.tup hp5⟩
    case f2 =>
    rintro σ S ⟨y6, rfl, g, htv⟩
    dsimp only
    refine seq_end (fun σ S => ∃ (pi : Addr) (zs : List V) (es : List PyData) (abs : List (Int × Int)), σ = [some t, some (.ref ca), some (.int (m : Nat)), some sv, some (.bl (dueB o)), some (.str d.shown), y6, some (.ref pi), none, none] ∧ Gr H S ∧ SqT K S pi zs ∧ DpAll K H zs es ∧ Inner cs es abs) ?A3 (fun h3 => ?inn)
    case inn =>
      refine seq_go ?_
      refine ⟨_, rfl, _, rfl, ?_⟩
      cases hdu : dueB o with
      | false =>
        rw [hdu] at h3
        refine iteF (iteF ⟨by show 0 ≤ sizeLine; decide, fun p0 n0 => ?_⟩)
        exact h3 _ _ ⟨p0, [], [], [], rfl, g.trans (Gr.new n0), .inl (.inl upd_same), .nil, Inner.nil cs⟩
      | true =>
      rw [hdu] at h3
      cases ho2 : o with
      | none => rw [ho2] at hdu; cases hdu
      | some ab =>
      subst ho2
      rcases tup_is d with h1 | ⟨ds, rfl⟩
      · rw [lk_noT h1] at ho
        cases ho
      obtain ⟨pt, xs, rfl, hp, hxs⟩ := dp_tup hd
      cases ds with
      | nil => cases ho
      | cons dw dr =>
      obtain ⟨xw, xr, rfl, hxw, hxr⟩ := dpA_cons hxs
      refine iteT ⟨_, rfl, pt, _, 0, xw, rfl, rfl, g.sqt hp, atI_nat (j := 0) rfl, dw, "give", SfG.Dp.dx (g.kd.dp hxw), rfl, _, rfl, ?_⟩
      cases hgi : eqS dw "give" with
      | false =>
        refine iteF ⟨by show 0 ≤ sizeLine; decide, fun p0 n0 => ?_⟩
        exact h3 _ _ ⟨p0, [], [], [], rfl, g.trans (Gr.new n0), .inl (.inl upd_same), .nil, Inner.nil cs⟩
      | true =>
        obtain ⟨es, abs, rfl, hin⟩ := lk_give ho hdu hgi (by rw [PyData.depth] at hdp; exact hdp) hw
        obtain ⟨xe, xr2, rfl, hxe, _⟩ := dpA_cons hxr
        obtain ⟨pe, zs, rfl, hpe, hzs⟩ := dp_tup hxe
        exact iteT ⟨_, rfl, pt, _, 1, _, rfl, rfl, g.sqt hp, atI_nat (j := 1) rfl, h3 _ _ ⟨pe, zs, es, abs, rfl, g, g.sqt hpe, hzs, hin⟩⟩
    rintro σ S ⟨pi, zs, es, abs, rfl, g, hpi, hzs, hin⟩
    have lz := dpA_len hzs
    have at_ : ∀ {i : Nat} {e : PyData}, es[i]? = some e → ∃ ab, abs[i]? = some ab ∧ lk cs 29 none e = some ab ∧ ab ∈ abs := fun {i} {e} he => by
      have h1 : (es.map fun e => lk cs 29 none e)[i]? = some (lk cs 29 none e) := by rw [List.getElem?_map, he]; rfl
      rw [hin.al, List.getElem?_map] at h1
      obtain ⟨ab, h2, h3⟩ := Option.map_eq_some_iff.mp h1
      exact ⟨ab, h2, h3.symm, List.mem_of_getElem? h2⟩
    have la : abs.length = es.length := by
      have := congrArg List.length hin.al
      rw [List.length_map, List.length_map] at this
      omega
    refine ⟨_, rfl, pi, rfl, ⟨_, hpi⟩, fun D nD => ?_⟩
    refine lc_it (walk_tup (xs := zs)) (fun i S4 => ∃ us : List V, S4 D = some (.lst us) ∧ TwoO S4 us ((abs.take i).map some) ∧ Gr S S4) ?z0 ?z1 ?z2 ?z3
    case z0 => exact ⟨[], upd_same, ⟨rfl, fun j o e => by cases e⟩, Gr.new nD⟩
    case z1 =>
      rintro i S4 hi ⟨us, hD, hu, g4⟩
      exact g4.sqt hpi
    case z2 =>
      rintro i x S4 S4' hi ⟨us, hD, hu, g4⟩ ⟨rfl, hx⟩
      obtain ⟨e, he, hv⟩ := dpA_at hzs hx
      obtain ⟨ab, hab, hlk, hm⟩ := at_ he
      obtain ⟨q1, q2, q3⟩ := lk_parts cs 29 none e ab hlk
      obtain ⟨b1, b2, b3, b4⟩ := hin.bnd ab hm
      have gl := good_of q1 (by omega)
      refine ⟨rfl, ?_⟩
      unfold tYes
      refine iteT ⟨_, rfl, x, e, 29, rfl, (g.trans g4).kd.dp hv, gl, fun S5 g5 => ?_⟩
      refine ⟨_, rfl, x, e, 29, rfl, ((g.trans g4).trans g5).kd.dp hv, gl, fun S6 g6 => ?_⟩
      rw [q2, q3]
      refine ⟨by show 2 ≤ sizeLine; decide, fun tn nt => ?_⟩
      have k := (g5.trans g6).trans (Gr.new (o := .tup [.int ab.1, .int ab.2]) nt)
      have lu : us.length ≤ i := by
        rw [hu.1, List.length_map, List.length_take]
        omega
      refine ⟨us, k.lst hD, small10000001 (by have := hin.sm; omega), us ++ [.ref tn], upd_same, ?_, Gr.upd_new (g4.trans k) nD⟩
      rw [List.take_add_one, hab, List.map_append]
      exact ((hu.gr k).snoc (x := .ref tn) (o := some ab) ⟨tn, rfl, upd_same⟩).upd (k.lst hD)
    case z3 =>
    rintro S4 ⟨us, hD, hu, g4⟩
    rw [lz, ← la, List.take_length] at hu
    obtain ⟨c1, c2, c3⟩ := hin.sh
    have D1 : Dp K S4 (.ref D) (.list ((abs.map some).map twoO)) := .lst (.inl (.inl hD)) hu.dp
    refine ⟨_, rfl, _, _, rfl, D1, c1, c2, c3, ?_⟩
    have hpi4 := g4.sqt hpi
    refine ⟨_, rfl, pi, rfl, ⟨_, hpi4⟩, fun D2 nD2 => ?_⟩
    refine lc_it (walk_tup (xs := zs)) (fun i S5 => ∃ us : List V, S5 D2 = some (.lst us) ∧ TwoO S5 us ((abs.take i).map some) ∧ Gr S4 S5) ?y0 ?y1 ?y2 ?y3
    case y0 => exact ⟨[], upd_same, ⟨rfl, fun j o e => by cases e⟩, Gr.new nD2⟩
    case y1 =>
      rintro i S5 hi ⟨us, hD, hu, g5⟩
      exact g5.sqt hpi4
    case y2 =>
      rintro i x S5 S5' hi ⟨us, hD, hu, g5⟩ ⟨rfl, hx⟩
      obtain ⟨e, he, hv⟩ := dpA_at hzs hx
      obtain ⟨ab, hab, hlk, hm⟩ := at_ he
      obtain ⟨d1, d2⟩ := hin.fit e (List.mem_of_getElem? he)
      have gg := (g.trans g4).trans g5
      refine ⟨rfl, ?_⟩
      unfold tYes
      refine iteT ⟨_, rfl, _, rfl, x, .ref ca, e, cs, none, rfl, gg.kd.dp hv, gg.kd.dp hc, d1, d2, by decide, fun hn => (by rw [hlk] at hn; cases hn), fun a b hab2 S6 p g6 hp => ?_⟩
      rw [hlk] at hab2
      cases hab2
      have lu : us.length ≤ i := by
        rw [hu.1, List.length_map, List.length_take]
        omega
      refine ⟨us, g6.lst hD, small10000001 (by have := hin.sm; omega), us ++ [.ref p], upd_same, ?_, Gr.upd_new (g5.trans g6) nD2⟩
      rw [List.take_add_one, hab, List.map_append]
      exact ((hu.gr g6).snoc (x := .ref p) (o := some (a, b)) ⟨p, rfl, hp⟩).upd (g6.lst hD)
    case y3 =>
    rintro S5 ⟨us2, hD2, hu2, g5⟩
    rw [lz, ← la, List.take_length] at hu2
    have D2' : Dp K S5 (.ref D2) (.list ((abs.map some).map twoO)) := .lst (.inl (.inl hD2)) hu2.dp
    refine ⟨_, _, rfl, D2', c1, c2, c3, rfl, _, rfl, ?_⟩
    rw [decide_eq_true rfl]
    have gg := (g.trans g4).trans g5
    refine iteT ⟨_, rfl, t, d, rfl, gg.kd.dp hd, okd_able hok, by omega, hlen, _, rfl, rfl, ?_⟩
    rw [decide_eq_true rfl]
    exact fin S5 gg
end
end SfE
namespace SfE
open PySem PySem.Spec PyProof.Rows L2 SfG
theorem scSum : FnScope ["_law_many"] ["_law_many"] (defScope sSum) := ⟨rfl, rfl, rfl, by decide +kernel, rfl, by decide +kernel, by decide +kernel⟩
theorem scWhens : FnScope ["_law_many"] ["_law_many"] (defScope sWhens) := ⟨rfl, rfl, rfl, by decide +kernel, rfl, by decide +kernel, by decide +kernel⟩
abbrev oneD : PyData := .tuple [.str "number", .int 1]
abbrev refD : PyData := .tuple [.str "refuse"]
/-- a sum of so many numbers -/
def sumD : Nat → Nat → PyData
  | 0, _ => oneD
  | q + 1, n => if n = 1 then oneD else .tuple [.str "plus", sumD q (n / 2), sumD q (n - n / 2)]
def whD : Nat → Nat → PyData
  | 0, _ => refD
  | q + 1, n => if n = 0 then refD else .tuple [.str "when", oneD, whD q ((n - 1) / 2), whD q (n - 1 - (n - 1) / 2)]
section
variable {P : Program} {w : World} {K : PySem.W.Frag} {mg : Str → Option Value} {base : Heap}
def spSum (K : PySem.W.Frag) (q : Nat) : Sp := fun vs H Q _ => ∃ n : Nat, vs = [.int (n : Nat)] ∧ 1 ≤ n ∧ n ≤ q ∧ q ≤ 100 ∧ ∀ H' v, Gr H H' → Dp K H' v (sumD q n) → Q v H'
theorem ok_sum {f : Addr} {fd : FuncData} (F : Fun K "_law_sum" "_law_sum" sSum f fd) (bS : Binds K fd ["_law_many"] []) (gS : mg "_law_sum" = some (.ref f)) : ∀ q, FnOk P w K mg base CX0 (q + 1) f fd ["_law_many"] (spSum K q)
  | 0 => by
    refine F.ok scSum (fun vs H Q E h => ?_) (fun cdv A outer s H vs Q E hr h => ?_)
    · obtain ⟨n, rfl, _⟩ := h
      rfl
    · obtain ⟨n, rfl, h1, h2, _⟩ := h
      omega
  | q + 1 => by
    have GS := ok_sum F bS gS q
    refine F.ok scSum (fun vs H Q E h => ?_) (fun cdv A outer s H vs Q E hr h => ?_)
    · obtain ⟨n, rfl, _⟩ := h
      rfl
    · obtain ⟨n, rfl, h1, h2, hq, fin⟩ := h
      have nd := scSum.nd
      refine' ⟨_, pss_cons ?s1 (pss_one ?s2), ?rd⟩
      case s1 => exact ps_if (pt_cmpR op_eq (pv 0) pe_int (nomark _)) (pss_one (ps_ret (pe_tup (pa_cons pe_str (pa_cons pe_int pa_nil))))) pss_nil
      case s2 =>
        exact ps_ret (pe_tup (pa_cons pe_str (pa_cons (pe_call GS hr (by rfl) gS F.kp bS .nil pass0 (pa_cons (pe_op op_fdiv (pv 0) pe_int) pa_nil))
          (pa_cons (pe_call GS hr (by rfl) gS F.kp bS .nil pass0 (pa_cons (pe_op op_sub (pv 0) (pe_op op_fdiv (pv 0) pe_int)) pa_nil)) pa_nil))))
      case rd =>
      refine ⟨_, rfl, rfl, _, rfl, ?_⟩
      rw [dec_i]
      rw [sumD] at fin
      by_cases hn : n = 1
      · rw [decide_eq_true (by omega)]
        rw [if_pos hn] at fin
        exact iteT ⟨by show 2 ≤ sizeLine; decide, fun t nt => fin _ _ (Gr.new nt) (new_TD nt (.cons (.str _) (.cons (.int _) .nil)))⟩
      · rw [decide_eq_false (by omega)]
        rw [if_neg hn] at fin
        have e1 : ((n : Nat) : Int) / 2 = ((n / 2 : Nat) : Int) := by omega
        have e2 : ((n : Nat) : Int) - ((n : Nat) : Int) / 2 = ((n - n / 2 : Nat) : Int) := by omega
        refine iteF ⟨_, rfl, n, 2, rfl, rfl, ⟨by decide, by omega⟩, n / 2, congrArg (fun z => [V.int z]) e1, by omega, by omega, by omega, fun H1 v1 g1 d1 => ?_⟩
        refine ⟨_, rfl, _, rfl, n, 2, rfl, rfl, ⟨by decide, by omega⟩, n, _, rfl, rfl, n - n / 2, congrArg (fun z => [V.int z]) e2, by omega, by omega, by omega, fun H2 v2 g2 d2 => ?_⟩
        exact ⟨by show 3 ≤ sizeLine; decide, fun t nt => fin _ _ ((g1.trans g2).trans (Gr.new nt)) (new_TD nt (.cons (.str _) (.cons (g2.kd.dp d1) (.cons d2 .nil))))⟩
def spWhens (K : PySem.W.Frag) (q : Nat) : Sp := fun vs H Q _ => ∃ n : Nat, vs = [.int (n : Nat)] ∧ n + 1 ≤ q ∧ q ≤ 100 ∧ ∀ H' v, Gr H H' → Dp K H' v (whD q n) → Q v H'
theorem ok_whens {f : Addr} {fd : FuncData} (F : Fun K "_law_whens" "_law_whens" sWhens f fd) (bS : Binds K fd ["_law_many"] []) (gS : mg "_law_whens" = some (.ref f)) : ∀ q, FnOk P w K mg base CX0 (q + 1) f fd ["_law_many"] (spWhens K q)
  | 0 => by
    refine F.ok scWhens (fun vs H Q E h => ?_) (fun cdv A outer s H vs Q E hr h => ?_)
    · obtain ⟨n, rfl, _⟩ := h
      rfl
    · obtain ⟨n, rfl, h2, _⟩ := h
      omega
  | q + 1 => by
    have GS := ok_whens F bS gS q
    refine F.ok scWhens (fun vs H Q E h => ?_) (fun cdv A outer s H vs Q E hr h => ?_)
    · obtain ⟨n, rfl, _⟩ := h
      rfl
    · obtain ⟨n, rfl, h2, hq, fin⟩ := h
      have nd := scWhens.nd
      refine' ⟨_, pss_cons ?s1 (pss_one ?s2), ?rd⟩
      case s1 => exact ps_if (pt_cmpR op_eq (pv 0) pe_int (nomark _)) (pss_one (ps_ret (pe_tup (pa_cons pe_str pa_nil)))) pss_nil
      case s2 =>
        exact ps_ret (pe_tup (pa_cons pe_str (pa_cons (pe_tup (pa_cons pe_str (pa_cons pe_int pa_nil))) (pa_cons (pe_call GS hr (by rfl) gS F.kp bS .nil pass0 (pa_cons (pe_op op_fdiv (pe_op op_sub (pv 0) pe_int) pe_int) pa_nil))
          (pa_cons (pe_call GS hr (by rfl) gS F.kp bS .nil pass0 (pa_cons (pe_op op_sub (pe_op op_sub (pv 0) pe_int) (pe_op op_fdiv (pe_op op_sub (pv 0) pe_int) pe_int)) pa_nil)) pa_nil)))))
      case rd =>
      refine ⟨_, rfl, rfl, _, rfl, ?_⟩
      rw [dec_i]
      rw [whD] at fin
      by_cases hn : n = 0
      · rw [decide_eq_true (by omega)]
        rw [if_pos hn] at fin
        exact iteT ⟨by show 1 ≤ sizeLine; decide, fun t nt => fin _ _ (Gr.new nt) (new_TD nt (.cons (.str _) .nil))⟩
      · rw [decide_eq_false (by omega)]
        rw [if_neg hn] at fin
        have e1 : (((n : Nat) : Int) - 1) / 2 = (((n - 1) / 2 : Nat) : Int) := by omega
        have e2 : ((n : Nat) : Int) - 1 - (((n : Nat) : Int) - 1) / 2 = ((n - 1 - (n - 1) / 2 : Nat) : Int) := by omega
        refine iteF ⟨by show 2 ≤ sizeLine; decide, fun t0 n0 => ?_⟩
        have k0 : Gr H (upd H t0 (.tup [.str "number", .int 1])) := Gr.new n0
        have D0 : Dp K (upd H t0 (.tup [.str "number", .int 1])) (.ref t0) oneD := new_TD n0 (.cons (.str _) (.cons (.int _) .nil))
        generalize upd H t0 (.tup [.str "number", .int 1]) = S0 at k0 D0 ⊢
        refine ⟨_, rfl, n, 1, rfl, rfl, _, 2, rfl, rfl, ⟨by decide, by omega⟩, (n - 1) / 2, congrArg (fun z => [V.int z]) e1, by omega, by omega, fun H1 v1 g1 d1 => ?_⟩
        refine ⟨_, rfl, n, 1, rfl, rfl, _, rfl, n, 1, rfl, rfl, _, 2, rfl, rfl, ⟨by decide, by omega⟩, _, _, rfl, rfl, n - 1 - (n - 1) / 2, congrArg (fun z => [V.int z]) e2, by omega, by omega, fun H2 v2 g2 d2 => ?_⟩
        exact ⟨by show 4 ≤ sizeLine; decide, fun t nt => fin _ _ (((k0.trans g1).trans g2).trans (Gr.new nt)) (new_TD nt (.cons (.str _) (.cons ((g1.trans g2).kd.dp D0) (.cons (g2.kd.dp d1) (.cons d2 .nil)))))⟩
end
end SfE
namespace SfE
open PySem PySem.Spec PyProof.Rows L2 SfG
abbrev nChain : List Str := ["_law_word", "_law_place", "_law_many", "_law_found", "_law_size", "_law_k", "_law_some"]
theorem scChain : FnScope nChain ["_law_word", "_law_place", "_law_many"] (defScope sChain) := ⟨rfl, rfl, rfl, by decide +kernel, rfl, by decide +kernel, by decide +kernel⟩
def szW (w : Str) : Nat := if w = "rest" then 1 else if w = "if" then 3 else 2
/-- the same word, one in the other at a place -/
def chD (w : Str) (p : Nat) : Nat → PyData
  | 0 => oneD
  | n + 1 => .tuple ([.str w] ++ (List.replicate p oneD ++ [chD w p n] ++ List.replicate (szW w - 1 - p) oneD) ++ List.replicate (if w = "rest" then 1 else 0) (.int 2))
def kvW : List (Key × V) := [(Sum.inr ("rest" : Str), .int 1), (Sum.inr ("if" : Str), .int 3)]
theorem val_W (z : Str) : (valV kvW (Sum.inr z)).getD (.int 2) = .int ((szW z : Nat) : Int) := by
  unfold szW
  by_cases h1 : z = "rest"
  · subst h1
    rw [if_pos rfl]
    rfl
  · rw [if_neg h1]
    by_cases h2 : z = "if"
    · subst h2
      rw [if_pos rfl]
      rfl
    · rw [if_neg h2]
      have : valV kvW (Sum.inr z) = none := by
        unfold valV
        rw [List.find?_eq_none.mpr]
        · rfl
        · intro kv hkv
          unfold kvW at hkv
          simp only [List.mem_cons, List.not_mem_nil, or_false] at hkv
          rcases hkv with rfl | rfl <;> simp only [decide_eq_true_eq] <;> intro e <;> have e2 := Sum.inr.inj e
          · exact h1 e2.symm
          · exact h2 e2.symm
      rw [this]
      rfl
theorem dpA_rep {K : PySem.W.Frag} {H : Hp} {x : V} {d : PyData} (h : Dp K H x d) : ∀ n : Nat, DpAll K H (List.replicate n [x]).flatten (List.replicate n d)
  | 0 => .nil
  | n + 1 => by
    rw [List.replicate_succ, List.replicate_succ, List.flatten_cons]
    exact .cons h (dpA_rep h n)
section
variable {P : Program} {w : World} {K : PySem.W.Frag} {mg : Str → Option Value} {base : Heap}
def spChain (K : PySem.W.Frag) : Sp := fun vs H Q _ => ∃ (z : Str) (p n : Nat), vs = [.str z, .int (p : Nat), .int (n : Nat)] ∧ p + 1 ≤ szW z ∧ n ≤ 100 ∧ ∀ H' v, Gr H H' → Dp K H' v (chD z p n) → Q v H'
set_option maxHeartbeats 4000000 in
theorem ok_chain {f : Addr} {fd : FuncData} {k : Nat} (F : Fun K "_law_chain" "_law_chain" sChain f fd) (mr : mg "range" = none) (mt : mg "tuple" = none) (mi : mg "int" = none) : FnOk P w K mg base CX0 (k + 1) f fd ["_law_word", "_law_place", "_law_many"] (spChain K) := by
  refine F.ok scChain (fun vs H Q E h => ?_) (fun cdv A outer s H vs Q E hr h => ?_)
  · obtain ⟨z, p, n, rfl, _⟩ := h
    rfl
  · obtain ⟨z, p, n, rfl, hp, hn, fin⟩ := h
    have nd := scChain.nd
    refine' ⟨_, pss_cons ?s1 (pss_cons ?s2 (pss_cons ?s3 (pss_one ?s4))), ?rd⟩
    case s1 => exact ps_set (i := 3) nd rfl (.inl rfl) (pe_tup (pa_cons pe_str (pa_cons pe_int pa_nil)))
    case s2 => exact ps_set (i := 4) nd rfl (.inl rfl) (pe_dget2 (hu_of hr) (pe_disp (pps_cons pe_str pe_int (pps_cons pe_str pe_int pps_nil)) (by rfl) (by rfl) (fun z => by cases z) (by decide)) (pv 0) pe_int ⟨rfl, rfl, rfl, rfl⟩)
    case s3 =>
      refine' ps_for PassesOwn.never rfl (pi_range1 (by rfl) mr (pa_cons (pv 2) pa_nil)) (pg_name (i := 5) nd rfl (.inl rfl)) (pss_cons ?b1 (pss_one ?b2))
      case b1 =>
        exact ps_set (i := 6) nd rfl (.inl rfl) (pe_op op_cat (pe_op op_cat (pe_op op_rep (pe_lst (pa_cons (pe_tup (pa_cons pe_str (pa_cons pe_int pa_nil))) pa_nil)) (pv 1)) (pe_lst (pa_cons (pv 3) pa_nil)))
          (pe_op op_rep (pe_lst (pa_cons (pe_tup (pa_cons pe_str (pa_cons pe_int pa_nil))) pa_nil)) (pe_op op_sub (pe_op op_sub (pv 4) pe_int) (pv 1))))
      case b2 =>
        exact ps_set (i := 3) nd rfl (.inl rfl) (pe_op op_catD (pe_op op_catD (pe_tup (pa_cons (pv 0) pa_nil)) (pe_callTy call_tuple_of (by rfl) mt (by decide +kernel) (pa_cons (pv 6) pa_nil)))
          (pe_op op_mulT (pe_tup (pa_cons pe_int pa_nil)) (pe_callTy call_int1 (by rfl) mi (by decide +kernel) (pa_cons (pe_cmpR op_eq (pv 0) pe_str (nomark _)) pa_nil))))
    case s4 => exact ps_ret (pv 3)
    case rd =>
    have szl : szW z ≤ 3 := by unfold szW; split <;> (try split) <;> omega
    refine ⟨by show 2 ≤ sizeLine; decide, fun t0 n0 => ?_⟩
    have k0 : Gr H (upd H t0 (.tup [.str "number", .int 1])) := Gr.new n0
    have D0 : Dp K (upd H t0 (.tup [.str "number", .int 1])) (.ref t0) oneD := new_TD n0 (.cons (.str _) (.cons (.int _) .nil))
    generalize upd H t0 (.tup [.str "number", .int 1]) = S0 at k0 D0 ⊢
    refine gname_go ?_
    dsimp only
    intro sz nsz
    refine ⟨upd_same, kvW, rfl, by decide, ?_⟩
    have k1 : Gr S0 (upd (upd S0 sz (.dK [])) sz (.dK (mergeK [] kvW))) := gr_new2 nsz
    have hsz : upd (upd S0 sz (.dK [])) sz (.dK (mergeK [] kvW)) sz = some (.dK kvW) := upd_same
    replace D0 := k1.kd.dp D0
    generalize upd (upd S0 sz (.dK [])) sz (.dK (mergeK [] kvW)) = S1 at k1 hsz D0 ⊢
    refine ⟨sz, rfl, .inl ⟨_, .inl hsz⟩, _, rfl, _, .inl ⟨_, Sum.inr z, .inl hsz, rfl, rfl⟩, ?_⟩
    show gName 4 ((valV kvW (Sum.inr z)).getD (.int 2)) _ _ _
    rw [val_W]
    refine gname_go ?_
    dsimp only
    refine ⟨_, rfl, n, rfl, by omega, by omega, ?_⟩
    refine for_it (walk_range (lo := 0) (n := ((n : Nat) : Int).toNat)) (fun i σ S => ∃ (v : V) (y5 y6 : Option V), σ = [some (.str z), some (.int (p : Nat)), some (.int (n : Nat)), some v, some (.int ((szW z : Nat) : Int)), y5, y6] ∧ Gr H S ∧ Dp K S v (chD z p i))
      ⟨_, none, none, rfl, k0.trans k1, D0⟩ (fun _ _ _ _ _ => trivial) ?f1 ?f2
    case f2 =>
      rintro σ S ⟨v, y5, y6, rfl, g, hv⟩
      rw [Int.toNat_natCast] at hv
      exact ⟨_, rfl, fin S v g hv⟩
    case f1 =>
    rintro i x σ S' S hi ⟨v, y5, y6, rfl, g, hv⟩ ⟨rfl, rfl⟩
    have lp : p ≤ 2 := by omega
    -- the ones ahead
    refine ⟨by show 2 ≤ sizeLine; decide, fun t1 n1 => ?_⟩
    have k1 : Gr S (upd S t1 (.tup [.str "number", .int 1])) := Gr.new n1
    have D1 : Dp K (upd S t1 (.tup [.str "number", .int 1])) (.ref t1) oneD := new_TD n1 (.cons (.str _) (.cons (.int _) .nil))
    replace hv := k1.kd.dp hv
    replace g := g.trans k1
    generalize upd S t1 (.tup [.str "number", .int 1]) = S1 at k1 D1 hv g ⊢
    refine ⟨by show 1 ≤ sizeLine; decide, fun l2 n2 => ?_⟩
    have k2 : Gr S1 (upd S1 l2 (.lst [.ref t1])) := Gr.new n2
    have L2 : upd S1 l2 (.lst [.ref t1]) l2 = some (.lst [.ref t1]) := upd_same
    replace hv := k2.kd.dp hv
    replace D1 := k2.kd.dp D1
    replace g := g.trans k2
    generalize upd S1 l2 (.lst [.ref t1]) = S2 at k2 L2 D1 hv g ⊢
    refine ⟨_, rfl, l2, (p : Nat), _, rfl, rfl, L2, by omega, by omega, Nat.le_of_lt (small10000001 (by rw [Int.toNat_natCast]; show 1 * p ≤ _; omega)), fun l3 n3 => ?_⟩
    rw [Int.toNat_natCast]
    have k3 : Gr S2 (upd S2 l3 (.lst (List.replicate p [V.ref t1]).flatten)) := Gr.new n3
    have L3 : upd S2 l3 (.lst (List.replicate p [V.ref t1]).flatten) l3 = some (.lst (List.replicate p [V.ref t1]).flatten) := upd_same
    have A3 : DpAll K S2 (List.replicate p [V.ref t1]).flatten (List.replicate p oneD) := dpA_rep D1 p
    replace hv := k3.kd.dp hv
    replace A3 := k3.kd.dpA A3
    replace g := g.trans k3
    generalize upd S2 l3 (.lst (List.replicate p [V.ref t1]).flatten) = S3 at k3 L3 A3 hv g ⊢
    -- the one within
    refine ⟨_, rfl, by show 1 ≤ sizeLine; decide, fun l4 n4 => ?_⟩
    have k4 : Gr S3 (upd S3 l4 (.lst [v])) := Gr.new n4
    have L4 : upd S3 l4 (.lst [v]) l4 = some (.lst [v]) := upd_same
    replace L3 := k4.lst L3
    replace hv := k4.kd.dp hv
    replace A3 := k4.kd.dpA A3
    replace g := g.trans k4
    generalize upd S3 l4 (.lst [v]) = S4 at k4 L3 L4 A3 hv g ⊢
    have la3 := dpA_len A3
    rw [List.length_replicate] at la3
    refine ⟨l3, l4, _, _, rfl, rfl, L3, L4, Nat.le_of_lt (small10000001 (by rw [la3]; show p + 1 ≤ _; omega)), fun l5 n5 => ?_⟩
    have A5 : DpAll K S4 ((List.replicate p [V.ref t1]).flatten ++ [v]) (List.replicate p oneD ++ [chD z p i]) := dpA_app A3 (.cons hv .nil)
    generalize (List.replicate p [V.ref t1]).flatten ++ [v] = xs5 at A5 ⊢
    have k5 : Gr S4 (upd S4 l5 (.lst xs5)) := Gr.new n5
    have L5 : upd S4 l5 (.lst xs5) l5 = some (.lst xs5) := upd_same
    replace A5 := k5.kd.dpA A5
    replace g := g.trans k5
    generalize upd S4 l5 (.lst xs5) = S5 at k5 L5 A5 g ⊢
    -- the ones behind
    refine ⟨by show 2 ≤ sizeLine; decide, fun t6 n6 => ?_⟩
    have k6 : Gr S5 (upd S5 t6 (.tup [.str "number", .int 1])) := Gr.new n6
    have D6 : Dp K (upd S5 t6 (.tup [.str "number", .int 1])) (.ref t6) oneD := new_TD n6 (.cons (.str _) (.cons (.int _) .nil))
    replace L5 := k6.lst L5
    replace A5 := k6.kd.dpA A5
    replace g := g.trans k6
    generalize upd S5 t6 (.tup [.str "number", .int 1]) = S6 at k6 D6 L5 A5 g ⊢
    refine ⟨by show 1 ≤ sizeLine; decide, fun l7 n7 => ?_⟩
    have k7 : Gr S6 (upd S6 l7 (.lst [.ref t6])) := Gr.new n7
    have L7 : upd S6 l7 (.lst [.ref t6]) l7 = some (.lst [.ref t6]) := upd_same
    replace L5 := k7.lst L5
    replace A5 := k7.kd.dpA A5
    replace D6 := k7.kd.dp D6
    replace g := g.trans k7
    generalize upd S6 l7 (.lst [.ref t6]) = S7 at k7 L5 L7 A5 D6 g ⊢
    have eb : ((szW z : Nat) : Int) - 1 - (p : Nat) = ((szW z - 1 - p : Nat) : Int) := by omega
    refine ⟨_, rfl, _, 1, rfl, rfl, _, rfl, _, (p : Nat), rfl, rfl, l7, _, _, rfl, rfl, L7, by omega, by omega, ?_, fun l8 n8 => ?_⟩
    · rw [eb, Int.toNat_natCast]
      exact Nat.le_of_lt (small10000001 (by show 1 * (szW z - 1 - p) ≤ _; omega))
    rw [eb, Int.toNat_natCast]
    have k8 : Gr S7 (upd S7 l8 (.lst (List.replicate (szW z - 1 - p) [V.ref t6]).flatten)) := Gr.new n8
    have L8 : upd S7 l8 (.lst (List.replicate (szW z - 1 - p) [V.ref t6]).flatten) l8 = some (.lst (List.replicate (szW z - 1 - p) [V.ref t6]).flatten) := upd_same
    have A8 : DpAll K S7 (List.replicate (szW z - 1 - p) [V.ref t6]).flatten (List.replicate (szW z - 1 - p) oneD) := dpA_rep D6 _
    replace A8 := k8.kd.dpA A8
    replace L5 := k8.lst L5
    replace A5 := k8.kd.dpA A5
    replace g := g.trans k8
    generalize upd S7 l8 (.lst (List.replicate (szW z - 1 - p) [V.ref t6]).flatten) = S8 at k8 L5 L8 A5 A8 g ⊢
    have la5 := dpA_len A5
    have la8 := dpA_len A8
    rw [List.length_replicate] at la8
    rw [List.length_append, List.length_replicate, List.length_singleton] at la5
    refine ⟨l5, l8, _, _, rfl, rfl, L5, L8, Nat.le_of_lt (small10000001 (by omega)), fun l9 n9 => ?_⟩
    have A9 : DpAll K S8 (xs5 ++ (List.replicate (szW z - 1 - p) [V.ref t6]).flatten) (List.replicate p oneD ++ [chD z p i] ++ List.replicate (szW z - 1 - p) oneD) := dpA_app A5 A8
    generalize xs5 ++ (List.replicate (szW z - 1 - p) [V.ref t6]).flatten = xs9 at A9 ⊢
    have k9 : Gr S8 (upd S8 l9 (.lst xs9)) := Gr.new n9
    have L9 : upd S8 l9 (.lst xs9) l9 = some (.lst xs9) := upd_same
    replace A9 := k9.kd.dpA A9
    replace g := g.trans k9
    generalize upd S8 l9 (.lst xs9) = S9 at k9 L9 A9 g ⊢
    refine gname_go ?_
    dsimp only
    -- found
    refine ⟨_, rfl, by show 1 ≤ sizeLine; decide, fun ta na => ?_⟩
    have ka : Gr S9 (upd S9 ta (.tup [.str z])) := Gr.new na
    have Da : Dp K (upd S9 ta (.tup [.str z])) (.ref ta) (.tuple [.str z]) := new_TD na (.cons (.str _) .nil)
    replace L9 := ka.lst L9
    replace A9 := ka.kd.dpA A9
    replace g := g.trans ka
    generalize upd S9 ta (.tup [.str z]) = Sa at ka Da L9 A9 g ⊢
    refine ⟨_, rfl, l9, xs9, rfl, .inl ⟨.inl (.inl L9), fun tb nb => ?_⟩⟩
    have kb : Gr Sa (upd Sa tb (.tup xs9)) := Gr.new nb
    have Db := new_TD nb A9
    replace Da := kb.kd.dp Da
    replace g := g.trans kb
    generalize upd Sa tb (.tup xs9) = Sb at kb Da Db g ⊢
    refine ⟨_, _, Da, Db, Nat.le_of_lt (small10000001 (by simp only [List.length_append, List.length_replicate, List.length_singleton]; omega)), fun vc Sc kc Dc => ?_⟩
    replace g := g.trans kc
    refine ⟨by show 1 ≤ sizeLine; decide, fun td nd' => ?_⟩
    have kd : Gr Sc (upd Sc td (.tup [.int 2])) := Gr.new nd'
    have Ld : upd Sc td (.tup [.int 2]) td = some (.tup [.int 2]) := upd_same
    replace Dc := kd.kd.dp Dc
    replace g := g.trans kd
    generalize upd Sc td (.tup [.int 2]) = Sd at kd Ld Dc g ⊢
    refine ⟨_, rfl, rfl, .inr ⟨decide (V.str z = V.str "rest"), rfl, ?_⟩⟩
    rw [dec_s]
    have ek : (if decide (z = "rest") = true then (1 : Int) else 0) = (((if z = "rest" then 1 else 0 : Nat)) : Int) := by
      by_cases hz : z = "rest"
      · rw [decide_eq_true hz, if_pos hz]; rfl
      · rw [decide_eq_false hz, if_neg hz]; rfl
    refine ⟨td, (if z = "rest" then 1 else 0), [.int 2], rfl, congrArg V.int ek, .inl (.inl Ld), by simp, by split <;> omega, by decide, fun pe Se ke He => ?_⟩
    have De : Dp K Se (.ref pe) (.tuple (List.replicate (if z = "rest" then 1 else 0) (.int 2))) := .tup He (dpA_rep (.int 2) _)
    refine ⟨_, _, ke.kd.dp Dc, De, Nat.le_of_lt (small10000001 (by simp only [List.length_append, List.length_replicate, List.length_singleton]; split <;> omega)), fun vf Sf kf Df => ?_⟩
    exact ⟨vf, _, _, rfl, (g.trans ke).trans kf, Df⟩
end
end SfE
namespace SfE
open PySem PySem.Spec PyProof.Rows L2 SfG
abbrev nCase : List Str := ["_law_place", "_law_many", "_law_found", "_law_k"]
theorem scCase : FnScope nCase ["_law_place", "_law_many"] (defScope sCase) := ⟨rfl, rfl, rfl, by decide +kernel, rfl, by decide +kernel, by decide +kernel⟩
def csD (p : Nat) : Nat → PyData
  | 0 => refD
  | n + 1 => .tuple ([.str "when", oneD] ++ (if p = 2 then [csD p n, refD] else [refD, csD p n]))
def caseD (p n : Nat) : PyData := if p = 1 then .tuple [.str "when", chD "less" 1 n, refD, refD] else csD p n
section
variable {P : Program} {w : World} {K : PySem.W.Frag} {mg : Str → Option Value} {base : Heap}
def spCase (K : PySem.W.Frag) : Sp := fun vs H Q _ => ∃ (p n : Nat), vs = [.int (p : Nat), .int (n : Nat)] ∧ 1 ≤ p ∧ p ≤ 3 ∧ n ≤ 100 ∧ ∀ H' v, Gr H H' → Dp K H' v (caseD p n) → Q v H'
set_option maxHeartbeats 4000000 in
theorem ok_case {f fC : Addr} {fd fdC : FuncData} {k : Nat} (F : Fun K "_law_case" "_law_case" sCase f fd) (HC : Has P w K mg base k "_law_chain" ["_law_word", "_law_place", "_law_many"] (spChain K) fC fdC) (mr : mg "range" = none) : FnOk P w K mg base CX0 (k + 1) f fd ["_law_place", "_law_many"] (spCase K) := by
  refine F.ok scCase (fun vs H Q E h => ?_) (fun cdv A outer s H vs Q E hr h => ?_)
  · obtain ⟨p, n, rfl, _⟩ := h
    rfl
  · obtain ⟨p, n, rfl, hp1, hp3, hn, fin⟩ := h
    have nd := scCase.nd
    refine' ⟨_, pss_cons ?s1 (pss_cons ?s2 (pss_cons ?s3 (pss_one ?s4))), ?rd⟩
    case s1 => exact ps_if (pt_cmpR op_eq (pv 0) pe_int (nomark _)) (pss_one (ps_ret (pe_tup (pa_cons pe_str (pa_cons (hcall HC hr (pa_cons pe_str (pa_cons pe_int (pa_cons (pv 1) pa_nil)))) (pa_cons (pe_tup (pa_cons pe_str pa_nil)) (pa_cons (pe_tup (pa_cons pe_str pa_nil)) pa_nil))))))) pss_nil
    case s2 => exact ps_set (i := 2) nd rfl (.inl rfl) (pe_tup (pa_cons pe_str pa_nil))
    case s3 =>
      exact ps_for PassesOwn.never rfl (pi_range1 (by rfl) mr (pa_cons (pv 1) pa_nil)) (pg_name (i := 3) nd rfl (.inl rfl)) (pss_one (ps_set (i := 2) nd rfl (.inl rfl)
        (pe_op op_catD (pe_tup (pa_cons pe_str (pa_cons (pe_tup (pa_cons pe_str (pa_cons pe_int pa_nil))) pa_nil))) (pe_stepT (pe_tup (pa_cons (pv 2) (pa_cons (pe_tup (pa_cons pe_str pa_nil)) pa_nil))) (pe_ix ix_list (pe_lst (pa_cons pe_int (pa_cons (pe_un un_neg pe_int) pa_nil))) (pe_op op_sub (pv 0) pe_int) (fun _ _ => rfl))))))
    case s4 => exact ps_ret (pv 2)
    case rd =>
    refine ⟨_, rfl, rfl, _, rfl, ?_⟩
    rw [dec_i]
    unfold caseD at fin
    by_cases h1 : p = 1
    · rw [decide_eq_true (by omega)]
      rw [if_pos h1] at fin
      refine iteT ⟨_, rfl, "less", 1, n, rfl, by decide +kernel, hn, fun H1 v1 g1 d1 => ?_⟩
      refine ⟨by show 1 ≤ sizeLine; decide, fun t2 n2 => ?_⟩
      have k2 : Gr H1 (upd H1 t2 (.tup [.str "refuse"])) := Gr.new n2
      have D2 : Dp K (upd H1 t2 (.tup [.str "refuse"])) (.ref t2) refD := new_TD n2 (.cons (.str _) .nil)
      replace d1 := k2.kd.dp d1
      generalize upd H1 t2 (.tup [.str "refuse"]) = S2 at k2 D2 d1 ⊢
      refine ⟨by show 1 ≤ sizeLine; decide, fun t3 n3 => ?_⟩
      have k3 : Gr S2 (upd S2 t3 (.tup [.str "refuse"])) := Gr.new n3
      have D3 : Dp K (upd S2 t3 (.tup [.str "refuse"])) (.ref t3) refD := new_TD n3 (.cons (.str _) .nil)
      replace d1 := k3.kd.dp d1
      replace D2 := k3.kd.dp D2
      generalize upd S2 t3 (.tup [.str "refuse"]) = S3 at k3 D2 D3 d1 ⊢
      exact ⟨by show 4 ≤ sizeLine; decide, fun t nt => fin _ _ ((g1.trans (k2.trans k3)).trans (Gr.new nt)) (new_TD nt (.cons (.str _) (.cons d1 (.cons D2 (.cons D3 .nil)))))⟩
    rw [decide_eq_false (by omega)]
    rw [if_neg h1] at fin
    refine iteF ?_
    refine ⟨by show 1 ≤ sizeLine; decide, fun t0 n0 => ?_⟩
    have k0 : Gr H (upd H t0 (.tup [.str "refuse"])) := Gr.new n0
    have D0 : Dp K (upd H t0 (.tup [.str "refuse"])) (.ref t0) refD := new_TD n0 (.cons (.str _) .nil)
    generalize upd H t0 (.tup [.str "refuse"]) = S0 at k0 D0 ⊢
    refine gname_go ?_
    dsimp only
    refine ⟨_, rfl, n, rfl, by omega, by omega, ?_⟩
    refine for_it (walk_range (lo := 0) (n := ((n : Nat) : Int).toNat)) (fun i σ S => ∃ (v : V) (y3 : Option V), σ = [some (.int (p : Nat)), some (.int (n : Nat)), some v, y3] ∧ Gr H S ∧ Dp K S v (csD p i))
      ⟨_, none, rfl, k0, D0⟩ (fun _ _ _ _ _ => trivial) ?f1 ?f2
    case f2 =>
      rintro σ S ⟨v, y3, rfl, g, hv⟩
      rw [Int.toNat_natCast] at hv
      exact ⟨_, rfl, fin S v g hv⟩
    case f1 =>
    rintro i x σ S' S hi ⟨v, y3, rfl, g, hv⟩ ⟨rfl, rfl⟩
    refine ⟨by show 2 ≤ sizeLine; decide, fun t1 n1 => ?_⟩
    have k1 : Gr S (upd S t1 (.tup [.str "number", .int 1])) := Gr.new n1
    have D1 : Dp K (upd S t1 (.tup [.str "number", .int 1])) (.ref t1) oneD := new_TD n1 (.cons (.str _) (.cons (.int _) .nil))
    replace hv := k1.kd.dp hv
    replace g := g.trans k1
    generalize upd S t1 (.tup [.str "number", .int 1]) = S1 at k1 D1 hv g ⊢
    refine ⟨by show 2 ≤ sizeLine; decide, fun t2 n2 => ?_⟩
    have k2 : Gr S1 (upd S1 t2 (.tup [.str "when", .ref t1])) := Gr.new n2
    have D2 : Dp K (upd S1 t2 (.tup [.str "when", .ref t1])) (.ref t2) (.tuple [.str "when", oneD]) := new_TD n2 (.cons (.str _) (.cons D1 .nil))
    replace hv := k2.kd.dp hv
    replace g := g.trans k2
    generalize upd S1 t2 (.tup [.str "when", .ref t1]) = S2 at k2 D2 hv g ⊢
    refine ⟨_, rfl, by show 1 ≤ sizeLine; decide, fun t3 n3 => ?_⟩
    have k3 : Gr S2 (upd S2 t3 (.tup [.str "refuse"])) := Gr.new n3
    have D3 : Dp K (upd S2 t3 (.tup [.str "refuse"])) (.ref t3) refD := new_TD n3 (.cons (.str _) .nil)
    replace hv := k3.kd.dp hv
    replace D2 := k3.kd.dp D2
    replace g := g.trans k3
    generalize upd S2 t3 (.tup [.str "refuse"]) = S3 at k3 D2 D3 hv g ⊢
    refine ⟨by show 2 ≤ sizeLine; decide, fun t4 n4 => ?_⟩
    have k4 : Gr S3 (upd S3 t4 (.tup [v, .ref t3])) := Gr.new n4
    have L4 : upd S3 t4 (.tup [v, .ref t3]) t4 = some (.tup [v, .ref t3]) := upd_same
    have A4 : DpAll K (upd S3 t4 (.tup [v, .ref t3])) [v, .ref t3] [csD p i, refD] := k4.kd.dpA (.cons hv (.cons D3 .nil))
    replace D2 := k4.kd.dp D2
    replace g := g.trans k4
    generalize upd S3 t4 (.tup [v, .ref t3]) = S4 at k4 L4 A4 D2 g ⊢
    refine ⟨t4, [v, .ref t3], rfl, .inl (.inl L4), 1, rfl, by show 2 ≤ sizeLine; decide, fun l5 n5 => ?_⟩
    have k5 : Gr S4 (upd S4 l5 (.lst [.int 1, .int (-1)])) := Gr.new n5
    have L5 : upd S4 l5 (.lst [.int 1, .int (-1)]) l5 = some (.lst [.int 1, .int (-1)]) := upd_same
    replace L4 := k5.tup L4
    replace A4 := k5.kd.dpA A4
    replace D2 := k5.kd.dp D2
    replace g := g.trans k5
    generalize upd S4 l5 (.lst [.int 1, .int (-1)]) = S5 at k5 L4 L5 A4 D2 g ⊢
    rcases (show p = 2 ∨ p = 3 by omega) with rfl | rfl
    · refine ⟨_, rfl, _, 2, rfl, rfl, l5, _, 0, .int 1, rfl, rfl, .inl (.inl L5), rfl, 1, rfl, 1, rfl, .inl (.inl L4), .inl ⟨rfl, ?_⟩⟩
      refine ⟨_, _, D2, .tup (.inl (.inl L4)) A4, by show 4 ≤ sizeLine; decide, fun v6 S6 k6 h6 => ?_⟩
      exact ⟨v6, _, rfl, g.trans k6, h6⟩
    · refine ⟨_, rfl, _, 2, rfl, rfl, l5, _, 1, .int (-1), rfl, rfl, .inl (.inl L5), rfl, -1, rfl, -1, rfl, .inl (.inl L4), .inr ⟨rfl, fun t6 n6 => ?_⟩⟩
      have D6 := new_TD n6 (dpA_rev A4)
      have k6 : Gr S5 (upd S5 t6 (.tup ([v, .ref t3] : List V).reverse)) := Gr.new n6
      replace D2 := k6.kd.dp D2
      refine ⟨_, _, D2, D6, by show 4 ≤ sizeLine; decide, fun v7 S7 k7 h7 => ?_⟩
      exact ⟨v7, _, rfl, (g.trans k6).trans k7, h7⟩
end
end SfE
namespace SfE
open PySem PySem.Spec PyProof.Rows L2 SfG
abbrev nDR : List Str := ["_law_places", "_law_word", "_law_place", "_law_told", "_law_many", "_law_sixty"]
theorem scDR : FnScope nDR [] (defScope sDeepR) := ⟨rfl, rfl, rfl, by decide +kernel, rfl, by decide +kernel, by decide +kernel⟩
abbrev plc4 : List (Str × Nat) := [("rest", 0), ("if", 0), ("if", 1), ("if", 2)]
abbrev five : List Str := ["plus", "less", "times", "same", "under"]
def plcs (i : Nat) : List (Str × Nat) := plc4 ++ (five.take i).flatMap fun z => [(z, 0), (z, 1)]
def pD (x : Str × Nat) : PyData := .tuple [.str x.1, .int (x.2 : Nat)]
def cP (x : Nat × Nat) : PyData := .tuple [.int (x.1 : Nat), .int (x.2 : Nat)]
def givC (x : Str × Nat) (n : Nat) : PyData := .tuple [.str "give", .tuple [chD x.1 x.2 n]]
theorem deep_all : ((plcs 5).all fun x => decide (x.2 + 1 ≤ szW x.1) && decide (0 ≤ lbb [] 1 8 (givC x 6) 60) && !decide (0 ≤ lbb [] 1 8 (givC x 7) 60)) = true := by decide +kernel
theorem case_all : ([(1, 6), (2, 7), (3, 7)].all fun (x : Nat × Nat) => decide (0 ≤ lbb [] 2 8 (caseD x.1 x.2) 60) && !decide (0 ≤ lbb [] 2 8 (caseD x.1 (x.2 + 1)) 60) && (match lk [] 30 (some 2) (caseD x.1 x.2) with | some pk => decide (pk.1 ≤ 1000) && decide (pk.2 = 8) | none => false)) = true := by decide +kernel
def sixtyD : PyData := .tuple ([.str "when", chD "rest" 0 2] ++ SfG.cutD (match whD 30 19 with | .tuple l => l | _ => []) (some 2) none)
theorem sixty_is : decide (0 ≤ lbb [] 1 8 sixtyD 60) = true ∧ decide (0 ≤ lbb [] 1 8 (whD 30 20) 60) = false ∧ (match lk [] 30 (some 1) sixtyD with | some pk => decide (pk.1 = 60) | none => false) = true := by
  refine ⟨?_, ?_, ?_⟩ <;> decide +kernel
section
variable {P : Program} {w : World} {K : PySem.W.Frag} {mg : Str → Option Value} {base : Heap}
theorem wh_tup : whD 30 19 = .tuple (match whD 30 19 with | .tuple l => l | _ => []) := by rfl
structure DRCalls (P : Program) (w : World) (K : PySem.W.Frag) (mg : Str → Option Value) (base : Heap) (k : Nat) (fI fC fS fW fP fD : Addr) (dI dC dS dW dP dD : FuncData) : Prop where
  HI : Has P w K mg base k "is_body" ["thing", "counts", "many"] (spIsB K) fI dI
  HC : Has P w K mg base k "_law_chain" ["_law_word", "_law_place", "_law_many"] (spChain K) fC dC
  HS : Has P w K mg base k "_law_case" ["_law_place", "_law_many"] (spCase K) fS dS
  HW : Has P w K mg base k "_law_whens" ["_law_many"] (spWhens K 30) fW dW
  HP : Has P w K mg base k "parts_in" ["body"] (spPin K psz) fP dP
  HD : Has P w K mg base k "depth_in" ["body"] (spPin K dpt) fD dD
  mp : mg "repr" = none
def spDR : Sp := fun vs H Q _ => vs = [] ∧ ∀ H', Gr H H' → Q (.bl true) H'
set_option maxHeartbeats 8000000 in
theorem ok_dr {f fI fC fS fW fP fD : Addr} {fd dI dC dS dW dP dD : FuncData} {k : Nat} (F : Fun K "_law_deep_right" "_law_deep_right" sDeepR f fd) (C : DRCalls P w K mg base k fI fC fS fW fP fD dI dC dS dW dP dD) :
    FnG P w K mg base CX0 (k + 1) f fd [] spDR := by
  refine fng_of F scDR (fun vs H Q E h => ?_) (fun cdv A outer s H vs Q E hr hgd h => ?_)
  · obtain ⟨rfl, _⟩ := h
    rfl
  · obtain ⟨rfl, fin⟩ := h
    have nd := scDR.nd
    refine' ⟨_, pss_cons ?s1 (pss_cons ?s2 (pss_cons ?s3 (pss_cons ?s4 (pss_cons ?s5 (pss_cons ?s6 (pss_one ?s7)))))), ?rd⟩
    case s1 => exact ps_set (i := 0) nd rfl (.inl rfl) (pe_lst (pa_cons (pe_tup (pa_cons pe_str (pa_cons pe_int pa_nil))) (pa_cons (pe_tup (pa_cons pe_str (pa_cons pe_int pa_nil))) (pa_cons (pe_tup (pa_cons pe_str (pa_cons pe_int pa_nil))) (pa_cons (pe_tup (pa_cons pe_str (pa_cons pe_int pa_nil))) pa_nil)))))
    case s2 =>
      exact ps_for PassesOwn.never rfl (pi_tup (pe_tup (pa_cons pe_str (pa_cons pe_str (pa_cons pe_str (pa_cons pe_str (pa_cons pe_str pa_nil))))))) (pg_name (i := 1) nd rfl (.inr rfl))
        (pss_one (ps_set (i := 0) nd rfl (.inl rfl) (pe_op op_cat (pv 0) (pe_lst (pa_cons (pe_tup (pa_cons (pv 1) (pa_cons pe_int pa_nil))) (pa_cons (pe_tup (pa_cons (pv 1) (pa_cons pe_int pa_nil))) pa_nil))))))
    case s3 =>
      refine' ps_for PassesOwn.never rfl (pi_list (pv 0)) (pg_tup rfl (pgs_cons (pg_name (i := 1) nd rfl (.inr rfl)) (pgs_cons (pg_name (i := 2) nd rfl (.inr rfl)) pgs_nil))) (pss_cons ?b1 (pss_one ?b2))
      case b1 =>
        exact ps_setLc (i := 3) (own := [("_law_many", 4)]) (g := gName 4) rfl nd rfl rfl (sw_true rfl rfl rfl (by decide +kernel)) (pi_tup (pe_tup (pa_cons pe_int (pa_cons pe_int pa_nil)))) (blkOk_by (own := [("_law_many", 4)]) (N := nDR) (sc := defScope sDeepR) (by decide +kernel))
          (fun _ _ _ _ _ => pg_name (i := 4) nd rfl (Or.inl rfl)) (fun _ _ _ _ _ => pts_nil) (fun _ _ _ _ _ => hcall C.HI hr (pa_cons (pe_tup (pa_cons pe_str (pa_cons (pe_tup (pa_cons (hcall C.HC hr (pa_cons (pv 1) (pa_cons (pv 2) (pa_cons (pv 4) pa_nil)))) pa_nil)) pa_nil))) (pa_cons (pe_tup pa_nil) (pa_cons pe_int pa_nil))))
      case b2 =>
        exact ps_if (pt_cmpR op_ne (pe_callB (call_reprC hr hgd) (by rfl) C.mp (by decide +kernel) (pa_cons (pv 3) pa_nil)) (pe_callB (call_reprC hr hgd) (by rfl) C.mp (by decide +kernel) (pa_cons (pe_lst (pa_cons pe_bl (pa_cons pe_bl pa_nil))) pa_nil)) (nomark _)) (pss_one (ps_ret pe_bl)) pss_nil
    case s4 =>
      refine' ps_for PassesOwn.never rfl (pi_tup (pe_tup (pa_cons (pe_tup (pa_cons pe_int (pa_cons pe_int pa_nil))) (pa_cons (pe_tup (pa_cons pe_int (pa_cons pe_int pa_nil))) (pa_cons (pe_tup (pa_cons pe_int (pa_cons pe_int pa_nil))) pa_nil)))))
        (pg_tup rfl (pgs_cons (pg_name (i := 2) nd rfl (.inr rfl)) (pgs_cons (pg_name (i := 4) nd rfl (.inl rfl)) pgs_nil))) (pss_cons ?c1 (pss_one ?c2))
      case c1 =>
        exact ps_set (i := 3) nd rfl (.inl rfl) (pe_lst (pa_cons (hcall C.HI hr (pa_cons (hcall C.HS hr (pa_cons (pv 2) (pa_cons (pv 4) pa_nil))) (pa_cons (pe_tup pa_nil) (pa_cons pe_int pa_nil))))
          (pa_cons (hcall C.HI hr (pa_cons (hcall C.HS hr (pa_cons (pv 2) (pa_cons (pe_op op_add (pv 4) pe_int) pa_nil))) (pa_cons (pe_tup pa_nil) (pa_cons pe_int pa_nil)))) pa_nil)))
      case c2 =>
        exact ps_if (PW.pt (pw_or (pt_cmpR op_ne (pe_callB (call_reprC hr hgd) (by rfl) C.mp (by decide +kernel) (pa_cons (pv 3) pa_nil)) (pe_callB (call_reprC hr hgd) (by rfl) C.mp (by decide +kernel) (pa_cons (pe_lst (pa_cons pe_bl (pa_cons pe_bl pa_nil))) pa_nil)) (nomark _))
          (pw_or1 (pt_cmpR op_ne (hcall C.HD hr (pa_cons (hcall C.HS hr (pa_cons (pv 2) (pa_cons (pv 4) pa_nil))) pa_nil)) pe_int (nomark _))))) (pss_one (ps_ret pe_bl)) pss_nil
    case s5 =>
      exact ps_set (i := 5) nd rfl (.inl rfl) (pe_op op_catD (pe_tup (pa_cons pe_str (pa_cons (hcall C.HC hr (pa_cons pe_str (pa_cons pe_int (pa_cons pe_int pa_nil)))) pa_nil))) (pe_slice sl_tupD (hcall C.HW hr (pa_cons pe_int pa_nil)) (po_some pe_int) po_none))
    case s6 =>
      exact ps_set (i := 3) nd rfl (.inl rfl) (pe_lst (pa_cons (hcall C.HI hr (pa_cons (pv 5) (pa_cons (pe_tup pa_nil) (pa_cons pe_int pa_nil)))) (pa_cons (hcall C.HI hr (pa_cons (hcall C.HW hr (pa_cons pe_int pa_nil)) (pa_cons (pe_tup pa_nil) (pa_cons pe_int pa_nil))))
        (pa_cons (hcall C.HP hr (pa_cons (pv 5) pa_nil)) pa_nil))))
    case s7 =>
      exact ps_ret (pe_cmpR op_eq (pe_callB (call_reprC hr hgd) (by rfl) C.mp (by decide +kernel) (pa_cons (pv 3) pa_nil)) (pe_callB (call_reprC hr hgd) (by rfl) C.mp (by decide +kernel) (pa_cons (pe_lst (pa_cons pe_bl (pa_cons pe_bl (pa_cons pe_int pa_nil)))) pa_nil)) (nomark _))
    case rd =>
    have neS : ∀ z : Str, (!decide (V.str z = V.str z)) = false := fun z => by rw [decide_eq_true rfl]; rfl
    have tf : (PyData.list [.bool true, .bool false]).showable = true ∧ (PyData.list [.bool true, .bool false]).depth ≤ 30 ∧ (PyData.list [.bool true, .bool false]).shown.length ≤ sizeLine := ⟨rfl, by simp only [PyData.depth, PyData.depthAll]; omega, by decide +kernel⟩
    -- the places of words with more ends than one
    refine ⟨by show 2 ≤ sizeLine; decide, fun t1 n1 => ?_⟩
    have A1 : DpAll K (upd H t1 (.tup [.str "rest", .int 0])) [.ref t1] [pD ("rest", 0)] := .cons (new_TD n1 (.cons (.str _) (.cons (.int _) .nil))) .nil
    have g1 : Gr H (upd H t1 (.tup [.str "rest", .int 0])) := Gr.new n1
    generalize upd H t1 (.tup [.str "rest", .int 0]) = S1 at A1 g1 ⊢
    refine ⟨by show 2 ≤ sizeLine; decide, fun t2 n2 => ?_⟩
    have A2 : DpAll K (upd S1 t2 (.tup [.str "if", .int 0])) ([.ref t1] ++ [.ref t2]) ([pD ("rest", 0)] ++ [pD ("if", 0)]) := dpA_app ((Gr.new n2).kd.dpA A1) (.cons (new_TD n2 (.cons (.str _) (.cons (.int _) .nil))) .nil)
    have g2 : Gr H (upd S1 t2 (.tup [.str "if", .int 0])) := g1.trans (Gr.new n2)
    generalize upd S1 t2 (.tup [.str "if", .int 0]) = S2 at A2 g2 ⊢
    refine ⟨by show 2 ≤ sizeLine; decide, fun t3 n3 => ?_⟩
    have A3 : DpAll K (upd S2 t3 (.tup [.str "if", .int 1])) ([.ref t1] ++ [.ref t2] ++ [.ref t3]) ([pD ("rest", 0)] ++ [pD ("if", 0)] ++ [pD ("if", 1)]) := dpA_app ((Gr.new n3).kd.dpA A2) (.cons (new_TD n3 (.cons (.str _) (.cons (.int _) .nil))) .nil)
    have g3 : Gr H (upd S2 t3 (.tup [.str "if", .int 1])) := g2.trans (Gr.new n3)
    generalize upd S2 t3 (.tup [.str "if", .int 1]) = S3 at A3 g3 ⊢
    refine ⟨by show 2 ≤ sizeLine; decide, fun t4 n4 => ?_⟩
    have A4 : DpAll K (upd S3 t4 (.tup [.str "if", .int 2])) ([.ref t1] ++ [.ref t2] ++ [.ref t3] ++ [.ref t4]) ([pD ("rest", 0)] ++ [pD ("if", 0)] ++ [pD ("if", 1)] ++ [pD ("if", 2)]) := dpA_app ((Gr.new n4).kd.dpA A3) (.cons (new_TD n4 (.cons (.str _) (.cons (.int _) .nil))) .nil)
    have g4 : Gr H (upd S3 t4 (.tup [.str "if", .int 2])) := g3.trans (Gr.new n4)
    generalize upd S3 t4 (.tup [.str "if", .int 2]) = S4 at A4 g4 ⊢
    refine ⟨by show 4 ≤ sizeLine; decide, fun l5 n5 => ?_⟩
    have k5 : Gr S4 (upd S4 l5 (.lst [.ref t1, .ref t2, .ref t3, .ref t4])) := Gr.new n5
    have L5 : upd S4 l5 (.lst [.ref t1, .ref t2, .ref t3, .ref t4]) l5 = some (.lst [.ref t1, .ref t2, .ref t3, .ref t4]) := upd_same
    replace A4 := k5.kd.dpA A4
    replace g4 := g4.trans k5
    generalize upd S4 l5 (.lst [.ref t1, .ref t2, .ref t3, .ref t4]) = S5 at k5 L5 A4 g4 ⊢
    refine gname_go ?_
    dsimp only
    refine ⟨by show 5 ≤ sizeLine; decide, fun tp ntp => ?_⟩
    have k6 : Gr S5 (upd S5 tp (.tup [.str "plus", .str "less", .str "times", .str "same", .str "under"])) := Gr.new ntp
    have T6 : upd S5 tp (.tup [.str "plus", .str "less", .str "times", .str "same", .str "under"]) tp = some (.tup (five.map V.str)) := upd_same
    replace A4 := k6.kd.dpA A4
    replace L5 := k6.lst L5
    replace g4 := g4.trans k6
    generalize upd S5 tp (.tup [.str "plus", .str "less", .str "times", .str "same", .str "under"]) = S6 at k6 T6 A4 L5 g4 ⊢
    refine ⟨tp, rfl, ⟨_, .inl (.inl T6)⟩, ?_⟩
    refine for_it (walk_tup (xs := five.map V.str)) (fun i σ S => ∃ (l : Addr) (xs : List V) (y1 : Option V), σ = [some (.ref l), y1, none, none, none, none] ∧ Gr H S ∧ S l = some (.lst xs) ∧ DpAll K S xs ((plcs i).map pD) ∧ S tp = some (.tup (five.map V.str)))
      ⟨l5, _, none, rfl, g4, L5, A4, T6⟩ ?a0 ?a1 ?a2
    case a0 =>
      rintro i σ S hi ⟨l, xs, y1, rfl, g, hL, hA, hT⟩
      exact .inl (.inl hT)
    case a1 =>
      rintro i x σ S' S hi ⟨l, xs, y1, rfl, g, hL, hA, hT⟩ ⟨rfl, hx⟩
      rw [List.getElem?_map] at hx
      obtain ⟨z, hz, rfl⟩ := Option.map_eq_some_iff.mp hx
      have hi5 : i < 5 := hi
      refine ⟨_, rfl, _, rfl, by show 2 ≤ sizeLine; decide, fun ta na => ?_⟩
      have ka : Gr S (upd S ta (.tup [.str z, .int 0])) := Gr.new na
      have Da : Dp K (upd S ta (.tup [.str z, .int 0])) (.ref ta) (pD (z, 0)) := new_TD na (.cons (.str _) (.cons (.int _) .nil))
      replace hL := ka.lst hL
      replace hT := ka.tup hT
      replace hA := ka.kd.dpA hA
      replace g := g.trans ka
      generalize upd S ta (.tup [.str z, .int 0]) = Sa at ka Da hL hT hA g ⊢
      refine ⟨_, rfl, by show 2 ≤ sizeLine; decide, fun tb nb => ?_⟩
      have kb : Gr Sa (upd Sa tb (.tup [.str z, .int 1])) := Gr.new nb
      have Db : Dp K (upd Sa tb (.tup [.str z, .int 1])) (.ref tb) (pD (z, 1)) := new_TD nb (.cons (.str _) (.cons (.int _) .nil))
      replace hL := kb.lst hL
      replace hT := kb.tup hT
      replace hA := kb.kd.dpA hA
      replace Da := kb.kd.dp Da
      replace g := g.trans kb
      generalize upd Sa tb (.tup [.str z, .int 1]) = Sb at kb Da Db hL hT hA g ⊢
      refine ⟨by show 2 ≤ sizeLine; decide, fun lc nc => ?_⟩
      have kc : Gr Sb (upd Sb lc (.lst [.ref ta, .ref tb])) := Gr.new nc
      have Lc : upd Sb lc (.lst [.ref ta, .ref tb]) lc = some (.lst [.ref ta, .ref tb]) := upd_same
      replace hL := kc.lst hL
      replace hT := kc.tup hT
      replace hA := dpA_app (kc.kd.dpA hA) (kc.kd.dpA (.cons Da (.cons Db .nil)))
      replace g := g.trans kc
      generalize upd Sb lc (.lst [.ref ta, .ref tb]) = Sc at kc Lc hL hT hA g ⊢
      have la := dpA_len hA
      have lp : ((plcs i).map pD ++ [pD (z, 0), pD (z, 1)]).length ≤ 100 := by
        have : (plcs i).length ≤ 14 := by
          have h2 : ((List.range 5).all fun i => decide ((plcs i).length ≤ 14)) = true := by decide +kernel
          exact of_decide_eq_true (List.all_eq_true.mp h2 i (List.mem_range.mpr hi5))
        rw [List.length_append, List.length_map]
        show _ + 2 ≤ _
        omega
      rw [List.length_append] at la
      refine ⟨l, lc, _, _, rfl, rfl, hL, Lc, Nat.le_of_lt (small10000001 (by omega)), fun ld nd' => ?_⟩
      have kd : Gr Sc (upd Sc ld (.lst (xs ++ [.ref ta, .ref tb]))) := Gr.new nd'
      refine ⟨ld, _, _, rfl, g.trans kd, upd_same, ?_, kd.tup hT⟩
      have ep : (plcs (i + 1)).map pD = (plcs i).map pD ++ [pD (z, 0), pD (z, 1)] := by
        unfold plcs
        rw [List.take_add_one, hz, List.flatMap_append, ← List.append_assoc, List.map_append]
        rfl
      rw [ep]
      exact kd.kd.dpA hA
    case a2 =>
    rintro σ S ⟨l, xs, y1, rfl, g, hL, hA, hT⟩
    change DpAll K S xs ((plcs 5).map pD) at hA
    dsimp only
    refine ⟨_, rfl, l, rfl, ⟨_, .inl (.inl hL)⟩, ?_⟩
    have lxs := dpA_len hA
    have gS := g
    refine for_it (walk_list (xs := xs)) (fun i σ S' => ∃ (y1 y2 y3 y4 : Option V), σ = [some (.ref l), y1, y2, y3, y4, none] ∧ Gr S S') ⟨y1, none, none, none, rfl, Gr.refl S⟩ ?b0 ?b1 ?b2
    case b0 =>
      rintro i σ S' hi ⟨y1, y2, y3, y4, rfl, g'⟩
      exact .inl (.inl (g'.lst hL))
    case b1 =>
      rintro i x σ S2' S2 hi ⟨y1, y2, y3, y4, rfl, g2⟩ ⟨rfl, hx⟩
      obtain ⟨d, hd, hv⟩ := dpA_at hA hx
      rw [List.getElem?_map] at hd
      obtain ⟨⟨z, p⟩, hzp, rfl⟩ := Option.map_eq_some_iff.mp hd
      have hall := List.all_eq_true.mp deep_all (z, p) (List.mem_of_getElem? hzp)
      rw [Bool.and_eq_true, Bool.and_eq_true, decide_eq_true_eq, Bool.not_eq_true'] at hall
      obtain ⟨⟨hp, h6⟩, h7⟩ := hall
      obtain ⟨ta, ys, rfl, hT2, hys⟩ := dp_tup (g2.kd.dp hv)
      obtain ⟨a1, yr, rfl, ha1, hyr⟩ := dpA_cons hys
      obtain ⟨a2, yr, rfl, ha2, hyr⟩ := dpA_cons hyr
      cases dpA_nil hyr
      cases dp_str ha1
      cases dp_int ha2
      refine ⟨ta, [.str z, .int (p : Nat)], rfl, hT2, rfl, .str z, [.int (p : Nat)], rfl, .int (p : Nat), [], rfl, rfl, by show 2 ≤ sizeLine; decide, fun tn nn => ?_⟩
      have kn : Gr S2 (upd S2 tn (.tup [.int 6, .int 7])) := Gr.new nn
      have Tn : upd S2 tn (.tup [.int 6, .int 7]) tn = some (.tup [.int 6, .int 7]) := upd_same
      replace g2 := g2.trans kn
      generalize upd S2 tn (.tup [.int 6, .int 7]) = S3 at kn Tn g2 ⊢
      refine ⟨tn, rfl, ⟨_, .inl (.inl Tn)⟩, fun D nD => ?_⟩
      refine lc_it (walk_tup (xs := [.int 6, .int 7])) (fun i S4 => S4 D = some (.lst (([true, false].take i).map V.bl)) ∧ Gr S3 S4) ?z0 ?z1 ?z2 ?z3
      case z0 => exact ⟨upd_same, Gr.new nD⟩
      case z1 =>
        rintro i S4 hi ⟨hD, g4⟩
        exact g4.sqt (.inl (.inl Tn))
      case z2 =>
        rintro i x S4 S4' hi ⟨hD, g4⟩ ⟨rfl, hx⟩
        refine ⟨rfl, ?_⟩
        unfold tYes
        have hi2 : i < 2 := hi
        obtain ⟨n, rfl, hn, hb⟩ : ∃ n : Nat, x = .int (n : Nat) ∧ n ≤ 100 ∧ [true, false][i]? = some (decide (0 ≤ lbb [] 1 8 (givC (z, p) n) 60)) := by
          rcases (show i = 0 ∨ i = 1 by omega) with rfl | rfl
          · cases hx
            exact ⟨6, rfl, by decide, by rw [h6]; rfl⟩
          · cases hx
            exact ⟨7, rfl, by decide, by rw [h7]; rfl⟩
        refine iteT ⟨_, rfl, _, rfl, _, rfl, z, p, n, rfl, hp, hn, fun H1 v1 k1 d1 => ?_⟩
        refine ⟨by show 1 ≤ sizeLine; decide, fun q1 m1 => ?_⟩
        have k2 : Gr H1 (upd H1 q1 (.tup [v1])) := Gr.new m1
        have D2 : Dp K (upd H1 q1 (.tup [v1])) (.ref q1) (.tuple [chD z p n]) := new_TD m1 (.cons d1 .nil)
        generalize upd H1 q1 (.tup [v1]) = H2 at k2 D2 ⊢
        refine ⟨by show 2 ≤ sizeLine; decide, fun q2 m2 => ?_⟩
        have k3 : Gr H2 (upd H2 q2 (.tup [.str "give", .ref q1])) := Gr.new m2
        have D3 : Dp K (upd H2 q2 (.tup [.str "give", .ref q1])) (.ref q2) (givC (z, p) n) := new_TD m2 (.cons (.str _) (.cons D2 .nil))
        generalize upd H2 q2 (.tup [.str "give", .ref q1]) = H3 at k3 D3 ⊢
        refine ⟨by show 0 ≤ sizeLine; decide, fun q3 m3 => ?_⟩
        have k4 : Gr H3 (upd H3 q3 (.tup [])) := Gr.new m3
        have D4 := k4.kd.dp D3
        have T4 : SqT K (upd H3 q3 (.tup [])) q3 (cV []) := .inl (.inl upd_same)
        generalize upd H3 q3 (.tup []) = H4 at k4 D4 T4 ⊢
        refine ⟨_, givC (z, p) n, q3, [], 1, rfl, D4, T4, by decide, fun H5 k5 => ?_⟩
        have kk := k1.trans (k2.trans (k3.trans (k4.trans k5)))
        refine ⟨_, kk.lst hD, small10000001 (by rw [List.length_map, List.length_take]; omega), ?_, Gr.upd_new (g4.trans kk) nD⟩
        rw [upd_same, List.take_add_one, hb, List.map_append]
        rfl
      case z3 =>
      rintro S4 ⟨hD, g4⟩
      refine gname_go ?_
      dsimp only
      have DD : Dp K S4 (.ref D) (.list [.bool true, .bool false]) := .lst (.inl (.inl hD)) (.cons (.bl _) (.cons (.bl _) .nil))
      obtain ⟨f1, f2, f3⟩ := tf
      refine ⟨_, rfl, _, _, rfl, DD, f1, f2, f3, by show 2 ≤ sizeLine; decide, fun q5 m5 => ?_⟩
      have D5 : Dp K (upd S4 q5 (.lst [.bl true, .bl false])) (.ref q5) (.list [.bool true, .bool false]) := new_LD m5 (.cons (.bl _) (.cons (.bl _) .nil))
      refine ⟨_, _, rfl, D5, f1, f2, f3, rfl, _, rfl, ?_⟩
      rw [neS]
      exact iteF ⟨_, _, _, _, rfl, g2.trans (g4.trans (Gr.new m5))⟩
    case b2 =>
    rintro σ S2 ⟨y1, y2, y3, y4, rfl, g2⟩
    dsimp only
    replace g2 := g.trans g2
    refine ⟨by show 2 ≤ sizeLine; decide, fun r1 b1 => ?_⟩
    have B1 : DpAll K (upd S2 r1 (.tup [.int 1, .int 6])) [.ref r1] [cP (1, 6)] := .cons (new_TD b1 (.cons (.int _) (.cons (.int _) .nil))) .nil
    replace g2 := g2.trans (Gr.new (o := .tup [.int 1, .int 6]) b1)
    generalize upd S2 r1 (.tup [.int 1, .int 6]) = R1 at B1 g2 ⊢
    refine ⟨by show 2 ≤ sizeLine; decide, fun r2 b2 => ?_⟩
    have B2 : DpAll K (upd R1 r2 (.tup [.int 2, .int 7])) ([.ref r1] ++ [.ref r2]) ([cP (1, 6)] ++ [cP (2, 7)]) := dpA_app ((Gr.new b2).kd.dpA B1) (.cons (new_TD b2 (.cons (.int _) (.cons (.int _) .nil))) .nil)
    replace g2 := g2.trans (Gr.new (o := .tup [.int 2, .int 7]) b2)
    generalize upd R1 r2 (.tup [.int 2, .int 7]) = R2 at B2 g2 ⊢
    refine ⟨by show 2 ≤ sizeLine; decide, fun r3 b3 => ?_⟩
    have B3 : DpAll K (upd R2 r3 (.tup [.int 3, .int 7])) ([.ref r1] ++ [.ref r2] ++ [.ref r3]) ([cP (1, 6)] ++ [cP (2, 7)] ++ [cP (3, 7)]) := dpA_app ((Gr.new b3).kd.dpA B2) (.cons (new_TD b3 (.cons (.int _) (.cons (.int _) .nil))) .nil)
    replace g2 := g2.trans (Gr.new (o := .tup [.int 3, .int 7]) b3)
    generalize upd R2 r3 (.tup [.int 3, .int 7]) = R3 at B3 g2 ⊢
    refine ⟨by show 3 ≤ sizeLine; decide, fun r4 b4 => ?_⟩
    have T4 : upd R3 r4 (.tup [.ref r1, .ref r2, .ref r3]) r4 = some (.tup [.ref r1, .ref r2, .ref r3]) := upd_same
    have B4 : DpAll K (upd R3 r4 (.tup [.ref r1, .ref r2, .ref r3])) [.ref r1, .ref r2, .ref r3] ([(1, 6), (2, 7), (3, 7)].map cP) := (Gr.new b4).kd.dpA B3
    replace g2 := g2.trans (Gr.new (o := .tup [.ref r1, .ref r2, .ref r3]) b4)
    generalize upd R3 r4 (.tup [.ref r1, .ref r2, .ref r3]) = R4 at B4 T4 g2 ⊢
    refine ⟨r4, rfl, ⟨_, .inl (.inl T4)⟩, ?_⟩
    refine for_it (walk_tup (xs := [.ref r1, .ref r2, .ref r3])) (fun i σ S' => ∃ (y1 y2 y3 y4 : Option V), σ = [some (.ref l), y1, y2, y3, y4, none] ∧ Gr R4 S') ⟨y1, y2, y3, y4, rfl, Gr.refl R4⟩ ?e0 ?e1 ?e2
    case e0 =>
      rintro i σ S' hi ⟨y1, y2, y3, y4, rfl, g'⟩
      exact .inl (.inl (g'.tup T4))
    case e1 =>
      rintro i x σ R' R hi ⟨y1, y2, y3, y4, rfl, g4⟩ ⟨rfl, hx⟩
      obtain ⟨d, hd, hv⟩ := dpA_at B4 hx
      rw [List.getElem?_map] at hd
      obtain ⟨⟨p, m⟩, hpm, rfl⟩ := Option.map_eq_some_iff.mp hd
      have hmem := List.mem_of_getElem? hpm
      have hall := List.all_eq_true.mp case_all (p, m) hmem
      have hb : 1 ≤ p ∧ p ≤ 3 ∧ m ≤ 20 := by
        have h2 : ([(1, 6), (2, 7), (3, 7)].all fun (x : Nat × Nat) => decide (1 ≤ x.1 ∧ x.1 ≤ 3 ∧ x.2 ≤ 20)) = true := by decide +kernel
        exact of_decide_eq_true (List.all_eq_true.mp h2 (p, m) hmem)
      rw [Bool.and_eq_true, Bool.and_eq_true, Bool.not_eq_true'] at hall
      obtain ⟨⟨h6, h7⟩, h8⟩ := hall
      obtain ⟨ta, ys, rfl, hT2, hys⟩ := dp_tup (g4.kd.dp hv)
      obtain ⟨a1, yr, rfl, ha1, hyr⟩ := dpA_cons hys
      obtain ⟨a2, yr, rfl, ha2, hyr⟩ := dpA_cons hyr
      cases dpA_nil hyr
      cases dp_int ha1
      cases dp_int ha2
      refine ⟨ta, [.int (p : Nat), .int (m : Nat)], rfl, hT2, rfl, .int (p : Nat), [.int (m : Nat)], rfl, .int (m : Nat), [], rfl, rfl, ?_⟩
      refine ⟨_, rfl, _, rfl, p, m, rfl, hb.1, hb.2.1, by omega, fun H1 v1 k1 d1 => ?_⟩
      refine ⟨by show 0 ≤ sizeLine; decide, fun q1 m1 => ?_⟩
      have k2 : Gr H1 (upd H1 q1 (.tup [])) := Gr.new m1
      have U1 : SqT K (upd H1 q1 (.tup [])) q1 (cV []) := .inl (.inl upd_same)
      generalize upd H1 q1 (.tup []) = H2 at k2 U1 ⊢
      refine ⟨v1, caseD p m, q1, [], 2, rfl, k2.kd.dp d1, U1, by decide, fun H3 k3 => ?_⟩
      rw [show decide (0 ≤ lbb [] 2 8 (caseD p m) 60) = true from h6]
      refine ⟨_, rfl, _, rfl, m, 1, rfl, rfl, p, m + 1, rfl, hb.1, hb.2.1, by omega, fun H4 v4 k4 d4 => ?_⟩
      refine ⟨by show 0 ≤ sizeLine; decide, fun q5 m5 => ?_⟩
      have k5 : Gr H4 (upd H4 q5 (.tup [])) := Gr.new m5
      have U5 : SqT K (upd H4 q5 (.tup [])) q5 (cV []) := .inl (.inl upd_same)
      generalize upd H4 q5 (.tup []) = H5 at k5 U5 ⊢
      refine ⟨v4, caseD p (m + 1), q5, [], 2, rfl, k5.kd.dp d4, U5, by decide, fun H6 k6 => ?_⟩
      rw [show decide (0 ≤ lbb [] 2 8 (caseD p (m + 1)) 60) = false from h7]
      refine ⟨by show 2 ≤ sizeLine; decide, fun l7 m7 => ?_⟩
      have k7 : Gr H6 (upd H6 l7 (.lst [.bl true, .bl false])) := Gr.new m7
      have DD : Dp K (upd H6 l7 (.lst [.bl true, .bl false])) (.ref l7) (.list [.bool true, .bool false]) := new_LD m7 (.cons (.bl _) (.cons (.bl _) .nil))
      generalize upd H6 l7 (.lst [.bl true, .bl false]) = H7 at k7 DD ⊢
      refine gname_go ?_
      dsimp only
      obtain ⟨f1, f2, f3⟩ := tf
      refine ⟨_, rfl, _, _, rfl, DD, f1, f2, f3, by show 2 ≤ sizeLine; decide, fun q8 m8 => ?_⟩
      have k8 : Gr H7 (upd H7 q8 (.lst [.bl true, .bl false])) := Gr.new m8
      have D8 : Dp K (upd H7 q8 (.lst [.bl true, .bl false])) (.ref q8) (.list [.bool true, .bool false]) := new_LD m8 (.cons (.bl _) (.cons (.bl _) .nil))
      generalize upd H7 q8 (.lst [.bl true, .bl false]) = H8 at k8 D8 ⊢
      refine ⟨_, _, rfl, D8, f1, f2, f3, rfl, _, rfl, ?_⟩
      rw [neS]
      refine iteF ⟨_, rfl, _, rfl, p, m, rfl, hb.1, hb.2.1, by omega, fun H9 v9 k9 d9 => ?_⟩
      cases hlk : lk [] 30 (some 2) (caseD p m) with
      | none =>
        have h9 : (match lk [] 30 (some 2) (caseD p m) with | some pk => decide (pk.1 ≤ 1000) && decide (pk.2 = 8) | none => false) = true := h8
        rw [hlk] at h9
        cases h9
      | some pk =>
      have h9 : (match lk [] 30 (some 2) (caseD p m) with | some pk => decide (pk.1 ≤ 1000) && decide (pk.2 = 8) | none => false) = true := h8
      rw [hlk] at h9
      have h9 : (decide (pk.1 ≤ 1000) && decide (pk.2 = 8)) = true := h9
      rw [Bool.and_eq_true, decide_eq_true_eq, decide_eq_true_eq] at h9
      obtain ⟨w1, w2, w3⟩ := lk_parts [] 30 (some 2) (caseD p m) pk hlk
      refine ⟨v9, caseD p m, 30, rfl, d9, good_of w1 (by omega), fun HA kA => ?_⟩
      rw [w3, h9.2]
      refine ⟨rfl, _, rfl, ?_⟩
      exact iteF ⟨_, _, _, _, rfl, g4.trans (k1.trans (k2.trans (k3.trans (k4.trans (k5.trans (k6.trans (k7.trans (k8.trans (k9.trans kA)))))))))⟩
    case e2 =>
    rintro σ S3 ⟨y1, y2, y3, y4, rfl, g3⟩
    dsimp only
    replace g3 := g2.trans g3
    refine ⟨"rest", 0, 2, rfl, by decide +kernel, by decide, fun H1 v1 k1 d1 => ?_⟩
    refine ⟨by show 2 ≤ sizeLine; decide, fun q2 m2 => ?_⟩
    have k2 : Gr H1 (upd H1 q2 (.tup [.str "when", v1])) := Gr.new m2
    have D2 : Dp K (upd H1 q2 (.tup [.str "when", v1])) (.ref q2) (.tuple [.str "when", chD "rest" 0 2]) := new_TD m2 (.cons (.str _) (.cons d1 .nil))
    generalize upd H1 q2 (.tup [.str "when", v1]) = H2 at k2 D2 ⊢
    refine ⟨19, rfl, by decide, by decide, fun H3 v3 k3 d3 => ?_⟩
    rw [wh_tup] at d3
    refine ⟨2, rfl, _, d3, fun v4 H4 k4 d4 => ?_⟩
    refine ⟨_, _, (k3.trans k4).kd.dp D2, d4, Nat.le_of_lt (small10000001 (by decide +kernel)), fun v5 H5 k5 d5 => ?_⟩
    have d5 : Dp K H5 v5 sixtyD := d5
    replace g3 := g3.trans (k1.trans (k2.trans (k3.trans (k4.trans k5))))
    refine gname_go ?_
    dsimp only
    obtain ⟨x1, x2, x3⟩ := sixty_is
    refine ⟨_, rfl, by show 0 ≤ sizeLine; decide, fun q6 m6 => ?_⟩
    have k6 : Gr H5 (upd H5 q6 (.tup [])) := Gr.new m6
    have U6 : SqT K (upd H5 q6 (.tup [])) q6 (cV []) := .inl (.inl upd_same)
    replace d5 := k6.kd.dp d5
    generalize upd H5 q6 (.tup []) = H6 at k6 U6 d5 ⊢
    refine ⟨v5, sixtyD, q6, [], 1, rfl, d5, U6, by decide, fun H7 k7 => ?_⟩
    rw [x1]
    refine ⟨20, rfl, by decide, by decide, fun H8 v8 k8 d8 => ?_⟩
    refine ⟨by show 0 ≤ sizeLine; decide, fun q9 m9 => ?_⟩
    have k9 : Gr H8 (upd H8 q9 (.tup [])) := Gr.new m9
    have U9 : SqT K (upd H8 q9 (.tup [])) q9 (cV []) := .inl (.inl upd_same)
    replace d8 := k9.kd.dp d8
    generalize upd H8 q9 (.tup []) = H9 at k9 U9 d8 ⊢
    refine ⟨v8, whD 30 20, q9, [], 1, rfl, d8, U9, by decide, fun HA kA => ?_⟩
    rw [x2]
    have k6A := k7.trans (k8.trans (k9.trans kA))
    cases hlk : lk [] 30 (some 1) sixtyD with
    | none =>
      rw [hlk] at x3
      cases x3
    | some pk =>
    rw [hlk] at x3
    have x4 : pk.1 = 60 := of_decide_eq_true (show decide (pk.1 = 60) = true from x3)
    obtain ⟨w1, w2, w3⟩ := lk_parts [] 30 (some 1) sixtyD pk hlk
    refine ⟨_, rfl, v5, sixtyD, 30, rfl, k6A.kd.dp d5, good_of w1 (by omega), fun HB kB => ?_⟩
    rw [w2, x4]
    refine ⟨by show 3 ≤ sizeLine; decide, fun lC mC => ?_⟩
    have DC : Dp K (upd HB lC (.lst [.bl true, .bl false, .int 60])) (.ref lC) (.list [.bool true, .bool false, .int 60]) := new_LD mC (.cons (.bl _) (.cons (.bl _) (.cons (.int _) .nil)))
    have kC : Gr HB (upd HB lC (.lst [.bl true, .bl false, .int 60])) := Gr.new mC
    generalize upd HB lC (.lst [.bl true, .bl false, .int 60]) = HC at kC DC ⊢
    refine gname_go ?_
    dsimp only
    have sh3 : (PyData.list [.bool true, .bool false, .int 60]).showable = true ∧ (PyData.list [.bool true, .bool false, .int 60]).depth ≤ 30 ∧ (PyData.list [.bool true, .bool false, .int 60]).shown.length ≤ sizeLine :=
      ⟨by decide +kernel, by simp only [PyData.depth, PyData.depthAll]; omega, by decide +kernel⟩
    obtain ⟨f1, f2, f3⟩ := sh3
    refine ⟨_, rfl, _, _, rfl, DC, f1, f2, f3, by show 3 ≤ sizeLine; decide, fun lD mD => ?_⟩
    have DDD : Dp K (upd HC lD (.lst [.bl true, .bl false, .int 60])) (.ref lD) (.list [.bool true, .bool false, .int 60]) := new_LD mD (.cons (.bl _) (.cons (.bl _) (.cons (.int _) .nil)))
    refine ⟨_, _, rfl, DDD, f1, f2, f3, rfl, ?_⟩
    rw [decide_eq_true rfl]
    exact fin _ (g3.trans (k6.trans (k6A.trans (kB.trans (kC.trans (Gr.new mD))))))
end
end SfE
namespace SfE
open PySem PySem.Spec PyProof.Rows L2 SfG
abbrev nBR : List Str := ["_law_full", "_law_more", "_law_some", "_law_bodies", "_law_k", "_law_wide", "_law_told", "_law_one"]
theorem scBR : FnScope nBR [] (defScope sBoundR) := ⟨rfl, rfl, rfl, by decide +kernel, rfl, by decide +kernel, by decide +kernel⟩
abbrev nineD : PyData := .tuple [.str "number", .int 9]
abbrev zeroD : PyData := .tuple [.str "number", .int 0]
def rsD : Nat → PyData
  | 0 => nineD
  | n + 1 => .tuple [.str "rest", rsD n, .int 99]
def boD : Nat → PyData
  | 0 => .tuple [.str "give", .tuple [nineD]]
  | n + 1 => .tuple [.str "when", zeroD, refD, boD n]
def wiD : Nat → PyData
  | 0 => nineD
  | n + 1 => .tuple [.str "times", wiD n, wiD n]
def fullD : PyData := .tuple [.str "give", .tuple [sumD 20 16, sumD 20 14, zeroD]]
def moreD : PyData := .tuple [.str "give", .tuple [sumD 20 16, sumD 20 14, .tuple [.str "rest", zeroD, .int 2]]]
def gvD (d : PyData) : PyData := .tuple [.str "give", .tuple [d]]
theorem b_full : decide (0 ≤ lbb [] 3 8 fullD 60) = true := by decide +kernel
theorem b_more : decide (0 ≤ lbb [] 3 8 moreD 60) = false := by decide +kernel
theorem b_b6 : decide (0 ≤ lbb [] 1 8 (boD 6) 60) = true := by decide +kernel
theorem b_b7 : decide (0 ≤ lbb [] 1 8 (boD 7) 60) = false := by decide +kernel
theorem b_s6 : decide (0 ≤ lbb [] 1 8 (gvD (rsD 6)) 60) = true := by decide +kernel
theorem b_s7 : decide (0 ≤ lbb [] 1 8 (gvD (rsD 7)) 60) = false := by decide +kernel
theorem b_s3 : decide (0 ≤ lbb [] 1 8 (gvD (rsD 3000)) 60) = false := by decide +kernel
theorem b_w : decide (0 ≤ lbb [] 1 8 (gvD (wiD 40)) 60) = false := by decide +kernel
def pk? (o : Option (Int × Int)) (a b : Int) : Bool := match o with
  | some pk => decide (pk.1 = a) && decide (pk.2 = b)
  | none => false
theorem c_full : pk? (lk [] 30 (some 3) fullD) 60 6 = true := by decide +kernel
theorem c_b6 : pk? (lk [] 30 (some 1) (boD 6)) 20 8 = true := by decide +kernel
theorem c_s6 : pk? (lk [] 30 none (rsD 6)) 7 7 = true := by decide +kernel
mutual
theorem pl_keep {K : PySem.W.Frag} {H H' : Hp} (kt : ∀ {a xs}, SqT K H a xs → SqT K H' a xs) : ∀ {d : PyData} {v : V}, plT d = true → Dp K H v d → Dp K H' v d
  | .int i, v, _, h => by
    cases h
    exact .int _
  | .str z, v, _, h => by
    cases h
    exact .str _
  | .tuple ds, v, hp, h => by
    rw [plT] at hp
    cases h with
    | tup h hs => exact .tup (kt h) (plA_keep kt hp hs)
theorem plA_keep {K : PySem.W.Frag} {H H' : Hp} (kt : ∀ {a xs}, SqT K H a xs → SqT K H' a xs) : ∀ {ds : List PyData} {vs : List V}, plA ds = true → DpAll K H vs ds → DpAll K H' vs ds
  | [], vs, _, h => by
    cases h
    exact .nil
  | d :: r, vs, hp, h => by
    rw [plA, Bool.and_eq_true] at hp
    cases h with
    | cons h hs => exact .cons (pl_keep kt hp.1 h) (plA_keep kt hp.2 hs)
end
theorem pl_rs : ∀ n, plT (rsD n) = true
  | 0 => by decide +kernel
  | n + 1 => by rw [rsD, plT, plA, plA, plA, plT, pl_rs n]; rfl
theorem pl_bo : ∀ n, plT (boD n) = true
  | 0 => by decide +kernel
  | n + 1 => by rw [boD, plT, plA, plA, plA, plA, plT, pl_bo n]; rfl
theorem pl_wi : ∀ n, plT (wiD n) = true
  | 0 => by decide +kernel
  | n + 1 => by rw [wiD, plT, plA, plA, plA, plT, pl_wi n]; rfl
def rsL (n : Nat) : List PyData := (List.range n).map rsD
def boL (n : Nat) : List PyData := (List.range n).map boD
theorem pl_rsL (n : Nat) : plA (rsL n) = true := plA_iff.mpr fun d hd => by
  obtain ⟨i, _, rfl⟩ := List.mem_map.mp hd
  exact pl_rs i
theorem pl_boL (n : Nat) : plA (boL n) = true := plA_iff.mpr fun d hd => by
  obtain ⟨i, _, rfl⟩ := List.mem_map.mp hd
  exact pl_bo i
structure BI (K : PySem.W.Frag) (Hf S : Hp) (l1 l2 : Addr) (us ws : List V) (n m : Nat) : Prop where
  g : Gr Hf S
  f1 : Hf l1 = none
  f2 : Hf l2 = none
  ne : l1 ≠ l2
  h1 : S l1 = some (.lst us)
  a1 : DpAll K S us (rsL n)
  h2 : S l2 = some (.lst ws)
  a2 : DpAll K S ws (boL m)
theorem BI.gr {K : PySem.W.Frag} {Hf S S' : Hp} {l1 l2 : Addr} {us ws : List V} {n m : Nat} (b : BI K Hf S l1 l2 us ws n m) (k : Gr S S') : BI K Hf S' l1 l2 us ws n m :=
  ⟨b.g.trans k, b.f1, b.f2, b.ne, k.lst b.h1, k.kd.dpA b.a1, k.lst b.h2, k.kd.dpA b.a2⟩
theorem rsL_next (n : Nat) : rsL (n + 1) = rsL n ++ [rsD n] := by unfold rsL; rw [List.range_succ, List.map_append]; rfl
theorem boL_next (n : Nat) : boL (n + 1) = boL n ++ [boD n] := by unfold boL; rw [List.range_succ, List.map_append]; rfl
theorem BI.app1 {K : PySem.W.Frag} {Hf S : Hp} {l1 l2 : Addr} {us ws : List V} {n m : Nat} {v : V} (b : BI K Hf S l1 l2 us ws n m) (hv : Dp K S v (rsD n)) : BI K Hf (upd S l1 (.lst (us ++ [v]))) l1 l2 (us ++ [v]) ws (n + 1) m := by
  refine ⟨b.g.upd_new b.f1, b.f1, b.f2, b.ne, upd_same, ?_, (upd_ne (Ne.symm b.ne)).trans b.h2, plA_keep (sqt_upd b.h1) (pl_boL m) b.a2⟩
  rw [rsL_next]
  exact dpA_app (plA_keep (sqt_upd b.h1) (pl_rsL n) b.a1) (.cons (pl_keep (sqt_upd b.h1) (pl_rs n) hv) .nil)
theorem BI.app2 {K : PySem.W.Frag} {Hf S : Hp} {l1 l2 : Addr} {us ws : List V} {n m : Nat} {v : V} (b : BI K Hf S l1 l2 us ws n m) (hv : Dp K S v (boD m)) : BI K Hf (upd S l2 (.lst (ws ++ [v]))) l1 l2 us (ws ++ [v]) n (m + 1) := by
  refine ⟨b.g.upd_new b.f2, b.f1, b.f2, b.ne, (upd_ne b.ne).trans b.h1, plA_keep (sqt_upd b.h2) (pl_rsL n) b.a1, upd_same, ?_⟩
  rw [boL_next]
  exact dpA_app (plA_keep (sqt_upd b.h2) (pl_boL m) b.a2) (.cons (pl_keep (sqt_upd b.h2) (pl_bo m) hv) .nil)
theorem rsL_get {n i : Nat} (h : i < n) : (rsL n)[i]? = some (rsD i) := by
  unfold rsL
  rw [List.getElem?_map, List.getElem?_range h]
  rfl
theorem boL_get {n i : Nat} (h : i < n) : (boL n)[i]? = some (boD i) := by
  unfold boL
  rw [List.getElem?_map, List.getElem?_range h]
  rfl
/-- the last of some -/
theorem last_rs {K : PySem.W.Frag} {S : Hp} {us : List V} {n : Nat} (h : DpAll K S us (rsL (n + 1))) : ∃ v, atI us (-1) = some v ∧ Dp K S v (rsD n) := by
  have l := dpA_len h
  have hl : us.length = n + 1 := by rw [l]; unfold rsL; rw [List.length_map, List.length_range]
  obtain ⟨v, hv, d⟩ := dpA_get h (rsL_get (Nat.lt_succ_self n))
  refine ⟨v, ?_, d⟩
  have e : us = us.take n ++ [v] := by
    have h2 := (List.take_append_drop n us).symm
    obtain ⟨li, ei⟩ := List.getElem?_eq_some_iff.mp hv
    rw [List.drop_eq_getElem_cons li, ei, List.drop_eq_nil_of_le (by omega)] at h2
    exact h2
  rw [e]
  exact atI_last _ v
theorem last_bo {K : PySem.W.Frag} {S : Hp} {us : List V} {n : Nat} (h : DpAll K S us (boL (n + 1))) : ∃ v, atI us (-1) = some v ∧ Dp K S v (boD n) := by
  have l := dpA_len h
  have hl : us.length = n + 1 := by rw [l]; unfold boL; rw [List.length_map, List.length_range]
  obtain ⟨v, hv, d⟩ := dpA_get h (boL_get (Nat.lt_succ_self n))
  refine ⟨v, ?_, d⟩
  have e : us = us.take n ++ [v] := by
    have h2 := (List.take_append_drop n us).symm
    obtain ⟨li, ei⟩ := List.getElem?_eq_some_iff.mp hv
    rw [List.drop_eq_getElem_cons li, ei, List.drop_eq_nil_of_le (by omega)] at h2
    exact h2
  rw [e]
  exact atI_last _ v
section
variable {P : Program} {w : World} {K : PySem.W.Frag} {mg : Str → Option Value} {base : Heap}
theorem pk_is {o : Option (Int × Int)} {a b : Int} (h : pk? o a b = true) : ∃ pk, o = some pk ∧ pk.1 = a ∧ pk.2 = b := by
  cases o with
  | none => cases h
  | some pk =>
    have h : (decide (pk.1 = a) && decide (pk.2 = b)) = true := h
    rw [Bool.and_eq_true, decide_eq_true_eq, decide_eq_true_eq] at h
    exact ⟨pk, rfl, h.1, h.2⟩
abbrev eightD : PyData := .list [.bool true, .bool false, .bool true, .bool false, .bool true, .bool false, .bool false, .bool false]
theorem sh_eight : eightD.showable = true ∧ eightD.depth ≤ 30 ∧ eightD.shown.length ≤ sizeLine := ⟨by decide +kernel, by simp only [PyData.depth, PyData.depthAll]; omega, by decide +kernel⟩
structure BRCalls (P : Program) (w : World) (K : PySem.W.Frag) (mg : Str → Option Value) (base : Heap) (k : Nat) (fI fS fP fD : Addr) (dI dS dP dD : FuncData) : Prop where
  HI : Has P w K mg base k "is_body" ["thing", "counts", "many"] (spIsB K) fI dI
  HS : Has P w K mg base k "_law_sum" ["_law_many"] (spSum K 20) fS dS
  HP : Has P w K mg base k "parts_in" ["body"] (spPin K psz) fP dP
  HD : Has P w K mg base k "depth_in" ["body"] (spPin K dpt) fD dD
  mp : mg "repr" = none
  mr : mg "range" = none
set_option maxHeartbeats 8000000 in
theorem ok_br {f fI fS fP fD : Addr} {fd dI dS dP dD : FuncData} {k : Nat} (F : Fun K "_law_bounds_right" "_law_bounds_right" sBoundR f fd) (C : BRCalls P w K mg base k fI fS fP fD dI dS dP dD) :
    FnG P w K mg base CX0 (k + 1) f fd [] spDR := by
  refine fng_of F scBR (fun vs H Q E h => ?_) (fun cdv A outer s H vs Q E hr hgd h => ?_)
  · obtain ⟨rfl, _⟩ := h
    rfl
  · obtain ⟨rfl, fin⟩ := h
    have nd := scBR.nd
    refine' ⟨_, pss_cons ?s1 (pss_cons ?s2 (pss_cons ?s3 (pss_cons ?s4 (pss_cons ?s5 (pss_cons ?s6 (pss_cons ?s7 (pss_cons ?s8 (pss_cons ?s9 (pss_cons ?s10 (pss_one ?s11)))))))))), ?rd⟩
    case s1 => exact ps_set (i := 0) nd rfl (.inl rfl) (pe_tup (pa_cons pe_str (pa_cons (pe_tup (pa_cons (hcall C.HS hr (pa_cons pe_int pa_nil)) (pa_cons (hcall C.HS hr (pa_cons pe_int pa_nil)) (pa_cons (pe_tup (pa_cons pe_str (pa_cons pe_int pa_nil))) pa_nil)))) pa_nil)))
    case s2 => exact ps_set (i := 1) nd rfl (.inl rfl) (pe_tup (pa_cons pe_str (pa_cons (pe_tup (pa_cons (hcall C.HS hr (pa_cons pe_int pa_nil)) (pa_cons (hcall C.HS hr (pa_cons pe_int pa_nil)) (pa_cons (pe_tup (pa_cons pe_str (pa_cons (pe_tup (pa_cons pe_str (pa_cons pe_int pa_nil))) (pa_cons pe_int pa_nil)))) pa_nil)))) pa_nil)))
    case s3 => exact ps_par (i := 2) (j := 3) rfl nd rfl rfl (by decide) rfl rfl (pa_cons (pe_lst (pa_cons (pe_tup (pa_cons pe_str (pa_cons pe_int pa_nil))) pa_nil)) (pa_cons (pe_lst (pa_cons (pe_tup (pa_cons pe_str (pa_cons (pe_tup (pa_cons (pe_tup (pa_cons pe_str (pa_cons pe_int pa_nil))) pa_nil)) pa_nil))) pa_nil)) pa_nil)) (by rfl)
    case s4 =>
      exact ps_for PassesOwn.never rfl (pi_range1 (by rfl) C.mr (pa_cons pe_int pa_nil)) (pg_name (i := 4) nd rfl (.inl rfl)) (pss_one (ps_expr (pe_bm PySem.F.plainAttrs_list PySem.F.slot_list_append PySem.F.type_list_append mt_append (pv 2)
        (pa_cons (pe_tup (pa_cons pe_str (pa_cons (pe_ix ix_list (pv 2) (pe_un un_neg pe_int) (fun _ _ => rfl)) (pa_cons pe_int pa_nil)))) pa_nil))))
    case s5 =>
      exact ps_for PassesOwn.never rfl (pi_range1 (by rfl) C.mr (pa_cons pe_int pa_nil)) (pg_name (i := 4) nd rfl (.inl rfl)) (pss_one (ps_expr (pe_bm PySem.F.plainAttrs_list PySem.F.slot_list_append PySem.F.type_list_append mt_append (pv 3)
        (pa_cons (pe_tup (pa_cons pe_str (pa_cons (pe_tup (pa_cons pe_str (pa_cons pe_int pa_nil))) (pa_cons (pe_tup (pa_cons pe_str pa_nil)) (pa_cons (pe_ix ix_list (pv 3) (pe_un un_neg pe_int) (fun _ _ => rfl)) pa_nil))))) pa_nil))))
    case s6 => exact ps_set (i := 5) nd rfl (.inl rfl) (pe_tup (pa_cons pe_str (pa_cons pe_int pa_nil)))
    case s7 =>
      exact ps_for PassesOwn.never rfl (pi_range1 (by rfl) C.mr (pa_cons pe_int pa_nil)) (pg_name (i := 4) nd rfl (.inl rfl)) (pss_one (ps_set (i := 5) nd rfl (.inl rfl) (pe_tup (pa_cons pe_str (pa_cons (pv 5) (pa_cons (pv 5) pa_nil))))))
    case s8 =>
      exact ps_set (i := 6) nd rfl (.inl rfl) (pe_lst (pa_cons (hcall C.HI hr (pa_cons (pv 0) (pa_cons (pe_tup pa_nil) (pa_cons pe_int pa_nil)))) (pa_cons (hcall C.HI hr (pa_cons (pv 1) (pa_cons (pe_tup pa_nil) (pa_cons pe_int pa_nil))))
        (pa_cons (hcall C.HI hr (pa_cons (pe_ix ix_list (pv 3) pe_int (fun _ _ => rfl)) (pa_cons (pe_tup pa_nil) (pa_cons pe_int pa_nil)))) (pa_cons (hcall C.HI hr (pa_cons (pe_ix ix_list (pv 3) pe_int (fun _ _ => rfl)) (pa_cons (pe_tup pa_nil) (pa_cons pe_int pa_nil)))) pa_nil)))))
    case s9 =>
      exact ps_set (i := 6) nd rfl (.inl rfl) (pe_op op_cat (pv 6) (pe_lc (own := [("_law_one", 7)]) (g := gName 7) rfl nd (pi_tup (pe_tup (pa_cons (pe_ix ix_list (pv 2) pe_int (fun _ _ => rfl)) (pa_cons (pe_ix ix_list (pv 2) pe_int (fun _ _ => rfl)) (pa_cons (pe_ix ix_list (pv 2) pe_int (fun _ _ => rfl)) (pa_cons (pv 5) pa_nil))))))
        (blkOk_by (own := [("_law_one", 7)]) (N := nBR) (sc := defScope sBoundR) (by decide +kernel)) (fun _ _ _ _ _ => pg_name (i := 7) nd rfl (Or.inl rfl)) (fun _ _ _ _ _ => pts_nil)
        (fun _ _ _ _ _ => hcall C.HI hr (pa_cons (pe_tup (pa_cons pe_str (pa_cons (pe_tup (pa_cons (pv 7) pa_nil)) pa_nil))) (pa_cons (pe_tup pa_nil) (pa_cons pe_int pa_nil))))))
    case s10 =>
      exact ps_if (pt_cmpR op_ne (pe_callB (call_reprC hr hgd) (by rfl) C.mp (by decide +kernel) (pa_cons (pv 6) pa_nil)) (pe_callB (call_reprC hr hgd) (by rfl) C.mp (by decide +kernel) (pa_cons (pe_lst (pa_cons pe_bl (pa_cons pe_bl (pa_cons pe_bl (pa_cons pe_bl (pa_cons pe_bl (pa_cons pe_bl (pa_cons pe_bl (pa_cons pe_bl pa_nil))))))))) pa_nil)) (nomark _)) (pss_one (ps_ret pe_bl)) pss_nil
    case s11 =>
      exact ps_ret (pe_cmpR (op_eqD hr.units) (pe_lst (pa_cons (hcall C.HP hr (pa_cons (pv 0) pa_nil)) (pa_cons (hcall C.HD hr (pa_cons (pe_ix ix_list (pv 3) pe_int (fun _ _ => rfl)) pa_nil)) (pa_cons (hcall C.HD hr (pa_cons (pe_ix ix_list (pv 2) pe_int (fun _ _ => rfl)) pa_nil)) (pa_cons (hcall C.HP hr (pa_cons (pe_ix ix_list (pv 2) pe_int (fun _ _ => rfl)) pa_nil)) pa_nil)))))
        (pe_lst (pa_cons pe_int (pa_cons pe_int (pa_cons pe_int (pa_cons pe_int pa_nil))))) (nomark _))
    case rd =>
    have neS : ∀ z : Str, (!decide (V.str z = V.str z)) = false := fun z => by rw [decide_eq_true rfl]; rfl
    refine ⟨16, rfl, by decide, by decide, by decide, fun H1 v1 k1 d1 => ⟨14, rfl, by decide, by decide, by decide, fun H2 v2 k2 d2 => ⟨by show 2 ≤ sizeLine; decide, fun t3 n3 => ?_⟩⟩⟩
    have k3 : Gr H2 (upd H2 t3 (.tup [.str "number", .int 0])) := Gr.new n3
    have D3 : Dp K (upd H2 t3 (.tup [.str "number", .int 0])) (.ref t3) zeroD := new_TD n3 (.cons (.str _) (.cons (.int _) .nil))
    replace d1 := (k2.trans k3).kd.dp d1
    replace d2 := k3.kd.dp d2
    have g := k1.trans (k2.trans k3)
    generalize upd H2 t3 (.tup [.str "number", .int 0]) = H3 at k3 D3 d1 d2 g ⊢
    refine ⟨by show 3 ≤ sizeLine; decide, fun t4 n4 => ?_⟩
    have D4 : Dp K (upd H3 t4 (.tup [v1, v2, .ref t3])) (.ref t4) (.tuple [sumD 20 16, sumD 20 14, zeroD]) := new_TD n4 (.cons d1 (.cons d2 (.cons D3 .nil)))
    replace g := g.trans (Gr.new (o := .tup [v1, v2, .ref t3]) n4)
    generalize upd H3 t4 (.tup [v1, v2, .ref t3]) = H4 at D4 g ⊢
    refine ⟨by show 2 ≤ sizeLine; decide, fun t5 n5 => ?_⟩
    have DF : Dp K (upd H4 t5 (.tup [.str "give", .ref t4])) (.ref t5) fullD := new_TD n5 (.cons (.str _) (.cons D4 .nil))
    replace g := g.trans (Gr.new (o := .tup [.str "give", .ref t4]) n5)
    generalize upd H4 t5 (.tup [.str "give", .ref t4]) = H5 at DF g ⊢
    refine gname_go ?_
    dsimp only
    refine ⟨16, rfl, by decide, by decide, by decide, fun H6 v6 k6 d6 => ⟨14, rfl, by decide, by decide, by decide, fun H7 v7 k7 d7 => ⟨by show 2 ≤ sizeLine; decide, fun t8 n8 => ?_⟩⟩⟩
    have k8 : Gr H7 (upd H7 t8 (.tup [.str "number", .int 0])) := Gr.new n8
    have D8 : Dp K (upd H7 t8 (.tup [.str "number", .int 0])) (.ref t8) zeroD := new_TD n8 (.cons (.str _) (.cons (.int _) .nil))
    replace d6 := (k7.trans k8).kd.dp d6
    replace d7 := k8.kd.dp d7
    replace DF := (k6.trans (k7.trans k8)).kd.dp DF
    replace g := g.trans (k6.trans (k7.trans k8))
    generalize upd H7 t8 (.tup [.str "number", .int 0]) = H8 at k8 D8 d6 d7 DF g ⊢
    refine ⟨by show 3 ≤ sizeLine; decide, fun t9 n9 => ?_⟩
    have k9 : Gr H8 (upd H8 t9 (.tup [.str "rest", .ref t8, .int 2])) := Gr.new n9
    have D9 : Dp K (upd H8 t9 (.tup [.str "rest", .ref t8, .int 2])) (.ref t9) (.tuple [.str "rest", zeroD, .int 2]) := new_TD n9 (.cons (.str _) (.cons D8 (.cons (.int _) .nil)))
    replace d6 := k9.kd.dp d6
    replace d7 := k9.kd.dp d7
    replace DF := k9.kd.dp DF
    replace g := g.trans k9
    generalize upd H8 t9 (.tup [.str "rest", .ref t8, .int 2]) = H9 at k9 D9 d6 d7 DF g ⊢
    refine ⟨by show 3 ≤ sizeLine; decide, fun ta na => ?_⟩
    have ka : Gr H9 (upd H9 ta (.tup [v6, v7, .ref t9])) := Gr.new na
    have Da : Dp K (upd H9 ta (.tup [v6, v7, .ref t9])) (.ref ta) (.tuple [sumD 20 16, sumD 20 14, .tuple [.str "rest", zeroD, .int 2]]) := new_TD na (.cons d6 (.cons d7 (.cons D9 .nil)))
    replace DF := ka.kd.dp DF
    replace g := g.trans ka
    generalize upd H9 ta (.tup [v6, v7, .ref t9]) = Ha at ka Da DF g ⊢
    refine ⟨by show 2 ≤ sizeLine; decide, fun tb nb => ?_⟩
    have kb : Gr Ha (upd Ha tb (.tup [.str "give", .ref ta])) := Gr.new nb
    have DM : Dp K (upd Ha tb (.tup [.str "give", .ref ta])) (.ref tb) moreD := new_TD nb (.cons (.str _) (.cons Da .nil))
    replace DF := kb.kd.dp DF
    replace g := g.trans kb
    generalize upd Ha tb (.tup [.str "give", .ref ta]) = Hf at kb DM DF g ⊢
    refine gname_go ?_
    dsimp only
    -- the two lists
    refine ⟨by show 2 ≤ sizeLine; decide, fun tc nc => ?_⟩
    have kc : Gr Hf (upd Hf tc (.tup [.str "number", .int 9])) := Gr.new nc
    have Dc : Dp K (upd Hf tc (.tup [.str "number", .int 9])) (.ref tc) nineD := new_TD nc (.cons (.str _) (.cons (.int _) .nil))
    generalize upd Hf tc (.tup [.str "number", .int 9]) = Hc at kc Dc ⊢
    refine ⟨by show 1 ≤ sizeLine; decide, fun l1 m1 => ?_⟩
    have f1 : Hf l1 = none := kc.back _ m1
    have kd : Gr Hc (upd Hc l1 (.lst [.ref tc])) := Gr.new m1
    have L1 : upd Hc l1 (.lst [.ref tc]) l1 = some (.lst [.ref tc]) := upd_same
    replace Dc := kd.kd.dp Dc
    replace kc := kc.trans kd
    generalize upd Hc l1 (.lst [.ref tc]) = Hd at kd L1 Dc kc ⊢
    refine ⟨by show 2 ≤ sizeLine; decide, fun te ne => ?_⟩
    have ke : Gr Hd (upd Hd te (.tup [.str "number", .int 9])) := Gr.new ne
    have De : Dp K (upd Hd te (.tup [.str "number", .int 9])) (.ref te) nineD := new_TD ne (.cons (.str _) (.cons (.int _) .nil))
    replace Dc := ke.kd.dp Dc
    replace L1 := ke.lst L1
    replace kc := kc.trans ke
    generalize upd Hd te (.tup [.str "number", .int 9]) = He at ke L1 Dc De kc ⊢
    refine ⟨by show 1 ≤ sizeLine; decide, fun tf nf => ?_⟩
    have kf : Gr He (upd He tf (.tup [.ref te])) := Gr.new nf
    have Df : Dp K (upd He tf (.tup [.ref te])) (.ref tf) (.tuple [nineD]) := new_TD nf (.cons De .nil)
    replace Dc := kf.kd.dp Dc
    replace L1 := kf.lst L1
    replace kc := kc.trans kf
    generalize upd He tf (.tup [.ref te]) = Hg at kf L1 Dc Df kc ⊢
    refine ⟨by show 2 ≤ sizeLine; decide, fun tg ng => ?_⟩
    have kg : Gr Hg (upd Hg tg (.tup [.str "give", .ref tf])) := Gr.new ng
    have Dg : Dp K (upd Hg tg (.tup [.str "give", .ref tf])) (.ref tg) (boD 0) := new_TD ng (.cons (.str _) (.cons Df .nil))
    replace Dc := kg.kd.dp Dc
    replace L1 := kg.lst L1
    replace kc := kc.trans kg
    generalize upd Hg tg (.tup [.str "give", .ref tf]) = Hh at kg L1 Dc Dg kc ⊢
    refine ⟨by show 1 ≤ sizeLine; decide, fun l2 m2 => ?_⟩
    have f2 : Hf l2 = none := kc.back _ m2
    have kh : Gr Hh (upd Hh l2 (.lst [.ref tg])) := Gr.new m2
    have B0 : BI K Hf (upd Hh l2 (.lst [.ref tg])) l1 l2 [.ref tc] [.ref tg] 1 1 := ⟨kc.trans kh, f1, f2, ne_of_none L1 m2, kh.lst L1, .cons (kh.kd.dp Dc) .nil, upd_same, .cons (kh.kd.dp Dg) .nil⟩
    generalize upd Hh l2 (.lst [.ref tg]) = S0 at B0 ⊢
    refine ⟨_, _, rfl, ?_⟩
    dsimp only
    have s1000 : ∀ {n : Nat}, n ≤ 5000 → n < sizeLine := fun h => small10000001 (by omega)
    have lenR : ∀ {S : Hp} {us : List V} {n : Nat}, DpAll K S us (rsL n) → us.length = n := fun h => by
      rw [dpA_len h]; unfold rsL; rw [List.length_map, List.length_range]
    have lenB : ∀ {S : Hp} {us : List V} {n : Nat}, DpAll K S us (boL n) → us.length = n := fun h => by
      rw [dpA_len h]; unfold boL; rw [List.length_map, List.length_range]
    refine ⟨3000, rfl, by decide, by decide, ?_⟩
    refine for_it (walk_range (lo := 0) (n := (3000 : Int).toNat)) (fun i σ S => ∃ (us : List V) (y4 : Option V), σ = [some (.ref t5), some (.ref tb), some (.ref l1), some (.ref l2), y4, none, none, none] ∧ BI K Hf S l1 l2 us [.ref tg] (i + 1) 1) ⟨_, none, rfl, B0⟩ (fun _ _ _ _ _ => trivial) ?p1 ?p2
    case p1 =>
      rintro i x σ S' S hi ⟨us, y4, rfl, b⟩ ⟨rfl, rfl⟩
      have hi2 : i < 3000 := hi
      obtain ⟨v, hv, dv⟩ := last_rs b.a1
      refine ⟨_, rfl, .inl ⟨rfl, ⟨_, .inl (.inl b.h1)⟩⟩, _, rfl, 1, rfl, l1, us, -1, v, rfl, rfl, .inl (.inl b.h1), hv, by show 3 ≤ sizeLine; decide, fun q nq => ?_⟩
      have kq : Gr S (upd S q (.tup [.str "rest", v, .int 99])) := Gr.new nq
      have Dq : Dp K (upd S q (.tup [.str "rest", v, .int 99])) (.ref q) (rsD (i + 1)) := new_TD nq (.cons (.str _) (.cons dv (.cons (.int _) .nil)))
      replace b := b.gr kq
      generalize upd S q (.tup [.str "rest", v, .int 99]) = S1 at kq Dq b ⊢
      exact ⟨l1, us, .ref q, rfl, rfl, b.h1, s1000 (by have := lenR b.a1; omega), us ++ [.ref q], _, rfl, b.app1 Dq⟩
    case p2 =>
    rintro σ S ⟨us, y4, rfl, b⟩
    change BI K Hf S l1 l2 us [.ref tg] 3001 1 at b
    dsimp only
    refine ⟨7, rfl, by decide, by decide, ?_⟩
    refine for_it (walk_range (lo := 0) (n := (7 : Int).toNat)) (fun i σ S => ∃ (ws : List V) (y4 : Option V), σ = [some (.ref t5), some (.ref tb), some (.ref l1), some (.ref l2), y4, none, none, none] ∧ BI K Hf S l1 l2 us ws 3001 (i + 1)) ⟨_, y4, rfl, b⟩ (fun _ _ _ _ _ => trivial) ?q1 ?q2
    case q1 =>
      rintro i x σ S' S hi ⟨ws, y4, rfl, b⟩ ⟨rfl, rfl⟩
      have hi2 : i < 7 := hi
      refine ⟨_, rfl, .inl ⟨rfl, ⟨_, .inl (.inl b.h2)⟩⟩, by show 2 ≤ sizeLine; decide, fun q nq => ?_⟩
      have kq : Gr S (upd S q (.tup [.str "number", .int 0])) := Gr.new nq
      have Dq : Dp K (upd S q (.tup [.str "number", .int 0])) (.ref q) zeroD := new_TD nq (.cons (.str _) (.cons (.int _) .nil))
      replace b := b.gr kq
      generalize upd S q (.tup [.str "number", .int 0]) = S1 at kq Dq b ⊢
      refine ⟨by show 1 ≤ sizeLine; decide, fun q2 nq2 => ?_⟩
      have kq2 : Gr S1 (upd S1 q2 (.tup [.str "refuse"])) := Gr.new nq2
      have Dq2 : Dp K (upd S1 q2 (.tup [.str "refuse"])) (.ref q2) refD := new_TD nq2 (.cons (.str _) .nil)
      replace b := b.gr kq2
      replace Dq := kq2.kd.dp Dq
      generalize upd S1 q2 (.tup [.str "refuse"]) = S2 at kq2 Dq Dq2 b ⊢
      obtain ⟨v, hv, dv⟩ := last_bo b.a2
      refine ⟨_, rfl, 1, rfl, l2, ws, -1, v, rfl, rfl, .inl (.inl b.h2), hv, by show 4 ≤ sizeLine; decide, fun q3 nq3 => ?_⟩
      have kq3 : Gr S2 (upd S2 q3 (.tup [.str "when", .ref q, .ref q2, v])) := Gr.new nq3
      have Dq3 : Dp K (upd S2 q3 (.tup [.str "when", .ref q, .ref q2, v])) (.ref q3) (boD (i + 1)) := new_TD nq3 (.cons (.str _) (.cons Dq (.cons Dq2 (.cons dv .nil))))
      replace b := b.gr kq3
      generalize upd S2 q3 (.tup [.str "when", .ref q, .ref q2, v]) = S3 at kq3 Dq3 b ⊢
      exact ⟨l2, ws, .ref q3, rfl, rfl, b.h2, s1000 (by have := lenB b.a2; omega), ws ++ [.ref q3], _, rfl, b.app2 Dq3⟩
    case q2 =>
    clear b B0
    rintro σ S ⟨ws, y4', rfl, b⟩
    change BI K Hf S l1 l2 us ws 3001 8 at b
    dsimp only
    refine ⟨by show 2 ≤ sizeLine; decide, fun q nq => ?_⟩
    have kq : Gr S (upd S q (.tup [.str "number", .int 9])) := Gr.new nq
    have Dq : Dp K (upd S q (.tup [.str "number", .int 9])) (.ref q) (wiD 0) := new_TD nq (.cons (.str _) (.cons (.int _) .nil))
    replace b := b.gr kq
    generalize upd S q (.tup [.str "number", .int 9]) = S1 at kq Dq b ⊢
    refine gname_go ?_
    dsimp only
    refine ⟨40, rfl, by decide, by decide, ?_⟩
    refine for_it (walk_range (lo := 0) (n := (40 : Int).toNat)) (fun i σ S => ∃ (v : V) (y4 : Option V), σ = [some (.ref t5), some (.ref tb), some (.ref l1), some (.ref l2), y4, some v, none, none] ∧ BI K Hf S l1 l2 us ws 3001 8 ∧ Dp K S v (wiD i)) ⟨_, y4', rfl, b, Dq⟩ (fun _ _ _ _ _ => trivial) ?r1 ?r2
    case r1 =>
      rintro i x σ S' S hi ⟨v, y4, rfl, b, dv⟩ ⟨rfl, rfl⟩
      refine ⟨_, rfl, _, rfl, by show 3 ≤ sizeLine; decide, fun q nq => ?_⟩
      exact ⟨_, _, rfl, b.gr (Gr.new nq), new_TD nq (.cons (.str _) (.cons dv (.cons dv .nil)))⟩
    case r2 =>
    clear b Dq
    rintro σ S ⟨vw, y4, rfl, b, dw⟩
    change Dp K S vw (wiD 40) at dw
    dsimp only
    have gH := g
    have lR := lenR b.a1
    have lB := lenB b.a2
    obtain ⟨x6, hx6, _⟩ := dpA_get b.a2 (boL_get (show 6 < 8 by decide))
    obtain ⟨x7, hx7, _⟩ := dpA_get b.a2 (boL_get (show 7 < 8 by decide))
    have both : ∀ {S : Hp} {xs : List V} {ds : List PyData} {i : Nat} {x : V} {d : PyData}, DpAll K S xs ds → xs[i]? = some x → ds[i]? = some d → Dp K S x d := fun h h1 h2 => by
      obtain ⟨d', e, hd⟩ := dpA_at h h1
      rw [h2] at e
      cases e
      exact hd
    have e6 := boL_get (show 6 < 8 by decide)
    have e7 := boL_get (show 7 < 8 by decide)
    obtain ⟨y6, hy6, _⟩ := dpA_get b.a1 (rsL_get (show 6 < 3001 by decide))
    obtain ⟨y7, hy7, _⟩ := dpA_get b.a1 (rsL_get (show 7 < 3001 by decide))
    obtain ⟨y3, hy3, _⟩ := dpA_get b.a1 (rsL_get (show 3000 < 3001 by decide))
    have r6 := rsL_get (show 6 < 3001 by decide)
    have r7 := rsL_get (show 7 < 3001 by decide)
    have r3 := rsL_get (show 3000 < 3001 by decide)
    clear kq
    generalize S = Z1 at b dw ⊢
    refine ⟨_, rfl, by show 0 ≤ sizeLine; decide, fun q1 m1 => ?_⟩
    have ka1 : Gr Z1 (upd Z1 q1 (.tup [])) := Gr.new m1
    have U1 : SqT K (upd Z1 q1 (.tup [])) q1 (cV []) := .inl (.inl upd_same)
    replace b := b.gr ka1
    replace dw := ka1.kd.dp dw
    generalize upd Z1 q1 (.tup []) = R1 at ka1 U1 b dw ⊢
    refine ⟨.ref t5, fullD, q1, [], 3, rfl, b.g.kd.dp DF, U1, by decide, fun Z2 kb1 => ?_⟩
    rw [b_full]
    replace b := b.gr kb1
    replace dw := kb1.kd.dp dw
    refine ⟨_, rfl, by show 0 ≤ sizeLine; decide, fun q2 m2 => ?_⟩
    have ka2 : Gr Z2 (upd Z2 q2 (.tup [])) := Gr.new m2
    have U2 : SqT K (upd Z2 q2 (.tup [])) q2 (cV []) := .inl (.inl upd_same)
    replace b := b.gr ka2
    replace dw := ka2.kd.dp dw
    generalize upd Z2 q2 (.tup []) = R2 at ka2 U2 b dw ⊢
    refine ⟨.ref tb, moreD, q2, [], 3, rfl, b.g.kd.dp DM, U2, by decide, fun Z3 kb2 => ?_⟩
    rw [b_more]
    replace b := b.gr kb2
    replace dw := kb2.kd.dp dw
    refine ⟨_, rfl, l2, ws, 6, x6, rfl, rfl, .inl (.inl b.h2), atI_nat hx6, by show 0 ≤ sizeLine; decide, fun q3 m3 => ?_⟩
    have ka3 : Gr Z3 (upd Z3 q3 (.tup [])) := Gr.new m3
    have U3 : SqT K (upd Z3 q3 (.tup [])) q3 (cV []) := .inl (.inl upd_same)
    replace b := b.gr ka3
    replace dw := ka3.kd.dp dw
    generalize upd Z3 q3 (.tup []) = R3 at ka3 U3 b dw ⊢
    refine ⟨x6, boD 6, q3, [], 1, rfl, both b.a2 hx6 e6, U3, by decide, fun Z4 kb3 => ?_⟩
    rw [b_b6]
    replace b := b.gr kb3
    replace dw := kb3.kd.dp dw
    refine ⟨_, rfl, l2, ws, 7, x7, rfl, rfl, .inl (.inl b.h2), atI_nat hx7, by show 0 ≤ sizeLine; decide, fun q4 m4 => ?_⟩
    have ka4 : Gr Z4 (upd Z4 q4 (.tup [])) := Gr.new m4
    have U4 : SqT K (upd Z4 q4 (.tup [])) q4 (cV []) := .inl (.inl upd_same)
    replace b := b.gr ka4
    replace dw := ka4.kd.dp dw
    generalize upd Z4 q4 (.tup []) = R4 at ka4 U4 b dw ⊢
    refine ⟨x7, boD 7, q4, [], 1, rfl, both b.a2 hx7 e7, U4, by decide, fun Z5 kb4 => ?_⟩
    rw [b_b7]
    replace b := b.gr kb4
    replace dw := kb4.kd.dp dw
    refine ⟨by show 4 ≤ sizeLine; decide, fun l3 m3 => ?_⟩
    have k5 : Gr Z5 (upd Z5 l3 (.lst [.bl true, .bl false, .bl true, .bl false])) := Gr.new m3
    have L3 : upd Z5 l3 (.lst [.bl true, .bl false, .bl true, .bl false]) l3 = some (.lst [.bl true, .bl false, .bl true, .bl false]) := upd_same
    replace b := b.gr k5
    replace dw := k5.kd.dp dw
    generalize upd Z5 l3 (.lst [.bl true, .bl false, .bl true, .bl false]) = Z6 at k5 L3 b dw ⊢
    refine gname_go ?_
    dsimp only
    refine ⟨_, rfl, _, rfl, l1, us, 6, y6, rfl, rfl, .inl (.inl b.h1), atI_nat hy6, _, rfl, l1, us, 7, y7, rfl, rfl, .inl (.inl b.h1), atI_nat hy7, _, rfl, l1, us, 3000, y3, rfl, rfl, .inl (.inl b.h1), atI_nat hy3, _, rfl, by show 4 ≤ sizeLine; decide, fun t6 m6 => ?_⟩
    have A6 : DpAll K Z6 [y6, y7, y3, vw] [rsD 6, rsD 7, rsD 3000, wiD 40] := .cons (both b.a1 hy6 r6) (.cons (both b.a1 hy7 r7) (.cons (both b.a1 hy3 r3) (.cons dw .nil)))
    have k6 : Gr Z6 (upd Z6 t6 (.tup [y6, y7, y3, vw])) := Gr.new m6
    have T6 : upd Z6 t6 (.tup [y6, y7, y3, vw]) t6 = some (.tup [y6, y7, y3, vw]) := upd_same
    replace b := b.gr k6
    replace A6 := k6.kd.dpA A6
    replace L3 := k6.lst L3
    generalize upd Z6 t6 (.tup [y6, y7, y3, vw]) = Z7 at k6 T6 A6 L3 b ⊢
    refine ⟨t6, rfl, ⟨_, .inl (.inl T6)⟩, fun D nD => ?_⟩
    refine lc_it (walk_tup (xs := [y6, y7, y3, vw])) (fun i S4 => S4 D = some (.lst (([true, false, false, false].take i).map V.bl)) ∧ Gr Z7 S4) ?z0 ?z1 ?z2 ?z3
    case z0 => exact ⟨upd_same, Gr.new nD⟩
    case z1 =>
      rintro i S4 hi ⟨hD, g4⟩
      exact g4.sqt (.inl (.inl T6))
    case z2 =>
      rintro i x S4' S4 hi ⟨hD, g4⟩ ⟨rfl, hx⟩
      refine ⟨rfl, ?_⟩
      unfold tYes
      have hi2 : i < 4 := hi
      obtain ⟨d, hd, hv⟩ := dpA_at A6 hx
      have hb : [true, false, false, false][i]? = some (decide (0 ≤ lbb [] 1 8 (gvD d) 60)) := by
        rcases (show i = 0 ∨ i = 1 ∨ i = 2 ∨ i = 3 by omega) with rfl | rfl | rfl | rfl
        · cases hd
          rw [b_s6]; rfl
        · cases hd
          rw [b_s7]; rfl
        · cases hd
          rw [b_s3]; rfl
        · cases hd
          rw [b_w]; rfl
      replace hv := g4.kd.dp hv
      refine iteT ⟨_, rfl, by show 1 ≤ sizeLine; decide, fun q1 m1 => ?_⟩
      have k2 : Gr S4 (upd S4 q1 (.tup [x])) := Gr.new m1
      have D2 : Dp K (upd S4 q1 (.tup [x])) (.ref q1) (.tuple [d]) := new_TD m1 (.cons hv .nil)
      generalize upd S4 q1 (.tup [x]) = H2 at k2 D2 ⊢
      refine ⟨by show 2 ≤ sizeLine; decide, fun q2 m2 => ?_⟩
      have k3 : Gr H2 (upd H2 q2 (.tup [.str "give", .ref q1])) := Gr.new m2
      have D3 : Dp K (upd H2 q2 (.tup [.str "give", .ref q1])) (.ref q2) (gvD d) := new_TD m2 (.cons (.str _) (.cons D2 .nil))
      generalize upd H2 q2 (.tup [.str "give", .ref q1]) = H3 at k3 D3 ⊢
      refine ⟨by show 0 ≤ sizeLine; decide, fun q3 m3 => ?_⟩
      have k4 : Gr H3 (upd H3 q3 (.tup [])) := Gr.new m3
      have D4 := k4.kd.dp D3
      have T4 : SqT K (upd H3 q3 (.tup [])) q3 (cV []) := .inl (.inl upd_same)
      generalize upd H3 q3 (.tup []) = H4 at k4 D4 T4 ⊢
      refine ⟨_, gvD d, q3, [], 1, rfl, D4, T4, by decide, fun H5 k5 => ?_⟩
      have kk := k2.trans (k3.trans (k4.trans k5))
      refine ⟨_, kk.lst hD, small10000001 (by rw [List.length_map, List.length_take]; omega), ?_, Gr.upd_new (g4.trans kk) nD⟩
      rw [upd_same, List.take_add_one, hb, List.map_append]
      rfl
    case z3 =>
    rintro S4 ⟨hD, g4⟩
    replace b := b.gr g4
    replace L3 := g4.lst L3
    refine ⟨l3, D, _, _, rfl, rfl, L3, hD, by show 8 ≤ sizeLine; decide, fun l8 m8 => ?_⟩
    have k8 : Gr S4 (upd S4 l8 (.lst [.bl true, .bl false, .bl true, .bl false, .bl true, .bl false, .bl false, .bl false])) := Gr.new m8
    have D8 : Dp K (upd S4 l8 (.lst [.bl true, .bl false, .bl true, .bl false, .bl true, .bl false, .bl false, .bl false])) (.ref l8) eightD := new_LD m8 (.cons (.bl _) (.cons (.bl _) (.cons (.bl _) (.cons (.bl _) (.cons (.bl _) (.cons (.bl _) (.cons (.bl _) (.cons (.bl _) .nil))))))))
    replace b := b.gr k8
    refine gname_go ?_
    change tSeq _ _ _ _ (upd S4 l8 (.lst [.bl true, .bl false, .bl true, .bl false, .bl true, .bl false, .bl false, .bl false]))
    generalize upd S4 l8 (.lst [.bl true, .bl false, .bl true, .bl false, .bl true, .bl false, .bl false, .bl false]) = Z9 at k8 D8 b ⊢
    obtain ⟨c1, c2, c3⟩ := sh_eight
    refine ⟨_, rfl, _, _, rfl, D8, c1, c2, c3, by show 8 ≤ sizeLine; decide, fun l9 m9 => ?_⟩
    have k9 : Gr Z9 (upd Z9 l9 (.lst [.bl true, .bl false, .bl true, .bl false, .bl true, .bl false, .bl false, .bl false])) := Gr.new m9
    have D9 : Dp K (upd Z9 l9 (.lst [.bl true, .bl false, .bl true, .bl false, .bl true, .bl false, .bl false, .bl false])) (.ref l9) eightD := new_LD m9 (.cons (.bl _) (.cons (.bl _) (.cons (.bl _) (.cons (.bl _) (.cons (.bl _) (.cons (.bl _) (.cons (.bl _) (.cons (.bl _) .nil))))))))
    replace b := b.gr k9
    generalize upd Z9 l9 (.lst [.bl true, .bl false, .bl true, .bl false, .bl true, .bl false, .bl false, .bl false]) = ZA at k9 D9 b ⊢
    refine ⟨_, _, rfl, D9, c1, c2, c3, rfl, _, rfl, ?_⟩
    rw [neS]
    refine iteF ?_
    obtain ⟨pf, hpf, pf1, pf2⟩ := pk_is c_full
    obtain ⟨pb, hpb, pb1, pb2⟩ := pk_is c_b6
    obtain ⟨ps, hps, ps1, ps2⟩ := pk_is c_s6
    obtain ⟨w1, w2, w3⟩ := lk_parts [] 30 (some 3) fullD pf hpf
    obtain ⟨v1, v2, v3⟩ := lk_parts [] 30 (some 1) (boD 6) pb hpb
    obtain ⟨u1, u2, u3⟩ := lk_parts [] 30 none (rsD 6) ps hps
    refine ⟨_, rfl, .ref t5, fullD, 30, rfl, b.g.kd.dp DF, good_of w1 (by omega), fun ZB kB => ?_⟩
    rw [w2, pf1]
    replace b := b.gr kB
    refine ⟨_, rfl, l2, ws, 6, x6, rfl, rfl, .inl (.inl b.h2), atI_nat hx6, x6, boD 6, 30, rfl, both b.a2 hx6 e6, good_of v1 (by omega), fun ZC kC => ?_⟩
    rw [v3, pb2]
    replace b := b.gr kC
    refine ⟨_, rfl, l1, us, 6, y6, rfl, rfl, .inl (.inl b.h1), atI_nat hy6, y6, rsD 6, 30, rfl, both b.a1 hy6 r6, good_of u1 (by omega), fun ZD kD => ?_⟩
    rw [u3, ps2]
    replace b := b.gr kD
    refine ⟨_, rfl, l1, us, 6, y6, rfl, rfl, .inl (.inl b.h1), atI_nat hy6, y6, rsD 6, 30, rfl, both b.a1 hy6 r6, good_of u1 (by omega), fun ZE kE => ?_⟩
    rw [u2, ps1]
    replace b := b.gr kE
    refine ⟨by show 4 ≤ sizeLine; decide, fun lF mF => ?_⟩
    have DF4 : Dp K (upd ZE lF (.lst [.int 60, .int 8, .int 7, .int 7])) (.ref lF) (.list [.int 60, .int 8, .int 7, .int 7]) := new_LD mF (.cons (.int _) (.cons (.int _) (.cons (.int _) (.cons (.int _) .nil))))
    replace b := b.gr (Gr.new (o := .lst [.int 60, .int 8, .int 7, .int 7]) mF)
    generalize upd ZE lF (.lst [.int 60, .int 8, .int 7, .int 7]) = ZF at DF4 b ⊢
    refine ⟨by show 4 ≤ sizeLine; decide, fun lG mG => ?_⟩
    have DG4 : Dp K (upd ZF lG (.lst [.int 60, .int 8, .int 7, .int 7])) (.ref lG) (.list [.int 60, .int 8, .int 7, .int 7]) := new_LD mG (.cons (.int _) (.cons (.int _) (.cons (.int _) (.cons (.int _) .nil))))
    refine ⟨_, _, (Gr.new mG).kd.dp DF4, DG4, by decide +kernel, by decide +kernel, ?_⟩
    rw [show PyData.eqv (.list [.int 60, .int 8, .int 7, .int 7]) (.list [.int 60, .int 8, .int 7, .int 7]) = true from by decide +kernel]
    exact fin _ (gH.trans (b.g.trans (Gr.new mG)))
end
end SfE
namespace SfE
open PySem PySem.Spec PyProof.Rows L2 SfG
abbrev nLaw : List Str := ["_law_script", "_law_k", "_law_state", "_law_counts", "_law_many", "_law_body_here", "_law_bent_here", "_law_some", "_law_thing"]
theorem scLaw : FnScope nLaw ["_law_script"] (defScope sLaw) := ⟨rfl, rfl, rfl, by decide +kernel, rfl, by decide +kernel, by decide +kernel⟩
/-! ### what is drawn is plain, and has small numbers -/
def Pln (d : PyData) : Prop := okd d = true ∧ plT d = true ∧ sI 100 d = true
theorem pln_str {z : Str} (h : (okd (.str z)) = true) : Pln (.str z) := ⟨h, by rw [plT], by rw [sI]⟩
theorem pln_int {i : Int} (h0 : 0 ≤ i) (h1 : i ≤ 99) : Pln (.int i) := by
  have w1 := wt_num h0 h1
  rw [wt] at w1
  exact ⟨by rw [okd]; exact decide_eq_true (by omega), by rw [plT], sI_num (by omega)⟩
theorem pln_tup {ds : List PyData} (h : ∀ d ∈ ds, Pln d) : Pln (.tuple ds) :=
  ⟨by rw [okd]; exact okdA_iff.mpr fun d hd => (h d hd).1, by rw [plT]; exact plA_iff.mpr fun d hd => (h d hd).2.1, sI_tup.mpr fun d hd => (h d hd).2.2⟩
theorem pln_2 {a b : PyData} (h1 : Pln a) (h2 : Pln b) : Pln (.tuple [a, b]) := pln_tup fun d hd => by
  simp only [List.mem_cons, List.not_mem_nil, or_false] at hd
  rcases hd with rfl | rfl
  · exact h1
  · exact h2
theorem pln_3 {a b c : PyData} (h1 : Pln a) (h2 : Pln b) (h3 : Pln c) : Pln (.tuple [a, b, c]) := pln_tup fun d hd => by
  simp only [List.mem_cons, List.not_mem_nil, or_false] at hd
  rcases hd with rfl | rfl | rfl
  · exact h1
  · exact h2
  · exact h3
theorem pln_4 {a b c e : PyData} (h1 : Pln a) (h2 : Pln b) (h3 : Pln c) (h4 : Pln e) : Pln (.tuple [a, b, c, e]) := pln_tup fun d hd => by
  simp only [List.mem_cons, List.not_mem_nil, or_false] at hd
  rcases hd with rfl | rfl | rfl | rfl
  · exact h1
  · exact h2
  · exact h3
  · exact h4
theorem pln_opw (w : Nat) : Pln (.str (opw w)) := by
  unfold opw
  split <;> exact pln_str (by decide +kernel)
theorem pln_ex {cs : List Nat} (hc : cs.length ≤ 3) (hf : ∀ x ∈ cs, x ≤ 3) : ∀ e : Ex, okE cs e → Pln e.d
  | .num n, h => pln_2 (pln_str (by decide +kernel)) (pln_int h.1 h.2)
  | .inp k f, h => by
    obtain ⟨c, h1, h2⟩ := h
    obtain ⟨hk, _⟩ := List.getElem?_eq_some_iff.mp h1
    have h3 := hf c (List.mem_of_getElem? h1)
    exact pln_3 (pln_str (by decide +kernel)) (pln_int (by omega) (by omega)) (pln_int (by omega) (by omega))
  | .bin w a b, h => pln_3 (pln_opw w) (pln_ex hc hf a h.2.1) (pln_ex hc hf b h.2.2)
  | .rst a n, h => pln_3 (pln_str (by decide +kernel)) (pln_ex hc hf a h.2.2) (pln_int (by have := h.1; omega) h.2.1)
  | .iff a b c, h => pln_4 (pln_str (by decide +kernel)) (pln_ex hc hf a h.1) (pln_ex hc hf b h.2.1) (pln_ex hc hf c h.2.2)
theorem pln_bd {cs : List Nat} {n m : Nat} (hc : cs.length ≤ 3) (hf : ∀ x ∈ cs, x ≤ 3) : ∀ b : Bd, okB cs n m b → Pln b.d
  | .ref, _ => pln_tup fun d hd => by rw [List.mem_singleton.mp hd]; exact pln_str (by decide +kernel)
  | .giv es, h => pln_2 (pln_str (by decide +kernel)) (pln_tup fun d hd => by
      obtain ⟨e, he, rfl⟩ := List.mem_map.mp hd
      exact pln_ex hc hf e (h.2 e he).1)
  | .whn e a b, h => pln_4 (pln_str (by decide +kernel)) (pln_ex hc hf e h.1.1) (pln_bd hc hf a h.2.1) (pln_bd hc hf b h.2.2)
theorem cs_dp {K : PySem.W.Frag} {H : Hp} : ∀ cs : List Nat, DpAll K H (cV cs) (cs.map fun (c : Nat) => PyData.int (c : Int))
  | [] => .nil
  | _ :: r => .cons (.int _) (cs_dp r)
/-- the first of the counts -/
theorem cut_cs (cs : List Nat) (lo hi : Option Int) : ∃ cs' : List Nat, SfG.cutD (cs.map fun (c : Nat) => PyData.int (c : Int)) lo hi = (cs'.map fun (c : Nat) => PyData.int (c : Int)) ∧ cs'.length ≤ cs.length := by
  unfold SfG.cutD
  rw [List.length_map, ← List.map_drop, ← List.map_take]
  exact ⟨_, rfl, by rw [List.length_take, List.length_drop]; omega⟩
section
variable {X : Cx} {CX : CXT} {k : Nat} {f : Addr} {fd : FuncData} {ps : List Str} {sp : Sp} {dvs : List V} {ds : List Value} {E : XK} {x : Str} {p pos : PySem.Pos}
theorem pe_callG0 (F : FnG X.prog X.w X.K X.mg X.base CX k f fd ps sp) (hr : Room k X.A) (hgd : X.A.guards = some []) (hg : Gl X x) (hm : X.mg x = some (.ref f)) (hk : PySem.W.keepIn X.K (.ref f) = true)
    (hb : Binds X.K fd ps ds) (hd : Vals dvs ds) (hx : Passes CX X E) (hdb : (x == ("__debug__" : Str)) = false := by decide) : PE X (.Call (.Name x p) [] [] pos) (tCall sp dvs E tNil) := by
  refine ⟨fun pins s σ H Q I h => ?_⟩
  refine wpAny_Call_Name_kw (ld_glob I hg hm ?_ hdb)
  exact PySem.W.callWith_K0 I.kIn hk (run_fng (us := []) F hr hgd hb hd hx I .nil h)
end
section
variable {P : Program} {w : World} {K : PySem.W.Frag} {mg : Str → Option Value} {base : Heap}
def spLaw (K : PySem.W.Frag) : Sp := fun vs H Q _ => ∃ (a : Addr) (ns : List Int), vs = [.ref a] ∧ SqL K H a (ns.map V.int) ∧ ∀ H', Q (.bl true) H'
structure Calls (P : Program) (w : World) (K : PySem.W.Frag) (mg : Str → Option Value) (base : Heap) (fb fp fB fT fN fR fU fE : Addr) (db dp dB dT dN dR dU dE : FuncData) : Prop where
  HBg : Has P w K mg base 40 "_law_begun" ["_law_script", "_law_k"] (spBeg K) fb db
  HP : Has P w K mg base 40 "_law_pick" ["_law_state", "_law_many"] spPick fp dp
  HB : Has P w K mg base 40 "_law_body" ["_law_state", "_law_counts", "_law_many", "_law_deep"] (spBod K 4) fB dB
  HT : Has P w K mg base 40 "_law_truths" ["_law_thing"] (spTru K 12) fT dT
  NG : FnG P w K mg base CX0 40 fN dN ["_law_state", "_law_thing"] (spBent K 16)
  gN : mg "_law_bent" = some (.ref fN)
  kN : PySem.W.keepIn K (.ref fN) = true
  bN : Binds K dN ["_law_state", "_law_thing"] []
  RG : FnG P w K mg base CX0 40 fR dR ["_law_thing", "_law_counts", "_law_many"] (spRight K)
  gR : mg "_law_right" = some (.ref fR)
  kR : PySem.W.keepIn K (.ref fR) = true
  bR : Binds K dR ["_law_thing", "_law_counts", "_law_many"] []
  UG : FnG P w K mg base CX0 40 fU dU [] spDR
  gU : mg "_law_bounds_right" = some (.ref fU)
  kU : PySem.W.keepIn K (.ref fU) = true
  bU : Binds K dU [] []
  EG : FnG P w K mg base CX0 40 fE dE [] spDR
  gE : mg "_law_deep_right" = some (.ref fE)
  kE : PySem.W.keepIn K (.ref fE) = true
  bE : Binds K dE [] []
  mr : mg "range" = none
  mx : mg "max" = none
  mn : mg "min" = none
  ml : mg "len" = none
  mt : mg "tuple" = none
set_option maxHeartbeats 8000000 in
theorem ok_law {f fb fp fB fT fN fR fU fE : Addr} {fd db dp dB dT dN dR dU dE : FuncData} (F : Fun K "law" "law" sLaw f fd) (C : Calls P w K mg base fb fp fB fT fN fR fU fE db dp dB dT dN dR dU dE) :
    FnG P w K mg base CX0 41 f fd ["_law_script"] (spLaw K) := by
  refine fng_of F scLaw (fun vs H Q E h => ?_) (fun cdv A outer s H vs Q E hr hgd h => ?_)
  · obtain ⟨a, ns, rfl, _⟩ := h
    rfl
  · obtain ⟨a, ns, rfl, hS, q⟩ := h
    have nd := scLaw.nd
    refine' ⟨_, pss_cons ?s1 (pss_one ?s2), ?rd⟩
    case s1 =>
      refine' ps_for PassesOwn.never rfl (pi_range1 rfl C.mr (pa_cons (pe_callB (call_max2 rfl) (by rfl) C.mx (by decide +kernel) (pa_cons pe_int (pa_cons (pe_callB (call_min2 rfl) (by rfl) C.mn (by decide +kernel) (pa_cons pe_int (pa_cons (pe_callB call_len_seq (by rfl) C.ml PySem.boot_len (pa_cons (pv 0) pa_nil)) pa_nil))) pa_nil))) pa_nil))
        (pg_name (i := 1) nd rfl (.inl rfl)) (pss_cons ?b1 (pss_cons ?b2 (pss_cons ?b3 (pss_cons ?b4 (pss_cons ?b5 (pss_cons ?b6 (pss_cons ?b7 (pss_one ?b8))))))))
      case b1 => exact ps_set (i := 2) nd rfl (.inr rfl) (hcall C.HBg hr (pa_cons (pv 0) (pa_cons (pv 1) pa_nil)))
      case b2 =>
        exact ps_set (i := 3) nd rfl (.inl rfl) (pe_callTy call_tuple_of (by rfl) C.mt (by decide +kernel) (pa_cons (pe_lc (own := [("_law_thing", 8)]) (g := gName 8) rfl nd
          (pi_range1 (by rfl) C.mr (pa_cons (hcall C.HP hr (pa_cons (pv 2) (pa_cons pe_int pa_nil))) pa_nil)) (blkOk_by (own := [("_law_thing", 8)]) (N := nLaw) (sc := defScope sLaw) (by decide +kernel)) (fun _ _ _ _ _ => pg_name (i := 8) nd rfl (Or.inl rfl)) (fun _ _ _ _ _ => pts_nil)
          (fun _ _ _ _ _ => pe_op op_add pe_int (hcall C.HP hr (pa_cons (pv 2) (pa_cons pe_int pa_nil))))) pa_nil))
      case b3 => exact ps_set (i := 4) nd rfl (.inl rfl) (pe_op op_add pe_int (hcall C.HP hr (pa_cons (pv 2) (pa_cons pe_int pa_nil))))
      case b4 => exact ps_set (i := 5) nd rfl (.inl rfl) (hcall C.HB hr (pa_cons (pv 2) (pa_cons (pv 3) (pa_cons (pv 4) (pa_cons pe_int pa_nil)))))
      case b5 => exact ps_set (i := 6) nd rfl (.inl rfl) (pe_callG C.NG hr hgd (by rfl) C.gN C.kN C.bN .nil pass0 (pa_cons (pv 2) (pa_cons (pv 5) pa_nil)))
      case b6 =>
        exact ps_set (i := 7) nd rfl (.inl rfl) (pe_lst (pa_cons (pv 5) (pa_cons (hcall C.HT hr (pa_cons (pv 5) pa_nil)) (pa_cons (pv 6) (pa_cons (pe_callG C.NG hr hgd (by rfl) C.gN C.kN C.bN .nil pass0 (pa_cons (pv 2) (pa_cons (pv 6) pa_nil)))
          (pa_cons (pe_callG C.NG hr hgd (by rfl) C.gN C.kN C.bN .nil pass0 (pa_cons (pv 2) (pa_cons (pv 5) pa_nil))) pa_nil))))))
      case b7 =>
        exact ps_for PassesOwn.never rfl (pi_list (pe_op op_cat (pv 7) (pe_lst (pa_cons (pe_ix ix_list (pe_lst (pa_cons (pv 5) (pa_cons (pe_tup pa_nil) (pa_cons pe_non (pa_cons pe_int (pa_cons pe_str pa_nil)))))) (pe_op op_mod (pv 1) pe_int) (fun _ _ => rfl)) pa_nil)))) (pg_name (i := 8) nd rfl (.inl rfl))
          (pss_one (ps_if (pt_not (pt_val (pe_callG C.RG hr hgd (by rfl) C.gR C.kR C.bR .nil pass0 (pa_cons (pv 8) (pa_cons (pv 3) (pa_cons (pv 4) pa_nil)))))) (pss_one (ps_ret pe_bl)) pss_nil))
      case b8 =>
        refine' ps_for PassesOwn.never rfl (pi_list (pv 7)) (pg_name (i := 8) nd rfl (.inl rfl)) (pss_cons ?c1 (pss_one ?c2))
        case c1 =>
          exact ps_if (PW.pt (pw_or (pt_not (pt_val (pe_callG C.RG hr hgd (by rfl) C.gR C.kR C.bR .nil pass0 (pa_cons (pv 8) (pa_cons (pe_slice sl_tupD (pv 3) po_none (po_some (pe_un un_neg pe_int))) (pa_cons (pe_op op_add pe_int (pe_op op_mod (pv 4) pe_int)) pa_nil))))))
            (pw_or1 (pt_not (pt_val (pe_callG C.RG hr hgd (by rfl) C.gR C.kR C.bR .nil pass0 (pa_cons (pv 8) (pa_cons (pv 3) (pa_cons (pe_op op_add pe_int (pe_op op_mod (pv 4) pe_int)) pa_nil))))))))) (pss_one (ps_ret pe_bl)) pss_nil
        case c2 => exact ps_if (pt_not (pt_val (pe_callG C.RG hr hgd (by rfl) C.gR C.kR C.bR .nil pass0 (pa_cons (pv 8) (pa_cons (pe_revT (pv 3)) (pa_cons (pv 4) pa_nil)))))) (pss_one (ps_ret pe_bl)) pss_nil
    case s2 => exact ps_ret (pe_and (pe_callG0 C.UG hr hgd (by rfl) C.gU C.kU C.bU .nil pass0) (pe_one (pe_callG0 C.EG hr hgd (by rfl) C.gE C.kE C.bE .nil pass0)))
    case rd =>
    refine ⟨_, rfl, a, _, rfl, .inl hS, 12, _, rfl, 2, _, rfl, _, rfl, ?lo, ?hi, ?loop⟩
    case lo =>
      have : (-(2 ^ 62) : Int) = -4611686018427387904 := by decide
      rw [this]
      split <;> omega
    case hi =>
      have : ((2 ^ 62) : Int) = 4611686018427387904 := by decide
      rw [this]
      split
      · split <;> omega
      · omega
    case loop =>
    have hM : (if (if (((ns.map V.int).length : Nat) : Int) < 12 then (((ns.map V.int).length : Nat) : Int) else 12) > 2 then (if (((ns.map V.int).length : Nat) : Int) < 12 then (((ns.map V.int).length : Nat) : Int) else 12) else (2 : Int)).toNat ≤ 12 := by
      split
      · split <;> omega
      · omega
    generalize (if (if (((ns.map V.int).length : Nat) : Int) < 12 then (((ns.map V.int).length : Nat) : Int) else 12) > 2 then (if (((ns.map V.int).length : Nat) : Int) < 12 then (((ns.map V.int).length : Nat) : Int) else 12) else (2 : Int)).toNat = M at hM ⊢
    refine for_it (walk_range (lo := 0) (n := M)) (fun i σ H1 => (∃ y1 y2 y3 y4 y5 y6 y7 y8, σ = [some (.ref a), y1, y2, y3, y4, y5, y6, y7, y8]) ∧ Gr H H1) ⟨⟨none, none, none, none, none, none, none, none, rfl⟩, Gr.refl _⟩ (fun _ _ _ _ _ => trivial) ?o1 ?o2
    case o2 =>
      rintro σ H1 ⟨⟨y1, y2, y3, y4, y5, y6, y7, y8, rfl⟩, g1⟩
      exact ⟨rfl, fun H2 _ => ⟨_, rfl, iteT ⟨rfl, fun H3 _ => q H3⟩⟩⟩
    case o1 =>
    rintro i x σ H1' H1 hi ⟨⟨y1, y2, y3, y4, y5, y6, y7, y8, rfl⟩, g1⟩ ⟨rfl, rfl⟩
    refine ⟨_, rfl, _, rfl, a, ns, i, by show [V.ref a, V.int (0 + (i : Nat))] = _; rw [Int.zero_add], g1.seq hS, by omega, fun H2 p np g2 dr => ?_⟩
    -- counts
    refine ⟨_, rfl, p, 4, rfl, dr, by decide, by decide, fun H3 d b3 dr3 d0 d4 => ?_⟩
    refine ⟨d, rfl, by omega, by omega, fun D nD => ?_⟩
    have nDp : D ≠ p := dr3.ne nD
    refine lc_it (walk_range (lo := 0) (n := d.toNat)) (fun j H4 => ∃ cs : List Nat, H4 D = some (.lst (cV cs)) ∧ cs.length = j ∧ (∀ x ∈ cs, 1 ≤ x ∧ x ≤ 3) ∧ Gp p H3 H4 ∧ Drw H4 p) ?c0 (fun _ _ _ _ => trivial) ?c1 ?c2
    case c0 => exact ⟨[], upd_same, rfl, fun x hx => (by cases hx), Gp.gr (Gr.new nD), dr3.new nD⟩
    case c1 =>
      rintro j x H4 H4' hj ⟨cs, hD, hl, hc, g4, dr4⟩ ⟨rfl, rfl⟩
      refine ⟨rfl, ?_⟩
      unfold tYes
      refine iteT ⟨_, rfl, p, 3, rfl, dr4, by decide, by decide, fun H5 c b5 dr5 c0 c3 => ⟨1, c, rfl, rfl, ?_⟩⟩
      have g5 : Gp p H4' H5 := Gp.but b5
      have hD5 := g5.lst nDp hD
      refine ⟨_, hD5, ?_, cs ++ [(1 + c).toNat], ?_, ?_, ?_, Gp.upd_new (g4.trans g5) nD, dr5.upd nDp⟩
      · rw [List.length_map]
        exact small1000 (by omega)
      · rw [upd_same]
        show _ = some (HO.lst ((cs ++ [(1 + c).toNat]).map fun c : Nat => V.int (c : Nat)))
        rw [List.map_append]
        show some (HO.lst (_ ++ [V.int (1 + c)])) = some (HO.lst (_ ++ [V.int ((1 + c).toNat : Nat)]))
        rw [Int.toNat_of_nonneg (by omega)]
      · rw [List.length_append, hl]
        rfl
      · intro x hx
        rcases List.mem_append.mp hx with h | h
        · exact hc x h
        · rw [show x = (1 + c).toNat by simpa using h]
          omega
    case c2 =>
    rintro H4 ⟨cs, hD, hl, hc, g4, dr4⟩
    refine ⟨D, _, rfl, .inl ⟨.inl (.inl hD), fun T nT => ?_⟩⟩
    have hcs : cs.length ≤ 3 ∧ ∀ x ∈ cs, 1 ≤ x ∧ x ≤ 3 := ⟨by omega, hc⟩
    have gT : Gr H4 (upd H4 T (.tup (cV cs))) := Gr.new nT
    have hT : Dp K (upd H4 T (.tup (cV cs))) (.ref T) (cD cs) := .tup (.inl (.inl upd_same)) (cs_dp cs)
    have gp5 : Gp p H2 (upd H4 T (.tup (cV cs))) := ((Gp.but b3).trans g4).trans (Gp.gr gT)
    have dr5 := dr4.gr gT
    generalize upd H4 T (.tup (cV cs)) = H5 at gT hT gp5 dr5 ⊢
    -- how many
    refine ⟨_, rfl, p, 3, rfl, dr5, by decide, by decide, fun H6 m0 b6 dr6 m00 m03 => ?_⟩
    refine ⟨1, m0, rfl, rfl, ?_⟩
    obtain ⟨m, hm⟩ : ∃ m : Nat, 1 + m0 = (m : Nat) := ⟨(1 + m0).toNat, by omega⟩
    have hm1 : 1 ≤ m := by omega
    have hm3 : m ≤ 3 := by omega
    refine gname_go ?_
    dsimp only
    rw [hm]
    have g6 := gp5.trans (Gp.but b6)
    have hT6 := (dr5.kd (Gp.but b6)).dp hT
    obtain ⟨hcl, hcf⟩ := hcs
    have hcf3 : ∀ x ∈ cs, x ≤ 3 := fun x hx => (hcf x hx).2
    refine ⟨_, rfl, _, rfl, _, rfl, p, .ref T, m, 4, cs, rfl, dr6, hT6, ⟨hcl, hcf⟩, hm1, hm3, by decide, by decide, by decide, fun H7 vb B g7 dr7 hb oB dB => ?_⟩
    obtain ⟨pl1, pl2, pl3⟩ := pln_bd hcl hcf3 B oB
    have wB := wt_bd ⟨hcl, hcf⟩ hm3 B oB dB
    have dpB := bd_deep B oB
    have hT7 := (dr6.kd g7).dp hT6
    have g67 := g6.trans g7
    refine gname_go ?_
    dsimp only
    refine ⟨_, rfl, _, rfl, p, vb, B.d, 100, rfl, dr7, hb, pl1, by omega, by omega, by decide, pl3, ⟨by decide, by decide⟩, fun H8 v2 d2 g8 dr8 h2 b2 => ?_⟩
    have hT8 := (dr7.kd g8).dp hT7
    have hb8 := (dr7.kd g8).dp hb
    have g68 := g67.trans g8
    have w2 := b2.le
    have p2 := b2.dp
    refine gname_go ?_
    dsimp only
    refine ⟨_, rfl, _, rfl, vb, B.d, rfl, hb8, pl2, by omega, by omega, fun H9 v3 k9 h3 => ?_⟩
    obtain ⟨t1, t2, t3, _⟩ := tru_ok pl2 pl1
    have dr9 := dr8.gr k9
    have hb9 := k9.kd.dp hb8
    have h29 := k9.kd.dp h2
    have hT9 := k9.kd.dp hT8
    refine ⟨_, rfl, _, rfl, _, rfl, p, v2, d2, 101, rfl, dr9, h29, b2.ok, by omega, by omega, by decide, b2.sI, ⟨by decide, by decide⟩, fun H10 v4 d4 g10 dr10 h4 b4 => ?_⟩
    have kd10 := dr9.kd (K := K) g10
    have w4 := b4.le
    have p4 := b4.dp
    refine ⟨_, rfl, _, rfl, p, vb, B.d, 100, rfl, dr10, kd10.dp hb9, pl1, by omega, by omega, by decide, pl3, ⟨by decide, by decide⟩, fun H11 v5 d5 g11 dr11 h5 b5 => ?_⟩
    have kd11 := dr10.kd (K := K) g11
    have w5 := b5.le
    have p5 := b5.dp
    have A : DpAll K H11 [vb, v3, v2, v4, v5] [B.d, tru B.d, d2, d4, d5] := .cons (kd11.dp (kd10.dp hb9)) (.cons (kd11.dp (kd10.dp h3)) (.cons (kd11.dp (kd10.dp h29)) (.cons (kd11.dp h4) (.cons h5 .nil))))
    have hT11 := kd11.dp (kd10.dp hT9)
    have good : ∀ d ∈ [B.d, tru B.d, d2, d4, d5], okd d = true ∧ wt d ≤ 9000000 ∧ d.depth < 29 := fun d hd => by
      simp only [List.mem_cons, List.not_mem_nil, or_false] at hd
      rcases hd with rfl | rfl | rfl | rfl | rfl
      · exact ⟨pl1, by omega, by omega⟩
      · exact ⟨t1, by omega, by omega⟩
      · exact ⟨b2.ok, by omega, by omega⟩
      · exact ⟨b4.ok, by omega, by omega⟩
      · exact ⟨b5.ok, by omega, by omega⟩
    refine ⟨by show 5 ≤ sizeLine; decide, fun lS nS => ?_⟩
    have kS : Gr H11 (upd H11 lS (.lst [vb, v3, v2, v4, v5])) := Gr.new nS
    have LS' : upd H11 lS (.lst [vb, v3, v2, v4, v5]) lS = some (.lst [vb, v3, v2, v4, v5]) := upd_same
    have gAll : Gp p H2 (upd H11 lS (.lst [vb, v3, v2, v4, v5])) := (((g68.trans (Gp.gr k9)).trans g10).trans g11).trans (Gp.gr kS)
    have fresh : Gr H (upd H11 lS (.lst [vb, v3, v2, v4, v5])) := Gp.out (g1.trans g2) (g1.back _ np) gAll
    replace A := kS.kd.dpA A
    have hT12 := kS.kd.dp hT11
    generalize upd H11 lS (.lst [vb, v3, v2, v4, v5]) = S0 at kS LS' gAll fresh A hT12 ⊢
    refine gname_go ?_
    dsimp only
    refine ⟨_, rfl, _, rfl, by show 0 ≤ sizeLine; decide, fun e1 ne1 => ?_⟩
    have j1 : Gr S0 (upd S0 e1 (.tup [])) := Gr.new ne1
    have E1 : Dp K (upd S0 e1 (.tup [])) (.ref e1) (.tuple []) := new_TD ne1 .nil
    generalize upd S0 e1 (.tup []) = S1 at j1 E1 ⊢
    refine ⟨by show 5 ≤ sizeLine; decide, fun e2 ne2 => ?_⟩
    have j2 : Gr S1 (upd S1 e2 (.lst [vb, .ref e1, .non, .int 5, .str "refuse"])) := Gr.new ne2
    have L2 : upd S1 e2 (.lst [vb, .ref e1, .non, .int 5, .str "refuse"]) e2 = some (.lst [vb, .ref e1, .non, .int 5, .str "refuse"]) := upd_same
    replace E1 := j2.kd.dp E1
    generalize upd S1 e2 (.lst [vb, .ref e1, .non, .int 5, .str "refuse"]) = S2 at j2 L2 E1 ⊢
    have j12 := j1.trans j2
    have A2 := j12.kd.dpA A
    obtain ⟨xb, _, exb, hvb, _⟩ := dpA_cons A2
    cases exb
    have A5 : DpAll K S2 [vb, .ref e1, .non, .int 5, .str "refuse"] [B.d, .tuple [], .none, .int 5, .str "refuse"] := .cons hvb (.cons E1 (.cons .non (.cons (.int _) (.cons (.str _) .nil))))
    have i0 : (0 : Int) ≤ (0 + (i : Nat) : Int) % 5 := Int.emod_nonneg _ (by decide)
    have i5 : ((0 + (i : Nat) : Int)) % 5 < 5 := Int.emod_lt_of_pos _ (by decide)
    obtain ⟨ve, de, hev, hme, hde⟩ := dpA_pick (n := 5) A5 i0 i5
    have goodE : okd de = true ∧ wt de ≤ 9000000 ∧ de.depth < 29 := by
      simp only [List.mem_cons, List.not_mem_nil, or_false] at hme
      rcases hme with rfl | rfl | rfl | rfl | rfl
      · exact good _ List.mem_cons_self
      · exact ⟨by decide +kernel, by decide +kernel, by simp only [PyData.depth, PyData.depthAll]; omega⟩
      · exact ⟨by decide +kernel, by decide +kernel, by simp only [PyData.depth]; omega⟩
      · exact ⟨by decide +kernel, by decide +kernel, by simp only [PyData.depth]; omega⟩
      · exact ⟨by decide +kernel, by decide +kernel, by simp only [PyData.depth]; omega⟩
    refine ⟨_, rfl, _, 5, rfl, rfl, by show (0 : Int) < 5; decide, e2, _, _, ve, rfl, rfl, .inl (.inl L2), hev, by show 1 ≤ sizeLine; decide, fun e3 ne3 => ?_⟩
    have j3 : Gr S2 (upd S2 e3 (.lst [ve])) := Gr.new ne3
    have L3 : upd S2 e3 (.lst [ve]) e3 = some (.lst [ve]) := upd_same
    generalize upd S2 e3 (.lst [ve]) = S3 at j3 L3 ⊢
    have j13 := j12.trans j3
    refine ⟨lS, e3, _, _, rfl, rfl, j13.lst LS', L3, by show 6 ≤ sizeLine; decide, fun e4 ne4 => ?_⟩
    have j4 : Gr S3 (upd S3 e4 (.lst ([vb, v3, v2, v4, v5] ++ [ve]))) := Gr.new ne4
    have L4 : upd S3 e4 (.lst ([vb, v3, v2, v4, v5] ++ [ve])) e4 = some (.lst ([vb, v3, v2, v4, v5] ++ [ve])) := upd_same
    have A4 : DpAll K (upd S3 e4 (.lst ([vb, v3, v2, v4, v5] ++ [ve]))) ([vb, v3, v2, v4, v5] ++ [ve]) ([B.d, tru B.d, d2, d4, d5] ++ [de]) := dpA_app ((j13.trans j4).kd.dpA A) (.cons ((j3.trans j4).kd.dp hde) .nil)
    generalize upd S3 e4 (.lst ([vb, v3, v2, v4, v5] ++ [ve])) = S4 at j4 L4 A4 ⊢
    have j14 := j13.trans j4
    have good6 : ∀ d ∈ [B.d, tru B.d, d2, d4, d5] ++ [de], okd d = true ∧ wt d ≤ 9000000 ∧ d.depth < 29 := fun d hd => by
      rcases List.mem_append.mp hd with hd | hd
      · exact good d hd
      · rw [List.mem_singleton.mp hd]
        exact goodE
    refine ⟨e4, rfl, ⟨_, .inl (.inl L4)⟩, ?_⟩
    refine for_it (walk_list (xs := [vb, v3, v2, v4, v5] ++ [ve])) (fun i' σ S => ∃ y8, σ = [some (.ref a), some (.int (0 + (i : Nat))), some (.ref p), some (.ref T), some (.int (m : Nat)), some vb, some v2, some (.ref lS), y8] ∧ Gr S4 S) ⟨_, rfl, Gr.refl S4⟩ ?u0 ?u1 ?u2
    case u0 =>
      rintro i' σ S hi' ⟨y8, rfl, gg⟩
      exact .inl (.inl (gg.lst L4))
    case u1 =>
      rintro i' x σ S' S hi' ⟨y8, rfl, gg⟩ ⟨rfl, hx⟩
      obtain ⟨d, hd, hv⟩ := dpA_at A4 hx
      obtain ⟨o1, o2, o3⟩ := good6 d (List.mem_of_getElem? hd)
      refine ⟨_, rfl, _, rfl, _, rfl, x, .ref T, d, cs, m, rfl, gg.kd.dp hv, (j14.trans gg).kd.dp hT12, by omega, hm1, o1, o2, o3, fun H' g' => ?_⟩
      exact ⟨true, rfl, iteF ⟨_, rfl, gg.trans g'⟩⟩
    case u2 =>
    rintro σ S ⟨y8, rfl, gg⟩
    dsimp only
    have jS := j14.trans gg
    have AS := jS.kd.dpA A
    have hTS := jS.kd.dp hT12
    have LSS := jS.lst LS'
    have freshS := fresh.trans jS
    refine ⟨_, rfl, lS, rfl, ⟨_, .inl (.inl LSS)⟩, ?_⟩
    refine for_it (walk_list (xs := [vb, v3, v2, v4, v5])) (fun i' σ S' => ∃ y8, σ = [some (.ref a), some (.int (0 + (i : Nat))), some (.ref p), some (.ref T), some (.int (m : Nat)), some vb, some v2, some (.ref lS), y8] ∧ Gr S S') ⟨_, rfl, Gr.refl S⟩ ?w0 ?w1 ?w2
    case w0 =>
      rintro i' σ S' hi' ⟨y8, rfl, gg⟩
      exact .inl (.inl (gg.lst LSS))
    case w2 =>
      rintro σ S' ⟨y8, rfl, gg2⟩
      exact ⟨⟨_, _, _, _, _, _, _, _, rfl⟩, freshS.trans gg2⟩
    case w1 =>
    rintro i' x σ R' R hi' ⟨y8, rfl, gg2⟩ ⟨rfl, hx⟩
    obtain ⟨d, hd, hv⟩ := dpA_at AS hx
    obtain ⟨o1, o2, o3⟩ := good d (List.mem_of_getElem? hd)
    have em : (1 : Int) + ((m : Nat) : Int) % 3 = ((1 + m % 3 : Nat) : Int) := by omega
    refine ⟨_, rfl, _, rfl, 1, rfl, _, rfl, _, gg2.kd.dp hTS, fun vc Rc kc hc' => ?_⟩
    obtain ⟨cs', ecs, lcs⟩ := cut_cs cs none (some (-1))
    have hc2 : Dp K Rc vc (cD cs') := by
      have h3 : Dp K Rc vc (.tuple (SfG.cutD (cs.map fun (c : Nat) => PyData.int (c : Int)) none (some (-1)))) := hc'
      rw [ecs] at h3
      exact h3
    have hv3 := (gg2.trans kc).kd.dp hv
    refine ⟨_, rfl, m, 3, rfl, rfl, by show (0 : Int) < 3; decide, 1, _, rfl, rfl, x, vc, d, cs', 1 + m % 3, congrArg (fun z => [x, vc, V.int z]) em, hv3, hc2, by omega, by omega, o1, o2, o3, fun R1 q1 => ?_⟩
    refine ⟨true, rfl, iteF ?_⟩
    have g3 := (gg2.trans kc).trans q1
    refine ⟨_, rfl, _, rfl, _, rfl, m, 3, rfl, rfl, by show (0 : Int) < 3; decide, 1, _, rfl, rfl, x, .ref T, d, cs, 1 + m % 3, congrArg (fun z => [x, V.ref T, V.int z]) em, g3.kd.dp hv, g3.kd.dp hTS, by omega, by omega, o1, o2, o3, fun R2 q2 => ?_⟩
    refine ⟨true, rfl, iteF ?_⟩
    have g4' := g3.trans q2
    obtain ⟨pT, cx, ecx, hpT, hcx⟩ := dp_tup (g4'.kd.dp hTS)
    cases ecx
    refine ⟨_, rfl, _, rfl, T, cx, rfl, hpT, fun pr npr => ?_⟩
    have kr : Gr R2 (upd R2 pr (.tup cx.reverse)) := Gr.new npr
    have Dr' : Dp K (upd R2 pr (.tup cx.reverse)) (.ref pr) (cD cs.reverse) := by
      have h3 := new_TD npr (dpA_rev hcx)
      rw [← List.map_reverse] at h3
      exact h3
    have g5 := g4'.trans kr
    generalize upd R2 pr (.tup cx.reverse) = R3 at kr Dr' g5 ⊢
    refine ⟨_, rfl, x, .ref pr, d, cs.reverse, m, rfl, g5.kd.dp hv, Dr', by rw [List.length_reverse]; omega, hm1, o1, o2, o3, fun R4 q4 => ?_⟩
    exact ⟨true, rfl, iteF ⟨_, rfl, g5.trans q4⟩⟩
end
end SfE
namespace SfE
open PySem PySem.Spec PyProof.Rows L2 SfG
set_option maxHeartbeats 4000000 in
theorem all_mk {l : PySem.W.OpenLaw} {w : World} {K : PySem.W.Frag} {h : Heap} {mg : Str → Option Value} {fa : Addr} (X : K.In h) (G : h.Ns mainGlobals mg) (hfa : mg "law" = some (.ref fa))
    {fLe : Addr} {odLe anLe : Option Addr} {slLe : Array (Option Value)} {ocLe kVLe dcLe pmLe ctLe cdLe : Value}
    (aLe : PySem.W.nsIn K mainGlobals "left_by_expression" = some (some (.ref fLe))) (lLe : K.lookup fLe = some ⟨ocLe, odLe, .func (PySem.W.fnOf "left_by_expression" "left_by_expression" (defArgs sLbe) (defBody sLbe) (defScope sLbe) .none kVLe dcLe pmLe anLe cdLe ctLe), slLe⟩) (hLe : PySem.W.codeIn K cdLe "left_by_expression" = true) (kLe : PySem.W.keepIn K (.ref fLe) = true)
    {fLb : Addr} {odLb anLb : Option Addr} {slLb : Array (Option Value)} {ocLb kVLb dcLb pmLb ctLb cdLb : Value}
    (aLb : PySem.W.nsIn K mainGlobals "left_by_body" = some (some (.ref fLb))) (lLb : K.lookup fLb = some ⟨ocLb, odLb, .func (PySem.W.fnOf "left_by_body" "left_by_body" (defArgs sLbb) (defBody sLbb) (defScope sLbb) .none kVLb dcLb pmLb anLb cdLb ctLb), slLb⟩) (hLb : PySem.W.codeIn K cdLb "left_by_body" = true) (kLb : PySem.W.keepIn K (.ref fLb) = true)
    {fIb : Addr} {odIb anIb : Option Addr} {slIb : Array (Option Value)} {ocIb kVIb dcIb pmIb ctIb cdIb : Value}
    (aIb : PySem.W.nsIn K mainGlobals "is_body" = some (some (.ref fIb))) (lIb : K.lookup fIb = some ⟨ocIb, odIb, .func (PySem.W.fnOf "is_body" "is_body" (defArgs sIsB) (defBody sIsB) (defScope sIsB) .none kVIb dcIb pmIb anIb cdIb ctIb), slIb⟩) (hIb : PySem.W.codeIn K cdIb "is_body" = true) (kIb : PySem.W.keepIn K (.ref fIb) = true)
    {fPb : Addr} {odPb anPb : Option Addr} {slPb : Array (Option Value)} {ocPb kVPb dcPb pmPb ctPb cdPb : Value}
    (aPb : PySem.W.nsIn K mainGlobals "parts_below" = some (some (.ref fPb))) (lPb : K.lookup fPb = some ⟨ocPb, odPb, .func (PySem.W.fnOf "parts_below" "parts_below" (defArgs sBelow) (defBody sBelow) (defScope sBelow) .none kVPb dcPb pmPb anPb cdPb ctPb), slPb⟩) (hPb : PySem.W.codeIn K cdPb "parts_below" = true) (kPb : PySem.W.keepIn K (.ref fPb) = true)
    {fPi : Addr} {odPi anPi : Option Addr} {slPi : Array (Option Value)} {ocPi kVPi dcPi pmPi ctPi cdPi : Value}
    (aPi : PySem.W.nsIn K mainGlobals "parts_in" = some (some (.ref fPi))) (lPi : K.lookup fPi = some ⟨ocPi, odPi, .func (PySem.W.fnOf "parts_in" "parts_in" (defArgs sParts) (defBody sParts) (defScope sParts) .none kVPi dcPi pmPi anPi cdPi ctPi), slPi⟩) (hPi : PySem.W.codeIn K cdPi "parts_in" = true) (kPi : PySem.W.keepIn K (.ref fPi) = true)
    {fDi : Addr} {odDi anDi : Option Addr} {slDi : Array (Option Value)} {ocDi kVDi dcDi pmDi ctDi cdDi : Value}
    (aDi : PySem.W.nsIn K mainGlobals "depth_in" = some (some (.ref fDi))) (lDi : K.lookup fDi = some ⟨ocDi, odDi, .func (PySem.W.fnOf "depth_in" "depth_in" (defArgs sDeepI) (defBody sDeepI) (defScope sDeepI) .none kVDi dcDi pmDi anDi cdDi ctDi), slDi⟩) (hDi : PySem.W.codeIn K cdDi "depth_in" = true) (kDi : PySem.W.keepIn K (.ref fDi) = true)
    {fBg : Addr} {odBg anBg : Option Addr} {slBg : Array (Option Value)} {ocBg kVBg dcBg pmBg ctBg cdBg : Value}
    (aBg : PySem.W.nsIn K mainGlobals "_law_begun" = some (some (.ref fBg))) (lBg : K.lookup fBg = some ⟨ocBg, odBg, .func (PySem.W.fnOf "_law_begun" "_law_begun" (defArgs sBeg) (defBody sBeg) (defScope sBeg) .none kVBg dcBg pmBg anBg cdBg ctBg), slBg⟩) (hBg : PySem.W.codeIn K cdBg "_law_begun" = true) (kBg : PySem.W.keepIn K (.ref fBg) = true)
    {fPk : Addr} {odPk anPk : Option Addr} {slPk : Array (Option Value)} {ocPk kVPk dcPk pmPk ctPk cdPk : Value}
    (aPk : PySem.W.nsIn K mainGlobals "_law_pick" = some (some (.ref fPk))) (lPk : K.lookup fPk = some ⟨ocPk, odPk, .func (PySem.W.fnOf "_law_pick" "_law_pick" (defArgs sPick) (defBody sPick) (defScope sPick) .none kVPk dcPk pmPk anPk cdPk ctPk), slPk⟩) (hPk : PySem.W.codeIn K cdPk "_law_pick" = true) (kPk : PySem.W.keepIn K (.ref fPk) = true)
    {fAm : Addr} {odAm anAm : Option Addr} {slAm : Array (Option Value)} {ocAm kVAm dcAm pmAm ctAm cdAm : Value}
    (aAm : PySem.W.nsIn K mainGlobals "_law_among" = some (some (.ref fAm))) (lAm : K.lookup fAm = some ⟨ocAm, odAm, .func (PySem.W.fnOf "_law_among" "_law_among" (defArgs sAmg) (defBody sAmg) (defScope sAmg) .none kVAm dcAm pmAm anAm cdAm ctAm), slAm⟩) (hAm : PySem.W.codeIn K cdAm "_law_among" = true) (kAm : PySem.W.keepIn K (.ref fAm) = true)
    {fLk : Addr} {odLk anLk : Option Addr} {slLk : Array (Option Value)} {ocLk kVLk dcLk pmLk ctLk cdLk : Value}
    (aLk : PySem.W.nsIn K mainGlobals "_law_looked" = some (some (.ref fLk))) (lLk : K.lookup fLk = some ⟨ocLk, odLk, .func (PySem.W.fnOf "_law_looked" "_law_looked" (defArgs sLook) (defBody sLook) (defScope sLook) .none kVLk dcLk pmLk anLk cdLk ctLk), slLk⟩) (hLk : PySem.W.codeIn K cdLk "_law_looked" = true) (kLk : PySem.W.keepIn K (.ref fLk) = true)
    {fEx : Addr} {odEx anEx : Option Addr} {slEx : Array (Option Value)} {ocEx kVEx dcEx pmEx ctEx cdEx : Value}
    (aEx : PySem.W.nsIn K mainGlobals "_law_expression" = some (some (.ref fEx))) (lEx : K.lookup fEx = some ⟨ocEx, odEx, .func (PySem.W.fnOf "_law_expression" "_law_expression" (defArgs sExp) (defBody sExp) (defScope sExp) .none kVEx dcEx pmEx anEx cdEx ctEx), slEx⟩) (hEx : PySem.W.codeIn K cdEx "_law_expression" = true) (kEx : PySem.W.keepIn K (.ref fEx) = true)
    {fBo : Addr} {odBo anBo : Option Addr} {slBo : Array (Option Value)} {ocBo kVBo dcBo pmBo ctBo cdBo : Value}
    (aBo : PySem.W.nsIn K mainGlobals "_law_body" = some (some (.ref fBo))) (lBo : K.lookup fBo = some ⟨ocBo, odBo, .func (PySem.W.fnOf "_law_body" "_law_body" (defArgs sBod) (defBody sBod) (defScope sBod) .none kVBo dcBo pmBo anBo cdBo ctBo), slBo⟩) (hBo : PySem.W.codeIn K cdBo "_law_body" = true) (kBo : PySem.W.keepIn K (.ref fBo) = true)
    {fOd : Addr} {odOd anOd : Option Addr} {slOd : Array (Option Value)} {ocOd kVOd dcOd pmOd ctOd cdOd : Value}
    (aOd : PySem.W.nsIn K mainGlobals "_law_odd" = some (some (.ref fOd))) (lOd : K.lookup fOd = some ⟨ocOd, odOd, .func (PySem.W.fnOf "_law_odd" "_law_odd" (defArgs sOdd) (defBody sOdd) (defScope sOdd) .none kVOd dcOd pmOd anOd cdOd ctOd), slOd⟩) (hOd : PySem.W.codeIn K cdOd "_law_odd" = true) (kOd : PySem.W.keepIn K (.ref fOd) = true)
    {fBe : Addr} {odBe anBe : Option Addr} {slBe : Array (Option Value)} {ocBe kVBe dcBe pmBe ctBe cdBe : Value}
    (aBe : PySem.W.nsIn K mainGlobals "_law_bent" = some (some (.ref fBe))) (lBe : K.lookup fBe = some ⟨ocBe, odBe, .func (PySem.W.fnOf "_law_bent" "_law_bent" (defArgs sBent) (defBody sBent) (defScope sBent) .none kVBe dcBe pmBe anBe cdBe ctBe), slBe⟩) (hBe : PySem.W.codeIn K cdBe "_law_bent" = true) (kBe : PySem.W.keepIn K (.ref fBe) = true)
    {fTr : Addr} {odTr anTr : Option Addr} {slTr : Array (Option Value)} {ocTr kVTr dcTr pmTr ctTr cdTr : Value}
    (aTr : PySem.W.nsIn K mainGlobals "_law_truths" = some (some (.ref fTr))) (lTr : K.lookup fTr = some ⟨ocTr, odTr, .func (PySem.W.fnOf "_law_truths" "_law_truths" (defArgs sTru) (defBody sTru) (defScope sTru) .none kVTr dcTr pmTr anTr cdTr ctTr), slTr⟩) (hTr : PySem.W.codeIn K cdTr "_law_truths" = true) (kTr : PySem.W.keepIn K (.ref fTr) = true)
    {fRi : Addr} {odRi anRi : Option Addr} {slRi : Array (Option Value)} {ocRi kVRi dcRi pmRi ctRi cdRi : Value}
    (aRi : PySem.W.nsIn K mainGlobals "_law_right" = some (some (.ref fRi))) (lRi : K.lookup fRi = some ⟨ocRi, odRi, .func (PySem.W.fnOf "_law_right" "_law_right" (defArgs sRight) (defBody sRight) (defScope sRight) .none kVRi dcRi pmRi anRi cdRi ctRi), slRi⟩) (hRi : PySem.W.codeIn K cdRi "_law_right" = true) (kRi : PySem.W.keepIn K (.ref fRi) = true)
    {fSu : Addr} {odSu anSu : Option Addr} {slSu : Array (Option Value)} {ocSu kVSu dcSu pmSu ctSu cdSu : Value}
    (aSu : PySem.W.nsIn K mainGlobals "_law_sum" = some (some (.ref fSu))) (lSu : K.lookup fSu = some ⟨ocSu, odSu, .func (PySem.W.fnOf "_law_sum" "_law_sum" (defArgs sSum) (defBody sSum) (defScope sSum) .none kVSu dcSu pmSu anSu cdSu ctSu), slSu⟩) (hSu : PySem.W.codeIn K cdSu "_law_sum" = true) (kSu : PySem.W.keepIn K (.ref fSu) = true)
    {fCh : Addr} {odCh anCh : Option Addr} {slCh : Array (Option Value)} {ocCh kVCh dcCh pmCh ctCh cdCh : Value}
    (aCh : PySem.W.nsIn K mainGlobals "_law_chain" = some (some (.ref fCh))) (lCh : K.lookup fCh = some ⟨ocCh, odCh, .func (PySem.W.fnOf "_law_chain" "_law_chain" (defArgs sChain) (defBody sChain) (defScope sChain) .none kVCh dcCh pmCh anCh cdCh ctCh), slCh⟩) (hCh : PySem.W.codeIn K cdCh "_law_chain" = true) (kCh : PySem.W.keepIn K (.ref fCh) = true)
    {fWh : Addr} {odWh anWh : Option Addr} {slWh : Array (Option Value)} {ocWh kVWh dcWh pmWh ctWh cdWh : Value}
    (aWh : PySem.W.nsIn K mainGlobals "_law_whens" = some (some (.ref fWh))) (lWh : K.lookup fWh = some ⟨ocWh, odWh, .func (PySem.W.fnOf "_law_whens" "_law_whens" (defArgs sWhens) (defBody sWhens) (defScope sWhens) .none kVWh dcWh pmWh anWh cdWh ctWh), slWh⟩) (hWh : PySem.W.codeIn K cdWh "_law_whens" = true) (kWh : PySem.W.keepIn K (.ref fWh) = true)
    {fCa : Addr} {odCa anCa : Option Addr} {slCa : Array (Option Value)} {ocCa kVCa dcCa pmCa ctCa cdCa : Value}
    (aCa : PySem.W.nsIn K mainGlobals "_law_case" = some (some (.ref fCa))) (lCa : K.lookup fCa = some ⟨ocCa, odCa, .func (PySem.W.fnOf "_law_case" "_law_case" (defArgs sCase) (defBody sCase) (defScope sCase) .none kVCa dcCa pmCa anCa cdCa ctCa), slCa⟩) (hCa : PySem.W.codeIn K cdCa "_law_case" = true) (kCa : PySem.W.keepIn K (.ref fCa) = true)
    {fDe : Addr} {odDe anDe : Option Addr} {slDe : Array (Option Value)} {ocDe kVDe dcDe pmDe ctDe cdDe : Value}
    (aDe : PySem.W.nsIn K mainGlobals "_law_deep_right" = some (some (.ref fDe))) (lDe : K.lookup fDe = some ⟨ocDe, odDe, .func (PySem.W.fnOf "_law_deep_right" "_law_deep_right" (defArgs sDeepR) (defBody sDeepR) (defScope sDeepR) .none kVDe dcDe pmDe anDe cdDe ctDe), slDe⟩) (hDe : PySem.W.codeIn K cdDe "_law_deep_right" = true) (kDe : PySem.W.keepIn K (.ref fDe) = true)
    {fBu : Addr} {odBu anBu : Option Addr} {slBu : Array (Option Value)} {ocBu kVBu dcBu pmBu ctBu cdBu : Value}
    (aBu : PySem.W.nsIn K mainGlobals "_law_bounds_right" = some (some (.ref fBu))) (lBu : K.lookup fBu = some ⟨ocBu, odBu, .func (PySem.W.fnOf "_law_bounds_right" "_law_bounds_right" (defArgs sBoundR) (defBody sBoundR) (defScope sBoundR) .none kVBu dcBu pmBu anBu cdBu ctBu), slBu⟩) (hBu : PySem.W.codeIn K cdBu "_law_bounds_right" = true) (kBu : PySem.W.keepIn K (.ref fBu) = true)
    {fL : Addr} {odL anL : Option Addr} {slL : Array (Option Value)} {ocL kVL dcL pmL ctL cdL : Value}
    (aL : PySem.W.nsIn K mainGlobals "law" = some (some (.ref fL))) (lL : K.lookup fL = some ⟨ocL, odL, .func (PySem.W.fnOf "law" "law" (defArgs sLaw) (defBody sLaw) (defScope sLaw) .none kVL dcL pmL anL cdL ctL), slL⟩) (hL : PySem.W.codeIn K cdL "law" = true) (kL : PySem.W.keepIn K (.ref fL) = true)
    {tmp : Tok} (cmp : PySem.W.nsIn K mainGlobals "MOST_PARTS" = some (some (.int 60 tmp)))
    {tmd : Tok} (cmd : PySem.W.nsIn K mainGlobals "MOST_DEEP" = some (some (.int 8 tmd)))
    {pw : Addr} {oW : Obj} {itW : Array Value} {nW : Nat} (aPW : PySem.W.nsIn K mainGlobals "PAIR_WORDS" = some (some (.ref pw))) (lPW : K.lookup pw = some oW) (cPW : oW.cls = .type "tuple") (dPW : oW.data = .seq itW nW) (zPW : itW.size ≤ sizeLine) (vPW : Vals (fiveW.map V.str) itW.toList)
    (z_isinstance : PySem.W.nsIn K mainGlobals "isinstance" = some none)
    (z_int : PySem.W.nsIn K mainGlobals "int" = some none)
    (z_bool : PySem.W.nsIn K mainGlobals "bool" = some none)
    (z_str : PySem.W.nsIn K mainGlobals "str" = some none)
    (z_len : PySem.W.nsIn K mainGlobals "len" = some none)
    (z_sum : PySem.W.nsIn K mainGlobals "sum" = some none)
    (z_max : PySem.W.nsIn K mainGlobals "max" = some none)
    (z_min : PySem.W.nsIn K mainGlobals "min" = some none)
    (z_range : PySem.W.nsIn K mainGlobals "range" = some none)
    (z_abs : PySem.W.nsIn K mainGlobals "abs" = some none)
    (z_repr : PySem.W.nsIn K mainGlobals "repr" = some none)
    (z_list : PySem.W.nsIn K mainGlobals "list" = some none)
    (z_tuple : PySem.W.nsIn K mainGlobals "tuple" = some none)
    (z_dict : PySem.W.nsIn K mainGlobals "dict" = some none)
    (z_enumerate : PySem.W.nsIn K mainGlobals "enumerate" = some none) :
    LawG l w K CX0 41 63 "_law_script" mg fa h := by
  have e := hfa.symm.trans (PySem.W.mg_of X G aL)
  cases e
  have FLe := fun_mk (st := sLbe) lLe hLe kLe
  have bLe := (FLe).binds (ps := ["thing", "takes", "counts", "deep", "left"]) fun _ _ _ _ _ _ us hl => match us, hl with | [_, _, _, _, _], _ => rfl
  have gLe := PySem.W.mg_of X G aLe
  have FLb := fun_mk (st := sLbb) lLb hLb kLb
  have bLb := (FLb).binds (ps := ["thing", "takes", "counts", "many", "deep", "left"]) fun _ _ _ _ _ _ us hl => match us, hl with | [_, _, _, _, _, _], _ => rfl
  have gLb := PySem.W.mg_of X G aLb
  have FIb := fun_mk (st := sIsB) lIb hIb kIb
  have bIb := (FIb).binds (ps := ["thing", "counts", "many"]) fun _ _ _ _ _ _ us hl => match us, hl with | [_, _, _], _ => rfl
  have gIb := PySem.W.mg_of X G aIb
  have FPb := fun_mk (st := sBelow) lPb hPb kPb
  have bPb := (FPb).binds (ps := ["level"]) fun _ _ _ _ _ _ us hl => match us, hl with | [_], _ => rfl
  have gPb := PySem.W.mg_of X G aPb
  have FPi := fun_mk (st := sParts) lPi hPi kPi
  have bPi := (FPi).binds (ps := ["body"]) fun _ _ _ _ _ _ us hl => match us, hl with | [_], _ => rfl
  have gPi := PySem.W.mg_of X G aPi
  have FDi := fun_mk (st := sDeepI) lDi hDi kDi
  have bDi := (FDi).binds (ps := ["body"]) fun _ _ _ _ _ _ us hl => match us, hl with | [_], _ => rfl
  have gDi := PySem.W.mg_of X G aDi
  have FBg := fun_mk (st := sBeg) lBg hBg kBg
  have bBg := (FBg).binds (ps := ["_law_script", "_law_k"]) fun _ _ _ _ _ _ us hl => match us, hl with | [_, _], _ => rfl
  have gBg := PySem.W.mg_of X G aBg
  have FPk := fun_mk (st := sPick) lPk hPk kPk
  have bPk := (FPk).binds (ps := ["_law_state", "_law_many"]) fun _ _ _ _ _ _ us hl => match us, hl with | [_, _], _ => rfl
  have gPk := PySem.W.mg_of X G aPk
  have FAm := fun_mk (st := sAmg) lAm hAm kAm
  have bAm := (FAm).binds (ps := ["_law_thing", "_law_least", "_law_most"]) fun _ _ _ _ _ _ us hl => match us, hl with | [_, _, _], _ => rfl
  have gAm := PySem.W.mg_of X G aAm
  have FLk := fun_mk (st := sLook) lLk hLk kLk
  have bLk := (FLk).binds (ps := ["_law_thing", "_law_counts", "_law_many"]) fun _ _ _ _ _ _ us hl => match us, hl with | [_, _, _], _ => rfl
  have gLk := PySem.W.mg_of X G aLk
  have FEx := fun_mk (st := sExp) lEx hEx kEx
  have bEx := (FEx).binds (ps := ["_law_state", "_law_counts", "_law_deep"]) fun _ _ _ _ _ _ us hl => match us, hl with | [_, _, _], _ => rfl
  have gEx := PySem.W.mg_of X G aEx
  have FBo := fun_mk (st := sBod) lBo hBo kBo
  have bBo := (FBo).binds (ps := ["_law_state", "_law_counts", "_law_many", "_law_deep"]) fun _ _ _ _ _ _ us hl => match us, hl with | [_, _, _, _], _ => rfl
  have gBo := PySem.W.mg_of X G aBo
  have FOd := fun_mk (st := sOdd) lOd hOd kOd
  have bOd := (FOd).binds (ps := ["_law_state", "_law_thing"]) fun _ _ _ _ _ _ us hl => match us, hl with | [_, _], _ => rfl
  have gOd := PySem.W.mg_of X G aOd
  have FBe := fun_mk (st := sBent) lBe hBe kBe
  have bBe := (FBe).binds (ps := ["_law_state", "_law_thing"]) fun _ _ _ _ _ _ us hl => match us, hl with | [_, _], _ => rfl
  have gBe := PySem.W.mg_of X G aBe
  have FTr := fun_mk (st := sTru) lTr hTr kTr
  have bTr := (FTr).binds (ps := ["_law_thing"]) fun _ _ _ _ _ _ us hl => match us, hl with | [_], _ => rfl
  have gTr := PySem.W.mg_of X G aTr
  have FRi := fun_mk (st := sRight) lRi hRi kRi
  have bRi := (FRi).binds (ps := ["_law_thing", "_law_counts", "_law_many"]) fun _ _ _ _ _ _ us hl => match us, hl with | [_, _, _], _ => rfl
  have gRi := PySem.W.mg_of X G aRi
  have FSu := fun_mk (st := sSum) lSu hSu kSu
  have bSu := (FSu).binds (ps := ["_law_many"]) fun _ _ _ _ _ _ us hl => match us, hl with | [_], _ => rfl
  have gSu := PySem.W.mg_of X G aSu
  have FCh := fun_mk (st := sChain) lCh hCh kCh
  have bCh := (FCh).binds (ps := ["_law_word", "_law_place", "_law_many"]) fun _ _ _ _ _ _ us hl => match us, hl with | [_, _, _], _ => rfl
  have gCh := PySem.W.mg_of X G aCh
  have FWh := fun_mk (st := sWhens) lWh hWh kWh
  have bWh := (FWh).binds (ps := ["_law_many"]) fun _ _ _ _ _ _ us hl => match us, hl with | [_], _ => rfl
  have gWh := PySem.W.mg_of X G aWh
  have FCa := fun_mk (st := sCase) lCa hCa kCa
  have bCa := (FCa).binds (ps := ["_law_place", "_law_many"]) fun _ _ _ _ _ _ us hl => match us, hl with | [_, _], _ => rfl
  have gCa := PySem.W.mg_of X G aCa
  have FDe := fun_mk (st := sDeepR) lDe hDe kDe
  have bDe := (FDe).binds (ps := []) fun _ _ _ _ _ _ us hl => match us, hl with | [], _ => rfl
  have gDe := PySem.W.mg_of X G aDe
  have FBu := fun_mk (st := sBoundR) lBu hBu kBu
  have bBu := (FBu).binds (ps := []) fun _ _ _ _ _ _ us hl => match us, hl with | [], _ => rfl
  have gBu := PySem.W.mg_of X G aBu
  have FL := fun_mk (st := sLaw) lL hL kL
  have bL := (FL).binds (ps := ["_law_script"]) fun _ _ _ _ _ _ us hl => match us, hl with | [_], _ => rfl
  have gL := PySem.W.mg_of X G aL
  have m_isinstance := PySem.W.mg_none_of X G z_isinstance
  have m_int := PySem.W.mg_none_of X G z_int
  have m_bool := PySem.W.mg_none_of X G z_bool
  have m_str := PySem.W.mg_none_of X G z_str
  have m_len := PySem.W.mg_none_of X G z_len
  have m_sum := PySem.W.mg_none_of X G z_sum
  have m_max := PySem.W.mg_none_of X G z_max
  have m_min := PySem.W.mg_none_of X G z_min
  have m_range := PySem.W.mg_none_of X G z_range
  have m_abs := PySem.W.mg_none_of X G z_abs
  have m_repr := PySem.W.mg_none_of X G z_repr
  have m_list := PySem.W.mg_none_of X G z_list
  have m_tuple := PySem.W.mg_none_of X G z_tuple
  have m_dict := PySem.W.mg_none_of X G z_dict
  have m_enumerate := PySem.W.mg_none_of X G z_enumerate
  have mmp := PySem.W.mg_of X G cmp
  have mmd := PySem.W.mg_of X G cmd
  have gPW := PySem.W.mg_of X G aPW
  have hPW : ∀ H : Hp, SqT K H pw (fiveW.map V.str) := fun H => .inr ⟨oW, itW, nW, lPW, cPW, dPW, zPW, vPW⟩
  refine ⟨PySem.W.fnOf "law" "law" (defArgs sLaw) (defBody sLaw) (defScope sLaw) .none kVL dcL pmL anL cdL ctL, [], spLaw K, ?_, ?_, ?_, fun s v => .of_eq rfl, ?_, ?_⟩
  · intro p hp
    cases hp
  · intro p hp
    cases hp
  · intro p hp
    cases hp
  · intro H a ns hl hH hS
    exact ⟨a, ns, rfl, hS, fun _ => rfl⟩
  · intro base KB NB TB
    have OLe := ok_lbe (P := l.prog) (w := w) (base := base) FLe bLe gLe m_isinstance m_tuple m_int m_len gPW hPW
    have OLb := ok_lbb (P := l.prog) (w := w) (base := base) FLb bLb gLb ⟨OLe 8, gLe, kLe, bLe⟩ m_isinstance m_tuple m_len
    have OIb := ok_isB (P := l.prog) (w := w) (base := base) FIb ⟨OLb 8 (by decide), gLb, kLb, bLb⟩ m_len m_range m_list m_dict m_enumerate mmp mmd
    have OPb := ok_below (k := 0) (P := l.prog) (w := w) (base := base) FPb m_isinstance m_tuple
    have OPi := ok_parts (k := 1) (P := l.prog) (w := w) (base := base) FPi ⟨OPb, gPb, kPb, bPb⟩ m_len
    have ODi := ok_deepI (k := 1) (P := l.prog) (w := w) (base := base) FDi ⟨OPb, gPb, kPb, bPb⟩
    have OBg : FnOk l.prog w K mg base CX0 1 fBg _ ["_law_script", "_law_k"] (spBeg K) := ok_beg FBg m_len m_abs
    have OPk : FnOk l.prog w K mg base CX0 1 fPk _ ["_law_state", "_law_many"] spPick := ok_pick FPk
    have OAm : FnOk l.prog w K mg base CX0 1 fAm _ ["_law_thing", "_law_least", "_law_most"] (spAmg K) := ok_amg FAm m_isinstance m_int m_bool
    have OLk := ok_look (P := l.prog) (w := w) (base := base) FLk bLk gLk ⟨OAm, gAm, kAm, bAm⟩ ⟨m_isinstance, m_tuple, m_str, m_len, m_sum, m_max⟩
    have OEx := ok_exp (P := l.prog) (w := w) (base := base) FEx bEx gEx ⟨OPk, gPk, kPk, bPk⟩ m_len m_tuple m_range
    have OBo := ok_bod (P := l.prog) (w := w) (base := base) FBo bBo gBo ⟨OPk, gPk, kPk, bPk⟩ ⟨(OEx 3).mono (by decide), gEx, kEx, bEx⟩ ⟨OLk 30, gLk, kLk, bLk⟩ m_tuple m_range 4
    have OOd := ok_odd (k := 1) (P := l.prog) (w := w) (base := base) FOd ⟨OPk, gPk, kPk, bPk⟩ ⟨m_isinstance, m_tuple, m_str, m_list, m_int⟩
    have OBe := ok_bent (P := l.prog) (w := w) (base := base) FBe bBe gBe ⟨OPk, gPk, kPk, bPk⟩ OOd bOd gOd kOd m_isinstance m_tuple m_len 16
    have OTr := ok_tru (P := l.prog) (w := w) (base := base) FTr bTr gTr m_isinstance m_tuple m_int 12
    have ORi := ok_right (k := 32) (P := l.prog) (w := w) (base := base) FRi ⟨OLk 30, gLk, kLk, bLk⟩ ⟨(OLk 29).mono (by decide), gLk, kLk, bLk⟩ ⟨(OIb).mono (by decide), gIb, kIb, bIb⟩ ⟨(OPi).mono (by decide), gPi, kPi, bPi⟩ ⟨(ODi).mono (by decide), gDi, kDi, bDi⟩ ⟨m_repr, m_list, m_range⟩
    have OSu := ok_sum (P := l.prog) (w := w) (base := base) FSu bSu gSu 20
    have OCh := ok_chain (k := 0) (P := l.prog) (w := w) (base := base) FCh m_range m_tuple m_int
    have OWh := ok_whens (P := l.prog) (w := w) (base := base) FWh bWh gWh 30
    have OCa := ok_case (k := 1) (P := l.prog) (w := w) (base := base) FCa ⟨OCh, gCh, kCh, bCh⟩ m_range
    have ODe := ok_dr (k := 32) (P := l.prog) (w := w) (base := base) FDe ⟨⟨(OIb).mono (by decide), gIb, kIb, bIb⟩, ⟨(OCh).mono (by decide), gCh, kCh, bCh⟩, ⟨(OCa).mono (by decide), gCa, kCa, bCa⟩, ⟨(OWh).mono (by decide), gWh, kWh, bWh⟩, ⟨(OPi).mono (by decide), gPi, kPi, bPi⟩, ⟨(ODi).mono (by decide), gDi, kDi, bDi⟩, m_repr⟩
    have OBu := ok_br (k := 32) (P := l.prog) (w := w) (base := base) FBu ⟨⟨(OIb).mono (by decide), gIb, kIb, bIb⟩, ⟨(OSu).mono (by decide), gSu, kSu, bSu⟩, ⟨(OPi).mono (by decide), gPi, kPi, bPi⟩, ⟨(ODi).mono (by decide), gDi, kDi, bDi⟩, m_repr, m_range⟩
    exact ok_law FL ⟨⟨(OBg).mono (by decide), gBg, kBg, bBg⟩, ⟨(OPk).mono (by decide), gPk, kPk, bPk⟩, ⟨(OBo).mono (by decide), gBo, kBo, bBo⟩, ⟨(OTr).mono (by decide), gTr, kTr, bTr⟩, fng_up OBe (by decide), gBe, kBe, bBe, fng_up ORi (by decide), gRi, kRi, bRi, fng_up OBu (by decide), gBu, kBu, bBu, fng_up ODe (by decide), gDe, kDe, bDe, m_range, m_max, m_min, m_len, m_tuple⟩
end SfE
open PySem PySem.W PyProof.Rows
set_option maxRecDepth 100000 in
set_option maxHeartbeats 0 in
theorem PySem.Challenge.cw_sameface_k09_bodies_looked_at_holds : PySem.Challenge.rw_sameface_k09_bodies_looked_at.Holds := by
  w_on; o_law; k_head; (case hw => w_witness2)
  k_fill
  refine SfG.walk_G (l := PySem.Challenge.rw_sameface_k09_bodies_looked_at) (n := 63) (k := 41) (x := "_law_script") (CX := fun _ => L2.CX0) rfl (by decide) rfl ⟨rfl, by decide, by decide⟩ (fun w h Y => PySem.W.kIn_of Y) ?F (fun _ _ _ _ _ h => h)
  case F =>
    intro w mg fa h KX G hmg T
    refine' SfE.all_mk KX G hmg ?aLe ?lLe ?hLe ?kLe ?aLb ?lLb ?hLb ?kLb ?aIb ?lIb ?hIb ?kIb ?aPb ?lPb ?hPb ?kPb ?aPi ?lPi ?hPi ?kPi ?aDi ?lDi ?hDi ?kDi ?aBg ?lBg ?hBg ?kBg ?aPk ?lPk ?hPk ?kPk ?aAm ?lAm ?hAm ?kAm ?aLk ?lLk ?hLk ?kLk ?aEx ?lEx ?hEx ?kEx ?aBo ?lBo ?hBo ?kBo ?aOd ?lOd ?hOd ?kOd ?aBe ?lBe ?hBe ?kBe ?aTr ?lTr ?hTr ?kTr ?aRi ?lRi ?hRi ?kRi ?aSu ?lSu ?hSu ?kSu ?aCh ?lCh ?hCh ?kCh ?aWh ?lWh ?hWh ?kWh ?aCa ?lCa ?hCa ?kCa ?aDe ?lDe ?hDe ?kDe ?aBu ?lBu ?hBu ?kBu ?aL ?lL ?hL ?kL ?cmp ?cmd ?aPW ?lPW ?cPW ?dPW ?zPW ?vPW ?z_isinstance ?z_int ?z_bool ?z_str ?z_len ?z_sum ?z_max ?z_min ?z_range ?z_abs ?z_repr ?z_list ?z_tuple ?z_dict ?z_enumerate
    (case aLe => k_is)
    (case lLe => k_is)
    (case hLe => k_is)
    (case kLe => k_is)
    (case aLb => k_is)
    (case lLb => k_is)
    (case hLb => k_is)
    (case kLb => k_is)
    (case aIb => k_is)
    (case lIb => k_is)
    (case hIb => k_is)
    (case kIb => k_is)
    (case aPb => k_is)
    (case lPb => k_is)
    (case hPb => k_is)
    (case kPb => k_is)
    (case aPi => k_is)
    (case lPi => k_is)
    (case hPi => k_is)
    (case kPi => k_is)
    (case aDi => k_is)
    (case lDi => k_is)
    (case hDi => k_is)
    (case kDi => k_is)
    (case aBg => k_is)
    (case lBg => k_is)
    (case hBg => k_is)
    (case kBg => k_is)
    (case aPk => k_is)
    (case lPk => k_is)
    (case hPk => k_is)
    (case kPk => k_is)
    (case aAm => k_is)
    (case lAm => k_is)
    (case hAm => k_is)
    (case kAm => k_is)
    (case aLk => k_is)
    (case lLk => k_is)
    (case hLk => k_is)
    (case kLk => k_is)
    (case aEx => k_is)
    (case lEx => k_is)
    (case hEx => k_is)
    (case kEx => k_is)
    (case aBo => k_is)
    (case lBo => k_is)
    (case hBo => k_is)
    (case kBo => k_is)
    (case aOd => k_is)
    (case lOd => k_is)
    (case hOd => k_is)
    (case kOd => k_is)
    (case aBe => k_is)
    (case lBe => k_is)
    (case hBe => k_is)
    (case kBe => k_is)
    (case aTr => k_is)
    (case lTr => k_is)
    (case hTr => k_is)
    (case kTr => k_is)
    (case aRi => k_is)
    (case lRi => k_is)
    (case hRi => k_is)
    (case kRi => k_is)
    (case aSu => k_is)
    (case lSu => k_is)
    (case hSu => k_is)
    (case kSu => k_is)
    (case aCh => k_is)
    (case lCh => k_is)
    (case hCh => k_is)
    (case kCh => k_is)
    (case aWh => k_is)
    (case lWh => k_is)
    (case hWh => k_is)
    (case kWh => k_is)
    (case aCa => k_is)
    (case lCa => k_is)
    (case hCa => k_is)
    (case kCa => k_is)
    (case aDe => k_is)
    (case lDe => k_is)
    (case hDe => k_is)
    (case kDe => k_is)
    (case aBu => k_is)
    (case lBu => k_is)
    (case hBu => k_is)
    (case kBu => k_is)
    (case aL => k_is)
    (case lL => k_is)
    (case hL => k_is)
    (case kL => k_is)
    (case cmp => k_is)
    (case cmd => k_is)
    (case aPW => k_is)
    (case lPW => k_is)
    (case cPW => exact rfl)
    (case dPW => exact rfl)
    (case zPW => decide)
    (case vPW => exact .cons ⟨_, rfl⟩ (.cons ⟨_, rfl⟩ (.cons ⟨_, rfl⟩ (.cons ⟨_, rfl⟩ (.cons ⟨_, rfl⟩ .nil)))))
    (case z_isinstance => k_is)
    (case z_int => k_is)
    (case z_bool => k_is)
    (case z_str => k_is)
    (case z_len => k_is)
    (case z_sum => k_is)
    (case z_max => k_is)
    (case z_min => k_is)
    (case z_range => k_is)
    (case z_abs => k_is)
    (case z_repr => k_is)
    (case z_list => k_is)
    (case z_tuple => k_is)
    (case z_dict => k_is)
    (case z_enumerate => k_is)
