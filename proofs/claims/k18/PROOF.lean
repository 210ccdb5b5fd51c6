import PyProof.Rows.All
import Wide.All
import OpenK.AllK
import Wide.FinOn
import HandS.ForMost
import HandS.Walk
import HandS.Wide
import HandS.IsInst
import HandS.AnyAll
import HandS.Replace
import HandS.EndTab
import HandS.RaiseMore
import HandS.TupLe
import PyProof.ReprRoads
import PyProof.StrOps2
import HandS.TupAny
import KE.KExcSuper
import HandS.ExcInit
import HandS.FStr
import HandS.ForExc
import HandS.ExcIs
import HandS.ExcValue
import KE.KExcIs
import HandS.ExcField
import HandS.StrMore
import HandS.Style
import KE.GoesEnum
import KE.GoesMore
import PyProof.DictUpdate
import PyProof.ListIndex
import PyProof.FactsAll.bool_1
import PyProof.FactsAll.bool_2
import PyProof.EqKinds
import PyProof.NeKinds
import PyProof.StrLawsRepr
import HandS.TupMul
import KE.KRevSl
import HandS.TupSets
import HandS.SortOrd
import PyProof.Rows.SortKeyStr
import HandS.CallLocal
import HandS.ExcOwn
import HandS.Star
import KE.KEqSeq
import PyProof.EqLayable
import HandS.Flow
import PySem.Challenge.RW_sameface_k18_which_are_users
set_option Elab.async false
set_option linter.all false
set_option maxRecDepth 100000
/-! calls made where no repr is under way; repr of lists; all(..) over a text with a module's name in its test; the law's end -/
namespace SfG
open PySem PySem.Spec PyProof.Rows L2
/-! ### a def's promise where no repr is under way -/
structure FnG (P : Program) (w : World) (K : PySem.W.Frag) (mg : Str → Option Value) (base : Heap)
    (CX : CXT) (k : Nat) (f : Addr) (fd : FuncData) (ps : List Str) (sp : Sp) : Prop where
  size : ∀ vs H Q E, sp vs H Q E → vs.length = ps.length
  goes : ∀ (A : Around) (outer : List Env) (s : Shared) (H : Hp) (args : Args) (us : List Value)
    (vs : List V) (Q : VK) (E : XK), Room k A → A.guards = some [] → Env0 P w K mg base A outer s H →
    BindsTo s fd args (ps.zip us) → Vals vs us → sp vs H Q E →
    codeAny (model P w) A (.call (.ref f) args) (CR CX outer P w H s Q E) s
section
variable {P : Program} {w : World} {K : PySem.W.Frag} {mg : Str → Option Value} {base : Heap}
/-- a def by its body, where no repr is under way -/
theorem fng_of {x qual : Str} {st : Stmt} {f : Addr} {fd : FuncData} {N ps : List Str} {k : Nat} {sp : Sp}
    (F : Fun K x qual st f fd) (S : FnScope N ps (defScope st)) (len : ∀ vs H Q E, sp vs H Q E → vs.length = ps.length)
    (hbody : ∀ (cdv : Value) (A : Around) (outer : List Env) (s : Shared) (H : Hp) (vs : List V) (Q : VK) (E : XK),
      Room k (A.deeper (envOfC qual (defScope st) s.heap.objs.size f cdv)) → A.guards = some [] → sp vs H Q E →
      ∃ t, PSs (cxOf CX0 P w K mg base N qual (defScope st) f cdv A outer s H E).nox (defBody st) t ∧
        t { nx := fun _ H' => Q .non H', rt := Q } (start N vs) H) :
    FnG P w K mg base CX0 (k + 1) f fd ps sp := by
  obtain ⟨oc, od, kV, doc, pm, an, cdv, ct, osl, rfl, lk, hcd⟩ := F.ex
  refine ⟨len, ?_⟩
  intro A outer s H args us vs Q E hr hgd e0 hb r hsp
  refine LamX.run_ofS lk hcd S hr e0 hb r (len _ _ _ _ hsp) ?_
  intro hr'
  obtain ⟨t, h, q⟩ := hbody cdv A outer s H vs Q E hr' hgd hsp
  exact ⟨t, h.nox, q⟩
end
section
variable {X : Cx} {CX : CXT} {k : Nat} {f : Addr} {fd : FuncData} {ps : List Str} {sp : Sp} {dvs : List V}
  {ds : List Value} {E : XK} {x : Str} {p pos : Pos} {e : Expr} {es : List Expr} {t : TA}
theorem run_fng {pins : List (Addr × Obj)} {σ : L2.St} {H : Hp} {s : Shared} {Q : VK} {us : List Value} {vs : List V}
    (F : FnG X.prog X.w X.K X.mg X.base CX k f fd ps sp) (hr : Room k X.A) (hgd : X.A.guards = some [])
    (hb : Binds X.K fd ps ds) (hd : Vals dvs ds) (hx : Passes CX X E) (I : L2.Inv X pins σ H s) (r : Vals vs us)
    (h : sp (vs ++ dvs) H Q E) : wpAny (model X.prog X.w) X.A (call (.ref f) us) (EP X pins σ Q) X.xe s := by
  have r2 := r.append hd
  have hl : (us ++ ds).length = ps.length := r2.length.symm.trans (F.size _ _ _ _ h)
  have go := F.goes X.A X.stack s H ⟨us, []⟩ _ _ Q E hr hgd I.env0 (hb s us I.kIn hl) r2 h
  refine wpAny_call (codeAny_mono go ?_)
  intro res s' hq
  match res, hq with
  | .error e, hq => exact hx pins σ H s e s' I hq
  | .ok (.ret u), hq => exact I.after hq
  | .ok .next, hq => exact False.elim hq
  | .ok .brk, hq => exact False.elim hq
  | .ok .cont, hq => exact False.elim hq
theorem pe_callG (F : FnG X.prog X.w X.K X.mg X.base CX k f fd ps sp) (hr : Room k X.A) (hgd : X.A.guards = some [])
    (hg : Gl X x) (hm : X.mg x = some (.ref f)) (hk : PySem.W.keepIn X.K (.ref f) = true)
    (hb : Binds X.K fd ps ds) (hd : Vals dvs ds) (hx : Passes CX X E) (ha : PA X (e :: es) t)
    (hdb : (x == ("__debug__" : Str)) = false := by decide)
    (he : starEach (e :: es) X.env = (false, eval e X.env) :: starEach es X.env := by rfl)
    (hpl : (backTo pos (starEach es X.env)).any (·.1) = false := by rfl) :
    PE X (.Call (.Name x p) (e :: es) [] pos) (tCall sp dvs E t) := by
  constructor
  intro pins s σ H Q I h
  refine wpAny_Call_Name_kw (ld_glob I hg hm ?_ hdb)
  refine PySem.W.callWith_K (h₀ := X.base) I.ok.mod.kin hk ?_ he hpl
  refine thn (ha.run pos pins s σ H _ I h) ?_
  rintro us s1 ⟨vs, H1, I1, r, q⟩
  exact ⟨I1.kIn, run_fng F hr hgd hb hd hx I1 r q⟩
end
/-! ### repr of a list or a tuple of plain data -/
def rRepr (K : PySem.W.Frag) : List V → Hp → VK → Prop := fun xs H Q =>
  ∃ (a : Addr) (d : PyData) (S : Str), xs = [.ref a] ∧ Dp K H (.ref a) d ∧ d.showable = true ∧ d.hasDict = false ∧
    d.depth ≤ 30 ∧ d.shown = S ∧ S.length ≤ sizeLine ∧ Q (.str S) H
theorem call_repr {X : Cx} {k : Nat} (hr : Room k X.A) (hgd : X.A.guards = some []) :
    CallR X (.builtin "repr") (rRepr X.K) := by
  intro pins s σ H xs us Q I r h
  obtain ⟨a, d, S, rfl, hd, hs, hn, hdep, rfl, hz, q⟩ := h
  obtain ⟨u, rfl, ru⟩ := vals1 r
  cases (show u = Value.ref a from ru)
  obtain ⟨as, rd⟩ := Dp.reads I d _ _ hd (show RelV (.ref a) (.ref a) from rfl)
  have hun := hr.un
  refine repr_of_reads' rd hs (fun z => ?_) hgd (by omega) (fun _ _ z => z) (fun h' u' tk hk => ?_) hz
  · rw [hn] at z
    cases z
  · exact ⟨.str d.shown, H, I.kept hk, ⟨_, rfl⟩, q⟩
/-! ### all(test for x in e), e a text, the test may name what the module holds -/
/-- the test of one sign, run in the expression's own frame; the module's names are to be had -/
def EltG (X : Cx) (scope : Scope) (x : Str) (elt : Expr) (pb : Nat → Bool) : Prop :=
  ∀ (cenv : Env) (A' : Around) (E' : Value → Shared → Prop) (c : Nat) (t : Tok) (s2 : Shared) (m2 : Str → Option Value),
    cenv.scope = scope → cenv.globals = mainGlobals → s2.heap.Ns mainGlobals X.mg → s2.heap.Ns cenv.locals m2 →
    m2 x = some (.str ⟨#[c]⟩ t) →
    wpAny (model X.prog X.w) A' (eval elt cenv) (fun y s3 => y = .bool (pb c) ∧ Keeps s2 s3) E' s2
/-- x in NAME, NAME a text of the module -/
theorem elt_in {X : Cx} {scope : Scope} {x g : Str} {z : Str} {tz : Tok} {p1 p2 p3 : Pos} (hk : scope.kind = .function)
    (hl : scope.names.lookup x = some .local) (hgl : scope.names.lookup g = some .globalImplicit) (hz : X.mg g = some (.str z tz))
    (hd : (x == ("__debug__" : Str)) = false := by decide) (hd2 : (g == ("__debug__" : Str)) = false := by decide) :
    EltG X scope x (.Compare (.Name x p1) [.In] [.Name g p2] p3) (fun c => decide (c ∈ z.cps.toList)) := by
  intro cenv A' E' c t s2 m2 hs hgb hmn hn hm
  have kd : cenv.scope.kind = .function := by rw [hs]; exact hk
  refine wpAny_Compare1 ?_
  refine wpAny_Name (wpAny_loadName_local kd (show cenv.scope.names.lookup x = some .local by rw [hs]; exact hl) hn hm ?_) hd
  refine Calls.Name_function_global kd (show cenv.scope.names.lookup g = some .globalImplicit by rw [hs]; exact hgl) ?_ hd2
  refine Calls.loadGlobal_global (by rw [hgb]; exact hmn) hz ?_
  refine PyProof.Rows.in_str ?_
  exact ⟨congrArg Value.bool (PySem.StrLaws.found_one z c), GxR.keeps_refl _⟩
/-- the expression's code object: found in the def's table, or laid there -/
theorem gen_code {prog : Program} {w : World} {A : Around} {E : Value → Shared → Prop} {env : Env} {gpos : Pos} {q : Str} {scope : Scope}
    {c P : Addr} {ps : Array Value} {s2 : Shared} {Q : Value → Shared → Prop} (hcode : env.code = .ref c) (cd : PySem.W.CodeHd s2.heap c P)
    (hP : s2.heap.get? P = some { cls := .none, data := .fields ps }) (ht : TriplesOk ps.toList)
    (h : ∀ (code : Value) (h3 : Heap) (tk : Nat) (ps' : Array Value), Heap.ExtBut P s2.heap h3 → s2.heap.objs.size ≤ h3.objs.size →
      h3.get? P = some { cls := .none, data := .fields ps' } → (∃ more, ps' = ps ++ more) → TriplesOk ps'.toList →
      Q code { s2 with heap := h3, toks := tk }) : wpAny (model prog w) A (genexprCode env gpos q scope) Q E s2 := by
  cases hf : codeAmong gpos ps.toList with
  | some cv =>
    exact wpAny_genexprCode_hit hcode (cd.code hP ht) hf (h cv s2.heap s2.toks ps (Heap.ExtBut.refl _ _) (Nat.le_refl _) hP ⟨#[], by simp⟩ ht)
  | none =>
    refine wpAny_genexprCodeX hcode (cd.code hP ht) (cd.tab hP) hf ?_
    intro c' h' tk hx hge hlt hco' _ htab' _
    obtain ⟨o1, vs, f1, tf, fl, tg, inF, tx, tt, op, _, _, _, _, _, _, _, _, _, htr, _⟩ := hco'
    exact h _ h' tk _ hx (Nat.le_trans hge (Nat.le_of_lt hlt)) htab'.2 ⟨_, rfl⟩ htr
section
variable {X : Cx} {pins : List (Addr × Obj)} {σ : L2.St} {H : Hp} {s : Shared}
theorem gen_made {c P : Addr} {elt iter : Expr} {x : Str} {px gpos : Pos} {scope : Scope} {pb : Nat → Bool} {te : TE} {k : Nat}
    {Q' : Value → Shared → Prop} {R : Str → Hp → Prop} (hr : Room k X.A) (TB : GxR.TabB X.base X.mg c P) (hcode : X.env.code = .ref c)
    (S : GxR.GenS X.env scope x) (hi : PE X iter te) (hel : EltG X scope x elt pb) (hs : ∀ v, genFold iter X.env v = pure v)
    (I : L2.Inv X pins σ H s) (h : te σ H fun v H1 => ∃ a : Str, v = .str a ∧ GxR.TabG H1 P ∧ R a H1)
    (hQ : ∀ a H1 g s5, R a H1 → GxR.Ready X pins σ H1 P a pb g s5 → Q' (.ref g) s5) :
    wpAny (model X.prog X.w) X.A (eval (.GeneratorExp elt [⟨.Name x px, iter, [], 0⟩] scope gpos) X.env) Q' X.xe s := by
  have hdp := hr.dp
  refine wpAny_GeneratorExp_walksQ hr.hd S.co (closure_ok S.free) S.cell S.dot S.loc S.kind (by omega) ?_ hs
  refine thn (hi.run pins s σ H _ I h) ?_
  rintro xv s1 ⟨v, H1, I1, r1, a, rfl, ⟨ps, hP, ht⟩, q1⟩
  obtain ⟨t, rfl⟩ := _root_.id r1
  refine wpAny_pyIter_str ?_
  intro o St W hst
  have hPs : s1.heap.get? P = some { cls := .none, data := .fields ps } := I1.hok P _ hP
  have hPlt := Heap.lt_size hPs
  have lim2 : (s1.heap.push o).NoLimit := I1.nolimit.push o
  refine ⟨lim2, ?_⟩
  refine gen_code (s2 := { s1 with heap := s1.heap.push o }) hcode (TB.code.keeps fun b u e => Heap.get?_push_of_some _ (I1.bk b u e)) (Heap.get?_push_of_some _ hPs) ht ?_
  intro code h3 tk ps' hx hsz hP3 hmore ht3
  have hcl : cStatics < s1.heap.objs.size := by
    obtain ⟨_, hns, _⟩ := I1.nolimit
    exact hns.lt
  have hcP : cStatics ≠ P := by
    intro e
    obtain ⟨_, ⟨o', es, ep, ho, hd, _⟩, _⟩ := I1.nolimit
    rw [e, hPs] at ho
    cases ho
    cases hd
  have sz2 : (s1.heap.push o).objs.size = s1.heap.objs.size + 1 := Heap.size_push ..
  have keep3 : ∀ b u, b ≠ P → s1.heap.get? b = some u → h3.get? b = some u :=
    fun b u hb e => hx b u hb (Heap.get?_push_of_some _ e)
  have hsz' : s1.heap.objs.size + 1 ≤ h3.objs.size := by
    rw [← sz2]
    exact hsz
  have ns3 : h3.Ns mainGlobals X.mg := ((I1.mod.glob.keeps I1.bk).push o).extBut hx TB.gP
  obtain ⟨bm, ob, e1, e2, e3, e4, e5, e6, e7, e8⟩ := TB.bm
  refine wpAny_builtinsFor (m := X.mg) (by rw [I1.ok.glob]; exact ns3) e1 e2 (keep3 _ _ e4 (I1.bk _ _ e5)) e6 e7 e8 ?_
  refine ⟨s1.heap.objs.size, [s1.heap.objs.size], [s1.heap.objs.size], a.cps.size, SignAt a, St, fun _ => true,
    fun i y => ∃ cc, a.cps[i]? = some cc ∧ y = .bool (pb cc), rfl, W, ?_, ?_, lim2.extBut hx hcP, ?_, ?_, ?_⟩
  · refine (W X.A hr.hd).frame _ _ _ hst ?_
    intro b hb u e
    have eb : b = s1.heap.objs.size := by simpa using hb
    refine hx b u ?_ e
    intro z
    rw [← z, eb] at hPlt
    exact Nat.lt_irrefl _ hPlt
  · intro b hb
    have eb : b = s1.heap.objs.size := by simpa using hb
    rw [eb]
    show s1.heap.objs.size < h3.objs.size
    omega
  · intro z
    have eb : cStatics = s1.heap.objs.size := by simpa using z
    rw [eb] at hcl
    exact Nat.lt_irrefl _ hcl
  · intro href hhref
    constructor
    · intro A' E' i v s2 m2 hA hPv hn hm hk
      simp only [List.forIn_nil]
      exact wpAny_pure ⟨rfl, GxR.keeps_refl _⟩
    · intro A' E' i v s2 m2 hA hPv hp hn hm hk
      obtain ⟨cc, u, hcc, rfl⟩ := hPv
      have nsM : s2.heap.Ns mainGlobals X.mg := by
        obtain ⟨om, es, ep, g1, g2⟩ := ns3
        have glt : mainGlobals < s1.heap.objs.size := by
          obtain ⟨o9, _, _, g9, _⟩ := I1.mod.glob.keeps I1.bk
          exact Heap.lt_size g9
        refine ⟨om, es, ep, hk mainGlobals ?_ ?_ om (hhref _ _ g1), g2⟩
        · refine List.mem_range.mpr ?_
          show mainGlobals < h3.objs.size
          exact Heap.lt_size g1
        · intro z
          have eb : mainGlobals = s1.heap.objs.size := by simpa using z
          rw [eb] at glt
          exact Nat.lt_irrefl _ glt
      exact wpAny_mono (hel _ A' E' cc u s2 m2 rfl I1.ok.glob nsM hn hm) (fun y s3 r => ⟨⟨cc, hcc, r.1⟩, r.2⟩) (fun _ _ e => e)
  · intro g h5 tk5 gs hgb hag hsz5 hk5 W5 hat
    simp only [GxR.passing_true, List.length_range] at W5
    refine hQ a H1 g _ q1 ⟨_, _, _, _, _, W5.in4_1, hat, ?_, ?_⟩
    · intro j y sj Qj Ej hy hQj
      obtain ⟨i, hij, cc, hcc, rfl⟩ := hy
      obtain ⟨hj, ej⟩ := List.getElem?_eq_some_iff.mp hij
      rw [List.getElem_range] at ej
      subst ej
      have e9 : a.cps.toList[j]? = some cc := by rw [Array.getElem?_toList]; exact hcc
      have hQ2 : Qj (GxR.trF pb a.cps.toList j) sj := hQj
      rw [GxR.trF_some e9] at hQ2
      exact wpAny_truthy_bool hQ2
    · intro s' hmv
      obtain ⟨more, em⟩ := hmore
      have nwr : ∀ b u, s1.heap.get? b = some u → b ∉ h3.objs.size :: [s1.heap.objs.size] := by
        intro b u e hb
        have hl := Heap.lt_size e
        rcases List.mem_cons.mp hb with z | z
        · rw [z] at hl
          have h9 : (h3.objs.size : Nat) < s1.heap.objs.size := hl
          omega
        · have eb : b = s1.heap.objs.size := by simpa using z
          rw [eb] at hl
          exact Nat.lt_irrefl _ hl
      have J := GxR.inv_tab (more := more) (h' := s'.heap) (g' := s'.gens) (d' := s'.drawn) (t' := s'.toks) I1 hP
        (fun b u hb e => hmv.heap b u (nwr b u e) (hk5 b u (keep3 b u hb e)))
        (by rw [← em]; exact hmv.heap P _ (nwr P _ hPs) (hk5 P _ hP3)) (AllBare.movedS (I1.bare.push hgb) hmv)
      rw [GxR.sh_eta s1 s' hmv.os] at J
      exact ⟨upd H1 P (.tbl (ps ++ more)), ⟨⟨ps ++ more, upd_same, by rw [← em]; exact ht3⟩, fun b hb => upd_ne hb⟩, J⟩
theorem pe_allG {c P : Addr} {elt iter : Expr} {x : Str} {px p pos gpos : Pos} {scope : Scope} {pb : Nat → Bool} {te : TE} {k : Nat}
    (hr : Room k X.A) (hg : Gl X "all") (hm : X.mg "all" = none) (TB : GxR.TabB X.base X.mg c P) (hcode : X.env.code = .ref c)
    (S : GxR.GenS X.env scope x) (hi : PE X iter te) (hel : EltG X scope x elt pb) (hs : ∀ v, genFold iter X.env v = pure v)
    (he : starEach [.GeneratorExp elt [⟨.Name x px, iter, [], 0⟩] scope gpos] X.env =
      (false, eval (.GeneratorExp elt [⟨.Name x px, iter, [], 0⟩] scope gpos) X.env) :: starEach [] X.env := by rfl) :
    PE X (.Call (.Name "all" p) [.GeneratorExp elt [⟨.Name x px, iter, [], 0⟩] scope gpos] [] pos) (GxR.tAllS P pb te) := by
  constructor
  intro pins s σ H Q I h
  refine wpAny_Call_Name_kw (ld_blt I hg hm (show bootBuiltins "all" = some (.builtin "all") by decide +kernel) ?_)
  refine PyProof.Rows.callWith_builtin1 ?_ he (by rfl)
  rw [he]
  refine Calls.spliced_cons (gen_made (R := fun a H1 => ∀ H2, GxR.Tabbed P H1 H2 → Q (.bl (a.cps.toList.all pb)) H2) hr TB hcode S hi hel hs I h ?_)
  intro a H1 g s5 hR hG
  obtain ⟨fp, wr, G, F, St, W, hst, htr, hI⟩ := hG
  refine Calls.spliced_nil (call_all_walkS (W.self 0 _ _ _ hst ⟨g, fp, wr, G, _, F, St, _, rfl, W, hst, htr, ?_⟩))
  intro s' hmv
  obtain ⟨H2, hT, J⟩ := hI s' hmv
  refine ⟨.bl _, H2, J, rfl, ?_⟩
  rw [GxR.all_signs a pb]
  exact hR H2 hT
end
end SfG
namespace SfG
open PySem PySem.Spec PyProof.Rows L2
/-! ### the law's end: tables of code objects, no repr under way -/
theorem noneIn (b : Addr) (l : List Addr) (h : l = []) : ¬ b ∈ l := by
  rw [h]
  simp
section
variable {P : Program} {w : World} {K : PySem.W.Frag} {mg mb : Str → Option Value} {CX : CXT} {k : Nat} {fa a : Addr}
  {cs : List (Addr × Addr)} {fd : FuncData} {x : Str} {sp : Sp} {s1 : Shared} {vs : List Value} {ns : List Int}
/-- what stands at s1: the module, its tables, the script -/
structure Stands (K : PySem.W.Frag) (mg mb : Str → Option Value) (cs : List (Addr × Addr)) (s1 : Shared) (a : Addr) (vs : List Value) : Prop where
  kin : K.In s1.heap
  glob : s1.heap.Ns mainGlobals mg
  blt : s1.heap.Ns builtinsNs mb
  bltv : ∀ y : Str, y ≠ "__name__" → mb y = bootBuiltins y
  lim : s1.heap.NoLimit
  gens : s1.gens = #[]
  tab : ∀ p ∈ cs, s1.heap.get? p.2 = some { cls := .none, data := .fields #[] }
  ntab : ∀ p ∈ cs, K.lookup p.2 = none
  code : ∀ p ∈ cs, PySem.W.CodeHd s1.heap p.1 p.2
  bmain : ∃ (bm : Addr) (ob : Obj), mg "__builtins__" = some (.ref bm) ∧ bm ≠ builtinsNs ∧ s1.heap.get? bm = some ob ∧
    ob.cls = .type "module" ∧ ob.dict = some builtinsNs ∧ ob.data = .plain
  scr : s1.heap.get? a = some { cls := .type "list", data := .seq vs.toArray }
/-- what is tracked there: the tables, and the script where the written part doesn't hold it -/
def Tracks (K : PySem.W.Frag) (cs : List (Addr × Addr)) (a : Addr) (H : Hp) : Prop :=
  ∀ b u, H b = some u → (b ∈ cs.map (·.2) ∧ u = .tbl #[]) ∨ (b = a ∧ K.lookup a = none ∧ ∃ o xs, u = .frz o (.lst xs))
theorem Stands.untracked {H : Hp} (S : Stands K mg mb cs s1 a vs) (T : Tracks K cs a H) {b : Addr} {o : Obj} (e : s1.heap.get? b = some o)
    (h1 : ∀ us n, o.data ≠ .seq us n) (h2 : o.data ≠ .fields #[]) : H b = none := by
  cases q : H b with
  | none => rfl
  | some u =>
    exfalso
    rcases T b u q with ⟨hb, _⟩ | ⟨hb, _⟩
    · obtain ⟨p, hp, ep⟩ := List.mem_map.mp hb
      have z := S.tab p hp
      rw [ep, e] at z
      cases z
      exact h2 rfl
    · have z := S.scr
      rw [← hb, e] at z
      cases z
      exact h1 _ _ rfl
theorem end_core {H : Hp} (S : Stands K mg mb cs s1 a vs) (T : Tracks K cs a H) (hH : ∀ p ∈ cs, H p.2 = some (.tbl #[]))
    (hok : HOk P w H s1.heap) (hr : Room k callerA)
    (F : ∀ base : Heap, K.In base → base.Ns mainGlobals mg → (∀ p ∈ cs, GxR.TabB base mg p.1 p.2) → FnG P w K mg base CX k fa fd [x] sp)
    (hbind : ∀ (s : Shared) (u : Value), BindsTo s fd ⟨[u], []⟩ [(x, u)])
    (hsp : sp [.ref a] H (fun v _ => v = .bl true) fun _ _ _ => False)
    (hCX : ∀ H e s', CX [] H s1 (fun _ _ _ => False) e s' → False) :
    codeAny (model P w) callerA (.call (.ref fa) ⟨[.ref a], []⟩)
      (fun r s' => r = .ok (.ret (.bool true)) ∧ OldK s1.heap s'.heap ∧ s'.os = s1.os ∧ AllBare s'.gens) s1 := by
  have low : ∀ {b : Addr} {o : Obj}, s1.heap.get? b = some o → H b = none → (hidT s1.heap H).get? b = some o := fun e n => hidT_get e n
  have lowNs : ∀ {b : Addr} {m : Str → Option Value}, s1.heap.Ns b m → (hidT s1.heap H).Ns b m := by
    rintro b m ⟨o, es, ep, e, d, r⟩
    refine ⟨o, es, ep, low e (S.untracked T e ?_ ?_), d, r⟩
    · intro us n z
      rw [d] at z
      cases z
    · intro z
      rw [d] at z
      cases z
  have lowK : K.In (hidT s1.heap H) := by
    intro b o e
    refine low (S.kin b o e) ?_
    cases q : H b with
    | none => rfl
    | some u =>
      exfalso
      rcases T b u q with ⟨hb, _⟩ | ⟨hb, hk, _⟩
      · obtain ⟨p, hp, ep⟩ := List.mem_map.mp hb
        rw [← ep, S.ntab p hp] at e
        cases e
      · rw [hb, hk] at e
        cases e
  have lowT : ∀ p ∈ cs, GxR.TabB (hidT s1.heap H) mg p.1 p.2 := by
    intro p hp
    have tp := S.tab p hp
    constructor
    · obtain ⟨o, us, file, tf, flags, tg, inF, text, tt, e1, r1, r2, r3, rest⟩ := S.code p hp
      refine ⟨o, us, file, tf, flags, tg, inF, text, tt, low e1 (S.untracked T e1 ?_ ?_), r1, r2, r3, rest⟩
      · intro us n z
        rw [r2] at z
        cases z
      · intro z
        rw [r2] at z
        cases z
        simp at r3
    · obtain ⟨bm, ob, b1, b2, b3, b4, b5, b6⟩ := S.bmain
      refine ⟨bm, ob, b1, b2, ?_, ?_, low b3 (S.untracked T b3 ?_ ?_), b4, b5, b6⟩
      · intro q
        obtain ⟨o, es, ep, e, hd, _⟩ := S.glob
        rw [q, e] at b3
        cases b3
        rw [hd] at b6
        cases b6
      · intro q
        rw [q, tp] at b3
        cases b3
        cases b6
      · intro us n z
        rw [b6] at z
        cases z
      · intro z
        rw [b6] at z
        cases z
    · intro z
      obtain ⟨o, es, ep, e, hd, _⟩ := S.glob
      rw [z, tp] at e
      cases e
      cases hd
  have md : L2.Mod K mg (hidT s1.heap H) := by
    refine ⟨lowK, lowNs S.glob, ⟨mb, lowNs S.blt, S.bltv⟩, ?_⟩
    obtain ⟨mc, h1, h2⟩ := S.lim
    exact ⟨mc, lowNs h1, h2⟩
  have e0 : Env0 P w K mg (hidT s1.heap H) callerA [] s1 H :=
    ⟨rfl, md, fun b o e => of_hidT e, Nat.le_of_eq (hidT_size _ _), trivial, fun b hb => absurd hb (noneIn b _ rfl), hok, .of_eq S.gens⟩
  have go := (F _ lowK (lowNs S.glob) lowT).goes callerA [] s1 H ⟨[.ref a], []⟩ [.ref a] [.ref a] _ _ hr rfl e0 (hbind s1 (.ref a)) (.cons rfl .nil) hsp
  refine codeAny_mono go ?_
  intro res s' h
  match res, h with
  | .error e, h => exact (hCX H e s' h).elim
  | .ok .next, h => exact False.elim h
  | .ok .brk, h => exact False.elim h
  | .ok .cont, h => exact False.elim h
  | .ok (.ret u), h =>
    obtain ⟨v, H', os, bare, un, hok', r', q⟩ := h
    cases (show v = .bl true from q)
    cases (show u = Value.bool true from r')
    have stay : ∀ b o, b ∉ cs.map (·.2) → s1.heap.get? b = some o → s'.heap.get? b = some o := by
      intro b o nb e
      cases q : H b with
      | none => exact un.keep b o e q (noneIn b _ rfl) (by simp)
      | some u =>
        rcases T b u q with ⟨hb, _⟩ | ⟨_, _, ob, xs, z⟩
        · exact absurd hb nb
        · rw [z] at q
          obtain ⟨g1, _⟩ := hok b _ q
          obtain ⟨g2, _⟩ := hok' b _ (un.frzs b ob _ q)
          rw [e] at g1
          cases g1
          exact g2
    have tabs : ∀ p ∈ cs, ∃ more : Array Value, s'.heap.get? p.2 = some { cls := .none, data := .fields more } := by
      intro p hp
      obtain ⟨more, z⟩ := un.tbls p.2 #[] (hH p hp)
      exact ⟨_, hok' p.2 _ z⟩
    refine ⟨rfl, ⟨fun b o e => ?_, fun b o e => ?_⟩, os, bare⟩
    · by_cases hb : b ∈ cs.map (·.2)
      · obtain ⟨p, hp, ep⟩ := List.mem_map.mp hb
        subst ep
        obtain ⟨more, hm⟩ := tabs p hp
        rw [S.tab p hp] at e
        cases e
        refine .inr (.inl ⟨((S.code p hp).tab (S.tab p hp)).isCodeTable, rfl, #[], more, rfl, ?_⟩)
        rw [Array.empty_append]
        exact hm
      · exact .inl (stay b o hb e)
    · by_cases hb : b ∈ cs.map (·.2)
      · obtain ⟨p, hp, ep⟩ := List.mem_map.mp hb
        subst ep
        obtain ⟨more, hm⟩ := tabs p hp
        exact ⟨_, hm⟩
      · exact ⟨o, stay b o hb e⟩
/-- the abstract heap at the start -/
def hp0 (cs : List (Addr × Addr)) (sc : Option HO) (a : Addr) : Hp := fun b => if b ∈ cs.map (·.2) then some (.tbl #[]) else if b = a then sc else none
theorem end_call (S : Stands K mg mb cs s1 a vs) (hi : IntsAre vs ns) (hl : ns.length ≤ sizeLine) (hr : Room k callerA)
    (F : ∀ base : Heap, K.In base → base.Ns mainGlobals mg → (∀ p ∈ cs, GxR.TabB base mg p.1 p.2) → FnG P w K mg base CX k fa fd [x] sp)
    (hbind : ∀ (s : Shared) (u : Value), BindsTo s fd ⟨[u], []⟩ [(x, u)])
    (hsp : ∀ H : Hp, (∀ p ∈ cs, H p.2 = some (.tbl #[])) → SqL K H a (ns.map V.int) → sp [.ref a] H (fun v _ => v = .bl true) fun _ _ _ => False)
    (hCX : ∀ H e s', CX [] H s1 (fun _ _ _ => False) e s' → False) :
    codeAny (model P w) callerA (.call (.ref fa) ⟨[.ref a], []⟩)
      (fun r s' => r = .ok (.ret (.bool true)) ∧ OldK s1.heap s'.heap ∧ s'.os = s1.os ∧ AllBare s'.gens) s1 := by
  have rv := vals_ints hi
  have hH : ∀ sc, ∀ p ∈ cs, hp0 cs sc a p.2 = some (.tbl #[]) := fun sc p hp => if_pos (List.mem_map.mpr ⟨p, hp, rfl⟩)
  have na : a ∉ cs.map (·.2) := by
    intro z
    obtain ⟨p, hp, ep⟩ := List.mem_map.mp z
    have q := S.tab p hp
    rw [ep, S.scr] at q
    cases congrArg Obj.data (Option.some.inj q)
  have at_a : ∀ sc, hp0 cs sc a a = sc := fun sc => by
    unfold hp0
    rw [if_neg na, if_pos rfl]
  have cases_of : ∀ sc b u, hp0 cs sc a b = some u → (b ∈ cs.map (·.2) ∧ u = .tbl #[]) ∨ (b = a ∧ sc = some u) := by
    intro sc b u h
    unfold hp0 at h
    by_cases h1 : b ∈ cs.map (·.2)
    · rw [if_pos h1] at h
      exact .inl ⟨h1, (Option.some.inj h).symm⟩
    · rw [if_neg h1] at h
      by_cases h2 : b = a
      · rw [if_pos h2] at h
        exact .inr ⟨h2, h⟩
      · rw [if_neg h2] at h
        cases h
  have tabOk : ∀ (H : Hp) b, b ∈ cs.map (·.2) → ObjOk P w H s1.heap b (.tbl #[]) := by
    intro H b hb
    obtain ⟨p, hp, ep⟩ := List.mem_map.mp hb
    rw [← ep]
    exact S.tab p hp
  cases hk : K.lookup a with
  | some o =>
    have e := S.kin a o hk
    rw [S.scr] at e
    cases e
    refine end_core (H := hp0 cs none a) S ?_ (hH none) ?_ hr F hbind (hsp _ (hH none) (.inr ⟨_, vs.toArray, _, hk, rfl, rfl, rfl, ?_, ?_⟩)) hCX
    · intro b u h
      rcases cases_of none b u h with h | ⟨_, h⟩
      · exact .inl h
      · cases h
    · intro b u h
      rcases cases_of none b u h with ⟨h1, rfl⟩ | ⟨_, h⟩
      · exact tabOk _ b h1
      · cases h
    · rw [List.size_toArray, hi.length]
      exact hl
    · simpa using rv
  | none =>
    refine end_core (H := hp0 cs (some (.frz { cls := .type "list", data := .seq vs.toArray } (.lst (ns.map V.int)))) a) S ?_ (hH _) ?_ hr F hbind
      (hsp _ (hH _) (.inl (.inr ⟨{ cls := .type "list", data := .seq vs.toArray }, at_a _⟩))) hCX
    · intro b u h
      rcases cases_of _ b u h with h | ⟨h1, h2⟩
      · exact .inl h
      · exact .inr ⟨h1, hk, _, _, (Option.some.inj h2).symm⟩
    · intro b u h
      rcases cases_of _ b u h with ⟨h1, rfl⟩ | ⟨rfl, h2⟩
      · exact tabOk _ b h1
      · cases h2
        refine ⟨S.scr, ?_, vs, _, rv, S.scr⟩
        rw [List.length_map]
        exact hl
end
end SfG
namespace SfG
open PySem PySem.Spec PyProof.Rows L2
/-! ### a def whose code object is known -/
structure FunC (K : PySem.W.Frag) (x qual : Str) (st : Stmt) (f : Addr) (fd : FuncData) (c : Addr) : Prop where
  ex : ∃ (oc : Value) (od : Option Addr) (kV doc pm : Value) (an : Option Addr) (ct : Value) (osl : Array (Option Value)),
    fd = PySem.W.fnOf x qual (defArgs st) (defBody st) (defScope st) .none kV doc pm an (.ref c) ct ∧
      K.lookup f = some ⟨oc, od, .func fd, osl⟩ ∧ PySem.W.codeIn K (.ref c) qual = true
  kp : PySem.W.keepIn K (.ref f) = true
theorem FunC.fn {K : PySem.W.Frag} {x qual : Str} {st : Stmt} {f c : Addr} {fd : FuncData} (F : FunC K x qual st f fd c) : Fun K x qual st f fd := by
  obtain ⟨oc, od, kV, doc, pm, an, ct, osl, h1, h2, h3⟩ := F.ex
  exact ⟨⟨oc, od, kV, doc, pm, an, .ref c, ct, osl, h1, h2, h3⟩, F.kp⟩
section
variable {P : Program} {w : World} {K : PySem.W.Frag} {mg : Str → Option Value} {base : Heap}
theorem FunC.ok {x qual : Str} {st : Stmt} {f c : Addr} {fd : FuncData} {N ps : List Str} {k : Nat} {sp : Sp}
    (F : FunC K x qual st f fd c) (S : FnScope N ps (defScope st)) (len : ∀ vs H Q E, sp vs H Q E → vs.length = ps.length)
    (hbody : ∀ (A : Around) (outer : List Env) (s : Shared) (H : Hp) (vs : List V) (Q : VK) (E : XK),
      Room k (A.deeper (envOfC qual (defScope st) s.heap.objs.size f (.ref c))) → sp vs H Q E →
      ∃ t, PSs (cxOf CX0 P w K mg base N qual (defScope st) f (.ref c) A outer s H E).nox (defBody st) t ∧
        t { nx := fun _ H' => Q .non H', rt := Q } (start N vs) H) : FnOk P w K mg base CX0 (k + 1) f fd ps sp := by
  obtain ⟨oc, od, kV, doc, pm, an, ct, osl, rfl, lk, hcd⟩ := F.ex
  refine fn_of lk hcd S len ?_
  intro A outer s H vs Q E hr hsp
  obtain ⟨t, h, q⟩ := hbody A outer s H vs Q E hr hsp
  exact ⟨t, h.nox, q⟩
end
/-! ### heaps that grow: what stood stands, tables of code objects may be longer -/
structure Gr (H H' : Hp) : Prop where
  keep : ∀ b o, H b = some o → (∀ ps, o ≠ .tbl ps) → H' b = some o
  tab : ∀ P, GxR.TabG H P → GxR.TabG H' P
  back : ∀ l, H' l = none → H l = none
theorem Gr.refl (H : Hp) : Gr H H := ⟨fun _ _ h _ => h, fun _ h => h, fun _ h => h⟩
theorem Gr.trans {H H1 H2 : Hp} (a : Gr H H1) (b : Gr H1 H2) : Gr H H2 :=
  ⟨fun c o h n => b.keep c o (a.keep c o h n) n, fun P h => b.tab P (a.tab P h), fun l h => a.back l (b.back l h)⟩
theorem Gr.same {H H' : Hp} (e : Same H H') : Gr H H' := by
  refine ⟨fun b o h _ => e b o h, ?_, fun l h => e.free h⟩
  rintro P ⟨ps, h1, h2⟩
  exact ⟨ps, e P _ h1, h2⟩
theorem Gr.new {H : Hp} {p : Addr} {o : HO} (h : H p = none) : Gr H (upd H p o) := by
  refine Gr.same ?_
  intro b x e
  rw [upd_ne (ne_of_none e h)]
  exact e
theorem Gr.tabbed {P : Addr} {H H' : Hp} (t : GxR.TabG H P) (e : GxR.Tabbed P H H') : Gr H H' := by
  refine ⟨?_, ?_, ?_⟩
  · intro b o h n
    refine (e.2 b ?_).trans h
    intro z
    obtain ⟨ps, h1, _⟩ := t
    rw [z, h1] at h
    exact n ps (Option.some.inj h).symm
  · intro P' t'
    by_cases z : P' = P
    · rw [z]
      exact e.1
    · obtain ⟨ps, h1, h2⟩ := t'
      exact ⟨ps, (e.2 P' z).trans h1, h2⟩
  · intro l h
    by_cases z : l = P
    · obtain ⟨ps, h1, _⟩ := e.1
      rw [z, h1] at h
      cases h
    · rw [← e.2 l z]
      exact h
/-- a list that is changed in the heap: all else stays -/
theorem Gr.lst {H H' : Hp} (g : Gr H H') {b : Addr} {xs : List V} (h : H b = some (.lst xs)) : H' b = some (.lst xs) := g.keep b _ h (fun _ z => (by cases z))
theorem Gr.tup {H H' : Hp} (g : Gr H H') {b : Addr} {xs : List V} (h : H b = some (.tup xs)) : H' b = some (.tup xs) := g.keep b _ h (fun _ z => (by cases z))
theorem Gr.dic {H H' : Hp} (g : Gr H H') {b : Addr} {kvs : List (Key × V)} (h : H b = some (.dK kvs)) : H' b = some (.dK kvs) := g.keep b _ h (fun _ z => (by cases z))
theorem Gr.seq {K : PySem.W.Frag} {H H' : Hp} {a : Addr} {xs : List V} (e : Gr H H') (h : SqL K H a xs) : SqL K H' a xs := by
  rcases h with (h | ⟨o, h⟩) | h
  · exact .inl (.inl (e.lst h))
  · exact .inl (.inr ⟨o, e.keep _ _ h (fun _ z => (by cases z))⟩)
  · exact .inr h
/-! ### kinds of things -/
def kinds : List String := ["NoneType", "bool", "int", "str", "list", "tuple", "dict"]
theorem kit_int : ∀ T ∈ kinds, kitB T "int" = some (T == "int" || T == "bool") := by decide +kernel
theorem kit_bool : ∀ T ∈ kinds, kitB T "bool" = some (T == "bool") := by decide +kernel
theorem kit_str : ∀ T ∈ kinds, kitB T "str" = some (T == "str") := by decide +kernel
/-- x is a thing of the built-in type T -/
def Is (K : PySem.W.Frag) (H : Hp) (x : V) (T : String) : Prop := TyX K H x (.type T) ∧ T ∈ kinds
theorem tyx_is {K : PySem.W.Frag} {H : Hp} {x : V} {t : Value} {T : String} (h : TyX K H x t) (e : t = .type T) :
    (T = "int" → ∃ i, x = .int i) ∧ (T = "str" → ∃ z, x = .str z) ∧ (∀ i, x = .int i → T = "int") ∧ (∀ z, x = .str z → T = "str") := by
  cases h with
  | base b =>
    cases b with
    | int i => cases e; exact ⟨fun _ => ⟨i, rfl⟩, fun z => absurd z (by decide), fun _ _ => rfl, fun _ z => (by cases z)⟩
    | str i => cases e; exact ⟨fun z => absurd z (by decide), fun _ => ⟨i, rfl⟩, fun _ z => (by cases z), fun _ _ => rfl⟩
    | ins => cases e
    | _ => cases e; exact ⟨fun z => absurd z (by decide), fun z => absurd z (by decide), fun _ z => (by cases z), fun _ z => (by cases z)⟩
  | _ => cases e; exact ⟨fun z => absurd z (by decide), fun z => absurd z (by decide), fun _ z => (by cases z), fun _ z => (by cases z)⟩
section
variable {K : PySem.W.Frag} {H : Hp} {x : V} {T : String}
theorem Is.whole (h : Is K H x T) (e : T = "int") : ∃ i, x = .int i := (tyx_is h.1 rfl).1 e
theorem Is.text (h : Is K H x T) (e : T = "str") : ∃ z, x = .str z := (tyx_is h.1 rfl).2.1 e
theorem Is.nint (h : Is K H x T) (e : T ≠ "int") : ∀ i, x ≠ .int i := fun i z => e ((tyx_is h.1 rfl).2.2.1 i z)
theorem Is.ntext (h : Is K H x T) (e : T ≠ "str") : ∀ z, x ≠ .str z := fun i z => e ((tyx_is h.1 rfl).2.2.2 i z)
end
theorem is_int {K : PySem.W.Frag} {H : Hp} (i : Int) : Is K H (.int i) "int" := ⟨.base (.int i), by decide⟩
theorem is_str {K : PySem.W.Frag} {H : Hp} (z : Str) : Is K H (.str z) "str" := ⟨.base (.str z), by decide⟩
theorem is_bl {K : PySem.W.Frag} {H : Hp} (b : Bool) : Is K H (.bl b) "bool" := ⟨.base (.bl b), by decide⟩
theorem is_non {K : PySem.W.Frag} {H : Hp} : Is K H .non "NoneType" := ⟨.base .non, by decide⟩
/-! ### isinstance(x, T), x a name, T a built-in class -/
def tIsi (T : String) (K : PySem.W.Frag) (i : Nat) : TE := fun σ H Q => ∃ v, σ[i]? = some (some v) ∧ ∃ (T' : String) (b : Bool), TyX K H v (.type T') ∧ kitB T' T = some b ∧ Q (.bl b) H
theorem pe_isi {X : Cx} {x nm : Str} {p p1 p2 pos : Pos} (T : String) (i : Nat) (mi : X.mg "isinstance" = none) (mT : X.mg nm = none)
    (hv : bootBuiltins nm = some (.type T)) (hN : X.N[i]? = some x := by rfl) (hvis : Vis X.env.scope x := by first | exact Or.inl rfl | exact Or.inr (Or.inl rfl) | exact Or.inr (Or.inr rfl))
    (hg : Gl X "isinstance" := by rfl) (hgT : Gl X nm := by rfl) (hxd : (x == ("__debug__" : Str)) = false := by decide) (hxc : (x == ("__classdict__" : Str)) = false := by decide)
    (hn : nm ≠ "__name__" := by decide) (hd : (nm == ("__debug__" : Str)) = false := by decide) :
    PE X (.Call (.Name "isinstance" p) [.Name x p1, .Name nm p2] [] pos) (tIsi T X.K i) := by
  have h := pe_callB (p := p) (pos := pos) call_isi hg mi (show bootBuiltins "isinstance" = some (.builtin "isinstance") by decide +kernel)
    (pa_cons (pe_var (pos := p1) hN hvis hxd hxc) (pa_cons (pe_bltn (v := .ty T) (pos := p2) hgT mT hv rfl hn hd) pa_nil))
  constructor
  intro pins s σ H Q I hq
  refine h.run pins s σ H Q I ?_
  obtain ⟨v, hs, T', b, h1, h2, h3⟩ := hq
  exact ⟨v, hs, v, .ty T, .type T', .type T, b, rfl, .ty T, h1, kit_ty h2, h3⟩
end SfG
namespace SfG
open PySem PySem.Spec PyProof.Rows L2
/-! ### the end of a law whose defs have tables -/
/-- the top's defs and their tables, still empty -/
def TabsOf (q : Program) (mg : Str → Option Value) (h : Heap) : Prop := ∀ d ∈ recsOf q, ∃ a o fd c P,
  mg d.name = some (.ref a) ∧ h.get? a = some o ∧ o.data = .func fd ∧ fd.code = .ref c ∧ h.IsCode c P #[] ∧ h.TableAt c P #[]
theorem tab_of {q : Program} {mg : Str → Option Value} {h : Heap} {K : PySem.W.Frag} {nm x qual : Str} {st : Stmt} {f c P : Addr} {fd : FuncData}
    {e : Value} {dd : Option Addr} {vs : Array Value} {sl : Array (Option Value)} (T : TabsOf q mg h) (hrec : ((recsOf q).any fun d => d.name == nm) = true)
    (g : mg nm = some (.ref f)) (KX : K.In h) (F : FunC K x qual st f fd c) (kc : K.lookup c = some ⟨e, dd, .fields vs, sl⟩) (kp : vs[11]? = some (.ref P)) :
    h.get? P = some { cls := .none, data := .fields #[] } ∧ PySem.W.CodeHd h c P := by
  obtain ⟨d, hm, hn⟩ := List.any_eq_true.mp hrec
  have hn2 : d.name = nm := beq_iff_eq.mp hn
  obtain ⟨a, o, fd', c', P', h1, h2, h3, h4, h5, h6⟩ := T d hm
  rw [hn2, g] at h1
  cases h1
  obtain ⟨oc, od, kV, doc, pm, an, ct, osl, rfl, lk, hcd⟩ := F.ex
  rw [KX _ _ lk] at h2
  cases h2
  cases h3
  have ec : c = c' := by
    have z : Value.ref c = Value.ref c' := h4
    cases z
    rfl
  subst ec
  obtain ⟨⟨o1, v1, a1, a2, a3, a4⟩, hP⟩ := h6
  have ek := KX _ _ kc
  rw [ek] at a1
  cases a1
  cases a3
  rw [kp] at a4
  cases a4
  obtain ⟨o2, v2, file, tf, flags, tg, inF, text, tt, op, b1, b2, b3, b4, b5, b6, b7, b8, b9, b10, b11⟩ := h5
  rw [ek] at b1
  cases b1
  cases b2
  exact ⟨hP, _, _, file, tf, flags, tg, inF, text, tt, ek, a2, rfl, kp, b3, b4, b5, b6, b7, b11⟩
/-- what is known of the law's promise at the head's heap h -/
def LawG (l : PySem.W.OpenLaw) (w : World) (K : PySem.W.Frag) (CX : CXT) (k n : Nat) (x : Str) (mg : Str → Option Value) (fa : Addr) (h : Heap) : Prop :=
  ∃ (fd : FuncData) (cs : List (Addr × Addr)) (sp : Sp), (∀ p ∈ cs, h.get? p.2 = some { cls := .none, data := .fields #[] }) ∧ (∀ p ∈ cs, K.lookup p.2 = none) ∧
    (∀ p ∈ cs, PySem.W.CodeHd h p.1 p.2) ∧ (∀ (s : Shared) (u : Value), BindsTo s fd ⟨[u], []⟩ [(x, u)]) ∧
    (∀ (H : Hp) (a : Addr) (ns : List Int), ns.length ≤ n → (∀ p ∈ cs, H p.2 = some (.tbl #[])) → SqL K H a (ns.map V.int) → sp [.ref a] H (fun v _ => v = .bl true) fun _ _ _ => False) ∧
    ∀ base : Heap, K.In base → base.Ns mainGlobals mg → (∀ p ∈ cs, GxR.TabB base mg p.1 p.2) → FnG l.prog w K mg base CX k fa fd [x] sp
theorem walk_G {l : PySem.W.OpenLaw} {n k : Nat} {q : Program} {loose : List Str} {XP : (Str → Option Value) → Heap → Prop} {YP : World → Heap → Prop} {d : DefRec}
    {K : Params → PySem.W.Frag} {CX : World → CXT} {x : Str} (hn : l.most = some n) (hn2 : n ≤ sizeLine) (hdf : d.params.defaults = []) (hr : Room k callerA)
    (hY : ∀ (w : World) (h : Heap), YP w h → (K w.params).In h)
    (F : ∀ (w : World) (mg : Str → Option Value) (fa : Addr) (h : Heap), (K w.params).In h → h.Ns mainGlobals mg → mg d.name = some (.ref fa) → TabsOf q mg h →
      LawG l w (K w.params) (CX w) k n x mg fa h)
    (hCX : ∀ (w : World) (H : Hp) (s : Shared) (e : Value) (s' : Shared), CX w [] H s (fun _ _ _ => False) e s' → False) :
    PySem.W.WalkO q loose XP YP l.row.toRowW d [] (fun f vs => PySem.call f vs) := by
  refine Att.attach_callB hn hdf ?_
  intro w s0 s1 mg mb fa o pm cd doc a vs ns G Y ho hd hcd hmg hobj hints hlen hbits hg
  have KX := hY w _ Y
  obtain ⟨fd, cs, sp, hT, nT, C, hb, hsp, hF⟩ := F w mg fa _ KX G.T.g hmg G.T.tab
  have S : Stands (K w.params) mg mb cs s1 a vs := ⟨KX, G.T.g, G.T.b, G.T.builtins, G.T.nolimit, hg, hT, nT, C, G.T.bmain, hobj⟩
  exact end_call S hints (Nat.le_trans hlen hn2) hr hF hb (fun H hH hS => hsp H a ns hlen hH hS) fun H e s' => hCX w H s1 e s'
end SfG
namespace SfG
open PySem PySem.Spec PyProof.Rows L2
/-- all but p as it was -/
def But (p : Addr) (H H' : Hp) : Prop := ∀ b, b ≠ p → H' b = H b
theorem But.upd {p : Addr} {H H' : Hp} {o : HO} (h : But p H H') : But p H (upd H' p o) := fun b n => (upd_ne n).trans (h b n)
theorem Gr.upd_new {H0 H : Hp} {p : Addr} {o : HO} (g : Gr H0 H) (h : H0 p = none) : Gr H0 (upd H p o) := by
  refine ⟨?_, ?_, ?_⟩
  · intro b u e n
    rw [upd_ne (ne_of_none e h)]
    exact g.keep b u e n
  · intro P t
    have np : P ≠ p := by
      obtain ⟨ps, h1, _⟩ := t
      exact ne_of_none h1 h
    obtain ⟨ps, h1, h2⟩ := g.tab P t
    exact ⟨ps, (upd_ne np).trans h1, h2⟩
  · intro l e
    by_cases z : l = p
    · rw [z]
      exact h
    · rw [upd_ne z] at e
      exact g.back l e
/-! ### heaps in a turn: the draw's state at p is changed, all else grows -/
structure Gp (p : Addr) (H H' : Hp) : Prop where
  keep : ∀ b o, b ≠ p → H b = some o → (∀ ps, o ≠ .tbl ps) → H' b = some o
  tab : ∀ P, P ≠ p → GxR.TabG H P → GxR.TabG H' P
  back : ∀ l, l ≠ p → H' l = none → H l = none
theorem Gp.refl (p : Addr) (H : Hp) : Gp p H H := ⟨fun _ _ _ h _ => h, fun _ _ h => h, fun _ _ h => h⟩
theorem Gp.gr {p : Addr} {H H' : Hp} (g : Gr H H') : Gp p H H' := ⟨fun b o _ => g.keep b o, fun P _ => g.tab P, fun l _ => g.back l⟩
theorem Gp.but {p : Addr} {H H' : Hp} (g : But p H H') : Gp p H H' := by
  refine ⟨fun b o n h _ => (g b n).trans h, ?_, fun l n h => (g l n).symm.trans h⟩
  rintro P n ⟨ps, h1, h2⟩
  exact ⟨ps, (g P n).trans h1, h2⟩
theorem Gp.trans {p : Addr} {H H1 H2 : Hp} (a : Gp p H H1) (b : Gp p H1 H2) : Gp p H H2 :=
  ⟨fun c o n h t => b.keep c o n (a.keep c o n h t) t, fun P n h => b.tab P n (a.tab P n h), fun l n h => a.back l n (b.back l n h)⟩
/-- what was there ahead of p grows -/
theorem Gp.out {p : Addr} {H0 H H' : Hp} (g : Gr H0 H) (h : H0 p = none) (a : Gp p H H') : Gr H0 H' := by
  refine ⟨?_, ?_, ?_⟩
  · intro b o e t
    exact a.keep b o (ne_of_none e h) (g.keep b o e t) t
  · intro P t
    have n : P ≠ p := by
      obtain ⟨ps, h1, _⟩ := t
      exact ne_of_none h1 h
    exact a.tab P n (g.tab P t)
  · intro l e
    by_cases z : l = p
    · rw [z]
      exact h
    · exact g.back l (a.back l z e)
theorem Gp.lst {p : Addr} {H H' : Hp} (g : Gp p H H') {b : Addr} {xs : List V} (n : b ≠ p) (h : H b = some (.lst xs)) : H' b = some (.lst xs) := g.keep b _ n h (fun _ z => by cases z)
theorem Gp.upd_new {p q : Addr} {H0 H : Hp} {o : HO} (g : Gp p H0 H) (h : H0 q = none) : Gp p H0 (upd H q o) := by
  refine ⟨?_, ?_, ?_⟩
  · intro b u nb e n
    rw [upd_ne (ne_of_none e h)]
    exact g.keep b u nb e n
  · intro P nP t
    have np : P ≠ q := by
      obtain ⟨ps, h1, _⟩ := t
      exact ne_of_none h1 h
    obtain ⟨ps, h1, h2⟩ := g.tab P nP t
    exact ⟨ps, (upd_ne np).trans h1, h2⟩
  · intro l nl e
    by_cases z : l = q
    · rw [z]
      exact h
    · rw [upd_ne z] at e
      exact g.back l nl e
/-- a def that is called: where it stands, how it is bound, what it promises -/
structure Has (P : Program) (w : World) (K : PySem.W.Frag) (mg : Str → Option Value) (base : Heap) (k : Nat) (x : Str) (ps : List Str) (sp : Sp) (f : Addr) (fd : FuncData) : Prop where
  ok : FnOk P w K mg base CX0 k f fd ps sp
  at_ : mg x = some (.ref f)
  kp : PySem.W.keepIn K (.ref f) = true
  bd : Binds K fd ps []
theorem hcall {X : Cx} {k : Nat} {x : Str} {ps : List Str} {sp : Sp} {f : Addr} {fd : FuncData} {e : Expr} {es : List Expr} {t : TA} {p pos : Pos} (h : Has X.prog X.w X.K X.mg X.base k x ps sp f fd) (hr : Room k X.A) (ha : PA X (e :: es) t)
    (hg : Gl X x := by rfl) (hdb : (x == ("__debug__" : Str)) = false := by decide) (he : starEach (e :: es) X.env = (false, eval e X.env) :: starEach es X.env := by rfl)
    (hpl : (backTo pos (starEach es X.env)).any (·.1) = false := by rfl) : PE X (.Call (.Name x p) (e :: es) [] pos) (tCall sp [] E0 t) :=
  pe_call h.ok hr hg h.at_ h.kp h.bd .nil pass0 ha hdb he hpl
/-! ### data that stays -/
theorem Gr.sqt {K : PySem.W.Frag} {H H' : Hp} {a : Addr} {xs : List V} (e : Gr H H') (h : SqT K H a xs) : SqT K H' a xs := by
  rcases h with (h | ⟨o, h⟩) | h
  · exact .inl (.inl (e.tup h))
  · exact .inl (.inr ⟨o, e.keep _ _ h (fun _ z => by cases z)⟩)
  · exact .inr h
theorem Gp.sqt {K : PySem.W.Frag} {p : Addr} {H H' : Hp} {a : Addr} {xs : List V} {kv : List (Key × V)} (e : Gp p H H') (hp : H p = some (.dK kv)) (h : SqT K H a xs) : SqT K H' a xs := by
  rcases h with (h | ⟨o, h⟩) | h
  · refine .inl (.inl (e.keep a _ (fun z => ?_) h (fun _ z => by cases z)))
    rw [z, hp] at h
    cases h
  · refine .inl (.inr ⟨o, e.keep a _ (fun z => ?_) h (fun _ z => by cases z)⟩)
    rw [z, hp] at h
    cases h
  · exact .inr h
theorem Gp.sql {K : PySem.W.Frag} {p : Addr} {H H' : Hp} {a : Addr} {xs : List V} {kv : List (Key × V)} (e : Gp p H H') (hp : H p = some (.dK kv)) (h : SqL K H a xs) : SqL K H' a xs := by
  rcases h with (h | ⟨o, h⟩) | h
  · refine .inl (.inl (e.keep a _ (fun z => ?_) h (fun _ z => by cases z)))
    rw [z, hp] at h
    cases h
  · refine .inl (.inr ⟨o, e.keep a _ (fun z => ?_) h (fun _ z => by cases z)⟩)
    rw [z, hp] at h
    cases h
  · exact .inr h
/-- what keeps all lists and tuples keeps data -/
structure Kd (K : PySem.W.Frag) (H H' : Hp) : Prop where
  l : ∀ {a xs}, SqL K H a xs → SqL K H' a xs
  t : ∀ {a xs}, SqT K H a xs → SqT K H' a xs
theorem Gr.kd {K : PySem.W.Frag} {H H' : Hp} (g : Gr H H') : Kd K H H' := ⟨fun h => g.seq h, fun h => g.sqt h⟩
theorem Gp.kd {K : PySem.W.Frag} {p : Addr} {H H' : Hp} {kv : List (Key × V)} (g : Gp p H H') (hp : H p = some (.dK kv)) : Kd K H H' := ⟨fun h => g.sql hp h, fun h => g.sqt hp h⟩
mutual
theorem Kd.dp {K : PySem.W.Frag} {H H' : Hp} (g : Kd K H H') : ∀ {d : PyData} {v : V}, Dp K H v d → Dp K H' v d
  | _, _, .non => .non
  | _, _, .bl b => .bl b
  | _, _, .int i => .int i
  | _, _, .str x => .str x
  | _, _, .lst h hs => .lst (g.l h) (g.dpA hs)
  | _, _, .tup h hs => .tup (g.t h) (g.dpA hs)
theorem Kd.dpA {K : PySem.W.Frag} {H H' : Hp} (g : Kd K H H') : ∀ {ds : List PyData} {vs : List V}, DpAll K H vs ds → DpAll K H' vs ds
  | _, _, .nil => .nil
  | _, _, .cons h hs => .cons (g.dp h) (g.dpA hs)
end
section
variable {K : PySem.W.Frag} {H : Hp} {v : V}
theorem dp_str {z : Str} (h : Dp K H v (.str z)) : v = .str z := by cases h; rfl
theorem dp_int {n : Int} (h : Dp K H v (.int n)) : v = .int n := by cases h; rfl
theorem dp_tup {ds : List PyData} (h : Dp K H v (.tuple ds)) : ∃ p xs, v = .ref p ∧ SqT K H p xs ∧ DpAll K H xs ds := by
  cases h with
  | tup h hs => exact ⟨_, _, rfl, h, hs⟩
theorem dpA_nil {xs : List V} (h : DpAll K H xs []) : xs = [] := by cases h; rfl
theorem dpA_cons {xs : List V} {d : PyData} {ds : List PyData} (h : DpAll K H xs (d :: ds)) : ∃ x r, xs = x :: r ∧ Dp K H x d ∧ DpAll K H r ds := by
  cases h with
  | cons a b => exact ⟨_, _, rfl, a, b⟩
theorem dp_1 {a : PyData} (h : Dp K H v (.tuple [a])) : ∃ p x, v = .ref p ∧ SqT K H p [x] ∧ Dp K H x a := by
  obtain ⟨p, xs, rfl, hp, hs⟩ := dp_tup h
  obtain ⟨x, r, rfl, hx, hs⟩ := dpA_cons hs
  cases dpA_nil hs
  exact ⟨p, x, rfl, hp, hx⟩
theorem dp_2 {a b : PyData} (h : Dp K H v (.tuple [a, b])) : ∃ p x y, v = .ref p ∧ SqT K H p [x, y] ∧ Dp K H x a ∧ Dp K H y b := by
  obtain ⟨p, xs, rfl, hp, hs⟩ := dp_tup h
  obtain ⟨x, r, rfl, hx, hs⟩ := dpA_cons hs
  obtain ⟨y, r, rfl, hy, hs⟩ := dpA_cons hs
  cases dpA_nil hs
  exact ⟨p, x, y, rfl, hp, hx, hy⟩
theorem dp_3 {a b c : PyData} (h : Dp K H v (.tuple [a, b, c])) : ∃ p x y z, v = .ref p ∧ SqT K H p [x, y, z] ∧ Dp K H x a ∧ Dp K H y b ∧ Dp K H z c := by
  obtain ⟨p, xs, rfl, hp, hs⟩ := dp_tup h
  obtain ⟨x, r, rfl, hx, hs⟩ := dpA_cons hs
  obtain ⟨y, r, rfl, hy, hs⟩ := dpA_cons hs
  obtain ⟨z, r, rfl, hz, hs⟩ := dpA_cons hs
  cases dpA_nil hs
  exact ⟨p, x, y, z, rfl, hp, hx, hy, hz⟩
theorem dp_4 {a b c d : PyData} (h : Dp K H v (.tuple [a, b, c, d])) : ∃ p x y z w, v = .ref p ∧ SqT K H p [x, y, z, w] ∧ Dp K H x a ∧ Dp K H y b ∧ Dp K H z c ∧ Dp K H w d := by
  obtain ⟨p, xs, rfl, hp, hs⟩ := dp_tup h
  obtain ⟨x, r, rfl, hx, hs⟩ := dpA_cons hs
  obtain ⟨y, r, rfl, hy, hs⟩ := dpA_cons hs
  obtain ⟨z, r, rfl, hz, hs⟩ := dpA_cons hs
  obtain ⟨u, r, rfl, hu, hs⟩ := dpA_cons hs
  cases dpA_nil hs
  exact ⟨p, x, y, z, u, rfl, hp, hx, hy, hz, hu⟩
/-- the i-th of a tuple of data -/
theorem dpA_get : ∀ {ds : List PyData} {xs : List V} {i : Nat} {d : PyData}, DpAll K H xs ds → ds[i]? = some d → ∃ x, xs[i]? = some x ∧ Dp K H x d
  | [], _, i, d, _, h => by simp at h
  | a :: r, xs, 0, d, hs, h => by
    obtain ⟨x, r', rfl, hx, _⟩ := dpA_cons hs
    have e : a = d := Option.some.inj h
    exact ⟨x, rfl, e ▸ hx⟩
  | a :: r, xs, i + 1, d, hs, h => by
    obtain ⟨x, r', rfl, _, hr⟩ := dpA_cons hs
    obtain ⟨y, hy, hd⟩ := dpA_get hr (show r[i]? = some d from h)
    exact ⟨y, hy, hd⟩
theorem dpA_len : ∀ {ds : List PyData} {xs : List V}, DpAll K H xs ds → xs.length = ds.length
  | [], _, h => by
    rw [dpA_nil h]
    rfl
  | _ :: _, _, h => by
    obtain ⟨x, r, rfl, _, hr⟩ := dpA_cons h
    rw [List.length_cons, List.length_cons, dpA_len hr]
end
end SfG
/-! an own exception's __init__ that begins with super().__init__(e): a def whose cell holds its class -/
namespace SfG
open PySem PySem.Spec PyProof.Rows L2
structure SupScope (N ps : List Str) (sc : Scope) : Prop where
  kind : sc.kind = .function
  co : sc.isCoroutine = false
  gen : sc.isGenerator = false
  nd : N.Nodup
  pre : N.take ps.length = ps
  par : ∀ x ∈ ps, sc.names.lookup x = some .local
  nocell : ∀ y ∈ sc.names, y.2 ≠ .cell
  free : ∀ y ∈ sc.names, y.2 = .free → y.1 = "__class__"
  cls : sc.names.lookup ("__class__" : Str) = some .free
  sup : sc.names.lookup ("super" : Str) = some .globalImplicit
/-- its body's context -/
def cxS (P : Program) (w : World) (K : PySem.W.Frag) (mg : Str → Option Value) (base : Heap) (N : List Str) (env : Env) (A : Around) (outer : List Env) (s : Shared) (H : Hp) (E : XK) : Cx where
  prog := P
  w := w
  K := K
  mg := mg
  base := base
  A := A.deeper env
  N := N
  s_0 := s
  H_0 := H
  env := env
  outer := outer
  stack := env :: outer
  ex := []
  calm := true
  fn := fun _ => false
  pn := []
  xe := fun e s' => wpAny (model P w) (A.deeper env) (leaving env e) (fun _ s'' => CX0 outer H s E e s'') (fun e' s'' => CX0 outer H s E e' s'') s'
theorem lookup_mem {α : Type} {x : Str} {u : α} : ∀ {l : List (Str × α)}, (l.map (·.1)).Nodup → (x, u) ∈ l → l.lookup x = some u
  | [], _, h => by cases h
  | (y, v) :: r, nd, h => by
    rw [List.map_cons] at nd
    obtain ⟨n1, n2⟩ := List.nodup_cons.mp nd
    rw [List.lookup_cons]
    rcases List.mem_cons.mp h with e | h1
    · cases e
      rw [beq_self_eq_true]
    · have ne : x ≠ y := by
        rintro rfl
        exact n1 (List.mem_map_of_mem (f := (·.1)) h1)
      rw [beq_eq_false_iff_ne.mpr ne]
      exact lookup_mem n2 h1
theorem lookup_zip {ps : List Str} {us : List Value} {i : Nat} {x : Str} {u : Value} (nd : ps.Nodup) (hl : ps.length = us.length) (h1 : ps[i]? = some x) (h2 : us[i]? = some u) : (ps.zip us).reverse.lookup x = some u := by
  refine lookup_mem ?_ ?_
  · rw [List.map_reverse, List.map_fst_zip (by omega)]
    exact (List.reverse_perm ps).nodup_iff.mpr nd
  · rw [List.mem_reverse]
    exact List.mem_of_getElem? (i := i) (List.getElem?_zip_eq_some.mpr ⟨h1, h2⟩)
theorem inv_startS {P : Program} {w : World} {K : PySem.W.Frag} {mg : Str → Option Value} {base : Heap} {N ps : List Str} {qual : Str} {scope : Scope} {f cc D : Addr} {cd cl : Value} {cld : Option Addr} {csl : Array (Option Value)} {A : Around} {outer : List Env} {s : Shared} {h₀ : Heap} {tk : Nat} {H : Hp} {E : XK} {us : List Value} {vs : List V}
    (S : SupScope N ps scope) (hd : A.handled = none) (e0 : Env0 P w K mg base A outer s H) (hl : vs.length = ps.length) (r : Vals vs us) (hcell : K.lookup cc = some ⟨cl, cld, .cell (some (.ref D)), csl⟩)
    (hns : h₀.Ns s.heap.objs.size (fun x => (ps.zip us).reverse.lookup x)) (hk : ∀ b o, s.heap.get? b = some o → h₀.get? b = some o) :
    Inv (cxS P w K mg base N (PySem.W.ksEnv qual scope s.heap.objs.size f cd cc) A outer s H E) [] (L2.start N vs) H { s with heap := h₀, toks := tk } := by
  have hpl : ps.length ≤ N.length := by have := congrArg List.length S.pre; rw [List.length_take] at this; omega
  have noA : ∀ b : Addr, b ∉ (cxS P w K mg base N (PySem.W.ksEnv qual scope s.heap.objs.size f cd cc) A outer s H E).ex := fun b z => absurd (show b ∈ ([] : List Addr) from z) (by simp)
  have one : ∀ {x : Str} {c : Addr}, (PySem.W.ksEnv qual scope s.heap.objs.size f cd cc).cells.lookup x = some c → x = "__class__" ∧ c = cc := by
    intro x c h
    have h' : List.lookup x [(("__class__" : Str), cc)] = some c := h
    rw [List.lookup_cons] at h'
    by_cases e : x = "__class__"
    · subst e
      rw [beq_self_eq_true] at h'
      exact ⟨rfl, (Option.some.inj h').symm⟩
    · rw [beq_eq_false_iff_ne.mpr e] at h'
      cases h'
  have bcc : base.get? cc = some ⟨cl, cld, .cell (some (.ref D)), csl⟩ := e0.mod.kin _ _ hcell
  refine ⟨⟨e0.mod, S.kind, rfl, rfl, Nat.le_refl _, fun y z c h1 h2 => ?_, fun y hy => ?_, fun y c h _ => Bool.noConfusion (show false = true from h), fun _ => hd, Around.frames_deeper e0.frames, .inr ⟨rfl, rfl⟩, fun b z => absurd z (noA b), e0.bs, e0.bsz, fun b _ _ => noA b, fun b z => absurd z (noA b), e0.funs, e0.frf⟩,
    rfl, e0.bare, Un.kept hk, ⟨_, hns, fun i y v h1 h2 h3 => ?_⟩, fun y c h => ?_, e0.hok.fresh (Nat.le_refl _), fun y c h => ?_, fun p hp => absurd (show p ∈ ([] : List (Addr × Obj)) from hp) (by simp), e0.hok.kept hk, ?_⟩
  · exact (one h1).1.trans (one h2).1.symm
  · have hy : scope.names.lookup y = some .cell ∨ scope.names.lookup y = some .free := hy
    rcases hy with hy | hy
    · exact absurd rfl (S.nocell _ (PySem.mem_of_lookup hy))
    · have e := S.free _ (PySem.mem_of_lookup hy) rfl
      have e' : y = "__class__" := e
      exact ⟨cc, by rw [e']; rfl⟩
  · have hi : i < vs.length := by
      unfold L2.start at h2
      by_cases hi : i < vs.length
      · exact hi
      · rw [List.getElem?_append_right (by simpa using hi)] at h2
        rw [List.getElem?_replicate] at h2
        split at h2 <;> cases h2
    have ha : vs[i]? = some v := by
      unfold L2.start at h2
      rw [List.getElem?_append_left (by simpa using hi), List.getElem?_map] at h2
      cases e : vs[i]? with
      | none => rw [e] at h2; cases h2
      | some a => rw [e] at h2; cases h2; rfl
    obtain ⟨u, hu, rv⟩ := r.get ha
    have hp : ps[i]? = some y := by
      rw [← S.pre, List.getElem?_take_of_lt (by omega)]; exact h1
    have ndP : ps.Nodup := by rw [← S.pre]; exact S.nd.sublist (List.take_sublist _ _)
    exact ⟨u, rv, .inl ⟨S.par y (List.mem_of_getElem? hp), lookup_zip ndP (by rw [← hl]; exact r.length) hp hu⟩⟩
  · rw [(one h).2]
    exact ⟨_, _, hk _ _ (e0.bs _ _ bcc).1, rfl⟩
  · rw [(one h).2]
    exact (e0.bs _ _ bcc).2
  · unfold L2.start
    show _ = N.length
    rw [List.length_append, List.length_map, List.length_replicate]
    omega
end SfG
namespace SfG
open PySem PySem.Spec PyProof.Rows L2
section
open PySem.W PySem.Calls
variable {prog : Program} {w : World} {A : Around} {E : Value → Shared → Prop} {h : Heap} {g : Array GenState} {d : Drawn} {t : Nat} {os : OsState}
variable {nm q : Str} {C N : Addr} {bs bm : List Value} {hdct : Bool} {sn : List Str} {sub : List Value} {ab : Bool} {col : Option Bool} {dd : Option Addr} {k0 k1 k2 k3 k5 : Option Value}
/-- the bound ValueError.__init__ is called -/
theorem call_mw {u e t0 : Addr} {rest : List Value} {Q : Value → Shared → Prop}
    (hC : h.get? C = some (excClassObj nm q C N bs bm hdct sn sub ab col dd k0 k1 k2 k3 k5 "ValueError.__new__")) (he : h.get? e = some ({ cls := .ref C, dict := none, data := .fields #[.ref t0, .none, .none, .none, .bool false, .none] } : Obj))
    (hu : h.get? u = some (kxs_mw "ValueError.__init__" e)) (hrest : rest.length ≤ sizeLine)
    (hq : ∀ h' t1, (∀ b o, b ≠ e → h.get? b = some o → h'.get? b = some o) → h'.get? e = some ({ cls := .ref C, dict := none, data := .fields #[.ref t1, .none, .none, .none, .bool false, .none] } : Obj) → Q .none ⟨h', g, d, t, os⟩) :
    wpAny (model prog w) A (call (.ref u) rest) Q E ⟨h, g, d, t, os⟩ := by
  refine wpAny_call (codeAny_of_tree ?_)
  show wpAny _ A.in1 (callAny (.ref u) ⟨rest, []⟩) _ _ _
  simp only [callAny]
  refine wpAny_bind (wpAny_load hu ?_)
  simp only [kxs_mw, show (Value.type "method-wrapper" == Value.type "method" || Value.type "method-wrapper" == Value.type "builtin_function_or_method" || Value.type "method-wrapper" == Value.type "method-wrapper") = true by decide, if_true]
  refine KFB.if_so (by decide) ?_
  refine wpAny_bind (check_bound_init F.excBase_ValueError.toExcCallFacts hC he rfl ?_)
  refine wpAny_bind (wpAny_pure (wpAny_pure ?_))
  refine ⟨plainId_quiet F.excBase_ValueError.init.plain _, codeAny_builtin F.excBase_ValueError.initEntry ?_⟩
  rw [Around.under_plainId F.excBase_ValueError.init.plain _]
  exact exc_init_tree (cls := .ref C) (t0 := t0) (dv := none) (c2 := .none) (c3 := .none) (b4 := .bool false) he hrest fun h' k e' _ => hq h' _ k e'
end
/-- what the written part says of such a class: its cell, its code, what super() finds -/
structure SupC (P : Program) (K : PySem.W.Frag) (mg : Str → Option Value) (C cc cda : Addr) : Prop where
  T : OexC K C
  cell : ∃ cl cld csl, K.lookup cc = some ⟨cl, cld, .cell (some (.ref C)), csl⟩
  code : ∃ ccl cdd vs ccs file tf, K.lookup cda = some ⟨ccl, cdd, .fields vs, ccs⟩ ∧ vs[2]? = some (.str file tf) ∧ ((P.main.file : Str) == file) = true
  mro : PySem.W.mroIn K C (.ref C) = some true
  sup : mg "super" = none
  top : (P.main.scope.names.lookup ("super" : Str)).isSome = false
  any : PySem.W.nsIn K cStatics "thirdparty.any" = some none
  ini : PySem.W.ks_superIn K C C "__init__" = some (some (.builtin "ValueError.__init__"))
  ve : PySem.W.subIn K (.ref C) (.type "ValueError") = some true
section
variable {P : Program} {w : World} {K : PySem.W.Frag} {mg : Str → Option Value} {base : Heap}
set_option maxHeartbeats 2000000 in
theorem fn_super {k : Nat} {f C cc cda : Addr} {name qual : Str} {params : Arguments} {body : List Stmt} {scope : Scope} {dV kV doc pm ct oc : Value} {an od : Option Addr} {osl : Array (Option Value)} {N ps : List Str} {sp : Sp} {e : Expr} {p0 p1 p2 p3 p4 : Pos} {ar : Arg}
    (lk : K.lookup f = some ⟨oc, od, .func (PySem.W.ksFn name qual params (.Expr (.Call (.Attribute (.Call (.Name "super" p0) [] [] p1) "__init__" p2) [e] [] p3) p4 :: body) scope dV kV doc pm an (.ref cda) ct cc), osl⟩)
    (hcd : PySem.W.codeIn K (.ref cda) qual = true) (S : SupScope N ps scope) (U : SupC P K mg C cc cda) (har : (params.posonlyargs ++ params.args).head? = some ar) (hself : ps.head? = some ar.arg)
    (len : ∀ vs H Q E, sp vs H Q E → vs.length = ps.length)
    (hbody : ∀ (A : Around) (outer : List Env) (s : Shared) (H : Hp) (vs : List V) (Q : VK) (E : XK), Room k (A.deeper (PySem.W.ksEnv qual scope s.heap.objs.size f (.ref cda) cc)) → sp vs H Q E →
      ∃ (a : Addr) (ws : List V) (te : TE) (t : TS), vs = .ref a :: ws ∧ H a = some (exo a C none) ∧ PE (cxS P w K mg base N (PySem.W.ksEnv qual scope s.heap.objs.size f (.ref cda) cc) A outer s H E).nox e te ∧
        PSs (cxS P w K mg base N (PySem.W.ksEnv qual scope s.heap.objs.size f (.ref cda) cc) A outer s H E).nox body t ∧
        te (L2.start N vs) H fun _ H1 => H1 a = some (exo a C none) ∧ t { nx := fun _ H' => Q .non H', rt := Q } (L2.start N vs) H1)
    (he : ∀ env : Env, starEach [e] env = (false, eval e env) :: starEach [] env)
    (hev : ∀ env : Env, ∃ pl : Sem Bool, eval (.Call (.Attribute (.Call (.Name "super" p0) [] [] p1) "__init__" p2) [e] [] p3) env = (do
      let ov ← attributeBase (.Call (.Name "super" p0) [] [] p1) "__init__" env (eval (.Call (.Name "super" p0) [] [] p1) env)
      standAt p2.atName
      let (f, first) ← holding [ov] (getMethod ov "__init__" pl)
      callWith p3 f first (backTo p3 (starEach [e] env)) []))
    (hsw : ∀ env : Env, swapsWith (.Call (.Attribute (.Call (.Name "super" p0) [] [] p1) "__init__" p2) [e] [] p3) none p4.line env = pure false) :
    FnOk P w K mg base CX0 (k + 1) f (PySem.W.ksFn name qual params (.Expr (.Call (.Attribute (.Call (.Name "super" p0) [] [] p1) "__init__" p2) [e] [] p3) p4 :: body) scope dV kV doc pm an (.ref cda) ct cc) ps sp := by
  refine ⟨len, fun A outer s H args us vs Q E hr e0 hb r hsp => ?_⟩
  have hl := len _ _ _ _ hsp
  have KX : K.In s.heap := e0.mod.kin.keeps fun b o e => (e0.bs b o e).1
  have lim : s.heap.NoLimit := e0.mod.nolimit.keeps fun b o e => (e0.bs b o e).1
  have hlz : us.length = ps.length := by rw [← hl]; exact r.length.symm
  obtain ⟨cl, cld, csl, hcell⟩ := U.cell
  obtain ⟨ccl, cdd, cvs, ccs, file, tf, hcode, hfile2, hfile⟩ := U.code
  obtain ⟨nm, q, N', bs, bm, sn, sub, ab, col, dd, k0, k1, k2, k3, k5, hC, hbm⟩ := U.T.cls
  have hclD : PySem.W.clsIn K C = some { name := nm, bases := bs, mro := .ref C :: bm, ns := N', qualname := q, hasDict := true, slotNames := sn, subclasses := sub, abstract := ab, collection := col, hasDel := false } := by unfold PySem.W.clsIn; rw [hC] <;> rfl
  obtain ⟨a, ws, te, t, rfl, ha, pe, pss, hq⟩ := hbody A outer s H vs Q E (hr.deeper _) hsp
  refine PySem.ks_codeAny_call_defAt hr.depth (KX _ _ lk) rfl lim (PySem.W.codeRec_of KX hcd) rfl hb S.nocell ?_ (fun h₀ hns hk => ?_) S.co S.gen S.kind
  · rintro ⟨n, v⟩ hy
    exact S.par n (List.of_mem_zip hy).1
  have I0 := inv_startS (E := E) (qual := qual) (f := f) (cd := .ref cda) (tk := s.toks + (ps.zip us).length) S hr.hd e0 hl r hcell hns hk
  have hok0 := I0.hok
  obtain ⟨t0, hx⟩ := exo_at hok0 ha
  have X0 : K.In h₀ := KX.keeps hk
  -- the slot of self
  have hself2 : ∃ u, (ps.zip us).reverse.lookup ar.arg = some u ∧ u = .ref a := by
    cases ps with
    | nil => cases hself
    | cons p pr =>
      have ep : p = ar.arg := Option.some.inj hself
      cases r with
      | cons r0 r1 =>
        refine ⟨_, lookup_zip (i := 0) (by rw [← S.pre]; exact S.nd.sublist (List.take_sublist _ _)) hlz.symm (by rw [ep]; rfl) rfl, r0⟩
  obtain ⟨uself, hus, rfl⟩ := hself2
  have hloc : scope.names.lookup ar.arg = some .local := by
    refine S.par _ ?_
    cases ps with
    | nil => cases hself
    | cons p pr =>
      rw [show ar.arg = p from (Option.some.inj hself).symm]
      exact List.mem_cons_self
  have hint : interactive (PySem.W.ksEnv qual scope s.heap.objs.size f (.ref cda) cc) = false := by
    unfold interactive
    show (scope.kind == _ && _) = false
    rw [S.kind]
    rfl
  obtain ⟨pl, hev1⟩ := hev (PySem.W.ksEnv qual scope s.heap.objs.size f (.ref cda) cc)
  refine PySem.ks_wpAt_execs_cons (PySem.ks_wpAt_Expr_any (PySem.ks_wpAt_MethodCall (pl := pl) ?_ hev1) hint (hsw _))
  refine PySem.ks_wpAt_super_base (env := PySem.W.ksEnv qual scope s.heap.objs.size f (.ref cda) cc) S.sup S.cls (by decide) rfl (X0 _ _ lk) rfl har rfl (X0 _ _ hcode) rfl hfile2 hfile U.top ?_
  obtain ⟨mb, b1, b2⟩ := e0.mod.blt
  have bk : ∀ b o, base.get? b = some o → h₀.get? b = some o := fun b o z => hk _ _ (e0.bs b o z).1
  refine PySem.W.ks_loadName_global S.kind S.sup (Calls.loadGlobal_builtin (env := PySem.W.ksEnv qual scope s.heap.objs.size f (.ref cda) cc) (e0.mod.glob.keeps bk) U.sup (b1.keeps bk) ((b2 "super" (by decide)).trans (by decide +kernel)) ⟨rfl, ?_⟩)
  refine wpAny_loadName_free S.kind S.cls rfl ⟨_, X0 _ _ hcell, rfl⟩ ?_
  refine wpAny_loadName_local S.kind hloc hns hus ?_
  have hCd : (excClassObj nm q C N' bs bm true sn sub ab col dd k0 k1 k2 k3 k5 "ValueError.__new__").data = .cls { name := nm, bases := bs, mro := .ref C :: bm, ns := N', qualname := q, hasDict := true, slotNames := sn, subclasses := sub, abstract := ab, collection := col, hasDel := false } := rfl
  refine PySem.ks_wpAny_isType_cls (X0 _ _ hC) hCd ⟨rfl, ?_⟩
  refine PySem.ks_wpAny_call_super (X0 _ _ hC) hCd hx rfl (fun c z => by cases z) (PySem.W.looks_mroIn X0 U.mro) (fun h1 hso k1' => ?_)
  have I1 := I0.kept (h' := h1) (t' := s.toks + (ps.zip us).length) k1'
  have X1 : K.In h1 := X0.keeps k1'
  have hx1 := k1' _ _ hx
  have Inst : PySem.W.InstAt h1 a { cls := .ref C, dict := none, data := .fields #[.ref t0, .none, .none, .none, .bool false, .none] } C none := ⟨hx1, rfl, rfl, trivial⟩
  have hin : PySem.W.alongIn K "__init__" (((Value.ref C :: bm).dropWhile (· != .ref C)).drop 1) = some (some (.builtin "ValueError.__init__")) := by
    have := U.ini
    unfold PySem.W.ks_superIn at this
    rw [hclD] at this
    exact this
  refine PySem.W.kxs_getMethod PySem.W.kxs_ValueError hso (PySem.W.looks_opaque X1 U.any) (l₀ := .ref C :: bm) (fun A Q E s k q => wpAny_bind ((PySem.W.looks_clsIn X1 hclD) A _ E s k (wpAny_pure q))) rfl X1 hin (Inst.type.andThen (PySem.W.looks_subIn X1 U.ve)) (PySem.W.ks_ne X1 Inst hclD) (by decide) ?_
  have kk : ∀ b o, h1.get? b = some o → (h1.push (PySem.W.kxs_mw "ValueError.__init__" a)).get? b = some o := fun b o z => Heap.get?_push_of_some _ z
  have I2 := I1.kept (h' := h1.push (PySem.W.kxs_mw "ValueError.__init__" a)) (t' := s.toks + (ps.zip us).length + 1) kk
  have hu2 : (h1.push (PySem.W.kxs_mw "ValueError.__init__" a)).get? h1.objs.size = some (PySem.W.kxs_mw "ValueError.__init__" a) := Heap.get?_push_at rfl rfl
  have I3 := I2.pins_of (pins' := [(h1.objs.size, PySem.W.kxs_mw "ValueError.__init__" a)]) (by
    intro p hp
    rw [List.mem_singleton.mp hp]
    refine ⟨hu2, I1.hok.fresh (Nat.le_refl _), ?_, I1.nofs (Nat.le_refl _), fun v z => by cases z⟩
    exact Nat.ne_of_gt I1.lt)
  rw [he]
  refine PySem.W.kxs_callWith (i := "ValueError.__init__") (x := a) (by rfl) ?_
  refine Calls.evalArgs_plain (Calls.spliced_cons (thn (pe.nox.run _ _ _ H _ I3 hq) ?_))
  rintro u s1 ⟨v, H1, J1, rv, ha1, q1⟩
  refine Calls.spliced_nil ⟨(J1.pin _ (List.mem_append_right _ List.mem_cons_self)).1, ?_⟩
  have hu3 := (J1.pin (h1.objs.size, PySem.W.kxs_mw "ValueError.__init__" a) (List.mem_append_right _ List.mem_cons_self)).1
  obtain ⟨t2, hx2⟩ := exo_at J1.hok ha1
  obtain ⟨hp, g, d, tk, os⟩ := s1
  refine call_mw (J1.kIn _ _ hC) hx2 hu3 (by show 1 ≤ sizeLine; decide) fun h' t3 k3 hx3 => ?_
  have J := (J1.pins_of (pins' := []) (fun p hp => by cases hp)).write (t' := tk) (x := a) (e := a) (o := exo a C none) (by rw [ha1]; exact True.intro) (.inl rfl) k3 ⟨_, hx3⟩ (exo_ok hx3)
  have eu : upd H1 a (exo a C none) = H1 := by
    funext b
    by_cases hb : b = a
    · rw [hb, upd_same, ha1]
    · rw [upd_ne hb]
  rw [eu] at J
  refine PySem.wpAt_of_wpAny ?_
  refine wpAny_mono (pss.nox.run [] _ (L2.start N (.ref a :: ws)) H1 _ J q1) (fun fl s' hs => ?_) fun e s' hs => hs
  cases fl with
  | ret u =>
    obtain ⟨v, σ', H', J', rv, q⟩ := hs
    exact ⟨v, H', J'.os, J'.bare, J'.base, J'.hok, rv, q⟩
  | next =>
    obtain ⟨σ', H', J', q⟩ := hs
    exact ⟨.non, H', J'.os, J'.bare, J'.base, J'.hok, rfl, q⟩
  | brk =>
    obtain ⟨_, _, _, q⟩ := hs
    exact False.elim q
  | cont =>
    obtain ⟨_, _, _, q⟩ := hs
    exact False.elim q
end
end SfG
namespace SfG
open PySem PySem.Spec PyProof.Rows L2
/-! ### an exception that is held behind its try -/
/-- an exception of the class cls, caught, at a -/
def EkO (cls : Value) (d : Option Addr) (a : Addr) : HO := .ext fun h => ∃ oe : Obj, h.get? a = some oe ∧ Zc cls d oe ∧ ∃ vs, oe.data = .fields vs
section
variable {X : Cx} {pins : List (Addr × Obj)} {σ : L2.St} {H : Hp} {s : Shared}
theorem inv_track {a : Addr} {oe : Obj} {vs : Array Value} {φ : Heap → Prop} (I : L2.Inv X pins σ H s) (ha : s.heap.get? a = some oe) (hd : oe.data = .fields vs) (na : H a = none) (nL : a ≠ X.env.locals)
    (n0 : X.s_0.heap.get? a = none) (np : ∀ p ∈ X.pn ++ pins, p.1 ≠ a) (new : ObjOk X.prog X.w (upd H a (.ext φ)) s.heap a (.ext φ)) : L2.Inv X pins σ (upd H a (.ext φ)) s where
  ok := I.ok
  os := I.os
  bare := I.bare
  base := {
    keep := I.base.keep
    slot := I.base.slot
    free := by
      intro b o e n hx
      rw [upd_ne (by intro z; rw [z, n0] at e; cases e)]
      exact I.base.free b o e n hx
    there := I.base.there
    tups := by
      intro b xs e
      have q := I.base.tups b xs e
      rw [upd_ne (ne_of_none q na)]
      exact q
    frzs := by
      intro b o u e
      have q := I.base.frzs b o u e
      rw [upd_ne (ne_of_none q na)]
      exact q
    tbls := by
      intro b ps e
      obtain ⟨more, q⟩ := I.base.tbls b ps e
      exact ⟨more, by rw [upd_ne (ne_of_none q na)]; exact q⟩ }
  loc := I.loc
  cell := I.cell
  free := by
    rw [upd_ne (Ne.symm nL)]
    exact I.free
  freeC := by
    intro x c e
    rw [upd_ne ?_]
    · exact I.freeC x c e
    · intro z
      obtain ⟨v, o, ho, hc⟩ := I.cell x c e
      rw [z, ha] at ho
      cases ho
      rw [hd] at hc
      cases hc
  pin := by
    intro p hp
    obtain ⟨e, n, rest⟩ := I.pin p hp
    exact ⟨e, by rw [upd_ne (np p hp)]; exact n, rest⟩
  hok := I.hok.laidN (fun _ _ e => e) na new
  len := I.len
end
/-- what the clause wishes: the exception is held behind the suite -/
def wKeep (K : PySem.W.Frag) (c : Value) (i : Nat) (ts : Addr → Value → Option Addr → TS) (Wout : WX) (D : Ends) : WX := fun cls d σ H =>
  ∃ b, PySem.W.exmOne K cls c = some b ∧
    (b = true → ∀ a, H a = none → ts a cls d { nx := fun σ' H' => D.nx (σ'.set i none) (upd H' a (EkO cls d a)), rt := fun _ _ => False, bk := fun _ _ => False, ct := fun _ _ => False } (σ.set i (some (.ref a))) H) ∧
    (b = false → Wout cls d σ H)
section
variable {X : Cx} {x n : Str} {c : Value} {i : Nat} {body more : List Stmt} {st0 : Stmt} {p1 p2 p3 : Pos} {tb : WX → TS} {ts : Addr → Value → Option Addr → TS} {Wout : WX}
theorem ps_try_keep (stk : X.stack = X.env :: X.outer) (frm : X.env.frame = some X.env.locals) (hex : X.ex = []) (hN : X.N.Nodup) (hi : X.N[i]? = some n) (hn : X.env.kindOf n = some .local) (hc : Names X x c) (tk : Takes X Wout)
    (bd : ∀ (W : WX) (pn : List (Addr × Obj)) (xe : Value → Shared → Prop), Takes (X.tr pn xe) W → PassesOwn (model X.prog X.w) X.A X.env xe → PSs (X.tr pn xe) body (tb W))
    (su : ∀ (a : Addr) (oe : Obj) (cls : Value) (d : Option Addr) (pn : List (Addr × Obj)), Zc cls d oe → (∃ vs, oe.data = .fields vs) → PSs (X.suite a ((a, oe) :: pn)) (st0 :: more) (ts a cls d))
    (yes : ∀ D cls d σ H, wKeep X.K c i ts Wout D cls d σ H → PySem.W.exmOne X.K cls c = some true) :
    PS X (.Try body [.ExceptHandler (some (.Name x p1)) (some n) (st0 :: more) p2] [] [] p3) (fun D σ H => tb (wKeep X.K c i ts Wout D) D σ H) := by
  constructor
  intro pins s σ H D I h
  have okX := I.ok
  have frames : X.A.frames = some (X.env :: X.outer) := by
    rw [okX.frames, stk]
  refine wpAny_Try_except ?_
  have B1 := bd (wKeep X.K c i ts Wout D) (X.pn ++ pins)
    (fun e s₁ => wpAny (model X.prog X.w) X.A (noteFrame e X.env)
      (fun _ s₂ => wpAny (model X.prog X.w) X.A (setFlight e none)
        (fun _ s₃ => wpAny (model X.prog X.w) X.A
          (handleBy e X.env [.ExceptHandler (some (.Name x p1)) (some n) (st0 :: more) p2]) (SP X pins D) X.xe s₃) X.xe s₂) X.xe s₁)
    ?caught PassesOwn.looking
  · refine wpAny_mono (B1.run [] s σ H D (I.toTry _) h) ?_ (fun _ _ z => z)
    intro f s1 hs1
    cases f with
    | next =>
      obtain ⟨σ', H', J, q⟩ := hs1
      exact wpAny_execs_nil ⟨σ', H', J.ofTry okX, q⟩
    | ret u =>
      obtain ⟨v, σ', H', J, r, q⟩ := hs1
      exact ⟨v, σ', H', J.ofTry okX, r, q⟩
    | brk =>
      obtain ⟨σ', H', J, q⟩ := hs1
      exact ⟨σ', H', J.ofTry okX, q⟩
    | cont =>
      obtain ⟨σ', H', J, q⟩ := hs1
      exact ⟨σ', H', J.ofTry okX, q⟩
  case caught =>
    intro u s' air
    obtain ⟨a, B, sI, pins', σ', H', cls, d, rfl, J', ground, up, sky, na, os, ag, wish⟩ := air
    have hyes := yes D cls d σ' H' wish
    obtain ⟨b, hb1, hgo, _⟩ := wish
    rw [hyes] at hb1
    cases hb1
    have J : L2.Inv X pins σ' H' sI := J'.ofTry okX
    have skyX : Sky B (X.env :: X.outer) a (Zc cls d) X.env.locals s'.heap := by
      rw [← stk]
      exact sky
    show wpAny (model X.prog X.w) X.A (noteFrame (.ref a) X.env) _ _ _
    refine Sky.land Zc.steady frames frm skyX ?_
    intro h3 fl3 up3
    obtain ⟨oe3, vs3, get3, z3, dat3⟩ := fl3.there
    have noFrame : a ∉ frs (X.env :: X.outer) := by
      intro hm
      obtain ⟨_, o', e', nof⟩ := fl3.2.2.1.mem hm
      rw [get3] at e'
      cases e'
      exact nof _ dat3
    have notL : a ≠ X.env.locals := by
      intro z
      refine noFrame (List.mem_filterMap.mpr ⟨X.env, List.mem_cons_self, ?_⟩)
      rw [frm, z]
    have notF : a ∉ X.fs := by
      intro hm
      obtain ⟨e, he, q⟩ := List.mem_filterMap.mp hm
      exact noFrame (List.mem_filterMap.mpr ⟨e, List.mem_cons_of_mem _ he, q⟩)
    have newI : sI.heap.get? a = none := by
      cases e : sI.heap.get? a with
      | none => rfl
      | some o =>
        have z := ground a o e (by rw [stk]; exact noFrame)
        rw [fl3.2.1] at z
        cases z
    have new0 : X.s_0.heap.get? a = none := by
      cases e : X.s_0.heap.get? a with
      | none => rfl
      | some o =>
        obtain ⟨o', z⟩ := J.base.there a o e (by rw [hex]; exact fun q => nomatch q)
        rw [newI] at z
        cases z
    have notP : ∀ p ∈ X.pn ++ pins, p.1 ≠ a := by
      intro p hp z
      have q := (J.pin p hp).1
      rw [z, newI] at q
      cases q
    have J3 : L2.Inv X pins σ' H' { s' with heap := h3 } := J.landed ground fl3.1 (up.trans up3) os ag
    have S3 := J3.suite get3 dat3 na notL notF
    refine wpAny_handleBy_cons (codeAny_handlers_test ?_) (by intro q; cases q)
    have kindly : PySem.W.Looks (model X.prog X.w) h3 (typeOf (.ref a)) cls := by
      intro A2 Q2 E2 s2 k2 q2
      refine wpAny_typeOf_ref (k2 _ _ get3) ?_
      rw [z3.1]
      exact q2
    have match_ := PySem.W.exm_one (M := model X.prog X.w) J3.kIn kindly hyes
    have named : ∀ {Q2 : Value → Shared → Prop} {E2 : Value → Shared → Prop}, Q2 c { s' with heap := h3 } →
        wpAny (model X.prog X.w) (X.A.mark (some (.ref a))) (eval (.Name x p1) X.env) Q2 E2 { s' with heap := h3 } := by
      intro Q2 E2 q2
      obtain ⟨g1, g2, g3 | ⟨g3, g4, g5⟩⟩ := hc
      · exact ld_glob (X := X.suite a ((a, oe3) :: (X.pn ++ pins))) S3 g1 g3 q2 g2
      · exact ld_blt (X := X.suite a ((a, oe3) :: (X.pn ++ pins))) S3 g1 g3 g4 q2 g5 g2
    refine named (match_.here ?_)
    refine codeAny_handlers_suite_as ?_
    refine HandSPX.lands_againZ fl3 ?_
    intro h4 fl4 up4
    obtain ⟨oe4, vs4, get4, z4, dat4⟩ := fl4.there
    have J4 : L2.Inv X pins σ' H' { s' with heap := h4 } := J.landed ground fl4.1 ((up.trans up3).trans up4) os ag
    have S4 := J4.suite get4 dat4 na notL notF
    refine store_ok (X := X.suite a ((a, oe4) :: (X.pn ++ pins))) (v := .ref a) S4 hN hi (.inl hn) rfl ?_ (.inr hn)
    intro s5 S5
    refine wpAny_mono ((su a oe4 cls d (X.pn ++ pins) z4 ⟨_, dat4⟩).run [] s5 _ H' _ S5 (hgo rfl a na)) ?_ (fun _ _ z => False.elim z)
    intro f s6 hs6
    cases f with
    | next =>
      obtain ⟨σ6, H6, S6, q6⟩ := hs6
      obtain ⟨get6, na6, _⟩ := S6.pin (a, oe4) (List.mem_append_left _ List.mem_cons_self)
      have J6 : L2.Inv X pins σ6 H6 s6 := S6.unsuite okX
      have T6 := inv_track (φ := fun h => ∃ oe : Obj, h.get? a = some oe ∧ Zc cls d oe ∧ ∃ vs, oe.data = .fields vs) J6 get6 dat4 na6 notL new0 notP
        ⟨⟨oe4, get6, z4, _, dat4⟩, ⟨oe4, get6⟩, fun h1 h2 ⟨o, e, r⟩ k => ⟨o, k o e, r⟩⟩
      refine gone_ok T6 hN hi hn ?_
      intro s7 J7
      exact ⟨_, _, J7, q6⟩
    | brk =>
      obtain ⟨σ6, H6, S6, q6⟩ := hs6
      exact q6.elim
    | cont =>
      obtain ⟨σ6, H6, S6, q6⟩ := hs6
      exact q6.elim
    | ret u =>
      obtain ⟨v6, σ6, H6, S6, r6, q6⟩ := hs6
      exact q6.elim
end
/-! ### isinstance of such an exception -/
def rIsK (K : PySem.W.Frag) (D : Addr) : List V → Hp → VK → Prop := fun xs H Q =>
  ∃ (a : Addr) (c : V) (cv : Value) (b : Bool), xs = [.ref a, c] ∧ H a = some (EkO (.ref D) none a) ∧ (∀ u, RelV c u → u = cv) ∧ PySem.W.kitOne K (.ref D) cv = some b ∧ Q (.bl b) H
theorem call_isK {X : Cx} {D : Addr} (C : ExcC X.K D) : CallR X (.builtin "isinstance") (rIsK X.K D) := by
  intro pins s σ H xs us Q I r h
  obtain ⟨a, c, cv, b, rfl, hH, hcv, e, q⟩ := h
  obtain ⟨⟨oe, get, z, vs, dat⟩, _⟩ := I.hok a _ hH
  cases r with
  | cons rx rr =>
    cases rr with
    | cons rt rr =>
      cases rr
      cases rx
      have ec := hcv _ rt
      subst ec
      have J : PySem.W.InstAt s.heap a oe D none := by
        obtain ⟨oc, od, oda, osl⟩ := oe
        obtain ⟨h1, h2⟩ := z
        dsimp only at h1 h2 dat
        subst h1 h2 dat
        exact ⟨get, rfl, rfl, trivial⟩
      refine PySem.W.kia_one (PySem.W.handS_kitx_exc C.hg C.hk C.hs C.hd C.ha C.hn C.ht C.hm) I.kIn J e (fun z => nomatch z) ?_
      intro tk
      exact ⟨.bl b, H, I.kept (t' := tk) fun _ _ z => z, rfl, q⟩
end SfG
/-! an exception held behind its try: with or without fields; isinstance of it, its fields -/
namespace SfG
open PySem PySem.Spec PyProof.Rows L2
/-- at a: an exception of the class at D, held; its fields lie in its dict -/
def Ek (H : Hp) (D a : Addr) : Prop := ∃ d, H a = some (EkO (.ref D) d a) ∧ (d = none ∨ ∃ dx fs, d = some dx ∧ H dx = some (.xd fs))
/-- and its field f is v -/
def EkF (H : Hp) (D a : Addr) (fs : List (Str × V)) : Prop := ∃ dx, H a = some (EkO (.ref D) (some dx) a) ∧ H dx = some (.xd fs)
theorem EkF.ek {H : Hp} {D a : Addr} {fs : List (Str × V)} (h : EkF H D a fs) : Ek H D a := by
  obtain ⟨dx, h1, h2⟩ := h
  exact ⟨some dx, h1, .inr ⟨dx, fs, rfl, h2⟩⟩
theorem Ek.gr {H H' : Hp} {D a : Addr} (h : Ek H D a) (g : Gr H H') : Ek H' D a := by
  obtain ⟨d, h1, h2⟩ := h
  refine ⟨d, g.keep _ _ h1 (fun _ z => by cases z), ?_⟩
  rcases h2 with h2 | ⟨dx, fs, e, h2⟩
  · exact .inl h2
  · exact .inr ⟨dx, fs, e, g.keep _ _ h2 (fun _ z => by cases z)⟩
theorem EkF.gr {H H' : Hp} {D a : Addr} {fs : List (Str × V)} (h : EkF H D a fs) (g : Gr H H') : EkF H' D a fs := by
  obtain ⟨dx, h1, h2⟩ := h
  exact ⟨dx, g.keep _ _ h1 (fun _ z => by cases z), g.keep _ _ h2 (fun _ z => by cases z)⟩
section
variable {X : Cx} {pins : List (Addr × Obj)} {σ : L2.St} {H : Hp} {s : Shared}
theorem ek_inst {D a : Addr} (I : L2.Inv X pins σ H s) (h : Ek H D a) : ∃ oe od, PySem.W.InstAt s.heap a oe D od := by
  obtain ⟨d, hH, hd⟩ := h
  obtain ⟨⟨oe, get, z, vs, dat⟩, _⟩ := I.hok a _ hH
  obtain ⟨oc, od, oda, osl⟩ := oe
  obtain ⟨h1, h2⟩ := z
  dsimp only at h1 h2 dat
  subst h1 h2 dat
  rcases hd with rfl | ⟨dx, fs, rfl, hx⟩
  · exact ⟨_, none, get, rfl, rfl, trivial⟩
  · have hx' : ObjOk X.prog X.w H s.heap dx (.xd fs) := I.hok dx _ hx
    obtain ⟨mA, hns, hr⟩ := hx'
    obtain ⟨od, ho, hl⟩ := lookIn_ns hns
    exact ⟨_, some od, get, rfl, rfl, ho⟩
end
def rIsX (K : PySem.W.Frag) (D : Addr) : List V → Hp → VK → Prop := fun xs H Q =>
  ∃ (a : Addr) (c : V) (cv : Value) (b : Bool), xs = [.ref a, c] ∧ Ek H D a ∧ (∀ u, RelV c u → u = cv) ∧ PySem.W.kitOne K (.ref D) cv = some b ∧ Q (.bl b) H
theorem call_isX {X : Cx} {D : Addr} (C : ExcC X.K D) : CallR X (.builtin "isinstance") (rIsX X.K D) := by
  intro pins s σ H xs us Q I r h
  obtain ⟨a, c, cv, b, rfl, hH, hcv, e, q⟩ := h
  obtain ⟨oe, od, J⟩ := ek_inst I hH
  have hcl : (PySem.W.clsIn X.K D).isSome = true := by
    obtain ⟨cd, hc, _⟩ := PySem.W.any_some C.hd
    rw [hc]
    rfl
  cases r with
  | cons rx rr =>
    cases rr with
    | cons rt rr =>
      cases rr
      cases rx
      have ec := hcv _ rt
      subst ec
      refine PySem.W.kia_one (PySem.W.kitx_exc hcl C.hg C.hk C.hs C.ha C.hn C.ht C.hm) I.kIn J e (fun z => nomatch z) ?_
      intro tk
      exact ⟨.bl b, H, I.kept (t' := tk) fun _ _ z => z, rfl, q⟩
/-- e.f, e an exception that is held -/
def tKf (C : Addr) (f : Str) (te : TE) : TE := fun σ H Q => te σ H fun x H1 => ∃ (a : Addr) (fs : List (Str × V)) (v : V), x = .ref a ∧ EkF H1 C a fs ∧ fs.lookup f = some v ∧ Q v H1
theorem pe_kf {X : Cx} {C : Addr} {e : Expr} {te : TE} {pos : Pos} {n : Str} (T : XfC X.K C) (hno : PySem.W.findIn X.K (.ref C) n = some none) (he : PE X e te) (hb : attributeBase e n X.env (eval e X.env) = eval e X.env := by rfl) :
    PE X (.Attribute e n pos) (tKf C n te) := by
  refine ⟨fun pins s σ H Q I h => ?_⟩
  refine attr_of hb (thn (he.run pins s σ H _ I h) fun u s1 hh => ?_)
  obtain ⟨x, H1, I1, rx, a, fs, v, rfl, ⟨dd, hH, ea⟩, l, q⟩ := hh
  obtain rfl : u = Value.ref a := rx
  obtain ⟨⟨oe, ha, hz, vs, hd⟩, _⟩ := I1.hok a _ hH
  have hx : ObjOk X.prog X.w H1 s1.heap dd (.xd fs) := I1.hok dd _ ea
  obtain ⟨mA, hns, hr⟩ := hx
  obtain ⟨od, ho, hl⟩ := lookIn_ns hns
  obtain ⟨u, hu, ru⟩ := RelO.some_of (v := v) (o := mA n) (by rw [← l]; exact hr n)
  have J : PySem.W.InstAt s1.heap a oe C (some od) := ⟨ha, hz.1, by unfold PySem.W.notCls; rw [hd] <;> rfl, by rw [hz.2]; exact ho⟩
  exact HandSPX.exc_get I1.kIn J T.ga T.gg T.exC (PySem.W.findObj_own T.hdC hno rfl (by rw [hl, hu])) (handed_of ru) ⟨v, H1, I1.tok _, ru, q⟩
end SfG
namespace SfG
open PySem PySem.Spec PyProof.Rows L2
/-! ### x is not True, x is not False, x a whole number or a truth -/
def rNotBx : R2 := fun x y H Q => ∃ b : Bool, y = .bl b ∧ ((∃ a : Bool, x = .bl a ∧ Q (.bl (!decide (a = b))) H) ∨ ∃ i : Int, x = .int i ∧ Q (.bl true) H)
theorem op_notBx {X : Cx} : OpR X (compareOp .IsNot) rNotBx := by
  intro pins s σ H x y v u Q I rx ry h
  obtain ⟨b, rfl, ⟨a, rfl, q⟩ | ⟨i, rfl, q⟩⟩ := h
  · exact op_notBl pins s σ H _ _ v u Q I rx ry ⟨a, b, rfl, rfl, q⟩
  · cases (show u = Value.bool b from ry)
    obtain ⟨t, rfl⟩ := _root_.id rx
    exact wpAny_isNot_other rfl (fun z => by cases z) ⟨.bl true, H, I, rfl, q⟩
theorem tyx_bool {K : PySem.W.Frag} {H : Hp} {x : V} {t : Value} (h : TyX K H x t) (e : t = .type "bool") : ∃ b, x = .bl b := by
  cases h with
  | base b =>
    cases b with
    | bl b => exact ⟨b, rfl⟩
    | ins => cases e
    | _ => exact absurd (Value.type.inj e) (by decide)
  | _ => exact absurd (Value.type.inj e) (by decide)
theorem is_truth {K : PySem.W.Frag} {H : Hp} {x : V} {T : String} (h : Is K H x T) (e : T = "bool") : ∃ b, x = .bl b := tyx_bool h.1 (by rw [e])
end SfG
namespace SfG
open PySem PySem.Spec PyProof.Rows L2
/-! ### enumerate(t), t a tuple -/
set_option maxHeartbeats 1000000 in
theorem meets_enum1 {v : Value} {o : Obj} {H : Heap → Prop} (B : Begins v o H) :
    Meets (Builtin.«enumerate.__new__» ⟨[.type "enumerate", v], []⟩) (fun _ R s => H s.heap ∧
      R (.ok (.ret (.ref (s.heap.push o).objs.size)))
        { s with heap := (s.heap.push o).push { cls := .type "enumerate", data := .fields #[.none, .bool false, .ref s.heap.objs.size, rawInt 0, .none, .none] } }) :=
  .of_wp fun prog w A R s hh => by
    obtain ⟨hp, g, d, tk, os⟩ := s
    obtain ⟨h1, fin⟩ := hh
    have hsub := sub_enumerate
    have it1 : ∀ {A' : Around} {E : Value → Shared → Prop} {Q : Value → Shared → Prop}, Q (.ref hp.objs.size) ⟨hp.push o, g, d, tk, os⟩ →
        wpAny (model prog w) A' (pyIter v) Q E ⟨hp, g, d, tk, os⟩ := fun q => B.iter prog w _ _ ⟨hp, g, d, tk, os⟩ _ h1 q
    wp_walk using it1
    refine wpAny_stack_any fun st => wpAny_pure ?_
    split
    · rename_i c _ _ _ _ _
      cases (c == Value.type "enumerate") <;> (wp_walk using it1; exact ⟨_, rfl, fin⟩)
    · wp_walk using it1
      exact ⟨_, rfl, fin⟩
section
variable {prog : Program} {w : World} {A : Around} {E : Value → Shared → Prop} {s : Shared}
theorem enum1 {v : Value} {o : Obj} {H : Heap → Prop} {Q : Value → Shared → Prop} (B : Begins v o H) (h1 : H s.heap)
    (h : ∀ h', IsEnum h' (s.heap.objs.size + 1) s.heap.objs.size 0 .none → h'.get? s.heap.objs.size = some o →
      (∀ b u, s.heap.get? b = some u → h'.get? b = some u) → Q (.ref (s.heap.objs.size + 1)) { s with heap := h' }) :
    wpAny (model prog w) A (call (.type "enumerate") [v]) Q E s := by
  refine callType_new F.called_enumerate (by decide) (F.typeCall_enumerate_1 _) (F.newCall_enumerate_1 _) (fun obj => F.args_object_init_2 obj _)
    F.entry_enumerate_new (meets_enum1 B) ⟨h1, ?_⟩
  have sz : (s.heap.push o).objs.size = s.heap.objs.size + 1 := Heap.size_push ..
  show _ ∧ _
  rw [sz]
  have made : IsEnum ((s.heap.push o).push { cls := .type "enumerate", data := .fields #[.none, .bool false, .ref s.heap.objs.size, rawInt 0, .none, .none] })
      (s.heap.objs.size + 1) s.heap.objs.size 0 .none := by
    have z := Heap.get?_push_size (s.heap.push o) (o := { cls := .type "enumerate", data := .fields #[.none, .bool false, .ref s.heap.objs.size, rawInt 0, .none, .none] }) rfl
    rw [sz] at z
    exact z
  refine ⟨⟨_, made, rfl⟩, h _ made (Heap.get?_push_of_some _ (Heap.get?_push_size _ B.free)) ?_⟩
  intro b u x
  exact Heap.get?_push_of_some _ (Heap.get?_push_of_some _ x)
end
/-- the tuple at a as it stands at each turn, each item in a new pair -/
def IteT (K : PySem.W.Frag) (a : Addr) : It :=
  ⟨fun i H => ∃ (xs : List V) (x : V), SqT K H a xs ∧ xs[i]? = some x,
   fun i H v H' => ∃ T x, v = .ref T ∧ H T = none ∧ H' = upd H T (.tup [.int (i : Nat), x]) ∧ ∀ xs, SqT K H a xs → xs[i]? = some x,
   fun i H => ∃ xs : List V, SqT K H a xs ∧ xs.length = i⟩
theorem turn_enumT {P : Program} {w : World} {K : PySem.W.Frag} {elts : List Expr} {kk : Nat} {tpos : Pos} (a e it : Addr) :
    Turn P w K (.Tuple elts kk tpos) (IteT K a) [e, it] e (fun i h => (∃ old, IsEnum h e it ((i : Nat) : Int) old) ∧ h.IsTupleIter it a i ∧ e ≠ it) where
  mem := by simp
  obj := by
    rintro i h ⟨⟨old, he⟩, ⟨o, ho, hc, hd⟩, _⟩ b hb
    have two : b = e ∨ b = it := by simpa using hb
    rcases two with rfl | rfl
    · exact ⟨_, he, fun v q => nomatch q⟩
    · exact ⟨o, ho, fun v q => by rw [hd] at q; cases q⟩
  keep := by
    rintro i h h' ⟨⟨old, he⟩, hi, hne⟩ k
    exact ⟨⟨old, k e (by simp) _ he⟩, hi.at fun o q => k it (by simp) o q, hne⟩
  item := by
    intro X hP hw hK hc i pins s σ H E I hf st hg
    subst hP hw hK
    obtain ⟨⟨old, he⟩, hit, hne⟩ := st
    obtain ⟨xs, x, hq, hx⟩ := hg
    obtain ⟨its, rv, p, hz⟩ := I.tuple hq
    obtain ⟨u, hu, ru⟩ := rv.get hx
    have ea : e ≠ a := by
      intro z
      obtain ⟨o, ho, hcl, _⟩ := p
      rw [← z] at ho
      have q := he
      unfold IsEnum at q
      rw [ho] at q
      have q1 := Option.some.inj q
      rw [q1] at hcl
      exact absurd (Value.type.inj hcl) (by decide)
    have ia : a ≠ it := by
      intro z
      obtain ⟨o, ho, hcl, _⟩ := p
      obtain ⟨o', ho', hcl', _⟩ := hit
      rw [z, ho'] at ho
      cases ho
      rw [hcl'] at hcl
      exact absurd (Value.type.inj hcl) (by decide)
    have D : Draws X.prog X.w X.A.in1 it [it, a] its.toArray.size (fun i v => its.toArray[i]? = some v) (fun i h => h.IsTupleIter it a i ∧ h.IsTuple a its.toArray) :=
      Draws.tuple (show X.A.in1.handled = none from I.ok.hd hc) it a ia its.toArray
    have hlt : i < its.toArray.size := by
      have hl := rv.length
      have hi : i < xs.length := by
        rcases Nat.lt_or_ge i xs.length with h1 | h1
        · exact h1
        · rw [List.getElem?_eq_none h1] at hx
          cases hx
      simp
      omega
    have hel : e < s.heap.objs.size := Heap.lt_size he
    have hil : it < s.heap.objs.size := by
      obtain ⟨_, q, _⟩ := hit
      exact Heap.lt_size q
    refine wpAny_pyNext_enum_itemD D he ⟨hit, p⟩ hlt hne (by simp [hne, ea]) ?_
    intro y h' tk hy ho hst hT hsz hk
    have ey : y = u := by
      have h1 : its.toArray[i]? = some u := by simpa using hu
      have h2 : its.toArray[i]? = some y := hy
      rw [h1] at h2
      exact (Option.some.inj h2).symm
    subst ey
    refine ⟨_, rfl, wpAny_letOwnedTupleGo_enum (s := { s with heap := h', toks := tk + 1 }) ho ?_⟩
    intro h'' he' sb
    have hT2 : h''.get? s.heap.objs.size = some { cls := .type "tuple", data := .seq #[.int i tk, y] } := (sb.2 _ (Nat.ne_of_gt hel)).trans hT
    have new : ObjOk X.prog X.w (upd H s.heap.objs.size (.tup [.int (i : Nat), x])) h'' s.heap.objs.size (.tup [.int (i : Nat), x]) :=
      ⟨by show 2 ≤ sizeLine; decide, [.int i tk, y], .cons ⟨_, rfl⟩ (.cons ru .nil), ⟨_, hT2, rfl, _, rfl⟩⟩
    have I1 : L2.Inv X pins σ (upd H s.heap.objs.size (.tup [.int (i : Nat), x])) { s with heap := h'', toks := tk + 1 } := by
      refine I.turnedNew (ch := [e, it]) ?_ hf (Nat.le_refl _) new
      intro b ob hb q
      exact (sb.2 b (fun z => hb (by simp [z]))).trans (hk b ob (fun z => hb (by simp [z])) (fun z => hb (by simp [z])) q)
    refine ⟨.ref s.heap.objs.size, _, I1, rfl, ⟨_, x, rfl, I.hok.fresh (Nat.le_refl _), rfl, ?_⟩, ⟨⟨y, ?_⟩, hst.1.at fun o q => (sb.2 it (Ne.symm hne)).trans q, hne⟩, ?_⟩
    · intro ys hy'
      rw [I.tuple_inj hy' hq]
      exact hx
    · have e1 : ((i + 1 : Nat) : Int) = (i : Int) + 1 := by omega
      rw [e1]
      exact he'
    · intro b hb
      have hb' : b < s.heap.objs.size := by
        have two : b = e ∨ b = it := by simpa using hb
        rcases two with rfl | rfl
        · exact hel
        · exact hil
      rw [upd_ne (Nat.ne_of_lt hb')]
      exact (hf b hb).1
  done := by
    intro X hP hw hK hc i pins s σ H E I hf st hg
    subst hP hw hK
    obtain ⟨⟨old, he⟩, hit, hne⟩ := st
    obtain ⟨xs, hq, hx⟩ := hg
    obtain ⟨its, rv, p, hz⟩ := I.tuple hq
    have ia : a ≠ it := by
      intro z
      obtain ⟨o, ho, hcl, _⟩ := p
      obtain ⟨o', ho', hcl', _⟩ := hit
      rw [z, ho'] at ho
      cases ho
      rw [hcl'] at hcl
      exact absurd (Value.type.inj hcl) (by decide)
    obtain ⟨f0, f1, f2, f3, f4, f5⟩ := hf it (by simp)
    have hl := rv.length
    have D : Draws X.prog X.w X.A.in1 it [it, a] its.toArray.size (fun i v => its.toArray[i]? = some v) (fun i h => h.IsTupleIter it a i ∧ h.IsTuple a its.toArray) :=
      Draws.tuple (show X.A.in1.handled = none from I.ok.hd hc) it a ia its.toArray
    have ei : its.toArray.size = i := by
      simp
      omega
    rw [← ei] at hit
    exact wpAny_pyNext_enum_endD D he ⟨hit, p⟩ fun h' eb => ⟨rfl, I.turned (t' := s.toks) (fun b o hb q => eb b o hb q) f0 f1 f3 f4 f5⟩
  self := by
    rintro A i s Q E ⟨⟨_, he⟩, _⟩ h
    exact wpAny_pyIter_enum he h
def iEnumT (K : PySem.W.Frag) (ta : TA) : TI := fun σ H R => ta σ H fun vs H1 => ∃ a xs, vs = [.ref a] ∧ SqT K H1 a xs ∧ R (IteT K a) H1
theorem pi_enumT {X : Cx} {e : Expr} {ta : TA} {p pos tpos : Pos} {elts : List Expr} {kk : Nat} (hg : Gl X "enumerate") (hm : X.mg "enumerate" = none) (ha : PA X [e] ta)
    (hs : starEach [e] X.env = [(false, eval e X.env)] := by rfl) : PI X (.Tuple elts kk tpos) (.Call (.Name "enumerate" p) [e] [] pos) (iEnumT X.K ta) := by
  constructor
  intro pins s σ H R I h
  refine Call_ (ld_blt I hg hm boot_enumerate (PyProof.Rows.callWith_type1 (thn (ha.run pos pins s σ H _ I h) ?_) hs rfl))
  rintro us s1 ⟨vs, H1, I1, r1, a, xs, rfl, hq, q⟩
  obtain ⟨u, rfl, ru⟩ := vals1 r1
  cases (show u = Value.ref a from ru)
  obtain ⟨its, rv, p', hz⟩ := I1.tuple hq
  refine enum1 (begins_tuple a its.toArray) p' ?_
  intro h' he hit hk
  refine wpAny_pyIter_enum he ?_
  have I2 : L2.Inv X pins σ H1 { s1 with heap := h' } := I1.kept (t' := s1.toks) hk
  refine ⟨s1.heap.objs.size + 1, [s1.heap.objs.size + 1, s1.heap.objs.size], _, _, H1, rfl, I2, turn_enumT a (s1.heap.objs.size + 1) s1.heap.objs.size,
    ⟨⟨.none, he⟩, ⟨_, hit, rfl, rfl⟩, Nat.succ_ne_self _⟩, ?_, q⟩
  intro b hb
  have two : b = s1.heap.objs.size + 1 ∨ b = s1.heap.objs.size := by simpa using hb
  have hle : s1.heap.objs.size ≤ b := by
    rcases two with z | z
    · rw [z]
      exact Nat.le_succ _
    · rw [z]
      exact Nat.le_refl _
  exact I1.fpOk hle (I1.hok.fresh hle)
theorem walk_enumT {K : PySem.W.Frag} {a : Addr} {xs : List V} : Walk (IteT K a) xs.length (fun H => SqT K H a xs) (YPair (fun i => some (.int (i : Nat))) (fun i => xs[i]?)) := by
  refine ⟨?_, ?_, ?_⟩
  · intro i _ hi q
    exact ⟨xs, xs[i], q, by simp [hi]⟩
  · intro _ q
    exact ⟨xs, q, rfl⟩
  · rintro i H v H' _ q ⟨T, x, h1, h2, h3, h4⟩
    exact ⟨T, .int (i : Nat), x, h1, h2, h3, rfl, h4 xs q⟩
end SfG
namespace SfG
open PySem PySem.Spec PyProof.Rows L2
/-! ### d.update(e), two dicts -/
def rDUpd : V → List V → Hp → VK → Prop := fun x vs H Q => ∃ (a b : Addr) (kvs more : List (Key × V)), x = .ref a ∧ vs = [.ref b] ∧ H a = some (.dK kvs) ∧ H b = some (.dK more) ∧ a ≠ b ∧ kvs.length + more.length ≤ 1000 ∧ Q .non (upd H a (.dK (mergeK kvs more)))
theorem mt_dupd {X : Cx} : MtR X "dict.update" rDUpd := by
  intro pins s σ H x vs v us Q I rx rv h
  obtain ⟨a, b, kvs, more, rfl, rfl, ea, eb, ne, hz, q⟩ := h
  cases (show v = Value.ref a from rx)
  obtain ⟨u, rfl, ru⟩ := vals1 rv
  cases (show u = Value.ref b from ru)
  obtain ⟨za, ha, va, ra, da⟩ := dk_of I.hok ea
  obtain ⟨zb, hb, vb, rb, db⟩ := dk_of I.hok eb
  have sz : va.length + vb.length ≤ sizeLine := by
    rw [← ra.length, ← rb.length]
    exact Nat.le_of_lt (small1000 hz)
  refine call_meetsIn PySem.F.slot_dict_update da.typeIs PySem.F.entry_dict_update (PySem.F.args_dict_update_2 _ _) (meets_dict_update (mixKind X.prog X.w) a b ne hb) ⟨va, vb, da, db, sz, fun h' dd' _ hs => ?_⟩
  have he : ∃ o, h'.get? a = some o := by
    obtain ⟨o, _, _, ho, _⟩ := dd'
    exact ⟨o, ho⟩
  have hm : (mergeK kvs more).length ≤ sizeLine := by
    have := length_mergeK more kvs
    exact Nat.le_of_lt (small1000 (by omega))
  exact ⟨.non, _, d_write (t' := s.toks) I (by rw [ea]; exact True.intro) hs he (dk_new hm ha (rb.merge ra) dd'), rfl, q⟩
/-! ### xs[b], b a truth -/
section
variable {prog : Program} {w : World} {A : Around} {E : Value → Shared → Prop} {s : Shared}
theorem sub_bool {M : Model} {b : Bool} {Q : Option Int → Shared → Prop} (h : Q (some (if b then 1 else 0)) s) : wpAny M A (Builtin.List.listSubscript? (.bool b)) Q E s := by
  unfold Builtin.List.listSubscript?
  refine wpAny_bind (wpAny_specialOf (T := "bool") (show s.TypeIs (.bool b) "bool" from rfl) PySem.F.slot_bool_index.lookup ?_)
  cases b with
  | true =>
    refine wpAny_bind (wpAny_of_eq (a := (1 : Int)) rfl ?_)
    exact wpAny_pure h
  | false =>
    refine wpAny_bind (wpAny_of_eq (a := (0 : Int)) rfl ?_)
    exact wpAny_pure h
theorem get_bool {l : Addr} {items : Array Value} {b : Bool} {x : Value} {Q : Value → Shared → Prop} (hl : s.heap.IsList l items) (hx : items[(if b then 1 else 0)]? = some x) (h : Q x s) :
    wpAny (model prog w) A (getItem (.ref l) (.bool b)) Q E s := by
  obtain ⟨o, ho, hc, ne, hd⟩ := id hl
  unfold getItem
  try with_reducible refine wpAny_holding ?_
  first | refine wpAny_bind (wpAny_pure ?_) | skip
  refine wpAny_bind (wpAny_sequenceKey hl.typeIs (by decide) ?_)
  refine wpAny_bind (wpAny_callSpecial?_slot (name := Str.ofString "__getitem__") hl.typeIs slot_list_getitem (wpAny_call_entry slot_list_getitem hl.typeIs entry_list_getitem ?_ (args_list_getitem _ _)))
  refine wpAny_bind (m := Builtin.List.listSubscript? (.bool b)) (sub_bool ?_)
  cases b with
  | true =>
    show wpAny _ _ ((seqItemAt l 1 >>= fun r => pure (r.map (1, ·))) >>= _) _ _ s
    refine wpAny_bind (wpAny_bind (wpAny_seqItemAt ho hd (wpAny_pure ?_)))
    rw [show items[1]? = some x from hx]
    first
      | exact wpAny_bind (wpAny_pure (wpAny_pure ⟨x, rfl, wpAny_pure h⟩))
      | exact wpAny_pure ⟨x, rfl, wpAny_pure h⟩
  | false =>
    show wpAny _ _ ((seqItemAt l 0 >>= fun r => pure (r.map (0, ·))) >>= _) _ _ s
    refine wpAny_bind (wpAny_bind (wpAny_seqItemAt ho hd (wpAny_pure ?_)))
    rw [show items[0]? = some x from hx]
    first
      | exact wpAny_bind (wpAny_pure (wpAny_pure ⟨x, rfl, wpAny_pure h⟩))
      | exact wpAny_pure ⟨x, rfl, wpAny_pure h⟩
end
def rIxB (K : PySem.W.Frag) : R2 := fun x y H Q => ∃ (p : Addr) (xs : List V) (b : Bool) (v : V), x = .ref p ∧ y = .bl b ∧ SqL K H p xs ∧ xs[(if b then 1 else 0)]? = some v ∧ Q v H
theorem ix_bool {X : Cx} : IxR X (rIxB X.K) := by
  intro value slice pins s σ H x y v u Q I rx ry h hs
  obtain ⟨p, xs, b, z, rfl, rfl, hq, he, q⟩ := h
  cases (show v = Value.ref p from rx)
  cases (show u = Value.bool b from ry)
  obtain ⟨its, r, pl, hz⟩ := I.list hq
  obtain ⟨t, et, rt⟩ := r.get he
  exact subscriptTail_builtinR pl.isList.typeIs PySem.slot_list_getitem.lookup (get_bool (Q := fun r' s' => r' = t ∧ EP X pins σ Q r' s') pl.isList (by simpa using et) ⟨rfl, z, H, I, rt, q⟩) hs
end SfG
namespace SfG
open PySem PySem.Spec PyProof.Rows L2
/-! ### repr of None, of a number, of a list or a tuple -/
def rReprA (K : PySem.W.Frag) : List V → Hp → VK → Prop := fun xs H Q =>
  ∃ (v : V) (d : PyData) (S : Str), xs = [v] ∧ Dp K H v d ∧ (v = .non ∨ (∃ i, v = .int i) ∨ ∃ a, v = .ref a) ∧ d.showable = true ∧ d.hasDict = false ∧
    d.depth ≤ 30 ∧ d.shown = S ∧ S.length ≤ sizeLine ∧ Q (.str S) H
theorem call_reprA {X : Cx} {k : Nat} (hr : Room k X.A) (hgd : X.A.guards = some []) :
    CallR X (.builtin "repr") (rReprA X.K) := by
  intro pins s σ H xs us Q I r h
  obtain ⟨v, d, S, rfl, hd, hv, hs, hn, hdep, rfl, hz, q⟩ := h
  rcases hv with rfl | ⟨i, rfl⟩ | ⟨a, rfl⟩
  · cases hd
    obtain ⟨u, rfl, ru⟩ := vals1 r
    cases ru
    exact PySem.P.repr_of_none ⟨.str _, H, I.tok _, ⟨_, rfl⟩, q⟩
  · cases hd
    obtain ⟨u, rfl, t, rfl⟩ := vals1 r
    exact PySem.P.repr_of_int (by simpa [PyData.showable] using hs) ⟨.str _, H, I.tok _, ⟨_, rfl⟩, q⟩
  · exact call_repr hr hgd pins s σ H _ us Q I r ⟨a, d, _, rfl, hd, hs, hn, hdep, rfl, hz, q⟩
/-! ### what can be shown, and how long that is -/
structure Sh (d : PyData) (L D : Nat) : Prop where
  able : d.showable = true
  nod : d.hasDict = false
  dep : d.depth ≤ D
  len : d.shown.length ≤ L
structure ShA (ds : List PyData) (L D : Nat) : Prop where
  able : PyData.showableAll ds = true
  nod : PyData.hasDictAll ds = false
  dep : PyData.depthAll ds ≤ D
  len : ((PyData.shownAll ds).map (·.length)).sum + 2 * ds.length ≤ L
theorem Sh.mono {d : PyData} {L D L' D' : Nat} (h : Sh d L D) (hL : L ≤ L') (hD : D ≤ D') : Sh d L' D' := ⟨h.able, h.nod, Nat.le_trans h.dep hD, Nat.le_trans h.len hL⟩
theorem ShA.mono {d : List PyData} {L D L' D' : Nat} (h : ShA d L D) (hL : L ≤ L') (hD : D ≤ D') : ShA d L' D' := ⟨h.able, h.nod, Nat.le_trans h.dep hD, Nat.le_trans h.len hL⟩
theorem ShA.nil {D : Nat} : ShA [] 0 D := ⟨rfl, rfl, by simp [PyData.depthAll], by simp [PyData.shownAll]⟩
theorem ShA.cons {d : PyData} {ds : List PyData} {L1 L2 D : Nat} (h : Sh d L1 D) (t : ShA ds L2 D) : ShA (d :: ds) (L1 + 2 + L2) D := by
  refine ⟨?_, ?_, ?_, ?_⟩
  · rw [PyData.showableAll, h.able, t.able]
    rfl
  · rw [PyData.hasDictAll, h.nod, t.nod]
    rfl
  · have h1 := h.dep
    have h2 := t.dep
    simp only [PyData.depthAll]
    omega
  · have h1 := h.len
    have h2 := t.len
    simp only [PyData.shownAll, List.map_cons, List.sum_cons, List.length_cons]
    omega
theorem Sh.tup {ds : List PyData} {L D : Nat} (h : ShA ds L D) : Sh (.tuple ds) (L + 3) (D + 1) := by
  refine ⟨h.able, h.nod, ?_, ?_⟩
  · have h1 := h.dep
    simp only [PyData.depth]
    omega
  · have h1 := h.len
    have h2 := tupleText_len_le (PyData.shownAll ds)
    have h3 := PyData.shownAll_length ds
    simp only [PyData.shown]
    omega
theorem Sh.lst {ds : List PyData} {L D : Nat} (h : ShA ds L D) : Sh (.list ds) (L + 3) (D + 1) := by
  refine ⟨h.able, h.nod, ?_, ?_⟩
  · have h1 := h.dep
    simp only [PyData.depth]
    omega
  · have h1 := h.len
    have h2 := listText_len_le (PyData.shownAll ds)
    have h3 := PyData.shownAll_length ds
    simp only [PyData.shown]
    omega
theorem Sh.non {D : Nat} : Sh .none 4 (D + 1) := ⟨rfl, rfl, by simp [PyData.depth], by decide⟩
theorem Sh.int {i : Int} {k D : Nat} (h : i.natAbs < 2 ^ k) (h0 : 0 < k) (hk : k ≤ 1920) : Sh (.int i) (k + 1) (D + 1) := by
  have hl : i.natAbs.log2 < k := by
    by_cases z : i.natAbs = 0
    · rw [z]
      exact h0
    · exact (Nat.log2_lt z).mpr h
  refine ⟨by simp only [PyData.showable]; exact decide_eq_true (by omega), rfl, by simp [PyData.depth], ?_⟩
  have e := int_text_length_le h0 hl
  show (Str.ofString (toString i)).length ≤ k + 1
  rw [PySem.ofString_length]
  exact e
theorem ShA.ints {k D : Nat} (h0 : 0 < k) (hk : k ≤ 1920) : ∀ {l : List Int}, (∀ x ∈ l, x.natAbs < 2 ^ k) → ShA (l.map PyData.int) (l.length * (k + 3)) (D + 1)
  | [], _ => ShA.nil.mono (by omega) (Nat.le_refl _)
  | a :: r, h => by
    have h1 := ShA.cons (Sh.int (h a List.mem_cons_self) h0 hk) (ShA.ints (D := D) h0 hk (l := r) fun x hx => h x (List.mem_cons_of_mem _ hx))
    refine h1.mono ?_ (Nat.le_refl _)
    rw [List.length_cons, Nat.succ_mul]
    omega
theorem Sh.fits {d : PyData} {L D : Nat} (h : Sh d L D) (hL : L ≤ 10000000) : d.shown.length ≤ sizeLine := by
  rw [sizeLine_eq]
  have := h.len
  omega
end SfG
namespace SfG
open PySem PySem.Spec PyProof.Rows L2
/-! ### the kind of plain data -/
def tyD : PyData → String
  | .none => "NoneType"
  | .bool _ => "bool"
  | .int _ => "int"
  | .str _ => "str"
  | .list _ => "list"
  | .tuple _ => "tuple"
  | .dict _ => "dict"
theorem tyx_tup {K : PySem.W.Frag} {H : Hp} {p : Addr} {xs : List V} (h : SqT K H p xs) : TyX K H (.ref p) (.type "tuple") := by
  rcases h with (h | ⟨o, h⟩) | ⟨o, its, n, h1, h2, _⟩
  · exact .base (.tup h)
  · exact .fTuple h
  · exact .kTuple h1 h2
theorem tyx_lst {K : PySem.W.Frag} {H : Hp} {p : Addr} {xs : List V} (h : SqL K H p xs) : TyX K H (.ref p) (.type "list") := by
  rcases h with (h | ⟨o, h⟩) | ⟨o, its, n, h1, h2, _⟩
  · exact .base (.lst h)
  · exact .base (.frz h)
  · exact .kList h1 h2
theorem dp_is {K : PySem.W.Frag} {H : Hp} {v : V} {d : PyData} (h : Dp K H v d) : Is K H v (tyD d) := by
  cases h with
  | non => exact ⟨.base .non, by decide +kernel⟩
  | bl b => exact ⟨.base (.bl b), by show "bool" ∈ kinds; decide +kernel⟩
  | int i => exact ⟨.base (.int i), by show "int" ∈ kinds; decide +kernel⟩
  | str x => exact ⟨.base (.str x), by show "str" ∈ kinds; decide +kernel⟩
  | lst h _ => exact ⟨tyx_lst h, by show "list" ∈ kinds; decide +kernel⟩
  | tup h _ => exact ⟨tyx_tup h, by show "tuple" ∈ kinds; decide +kernel⟩
theorem kit_tuple : ∀ T ∈ kinds, kitB T "tuple" = some (T == "tuple") := by decide +kernel
def whD : PyData → Bool
  | .int _ => true
  | _ => false
def amD (d : PyData) (lo hi : Int) : Bool := match d with
  | .int i => decide (lo ≤ i) && decide (i ≤ hi)
  | _ => false
def tupD (d : PyData) (lo hi : Int) : Bool := match d with
  | .tuple ds => decide (lo ≤ (ds.length : Int)) && decide ((ds.length : Int) ≤ hi)
  | _ => false
end SfG
/-! i <= x, i < x, x a whole number or a truth -/
namespace SfG
open PySem PySem.Spec PyProof.Rows L2
def b2i (b : Bool) : Int := if b = true then 1 else 0
theorem ge_bool_int (a : Bool) (b : Int) (u : Tok) : Gives (Builtin.«int.__ge__» ⟨[.bool a, .int b u], []⟩) (.val (Value.bool ((fun x1 x2 => decide (x1 ≥ x2)) (if a = true then (1 : Int) else 0) b))) :=
  .of_wp fun M A E s Q h => by obtain ⟨hp, g, d, tk, os⟩ := s; wp_walk; exact ⟨_, rfl, h⟩
theorem gt_bool_int (a : Bool) (b : Int) (u : Tok) : Gives (Builtin.«int.__gt__» ⟨[.bool a, .int b u], []⟩) (.val (Value.bool ((fun x1 x2 => decide (x1 > x2)) (if a = true then (1 : Int) else 0) b))) :=
  .of_wp fun M A E s Q h => by obtain ⟨hp, g, d, tk, os⟩ := s; wp_walk; exact ⟨_, rfl, h⟩
section
variable {X : Cx}
def rLeX : R2 := fun x y H Q => ∃ i : Int, x = .int i ∧ ((∃ j : Int, y = .int j ∧ Q (.bl (decide (i ≤ j))) H) ∨ ∃ b : Bool, y = .bl b ∧ Q (.bl (decide (i ≤ b2i b))) H)
theorem op_leX : OpR X (compareOp .LtE) rLeX := by
  intro pins s σ H x y v u Q I rx ry h
  obtain ⟨i, rfl, ⟨j, rfl, q⟩ | ⟨b, rfl, q⟩⟩ := h
  · exact op_le pins s σ H _ _ v u Q I rx ry ⟨i, j, rfl, rfl, q⟩
  · obtain ⟨t, rfl⟩ := _root_.id rx
    cases (show u = Value.bool b from ry)
    show wpAny _ _ (richCompare .LtE (.int i t) (.bool b)) _ _ s
    exact SeqAt.rc_sub_first_or (typeIs_int s i t) rfl (by decide) F.sub_bool_int F.slot_bool_ge_refl
      (call_gives F.slot_bool_ge_refl rfl F.entry_int_ge (F.args_int_ge_2 _ _) (ge_bool_int b i t) ⟨nofun, ⟨.bl (decide (i ≤ b2i b)), H, I, rfl, q⟩⟩) (.inl rfl)
def rLtX : R2 := fun x y H Q => ∃ i : Int, x = .int i ∧ ((∃ j : Int, y = .int j ∧ Q (.bl (decide (i < j))) H) ∨ ∃ b : Bool, y = .bl b ∧ Q (.bl (decide (i < b2i b))) H)
theorem op_ltX : OpR X (compareOp .Lt) rLtX := by
  intro pins s σ H x y v u Q I rx ry h
  obtain ⟨i, rfl, ⟨j, rfl, q⟩ | ⟨b, rfl, q⟩⟩ := h
  · exact op_lt pins s σ H _ _ v u Q I rx ry ⟨i, j, rfl, rfl, q⟩
  · obtain ⟨t, rfl⟩ := _root_.id rx
    cases (show u = Value.bool b from ry)
    show wpAny _ _ (richCompare .Lt (.int i t) (.bool b)) _ _ s
    exact SeqAt.rc_sub_first_or (typeIs_int s i t) rfl (by decide) F.sub_bool_int F.slot_bool_gt_refl
      (call_gives F.slot_bool_gt_refl rfl F.entry_int_gt (F.args_int_gt_2 _ _) (gt_bool_int b i t) ⟨nofun, ⟨.bl (decide (i < b2i b)), H, I, rfl, q⟩⟩) (.inl rfl)
end
end SfG
/-! data with empty dicts: what is read, shown, compared -/
namespace SfG
open PySem PySem.Spec PyProof.Rows L2
mutual
inductive Dx (K : PySem.W.Frag) (H : Hp) : V → PyData → Prop
  | non : Dx K H .non .none
  | bl (b : Bool) : Dx K H (.bl b) (.bool b)
  | int (i : Int) : Dx K H (.int i) (.int i)
  | str (z : Str) : Dx K H (.str z) (.str z)
  | lst {p : Addr} {l : List V} {ds : List PyData} : SqL K H p l → DxA K H l ds → Dx K H (.ref p) (.list ds)
  | tup {p : Addr} {l : List V} {ds : List PyData} : SqT K H p l → DxA K H l ds → Dx K H (.ref p) (.tuple ds)
  | emp {p : Addr} : H p = some (.dK []) → Dx K H (.ref p) (.dict [])
inductive DxA (K : PySem.W.Frag) (H : Hp) : List V → List PyData → Prop
  | nil : DxA K H [] []
  | cons {v : V} {l : List V} {d : PyData} {ds : List PyData} : Dx K H v d → DxA K H l ds → DxA K H (v :: l) (d :: ds)
end
section
variable {X : Cx} {pins : List (Addr × Obj)} {σ : L2.St} {H : Hp} {s : Shared}
theorem emp_at (I : L2.Inv X pins σ H s) {p : Addr} (h : H p = some (.dK [])) : ∃ o n, s.heap.get? p = some o ∧ o.cls = .type "dict" ∧ o.data = .dict #[] n ∧ (p == sysModules) = false := by
  obtain ⟨_, hsm, vs, r, o, es, ep, e1, e2, e3, e4, e5, _⟩ := dk_of I.hok h
  cases r
  obtain ⟨l⟩ := es
  have e5' : Pairs (mixKind X.prog X.w) l [] := e5
  have e : l = [] := by
    cases l with
    | nil => rfl
    | cons a b => cases e5'
  subst e
  exact ⟨o, ep, e1, e2.1, e3, hsm⟩
mutual
theorem Dx.reads (I : L2.Inv X pins σ H s) : ∀ (d : PyData) (v : V) (u : Value), Dx X.K H v d → RelV v u → ∃ q, Reads s.heap u d q
  | .none, _, _, h, r => by
    cases h
    cases r
    exact ⟨_, .none⟩
  | .bool b, _, _, h, r => by
    cases h
    cases r
    exact ⟨_, .bool b⟩
  | .int i, _, _, h, r => by
    cases h
    obtain ⟨t, rfl⟩ := r
    exact ⟨_, .int i t⟩
  | .str x, _, _, h, r => by
    cases h
    obtain ⟨t, rfl⟩ := r
    exact ⟨_, .str x t⟩
  | .list ds, _, _, h, r => by
    cases h with
    | lst hp hl =>
      cases r
      obtain ⟨us, rv, ⟨o, n, g1, g2, _, g3⟩, _⟩ := I.list hp
      obtain ⟨q, hq⟩ := DxA.reads I ds _ us hl rv
      exact ⟨_, .list g1 g2 g3 hq⟩
  | .tuple ds, _, _, h, r => by
    cases h with
    | tup hp hl =>
      cases r
      obtain ⟨us, rv, ⟨o, g1, g2, n, g3⟩, _⟩ := I.tuple hp
      obtain ⟨q, hq⟩ := DxA.reads I ds _ us hl rv
      exact ⟨_, .tuple g1 g2 g3 hq⟩
  | .dict _, _, _, h, r => by
    cases h with
    | emp hp =>
      cases r
      obtain ⟨o, n, g1, g2, g3, _⟩ := emp_at I hp
      exact ⟨_, .dict g1 g2 g3 ReadsAll.nil ReadsAll.nil⟩
theorem DxA.reads (I : L2.Inv X pins σ H s) : ∀ (ds : List PyData) (l : List V) (us : List Value), DxA X.K H l ds → Vals l us → ∃ q, ReadsAll s.heap us ds q
  | [], _, _, h, r => by
    cases h
    cases r
    exact ⟨_, .nil⟩
  | d :: ds, _, _, h, r => by
    cases h with
    | cons h1 h2 =>
      cases r with
      | cons r1 r2 =>
        obtain ⟨q1, g1⟩ := Dx.reads I d _ _ h1 r1
        obtain ⟨q2, g2⟩ := DxA.reads I ds _ _ h2 r2
        exact ⟨_, .cons g1 g2⟩
end
theorem noRead (h : Heap) (n : Nat) : ReadAtMost h n [] := by
  intro b z
  cases z
theorem text_empty_dict : PyData.shown (.dict []) = dictText [] := rfl
mutual
/-- what is shown of it, at any depth -/
theorem Dx.look (I : L2.Inv X pins σ H s) : ∀ (d : PyData) (v : V) (u : Value), Dx X.K H v d → RelV v u → d.showable = true → d.shown.length ≤ sizeLine →
    ∃ q, ReadAtMost s.heap d.depth q ∧ ReprK X.prog X.w q s.heap d.depth u d.shown
  | .none, _, _, h, r, _, _ => by
    cases h
    cases r
    exact ⟨[], noRead _ _, .of_is ReprIs.none _ _ _⟩
  | .bool b, _, _, h, r, _, _ => by
    cases h
    cases r
    exact ⟨[], noRead _ _, .of_is (ReprIs.bool b) _ _ _⟩
  | .int i, _, _, h, r, hs, _ => by
    cases h
    obtain ⟨t, rfl⟩ := r
    exact ⟨[], noRead _ _, .of_is (ReprIs.int t (of_decide_eq_true hs)) _ _ _⟩
  | .str x, _, _, h, r, _, hz => by
    cases h
    obtain ⟨t, rfl⟩ := r
    exact ⟨[], noRead _ _, .of_is (ReprIs.str x t hz) _ _ _⟩
  | .list ds, v, u, h, r, hs, hz => by
    obtain ⟨q0, rd⟩ := Dx.reads I _ v u h r
    cases h with
    | lst hp hl =>
      cases r
      obtain ⟨us, rv, ⟨o, n, g1, g2, _, g3⟩, _⟩ := I.list hp
      have hz1 : (listText (PyData.shownAll ds)).length ≤ sizeLine := hz
      obtain ⟨q, hq, hk⟩ := DxA.look I ds _ us hl rv hs fun t ht => Nat.le_trans (listText_mem_le ht) hz1
      have hd : (PyData.list ds).depth = PyData.depthAll ds + 1 := by rw [PyData.depth]
      have hn := not_mem_of_deeper rd (by omega) hq
      refine ⟨_ :: q, .cons rd (by omega) hq, ?_⟩
      rw [hd]
      show ReprK _ _ _ _ _ _ (listText (PyData.shownAll ds))
      cases us with
      | nil =>
        have e : PyData.shownAll ds = [] := List.length_eq_zero_iff.mp hk.length_eq
        rw [e]
        exact .listEmpty g1 g2 g3
      | cons a b => exact .list g1 g2 g3 hn (by simpa using hk.length_eq) fun i y e => hk.item i y (by simpa using e)
  | .tuple ds, v, u, h, r, hs, hz => by
    obtain ⟨q0, rd⟩ := Dx.reads I _ v u h r
    cases h with
    | tup hp hl =>
      cases r
      obtain ⟨us, rv, ⟨o, g1, g2, n, g3⟩, _⟩ := I.tuple hp
      have hz1 : (tupleText (PyData.shownAll ds)).length ≤ sizeLine := hz
      obtain ⟨q, hq, hk⟩ := DxA.look I ds _ us hl rv hs fun t ht => Nat.le_trans (tupleText_mem_le ht) hz1
      have hd : (PyData.tuple ds).depth = PyData.depthAll ds + 1 := by rw [PyData.depth]
      have hn := not_mem_of_deeper rd (by omega) hq
      refine ⟨_ :: q, .cons rd (by omega) hq, ?_⟩
      rw [hd]
      exact .tuple g1 g2 g3 hn hk
  | .dict _, v, u, h, r, _, _ => by
    obtain ⟨q0, rd⟩ := Dx.reads I _ v u h r
    cases h with
    | emp hp =>
      cases r
      obtain ⟨o, n, g1, g2, g3, g4⟩ := emp_at I hp
      have hd : (PyData.dict []).depth = 0 + 1 := by decide
      refine ⟨[_], .cons rd (n := 0) (by omega) (noRead _ _), ?_⟩
      rw [hd, text_empty_dict]
      exact .dict g1 g2 g3 g4 (by simp) ReprEntriesK.nil
theorem DxA.look (I : L2.Inv X pins σ H s) : ∀ (ds : List PyData) (l : List V) (us : List Value), DxA X.K H l ds → Vals l us → PyData.showableAll ds = true → (∀ t ∈ PyData.shownAll ds, t.length ≤ sizeLine) →
    ∃ q, ReadAtMost s.heap (PyData.depthAll ds) q ∧ ReprAllK X.prog X.w q s.heap (PyData.depthAll ds) us (PyData.shownAll ds)
  | [], _, _, h, r, _, _ => by
    cases h
    cases r
    exact ⟨[], noRead _ _, ReprAllK.nil⟩
  | d :: ds, _, _, h, r, hs, hz => by
    cases h with
    | cons h1 h2 =>
      cases r with
      | cons r1 r2 =>
        rw [PyData.showableAll, Bool.and_eq_true] at hs
        have hm : d.shown ∈ PyData.shownAll (d :: ds) := by
          rw [PyData.shownAll]
          exact List.mem_cons_self
        obtain ⟨q1, a1, k1⟩ := Dx.look I d _ _ h1 r1 hs.1 (hz _ hm)
        obtain ⟨q2, a2, k2⟩ := DxA.look I ds _ _ h2 r2 hs.2 fun t ht => hz t (by rw [PyData.shownAll]; exact List.mem_cons_of_mem _ ht)
        have m1 : d.depth ≤ PyData.depthAll (d :: ds) := by
          rw [PyData.depthAll]
          omega
        have m2 : PyData.depthAll ds ≤ PyData.depthAll (d :: ds) := by
          rw [PyData.depthAll]
          omega
        refine ⟨q1 ++ q2, (a1.mono m1).append (a2.mono m2), ?_⟩
        rw [PyData.shownAll]
        exact .cons ((k1.more fun b z => List.mem_append_left _ z).level_le m1) (k2.more_le (fun b z => List.mem_append_right _ z) m2)
end
end
/-! ### repr of a list of such data -/
def rReprX (K : PySem.W.Frag) : List V → Hp → VK → Prop := fun xs H Q =>
  ∃ (v : V) (ds : List PyData) (S : Str), xs = [v] ∧ Dx K H v (.list ds) ∧ PyData.showableAll ds = true ∧
    (PyData.list ds).depth ≤ 40 ∧ (PyData.list ds).shown = S ∧ S.length ≤ sizeLine ∧ Q (.str S) H
theorem call_reprX {X : Cx} {k : Nat} (hr : Room k X.A) (hgd : X.A.guards = some []) :
    CallR X (.builtin "repr") (rReprX X.K) := by
  intro pins s σ H xs us Q I r h
  obtain ⟨v, ds, S, rfl, hd, hs, hdep, rfl, hz, q⟩ := h
  obtain ⟨u, rfl, ru⟩ := vals1 r
  obtain ⟨q0, rd⟩ := Dx.reads I _ v u hd ru
  cases hd with
  | lst hp hl =>
    cases ru
    obtain ⟨vs, rv, ⟨o, n, g1, g2, _, g3⟩, _⟩ := I.list hp
    have hz1 : (listText (PyData.shownAll ds)).length ≤ sizeLine := hz
    obtain ⟨q1, hq, hk⟩ := DxA.look I ds _ vs hl rv hs fun t ht => Nat.le_trans (listText_mem_le ht) hz1
    have hde : (PyData.list ds).depth = PyData.depthAll ds + 1 := by rw [PyData.depth]
    have hn := not_mem_of_deeper rd (by omega) hq
    have hun := hr.un
    refine call_repr_slot (by omega) ⟨o, g1, g2⟩ F.slot_list_repr.toG ?_
    cases vs with
    | nil =>
      have e0 : PyData.shownAll ds = [] := List.length_eq_zero_iff.mp hk.length_eq
      have e : (PyData.list ds).shown = "[]" := by
        rw [PyData.shown, e0]
        rfl
      rw [e] at q
      exact call_list_repr_empty ⟨o, g1, g2⟩ g1 g3 ⟨_, _, rfl, .str "[]", H, I.tok _, ⟨_, rfl⟩, q⟩
    | cons a b =>
      refine call_list_reprK g1 g2 g3 hn (by simpa using hk.length_eq) (fun i y e => hk.item i y (by simpa using e)) (show X.A.in1.guards = some [] from hgd) (fun b _ => Clear.nil b) ?_ (fun _ _ z => z) (fun h' u' tk hk' => ?_) hz1
      · show X.A.units + 1 + _ < cLine
        omega
      · exact ⟨_, _, rfl, .str _, H, I.kept hk', ⟨_, rfl⟩, q⟩
end SfG
/-! such data: its parts, how it stays, == with a text, with () and [] -/
namespace SfG
open PySem PySem.Spec PyProof.Rows L2
section
variable {K : PySem.W.Frag} {H : Hp} {v : V}
theorem dx_str {z : Str} (h : Dx K H v (.str z)) : v = .str z := by cases h; rfl
theorem dx_int {n : Int} (h : Dx K H v (.int n)) : v = .int n := by cases h; rfl
theorem dx_bool {b : Bool} (h : Dx K H v (.bool b)) : v = .bl b := by cases h; rfl
theorem dx_tup {ds : List PyData} (h : Dx K H v (.tuple ds)) : ∃ p xs, v = .ref p ∧ SqT K H p xs ∧ DxA K H xs ds := by
  cases h with
  | tup h hs => exact ⟨_, _, rfl, h, hs⟩
theorem dx_lst {ds : List PyData} (h : Dx K H v (.list ds)) : ∃ p xs, v = .ref p ∧ SqL K H p xs ∧ DxA K H xs ds := by
  cases h with
  | lst h hs => exact ⟨_, _, rfl, h, hs⟩
theorem dxA_nil {xs : List V} (h : DxA K H xs []) : xs = [] := by cases h; rfl
theorem dxA_cons {xs : List V} {d : PyData} {ds : List PyData} (h : DxA K H xs (d :: ds)) : ∃ x r, xs = x :: r ∧ Dx K H x d ∧ DxA K H r ds := by
  cases h with
  | cons a b => exact ⟨_, _, rfl, a, b⟩
theorem dxA_len : ∀ {ds : List PyData} {xs : List V}, DxA K H xs ds → xs.length = ds.length
  | [], _, h => by
    rw [dxA_nil h]
    rfl
  | _ :: _, _, h => by
    obtain ⟨x, r, rfl, _, hr⟩ := dxA_cons h
    rw [List.length_cons, List.length_cons, dxA_len hr]
theorem dxA_get : ∀ {ds : List PyData} {xs : List V} {i : Nat} {d : PyData}, DxA K H xs ds → ds[i]? = some d → ∃ x, xs[i]? = some x ∧ Dx K H x d
  | [], _, i, d, _, h => by simp at h
  | a :: r, xs, 0, d, hs, h => by
    obtain ⟨x, r', rfl, hx, _⟩ := dxA_cons hs
    have e : a = d := Option.some.inj h
    exact ⟨x, rfl, e ▸ hx⟩
  | a :: r, xs, i + 1, d, hs, h => by
    obtain ⟨x, r', rfl, _, hr⟩ := dxA_cons hs
    obtain ⟨y, hy, hd⟩ := dxA_get hr (show r[i]? = some d from h)
    exact ⟨y, hy, hd⟩
/-- by the item -/
theorem dxA_at : ∀ {ds : List PyData} {xs : List V} {i : Nat} {x : V}, DxA K H xs ds → xs[i]? = some x → ∃ d, ds[i]? = some d ∧ Dx K H x d
  | [], _, i, d, hs, h => by
    rw [dxA_nil hs] at h
    simp at h
  | a :: r, xs, 0, d, hs, h => by
    obtain ⟨x, r', rfl, hx, _⟩ := dxA_cons hs
    have e : x = d := Option.some.inj h
    exact ⟨a, rfl, e ▸ hx⟩
  | a :: r, xs, i + 1, d, hs, h => by
    obtain ⟨x, r', rfl, _, hr⟩ := dxA_cons hs
    obtain ⟨y, hy, hd⟩ := dxA_at hr (show r'[i]? = some d from h)
    exact ⟨y, hy, hd⟩
theorem dxA_take : ∀ {ds : List PyData} {xs : List V} (n : Nat), DxA K H xs ds → DxA K H (xs.take n) (ds.take n)
  | [], _, n, h => by
    rw [dxA_nil h]
    simpa using DxA.nil
  | _ :: _, _, 0, _ => by simpa using DxA.nil
  | _ :: _, _, n + 1, h => by
    obtain ⟨x, r, rfl, hx, hr⟩ := dxA_cons h
    exact .cons hx (dxA_take n hr)
theorem dxA_drop : ∀ {ds : List PyData} {xs : List V} (n : Nat), DxA K H xs ds → DxA K H (xs.drop n) (ds.drop n)
  | [], _, n, h => by
    rw [dxA_nil h]
    simpa using DxA.nil
  | _ :: _, _, 0, h => h
  | _ :: _, _, n + 1, h => by
    obtain ⟨x, r, rfl, hx, hr⟩ := dxA_cons h
    exact dxA_drop n hr
theorem dxA_app : ∀ {ds es : List PyData} {xs ys : List V}, DxA K H xs ds → DxA K H ys es → DxA K H (xs ++ ys) (ds ++ es)
  | [], _, _, _, h, g => by
    rw [dxA_nil h]
    exact g
  | _ :: _, _, _, _, h, g => by
    obtain ⟨x, r, rfl, hx, hr⟩ := dxA_cons h
    exact .cons hx (dxA_app hr g)
theorem dxA_rev : ∀ {ds : List PyData} {xs : List V}, DxA K H xs ds → DxA K H xs.reverse ds.reverse
  | [], _, h => by
    rw [dxA_nil h]
    exact .nil
  | _ :: _, _, h => by
    obtain ⟨x, r, rfl, hx, hr⟩ := dxA_cons h
    rw [List.reverse_cons, List.reverse_cons]
    exact dxA_app (dxA_rev hr) (.cons hx .nil)
mutual
theorem Dp.dx : ∀ {d : PyData} {v : V}, Dp K H v d → Dx K H v d
  | _, _, .non => .non
  | _, _, .bl b => .bl b
  | _, _, .int i => .int i
  | _, _, .str x => .str x
  | _, _, .lst h hs => .lst h (Dp.dxA hs)
  | _, _, .tup h hs => .tup h (Dp.dxA hs)
theorem Dp.dxA : ∀ {ds : List PyData} {vs : List V}, DpAll K H vs ds → DxA K H vs ds
  | _, _, .nil => .nil
  | _, _, .cons h hs => .cons (Dp.dx h) (Dp.dxA hs)
end
end
/-- what keeps lists, tuples and empty dicts keeps such data -/
structure Kx (K : PySem.W.Frag) (H H' : Hp) : Prop where
  kd : Kd K H H'
  e : ∀ {p}, H p = some (.dK []) → H' p = some (.dK [])
theorem Gr.kx {K : PySem.W.Frag} {H H' : Hp} (g : Gr H H') : Kx K H H' := ⟨g.kd, fun h => g.dic h⟩
theorem Gp.kx {K : PySem.W.Frag} {p : Addr} {H H' : Hp} {k : Key × V} {kv : List (Key × V)} (g : Gp p H H') (hp : H p = some (.dK (k :: kv))) : Kx K H H' := by
  refine ⟨g.kd hp, ?_⟩
  intro b h
  refine g.keep b _ ?_ h (fun _ z => by cases z)
  intro z
  rw [z, hp] at h
  cases h
theorem Kx.trans {K : PySem.W.Frag} {H H1 H2 : Hp} (a : Kx K H H1) (b : Kx K H1 H2) : Kx K H H2 := ⟨⟨fun h => b.kd.l (a.kd.l h), fun h => b.kd.t (a.kd.t h)⟩, fun h => b.e (a.e h)⟩
mutual
theorem Kx.dx {K : PySem.W.Frag} {H H' : Hp} (g : Kx K H H') : ∀ {d : PyData} {v : V}, Dx K H v d → Dx K H' v d
  | _, _, .non => .non
  | _, _, .bl b => .bl b
  | _, _, .int i => .int i
  | _, _, .str x => .str x
  | _, _, .lst h hs => .lst (g.kd.l h) (g.dxA hs)
  | _, _, .tup h hs => .tup (g.kd.t h) (g.dxA hs)
  | _, _, .emp h => .emp (g.e h)
theorem Kx.dxA {K : PySem.W.Frag} {H H' : Hp} (g : Kx K H H') : ∀ {ds : List PyData} {vs : List V}, DxA K H vs ds → DxA K H' vs ds
  | _, _, .nil => .nil
  | _, _, .cons h hs => .cons (g.dx h) (g.dxA hs)
end
theorem dx_is {K : PySem.W.Frag} {H : Hp} {v : V} {d : PyData} (h : Dx K H v d) : Is K H v (tyD d) := by
  cases h with
  | non => exact ⟨.base .non, by decide +kernel⟩
  | bl b => exact ⟨.base (.bl b), by show "bool" ∈ kinds; decide +kernel⟩
  | int i => exact ⟨.base (.int i), by show "int" ∈ kinds; decide +kernel⟩
  | str x => exact ⟨.base (.str x), by show "str" ∈ kinds; decide +kernel⟩
  | lst h _ => exact ⟨tyx_lst h, by show "list" ∈ kinds; decide +kernel⟩
  | tup h _ => exact ⟨tyx_tup h, by show "tuple" ∈ kinds; decide +kernel⟩
  | emp h => exact ⟨.base (.dK h), by show "dict" ∈ kinds; decide +kernel⟩
/-! ### == -/
theorem dict_eq_str (l : Addr) (es : Array DictEntry) (n : Nat) (dd : Option Addr) (sl : Array (Option Value)) (b : Str) (u : Tok) :
    Meets (Builtin.«dict.__eq__» ⟨[.ref l, .str b u], []⟩) (fun _ R s => s.heap.get? l = some { cls := .type "dict", dict := dd, data := .dict es n, slots := sl } ∧ R (.ok (.ret .notImplemented)) s) := by
  refine .of_wp fun prog w A R s h => ?_
  obtain ⟨hp, g, d, tk, os⟩ := s
  obtain ⟨hl, h⟩ := h
  have f1 := F.sub_str_dict
  wp_walk using wpAny_loadPart' hl
  exact ⟨_, rfl, h⟩
theorem str_eq_dict (b : Str) (u : Tok) (l : Addr) (es : Array DictEntry) (n : Nat) (dd : Option Addr) (sl : Array (Option Value)) :
    Meets (Builtin.«str.__eq__» ⟨[.str b u, .ref l], []⟩) (fun _ R s => s.heap.get? l = some { cls := .type "dict", dict := dd, data := .dict es n, slots := sl } ∧ R (.ok (.ret .notImplemented)) s) := by
  refine .of_wp fun prog w A R s h => ?_
  obtain ⟨hp, g, d, tk, os⟩ := s
  obtain ⟨hl, h⟩ := h
  wp_walk using wpAny_loadPart' hl, wpAny_load hl
  exact ⟨_, rfl, h⟩
end SfG
namespace SfG
open PySem PySem.Spec PyProof.Rows L2
section
variable {A : Around} {s : Shared}
theorem rc_dict_str {l : Addr} {o : Obj} {es : Array DictEntry} {n : Nat} (b : Str) (u : Tok) (ho : s.heap.get? l = some o) (hc : o.cls = .type "dict") (hd : o.data = .dict es n) (hu : A.units < cLine) :
    SeqAt.RcAt A s (.ref l) (.str b u) false := fun prog w E Q h => by
  obtain ⟨cls, dd, data, sl⟩ := o
  simp only at hc hd
  subst hc hd
  refine SeqAt.rc_eq_decline_or (k := false) ⟨_, ho, rfl⟩ (typeIs_str s b u) (by decide) F.sub_str_dict F.slot_dict_eq F.slot_str_eq_refl ?_ ?_ ?_ (.inr hu) h
  · intro Q' hq
    exact call_meets F.slot_dict_eq ⟨_, ho, rfl⟩ F.entry_dict_eq (F.args_dict_eq_2 _ _) (dict_eq_str l es n dd sl b u) ⟨ho, hq⟩
  · intro Q' hq
    exact call_meets F.slot_str_eq_refl (typeIs_str s b u) F.entry_str_eq (F.args_str_eq_2 _ _) (str_eq_dict b u l es n dd sl) ⟨ho, hq⟩
  · intro Q' hq
    exact wpAny_of_eq (show isSame (.ref l) (.str b u) = pure false from rfl) hq
end
/-- a thing is this text -/
def eqS : PyData → Str → Bool
  | .str a, z => decide (a = z)
  | _, _ => false
def rEqXS (K : PySem.W.Frag) : R2 := fun x y H Q => ∃ (d : PyData) (z : Str), Dx K H x d ∧ y = .str z ∧ Q (.bl (eqS d z)) H
section
variable {X : Cx}
theorem op_eqXS {k : Nat} (hr : Room k X.A) : OpR X (compareOp .Eq) (rEqXS X.K) := by
  intro pins s σ H x y v u Q I rx ry h
  obtain ⟨d, z, hx, rfl, q⟩ := h
  obtain ⟨t, rfl⟩ := ry
  have hu : X.A.units < cLine := by
    have := hr.un
    omega
  have fin : Q (.bl (eqS d z)) H → EP X pins σ Q (.bool (eqS d z)) s := fun q => ⟨.bl _, H, I, rfl, q⟩
  cases hx with
  | non =>
    cases rx
    exact SeqAt.RcAt.none_str z t _ _ _ _ (fin q)
  | bl b =>
    cases rx
    exact SeqAt.RcAt.bool_str b z t _ _ _ _ (fin q)
  | int i =>
    obtain ⟨t', rfl⟩ := rx
    exact SeqAt.RcAt.int_str i t' z t _ _ _ _ (fin q)
  | str a =>
    obtain ⟨t', rfl⟩ := rx
    have e : (a == z) = decide (a = z) := by
      by_cases c : a = z
      · rw [decide_eq_true c, c]
        exact beq_self_eq_true z
      · rw [decide_eq_false c]
        exact beq_eq_false_iff_ne.mpr c
    refine SeqAt.RcAt.str_str a t' z t _ _ _ _ ?_
    rw [e]
    exact fin q
  | lst hp hl =>
    cases rx
    obtain ⟨us, rv, ⟨o, n, g1, g2, _, g3⟩, _⟩ := I.list hp
    exact SeqAt.RcAt.list_str z t ⟨o, g1, g2, n, g3⟩ hu _ _ _ _ (fin q)
  | tup hp hl =>
    cases rx
    obtain ⟨us, rv, ⟨o, g1, g2, n, g3⟩, _⟩ := I.tuple hp
    exact SeqAt.RcAt.tuple_str z t ⟨o, g1, g2, n, g3⟩ hu _ _ _ _ (fin q)
  | emp hp =>
    cases rx
    obtain ⟨o, n, g1, g2, g3, _⟩ := emp_at I hp
    exact rc_dict_str z t g1 g2 g3 hu _ _ _ _ (fin q)
def rEqT0 (K : PySem.W.Frag) : R2 := fun x y H Q => ∃ (p q : Addr) (l : List V), x = .ref p ∧ y = .ref q ∧ SqT K H p l ∧ SqT K H q [] ∧ Q (.bl l.isEmpty) H
theorem op_eqT0 {k : Nat} (hr : Room k X.A) : OpR X (compareOp .Eq) (rEqT0 X.K) := by
  intro pins s σ H x y v u Q I rx ry h
  obtain ⟨p, q, l, rfl, rfl, hp, hq, g⟩ := h
  cases rx
  cases ry
  have hu : X.A.units < cLine := by
    have := hr.un
    omega
  obtain ⟨us, rv, tp, _⟩ := I.tuple hp
  obtain ⟨ws, rw', tq, _⟩ := I.tuple hq
  cases rw'
  refine SeqAt.eq_tupleAt (e := fun _ => true) tp tq hu (fun j h1 h2 => absurd h2 (by simp)) ?_
  have e : ((List.range (min us.toArray.size ([] : List Value).toArray.size)).all (fun _ => true) && us.toArray.size == ([] : List Value).toArray.size) = l.isEmpty := by
    cases rv with
    | nil => rfl
    | cons a b => simp
  rw [e]
  exact ⟨.bl _, H, I, rfl, g⟩
def rEqL0 (K : PySem.W.Frag) : R2 := fun x y H Q => ∃ (p q : Addr) (l : List V), x = .ref p ∧ y = .ref q ∧ SqL K H p l ∧ SqL K H q [] ∧ Q (.bl l.isEmpty) H
theorem op_eqL0 {k : Nat} (hr : Room k X.A) : OpR X (compareOp .Eq) (rEqL0 X.K) := by
  intro pins s σ H x y v u Q I rx ry h
  obtain ⟨p, q, l, rfl, rfl, hp, hq, g⟩ := h
  cases rx
  cases ry
  have hu : X.A.units < cLine := by
    have := hr.un
    omega
  obtain ⟨us, rv, ⟨o, n, a1, a2, _, a3⟩, _⟩ := I.list hp
  obtain ⟨ws, rw', ⟨o2, n2, b1, b2, _, b3⟩, _⟩ := I.list hq
  cases rw'
  cases rv with
  | nil => exact SeqAt.eq_listAt (e := fun _ => true) ⟨o, a1, a2, n, a3⟩ ⟨o2, b1, b2, n2, b3⟩ rfl hu (fun j h1 h2 => absurd h2 (by simp)) ⟨.bl true, H, I, rfl, g⟩
  | cons a b => exact SeqAt.eq_list_lengthsAt ⟨o, a1, a2, n, a3⟩ ⟨o2, b1, b2, n2, b3⟩ (by simp) hu ⟨.bl false, H, I, rfl, g⟩
end
end SfG
/-! xs != [] -/
namespace SfG
open PySem PySem.Spec PyProof.Rows L2
def rNeL0 (K : PySem.W.Frag) : R2 := fun x y H Q => ∃ (p q : Addr) (l : List V), x = .ref p ∧ y = .ref q ∧ SqL K H p l ∧ SqL K H q [] ∧ Q (.bl (!l.isEmpty)) H
theorem op_neL0 {X : Cx} {k : Nat} (hr : Room k X.A) : OpR X (compareOp .NotEq) (rNeL0 X.K) := by
  intro pins s σ H x y v u Q I rx ry h
  obtain ⟨p, q, l, rfl, rfl, hp, hq, g⟩ := h
  cases rx
  cases ry
  have hu : X.A.units < cLine := by
    have := hr.un
    omega
  obtain ⟨us, rv, ⟨o, n, a1, a2, _, a3⟩, _⟩ := I.list hp
  obtain ⟨ws, rw', ⟨o2, n2, b1, b2, _, b3⟩, _⟩ := I.list hq
  cases rw'
  show wpAny _ _ (richCompare .NotEq _ _) _ _ s
  cases rv with
  | nil => exact SeqAt.RcNeAt.lists (e := fun _ => true) ⟨o, a1, a2, n, a3⟩ ⟨o2, b1, b2, n2, b3⟩ rfl hu (fun j h1 h2 => absurd h2 (by simp)) _ _ _ _ ⟨.bl false, H, I, rfl, g⟩
  | cons a b => exact SeqAt.RcNeAt.lists_lengths ⟨o, a1, a2, n, a3⟩ ⟨o2, b1, b2, n2, b3⟩ (by simp) hu _ _ _ _ ⟨.bl true, H, I, rfl, g⟩
end SfG
/-! how great data is -/
namespace SfG
open PySem PySem.Spec PyProof.Rows L2
mutual
/-- how long it is when shown, at most -/
def wt : PyData → Nat
  | .none => 5
  | .bool _ => 5
  | .int i => i.natAbs.log2 + 3
  | .str z => 10 * z.length + 2
  | .list ds => wtA ds + 3
  | .tuple ds => wtA ds + 3
  | .dict _ => 2
def wtA : List PyData → Nat
  | [] => 0
  | d :: ds => wt d + 2 + wtA ds
end
mutual
/-- of plain texts, of numbers that can be shown, of empty dicts -/
def okd : PyData → Bool
  | .none => true
  | .bool _ => true
  | .int i => decide (i.natAbs.log2 < 1900)
  | .str z => z.cps.toList.all fun c => decide (c < 128)
  | .list ds => okdA ds
  | .tuple ds => okdA ds
  | .dict kvs => kvs.isEmpty
def okdA : List PyData → Bool
  | [] => true
  | d :: ds => okd d && okdA ds
end
theorem okd_str {z : Str} (h : okd (.str z) = true) : ∀ c ∈ z.cps.toList, c < 128 := by
  rw [okd] at h
  exact fun c hc => of_decide_eq_true (List.all_eq_true.mp h c hc)
mutual
theorem okd_able : ∀ {d : PyData}, okd d = true → d.showable = true
  | .none, _ => rfl
  | .bool _, _ => rfl
  | .int i, h => by
    rw [okd, decide_eq_true_eq] at h
    rw [PyData.showable]
    exact decide_eq_true (by omega)
  | .str z, _ => rfl
  | .list ds, h => by
    rw [okd] at h
    rw [PyData.showable]
    exact okdA_able h
  | .tuple ds, h => by
    rw [okd] at h
    rw [PyData.showable]
    exact okdA_able h
  | .dict [], _ => rfl
  | .dict (_ :: _), h => by
    rw [okd] at h
    cases h
theorem okdA_able : ∀ {ds : List PyData}, okdA ds = true → PyData.showableAll ds = true
  | [], _ => rfl
  | d :: ds, h => by
    rw [okdA, Bool.and_eq_true] at h
    rw [PyData.showableAll, okd_able h.1, okdA_able h.2]
    rfl
end
mutual
theorem okd_len : ∀ {d : PyData}, okd d = true → d.shown.length ≤ wt d
  | .none, _ => by decide
  | .bool true, _ => by decide
  | .bool false, _ => by decide
  | .int i, h => by
    have hl : i.natAbs.log2 < i.natAbs.log2 + 1 := by omega
    have e := int_text_length_le (k := i.natAbs.log2 + 1) (a := i) (by omega) hl
    show (Str.ofString (toString i)).length ≤ _
    rw [PySem.ofString_length, wt]
    omega
  | .str z, h => by
    have h1 := PySem.StrLaws.reprText_len z fun c hc => Nat.lt_of_lt_of_le (okd_str h c hc) (by decide)
    show (reprText z).length ≤ _
    rw [wt]
    omega
  | .list ds, h => by
    rw [okd] at h
    have h1 := okdA_len h
    have h2 := listText_len_le (PyData.shownAll ds)
    have h3 := PyData.shownAll_length ds
    rw [PyData.shown, wt]
    omega
  | .tuple ds, h => by
    rw [okd] at h
    have h1 := okdA_len h
    have h2 := tupleText_len_le (PyData.shownAll ds)
    have h3 := PyData.shownAll_length ds
    rw [PyData.shown, wt]
    omega
  | .dict [], _ => by decide
  | .dict (_ :: _), h => by
    rw [okd] at h
    cases h
theorem okdA_len : ∀ {ds : List PyData}, okdA ds = true → ((PyData.shownAll ds).map (·.length)).sum + 2 * ds.length ≤ wtA ds
  | [], _ => by decide
  | d :: ds, h => by
    rw [okdA, Bool.and_eq_true] at h
    have h1 := okd_len h.1
    have h2 := okdA_len h.2
    rw [PyData.shownAll, List.map_cons, List.sum_cons, List.length_cons, wtA]
    omega
end
/-! ### parts -/
theorem okdA_app : ∀ {a b : List PyData}, okdA (a ++ b) = (okdA a && okdA b)
  | [], b => by
    rw [okdA]
    simp
  | d :: a, b => by
    rw [List.cons_append, okdA, okdA, okdA_app, Bool.and_assoc]
theorem wtA_app : ∀ {a b : List PyData}, wtA (a ++ b) = wtA a + wtA b
  | [], b => by
    rw [wtA]
    simp
  | d :: a, b => by
    rw [List.cons_append, wtA, wtA, wtA_app]
    omega
theorem depA_app : ∀ {a b : List PyData}, PyData.depthAll (a ++ b) = max (PyData.depthAll a) (PyData.depthAll b)
  | [], b => by
    rw [PyData.depthAll]
    simp
  | d :: a, b => by
    rw [List.cons_append, PyData.depthAll, PyData.depthAll, depA_app]
    omega
structure Wt (d : PyData) (L D : Nat) : Prop where
  ok : okd d = true
  le : wt d ≤ L
  dep : d.depth ≤ D
structure WtA (ds : List PyData) (L D : Nat) : Prop where
  ok : okdA ds = true
  le : wtA ds ≤ L
  dep : PyData.depthAll ds ≤ D
theorem Wt.mono {d : PyData} {L D L' D' : Nat} (h : Wt d L D) (hL : L ≤ L') (hD : D ≤ D') : Wt d L' D' := ⟨h.ok, Nat.le_trans h.le hL, Nat.le_trans h.dep hD⟩
theorem WtA.mono {d : List PyData} {L D L' D' : Nat} (h : WtA d L D) (hL : L ≤ L') (hD : D ≤ D') : WtA d L' D' := ⟨h.ok, Nat.le_trans h.le hL, Nat.le_trans h.dep hD⟩
theorem WtA.nil {L D : Nat} : WtA [] L D := ⟨rfl, by rw [wtA]; omega, by rw [PyData.depthAll]; omega⟩
theorem WtA.cons {d : PyData} {ds : List PyData} {L1 L2 D : Nat} (h : Wt d L1 D) (t : WtA ds L2 D) : WtA (d :: ds) (L1 + 2 + L2) D := by
  refine ⟨?_, ?_, ?_⟩
  · rw [okdA, h.ok, t.ok]
    rfl
  · have := h.le
    have := t.le
    rw [wtA]
    omega
  · have := h.dep
    have := t.dep
    rw [PyData.depthAll]
    omega
theorem WtA.app {a b : List PyData} {L1 L2 D : Nat} (h : WtA a L1 D) (t : WtA b L2 D) : WtA (a ++ b) (L1 + L2) D := by
  refine ⟨?_, ?_, ?_⟩
  · rw [okdA_app, h.ok, t.ok]
    rfl
  · have := h.le
    have := t.le
    rw [wtA_app]
    omega
  · have := h.dep
    have := t.dep
    rw [depA_app]
    omega
theorem WtA.take {a : List PyData} {L D : Nat} (h : WtA a L D) (n : Nat) : WtA (a.take n) L D := by
  obtain ⟨h1, h2, h3⟩ := h
  rw [← List.take_append_drop n a] at h1 h2 h3
  rw [okdA_app, Bool.and_eq_true] at h1
  rw [wtA_app] at h2
  rw [depA_app] at h3
  exact ⟨h1.1, by omega, by omega⟩
theorem WtA.drop {a : List PyData} {L D : Nat} (h : WtA a L D) (n : Nat) : WtA (a.drop n) L D := by
  obtain ⟨h1, h2, h3⟩ := h
  rw [← List.take_append_drop n a] at h1 h2 h3
  rw [okdA_app, Bool.and_eq_true] at h1
  rw [wtA_app] at h2
  rw [depA_app] at h3
  exact ⟨h1.2, by omega, by omega⟩
/-- both ends of it weigh no more than it -/
theorem wtA_ends (a : List PyData) {m n : Nat} (h : m ≤ n) : wtA (a.take m) + wtA (a.drop n) ≤ wtA a := by
  have e : a.drop m = (a.drop m).take (n - m) ++ a.drop n := by
    have := (List.take_append_drop (n - m) (a.drop m)).symm
    rw [List.drop_drop, show m + (n - m) = n by omega] at this
    exact this
  have e1 : wtA a = wtA (a.take m) + wtA (a.drop m) := by rw [← wtA_app, List.take_append_drop]
  rw [e1, e, wtA_app]
  omega
theorem WtA.get {a : List PyData} {L D i : Nat} {d : PyData} (h : WtA a L D) (e : a[i]? = some d) : Wt d L D := by
  have hd : a.drop i = d :: a.drop (i + 1) := by
    obtain ⟨hi, e'⟩ := List.getElem?_eq_some_iff.mp e
    rw [List.drop_eq_getElem_cons hi, e']
  obtain ⟨h1, h2, h3⟩ := h.drop i
  rw [hd, okdA, Bool.and_eq_true] at h1
  rw [hd, wtA] at h2
  rw [hd, PyData.depthAll] at h3
  exact ⟨h1.1, by omega, by omega⟩
theorem WtA.rev : ∀ {a : List PyData} {L D : Nat}, WtA a L D → WtA a.reverse L D
  | [], _, _, _ => WtA.nil
  | d :: ds, L, D, h => by
    obtain ⟨h1, h2, h3⟩ := h
    rw [okdA, Bool.and_eq_true] at h1
    rw [wtA] at h2
    rw [PyData.depthAll] at h3
    have r : WtA ds.reverse (wtA ds) D := WtA.rev ⟨h1.2, Nat.le_refl _, by omega⟩
    rw [List.reverse_cons]
    exact (r.app (WtA.cons (L1 := wt d) ⟨h1.1, Nat.le_refl _, by omega⟩ (WtA.nil (L := 0)))).mono (by omega) (Nat.le_refl _)
theorem Wt.tup {ds : List PyData} {L D : Nat} (h : WtA ds L D) : Wt (.tuple ds) (L + 3) (D + 1) := by
  refine ⟨h.ok, ?_, ?_⟩
  · have := h.le
    rw [wt]
    omega
  · have := h.dep
    rw [PyData.depth]
    omega
theorem Wt.lst {ds : List PyData} {L D : Nat} (h : WtA ds L D) : Wt (.list ds) (L + 3) (D + 1) := by
  refine ⟨h.ok, ?_, ?_⟩
  · have := h.le
    rw [wt]
    omega
  · have := h.dep
    rw [PyData.depth]
    omega
theorem Wt.un {ds : List PyData} {L D : Nat} (h : Wt (.tuple ds) L D) : WtA ds L D ∧ PyData.depthAll ds + 1 ≤ D ∧ wtA ds + 3 ≤ L := by
  obtain ⟨h1, h2, h3⟩ := h
  rw [wt] at h2
  rw [PyData.depth] at h3
  exact ⟨⟨h1, by omega, by omega⟩, h3, h2⟩
theorem Wt.text {z : Str} {L D : Nat} (h : Wt (.str z) L D) : 10 * z.length + 2 ≤ L := by
  have := h.le
  rw [wt] at this
  exact this
theorem Wt.lit {d : PyData} {L D : Nat} (h : (okd d && decide (wt d ≤ L) && decide (d.depth ≤ D)) = true) : Wt d L D := by
  rw [Bool.and_eq_true, Bool.and_eq_true, decide_eq_true_eq, decide_eq_true_eq] at h
  exact ⟨h.1.1, h.1.2, h.2⟩
end SfG
/-! d.get(k) of a written dict by texts -/
namespace SfG
open PySem PySem.Spec PyProof.Rows L2
/-- a dict of the module, all its keys texts: what is there by each -/
def KDo (K : PySem.W.Frag) (w : World) (p : Addr) (f : Str → Option V) : Prop :=
  ∃ es n, K.lookup p = some ⟨.type "dict", none, .dict es n, #[]⟩ ∧ PySem.W.KeysLit w.params es.toList ∧ (p == sysModules) = false ∧ ∀ z, RelO (f z) (findBy Value.isStrOf es z)
def tKGet (K : PySem.W.Frag) (w : World) (td ty : TE) : TE := fun σ H Q => td σ H fun x H1 => ∃ (p : Addr) (f : Str → Option V), x = .ref p ∧ KDo K w p f ∧ ty σ H1 fun y H2 => ∃ z : Str, y = .str z ∧ Q ((f z).getD .non) H2
theorem relO_getD {a : Option V} {b : Option Value} (h : RelO a b) : RelV (a.getD .non) (b.getD .none) := by
  cases a with
  | none =>
    cases b with
    | none => exact rfl
    | some u => exact absurd h id
  | some v =>
    cases b with
    | none => exact absurd h id
    | some u => exact h
theorem pe_kget {X : Cx} {o e : Expr} {apos cpos : Pos} {td ty : TE} (ho : PE X o td) (he : PE X e ty) (m : M1 X o "get" apos e cpos) : PE X (.Call (.Attribute o "get" apos) [e] [] cpos) (tKGet X.K X.w td ty) := by
  constructor
  intro pins s σ H Q I h
  refine wpAny_Call_method m.base m.few m.line PySem.F.plainAttrs_dict PySem.F.slot_dict_get PySem.F.type_dict_get ?_
  refine thn (ho.run pins s σ H _ I h) ?_
  rintro u s1 ⟨x, H1, I1, rx, p, f, rfl, ⟨es, n, hl, hk, hs, hf⟩, q1⟩
  cases (show u = Value.ref p from rx)
  have hm := fun (I : L2.Inv X pins σ H1 s1) => PySem.W.mapOf_K (prog := X.prog) (w := X.w) I.kIn hl hk
  refine ⟨(hm I1).typeIs, ?_, ?_⟩
  · intro b z
    cases z
    exact ⟨_, I1.kIn _ _ hl, rfl⟩
  rw [m.trees]
  refine Calls.callWith_builtin rfl (Calls.evalArgs_plain (Calls.spliced_cons (thn (he.run pins s1 σ H1 _ I1 q1) ?_)))
  rintro v s2 ⟨y, H2, I2, ry, z, rfl, q2⟩
  obtain ⟨t, rfl⟩ := (show ∃ t, v = Value.str z t from ry)
  refine Calls.spliced_nil ?_
  have hm2 := PySem.W.mapOf_K (prog := X.prog) (w := X.w) I2.kIn hl hk
  exact call_meetsIn PySem.F.slot_dict_get hm2.typeIs PySem.F.entry_dict_get (PySem.F.args_dict_get_2 _ _) (meets_dict_get (strKind X.prog X.w) p (strKind_is X.prog X.w z t) hs) ⟨_, hm2, _, H2, I2.tok _, relO_getD (hf z), q2⟩
end SfG
/-! data beside a thing that is changed: the heap without it -/
namespace SfG
open PySem PySem.Spec PyProof.Rows L2
def hide (S : List Addr) (H : Hp) : Hp := fun b => if b ∈ S then none else H b
/-- all these are there -/
def There (S : List Addr) (H : Hp) : Prop := ∀ f ∈ S, H f ≠ none
section
variable {K : PySem.W.Frag} {S : List Addr} {p r f : Addr} {H H' : Hp} {o : HO}
theorem hide_ne {b : Addr} (n : b ∉ S) : hide S H b = H b := if_neg n
theorem hide_of {b : Addr} (h : hide S H b = some o) : b ∉ S ∧ H b = some o := by
  by_cases c : b ∈ S
  · unfold hide at h
    rw [if_pos c] at h
    cases h
  · rw [hide_ne c] at h
    exact ⟨c, h⟩
theorem hide_upd (h : f ∈ S) : hide S (upd H f o) = hide S H := by
  funext b
  by_cases c : b ∈ S
  · unfold hide
    rw [if_pos c, if_pos c]
  · have n : b ≠ f := fun z => c (by rw [z]; exact h)
    rw [hide_ne c, hide_ne c, upd_ne n]
theorem hide_nil : hide [] H = H := by
  funext b
  exact hide_ne (by simp)
theorem kx_of (h : ∀ b o, H b = some o → (∀ ps, o ≠ .tbl ps) → (∀ k kv, o ≠ .dK (k :: kv)) → H' b = some o) : Kx K H H' := by
  refine ⟨⟨?_, ?_⟩, ?_⟩
  · intro a xs e
    rcases e with (e | ⟨o, e⟩) | e
    · exact .inl (.inl (h _ _ e (fun _ z => by cases z) (fun _ _ z => by cases z)))
    · exact .inl (.inr ⟨o, h _ _ e (fun _ z => by cases z) (fun _ _ z => by cases z)⟩)
    · exact .inr e
  · intro a xs e
    rcases e with (e | ⟨o, e⟩) | e
    · exact .inl (.inl (h _ _ e (fun _ z => by cases z) (fun _ _ z => by cases z)))
    · exact .inl (.inr ⟨o, h _ _ e (fun _ z => by cases z) (fun _ _ z => by cases z)⟩)
    · exact .inr e
  · intro q e
    exact h _ _ e (fun _ z => by cases z) (fun _ _ z => by cases z)
theorem hide_kx : Kx K (hide S H) H := kx_of fun b o h _ _ => (hide_of h).2
/-- fewer hidden -/
theorem hide_less {T : List Addr} (h : ∀ b ∈ T, b ∈ S) : Kx K (hide S H) (hide T H) := kx_of fun b o e _ _ => by
  obtain ⟨n, e1⟩ := hide_of e
  rw [hide_ne fun z => n (h b z)]
  exact e1
theorem hide_tail : Kx K (hide (f :: S) H) (hide S H) := hide_less fun b h => List.mem_cons_of_mem _ h
/-- a new one hidden: all that was stays -/
theorem hide_cons (n : H f = none) : Kx K (hide S H) (hide (f :: S) (upd H f o)) := kx_of fun b u e _ _ => by
  obtain ⟨n1, e1⟩ := hide_of e
  have nb : b ≠ f := ne_of_none e1 n
  rw [hide_ne (by simp [nb, n1]), upd_ne nb]
  exact e1
theorem Gr.hkx (g : Gr H H') : Kx K (hide S H) (hide S H') := kx_of fun b o h n _ => by
  obtain ⟨n1, h1⟩ := hide_of h
  rw [hide_ne n1]
  exact g.keep b o h1 n
theorem Gp.hkx {k : Key × V} {kv : List (Key × V)} (g : Gp p H H') (hp : H p = some (.dK (k :: kv))) : Kx K (hide S H) (hide S H') := kx_of fun b o h n nk => by
  obtain ⟨n1, h1⟩ := hide_of h
  rw [hide_ne n1]
  refine g.keep b o (fun z => ?_) h1 n
  rw [z, hp] at h1
  exact nk _ _ (Option.some.inj h1).symm
/-- with some hidden, one that is new -/
theorem hide_new (np : H r = none) (hf : There S H) : hide S (upd H r o) r = some o := by
  have n : r ∉ S := fun z => hf r z np
  rw [hide_ne n, upd_same]
theorem dx_newT {xs : List V} {ds : List PyData} (np : H r = none) (hf : There S H) (h : DxA K (hide S H) xs ds) : Dx K (hide S (upd H r (.tup xs))) (.ref r) (.tuple ds) :=
  .tup (.inl (.inl (hide_new np hf))) ((Gr.new np).hkx.dxA h)
theorem dx_newL {xs : List V} {ds : List PyData} (np : H r = none) (hf : There S H) (h : DxA K (hide S H) xs ds) : Dx K (hide S (upd H r (.lst xs))) (.ref r) (.list ds) :=
  .lst (.inl (.inl (hide_new np hf))) ((Gr.new np).hkx.dxA h)
theorem dx_newE (np : H r = none) (hf : There S H) : Dx K (hide S (upd H r (.dK []))) (.ref r) (.dict []) := .emp (hide_new np hf)
theorem There.gr (h : There S H) (g : Gr H H') : There S H' := fun f m z => h f m (g.back f z)
theorem There.upd (h : There S H) : There S (upd H r o) := fun f m z => by
  by_cases c : f = r
  · rw [c, upd_same] at z
    cases z
  · rw [upd_ne c] at z
    exact h f m z
theorem There.cons (h : There S H) (hf : H f ≠ none) : There (f :: S) H := fun b m => by
  rcases List.mem_cons.mp m with rfl | m
  · exact hf
  · exact h b m
theorem There.tail (h : There (f :: S) H) : There S H := fun b m => h b (List.mem_cons_of_mem _ m)
theorem There.nil : There [] H := fun b m => by cases m
end
/-! ### t + u, t[:n], t[n:]: whatever tuple comes -/
def rCatX (K : PySem.W.Frag) : R2 := fun x y H Q => ∃ (S : List Addr) (ds es : List PyData), Dx K (hide S H) x (.tuple ds) ∧ Dx K (hide S H) y (.tuple es) ∧ There S H ∧ ds.length + es.length ≤ sizeLine ∧
  ∀ v H', Gr H H' → Dx K (hide S H') v (.tuple (ds ++ es)) → Q v H'
section
variable {X : Cx}
theorem op_catX : OpR X (binaryOp .Add) (rCatX X.K) := by
  intro pins s σ H x y v u Q I rx ry h
  obtain ⟨f, ds, es, hx, hy, hf, hl, q⟩ := h
  obtain ⟨a, xs, rfl, ha, hxs⟩ := dx_tup hx
  obtain ⟨b, ys, rfl, hb, hys⟩ := dx_tup hy
  have l1 := dxA_len hxs
  have l2 := dxA_len hys
  refine op_catA pins s σ H _ _ v u Q I rx ry ⟨a, b, xs, ys, rfl, rfl, hide_kx.kd.t ha, hide_kx.kd.t hb, by omega, ?_, ?_, ?_⟩
  · rintro rfl
    have e : ds = [] := List.length_eq_zero_iff.mp (by rw [← l1]; rfl)
    subst e
    exact q _ H (Gr.refl H) hy
  · rintro _ rfl
    have e : es = [] := List.length_eq_zero_iff.mp (by rw [← l2]; rfl)
    subst e
    refine q _ H (Gr.refl H) ?_
    rw [List.append_nil]
    exact hx
  · intro _ _ r nr
    exact q _ _ (Gr.new nr) (dx_newT nr hf (dxA_app hxs hys))
/-- [lo:hi], both within it -/
def cutD (ds : List PyData) (lo hi : Option Int) : List PyData := (ds.drop (HT.sIx ds.length 0 lo)).take (HT.sIx ds.length ds.length hi - HT.sIx ds.length 0 lo)
theorem cut_to (ds : List PyData) {n : Nat} (h : n ≤ ds.length) : cutD ds none (some (n : Int)) = ds.take n := by
  unfold cutD
  rw [HT.sIx_none, HT.sIx_nat, Nat.min_eq_left h, List.drop_zero, Nat.sub_zero]
theorem cut_from (ds : List PyData) {n : Nat} (h : n ≤ ds.length) : cutD ds (some (n : Int)) none = ds.drop n := by
  unfold cutD
  rw [HT.sIx_none, HT.sIx_nat, Nat.min_eq_left h]
  refine List.take_of_length_le ?_
  rw [List.length_drop]
  exact Nat.le_refl _
def rSlX (K : PySem.W.Frag) : V → Option Int → Option Int → Hp → VK → Prop := fun x lo hi H Q => ∃ (S : List Addr) (ds : List PyData), Dx K (hide S H) x (.tuple ds) ∧ There S H ∧
  ∀ v H', Gr H H' → Dx K (hide S H') v (.tuple (cutD ds lo hi)) → Q v H'
theorem sl_tupX : SlR X (rSlX X.K) := by
  intro pins s σ H x v vl vu lo hi sl Q I rx hs pl pu h
  obtain ⟨f, ds, hx, hf, q⟩ := h
  obtain ⟨a, xs, rfl, ha, hxs⟩ := dx_tup hx
  have l1 := dxA_len hxs
  refine sl_tupA pins s σ H _ v vl vu lo hi sl Q I rx hs pl pu ⟨a, xs, rfl, hide_kx.kd.t ha, ?_, ?_⟩
  · intro hw
    refine q _ H (Gr.refl H) ?_
    rw [l1] at hw
    have e : cutD ds lo hi = ds := by
      unfold cutD
      rw [hw.1, hw.2, List.drop_zero, Nat.sub_zero, List.take_length]
    rw [e]
    exact hx
  · intro _ r nr
    refine q _ _ (Gr.new nr) (dx_newT nr hf ?_)
    unfold cutV cutD
    rw [l1]
    exact dxA_take _ (dxA_drop _ hxs)
end
end SfG
/-! t[::-1], t * n of tuples -/
namespace SfG
open PySem PySem.Spec PyProof.Rows L2
section
variable {prog : Program} {w : World} {A : Around} {E : Value → Shared → Prop} {s : Shared}
theorem adjust_rev (n : Nat) : Builtin.Slice.sliceAdjust none none (-1) (n : Int) = ((n : Int) - 1, -1) := by
  unfold Builtin.Slice.sliceAdjust
  have h1 : ((-1 : Int) < 0) := by omega
  simp only [h1, if_true]
theorem places_rev (n : Nat) : Builtin.Slice.slicePlaces ((n : Int) - 1) (-1) (-1) = n := by
  unfold Builtin.Slice.slicePlaces
  have h1 : ¬ ((-1 : Int) > 0) := by omega
  simp only [h1, if_false]
  have e1 : (- -1 : Int) = 1 := by decide
  rw [e1, Int.ediv_one]
  split <;> omega
theorem fm_congr {α β : Type} {f g : α → Option β} : ∀ {l : List α}, (∀ x ∈ l, f x = g x) → l.filterMap f = l.filterMap g
  | [], _ => rfl
  | a :: r, h => by
    rw [List.filterMap_cons, List.filterMap_cons, h a List.mem_cons_self, fm_congr fun x hx => h x (List.mem_cons_of_mem _ hx)]
theorem applied_rev {sl : Addr} {vl vu vs : Value} {n : Nat} {Q : Int × Int × Nat → Shared → Prop} (hs : s.heap.IsSliceOf sl vl vu vs) (pl : IsPart vl none) (pu : IsPart vu none) (pk : IsPart vs (some (-1)))
    (h : Q ((n : Int) - 1, -1, n) s) : wpAny (model prog w) A (Builtin.Slice.sliceApplied (.ref sl) (pure (n : Int))) Q E s := by
  obtain ⟨os, hos, hcs, hds⟩ := id hs
  unfold Builtin.Slice.sliceApplied Builtin.Slice.sliceFields
  refine wpAny_bind (wpAny_bind (wpAny_field hos hds (x := vl) rfl (wpAny_bind (wpAny_field hos hds (x := vu) rfl (wpAny_bind (wpAny_field hos hds (x := vs) rfl (wpAny_pure ?_)))))))
  refine wpAny_bind (HT.slicePart_ pk ?_)
  show wpAny _ _ (if ((-1 : Int) == 0) = true then _ else _) _ _ s
  rw [if_neg (by decide)]
  refine wpAny_bind (HT.slicePart_ pl (wpAny_bind (HT.slicePart_ pu (wpAny_bind (wpAny_pure ?_)))))
  show wpAny _ _ (match Builtin.Slice.sliceAdjust none none (-1) (n : Int) with | (lo, hi) => pure (lo, (-1 : Int), Builtin.Slice.slicePlaces lo hi (-1))) _ _ s
  rw [adjust_rev n]
  show wpAny _ _ (pure ((n : Int) - 1, (-1 : Int), Builtin.Slice.slicePlaces ((n : Int) - 1) (-1) (-1))) _ _ s
  rw [places_rev]
  exact wpAny_pure h
theorem pick_rev (xs : Array Value) : ((List.range xs.size).filterMap fun (m : Nat) => xs[(((xs.size : Int) - 1) + (m : Int) * (-1)).toNat]?).toArray = xs.toList.reverse.toArray := by
  have e : ∀ m ∈ List.range xs.size, (xs[(((xs.size : Int) - 1) + (m : Int) * (-1)).toNat]?) = xs[xs.size - 1 - m]? := by
    intro m hm
    have hm' := List.mem_range.mp hm
    have : (((xs.size : Int) - 1) + (m : Int) * (-1)).toNat = xs.size - 1 - m := by omega
    rw [this]
  rw [fm_congr e]
  have := PySem.W.krv_pick xs
  have e2 : (List.range xs.size).filterMap (fun m => xs[xs.size - 1 - m]?) = xs.toList.reverse := by
    have h1 : (List.range xs.size).filterMap (fun m => xs[xs.size - 1 - m]?) = ((List.range xs.size).map (fun k => xs.size - 1 - k)).filterMap (xs[·]?) := by
      rw [List.filterMap_map]
      rfl
    rw [h1, PySem.W.krv_range, List.filterMap_reverse, PySem.W.krv_all]
  rw [e2]
theorem getItem_tuple_rev {t sl : Addr} {items : Array Value} {vl vu vs : Value} {Q : Value → Shared → Prop} (ht : IsTup s.heap t items) (hs : s.heap.IsSliceOf sl vl vu vs) (pl : IsPart vl none) (pu : IsPart vu none) (pk : IsPart vs (some (-1)))
    (h : Q (.ref s.heap.objs.size) { s with heap := s.heap.push { cls := .type "tuple", data := .seq items.toList.reverse.toArray } })
    (hsz : items.size ≤ sizeLine) : wpAny (model prog w) A (getItem (.ref t) (.ref sl)) Q E s := by
  have htake : sizeOk (.seq items.toList.reverse.toArray) := by
    show items.toList.reverse.toArray.size ≤ sizeLine
    rw [List.size_toArray, List.length_reverse, Array.length_toList]
    exact hsz
  obtain ⟨os, hos, hcs, hds⟩ := id hs
  have hTs : s.TypeIs (.ref sl) "slice" := ⟨os, hos, hcs⟩
  unfold getItem
  try with_reducible refine wpAny_holding ?_
  first | refine wpAny_bind (wpAny_pure ?_) | skip
  refine wpAny_bind (wpAny_sequenceKey ht.typeIs (by decide) ?_)
  refine wpAny_bind (wpAny_callSpecial?_slot (name := Str.ofString "__getitem__") ht.typeIs PyProof.Rows.slot_tuple_getitem
    (wpAny_call_entry PyProof.Rows.slot_tuple_getitem ht.typeIs entry_tuple_getitem ?_ (args_tuple_getitem _ _)))
  show wpAny _ _ (Builtin.Tuple.tupleItemsOf (.ref t) >>= _) _ _ s
  refine wpAny_bind (tupleItemsOf_ ht ?_)
  refine wpAny_bind (wpAny_typeOf hTs ?_)
  rw [if_pos (by decide)]
  refine wpAny_bind (applied_rev hs pl pu pk ?_)
  have hno : ¬ ((((items.size : Int) - 1) == 0 && (-1 : Int) == 1 && items.size == items.size) = true) := by simp
  show wpAny _ _ (if (((items.size : Int) - 1) == 0 && (-1 : Int) == 1 && items.size == items.size) = true then _ else _) _ _ s
  rw [if_neg hno, pick_rev]
  first
    | exact wpAny_bind (m := Builtin.Tuple.tupleExact _) (wpAny_newObj_type (wpAny_pure ⟨_, rfl, wpAny_pure h⟩) htake)
    | exact wpAny_bind (m := Builtin.Tuple.tupleExact _) (wpAny_newObj_type (wpAny_bind (wpAny_pure (wpAny_pure ⟨_, rfl, wpAny_pure h⟩))) htake)
    | exact wpAny_bind (wpAny_bind (m := Builtin.Tuple.tupleExact _) (wpAny_newObj_type (wpAny_pure (wpAny_pure ⟨_, rfl, wpAny_pure h⟩)) htake))
    | exact wpAny_bind (wpAny_bind (m := Builtin.Tuple.tupleExact _) (wpAny_newObj_type (wpAny_pure ⟨_, rfl, wpAny_pure h⟩) htake))
end
section
variable {X : Cx}
/-- t[::-1] -/
def tRevT (K : PySem.W.Frag) (te : TE) : TE := fun σ H Q => te σ H fun x H1 => ∃ a xs, x = .ref a ∧ SqT K H1 a xs ∧ ∀ p, H1 p = none → Q (.ref p) (upd H1 p (.tup xs.reverse))
theorem pe_revT {e : Expr} {te : TE} {k : Nat} {p1 p2 p3 pos : Pos} (he : PE X e te) : PE X (.Subscript e (.Slice none none (some (.UnaryOp .USub (.Constant (.int 1) k p1) p2)) p3) pos) (tRevT X.K te) := by
  refine ⟨fun pins s σ H Q I h => ?_⟩
  refine Subscript_ (thn (he.run pins s σ H _ I h) fun v s1 ⟨x, H1, I1, r1, q1⟩ => ?_)
  obtain ⟨a, xs, ex, hx, q⟩ := q1
  subst ex
  cases r1
  have hst : PO X (some (.UnaryOp .USub (.Constant (.int 1) k p1) p2)) (tPart (tUn (rU fun i => .int (-i)) (tC (.int 1)))) := po_some (pe_un un_neg pe_int)
  refine wpAny_Slice (thn (po_none.run pins s1 σ H1 (fun o H2 => o = none ∧ H2 = H1) I1 ⟨rfl, rfl⟩) fun vl s2 ⟨l, H2, I2, pl, el, e2⟩ => ?_)
  subst el e2
  refine thn (po_none.run pins s2 σ H2 (fun o H3 => o = none ∧ H3 = H2) I2 ⟨rfl, rfl⟩) fun vu s3 ⟨u, H3, I3, pu, eu, e3⟩ => ?_
  subst eu e3
  refine thn (hst.run pins s3 σ H3 (fun o H4 => o = some (-1) ∧ H4 = H3) I3 ⟨1, rfl, -1, rfl, rfl, rfl⟩) fun vs s4 ⟨o, H4, I4, ps, eo, e4⟩ => ?_
  subst eo e4
  have I5 : Inv X pins σ H4 { s4 with heap := s4.heap.push { cls := .type "slice", data := .fields #[vl, vu, vs] } } := I4.kept (t' := s4.toks) fun b ob q => Heap.get?_push_of_some _ q
  obtain ⟨its, r, ht, hz⟩ := I5.tuple hx
  have hlen := r.length
  show wpAny (model X.prog X.w) X.A (subscriptTail e (.Slice none none (some (.UnaryOp .USub (.Constant (.int 1) k p1) p2)) p3) (.ref a) (.ref s4.heap.objs.size)) (EP X pins σ Q) X.xe { s4 with heap := s4.heap.push { cls := .type "slice", data := .fields #[vl, vu, vs] } }
  refine tail_any (ops := [.ref a, .ref s4.heap.objs.size]) ht.typeIs (PyProof.Rows.slot_tuple_getitem.lookup) ?_ (by with_unfolding_all rfl)
  refine getItem_tuple_rev ht (Heap.IsSliceOf.new _ vl vu vs) pl pu ps ?_ (by rw [List.size_toArray]; omega)
  refine ⟨.ref _, _, I5.laid (t' := s4.toks) (o := .tup xs.reverse) (fun b ob q => Heap.get?_push_of_some _ q) (Nat.le_refl _) ?_, rfl, q _ (I5.hok.fresh (Nat.le_refl _))⟩
  exact ⟨by rw [List.length_reverse]; exact hz, _, r.reverse, IsTup.new _ _⟩
end
end SfG
namespace SfG
open PySem PySem.Spec PyProof.Rows L2
/-! ### the same of data, whatever tuple comes -/
section
variable {K : PySem.W.Frag} {H : Hp} {r : Addr}
theorem new_T {xs : List V} {ds : List PyData} (np : H r = none) (h : DxA K H xs ds) : Dx K (upd H r (.tup xs)) (.ref r) (.tuple ds) := .tup (.inl (.inl upd_same)) ((Gr.new np).kx.dxA h)
theorem new_L {xs : List V} {ds : List PyData} (np : H r = none) (h : DxA K H xs ds) : Dx K (upd H r (.lst xs)) (.ref r) (.list ds) := .lst (.inl (.inl upd_same)) ((Gr.new np).kx.dxA h)
theorem new_E (np : H r = none) : Dx K (upd H r (.dK [])) (.ref r) (.dict []) := .emp upd_same
end
def rCat0 (K : PySem.W.Frag) : R2 := fun x y H Q => ∃ (ds es : List PyData), Dx K H x (.tuple ds) ∧ Dx K H y (.tuple es) ∧ ds.length + es.length ≤ sizeLine ∧ ∀ v H', Gr H H' → Dx K H' v (.tuple (ds ++ es)) → Q v H'
def rSl0 (K : PySem.W.Frag) : V → Option Int → Option Int → Hp → VK → Prop := fun x lo hi H Q => ∃ (ds : List PyData), Dx K H x (.tuple ds) ∧ ∀ v H', Gr H H' → Dx K H' v (.tuple (cutD ds lo hi)) → Q v H'
def rRep0 (K : PySem.W.Frag) : R2 := fun x y H Q => ∃ (ds : List PyData) (n : Nat), Dx K H x (.tuple ds) ∧ y = .int (n : Int) ∧ ds ≠ [] ∧ 2 ≤ n ∧ n ≤ 1000 ∧ ds.length ≤ 1000 ∧ ∀ v H', Gr H H' → Dx K H' v (.tuple (List.replicate n ds).flatten) → Q v H'
theorem dxA_rep {K : PySem.W.Frag} {H : Hp} {xs : List V} {ds : List PyData} (h : DxA K H xs ds) : ∀ n : Nat, DxA K H (List.replicate n xs).flatten (List.replicate n ds).flatten
  | 0 => .nil
  | n + 1 => by
    rw [List.replicate_succ, List.replicate_succ, List.flatten_cons, List.flatten_cons]
    exact dxA_app h (dxA_rep h n)
section
variable {X : Cx}
theorem op_cat0 : OpR X (binaryOp .Add) (rCat0 X.K) := by
  intro pins s σ H x y v u Q I rx ry h
  obtain ⟨ds, es, hx, hy, hl, q⟩ := h
  refine op_catX pins s σ H x y v u Q I rx ry ⟨[], ds, es, ?_, ?_, There.nil, hl, fun v' H' g h' => ?_⟩
  · rw [hide_nil]
    exact hx
  · rw [hide_nil]
    exact hy
  · rw [hide_nil] at h'
    exact q v' H' g h'
theorem sl_tup0 : SlR X (rSl0 X.K) := by
  intro pins s σ H x v vl vu lo hi sl Q I rx hs pl pu h
  obtain ⟨ds, hx, q⟩ := h
  refine sl_tupX pins s σ H x v vl vu lo hi sl Q I rx hs pl pu ⟨[], ds, ?_, There.nil, fun v' H' g h' => ?_⟩
  · rw [hide_nil]
    exact hx
  · rw [hide_nil] at h'
    exact q v' H' g h'
theorem op_rep0 : OpR X (binaryOp .Mult) (rRep0 X.K) := by
  intro pins s σ H x y v u Q I rx ry h
  obtain ⟨ds, n, hx, rfl, hne, h2, h3, hl, q⟩ := h
  obtain ⟨a, xs, rfl, ha, hxs⟩ := dx_tup hx
  have l1 := dxA_len hxs
  refine op_repT pins s σ H _ _ v u Q I rx ry ⟨a, n, xs, rfl, rfl, ha, ?_, by omega, by omega, by omega, fun p np => ?_⟩
  · rintro rfl
    exact hne (List.length_eq_zero_iff.mp (by rw [← l1]; rfl))
  · rw [Int.toNat_natCast]
    exact q _ _ (Gr.new np) (new_T np (dxA_rep hxs n))
end
end SfG
/-! sorted of a list of tuples, whose first things are texts that are unlike -/
namespace SfG
open PySem PySem.Spec PyProof.Rows L2
abbrev ltS (a b : Str) : Prop := a.cps.toList < b.cps.toList
/-- a tuple that begins with a text -/
def TupHd (h : Heap) (v : Value) (z : Str) : Prop := ∃ a o xs n t, v = .ref a ∧ h.get? a = some o ∧ o.cls = .type "tuple" ∧ o.data = .seq xs n ∧ xs[0]? = some (.str z t)
theorem TupHd.keeps {h h' : Heap} {v : Value} {z : Str} (x : TupHd h v z) (k : ∀ b o, h.get? b = some o → o.cls = .type "tuple" → h'.get? b = some o) : TupHd h' v z := by
  obtain ⟨a, o, xs, n, t, e, ho, hc, hd, h0⟩ := x
  exact ⟨a, o, xs, n, t, e, k a o ho hc, hc, hd, h0⟩
theorem heads_of {h : Heap} {f : Value → Str} (vs : List Value) (x : ∀ v ∈ vs, TupHd h v (f v)) : ∃ gs, PySem.W.KatTups h vs gs ∧ gs.length = vs.length ∧ ∀ g, g ∈ gs → ∃ z t, g = Value.str z t := by
  induction vs with
  | nil => exact ⟨[], PySem.W.KatTups.nil, rfl, fun g hg => nomatch hg⟩
  | cons v vs ih =>
    obtain ⟨gs, k, hl, hi⟩ := ih fun u hu => x u (.tail _ hu)
    obtain ⟨a, o, xs, n, t, e, ho, hc, hd, h0⟩ := x v (.head _)
    subst e
    refine ⟨.str (f (.ref a)) t :: gs, .cons ho hc hd h0 k, congrArg Nat.succ hl, fun g hg => ?_⟩
    cases hg with
    | head => exact ⟨_, _, rfl⟩
    | tail _ hg => exact hi g hg
section
variable {prog : Program} {w : World} {s : Shared} {A : Around} {E : Value → Shared → Prop}
theorem eqBool_self {p : Value} {Q : Bool → Shared → Prop} (h : Q true s) : wpAny (model prog w) A (eqBool p p) Q E s := by
  unfold eqBool
  show wpAny _ _ (holding [p, p] (if (p == p) = true then _ else _)) Q E s
  rw [if_pos (beq_self_eq_true p)]
  exact wpAny_holding (wpAny_bind (wpAny_rule (wpAny_pure h)))
theorem lex_self {b fin : Bool} {Q : Bool → Shared → Prop} (h : Q fin s) : ∀ (l : List Value) (i : Nat), PySem.W.KatLex prog w A b fin Q (l.zip l) i s
  | [], _ => PySem.W.kat_nil h
  | p :: l, i => PySem.W.kat_cons (eqBool_self (PySem.W.kat_yes (lex_self h l (i + 1))))
theorem swoS (f : Value → Str) : SrtO.Swo (fun u v => decide (ltS (f u) (f v))) := by
  refine ⟨fun x y h => decide_eq_false fun h2 => ?_, fun x y z h1 h2 => decide_eq_false fun h3 => ?_⟩
  · exact List.lt_irrefl _ (List.lt_trans (of_decide_eq_true h) h2)
  · have a := List.not_lt.mp (of_decide_eq_false h1)
    have b := List.not_lt.mp (of_decide_eq_false h2)
    exact List.not_lt.mpr (List.le_trans a b) h3
theorem first_of {xs : Array Value} {v : Value} (h : xs[0]? = some v) : ∃ r, xs.toList = v :: r := by
  rw [← Array.getElem?_toList] at h
  match q : xs.toList with
  | [] => rw [q] at h; cases h
  | y :: l => rw [q] at h; exact ⟨l, by rw [Option.some.inj h]⟩
theorem heads_lt {vs : List Value} {f : Value → Str} (x : ∀ v ∈ vs, TupHd s.heap v (f v)) (inj : ∀ u ∈ vs, ∀ v ∈ vs, f u = f v → u = v) {p q : Value} (hp : p ∈ vs) (hq : q ∈ vs) :
    wpAny (model prog w) A (keyLt' (tuples' true) p q) (fun r s' => s' = s ∧ r = decide (ltS (f p) (f q))) (fun _ _ => False) s := by
  obtain ⟨a, o, xs, n, t, ea, ho, _, ho2, h0⟩ := x p hp
  by_cases e : f p = f q
  · rw [← inj p hp q hq e, ea]
    refine PySem.W.kat_lt ho ho2 ho ho2 (lex_self ⟨rfl, ?_⟩ _ 0)
    rw [decide_eq_false (Nat.lt_irrefl _), decide_eq_false (List.lt_irrefl _)]
  · obtain ⟨b, u, ys, m, t2, eb, hu, _, hu2, k0⟩ := x q hq
    obtain ⟨xr, ex⟩ := first_of h0
    obtain ⟨yr, ey⟩ := first_of k0
    have no : decide (f p = f q) = false := decide_eq_false e
    rw [show keyLt' (tuples' true) p q = keyLt' (tuples' true) (.ref a) (.ref b) by rw [ea, eb]]
    refine PySem.W.kat_lt ho ho2 hu hu2 ?_
    rw [ex, ey]
    refine PySem.W.kat_cons (wpAny_eqBool_str ?_)
    rw [no]
    exact PySem.W.kat_no (oneLt_str ⟨rfl, rfl⟩)
end
/-- sorted(xs), xs a list of tuples that begin with unlike texts -/
def rSortedH (K : PySem.W.Frag) : List V → Hp → VK → Prop := fun vs H Q => ∃ (a : Addr) (xs : List V) (hd : V → Str), vs = [V.ref a] ∧ SqL K H a xs ∧ (∀ x ∈ xs, ∃ t rest, x = V.ref t ∧ SqT K H t (.str (hd x) :: rest)) ∧ (∀ x ∈ xs, ∀ y ∈ xs, hd x = hd y → x = y) ∧
  ∀ (ys : List V) (p : Addr), ys.Perm xs → ys.Pairwise (fun x y => ¬ ltS (hd y) (hd x)) → H p = none → Q (.ref p) (upd H p (.lst ys))
theorem cr_sortedH {X : Cx} : CallR X (.builtin "sorted") (rSortedH X.K) := by
  rintro pins s σ H vs us Q I r ⟨a, xs, hd, rfl, hs, hx, inj, q⟩
  have lst := I.list hs
  obtain ⟨its, rv, hl, hz⟩ := lst
  rw [Vals.ref1 r]
  have all : xs = its.map bkV ∧ ∀ u ∈ its, ∃ a, u = Value.ref a := bkV_refs rv fun x m => (hx x m).imp fun t z => z.choose_spec.1
  have mem : ∀ {v}, v ∈ its → bkV v ∈ xs := fun {v} hv => all.1 ▸ List.mem_map_of_mem hv
  have heads : ∀ v ∈ its, TupHd s.heap v (hd (bkV v)) := fun v hv => by
    obtain ⟨t, rfl⟩ := all.2 v hv
    obtain ⟨t', rest, e, ht⟩ := hx _ (mem hv)
    obtain rfl : t = t' := V.ref.inj e
    obtain ⟨fs, rf, ⟨o, ho, hc, n, ho2⟩, _⟩ := I.tuple ht
    cases rf with
    | cons r0 rr =>
      obtain ⟨tk, rfl⟩ := r0
      exact ⟨t, o, _, n, tk, rfl, ho, hc, ho2, by simp⟩
  have same : ∀ u ∈ its, ∀ v ∈ its, hd (bkV u) = hd (bkV v) → u = v := fun u hu v hv e => by
    obtain ⟨t, rfl⟩ := all.2 u hu
    obtain ⟨t', rfl⟩ := all.2 v hv
    exact congrArg Value.ref (V.ref.inj (inj _ (mem hu) _ (mem hv) e))
  refine SrtO.sorted_ord (swoS fun v => hd (bkV v)) hl.isList (rv.length ▸ hz) (fun h2 h1 b hb old h' keep => ?_) fun out so st => ?_
  · have there : ∀ v ∈ its, TupHd h' v (hd (bkV v)) := fun v hv => (heads v hv).keeps fun c o e _ => keep c o (old c o e).1 (old c o e).2
    obtain ⟨fs, k1, k2, k3⟩ := heads_of (f := fun v => hd (bkV v)) its there
    refine ⟨tuples' true, fun Q' E' hq => ?_, fun p q hp hq => heads_lt (f := fun v => hd (bkV v)) there same hp hq⟩
    have looks : ∀ g ∈ fs, PySem.W.Looks (model X.prog X.w) h' (typeOf g) (Value.type "str") := fun g hg => by
      obtain ⟨n, t, rfl⟩ := k3 g hg
      exact PySem.W.Looks.now
    exact PySem.W.kat_kind k1 (by omega) looks rfl hq
  · obtain ⟨ep, he⟩ := PyProof.Rows.sortedAll_at s.heap its out.toArray
    have perm : (out.map bkV).Perm xs := all.1 ▸ st.perm.map bkV
    refine ⟨.ref _, upd H (s.heap.objs.size + 1) (.lst (out.map bkV)), ?_, rfl, q _ _ perm ?_ (I.hok.fresh (Nat.le_succ _))⟩
    · have refs : ∀ u ∈ out, ∃ a, u = Value.ref a := fun u hu => all.2 u (st.perm.mem_iff.mp hu)
      exact I.laid (t' := s.toks) (fun _ _ z => PyProof.Rows.sortedAll_old z) (Nat.le_succ _) ⟨perm.length_eq ▸ hz, out, ep, bkV_vals refs, he⟩
    · exact List.pairwise_map.mpr (List.Pairwise.imp (fun z => of_decide_eq_false z) so)
end SfG
namespace SfG
open PySem PySem.Spec PyProof.Rows L2
/-! ### a call of a local that holds one of some defs, each of which may raise; behind a try -/
structure HeldX (P : Program) (w : World) (K : PySem.W.Frag) (mg : Str → Option Value) (base : Heap) (k : Nat) (f : Addr) (sp : Sp) : Prop where
  ex : ∃ (fd : FuncData) (ps : List Str), FnOk P w K mg base (L2.CX P w) k f fd ps sp ∧ PySem.W.keepIn K (.ref f) = true ∧ Binds K fd ps []
/-- the i-th slot holds a def of S -/
def tCallLS (i : Nat) (S : Addr → Sp → Prop) (E : L2.St → XK) (t : TA) : TE := fun σ H Q => ∃ f sp, σ[i]? = some (some (.ref f)) ∧ S f sp ∧ t σ H fun vs H1 => sp vs H1 Q (E σ)
theorem pe_callLS {X : Cx} {k i : Nat} {S : Addr → Sp → Prop} {E : L2.St → XK} {x : Str} {p pos : Pos} {e : Expr} {es : List Expr} {t : TA} (A : ∀ f sp, S f sp → HeldX X.prog X.w X.K X.mg X.base k f sp) (hr : Room k X.A) (hN : X.N[i]? = some x) (hv : Vis X.env.scope x)
    (hx : ∀ σ, PassesAt (L2.CX X.prog X.w) X σ (E σ)) (ha : PA X (e :: es) t) (hdb : (x == ("__debug__" : Str)) = false := by decide) (hcd : (x == ("__classdict__" : Str)) = false := by decide)
    (he : starEach (e :: es) X.env = (false, eval e X.env) :: starEach es X.env := by rfl) (hpl : (backTo pos (starEach es X.env)).any (·.1) = false := by rfl) :
    PE X (.Call (.Name x p) (e :: es) [] pos) (tCallLS i S E t) := by
  refine ⟨fun pins s σ H Q I h => ?_⟩
  obtain ⟨f, sp, hs, hS, ht⟩ := h
  obtain ⟨fd, ps, F, hk, hb⟩ := (A f sp hS).ex
  have look := (pe_var (pos := p) hN hv hdb hcd).run pins s σ H (fun v H1 => v = .ref f ∧ H1 = H) I ⟨.ref f, hs, rfl, rfl⟩
  refine wpAny_Call_Name_kw (thn look fun u s1 held => ?_)
  obtain ⟨v, H1, I1, r1, rfl, rfl⟩ := held
  cases r1
  exact PySem.W.callWith_K (h₀ := X.base) I.ok.mod.kin hk (thn (ha.run pos pins s1 σ _ _ I1 ht) fun us s2 got => by
    obtain ⟨vs, H2, I2, r, q⟩ := got
    exact ⟨I2.kIn, run_fnS F hr hb (hx σ) I2 r q⟩) he hpl
end SfG
namespace SfC
open PySem PySem.Spec PyProof.Rows L2 SfG
def topS (i : Nat) : Stmt := PySem.Challenge.pw_sameface_k18_which_are_users.main.body.getD i (.Pass ⟨0, 0, 0, 0⟩)
abbrev sShown : Stmt := topS 1
abbrev sBadRow : Stmt := topS 3
abbrev sBadFace : Stmt := topS 4
abbrev sBadUser : Stmt := topS 6
abbrev sName : Stmt := topS 22
abbrev sKind : Stmt := topS 25
abbrev sBadD : Stmt := topS 26
abbrev sBadH : Stmt := topS 27
abbrev sFault : Stmt := topS 28
abbrev sNeed : Stmt := topS 29
abbrev sWhole : Stmt := topS 19
abbrev sAmong : Stmt := topS 20
abbrev sTupOf : Stmt := topS 21
abbrev sFind : Stmt := topS 30
abbrev sMayH : Stmt := topS 33
abbrev sDeedOR : Stmt := topS 34
abbrev sFirstBP : Stmt := topS 35
abbrev sUFault : Stmt := topS 36
abbrev sIsUser : Stmt := topS 37
abbrev sRefU : Stmt := topS 38
abbrev sNeedU : Stmt := topS 39
abbrev sKindTold : Stmt := topS 40
abbrev sURows : Stmt := topS 42
abbrev sUText : Stmt := topS 43
abbrev sStarted : Stmt := topS 45
abbrev sDrw : Stmt := topS 46
abbrev sOf : Stmt := topS 47
abbrev sKinds : Stmt := topS 48
abbrev sLNames : Stmt := topS 49
abbrev sTaken : Stmt := topS 50
abbrev sLFace : Stmt := topS 51
abbrev sLUser : Stmt := topS 52
abbrev sLMay : Stmt := topS 53
abbrev sLFirst : Stmt := topS 54
abbrev sStrange : Stmt := topS 55
abbrev sDeep : Stmt := topS 56
abbrev sSpoilt : Stmt := topS 57
abbrev sLRefused : Stmt := topS 58
abbrev sLOne : Stmt := topS 59
abbrev sLaw : Stmt := topS 60
end SfC
namespace SfC
open PySem PySem.Spec PyProof.Rows L2 SfG
/-! ### shown -/
/-- what a refusal's field may be -/
def Shn (v : V) : Prop := v = .non ∨ (∃ i, v = .int i) ∨ ∃ z : Str, v = .str z ∧ z.length ≤ 1000
def rStrX : List V → Hp → VK → Prop := fun xs H Q => (∃ a, xs = [.str a] ∧ Q (.str a) H) ∨ ∃ i : Int, xs = [.int i] ∧ i.natAbs.log2 < 1920 ∧ Q (.str (toString i)) H
theorem call_strX {X : Cx} : CallR X (.type "str") rStrX := by
  intro pins s σ H xs us Q I r h
  rcases h with h | h
  · exact SkE.call_str_str pins s σ H xs us Q I r h
  · exact call_str_int pins s σ H xs us Q I r h
theorem boot_isi : bootBuiltins "isinstance" = some (.builtin "isinstance") := by decide +kernel
theorem scShown : FnScope ["field"] ["field"] (defScope sShown) := ⟨rfl, rfl, rfl, by decide +kernel, rfl, by decide +kernel, by decide +kernel⟩
section
variable {P : Program} {w : World} {K : PySem.W.Frag} {mg : Str → Option Value} {base : Heap}
def spShown : Sp := fun vs H Q _ => ∃ x : V, vs = [x] ∧ Shn x ∧ ∀ (S : Str) H', Gr H H' → S.length ≤ 1100 → Q (.str S) H'
theorem ok_shown {f : Addr} {fd : FuncData} {k : Nat} (F : Fun K "shown" "shown" sShown f fd) (mi : mg "isinstance" = none) (mn : mg "int" = none) (ms : mg "str" = none) :
    FnOk P w K mg base CX0 (k + 1) f fd ["field"] spShown := by
  refine F.ok scShown (fun vs H Q E h => ?_) (fun cdv A outer s H vs Q E hr h => ?_)
  · obtain ⟨x, rfl, _⟩ := h
    rfl
  · obtain ⟨x, rfl, hx, q⟩ := h
    have nd := scShown.nd
    refine' ⟨_, pss_cons ?s1 (pss_cons ?s2 (pss_one ?s3)), ?rd⟩
    case s1 =>
      exact ps_if (PW.pt (pw_and (pt_val (pe_isi "int" 0 mi mn (by decide +kernel))) (pw_and1 (pt_not (pt_chain op_lt op_lt (pe_un un_neg pe_int) (pv 0) pe_int))))) (pss_one (ps_ret pe_str)) pss_nil
    case s2 =>
      exact ps_if (pt_val (pe_callB call_isiT (by rfl) mi boot_isi (pa_cons (pv 0) (pa_cons (pe_tup (pa_cons (pe_bltn (v := .ty "int") (by rfl) mn (by decide +kernel) rfl) (pa_cons (pe_bltn (v := .ty "str") (by rfl) ms (by decide +kernel) rfl) pa_nil))) pa_nil))))
        (pss_one (ps_ret (pe_callTy call_strX (by rfl) ms (by decide +kernel) (pa_cons (pv 0) pa_nil)))) pss_nil
    case s3 => exact ps_ret (pe_ifExp (pt_cmpR op_isN (pv 0) pe_non (nomark _)) pe_str pe_str)
    case rd =>
    have two : ∀ t, H t = none → upd H t (.tup [.ty "int", .ty "str"]) t = some (.tup [.ty "int", .ty "str"]) := fun t _ => upd_same
    rcases hx with rfl | ⟨i, rfl⟩ | ⟨z, rfl, hz⟩
    · refine ⟨.non, rfl, _, _, (is_non (K := K) (H := H)).1, kit_int _ (is_non (K := K) (H := H)).2, _, rfl, iteF ?_⟩
      refine ⟨_, rfl, by show 2 ≤ sizeLine; decide, fun t nt => ⟨.non, t, _, .type "NoneType", [.type "int", .type "str"], false, rfl, two t nt, .cons (.ty _) (.cons (.ty _) .nil), is_non.1, kitAny_cons (kit_ty (b := "int") (r := false) (by decide +kernel)) (fun _ => kitAny_cons (kit_ty (b := "str") (r := false) (by decide +kernel)) (fun _ => kitAny_nil) (fun z => by cases z)) (fun z => by cases z), _, rfl, iteF ?_⟩⟩
      exact ⟨_, rfl, rfl, _, rfl, iteT (q _ _ (Gr.new nt) (by decide +kernel))⟩
    · refine ⟨.int i, rfl, _, _, (is_int i).1, kit_int _ (is_int (K := K) (H := H) i).2, _, rfl, iteT ?_⟩
      have go : (-1000 < i ∧ i < 1000) → ∀ t, H t = none → Q (.str (toString i)) (upd H t (.tup [.ty "int", .ty "str"])) := fun h t nt => by
        refine q _ _ (Gr.new nt) ?_
        have e := int_text_length_le (k := 12) (a := i) (by decide) (by
          by_cases c : i.natAbs = 0
          · rw [c]
            decide
          · refine (Nat.log2_lt c).mpr ?_
            have : (2 : Nat) ^ 12 = 4096 := by decide
            omega)
        show (Str.ofString (toString i)).length ≤ 1100
        rw [PySem.ofString_length]
        omega
      have lg : (-1000 < i ∧ i < 1000) → i.natAbs.log2 < 1920 := fun h => by
        by_cases c : i.natAbs = 0
        · rw [c]
          decide
        · refine Nat.lt_of_lt_of_le ((Nat.log2_lt (k := 10) c).mpr ?_) (by decide)
          have : (2 : Nat) ^ 10 = 1024 := by decide
          omega
      refine ⟨1000, rfl, _, rfl, -1000, i, rfl, rfl, _, rfl, ite2 (fun e1 => ?_) (fun e1 => ?_)⟩
      · refine ⟨i, 1000, rfl, rfl, _, rfl, ?_⟩
        by_cases c2 : i < 1000
        · have hh : -1000 < i ∧ i < 1000 := ⟨of_decide_eq_true e1, c2⟩
          rw [decide_eq_true c2]
          refine iteF ⟨_, rfl, by show 2 ≤ sizeLine; decide, fun t nt => ⟨.int i, t, _, .type "int", [.type "int", .type "str"], true, rfl, two t nt, .cons (.ty _) (.cons (.ty _) .nil), (is_int i).1, kitAny_cons (kit_ty (b := "int") (r := true) (by decide +kernel)) (fun z => by cases z) (fun _ => rfl), _, rfl, iteT ?_⟩⟩
          exact ⟨_, rfl, .inr ⟨i, rfl, lg hh, go hh t nt⟩⟩
        · rw [decide_eq_false c2]
          exact iteT (q _ H (Gr.refl H) (by decide +kernel))
      · exact ⟨_, rfl, iteT (q _ H (Gr.refl H) (by decide +kernel))⟩
    · refine ⟨.str z, rfl, _, _, (is_str z).1, kit_int _ (is_str (K := K) (H := H) z).2, _, rfl, iteF ?_⟩
      refine ⟨_, rfl, by show 2 ≤ sizeLine; decide, fun t nt => ⟨.str z, t, _, .type "str", [.type "int", .type "str"], true, rfl, two t nt, .cons (.ty _) (.cons (.ty _) .nil), (is_str z).1, kitAny_cons (kit_ty (b := "int") (r := false) (by decide +kernel)) (fun _ => kitAny_cons (kit_ty (b := "str") (r := true) (by decide +kernel)) (fun z => by cases z) (fun _ => rfl)) (fun z => by cases z), _, rfl, iteT ?_⟩⟩
      exact ⟨_, rfl, .inl ⟨z, rfl, q _ _ (Gr.new nt) (by omega)⟩⟩
end
end SfC
namespace SfC
open PySem PySem.Spec PyProof.Rows L2 SfG
/-! ### refusals of two fields -/
def spIni (C : Addr) (f1 f2 : Str) : Sp := fun vs H Q _ => ∃ (a : Addr) (x y : V), vs = [.ref a, x, y] ∧ H a = some (exo a C none) ∧ Shn x ∧ Shn y ∧
  ∀ H1 dx, Gr H H1 → H1 dx = none → dx ≠ a → Q .non (upd (upd (upd H1 dx (exd dx [(f1, x)])) a (exo a C (some dx))) dx (exd dx [(f2, y), (f1, x)]))
/-- a class of refusals of two fields: where it stands, how it is made, what its fields are -/
structure Bad2 (P : Program) (w : World) (K : PySem.W.Frag) (mg : Str → Option Value) (base : Heap) (k : Nat) (x f1 f2 : Str) (C fI : Addr) (fd : FuncData) : Prop where
  T : OexC K C
  i : PySem.W.findIn K (.ref C) "__init__" = some (some (.ref fI))
  t : PySem.W.typeIn K (.ref fI) = some (.type "function")
  F : FnOk P w K mg base CX0 k fI fd ["self", f1, f2] (spIni C f1 f2)
  b : Binds K fd ["self", f1, f2] []
  g : mg x = some (.ref C)
theorem gr_made {H H1 : Hp} {a dx : Addr} {o o1 o2 o3 o4 : HO} (na : H a = none) (g : Gr (upd H a o) H1) (nd : H1 dx = none) (ne : dx ≠ a) (nt : ∀ ps, o ≠ .tbl ps) :
    Gr H (upd (del (upd (upd (upd H1 dx o1) a o2) dx o3) a) dx o4) := by
  have back : ∀ l, H1 l = none → H l = none := fun l h => by
    have := g.back l h
    by_cases e : l = a
    · rw [e]
      exact na
    · rw [upd_ne e] at this
      exact this
  have keep : ∀ b u, H b = some u → b ≠ a ∧ b ≠ dx := fun b u h => by
    refine ⟨ne_of_none h na, ?_⟩
    intro z
    have := back dx nd
    rw [← z, h] at this
    cases this
  have at_ : ∀ b, b ≠ a → b ≠ dx → upd (del (upd (upd (upd H1 dx o1) a o2) dx o3) a) dx o4 b = H1 b := fun b h1 h2 => by
    rw [upd_ne h2, del_ne h1, upd_ne h2, upd_ne h1, upd_ne h2]
  refine ⟨fun b u h n => ?_, fun P t => ?_, fun l h => ?_⟩
  · obtain ⟨h1, h2⟩ := keep b u h
    rw [at_ b h1 h2]
    exact g.keep b u ((upd_ne h1).trans h) n
  · obtain ⟨ps, e, r⟩ := t
    obtain ⟨h1, h2⟩ := keep P _ e
    obtain ⟨ps', e', r'⟩ := g.tab P ⟨ps, (upd_ne h1).trans e, r⟩
    exact ⟨ps', (at_ P h1 h2).trans e', r'⟩
  · by_cases e1 : l = dx
    · rw [e1, upd_same] at h
      cases h
    · by_cases e2 : l = a
      · rw [e2]
        exact na
      · rw [at_ l e2 e1] at h
        exact back l h
/-- such a refusal, made -/
theorem made2 {C : Addr} {f1 f2 : Str} {x y : V} {H : Hp} {Q : XK} (hx : Shn x) (hy : Shn y) (q : ∀ d H', Gr H H' → H' d = some (.xd [(f2, y), (f1, x)]) → Q (.ref C) (some d) H') :
    ([x, y] : List V).length ≤ 1000 ∧ ∀ a, H a = none → spIni C f1 f2 (.ref a :: ([x, y] ++ [])) (upd H a (exo a C none))
      (fun v H2 => v = .non ∧ ∃ (d : Addr) (fs : List (Str × V)), H2 a = some (exo a C (some d)) ∧ H2 d = some (exd d fs) ∧ H d = none ∧ Q (.ref C) (some d) (upd (del H2 a) d (.xd fs))) (fun _ _ _ => False) := by
  refine ⟨by show 2 ≤ 1000; decide, fun a na => ⟨a, x, y, rfl, upd_same, hx, hy, fun H1 dx g nd ne => ⟨rfl, dx, _, ?_, upd_same, ?_, q dx _ (gr_made na g nd ne fun _ => exo_tbl) upd_same⟩⟩⟩
  · rw [upd_ne (Ne.symm ne), upd_same]
  · have := g.back dx nd
    rw [upd_ne ne] at this
    exact this
theorem app_len (a b : Str) : (a ++ b).length = a.length + b.length := by
  show (a.cps ++ b.cps).size = _
  exact Array.size_append
abbrev sFaceIni : Stmt := inClass sBadFace 0
theorem scFaceIni : SupScope ["self", "part", "number"] ["self", "part", "number"] (defScope sFaceIni) :=
  ⟨rfl, rfl, rfl, by decide +kernel, rfl, by decide +kernel, by decide +kernel, by decide +kernel, rfl, rfl⟩
section
variable {P : Program} {w : World} {K : PySem.W.Frag} {mg : Str → Option Value} {base : Heap}
/-- __init__ of BadFace -/
theorem ok_faceIni {f C cc cda fS : Addr} {fdS : FuncData} {k : Nat} {oc kV doc pm ct : Value} {od an : Option Addr} {osl : Array (Option Value)}
    (lk : K.lookup f = some ⟨oc, od, .func (PySem.W.ksFn "__init__" "BadFace.__init__" (defArgs sFaceIni) (defBody sFaceIni) (defScope sFaceIni) .none kV doc pm an (.ref cda) ct cc), osl⟩)
    (hcd : PySem.W.codeIn K (.ref cda) "BadFace.__init__" = true) (U : SupC P K mg C cc cda) (HS : Has P w K mg base (k + 1) "shown" ["field"] spShown fS fdS)
    (n1 : PySem.W.findIn K (.ref C) "part" = some none) (n2 : PySem.W.findIn K (.ref C) "number" = some none) :
    FnOk P w K mg base CX0 (k + 2) f (PySem.W.ksFn "__init__" "BadFace.__init__" (defArgs sFaceIni) (defBody sFaceIni) (defScope sFaceIni) .none kV doc pm an (.ref cda) ct cc) ["self", "part", "number"] (spIni C "part" "number") := by
  refine fn_super lk hcd scFaceIni U rfl rfl (fun vs H Q E h => ?_) (fun A outer s H vs Q E hr h => ?_) (fun _ => rfl) (fun _ => ⟨_, rfl⟩) (fun _ => rfl)
  · obtain ⟨a, x, y, rfl, _⟩ := h
    rfl
  · obtain ⟨a, x, y, rfl, ha, hx, hy, q⟩ := h
    refine ⟨a, [x, y], _, _, rfl, ha, pe_joined (.cons pe_str (.cons (pe_fmt (hcall HS hr (pa_cons (pv 1) pa_nil))) (.cons pe_str (.cons (pe_fmt (hcall HS hr (pa_cons (pv 2) pa_nil))) .nil)))), pss_cons (ps_ost (pv 0) (pv 1)) (pss_one (ps_ost (pv 0) (pv 2))), ?_⟩
    have e9 : (("no face: " : Str)).length = 9 := by decide +kernel
    have e2 : ((", " : Str)).length = 2 := by decide +kernel
    have ez : (Str.empty : Str).length = 0 := rfl
    refine ⟨_, rfl, ?_, _, rfl, x, rfl, hx, fun S1 H1 g1 l1 => .inl ⟨S1, rfl, by rw [sizeLine_eq]; omega, _, rfl, ?_, _, rfl, ?_, _, rfl, y, rfl, hy, fun S2 H2 g2 l2 => .inl ⟨S2, rfl, by rw [sizeLine_eq]; omega, _, rfl, ?_, ?_⟩⟩⟩
    · rw [app_len, ez, e9, sizeLine_eq]
      decide
    · rw [app_len, app_len, ez, e9, sizeLine_eq]
      omega
    · rw [app_len, app_len, app_len, ez, e9, e2, sizeLine_eq]
      omega
    · rw [app_len, app_len, app_len, app_len, ez, e9, e2, sizeLine_eq]
      omega
    · have g := g1.trans g2
      have ha2 : H2 a = some (exo a C none) := g.keep _ _ ha fun _ => exo_tbl
      refine ⟨ha2, ?_⟩
      refine ⟨_, rfl, _, rfl, a, C, rfl, U.T, n1, .inl ⟨ha2, fun dx nd ne => ?_⟩⟩
      refine ⟨_, rfl, _, rfl, a, C, rfl, U.T, n2, .inr ⟨dx, [("part", x)], upd_same, ?_, by show 1 ≤ 900; decide, q H2 dx g nd ne⟩⟩
      rw [upd_ne ne, upd_same]
end
end SfC
namespace SfC
open PySem PySem.Spec PyProof.Rows L2 SfG
/-! ### names -/
abbrev letters : Str := "abcdefghijklmnopqrstuvwxyz"
def isLet (c : Nat) : Bool := decide (c ∈ letters.cps.toList)
/-- one to eight small letters -/
def isN (z : Str) : Bool := decide (z.length ≤ 8) && (decide (1 ≤ z.length) && z.cps.toList.all isLet)
theorem let_alpha : ∀ c, c < 128 → Unicode.isAlpha c = (isLet c || (Unicode.isUpper c || Unicode.isTitle c)) := by decide +kernel
theorem let_lower : ∀ c, c < 128 → Unicode.isLower c = isLet c := by decide +kernel
theorem let_upper : ∀ c, c < 128 → isLet c = true → (Unicode.isUpper c || Unicode.isTitle c) = false := by decide +kernel
theorem let_range {c : Nat} (h : isLet c = true) : c < 128 := by
  have h' : c ∈ letters.cps.toList := of_decide_eq_true h
  have e : ∀ d ∈ letters.cps.toList, d < 128 := by decide +kernel
  exact e c h'
theorem name_list : ∀ l : List Nat, (∀ c ∈ l, c < 128) → (l.all Unicode.isAlpha && !(l.any fun c => Unicode.isUpper c || Unicode.isTitle c)) = l.all isLet
  | [], _ => rfl
  | a :: r, h => by
    have ih := name_list r fun c hc => h c (.tail _ hc)
    have ha := h a (.head _)
    rw [List.all_cons, List.any_cons, List.all_cons, ← ih, let_alpha a ha]
    cases hl : isLet a with
    | true =>
      rw [let_upper a ha hl]
      simp
    | false =>
      cases (Unicode.isUpper a || Unicode.isTitle a) <;> simp
theorem name_txt (z : Str) : (Txt.isalpha z && (Txt.islower z && Txt.isascii z)) = (decide (1 ≤ z.length) && z.cps.toList.all isLet) := by
  have hl : z.length = z.cps.toList.length := by simp [Str.length]
  unfold Txt.isalpha Txt.islower Txt.isascii
  rw [← Array.all_toList, ← Array.any_toList, ← Array.any_toList, ← Array.all_toList, hl]
  generalize z.cps.toList = l
  by_cases hc : ∀ c ∈ l, c < 128
  · have h1 : (l.all fun x => decide (x < 128)) = true := List.all_eq_true.mpr fun c h => decide_eq_true (hc c h)
    have e := name_list l hc
    rw [h1, ← e]
    cases l with
    | nil => rfl
    | cons a r =>
      have h2 : (decide ((a :: r).length > 0)) = true := decide_eq_true (by simp)
      have h3 : (decide (1 ≤ (a :: r).length)) = true := decide_eq_true (by simp)
      rw [h2, h3]
      cases hA : (a :: r).all isLet with
      | true =>
        rw [hA] at e
        have hla : isLet a = true := by
          rw [List.all_cons] at hA
          exact (Bool.and_eq_true_iff.mp hA).1
        have hlow : (a :: r).any Unicode.isLower = true := by
          rw [List.any_cons, let_lower a (hc a (.head _)), hla]
          rfl
        rw [hlow]
        simp
      | false =>
        rw [hA] at e
        rw [e]
        cases h4 : (a :: r).all Unicode.isAlpha with
        | false => rfl
        | true =>
          rw [h4] at e
          cases h5 : (a :: r).any fun c => Unicode.isUpper c || Unicode.isTitle c with
          | true => simp
          | false =>
            rw [h5] at e
            cases e
  · have h1 : (l.all fun x => decide (x < 128)) = false := by
      cases h : (l.all fun x => decide (x < 128)) with
      | false => rfl
      | true => exact absurd (fun c hc' => of_decide_eq_true (List.all_eq_true.mp h c hc')) hc
    have h2 : l.all isLet = false := by
      cases h : l.all isLet with
      | false => rfl
      | true => exact absurd (fun c hc' => let_range (List.all_eq_true.mp h c hc')) hc
    rw [h1, h2]
    simp
theorem isN_txt {z : Str} (h : isN z = true) : z.length ≤ 8 ∧ 1 ≤ z.length ∧ Txt.isalpha z = true ∧ Txt.islower z = true ∧ Txt.isascii z = true ∧ z.cps.toList.all isLet = true := by
  unfold isN at h
  rw [← name_txt, Bool.and_eq_true, Bool.and_eq_true, Bool.and_eq_true, decide_eq_true_eq] at h
  have e := name_txt z
  rw [h.2.1, h.2.2.1, h.2.2.2] at e
  have e' := e.symm
  rw [Bool.and_true, Bool.and_true, Bool.and_eq_true, decide_eq_true_eq] at e'
  exact ⟨h.1, e'.1, h.2.1, h.2.2.1, h.2.2.2, e'.2⟩
theorem isN_small {z : Str} (h : isN z = true) : z.length ≤ sizeLine := by
  have h1 := (isN_txt h).1
  rw [sizeLine_eq]
  omega
/-! ### faces -/
abbrev lt (a b : Str) : Prop := a.cps.toList < b.cps.toList
inductive Kn where
  | h (s : Str)
  | p (n : Int)
def Kn.d : Kn → PyData
  | .h s => .str s
  | .p n => .int n
def Kn.v : Kn → V
  | .h s => .str s
  | .p n => .int n
def Kn.isH : Kn → Bool
  | .h _ => true
  | .p _ => false
structure De where
  nm : Str
  tk : List Kn
  gv : Kn
structure Fc where
  hd : List Str
  ds : List De
def De.d (e : De) : PyData := .tuple [.str e.nm, .tuple (e.tk.map Kn.d), e.gv.d]
def Fc.d (f : Fc) : PyData := .tuple [.tuple (f.hd.map .str), .tuple (f.ds.map De.d)]
def goK (hd : List Str) : Kn → Prop
  | .h s => s ∈ hd
  | .p n => 2 ≤ n ∧ n ≤ 9
def hidN (tk : List Kn) : Nat := (tk.filter Kn.isH).length
structure goD (hd : List Str) (e : De) : Prop where
  nm : isN e.nm = true
  len : e.tk.length ≤ 3
  tk : ∀ k ∈ e.tk, goK hd k
  two : hidN e.tk ≤ 2
  gv : goK hd e.gv
structure goH (hd : List Str) : Prop where
  lo : 1 ≤ hd.length
  hi : hd.length ≤ 2
  nm : ∀ z ∈ hd, isN z = true
  up : hd.Pairwise lt
structure goF (f : Fc) : Prop where
  hid : goH f.hd
  lo : 1 ≤ f.ds.length
  hi : f.ds.length ≤ 8
  up : (f.ds.map De.nm).Pairwise lt
  ok : ∀ e ∈ f.ds, goD f.hd e
/-- the name ahead of the i-th -/
def ahd (l : List Str) (i : Nat) : Str := if i = 0 then "" else l.getD (i - 1) ""
theorem ahd_lt {l : List Str} (up : l.Pairwise lt) (hn : ∀ z ∈ l, isN z = true) {i : Nat} {z : Str} (hz : l[i]? = some z) : lt (ahd l i) z := by
  unfold ahd
  by_cases h0 : i = 0
  · rw [if_pos h0]
    have h1 := (isN_txt (hn z (List.mem_of_getElem? hz))).2.1
    have hl : z.length = z.cps.toList.length := by simp [Str.length]
    show (([] : List Nat) < z.cps.toList)
    cases hc : z.cps.toList with
    | nil =>
      rw [hl, hc] at h1
      exact absurd h1 (by simp)
    | cons a r => exact List.nil_lt_cons a r
  · rw [if_neg h0]
    have hi : i < l.length := by
      rcases Nat.lt_or_ge i l.length with h | h
      · exact h
      · rw [List.getElem?_eq_none h] at hz
        cases hz
    have e1 : l.getD (i - 1) "" = l[i - 1] := by
      rw [List.getD_eq_getElem?_getD, List.getElem?_eq_getElem (by omega)]
      rfl
    have e2 : z = l[i] := by
      rw [List.getElem?_eq_getElem hi] at hz
      exact (Option.some.inj hz).symm
    rw [e1, e2]
    exact List.pairwise_iff_getElem.mp up (i - 1) i (by omega) hi (by omega)
theorem ahd_succ {l : List Str} {i : Nat} {z : Str} (hz : l[i]? = some z) : ahd l (i + 1) = z := by
  unfold ahd
  rw [if_neg (by omega), List.getD_eq_getElem?_getD, Nat.add_sub_cancel, hz]
  rfl
theorem inV_mem {s : Str} {l : List Str} (h : s ∈ l) : inV (.str s) (l.map V.str) = true := by
  unfold inV
  rw [List.any_map]
  exact List.any_eq_true.mpr ⟨s, h, by simp [eqV]⟩
theorem flat_strs (l : List Str) : (l.map V.str).all flatV = true := by
  rw [List.all_map]
  exact List.all_eq_true.mpr fun _ _ => rfl
section
variable {P : Program} {w : World} {K : PySem.W.Frag} {mg : Str → Option Value} {base : Heap}
theorem is_kn {H : Hp} (k : Kn) : Is K H k.v (match k with | .h _ => "str" | .p _ => "int") := by
  cases k with
  | h s => exact is_str s
  | p n => exact is_int n
theorem dp_kn {H : Hp} {v : V} {k : Kn} (h : Dp K H v k.d) : v = k.v := by
  cases k with
  | h s => exact dp_str h
  | p n => exact dp_int h
theorem dpA_strs {H : Hp} : ∀ {l : List Str} {xs : List V}, DpAll K H xs (l.map PyData.str) → xs = l.map V.str
  | [], _, h => dpA_nil h
  | a :: r, _, h => by
    obtain ⟨x, t, rfl, hx, ht⟩ := dpA_cons h
    rw [dp_str hx, dpA_strs ht]
    rfl
theorem dpA_kns {H : Hp} : ∀ {l : List Kn} {xs : List V}, DpAll K H xs (l.map Kn.d) → xs = l.map Kn.v
  | [], _, h => dpA_nil h
  | a :: r, _, h => by
    obtain ⟨x, t, rfl, hx, ht⟩ := dpA_cons h
    rw [dp_kn hx, dpA_kns ht]
    rfl
/-! ### is_name, is_kind, first_bad_hidden -/
theorem scName : FnScope ["thing"] ["thing"] (defScope sName) := ⟨rfl, rfl, rfl, by decide +kernel, rfl, by decide +kernel, by decide +kernel⟩
theorem scKind : FnScope ["thing", "hidden"] ["thing", "hidden"] (defScope sKind) := ⟨rfl, rfl, rfl, by decide +kernel, rfl, by decide +kernel, by decide +kernel⟩
abbrev nBadH : List Str := ["hidden", "ahead", "number", "name"]
theorem scBadH : FnScope nBadH ["hidden"] (defScope sBadH) := ⟨rfl, rfl, rfl, by decide +kernel, rfl, by decide +kernel, by decide +kernel⟩
def spName : Sp := fun vs H Q _ => ∃ z : Str, vs = [.str z] ∧ isN z = true ∧ Q (.bl true) H
theorem ok_name {f : Addr} {fd : FuncData} {k : Nat} (F : Fun K "is_name" "is_name" sName f fd) (mi : mg "isinstance" = none) (m1 : mg "str" = none) (ml : mg "len" = none) :
    FnOk P w K mg base CX0 (k + 1) f fd ["thing"] spName := by
  refine F.ok scName (fun vs H Q E h => ?_) (fun cdv A outer s H vs Q E hr h => ?_)
  · obtain ⟨z, rfl, _⟩ := h
    rfl
  · obtain ⟨z, rfl, hz, q⟩ := h
    obtain ⟨h8, h1, ha, hlo, has, _⟩ := isN_txt hz
    refine ⟨_, pss_one (ps_ret (pe_and (pe_isi "str" 0 mi m1 (by decide +kernel))
      (pe_and (pe_cmpR op_le (pe_callB call_len_str (by rfl) ml PySem.boot_len (pa_cons (pv 0) pa_nil)) pe_int (nomark _))
      (pe_and (pe_m0 PySem.F.slot_str_isalpha PySem.F.type_str_isalpha mt_isalpha (pv 0))
      (pe_and (pe_m0 PySem.F.slot_str_islower PySem.F.type_str_islower mt_islower (pv 0))
      (pe_one (pe_m0 PySem.F.slot_str_isascii PySem.F.type_str_isascii mt_isascii (pv 0)))))))), ?_⟩
    refine ⟨_, rfl, "str", _, (is_str z).1, by decide +kernel, _, rfl, iteT ⟨_, rfl, z, rfl, isN_small hz, _, 8, rfl, rfl, _, rfl, ?_⟩⟩
    rw [decide_eq_true (show (z.length : Int) ≤ 8 by omega)]
    refine iteT ⟨_, rfl, ⟨z, rfl⟩, z, rfl, rfl, trivial, _, rfl, ?_⟩
    rw [ha]
    refine iteT ⟨_, rfl, ⟨z, rfl⟩, z, rfl, rfl, trivial, _, rfl, ?_⟩
    rw [hlo]
    refine iteT ⟨_, rfl, ⟨z, rfl⟩, z, rfl, rfl, trivial, ?_⟩
    rw [has]
    exact q
def spKind (K : PySem.W.Frag) : Sp := fun vs H Q _ => ∃ (k : Kn) (hd : List Str) (p : Addr), vs = [k.v, .ref p] ∧ SqT K H p (hd.map V.str) ∧ goK hd k ∧ Q (.bl true) H
theorem ok_kind {f : Addr} {fd : FuncData} {k : Nat} (F : Fun K "is_kind" "is_kind" sKind f fd) (mi : mg "isinstance" = none) (m1 : mg "str" = none) (m2 : mg "int" = none) :
    FnOk P w K mg base CX0 (k + 1) f fd ["thing", "hidden"] (spKind K) := by
  refine F.ok scKind (fun vs H Q E h => ?_) (fun cdv A outer s H vs Q E hr h => ?_)
  · obtain ⟨k, hd, p, rfl, _⟩ := h
    rfl
  · obtain ⟨k, hd, p, rfl, hp, hk, q⟩ := h
    refine ⟨_, pss_cons (ps_if (pt_val (pe_isi "str" 0 mi m1 (by decide +kernel))) (pss_one (ps_ret (pe_cmpR op_in_seq (pv 0) (pv 1) rfl))) pss_nil)
      (pss_one (ps_ret (pe_and (pe_isi "int" 0 mi m2 (by decide +kernel)) (pe_one (pe_chain op_le op_le pe_int (pv 0) pe_int))))), ?_⟩
    cases k with
    | h s =>
      refine ⟨_, rfl, "str", _, (is_str s).1, by decide +kernel, _, rfl, iteT ⟨_, rfl, _, rfl, p, _, rfl, .inr hp, rfl, flat_strs hd, ?_⟩⟩
      rw [show inV (Kn.v (.h s)) (hd.map V.str) = true from inV_mem hk]
      exact q
    | p n =>
      obtain ⟨h2, h9⟩ := hk
      refine ⟨_, rfl, "int", false, (is_int n).1, by decide +kernel, _, rfl, iteF ⟨_, rfl, "int", true, (is_int n).1, by decide +kernel, _, rfl, iteT ⟨_, rfl, 2, n, rfl, rfl, _, rfl, ?_⟩⟩⟩
      rw [decide_eq_true h2]
      refine iteT ⟨n, 9, rfl, rfl, ?_⟩
      show Q (.bl (decide (n ≤ 9))) H
      rw [decide_eq_true h9]
      exact q
def spBadH (K : PySem.W.Frag) : Sp := fun vs H Q _ => ∃ (hd : List Str) (p : Addr), vs = [.ref p] ∧ SqT K H p (hd.map V.str) ∧ (∀ z ∈ hd, isN z = true) ∧ hd.Pairwise lt ∧ ∀ H', Gr H H' → Q .non H'
theorem ok_badH {f fN : Addr} {fd fdN : FuncData} {k : Nat} (F : Fun K "first_bad_hidden" "first_bad_hidden" sBadH f fd) (HN : Has P w K mg base (k + 1) "is_name" ["thing"] spName fN fdN) (me : mg "enumerate" = none) :
    FnOk P w K mg base CX0 (k + 2) f fd ["hidden"] (spBadH K) := by
  refine F.ok scBadH (fun vs H Q E h => ?_) (fun cdv A outer s H vs Q E hr h => ?_)
  · obtain ⟨hd, p, rfl, _⟩ := h
    rfl
  · obtain ⟨hd, p, rfl, hp, hn, up, q⟩ := h
    have nd := scBadH.nd
    refine' ⟨_, pss_cons (ps_set (i := 1) nd rfl (.inl rfl) pe_str) (pss_cons (ps_for PassesOwn.never rfl (pi_enumT (by rfl) me (pa_cons (pv 0) pa_nil))
        (pg_tup rfl (pgs_cons (pg_name (i := 2) nd rfl (.inl rfl)) (pgs_cons (pg_name (i := 3) nd rfl (.inl rfl)) pgs_nil)))
        (pss_cons (ps_if (PW.pt (pw_or (pt_not (pt_val (hcall HN hr (pa_cons (pv 3) pa_nil)))) (pw_or1 (pt_cmpR op_le_str (pv 3) (pv 1) (nomark _))))) (pss_one (ps_ret (pv 2))) pss_nil)
        (pss_one (ps_set (i := 1) nd rfl (.inl rfl) (pv 3))))) (pss_one (ps_ret pe_non))), ?rd⟩
    case rd =>
    refine ⟨_, rfl, p, _, rfl, hp, for_it (walk_enumT (xs := hd.map V.str)) (fun i σ H1 => ∃ y2 y3 : Option V, σ = [some (.ref p), some (.str (ahd hd i)), y2, y3] ∧ Gr H H1) ⟨none, none, rfl, Gr.refl H⟩ ?h1 ?h2 ?h3⟩
    case h1 =>
      rintro i σ H1 hi ⟨y2, y3, rfl, g⟩
      exact g.sqt hp
    case h2 =>
      rintro i x σ H1 H2 hi ⟨y2, y3, rfl, g⟩ ⟨T, a, b, rfl, nT, rfl, ha, hb⟩
      cases ha
      rw [show (fun i : Nat => (hd.map V.str)[i]?) i = (hd.map V.str)[i]? from rfl, List.getElem?_map] at hb
      obtain ⟨z, hz, rfl⟩ := Option.map_eq_some_iff.mp hb
      have gz := hn z (List.mem_of_getElem? hz)
      have lz := ahd_lt up hn hz
      refine ⟨T, [.int (i : Nat), .str z], rfl, .inl (.inl upd_same), rfl, .int (i : Nat), [.str z], rfl, .str z, [], rfl, rfl, ?_⟩
      refine ⟨_, rfl, z, rfl, gz, _, rfl, iteF ⟨_, rfl, _, rfl, z, _, rfl, rfl, _, rfl, ?_⟩⟩
      rw [decide_eq_true lz]
      refine iteF ⟨_, rfl, ?_⟩
      show ∃ y2 y3 : Option V, _ = [some (.ref p), some (.str (ahd hd (i + 1))), y2, y3] ∧ _
      rw [ahd_succ hz]
      exact ⟨_, _, rfl, g.trans (Gr.new nT)⟩
    case h3 =>
      rintro σ H1 ⟨y2, y3, rfl, g⟩
      exact q H1 g
end
end SfC
namespace SfC
open PySem PySem.Spec PyProof.Rows L2 SfG
abbrev nBadD : List Str := ["deeds", "hidden", "ahead", "number", "deed", "name", "takes", "gives", "many", "kind"]
theorem scBadD : FnScope nBadD ["deeds", "hidden"] (defScope sBadD) := ⟨rfl, rfl, rfl, by decide +kernel, rfl, by decide +kernel, by decide +kernel⟩
theorem dpA_de {K : PySem.W.Frag} {H : Hp} {xs : List V} {es : List De} (h : DpAll K H xs (es.map De.d)) {i : Nat} {x : V} (hx : xs[i]? = some x) : ∃ e, es[i]? = some e ∧ Dp K H x e.d := by
  have hl := dpA_len h
  rw [List.length_map] at hl
  have hi : i < xs.length := by
    rcases Nat.lt_or_ge i xs.length with h1 | h1
    · exact h1
    · rw [List.getElem?_eq_none h1] at hx
      cases hx
  have hi' : i < es.length := by omega
  obtain ⟨y, hy, hd⟩ := dpA_get (i := i) (d := (es[i]).d) h (by simp [hi'])
  rw [hx] at hy
  cases hy
  exact ⟨es[i], by simp [hi'], hd⟩
theorem hidN_snoc (tk : List Kn) (k : Kn) : hidN (tk ++ [k]) = hidN tk + (if k.isH then 1 else 0) := by
  unfold hidN
  rw [List.filter_append, List.length_append]
  cases h : k.isH <;> simp [h]
theorem hidN_take {tk : List Kn} {i : Nat} {k : Kn} (h : tk[i]? = some k) : hidN (tk.take (i + 1)) = hidN (tk.take i) + (if k.isH then 1 else 0) := by
  rw [List.take_add_one, h]
  exact hidN_snoc _ k
section
variable {P : Program} {w : World} {K : PySem.W.Frag} {mg : Str → Option Value} {base : Heap}
def spBadD (K : PySem.W.Frag) : Sp := fun vs H Q _ => ∃ (es : List De) (hd : List Str) (x : V) (p : Addr), vs = [x, .ref p] ∧ Dp K H x (.tuple (es.map De.d)) ∧ SqT K H p (hd.map V.str) ∧ (es.map De.nm).Pairwise lt ∧ (∀ e ∈ es, goD hd e) ∧ ∀ H', Gr H H' → Q .non H'
set_option maxHeartbeats 1000000 in
theorem ok_badD {f fK : Addr} {fd fdK : FuncData} {k : Nat} (F : Fun K "first_bad_deed" "first_bad_deed" sBadD f fd) (HK : Has P w K mg base (k + 1) "is_kind" ["thing", "hidden"] (spKind K) fK fdK)
    (me : mg "enumerate" = none) (mi : mg "isinstance" = none) (m1 : mg "str" = none) (m2 : mg "int" = none) (m3 : mg "tuple" = none) (ml : mg "len" = none) :
    FnOk P w K mg base CX0 (k + 2) f fd ["deeds", "hidden"] (spBadD K) := by
  refine F.ok scBadD (fun vs H Q E h => ?_) (fun cdv A outer s H vs Q E hr h => ?_)
  · obtain ⟨es, hd, x, p, rfl, _⟩ := h
    rfl
  · obtain ⟨es, hd, x, p, rfl, hx, hp, up, ok, q⟩ := h
    have nd := scBadD.nd
    refine' ⟨_, pss_cons (ps_set (i := 2) nd rfl (.inl rfl) pe_str) (pss_cons (ps_for PassesOwn.never rfl (pi_enumT (by rfl) me (pa_cons (pv 0) pa_nil))
        (pg_tup rfl (pgs_cons (pg_name (i := 3) nd rfl (.inl rfl)) (pgs_cons (pg_name (i := 4) nd rfl (.inl rfl)) pgs_nil)))
        (pss_cons ?b1 (pss_cons ?b2 (pss_cons ?b3 (pss_cons ?b4 (pss_cons ?b5 (pss_cons ?b6 (pss_cons ?b7 (pss_cons ?b8 (pss_one ?b9)))))))))) (pss_one (ps_ret pe_non))), ?rd⟩
    case b1 =>
      exact ps_if (PW.pt (pw_or (pt_not (pt_val (pe_isi "tuple" 4 mi m3 (by decide +kernel)))) (pw_or1 (pt_cmpR op_ne (pe_callB call_len_seq (by rfl) ml PySem.boot_len (pa_cons (pv 4) pa_nil)) pe_int (nomark _))))) (pss_one (ps_ret (pv 3))) pss_nil
    case b2 =>
      exact ps_asg (pv 4) (pg_tup rfl (pgs_cons (pg_name (i := 5) nd rfl (.inl rfl)) (pgs_cons (pg_name (i := 6) nd rfl (.inl rfl)) (pgs_cons (pg_name (i := 7) nd rfl (.inl rfl)) pgs_nil))))
    case b3 =>
      exact ps_if (PW.pt (pw_or (pt_not (pt_val (pe_isi "str" 5 mi m1 (by decide +kernel)))) (pw_or (pt_cmpR op_gt (pe_callB call_len_str (by rfl) ml PySem.boot_len (pa_cons (pv 5) pa_nil)) pe_int (nomark _)) (pw_or1 (pt_cmpR op_le_str (pv 5) (pv 2) (nomark _)))))) (pss_one (ps_ret (pv 3))) pss_nil
    case b4 =>
      exact ps_if (PW.pt (pw_or (pt_not (pt_val (pe_m0 PySem.F.slot_str_isalpha PySem.F.type_str_isalpha mt_isalpha (pv 5)))) (pw_or (pt_not (pt_val (pe_m0 PySem.F.slot_str_islower PySem.F.type_str_islower mt_islower (pv 5)))) (pw_or1 (pt_not (pt_val (pe_m0 PySem.F.slot_str_isascii PySem.F.type_str_isascii mt_isascii (pv 5)))))))) (pss_one (ps_ret (pv 3))) pss_nil
    case b5 =>
      exact ps_if (PW.pt (pw_or (pt_not (pt_val (pe_isi "tuple" 6 mi m3 (by decide +kernel)))) (pw_or (pt_cmpR op_gt (pe_callB call_len_seq (by rfl) ml PySem.boot_len (pa_cons (pv 6) pa_nil)) pe_int (nomark _)) (pw_or1 (pt_not (pt_val (hcall HK hr (pa_cons (pv 7) (pa_cons (pv 1) pa_nil))))))))) (pss_one (ps_ret (pv 3))) pss_nil
    case b6 =>
      exact ps_set (i := 8) nd rfl (.inl rfl) pe_int
    case b7 =>
      refine' ps_for PassesOwn.never rfl (pi_tup (pv 6)) (pg_name (i := 9) nd rfl (.inl rfl)) (pss_one (ps_if (pt_val (pe_isi "str" 9 mi m1 (by decide +kernel))) (pss_cons ?c1 (pss_one ?c2)) (pss_one ?c3)))
      case c1 => exact ps_if (pt_cmpR op_notIn_seq (pv 9) (pv 1) rfl) (pss_one (ps_ret (pv 3))) pss_nil
      case c2 => exact ps_aug (i := 8) nd rfl (.inl rfl) pe_int ip_add
      case c3 => exact ps_if (PW.pt (pw_or (pt_not (pt_val (pe_isi "int" 9 mi m2 (by decide +kernel)))) (pw_or1 (pt_not (pt_chain op_le op_le pe_int (pv 9) pe_int))))) (pss_one (ps_ret (pv 3))) pss_nil
    case b8 =>
      exact ps_if (pt_cmpR op_gt (pv 8) pe_int (nomark _)) (pss_one (ps_ret (pv 3))) pss_nil
    case b9 =>
      exact ps_set (i := 2) nd rfl (.inl rfl) (pv 5)
    case rd =>
    obtain ⟨pd, xs, rfl, hpd, hxs⟩ := dp_tup hx
    refine ⟨_, rfl, pd, xs, rfl, hpd, for_it (walk_enumT (xs := xs)) (fun i σ H1 => ∃ y3 y4 y5 y6 y7 y8 y9 : Option V, σ = [some (.ref pd), some (.ref p), some (.str (ahd (es.map De.nm) i)), y3, y4, y5, y6, y7, y8, y9] ∧ Gr H H1) ⟨none, none, none, none, none, none, none, rfl, Gr.refl H⟩ ?h1 ?h2 ?h3⟩
    case h1 =>
      rintro i σ H1 hi ⟨y3, y4, y5, y6, y7, y8, y9, rfl, g⟩
      exact g.sqt hpd
    case h3 =>
      rintro σ H1 ⟨y3, y4, y5, y6, y7, y8, y9, rfl, g⟩
      exact q H1 g
    case h2 =>
      rintro i x σ H1 H2 hi ⟨y3, y4, y5, y6, y7, y8, y9, rfl, g⟩ ⟨T, a, b, rfl, nT, rfl, ha, hb⟩
      cases ha
      obtain ⟨e, he, de⟩ := dpA_de hxs hb
      have gd := ok e (List.mem_of_getElem? he)
      have hne : (es.map De.nm)[i]? = some e.nm := by rw [List.getElem?_map, he]; rfl
      have lz := ahd_lt up (fun z hz => by obtain ⟨e', h1, rfl⟩ := List.mem_map.mp hz; exact (ok e' h1).nm) hne
      have g2 : Gr H (upd H1 T (.tup [.int (i : Nat), b])) := g.trans (Gr.new nT)
      have hT : upd H1 T (.tup [.int (i : Nat), b]) T = some (.tup [.int (i : Nat), b]) := upd_same
      generalize upd H1 T (.tup [.int (i : Nat), b]) = H2 at g2 hT ⊢
      have de2 := g2.kd.dp de
      obtain ⟨pe, n1, t1, v1, rfl, hpe, dn, dt, dv⟩ := dp_3 de2
      cases dp_str dn
      cases dp_kn dv
      obtain ⟨pt, ts, rfl, hpt, hts⟩ := dp_tup dt
      cases dpA_kns hts
      have hp2 := g2.sqt hp
      obtain ⟨h8, h1, hal, hlo, has, _⟩ := isN_txt gd.nm
      refine ⟨T, _, rfl, .inl (.inl hT), rfl, .int (i : Nat), [.ref pe], rfl, .ref pe, [], rfl, rfl, ?_⟩
      -- a tuple of three
      refine ⟨_, rfl, "tuple", true, tyx_tup hpe, by decide +kernel, _, rfl, iteF ⟨_, rfl, pe, _, rfl, .inr hpe, rfl, _, rfl, iteF ?_⟩⟩
      refine ⟨_, rfl, pe, _, rfl, hpe, rfl, _, _, rfl, _, _, rfl, _, _, rfl, rfl, ?_⟩
      -- its name
      refine ⟨_, rfl, "str", true, (is_str e.nm).1, by decide +kernel, _, rfl, iteF ⟨_, rfl, _, rfl, isN_small gd.nm, _, 8, rfl, rfl, _, rfl, ?_⟩⟩
      rw [decide_eq_false (show ¬ (e.nm.length : Int) > 8 by omega)]
      refine iteF ⟨_, rfl, _, rfl, e.nm, _, rfl, rfl, _, rfl, ?_⟩
      rw [decide_eq_true lz]
      refine iteF ⟨_, rfl, ⟨_, rfl⟩, e.nm, rfl, rfl, trivial, _, rfl, ?_⟩
      rw [hal]
      refine iteF ⟨_, rfl, ⟨_, rfl⟩, e.nm, rfl, rfl, trivial, _, rfl, ?_⟩
      rw [hlo]
      refine iteF ⟨_, rfl, ⟨_, rfl⟩, e.nm, rfl, rfl, trivial, _, rfl, ?_⟩
      rw [has]
      refine iteF ?_
      -- what it takes and gives
      refine ⟨_, rfl, "tuple", true, tyx_tup hpt, by decide +kernel, _, rfl, iteF ⟨_, rfl, pt, _, rfl, .inr hpt, _, 3, rfl, rfl, _, rfl, ?_⟩⟩
      rw [List.length_map, decide_eq_false (show ¬ ((e.tk.length : Nat) : Int) > 3 by have := gd.len; omega)]
      refine iteF ⟨_, rfl, _, rfl, e.gv, hd, p, rfl, hp2, gd.gv, _, rfl, iteF ?_⟩
      refine ⟨_, rfl, pt, rfl, ⟨_, hpt⟩, for_it (walk_tup (xs := e.tk.map Kn.v)) (fun j σ H3 => ∃ y9 : Option V, σ = [some (.ref pd), some (.ref p), some (.str (ahd (es.map De.nm) i)), some (.int (i : Nat)), some (.ref pe), some (.str e.nm), some (.ref pt), some e.gv.v, some (.int (hidN (e.tk.take j))), y9] ∧ H3 = H2) ⟨_, rfl, rfl⟩ ?i1 ?i2 ?i3⟩
      case i1 =>
        rintro j σ H3 hj ⟨y, rfl, rfl⟩
        exact hpt
      case i2 =>
        rintro j x σ H3 H4 hj ⟨y, rfl, rfl⟩ ⟨rfl, hx⟩
        rw [List.getElem?_map] at hx
        obtain ⟨kn, hkn, rfl⟩ := Option.map_eq_some_iff.mp hx
        have gk := gd.tk kn (List.mem_of_getElem? hkn)
        have ht := hidN_take hkn
        cases kn with
        | h z =>
          refine ⟨_, rfl, "str", true, (is_str z).1, by decide +kernel, _, rfl, iteT ⟨_, rfl, _, rfl, p, _, rfl, .inr hp2, rfl, flat_strs hd, _, rfl, ?_⟩⟩
          rw [show inV (Kn.v (.h z)) (hd.map V.str) = true from inV_mem gk]
          refine iteF ⟨_, rfl, _, 1, rfl, rfl, ?_⟩
          show ∃ y9 : Option V, _ = [some (.ref pd), some (.ref p), some (.str (ahd (es.map De.nm) i)), some (.int (i : Nat)), some (.ref pe), some (.str e.nm), some (.ref pt), some e.gv.v, some (.int (hidN (e.tk.take (j + 1)))), y9] ∧ _
          rw [ht]
          exact ⟨_, rfl, rfl⟩
        | p n =>
          obtain ⟨k2, k9⟩ := gk
          refine ⟨_, rfl, "int", false, (is_int n).1, by decide +kernel, _, rfl, iteF ⟨_, rfl, "int", true, (is_int n).1, by decide +kernel, _, rfl, iteF ⟨_, rfl, 2, n, rfl, rfl, _, rfl, ?_⟩⟩⟩
          rw [decide_eq_true k2]
          refine iteT ⟨n, 9, rfl, rfl, _, rfl, ?_⟩
          rw [decide_eq_true k9]
          refine iteF ?_
          show ∃ y9 : Option V, _ = [some (.ref pd), some (.ref p), some (.str (ahd (es.map De.nm) i)), some (.int (i : Nat)), some (.ref pe), some (.str e.nm), some (.ref pt), some e.gv.v, some (.int (hidN (e.tk.take (j + 1)))), y9] ∧ _
          rw [ht]
          exact ⟨_, rfl, rfl⟩
      case i3 =>
        rintro σ H3 ⟨y, rfl, rfl⟩
        rw [List.length_map, List.take_length]
        refine ⟨_, rfl, _, 2, rfl, rfl, _, rfl, ?_⟩
        rw [decide_eq_false (show ¬ ((hidN e.tk : Nat) : Int) > 2 by have := gd.two; omega)]
        refine iteF ⟨_, rfl, ?_⟩
        show ∃ y3 y4 y5 y6 y7 y8 y9 : Option V, _ = [some (.ref pd), some (.ref p), some (.str (ahd (es.map De.nm) (i + 1))), y3, y4, y5, y6, y7, y8, y9] ∧ _
        rw [ahd_succ hne]
        exact ⟨_, _, _, _, _, _, _, rfl, g2⟩
end
end SfC
namespace SfC
open PySem PySem.Spec PyProof.Rows L2 SfG
theorem scFault : FnScope ["thing", "hidden", "deeds", "number"] ["thing"] (defScope sFault) := ⟨rfl, rfl, rfl, by decide +kernel, rfl, by decide +kernel, by decide +kernel⟩
theorem scNeed : FnScope ["face", "fault", "part", "number"] ["face"] (defScope sNeed) := ⟨rfl, rfl, rfl, by decide +kernel, rfl, by decide +kernel, by decide +kernel⟩
/-- a face in the heap, opened -/
theorem dp_face {K : PySem.W.Frag} {H : Hp} {x : V} {f : Fc} (h : Dp K H x f.d) : ∃ p ph pd xs, x = .ref p ∧ SqT K H p [.ref ph, .ref pd] ∧ SqT K H ph (f.hd.map V.str) ∧ SqT K H pd xs ∧ DpAll K H xs (f.ds.map De.d) := by
  obtain ⟨p, a, b, rfl, hp, ha, hb⟩ := dp_2 h
  obtain ⟨ph, hs, rfl, hph, dh⟩ := dp_tup ha
  obtain ⟨pd, xs, rfl, hpd, dd⟩ := dp_tup hb
  cases dpA_strs dh
  exact ⟨p, ph, pd, xs, rfl, hp, hph, hpd, dd⟩
section
variable {P : Program} {w : World} {K : PySem.W.Frag} {mg : Str → Option Value} {base : Heap}
def spGood (K : PySem.W.Frag) (r : V) : Sp := fun vs H Q _ => ∃ (x : V) (f : Fc), vs = [x] ∧ Dp K H x f.d ∧ goF f ∧ ∀ H', Gr H H' → Q r H'
theorem ok_fault {f fH fD : Addr} {fd fdH fdD : FuncData} {k : Nat} {t8 : Tok} (F : Fun K "face_fault" "face_fault" sFault f fd) (HH : Has P w K mg base (k + 2) "first_bad_hidden" ["hidden"] (spBadH K) fH fdH)
    (HD : Has P w K mg base (k + 2) "first_bad_deed" ["deeds", "hidden"] (spBadD K) fD fdD) (mi : mg "isinstance" = none) (m3 : mg "tuple" = none) (ml : mg "len" = none) (m8 : mg "MOST_DEEDS" = some (.int 8 t8)) :
    FnOk P w K mg base CX0 (k + 3) f fd ["thing"] (spGood K .non) := by
  refine F.ok scFault (fun vs H Q E h => ?_) (fun cdv A outer s H vs Q E hr h => ?_)
  · obtain ⟨x, f, rfl, _⟩ := h
    rfl
  · obtain ⟨x, f, rfl, hx, go, q⟩ := h
    have nd := scFault.nd
    refine' ⟨_, pss_cons ?s1 (pss_cons ?s2 (pss_cons ?s3 (pss_cons ?s4 (pss_cons ?s5 (pss_cons ?s6 (pss_cons ?s7 (pss_cons ?s8 (pss_one ?s9)))))))), ?rd⟩
    case s1 => exact ps_if (PW.pt (pw_or (pt_not (pt_val (pe_isi "tuple" 0 mi m3 (by decide +kernel)))) (pw_or1 (pt_cmpR op_ne (pe_callB call_len_seq (by rfl) ml PySem.boot_len (pa_cons (pv 0) pa_nil)) pe_int (nomark _))))) pss_never pss_nil
    case s2 => exact ps_asg (pv 0) (pg_tup rfl (pgs_cons (pg_name (i := 1) nd rfl (.inl rfl)) (pgs_cons (pg_name (i := 2) nd rfl (.inl rfl)) pgs_nil)))
    case s3 => exact ps_if (PW.pt (pw_or (pt_not (pt_val (pe_isi "tuple" 1 mi m3 (by decide +kernel)))) (pw_or1 (pt_not (pt_chain op_le op_le pe_int (pe_callB call_len_seq (by rfl) ml PySem.boot_len (pa_cons (pv 1) pa_nil)) pe_int))))) pss_never pss_nil
    case s4 => exact ps_if (PW.pt (pw_or (pt_not (pt_val (pe_isi "tuple" 2 mi m3 (by decide +kernel)))) (pw_or1 (pt_not (pt_chain op_le op_le pe_int (pe_callB call_len_seq (by rfl) ml PySem.boot_len (pa_cons (pv 2) pa_nil)) (pe_glob (v := .int 8) rfl m8 ⟨_, rfl⟩)))))) pss_never pss_nil
    case s5 => exact ps_set (i := 3) nd rfl (.inl rfl) (hcall HH hr (pa_cons (pv 1) pa_nil))
    case s6 => exact ps_if (pt_cmpR op_notN (pv 3) pe_non (nomark _)) pss_never pss_nil
    case s7 => exact ps_set (i := 3) nd rfl (.inl rfl) (hcall HD hr (pa_cons (pv 2) (pa_cons (pv 1) pa_nil)))
    case s8 => exact ps_if (pt_cmpR op_notN (pv 3) pe_non (nomark _)) pss_never pss_nil
    case s9 => exact ps_ret pe_non
    case rd =>
    obtain ⟨p, ph, pd, xs, rfl, hp, hph, hpd, dd⟩ := dp_face hx
    have hl : xs.length = f.ds.length := by
      have := dpA_len dd
      rw [List.length_map] at this
      exact this
    refine ⟨_, rfl, "tuple", true, tyx_tup hp, by decide +kernel, _, rfl, iteF ⟨_, rfl, p, _, rfl, .inr hp, rfl, _, rfl, iteF ?_⟩⟩
    refine ⟨_, rfl, p, _, rfl, hp, rfl, _, _, rfl, _, _, rfl, rfl, ?_⟩
    refine ⟨_, rfl, "tuple", true, tyx_tup hph, by decide +kernel, _, rfl, iteF ⟨_, rfl, ph, _, rfl, .inr hph, 1, _, rfl, rfl, _, rfl, ?_⟩⟩
    have a1 := go.hid.lo
    have a2 := go.hid.hi
    have a3 := go.lo
    have a4 := go.hi
    rw [List.length_map, decide_eq_true (show (1 : Int) ≤ ((f.hd.length : Nat) : Int) by omega)]
    refine iteT ⟨_, 2, rfl, rfl, _, rfl, ?_⟩
    rw [decide_eq_true (show ((f.hd.length : Nat) : Int) ≤ 2 by omega)]
    refine iteF ⟨_, rfl, "tuple", true, tyx_tup hpd, by decide +kernel, _, rfl, iteF ⟨_, rfl, pd, _, rfl, .inr hpd, 1, _, rfl, rfl, _, rfl, ?_⟩⟩
    rw [hl, decide_eq_true (show (1 : Int) ≤ ((f.ds.length : Nat) : Int) by omega)]
    refine iteT ⟨_, 8, rfl, rfl, _, rfl, ?_⟩
    rw [decide_eq_true (show ((f.ds.length : Nat) : Int) ≤ 8 by omega)]
    refine iteF ⟨_, rfl, f.hd, ph, rfl, hph, go.hid.nm, go.hid.up, fun H1 g1 => ?_⟩
    refine ⟨_, rfl, rfl, _, rfl, iteF ?_⟩
    refine ⟨_, rfl, _, rfl, f.ds, f.hd, .ref pd, ph, rfl, .tup (g1.sqt hpd) (g1.kd.dpA dd), g1.sqt hph, go.up, go.ok, fun H2 g2 => ?_⟩
    exact ⟨_, rfl, rfl, _, rfl, iteF (q H2 (g1.trans g2))⟩
theorem ok_need {f fF : Addr} {fd fdF : FuncData} {k : Nat} (F : Fun K "need_face" "need_face" sNeed f fd) (HF : Has P w K mg base (k + 3) "face_fault" ["thing"] (spGood K .non) fF fdF) :
    FnOk P w K mg base CX0 (k + 4) f fd ["face"] (spGood K .non) := by
  refine F.ok scNeed (fun vs H Q E h => ?_) (fun cdv A outer s H vs Q E hr h => ?_)
  · obtain ⟨x, f, rfl, _⟩ := h
    rfl
  · obtain ⟨x, f, rfl, hx, go, q⟩ := h
    refine ⟨_, pss_cons (ps_set (i := 1) scNeed.nd rfl (.inl rfl) (hcall HF hr (pa_cons (pv 0) pa_nil))) (pss_one (ps_if (pt_cmpR op_notN (pv 1) pe_non (nomark _)) pss_never pss_nil)), ?_⟩
    exact ⟨_, rfl, x, f, rfl, hx, go, fun H1 g1 => ⟨_, rfl, rfl, _, rfl, iteF (q H1 g1)⟩⟩
end
end SfC
namespace SfC
open PySem PySem.Spec PyProof.Rows L2 SfG
theorem scFind : FnScope ["face", "name", "number", "deed"] ["face", "name"] (defScope sFind) := ⟨rfl, rfl, rfl, by decide +kernel, rfl, by decide +kernel, by decide +kernel⟩
section
variable {P : Program} {w : World} {K : PySem.W.Frag} {mg : Str → Option Value} {base : Heap}
/-- the deed so called, or none -/
def spFind (K : PySem.W.Frag) : Sp := fun vs H Q _ => ∃ (x y : V) (f : Fc) (T : String), vs = [x, y] ∧ Dp K H x f.d ∧ Is K H y T ∧
  ((∃ (z : Str) (e : De) (i : Nat), y = .str z ∧ f.ds[i]? = some e ∧ e.nm = z ∧ (f.ds.map De.nm).Pairwise lt ∧ ∀ H', Gr H H' → Q (.int (i : Nat)) H') ∨
    ((∀ z, y = .str z → z ∉ f.ds.map De.nm) ∧ ∀ H', Gr H H' → Q .non H'))
theorem lt_irrefl (a : Str) : ¬ lt a a := List.lt_irrefl _
theorem ok_find {f : Addr} {fd : FuncData} {k : Nat} (F : Fun K "find_deed" "find_deed" sFind f fd) (mi : mg "isinstance" = none) (m1 : mg "str" = none) (me : mg "enumerate" = none) :
    FnOk P w K mg base CX0 (k + 1) f fd ["face", "name"] (spFind K) := by
  refine F.ok scFind (fun vs H Q E h => ?_) (fun cdv A outer s H vs Q E hr h => ?_)
  · obtain ⟨x, y, f, T, rfl, _⟩ := h
    rfl
  · obtain ⟨x, y, f, T, rfl, hx, hy, q⟩ := h
    have nd := scFind.nd
    refine ⟨_, pss_cons (ps_if (pt_val (pe_isi "str" 1 mi m1 (by decide +kernel))) (pss_one (ps_for PassesOwn.never rfl (pi_enumT (by rfl) me (pa_cons (pe_ix ix_tup (pv 0) pe_int (fun _ _ => rfl)) pa_nil))
        (pg_tup rfl (pgs_cons (pg_name (i := 2) nd rfl (.inl rfl)) (pgs_cons (pg_name (i := 3) nd rfl (.inl rfl)) pgs_nil)))
        (pss_one (ps_if (pt_cmpR op_eq (pe_ix ix_tup (pv 3) pe_int (fun _ _ => rfl)) (pv 1) (nomark _)) (pss_one (ps_ret (pv 2))) pss_nil)))) pss_nil) (pss_one (ps_ret pe_non)), ?_⟩
    refine ⟨_, rfl, T, _, hy.1, kit_str T hy.2, _, rfl, ?_⟩
    by_cases e : T = "str"
    · obtain ⟨z, rfl⟩ := hy.text e
      subst e
      obtain ⟨p, ph, pd, xs, rfl, hp, hph, hpd, dd⟩ := dp_face hx
      have hl : xs.length = f.ds.length := by
        have := dpA_len dd
        rw [List.length_map] at this
        exact this
      refine iteT ⟨_, rfl, p, _, 1, _, rfl, rfl, hp, rfl, pd, _, rfl, hpd, for_it (walk_enumT (xs := xs)) (fun i σ H1 => ∃ y2 y3 : Option V, σ = [some (.ref p), some (.str z), y2, y3] ∧ Gr H H1 ∧ ∀ j e, j < i → f.ds[j]? = some e → e.nm ≠ z) ⟨none, none, rfl, Gr.refl H, fun j e h => absurd h (Nat.not_lt_zero j)⟩ ?h1 ?h2 ?h3⟩
      case h1 =>
        rintro i σ H1 hi ⟨y2, y3, rfl, g, _⟩
        exact g.sqt hpd
      case h2 =>
        rintro i v σ H1 H2 hi ⟨y2, y3, rfl, g, no⟩ ⟨T, a, b, rfl, nT, rfl, ha, hb⟩
        cases ha
        obtain ⟨e, he, de⟩ := dpA_de dd hb
        have g2 : Gr H (upd H1 T (.tup [.int (i : Nat), b])) := g.trans (Gr.new nT)
        have hT : upd H1 T (.tup [.int (i : Nat), b]) T = some (.tup [.int (i : Nat), b]) := upd_same
        generalize upd H1 T (.tup [.int (i : Nat), b]) = H2 at g2 hT ⊢
        obtain ⟨pe, n1, t1, v1, rfl, hpe, dn, dt, dv⟩ := dp_3 (g2.kd.dp de)
        cases dp_str dn
        refine ⟨T, _, rfl, .inl (.inl hT), rfl, .int (i : Nat), [.ref pe], rfl, .ref pe, [], rfl, rfl, ?_⟩
        refine ⟨_, rfl, pe, _, 0, _, rfl, rfl, hpe, rfl, _, rfl, rfl, _, rfl, ?_⟩
        by_cases ez : e.nm = z
        · rw [decide_eq_true (congrArg V.str ez)]
          refine iteT ⟨_, rfl, ?_⟩
          rcases q with ⟨z', e', i', hz', he', en', up, q⟩ | ⟨q, _⟩
          · cases hz'
            have same : i' = i := by
              have c1 : (f.ds.map De.nm)[i]? = some z := by rw [List.getElem?_map, he]; exact congrArg some ez
              have c2 : (f.ds.map De.nm)[i']? = some z := by rw [List.getElem?_map, he']; exact congrArg some en'
              obtain ⟨l1, q1⟩ := List.getElem?_eq_some_iff.mp c1
              obtain ⟨l2, q2⟩ := List.getElem?_eq_some_iff.mp c2
              have pw := List.pairwise_iff_getElem.mp up
              rcases Nat.lt_trichotomy i i' with h | h | h
              · have := pw i i' l1 l2 h
                rw [q1, q2] at this
                exact absurd this (lt_irrefl z)
              · exact h.symm
              · have := pw i' i l2 l1 h
                rw [q1, q2] at this
                exact absurd this (lt_irrefl z)
            rw [← same]
            exact q _ g2
          · exact absurd (List.mem_map.mpr ⟨e, List.mem_of_getElem? he, ez⟩) (q z rfl)
        · rw [decide_eq_false (fun h => ez (V.str.inj h))]
          refine iteF ⟨_, _, rfl, g2, fun j e' hj he' => ?_⟩
          rcases Nat.lt_or_eq_of_le (Nat.le_of_lt_succ hj) with h | h
          · exact no j e' h he'
          · rw [h, he] at he'
            cases he'
            exact ez
      case h3 =>
        rintro σ H1 ⟨y2, y3, rfl, g, no⟩
        rcases q with ⟨z', e', i', hz', he', en', up, q⟩ | ⟨_, q⟩
        · cases hz'
          have hi' : i' < xs.length := by
            rw [hl]
            rcases Nat.lt_or_ge i' f.ds.length with h1 | h1
            · exact h1
            · rw [List.getElem?_eq_none h1] at he'
              cases he'
          exact absurd en' (no i' e' hi' he')
        · exact q H1 g
    · have e1 : (T == "str") = false := by simpa using e
      rw [e1]
      refine iteF ?_
      rcases q with ⟨z', e', i', hz', _⟩ | ⟨_, q⟩
      · exact absurd hz' (hy.ntext e z')
      · exact q H (Gr.refl H)
end
end SfC
namespace SfC
open PySem PySem.Spec PyProof.Rows L2 SfG
theorem small1000 {n : Nat} (h : n ≤ 1000) : n < sizeLine := by
  rw [sizeLine_eq]
  omega
/-! ### order -/
theorem lt_tri : ∀ a b : List Nat, a < b ∨ a = b ∨ b < a
  | [], [] => .inr (.inl rfl)
  | [], b :: t => .inl (List.nil_lt_cons b t)
  | a :: r, [] => .inr (.inr (List.nil_lt_cons a r))
  | a :: r, b :: t => by
    rcases Nat.lt_trichotomy a b with h | h | h
    · exact .inl (List.cons_lt_cons_iff.mpr (.inl h))
    · subst h
      rcases lt_tri r t with h | h | h
      · exact .inl (List.cons_lt_cons_iff.mpr (.inr ⟨rfl, h⟩))
      · exact .inr (.inl (by rw [h]))
      · exact .inr (.inr (List.cons_lt_cons_iff.mpr (.inr ⟨rfl, h⟩)))
    · exact .inr (.inr (List.cons_lt_cons_iff.mpr (.inl h)))
theorem lt_trans' {a b c : Str} (h1 : lt a b) (h2 : lt b c) : lt a c := List.lt_trans h1 h2
theorem str_ext {a b : Str} (h : a.cps.toList = b.cps.toList) : a = b := by
  cases a
  cases b
  simp at h
  rw [h]
theorem rise : ∀ (r : List Str) (p : Str), risingS p r = true → (p :: r).Nodup → (p :: r).Pairwise lt
  | [], p, _, _ => by simp
  | x :: t, p, h, nd => by
    unfold risingS at h
    rw [Bool.and_eq_true, Bool.not_eq_true', ltCps_eq] at h
    have ih := rise t x h.2 (List.nodup_cons.mp nd).2
    have np : p ≠ x := fun e => (List.nodup_cons.mp nd).1 (by rw [e]; exact List.mem_cons_self)
    have l1 : lt p x := by
      rcases lt_tri p.cps.toList x.cps.toList with h1 | h1 | h1
      · exact h1
      · exact absurd (str_ext h1) np
      · have z := h.1
        rw [decide_eq_true h1] at z
        cases z
    refine List.pairwise_cons.mpr ⟨fun y hy => ?_, ih⟩
    rcases List.mem_cons.mp hy with rfl | hy
    · exact l1
    · exact lt_trans' l1 ((List.pairwise_cons.mp ih).1 y hy)
theorem sorted_up {ys xs : List Str} (h : sortedS ys = true) (p : ys.Perm xs) (nd : xs.Nodup) : ys.Pairwise lt := by
  have ndy : ys.Nodup := p.nodup_iff.mpr nd
  cases ys with
  | nil => exact List.Pairwise.nil
  | cons a r => exact rise r a h ndy
/-! ### texts of letters -/
theorem joinL_mem {ls : List (List Nat)} {c : Nat} (h : c ∈ TL.joinL [] ls) : ∃ l ∈ ls, c ∈ l := by
  induction ls with
  | nil => cases h
  | cons p r ih =>
    cases r with
    | nil => exact ⟨p, List.mem_cons_self, h⟩
    | cons q r =>
      have h' : c ∈ p ++ ([] ++ TL.joinL [] (q :: r)) := h
      rcases List.mem_append.mp h' with h1 | h1
      · exact ⟨p, List.mem_cons_self, h1⟩
      · obtain ⟨l, hl, hc⟩ := ih (by simpa using h1)
        exact ⟨l, List.mem_cons_of_mem _ hl, hc⟩
theorem joinL_len {ls : List (List Nat)} (h : ∀ l ∈ ls, l.length = 1) : (TL.joinL [] ls).length = ls.length := by
  induction ls with
  | nil => rfl
  | cons p r ih =>
    have hp := h p List.mem_cons_self
    have hr := ih fun l hl => h l (List.mem_cons_of_mem _ hl)
    cases r with
    | nil => exact hp
    | cons q r =>
      show (p ++ ([] ++ TL.joinL [] (q :: r))).length = _
      rw [List.length_append, List.nil_append, hr, hp]
      simp
      omega
abbrev nought : Str := ""
theorem len_list (z : Str) : z.length = z.cps.toList.length := by simp [Str.length]
/-- one letter -/
def one (y : Str) : Prop := ∃ c, y = ⟨#[c]⟩ ∧ isLet c = true
theorem join_name {acc : List Str} (h : ∀ y ∈ acc, one y) (h1 : 1 ≤ acc.length) (h8 : acc.length ≤ 8) : isN (Txt.join nought acc) = true := by
  have hl : (Txt.join nought acc).length = acc.length := by
    have e : (TL.tl (Txt.join nought acc)).length = acc.length := by
      rw [TL.join_eq, TL.tl_join]
      rw [show TL.tl nought = [] from rfl, joinL_len, List.length_map]
      intro l hl
      obtain ⟨y, hy, rfl⟩ := List.mem_map.mp hl
      obtain ⟨c, rfl, _⟩ := h y hy
      rfl
    rw [len_list]
    exact e
  unfold isN
  rw [hl, decide_eq_true h8, decide_eq_true h1]
  refine List.all_eq_true.mpr fun c hc => ?_
  have hc' : c ∈ TL.tl (Str.join nought acc) := by
    rw [← TL.join_eq]
    exact hc
  rw [TL.tl_join] at hc'
  obtain ⟨l, hl', hcl⟩ := joinL_mem hc'
  obtain ⟨y, hy, rfl⟩ := List.mem_map.mp hl'
  obtain ⟨d, rfl, hd⟩ := h y hy
  have e : c = d := by simpa [TL.tl] using hcl
  rw [e]
  exact hd
theorem sum_ones : ∀ {acc : List Str}, (∀ y ∈ acc, y.length = 1) → (acc.map (·.length)).sum = acc.length
  | [], _ => rfl
  | a :: r, h => by
    rw [List.map_cons, List.sum_cons, h a List.mem_cons_self, sum_ones fun y hy => h y (List.mem_cons_of_mem _ hy), List.length_cons]
    omega
theorem letter_at {d : Int} (h0 : 0 ≤ d) (h1 : d < 26) : ∃ c, letters.cps[d.toNat]? = some c ∧ isLet c = true := by
  have e : ∀ n : Nat, n < 26 → ∃ c, letters.cps[n]? = some c ∧ isLet c = true := by
    intro n hn
    have hs : letters.cps.size = 26 := by decide +kernel
    refine ⟨letters.cps[n]'(by omega), by simp [show n < letters.cps.size by omega], ?_⟩
    unfold isLet
    exact decide_eq_true (by simp)
  exact e d.toNat (by omega)
theorem inV_not {s : Str} {l : List Str} : inV (.str s) (l.map V.str) = decide (s ∈ l) := by
  by_cases h : s ∈ l
  · rw [decide_eq_true h]
    exact inV_mem h
  · rw [decide_eq_false h]
    unfold inV
    rw [List.any_map]
    refine List.any_eq_false.mpr fun y hy => ?_
    simp [eqV]
    intro e
    exact h (e ▸ hy)
end SfC
namespace SfC
open PySem PySem.Spec PyProof.Rows L2 SfG
/-! ### words and rows of a face's text -/
abbrev blank : Str := " "
abbrev feed : Str := "\n"
abbrev colon : Str := ":"
def kS : Kn → Str
  | .h s => s
  | .p n => ⟨#[48 + n.toNat]⟩
/-- a word: not empty, neither blanks nor line feeds -/
def clean (z : Str) : Prop := 1 ≤ z.length ∧ z.length ≤ 8 ∧ ∀ c ∈ z.cps.toList, c ≠ 32 ∧ c ≠ 10
theorem let_not : ∀ c, c < 128 → isLet c = true → c ≠ 32 ∧ c ≠ 10 := by decide +kernel
theorem clean_name {z : Str} (h : isN z = true) : clean z := by
  obtain ⟨h8, h1, _, _, _, hl⟩ := isN_txt h
  refine ⟨h1, h8, fun c hc => ?_⟩
  have hlc := List.all_eq_true.mp hl c hc
  exact let_not c (let_range hlc) hlc
theorem digit_str : ∀ n : Nat, n < 10 → ((toString (n : Int) : String) : Str) = ⟨#[48 + n]⟩ := by decide +kernel
theorem str_kind {n : Int} (h2 : 2 ≤ n) (h9 : n ≤ 9) : ((toString n : String) : Str) = kS (.p n) := by
  have e := digit_str n.toNat (by omega)
  rw [Int.toNat_of_nonneg (by omega)] at e
  exact e
theorem clean_kind {hd : List Str} (hn : ∀ z ∈ hd, isN z = true) {k : Kn} (h : goK hd k) : clean (kS k) := by
  cases k with
  | h s => exact clean_name (hn s h)
  | p n =>
    obtain ⟨h2, h9⟩ := h
    refine ⟨Nat.le_refl 1, (by show 1 ≤ 8; decide), fun c hc => ?_⟩
    have e : c = 48 + n.toNat := by simpa [kS] using hc
    omega
theorem clean_colon : clean colon := by unfold clean; decide +kernel
def wsD (e : De) : List Str := e.nm :: (e.tk.map kS ++ [colon, kS e.gv])
def wsH (hd : List Str) : List Str := ("hidden" : Str) :: hd
def rowD (e : De) : Str := Txt.join blank (wsD e)
def rowH (hd : List Str) : Str := Txt.join blank (wsH hd)
def rowsF (f : Fc) : List Str := rowH f.hd :: f.ds.map rowD
def textF (f : Fc) : Str := Txt.join feed (rowsF f)
theorem clean_wsD {hd : List Str} (hn : ∀ z ∈ hd, isN z = true) {e : De} (g : goD hd e) : ∀ z ∈ wsD e, clean z := by
  intro z hz
  rcases List.mem_cons.mp hz with rfl | hz
  · exact clean_name g.nm
  · rcases List.mem_append.mp hz with h | h
    · obtain ⟨k, hk, rfl⟩ := List.mem_map.mp h
      exact clean_kind hn (g.tk k hk)
    · have h' : z = colon ∨ z = kS e.gv := by simpa using h
      rcases h' with rfl | rfl
      · exact clean_colon
      · exact clean_kind hn g.gv
theorem clean_wsH {hd : List Str} (hn : ∀ z ∈ hd, isN z = true) : ∀ z ∈ wsH hd, clean z := by
  intro z hz
  rcases List.mem_cons.mp hz with rfl | hz
  · unfold clean
    decide +kernel
  · exact clean_name (hn z hz)
theorem tl_blank : TL.tl blank = [32] := by decide +kernel
theorem tl_feed : TL.tl feed = [10] := by decide +kernel
theorem split_words {ws : List Str} (hne : ws ≠ []) (h : ∀ z ∈ ws, clean z) : Txt.split (Txt.join blank ws) blank = ws :=
  TL.split_join (s := 32) (S := []) tl_blank (by decide +kernel) hne fun p hp e => ((h p hp).2.2 32 e).1 rfl
theorem joinL_in {S : List Nat} {c : Nat} : ∀ {ls : List (List Nat)}, c ∈ TL.joinL S ls → c ∈ S ∨ ∃ l ∈ ls, c ∈ l
  | [], h => by cases h
  | [p], h => .inr ⟨p, List.mem_cons_self, h⟩
  | p :: q :: r, h => by
    have h' : c ∈ p ++ (S ++ TL.joinL S (q :: r)) := h
    rcases List.mem_append.mp h' with h1 | h1
    · exact .inr ⟨p, List.mem_cons_self, h1⟩
    · rcases List.mem_append.mp h1 with h2 | h2
      · exact .inl h2
      · rcases joinL_in h2 with h3 | ⟨l, hl, hc⟩
        · exact .inl h3
        · exact .inr ⟨l, List.mem_cons_of_mem _ hl, hc⟩
theorem row_feed {ws : List Str} (h : ∀ z ∈ ws, clean z) : 10 ∉ TL.tl (Txt.join blank ws) := by
  intro hc
  rw [TL.join_eq, TL.tl_join, tl_blank] at hc
  rcases joinL_in hc with h1 | ⟨l, hl, hc⟩
  · simp at h1
  · obtain ⟨z, hz, rfl⟩ := List.mem_map.mp hl
    exact ((h z hz).2.2 10 hc).2 rfl
theorem split_rows {rws : List Str} (hne : rws ≠ []) (h : ∀ z ∈ rws, 10 ∉ TL.tl z) : Txt.split (Txt.join feed rws) feed = rws :=
  TL.split_join (s := 10) (S := []) tl_feed (by decide +kernel) hne h
theorem joinL_length {S : List Nat} {m : Nat} (hS : S.length = 1) : ∀ {ls : List (List Nat)}, (∀ l ∈ ls, l.length ≤ m) → (TL.joinL S ls).length ≤ ls.length * (m + 1)
  | [], _ => by simp [TL.joinL]
  | [p], h => by
    have := h p List.mem_cons_self
    show p.length ≤ 1 * (m + 1)
    omega
  | p :: q :: r, h => by
    have h1 := h p List.mem_cons_self
    have h2 := joinL_length hS (ls := q :: r) fun l hl => h l (List.mem_cons_of_mem _ hl)
    show (p ++ (S ++ TL.joinL S (q :: r))).length ≤ _
    rw [List.length_append, List.length_append, hS]
    rw [List.length_cons, Nat.succ_mul]
    omega
theorem join_len (y : Str) (hy : y.length = 1) {m : Nat} {ws : List Str} (h : ∀ z ∈ ws, z.length ≤ m) : (Txt.join y ws).length ≤ ws.length * (m + 1) := by
  have hS : (TL.tl y).length = 1 := by
    rw [← hy, len_list]
  have := joinL_length (m := m) hS (ls := ws.map TL.tl) fun l hl => by
    obtain ⟨z, hz, rfl⟩ := List.mem_map.mp hl
    have := h z hz
    rw [len_list] at this
    exact this
  rw [List.length_map, ← TL.tl_join, ← TL.join_eq] at this
  rw [len_list]
  exact this
theorem row_len {ws : List Str} (h : ∀ z ∈ ws, clean z) : (Txt.join blank ws).length ≤ ws.length * 9 := join_len blank (by decide +kernel) fun z hz => (h z hz).2.1
theorem wsD_len {hd : List Str} {e : De} (g : goD hd e) : (wsD e).length ≤ 6 := by
  unfold wsD
  rw [List.length_cons, List.length_append, List.length_map]
  have := g.len
  show e.tk.length + 2 + 1 ≤ 6
  omega
theorem wsH_len {hd : List Str} (g : goH hd) : (wsH hd).length ≤ 3 := by
  have := g.hi
  show hd.length + 1 ≤ 3
  omega
/-! ### texts put together -/
theorem tl_inj {a b : Str} (h : TL.tl a = TL.tl b) : a = b := str_ext h
theorem tl_app (a b : Str) : TL.tl (a ++ b) = TL.tl a ++ TL.tl b := TL.tl_append a b
theorem joinL_snoc (S : List Nat) (x : List Nat) : ∀ (ls : List (List Nat)), ls ≠ [] → TL.joinL S (ls ++ [x]) = TL.joinL S ls ++ (S ++ x)
  | [], h => absurd rfl h
  | [p], _ => rfl
  | p :: q :: r, _ => by
    show p ++ (S ++ TL.joinL S ((q :: r) ++ [x])) = (p ++ (S ++ TL.joinL S (q :: r))) ++ (S ++ x)
    rw [joinL_snoc S x (q :: r) (by simp)]
    simp [List.append_assoc]
theorem join_snoc (y x : Str) {ws : List Str} (h : ws ≠ []) : Txt.join y (ws ++ [x]) = (Txt.join y ws ++ y) ++ x := by
  refine tl_inj ?_
  rw [tl_app, tl_app, TL.join_eq, TL.join_eq, TL.tl_join, TL.tl_join, List.map_append]
  show TL.joinL (TL.tl y) (ws.map TL.tl ++ [TL.tl x]) = _
  rw [joinL_snoc _ _ _ (by simpa using h), List.append_assoc]
theorem join_one (y x : Str) : Txt.join y [x] = x := by
  refine tl_inj ?_
  rw [TL.join_eq, TL.tl_join]
  rfl
theorem three : ((blank ++ colon) ++ blank : Str) = " : " := by decide +kernel
theorem app_assoc (a b c : Str) : (a ++ b) ++ c = a ++ (b ++ c) := by
  refine tl_inj ?_
  simp [tl_app, List.append_assoc]
/-- a row of a deed, as the law writes it -/
theorem rowD_eq (e : De) : rowD e = (Txt.join blank (e.nm :: e.tk.map kS) ++ (" : " : Str)) ++ kS e.gv := by
  unfold rowD wsD
  rw [show e.nm :: (e.tk.map kS ++ [colon, kS e.gv]) = ((e.nm :: e.tk.map kS) ++ [colon]) ++ [kS e.gv] by simp]
  rw [join_snoc _ _ (by simp), join_snoc _ _ (by simp), ← three]
  simp [app_assoc]
end SfC
namespace SfC
open PySem PySem.Spec PyProof.Rows L2 SfG
/-! ### users: rows of a deed and what it is handed -/
theorem lt_of_at {α : Type} {l : List α} {i : Nat} {a : α} (h : l[i]? = some a) : i < l.length := (List.getElem?_eq_some_iff.mp h).1
theorem scWhole : FnScope ["thing"] ["thing"] (defScope sWhole) := ⟨rfl, rfl, rfl, by decide +kernel, rfl, by decide +kernel, by decide +kernel⟩
theorem scAmong : FnScope ["thing", "least", "most"] ["thing", "least", "most"] (defScope sAmong) := ⟨rfl, rfl, rfl, by decide +kernel, rfl, by decide +kernel, by decide +kernel⟩
theorem scTupOf : FnScope ["thing", "least", "most"] ["thing", "least", "most"] (defScope sTupOf) := ⟨rfl, rfl, rfl, by decide +kernel, rfl, by decide +kernel, by decide +kernel⟩
theorem scMayH : FnScope ["thing", "kind", "given"] ["thing", "kind", "given"] (defScope sMayH) := ⟨rfl, rfl, rfl, by decide +kernel, rfl, by decide +kernel, by decide +kernel⟩
structure Ur where
  e : De
  hs : List Nat
def hsD (hs : List Nat) : List PyData := hs.map fun n => .int (n : Nat)
def hsV (hs : List Nat) : List V := hs.map fun n => .int (n : Nat)
def Ur.d (r : Ur) : PyData := .tuple [.str r.e.nm, .tuple (hsD r.hs)]
def usD (u : List Ur) : PyData := .tuple (u.map Ur.d)
def okH (gv : List Kn) (k : Kn) (h : Nat) : Prop := match k with
  | .p n => (h : Int) < n
  | .h z => gv[h]? = some (.h z)
inductive Fits (gv : List Kn) : List Kn → List Nat → Prop
  | nil : Fits gv [] []
  | cons {k : Kn} {ks : List Kn} {h : Nat} {hs : List Nat} : okH gv k h → Fits gv ks hs → Fits gv (k :: ks) (h :: hs)
theorem Fits.len {gv : List Kn} : ∀ {ks : List Kn} {hs : List Nat}, Fits gv ks hs → ks.length = hs.length
  | _, _, .nil => rfl
  | _, _, .cons _ t => by rw [List.length_cons, List.length_cons, t.len]
theorem Fits.at {gv : List Kn} : ∀ {ks : List Kn} {hs : List Nat}, Fits gv ks hs → ∀ {i : Nat} {k : Kn}, ks[i]? = some k → ∃ h, hs[i]? = some h ∧ okH gv k h
  | _, _, .nil, i, k, e => by simp at e
  | _, _, .cons (h := h) a t, 0, k, e => by
    cases e
    exact ⟨h, rfl, a⟩
  | _, _, .cons a t, i + 1, k, e => t.at (i := i) e
def gvs (u : List Ur) : List Kn := u.map fun r => r.e.gv
structure GoU (f : Fc) (u : List Ur) : Prop where
  lo : 1 ≤ u.length
  hi : u.length ≤ 200
  ok : ∀ i r, u[i]? = some r → r.e ∈ f.ds ∧ Fits ((gvs u).take i) r.e.tk r.hs
theorem gvs_take (u : List Ur) (i : Nat) : (gvs u).take i = gvs (u.take i) := by
  unfold gvs
  rw [List.map_take]
theorem okH_lt {hd : List Str} {gv : List Kn} {k : Kn} {h : Nat} (hk : goK hd k) (hg : gv.length ≤ 200) (o : okH gv k h) : h < 200 := by
  cases k with
  | p n =>
    have o' : (h : Int) < n := o
    obtain ⟨_, h9⟩ := hk
    omega
  | h z =>
    have := lt_of_at (show gv[h]? = some (.h z) from o)
    omega
theorem kn_is {K : PySem.W.Frag} {H : Hp} (k : Kn) : Is K H k.v (if k.isH then "str" else "int") := by
  cases k with
  | h s => exact is_str s
  | p n => exact is_int n
section
variable {P : Program} {w : World} {K : PySem.W.Frag} {mg : Str → Option Value} {base : Heap}
def spWhole (K : PySem.W.Frag) : Sp := fun vs H Q _ => ∃ (x : V) (T : String), vs = [x] ∧ Is K H x T ∧ Q (.bl (T == "int")) H
theorem ok_whole {f : Addr} {fd : FuncData} {k : Nat} (F : Fun K "is_whole" "is_whole" sWhole f fd) (mi : mg "isinstance" = none) (m1 : mg "int" = none) :
    FnOk P w K mg base CX0 (k + 1) f fd ["thing"] (spWhole K) := by
  refine F.ok scWhole (fun vs H Q E h => ?_) (fun cdv A outer s H vs Q E hr h => ?_)
  · obtain ⟨x, T, rfl, _⟩ := h
    rfl
  · obtain ⟨x, T, rfl, hx, q⟩ := h
    refine ⟨_, pss_one (ps_ret (pe_and (pe_isi "int" 0 mi m1 (by decide +kernel)) (pe_and (pe_cmpR op_notBx (pv 0) pe_bl (nomark _)) (pe_one (pe_cmpR op_notBx (pv 0) pe_bl (nomark _)))))), ?_⟩
    refine ⟨x, rfl, T, _, hx.1, kit_int T hx.2, _, rfl, ?_⟩
    by_cases e : T = "int"
    · obtain ⟨i, rfl⟩ := hx.whole e
      subst e
      exact iteT ⟨_, rfl, true, rfl, .inr ⟨i, rfl, _, rfl, iteT ⟨_, rfl, false, rfl, .inr ⟨i, rfl, q⟩⟩⟩⟩
    · have e1 : (T == "int") = false := by simpa using e
      rw [e1] at q ⊢
      by_cases e2 : T = "bool"
      · obtain ⟨b, rfl⟩ := is_truth hx e2
        subst e2
        cases b with
        | true => exact iteT ⟨_, rfl, true, rfl, .inl ⟨true, rfl, _, rfl, iteF q⟩⟩
        | false => exact iteT ⟨_, rfl, true, rfl, .inl ⟨false, rfl, _, rfl, iteT ⟨_, rfl, false, rfl, .inl ⟨false, rfl, q⟩⟩⟩⟩
      · have e3 : (T == "bool") = false := by simpa using e2
        rw [e3]
        exact iteF q
def amongV (x : V) (lo hi : Int) : Bool := match x with
  | .int i => decide (lo ≤ i) && decide (i ≤ hi)
  | _ => false
def spAmong (K : PySem.W.Frag) : Sp := fun vs H Q _ => ∃ (x : V) (T : String) (lo hi : Int), vs = [x, .int lo, .int hi] ∧ Is K H x T ∧ Q (.bl (amongV x lo hi)) H
theorem among_no {x : V} {lo hi : Int} (h : ∀ i, x ≠ .int i) : amongV x lo hi = false := by
  cases x with
  | int i => exact absurd rfl (h i)
  | _ => rfl
theorem ok_among {f fW : Addr} {fd fdW : FuncData} {k : Nat} (F : Fun K "is_among" "is_among" sAmong f fd) (HW : Has P w K mg base (k + 1) "is_whole" ["thing"] (spWhole K) fW fdW) :
    FnOk P w K mg base CX0 (k + 2) f fd ["thing", "least", "most"] (spAmong K) := by
  refine F.ok scAmong (fun vs H Q E h => ?_) (fun cdv A outer s H vs Q E hr h => ?_)
  · obtain ⟨x, T, lo, hi, rfl, _⟩ := h
    rfl
  · obtain ⟨x, T, lo, hi, rfl, hx, q⟩ := h
    refine ⟨_, pss_one (ps_ret (pe_and (hcall HW hr (pa_cons (pv 0) pa_nil)) (pe_and (hcall HW hr (pa_cons (pv 1) pa_nil)) (pe_and (hcall HW hr (pa_cons (pv 2) pa_nil))
      (pe_one (pe_chain op_le op_le (pv 1) (pv 0) (pv 2))))))), ?_⟩
    refine ⟨x, rfl, x, T, rfl, hx, _, rfl, ?_⟩
    by_cases e : T = "int"
    · obtain ⟨i, rfl⟩ := hx.whole e
      subst e
      refine iteT ⟨_, rfl, _, "int", rfl, is_int lo, _, rfl, iteT ⟨_, rfl, _, "int", rfl, is_int hi, _, rfl, iteT ?_⟩⟩
      refine ⟨_, rfl, _, rfl, lo, i, rfl, rfl, _, rfl, ?_⟩
      have q' : Q (.bl (decide (lo ≤ i) && decide (i ≤ hi))) H := q
      cases h1 : decide (lo ≤ i) with
      | true =>
        rw [h1] at q'
        exact iteT ⟨_, rfl, i, hi, rfl, rfl, q'⟩
      | false =>
        rw [h1] at q'
        exact iteF q'
    · have e1 : (T == "int") = false := by simpa using e
      rw [e1]
      rw [among_no (hx.nint e)] at q
      exact iteF q
end
/-! data of tuples and flat things stays where all tuples stay -/
mutual
def noL : PyData → Bool
  | .none => true
  | .bool _ => true
  | .int _ => true
  | .str _ => true
  | .list _ => false
  | .dict _ => false
  | .tuple ds => noLA ds
def noLA : List PyData → Bool
  | [] => true
  | d :: r => noL d && noLA r
end
def Kt (K : PySem.W.Frag) (H H' : Hp) : Prop := ∀ {a : Addr} {xs : List V}, SqT K H a xs → SqT K H' a xs
mutual
theorem Kt.dp {K : PySem.W.Frag} {H H' : Hp} (g : Kt K H H') : ∀ {d : PyData} {v : V}, Dp K H v d → noL d = true → Dp K H' v d
  | _, _, .non, _ => .non
  | _, _, .bl b, _ => .bl b
  | _, _, .int i, _ => .int i
  | _, _, .str x, _ => .str x
  | _, _, .lst h hs, n => by
    rw [noL] at n
    cases n
  | _, _, .tup h hs, n => .tup (g h) (Kt.dpA g hs (by rw [noL] at n; exact n))
theorem Kt.dpA {K : PySem.W.Frag} {H H' : Hp} (g : Kt K H H') : ∀ {ds : List PyData} {vs : List V}, DpAll K H vs ds → noLA ds = true → DpAll K H' vs ds
  | _, _, .nil, _ => .nil
  | _, _, .cons h hs, n => by
    rw [noLA, Bool.and_eq_true] at n
    exact .cons (Kt.dp g h n.1) (Kt.dpA g hs n.2)
end
theorem noLA_map {α : Type} (g : α → PyData) (h : ∀ a, noL (g a) = true) : ∀ l : List α, noLA (l.map g) = true
  | [] => by rw [List.map_nil, noLA]
  | a :: r => by
    rw [List.map_cons, noLA, h a, noLA_map g h r]
    rfl
theorem noL_ur (r : Ur) : noL r.d = true := by
  unfold Ur.d hsD
  rw [noL, noLA, noLA, noLA, noL, noL, noLA_map _ (fun _ => by rw [noL])]
  rfl
theorem noL_us (u : List Ur) : noL (usD u) = true := by
  unfold usD
  rw [noL, noLA_map _ noL_ur]
theorem noL_kn (k : Kn) : noL k.d = true := by
  cases k <;> rw [Kn.d, noL]
theorem noL_de (e : De) : noL e.d = true := by
  unfold De.d
  rw [noL, noLA, noLA, noLA, noLA, noL_kn, noL, noL, noLA_map _ noL_kn]
  rfl
theorem noL_fc (f : Fc) : noL f.d = true := by
  unfold Fc.d
  rw [noL, noLA, noLA, noLA, noL, noL, noLA_map _ (fun _ => by rw [noL]), noLA_map _ noL_de]
  rfl
theorem kt_upd {K : PySem.W.Frag} {H : Hp} {l : Addr} {o o' : HO} (hl : H l = some o) (ht : ∀ ys, o ≠ .tup ys) (hf : ∀ q ys, o ≠ .frz q (.tup ys)) : Kt K H (upd H l o') := by
  intro a xs h
  rcases h with (h | ⟨q, h⟩) | h
  · refine .inl (.inl ?_)
    rw [upd_ne (by intro z; rw [z, hl] at h; cases h; exact ht _ rfl)]
    exact h
  · refine .inl (.inr ⟨q, ?_⟩)
    rw [upd_ne (by intro z; rw [z, hl] at h; cases h; exact hf _ _ rfl)]
    exact h
  · exact .inr h
theorem kt_lst {K : PySem.W.Frag} {H : Hp} {l : Addr} {xs : List V} {o' : HO} (hl : H l = some (.lst xs)) : Kt K H (upd H l o') := kt_upd hl (fun _ e => by cases e) (fun _ _ e => by cases e)
theorem gr_kt {K : PySem.W.Frag} {H H' : Hp} (g : Gr H H') : Kt K H H' := fun h => g.sqt h
theorem dpA_app {K : PySem.W.Frag} {H : Hp} : ∀ {xs ys : List V} {ds es : List PyData}, DpAll K H xs ds → DpAll K H ys es → DpAll K H (xs ++ ys) (ds ++ es)
  | [], _, _, _, h, h2 => by cases h; exact h2
  | _ :: _, _, _, _, h, h2 => by
    cases h with
    | cons a b => exact .cons a (dpA_app b h2)
theorem dpA_ns {K : PySem.W.Frag} {H : Hp} : ∀ {hs : List Nat} {xs : List V}, DpAll K H xs (hsD hs) → xs = hsV hs
  | [], _, h => dpA_nil h
  | a :: r, _, h => by
    obtain ⟨x, t, rfl, hx, ht⟩ := dpA_cons h
    rw [dpA_ns (hs := r) ht]
    cases hx
    rfl
theorem dpA_nsI {K : PySem.W.Frag} {H : Hp} : ∀ hs : List Nat, DpAll K H (hsV hs) (hsD hs)
  | [] => .nil
  | a :: r => .cons (.int _) (dpA_nsI r)
theorem dp_ur {K : PySem.W.Frag} {H : Hp} {v : V} {r : Ur} (h : Dp K H v r.d) : ∃ p q, v = .ref p ∧ SqT K H p [.str r.e.nm, .ref q] ∧ SqT K H q (hsV r.hs) := by
  obtain ⟨p, a, b, rfl, hp, ha, hb⟩ := dp_2 h
  cases dp_str ha
  obtain ⟨q, xs, rfl, hq, hx⟩ := dp_tup hb
  cases dpA_ns hx
  exact ⟨p, q, rfl, hp, hq⟩
theorem hsV_len (hs : List Nat) : (hsV hs).length = hs.length := List.length_map _
theorem hsV_at {hs : List Nat} {i : Nat} {h : Nat} (e : hs[i]? = some h) : (hsV hs)[i]? = some (.int (h : Nat)) := by
  unfold hsV
  rw [List.getElem?_map, e]
  rfl
theorem dpA_map {α : Type} {K : PySem.W.Frag} {H : Hp} {g : α → PyData} {as : List α} {xs : List V} (h : DpAll K H xs (as.map g)) {i : Nat} {a : α} (e : as[i]? = some a) : ∃ x, xs[i]? = some x ∧ Dp K H x (g a) :=
  dpA_get h (by rw [List.getElem?_map, e]; rfl)
end SfC
namespace SfC
open PySem PySem.Spec PyProof.Rows L2 SfG
/-! ### what may be handed, of any thing -/
instance decKn : DecidableEq Kn := fun a b => match a, b with
  | .h s, .h t => decidable_of_iff (s = t) ⟨fun e => by rw [e], fun e => by cases e; rfl⟩
  | .p m, .p n => decidable_of_iff (m = n) ⟨fun e => by rw [e], fun e => by cases e; rfl⟩
  | .h s, .p n => isFalse (fun e => by cases e)
  | .p n, .h s => isFalse (fun e => by cases e)
def amD' (d : PyData) (lo hi : Int) : Bool := match d with
  | .int i => decide (lo ≤ i) && decide (i ≤ hi)
  | _ => false
theorem among_d {K : PySem.W.Frag} {H : Hp} {v : V} {d : PyData} (h : Dx K H v d) (lo hi : Int) : amongV v lo hi = amD' d lo hi := by
  cases h with
  | int i => rfl
  | _ => rfl
/-- whether it may be handed -/
def mayD (gv : List Kn) (d : PyData) (k : Kn) : Bool := match d with
  | .int i => match k with
    | .p b => decide (0 ≤ i) && decide (i ≤ b - 1)
    | .h z => decide (0 ≤ i) && decide (gv[i.toNat]? = some (.h z))
  | _ => false
def tupB (d : PyData) (lo hi : Int) : Bool := match d with
  | .tuple ds => decide (lo ≤ (ds.length : Int)) && decide ((ds.length : Int) ≤ hi)
  | _ => false
section
variable {P : Program} {w : World} {K : PySem.W.Frag} {mg : Str → Option Value} {base : Heap}
def spTupD (K : PySem.W.Frag) : Sp := fun vs H Q _ => ∃ (x : V) (d : PyData) (lo hi : Int), vs = [x, .int lo, .int hi] ∧ Dx K H x d ∧ Q (.bl (tupB d lo hi)) H
theorem ok_tupD {f : Addr} {fd : FuncData} {k : Nat} (F : Fun K "is_tuple_of" "is_tuple_of" sTupOf f fd) (mi : mg "isinstance" = none) (mt : mg "tuple" = none) (ml : mg "len" = none) :
    FnOk P w K mg base CX0 (k + 1) f fd ["thing", "least", "most"] (spTupD K) := by
  refine F.ok scTupOf (fun vs H Q E h => ?_) (fun cdv A outer s H vs Q E hr h => ?_)
  · obtain ⟨x, d, lo, hi, rfl, _⟩ := h
    rfl
  · obtain ⟨x, d, lo, hi, rfl, hx, q⟩ := h
    refine ⟨_, pss_one (ps_ret (pe_and (pe_isi "tuple" 0 mi mt (by decide +kernel)) (pe_one (pe_chain op_le op_le (pv 1) (pe_callB call_len_seq (by rfl) ml PySem.boot_len (pa_cons (pv 0) pa_nil)) (pv 2))))), ?_⟩
    have hI := dx_is hx
    refine ⟨x, rfl, _, _, hI.1, kit_tuple _ hI.2, _, rfl, ?_⟩
    cases d with
    | tuple ds =>
      obtain ⟨p, xs, rfl, hp, hxs⟩ := dx_tup hx
      have l := dxA_len hxs
      refine iteT ⟨_, rfl, _, rfl, p, xs, rfl, .inr hp, lo, _, rfl, rfl, _, rfl, ?_⟩
      rw [l]
      have q' : Q (.bl (decide (lo ≤ (ds.length : Int)) && decide ((ds.length : Int) ≤ hi))) H := q
      cases h1 : decide (lo ≤ (ds.length : Int)) with
      | true =>
        rw [h1] at q'
        exact iteT ⟨_, rfl, _, hi, rfl, rfl, q'⟩
      | false =>
        rw [h1] at q'
        exact iteF q'
    | none => exact iteF q
    | bool _ => exact iteF q
    | int _ => exact iteF q
    | str _ => exact iteF q
    | list _ => exact iteF q
    | dict _ => exact iteF q
def spMayD (K : PySem.W.Frag) : Sp := fun vs H Q _ => ∃ (x : V) (d : PyData) (k : Kn) (g : Addr) (gv : List Kn), vs = [x, k.v, .ref g] ∧ Dx K H x d ∧ H g = some (.lst (gv.map Kn.v)) ∧ Q (.bl (mayD gv d k)) H
theorem ok_mayD {f fW fA : Addr} {fd fdW fdA : FuncData} {k : Nat} (F : Fun K "may_be_handed" "may_be_handed" sMayH f fd) (HW : Has P w K mg base k "is_whole" ["thing"] (spWhole K) fW fdW) (HA : Has P w K mg base k "is_among" ["thing", "least", "most"] (spAmong K) fA fdA) (ml : mg "len" = none) :
    FnOk P w K mg base CX0 (k + 1) f fd ["thing", "kind", "given"] (spMayD K) := by
  refine F.ok scMayH (fun vs H Q E h => ?_) (fun cdv A outer s H vs Q E hr h => ?_)
  · obtain ⟨x, d, k, g, gv, rfl, _⟩ := h
    rfl
  · obtain ⟨x, d, k, g, gv, rfl, hx, hg, q⟩ := h
    refine ⟨_, pss_cons (ps_if (pt_val (hcall HW hr (pa_cons (pv 1) pa_nil))) (pss_one (ps_ret (hcall HA hr (pa_cons (pv 0) (pa_cons pe_int (pa_cons (pe_op op_sub (pv 1) pe_int) pa_nil)))))) pss_nil)
      (pss_one (ps_ret (pe_and (hcall HA hr (pa_cons (pv 0) (pa_cons pe_int (pa_cons (pe_op op_sub (pe_callB call_len_seq (by rfl) ml PySem.boot_len (pa_cons (pv 2) pa_nil)) pe_int) pa_nil))))
        (pe_one (pe_cmpR op_eq (pe_ix ix_list (pv 2) (pv 0) (fun _ _ => rfl)) (pv 1) (nomark _)))))), ?_⟩
    refine ⟨_, rfl, _, _, rfl, kn_is k, _, rfl, ?_⟩
    cases k with
    | p n =>
      refine iteT ⟨_, rfl, _, rfl, n, 1, rfl, rfl, x, _, 0, n - 1, rfl, dx_is hx, ?_⟩
      rw [among_d hx]
      cases d <;> exact q
    | h z =>
      refine iteF ⟨_, rfl, _, rfl, g, _, rfl, .inl (.inl (.inl hg)), _, 1, rfl, rfl, x, _, 0, _, rfl, dx_is hx, _, rfl, ?_⟩
      rw [List.length_map, among_d hx]
      cases d with
      | int i =>
        cases hx
        have q' : Q (.bl (decide (0 ≤ i) && decide (gv[i.toNat]? = some (.h z)))) H := q
        show if (decide ((0 : Int) ≤ i) && decide (i ≤ ((gv.length : Nat) : Int) - 1)) = true then _ else _
        by_cases c0 : 0 ≤ i
        · rw [decide_eq_true c0, Bool.true_and]
          rw [decide_eq_true c0, Bool.true_and] at q'
          obtain ⟨n, rfl⟩ : ∃ n : Nat, i = (n : Int) := ⟨i.toNat, by omega⟩
          rw [Int.toNat_natCast] at q'
          by_cases c : n < gv.length
          · rw [decide_eq_true (show ((n : Nat) : Int) ≤ ((gv.length : Nat) : Int) - 1 by omega)]
            have hn : gv[n]? = some gv[n] := List.getElem?_eq_getElem c
            generalize gv[n] = y at hn
            refine iteT ⟨_, rfl, _, rfl, g, _, _, y.v, rfl, rfl, .inl (.inl hg), atI_nat (by rw [List.getElem?_map, hn]; rfl), _, rfl, ?_⟩
            refine ⟨by cases y <;> rfl, ?_⟩
            rw [hn] at q'
            have e : decide (y.v = (Kn.h z).v) = decide (some y = some (Kn.h z)) := by
              cases y with
              | h s =>
                show decide (V.str s = V.str z) = _
                by_cases c2 : s = z
                · rw [c2, decide_eq_true rfl, decide_eq_true rfl]
                · rw [decide_eq_false (fun e => c2 (V.str.inj e)), decide_eq_false (fun e => c2 (by cases e; rfl))]
              | p m => rw [decide_eq_false (fun e => by cases e), decide_eq_false (fun e => by cases e)]
            rw [e]
            exact q'
          · rw [decide_eq_false (show ¬ ((n : Nat) : Int) ≤ ((gv.length : Nat) : Int) - 1 by omega)]
            rw [List.getElem?_eq_none (by omega), decide_eq_false (by simp)] at q'
            exact iteF q'
        · rw [decide_eq_false c0, Bool.false_and]
          rw [decide_eq_false c0, Bool.false_and] at q'
          exact iteF q'
      | none => exact iteF q
      | bool _ => exact iteF q
      | str _ => exact iteF q
      | list _ => exact iteF q
      | tuple _ => exact iteF q
      | dict _ => exact iteF q
end
end SfC
namespace SfC
open PySem PySem.Spec PyProof.Rows L2 SfG
/-! ### rows of any data: whose deed, and what place is bad -/
abbrev nDOR : List Str := ["row", "face", "name", "handed", "number", "deed", "many"]
theorem scDeedOR : FnScope nDOR ["row", "face"] (defScope sDeedOR) := ⟨rfl, rfl, rfl, by decide +kernel, rfl, by decide +kernel, by decide +kernel⟩
abbrev nFBP : List Str := ["handed", "takes", "given", "place", "kind"]
theorem scFirstBP : FnScope nFBP ["handed", "takes", "given"] (defScope sFirstBP) := ⟨rfl, rfl, rfl, by decide +kernel, rfl, by decide +kernel, by decide +kernel⟩
theorem drop_at {α : Type} {l : List α} {i : Nat} {a : α} (h : l[i]? = some a) : l.drop i = a :: l.drop (i + 1) := by
  obtain ⟨h1, h2⟩ := List.getElem?_eq_some_iff.mp h
  rw [← h2]
  exact List.drop_eq_getElem_cons h1
def fnd (f : Fc) (z : Str) : Option De := f.ds.find? (fun e => decide (e.nm = z))
theorem fnd_some {f : Fc} {z : Str} {e : De} (h : fnd f z = some e) : e ∈ f.ds ∧ e.nm = z := by
  have h1 := List.mem_of_find?_eq_some h
  have h2 := List.find?_some h
  exact ⟨h1, of_decide_eq_true h2⟩
theorem fnd_none {f : Fc} {z : Str} (h : fnd f z = none) : z ∉ f.ds.map De.nm := by
  intro hm
  obtain ⟨e, he, rfl⟩ := List.mem_map.mp hm
  have := List.find?_eq_none.mp h e he
  simp at this
def dor2 (f : Fc) (a b : PyData) : Option (De × List PyData) := match a with
  | .str z => match fnd f z with
    | some e => match b with
      | .tuple hs => if hs.length = e.tk.length then some (e, hs) else none
      | _ => none
    | none => none
  | _ => none
/-- the deed of a row, and what it is handed -/
def dorD (f : Fc) (d : PyData) : Option (De × List PyData) := match d with
  | .tuple ds => match ds with
    | [a, b] => dor2 f a b
    | _ => none
  | _ => none
/-- the first place that is bad -/
def fbpD (gv : List Kn) : List Kn → List PyData → Nat → Option Nat
  | k :: ks, d :: ds, i => if mayD gv d k = true then fbpD gv ks ds (i + 1) else some i
  | _, _, _ => none
theorem two_not {d : PyData} (h : ¬ ∃ a b, d = .tuple [a, b]) (f : Fc) : tupB d 2 2 = false ∧ dorD f d = none := by
  cases d with
  | tuple ds =>
    match ds, h with
    | [], _ => exact ⟨rfl, rfl⟩
    | [_], _ => exact ⟨rfl, rfl⟩
    | [a, b], h => exact absurd ⟨a, b, rfl⟩ h
    | a :: b :: c :: r, _ =>
      refine ⟨?_, rfl⟩
      show (decide ((2 : Int) ≤ (((a :: b :: c :: r).length : Nat) : Int)) && decide ((((a :: b :: c :: r).length : Nat) : Int) ≤ 2)) = false
      rw [decide_eq_false (p := (((a :: b :: c :: r).length : Nat) : Int) ≤ 2) (by simp only [List.length_cons]; omega), Bool.and_false]
  | _ => exact ⟨rfl, rfl⟩
section
variable {P : Program} {w : World} {K : PySem.W.Frag} {mg : Str → Option Value} {base : Heap}
def spDorD (K : PySem.W.Frag) : Sp := fun vs H Q _ => ∃ (x y : V) (d : PyData) (f : Fc), vs = [x, y] ∧ Dx K H x d ∧ Dp K H y f.d ∧ goF f ∧ (dorD f d = none → ∀ H', Gr H H' → Q .non H') ∧ (∀ e hs, dorD f d = some (e, hs) → ∀ H' v, Gr H H' → Dp K H' v e.d → Q v H')
set_option maxHeartbeats 1000000 in
theorem ok_dorD {f fT fF : Addr} {fd fdT fdF : FuncData} {k : Nat} (F : Fun K "deed_of_row" "deed_of_row" sDeedOR f fd) (HT : Has P w K mg base k "is_tuple_of" ["thing", "least", "most"] (spTupD K) fT fdT) (HF : Has P w K mg base k "find_deed" ["face", "name"] (spFind K) fF fdF) (ml : mg "len" = none) :
    FnOk P w K mg base CX0 (k + 1) f fd ["row", "face"] (spDorD K) := by
  refine F.ok scDeedOR (fun vs H Q E h => ?_) (fun cdv A outer s H vs Q E hr h => ?_)
  · obtain ⟨x, y, d, f, rfl, _⟩ := h
    rfl
  · obtain ⟨x, y, d, f, rfl, hx, hy, go, qn, qs⟩ := h
    have nd := scDeedOR.nd
    refine' ⟨_, pss_cons ?s1 (pss_cons ?s2 (pss_cons ?s3 (pss_cons ?s4 (pss_cons ?s5 (pss_cons ?s6 (pss_one ?s7)))))), ?rd⟩
    case s1 => exact ps_if (pt_not (pt_val (hcall HT hr (pa_cons (pv 0) (pa_cons pe_int (pa_cons pe_int pa_nil)))))) (pss_one (ps_ret pe_non)) pss_nil
    case s2 => exact ps_asg (pv 0) (pg_tup rfl (pgs_cons (pg_name (i := 2) nd rfl (.inl rfl)) (pgs_cons (pg_name (i := 3) nd rfl (.inl rfl)) pgs_nil)))
    case s3 => exact ps_set (i := 4) nd rfl (.inl rfl) (hcall HF hr (pa_cons (pv 1) (pa_cons (pv 2) pa_nil)))
    case s4 => exact ps_if (pt_cmpR op_isN (pv 4) pe_non (nomark _)) (pss_one (ps_ret pe_non)) pss_nil
    case s5 => exact ps_set (i := 5) nd rfl (.inl rfl) (pe_ix ix_tup (pe_ix ix_tup (pv 1) pe_int (fun _ _ => rfl)) (pv 4) (fun _ _ => rfl))
    case s6 => exact ps_set (i := 6) nd rfl (.inl rfl) (pe_callB call_len_seq (by rfl) ml PySem.boot_len (pa_cons (pe_ix ix_tup (pv 5) pe_int (fun _ _ => rfl)) pa_nil))
    case s7 => exact ps_ret (pe_ifExp (pt_val (hcall HT hr (pa_cons (pv 3) (pa_cons (pv 6) (pa_cons (pv 6) pa_nil))))) (pv 5) pe_non)
    case rd =>
    refine ⟨_, rfl, x, d, 2, 2, rfl, hx, _, rfl, ?_⟩
    by_cases two : ∃ a b, d = .tuple [a, b]
    case neg =>
      rw [(two_not two f).1]
      exact iteT (qn (two_not two f).2 H (Gr.refl H))
    obtain ⟨a, b, rfl⟩ := two
    obtain ⟨p, xs, rfl, hp, hxs⟩ := dx_tup hx
    obtain ⟨x1, x2, rfl, h1, h2⟩ : ∃ x1 x2, xs = [x1, x2] ∧ Dx K H x1 a ∧ Dx K H x2 b := by
      cases hxs with
      | cons h1 t =>
        cases t with
        | cons h2 t2 =>
          cases t2
          exact ⟨_, _, rfl, h1, h2⟩
    obtain ⟨pf, ph, pd, fxs, rfl, hpf, hph, hpd, dd⟩ := dp_face hy
    rw [show tupB (.tuple [a, b]) 2 2 = true from rfl]
    refine iteF ⟨_, rfl, p, _, rfl, hp, rfl, _, _, rfl, _, _, rfl, rfl, ?_⟩
    have bad : dor2 f a b = none → (∀ z, x1 = .str z → z ∉ f.ds.map De.nm) → ∀ H', Gr H H' → Q .non H' := fun hd _ => qn hd
    refine ⟨_, rfl, _, rfl, _, _, f, tyD a, rfl, hy, dx_is h1, ?_⟩
    by_cases hs : ∃ z, a = .str z
    case neg =>
      have hd : dor2 f a b = none := by
        cases a with
        | str z => exact absurd ⟨z, rfl⟩ hs
        | _ => rfl
      refine .inr ⟨fun z e => ?_, fun H1 g1 => ⟨_, rfl, rfl, _, rfl, iteT (qn hd H1 g1)⟩⟩
      subst e
      cases h1
      exact absurd ⟨z, rfl⟩ hs
    obtain ⟨z, rfl⟩ := hs
    obtain rfl := dx_str h1
    cases hf : fnd f z with
    | none =>
      have hd : dor2 f (.str z) b = none := by
        simp only [dor2, hf]
      exact .inr ⟨fun z' e => by cases e; exact fnd_none hf, fun H1 g1 => ⟨_, rfl, rfl, _, rfl, iteT (qn hd H1 g1)⟩⟩
    | some e =>
      obtain ⟨hm, rfl⟩ := fnd_some hf
      obtain ⟨i, hi⟩ := List.mem_iff_getElem?.mp hm
      obtain ⟨v, hv, dv⟩ := dpA_map dd hi
      refine .inl ⟨_, e, i, rfl, hi, rfl, go.up, fun H1 g1 => ?_⟩
      refine ⟨_, rfl, rfl, _, rfl, iteF ?_⟩
      refine ⟨_, rfl, pf, _, 1, _, rfl, rfl, g1.sqt hpf, rfl, _, rfl, pd, _, _, _, rfl, rfl, g1.sqt hpd, atI_nat hv, ?_⟩
      have dv1 := g1.kd.dp dv
      obtain ⟨pe, n1, t1, v1, rfl, hpe, dn, dt, dg⟩ := dp_3 dv1
      obtain ⟨pt, ts, rfl, hpt, hts⟩ := dp_tup dt
      have lt : ts.length = e.tk.length := by
        have := dpA_len hts
        rw [List.length_map] at this
        exact this
      refine ⟨_, rfl, pe, _, 1, _, rfl, rfl, hpe, rfl, pt, _, rfl, .inr hpt, ?_⟩
      refine ⟨_, rfl, _, rfl, _, rfl, x2, b, _, _, rfl, g1.kx.dx h2, _, rfl, ?_⟩
      have key : (∃ hs, b = .tuple hs ∧ hs.length = e.tk.length) ∨ (tupB b ((ts.length : Nat) : Int) ((ts.length : Nat) : Int) = false ∧ dor2 f (.str e.nm) b = none) := by
        rw [lt]
        cases b with
        | tuple hs =>
          by_cases c : hs.length = e.tk.length
          · exact .inl ⟨hs, rfl, c⟩
          · refine .inr ⟨?_, by simp only [dor2, hf, if_neg c]⟩
            show (decide (((e.tk.length : Nat) : Int) ≤ (hs.length : Int)) && decide ((hs.length : Int) ≤ ((e.tk.length : Nat) : Int))) = false
            by_cases c1 : ((e.tk.length : Nat) : Int) ≤ (hs.length : Int)
            · rw [decide_eq_false (show ¬ (hs.length : Int) ≤ ((e.tk.length : Nat) : Int) by omega), Bool.and_false]
            · rw [decide_eq_false c1, Bool.false_and]
        | none => exact .inr ⟨rfl, by simp only [dor2, hf]⟩
        | bool _ => exact .inr ⟨rfl, by simp only [dor2, hf]⟩
        | int _ => exact .inr ⟨rfl, by simp only [dor2, hf]⟩
        | str _ => exact .inr ⟨rfl, by simp only [dor2, hf]⟩
        | list _ => exact .inr ⟨rfl, by simp only [dor2, hf]⟩
        | dict _ => exact .inr ⟨rfl, by simp only [dor2, hf]⟩
      rcases key with ⟨hs, rfl, c⟩ | ⟨hb, hd⟩
      · rw [show tupB (.tuple hs) ((ts.length : Nat) : Int) ((ts.length : Nat) : Int) = true from by
          show (decide (((ts.length : Nat) : Int) ≤ (hs.length : Int)) && decide ((hs.length : Int) ≤ ((ts.length : Nat) : Int))) = true
          rw [decide_eq_true (show ((ts.length : Nat) : Int) ≤ (hs.length : Int) by omega), decide_eq_true (show (hs.length : Int) ≤ ((ts.length : Nat) : Int) by omega)]
          rfl]
        exact iteT ⟨_, rfl, qs e hs (by show dor2 f (.str e.nm) (.tuple hs) = _; simp only [dor2, hf, if_pos c]) H1 _ g1 dv1⟩
      · rw [hb]
        exact iteF (qn hd H1 g1)
end
end SfC
namespace SfC
open PySem PySem.Spec PyProof.Rows L2 SfG
/-! ### the fault of any thing -/
abbrev nUF : List Str := ["face", "thing", "given", "number", "row", "deed", "place"]
theorem scUFault : FnScope nUF ["face", "thing"] (defScope sUFault) := ⟨rfl, rfl, rfl, by decide +kernel, rfl, by decide +kernel, by decide +kernel⟩
theorem fbp_nil (gv : List Kn) (l : List PyData) (j : Nat) : fbpD gv [] l j = none := by cases l <;> rfl
/-- the first row that is bad, and its place -/
def rowsF' (f : Fc) : List PyData → Nat → List Kn → Option (Nat × Option Nat)
  | [], _, _ => none
  | d :: r, i, gv => match dorD f d with
    | none => some (i, none)
    | some (e, hs) => match fbpD gv e.tk hs 0 with
      | some j => some (i, some j)
      | none => rowsF' f r (i + 1) (gv ++ [e.gv])
def fltU (f : Fc) (d : PyData) : Option (Option Nat × Option Nat) := match d with
  | .tuple ds => if 1 ≤ ds.length ∧ ds.length ≤ 200 then (rowsF' f ds 0 []).map (fun p => (some p.1, p.2)) else some (none, none)
  | _ => some (none, none)
def ovN : Option Nat → V
  | none => .non
  | some n => .int (n : Nat)
theorem dor_some {f : Fc} {d : PyData} {e : De} {hs : List PyData} (h : dorD f d = some (e, hs)) : d = .tuple [.str e.nm, .tuple hs] ∧ e ∈ f.ds ∧ hs.length = e.tk.length := by
  by_cases two : ∃ a b, d = .tuple [a, b]
  case neg =>
    rw [(two_not two f).2] at h
    cases h
  obtain ⟨a, b, rfl⟩ := two
  replace h : dor2 f a b = some (e, hs) := h
  cases a with
  | str z =>
    simp only [dor2] at h
    cases hf : fnd f z with
    | none =>
      rw [hf] at h
      cases h
    | some e' =>
      rw [hf] at h
      obtain ⟨hm, rfl⟩ := fnd_some hf
      cases b with
      | tuple hs' =>
        dsimp only at h
        by_cases c : hs'.length = e'.tk.length
        · rw [if_pos c] at h
          cases h
          exact ⟨rfl, hm, c⟩
        · rw [if_neg c] at h
          cases h
      | _ => cases h
  | _ => cases h
section
variable {P : Program} {w : World} {K : PySem.W.Frag} {mg : Str → Option Value} {base : Heap}
def spFBPD (K : PySem.W.Frag) : Sp := fun vs H Q _ => ∃ (p t g : Addr) (xs : List V) (ds : List PyData) (ks gv : List Kn), vs = [.ref p, .ref t, .ref g] ∧ SqT K H p xs ∧ DxA K H xs ds ∧ SqT K H t (ks.map Kn.v) ∧ H g = some (.lst (gv.map Kn.v)) ∧ ds.length = ks.length ∧
  (fbpD gv ks ds 0 = none → ∀ H', Gr H H' → Q .non H') ∧ (∀ j, fbpD gv ks ds 0 = some j → ∀ H', Gr H H' → Q (.int (j : Nat)) H')
theorem ok_fbpD {f fM : Addr} {fd fdM : FuncData} {k : Nat} (F : Fun K "first_bad_place" "first_bad_place" sFirstBP f fd) (HM : Has P w K mg base k "may_be_handed" ["thing", "kind", "given"] (spMayD K) fM fdM) (me : mg "enumerate" = none) :
    FnOk P w K mg base CX0 (k + 1) f fd ["handed", "takes", "given"] (spFBPD K) := by
  refine F.ok scFirstBP (fun vs H Q E h => ?_) (fun cdv A outer s H vs Q E hr h => ?_)
  · obtain ⟨p, t, g, xs, ds, ks, gv, rfl, _⟩ := h
    rfl
  · obtain ⟨p, t, g, xs, ds, ks, gv, rfl, hp, hx, ht, hg, hl, qn, qs⟩ := h
    have nd := scFirstBP.nd
    refine ⟨_, pss_cons (ps_for PassesOwn.never rfl (pi_enumT (by rfl) me (pa_cons (pv 1) pa_nil)) (pg_tup rfl (pgs_cons (pg_name (i := 3) nd rfl (.inl rfl)) (pgs_cons (pg_name (i := 4) nd rfl (.inl rfl)) pgs_nil)))
      (pss_one (ps_if (pt_not (pt_val (hcall HM hr (pa_cons (pe_ix ix_tup (pv 0) (pv 3) (fun _ _ => rfl)) (pa_cons (pv 4) (pa_cons (pv 2) pa_nil)))))) (pss_one (ps_ret (pv 3))) pss_nil))) (pss_one (ps_ret pe_non)), ?_⟩
    refine ⟨_, rfl, t, _, rfl, ht, for_it (walk_enumT (xs := ks.map Kn.v)) (fun i σ H1 => ∃ y3 y4 : Option V, σ = [some (.ref p), some (.ref t), some (.ref g), y3, y4] ∧ Gr H H1 ∧ fbpD gv ks ds 0 = fbpD gv (ks.drop i) (ds.drop i) i) ⟨none, none, rfl, Gr.refl H, rfl⟩ ?h1 ?h2 ?h3⟩
    case h1 =>
      rintro i σ H1 hi ⟨y3, y4, rfl, g1, _⟩
      exact g1.sqt ht
    case h2 =>
      rintro i v σ H1 H2 hi ⟨y3, y4, rfl, g1, eq⟩ ⟨T, a, b, rfl, nT, rfl, ha, hb⟩
      cases ha
      replace hb : (ks.map Kn.v)[i]? = some b := hb
      rw [List.getElem?_map] at hb
      obtain ⟨kn, hkn, rfl⟩ := Option.map_eq_some_iff.mp hb
      have li : i < ds.length := by rw [hl]; exact lt_of_at hkn
      have hd : ds[i]? = some ds[i] := List.getElem?_eq_getElem li
      generalize ds[i] = d at hd
      obtain ⟨x, hxi, dx⟩ := dxA_get hx hd
      rw [drop_at hkn, drop_at hd, fbpD] at eq
      have g2 : Gr H (upd H1 T (.tup [.int (i : Nat), kn.v])) := g1.trans (Gr.new nT)
      have hT : upd H1 T (.tup [.int (i : Nat), kn.v]) T = some (.tup [.int (i : Nat), kn.v]) := upd_same
      generalize upd H1 T (.tup [.int (i : Nat), kn.v]) = H2 at g2 hT ⊢
      refine ⟨T, _, rfl, .inl (.inl hT), rfl, _, _, rfl, _, _, rfl, rfl, ?_⟩
      refine ⟨_, rfl, _, rfl, p, _, _, _, rfl, rfl, g2.sqt hp, atI_nat hxi, _, rfl, _, rfl, x, d, kn, g, gv, rfl, g2.kx.dx dx, g2.lst hg, ?_⟩
      cases hm : mayD gv d kn with
      | true =>
        rw [if_pos hm] at eq
        exact ⟨_, rfl, iteF ⟨_, _, rfl, g2, eq⟩⟩
      | false =>
        rw [if_neg (by rw [hm]; decide)] at eq
        exact ⟨_, rfl, iteT ⟨_, rfl, qs i eq H2 g2⟩⟩
    case h3 =>
      rintro σ H1 ⟨y3, y4, rfl, g1, eq⟩
      rw [List.length_map, List.drop_length, fbp_nil] at eq
      exact qn eq H1 g1
def spUFD (K : PySem.W.Frag) : Sp := fun vs H Q _ => ∃ (x y : V) (f : Fc) (d : PyData), vs = [x, y] ∧ Dp K H x f.d ∧ goF f ∧ Dx K H y d ∧ (fltU f d = none → ∀ H', Gr H H' → Q .non H') ∧ (∀ a b, fltU f d = some (a, b) → ∀ H' t, Gr H H' → H' t = some (.tup [ovN a, ovN b]) → Q (.ref t) H')
set_option maxHeartbeats 1000000 in
theorem ok_ufaultD {f fT fD fB : Addr} {fd fdT fdD fdB : FuncData} {k : Nat} {tm : Tok} (F : Fun K "user_fault" "user_fault" sUFault f fd) (HT : Has P w K mg base k "is_tuple_of" ["thing", "least", "most"] (spTupD K) fT fdT) (HD : Has P w K mg base k "deed_of_row" ["row", "face"] (spDorD K) fD fdD)
    (HB : Has P w K mg base k "first_bad_place" ["handed", "takes", "given"] (spFBPD K) fB fdB) (me : mg "enumerate" = none) (mm : mg "MOST_ROWS" = some (.int 200 tm)) : FnOk P w K mg base CX0 (k + 1) f fd ["face", "thing"] (spUFD K) := by
  refine F.ok scUFault (fun vs H Q E h => ?_) (fun cdv A outer s H vs Q E hr h => ?_)
  · obtain ⟨x, y, f, d, rfl, _⟩ := h
    rfl
  · obtain ⟨x, y, f, d, rfl, hx, go, hy, qn, qs⟩ := h
    have nd := scUFault.nd
    refine' ⟨_, pss_cons ?s1 (pss_cons ?s2 (pss_cons ?s3 (pss_one ?s4))), ?rd⟩
    case s1 => exact ps_if (pt_not (pt_val (hcall HT hr (pa_cons (pv 1) (pa_cons pe_int (pa_cons (pe_glob (v := .int 200) rfl mm ⟨_, rfl⟩) pa_nil)))))) (pss_one (ps_ret (pe_tup (pa_cons pe_non (pa_cons pe_non pa_nil))))) pss_nil
    case s2 => exact ps_set (i := 2) nd rfl (.inl rfl) (pe_lst pa_nil)
    case s3 =>
      exact ps_for PassesOwn.never rfl (pi_enumT (by rfl) me (pa_cons (pv 1) pa_nil)) (pg_tup rfl (pgs_cons (pg_name (i := 3) nd rfl (.inl rfl)) (pgs_cons (pg_name (i := 4) nd rfl (.inl rfl)) pgs_nil)))
        (pss_cons (ps_set (i := 5) nd rfl (.inl rfl) (hcall HD hr (pa_cons (pv 4) (pa_cons (pv 0) pa_nil))))
        (pss_cons (ps_if (pt_cmpR op_isN (pv 5) pe_non (nomark _)) (pss_one (ps_ret (pe_tup (pa_cons (pv 3) (pa_cons pe_non pa_nil))))) pss_nil)
        (pss_cons (ps_set (i := 6) nd rfl (.inl rfl) (hcall HB hr (pa_cons (pe_ix ix_tup (pv 4) pe_int (fun _ _ => rfl)) (pa_cons (pe_ix ix_tup (pv 5) pe_int (fun _ _ => rfl)) (pa_cons (pv 2) pa_nil)))))
        (pss_cons (ps_if (pt_cmpR op_notN (pv 6) pe_non (nomark _)) (pss_one (ps_ret (pe_tup (pa_cons (pv 3) (pa_cons (pv 6) pa_nil))))) pss_nil)
        (pss_one (ps_expr (pe_bm PySem.F.plainAttrs_list PySem.F.slot_list_append PySem.F.type_list_append mt_append (pv 2) (pa_cons (pe_ix ix_tup (pv 5) pe_int (fun _ _ => rfl)) pa_nil))))))))
    case s4 => exact ps_ret pe_non
    case rd =>
    refine ⟨_, rfl, y, d, 1, 200, rfl, hy, _, rfl, ?_⟩
    have key : (∃ ds, d = .tuple ds ∧ 1 ≤ ds.length ∧ ds.length ≤ 200) ∨ (tupB d 1 200 = false ∧ fltU f d = some (none, none)) := by
      cases d with
      | tuple ds =>
        by_cases c : 1 ≤ ds.length ∧ ds.length ≤ 200
        · exact .inl ⟨ds, rfl, c.1, c.2⟩
        · refine .inr ⟨?_, by show (if _ then _ else _) = _; rw [if_neg c]⟩
          show (decide ((1 : Int) ≤ (ds.length : Int)) && decide ((ds.length : Int) ≤ 200)) = false
          by_cases c1 : (1 : Int) ≤ (ds.length : Int)
          · rw [decide_eq_false (show ¬ (ds.length : Int) ≤ 200 by omega), Bool.and_false]
          · rw [decide_eq_false c1, Bool.false_and]
      | none => exact .inr ⟨rfl, rfl⟩
      | bool _ => exact .inr ⟨rfl, rfl⟩
      | int _ => exact .inr ⟨rfl, rfl⟩
      | str _ => exact .inr ⟨rfl, rfl⟩
      | list _ => exact .inr ⟨rfl, rfl⟩
      | dict _ => exact .inr ⟨rfl, rfl⟩
    rcases key with ⟨ds, rfl, lo, hi⟩ | ⟨hb, hf⟩
    case inr =>
      rw [hb]
      exact iteT ⟨by show 2 ≤ sizeLine; decide, fun t nt => qs none none hf _ t (Gr.new nt) upd_same⟩
    obtain ⟨p, xs, rfl, hp, hxs⟩ := dx_tup hy
    have lx : xs.length = ds.length := dxA_len hxs
    rw [show tupB (.tuple ds) 1 200 = true from by
      show (decide ((1 : Int) ≤ (ds.length : Int)) && decide ((ds.length : Int) ≤ 200)) = true
      rw [decide_eq_true (show (1 : Int) ≤ (ds.length : Int) by omega), decide_eq_true (show (ds.length : Int) ≤ 200 by omega)]
      rfl]
    have hfl : fltU f (.tuple ds) = (rowsF' f ds 0 []).map (fun p => (some p.1, p.2)) := by
      show (if _ then _ else _) = _
      rw [if_pos ⟨lo, hi⟩]
    rw [hfl] at qn qs
    refine iteF ⟨by show 0 ≤ sizeLine; decide, fun g ng => ?_⟩
    have g1 : Gr H (upd H g (.lst [])) := Gr.new ng
    have e1 : upd H g (.lst []) g = some (.lst []) := upd_same
    generalize upd H g (.lst []) = H1 at g1 e1 ⊢
    refine ⟨_, rfl, p, _, rfl, g1.sqt hp, for_it (walk_enumT (xs := xs)) (fun i σ H2 => ∃ (y3 y4 y5 y6 : Option V) (gv : List Kn), σ = [some x, some (.ref p), some (.ref g), y3, y4, y5, y6] ∧ Gr H H2 ∧ H2 g = some (.lst (gv.map Kn.v)) ∧ gv.length = i ∧ rowsF' f ds 0 [] = rowsF' f (ds.drop i) i gv) ⟨none, none, none, none, [], rfl, g1, e1, rfl, rfl⟩ ?h1 ?h2 ?h3⟩
    case h1 =>
      rintro i σ H2 hi ⟨y3, y4, y5, y6, gv, rfl, g2, e2, lg, eq⟩
      exact g2.sqt hp
    case h3 =>
      rintro σ H2 ⟨y3, y4, y5, y6, gv, rfl, g2, e2, lg, eq⟩
      rw [lx, List.drop_length, rowsF'] at eq
      exact qn (by rw [eq]; rfl) H2 g2
    case h2 =>
      rintro i v σ H2 H3 hi' ⟨y3, y4, y5, y6, gv, rfl, g2, e2, lg, eq⟩ ⟨T, a, b, rfl, nT, rfl, ha, hb⟩
      cases ha
      have iu : i < ds.length := by omega
      have hu : ds[i]? = some ds[i] := List.getElem?_eq_getElem iu
      generalize ds[i] = d at hu
      obtain ⟨b', hb', db⟩ := dxA_get hxs hu
      have : b = b' := Option.some.inj (hb.symm.trans hb')
      subst this
      rw [drop_at hu, rowsF'] at eq
      have g3 : Gr H (upd H2 T (.tup [.int (i : Nat), b])) := g2.trans (Gr.new nT)
      have hT : upd H2 T (.tup [.int (i : Nat), b]) T = some (.tup [.int (i : Nat), b]) := upd_same
      have e3 := (Gr.new (o := .tup [.int (i : Nat), b]) nT).lst e2
      generalize upd H2 T (.tup [.int (i : Nat), b]) = H3 at g3 hT e3 ⊢
      refine ⟨T, _, rfl, .inl (.inl hT), rfl, _, _, rfl, _, _, rfl, rfl, ?_⟩
      refine ⟨_, rfl, _, rfl, b, x, d, f, rfl, g3.kx.dx db, g3.kd.dp hx, go, fun hd H4 g4 => ?_, fun e hs hd H4 v g4 dv => ?_⟩
      · rw [hd] at eq
        refine ⟨_, rfl, rfl, _, rfl, iteT ⟨_, rfl, by show 2 ≤ sizeLine; decide, fun t nt => ?_⟩⟩
        exact qs (some i) none (by rw [eq]; rfl) _ t (g3.trans (g4.trans (Gr.new nt))) upd_same
      rw [hd] at eq
      dsimp only at eq
      obtain ⟨rfl, hm, hl⟩ := dor_some hd
      have dbx := (g3.trans g4).kx.dx db
      obtain ⟨pr, ys, rfl, hpr, hys⟩ := dx_tup dbx
      obtain ⟨x1, x2, rfl, d1, d2⟩ : ∃ x1 x2, ys = [x1, x2] ∧ Dx K H4 x1 (.str e.nm) ∧ Dx K H4 x2 (.tuple hs) := by
        cases hys with
        | cons h1 t =>
          cases t with
          | cons h2 t2 =>
            cases t2
            exact ⟨_, _, rfl, h1, h2⟩
      obtain ⟨qr, zs, rfl, hqr, hzs⟩ := dx_tup d2
      obtain ⟨pe, n1, t1, v1, rfl, hpe, dn, dt, dg⟩ := dp_3 dv
      obtain ⟨pt, ts, rfl, hpt, hts⟩ := dp_tup dt
      cases dpA_kns hts
      cases dp_kn dg
      refine ⟨_, rfl, rfl, _, rfl, iteF ?_⟩
      refine ⟨_, rfl, pr, _, 1, _, rfl, rfl, hpr, rfl, _, rfl, pe, _, 1, _, rfl, rfl, hpe, rfl, _, rfl, ?_⟩
      refine ⟨qr, pt, g, zs, hs, e.tk, gv, rfl, hqr, hzs, hpt, g4.lst e3, hl, fun hb H5 g5 => ?_, fun j hb H5 g5 => ?_⟩
      · rw [hb] at eq
        refine ⟨_, rfl, rfl, _, rfl, iteF ?_⟩
        refine ⟨_, rfl, .inl ⟨rfl, _, .inl (.inl ((g4.trans g5).lst e3))⟩, _, rfl, pe, _, 2, _, rfl, rfl, g5.sqt hpe, rfl, g, _, _, rfl, rfl, (g4.trans g5).lst e3, ?_, ?_⟩
        · rw [List.length_map]
          exact small1000 (by omega)
        · refine ⟨_, _, _, _, gv ++ [e.gv], rfl, (g3.trans (g4.trans g5)).upd_new ng, ?_, ?_, eq⟩
          · rw [upd_same, List.map_append]
            rfl
          · rw [List.length_append, lg]
            rfl
      · rw [hb] at eq
        refine ⟨_, rfl, rfl, _, rfl, iteT ⟨_, rfl, _, rfl, by show 2 ≤ sizeLine; decide, fun t nt => ?_⟩⟩
        exact qs (some i) (some j) (by rw [eq]; rfl) _ t (g3.trans (g4.trans (g5.trans (Gr.new nt)))) upd_same
end
end SfC
namespace SfC
open PySem PySem.Spec PyProof.Rows L2 SfG
/-! ### BadUser; users that are refused -/
/-- a def that is called and may raise -/
structure HasX (P : Program) (w : World) (K : PySem.W.Frag) (mg : Str → Option Value) (base : Heap) (k : Nat) (x : Str) (ps : List Str) (sp : Sp) (f : Addr) (fd : FuncData) : Prop where
  ok : FnOk P w K mg base (L2.CX P w) k f fd ps sp
  at_ : mg x = some (.ref f)
  kp : PySem.W.keepIn K (.ref f) = true
  bd : Binds K fd ps []
abbrev sUserIni : Stmt := inClass sBadUser 0
theorem scUserIni : SupScope ["self", "row", "place"] ["self", "row", "place"] (defScope sUserIni) :=
  ⟨rfl, rfl, rfl, by decide +kernel, rfl, by decide +kernel, by decide +kernel, by decide +kernel, rfl, rfl⟩
section
variable {P : Program} {w : World} {K : PySem.W.Frag} {mg : Str → Option Value} {base : Heap}
/-- __init__ of BadUser -/
theorem ok_userIni {f C cc cda fS : Addr} {fdS : FuncData} {k : Nat} {oc kV doc pm ct : Value} {od an : Option Addr} {osl : Array (Option Value)}
    (lk : K.lookup f = some ⟨oc, od, .func (PySem.W.ksFn "__init__" "BadUser.__init__" (defArgs sUserIni) (defBody sUserIni) (defScope sUserIni) .none kV doc pm an (.ref cda) ct cc), osl⟩)
    (hcd : PySem.W.codeIn K (.ref cda) "BadUser.__init__" = true) (U : SupC P K mg C cc cda) (HS : Has P w K mg base (k + 1) "shown" ["field"] spShown fS fdS)
    (n1 : PySem.W.findIn K (.ref C) "row" = some none) (n2 : PySem.W.findIn K (.ref C) "place" = some none) :
    FnOk P w K mg base CX0 (k + 2) f (PySem.W.ksFn "__init__" "BadUser.__init__" (defArgs sUserIni) (defBody sUserIni) (defScope sUserIni) .none kV doc pm an (.ref cda) ct cc) ["self", "row", "place"] (spIni C "row" "place") := by
  refine fn_super lk hcd scUserIni U rfl rfl (fun vs H Q E h => ?_) (fun A outer s H vs Q E hr h => ?_) (fun _ => rfl) (fun _ => ⟨_, rfl⟩) (fun _ => rfl)
  · obtain ⟨a, x, y, rfl, _⟩ := h
    rfl
  · obtain ⟨a, x, y, rfl, ha, hx, hy, q⟩ := h
    refine ⟨a, [x, y], _, _, rfl, ha, pe_joined (.cons pe_str (.cons (pe_fmt (hcall HS hr (pa_cons (pv 1) pa_nil))) (.cons pe_str (.cons (pe_fmt (hcall HS hr (pa_cons (pv 2) pa_nil))) .nil)))), pss_cons (ps_ost (pv 0) (pv 1)) (pss_one (ps_ost (pv 0) (pv 2))), ?_⟩
    have e9 : (("no user: row " : Str)).length = 13 := by decide +kernel
    have e2 : ((", place " : Str)).length = 8 := by decide +kernel
    have ez : (Str.empty : Str).length = 0 := rfl
    refine ⟨_, rfl, ?_, _, rfl, x, rfl, hx, fun S1 H1 g1 l1 => .inl ⟨S1, rfl, by rw [sizeLine_eq]; omega, _, rfl, ?_, _, rfl, ?_, _, rfl, y, rfl, hy, fun S2 H2 g2 l2 => .inl ⟨S2, rfl, by rw [sizeLine_eq]; omega, _, rfl, ?_, ?_⟩⟩⟩
    · rw [app_len, ez, e9, sizeLine_eq]
      decide
    · rw [app_len, app_len, ez, e9, sizeLine_eq]
      omega
    · rw [app_len, app_len, app_len, ez, e9, e2, sizeLine_eq]
      omega
    · rw [app_len, app_len, app_len, app_len, ez, e9, e2, sizeLine_eq]
      omega
    · have g := g1.trans g2
      have ha2 : H2 a = some (exo a C none) := g.keep _ _ ha fun _ => exo_tbl
      refine ⟨ha2, ?_⟩
      refine ⟨_, rfl, _, rfl, a, C, rfl, U.T, n1, .inl ⟨ha2, fun dx nd ne => ?_⟩⟩
      refine ⟨_, rfl, _, rfl, a, C, rfl, U.T, n2, .inr ⟨dx, [("row", x)], upd_same, ?_, by show 1 ≤ 900; decide, q H2 dx g nd ne⟩⟩
      rw [upd_ne ne, upd_same]
abbrev nRU : List Str := ["face", "user", "fault", "row", "place"]
theorem scRefU : FnScope nRU ["face", "user"] (defScope sRefU) := ⟨rfl, rfl, rfl, by decide +kernel, rfl, by decide +kernel, by decide +kernel⟩
theorem scNeedU : FnScope ["face", "user"] ["face", "user"] (defScope sNeedU) := ⟨rfl, rfl, rfl, by decide +kernel, rfl, by decide +kernel, by decide +kernel⟩
theorem scIsU : FnScope ["face", "thing"] ["face", "thing"] (defScope sIsUser) := ⟨rfl, rfl, rfl, by decide +kernel, rfl, by decide +kernel, by decide +kernel⟩
theorem ov_small (n : Option Nat) : Shn (ovN n) := by
  cases n with
  | none => exact .inl rfl
  | some n => exact .inr (.inl ⟨_, rfl⟩)
/-- refused: by this row and this place -/
def Ru (E : XK) (C : Addr) (H : Hp) (a b : Option Nat) : Prop := ∀ H' dd, Gr H H' → H' dd = some (.xd [("place", ovN b), ("row", ovN a)]) → E (.ref C) (some dd) H'
theorem Ru.gr {E : XK} {C : Addr} {H H1 : Hp} {a b : Option Nat} (h : Ru E C H a b) (g : Gr H H1) : Ru E C H1 a b := fun H' dd g' hd => h H' dd (g.trans g') hd
def spNUX (K : PySem.W.Frag) (C : Addr) : Sp := fun vs H Q E => ∃ (x y : V) (f : Fc) (d : PyData), vs = [x, y] ∧ Dp K H x f.d ∧ goF f ∧ Dx K H y d ∧ (fltU f d = none → ∀ H', Gr H H' → Q .non H') ∧ (∀ a b, fltU f d = some (a, b) → Ru E C H a b)
def spIsU (K : PySem.W.Frag) : Sp := fun vs H Q _ => ∃ (x y : V) (f : Fc) (d : PyData), vs = [x, y] ∧ Dp K H x f.d ∧ goF f ∧ Dx K H y d ∧ ∀ H', Gr H H' → Q (.bl (fltU f d).isNone) H'
theorem ok_refUX {f fF C fI : Addr} {fd fdF fdI : FuncData} {k : Nat} (F : Fun K "refuse_no_user" "refuse_no_user" sRefU f fd) (HF : Has P w K mg base (k + 1) "user_fault" ["face", "thing"] (spUFD K) fF fdF) (B : Bad2 P w K mg base k "BadUser" "row" "place" C fI fdI) :
    FnOk P w K mg base (L2.CX P w) (k + 2) f fd ["face", "user"] (spNUX K C) := by
  refine F.okX scRefU (fun vs H Q E h => ?_) (fun cdv A outer s H vs Q E hr h => ?_)
  · obtain ⟨x, y, f, d, rfl, _⟩ := h
    rfl
  · obtain ⟨x, y, f, d, rfl, hx, go, hy, qn, qs⟩ := h
    have nd := scRefU.nd
    refine ⟨_, pss_cons (ps_set (i := 2) nd rfl (.inl rfl) (hcall HF hr (pa_cons (pv 0) (pa_cons (pv 1) pa_nil)))) (pss_one (ps_if (pt_cmpR op_notN (pv 2) pe_non (nomark _))
      (pss_cons (ps_asg (pv 2) (pg_tup rfl (pgs_cons (pg_name (i := 3) nd rfl (.inl rfl)) (pgs_cons (pg_name (i := 4) nd rfl (.inl rfl)) pgs_nil))))
        (pss_one (ps_raise rfl (takes_of (E := E) rfl rfl rfl rfl) (pmk_oex B.T B.i B.t B.F hr B.b .nil pass0 rfl B.g (pa_cons (pv 3) (pa_cons (pv 4) pa_nil)))))) pss_nil)), ?_⟩
    refine ⟨_, rfl, _, rfl, x, y, f, d, rfl, hx, go, hy, fun hf H1 g1 => ?_, fun a b hf H1 t g1 ht => ?_⟩
    · exact ⟨_, rfl, rfl, _, rfl, iteF (qn hf H1 g1)⟩
    · refine ⟨_, rfl, rfl, _, rfl, iteT ⟨_, rfl, t, _, rfl, .inl (.inl ht), rfl, _, _, rfl, _, _, rfl, rfl, ?_⟩⟩
      exact ⟨_, rfl, _, rfl, made2 (ov_small a) (ov_small b) fun dd H2 g2 hd => qs a b hf H2 dd (g1.trans g2) hd⟩
theorem ok_needUX {f fN fU C : Addr} {fd fdN fdU : FuncData} {k : Nat} (F : Fun K "need_user" "need_user" sNeedU f fd) (HN : Has P w K mg base k "need_face" ["face"] (spGood K .non) fN fdN) (HU : HasX P w K mg base k "refuse_no_user" ["face", "user"] (spNUX K C) fU fdU) :
    FnOk P w K mg base (L2.CX P w) (k + 1) f fd ["face", "user"] (spNUX K C) := by
  refine F.okX scNeedU (fun vs H Q E h => ?_) (fun cdv A outer s H vs Q E hr h => ?_)
  · obtain ⟨x, y, f, d, rfl, _⟩ := h
    rfl
  · obtain ⟨x, y, f, d, rfl, hx, go, hy, qn, qs⟩ := h
    refine ⟨_, pss_cons (ps_expr (hcall HN hr (pa_cons (pv 0) pa_nil))) (pss_one (ps_expr (pe_call HU.ok hr (by rfl) HU.at_ HU.kp HU.bd .nil (passes_call (takes_of (E := E) rfl rfl rfl rfl) (fun _ _ _ _ h => h)) (pa_cons (pv 0) (pa_cons (pv 1) pa_nil))))), ?_⟩
    exact ⟨_, rfl, x, f, rfl, hx, go, fun H1 g1 => ⟨_, rfl, _, rfl, x, y, f, d, rfl, g1.kd.dp hx, go, g1.kx.dx hy, fun hf H2 g2 => qn hf H2 (g1.trans g2), fun a b hf => (qs a b hf).gr g1⟩⟩
theorem ok_isU {f fN fU : Addr} {fd fdN fdU : FuncData} {k : Nat} (F : Fun K "is_user" "is_user" sIsUser f fd) (HN : Has P w K mg base k "need_face" ["face"] (spGood K .non) fN fdN) (HU : Has P w K mg base k "user_fault" ["face", "thing"] (spUFD K) fU fdU) :
    FnOk P w K mg base CX0 (k + 1) f fd ["face", "thing"] (spIsU K) := by
  refine F.ok scIsU (fun vs H Q E h => ?_) (fun cdv A outer s H vs Q E hr h => ?_)
  · obtain ⟨x, y, f, d, rfl, _⟩ := h
    rfl
  · obtain ⟨x, y, f, d, rfl, hx, go, hy, q⟩ := h
    refine ⟨_, pss_cons (ps_expr (hcall HN hr (pa_cons (pv 0) pa_nil))) (pss_one (ps_ret (pe_cmpR op_isN (hcall HU hr (pa_cons (pv 0) (pa_cons (pv 1) pa_nil))) pe_non (nomark _)))), ?_⟩
    refine ⟨_, rfl, x, f, rfl, hx, go, fun H1 g1 => ⟨_, rfl, _, rfl, x, y, f, d, rfl, g1.kd.dp hx, go, g1.kx.dx hy, fun hf H2 g2 => ?_, fun a b hf H2 t g2 ht => ?_⟩⟩
    · have q' := q H2 (g1.trans g2)
      rw [hf] at q'
      exact ⟨rfl, q'⟩
    · have q' := q H2 (g1.trans g2)
      rw [hf] at q'
      exact ⟨rfl, q'⟩
end
end SfC
namespace SfC
open PySem PySem.Spec PyProof.Rows L2 SfG
/-! ### what has no fault is a user -/
theorem may_ok {gv : List Kn} {d : PyData} {k : Kn} (h : mayD gv d k = true) : ∃ n : Nat, d = .int (n : Nat) ∧ okH gv k n := by
  cases d with
  | int i =>
    cases k with
    | p b =>
      have h' : (decide (0 ≤ i) && decide (i ≤ b - 1)) = true := h
      rw [Bool.and_eq_true, decide_eq_true_eq, decide_eq_true_eq] at h'
      refine ⟨i.toNat, ?_, ?_⟩
      · rw [Int.toNat_of_nonneg h'.1]
      · show ((i.toNat : Nat) : Int) < b
        omega
    | h z =>
      have h' : (decide (0 ≤ i) && decide (gv[i.toNat]? = some (.h z))) = true := h
      rw [Bool.and_eq_true, decide_eq_true_eq, decide_eq_true_eq] at h'
      refine ⟨i.toNat, ?_, h'.2⟩
      rw [Int.toNat_of_nonneg h'.1]
  | _ => cases h
theorem fbp_fits {gv : List Kn} : ∀ {ks : List Kn} {ds : List PyData} {i : Nat}, ds.length = ks.length → fbpD gv ks ds i = none → ∃ hs, ds = hsD hs ∧ Fits gv ks hs
  | [], [], _, _, _ => ⟨[], rfl, .nil⟩
  | [], _ :: _, _, hl, _ => by
    rw [List.length_cons] at hl
    cases hl
  | _ :: _, [], _, hl, _ => by
    rw [List.length_cons] at hl
    cases hl
  | k :: ks, d :: ds, i, hl, h => by
    rw [fbpD] at h
    cases hm : mayD gv d k with
    | false =>
      rw [if_neg (by rw [hm]; decide)] at h
      cases h
    | true =>
      rw [if_pos hm] at h
      obtain ⟨n, rfl, ok⟩ := may_ok hm
      rw [List.length_cons, List.length_cons] at hl
      obtain ⟨hs, rfl, fit⟩ := fbp_fits (Nat.succ.inj hl) h
      exact ⟨n :: hs, rfl, .cons ok fit⟩
theorem rows_good {f : Fc} : ∀ {ds : List PyData} {i : Nat} {gv : List Kn}, rowsF' f ds i gv = none → ∃ u : List Ur, ds = u.map Ur.d ∧ ∀ j r, u[j]? = some r → r.e ∈ f.ds ∧ Fits (gv ++ (gvs u).take j) r.e.tk r.hs
  | [], _, _, _ => ⟨[], rfl, fun j r hr => by simp at hr⟩
  | d :: ds, i, gv, h => by
    rw [rowsF'] at h
    cases hd : dorD f d with
    | none =>
      rw [hd] at h
      cases h
    | some eh =>
      obtain ⟨e, hs⟩ := eh
      rw [hd] at h
      dsimp only at h
      obtain ⟨rfl, hm, hl⟩ := dor_some hd
      cases hb : fbpD gv e.tk hs 0 with
      | some j =>
        rw [hb] at h
        cases h
      | none =>
        rw [hb] at h
        dsimp only at h
        obtain ⟨ns, rfl, fit⟩ := fbp_fits hl hb
        obtain ⟨u, rfl, hu⟩ := rows_good h
        refine ⟨⟨e, ns⟩ :: u, rfl, fun j r hr => ?_⟩
        match j, hr with
        | 0, hr =>
          cases hr
          refine ⟨hm, ?_⟩
          rw [List.take_zero, List.append_nil]
          exact fit
        | j + 1, hr =>
          have hr' : u[j]? = some r := by simpa using hr
          obtain ⟨h1, h2⟩ := hu j r hr'
          refine ⟨h1, ?_⟩
          have e1 : gv ++ (gvs (Ur.mk e ns :: u)).take (j + 1) = (gv ++ [e.gv]) ++ (gvs u).take j := by
            rw [List.append_assoc]
            rfl
          rw [e1]
          exact h2
theorem flt_user {f : Fc} {d : PyData} (h : fltU f d = none) : ∃ u, d = usD u ∧ GoU f u := by
  cases d with
  | tuple ds =>
    have h' : (if 1 ≤ ds.length ∧ ds.length ≤ 200 then (rowsF' f ds 0 []).map (fun p => ((some p.1 : Option Nat), p.2)) else some (none, none)) = none := h
    by_cases c : 1 ≤ ds.length ∧ ds.length ≤ 200
    · rw [if_pos c] at h'
      have hr : rowsF' f ds 0 [] = none := by
        cases hr : rowsF' f ds 0 [] with
        | none => rfl
        | some p =>
          rw [hr] at h'
          cases h'
      obtain ⟨u, rfl, hu⟩ := rows_good hr
      rw [List.length_map] at c
      exact ⟨u, rfl, c.1, c.2, fun i r hi => by
        obtain ⟨h1, h2⟩ := hu i r hi
        rw [List.nil_append] at h2
        exact ⟨h1, h2⟩⟩
    · rw [if_neg c] at h'
      cases h'
  | _ => cases h
end SfC
namespace SfC
open PySem PySem.Spec PyProof.Rows L2 SfG
/-! ### users as texts -/
def retSc : List Stmt → Scope
  | [.Return (some (.ListComp _ _ sc _)) _] => sc
  | _ => defScope sURows
abbrev nURows : List Str := ["user", "name", "handed", "thing"]
theorem scURows : FnScope nURows ["user"] (defScope sURows) := ⟨rfl, rfl, rfl, by decide +kernel, rfl, by decide +kernel, by decide +kernel⟩
theorem scUText : FnScope ["face", "user"] ["face", "user"] (defScope sUText) := ⟨rfl, rfl, rfl, by decide +kernel, rfl, by decide +kernel, by decide +kernel⟩
theorem tYes_i {σ : L2.St} {H : Hp} {Q : Bool → Hp → Prop} (h : Q true H) : tYes σ H Q := h
def rJoin (K : PySem.W.Frag) : V → List V → Hp → VK → Prop := fun x xs H Q => ∃ a p, ∃ ys : List Str, x = .str a ∧ xs = [.ref p] ∧ (SqL K H p (ys.map V.str) ∨ SqT K H p (ys.map V.str)) ∧ (ys.map (·.length)).sum + ys.length * a.length ≤ 16777216 ∧ Q (.str (Txt.join a ys)) H
def numS (n : Nat) : Str := ((toString ((n : Nat) : Int) : String) : Str)
def numB (n : Nat) : Bool := decide (1 ≤ (numS n).length) && (decide ((numS n).length ≤ 3) && ((numS n).cps.toList.all (fun c => decide (48 ≤ c) && decide (c ≤ 57)) && (Txt.isdigit (numS n) && (Txt.isascii (numS n) && (decide (PySem.intText? (numS n) = some (n : Int)) && ((!decide ((numS n).cps[0]? = some 48)) || decide (numS n = "0")))))))
theorem num_all : ∀ n, n < 200 → numB n = true := by decide +kernel
structure NumOk (n : Nat) : Prop where
  lo : 1 ≤ (numS n).length
  hi : (numS n).length ≤ 3
  fig : ∀ c ∈ (numS n).cps.toList, 48 ≤ c ∧ c ≤ 57
  dig : Txt.isdigit (numS n) = true
  asc : Txt.isascii (numS n) = true
  int : PySem.intText? (numS n) = some (n : Int)
  nul : (numS n).cps[0]? ≠ some 48 ∨ numS n = "0"
theorem num_ok {n : Nat} (h : n < 200) : NumOk n := by
  have e := num_all n h
  unfold numB at e
  simp only [Bool.and_eq_true, Bool.or_eq_true, Bool.not_eq_true', decide_eq_true_eq, decide_eq_false_iff_not, List.all_eq_true] at e
  obtain ⟨a, b, c, d, f, g, i⟩ := e
  exact ⟨a, b, c, d, f, g, i⟩
theorem clean_num {n : Nat} (h : n < 200) : clean (numS n) := by
  have o := num_ok h
  refine ⟨o.lo, Nat.le_trans o.hi (by decide), fun c hc => ?_⟩
  have := o.fig c hc
  omega
def wsU (r : Ur) : List Str := r.e.nm :: r.hs.map numS
def rowU (r : Ur) : Str := Txt.join blank (wsU r)
def rowsU (u : List Ur) : List Str := u.map rowU
def textU (u : List Ur) : Str := Txt.join feed (rowsU u)
/-- rows that may be written -/
structure RowG (r : Ur) : Prop where
  nm : isN r.e.nm = true
  len : r.hs.length ≤ 3
  num : ∀ h ∈ r.hs, h < 200
theorem GoU.row {f : Fc} {u : List Ur} (go : goF f) (gu : GoU f u) {i : Nat} {r : Ur} (h : u[i]? = some r) : RowG r := by
  obtain ⟨hm, fit⟩ := gu.ok i r h
  have gd := go.ok r.e hm
  refine ⟨gd.nm, by rw [← fit.len]; exact gd.len, fun x hx => ?_⟩
  obtain ⟨j, hj⟩ := List.mem_iff_getElem?.mp hx
  have jl : j < r.e.tk.length := by rw [fit.len]; exact lt_of_at hj
  obtain ⟨y, hy, ok⟩ := fit.at (List.getElem?_eq_getElem jl)
  have e : x = y := Option.some.inj (hj.symm.trans hy)
  rw [e]
  refine okH_lt (gd.tk _ (List.getElem_mem jl)) ?_ ok
  rw [List.length_take]
  unfold gvs
  rw [List.length_map]
  have := gu.hi
  omega
theorem RowG.clean {r : Ur} (g : RowG r) : ∀ z ∈ wsU r, clean z := by
  intro z hz
  rcases List.mem_cons.mp hz with rfl | hz
  · exact clean_name g.nm
  · obtain ⟨h, hh, rfl⟩ := List.mem_map.mp hz
    exact clean_num (g.num h hh)
theorem RowG.wlen {r : Ur} (g : RowG r) : (wsU r).length ≤ 4 := by
  show (r.hs.map numS).length + 1 ≤ 4
  rw [List.length_map]
  have := g.len
  omega
theorem sum_len : ∀ {ws : List Str} {m : Nat}, (∀ z ∈ ws, z.length ≤ m) → (ws.map (·.length)).sum ≤ ws.length * m
  | [], _, _ => by simp
  | a :: r, m, h => by
    rw [List.map_cons, List.sum_cons, List.length_cons, Nat.succ_mul]
    have h1 := h a List.mem_cons_self
    have h2 := sum_len fun z hz => h z (List.mem_cons_of_mem _ hz)
    omega
theorem RowG.rlen {r : Ur} (g : RowG r) : (rowU r).length ≤ 36 := by
  have a := row_len g.clean
  have b := g.wlen
  unfold rowU
  omega
theorem rowsU_at {u : List Ur} {i : Nat} {r : Ur} (h : u[i]? = some r) : (rowsU u)[i]? = some (rowU r) := by
  unfold rowsU
  rw [List.getElem?_map, h]
  rfl
theorem rowsU_all {f : Fc} {u : List Ur} (go : goF f) (gu : GoU f u) : ∀ z ∈ rowsU u, ∃ r, RowG r ∧ z = rowU r := by
  intro z hz
  obtain ⟨r, hr, rfl⟩ := List.mem_map.mp hz
  obtain ⟨i, hi⟩ := List.mem_iff_getElem?.mp hr
  exact ⟨r, gu.row go hi, rfl⟩
theorem rowsU_len (u : List Ur) : (rowsU u).length = u.length := List.length_map _
theorem rowsU_sum {f : Fc} {u : List Ur} (go : goF f) (gu : GoU f u) : ((rowsU u).map (·.length)).sum ≤ 7200 := by
  have a := sum_len (ws := rowsU u) (m := 36) fun z hz => by
    obtain ⟨r, g, rfl⟩ := rowsU_all go gu z hz
    exact g.rlen
  have b := gu.hi
  rw [rowsU_len] at a
  have : u.length * 36 ≤ 200 * 36 := Nat.mul_le_mul_right _ b
  omega
theorem textU_len {f : Fc} {u : List Ur} (go : goF f) (gu : GoU f u) : (textU u).length ≤ 7400 := by
  have a := join_len feed (by decide +kernel) (m := 36) (ws := rowsU u) fun z hz => by
    obtain ⟨r, g, rfl⟩ := rowsU_all go gu z hz
    exact g.rlen
  have b := gu.hi
  rw [rowsU_len] at a
  have : u.length * (36 + 1) ≤ 200 * 37 := Nat.mul_le_mul_right _ b
  unfold textU
  omega
section
variable {P : Program} {w : World} {K : PySem.W.Frag} {mg : Str → Option Value} {base : Heap}
def spURows (K : PySem.W.Frag) : Sp := fun vs H Q _ => ∃ (y : V) (u : List Ur), vs = [y] ∧ Dp K H y (usD u) ∧ u.length ≤ 200 ∧ (∀ r ∈ u, RowG r) ∧ ∀ H' p, Gr H H' → H' p = some (.lst ((rowsU u).map V.str)) → Q (.ref p) H'
set_option maxHeartbeats 1000000 in
theorem ok_urows {f : Addr} {fd : FuncData} {k : Nat} (F : Fun K "user_rows" "user_rows" sURows f fd) (m1 : mg "str" = none) : FnOk P w K mg base CX0 (k + 1) f fd ["user"] (spURows K) := by
  refine F.ok scURows (fun vs H Q E h => ?_) (fun cdv A outer s H vs Q E hr h => ?_)
  · obtain ⟨y, u, rfl, _⟩ := h
    rfl
  · obtain ⟨y, u, rfl, hy, hl, hg, q⟩ := h
    have nd := scURows.nd
    refine' ⟨_, pss_one ?s1, ?rd⟩
    case s1 =>
      exact ps_ret (pe_lc (own := [("name", 1), ("handed", 2)]) (g := gTup K 2 (gCons (gName 1) (gCons (gName 2) gNil))) rfl nd (pi_tup (pv 0)) (blkOk_by (own := [("name", 1), ("handed", 2)]) (N := nURows) (sc := defScope sURows) (by decide +kernel))
        (fun _ _ _ _ _ => pg_tup rfl (pgs_cons (pg_name (i := 1) nd rfl (.inl rfl)) (pgs_cons (pg_name (i := 2) nd rfl (.inl rfl)) pgs_nil))) (fun _ _ _ _ _ => pts_nil)
        (fun _ _ _ _ _ => pe_m1 (r := rJoin K) PySem.F.slot_str_join PySem.F.type_str_join mt_join pe_str (pe_op op_cat (pe_lst (pa_cons (pv 1) pa_nil)) (pe_lc (own := [("thing", 3)]) (wi := iTup K (tVar 2)) (g := gName 3) rfl nd (pi_tup (pv 2)) (blkOk_by (own := [("thing", 3)]) (N := nURows) (sc := retSc (defBody sURows)) (by decide +kernel))
          (fun _ _ _ _ _ => pg_name (i := 3) nd rfl (.inl rfl)) (fun _ _ _ _ _ => pts_nil) (fun _ _ _ _ _ => pe_callTy call_str_int (by rfl) m1 (by decide +kernel) (pa_cons (pv 3) pa_nil))))))
    case rd =>
    obtain ⟨p, xs, rfl, hp, hxs⟩ := dp_tup hy
    have lx : xs.length = u.length := by
      have := dpA_len hxs
      rw [List.length_map] at this
      exact this
    refine ⟨_, rfl, p, rfl, ⟨_, hp⟩, fun D nD => ?_⟩
    refine lc_it (walk_tup (xs := xs)) (fun i H2 => H2 D = some (.lst (((rowsU u).take i).map V.str)) ∧ Gr H H2) ⟨upd_same, Gr.new nD⟩ ?c0 ?c1 ?c2
    case c0 =>
      rintro i H2 hi ⟨e2, g2⟩
      exact g2.sqt hp
    case c1 =>
      rintro i y H2' H2 hi ⟨e2, g2⟩ ⟨rfl, hy⟩
      have iu : i < u.length := by omega
      have hu : u[i]? = some u[i] := List.getElem?_eq_getElem iu
      obtain ⟨b', hb', db⟩ := dpA_map hxs hu
      have : y = b' := Option.some.inj (hy.symm.trans hb')
      subst this
      have ru := rowsU_at hu
      have gr := hg _ (List.getElem_mem iu)
      generalize u[i] = r at hu db ru gr
      obtain ⟨pr, qr, rfl, hpr, hqr⟩ := dp_ur (g2.kd.dp db)
      refine ⟨pr, _, rfl, hpr, rfl, _, _, rfl, _, _, rfl, rfl, ?_⟩
      refine ⟨rfl, ?_⟩
      refine tYes_i ?_
      refine iteT ⟨⟨_, rfl⟩, _, rfl, by show 1 ≤ sizeLine; decide, fun wl nwl => ?_⟩
      have g3 : Gr H2 (upd H2 wl (.lst [.str r.e.nm])) := Gr.new nwl
      have e3 : upd H2 wl (.lst [.str r.e.nm]) wl = some (.lst [.str r.e.nm]) := upd_same
      generalize upd H2 wl (.lst [.str r.e.nm]) = H3 at g3 e3 ⊢
      refine ⟨_, rfl, qr, rfl, ⟨_, g3.sqt hqr⟩, fun D2 nD2 => ?_⟩
      refine lc_it (walk_tup (xs := hsV r.hs)) (fun j H4 => H4 D2 = some (.lst (((r.hs.take j).map numS).map V.str)) ∧ Gr H3 H4) ⟨upd_same, Gr.new nD2⟩ ?d0 ?d1 ?d2
      case d0 =>
        rintro j H4 hj ⟨_, g4⟩
        exact (g3.trans g4).sqt hqr
      case d1 =>
        rintro j z H4' H4 hj ⟨e4, g4⟩ ⟨rfl, hz⟩
        replace hz : (hsV r.hs)[j]? = some z := hz
        unfold hsV at hz
        rw [List.getElem?_map] at hz
        obtain ⟨h, hh, rfl⟩ := Option.map_eq_some_iff.mp hz
        have lh := gr.num h (List.mem_of_getElem? hh)
        refine ⟨rfl, ?_⟩
        unfold tYes
        refine iteT ⟨_, rfl, _, rfl, ?_, ?_⟩
        · by_cases z0 : h = 0
          · subst z0
            decide
          · refine Nat.lt_of_lt_of_le ((Nat.log2_lt (k := 10) (by show ((h : Nat) : Int).natAbs ≠ 0; omega)).mpr ?_) (by decide)
            have : (2 : Nat) ^ 10 = 1024 := by decide
            omega
        · refine ⟨_, e4, ?_, upd_same.trans ?_, g4.upd_new nD2⟩
          · rw [List.length_map, List.length_map, List.length_take]
            have := gr.len
            exact small1000 (by omega)
          · rw [List.take_add_one, hh, List.map_append, List.map_append]
            rfl
      case d2 =>
      rintro H4 ⟨e4, g4⟩
      rw [hsV_len, List.take_length] at e4
      refine ⟨wl, D2, _, _, rfl, rfl, g4.lst e3, e4, ?_, fun cl ncl => ?_⟩
      · rw [List.length_map, List.length_map]
        have := gr.len
        show 1 + r.hs.length ≤ sizeLine
        exact Nat.le_of_lt (small1000 (by omega))
      have g5 : Gr H4 (upd H4 cl (.lst ((wsU r).map V.str))) := Gr.new ncl
      refine ⟨blank, cl, wsU r, rfl, rfl, .inl (.inl (.inl upd_same)), ?_, ?_⟩
      · have a := sum_len (ws := wsU r) (m := 8) fun z hz => (gr.clean z hz).2.1
        have b := gr.wlen
        have c : blank.length = 1 := by decide +kernel
        rw [c]
        omega
      · refine ⟨_, g5.lst (g4.lst (g3.lst e2)), ?_, upd_same.trans ?_, (g2.trans (g3.trans (g4.trans g5))).upd_new nD⟩
        · rw [List.length_map, List.length_take]
          exact small1000 (by omega)
        · rw [List.take_add_one, ru, List.map_append]
          rfl
    case c2 =>
    rintro H2 ⟨e2, g2⟩
    rw [lx, ← rowsU_len u, List.take_length] at e2
    exact q H2 D g2 e2
theorem dx_dpA {K : PySem.W.Frag} {H : Hp} : ∀ {hs : List Nat} {xs : List V}, DxA K H xs (hsD hs) → DpAll K H xs (hsD hs)
  | [], _, h => by
    cases h
    exact .nil
  | a :: r, _, h => by
    cases h with
    | cons hx ht =>
      cases hx
      exact .cons (.int _) (dx_dpA ht)
theorem dx_dpU {K : PySem.W.Frag} {H : Hp} : ∀ {u : List Ur} {xs : List V}, DxA K H xs (u.map Ur.d) → DpAll K H xs (u.map Ur.d)
  | [], _, h => by
    cases h
    exact .nil
  | a :: r, _, h => by
    cases h with
    | cons hx ht =>
      obtain ⟨p, ys, rfl, hp, hys⟩ := dx_tup hx
      cases hys with
      | cons h1 t =>
        cases t with
        | cons h2 t2 =>
          cases t2
          cases dx_str h1
          obtain ⟨p2, zs, rfl, hp2, h3⟩ := dx_tup h2
          exact .cons (.tup hp (.cons (.str _) (.cons (.tup hp2 (dx_dpA h3)) .nil))) (dx_dpU ht)
theorem dx_dpUs {K : PySem.W.Frag} {H : Hp} {v : V} {u : List Ur} (h : Dx K H v (usD u)) : Dp K H v (usD u) := by
  obtain ⟨p, xs, rfl, hp, hxs⟩ := dx_tup h
  exact .tup hp (dx_dpU hxs)
def spUTX (K : PySem.W.Frag) (C : Addr) : Sp := fun vs H Q E => ∃ (x y : V) (f : Fc) (d : PyData), vs = [x, y] ∧ Dp K H x f.d ∧ goF f ∧ Dx K H y d ∧ (∀ u, d = usD u → GoU f u → ∀ H', Gr H H' → Q (.str (textU u)) H') ∧ (∀ a b, fltU f d = some (a, b) → Ru E C H a b)
theorem ok_utextX {f fN fR C : Addr} {fd fdN fdR : FuncData} {k : Nat} (F : Fun K "user_text" "user_text" sUText f fd) (HN : HasX P w K mg base k "need_user" ["face", "user"] (spNUX K C) fN fdN) (HR : Has P w K mg base k "user_rows" ["user"] (spURows K) fR fdR) :
    FnOk P w K mg base (L2.CX P w) (k + 1) f fd ["face", "user"] (spUTX K C) := by
  refine F.okX scUText (fun vs H Q E h => ?_) (fun cdv A outer s H vs Q E hr h => ?_)
  · obtain ⟨x, y, f, d, rfl, _⟩ := h
    rfl
  · obtain ⟨x, y, f, d, rfl, hx, go, hy, q, qe⟩ := h
    refine ⟨_, pss_cons (ps_expr (pe_call HN.ok hr (by rfl) HN.at_ HN.kp HN.bd .nil (passes_call (takes_of (E := E) rfl rfl rfl rfl) (fun _ _ _ _ h => h)) (pa_cons (pv 0) (pa_cons (pv 1) pa_nil)))) (pss_one (ps_ret (pe_join pe_str (hcall HR hr (pa_cons (pv 1) pa_nil))))), ?_⟩
    refine ⟨_, rfl, _, rfl, x, y, f, d, rfl, hx, go, hy, fun hf H1 g1 => ?_, qe⟩
    obtain ⟨u, rfl, gu⟩ := flt_user hf
    refine ⟨⟨_, rfl⟩, _, rfl, y, u, rfl, dx_dpUs (g1.kx.dx hy), gu.hi, ?_, fun H2 p g2 hp => ?_⟩
    · intro r hr
      obtain ⟨i, hi⟩ := List.mem_iff_getElem?.mp hr
      exact gu.row go hi
    · refine ⟨feed, p, rowsU u, rfl, rfl, .inl (.inl (.inl hp)), ?_, q u rfl gu H2 (g1.trans g2)⟩
      have a := rowsU_sum go gu
      have b := gu.hi
      have c : feed.length = 1 := by decide +kernel
      rw [c, rowsU_len]
      omega
end
end SfC
namespace SfC
open PySem PySem.Spec PyProof.Rows L2 SfG
/-! ### kind_told -/
theorem scKindTold : FnScope ["face", "user"] ["face", "user"] (defScope sKindTold) := ⟨rfl, rfl, rfl, by decide +kernel, rfl, by decide +kernel, by decide +kernel⟩
section
variable {P : Program} {w : World} {K : PySem.W.Frag} {mg : Str → Option Value} {base : Heap}
/-- the kind of the last row is told -/
def spKTX (K : PySem.W.Frag) (C : Addr) : Sp := fun vs H Q E => ∃ (x y : V) (f : Fc) (d : PyData), vs = [x, y] ∧ Dp K H x f.d ∧ goF f ∧ Dx K H y d ∧ (∀ u r, d = usD u → GoU f u → u[u.length - 1]? = some r → ∀ H', Gr H H' → Q r.e.gv.v H') ∧ (∀ a b, fltU f d = some (a, b) → Ru E C H a b)
theorem atI_lastW {xs : List V} {v : V} (h : xs[xs.length - 1]? = some v) : atI xs (-1) = some v := by
  rcases List.eq_nil_or_concat xs with rfl | ⟨l, b, rfl⟩
  · simp at h
  · rw [List.concat_eq_append] at h ⊢
    have e : (l ++ [b])[(l ++ [b]).length - 1]? = some b := by
      rw [List.length_append]
      show (l ++ [b])[l.length + 1 - 1]? = some b
      rw [Nat.add_sub_cancel, List.getElem?_append_right (Nat.le_refl _), Nat.sub_self]
      rfl
    rw [e] at h
    cases h
    exact atI_last _ _
theorem ok_kindToldX {f fN fF C : Addr} {fd fdN fdF : FuncData} {k : Nat} (F : Fun K "kind_told" "kind_told" sKindTold f fd) (HN : HasX P w K mg base k "need_user" ["face", "user"] (spNUX K C) fN fdN) (HF : Has P w K mg base k "find_deed" ["face", "name"] (spFind K) fF fdF) :
    FnOk P w K mg base (L2.CX P w) (k + 1) f fd ["face", "user"] (spKTX K C) := by
  refine F.okX scKindTold (fun vs H Q E h => ?_) (fun cdv A outer s H vs Q E hr h => ?_)
  · obtain ⟨x, y, f, d, rfl, _⟩ := h
    rfl
  · obtain ⟨x, y, f, d, rfl, hx, go, hy, q, qe⟩ := h
    refine ⟨_, pss_cons (ps_expr (pe_call HN.ok hr (by rfl) HN.at_ HN.kp HN.bd .nil (passes_call (takes_of (E := E) rfl rfl rfl rfl) (fun _ _ _ _ h => h)) (pa_cons (pv 0) (pa_cons (pv 1) pa_nil))))
      (pss_one (ps_ret (pe_ix ix_tup (pe_ix ix_tup (pe_ix ix_tup (pv 0) pe_int (fun _ _ => rfl)) (hcall HF hr (pa_cons (pv 0) (pa_cons (pe_ix ix_tup (pe_ix ix_tup (pv 1) (pe_un un_neg pe_int) (fun _ _ => rfl)) pe_int (fun _ _ => rfl)) pa_nil))) (fun _ _ => rfl)) pe_int (fun _ _ => rfl)))), ?_⟩
    refine ⟨_, rfl, _, rfl, x, y, f, d, rfl, hx, go, hy, fun hf H1 g1 => ?_, qe⟩
    obtain ⟨u, rfl, gu⟩ := flt_user hf
    have dy := dx_dpUs (g1.kx.dx hy)
    have lo := gu.lo
    have hr0 : u[u.length - 1]? = some (u[u.length - 1]'(by omega)) := List.getElem?_eq_getElem _
    generalize u[u.length - 1]'(by omega) = r at hr0
    obtain ⟨p, xs, rfl, hp, hxs⟩ := dp_tup dy
    have lx : xs.length = u.length := by
      have := dpA_len hxs
      rw [List.length_map] at this
      exact this
    obtain ⟨v, hv, dv⟩ := dpA_map hxs hr0
    obtain ⟨pr, qr, rfl, hpr, hqr⟩ := dp_ur dv
    obtain ⟨pf, ph, pd, fxs, rfl, hpf, hph, hpd, dd⟩ := dp_face (g1.kd.dp hx)
    obtain ⟨hm, _⟩ := gu.ok _ r hr0
    obtain ⟨i, hi⟩ := List.mem_iff_getElem?.mp hm
    obtain ⟨ve, hve, de⟩ := dpA_map dd hi
    have hlast : atI xs (-1) = some (.ref pr) := atI_lastW (by rw [lx]; exact hv)
    refine ⟨_, rfl, pf, _, 1, _, rfl, rfl, hpf, rfl, _, rfl, _, rfl, ?_⟩
    refine ⟨1, rfl, p, xs, -1, .ref pr, rfl, rfl, hp, hlast, ?_⟩
    refine ⟨pr, _, 0, .str r.e.nm, rfl, rfl, hpr, rfl, ?_⟩
    refine ⟨_, _, f, "str", rfl, g1.kd.dp hx, is_str _, .inl ⟨_, r.e, i, rfl, hi, rfl, go.up, fun H2 g2 => ?_⟩⟩
    refine ⟨pd, _, _, ve, rfl, rfl, g2.sqt hpd, atI_nat hve, ?_⟩
    obtain ⟨pe, n1, t1, v1, rfl, hpe, dn, dt, dg⟩ := dp_3 (g2.kd.dp de)
    cases dp_kn dg
    exact ⟨pe, _, 2, _, rfl, rfl, hpe, rfl, q u r rfl gu hr0 H2 (g1.trans g2)⟩
end
end SfC
namespace SfC
open PySem PySem.Spec PyProof.Rows L2 SfG
/-! ### draws by a script: the state m, the rest of the cells r, the script a -/
/-- heaps in a turn: m and r are changed, all else grows -/
structure G2 (m r : Addr) (H H' : Hp) : Prop where
  keep : ∀ b o, b ≠ m → b ≠ r → H b = some o → (∀ ps, o ≠ .tbl ps) → H' b = some o
  tab : ∀ P, P ≠ m → P ≠ r → GxR.TabG H P → GxR.TabG H' P
  back : ∀ l, l ≠ m → l ≠ r → H' l = none → H l = none
theorem G2.refl (m r : Addr) (H : Hp) : G2 m r H H := ⟨fun _ _ _ _ h _ => h, fun _ _ _ h => h, fun _ _ _ h => h⟩
theorem G2.gr {m r : Addr} {H H' : Hp} (g : Gr H H') : G2 m r H H' := ⟨fun b o _ _ => g.keep b o, fun P _ _ => g.tab P, fun l _ _ => g.back l⟩
theorem G2.but {m r : Addr} {H H' : Hp} (g : ∀ b, b ≠ m → b ≠ r → H' b = H b) : G2 m r H H' := by
  refine ⟨fun b o n1 n2 h _ => (g b n1 n2).trans h, ?_, fun l n1 n2 h => (g l n1 n2).symm.trans h⟩
  rintro P n1 n2 ⟨ps, h1, h2⟩
  exact ⟨ps, (g P n1 n2).trans h1, h2⟩
theorem G2.trans {m r : Addr} {H H1 H2 : Hp} (a : G2 m r H H1) (b : G2 m r H1 H2) : G2 m r H H2 :=
  ⟨fun c o n1 n2 h t => b.keep c o n1 n2 (a.keep c o n1 n2 h t) t, fun P n1 n2 h => b.tab P n1 n2 (a.tab P n1 n2 h), fun l n1 n2 h => a.back l n1 n2 (b.back l n1 n2 h)⟩
theorem G2.lst {m r : Addr} {H H' : Hp} (g : G2 m r H H') {b : Addr} {xs : List V} (n1 : b ≠ m) (n2 : b ≠ r) (h : H b = some (.lst xs)) : H' b = some (.lst xs) := g.keep b _ n1 n2 h (fun _ z => by cases z)
/-- what was there ahead of both grows -/
theorem G2.out {m r : Addr} {H0 H H' : Hp} (g : Gr H0 H) (h1 : H0 m = none) (h2 : H0 r = none) (a : G2 m r H H') : Gr H0 H' := by
  refine ⟨?_, ?_, ?_⟩
  · intro b o e t
    exact a.keep b o (ne_of_none e h1) (ne_of_none e h2) (g.keep b o e t) t
  · intro P t
    have n1 : P ≠ m := by
      obtain ⟨ps, e, _⟩ := t
      exact ne_of_none e h1
    have n2 : P ≠ r := by
      obtain ⟨ps, e, _⟩ := t
      exact ne_of_none e h2
    exact a.tab P n1 n2 (g.tab P t)
  · intro l e
    by_cases z1 : l = m
    · rw [z1]
      exact h1
    · by_cases z2 : l = r
      · rw [z2]
        exact h2
      · exact g.back l (a.back l z1 z2 e)
theorem G2.upd_new {m r q : Addr} {H0 H : Hp} {o : HO} (g : G2 m r H0 H) (h : H0 q = none) : G2 m r H0 (upd H q o) := by
  refine ⟨?_, ?_, ?_⟩
  · intro b u n1 n2 e n
    rw [upd_ne (ne_of_none e h)]
    exact g.keep b u n1 n2 e n
  · intro P n1 n2 t
    have np : P ≠ q := by
      obtain ⟨ps, e, _⟩ := t
      exact ne_of_none e h
    obtain ⟨ps, e1, e2⟩ := g.tab P n1 n2 t
    exact ⟨ps, (upd_ne np).trans e1, e2⟩
  · intro l n1 n2 e
    by_cases z : l = q
    · rw [z]
      exact h
    · rw [upd_ne z] at e
      exact g.back l n1 n2 e
/-- where the script lies: in the heap, or in what stood there ahead of all -/
inductive Src where
  | here (a : Addr)
  | ahead (a : Addr)
def Src.ad : Src → Addr
  | .here a => a
  | .ahead a => a
def Src.off (q : Addr) : Src → Prop
  | .here a => q ≠ a
  | .ahead _ => True
def SqA (K : PySem.W.Frag) (H : Hp) (m r : Addr) (xs : List V) : Src → Prop
  | .here a => Rd H a (.lst xs) ∧ m ≠ a ∧ r ≠ a
  | .ahead a => ∃ (o : Obj) (its : Array Value) (n : Nat), K.lookup a = some o ∧ o.cls = .type "list" ∧ o.dict = none ∧ o.data = .seq its n ∧ its.size ≤ sizeLine ∧ Vals xs its.toList
theorem SqA.sql {K : PySem.W.Frag} {H : Hp} {m r : Addr} {xs : List V} : ∀ {a : Src}, SqA K H m r xs a → SqL K H a.ad xs
  | .here _, h => .inl h.1
  | .ahead _, h => .inr h
theorem SqA.keep {K : PySem.W.Frag} {H H' : Hp} {m r : Addr} {xs : List V} (g : ∀ b o, b ≠ m → b ≠ r → H b = some o → (∀ ps, o ≠ .tbl ps) → H' b = some o) : ∀ {a : Src}, SqA K H m r xs a → SqA K H' m r xs a
  | .here a, h => by
    obtain ⟨rd, n1, n2⟩ := h
    refine ⟨?_, n1, n2⟩
    rcases rd with h | ⟨o, h⟩
    · exact .inl (g a _ (Ne.symm n1) (Ne.symm n2) h (fun _ z => by cases z))
    · exact .inr ⟨o, g a _ (Ne.symm n1) (Ne.symm n2) h (fun _ z => by cases z)⟩
  | .ahead _, h => h
theorem SqA.upd {K : PySem.W.Frag} {H : Hp} {m r q : Addr} {xs : List V} {o' : HO} : ∀ {a : Src}, SqA K H m r xs a → a.off q → SqA K (upd H q o') m r xs a
  | .here a, h, n => by
    obtain ⟨rd, n1, n2⟩ := h
    refine ⟨?_, n1, n2⟩
    rcases rd with h | ⟨o, h⟩
    · exact .inl ((upd_ne (Ne.symm n)).trans h)
    · exact .inr ⟨o, (upd_ne (Ne.symm n)).trans h⟩
  | .ahead _, h, _ => h
theorem SqA.off {K : PySem.W.Frag} {H : Hp} {m r q : Addr} {xs : List V} (e : H q = none) : ∀ {a : Src}, SqA K H m r xs a → a.off q
  | .here a, h => by
    intro z
    rcases h.1 with h | ⟨o, h⟩
    · rw [← z, e] at h
      cases h
    · rw [← z, e] at h
      cases h
  | .ahead _, _ => trivial
theorem src_of {K : PySem.W.Frag} {H : Hp} {a : Addr} {xs : List V} (h : SqL K H a xs) : ∃ s : Src, s.ad = a ∧ ∀ H' m r, Gr H H' → H m = none → H r = none → SqA K H' m r xs s := by
  rcases h with h | h
  · refine ⟨.here a, rfl, fun H' m r g n1 n2 => ?_⟩
    have ne : ∀ q, H q = none → q ≠ a := fun q e z => by
      rcases h with h | ⟨o, h⟩
      · rw [← z, e] at h
        cases h
      · rw [← z, e] at h
        cases h
    refine ⟨?_, ne m n1, ne r n2⟩
    rcases h with h | ⟨o, h⟩
    · exact .inl (g.lst h)
    · exact .inr ⟨o, g.keep _ _ h (fun _ z => by cases z)⟩
  · exact ⟨.ahead a, rfl, fun _ _ _ _ _ _ => h⟩
abbrev kScript : Key := Sum.inr ("script" : Str)
abbrev kAt : Key := Sum.inr ("at" : Str)
abbrev kRest : Key := Sum.inr ("rest" : Str)
def kvD (a : Src) (r : Addr) (k : Int) : List (Key × V) := [(kScript, .ref a.ad), (kAt, .int k), (kRest, .ref r)]
/-- the state of draws -/
structure Dr (K : PySem.W.Frag) (H : Hp) (m r : Addr) (a : Src) (cs : List Int) (B : Int) : Prop where
  st : ∃ (k : Int) (ls : List Int), H m = some (.dK (kvD a r k)) ∧ H r = some (.lst (ls.map V.int)) ∧ ls.length = cs.length ∧ (∀ l ∈ ls, 0 ≤ l) ∧ 0 ≤ k ∧ k ≤ B
  sc : SqA K H m r (cs.map V.int) a
  len : cs.length ≤ 63
theorem Dr.mr {K : PySem.W.Frag} {H : Hp} {m r : Addr} {a : Src} {cs : List Int} {B : Int} (d : Dr K H m r a cs B) : m ≠ r := by
  obtain ⟨k, ls, h1, h2, _⟩ := d.st
  intro z
  rw [z, h2] at h1
  cases h1
theorem Dr.gr {K : PySem.W.Frag} {H H' : Hp} {m r : Addr} {a : Src} {cs : List Int} {B : Int} (d : Dr K H m r a cs B) (g : Gr H H') : Dr K H' m r a cs B := by
  obtain ⟨⟨k, ls, h1, h2, h3⟩, sc, len⟩ := d
  exact ⟨⟨k, ls, g.dic h1, g.lst h2, h3⟩, sc.keep fun b o _ _ => g.keep b o, len⟩
theorem Dr.mono {K : PySem.W.Frag} {H : Hp} {m r : Addr} {a : Src} {cs : List Int} {B B' : Int} (d : Dr K H m r a cs B) (h : B ≤ B') : Dr K H m r a cs B' := by
  obtain ⟨⟨k, ls, h1, h2, h3, h4, h5, h6⟩, sc, len⟩ := d
  exact ⟨⟨k, ls, h1, h2, h3, h4, h5, Int.le_trans h6 h⟩, sc, len⟩
theorem Dr.nm {K : PySem.W.Frag} {H : Hp} {m r q : Addr} {a : Src} {cs : List Int} {B : Int} (d : Dr K H m r a cs B) (h : H q = none) : q ≠ m ∧ q ≠ r := by
  obtain ⟨k, ls, h1, h2, _⟩ := d.st
  refine ⟨fun z => ?_, fun z => ?_⟩
  · rw [z, h1] at h
    cases h
  · rw [z, h2] at h
    cases h
theorem Dr.some {K : PySem.W.Frag} {H : Hp} {m r : Addr} {a : Src} {cs : List Int} {B : Int} (d : Dr K H m r a cs B) : H m ≠ none ∧ H r ≠ none := by
  obtain ⟨k, ls, h1, h2, _⟩ := d.st
  refine ⟨fun z => ?_, fun z => ?_⟩
  · rw [h1] at z
    cases z
  · rw [h2] at z
    cases z
/-- the state stays where another, later list is changed -/
theorem Dr.upd {K : PySem.W.Frag} {H : Hp} {m r q : Addr} {a : Src} {cs : List Int} {B : Int} {o : HO} (d : Dr K H m r a cs B) (n1 : q ≠ m) (n2 : q ≠ r) (n3 : a.off q) : Dr K (upd H q o) m r a cs B := by
  obtain ⟨⟨k, ls, h1, h2, h3⟩, sc, len⟩ := d
  exact ⟨⟨k, ls, (upd_ne (Ne.symm n1)).trans h1, (upd_ne (Ne.symm n2)).trans h2, h3⟩, sc.upd n3, len⟩
theorem Dr.off {K : PySem.W.Frag} {H : Hp} {m r q : Addr} {a : Src} {cs : List Int} {B : Int} (d : Dr K H m r a cs B) (h : H q = none) : a.off q := d.sc.off h
/-- tuples stay -/
theorem Dr.kt {K : PySem.W.Frag} {H H' : Hp} {m r : Addr} {a : Src} {cs : List Int} {B : Int} (d : Dr K H m r a cs B) (g : G2 m r H H') : Kt K H H' := by
  obtain ⟨k, ls, h1, h2, _⟩ := d.st
  intro b xs h
  rcases h with (h | ⟨o, h⟩) | h
  · refine .inl (.inl (g.keep b _ (fun z => ?_) (fun z => ?_) h (fun _ z => by cases z)))
    · rw [z, h1] at h
      cases h
    · rw [z, h2] at h
      cases h
  · refine .inl (.inr ⟨o, g.keep b _ (fun z => ?_) (fun z => ?_) h (fun _ z => by cases z)⟩)
    · rw [z, h1] at h
      cases h
    · rw [z, h2] at h
      cases h
  · exact .inr h
theorem dpA_ints {K : PySem.W.Frag} {H : Hp} : ∀ ls : List Int, DpAll K H (ls.map V.int) (ls.map PyData.int)
  | [] => .nil
  | a :: r => .cons (.int _) (dpA_ints r)
theorem eqv_nil {ls : List Int} : PyData.eqv (.list (ls.map .int)) (.list []) = decide (ls = []) := by
  cases ls with
  | nil => rfl
  | cons a r => rw [decide_eq_false (by simp)]; rfl
theorem mod_at {α : Type} {xs : List α} {k : Int} (h : xs ≠ []) : ∃ j v, k % ((xs.length : Nat) : Int) = (j : Nat) ∧ xs[j]? = some v := by
  have lp : 0 < xs.length := List.length_pos_iff.mpr h
  have h0 := Int.emod_nonneg k (show ((xs.length : Nat) : Int) ≠ 0 by omega)
  have h1 := Int.emod_lt_of_pos k (show (0 : Int) < ((xs.length : Nat) : Int) by omega)
  refine ⟨(k % ((xs.length : Nat) : Int)).toNat, xs[(k % ((xs.length : Nat) : Int)).toNat]'(by omega), by omega, List.getElem?_eq_getElem _⟩
abbrev nDrw : List Str := ["_law_m", "_law_many", "_law_k", "_law_cells", "_law_left", "_law_cell", "_law_number"]
theorem scDrw : FnScope nDrw ["_law_m", "_law_many"] (defScope sDrw) := ⟨rfl, rfl, rfl, by decide +kernel, rfl, by decide +kernel, by decide +kernel⟩
theorem scOf : FnScope ["_law_m", "_law_some"] ["_law_m", "_law_some"] (defScope sOf) := ⟨rfl, rfl, rfl, by decide +kernel, rfl, by decide +kernel, by decide +kernel⟩
theorem scStarted : FnScope ["_law_script", "_law_cell"] ["_law_script"] (defScope sStarted) := ⟨rfl, rfl, rfl, by decide +kernel, rfl, by decide +kernel, by decide +kernel⟩
section
variable {P : Program} {w : World} {K : PySem.W.Frag} {mg : Str → Option Value} {base : Heap}
def spDrw (K : PySem.W.Frag) : Sp := fun vs H Q _ => ∃ (m r : Addr) (a : Src) (cs : List Int) (n B : Int), vs = [.ref m, .int n] ∧ Dr K H m r a cs B ∧ B ≤ 1000000 ∧ 0 < n ∧ n ≤ 1000000 ∧
  ∀ H' d, G2 m r H H' → Dr K H' m r a cs (B + 1) → 0 ≤ d → d < n → Q (.int d) H'
set_option maxHeartbeats 2000000 in
theorem ok_drw {f : Addr} {fd : FuncData} {k : Nat} (F : Fun K "_law_draw" "_law_draw" sDrw f fd) (ml : mg "len" = none) : FnOk P w K mg base CX0 (k + 1) f fd ["_law_m", "_law_many"] (spDrw K) := by
  refine F.ok scDrw (fun vs H Q E h => ?_) (fun cdv A outer s H vs Q E hr h => ?_)
  · obtain ⟨m, r, a, cs, n, B, rfl, _⟩ := h
    rfl
  · obtain ⟨m, r, a, cs, n, B, rfl, d0, hB, n0, n1, q⟩ := h
    have nd := scDrw.nd
    refine' ⟨_, pss_cons ?s1 (pss_cons ?s2 (pss_cons ?s3 (pss_cons ?s4 (pss_cons ?s5 (pss_cons ?s6 (pss_cons ?s7 (pss_cons ?s8 (pss_one ?s9)))))))), ?rd⟩
    case s1 => exact ps_set (i := 2) nd rfl (.inl rfl) (pe_dget (hu_of hr) (pv 0) pe_str (fun _ _ => rfl))
    case s2 => exact ps_dput (hu_of hr) (pv 0) pe_str (pe_op op_add (pv 2) pe_int) rfl
    case s3 => exact ps_set (i := 3) nd rfl (.inl rfl) (pe_dget (hu_of hr) (pv 0) pe_str (fun _ _ => rfl))
    case s4 =>
      exact ps_set (i := 4) nd rfl (.inl rfl) (pe_ifExp (pt_cmpR (op_neD hr.units) (pe_dget (hu_of hr) (pv 0) pe_str (fun _ _ => rfl)) (pe_lst pa_nil) (nomark _))
        (pe_ix ix_list (pe_dget (hu_of hr) (pv 0) pe_str (fun _ _ => rfl)) (pe_op op_mod (pv 2) (pe_callB call_len_seq (by rfl) ml PySem.boot_len (pa_cons (pv 3) pa_nil))) (fun _ _ => rfl)) pe_int)
    case s5 =>
      exact ps_if (pt_cmpR op_gt (pv 4) pe_int (nomark _))
        (pss_cons (ps_asg (pe_op op_fdivW (pv 4) (pv 1)) (pg_sub (pe_dget (hu_of hr) (pv 0) pe_str (fun _ _ => rfl)) (pe_op op_mod (pv 2) (pe_callB call_len_seq (by rfl) ml PySem.boot_len (pa_cons (pv 3) pa_nil))) set_list))
        (pss_one (ps_ret (pe_op op_mod (pv 4) (pv 1))))) pss_nil
    case s6 =>
      exact ps_set (i := 5) nd rfl (.inl rfl) (pe_ifExp (pt_cmpR (op_neD hr.units) (pv 3) (pe_lst pa_nil) (nomark _))
        (pe_ix ix_list (pv 3) (pe_op op_mod (pv 2) (pe_callB call_len_seq (by rfl) ml PySem.boot_len (pa_cons (pv 3) pa_nil))) (fun _ _ => rfl)) pe_int)
    case s7 =>
      exact ps_set (i := 6) nd rfl (.inl rfl) (pe_op op_mod (pe_op op_add (pe_op op_add (pe_op op_mul (pe_op op_mod (pv 5) pe_int) pe_int) (pe_op op_mul (pe_op op_mul pe_int (pv 2)) (pv 2))) pe_int) pe_int)
    case s8 => exact ps_set (i := 6) nd rfl (.inl rfl) (pe_op op_mod (pe_op op_mul (pv 6) (pe_op op_add pe_int (pe_op op_mul pe_int (pv 2)))) pe_int)
    case s9 => exact ps_ret (pe_op op_mod (pe_op op_fdivW (pe_op op_mod (pe_op op_mul (pv 6) (pv 6)) pe_int) pe_int) (pv 1))
    case rd =>
    obtain ⟨⟨k, ls, hm, hr_, hll, hpos, k0, kB⟩, hsc, hlen⟩ := id d0
    have hmr := d0.mr
    have p64 : ((2 ^ 64) : Int) = 18446744073709551616 := by decide
    have m64 : (-(2 ^ 64) : Int) = -18446744073709551616 := by decide
    -- at
    refine ⟨_, rfl, m, _, rfl, DGet.k (k := kAt) hm, ?_⟩
    have hsz : (kvD a r k).length < sizeLine := by show 3 < sizeLine; decide
    refine ⟨_, rfl, k, 1, rfl, rfl, _, rfl, m, _, rfl, DPut.k (k := kAt) (v := V.int (k + 1)) hm hsz, ?_⟩
    have hm1 : upd H m (.dK (putK (kvD a r k) kAt (.int (k + 1)))) m = some (.dK (kvD a r (k + 1))) := upd_same
    have hr1 : upd H m (.dK (putK (kvD a r k) kAt (.int (k + 1)))) r = some (.lst (ls.map V.int)) := (upd_ne (Ne.symm hmr)).trans hr_
    have b1 : ∀ b, b ≠ m → b ≠ r → upd H m (.dK (putK (kvD a r k) kAt (.int (k + 1)))) b = H b := fun b n _ => upd_ne n
    generalize upd H m (.dK (putK (kvD a r k) kAt (.int (k + 1)))) = H1 at hm1 hr1 b1 ⊢
    have scA : SqA K H1 m r (cs.map V.int) a := hsc.keep fun b o n1 n2 h _ => (b1 b n1 n2).trans h
    have sc1 : SqL K H1 a.ad (cs.map V.int) := scA.sql
    have d1 : Dr K H1 m r a cs (B + 1) := ⟨⟨k + 1, ls, hm1, hr1, hll, hpos, by omega, by omega⟩, scA, hlen⟩
    -- cells
    refine ⟨_, rfl, m, _, rfl, DGet.k (k := kScript) hm1, ?_⟩
    have fin : ∀ (G : Hp) (d : Int), Gr H1 G → 0 ≤ d → d < n → Q (.int d) G := fun G d hG z0 z1 => q G d ((G2.but b1).trans (G2.gr hG)) (d1.gr hG) z0 z1
    have two : ∀ (ls : List Int) {p e : Addr} {G : Hp}, SqL K G p (ls.map V.int) → G e = none → ∃ d e', Dp K (upd G e (.lst [])) (.ref p) d ∧ Dp K (upd G e (.lst [])) (.ref e) e' ∧ SeqAt.shaped d = true ∧ SeqAt.shaped e' = true ∧ PyData.eqv d e' = decide (ls = []) := fun ls p e G h ne =>
      ⟨.list (ls.map .int), .list [], .lst ((Gr.new ne).seq h) (dpA_ints ls), .lst (.inl (.inl upd_same)) .nil, PySem.W.ke_shaped_ints ls, rfl, eqv_nil⟩
    by_cases hc : cs = []
    · have hl : ls = [] := by
        rw [hc] at hll
        exact List.length_eq_zero_iff.mp hll
      refine ⟨_, rfl, m, _, rfl, DGet.k (k := kRest) hm1, by show 0 ≤ sizeLine; decide, fun e ne => ?_⟩
      obtain ⟨dd, de, hd, he, sd, se, ev⟩ := two ls (.inl (.inl hr1)) ne
      refine ⟨dd, de, hd, he, sd, se, _, rfl, ?_⟩
      rw [ev, decide_eq_true hl]
      have hG : Gr H1 (upd H1 e (.lst [])) := Gr.new ne
      generalize upd H1 e (.lst []) = G at hG ⊢
      refine iteF ⟨_, rfl, 0, 0, rfl, rfl, _, rfl, ?_⟩
      rw [decide_eq_false (show ¬ (0 : Int) > 0 by decide)]
      refine iteF ⟨_, rfl, by show 0 ≤ sizeLine; decide, fun e2 ne2 => ?_⟩
      obtain ⟨dd, de, hd, he, sd, se, ev⟩ := two cs (hG.seq sc1) ne2
      refine ⟨dd, de, hd, he, sd, se, _, rfl, ?_⟩
      rw [ev, decide_eq_true hc]
      replace hG := hG.trans (Gr.new (o := .lst []) ne2)
      generalize upd G e2 (.lst []) = G2 at hG ⊢
      refine iteF ?_
      -- the number
      refine ⟨_, rfl, 0, 2147483629, rfl, rfl, (by show (0 : Int) < 2147483629; decide), _, 48271, rfl, rfl, .inr ⟨by decide, by decide⟩, _, rfl, 69621, k, rfl, rfl, .inl ⟨by decide, by decide⟩, _, rfl, _, k, rfl, rfl, .inr ⟨by rw [m64]; omega, by rw [p64]; omega⟩, _, _, rfl, rfl, _, 104729, rfl, rfl, _, 2147483647, rfl, rfl, (by show (0 : Int) < 2147483647; decide), ?_⟩
      generalize hx1 : (0 % 2147483629 * 48271 + 69621 * k * k + 104729) % 2147483647 = x1
      have x10 : 0 ≤ x1 := by rw [← hx1]; exact Int.emod_nonneg _ (by decide)
      have x11 : x1 < 2147483647 := by rw [← hx1]; exact Int.emod_lt_of_pos _ (by decide)
      clear hx1
      refine ⟨_, rfl, _, rfl, 2, k, rfl, rfl, .inl ⟨by decide, by decide⟩, 16807, _, rfl, rfl, _, _, rfl, rfl, .inl ⟨by rw [m64]; omega, by rw [p64]; omega⟩, _, 2147483629, rfl, rfl, (by show (0 : Int) < 2147483629; decide), ?_⟩
      generalize hx2 : x1 * (16807 + 2 * k) % 2147483629 = x2
      have x20 : 0 ≤ x2 := by rw [← hx2]; exact Int.emod_nonneg _ (by decide)
      have x21 : x2 < 2147483629 := by rw [← hx2]; exact Int.emod_lt_of_pos _ (by decide)
      clear hx2
      refine ⟨_, rfl, _, rfl, _, _, rfl, rfl, .inl ⟨by rw [m64]; omega, by rw [p64]; omega⟩, _, 1000000007, rfl, rfl, (by show (0 : Int) < 1000000007; decide), _, 7, rfl, rfl, wide_div (b := 10) (by decide) (by decide) (by decide) (by decide), _, rfl, _, n, rfl, rfl, n0, ?_⟩
      exact fin _ _ hG (Int.emod_nonneg _ (by omega)) (Int.emod_lt_of_pos _ n0)
    · have hl : ls ≠ [] := fun z => by
        rw [z] at hll
        exact hc (List.length_eq_zero_iff.mp hll.symm)
      have lcn : ((cs.map V.int).length) = ls.length := by rw [List.length_map, hll]
      refine ⟨_, rfl, m, _, rfl, DGet.k (k := kRest) hm1, by show 0 ≤ sizeLine; decide, fun e ne => ?_⟩
      obtain ⟨dd, de, hd, he, sd, se, ev⟩ := two ls (.inl (.inl hr1)) ne
      refine ⟨dd, de, hd, he, sd, se, _, rfl, ?_⟩
      rw [ev, decide_eq_false hl]
      have hG : Gr H1 (upd H1 e (.lst [])) := Gr.new ne
      generalize upd H1 e (.lst []) = G at hG ⊢
      obtain ⟨j, l, hj, hv⟩ := mod_at (k := k) hl
      obtain ⟨j2, c, hj2, hv2⟩ := mod_at (k := k) hc
      have hvl : (ls.map V.int)[j]? = some (.int l) := by rw [List.getElem?_map, hv]; rfl
      have hvc : (cs.map V.int)[j2]? = some (.int c) := by rw [List.getElem?_map, hv2]; rfl
      have l0 := hpos l (List.mem_of_getElem? hv)
      have lp : (0 : Int) < ((cs.length : Nat) : Int) := by
        have := List.length_pos_iff.mpr hc
        omega
      refine iteT ⟨_, rfl, m, _, rfl, DGet.k (k := kRest) (hG.dic hm1), _, rfl, _, rfl, a.ad, _, rfl, .inl (hG.seq sc1), k, _, rfl, rfl, ?_, ?_⟩
      · rw [List.length_map]
        exact lp
      refine ⟨r, _, (j : Nat), _, rfl, by show V.int (k % (((cs.map V.int).length : Nat) : Int)) = _; rw [lcn, hj], .inl (.inl (hG.lst hr1)), atI_nat hvl, ?_⟩
      refine ⟨_, rfl, l, 0, rfl, rfl, _, rfl, ?_⟩
      by_cases hp : l > 0
      · rw [decide_eq_true hp]
        refine iteT ⟨_, rfl, _, rfl, l, n, rfl, rfl, wide_div (b := 40) n0 ?_ (by decide) (by decide), ?_⟩
        · have : (2 : Nat) ^ 40 = 1099511627776 := by decide
          rw [this]
          omega
        refine ⟨_, rfl, m, _, rfl, DGet.k (k := kRest) (hG.dic hm1), _, rfl, _, rfl, a.ad, _, rfl, .inl (hG.seq sc1), k, _, rfl, rfl, ?_, ?_⟩
        · rw [List.length_map]
          exact lp
        have lj := lt_of_at hv
        refine ⟨r, _, (j : Nat), j, rfl, by show V.int (k % (((cs.map V.int).length : Nat) : Int)) = _; rw [lcn, hj], hG.lst hr1, ?_, ?_⟩
        · unfold ixN
          rw [if_pos (by omega), List.length_map, if_pos (by omega)]
          rfl
        refine ⟨_, rfl, _, rfl, l, n, rfl, rfl, n0, ?_⟩
        have es : (ls.map V.int).set j (.int (l / n)) = (ls.set j (l / n)).map V.int := (List.map_set ..).symm
        rw [es]
        refine q _ _ ((G2.but b1).trans ((G2.gr hG).trans (G2.but fun b _ n2 => upd_ne n2))) ⟨⟨k + 1, ls.set j (l / n), ?_, upd_same, ?_, ?_, by omega, by omega⟩, scA.keep (fun b o n1 n2 h t => (upd_ne n2).trans (hG.keep b o h t)), hlen⟩ (Int.emod_nonneg _ (by omega)) (Int.emod_lt_of_pos _ n0)
        · exact (upd_ne hmr).trans (hG.dic hm1)
        · rw [List.length_set]
          exact hll
        · intro y hy
          rcases List.mem_or_eq_of_mem_set hy with h | h
          · exact hpos y h
          · rw [h]
            exact Int.ediv_nonneg l0 (by omega)
      · rw [decide_eq_false hp]
        refine iteF ⟨_, rfl, by show 0 ≤ sizeLine; decide, fun e2 ne2 => ?_⟩
        obtain ⟨dd, de, hd, he, sd, se, ev⟩ := two cs (hG.seq sc1) ne2
        refine ⟨dd, de, hd, he, sd, se, _, rfl, ?_⟩
        rw [ev, decide_eq_false hc]
        replace hG := hG.trans (Gr.new (o := .lst []) ne2)
        generalize upd G e2 (.lst []) = G2 at hG ⊢
        refine iteT ⟨_, rfl, _, rfl, _, rfl, a.ad, _, rfl, .inl (hG.seq sc1), k, _, rfl, rfl, ?_, ?_⟩
        · rw [List.length_map]
          exact lp
        refine ⟨a.ad, _, (j2 : Nat), _, rfl, by show V.int (k % (((cs.map V.int).length : Nat) : Int)) = _; rw [List.length_map, hj2], hG.seq sc1, atI_nat hvc, ?_⟩
        -- the number
        refine ⟨_, rfl, c, 2147483629, rfl, rfl, (by show (0 : Int) < 2147483629; decide), _, 48271, rfl, rfl, .inr ⟨by decide, by decide⟩, _, rfl, 69621, k, rfl, rfl, .inl ⟨by decide, by decide⟩, _, rfl, _, k, rfl, rfl, .inr ⟨by rw [m64]; omega, by rw [p64]; omega⟩, _, _, rfl, rfl, _, 104729, rfl, rfl, _, 2147483647, rfl, rfl, (by show (0 : Int) < 2147483647; decide), ?_⟩
        generalize hx1 : (c % 2147483629 * 48271 + 69621 * k * k + 104729) % 2147483647 = x1
        have x10 : 0 ≤ x1 := by rw [← hx1]; exact Int.emod_nonneg _ (by decide)
        have x11 : x1 < 2147483647 := by rw [← hx1]; exact Int.emod_lt_of_pos _ (by decide)
        clear hx1
        refine ⟨_, rfl, _, rfl, 2, k, rfl, rfl, .inl ⟨by decide, by decide⟩, 16807, _, rfl, rfl, _, _, rfl, rfl, .inl ⟨by rw [m64]; omega, by rw [p64]; omega⟩, _, 2147483629, rfl, rfl, (by show (0 : Int) < 2147483629; decide), ?_⟩
        generalize hx2 : x1 * (16807 + 2 * k) % 2147483629 = x2
        have x20 : 0 ≤ x2 := by rw [← hx2]; exact Int.emod_nonneg _ (by decide)
        have x21 : x2 < 2147483629 := by rw [← hx2]; exact Int.emod_lt_of_pos _ (by decide)
        clear hx2
        refine ⟨_, rfl, _, rfl, _, _, rfl, rfl, .inl ⟨by rw [m64]; omega, by rw [p64]; omega⟩, _, 1000000007, rfl, rfl, (by show (0 : Int) < 1000000007; decide), _, 7, rfl, rfl, wide_div (b := 10) (by decide) (by decide) (by decide) (by decide), _, rfl, _, n, rfl, rfl, n0, ?_⟩
        exact fin _ _ hG (Int.emod_nonneg _ (by omega)) (Int.emod_lt_of_pos _ n0)
theorem G2.sql {m r : Addr} {H H' : Hp} (g : G2 m r H H') {b : Addr} {xs : List V} (n1 : b ≠ m) (n2 : b ≠ r) (h : SqL K H b xs) : SqL K H' b xs := by
  rcases h with (h | ⟨o, h⟩) | h
  · exact .inl (.inl (g.lst n1 n2 h))
  · exact .inl (.inr ⟨o, g.keep _ _ n1 n2 h (fun _ z => by cases z)⟩)
  · exact .inr h
/-- one of a list, or of a tuple -/
def spOf (K : PySem.W.Frag) : Sp := fun vs H Q _ => ∃ (m r l : Addr) (a : Src) (cs : List Int) (xs : List V) (B : Int), vs = [.ref m, .ref l] ∧ Dr K H m r a cs B ∧ B ≤ 1000000 ∧ ((SqL K H l xs ∧ l ≠ m ∧ l ≠ r) ∨ SqT K H l xs) ∧ xs ≠ [] ∧ xs.length ≤ 1000 ∧
  ∀ (H' : Hp) (i : Nat) (x : V), G2 m r H H' → Dr K H' m r a cs (B + 1) → xs[i]? = some x → Q x H'
theorem ok_of {f fD : Addr} {fd dD : FuncData} {k : Nat} (F : Fun K "_law_of" "_law_of" sOf f fd) (HD : Has P w K mg base k "_law_draw" ["_law_m", "_law_many"] (spDrw K) fD dD) (ml : mg "len" = none) : FnOk P w K mg base CX0 (k + 1) f fd ["_law_m", "_law_some"] (spOf K) := by
  refine F.ok scOf (fun vs H Q E h => ?_) (fun cdv A outer s H vs Q E hr h => ?_)
  · obtain ⟨m, r, l, a, cs, xs, B, rfl, _⟩ := h
    rfl
  · obtain ⟨m, r, l, a, cs, xs, B, rfl, d, hB, hl, hne, hx, q⟩ := h
    have lp := List.length_pos_iff.mpr hne
    have at_ : ∀ d : Int, 0 ≤ d → d < ((xs.length : Nat) : Int) → ∃ (j : Nat) (v : V), d = (j : Nat) ∧ xs[j]? = some v := fun d h0 h1 => ⟨d.toNat, xs[d.toNat]'(by omega), by omega, List.getElem?_eq_getElem _⟩
    rcases hl with ⟨hl, n1, n2⟩ | hl
    · refine ⟨_, pss_one (ps_ret (pe_ix ix_list (pv 1) (hcall HD hr (pa_cons (pv 0) (pa_cons (pe_callB call_len_seq (by rfl) ml PySem.boot_len (pa_cons (pv 1) pa_nil)) pa_nil))) (fun _ _ => rfl))), ?_⟩
      refine ⟨_, rfl, _, rfl, _, rfl, l, xs, rfl, .inl hl, m, r, a, cs, _, B, rfl, d, hB, by omega, by omega, fun H' i g d' i0 i1 => ?_⟩
      obtain ⟨j, v, rfl, hv⟩ := at_ i i0 i1
      exact ⟨l, xs, _, v, rfl, rfl, g.sql n1 n2 hl, atI_nat hv, q H' j v g d' hv⟩
    · refine ⟨_, pss_one (ps_ret (pe_ix ix_tup (pv 1) (hcall HD hr (pa_cons (pv 0) (pa_cons (pe_callB call_len_seq (by rfl) ml PySem.boot_len (pa_cons (pv 1) pa_nil)) pa_nil))) (fun _ _ => rfl))), ?_⟩
      refine ⟨_, rfl, _, rfl, _, rfl, l, xs, rfl, .inr hl, m, r, a, cs, _, B, rfl, d, hB, by omega, by omega, fun H' i g d' i0 i1 => ?_⟩
      obtain ⟨j, v, rfl, hv⟩ := at_ i i0 i1
      exact ⟨l, xs, _, v, rfl, rfl, d.kt g hl, atI_nat hv, q H' j v g d' hv⟩
def spStarted (K : PySem.W.Frag) : Sp := fun vs H Q _ => ∃ (a : Addr) (cs : List Int), vs = [.ref a] ∧ SqL K H a (cs.map V.int) ∧ cs.length ≤ 63 ∧ ∀ H' m r s, Gr H H' → H m = none → H r = none → Dr K H' m r s cs 0 → Q (.ref m) H'
set_option maxHeartbeats 1000000 in
theorem ok_started {f : Addr} {fd : FuncData} {k : Nat} (F : Fun K "_law_started" "_law_started" sStarted f fd) : FnOk P w K mg base CX0 (k + 1) f fd ["_law_script"] (spStarted K) := by
  refine F.ok scStarted (fun vs H Q E h => ?_) (fun cdv A outer s H vs Q E hr h => ?_)
  · obtain ⟨a, cs, rfl, _⟩ := h
    rfl
  · obtain ⟨a, cs, rfl, ha, hl, q⟩ := h
    have nd := scStarted.nd
    refine' ⟨_, pss_one ?s1, ?rd⟩
    case s1 =>
      exact ps_ret (pe_disp (pps_cons pe_str (pv 0) (pps_cons pe_str pe_int (pps_cons pe_str (pe_lc (own := [("_law_cell", 1)]) (g := gName 1) rfl nd (pi_list (pv 0)) (blkOk_by (own := [("_law_cell", 1)]) (N := ["_law_script", "_law_cell"]) (sc := defScope sStarted) (by decide +kernel))
        (fun _ _ _ _ _ => pg_name (i := 1) nd rfl (.inl rfl)) (fun _ _ _ _ _ => pts_nil) (fun _ _ _ _ _ => pe_ifExp (pt_cmpR op_ge (pv 1) (pe_op op_pow pe_int pe_int) (nomark _)) (pv 1) pe_int)) pps_nil))) (by rfl) (by rfl) (fun z => by cases z) (by decide))
    case rd =>
    intro m nm
    have g0 : Gr H (upd H m (.dK [])) := Gr.new nm
    have e0 : upd H m (.dK []) m = some (.dK []) := upd_same
    refine ⟨_, rfl, _, rfl, a, rfl, ⟨_, g0.seq ha⟩, fun D nD => ?_⟩
    have nD0 : H D = none := g0.back D nD
    generalize upd H m (.dK []) = H0 at g0 e0 nD ⊢
    have nmD : m ≠ D := ne_of_none e0 nD
    refine lc_it (walk_list (xs := cs.map V.int)) (fun i H2 => H2 D = some (.lst (((cs.take i).map fun c => if c ≥ 10 ^ 18 then c else 0).map V.int)) ∧ Gr H0 H2) ⟨upd_same, Gr.new nD⟩ ?c0 ?c1 ?c2
    case c0 =>
      rintro i H2 hi ⟨_, g2⟩
      exact (g0.trans g2).seq ha
    case c1 =>
      rintro i y H2' H2 hi ⟨e2, g2⟩ ⟨rfl, hy⟩
      rw [List.getElem?_map] at hy
      obtain ⟨c, hc, rfl⟩ := Option.map_eq_some_iff.mp hy
      refine ⟨rfl, tYes_i ?_⟩
      have fin : ∀ v : Int, v = (if c ≥ 10 ^ 18 then c else 0) → ∃ acc, H2 D = some (.lst acc) ∧ acc.length < sizeLine ∧ (upd H2 D (.lst (acc ++ [.int v])) D = some (.lst (((cs.take (i + 1)).map fun c => if c ≥ 10 ^ 18 then c else 0).map V.int)) ∧ Gr H0 (upd H2 D (.lst (acc ++ [.int v])))) := by
        rintro v rfl
        refine ⟨_, e2, ?_, upd_same.trans ?_, g2.upd_new nD⟩
        · rw [List.length_map, List.length_map, List.length_take]
          exact small1000 (by omega)
        · rw [List.take_add_one, hc, List.map_append, List.map_append]
          rfl
      refine iteT ⟨_, rfl, 10, 18, rfl, rfl, ⟨by decide, by decide, by decide⟩, _, _, rfl, rfl, _, rfl, ite2 (fun e => ?_) (fun e => ?_)⟩
      · have e' : c ≥ 10 ^ 18 := of_decide_eq_true e
        exact ⟨_, rfl, fin c (by rw [if_pos e'])⟩
      · have e' : ¬ c ≥ 10 ^ 18 := fun z => e (decide_eq_true z)
        exact fin 0 (by rw [if_neg e'])
    case c2 =>
    rintro H2 ⟨e2, g2⟩
    rw [List.length_map, List.take_length] at e2
    have em := g2.dic e0
    obtain ⟨s, rfl, hs⟩ := src_of ha
    refine ⟨em, kvD s D 0, rfl, by show 3 ≤ 15; decide, ?_⟩
    refine q _ m D s ((g0.trans g2).upd_new nm) nm nD0 ⟨⟨0, _, upd_same.trans rfl, (upd_ne (Ne.symm nmD)).trans e2, ?_, ?_, by decide, by decide⟩, hs _ m D ((g0.trans g2).upd_new nm) nm nD0, hl⟩
    · rw [List.length_map]
    · intro l hl
      obtain ⟨c, _, rfl⟩ := List.mem_map.mp hl
      by_cases e' : c ≥ 10 ^ 18
      · rw [if_pos e']
        have : (0 : Int) ≤ 10 ^ 18 := by decide
        omega
      · rw [if_neg e']
        exact Int.le_refl 0
end
end SfC
namespace SfC
open PySem PySem.Spec PyProof.Rows L2 SfG
/-! ### a text some times -/
def repS (z : Str) (n : Nat) : Str := ⟨(List.replicate n z.cps).foldl (· ++ ·) #[]⟩
theorem foldl_len : ∀ (n : Nat) (x acc : Array Nat), ((List.replicate n x).foldl (· ++ ·) acc).size = acc.size + n * x.size
  | 0, x, acc => by simp
  | n + 1, x, acc => by
    rw [List.replicate_succ, List.foldl_cons, foldl_len n x, Array.size_append, Nat.succ_mul]
    omega
theorem rep_len (z : Str) (n : Nat) : (repS z n).length = n * z.length := by
  show ((List.replicate n z.cps).foldl (· ++ ·) #[]).size = n * z.cps.size
  rw [foldl_len]
  simp
theorem rep_one (z : Str) : repS z 1 = z := by
  unfold repS
  simp
theorem op_mulZ {X : Cx} : OpR X (binaryOp .Mult) (fun x y H Q => ∃ (z : Str) (n : Nat), x = .str z ∧ y = .int (n : Int) ∧ 1 ≤ n ∧ z.length * n ≤ 1000000 ∧ z.length ≠ 0 ∧ Q (.str (repS z n)) H) := by
  intro pins s σ H x y v u Q I rx ry h
  obtain ⟨z, n, rfl, rfl, hn, hl, h0, q⟩ := h
  obtain ⟨t, rfl⟩ := rx
  obtain ⟨t', rfl⟩ := ry
  have e63 : (2 : Int) ^ 63 = 9223372036854775808 := by decide
  have hnn : n ≤ 1000000 := by
    refine Nat.le_trans ?_ hl
    exact Nat.le_mul_of_pos_left n (Nat.pos_of_ne_zero h0)
  refine PySem.P.mul_str ?_ ?_ ?_ ?_
  · rw [e63]
    simp
    omega
  · intro _ _ h
    have e : (z.length : Int) ≤ (2 ^ 63 - 1) / (n : Int) := by
      refine Int.le_ediv_of_mul_le (by omega) ?_
      have hl' : ((z.length * n : Nat) : Int) ≤ 1000000 := by omega
      rw [Int.natCast_mul] at hl'
      rw [e63]
      omega
    omega
  · intro _ _
    rw [Int.toNat_natCast]
    unfold Builtin.Str.tooLong
    refine decide_eq_false ?_
    rw [sizeLine_eq]
    omega
  · have c1 : ¬ (n : Int) < 1 := by omega
    rw [if_neg c1]
    by_cases e1 : n = 1
    · subst e1
      have c2 : (((1 : Nat) : Int) == 1 || z.length == 0) = true := by simp
      rw [if_pos c2]
      rw [rep_one] at q
      exact ⟨.str z, H, I, ⟨_, rfl⟩, q⟩
    · have c2 : ¬ (((n : Int) == 1 || z.length == 0) = true) := by
        simp
        omega
      rw [if_neg c2]
      refine ⟨?_, .str (repS z n), H, I.tok _, ⟨_, rfl⟩, q⟩
      have hs := rep_len z n
      have hz : (repS z n).length ≤ sizeLine := by
        rw [hs, sizeLine_eq, Nat.mul_comm]
        omega
      exact hz
end SfC
namespace SfC
open PySem PySem.Spec PyProof.Rows L2 SfG
/-! ### names that are drawn -/
theorem op_mul0 {X : Cx} : OpR X (binaryOp .Mult) (fun x y H Q => ∃ (z : Str) (n : Nat), x = .str z ∧ y = .int (n : Int) ∧ n ≤ 100 ∧ z.length ≤ 100 ∧ z.length ≠ 0 ∧ Q (.str (repS z n)) H) := by
  intro pins s σ H x y v u Q I rx ry h
  obtain ⟨z, n, rfl, rfl, hn, hl, h0, q⟩ := h
  by_cases c : n = 0
  · subst c
    obtain ⟨t, rfl⟩ := rx
    obtain ⟨t', rfl⟩ := ry
    exact PySem.P.mul_str_none (by decide) (by decide) ⟨.str (repS z 0), H, I.tok _, ⟨_, rfl⟩, q⟩
  · have : z.length * n ≤ 100 * 100 := Nat.mul_le_mul hl hn
    exact op_mulZ pins s σ H _ _ v u Q I rx ry ⟨z, n, rfl, rfl, by omega, by omega, h0, q⟩
def poolA : List Str := ["a", "aa", "ab", "b", "give", "hidden", "if", "in", "refuse", "same", "shape", "when"]
def poolB : List Str := ["z", "zz", "zzzzzzzz"]
def poolL : List Str := poolA ++ poolB
theorem pool_ok : ∀ z ∈ poolL, isN z = true := by decide +kernel
theorem pool_nd : poolL.Nodup := by decide +kernel
def nmZ (i j n : Nat) : Str := (⟨#[97 + i]⟩ : Str) ++ repS ⟨#[97 + j]⟩ n
def hdZ (z : Str) : Nat := z.cps.toList.headD 0
theorem nm_all : ∀ i, i < 26 → ∀ j, j < 26 → ∀ n ∈ [0, 1, 7], isN (nmZ i j n) = true ∧ hdZ (nmZ i j n) = 97 + i := by decide +kernel
theorem letter_is : ∀ n, n < 26 → letters.cps[n]? = some (97 + n) := by decide +kernel
def hds (f s i : Nat) : List Nat := (List.range i).map fun k => 97 + (f + s * k) % 26
theorem hds_nd8 : ∀ f, f < 26 → ∀ s ∈ [1, 5, 7, 25], (hds f s 8).Nodup := by decide +kernel
theorem hds_nd {f s i : Nat} (hf : f < 26) (hs : s ∈ [1, 5, 7, 25]) (hi : i ≤ 8) : (hds f s i).Nodup :=
  ((List.range_sublist.mpr hi).map _).nodup (hds_nd8 f hf s hs)
theorem hds_succ (f s i : Nat) : hds f s (i + 1) = hds f s i ++ [97 + (f + s * i) % 26] := by
  unfold hds
  rw [List.range_succ, List.map_append]
  rfl
theorem erase_map {α β : Type} (g : α → β) : ∀ (l : List α) (i : Nat), (l.map g).eraseIdx i = (l.eraseIdx i).map g
  | [], _ => rfl
  | _ :: _, 0 => rfl
  | a :: r, i + 1 => by
    rw [List.map_cons, List.eraseIdx_cons_succ, List.eraseIdx_cons_succ, List.map_cons, erase_map g r i]
theorem erase_perm {α : Type} : ∀ (l : List α) (i : Nat) (h : i < l.length), (l[i] :: l.eraseIdx i).Perm l
  | [], _, h => absurd h (by simp)
  | a :: r, 0, _ => List.Perm.refl _
  | a :: r, i + 1, h => by
    rw [List.eraseIdx_cons_succ]
    exact (List.Perm.swap ..).trans ((erase_perm r i (by simpa using h)).cons a)
theorem nodup_map {α β : Type} (g : α → β) {l : List α} (h : (l.map g).Nodup) : l.Nodup := (List.pairwise_map.mp h).imp fun ne e => ne (congrArg g e)
theorem hi63 (z : Int) (h : z < 1000000) : z < 2 ^ 63 := by
  have : ((2 ^ 63) : Int) = 9223372036854775808 := by decide
  omega
theorem lo63 (z : Int) (h : 0 ≤ z) : -(2 ^ 63) ≤ z := by
  have : (-(2 ^ 63) : Int) = -9223372036854775808 := by decide
  omega
def rLen (K : PySem.W.Frag) : List V → Hp → VK → Prop := fun xs H Q => ∃ p ys, xs = [.ref p] ∧ (SqL K H p ys ∨ SqT K H p ys) ∧ Q (.int ys.length) H
abbrev nLNames : List Str := ["_law_m", "_law_many", "_law_letters", "_law_pool", "_law_k", "_law_first", "_law_step", "_law_found", "_law_more"]
theorem scLNames : FnScope nLNames ["_law_m", "_law_many"] (defScope sLNames) := ⟨rfl, rfl, rfl, by decide +kernel, rfl, by decide +kernel, by decide +kernel⟩
section
variable {P : Program} {w : World} {K : PySem.W.Frag} {mg : Str → Option Value} {base : Heap}
def spLNames (K : PySem.W.Frag) : Sp := fun vs H Q _ => ∃ (m r : Addr) (a : Src) (cs : List Int) (n : Nat) (B : Int), vs = [.ref m, .int (n : Nat)] ∧ Dr K H m r a cs B ∧ B ≤ 900000 ∧ 1 ≤ n ∧ n ≤ 8 ∧
  ∀ H' l (ys : List Str), G2 m r H H' → Dr K H' m r a cs (B + 20) → H l = none → H' l = some (.lst (ys.map V.str)) → ys.Pairwise lt → (∀ z ∈ ys, isN z = true) → ys.length = n → Q (.ref l) H'
set_option maxHeartbeats 2000000 in
theorem ok_lnames {f fD fO : Addr} {fd dD dO : FuncData} {k : Nat} (F : Fun K "_law_names" "_law_names" sLNames f fd) (HD : Has P w K mg base k "_law_draw" ["_law_m", "_law_many"] (spDrw K) fD dD) (HO_ : Has P w K mg base k "_law_of" ["_law_m", "_law_some"] (spOf K) fO dO)
    (ml : mg "len" = none) (mr : mg "range" = none) (ms : mg "sorted" = none) : FnOk P w K mg base CX0 (k + 1) f fd ["_law_m", "_law_many"] (spLNames K) := by
  refine F.ok scLNames (fun vs H Q E h => ?_) (fun cdv A outer s H vs Q E hr h => ?_)
  · obtain ⟨m, r, a, cs, n, B, rfl, _⟩ := h
    rfl
  · obtain ⟨m, r, a, cs, n, B, rfl, d0, hB, n1, n8, q⟩ := h
    have nd := scLNames.nd
    refine' ⟨_, pss_cons ?s1 (pss_cons ?s2 (pss_cons ?s3 (pss_cons ?s4 (pss_cons ?s5 (pss_one ?s6))))), ?rd⟩
    case s1 => exact ps_set (i := 2) nd rfl (.inl rfl) pe_str
    case s2 =>
      refine' ps_if (pt_cmpR op_eq (hcall HD hr (pa_cons (pv 0) (pa_cons pe_int pa_nil))) pe_int (nomark _)) (pss_cons ?b1 (pss_cons ?b2 (pss_one ?b3))) pss_nil
      case b1 => exact ps_set (i := 3) nd rfl (.inr rfl) (pe_lst (pa_cons pe_str (pa_cons pe_str (pa_cons pe_str (pa_cons pe_str (pa_cons pe_str (pa_cons pe_str (pa_cons pe_str (pa_cons pe_str (pa_cons pe_str (pa_cons pe_str (pa_cons pe_str (pa_cons pe_str pa_nil)))))))))))))
      case b2 => exact ps_set (i := 3) nd rfl (.inr rfl) (pe_op op_cat (pv 3) (pe_lst (pa_cons pe_str (pa_cons pe_str (pa_cons pe_str pa_nil)))))
      case b3 =>
        exact ps_ret (pe_callB cr_sortedS (by rfl) ms (by decide +kernel) (pa_cons (pe_lc (own := [("_law_k", 4)]) (g := gName 4) rfl nd (pi_range1 (by rfl) mr (pa_cons (pv 1) pa_nil)) (blkOk_by (own := [("_law_k", 4)]) (N := nLNames) (sc := defScope sLNames) (by decide +kernel))
          (fun _ _ _ _ _ => pg_name (i := 4) nd rfl (.inl rfl)) (fun _ _ _ _ _ => pts_nil)
          (fun _ _ _ _ _ => (pe_bm PySem.F.plainAttrs_list PySem.F.slot_list_pop PySem.F.type_list_pop mt_popAt (pv 3) (pa_cons (hcall HD hr (pa_cons (pv 0) (pa_cons (pe_callB call_len_seq (by rfl) ml PySem.boot_len (pa_cons (pv 3) pa_nil)) pa_nil))) pa_nil) :
            PE _ _ (tBM K "list" rPopAt (tVar 3) (tCons (tCall (spDrw K) [] E0 (tCons (tVar 0) (tCons (tCB (rLen K) (tCons (tVar 3) tNil)) tNil))) tNil))))) pa_nil))
    case s3 =>
      exact ps_par (i := 5) (j := 6) rfl nd rfl rfl (by decide) rfl rfl (pa_cons (hcall HD hr (pa_cons (pv 0) (pa_cons pe_int pa_nil))) (pa_cons (hcall HO_ hr (pa_cons (pv 0) (pa_cons (pe_lst (pa_cons pe_int (pa_cons pe_int (pa_cons pe_int (pa_cons pe_int pa_nil))))) pa_nil))) pa_nil)) (by rfl)
    case s4 => exact ps_set (i := 7) nd rfl (.inl rfl) (pe_lst pa_nil)
    case s5 =>
      refine' ps_for PassesOwn.never rfl (pi_range1 (by rfl) mr (pa_cons (pv 1) pa_nil)) (pg_name (i := 4) nd rfl (.inl rfl)) (pss_cons ?c1 (pss_one ?c2))
      case c1 =>
        exact ps_set (i := 8) nd rfl (.inl rfl) (pe_op op_mul0 (pe_item_str (pv 2) (hcall HD hr (pa_cons (pv 0) (pa_cons pe_int pa_nil))) (fun _ _ => rfl)) (hcall HO_ hr (pa_cons (pv 0) (pa_cons (pe_lst (pa_cons pe_int (pa_cons pe_int (pa_cons pe_int (pa_cons pe_int pa_nil))))) pa_nil))))
      case c2 =>
        exact ps_expr (pe_bm PySem.F.plainAttrs_list PySem.F.slot_list_append PySem.F.type_list_append mt_append (pv 7) (pa_cons (pe_op op_add_str (pe_item_str (pv 2) (pe_op op_mod (pe_op op_add (pv 5) (pe_op op_mul (pv 6) (pv 4))) pe_int) (fun _ _ => rfl)) (pv 8)) pa_nil))
    case s6 => exact ps_ret (pe_callB cr_sortedS (by rfl) ms (by decide +kernel) (pa_cons (pv 7) pa_nil))
    case rd =>
    refine ⟨_, rfl, m, r, a, cs, 3, B, rfl, d0, by omega, by decide, by decide, fun H1 dg g1 d1 z0 z1 => ⟨rfl, _, rfl, ite2 (fun _ => ?_) (fun _ => ?_)⟩⟩
    · -- out of a pool
      refine ⟨by show 12 ≤ sizeLine; decide, fun p1 m1 => ?_⟩
      have k1 : Gr H1 (upd H1 p1 (.lst (poolA.map V.str))) := Gr.new m1
      have e1 : upd H1 p1 (.lst (poolA.map V.str)) p1 = some (.lst (poolA.map V.str)) := upd_same
      change tSeq _ _ _ _ (upd H1 p1 (.lst (poolA.map V.str)))
      generalize upd H1 p1 (.lst (poolA.map V.str)) = G1 at k1 e1 ⊢
      refine ⟨_, rfl, by show 3 ≤ sizeLine; decide, fun p2 m2 => ?_⟩
      have k2 : Gr G1 (upd G1 p2 (.lst (poolB.map V.str))) := Gr.new m2
      have e2 : upd G1 p2 (.lst (poolB.map V.str)) p2 = some (.lst (poolB.map V.str)) := upd_same
      change rCat _ _ (upd G1 p2 (.lst (poolB.map V.str))) _
      generalize upd G1 p2 (.lst (poolB.map V.str)) = G2_ at k2 e2 ⊢
      refine ⟨p1, p2, _, _, rfl, rfl, k2.lst e1, e2, by show 15 ≤ sizeLine; decide, fun p3 m3 => ?_⟩
      rw [← List.map_append]
      have k3 : Gr G2_ (upd G2_ p3 (.lst ((poolA ++ poolB).map V.str))) := Gr.new m3
      have e3 : upd G2_ p3 (.lst ((poolA ++ poolB).map V.str)) p3 = some (.lst (poolL.map V.str)) := upd_same
      have d2 := d1.gr (k1.trans k2)
      obtain ⟨n31, n32⟩ := d2.nm m3
      have o3 := d2.off m3
      have d3 := d2.gr k3
      have h3 : H p3 = none := g1.back p3 n31 n32 ((k1.trans k2).back p3 m3)
      have g3 : G2 m r H (upd G2_ p3 (.lst ((poolA ++ poolB).map V.str))) := g1.trans (G2.gr (k1.trans (k2.trans k3)))
      generalize upd G2_ p3 (.lst ((poolA ++ poolB).map V.str)) = G3 at k3 e3 d3 g3 ⊢
      clear k1 k2 k3 e1 e2 d1 d2 g1 m1 m2 m3
      refine ⟨_, rfl, (n : Nat), rfl, by omega, by omega, fun D nD => ?_⟩
      obtain ⟨nD1, nD2⟩ := d3.nm nD
      have oD := d3.off nD
      have hD := g3.back D nD1 nD2 nD
      have n3D : p3 ≠ D := ne_of_none e3 nD
      have l15 : poolL.length = 15 := rfl
      refine lc_it (walk_range (lo := 0) (n := ((n : Nat) : Int).toNat)) (fun i S => ∃ rem ps : List Str, S D = some (.lst (ps.map V.str)) ∧ S p3 = some (.lst (rem.map V.str)) ∧ (ps ++ rem).Perm poolL ∧ ps.length = i ∧ G2 m r H S ∧ Dr K S m r a cs (B + 1 + (i : Int)))
        ⟨poolL, [], upd_same, (upd_ne n3D).trans e3, List.Perm.refl _, rfl, g3.trans (G2.gr (Gr.new nD)), (d3.upd nD1 nD2 oD).mono (by omega)⟩ (fun _ _ _ _ => trivial) ?c1 ?c2
      case c1 =>
        rintro i y S' S hi ⟨rem, ps, eD, e3, pm, li, g, d⟩ ⟨rfl, rfl⟩
        have i8 : i < n := by omega
        have lr : ps.length + rem.length = 15 := by
          have := pm.length_eq
          rw [List.length_append, l15] at this
          exact this
        refine ⟨rfl, tYes_i (iteT ?_)⟩
        refine ⟨_, rfl, .inl ⟨rfl, _, .inl (.inl e3)⟩, _, rfl, _, rfl, p3, _, rfl, .inl (.inl (.inl e3)), m, r, a, cs, _, _, rfl, d, by omega, ?_, ?_, fun S2 j g2 d2 j0 j1 => ?_⟩
        · rw [List.length_map]
          omega
        · rw [List.length_map]
          omega
        rw [List.length_map] at j1
        have e32 := g2.lst n31 n32 e3
        have eD2 := g2.lst nD1 nD2 eD
        have jl : j.toNat < rem.length := by omega
        refine ⟨p3, _, j, j.toNat, .str rem[j.toNat], rfl, rfl, e32, lo63 j j0, hi63 j (by omega), ?_, ?_, ?_⟩
        · have ix : ixN (rem.map V.str).length j = some j.toNat := by
            unfold ixN
            rw [if_pos j0, List.length_map, if_pos j1]
          exact (ixN_seq ix).1
        · rw [List.getElem?_map, List.getElem?_eq_getElem jl]
          rfl
        have em : (rem.map V.str).eraseIdx j.toNat = (rem.eraseIdx j.toNat).map V.str := erase_map _ _ _
        rw [em]
        refine ⟨_, (upd_ne (Ne.symm n3D)).trans eD2, ?_, rem.eraseIdx j.toNat, ps ++ [rem[j.toNat]], ?_, ?_, ?_, ?_, ?_, ?_⟩
        · rw [List.length_map]
          exact small1000 (by omega)
        · rw [upd_same, List.map_append]
          rfl
        · rw [upd_ne n3D]
          exact upd_same
        · rw [List.append_assoc]
          exact ((List.Perm.append_left ps (erase_perm rem _ jl)).trans pm)
        · rw [List.length_append, li]
          rfl
        · exact ((g.trans g2).upd_new h3).upd_new hD
        · exact ((d2.upd n31 n32 o3).upd nD1 nD2 oD).mono (by omega)
      case c2 =>
      rintro S ⟨rem, ps, eD, e3, pm, li, g, d⟩
      refine ⟨D, ps, rfl, .inl (.inl eD), by omega, fun ys l pm2 so nl => ?_⟩
      have len : ys.length = ps.length := pm2.length_eq
      obtain ⟨nl1, nl2⟩ := d.nm nl
      have hl := g.back l nl1 nl2 nl
      have ndp : ps.Nodup := (List.nodup_append.mp (pm.nodup_iff.mpr pool_nd)).1
      refine q _ l ys (g.trans (G2.gr (Gr.new nl))) ((d.gr (Gr.new nl)).mono (by omega)) hl upd_same (sorted_up so pm2 ndp) (fun z hz => pool_ok z (pm.mem_iff.mp (List.mem_append_left _ (pm2.mem_iff.mp hz)))) (by omega)
    · -- of letters
      refine ⟨_, rfl, m, r, a, cs, 26, _, rfl, d1, by omega, by decide, by decide, fun H2 f g2 d2 f0 f1 => ?_⟩
      refine ⟨_, rfl, by show 4 ≤ sizeLine; decide, fun l nl => ?_⟩
      have k1 : Gr H2 (upd H2 l (.lst [.int 1, .int 5, .int 7, .int 25])) := Gr.new nl
      have e1 : upd H2 l (.lst [.int 1, .int 5, .int 7, .int 25]) l = some (.lst [.int 1, .int 5, .int 7, .int 25]) := upd_same
      obtain ⟨nl1, nl2⟩ := d2.nm nl
      have d3 := d2.gr k1
      generalize upd H2 l (.lst [.int 1, .int 5, .int 7, .int 25]) = H3 at k1 e1 d3 ⊢
      refine ⟨m, r, l, a, cs, _, _, rfl, d3, by omega, .inl ⟨.inl (.inl e1), nl1, nl2⟩, by simp, by decide, fun H4 ix x g4 d4 hx => ?_⟩
      obtain ⟨s, rfl, hs⟩ : ∃ s : Nat, x = .int (s : Nat) ∧ s ∈ [1, 5, 7, 25] := by
        have hm := List.mem_of_getElem? hx
        simp only [List.mem_cons, List.not_mem_nil, or_false] at hm
        rcases hm with rfl | rfl | rfl | rfl
        · exact ⟨1, rfl, by decide⟩
        · exact ⟨5, rfl, by decide⟩
        · exact ⟨7, rfl, by decide⟩
        · exact ⟨25, rfl, by decide⟩
      obtain ⟨fn, rfl⟩ : ∃ z : Nat, f = (z : Int) := ⟨f.toNat, by omega⟩
      have s25 : s ≤ 25 := by
        simp only [List.mem_cons, List.not_mem_nil, or_false] at hs
        omega
      have g04 : G2 m r H H4 := (g1.trans g2).trans ((G2.gr k1).trans g4)
      clear g1 g2 k1 g4 e1 d1 d2 d3 nl hx
      refine ⟨_, _, rfl, ?_⟩
      refine ⟨by show 0 ≤ sizeLine; decide, fun fl nfl => ?_⟩
      obtain ⟨nf1, nf2⟩ := d4.nm nfl
      have of_ := d4.off nfl
      have hfl := g04.back fl nf1 nf2 nfl
      refine ⟨_, rfl, (n : Nat), rfl, by omega, by omega, ?_⟩
      refine for_it (walk_range (lo := 0) (n := ((n : Nat) : Int).toNat)) (fun i σ S => ∃ (y4 y8 : Option V) (ys : List Str), σ = [some (.ref m), some (.int (n : Nat)), some (.str letters), none, y4, some (.int (fn : Nat)), some (.int (s : Nat)), some (.ref fl), y8] ∧
        S fl = some (.lst (ys.map V.str)) ∧ ys.map hdZ = hds fn s i ∧ (∀ z ∈ ys, isN z = true) ∧ G2 m r H S ∧ Dr K S m r a cs (B + 3 + 2 * (i : Int)))
        ⟨none, none, [], rfl, upd_same, rfl, by simp, g04.trans (G2.gr (Gr.new nfl)), (d4.gr (Gr.new nfl)).mono (by omega)⟩ (fun _ _ _ _ _ => trivial) ?h2 ?h3
      case h2 =>
        rintro i y σ S' S hi ⟨y4, y8, ys, rfl, ef, hh, hn, g, d⟩ ⟨rfl, rfl⟩
        have i8 : i < n := by omega
        have ly : ys.length = i := by
          have := congrArg List.length hh
          unfold hds at this
          rw [List.length_map, List.length_map, List.length_range] at this
          exact this
        refine ⟨_, rfl, _, rfl, m, r, a, cs, 26, _, rfl, d, by omega, by decide, by decide, fun S2 j g2 d2 j0 j1 => ?_⟩
        have lz : letters.length = 26 := by decide +kernel
        refine ⟨letters, j, 97 + j.toNat, rfl, rfl, j0, hi63 _ (by omega), by rw [lz]; omega, letter_is _ (by omega), ?_⟩
        refine ⟨_, rfl, by show 4 ≤ sizeLine; decide, fun l nl => ?_⟩
        have k1 : Gr S2 (upd S2 l (.lst [.int 0, .int 0, .int 1, .int 7])) := Gr.new nl
        have e1 : upd S2 l (.lst [.int 0, .int 0, .int 1, .int 7]) l = some (.lst [.int 0, .int 0, .int 1, .int 7]) := upd_same
        obtain ⟨nl1, nl2⟩ := d2.nm nl
        have d3 := d2.gr k1
        generalize upd S2 l (.lst [.int 0, .int 0, .int 1, .int 7]) = S3 at k1 e1 d3 ⊢
        refine ⟨m, r, l, a, cs, _, _, rfl, d3, by omega, .inl ⟨.inl (.inl e1), nl1, nl2⟩, by simp, by decide, fun S4 ix x g4 d4 hx => ?_⟩
        obtain ⟨t, rfl, ht⟩ : ∃ t : Nat, x = .int (t : Nat) ∧ t ∈ [0, 1, 7] := by
          have hm := List.mem_of_getElem? hx
          simp only [List.mem_cons, List.not_mem_nil, or_false] at hm
          rcases hm with rfl | rfl | rfl | rfl
          · exact ⟨0, rfl, by decide⟩
          · exact ⟨0, rfl, by decide⟩
          · exact ⟨1, rfl, by decide⟩
          · exact ⟨7, rfl, by decide⟩
        have t7 : t ≤ 7 := by
          simp only [List.mem_cons, List.not_mem_nil, or_false] at ht
          omega
        have g04 : G2 m r S S4 := g2.trans ((G2.gr k1).trans g4)
        clear g2 k1 g4 e1 d2 d3 nl hx
        refine ⟨_, t, rfl, rfl, by omega, by show 1 ≤ 100; decide, by show 1 ≠ 0; decide, ?_⟩
        have ef4 := g04.lst nf1 nf2 ef
        obtain ⟨c0, hc0⟩ : ∃ z : Nat, (fn + s * i) % 26 = z := ⟨_, rfl⟩
        have c26 : c0 < 26 := by omega
        have ec : ((fn : Nat) + (s : Nat) * (0 + (i : Nat)) : Int) % 26 = (c0 : Nat) := by
          rw [← hc0]
          simp
        obtain ⟨o1, o2⟩ := nm_all c0 c26 j.toNat (by omega) t ht
        refine ⟨_, rfl, .inl ⟨rfl, _, .inl (.inl ef4)⟩, _, rfl, _, rfl, _, rfl, _, rfl, (s : Nat), 0 + (i : Nat), rfl, rfl, .inl ⟨?_, ?_⟩, _, _, rfl, rfl, _, 26, rfl, rfl, (by show (0 : Int) < 26; decide), ?_⟩
        · have : (-(2 ^ 64) : Int) = -18446744073709551616 := by decide
          rw [this]
          omega
        · have : ((2 ^ 64) : Int) = 18446744073709551616 := by decide
          rw [this]
          omega
        refine ⟨letters, (c0 : Nat), 97 + c0, rfl, by show V.int (((fn : Nat) + (s : Nat) * (0 + (i : Nat)) : Int) % 26) = _; rw [ec], by omega, hi63 _ (by omega), by rw [lz]; omega, letter_is _ (by omega), ?_⟩
        refine ⟨_, rfl, _, _, rfl, rfl, ?_, ?_⟩
        · rw [rep_len]
          refine Nat.le_of_lt (small1000 ?_)
          show 1 + t * 1 ≤ 1000
          omega
        refine ⟨fl, _, _, rfl, rfl, ef4, ?_, ?_⟩
        · rw [List.length_map]
          exact small1000 (by omega)
        refine ⟨_, _, ys ++ [nmZ c0 j.toNat t], rfl, ?_, ?_, ?_, (g.trans g04).upd_new hfl, ((d4.upd nf1 nf2 of_).mono (by omega))⟩
        · rw [upd_same, List.map_append]
          rfl
        · rw [List.map_append, hh, hds_succ]
          show hds fn s i ++ [hdZ (nmZ c0 j.toNat t)] = _
          rw [o2, hc0]
        · intro z hz
          rcases List.mem_append.mp hz with h | h
          · exact hn z h
          · rw [List.mem_singleton.mp h]
            exact o1
      case h3 =>
        rintro σ S ⟨y4, y8, ys, rfl, ef, hh, hn, g, d⟩
        have en : ((n : Nat) : Int).toNat = n := Int.toNat_natCast n
        rw [en] at hh
        have ly : ys.length = n := by
          have := congrArg List.length hh
          unfold hds at this
          rw [List.length_map, List.length_map, List.length_range] at this
          exact this
        refine ⟨_, rfl, fl, ys, rfl, .inl (.inl ef), by omega, fun zs l pm2 so nl => ?_⟩
        have len : zs.length = ys.length := pm2.length_eq
        obtain ⟨nl1, nl2⟩ := d.nm nl
        have hl := g.back l nl1 nl2 nl
        have ndy : ys.Nodup := by
          have := hds_nd (f := fn) (s := s) (i := n) (by omega) hs n8
          rw [← hh] at this
          exact nodup_map _ this
        refine q _ l zs (g.trans (G2.gr (Gr.new nl))) ((d.gr (Gr.new nl)).mono (by omega)) hl upd_same (sorted_up so pm2 ndy) (fun z hz => hn z (pm2.mem_iff.mp hz)) (by omega)
end
end SfC
namespace SfC
open PySem PySem.Spec PyProof.Rows L2 SfG
/-! ### kinds that are taken, drawn -/
abbrev nTaken : List Str := ["_law_m", "_law_hidden", "_law_found", "_law_k", "_law_one", "_law_many", "_law_plain"]
theorem scTaken : FnScope nTaken ["_law_m", "_law_hidden"] (defScope sTaken) := ⟨rfl, rfl, rfl, by decide +kernel, rfl, by decide +kernel, by decide +kernel⟩
theorem inV_kn {hd : List Str} {k : Kn} (h : goK hd k) : inV k.v (hd.map V.str) = k.isH := by
  cases k with
  | h s => exact inV_mem h
  | p n =>
    show inV (.int n) (hd.map V.str) = false
    unfold inV
    rw [List.any_map]
    exact List.any_eq_false.mpr fun y hy => by simp [eqV]
theorem flat_kn (k : Kn) : flatV k.v = true := by cases k <;> rfl
/-- hidden kinds as texts of a face -/
theorem hid_at {hd : List Str} {i : Nat} {x : V} (h : (hd.map V.str)[i]? = some x) : ∃ z, x = (Kn.h z).v ∧ goK hd (.h z) := by
  rw [List.getElem?_map] at h
  obtain ⟨z, hz, rfl⟩ := Option.map_eq_some_iff.mp h
  exact ⟨z, rfl, List.mem_of_getElem? hz⟩
theorem filt_take {tk : List Kn} {i : Nat} {k : Kn} (h : tk[i]? = some k) : (tk.take (i + 1)).filter Kn.isH = (tk.take i).filter Kn.isH ++ (if k.isH then [k] else []) := by
  rw [List.take_add_one, h, List.filter_append]
  cases hk : k.isH <;> simp [hk]
section
variable {P : Program} {w : World} {K : PySem.W.Frag} {mg : Str → Option Value} {base : Heap}
def spTaken (K : PySem.W.Frag) : Sp := fun vs H Q _ => ∃ (m r p : Addr) (a : Src) (cs : List Int) (hd : List Str) (B : Int), vs = [.ref m, .ref p] ∧ Dr K H m r a cs B ∧ B ≤ 900000 ∧ SqT K H p (hd.map V.str) ∧ 1 ≤ hd.length ∧ hd.length ≤ 2 ∧
  ∀ H' t (tk : List Kn), G2 m r H H' → Dr K H' m r a cs (B + 10) → H' t = some (.tup (tk.map Kn.v)) → tk.length ≤ 3 → (∀ k ∈ tk, goK hd k) → hidN tk ≤ 2 → Q (.ref t) H'
set_option maxHeartbeats 2000000 in
theorem ok_taken {f fD fO : Addr} {fd dD dO : FuncData} {k : Nat} (F : Fun K "_law_taken" "_law_taken" sTaken f fd) (HD : Has P w K mg base k "_law_draw" ["_law_m", "_law_many"] (spDrw K) fD dD) (HO_ : Has P w K mg base k "_law_of" ["_law_m", "_law_some"] (spOf K) fO dO)
    (ml : mg "len" = none) (mr : mg "range" = none) (mt : mg "tuple" = none) : FnOk P w K mg base CX0 (k + 1) f fd ["_law_m", "_law_hidden"] (spTaken K) := by
  refine F.ok scTaken (fun vs H Q E h => ?_) (fun cdv A outer s H vs Q E hr h => ?_)
  · obtain ⟨m, r, p, a, cs, hd, B, rfl, _⟩ := h
    rfl
  · obtain ⟨m, r, p, a, cs, hd, B, rfl, d0, hB, hp, lo, hi, q⟩ := h
    have nd := scTaken.nd
    refine' ⟨_, pss_cons ?s1 (pss_cons ?s2 (pss_one ?s3)), ?rd⟩
    case s1 => exact ps_set (i := 2) nd rfl (.inl rfl) (pe_lst pa_nil)
    case s2 =>
      refine' ps_for PassesOwn.never rfl (pi_range1 (by rfl) mr (pa_cons (hcall HO_ hr (pa_cons (pv 0) (pa_cons (pe_lst (pa_cons pe_int (pa_cons pe_int (pa_cons pe_int (pa_cons pe_int (pa_cons pe_int (pa_cons pe_int (pa_cons pe_int pa_nil)))))))) pa_nil))) pa_nil)) (pg_name (i := 3) nd rfl (.inl rfl))
        (pss_cons ?b1 (pss_cons ?b2 (pss_one ?b3)))
      case b1 =>
        exact ps_set (i := 5) nd rfl (.inl rfl) (pe_callB call_len_seq (by rfl) ml PySem.boot_len (pa_cons (pe_lc (own := [("_law_one", 4)]) (g := gName 4) rfl nd (pi_list (pv 2)) (blkOk_by (own := [("_law_one", 4)]) (N := nTaken) (sc := defScope sTaken) (by decide +kernel))
          (fun _ _ _ _ _ => pg_name (i := 4) nd rfl (.inl rfl)) (fun _ _ _ _ _ => pts_one (pt_cmpR (r := rIn K false) op_in_seq (pv 4) (pv 1) rfl)) (fun _ _ _ _ _ => pv 4)) pa_nil))
      case b2 => exact ps_set (i := 6) nd rfl (.inl rfl) (hcall HO_ hr (pa_cons (pv 0) (pa_cons (pe_lst (pa_cons pe_int (pa_cons pe_int (pa_cons pe_int (pa_cons pe_int pa_nil))))) pa_nil)))
      case b3 =>
        exact ps_expr (pe_bm PySem.F.plainAttrs_list PySem.F.slot_list_append PySem.F.type_list_append mt_append (pv 2) (pa_cons (pe_ifExp (PW.pt (pw_and (pt_cmpR op_lt (pv 5) pe_int (nomark _)) (pw_and1 (pt_cmpR op_gt (hcall HD hr (pa_cons (pv 0) (pa_cons pe_int pa_nil))) pe_int (nomark _)))))
          (hcall HO_ hr (pa_cons (pv 0) (pa_cons (pv 1) pa_nil))) (pv 6)) pa_nil))
    case s3 => exact ps_ret (pe_callTy call_tuple_of (by rfl) mt (by decide +kernel) (pa_cons (pv 2) pa_nil))
    case rd =>
    refine ⟨by show 0 ≤ sizeLine; decide, fun fl nfl => ?_⟩
    obtain ⟨nf1, nf2⟩ := d0.nm nfl
    have of_ := d0.off nfl
    have k0 : Gr H (upd H fl (.lst [])) := Gr.new nfl
    have e0 : upd H fl (.lst []) fl = some (.lst []) := upd_same
    have d1 := d0.gr k0
    generalize upd H fl (.lst []) = H1 at k0 e0 d1 ⊢
    refine ⟨_, rfl, by show 7 ≤ sizeLine; decide, fun l nl => ?_⟩
    have k1 : Gr H1 (upd H1 l (.lst [.int 0, .int 1, .int 1, .int 1, .int 2, .int 2, .int 3])) := Gr.new nl
    have e1 : upd H1 l (.lst [.int 0, .int 1, .int 1, .int 1, .int 2, .int 2, .int 3]) l = some (.lst [.int 0, .int 1, .int 1, .int 1, .int 2, .int 2, .int 3]) := upd_same
    obtain ⟨nl1, nl2⟩ := d1.nm nl
    have d2 := d1.gr k1
    have e0' := k1.lst e0
    generalize upd H1 l (.lst [.int 0, .int 1, .int 1, .int 1, .int 2, .int 2, .int 3]) = H2 at k1 e1 d2 e0' ⊢
    refine ⟨m, r, l, a, cs, _, _, rfl, d2, by omega, .inl ⟨.inl (.inl e1), nl1, nl2⟩, by simp, by decide, fun H3 ix x g3 d3 hx => ?_⟩
    obtain ⟨t, rfl, ht⟩ : ∃ t : Nat, x = .int (t : Nat) ∧ t ≤ 3 := by
      have hm := List.mem_of_getElem? hx
      simp only [List.mem_cons, List.not_mem_nil, or_false] at hm
      rcases hm with rfl | rfl | rfl | rfl | rfl | rfl | rfl
      · exact ⟨0, rfl, by decide⟩
      · exact ⟨1, rfl, by decide⟩
      · exact ⟨1, rfl, by decide⟩
      · exact ⟨1, rfl, by decide⟩
      · exact ⟨2, rfl, by decide⟩
      · exact ⟨2, rfl, by decide⟩
      · exact ⟨3, rfl, by decide⟩
    have e3 := g3.lst nf1 nf2 e0'
    have gg : G2 m r H H3 := (G2.gr (k0.trans k1)).trans g3
    clear k0 e0 d1 k1 e1 d2 e0' g3 nl hx
    refine ⟨(t : Nat), rfl, by omega, by omega, ?_⟩
    refine for_it (walk_range (lo := 0) (n := ((t : Nat) : Int).toNat)) (fun i σ S => ∃ (y3 y5 y6 : Option V) (tk : List Kn), σ = [some (.ref m), some (.ref p), some (.ref fl), y3, none, y5, y6] ∧
      S fl = some (.lst (tk.map Kn.v)) ∧ tk.length = i ∧ (∀ k ∈ tk, goK hd k) ∧ hidN tk ≤ 2 ∧ G2 m r H S ∧ Dr K S m r a cs (B + 1 + 3 * (i : Int)))
      ⟨none, none, none, [], rfl, e3, rfl, by simp, by show 0 ≤ 2; decide, gg, d3.mono (by omega)⟩ (fun _ _ _ _ _ => trivial) ?h2 ?h3
    case h2 =>
      rintro i y σ S' S hi ⟨y3, y5, y6, tk, rfl, ef, li, gk, h2, g, d⟩ ⟨rfl, rfl⟩
      have i3 : i < t := by omega
      have hpS := (d0.kt g) hp
      refine ⟨_, rfl, fl, rfl, ⟨_, .inl (.inl ef)⟩, fun D nD => ?_⟩
      refine lc_it (walk_list (xs := tk.map Kn.v)) (fun j S2 => S2 D = some (.lst (((tk.take j).filter Kn.isH).map Kn.v)) ∧ Gr S S2) ⟨upd_same, Gr.new nD⟩ ?c0 ?c1 ?c2
      case c0 =>
        rintro j S2 hj ⟨_, g2⟩
        exact .inl (.inl (g2.lst ef))
      case c1 =>
        rintro j z S2' S2 hj ⟨eD, g2⟩ ⟨rfl, hz⟩
        rw [List.getElem?_map] at hz
        obtain ⟨kn, hkn, rfl⟩ := Option.map_eq_some_iff.mp hz
        have gkn := gk kn (List.mem_of_getElem? hkn)
        refine ⟨rfl, _, rfl, _, rfl, p, _, rfl, .inr (g2.sqt hpS), flat_kn kn, flat_strs hd, _, rfl, ?_⟩
        rw [show (if false = true then !inV kn.v (hd.map V.str) else inV kn.v (hd.map V.str)) = kn.isH from inV_kn gkn]
        cases hk : kn.isH with
        | false =>
          refine iteF ⟨?_, g2⟩
          rw [filt_take hkn, hk]
          simpa using eD
        | true =>
          refine iteT ⟨_, rfl, _, eD, ?_, ?_, g2.upd_new nD⟩
          · rw [List.length_map]
            refine small1000 ?_
            have := List.length_filter_le Kn.isH (tk.take j)
            rw [List.length_take] at this
            omega
          · rw [upd_same, filt_take hkn, hk, List.map_append]
            rfl
      case c2 =>
      rintro S2 ⟨eD, g2⟩
      rw [List.length_map, List.take_length] at eD
      have ef2 := g2.lst ef
      refine ⟨D, _, rfl, .inl (.inl (.inl eD)), ?_⟩
      rw [List.length_map]
      have d2 := d.gr g2
      -- a plain kind
      refine ⟨_, rfl, by show 4 ≤ sizeLine; decide, fun l nl => ?_⟩
      have k1 : Gr S2 (upd S2 l (.lst [.int 2, .int 2, .int 3, .int 4])) := Gr.new nl
      have e1 : upd S2 l (.lst [.int 2, .int 2, .int 3, .int 4]) l = some (.lst [.int 2, .int 2, .int 3, .int 4]) := upd_same
      obtain ⟨nl1, nl2⟩ := d2.nm nl
      have d3 := d2.gr k1
      have ef3 := k1.lst ef2
      generalize upd S2 l (.lst [.int 2, .int 2, .int 3, .int 4]) = S3 at k1 e1 d3 ef3 ⊢
      refine ⟨m, r, l, a, cs, _, _, rfl, d3, by omega, .inl ⟨.inl (.inl e1), nl1, nl2⟩, by simp, by decide, fun S4 ix x g4 d4 hx => ?_⟩
      obtain ⟨pl, rfl, hpl⟩ : ∃ pl : Int, x = (Kn.p pl).v ∧ goK hd (.p pl) := by
        have hm := List.mem_of_getElem? hx
        simp only [List.mem_cons, List.not_mem_nil, or_false] at hm
        rcases hm with rfl | rfl | rfl | rfl
        · exact ⟨2, rfl, by decide, by decide⟩
        · exact ⟨2, rfl, by decide, by decide⟩
        · exact ⟨3, rfl, by decide, by decide⟩
        · exact ⟨4, rfl, by decide, by decide⟩
      have ef4 := g4.lst nf1 nf2 ef3
      have g04 : G2 m r H S4 := g.trans ((G2.gr (g2.trans k1)).trans g4)
      have hp4 := (d0.kt g04) hp
      refine ⟨_, rfl, .inl ⟨rfl, _, .inl (.inl ef4)⟩, ?_⟩
      have fin : ∀ (S5 : Hp) (kz : Kn), G2 m r S4 S5 → Dr K S5 m r a cs (B + 1 + 3 * (i : Int) + 1 + 1 + 1) → goK hd kz → hidN (tk ++ [kz]) ≤ 2 → ∃ (y3 y5 y6 : Option V) (tk' : List Kn), [some (V.ref m), some (V.ref p), some (V.ref fl), some (V.int (0 + (i : Int))), none, some (V.int (((tk.filter Kn.isH).length : Nat) : Int)), some (Kn.p pl).v] = [some (V.ref m), some (V.ref p), some (V.ref fl), y3, none, y5, y6] ∧
          upd S5 fl (.lst (tk.map Kn.v ++ [kz.v])) fl = some (.lst (tk'.map Kn.v)) ∧ tk'.length = i + 1 ∧ (∀ k ∈ tk', goK hd k) ∧ hidN tk' ≤ 2 ∧ G2 m r H (upd S5 fl (.lst (tk.map Kn.v ++ [kz.v]))) ∧ Dr K (upd S5 fl (.lst (tk.map Kn.v ++ [kz.v]))) m r a cs (B + 1 + 3 * ((i + 1 : Nat) : Int)) := by
        intro S5 kz g5 d5 hz h2'
        refine ⟨_, _, _, tk ++ [kz], rfl, ?_, ?_, ?_, h2', (g04.trans g5).upd_new nfl, (d5.upd nf1 nf2 of_).mono (by omega)⟩
        · rw [upd_same, List.map_append]
          rfl
        · rw [List.length_append, li]
          rfl
        · intro k hk
          rcases List.mem_append.mp hk with h | h
          · exact gk k h
          · rw [List.mem_singleton.mp h]
            exact hz
      have hNk : hidN tk = (tk.filter Kn.isH).length := rfl
      have plain2 : ∀ (S5 : Hp), hidN (tk ++ [Kn.p pl]) ≤ 2 := fun _ => by
        rw [hidN_snoc]
        exact h2
      refine ⟨_, rfl, _, 2, rfl, rfl, _, rfl, ?_⟩
      by_cases hlt : hidN tk < 2
      · rw [decide_eq_true (show (((tk.filter Kn.isH).length : Nat) : Int) < 2 by omega)]
        refine iteT ⟨_, rfl, m, r, a, cs, 3, _, rfl, d4, by omega, by decide, by decide, fun S5 dg g5 d5 z0 z1 => ⟨dg, 0, rfl, rfl, _, rfl, ?_⟩⟩
        have ef5 := g5.lst nf1 nf2 ef4
        by_cases hg : dg > 0
        · rw [decide_eq_true hg]
          refine iteT ⟨_, rfl, _, rfl, m, r, p, a, cs, hd.map V.str, _, rfl, d5, by omega, .inr (d4.kt g5 hp4), ?_, ?_, fun S6 ix x g6 d6 hx => ?_⟩
          · intro e
            have := congrArg List.length e
            rw [List.length_map] at this
            have z : hd.length = 0 := this
            omega
          · rw [List.length_map]
            omega
          obtain ⟨z, rfl, hz⟩ := hid_at hx
          refine ⟨fl, _, _, rfl, rfl, g6.lst nf1 nf2 ef5, ?_, fin S6 (.h z) (g5.trans g6) (d6.mono (by omega)) hz ?_⟩
          · rw [List.length_map]
            exact small1000 (by omega)
          · rw [hidN_snoc]
            show hidN tk + 1 ≤ 2
            omega
        · rw [decide_eq_false hg]
          refine iteF ⟨_, rfl, fl, _, _, rfl, rfl, ef5, ?_, fin S5 (.p pl) g5 (d5.mono (by omega)) hpl (plain2 S5)⟩
          rw [List.length_map]
          exact small1000 (by omega)
      · rw [decide_eq_false (show ¬ (((tk.filter Kn.isH).length : Nat) : Int) < 2 by omega)]
        refine iteF ⟨_, rfl, fl, _, _, rfl, rfl, ef4, ?_, fin S4 (.p pl) (G2.refl _ _ _) (d4.mono (by omega)) hpl (plain2 S4)⟩
        rw [List.length_map]
        exact small1000 (by omega)
    case h3 =>
      rintro σ S ⟨y3, y5, y6, tk, rfl, ef, li, gk, h2, g, d⟩
      refine ⟨_, rfl, fl, _, rfl, .inl ⟨.inl (.inl ef), fun td ntd => ?_⟩⟩
      exact q _ td tk (g.trans (G2.gr (Gr.new ntd))) ((d.gr (Gr.new ntd)).mono (by omega)) upd_same (by omega) gk h2
end
end SfC
namespace SfC
open PySem PySem.Spec PyProof.Rows L2 SfG
/-! ### faces, drawn -/
abbrev nLFace : List Str := ["_law_m", "_law_most", "_law_hidden", "_law_names_here", "_law_start", "_law_deeds", "_law_at", "_law_name", "_law_gives", "_law_takes", "_law_kind"]
theorem scLFace : FnScope nLFace ["_law_m", "_law_most"] (defScope sLFace) := ⟨rfl, rfl, rfl, by decide +kernel, rfl, by decide +kernel, by decide +kernel⟩
/-- a deed that may stand first -/
def Plain (e : De) : Prop := ∀ k ∈ e.tk, k.isH = false
theorem filt_takeN {tk : List Kn} {i : Nat} {k : Kn} (h : tk[i]? = some k) : (tk.take (i + 1)).filter (fun k => !k.isH) = (tk.take i).filter (fun k => !k.isH) ++ (if k.isH then [] else [k]) := by
  rw [List.take_add_one, h, List.filter_append]
  cases hk : k.isH <;> simp [hk]
theorem gives_at {hd : List Str} {y : Int} (h2 : 2 ≤ y) (h9 : y ≤ 9) {i : Nat} {x : V} (h : ((List.replicate 3 (hd.map V.str)).flatten ++ [V.int 2, .int y])[i]? = some x) : ∃ kn : Kn, x = kn.v ∧ goK hd kn := by
  have hm := List.mem_of_getElem? h
  rcases List.mem_append.mp hm with h | h
  · obtain ⟨l, hl, hx⟩ := List.mem_flatten.mp h
    rw [List.eq_of_mem_replicate hl] at hx
    obtain ⟨z, hz, rfl⟩ := List.mem_map.mp hx
    exact ⟨.h z, rfl, hz⟩
  · simp only [List.mem_cons, List.not_mem_nil, or_false] at h
    rcases h with rfl | rfl
    · exact ⟨.p 2, rfl, by decide, by decide⟩
    · exact ⟨.p y, rfl, h2, h9⟩
theorem dp_kv {K : PySem.W.Frag} {H : Hp} (k : Kn) : Dp K H k.v k.d := by
  cases k with
  | h s => exact .str s
  | p n => exact .int n
theorem dpA_kvs {K : PySem.W.Frag} {H : Hp} : ∀ tk : List Kn, DpAll K H (tk.map Kn.v) (tk.map Kn.d)
  | [] => .nil
  | k :: r => .cons (dp_kv k) (dpA_kvs r)
theorem dpA_svs {K : PySem.W.Frag} {H : Hp} : ∀ l : List Str, DpAll K H (l.map V.str) (l.map PyData.str)
  | [] => .nil
  | a :: r => .cons (.str a) (dpA_svs r)
section
variable {P : Program} {w : World} {K : PySem.W.Frag} {mg : Str → Option Value} {base : Heap}
def spLFace (K : PySem.W.Frag) : Sp := fun vs H Q _ => ∃ (m r : Addr) (a : Src) (cs : List Int) (B : Int), vs = [.ref m, .int 6] ∧ Dr K H m r a cs B ∧ B ≤ 800000 ∧
  ∀ H' v (f : Fc), G2 m r H H' → Dr K H' m r a cs (B + 200) → Dp K H' v f.d → goF f → (∃ e ∈ f.ds, Plain e) → Q v H'
set_option maxHeartbeats 4000000 in
theorem ok_lface {f fD fO fN fT : Addr} {fd dD dO dN dT : FuncData} {k : Nat} (F : Fun K "_law_face" "_law_face" sLFace f fd) (HD : Has P w K mg base k "_law_draw" ["_law_m", "_law_many"] (spDrw K) fD dD) (HO_ : Has P w K mg base k "_law_of" ["_law_m", "_law_some"] (spOf K) fO dO)
    (HN : Has P w K mg base k "_law_names" ["_law_m", "_law_many"] (spLNames K) fN dN) (HT : Has P w K mg base k "_law_taken" ["_law_m", "_law_hidden"] (spTaken K) fT dT)
    (ml : mg "len" = none) (me : mg "enumerate" = none) (mt : mg "tuple" = none) (mli : mg "list" = none) : FnOk P w K mg base CX0 (k + 1) f fd ["_law_m", "_law_most"] (spLFace K) := by
  refine F.ok scLFace (fun vs H Q E h => ?_) (fun cdv A outer s H vs Q E hr h => ?_)
  · obtain ⟨m, r, a, cs, B, rfl, _⟩ := h
    rfl
  · obtain ⟨m, r, a, cs, B, rfl, d0, hB, q⟩ := h
    have nd := scLFace.nd
    refine' ⟨_, pss_cons ?s1 (pss_cons ?s2 (pss_cons ?s3 (pss_cons ?s4 (pss_cons ?s5 (pss_one ?s6))))), ?rd⟩
    case s1 => exact ps_set (i := 2) nd rfl (.inr rfl) (pe_callTy call_tuple_of (by rfl) mt (by decide +kernel) (pa_cons (hcall HN hr (pa_cons (pv 0) (pa_cons (pe_op op_add pe_int (hcall HD hr (pa_cons (pv 0) (pa_cons pe_int pa_nil)))) pa_nil))) pa_nil))
    case s2 => exact ps_set (i := 3) nd rfl (.inl rfl) (hcall HN hr (pa_cons (pv 0) (pa_cons (pe_op op_add pe_int (hcall HD hr (pa_cons (pv 0) (pa_cons (pe_op op_sub (pv 1) pe_int) pa_nil)))) pa_nil)))
    case s3 => exact ps_set (i := 4) nd rfl (.inl rfl) (hcall HD hr (pa_cons (pv 0) (pa_cons (pe_callB call_len_seq (by rfl) ml PySem.boot_len (pa_cons (pv 3) pa_nil)) pa_nil)))
    case s4 => exact ps_set (i := 5) nd rfl (.inl rfl) (pe_lst pa_nil)
    case s5 =>
      refine' ps_for PassesOwn.never rfl (pi_enum (by rfl) me (pa_cons (pv 3) pa_nil)) (pg_tup rfl (pgs_cons (pg_name (i := 6) nd rfl (.inl rfl)) (pgs_cons (pg_name (i := 7) nd rfl (.inl rfl)) pgs_nil)))
        (pss_cons ?b1 (pss_cons ?b2 (pss_cons ?b3 (pss_one ?b4))))
      case b1 =>
        exact ps_set (i := 8) nd rfl (.inl rfl) (hcall HO_ hr (pa_cons (pv 0) (pa_cons (pe_op op_cat (pe_op op_rep (pe_callTy call_list_of (by rfl) mli (by decide +kernel) (pa_cons (pv 2) pa_nil)) pe_int)
          (pe_lst (pa_cons pe_int (pa_cons (hcall HO_ hr (pa_cons (pv 0) (pa_cons (pe_lst (pa_cons pe_int (pa_cons pe_int (pa_cons pe_int (pa_cons pe_int pa_nil))))) pa_nil))) pa_nil)))) pa_nil)))
      case b2 => exact ps_set (i := 9) nd rfl (.inl rfl) (hcall HT hr (pa_cons (pv 0) (pa_cons (pv 2) pa_nil)))
      case b3 =>
        exact ps_if (pt_cmpR op_eq (pv 6) (pv 4) (nomark _)) (pss_one (ps_par (i := 8) (j := 9) rfl nd rfl rfl (by decide) rfl rfl (pa_cons (pe_ix ix_tup (pv 2) pe_int (fun _ _ => rfl)) (pa_cons (pe_callTy call_tuple_of (by rfl) mt (by decide +kernel)
          (pa_cons (pe_lc (own := [("_law_kind", 10)]) (g := gName 10) rfl nd (pi_tup (pv 9)) (blkOk_by (own := [("_law_kind", 10)]) (N := nLFace) (sc := defScope sLFace) (by decide +kernel)) (fun _ _ _ _ _ => pg_name (i := 10) nd rfl (.inl rfl))
            (fun _ _ _ _ _ => pts_one (pt_cmpR (r := rIn K true) op_notIn_seq (pv 10) (pv 2) rfl)) (fun _ _ _ _ _ => pv 10)) pa_nil)) pa_nil)) (by rfl))) pss_nil
      case b4 => exact ps_expr (pe_bm PySem.F.plainAttrs_list PySem.F.slot_list_append PySem.F.type_list_append mt_append (pv 5) (pa_cons (pe_tup (pa_cons (pv 7) (pa_cons (pv 9) (pa_cons (pv 8) pa_nil)))) pa_nil))
    case s6 => exact ps_ret (pe_tup (pa_cons (pv 2) (pa_cons (pe_callTy call_tuple_of (by rfl) mt (by decide +kernel) (pa_cons (pv 5) pa_nil)) pa_nil)))
    case rd =>
    -- hidden
    refine ⟨_, rfl, _, rfl, m, r, a, cs, 2, _, rfl, d0, by omega, by decide, by decide, fun H1 x1 g1 d1 x10 x11 => ⟨1, x1, rfl, rfl, ?_⟩⟩
    obtain ⟨h1, e1⟩ : ∃ n : Nat, 1 + x1 = (n : Int) := ⟨(1 + x1).toNat, by omega⟩
    refine ⟨m, r, a, cs, h1, _, by show [V.ref m, V.int (1 + x1)] = _; rw [e1], d1, by omega, by omega, by omega, fun H2 l2 hd g2 d2 n2 e2 up2 nm2 len2 => ?_⟩
    refine ⟨l2, _, rfl, .inl ⟨.inl (.inl e2), fun ph nph => ?_⟩⟩
    have k3 : Gr H2 (upd H2 ph (.tup (hd.map V.str))) := Gr.new nph
    have e3 : upd H2 ph (.tup (hd.map V.str)) ph = some (.tup (hd.map V.str)) := upd_same
    have d3 := d2.gr k3
    have g3 : G2 m r H (upd H2 ph (.tup (hd.map V.str))) := g1.trans (g2.trans (G2.gr k3))
    generalize upd H2 ph (.tup (hd.map V.str)) = H3 at k3 e3 d3 g3 ⊢
    have sh3 : SqT K H3 ph (hd.map V.str) := .inl (.inl e3)
    have ghd : goH hd := ⟨by omega, by omega, nm2, up2⟩
    clear g1 g2 k3 d1 d2 n2 e2 nph x10
    -- names
    refine ⟨_, rfl, _, rfl, _, rfl, 6, 1, rfl, rfl, m, r, a, cs, 5, _, rfl, d3, by omega, by decide, by decide, fun H4 x4 g4 d4 x40 x41 => ⟨2, x4, rfl, rfl, ?_⟩⟩
    obtain ⟨h4, e4⟩ : ∃ n : Nat, 2 + x4 = (n : Int) := ⟨(2 + x4).toNat, by omega⟩
    refine ⟨m, r, a, cs, h4, _, by show [V.ref m, V.int (2 + x4)] = _; rw [e4], d4, by omega, by omega, by omega, fun H5 nl ys g5 d5 n5 e5 up5 nm5 len5 => ?_⟩
    obtain ⟨nn1, nn2⟩ := d4.nm n5
    have g35 := g4.trans g5
    -- start
    refine ⟨_, rfl, _, rfl, nl, _, rfl, .inl (.inl (.inl e5)), m, r, a, cs, _, _, rfl, d5, by omega, ?_, ?_, fun H6 st g6 d6 st0 st1 => ?_⟩
    · rw [List.length_map]
      omega
    · rw [List.length_map]
      omega
    rw [List.length_map] at st1
    obtain ⟨sn, rfl⟩ : ∃ n : Nat, st = (n : Int) := ⟨st.toNat, by omega⟩
    have e6 := g6.lst nn1 nn2 e5
    have g06 : G2 m r H H6 := g3.trans (g35.trans g6)
    -- deeds
    refine ⟨by show 0 ≤ sizeLine; decide, fun dl ndl => ?_⟩
    obtain ⟨nd1, nd2⟩ := d6.nm ndl
    have od := d6.off ndl
    have k7 : Gr H6 (upd H6 dl (.lst [])) := Gr.new ndl
    have e7 : upd H6 dl (.lst []) dl = some (.lst []) := upd_same
    have hdl := g06.back dl nd1 nd2 ndl
    have d7 := d6.gr k7
    have en7 := k7.lst e6
    have nnd : nl ≠ dl := ne_of_none e6 ndl
    have sh7 : SqT K (upd H6 dl (.lst [])) ph (hd.map V.str) := k7.sqt (d3.kt (g35.trans g6) sh3)
    have g07 : G2 m r H (upd H6 dl (.lst [])) := g06.trans (G2.gr k7)
    generalize upd H6 dl (.lst []) = H7 at k7 e7 d7 en7 sh7 g07 ⊢
    clear k7 d3 d4 d5 d6 g3 g4 g5 g6 g35 g06 e5 e6 sh3 n5 ndl e3
    refine ⟨_, rfl, nl, ys.map V.str, rfl, .inl (.inl en7), for_it (walk_enum (xs := ys.map V.str)) (fun i σ S => ∃ (y6 y7 y8 y9 : Option V) (xs : List V) (es : List De), σ = [some (.ref m), some (.int 6), some (.ref ph), some (.ref nl), some (.int (sn : Nat)), some (.ref dl), y6, y7, y8, y9, none] ∧
      S dl = some (.lst xs) ∧ DpAll K S xs (es.map De.d) ∧ es.length = i ∧ es.map De.nm = ys.take i ∧ (∀ e ∈ es, goD hd e) ∧ (sn < i → ∃ e ∈ es, Plain e) ∧ S nl = some (.lst (ys.map V.str)) ∧ SqT K S ph (hd.map V.str) ∧ G2 m r H S ∧ Dr K S m r a cs (B + 50 + 20 * (i : Int)))
      ⟨none, none, none, none, [], [], rfl, e7, .nil, rfl, rfl, by simp, fun h => absurd h (Nat.not_lt_zero _), en7, sh7, g07, d7.mono (by omega)⟩ ?h1 ?h2 ?h3⟩
    case h1 =>
      rintro i σ S hi ⟨y6, y7, y8, y9, xs, es, rfl, ed, de, le, nme, ge, pe, en, sh, g, d⟩
      exact .inl (.inl en)
    case h3 =>
      rintro σ S ⟨y6, y7, y8, y9, xs, es, rfl, ed, de, le, nme, ge, pe, en, sh, g, d⟩
      have ly : (ys.map V.str).length = ys.length := List.length_map _
      rw [ly] at le nme pe
      rw [List.take_length] at nme
      refine ⟨_, rfl, _, rfl, dl, _, rfl, .inl ⟨.inl (.inl ed), fun td ntd => ?_⟩⟩
      have k1 : Gr S (upd S td (.tup xs)) := Gr.new ntd
      have e1 : upd S td (.tup xs) td = some (.tup xs) := upd_same
      have d1 := d.gr k1
      generalize upd S td (.tup xs) = S1 at k1 e1 d1 ⊢
      refine ⟨by show 2 ≤ sizeLine; decide, fun tf ntf => ?_⟩
      have k2 : Gr S1 (upd S1 tf (.tup [.ref ph, .ref td])) := Gr.new ntf
      have gf : goF ⟨hd, es⟩ := ⟨ghd, by show 1 ≤ es.length; omega, by show es.length ≤ 8; omega, by show (es.map De.nm).Pairwise lt; rw [nme]; exact up5, ge⟩
      refine q _ (.ref tf) ⟨hd, es⟩ (g.trans (G2.gr (k1.trans k2))) ((d1.gr k2).mono (by omega)) ?_ gf (pe (by omega))
      exact .tup (.inl (.inl upd_same)) (.cons (.tup ((k1.trans k2).sqt sh) (dpA_svs hd)) (.cons (.tup (.inl (.inl (k2.tup e1))) ((k1.trans k2).kd.dpA de)) .nil))
    case h2 =>
      rintro i v σ S S' hi ⟨y6, y7, y8, y9, xs, es, rfl, ed, de, le, nme, ge, pe, en, sh, g, d⟩ ⟨T, kx, cx, rfl, nT, rfl, ek, ec⟩
      cases ek
      replace ec : (ys.map V.str)[i]? = some cx := ec
      have iy : i < ys.length := by
        have := lt_of_at ec
        rw [List.length_map] at this
        exact this
      rw [List.getElem?_map] at ec
      obtain ⟨nm, hnm, rfl⟩ := Option.map_eq_some_iff.mp ec
      have inm := nm5 nm (List.mem_of_getElem? hnm)
      have ys6 : ys.length ≤ 6 := by omega
      refine ⟨T, [.int (i : Nat), .str nm], rfl, .inl (.inl upd_same), rfl, .int (i : Nat), [.str nm], rfl, .str nm, [], rfl, rfl, ?_⟩
      have k1 : Gr S (upd S T (.tup [.int (i : Nat), .str nm])) := Gr.new nT
      have d1 := d.gr k1
      have g1 : G2 m r S (upd S T (.tup [.int (i : Nat), .str nm])) := G2.gr k1
      have sh1 := k1.sqt (K := K) sh
      generalize upd S T (.tup [.int (i : Nat), .str nm]) = S1 at k1 d1 g1 sh1 ⊢
      -- what is given
      refine ⟨_, rfl, _, rfl, ph, _, rfl, .inr sh1, fun hl nhl => ⟨hl, 3, _, rfl, rfl, upd_same, lo63 _ (by decide), hi63 _ (by decide), ?_, fun rl nrl => ?_⟩⟩
      · rw [List.length_map]
        refine Nat.le_of_lt (small1000 ?_)
        show hd.length * 3 ≤ 1000
        omega
      have k2 : Gr S1 (upd (upd S1 hl (.lst (hd.map V.str))) rl (.lst (List.replicate 3 (hd.map V.str)).flatten)) := (Gr.new nhl).trans (Gr.new nrl)
      have e2 : upd (upd S1 hl (.lst (hd.map V.str))) rl (.lst (List.replicate 3 (hd.map V.str)).flatten) rl = some (.lst (List.replicate 3 (hd.map V.str)).flatten) := upd_same
      obtain ⟨nr1, nr2⟩ := (d1.gr (Gr.new (o := .lst (hd.map V.str)) nhl)).nm nrl
      have d2 := d1.gr k2
      change tLst _ _ (upd (upd S1 hl (.lst (hd.map V.str))) rl (.lst (List.replicate 3 (hd.map V.str)).flatten)) _
      generalize upd (upd S1 hl (.lst (hd.map V.str))) rl (.lst (List.replicate 3 (hd.map V.str)).flatten) = S2 at k2 e2 d2 ⊢
      refine ⟨_, rfl, by show 4 ≤ sizeLine; decide, fun l nl' => ?_⟩
      have k3 : Gr S2 (upd S2 l (.lst [.int 2, .int 3, .int 5, .int 9])) := Gr.new nl'
      have e3 : upd S2 l (.lst [.int 2, .int 3, .int 5, .int 9]) l = some (.lst [.int 2, .int 3, .int 5, .int 9]) := upd_same
      obtain ⟨nl1, nl2⟩ := d2.nm nl'
      have d3 := d2.gr k3
      generalize upd S2 l (.lst [.int 2, .int 3, .int 5, .int 9]) = S3 at k3 e3 d3 ⊢
      refine ⟨m, r, l, a, cs, _, _, rfl, d3, by omega, .inl ⟨.inl (.inl e3), nl1, nl2⟩, by simp, by decide, fun S4 ix x g4 d4 hx => ?_⟩
      obtain ⟨y, rfl, y2, y9'⟩ : ∃ y : Int, x = .int y ∧ 2 ≤ y ∧ y ≤ 9 := by
        have hm := List.mem_of_getElem? hx
        simp only [List.mem_cons, List.not_mem_nil, or_false] at hm
        rcases hm with rfl | rfl | rfl | rfl
        · exact ⟨2, rfl, by decide, by decide⟩
        · exact ⟨3, rfl, by decide, by decide⟩
        · exact ⟨5, rfl, by decide, by decide⟩
        · exact ⟨9, rfl, by decide, by decide⟩
      have e4 := g4.lst nr1 nr2 (k3.lst e2)
      have g14 : G2 m r S1 S4 := (G2.gr (k2.trans k3)).trans g4
      refine ⟨by show 2 ≤ sizeLine; decide, fun l2 nl2' => ?_⟩
      have k5 : Gr S4 (upd S4 l2 (.lst [.int 2, .int y])) := Gr.new nl2'
      have e5 : upd S4 l2 (.lst [.int 2, .int y]) l2 = some (.lst [.int 2, .int y]) := upd_same
      have e45 := k5.lst e4
      have d5 := d4.gr k5
      generalize upd S4 l2 (.lst [.int 2, .int y]) = S5 at k5 e5 e45 d5 ⊢
      have lr : (List.replicate 3 (hd.map V.str)).flatten.length ≤ 6 := by
        show (hd.map V.str ++ (hd.map V.str ++ (hd.map V.str ++ []))).length ≤ 6
        simp
        omega
      refine ⟨rl, l2, _, _, rfl, rfl, e45, e5, ?_, fun l3 nl3 => ?_⟩
      · refine Nat.le_of_lt (small1000 ?_)
        show _ + 2 ≤ 1000
        omega
      have k6 : Gr S5 (upd S5 l3 (.lst ((List.replicate 3 (hd.map V.str)).flatten ++ [.int 2, .int y]))) := Gr.new nl3
      have e6 : upd S5 l3 (.lst ((List.replicate 3 (hd.map V.str)).flatten ++ [.int 2, .int y])) l3 = some (.lst ((List.replicate 3 (hd.map V.str)).flatten ++ [.int 2, .int y])) := upd_same
      obtain ⟨nl31, nl32⟩ := d5.nm nl3
      have d6 := d5.gr k6
      generalize upd S5 l3 (.lst ((List.replicate 3 (hd.map V.str)).flatten ++ [.int 2, .int y])) = S6 at k6 e6 d6 ⊢
      refine ⟨m, r, l3, a, cs, _, _, rfl, d6, by omega, .inl ⟨.inl (.inl e6), nl31, nl32⟩, ?_, ?_, fun S7 ix7 x7 g7 d7 hx7 => ?_⟩
      · intro z
        have := congrArg List.length z
        rw [List.length_append] at this
        have z2 : (List.replicate 3 (hd.map V.str)).flatten.length + 2 = 0 := this
        omega
      · rw [List.length_append]
        show _ + 2 ≤ 1000
        omega
      obtain ⟨kn, rfl, gkn⟩ := gives_at y2 y9' hx7
      have g17 : G2 m r S1 S7 := g14.trans ((G2.gr (k5.trans k6)).trans g7)
      clear k2 e2 d2 k3 e3 d3 g4 d4 e4 g14 k5 e5 e45 d5 k6 e6 d6 g7 hx hx7 nhl nrl nl' nl2' nl3
      -- what is taken
      refine ⟨_, rfl, _, rfl, m, r, ph, a, cs, hd, _, rfl, d7, by omega, d1.kt g17 sh1, ghd.lo, ghd.hi, fun S8 t tk g8 d8 e8 l3' gk h2 => ?_⟩
      have g18 := g17.trans g8
      have gS8 := g1.trans g18
      have fin : ∀ (S9 : Hp) (tt t' : Addr) (e : De), e.nm = nm → goD hd e → (sn < i + 1 → ∃ e' ∈ es ++ [e], Plain e') → S9 tt = some (.tup [.str nm, .ref t', e.gv.v]) → S9 t' = some (.tup (e.tk.map Kn.v)) → G2 m r S S9 → Dr K S9 m r a cs (B + 50 + 20 * (i : Int) + 12) → ∀ (y8' y9'' : Option V),
          ∃ (y6 y7 y8 y9 : Option V) (xs' : List V) (es' : List De), [some (V.ref m), some (.int 6), some (.ref ph), some (.ref nl), some (.int (sn : Nat)), some (.ref dl), some (.int (i : Nat)), some (.str nm), y8', y9'', none] = [some (V.ref m), some (.int 6), some (.ref ph), some (.ref nl), some (.int (sn : Nat)), some (.ref dl), y6, y7, y8, y9, none] ∧
            upd S9 dl (.lst (xs ++ [.ref tt])) dl = some (.lst xs') ∧ DpAll K (upd S9 dl (.lst (xs ++ [.ref tt]))) xs' (es'.map De.d) ∧ es'.length = i + 1 ∧ es'.map De.nm = ys.take (i + 1) ∧ (∀ e ∈ es', goD hd e) ∧ (sn < i + 1 → ∃ e ∈ es', Plain e) ∧ upd S9 dl (.lst (xs ++ [.ref tt])) nl = some (.lst (ys.map V.str)) ∧ SqT K (upd S9 dl (.lst (xs ++ [.ref tt]))) ph (hd.map V.str) ∧ G2 m r H (upd S9 dl (.lst (xs ++ [.ref tt]))) ∧ Dr K (upd S9 dl (.lst (xs ++ [.ref tt]))) m r a cs (B + 50 + 20 * ((i + 1 : Nat) : Int)) := by
        intro S9 tt t' e ne gd pl ett et g9 d9 y8' y9''
        have ed9 := g9.lst nd1 nd2 ed
        have kt9 : Kt K S9 (upd S9 dl (.lst (xs ++ [.ref tt]))) := kt_lst ed9
        refine ⟨_, _, _, _, xs ++ [.ref tt], es ++ [e], rfl, upd_same, ?_, ?_, ?_, ?_, pl, ?_, ?_, ?_, ?_⟩
        · refine Kt.dpA kt9 ?_ (noLA_map _ noL_de _)
          rw [List.map_append]
          refine dpA_app (Kt.dpA (d.kt g9) de (noLA_map _ noL_de _)) (.cons (.tup (.inl (.inl ett)) ?_) .nil)
          rw [← ne]
          exact .cons (.str _) (.cons (.tup (.inl (.inl et)) (dpA_kvs _)) (.cons (dp_kv _) .nil))
        · rw [List.length_append, le]
          rfl
        · rw [List.map_append, nme, List.take_add_one, hnm, ← ne]
          rfl
        · intro e' he
          rcases List.mem_append.mp he with h | h
          · exact ge e' h
          · rw [List.mem_singleton.mp h]
            exact gd
        · rw [upd_ne nnd]
          exact g9.lst nn1 nn2 en
        · exact kt9 (d.kt g9 sh)
        · exact (g.trans g9).upd_new hdl
        · exact (d9.upd nd1 nd2 od).mono (by omega)
      have ed8 := gS8.lst nd1 nd2 ed
      have lx : xs.length ≤ 6 := by
        have := dpA_len de
        rw [List.length_map] at this
        omega
      refine ⟨_, rfl, _, rfl, rfl, _, rfl, ?_⟩
      by_cases hs : i = sn
      · rw [decide_eq_true (show V.int ((i : Nat) : Int) = V.int ((sn : Nat) : Int) by rw [hs])]
        obtain ⟨z0, hz0⟩ : ∃ z0, hd[0]? = some z0 := ⟨hd[0]'(ghd.lo), List.getElem?_eq_getElem _⟩
        have sh8 := d1.kt g18 sh1
        refine iteT ⟨_, rfl, ph, _, 0, .str z0, rfl, rfl, sh8, atI_nat (j := 0) (by rw [List.getElem?_map, hz0]; rfl), ?_⟩
        refine ⟨_, rfl, t, rfl, ⟨_, .inl (.inl e8)⟩, fun D nD => ?_⟩
        refine lc_it (walk_tup (xs := tk.map Kn.v)) (fun j S9 => S9 D = some (.lst (((tk.take j).filter fun k => !k.isH).map Kn.v)) ∧ Gr S8 S9) ⟨upd_same, Gr.new nD⟩ ?c0 ?c1 ?c2
        case c0 =>
          rintro j S9 hj ⟨_, g9⟩
          exact .inl (.inl (g9.tup e8))
        case c1 =>
          rintro j z S9' S9 hj ⟨eD, g9⟩ ⟨rfl, hz⟩
          rw [List.getElem?_map] at hz
          obtain ⟨k', hk', rfl⟩ := Option.map_eq_some_iff.mp hz
          have gk' := gk k' (List.mem_of_getElem? hk')
          refine ⟨rfl, _, rfl, _, rfl, ph, _, rfl, .inr (g9.sqt sh8), flat_kn k', flat_strs hd, _, rfl, ?_⟩
          rw [show (if true = true then !inV k'.v (hd.map V.str) else inV k'.v (hd.map V.str)) = !k'.isH from congrArg not (inV_kn gk')]
          cases hk : k'.isH with
          | true =>
            refine iteF ⟨?_, g9⟩
            rw [filt_takeN hk', hk]
            simpa using eD
          | false =>
            refine iteT ⟨_, rfl, _, eD, ?_, ?_, g9.upd_new nD⟩
            · rw [List.length_map]
              refine small1000 ?_
              have := List.length_filter_le (fun k : Kn => !k.isH) (tk.take j)
              rw [List.length_take] at this
              omega
            · rw [upd_same, filt_takeN hk', hk, List.map_append]
              rfl
        case c2 =>
        rintro S9 ⟨eD, g9⟩
        rw [List.length_map, List.take_length] at eD
        refine ⟨D, _, rfl, .inl ⟨.inl (.inl eD), fun td ntd => ⟨_, _, rfl, ?_⟩⟩⟩
        have k10 : Gr S9 (upd S9 td (.tup ((tk.filter fun k => !k.isH).map Kn.v))) := Gr.new ntd
        have e10 : upd S9 td (.tup ((tk.filter fun k => !k.isH).map Kn.v)) td = some (.tup ((tk.filter fun k => !k.isH).map Kn.v)) := upd_same
        generalize upd S9 td (.tup ((tk.filter fun k => !k.isH).map Kn.v)) = S10 at k10 e10 ⊢
        have k810 := g9.trans k10
        refine ⟨_, rfl, .inl ⟨rfl, _, .inl (.inl (k810.lst ed8))⟩, _, rfl, _, rfl, _, rfl, by show 3 ≤ sizeLine; decide, fun tt ntt => ?_⟩
        have k11 : Gr S10 (upd S10 tt (.tup [.str nm, .ref td, .str z0])) := Gr.new ntt
        refine ⟨dl, _, _, rfl, rfl, (k810.trans k11).lst ed8, small1000 (by omega), ?_⟩
        have fe : (tk.filter fun k => !k.isH).length ≤ 3 := Nat.le_trans (List.length_filter_le _ _) l3'
        have fh : hidN (tk.filter fun k => !k.isH) = 0 := by
          unfold hidN
          rw [List.filter_filter]
          have : (tk.filter fun a => a.isH && !a.isH) = [] := by
            rw [List.filter_eq_nil_iff]
            intro k _
            cases k.isH <;> simp
          rw [this]
          rfl
        refine fin _ tt td ⟨nm, tk.filter fun k => !k.isH, .h z0⟩ rfl ⟨inm, fe, fun k hk => gk k (List.mem_filter.mp hk).1, by show hidN _ ≤ 2; rw [fh]; decide, List.mem_of_getElem? hz0⟩ (fun _ => ⟨_, List.mem_append_right _ (List.mem_singleton.mpr rfl), fun k hk => ?_⟩) upd_same (k11.tup e10) (gS8.trans (G2.gr (k810.trans k11))) ((d8.gr (k810.trans k11)).mono (by omega)) _ _
        have := (List.mem_filter.mp hk).2
        simpa using this
      · rw [decide_eq_false (show ¬ V.int ((i : Nat) : Int) = V.int ((sn : Nat) : Int) from fun z => hs (by have := V.int.inj z; omega))]
        refine iteF ⟨_, rfl, .inl ⟨rfl, _, .inl (.inl ed8)⟩, _, rfl, _, rfl, _, rfl, by show 3 ≤ sizeLine; decide, fun tt ntt => ?_⟩
        have k11 : Gr S8 (upd S8 tt (.tup [.str nm, .ref t, kn.v])) := Gr.new ntt
        refine ⟨dl, _, _, rfl, rfl, k11.lst ed8, small1000 (by omega), ?_⟩
        refine fin _ tt t ⟨nm, tk, kn⟩ rfl ⟨inm, l3', gk, h2, gkn⟩ (fun h => ?_) upd_same (k11.tup e8) (gS8.trans (G2.gr k11)) ((d8.gr k11).mono (by omega)) _ _
        obtain ⟨e', he, hp⟩ := pe (by omega)
        exact ⟨e', List.mem_append_left _ he, hp⟩
end
end SfC
namespace SfC
open PySem PySem.Spec PyProof.Rows L2 SfG
/-! ### users, drawn -/
abbrev nLUser : List Str := ["_law_m", "_law_face_here", "_law_many", "_law_rows", "_law_kinds_here", "_law_k", "_law_some", "_law_name", "_law_takes", "_law_gives", "_law_kind", "_law_handed", "_law_ahead", "_law_number", "_law_had"]
theorem scLUser : FnScope nLUser ["_law_m", "_law_face_here", "_law_many"] (defScope sLUser) := ⟨rfl, rfl, rfl, by decide +kernel, rfl, by decide +kernel, by decide +kernel⟩
theorem kn_v_inj {a b : Kn} (h : a.v = b.v) : a = b := by
  cases a with
  | h s =>
    cases b with
    | h t => cases h; rfl
    | p n => cases h
  | p n =>
    cases b with
    | h t => cases h
    | p n' => cases h; rfl
theorem eqV_str {a b : Str} : eqV (.str a) (.str b) = decide (a = b) := by
  by_cases h : a = b
  · subst h
    simp [eqV]
  · rw [decide_eq_false h]
    simp [eqV]
    exact h
theorem eqV_kn {a b : Kn} (h : eqV a.v b.v = true) : a = b := by
  cases a with
  | h s =>
    cases b with
    | h t =>
      have : eqV (.str s) (.str t) = true := h
      rw [eqV_str, decide_eq_true_eq] at this
      rw [this]
    | p n => simp [Kn.v, eqV] at h
  | p n =>
    cases b with
    | h t => simp [Kn.v, eqV] at h
    | p n' =>
      have : n = n' := by simpa [Kn.v, eqV] using h
      rw [this]
/-- whether it stands among them -/
theorem scal_kn (a b : Kn) : scal a.v b.v = true := by cases a <;> cases b <;> rfl
def memK (gv : List Kn) (k : Kn) : Bool := inV k.v (gv.map Kn.v)
theorem memK_at {gv : List Kn} {k : Kn} (h : memK gv k = true) : ∃ j : Nat, gv[j]? = some k := by
  unfold memK inV at h
  rw [List.any_map] at h
  obtain ⟨y, hy, e⟩ := List.any_eq_true.mp h
  have e' : eqV k.v y.v = true ∨ eqV y.v k.v = true := by
    first
      | exact .inl e
      | exact .inr e
  have : y = k := by
    rcases e' with e' | e'
    · exact (eqV_kn e').symm
    · exact eqV_kn e'
  obtain ⟨j, hj⟩ := List.mem_iff_getElem?.mp hy
  exact ⟨j, by rw [hj, this]⟩
theorem flat_kns (gv : List Kn) : (gv.map Kn.v).all flatV = true := by
  rw [List.all_map]
  exact List.all_eq_true.mpr fun k _ => flat_kn k
/-- what a deed lacks -/
def lack (gv : List Kn) (k : Kn) : Bool := k.isH && !memK gv k
def avl (gv : List Kn) (e : De) : Bool := (e.tk.filter (lack gv)).isEmpty
theorem avl_has {gv : List Kn} {e : De} (h : avl gv e = true) : ∀ k ∈ e.tk, k.isH = true → ∃ j : Nat, gv[j]? = some k := by
  intro k hk hh
  have e1 : e.tk.filter (lack gv) = [] := List.isEmpty_iff.mp h
  have e2 := List.filter_eq_nil_iff.mp e1 k hk
  unfold lack at e2
  rw [hh] at e2
  refine memK_at ?_
  simpa using e2
theorem plain_avl {gv : List Kn} {e : De} (h : Plain e) : avl gv e = true := by
  unfold avl
  rw [List.isEmpty_iff, List.filter_eq_nil_iff]
  intro k hk
  unfold lack
  rw [h k hk]
  simp
theorem take_filt {α : Type} {l : List α} {i : Nat} {k : α} (g : α → Bool) (h : l[i]? = some k) : (l.take (i + 1)).filter g = (l.take i).filter g ++ (if g k then [k] else []) := by
  rw [List.take_add_one, h, List.filter_append]
  cases hk : g k <;> simp [hk]
/-- the places at which a kind stands -/
def plcs (gv : List Kn) (k : Kn) (i : Nat) : List Nat := (List.range i).filter fun j => decide (gv[j]? = some k)
theorem plcs_succ (gv : List Kn) (k : Kn) (i : Nat) : plcs gv k (i + 1) = plcs gv k i ++ (if gv[i]? = some k then [i] else []) := by
  unfold plcs
  rw [List.range_succ, List.filter_append]
  by_cases h : gv[i]? = some k <;> simp [h]
theorem plcs_len (gv : List Kn) (k : Kn) (i : Nat) : (plcs gv k i).length ≤ i := by
  have := List.length_filter_le (fun j => decide (gv[j]? = some k)) (List.range i)
  rw [List.length_range] at this
  exact this
theorem plcs_mem {gv : List Kn} {k : Kn} {i j : Nat} (h : j ∈ plcs gv k i) : gv[j]? = some k := by
  have := (List.mem_filter.mp h).2
  simpa using this
theorem plcs_has {gv : List Kn} {k : Kn} {j : Nat} (h : gv[j]? = some k) : j ∈ plcs gv k gv.length :=
  List.mem_filter.mpr ⟨List.mem_range.mpr (lt_of_at h), decide_eq_true h⟩
theorem Fits.snoc {gv : List Kn} {k : Kn} {h : Nat} (o : okH gv k h) : ∀ {ks : List Kn} {hs : List Nat}, Fits gv ks hs → Fits gv (ks ++ [k]) (hs ++ [h])
  | _, _, .nil => .cons o .nil
  | _, _, .cons a t => .cons a (t.snoc o)
section
variable {P : Program} {w : World} {K : PySem.W.Frag} {mg : Str → Option Value} {base : Heap}
def spLUser (K : PySem.W.Frag) : Sp := fun vs H Q _ => ∃ (m r : Addr) (x : V) (f : Fc) (a : Src) (cs : List Int) (n : Nat) (B : Int), vs = [.ref m, x, .int (n : Nat)] ∧ Dr K H m r a cs B ∧ B ≤ 800000 ∧ Dp K H x f.d ∧ goF f ∧ (∃ e ∈ f.ds, Plain e) ∧ 1 ≤ n ∧ n ≤ 12 ∧
  ∀ H' v (u : List Ur), G2 m r H H' → Dr K H' m r a cs (B + 60) → Dp K H' v (usD u) → GoU f u → u.length = n → Q v H'
set_option maxHeartbeats 4000000 in
theorem ok_luser {f fD fO : Addr} {fd dD dO : FuncData} {k : Nat} (F : Fun K "_law_user" "_law_user" sLUser f fd) (HD : Has P w K mg base k "_law_draw" ["_law_m", "_law_many"] (spDrw K) fD dD) (HO_ : Has P w K mg base k "_law_of" ["_law_m", "_law_some"] (spOf K) fO dO)
    (mr : mg "range" = none) (me : mg "enumerate" = none) (mt : mg "tuple" = none) : FnOk P w K mg base CX0 (k + 1) f fd ["_law_m", "_law_face_here", "_law_many"] (spLUser K) := by
  refine F.ok scLUser (fun vs H Q E h => ?_) (fun cdv A outer s H vs Q E hr h => ?_)
  · obtain ⟨m, r, x, f, a, cs, n, B, rfl, _⟩ := h
    rfl
  · obtain ⟨m, r, x, f, a, cs, n, B, rfl, d0, hB, hx, go, hpl, n1, n12, q⟩ := h
    have nd := scLUser.nd
    refine' ⟨_, pss_cons ?s1 (pss_cons ?s2 (pss_one ?s3)), ?rd⟩
    case s1 => exact ps_asg (pe_tup (pa_cons (pe_lst pa_nil) (pa_cons (pe_lst pa_nil) pa_nil))) (pg_tup rfl (pgs_cons (pg_name (i := 3) nd rfl (.inl rfl)) (pgs_cons (pg_name (i := 4) nd rfl (.inr rfl)) pgs_nil)))
    case s2 =>
      refine' ps_for PassesOwn.never rfl (pi_range1 (by rfl) mr (pa_cons (pv 2) pa_nil)) (pg_name (i := 5) nd rfl (.inl rfl)) (pss_cons ?b1 (pss_cons ?b2 (pss_cons ?b3 (pss_cons ?b4 (pss_cons ?b5 (pss_cons ?b6 (pss_one ?b7)))))))
      case b1 => exact ps_set (i := 6) nd rfl (.inl rfl) (pe_lst pa_nil)
      case b2 =>
        exact ps_for PassesOwn.never rfl (pi_tup (pe_ix ix_tup (pv 1) pe_int (fun _ _ => rfl))) (pg_tup rfl (pgs_cons (pg_name (i := 7) nd rfl (.inl rfl)) (pgs_cons (pg_name (i := 8) nd rfl (.inl rfl)) (pgs_cons (pg_name (i := 9) nd rfl (.inl rfl)) pgs_nil))))
          (pss_one (ps_if (pt_cmpR (op_eqL0 hr) (pe_lc (own := [("_law_kind", 10)]) (g := gName 10) rfl nd (pi_tup (pv 8)) (blkOk_by (own := [("_law_kind", 10)]) (N := nLUser) (sc := defScope sLUser) (by decide +kernel)) (fun _ _ _ _ _ => pg_name (i := 10) nd rfl (.inl rfl))
              (fun _ _ _ _ _ => pts_one (PW.pt (pw_and (pt_cmpR (r := rIn K false) op_in_seq (pv 10) (pe_ix (r := rIxT K) ix_tup (pv 1) pe_int (fun _ _ => rfl)) rfl) (pw_and1 (pt_cmpR (r := rIn K true) op_notIn_seq (pv 10) (pv 4) rfl))))) (fun _ _ _ _ _ => pv 10)) (pe_lst pa_nil) (nomark _))
            (pss_one (ps_expr (pe_bm PySem.F.plainAttrs_list PySem.F.slot_list_append PySem.F.type_list_append mt_append (pv 6) (pa_cons (pe_tup (pa_cons (pv 7) (pa_cons (pv 8) (pa_cons (pv 9) pa_nil)))) pa_nil)))) pss_nil))
      case b3 => exact ps_asg (hcall HO_ hr (pa_cons (pv 0) (pa_cons (pv 6) pa_nil))) (pg_tup rfl (pgs_cons (pg_name (i := 7) nd rfl (.inl rfl)) (pgs_cons (pg_name (i := 8) nd rfl (.inl rfl)) (pgs_cons (pg_name (i := 9) nd rfl (.inl rfl)) pgs_nil))))
      case b4 => exact ps_set (i := 11) nd rfl (.inl rfl) (pe_lst pa_nil)
      case b5 =>
        refine' ps_for PassesOwn.never rfl (pi_tup (pv 8)) (pg_name (i := 10) nd rfl (.inr rfl)) (pss_cons ?c1 (pss_one ?c2))
        case c1 =>
          exact ps_setLc (i := 12) (own := [("_law_number", 13), ("_law_had", 14)]) (g := gTup K 2 (gCons (gName 13) (gCons (gName 14) gNil))) rfl nd rfl rfl (sw_true rfl rfl rfl (by decide +kernel)) (pi_enum (by rfl) me (pa_cons (pv 4) pa_nil)) (blkOk_by (own := [("_law_number", 13), ("_law_had", 14)]) (N := nLUser) (sc := defScope sLUser) (by decide +kernel))
            (fun _ _ _ _ _ => pg_tup rfl (pgs_cons (pg_name (i := 13) nd rfl (.inl rfl)) (pgs_cons (pg_name (i := 14) nd rfl (.inl rfl)) pgs_nil))) (fun _ _ _ _ _ => pts_one (pt_cmpR op_eq (pv 14) (pv 10) (nomark _))) (fun _ _ _ _ _ => pv 13)
        case c2 =>
          exact ps_expr (pe_bm PySem.F.plainAttrs_list PySem.F.slot_list_append PySem.F.type_list_append mt_append (pv 11) (pa_cons (pe_ifExp (pt_cmpR op_in_seq (pv 10) (pe_ix ix_tup (pv 1) pe_int (fun _ _ => rfl)) rfl) (hcall HO_ hr (pa_cons (pv 0) (pa_cons (pv 12) pa_nil))) (hcall HD hr (pa_cons (pv 0) (pa_cons (pv 10) pa_nil)))) pa_nil))
      case b6 => exact ps_expr (pe_bm PySem.F.plainAttrs_list PySem.F.slot_list_append PySem.F.type_list_append mt_append (pv 3) (pa_cons (pe_tup (pa_cons (pv 7) (pa_cons (pe_callTy call_tuple_of (by rfl) mt (by decide +kernel) (pa_cons (pv 11) pa_nil)) pa_nil))) pa_nil))
      case b7 => exact ps_expr (pe_bm PySem.F.plainAttrs_list PySem.F.slot_list_append PySem.F.type_list_append mt_append (pv 4) (pa_cons (pv 9) pa_nil))
    case s3 => exact ps_ret (pe_callTy call_tuple_of (by rfl) mt (by decide +kernel) (pa_cons (pv 3) pa_nil))
    case rd =>
    obtain ⟨pf, ph, pd, fxs, rfl, hpf, hph, hpd, dd⟩ := dp_face hx
    have lfx : fxs.length = f.ds.length := by
      have := dpA_len dd
      rw [List.length_map] at this
      exact this
    have hi8 := go.hi
    refine ⟨by show 0 ≤ sizeLine; decide, fun rl nrl => ?_⟩
    have k1 : Gr H (upd H rl (.lst [])) := Gr.new nrl
    have e1 : upd H rl (.lst []) rl = some (.lst []) := upd_same
    obtain ⟨nr1, nr2⟩ := d0.nm nrl
    have or_ := d0.off nrl
    have d1 := d0.gr k1
    generalize upd H rl (.lst []) = H1 at k1 e1 d1 ⊢
    refine ⟨by show 0 ≤ sizeLine; decide, fun kl nkl => ?_⟩
    have k2 : Gr H1 (upd H1 kl (.lst [])) := Gr.new nkl
    have e2 : upd H1 kl (.lst []) kl = some (.lst []) := upd_same
    obtain ⟨nk1, nk2⟩ := d1.nm nkl
    have ok_ := d1.off nkl
    have hkl : H kl = none := k1.back kl nkl
    have nrk : rl ≠ kl := ne_of_none e1 nkl
    have d2 := d1.gr k2
    have e12 := k2.lst e1
    generalize upd H1 kl (.lst []) = H2 at k2 e2 d2 e12 ⊢
    refine ⟨by show 2 ≤ sizeLine; decide, fun tt ntt => ?_⟩
    have k3 : Gr H2 (upd H2 tt (.tup [.ref rl, .ref kl])) := Gr.new ntt
    have e3 : upd H2 tt (.tup [.ref rl, .ref kl]) tt = some (.tup [.ref rl, .ref kl]) := upd_same
    have d3 := d2.gr k3
    have er3 := k3.lst e12
    have ek3 := k3.lst e2
    have g3 : G2 m r H (upd H2 tt (.tup [.ref rl, .ref kl])) := G2.gr (k1.trans (k2.trans k3))
    generalize upd H2 tt (.tup [.ref rl, .ref kl]) = H3 at k3 e3 d3 er3 ek3 g3 ⊢
    clear k1 e1 d1 k2 e2 d2 e12 k3 nkl ntt
    refine ⟨tt, _, rfl, .inl (.inl e3), rfl, _, _, rfl, _, _, rfl, rfl, ?_⟩
    refine ⟨_, rfl, (n : Nat), rfl, by omega, by omega, ?_⟩
    refine for_it (walk_range (lo := 0) (n := ((n : Nat) : Int).toNat)) (fun i σ S => ∃ (y5 y6 y7 y8 y9 y10 y11 y12 : Option V) (xs : List V) (u : List Ur), σ = [some (.ref m), some (.ref pf), some (.int (n : Nat)), some (.ref rl), some (.ref kl), y5, y6, y7, y8, y9, y10, y11, y12, none, none] ∧
      S rl = some (.lst xs) ∧ DpAll K S xs (u.map Ur.d) ∧ S kl = some (.lst ((gvs u).map Kn.v)) ∧ u.length = i ∧ (∀ j r, u[j]? = some r → r.e ∈ f.ds ∧ Fits ((gvs u).take j) r.e.tk r.hs) ∧ G2 m r H S ∧ Dr K S m r a cs (B + 5 * (i : Int)))
      ⟨none, none, none, none, none, none, none, none, [], [], rfl, er3, .nil, ek3, rfl, by simp, g3, d3.mono (by omega)⟩ (fun _ _ _ _ _ => trivial) ?h2 ?h3
    case h3 =>
      rintro σ S ⟨y5, y6, y7, y8, y9, y10, y11, y12, xs, u, rfl, er, du, ek, lu, ou, g, d⟩
      refine ⟨_, rfl, rl, _, rfl, .inl ⟨.inl (.inl er), fun td ntd => ?_⟩⟩
      exact q _ (.ref td) u (g.trans (G2.gr (Gr.new ntd))) ((d.gr (Gr.new ntd)).mono (by omega)) (.tup (.inl (.inl upd_same)) ((Gr.new ntd).kd.dpA du)) ⟨by omega, by omega, ou⟩ (by omega)
    case h2 =>
      rintro i y σ S' S hi ⟨y5, y6, y7, y8, y9, y10, y11, y12, xs, u, rfl, er, du, ek, lu, ou, g, d⟩ ⟨rfl, rfl⟩
      have i12 : i < n := by omega
      have lgv : (gvs u).length = i := by
        unfold gvs
        rw [List.length_map, lu]
      have hpfS := d0.kt g hpf
      have hphS := d0.kt g hph
      have hpdS := d0.kt g hpd
      have ddS := Kt.dpA (d0.kt g) dd (noLA_map _ noL_de _)
      generalize hgv : gvs u = gv at ek ou lgv
      -- the deeds that may stand here
      refine ⟨by show 0 ≤ sizeLine; decide, fun sl nsl => ?_⟩
      obtain ⟨ns1, ns2⟩ := d.nm nsl
      have os_ := d.off nsl
      have k1 : Gr S (upd S sl (.lst [])) := Gr.new nsl
      have e1 : upd S sl (.lst []) sl = some (.lst []) := upd_same
      generalize upd S sl (.lst []) = S1 at k1 e1 ⊢
      refine ⟨_, rfl, pf, _, 1, _, rfl, rfl, k1.sqt hpfS, rfl, pd, rfl, ⟨_, k1.sqt hpdS⟩, ?_⟩
      refine for_it (walk_tup (xs := fxs)) (fun j σ S2 => ∃ (y7 y8 y9 y10 : Option V) (zs : List V), σ = [some (.ref m), some (.ref pf), some (.int (n : Nat)), some (.ref rl), some (.ref kl), some (.int (0 + (i : Int))), some (.ref sl), y7, y8, y9, y10, y11, y12, none, none] ∧
        S2 sl = some (.lst zs) ∧ DpAll K S2 zs (((f.ds.take j).filter (avl gv)).map De.d) ∧ Gr S S2) ⟨_, _, _, _, [], rfl, e1, .nil, k1⟩ ?i1 ?i2 ?i3
      case i1 =>
        rintro j σ S2 hj ⟨_, _, _, _, zs, rfl, es, dz, g2⟩
        exact g2.sqt hpdS
      case i2 =>
        rintro j b σ S2' S2 hj ⟨z7, z8, z9, z10, zs, rfl, es, dz, g2⟩ ⟨rfl, hb⟩
        obtain ⟨e, he, de⟩ := dpA_de (g2.kd.dpA ddS) hb
        obtain ⟨pe, nn, tt', vv, rfl, hpe, dn, dt, dg⟩ := dp_3 de
        cases dp_str dn
        cases dp_kn dg
        obtain ⟨pt, ts, rfl, hpt, hts⟩ := dp_tup dt
        cases dpA_kns hts
        have ge := go.ok e (List.mem_of_getElem? he)
        refine ⟨pe, _, rfl, hpe, rfl, _, _, rfl, _, _, rfl, _, _, rfl, rfl, ?_⟩
        refine ⟨_, rfl, pt, rfl, ⟨_, hpt⟩, fun D nD => ?_⟩
        refine lc_it (walk_tup (xs := e.tk.map Kn.v)) (fun t S3 => S3 D = some (.lst (((e.tk.take t).filter (lack gv)).map Kn.v)) ∧ Gr S2 S3) ⟨upd_same, Gr.new nD⟩ ?c0 ?c1 ?c2
        case c0 =>
          rintro t S3 ht ⟨_, g3⟩
          exact g3.sqt hpt
        case c1 =>
          rintro t z S3' S3 ht ⟨eD, g3⟩ ⟨rfl, hz⟩
          rw [List.getElem?_map] at hz
          obtain ⟨kn, hkn, rfl⟩ := Option.map_eq_some_iff.mp hz
          have gkn := ge.tk kn (List.mem_of_getElem? hkn)
          have g23 := g2.trans g3
          refine ⟨rfl, _, rfl, _, rfl, pf, _, 0, _, rfl, rfl, g23.sqt hpfS, rfl, ph, _, rfl, .inr (g23.sqt hphS), flat_kn kn, flat_strs f.hd, _, rfl, ?_⟩
          rw [show (if false = true then !inV kn.v (f.hd.map V.str) else inV kn.v (f.hd.map V.str)) = kn.isH from inV_kn gkn]
          have no : lack gv kn = false → (S3 D = some (.lst (((e.tk.take (t + 1)).filter (lack gv)).map Kn.v)) ∧ Gr S2 S3) := fun hl => by
            refine ⟨?_, g3⟩
            rw [take_filt (lack gv) hkn, hl]
            simpa using eD
          cases hk : kn.isH with
          | false => exact iteF (no (by unfold lack; rw [hk]; rfl))
          | true =>
            refine iteT ⟨_, rfl, _, rfl, kl, _, rfl, .inl (.inl (.inl (g23.lst ek))), flat_kn kn, flat_kns gv, _, rfl, ?_⟩
            rw [show (if true = true then !inV kn.v (gv.map Kn.v) else inV kn.v (gv.map Kn.v)) = !memK gv kn from rfl]
            cases hm : memK gv kn with
            | true => exact iteF (no (by unfold lack; rw [hk, hm]; rfl))
            | false =>
              have hl : lack gv kn = true := by unfold lack; rw [hk, hm]; rfl
              refine iteT ⟨_, rfl, _, eD, ?_, ?_, g3.upd_new nD⟩
              · rw [List.length_map]
                refine small1000 ?_
                have a1 := List.length_filter_le (lack gv) (e.tk.take t)
                have a2 := ge.len
                rw [List.length_take] at a1
                omega
              · rw [upd_same, take_filt (lack gv) hkn, hl, List.map_append]
                rfl
        case c2 =>
        rintro S3 ⟨eD, g3⟩
        rw [List.length_map, List.take_length] at eD
        refine ⟨by show 0 ≤ sizeLine; decide, fun e0 ne0 => ?_⟩
        have k4 : Gr S3 (upd S3 e0 (.lst [])) := Gr.new ne0
        refine ⟨D, e0, _, rfl, rfl, .inl (.inl (k4.lst eD)), .inl (.inl upd_same), _, rfl, ?_⟩
        rw [show ((e.tk.filter (lack gv)).map Kn.v).isEmpty = avl gv e from List.isEmpty_map ..]
        have k24 := g3.trans k4
        have es4 := k24.lst es
        have dz4 := k24.kd.dpA dz
        have hpt4 := k24.sqt hpt
        have g4 := g2.trans k24
        generalize upd S3 e0 (.lst []) = S4 at k4 k24 es4 dz4 hpt4 g4 ⊢
        cases ha : avl gv e with
        | false =>
          refine iteF ⟨_, _, _, _, zs, rfl, es4, ?_, g4⟩
          rw [take_filt (avl gv) he, ha]
          simpa using dz4
        | true =>
          refine iteT ⟨_, rfl, .inl ⟨rfl, _, .inl (.inl es4)⟩, _, rfl, _, rfl, _, rfl, by show 3 ≤ sizeLine; decide, fun tt ntt => ?_⟩
          have k5 : Gr S4 (upd S4 tt (.tup [.str e.nm, .ref pt, e.gv.v])) := Gr.new ntt
          have e5 : upd S4 tt (.tup [.str e.nm, .ref pt, e.gv.v]) tt = some (.tup [.str e.nm, .ref pt, e.gv.v]) := upd_same
          have es5 := k5.lst es4
          have dz5 := k5.kd.dpA dz4
          have hpt5 := k5.sqt (K := K) hpt4
          have g5 := g4.trans k5
          generalize upd S4 tt (.tup [.str e.nm, .ref pt, e.gv.v]) = S5 at k5 e5 es5 dz5 hpt5 g5 ⊢
          have lz : zs.length ≤ 8 := by
            have a1 := dpA_len dz
            rw [List.length_map] at a1
            have a2 := List.length_filter_le (avl gv) (f.ds.take j)
            rw [List.length_take] at a2
            omega
          refine ⟨sl, _, _, rfl, rfl, es5, small1000 (by omega), _, _, _, _, zs ++ [.ref tt], rfl, upd_same, ?_, g5.upd_new nsl⟩
          rw [take_filt (avl gv) he, ha, if_pos rfl, List.map_append]
          exact Kt.dpA (kt_lst es5) (dpA_app dz5 (.cons (.tup (.inl (.inl e5)) (.cons (.str _) (.cons (.tup hpt5 (dpA_kvs _)) (.cons (dp_kv _) .nil)))) .nil)) (by rw [← List.map_append]; exact noLA_map _ noL_de _)
      case i3 =>
      rintro σ S2 ⟨z7, z8, z9, z10, zs, rfl, es, dz, g2⟩
      rw [lfx, List.take_length] at dz
      have d2 := d.gr g2
      have lz : zs.length = (f.ds.filter (avl gv)).length := by
        have := dpA_len dz
        rw [List.length_map] at this
        exact this
      have lz8 : (f.ds.filter (avl gv)).length ≤ 8 := Nat.le_trans (List.length_filter_le _ _) hi8
      have zne : zs ≠ [] := by
        obtain ⟨e0, he0, hp0⟩ := hpl
        intro z
        rw [z] at lz
        have := List.length_eq_zero_iff.mp lz.symm
        rw [List.filter_eq_nil_iff] at this
        exact this e0 he0 (plain_avl hp0)
      refine ⟨_, rfl, _, rfl, m, r, sl, a, cs, zs, _, rfl, d2, by omega, .inl ⟨.inl (.inl es), ns1, ns2⟩, zne, by omega, fun S3 ix z g3 d3 hz => ?_⟩
      obtain ⟨e, he, de⟩ := dpA_de dz hz
      have hef := List.mem_filter.mp (List.mem_of_getElem? he)
      have hem := hef.1
      have ge := go.ok e hem
      have has := avl_has hef.2
      have de3 := Kt.dp (d2.kt g3) de (noL_de _)
      obtain ⟨pe, nn, tt', vv, rfl, hpe, dn, dt, dg⟩ := dp_3 de3
      cases dp_str dn
      cases dp_kn dg
      obtain ⟨pt, ts, rfl, hpt, hts⟩ := dp_tup dt
      cases dpA_kns hts
      refine ⟨pe, _, rfl, hpe, rfl, _, _, rfl, _, _, rfl, _, _, rfl, rfl, ?_⟩
      refine ⟨by show 0 ≤ sizeLine; decide, fun hl nhl => ?_⟩
      obtain ⟨nh1, nh2⟩ := d3.nm nhl
      have oh := d3.off nhl
      have gS3 : G2 m r S S3 := (G2.gr g2).trans g3
      have shl : S hl = none := gS3.back hl nh1 nh2 nhl
      have k4 : Gr S3 (upd S3 hl (.lst [])) := Gr.new nhl
      have e4 : upd S3 hl (.lst []) hl = some (.lst []) := upd_same
      have d4 := d3.gr k4
      have hpt4 := k4.sqt (K := K) hpt
      have gS4 : G2 m r S (upd S3 hl (.lst [])) := gS3.trans (G2.gr k4)
      generalize upd S3 hl (.lst []) = S4 at k4 e4 d4 hpt4 gS4 ⊢
      clear k1 e1 g2 d2 es dz lz zne hz he hef de de3 dn dt dg hts hpe hpt g3 d3 gS3 k4 nhl nsl
      refine ⟨_, rfl, pt, rfl, ⟨_, hpt4⟩, ?_⟩
      refine for_it (walk_tup (xs := e.tk.map Kn.v)) (fun j σ S5 => ∃ (y10 y12 : Option V) (hs : List Nat), σ = [some (.ref m), some (.ref pf), some (.int (n : Nat)), some (.ref rl), some (.ref kl), some (.int (0 + (i : Int))), some (.ref sl), some (.str e.nm), some (.ref pt), some e.gv.v, y10, some (.ref hl), y12, none, none] ∧
        S5 hl = some (.lst (hsV hs)) ∧ hs.length = j ∧ Fits gv (e.tk.take j) hs ∧ G2 m r S S5 ∧ SqT K S5 pt (e.tk.map Kn.v) ∧ Dr K S5 m r a cs (B + 5 * (i : Int) + 1 + (j : Int))) ⟨_, _, [], rfl, e4, rfl, .nil, gS4, hpt4, d4.mono (by omega)⟩ ?j1 ?j2 ?j3
      case j1 =>
        rintro j σ S5 hj ⟨_, _, hs, rfl, eh, lh, fit, g5, hp5, d5⟩
        exact hp5
      case j2 =>
        rintro j v σ S5' S5 hj ⟨y10', y12', hs, rfl, eh, lh, fit, g5, hp5, d5⟩ ⟨rfl, hv⟩
        rw [List.getElem?_map] at hv
        obtain ⟨kn, hkn, rfl⟩ := Option.map_eq_some_iff.mp hv
        have gkn := ge.tk kn (List.mem_of_getElem? hkn)
        have hkm := List.mem_of_getElem? hkn
        have j3' : j < 3 := by
          have a1 := lt_of_at hkn
          have a2 := ge.len
          omega
        have ek5 := g5.lst nk1 nk2 ek
        refine ⟨_, rfl, kl, _, rfl, .inl (.inl ek5), fun D nD => ?_⟩
        refine lc_it (walk_enum (xs := gv.map Kn.v)) (fun t S6 => S6 D = some (.lst (hsV (plcs gv kn t))) ∧ Gr S5 S6) ⟨upd_same, Gr.new nD⟩ ?e0 ?e1 ?e2
        case e0 =>
          rintro t S6 ht ⟨_, g6⟩
          exact .inl (.inl (g6.lst ek5))
        case e1 =>
          rintro t z S6 S6' ht ⟨eD, g6⟩ ⟨T, kx, cx, rfl, nT, rfl, ek', ec⟩
          cases ek'
          replace ec : (gv.map Kn.v)[t]? = some cx := ec
          rw [List.getElem?_map] at ec
          obtain ⟨kn', hkn', rfl⟩ := Option.map_eq_some_iff.mp ec
          have tl := lt_of_at hkn'
          refine ⟨T, [.int (t : Nat), kn'.v], rfl, .inl (.inl upd_same), rfl, _, [kn'.v], rfl, _, [], rfl, rfl, ?_⟩
          have g7 : Gr S5 (upd S6 T (.tup [.int (t : Nat), kn'.v])) := g6.trans (Gr.new nT)
          have eD7 := (Gr.new (o := .tup [.int (t : Nat), kn'.v]) nT).lst eD
          generalize upd S6 T (.tup [.int (t : Nat), kn'.v]) = S7 at g7 eD7 ⊢
          refine ⟨rfl, _, rfl, _, rfl, scal_kn kn' kn, _, rfl, ?_⟩
          by_cases hk : kn'.v = kn.v
          · rw [decide_eq_true hk]
            have hk2 := kn_v_inj hk
            refine iteT ⟨_, rfl, _, eD7, ?_, ?_, g7.upd_new nD⟩
            · rw [hsV_len]
              have := plcs_len gv kn t
              exact small1000 (by omega)
            · rw [upd_same, plcs_succ, if_pos (by rw [hkn', hk2])]
              unfold hsV
              rw [List.map_append]
              rfl
          · rw [decide_eq_false hk]
            refine iteF ⟨?_, g7⟩
            rw [plcs_succ, if_neg (by rw [hkn']; intro z; exact hk (by rw [Option.some.inj z])), List.append_nil]
            exact eD7
        case e2 =>
        rintro S6 ⟨eD, g6⟩
        rw [List.length_map] at eD
        have d6 := d5.gr g6
        have eh6 := g6.lst eh
        obtain ⟨nD1, nD2⟩ := d5.nm nD
        have g06 : G2 m r S S6 := g5.trans (G2.gr g6)
        have kt6 : Kt K S S6 := d.kt g06
        refine ⟨_, rfl, .inl ⟨rfl, _, .inl (.inl eh6)⟩, _, rfl, _, rfl, pf, _, 0, _, rfl, rfl, kt6 hpfS, rfl, ph, _, rfl, .inr (kt6 hphS), flat_kn kn, flat_strs f.hd, _, rfl, ?_⟩
        rw [show (if false = true then !inV kn.v (f.hd.map V.str) else inV kn.v (f.hd.map V.str)) = kn.isH from inV_kn gkn]
        have fin : ∀ (S7 : Hp) (h : Nat), okH gv kn h → G2 m r S6 S7 → Dr K S7 m r a cs (B + 5 * (i : Int) + 1 + (j : Int) + 1) → ∀ (y12 : Option V), S7 hl = some (.lst (hsV hs)) ∧ (hsV hs).length < sizeLine ∧ ∃ (y10'' y12'' : Option V) (hs' : List Nat), [some (V.ref m), some (V.ref pf), some (V.int (n : Nat)), some (V.ref rl), some (V.ref kl), some (V.int (0 + (i : Int))), some (V.ref sl), some (V.str e.nm), some (V.ref pt), some e.gv.v, some kn.v, some (V.ref hl), y12, none, none] = [some (V.ref m), some (V.ref pf), some (V.int (n : Nat)), some (V.ref rl), some (V.ref kl), some (V.int (0 + (i : Int))), some (V.ref sl), some (V.str e.nm), some (V.ref pt), some e.gv.v, y10'', some (V.ref hl), y12'', none, none] ∧
            upd S7 hl (.lst (hsV hs ++ [.int (h : Nat)])) hl = some (.lst (hsV hs')) ∧ hs'.length = j + 1 ∧ Fits gv (e.tk.take (j + 1)) hs' ∧ G2 m r S (upd S7 hl (.lst (hsV hs ++ [.int (h : Nat)]))) ∧ SqT K (upd S7 hl (.lst (hsV hs ++ [.int (h : Nat)]))) pt (e.tk.map Kn.v) ∧ Dr K (upd S7 hl (.lst (hsV hs ++ [.int (h : Nat)]))) m r a cs (B + 5 * (i : Int) + 1 + ((j + 1 : Nat) : Int)) := by
          intro S7 h ho g7 d7 y12
          have eh7 := g7.lst nh1 nh2 eh6
          refine ⟨eh7, by rw [hsV_len]; exact small1000 (by omega), _, _, hs ++ [h], rfl, ?_, ?_, ?_, (g06.trans g7).upd_new shl, ?_, (d7.upd nh1 nh2 oh).mono (by omega)⟩
          · rw [upd_same]
            unfold hsV
            rw [List.map_append]
            rfl
          · rw [List.length_append, lh]
            rfl
          · rw [List.take_add_one, hkn]
            exact fit.snoc ho
          · exact kt_lst eh7 (d6.kt g7 (g6.sqt hp5))
        cases hk : kn.isH with
        | true =>
          obtain ⟨j0, hj0⟩ := has kn hkm hk
          have hp0 := plcs_has hj0
          refine iteT ⟨_, rfl, _, rfl, m, r, D, a, cs, hsV (plcs gv kn gv.length), _, rfl, d6, by omega, .inl ⟨.inl (.inl eD), nD1, nD2⟩, ?_, ?_, fun S7 ix z g7 d7 hz => ?_⟩
          · intro z
            have := congrArg List.length z
            rw [hsV_len] at this
            rw [List.length_eq_zero_iff.mp this] at hp0
            cases hp0
          · rw [hsV_len]
            have := plcs_len gv kn gv.length
            omega
          replace hz : (hsV (plcs gv kn gv.length))[ix]? = some z := hz
          unfold hsV at hz
          rw [List.getElem?_map] at hz
          obtain ⟨h, hh, rfl⟩ := Option.map_eq_some_iff.mp hz
          have hgv' := plcs_mem (List.mem_of_getElem? hh)
          have ho : okH gv kn h := by
            cases kn with
            | h s => exact hgv'
            | p n => cases hk
          obtain ⟨f1, f2, f3⟩ := fin S7 h ho g7 (d7.mono (by omega)) (some (.ref D))
          exact ⟨hl, _, _, rfl, rfl, f1, f2, f3⟩
        | false =>
          obtain ⟨pn, rfl⟩ : ∃ pn, kn = .p pn := by
            cases kn with
            | h s => cases hk
            | p pn => exact ⟨pn, rfl⟩
          obtain ⟨p2, p9⟩ := gkn
          refine iteF ⟨_, rfl, _, rfl, m, r, a, cs, pn, _, rfl, d6, by omega, by omega, by omega, fun S7 dg g7 d7 z0 z1 => ?_⟩
          obtain ⟨h, rfl⟩ : ∃ h : Nat, dg = (h : Int) := ⟨dg.toNat, by omega⟩
          obtain ⟨f1, f2, f3⟩ := fin S7 h z1 g7 (d7.mono (by omega)) (some (.ref D))
          exact ⟨hl, _, _, rfl, rfl, f1, f2, f3⟩
      case j3 =>
      rintro σ S5 ⟨y10', y12', hs, rfl, eh, lh, fit, g5, hp5, d5⟩
      rw [List.length_map, List.take_length] at fit
      have er5 := g5.lst nr1 nr2 er
      refine ⟨_, rfl, .inl ⟨rfl, _, .inl (.inl er5)⟩, _, rfl, _, rfl, hl, _, rfl, .inl ⟨.inl (.inl eh), fun td ntd => ?_⟩⟩
      have k6 : Gr S5 (upd S5 td (.tup (hsV hs))) := Gr.new ntd
      have e6 : upd S5 td (.tup (hsV hs)) td = some (.tup (hsV hs)) := upd_same
      generalize upd S5 td (.tup (hsV hs)) = S6 at k6 e6 ⊢
      refine ⟨by show 2 ≤ sizeLine; decide, fun tr ntr => ?_⟩
      have k7 : Gr S6 (upd S6 tr (.tup [.str e.nm, .ref td])) := Gr.new ntr
      have e7 : upd S6 tr (.tup [.str e.nm, .ref td]) tr = some (.tup [.str e.nm, .ref td]) := upd_same
      have e67 := k7.tup e6
      generalize upd S6 tr (.tup [.str e.nm, .ref td]) = S7 at k7 e7 e67 ⊢
      have k57 := k6.trans k7
      have g7 : G2 m r S S7 := g5.trans (G2.gr k57)
      have er7 := k57.lst er5
      have ek7 := g7.lst nk1 nk2 ek
      have lxs : xs.length = i := by
        have := dpA_len du
        rw [List.length_map, lu] at this
        exact this
      refine ⟨rl, _, _, rfl, rfl, er7, small1000 (by omega), ?_⟩
      have kt8 : Kt K S7 (upd S7 rl (.lst (xs ++ [.ref tr]))) := kt_lst er7
      have du7 : DpAll K S7 (xs ++ [.ref tr]) ((u ++ [Ur.mk e hs]).map Ur.d) := by
        rw [List.map_append]
        exact dpA_app (Kt.dpA (d.kt g7) du (noLA_map _ noL_ur _)) (.cons (.tup (.inl (.inl e7)) (.cons (.str _) (.cons (.tup (.inl (.inl e67)) (dpA_nsI _)) .nil))) .nil)
      have du8 := Kt.dpA kt8 du7 (noLA_map _ noL_ur _)
      have er8 : upd S7 rl (.lst (xs ++ [.ref tr])) rl = some (.lst (xs ++ [.ref tr])) := upd_same
      have ek8 : upd S7 rl (.lst (xs ++ [.ref tr])) kl = some (.lst (gv.map Kn.v)) := (upd_ne (Ne.symm nrk)).trans ek7
      have g8 : G2 m r H (upd S7 rl (.lst (xs ++ [.ref tr]))) := (g.trans g7).upd_new nrl
      have d8 : Dr K (upd S7 rl (.lst (xs ++ [.ref tr]))) m r a cs (B + 5 * (i : Int) + 4) := ((d5.gr k57).upd nr1 nr2 or_).mono (by have := ge.len; rw [List.length_map]; omega)
      generalize upd S7 rl (.lst (xs ++ [.ref tr])) = S8 at kt8 du8 er8 ek8 g8 d8 ⊢
      refine ⟨_, rfl, .inl ⟨rfl, _, .inl (.inl ek8)⟩, _, rfl, kl, _, _, rfl, rfl, ek8, by rw [List.length_map]; exact small1000 (by omega), ?_⟩
      have gvE : gvs (u ++ [Ur.mk e hs]) = gv ++ [e.gv] := by
        unfold gvs at hgv ⊢
        rw [List.map_append, hgv]
        rfl
      refine ⟨_, _, _, _, _, _, _, _, xs ++ [.ref tr], u ++ [Ur.mk e hs], rfl, (upd_ne nrk).trans er8, Kt.dpA (kt_lst ek8) du8 (noLA_map _ noL_ur _), ?_, ?_, ?_, g8.upd_new hkl, (d8.upd nk1 nk2 ok_).mono (by omega)⟩
      · rw [upd_same, gvE, List.map_append]
        rfl
      · rw [List.length_append, lu]
        rfl
      · intro t rr hrr
        rw [gvE]
        by_cases ht : t < u.length
        · rw [List.getElem?_append_left ht] at hrr
          rw [List.take_append_of_le_length (by omega)]
          exact ou t rr hrr
        · have te : t = i := by
            have := lt_of_at hrr
            rw [List.length_append] at this
            have z : ([⟨e, hs⟩] : List Ur).length = 1 := rfl
            omega
          subst te
          rw [List.getElem?_append_right (by omega), lu, Nat.sub_self] at hrr
          cases hrr
          rw [List.take_append_of_le_length (by omega), ← lgv, List.take_length]
          exact ⟨hem, fit⟩
end
end SfC
namespace SfC
open PySem PySem.Spec PyProof.Rows L2 SfG
/-! ### _law_kinds of an error that has no dict of its own -/
abbrev nKinds : List Str := ["_law_error", "_law_kinds_here", "_law_name", "_law_fits"]
theorem scKinds : FnScope nKinds ["_law_error"] (defScope sKinds) := ⟨rfl, rfl, rfl, by decide +kernel, rfl, by decide +kernel, by decide +kernel⟩
/-- a pair of a word and whether the error is of the class c -/
theorem pair_isK {K : PySem.W.Frag} {D a : Addr} {c : V} {cv : Value} {b : Bool} {z : Str} {σ : L2.St} {H : Hp} {Q : VK} (h0 : σ[0]? = some (some (.ref a))) (hH : Ek H D a)
    (hc : ∀ u, RelV c u → u = cv) (hk : PySem.W.kitOne K (.ref D) cv = some b) (q : ∀ H' t, Gr H H' → H' t = some (.tup [.str z, .bl b]) → Q (.ref t) H') :
    tTup (tCons (tC (.str z)) (tCons (tCB (rIsX K D) (tCons (tVar 0) (tCons (tC c) tNil))) tNil)) σ H Q := by
  refine ⟨_, h0, a, c, cv, b, rfl, hH, hc, hk, by show 2 ≤ sizeLine; decide, fun t nt => q _ t (Gr.new nt) upd_same⟩
/-- the words so far, in pairs -/
def KdL (K : PySem.W.Frag) (H : Hp) (l : Addr) (ks : List (Str × Bool)) : Prop := ∃ xs, H l = some (.lst xs) ∧ DpAll K H xs (ks.map fun k => .tuple [.str k.1, .bool k.2])
theorem dp_pair {K : PySem.W.Frag} {H : Hp} {t : Addr} {z : Str} {b : Bool} (h : H t = some (.tup [.str z, .bl b])) : Dp K H (.ref t) (.tuple [.str z, .bool b]) := .tup (.inl (.inl h)) (.cons (.str z) (.cons (.bl b) .nil))
/-- two more of them -/
theorem two_isK {K : PySem.W.Frag} {D a l : Addr} {c c' : V} {cv cv' : Value} {b b' : Bool} {z z' : Str} {ks : List (Str × Bool)} {σ : L2.St} {H : Hp} {Q : VK} (h0 : σ[0]? = some (some (.ref a))) (h1 : σ[1]? = some (some (.ref l)))
    (hH : Ek H D a) (hl : KdL K H l ks) (hn : ks.length ≤ 100) (hc : ∀ u, RelV c u → u = cv) (hk : PySem.W.kitOne K (.ref D) cv = some b) (hc' : ∀ u, RelV c' u → u = cv') (hk' : PySem.W.kitOne K (.ref D) cv' = some b')
    (q : ∀ H' p, Gr H H' → H p = none → KdL K H' p (ks ++ [(z, b), (z', b')]) → Q (.ref p) H') :
    tOp rCat (tVar 1) (tLst (tCons (tTup (tCons (tC (.str z)) (tCons (tCB (rIsX K D) (tCons (tVar 0) (tCons (tC c) tNil))) tNil)))
      (tCons (tTup (tCons (tC (.str z')) (tCons (tCB (rIsX K D) (tCons (tVar 0) (tCons (tC c') tNil))) tNil))) tNil))) σ H Q := by
  refine ⟨_, h1, _, h0, a, c, cv, b, rfl, hH, hc, hk, (by show 2 ≤ sizeLine; decide), fun t1 nt1 => ?_⟩
  have g1 : Gr H (upd H t1 (.tup [.str z, .bl b])) := Gr.new nt1
  have e1 : upd H t1 (.tup [.str z, .bl b]) t1 = some (.tup [.str z, .bl b]) := upd_same
  generalize upd H t1 (.tup [.str z, .bl b]) = H1 at g1 e1 ⊢
  refine ⟨_, h0, a, c', cv', b', rfl, (hH.gr g1), hc', hk', (by show 2 ≤ sizeLine; decide), fun t2 nt2 => ?_⟩
  have g2 : Gr H1 (upd H1 t2 (.tup [.str z', .bl b'])) := Gr.new nt2
  have e2 : upd H1 t2 (.tup [.str z', .bl b']) t2 = some (.tup [.str z', .bl b']) := upd_same
  generalize upd H1 t2 (.tup [.str z', .bl b']) = H2 at g2 e2 ⊢
  obtain ⟨xs, hx, dx⟩ := hl
  refine ⟨by show 2 ≤ sizeLine; decide, fun m nm => ?_⟩
  have g3 : Gr H2 (upd H2 m (.lst [.ref t1, .ref t2])) := Gr.new nm
  have gx := (g1.trans g2).trans g3
  have hlen : xs.length = ks.length := by
    have := dpA_len dx
    rw [List.length_map] at this
    exact this
  refine ⟨l, m, xs, _, rfl, rfl, gx.lst hx, upd_same, ?_, fun p np => ?_⟩
  · rw [sizeLine_eq]
    show xs.length + 2 ≤ _
    omega
  · have g4 : Gr (upd H2 m (.lst [.ref t1, .ref t2])) (upd (upd H2 m (.lst [.ref t1, .ref t2])) p (.lst (xs ++ [.ref t1, .ref t2]))) := Gr.new np
    refine q _ p (gx.trans g4) (gx.back p np) ⟨_, upd_same, ?_⟩
    rw [List.map_append]
    refine dpA_app ((gx.trans g4).kd.dpA dx) (.cons (dp_pair (g4.tup (g3.tup (g2.tup e1)))) (.cons (dp_pair (g4.tup (g3.tup e2))) .nil))
theorem pairs_lst {K : PySem.W.Frag} {H : Hp} {l : Addr} {xs zs : List V} (hl : H l = some (.lst xs)) : ∀ {ks : List (Str × Bool)} {ys : List V}, DpAll K H ys (ks.map fun k => .tuple [.str k.1, .bool k.2]) →
    DpAll K (upd H l (.lst zs)) ys (ks.map fun k => .tuple [.str k.1, .bool k.2])
  | [], _, h => by
    cases h
    exact .nil
  | k :: r, _, h => by
    obtain ⟨x, t, rfl, hx, ht⟩ := dpA_cons h
    obtain ⟨p, a, b, rfl, hp, ha, hb⟩ := dp_2 hx
    cases dp_str ha
    cases hb
    exact .cons (.tup (kt_lst hl hp) (.cons (.str _) (.cons (.bl _) .nil))) (pairs_lst hl ht)
theorem pair_at {K : PySem.W.Frag} {H : Hp} : ∀ {ks : List (Str × Bool)} {xs : List V} {i : Nat} {x : V}, DpAll K H xs (ks.map fun k => .tuple [.str k.1, .bool k.2]) → xs[i]? = some x →
    ∃ z b p, ks[i]? = some (z, b) ∧ x = .ref p ∧ SqT K H p [.str z, .bl b]
  | [], _, i, x, h, hx => by
    cases h
    simp at hx
  | k :: r, _, 0, x, h, hx => by
    obtain ⟨y, t, rfl, hy, ht⟩ := dpA_cons h
    obtain ⟨p, a, b, rfl, hp, ha, hb⟩ := dp_2 hy
    cases dp_str ha
    cases hb
    exact ⟨k.1, k.2, p, rfl, (Option.some.inj hx).symm, hp⟩
  | k :: r, _, i + 1, x, h, hx => by
    obtain ⟨y, t, rfl, hy, ht⟩ := dpA_cons h
    exact pair_at (i := i) ht (by simpa using hx)
/-- where a class stands, and whether the error is of it -/
def Kxc (K : PySem.W.Frag) (mg : Str → Option Value) (D : Addr) (x : Str) (b : Bool) : Prop := ∃ c, mg x = some (.ref c) ∧ PySem.W.kitOne K (.ref D) (.ref c) = some b
structure Kxs (K : PySem.W.Frag) (mg : Str → Option Value) (D : Addr) (bs : List Bool) : Prop where
  e : ExcC K D
  n : bs.length = 16
  row : Kxc K mg D "BadRow" (bs.getD 0 false)
  face : Kxc K mg D "BadFace" (bs.getD 1 false)
  making : Kxc K mg D "BadMaking" (bs.getD 2 false)
  user : Kxc K mg D "BadUser" (bs.getD 3 false)
  steps : Kxc K mg D "BadSteps" (bs.getD 4 false)
  lead : Kxc K mg D "BadLead" (bs.getD 5 false)
  apart : Kxc K mg D "ToldApart" (bs.getD 6 false)
  place : Kxc K mg D "OutOfPlace" (bs.getD 7 false)
  great : Kxc K mg D "TooGreat" (bs.getD 8 false)
  paper : Kxc K mg D "BadPaper" (bs.getD 9 false)
  program : Kxc K mg D "BadProgram" (bs.getD 10 false)
  module : Kxc K mg D "BadModule" (bs.getD 11 false)
  refused : Kxc K mg D "Refused" (bs.getD 12 false)
  use : Kxc K mg D "BadUse" (bs.getD 13 false)
  input : Kxc K mg D "BadInput" (bs.getD 14 false)
  ve : PySem.W.kitOne K (.ref D) (.type "ValueError") = some true
  fe : Kxc K mg D "FaceError" true
  other : bs.getD 15 false = false
def kdW : List Str := ["row", "face", "making", "user", "steps", "lead", "apart", "place", "great", "paper", "program", "module", "refused", "use", "input", "other"]
def kdT (ks : List (Str × Bool)) : List V := (ks.filter (·.2)).map fun k => V.str k.1
theorem kdT_take {ks : List (Str × Bool)} {i : Nat} {z : Str} {b : Bool} (h : ks[i]? = some (z, b)) : kdT (ks.take (i + 1)) = kdT (ks.take i) ++ (if b = true then [V.str z] else []) := by
  unfold kdT
  rw [List.take_add_one, h, List.filter_append, List.map_append]
  cases b <;> rfl
theorem kdT_len (ks : List (Str × Bool)) : (kdT ks).length ≤ ks.length := by
  unfold kdT
  rw [List.length_map]
  exact List.length_filter_le _ _
section
variable {P : Program} {w : World} {K : PySem.W.Frag} {mg : Str → Option Value} {base : Heap}
def spKinds (K : PySem.W.Frag) (mg : Str → Option Value) : Sp := fun vs H Q _ => ∃ (a D : Addr) (bs : List Bool), vs = [.ref a] ∧ Ek H D a ∧ Kxs K mg D bs ∧ ∀ H' p, Gr H H' → H' p = some (.lst (kdT (kdW.zip bs))) → Q (.ref p) H'
set_option maxHeartbeats 2000000 in
theorem ok_kinds {f : Addr} {fd : FuncData} {k : Nat} (F : Fun K "_law_kinds" "_law_kinds" sKinds f fd) (mi : mg "isinstance" = none) (mv : mg "ValueError" = none) :
    FnOk P w K mg base CX0 (k + 1) f fd ["_law_error"] (spKinds K mg) := by
  refine F.ok scKinds (fun vs H Q E h => ?_) (fun cdv A outer s H vs Q E hr h => ?_)
  · obtain ⟨a, D, bs, rfl, _⟩ := h
    rfl
  · obtain ⟨a, D, bs, rfl, hH, X, q⟩ := h
    obtain ⟨c1, g1, k1⟩ := X.row
    obtain ⟨c2, g2, k2⟩ := X.face
    obtain ⟨c3, g3, k3⟩ := X.making
    obtain ⟨c4, g4, k4⟩ := X.user
    obtain ⟨c5, g5, k5⟩ := X.steps
    obtain ⟨c6, g6, k6⟩ := X.lead
    obtain ⟨c7, g7, k7⟩ := X.apart
    obtain ⟨c8, g8, k8⟩ := X.place
    obtain ⟨c9, g9, k9⟩ := X.great
    obtain ⟨c10, g10, k10⟩ := X.paper
    obtain ⟨c11, g11, k11⟩ := X.program
    obtain ⟨c12, g12, k12⟩ := X.module
    obtain ⟨c13, g13, k13⟩ := X.refused
    obtain ⟨c14, g14, k14⟩ := X.use
    obtain ⟨c15, g15, k15⟩ := X.input
    obtain ⟨c16, g16, k16⟩ := X.fe
    have eb : bs = [bs.getD 0 false, bs.getD 1 false, bs.getD 2 false, bs.getD 3 false, bs.getD 4 false, bs.getD 5 false, bs.getD 6 false, bs.getD 7 false, bs.getD 8 false, bs.getD 9 false, bs.getD 10 false, bs.getD 11 false, bs.getD 12 false, bs.getD 13 false, bs.getD 14 false, false] := by
      have h := X.n
      have h2 := X.other
      match bs, h, h2 with
      | [_, _, _, _, _, _, _, _, _, _, _, _, _, _, _, false], _, _ => rfl
      | [_, _, _, _, _, _, _, _, _, _, _, _, _, _, _, true], _, h2 => cases h2
    generalize bs.getD 0 false = b1 at *
    generalize bs.getD 1 false = b2 at *
    generalize bs.getD 2 false = b3 at *
    generalize bs.getD 3 false = b4 at *
    generalize bs.getD 4 false = b5 at *
    generalize bs.getD 5 false = b6 at *
    generalize bs.getD 6 false = b7 at *
    generalize bs.getD 7 false = b8 at *
    generalize bs.getD 8 false = b9 at *
    generalize bs.getD 9 false = b10 at *
    generalize bs.getD 10 false = b11 at *
    generalize bs.getD 11 false = b12 at *
    generalize bs.getD 12 false = b13 at *
    generalize bs.getD 13 false = b14 at *
    generalize bs.getD 14 false = b15 at *
    have EC := X.e
    have kve := X.ve
    clear X
    subst eb
    have nd := scKinds.nd
    refine' ⟨_, pss_cons ?s1 (pss_cons ?s2 (pss_cons ?s3 (pss_cons ?s4 (pss_cons ?s5 (pss_cons ?s6 (pss_cons ?s7 (pss_cons ?s8 (pss_cons ?s9 (pss_one ?s10))))))))), ?rd⟩
    case s1 => exact ps_set (i := 1) nd rfl (.inl rfl) (pe_lst (pa_cons (pe_tup (pa_cons pe_str (pa_cons (pe_callB (call_isX EC) (by rfl) mi boot_isinstance (pa_cons (pv 0) (pa_cons (pe_glob (v := .ref c1) rfl g1 rfl) pa_nil))) pa_nil))) (pa_cons (pe_tup (pa_cons pe_str (pa_cons (pe_callB (call_isX EC) (by rfl) mi boot_isinstance (pa_cons (pv 0) (pa_cons (pe_glob (v := .ref c2) rfl g2 rfl) pa_nil))) pa_nil))) pa_nil)))
    case s2 => exact ps_set (i := 1) nd rfl (.inl rfl) (pe_op op_cat (pv 1) (pe_lst (pa_cons (pe_tup (pa_cons pe_str (pa_cons (pe_callB (call_isX EC) (by rfl) mi boot_isinstance (pa_cons (pv 0) (pa_cons (pe_glob (v := .ref c3) rfl g3 rfl) pa_nil))) pa_nil))) (pa_cons (pe_tup (pa_cons pe_str (pa_cons (pe_callB (call_isX EC) (by rfl) mi boot_isinstance (pa_cons (pv 0) (pa_cons (pe_glob (v := .ref c4) rfl g4 rfl) pa_nil))) pa_nil))) pa_nil))))
    case s3 => exact ps_set (i := 1) nd rfl (.inl rfl) (pe_op op_cat (pv 1) (pe_lst (pa_cons (pe_tup (pa_cons pe_str (pa_cons (pe_callB (call_isX EC) (by rfl) mi boot_isinstance (pa_cons (pv 0) (pa_cons (pe_glob (v := .ref c5) rfl g5 rfl) pa_nil))) pa_nil))) (pa_cons (pe_tup (pa_cons pe_str (pa_cons (pe_callB (call_isX EC) (by rfl) mi boot_isinstance (pa_cons (pv 0) (pa_cons (pe_glob (v := .ref c6) rfl g6 rfl) pa_nil))) pa_nil))) pa_nil))))
    case s4 => exact ps_set (i := 1) nd rfl (.inl rfl) (pe_op op_cat (pv 1) (pe_lst (pa_cons (pe_tup (pa_cons pe_str (pa_cons (pe_callB (call_isX EC) (by rfl) mi boot_isinstance (pa_cons (pv 0) (pa_cons (pe_glob (v := .ref c7) rfl g7 rfl) pa_nil))) pa_nil))) (pa_cons (pe_tup (pa_cons pe_str (pa_cons (pe_callB (call_isX EC) (by rfl) mi boot_isinstance (pa_cons (pv 0) (pa_cons (pe_glob (v := .ref c8) rfl g8 rfl) pa_nil))) pa_nil))) pa_nil))))
    case s5 => exact ps_set (i := 1) nd rfl (.inl rfl) (pe_op op_cat (pv 1) (pe_lst (pa_cons (pe_tup (pa_cons pe_str (pa_cons (pe_callB (call_isX EC) (by rfl) mi boot_isinstance (pa_cons (pv 0) (pa_cons (pe_glob (v := .ref c9) rfl g9 rfl) pa_nil))) pa_nil))) (pa_cons (pe_tup (pa_cons pe_str (pa_cons (pe_callB (call_isX EC) (by rfl) mi boot_isinstance (pa_cons (pv 0) (pa_cons (pe_glob (v := .ref c10) rfl g10 rfl) pa_nil))) pa_nil))) pa_nil))))
    case s6 => exact ps_set (i := 1) nd rfl (.inl rfl) (pe_op op_cat (pv 1) (pe_lst (pa_cons (pe_tup (pa_cons pe_str (pa_cons (pe_callB (call_isX EC) (by rfl) mi boot_isinstance (pa_cons (pv 0) (pa_cons (pe_glob (v := .ref c11) rfl g11 rfl) pa_nil))) pa_nil))) (pa_cons (pe_tup (pa_cons pe_str (pa_cons (pe_callB (call_isX EC) (by rfl) mi boot_isinstance (pa_cons (pv 0) (pa_cons (pe_glob (v := .ref c12) rfl g12 rfl) pa_nil))) pa_nil))) pa_nil))))
    case s7 => exact ps_set (i := 1) nd rfl (.inl rfl) (pe_op op_cat (pv 1) (pe_lst (pa_cons (pe_tup (pa_cons pe_str (pa_cons (pe_callB (call_isX EC) (by rfl) mi boot_isinstance (pa_cons (pv 0) (pa_cons (pe_glob (v := .ref c13) rfl g13 rfl) pa_nil))) pa_nil))) (pa_cons (pe_tup (pa_cons pe_str (pa_cons (pe_callB (call_isX EC) (by rfl) mi boot_isinstance (pa_cons (pv 0) (pa_cons (pe_glob (v := .ref c14) rfl g14 rfl) pa_nil))) pa_nil))) pa_nil))))
    case s8 => exact ps_expr (pe_bm PySem.F.plainAttrs_list PySem.F.slot_list_append PySem.F.type_list_append mt_append (pv 1) (pa_cons (pe_tup (pa_cons pe_str (pa_cons (pe_callB (call_isX EC) (by rfl) mi boot_isinstance (pa_cons (pv 0) (pa_cons (pe_glob (v := .ref c15) rfl g15 rfl) pa_nil))) pa_nil))) pa_nil))
    case s9 => exact ps_expr (pe_bm PySem.F.plainAttrs_list PySem.F.slot_list_append PySem.F.type_list_append mt_append (pv 1) (pa_cons (pe_tup (pa_cons pe_str (pa_cons (pe_or (pe_not (pe_callB (call_isX EC) (by rfl) mi boot_isinstance (pa_cons (pv 0) (pa_cons (pe_bltn (v := .ty "ValueError") (by rfl) mv (by decide +kernel) rfl) pa_nil)))) (pe_one (pe_not (pe_callB (call_isX EC) (by rfl) mi boot_isinstance (pa_cons (pv 0) (pa_cons (pe_glob (v := .ref c16) rfl g16 rfl) pa_nil)))))) pa_nil))) pa_nil))
    case s10 => exact ps_ret (pe_lc (own := [("_law_name", 2), ("_law_fits", 3)]) (g := gTup K 2 (gCons (gName 2) (gCons (gName 3) gNil))) rfl nd (pi_list (pv 1))
        (blkOk_by (own := [("_law_name", 2), ("_law_fits", 3)]) (N := nKinds) (sc := defScope sKinds) (by decide +kernel)) (fun _ _ _ _ _ => pg_tup rfl (pgs_cons (pg_name (i := 2) nd rfl (.inl rfl)) (pgs_cons (pg_name (i := 3) nd rfl (.inl rfl)) pgs_nil)))
        (fun _ _ _ _ _ => pts_one (pt_val (pv 3))) (fun _ _ _ _ _ => pv 2))
    case rd =>
    have self : ∀ (c : Addr) (u : Value), RelV (.ref c) u → u = .ref c := fun c u h => h
    refine ⟨_, rfl, a, _, _, b1, rfl, hH, self c1, k1, (by show 2 ≤ sizeLine; decide), fun t1 nt1 => ?_⟩
    have r1 : Gr H (upd H t1 (.tup [.str "row", .bl b1])) := Gr.new nt1
    have e1 : upd H t1 (.tup [.str "row", .bl b1]) t1 = some (.tup [.str "row", .bl b1]) := upd_same
    generalize upd H t1 (.tup [.str "row", .bl b1]) = H1 at r1 e1 ⊢
    refine ⟨_, rfl, a, _, _, b2, rfl, (hH.gr r1), self c2, k2, (by show 2 ≤ sizeLine; decide), fun t2 nt2 => ?_⟩
    have r2 : Gr H1 (upd H1 t2 (.tup [.str "face", .bl b2])) := Gr.new nt2
    have e2 : upd H1 t2 (.tup [.str "face", .bl b2]) t2 = some (.tup [.str "face", .bl b2]) := upd_same
    generalize upd H1 t2 (.tup [.str "face", .bl b2]) = H2 at r2 e2 ⊢
    refine ⟨by show 2 ≤ sizeLine; decide, fun l1 nl1 => ?_⟩
    have r3 : Gr H (upd H2 l1 (.lst [.ref t1, .ref t2])) := (r1.trans r2).trans (Gr.new nl1)
    have L1 : KdL K (upd H2 l1 (.lst [.ref t1, .ref t2])) l1 [("row", b1), ("face", b2)] := ⟨_, upd_same, .cons (dp_pair ((Gr.new nl1).tup (r2.tup e1))) (.cons (dp_pair ((Gr.new nl1).tup e2)) .nil)⟩
    generalize upd H2 l1 (.lst [.ref t1, .ref t2]) = G1 at r3 L1 ⊢
    refine two_isK rfl rfl ((hH.gr r3)) L1 (by simp) (self c3) k3 (self c4) k4 fun G2 l2 s2 nw2 L2 => ?_
    have r4 := r3.trans s2
    refine two_isK rfl rfl ((hH.gr r4)) L2 (by simp) (self c5) k5 (self c6) k6 fun G3 l3 s3 nw3 L3 => ?_
    have r5 := r4.trans s3
    refine two_isK rfl rfl ((hH.gr r5)) L3 (by simp) (self c7) k7 (self c8) k8 fun G4 l4 s4 nw4 L4 => ?_
    have r6 := r5.trans s4
    refine two_isK rfl rfl ((hH.gr r6)) L4 (by simp) (self c9) k9 (self c10) k10 fun G5 l5 s5 nw5 L5 => ?_
    have r7 := r6.trans s5
    refine two_isK rfl rfl ((hH.gr r7)) L5 (by simp) (self c11) k11 (self c12) k12 fun G6 l6 s6 nw6 L6 => ?_
    have r8 := r7.trans s6
    refine two_isK rfl rfl ((hH.gr r8)) L6 (by simp) (self c13) k13 (self c14) k14 fun G7 l7 s7 nw7 L7 => ?_
    have r9 := r8.trans s7
    -- input
    obtain ⟨xs7, hx7, dx7⟩ := L7
    have n7 : xs7.length = 14 := by
      have := dpA_len dx7
      rw [List.length_map] at this
      exact this
    refine ⟨_, rfl, .inl ⟨rfl, _, .inl (.inl hx7)⟩, _, rfl, a, _, _, b15, rfl, (hH.gr r9), self c15, k15, (by show 2 ≤ sizeLine; decide), fun t8 nt8 => ?_⟩
    have r10 : Gr G7 (upd G7 t8 (.tup [.str "input", .bl b15])) := Gr.new nt8
    have e8 : upd G7 t8 (.tup [.str "input", .bl b15]) t8 = some (.tup [.str "input", .bl b15]) := upd_same
    generalize upd G7 t8 (.tup [.str "input", .bl b15]) = G8 at r10 e8 ⊢
    have hx8 := r10.lst hx7
    have nl7 : H l7 = none := r8.back l7 nw7
    refine ⟨l7, _, _, rfl, rfl, hx8, by rw [n7, sizeLine_eq]; decide, ?_⟩
    have r11 : Gr H (upd G8 l7 (.lst (xs7 ++ [.ref t8]))) := (r9.trans r10).upd_new nl7
    have dx7' : DpAll K G7 xs7 (([("row", b1), ("face", b2), ("making", b3), ("user", b4), ("steps", b5), ("lead", b6), ("apart", b7), ("place", b8), ("great", b9), ("paper", b10), ("program", b11), ("module", b12), ("refused", b13), ("use", b14)] : List (Str × Bool)).map fun k => .tuple [.str k.1, .bool k.2]) := dx7
    have d8 : DpAll K (upd G8 l7 (.lst (xs7 ++ [.ref t8]))) (xs7 ++ [.ref t8]) (([("row", b1), ("face", b2), ("making", b3), ("user", b4), ("steps", b5), ("lead", b6), ("apart", b7), ("place", b8), ("great", b9), ("paper", b10), ("program", b11), ("module", b12), ("refused", b13), ("use", b14), ("input", b15)] : List (Str × Bool)).map fun k => .tuple [.str k.1, .bool k.2]) :=
      pairs_lst hx8 (dpA_app (r10.kd.dpA dx7') (.cons (dp_pair (z := "input") e8) .nil))
    have hx9 : upd G8 l7 (.lst (xs7 ++ [.ref t8])) l7 = some (.lst (xs7 ++ [.ref t8])) := upd_same
    generalize upd G8 l7 (.lst (xs7 ++ [.ref t8])) = G9 at r11 d8 hx9 ⊢
    -- other
    refine ⟨_, rfl, .inl ⟨rfl, _, .inl (.inl hx9)⟩, _, rfl, a, _, _, true, rfl, (hH.gr r11), (fun u h => h), kve, true, rfl, false, rfl, ?_⟩
    refine iteF ⟨_, rfl, a, _, _, true, rfl, (hH.gr r11), self c16, k16, true, rfl, (by show 2 ≤ sizeLine; decide), fun t9 nt9 => ?_⟩
    have r12 : Gr G9 (upd G9 t9 (.tup [.str "other", .bl (!true)])) := Gr.new nt9
    have e9 : upd G9 t9 (.tup [.str "other", .bl (!true)]) t9 = some (.tup [.str "other", .bl false]) := upd_same
    generalize upd G9 t9 (.tup [.str "other", .bl (!true)]) = G10 at r12 e9 ⊢
    have hx10 := r12.lst hx9
    refine ⟨l7, _, _, rfl, rfl, hx10, by rw [List.length_append, n7, sizeLine_eq]; show 15 < 16777216; decide, ?_⟩
    have r13 : Gr H (upd G10 l7 (.lst ((xs7 ++ [.ref t8]) ++ [.ref t9]))) := (r11.trans r12).upd_new nl7
    have d9 : DpAll K (upd G10 l7 (.lst ((xs7 ++ [.ref t8]) ++ [.ref t9]))) ((xs7 ++ [.ref t8]) ++ [.ref t9]) (([("row", b1), ("face", b2), ("making", b3), ("user", b4), ("steps", b5), ("lead", b6), ("apart", b7), ("place", b8), ("great", b9), ("paper", b10), ("program", b11), ("module", b12), ("refused", b13), ("use", b14), ("input", b15), ("other", false)] : List (Str × Bool)).map fun k => .tuple [.str k.1, .bool k.2]) :=
      pairs_lst hx10 (dpA_app (r12.kd.dpA d8) (.cons (dp_pair (z := "other") e9) .nil))
    have hx11 : upd G10 l7 (.lst ((xs7 ++ [.ref t8]) ++ [.ref t9])) l7 = some (.lst ((xs7 ++ [.ref t8]) ++ [.ref t9])) := upd_same
    have n9 : ((xs7 ++ [V.ref t8]) ++ [V.ref t9]).length = 16 := by
      rw [List.length_append, List.length_append, n7]
      rfl
    have q' : ∀ H' p, Gr H H' → H' p = some (.lst (kdT ([("row", b1), ("face", b2), ("making", b3), ("user", b4), ("steps", b5), ("lead", b6), ("apart", b7), ("place", b8), ("great", b9), ("paper", b10), ("program", b11), ("module", b12), ("refused", b13), ("use", b14), ("input", b15), ("other", false)] : List (Str × Bool)))) → Q (.ref p) H' := q
    generalize upd G10 l7 (.lst ((xs7 ++ [.ref t8]) ++ [.ref t9])) = G11 at r13 d9 hx11 ⊢
    generalize ((xs7 ++ [V.ref t8]) ++ [V.ref t9]) = ys at d9 hx11 n9 ⊢
    have nks : ([("row", b1), ("face", b2), ("making", b3), ("user", b4), ("steps", b5), ("lead", b6), ("apart", b7), ("place", b8), ("great", b9), ("paper", b10), ("program", b11), ("module", b12), ("refused", b13), ("use", b14), ("input", b15), ("other", false)] : List (Str × Bool)).length = 16 := rfl
    generalize ([("row", b1), ("face", b2), ("making", b3), ("user", b4), ("steps", b5), ("lead", b6), ("apart", b7), ("place", b8), ("great", b9), ("paper", b10), ("program", b11), ("module", b12), ("refused", b13), ("use", b14), ("input", b15), ("other", false)] : List (Str × Bool)) = ks at d9 q' nks
    clear q dx7' d8 dx7
    refine ⟨_, rfl, l7, rfl, ⟨_, .inl (.inl hx11)⟩, fun D nD => ?_⟩
    have gD : ∀ o, Gr G11 (upd G11 D o) := fun o => Gr.new nD
    refine lc_it (walk_list (xs := ys)) (fun i H2 => H2 = upd G11 D (.lst (kdT (ks.take i)))) rfl ?c0 ?c1 ?c2
    case c0 =>
      rintro i H2 hi rfl
      exact .inl (.inl ((gD _).lst hx11))
    case c1 =>
      rintro i y H2 H2' hi rfl ⟨rfl, hy⟩
      obtain ⟨z, b, pp, hz, rfl, hpp⟩ := pair_at d9 hy
      refine ⟨pp, _, rfl, (gD _).sqt hpp, rfl, _, _, rfl, _, _, rfl, rfl, rfl, _, rfl, b, rfl, ?_⟩
      have ek := kdT_take hz
      cases b with
      | true =>
        refine iteT ⟨_, rfl, _, upd_same, ?_, ?_⟩
        · have := kdT_len (ks.take i)
          have h2 := List.length_take_le i ks
          rw [sizeLine_eq]
          have h3 : (ks.take i).length ≤ 16 := by
            rw [List.length_take]
            omega
          omega
        · rw [upd_upd, ek]
          rfl
      | false =>
        refine iteF ?_
        show _ = _
        rw [ek, if_neg (by decide), List.append_nil]
    case c2 =>
      rintro H2 rfl
      refine q' _ D (r13.trans (gD _)) ?_
      rw [upd_same, n9, List.take_of_length_le (by omega)]
end
end SfC
namespace SfC
open PySem PySem.Spec PyProof.Rows L2 SfG
/-! ### the law's own: what may be handed, of any thing -/
theorem scLMay : FnScope ["_law_thing", "_law_kind", "_law_hidden", "_law_kinds_here"] ["_law_thing", "_law_kind", "_law_hidden", "_law_kinds_here"] (defScope sLMay) := ⟨rfl, rfl, rfl, by decide +kernel, rfl, by decide +kernel, by decide +kernel⟩
theorem boot_boolX : bootBuiltins "bool" = some (.type "bool") := by decide +kernel
section
variable {P : Program} {w : World} {K : PySem.W.Frag} {mg : Str → Option Value} {base : Heap}
def spLMayD (K : PySem.W.Frag) : Sp := fun vs H Q _ => ∃ (x : V) (d : PyData) (k : Kn) (ph g : Addr) (hd : List Str) (gv : List Kn), vs = [x, k.v, .ref ph, .ref g] ∧ Dx K H x d ∧ SqT K H ph (hd.map V.str) ∧ goK hd k ∧ H g = some (.lst (gv.map Kn.v)) ∧ Q (.bl (mayD gv d k)) H
theorem ok_lmayD {f : Addr} {fd : FuncData} {k : Nat} (F : Fun K "_law_may_hand" "_law_may_hand" sLMay f fd) (mi : mg "isinstance" = none) (mb : mg "bool" = none) (mn : mg "int" = none) (ml : mg "len" = none) :
    FnOk P w K mg base CX0 (k + 1) f fd ["_law_thing", "_law_kind", "_law_hidden", "_law_kinds_here"] (spLMayD K) := by
  refine F.ok scLMay (fun vs H Q E h => ?_) (fun cdv A outer s H vs Q E hr h => ?_)
  · obtain ⟨x, d, k, ph, g, hd, gv, rfl, _⟩ := h
    rfl
  · obtain ⟨x, d, k, ph, g, hd, gv, rfl, hx, hph, gk, hg, q⟩ := h
    refine ⟨_, pss_cons (ps_if (PW.pt (pw_or (pt_val (pe_isi "bool" 0 mi mb boot_boolX)) (pw_or (pt_not (pt_val (pe_isi "int" 0 mi mn (by decide +kernel)))) (pw_or1 (pt_cmpR op_lt (pv 0) pe_int (nomark _)))))) (pss_one (ps_ret pe_bl)) pss_nil)
      (pss_one (ps_ret (pe_ifExp (pt_cmpR op_in_seq (pv 1) (pv 2) rfl)
        (pe_and (pe_cmpR op_lt (pv 0) (pe_callB call_len_seq (by rfl) ml PySem.boot_len (pa_cons (pv 3) pa_nil)) (nomark _)) (pe_one (pe_cmpR op_eq (pe_ix ix_list (pv 3) (pv 0) (fun _ _ => rfl)) (pv 1) (nomark _))))
        (pe_cmpR op_lt (pv 0) (pv 1) (nomark _))))), ?_⟩
    have hI := dx_is hx
    refine ⟨_, rfl, _, _, hI.1, kit_bool _ hI.2, _, rfl, ?_⟩
    cases d with
    | bool b => exact iteT (iteT q)
    | none => exact iteF ⟨_, rfl, _, _, hI.1, kit_int _ hI.2, _, rfl, iteT (iteT q)⟩
    | str _ => exact iteF ⟨_, rfl, _, _, hI.1, kit_int _ hI.2, _, rfl, iteT (iteT q)⟩
    | list _ => exact iteF ⟨_, rfl, _, _, hI.1, kit_int _ hI.2, _, rfl, iteT (iteT q)⟩
    | tuple _ => exact iteF ⟨_, rfl, _, _, hI.1, kit_int _ hI.2, _, rfl, iteT (iteT q)⟩
    | dict _ => exact iteF ⟨_, rfl, _, _, hI.1, kit_int _ hI.2, _, rfl, iteT (iteT q)⟩
    | int i =>
      cases hx
      refine iteF ⟨_, rfl, _, _, hI.1, kit_int _ hI.2, _, rfl, ?_⟩
      refine iteF ⟨_, rfl, i, 0, rfl, rfl, _, rfl, ?_⟩
      by_cases c0 : i < 0
      · rw [decide_eq_true c0]
        have q' : Q (.bl false) H := by
          cases k with
          | p b =>
            have q2 : Q (.bl (decide (0 ≤ i) && decide (i ≤ b - 1))) H := q
            rw [decide_eq_false (show ¬ 0 ≤ i by omega), Bool.false_and] at q2
            exact q2
          | h z =>
            have q2 : Q (.bl (decide (0 ≤ i) && decide (gv[i.toNat]? = some (.h z)))) H := q
            rw [decide_eq_false (show ¬ 0 ≤ i by omega), Bool.false_and] at q2
            exact q2
        exact iteT q'
      obtain ⟨n, rfl⟩ : ∃ n : Nat, i = (n : Int) := ⟨i.toNat, by omega⟩
      rw [decide_eq_false c0]
      refine iteF ⟨_, rfl, _, rfl, ph, _, rfl, .inr hph, flat_kn k, flat_strs hd, _, rfl, ?_⟩
      rw [show (if false = true then !inV k.v (hd.map V.str) else inV k.v (hd.map V.str)) = k.isH from inV_kn gk]
      cases k with
      | p b =>
        refine iteF ⟨_, rfl, _, rfl, (n : Nat), b, rfl, rfl, ?_⟩
        have q2 : Q (.bl (decide ((0 : Int) ≤ (n : Nat)) && decide (((n : Nat) : Int) ≤ b - 1))) H := q
        rw [decide_eq_true (show (0 : Int) ≤ (n : Nat) by omega), Bool.true_and] at q2
        have e : decide (((n : Nat) : Int) ≤ b - 1) = decide (((n : Nat) : Int) < b) := by
          by_cases c : ((n : Nat) : Int) < b
          · rw [decide_eq_true c, decide_eq_true (show ((n : Nat) : Int) ≤ b - 1 by omega)]
          · rw [decide_eq_false c, decide_eq_false (show ¬ ((n : Nat) : Int) ≤ b - 1 by omega)]
        rw [e] at q2
        exact q2
      | h z =>
        have q' : Q (.bl (decide ((0 : Int) ≤ (n : Nat)) && decide (gv[((n : Nat) : Int).toNat]? = some (.h z)))) H := q
        rw [decide_eq_true (show (0 : Int) ≤ (n : Nat) by omega), Bool.true_and, Int.toNat_natCast] at q'
        refine iteT ⟨_, rfl, _, rfl, g, _, rfl, .inl (.inl (.inl hg)), (n : Nat), _, rfl, rfl, _, rfl, ?_⟩
        rw [List.length_map]
        by_cases c : n < gv.length
        · rw [decide_eq_true (show ((n : Nat) : Int) < ((gv.length : Nat) : Int) by omega)]
          have hn : gv[n]? = some gv[n] := List.getElem?_eq_getElem c
          generalize gv[n] = y at hn
          refine iteT ⟨_, rfl, _, rfl, g, _, _, y.v, rfl, rfl, .inl (.inl hg), atI_nat (by rw [List.getElem?_map, hn]; rfl), _, rfl, ?_⟩
          refine ⟨scal_kn y (.h z), ?_⟩
          rw [hn] at q'
          have e : decide (y.v = (Kn.h z).v) = decide (some y = some (Kn.h z)) := by
            by_cases c2 : y = .h z
            · rw [c2, decide_eq_true rfl, decide_eq_true rfl]
            · rw [decide_eq_false (fun e => c2 (kn_v_inj e)), decide_eq_false (fun e => c2 (Option.some.inj e))]
          rw [e]
          exact q'
        · rw [decide_eq_false (show ¬ ((n : Nat) : Int) < ((gv.length : Nat) : Int) by omega)]
          rw [List.getElem?_eq_none (by omega), decide_eq_false (by simp)] at q'
          exact iteF q'
end
end SfC
/-! enumerate(list, start) -/
namespace SfG
open PySem PySem.Spec PyProof.Rows L2
/-- the list at a, its places counted from k0 -/
def IteF (K : PySem.W.Frag) (a : Addr) (k0 : Int) : It :=
  ⟨fun i H => ∃ (xs : List V) (x : V), SqL K H a xs ∧ xs[i]? = some x, fun i H v H' => ∃ T x, v = .ref T ∧ H T = none ∧ H' = upd H T (.tup [.int (k0 + (i : Int)), x]) ∧ ∀ xs, SqL K H a xs → xs[i]? = some x, fun i H => ∃ xs : List V, SqL K H a xs ∧ xs.length ≤ i⟩
theorem turn_enumF {P : Program} {w : World} {K : PySem.W.Frag} {elts : List Expr} {kk : Nat} {tpos : Pos} (a e it : Addr) (k0 : Int) :
    Turn P w K (.Tuple elts kk tpos) (IteF K a k0) [e, it] e (fun i h => (∃ old, IsEnum h e it (k0 + (i : Int)) old) ∧ h.IsListIter it a i ∧ e ≠ it) where
  mem := by simp
  obj := fun i h st b hb => by
    obtain ⟨⟨old, he⟩, ⟨o, ho, hc, hd⟩, _⟩ := st
    have e' : b = e ∨ b = it := by simpa using hb
    rcases e' with z | z
    · rw [z]; exact ⟨_, he, fun v q => nomatch q⟩
    · rw [z]; exact ⟨o, ho, fun v q => by rw [hd] at q; cases q⟩
  keep := fun i h h' st k => let ⟨⟨old, he⟩, hi, hne⟩ := st; ⟨⟨old, k e (by simp) _ he⟩, hi.at fun o q => k it (by simp) o q, hne⟩
  item := by
    intro X hP hw hK hc i pins s σ H E I hf st hg
    subst hP hw hK
    obtain ⟨⟨old, he⟩, hit, hne⟩ := st
    obtain ⟨xs, x, hq, hx⟩ := hg
    obtain ⟨its, rv, p, hz⟩ := I.list hq
    obtain ⟨u, hu, ru⟩ := rv.get hx
    have hel : e < s.heap.objs.size := Heap.lt_size he
    have hil : it < s.heap.objs.size := by obtain ⟨_, q, _⟩ := hit; exact Heap.lt_size q
    have hai : a ≠ it := fun z => by
      obtain ⟨o, ho, hc1, _⟩ := hit
      obtain ⟨o', ho', hc2, _⟩ := p.isList
      rw [z, ho] at ho'
      cases ho'
      rw [hc1] at hc2
      exact absurd (Value.type.inj hc2) (by decide)
    have hae : e ∉ [it, a] := by
      intro z
      have e' : e = it ∨ e = a := by simpa using z
      rcases e' with z | z
      · exact hne z
      · obtain ⟨o', ho', hc2, _⟩ := p.isList
        have he' := he
        unfold IsEnum at he'
        rw [z, ho'] at he'
        cases he'
        exact absurd (Value.type.inj hc2) (by decide)
    have hlt : i < its.toArray.size := by
      have := (List.getElem?_eq_some_iff.mp hu).1
      simpa using this
    refine wpAny_pyNext_enum_itemC (Draws.list (A := X.A.in1) (I.ok.hd hc) it a hai its.toArray) he ⟨hit, p.isList⟩ hlt hne hae fun u' h' tk hP ho hs' hT hsz hk => ?_
    obtain ⟨hit', _⟩ := hs'
    have hu' : u' = u := by
      have h1 : its.toArray[i]? = some u' := hP
      have h2 : its.toArray[i]? = some u := by simpa using hu
      exact Option.some.inj (h1.symm.trans h2)
    subst hu'
    refine ⟨_, rfl, wpAny_letOwnedTupleGo_enum (s := { s with heap := h', toks := tk + 1 }) ho fun h'' he' sb => ?_⟩
    have hT2 : h''.get? s.heap.objs.size = some { cls := .type "tuple", data := .seq #[.int (k0 + (i : Int)) tk, u'] } := (sb.2 _ (Nat.ne_of_gt hel)).trans hT
    have new : ObjOk X.prog X.w (upd H s.heap.objs.size (.tup [.int (k0 + (i : Int)), x])) h'' s.heap.objs.size (.tup [.int (k0 + (i : Int)), x]) :=
      ⟨by show 2 ≤ sizeLine; decide, [.int (k0 + (i : Int)) tk, u'], .cons ⟨_, rfl⟩ (.cons ru .nil), ⟨_, hT2, rfl, _, rfl⟩⟩
    have I1 : Inv X pins σ (upd H s.heap.objs.size (.tup [.int (k0 + (i : Int)), x])) { s with heap := h'', toks := tk + 1 } :=
      I.turnedNew (ch := [e, it]) (fun b ob hb q => (sb.2 b (fun z => hb (by simp [z]))).trans (hk b ob (fun z => hb (by simp [z])) (fun z => hb (by simp [z])) q)) hf (Nat.le_refl _) new
    refine ⟨.ref s.heap.objs.size, _, I1, rfl, ⟨_, x, rfl, I.hok.fresh (Nat.le_refl _), rfl, fun ys hy => by rw [I.list_inj hy hq]; exact hx⟩, ⟨⟨u', ?_⟩, hit'.at fun o q => (sb.2 it (Ne.symm hne)).trans q, hne⟩, fun b hb => ?_⟩
    · have e1 : k0 + ((i + 1 : Nat) : Int) = k0 + (i : Int) + 1 := by omega
      rw [e1]; exact he'
    · have hb' : b < s.heap.objs.size := by
        have e' : b = e ∨ b = it := by simpa using hb
        rcases e' with z | z
        · rw [z]; exact hel
        · rw [z]; exact hil
      rw [upd_ne (Nat.ne_of_lt hb')]
      exact (hf b hb).1
  done := by
    intro X hP hw hK hc i pins s σ H E I hf st hg
    subst hP hw hK
    obtain ⟨⟨old, he⟩, hit, hne⟩ := st
    obtain ⟨xs, hq, hx⟩ := hg
    obtain ⟨its, rv, p, hz⟩ := I.list hq
    obtain ⟨f0, f1, f2, f3, f4, f5⟩ := hf it (by simp)
    have hl := rv.length
    have D : Draws X.prog X.w X.A.in1 it [it, a] i (fun _ _ => True) (fun j h => j = i ∧ h.IsListIter it a i ∧ h.IsList a its.toArray) :=
      { live := fun _ _ st => let ⟨o, ho, _⟩ := st.2.1; ⟨o, ho⟩
        frame := fun _ _ _ st hk => ⟨st.1, st.2.1.at fun o e => hk it (by simp) o e, st.2.2.at fun o e => hk a (by simp) o e⟩
        item := fun j s Q E hj st _ => absurd hj (by rw [st.1]; omega)
        done := fun s Q E st hE => wpAny_nextOf_list_end (A := X.A.in1) (I.ok.hd hc) st.2.1 st.2.2 (by simp; omega) hE }
    exact wpAny_pyNext_enum_endD D he ⟨rfl, hit, p.isList⟩ fun h' eb => ⟨rfl, I.turned (t' := s.toks) (fun b o hb q => eb b o hb q) f0 f1 f3 f4 f5⟩
  self := fun A i s Q E st h => let ⟨⟨_, he⟩, _⟩ := st; wpAny_pyIter_enum he h
def iEnumF (K : PySem.W.Frag) (ta : TA) : TI := fun σ H R => ta σ H fun vs H1 => ∃ a xs k0, vs = [.ref a, .int k0] ∧ -(2 ^ 63) ≤ k0 ∧ k0 < 2 ^ 63 ∧ SqL K H1 a xs ∧ R (IteF K a k0) H1
theorem pi_enumF {X : Cx} {e e2 : Expr} {ta : TA} {p pos tpos : Pos} {elts : List Expr} {kk : Nat} (hg : Gl X "enumerate") (hm : X.mg "enumerate" = none) (ha : PA X [e, e2] ta) (hs : starEach [e, e2] X.env = (false, eval e X.env) :: starEach [e2] X.env := by rfl) (hpl : (backTo pos (starEach [e2] X.env)).any (·.1) = false := by rfl) :
    PI X (.Tuple elts kk tpos) (.Call (.Name "enumerate" p) [e, e2] [] pos) (iEnumF X.K ta) := by
  refine ⟨fun pins s σ H R I h => ?_⟩
  refine Call_ (ld_blt I hg hm boot_enumerate (PyProof.Rows.callWith_type1 (thn (ha.run pos pins s σ H _ I h) fun us s1 ⟨vs, H1, I1, r1, q1⟩ => ?_) hs hpl))
  obtain ⟨a, xs, k0, ex, b0, b1, hq, q⟩ := q1
  subst ex
  cases r1 with
  | cons r rr =>
    cases rr with
    | cons r2 rr =>
      cases rr
      cases r
      obtain ⟨tk, rfl⟩ := r2
      obtain ⟨its, rv, p', hz⟩ := I1.list hq
      refine enum_begins (begins_list a its.toArray) p'.isList b0 b1 fun h' he hit hsz hk => wpAny_pyIter_enum he ?_
      have I2 : Inv X pins σ H1 { s1 with heap := h' } := I1.kept (t' := s1.toks) hk
      have he0 : IsEnum h' (s1.heap.objs.size + 1) s1.heap.objs.size (k0 + ((0 : Nat) : Int)) .none := by
        rw [show k0 + ((0 : Nat) : Int) = k0 by omega]
        exact he
      refine ⟨s1.heap.objs.size + 1, [s1.heap.objs.size + 1, s1.heap.objs.size], _, _, H1, rfl, I2, turn_enumF a (s1.heap.objs.size + 1) s1.heap.objs.size k0, ⟨⟨.none, he0⟩, ⟨_, hit, rfl, rfl⟩, Nat.succ_ne_self _⟩, fun b hb => ?_, q⟩
      have e' : b = s1.heap.objs.size + 1 ∨ b = s1.heap.objs.size := by simpa using hb
      have hle : s1.heap.objs.size ≤ b := by
        rcases e' with z | z
        · rw [z]; exact Nat.le_add_right _ _
        · rw [z]; exact Nat.le_refl _
      exact I1.fpOk hle (I1.hok.fresh hle)
theorem walk_enumF {K : PySem.W.Frag} {a : Addr} {k0 : Int} {xs : List V} : Walk (IteF K a k0) xs.length (fun H => SqL K H a xs) (YPair (fun i => some (.int (k0 + (i : Int)))) (fun i => xs[i]?)) := by
  refine ⟨fun i _ hi q => ⟨xs, xs[i], q, by simp [hi]⟩, fun _ q => ⟨xs, q, Nat.le_refl _⟩, fun i H v H' _ q y => ?_⟩
  obtain ⟨T, x, h1, h2, h3, h4⟩ := y
  exact ⟨T, _, x, h1, h2, h3, rfl, h4 xs q⟩
end SfG
namespace SfC
open PySem PySem.Spec PyProof.Rows L2 SfG
/-! ### the law's own look at users -/
abbrev nLFirst : List Str := ["_law_face_here", "_law_user_here", "_law_deeds", "_law_name", "_law_takes", "_law_gives", "_law_kinds_here", "_law_number", "_law_row", "_law_spot", "_law_kind"]
theorem scLFirst : FnScope nLFirst ["_law_face_here", "_law_user_here"] (defScope sLFirst) := ⟨rfl, rfl, rfl, by decide +kernel, rfl, by decide +kernel, by decide +kernel⟩
abbrev nLRefused : List Str := ["_law_deed", "_law_face_here", "_law_thing", "_law_wrong", "_law_found", "_law_error", "_law_kinds_here"]
theorem scLRefused : FnScope nLRefused ["_law_deed", "_law_face_here", "_law_thing"] (defScope sLRefused) := ⟨rfl, rfl, rfl, by decide +kernel, rfl, by decide +kernel, by decide +kernel⟩
end SfC
namespace SfC
open PySem PySem.Spec PyProof.Rows L2 SfG
/-! ### _law_refused: one of three defs is asked -/
def bsUser : List Bool := [false, false, false, true, false, false, false, false, false, false, false, false, false, false, false, false]
theorem one_str {K : PySem.W.Frag} {H : Hp} {p : Addr} {z : Str} (h : H p = some (.lst [.str z])) : Dp K H (.ref p) (.list [.str z]) := .lst (.inl (.inl h)) (.cons (.str _) .nil)
theorem sh_user : SeqAt.shaped (.list [.str "user"]) = true := by decide +kernel
theorem eq_user : PyData.eqv (.list [.str "user"]) (.list [.str "user"]) = true := by decide +kernel
section
variable {P : Program} {w : World} {K : PySem.W.Frag} {mg : Str → Option Value} {base : Heap}
/-- BadUser, held -/
structure OneU (K : PySem.W.Frag) (mg : Str → Option Value) (C CF : Addr) : Prop where
  gF : mg "FaceError" = some (.ref CF)
  xC : PySem.W.exmOne K (.ref C) (.ref CF) = some true
  kC : Kxs K mg C bsUser
  T : XfC K C
  f1 : PySem.W.findIn K (.ref C) "row" = some none
  f2 : PySem.W.findIn K (.ref C) "place" = some none
/-- the three defs -/
def S3 (K : PySem.W.Frag) (C fN fK fT : Addr) (f : Addr) (sp : Sp) : Prop := (f = fN ∧ sp = spNUX K C) ∨ (f = fK ∧ sp = spKTX K C) ∨ (f = fT ∧ sp = spUTX K C)
/-- what each tells -/
def Res (fN fK fT fD : Addr) (f : Fc) (d : PyData) (v : V) : Prop := (fD = fN ∧ fltU f d = none ∧ v = .non) ∨ (fD = fK ∧ ∃ u r, d = usD u ∧ GoU f u ∧ u[u.length - 1]? = some r ∧ v = r.e.gv.v) ∨ (fD = fT ∧ ∃ u, d = usD u ∧ GoU f u ∧ v = .str (textU u))
def spLRef (K : PySem.W.Frag) (fN fK fT : Addr) : Sp := fun vs H Q _ => ∃ (fD : Addr) (x y : V) (f : Fc) (d : PyData), vs = [.ref fD, x, y] ∧ (fD = fN ∨ fD = fK ∨ fD = fT) ∧ Dp K H x f.d ∧ goF f ∧ Dx K H y d ∧
  (∀ v H' t, Res fN fK fT fD f d v → Gr H H' → H' t = some (.tup [.str "told", v]) → Q (.ref t) H') ∧ (∀ a b, fltU f d = some (a, b) → ∀ H' t, Gr H H' → H' t = some (.tup [.str "user", ovN a, ovN b]) → Q (.ref t) H')
set_option maxHeartbeats 2000000 in
theorem ok_lref {f fN fK fT fQ C CF : Addr} {fd dQ : FuncData} {k : Nat} (F : Fun K "_law_refused" "_law_refused" sLRefused f fd) (A : ∀ g sp, S3 K C fN fK fT g sp → HeldX P w K mg base k g sp)
    (HK : Has P w K mg base k "_law_kinds" ["_law_error"] (spKinds K mg) fQ dQ) (T : OneU K mg C CF) (mi : mg "isinstance" = none) :
    FnOk P w K mg base CX0 (k + 1) f fd ["_law_deed", "_law_face_here", "_law_thing"] (spLRef K fN fK fT) := by
  refine F.ok scLRefused (fun vs H Q E h => ?_) (fun cdv A' outer s H vs Q E hr h => ?_)
  · obtain ⟨fD, x, y, f, d, rfl, _⟩ := h
    rfl
  · obtain ⟨fD, x, y, f, d, rfl, h3, hx, go, hy, q1, q2⟩ := h
    have nd := scLRefused.nd
    obtain ⟨cR, gR, kR⟩ := T.kC.user
    have EC := T.kC.e
    refine' ⟨_, pss_cons ?s1 (pss_cons ?s2 (pss_cons ?s3 (pss_cons ?s4 (pss_cons ?s5 (pss_cons ?s6 (pss_one ?s7)))))), ?rd⟩
    case s1 => exact ps_set (i := 3) nd rfl (.inl rfl) pe_non
    case s2 => exact ps_set (i := 4) nd rfl (.inl rfl) pe_non
    case s3 =>
      exact ps_try_keep (i := 5) (ts := fun a cls d => tAsg (tVar 5) (gName 3)) (Wout := fun _ _ _ _ => False) rfl rfl rfl nd rfl rfl ⟨rfl, by decide, .inl T.gF⟩ takes0
        (fun W pn xe tk _ => pss_one (ps_set (i := 4) nd rfl (.inl rfl) (pe_callLS (i := 0) (S := S3 K C fN fK fT) A hr rfl (.inl rfl) (fun σ => passAt tk σ) (pa_cons (pv 1) (pa_cons (pv 2) pa_nil)))))
        (fun a oe cls d pn hz hf => pss_one (ps_set (i := 3) nd rfl (.inl rfl) (pv 5)))
        (by
          rintro D cls d σ H ⟨b, e, _, hn⟩
          cases b with
          | true => exact e
          | false => exact (hn rfl).elim)
    case s4 => exact ps_if (pt_cmpR op_isN (pv 3) pe_non (nomark _)) (pss_one (ps_ret (pe_tup (pa_cons pe_str (pa_cons (pv 4) pa_nil))))) pss_nil
    case s5 => exact ps_set (i := 6) nd rfl (.inl rfl) (hcall HK hr (pa_cons (pv 3) pa_nil))
    case s6 =>
      exact ps_if (PW.pt (pw_and (pt_cmpR (op_eqD hr.units) (pv 6) (pe_lst (pa_cons pe_str pa_nil)) (nomark _)) (pw_and1 (pt_val (pe_callB (call_isX EC) (by rfl) mi boot_isinstance (pa_cons (pv 3) (pa_cons (pe_glob (v := .ref cR) rfl gR rfl) pa_nil)))))))
        (pss_one (ps_ret (pe_tup (pa_cons pe_str (pa_cons (pe_kf T.T T.f1 (pv 3)) (pa_cons (pe_kf T.T T.f2 (pv 3)) pa_nil)))))) pss_nil
    case s7 => exact ps_ret (pv 6)
    case rd =>
    have hk : kdT (kdW.zip bsUser) = [.str "user"] := rfl
    have told : ∀ v H3, Res fN fK fT fD f d v → Gr H H3 → ∀ t, H3 t = none → Q (.ref t) (upd H3 t (.tup [.str "told", v])) := fun v H3 hv g3 t nt => q1 v _ t hv (g3.trans (Gr.new nt)) upd_same
    rcases h3 with h3 | h3 | h3
    · refine ⟨fD, _, rfl, .inl ⟨h3, rfl⟩, _, rfl, _, rfl, x, y, f, d, rfl, hx, go, hy, fun hf H3 g3 => ?_, fun a b hf H3 dd g3 hdd => ?_⟩
      · exact ⟨_, rfl, rfl, _, rfl, iteT ⟨_, rfl, by show 2 ≤ sizeLine; decide, told .non H3 (.inl ⟨h3, hf, rfl⟩) g3⟩⟩
      · refine ⟨true, T.xC, fun _ a1 na => ?_, fun z => by cases z⟩
        have ek : EkF (upd H3 a1 (EkO (.ref C) (some dd) a1)) C a1 [("place", ovN b), ("row", ovN a)] := ⟨dd, upd_same, by rw [upd_ne (ne_of_none hdd na)]; exact hdd⟩
        have g4 : Gr H3 (upd H3 a1 (EkO (.ref C) (some dd) a1)) := Gr.new na
        refine ⟨_, rfl, ?_⟩
        refine ⟨_, rfl, rfl, _, rfl, iteF ?_⟩
        refine ⟨_, rfl, a1, C, bsUser, rfl, ek.ek, T.kC, fun H5 p g5 hp => ?_⟩
        rw [hk] at hp
        refine ⟨_, rfl, by show 1 ≤ sizeLine; decide, fun p2 n2 => ?_⟩
        have g6 : Gr H5 (upd H5 p2 (.lst [.str "user"])) := Gr.new n2
        refine ⟨_, _, one_str (g6.lst hp), one_str upd_same, sh_user, sh_user, _, rfl, ?_⟩
        generalize upd H5 p2 (.lst [.str "user"]) = H6 at g6 ⊢
        rw [eq_user]
        have e6 := (ek.gr g5).gr g6
        refine iteT ⟨_, rfl, a1, _, _, true, rfl, e6.ek, (fun u h => h), kR, _, rfl, iteT ?_⟩
        refine ⟨_, rfl, a1, _, _, rfl, e6, rfl, _, rfl, a1, _, _, rfl, e6, rfl, by show 3 ≤ sizeLine; decide, fun t nt => ?_⟩
        exact q2 a b hf _ t (g3.trans (g4.trans (g5.trans (g6.trans (Gr.new nt))))) upd_same
    · refine ⟨fD, _, rfl, .inr (.inl ⟨h3, rfl⟩), _, rfl, _, rfl, x, y, f, d, rfl, hx, go, hy, fun u r hd gu hr H3 g3 => ?_, fun a b hf H3 dd g3 hdd => ?_⟩
      · exact ⟨_, rfl, rfl, _, rfl, iteT ⟨_, rfl, by show 2 ≤ sizeLine; decide, told r.e.gv.v H3 (.inr (.inl ⟨h3, u, r, hd, gu, hr, rfl⟩)) g3⟩⟩
      · refine ⟨true, T.xC, fun _ a1 na => ?_, fun z => by cases z⟩
        have ek : EkF (upd H3 a1 (EkO (.ref C) (some dd) a1)) C a1 [("place", ovN b), ("row", ovN a)] := ⟨dd, upd_same, by rw [upd_ne (ne_of_none hdd na)]; exact hdd⟩
        have g4 : Gr H3 (upd H3 a1 (EkO (.ref C) (some dd) a1)) := Gr.new na
        refine ⟨_, rfl, ?_⟩
        refine ⟨_, rfl, rfl, _, rfl, iteF ?_⟩
        refine ⟨_, rfl, a1, C, bsUser, rfl, ek.ek, T.kC, fun H5 p g5 hp => ?_⟩
        rw [hk] at hp
        refine ⟨_, rfl, by show 1 ≤ sizeLine; decide, fun p2 n2 => ?_⟩
        have g6 : Gr H5 (upd H5 p2 (.lst [.str "user"])) := Gr.new n2
        refine ⟨_, _, one_str (g6.lst hp), one_str upd_same, sh_user, sh_user, _, rfl, ?_⟩
        generalize upd H5 p2 (.lst [.str "user"]) = H6 at g6 ⊢
        rw [eq_user]
        have e6 := (ek.gr g5).gr g6
        refine iteT ⟨_, rfl, a1, _, _, true, rfl, e6.ek, (fun u h => h), kR, _, rfl, iteT ?_⟩
        refine ⟨_, rfl, a1, _, _, rfl, e6, rfl, _, rfl, a1, _, _, rfl, e6, rfl, by show 3 ≤ sizeLine; decide, fun t nt => ?_⟩
        exact q2 a b hf _ t (g3.trans (g4.trans (g5.trans (g6.trans (Gr.new nt))))) upd_same
    · refine ⟨fD, _, rfl, .inr (.inr ⟨h3, rfl⟩), _, rfl, _, rfl, x, y, f, d, rfl, hx, go, hy, fun u hd gu H3 g3 => ?_, fun a b hf H3 dd g3 hdd => ?_⟩
      · exact ⟨_, rfl, rfl, _, rfl, iteT ⟨_, rfl, by show 2 ≤ sizeLine; decide, told (.str (textU u)) H3 (.inr (.inr ⟨h3, u, hd, gu, rfl⟩)) g3⟩⟩
      · refine ⟨true, T.xC, fun _ a1 na => ?_, fun z => by cases z⟩
        have ek : EkF (upd H3 a1 (EkO (.ref C) (some dd) a1)) C a1 [("place", ovN b), ("row", ovN a)] := ⟨dd, upd_same, by rw [upd_ne (ne_of_none hdd na)]; exact hdd⟩
        have g4 : Gr H3 (upd H3 a1 (EkO (.ref C) (some dd) a1)) := Gr.new na
        refine ⟨_, rfl, ?_⟩
        refine ⟨_, rfl, rfl, _, rfl, iteF ?_⟩
        refine ⟨_, rfl, a1, C, bsUser, rfl, ek.ek, T.kC, fun H5 p g5 hp => ?_⟩
        rw [hk] at hp
        refine ⟨_, rfl, by show 1 ≤ sizeLine; decide, fun p2 n2 => ?_⟩
        have g6 : Gr H5 (upd H5 p2 (.lst [.str "user"])) := Gr.new n2
        refine ⟨_, _, one_str (g6.lst hp), one_str upd_same, sh_user, sh_user, _, rfl, ?_⟩
        generalize upd H5 p2 (.lst [.str "user"]) = H6 at g6 ⊢
        rw [eq_user]
        have e6 := (ek.gr g5).gr g6
        refine iteT ⟨_, rfl, a1, _, _, true, rfl, e6.ek, (fun u h => h), kR, _, rfl, iteT ?_⟩
        refine ⟨_, rfl, a1, _, _, rfl, e6, rfl, _, rfl, a1, _, _, rfl, e6, rfl, by show 3 ≤ sizeLine; decide, fun t nt => ?_⟩
        exact q2 a b hf _ t (g3.trans (g4.trans (g5.trans (g6.trans (Gr.new nt))))) upd_same
end
end SfC
namespace SfC
open PySem PySem.Spec PyProof.Rows L2 SfG
/-! ### nests of tuples -/
abbrev nDeep : List Str := ["_law_many", "_law_found", "_law_k"]
theorem scDeep : FnScope nDeep ["_law_many"] (defScope sDeep) := ⟨rfl, rfl, rfl, by decide +kernel, rfl, by decide +kernel, by decide +kernel⟩
def deepD : Nat → PyData
  | 0 => .tuple []
  | n + 1 => .tuple [deepD n]
section
variable {P : Program} {w : World} {K : PySem.W.Frag} {mg : Str → Option Value} {base : Heap}
def spDeep (K : PySem.W.Frag) : Sp := fun vs H Q _ => ∃ n : Nat, vs = [.int (n : Nat)] ∧ n ≤ 50 ∧ ∀ H' v, Gr H H' → Dx K H' v (deepD n) → Q v H'
theorem ok_deep {f : Addr} {fd : FuncData} {k : Nat} (F : Fun K "_law_deep" "_law_deep" sDeep f fd) (mr : mg "range" = none) : FnOk P w K mg base CX0 (k + 1) f fd ["_law_many"] (spDeep K) := by
  refine F.ok scDeep (fun vs H Q E h => ?_) (fun cdv A outer s H vs Q E hr h => ?_)
  · obtain ⟨n, rfl, _⟩ := h
    rfl
  · obtain ⟨n, rfl, hn, q⟩ := h
    have nd := scDeep.nd
    refine' ⟨_, pss_cons ?s1 (pss_cons ?s2 (pss_one ?s3)), ?rd⟩
    case s1 => exact ps_set (i := 1) nd rfl (.inl rfl) (pe_tup pa_nil)
    case s2 => exact ps_for PassesOwn.never rfl (pi_range1 (by rfl) mr (pa_cons (pv 0) pa_nil)) (pg_name (i := 2) nd rfl (.inl rfl)) (pss_one (ps_set (i := 1) nd rfl (.inl rfl) (pe_tup (pa_cons (pv 1) pa_nil))))
    case s3 => exact ps_ret (pv 1)
    case rd =>
    refine ⟨by show 0 ≤ sizeLine; decide, fun t nt => ?_⟩
    have g1 : Gr H (upd H t (.tup [])) := Gr.new nt
    have d1 : Dx K (upd H t (.tup [])) (.ref t) (deepD 0) := new_T nt .nil
    generalize upd H t (.tup []) = H1 at g1 d1 ⊢
    refine ⟨_, rfl, (n : Nat), rfl, by omega, by omega, ?_⟩
    refine for_it (walk_range (lo := 0) (n := ((n : Nat) : Int).toNat)) (fun i σ S => ∃ (y2 : Option V) (v : V), σ = [some (.int (n : Nat)), some v, y2] ∧ Dx K S v (deepD i) ∧ Gr H S) ⟨none, .ref t, rfl, d1, g1⟩ (fun _ _ _ _ _ => trivial) ?h2 ?h3
    case h2 =>
      rintro i y σ S' S hi ⟨y2, v, rfl, dv, g⟩ ⟨rfl, rfl⟩
      exact ⟨_, rfl, by show 1 ≤ sizeLine; decide, fun p np => ⟨_, _, rfl, new_T np (.cons dv .nil), g.trans (Gr.new np)⟩⟩
    case h3 =>
      rintro σ S ⟨y2, v, rfl, dv, g⟩
      rw [Int.toNat_natCast] at dv
      exact ⟨_, rfl, q S v g dv⟩
end
end SfC
/-! t * n, n 0 or 1 too; t != () -/
namespace SfG
open PySem PySem.Spec PyProof.Rows L2
theorem tuple_mul_same (l : Addr) (items : Array Value) (n : Nat) (dd : Option Addr) (sl : Array (Option Value)) (x : Int) (u : Tok) (c0 : (decide (x < -(2 ^ 63)) || decide (x ≥ 2 ^ 63)) = false) (c1 : (items.isEmpty || x == 1) = true) :
    Meets (Builtin.«tuple.__mul__» ⟨[.ref l, .int x u], []⟩) (fun _ R s => s.heap.get? l = some { cls := .type "tuple", dict := dd, data := .seq items n, slots := sl } ∧ R (.ok (.ret (Value.ref l))) s) :=
  .of_wp fun prog w A R s h => by
    obtain ⟨hp, g, d, tk, os⟩ := s
    obtain ⟨hl, h⟩ := h
    have f1 := AutoSeq1.idx_int
    wp_walk using wpAny_loadPart' hl
    repeat (first
      | (refine wpAny_ite_false (decide_eq_false (by rw [c0]; exact Bool.false_ne_true)) ?_; wp_walk using wpAny_loadPart' hl)
      | (refine wpAny_ite_true (decide_eq_true c1) ?_; wp_walk using wpAny_loadPart' hl))
    exact ⟨_, rfl, h⟩
theorem tuple_mul_none (l : Addr) (items : Array Value) (n : Nat) (dd : Option Addr) (sl : Array (Option Value)) (x : Int) (u : Tok) (c0 : (decide (x < -(2 ^ 63)) || decide (x ≥ 2 ^ 63)) = false) (c1 : (items.isEmpty || x == 1) = false) (c2 : (decide (x ≤ 0) || items.isEmpty) = true) :
    Meets (Builtin.«tuple.__mul__» ⟨[.ref l, .int x u], []⟩) (fun _ R s => s.heap.get? l = some { cls := .type "tuple", dict := dd, data := .seq items n, slots := sl } ∧
      R (.ok (.ret (Value.ref s.heap.objs.size))) { s with heap := s.heap.push { cls := Value.type "tuple", data := Data.seq #[] }, toks := s.toks }) :=
  .of_wp fun prog w A R s h => by
    obtain ⟨hp, g, d, tk, os⟩ := s
    obtain ⟨hl, h⟩ := h
    have f1 := AutoSeq1.idx_int
    wp_walk using wpAny_loadPart' hl
    repeat (first
      | (refine wpAny_ite_false (decide_eq_false (by rw [c0]; exact Bool.false_ne_true)) ?_; wp_walk using wpAny_loadPart' hl)
      | (refine wpAny_ite_false (decide_eq_false (by rw [c1]; exact Bool.false_ne_true)) ?_; wp_walk using wpAny_loadPart' hl)
      | (refine wpAny_ite_true (decide_eq_true c2) ?_; wp_walk using wpAny_loadPart' hl))
    exact ⟨_, rfl, h⟩
/-- of one thing at least -/
def rMulT (K : PySem.W.Frag) : R2 := fun x y H Q => ∃ (l : Addr) (k : Nat) (xs : List V), x = .ref l ∧ y = .int (k : Nat) ∧ SqT K H l xs ∧ xs ≠ [] ∧ k ≤ 1000 ∧ xs.length ≤ 1000 ∧ ∀ p H', Gr H H' → SqT K H' p (List.replicate k xs).flatten → Q (.ref p) H'
section
variable {X : Cx}
theorem op_mulT : OpR X (binaryOp .Mult) (rMulT X.K) := by
  intro pins s σ H x y v u Q I rx ry h
  obtain ⟨l, k, xs, rfl, rfl, hT, hne, h2, hz, q⟩ := h
  rcases Nat.lt_or_ge 1 k with hk | hk
  · refine op_repT pins s σ H _ _ v u Q I rx ry ⟨l, (k : Nat), xs, rfl, rfl, hT, hne, by omega, by omega, hz, fun p np => ?_⟩
    rw [Int.toNat_natCast]
    exact q p _ (Gr.new np) (.inl (.inl upd_same))
  cases rx
  obtain ⟨t, rfl⟩ := ry
  obtain ⟨its, r, ⟨⟨cls, dd, data, sl⟩, ho, hc, n, hd⟩, hs⟩ := I.tuple hT
  simp only at hc hd
  subst hc hd
  have hle : its.length = xs.length := r.length.symm
  have hn : its ≠ [] := fun e => hne (by
    rw [e] at hle
    exact List.eq_nil_of_length_eq_zero hle.symm)
  have hi : its.toArray.isEmpty = false := by
    cases its with
    | nil => exact absurd rfl hn
    | cons a b => rfl
  have c0 : (decide (((k : Nat) : Int) < -(2 ^ 63)) || decide (((k : Nat) : Int) ≥ 2 ^ 63)) = false := by
    rw [decide_eq_false (by omega), decide_eq_false (by omega)] <;> rfl
  by_cases k1 : k = 1
  · subst k1
    refine wpAny_binaryOp_repeat_ref (T := "tuple") (U := "int") (by decide) ⟨_, ho, rfl⟩ (fun s' => typeIs_int s' _ t) noFill_tuple_mul F.fills_int_mul F.slot_int_rmul repeat_tuple F.slot_int_index.lookup
      (call_meets F.slot_int_rmul (typeIs_int s _ t) F.entry_int_rmul (F.args_int_rmul_2 _ _) (int_rmul_tuple _ t l its.toArray n dd sl)
        ⟨ho, rfl, ⟨_, ho, rfl⟩, call_meets F.slot_tuple_mul ⟨_, ho, rfl⟩ F.entry_tuple_mul (F.args_tuple_mul_2 _ _) (tuple_mul_same l its.toArray n dd sl _ t c0 (by rw [hi]; rfl)) ⟨ho, ?_⟩⟩)
    refine ⟨.ref l, H, I, rfl, q l H (Gr.refl H) ?_⟩
    rw [List.replicate_one, List.flatten_singleton]
    exact hT
  · have k0 : k = 0 := by omega
    subst k0
    refine wpAny_binaryOp_repeat_ref (T := "tuple") (U := "int") (by decide) ⟨_, ho, rfl⟩ (fun s' => typeIs_int s' _ t) noFill_tuple_mul F.fills_int_mul F.slot_int_rmul repeat_tuple F.slot_int_index.lookup
      (call_meets F.slot_int_rmul (typeIs_int s _ t) F.entry_int_rmul (F.args_int_rmul_2 _ _) (int_rmul_tuple _ t l its.toArray n dd sl)
        ⟨ho, rfl, ⟨_, ho, rfl⟩, call_meets F.slot_tuple_mul ⟨_, ho, rfl⟩ F.entry_tuple_mul (F.args_tuple_mul_2 _ _) (tuple_mul_none l its.toArray n dd sl _ t c0 (by rw [hi]; rfl) (by rfl)) ⟨ho, ?_⟩⟩)
    refine ⟨.ref s.heap.objs.size, _, I.laid (t' := s.toks) (o := .tup (List.replicate 0 xs).flatten) (fun b ob q => Heap.get?_push_of_some _ q) (Nat.le_refl _) ?_, rfl, q _ _ (Gr.new (I.hok.fresh (Nat.le_refl _))) (.inl (.inl upd_same))⟩
    exact ⟨Nat.zero_le _, _, .nil, IsTup.new _ _⟩
/-- t != () -/
def rNeT0 (K : PySem.W.Frag) : R2 := fun x y H Q => ∃ (p q : Addr) (l : List V), x = .ref p ∧ y = .ref q ∧ SqT K H p l ∧ SqT K H q [] ∧ Q (.bl (!l.isEmpty)) H
theorem op_neT0 {k : Nat} (hr : Room k X.A) : OpR X (compareOp .NotEq) (rNeT0 X.K) := by
  intro pins s σ H x y v u Q I rx ry h
  obtain ⟨p, q, l, rfl, rfl, hp, hq, g⟩ := h
  cases rx
  cases ry
  have hu : X.A.units < cLine := by
    have := hr.un
    omega
  obtain ⟨us, rv, tp, _⟩ := I.tuple hp
  obtain ⟨ws, rw', tq, _⟩ := I.tuple hq
  cases rw'
  show wpAny _ _ (richCompare .NotEq _ _) _ _ s
  refine SeqAt.RcNeAt.tuples (e := fun _ => true) tp tq hu (fun j h1 h2 => absurd h2 (by simp)) _ _ _ _ ?_
  have e : (!((List.range (min us.toArray.size ([] : List Value).toArray.size)).all (fun _ => true) && us.toArray.size == ([] : List Value).toArray.size)) = !l.isEmpty := by
    cases rv with
    | nil => rfl
    | cons a b => simp
  rw [e]
  exact ⟨.bl _, H, I, rfl, g⟩
end
end SfG
namespace SfC
open PySem PySem.Spec PyProof.Rows L2 SfG
/-! ### the law's own going through a user -/
theorem merge_no : ∀ (more acc : List (Key × V)) (j : Key), (∀ kv ∈ more, kv.1 ≠ j) → valV (mergeK acc more) j = valV acc j
  | [], _, _, _ => rfl
  | kv :: r, acc, j, h => by
    show valV (mergeK (putK acc kv.1 kv.2) r) j = _
    rw [merge_no r _ j fun x hx => h x (.tail _ hx), valV_put, if_neg (Ne.symm (h kv (.head _)))]
theorem merge_in : ∀ (more acc : List (Key × V)) (j : Key) (v : V), (more.map (·.1)).Nodup → (j, v) ∈ more → valV (mergeK acc more) j = some v
  | [], _, _, _, _, h => by cases h
  | kv :: r, acc, j, v, n, h => by
    rw [List.map_cons] at n
    obtain ⟨n1, n2⟩ := List.nodup_cons.mp n
    show valV (mergeK (putK acc kv.1 kv.2) r) j = _
    rcases List.mem_cons.mp h with e | h
    · subst e
      rw [merge_no r _ j fun x hx z => n1 (List.mem_map.mpr ⟨x, hx, z⟩), valV_put, if_pos rfl]
    · exact merge_in r _ j v n2 h
/-- the deeds, by their names -/
def DD (K : PySem.W.Frag) (H : Hp) (dd : Addr) (f : Fc) : Prop := ∃ kvs : List (Key × V), H dd = some (.dK kvs) ∧ (∀ w0, w0 ∉ f.ds.map De.nm → valV kvs (Sum.inr w0) = none) ∧
  ∀ e ∈ f.ds, ∃ t pt, valV kvs (Sum.inr e.nm) = some (.ref t) ∧ SqT K H t [.ref pt, e.gv.v] ∧ SqT K H pt (e.tk.map Kn.v)
theorem DD.gr {K : PySem.W.Frag} {H H' : Hp} {dd : Addr} {f : Fc} (h : DD K H dd f) (g : Gr H H') : DD K H' dd f := by
  obtain ⟨kvs, h1, h2, h3⟩ := h
  refine ⟨kvs, g.dic h1, h2, fun e he => ?_⟩
  obtain ⟨t, pt, a, b, c⟩ := h3 e he
  exact ⟨t, pt, a, g.sqt b, g.sqt c⟩
/-- the pairs so far -/
inductive Prs (K : PySem.W.Frag) (H : Hp) : List De → List Addr → List (Key × V) → Prop
  | nil : Prs K H [] [] []
  | cons {e : De} {es : List De} {p : Addr} {ps : List Addr} {t pt : Addr} {kvs : List (Key × V)} : SqT K H p [.str e.nm, .ref t] → SqT K H t [.ref pt, e.gv.v] → SqT K H pt (e.tk.map Kn.v) → Prs K H es ps kvs → Prs K H (e :: es) (p :: ps) ((Sum.inr e.nm, .ref t) :: kvs)
theorem Prs.kt {K : PySem.W.Frag} {H H' : Hp} (g : Kt K H H') : ∀ {es : List De} {ps : List Addr} {kvs : List (Key × V)}, Prs K H es ps kvs → Prs K H' es ps kvs
  | _, _, _, .nil => .nil
  | _, _, _, .cons a b c t => .cons (g a) (g b) (g c) (t.kt g)
theorem Prs.app {K : PySem.W.Frag} {H : Hp} : ∀ {es es' : List De} {ps ps' : List Addr} {kvs kvs' : List (Key × V)}, Prs K H es ps kvs → Prs K H es' ps' kvs' → Prs K H (es ++ es') (ps ++ ps') (kvs ++ kvs')
  | _, _, _, _, _, _, .nil, h => h
  | _, _, _, _, _, _, .cons a b c t, h => .cons a b c (t.app h)
theorem Prs.len {K : PySem.W.Frag} {H : Hp} : ∀ {es : List De} {ps : List Addr} {kvs : List (Key × V)}, Prs K H es ps kvs → ps.length = es.length
  | _, _, _, .nil => rfl
  | _, _, _, .cons a b c t => by rw [List.length_cons, List.length_cons, t.len]
theorem Prs.pair {K : PySem.W.Frag} {H : Hp} : ∀ {es : List De} {ps : List Addr} {kvs : List (Key × V)}, Prs K H es ps kvs → Paired (fun p (kv : Key × V) => SqT K H p [kV kv.1, kv.2]) ps kvs
  | _, _, _, .nil => .nil
  | _, _, _, .cons a b c t => .cons a t.pair
theorem Prs.keys {K : PySem.W.Frag} {H : Hp} : ∀ {es : List De} {ps : List Addr} {kvs : List (Key × V)}, Prs K H es ps kvs → kvs.map (·.1) = es.map fun e => (Sum.inr e.nm : Key)
  | _, _, _, .nil => rfl
  | _, _, _, .cons a b c t => by rw [List.map_cons, List.map_cons, t.keys]
theorem Prs.mem {K : PySem.W.Frag} {H : Hp} : ∀ {es : List De} {ps : List Addr} {kvs : List (Key × V)}, Prs K H es ps kvs → ∀ e ∈ es, ∃ t pt, (Sum.inr e.nm, V.ref t) ∈ kvs ∧ SqT K H t [.ref pt, e.gv.v] ∧ SqT K H pt (e.tk.map Kn.v)
  | _, _, _, .nil => fun e he => by cases he
  | _, _, _, .cons a b c t => fun e he => by
    rcases List.mem_cons.mp he with rfl | h
    · exact ⟨_, _, List.mem_cons_self, b, c⟩
    · obtain ⟨t', pt, h1, h2⟩ := t.mem e h
      exact ⟨t', pt, List.mem_cons_of_mem _ h1, h2⟩
theorem up_nodup {l : List Str} (up : l.Pairwise lt) : l.Nodup := up.imp fun h e => by
  rw [e] at h
  exact List.lt_irrefl _ h
theorem Prs.dd {K : PySem.W.Frag} {H : Hp} {f : Fc} {ps : List Addr} {kvs : List (Key × V)} {dd : Addr} (go : goF f) (h : Prs K H f.ds ps kvs) (hd : H dd = some (.dK (mergeK [] kvs))) : DD K H dd f := by
  have nd : (kvs.map (·.1)).Nodup := by
    rw [h.keys]
    have := up_nodup go.up
    have e : (f.ds.map fun e => (Sum.inr e.nm : Key)) = (f.ds.map De.nm).map Sum.inr := by rw [List.map_map]; rfl
    rw [e]
    exact List.pairwise_map.mpr (this.imp fun ne e => ne (Sum.inr.inj e))
  refine ⟨_, hd, fun w0 hw => ?_, fun e he => ?_⟩
  · refine merge_no kvs [] _ fun kv hkv e => hw ?_
    have hk : kv.1 ∈ kvs.map (·.1) := List.mem_map.mpr ⟨kv, hkv, rfl⟩
    rw [h.keys, e] at hk
    obtain ⟨e', he', ee⟩ := List.mem_map.mp hk
    exact List.mem_map.mpr ⟨e', he', Sum.inr.inj ee⟩
  · obtain ⟨t, pt, h1, h2, h3⟩ := h.mem e he
    exact ⟨t, pt, merge_in kvs [] _ _ nd h1, h2, h3⟩
theorem at_hd {u : V} {r : List V} : atI (u :: r) 0 = some u := atI_nat (j := 0) rfl
theorem at_1 {u v : V} {r : List V} : atI (u :: v :: r) 1 = some v := atI_nat (j := 1) rfl
theorem tup_orT (d : PyData) : (tyD d == "tuple") = false ∧ (∀ f, dorD f d = none) ∨ ∃ ds, d = .tuple ds := by
  cases d with
  | tuple ds => exact .inr ⟨ds, rfl⟩
  | none => exact .inl ⟨by show ("NoneType" == "tuple") = false; decide, fun _ => rfl⟩
  | bool _ => exact .inl ⟨by show ("bool" == "tuple") = false; decide, fun _ => rfl⟩
  | int _ => exact .inl ⟨by show ("int" == "tuple") = false; decide, fun _ => rfl⟩
  | str _ => exact .inl ⟨by show ("str" == "tuple") = false; decide, fun _ => rfl⟩
  | list _ => exact .inl ⟨by show ("list" == "tuple") = false; decide, fun _ => rfl⟩
  | dict _ => exact .inl ⟨by show ("dict" == "tuple") = false; decide, fun _ => rfl⟩
theorem str_orT (d : PyData) : (tyD d == "str") = false ∧ (∀ f b, dor2 f d b = none) ∨ ∃ z, d = .str z := by
  cases d with
  | str z => exact .inr ⟨z, rfl⟩
  | none => exact .inl ⟨by show ("NoneType" == "str") = false; decide, fun _ _ => rfl⟩
  | bool _ => exact .inl ⟨by show ("bool" == "str") = false; decide, fun _ _ => rfl⟩
  | int _ => exact .inl ⟨by show ("int" == "str") = false; decide, fun _ _ => rfl⟩
  | list _ => exact .inl ⟨by show ("list" == "str") = false; decide, fun _ _ => rfl⟩
  | tuple _ => exact .inl ⟨by show ("tuple" == "str") = false; decide, fun _ _ => rfl⟩
  | dict _ => exact .inl ⟨by show ("dict" == "str") = false; decide, fun _ _ => rfl⟩
section
variable {P : Program} {w : World} {K : PySem.W.Frag} {mg : Str → Option Value} {base : Heap}
def spLFst (K : PySem.W.Frag) : Sp := fun vs H Q _ => ∃ (x y : V) (f : Fc) (ds : List PyData), vs = [x, y] ∧ Dp K H x f.d ∧ goF f ∧ Dx K H y (.tuple ds) ∧ ds.length ≤ 200 ∧
  (rowsF' f ds 0 [] = none → ∀ H', Gr H H' → Q .non H') ∧ (∀ i b, rowsF' f ds 0 [] = some (i, b) → ∀ H' t, Gr H H' → H' t = some (.tup [.int (i : Nat), ovN b]) → Q (.ref t) H')
set_option maxHeartbeats 4000000 in
theorem ok_lfst {f fM : Addr} {fd dM : FuncData} {k : Nat} (F : Fun K "_law_first_bad" "_law_first_bad" sLFirst f fd) (HM : Has P w K mg base k "_law_may_hand" ["_law_thing", "_law_kind", "_law_hidden", "_law_kinds_here"] (spLMayD K) fM dM)
    (mi : mg "isinstance" = none) (m1 : mg "str" = none) (md : mg "dict" = none) (me : mg "enumerate" = none) (ml : mg "len" = none) (mt : mg "tuple" = none) :
    FnOk P w K mg base CX0 (k + 1) f fd ["_law_face_here", "_law_user_here"] (spLFst K) := by
  refine F.ok scLFirst (fun vs H Q E h => ?_) (fun cdv A outer s H vs Q E hr h => ?_)
  · obtain ⟨x, y, f, ds, rfl, _⟩ := h
    rfl
  · obtain ⟨x, y, f, ds, rfl, hx, go, hy, hlen, qn, qs⟩ := h
    have nd := scLFirst.nd
    refine' ⟨_, pss_cons ?s2 (pss_cons ?s3 (pss_cons ?s4 (pss_one ?s5))), ?rd⟩
    case s2 =>
      exact ps_set (i := 2) nd rfl (.inl rfl) (pe_callTy (call_dictP rfl) (by rfl) md (by decide +kernel) (pa_cons (pe_lc (own := [("_law_name", 3), ("_law_takes", 4), ("_law_gives", 5)]) (g := gTup K 3 (gCons (gName 3) (gCons (gName 4) (gCons (gName 5) gNil)))) rfl nd (pi_tup (pe_ix ix_tup (pv 0) pe_int (fun _ _ => rfl)))
        (blkOk_by (own := [("_law_name", 3), ("_law_takes", 4), ("_law_gives", 5)]) (N := nLFirst) (sc := defScope sLFirst) (by decide +kernel))
        (fun _ _ _ _ _ => pg_tup rfl (pgs_cons (pg_name (i := 3) nd rfl (.inl rfl)) (pgs_cons (pg_name (i := 4) nd rfl (.inl rfl)) (pgs_cons (pg_name (i := 5) nd rfl (.inl rfl)) pgs_nil)))) (fun _ _ _ _ _ => pts_nil)
        (fun _ _ _ _ _ => pe_tup (pa_cons (pv 3) (pa_cons (pe_tup (pa_cons (pv 4) (pa_cons (pv 5) pa_nil))) pa_nil)))) pa_nil))
    case s3 => exact ps_set (i := 6) nd rfl (.inl rfl) (pe_lst pa_nil)
    case s4 =>
      refine' ps_for PassesOwn.never rfl (pi_enumT (by rfl) me (pa_cons (pv 1) pa_nil)) (pg_tup rfl (pgs_cons (pg_name (i := 7) nd rfl (.inl rfl)) (pgs_cons (pg_name (i := 8) nd rfl (.inl rfl)) pgs_nil)))
        (pss_cons ?b1 (pss_cons ?b2 (pss_cons ?b3 (pss_cons ?b4 (pss_one ?b5)))))
      case b1 =>
        exact ps_if (PW.pt (pw_or (pt_not (pt_val (pe_isi "tuple" 8 mi mt (by decide +kernel)))) (pw_or (pt_cmpR op_ne (pe_callB call_len_seq (by rfl) ml PySem.boot_len (pa_cons (pv 8) pa_nil)) pe_int (nomark _))
          (pw_or (pt_not (pt_val (pe_callB call_isi (by rfl) mi boot_isinstance (pa_cons (pe_ix ix_tup (pv 8) pe_int (fun _ _ => rfl)) (pa_cons (pe_bltn (v := .ty "str") (by rfl) m1 (by decide +kernel) rfl) pa_nil)))))
            (pw_or1 (pt_cmp (pc_dnotin (hu_of hr) (pe_ix ix_tup (pv 8) pe_int (fun _ _ => rfl)) (pv 2)))))))) (pss_one (ps_ret (pe_tup (pa_cons (pv 7) (pa_cons pe_non pa_nil))))) pss_nil
      case b2 => exact ps_asg (pe_dget (hu_of hr) (pv 2) (pe_ix ix_tup (pv 8) pe_int (fun _ _ => rfl)) (fun _ _ => rfl)) (pg_tup rfl (pgs_cons (pg_name (i := 4) nd rfl (.inl rfl)) (pgs_cons (pg_name (i := 5) nd rfl (.inl rfl)) pgs_nil)))
      case b3 =>
        exact ps_if (PW.pt (pw_or (pt_not (pt_val (pe_callB call_isi (by rfl) mi boot_isinstance (pa_cons (pe_ix ix_tup (pv 8) pe_int (fun _ _ => rfl)) (pa_cons (pe_bltn (v := .ty "tuple") (by rfl) mt (by decide +kernel) rfl) pa_nil)))))
          (pw_or1 (pt_cmpR op_ne (pe_callB call_len_seq (by rfl) ml PySem.boot_len (pa_cons (pe_ix ix_tup (pv 8) pe_int (fun _ _ => rfl)) pa_nil)) (pe_callB call_len_seq (by rfl) ml PySem.boot_len (pa_cons (pv 4) pa_nil)) (nomark _)))))
          (pss_one (ps_ret (pe_tup (pa_cons (pv 7) (pa_cons pe_non pa_nil))))) pss_nil
      case b4 =>
        exact ps_for PassesOwn.never rfl (pi_enumT (by rfl) me (pa_cons (pv 4) pa_nil)) (pg_tup rfl (pgs_cons (pg_name (i := 9) nd rfl (.inl rfl)) (pgs_cons (pg_name (i := 10) nd rfl (.inl rfl)) pgs_nil)))
          (pss_one (ps_if (pt_not (pt_val (hcall HM hr (pa_cons (pe_ix ix_tup (pe_ix ix_tup (pv 8) pe_int (fun _ _ => rfl)) (pv 9) (fun _ _ => rfl)) (pa_cons (pv 10) (pa_cons (pe_ix ix_tup (pv 0) pe_int (fun _ _ => rfl)) (pa_cons (pv 6) pa_nil)))))))
            (pss_one (ps_ret (pe_tup (pa_cons (pv 7) (pa_cons (pv 9) pa_nil))))) pss_nil))
      case b5 => exact ps_expr (pe_bm PySem.F.plainAttrs_list PySem.F.slot_list_append PySem.F.type_list_append mt_append (pv 6) (pa_cons (pv 5) pa_nil))
    case s5 => exact ps_ret pe_non
    case rd =>
    obtain ⟨pf, ph, pd, fxs, rfl, hpf, hph, hpd, dd0⟩ := dp_face hx
    have lfx : fxs.length = f.ds.length := by
      have := dpA_len dd0
      rw [List.length_map] at this
      exact this
    have hi8 := go.hi
    refine ⟨_, rfl, pf, _, 1, _, rfl, rfl, hpf, rfl, pd, rfl, ⟨_, hpd⟩, fun D nD => ?_⟩
    refine lc_it (walk_tup (xs := fxs)) (fun i S => ∃ ps kvs, S D = some (.lst (ps.map V.ref)) ∧ Prs K S (f.ds.take i) ps kvs ∧ Gr H S) ⟨[], [], upd_same, .nil, Gr.new nD⟩ ?c0 ?c1 ?c2
    case c0 =>
      rintro i S hi ⟨_, _, _, _, g⟩
      exact g.sqt hpd
    case c1 =>
      rintro i b S' S hi ⟨ps, kvs, eD, pr, g⟩ ⟨rfl, hb⟩
      obtain ⟨e, he, de⟩ := dpA_de dd0 hb
      obtain ⟨pe, nn, tt', vv, rfl, hpe, dn, dt, dg⟩ := dp_3 (g.kd.dp de)
      cases dp_str dn
      cases dp_kn dg
      obtain ⟨pt, ts, rfl, hpt, hts⟩ := dp_tup dt
      cases dpA_kns hts
      refine ⟨pe, _, rfl, hpe, rfl, _, _, rfl, _, _, rfl, _, _, rfl, rfl, ?_⟩
      refine ⟨rfl, tYes_i (iteT ?_)⟩
      refine ⟨_, rfl, _, rfl, _, rfl, by show 2 ≤ sizeLine; decide, fun t nt => ?_⟩
      have k1 : Gr S (upd S t (.tup [.ref pt, e.gv.v])) := Gr.new nt
      have e1 : upd S t (.tup [.ref pt, e.gv.v]) t = some (.tup [.ref pt, e.gv.v]) := upd_same
      generalize upd S t (.tup [.ref pt, e.gv.v]) = S1 at k1 e1 ⊢
      refine ⟨by show 2 ≤ sizeLine; decide, fun p np => ?_⟩
      have k2 : Gr S1 (upd S1 p (.tup [.str e.nm, .ref t])) := Gr.new np
      have e2 : upd S1 p (.tup [.str e.nm, .ref t]) p = some (.tup [.str e.nm, .ref t]) := upd_same
      have e12 := k2.tup e1
      generalize upd S1 p (.tup [.str e.nm, .ref t]) = S2 at k2 e2 e12 ⊢
      have k12 := k1.trans k2
      have eD2 := k12.lst eD
      have lp : ps.length ≤ 8 := by
        rw [pr.len, List.length_take]
        omega
      refine ⟨_, eD2, by rw [List.length_map]; exact small1000 (by omega), ps ++ [p], kvs ++ [(Sum.inr e.nm, .ref t)], ?_, ?_, (g.trans k12).upd_new nD⟩
      · rw [upd_same, List.map_append]
        rfl
      · refine Prs.kt (kt_lst eD2) ?_
        rw [List.take_add_one, he]
        exact (pr.kt (gr_kt k12)).app (.cons (.inl (.inl e2)) (.inl (.inl e12)) (k12.sqt hpt) .nil)
    case c2 =>
    rintro S ⟨ps, kvs, eD, pr, g⟩
    rw [lfx, List.take_length] at pr
    refine ⟨D, ps, kvs, rfl, .inl (.inl eD), pr.pair, fun dd ndd => ?_⟩
    have kd : Gr S (upd S dd (.dK (mergeK [] kvs))) := Gr.new ndd
    have hdd : DD K (upd S dd (.dK (mergeK [] kvs))) dd f := (pr.kt (gr_kt kd)).dd go upd_same
    have gHb : Gr H (upd S dd (.dK (mergeK [] kvs))) := g.trans kd
    generalize upd S dd (.dK (mergeK [] kvs)) = Hb at kd hdd gHb ⊢
    clear pr eD kd g nD ndd
    refine ⟨by show 0 ≤ sizeLine; decide, fun kl nkl => ?_⟩
    have k1 : Gr Hb (upd Hb kl (.lst [])) := Gr.new nkl
    have e1 : upd Hb kl (.lst []) kl = some (.lst []) := upd_same
    generalize upd Hb kl (.lst []) = H1 at k1 e1 ⊢
    have hyb := gHb.kx.dx hy
    obtain ⟨py, ys, rfl, hpy, hys⟩ := dx_tup hyb
    have ly : ys.length = ds.length := dxA_len hys
    have qs' : ∀ (S : Hp) (i : Nat) (b : Option Nat), rowsF' f ds 0 [] = some (i, b) → Gr Hb S → ∀ t, S t = none → Q (.ref t) (upd S t (.tup [.int (i : Nat), ovN b])) := fun S i b hb g t nt => qs i b hb _ t (gHb.trans (g.trans (Gr.new nt))) upd_same
    refine ⟨_, rfl, py, _, rfl, k1.sqt hpy, for_it (walk_enumT (xs := ys)) (fun i σ S => ∃ (y4 y5 y7 y8 y9 y10 : Option V) (gv : List Kn), σ = [some (.ref pf), some (.ref py), some (.ref dd), none, y4, y5, some (.ref kl), y7, y8, y9, y10] ∧ Gr Hb S ∧ S kl = some (.lst (gv.map Kn.v)) ∧ gv.length = i ∧ rowsF' f ds 0 [] = rowsF' f (ds.drop i) i gv)
      ⟨none, none, none, none, none, none, [], rfl, k1, e1, rfl, rfl⟩ ?h1 ?h2 ?h3⟩
    case h1 =>
      rintro i σ S hi ⟨y4, y5, y7, y8, y9, y10, gv, rfl, g, ek, lg, eq⟩
      exact g.sqt hpy
    case h3 =>
      rintro σ S ⟨y4, y5, y7, y8, y9, y10, gv, rfl, g, ek, lg, eq⟩
      rw [ly, List.drop_length, rowsF'] at eq
      exact qn eq S (gHb.trans g)
    case h2 =>
      rintro i v σ S S' hi ⟨y4, y5, y7, y8, y9, y10, gv, rfl, g, ek, lg, eq⟩ ⟨T, a, b, rfl, nT, rfl, ha, hb⟩
      cases ha
      have iu : i < ds.length := by omega
      have hu : ds[i]? = some ds[i] := List.getElem?_eq_getElem iu
      generalize ds[i] = d at hu
      obtain ⟨b', hb', db⟩ := dxA_get hys hu
      have : b = b' := Option.some.inj (hb.symm.trans hb')
      subst this
      rw [drop_at hu, rowsF'] at eq
      have hT : upd S T (.tup [.int (i : Nat), b]) T = some (.tup [.int (i : Nat), b]) := upd_same
      have kS : Gr S (upd S T (.tup [.int (i : Nat), b])) := Gr.new nT
      generalize upd S T (.tup [.int (i : Nat), b]) = S1 at hT kS ⊢
      have g1 := g.trans kS
      have ek1 := kS.lst ek
      have gH1 := gHb.trans g1
      have dx1 := g1.kx.dx db
      refine ⟨T, _, rfl, .inl (.inl hT), rfl, _, _, rfl, _, _, rfl, rfl, ?_⟩
      have hI := dx_is dx1
      have bad : dorD f d = none → ∀ t, S1 t = none → Q (.ref t) (upd S1 t (.tup [.int (i : Nat), .non])) := fun hd t nt => by
        rw [hd] at eq
        exact qs' S1 i none eq g1 t nt
      -- the row
      refine ⟨_, rfl, _, _, hI.1, kit_tuple _ hI.2, _, rfl, ?_⟩
      rcases tup_orT d with ⟨h1, h2⟩ | ⟨es, rfl⟩
      · rw [h1]
        exact iteT (iteT ⟨_, rfl, by show 2 ≤ sizeLine; decide, bad (h2 f)⟩)
      obtain ⟨pr, zs, rfl, hpr, hzs⟩ := dx_tup dx1
      have lz := dxA_len hzs
      refine iteF ⟨_, rfl, pr, _, rfl, .inr hpr, rfl, _, rfl, ?_⟩
      by_cases two : ∃ a b, es = [a, b]
      case neg =>
        have hd : dorD f (.tuple es) = none := (two_not (d := .tuple es) (fun ⟨a, b, h⟩ => two ⟨a, b, by cases h; rfl⟩) f).2
        have l2 : ¬ V.int ((zs.length : Nat) : Int) = .int 2 := fun h => by
          have := V.int.inj h
          have l2 : es.length = 2 := by omega
          match es, l2 with
          | [a, b], _ => exact two ⟨a, b, rfl⟩
        rw [show (!decide (V.int ((zs.length : Nat) : Int) = V.int 2)) = true by rw [decide_eq_false l2]; rfl]
        exact iteT (iteT ⟨_, rfl, by show 2 ≤ sizeLine; decide, bad hd⟩)
      obtain ⟨da, dbb, rfl⟩ := two
      obtain ⟨z0, r0, rfl, h0, hr0⟩ := dxA_cons hzs
      obtain ⟨z1, r1, rfl, h1, hr1⟩ := dxA_cons hr0
      cases dxA_nil hr1
      have hI0 := dx_is h0
      have hI1 := dx_is h1
      refine iteF ⟨_, rfl, pr, _, 0, z0, rfl, rfl, hpr, at_hd, z0, .ty "str", .type (tyD da), .type "str", (tyD da == "str"), rfl, .ty "str", hI0.1, kit_ty (kit_str _ hI0.2), _, rfl, ?_⟩
      rcases str_orT da with ⟨h2, h3⟩ | ⟨z, rfl⟩
      · rw [h2]
        exact iteT (iteT ⟨_, rfl, by show 2 ≤ sizeLine; decide, bad (h3 f _)⟩)
      rw [show (tyD (.str z) == "str") = true from by show ("str" == "str") = true; decide]
      cases dx_str h0
      obtain ⟨kvs, hk1, hk2, hk3⟩ := hdd.gr g1
      refine iteF ⟨_, rfl, pr, _, 0, _, rfl, rfl, hpr, at_hd, _, rfl, dd, valV kvs (Sum.inr z), rfl, DGet.k (k := Sum.inr z) hk1, _, rfl, ?_⟩
      have edor : dorD f (.tuple [.str z, dbb]) = dor2 f (.str z) dbb := rfl
      cases hf : fnd f z with
      | none =>
        rw [hk2 z (fnd_none hf)]
        exact iteT ⟨_, rfl, by show 2 ≤ sizeLine; decide, bad (by rw [edor]; simp only [dor2, hf])⟩
      | some e =>
      obtain ⟨hm, rfl⟩ := fnd_some hf
      have ge := go.ok e hm
      have l3 := ge.len
      obtain ⟨td, pt, hv, hst, hspt⟩ := hk3 e hm
      rw [hv]
      refine iteF ⟨_, rfl, _, rfl, pr, _, 0, _, rfl, rfl, hpr, at_hd, dd, _, rfl, (by rw [← hv]; exact DGet.k (k := Sum.inr e.nm) hk1), ?_⟩
      refine ⟨td, _, rfl, hst, rfl, _, _, rfl, _, _, rfl, rfl, ?_⟩
      refine ⟨_, rfl, pr, _, 1, z1, rfl, rfl, hpr, at_1, z1, .ty "tuple", .type (tyD dbb), .type "tuple", (tyD dbb == "tuple"), rfl, .ty "tuple", hI1.1, kit_ty (kit_tuple _ hI1.2), _, rfl, ?_⟩
      rcases tup_orT dbb with ⟨h2, h3⟩ | ⟨hs, rfl⟩
      · rw [h2]
        refine iteT (iteT ⟨_, rfl, by show 2 ≤ sizeLine; decide, bad ?_⟩)
        rw [edor]
        cases dbb with
        | tuple _ => exact absurd h2 (by show ¬ ("tuple" == "tuple") = false; decide)
        | _ => simp only [dor2, hf]
      rw [show (tyD (.tuple hs) == "tuple") = true from by show ("tuple" == "tuple") = true; decide]
      obtain ⟨ph2, ws, rfl, hph2, hws⟩ := dx_tup h1
      have lw := dxA_len hws
      refine iteF ⟨_, rfl, pr, _, 1, _, rfl, rfl, hpr, at_1, ph2, _, rfl, .inr hph2, _, rfl, pt, _, rfl, .inr hspt, rfl, _, rfl, ?_⟩
      rw [List.length_map]
      by_cases c : hs.length = e.tk.length
      case neg =>
        rw [show (!decide (V.int ((ws.length : Nat) : Int) = V.int ((e.tk.length : Nat) : Int))) = true by rw [decide_eq_false (fun h => c (by have := V.int.inj h; omega))]; rfl]
        exact iteT ⟨_, rfl, by show 2 ≤ sizeLine; decide, bad (by rw [edor]; simp only [dor2, hf, if_neg c])⟩
      rw [show (!decide (V.int ((ws.length : Nat) : Int) = V.int ((e.tk.length : Nat) : Int))) = false by rw [decide_eq_true (by rw [lw, c])]; rfl]
      have hd : dorD f (.tuple [.str e.nm, .tuple hs]) = some (e, hs) := by rw [edor]; simp only [dor2, hf, if_pos c]
      rw [hd] at eq
      dsimp only at eq
      refine iteF ⟨_, rfl, pt, _, rfl, hspt, for_it (walk_enumT (xs := e.tk.map Kn.v)) (fun j σ S2 => ∃ y9 y10 : Option V, σ = [some (.ref pf), some (.ref py), some (.ref dd), none, some (.ref pt), some e.gv.v, some (.ref kl), some (.int (i : Nat)), some (.ref pr), y9, y10] ∧ Gr S1 S2 ∧ fbpD gv e.tk hs 0 = fbpD gv (e.tk.drop j) (hs.drop j) j)
        ⟨_, _, rfl, Gr.refl _, rfl⟩ ?i1 ?i2 ?i3⟩
      case i1 =>
        rintro j σ S2 hj ⟨y9, y10, rfl, g2, _⟩
        exact g2.sqt hspt
      case i2 =>
        rintro j v σ S2 S3 hj ⟨y9, y10, rfl, g2, eqf⟩ ⟨T2, a, b, rfl, nT2, rfl, ha, hb⟩
        cases ha
        replace hb : (e.tk.map Kn.v)[j]? = some b := hb
        rw [List.getElem?_map] at hb
        obtain ⟨kn, hkn, rfl⟩ := Option.map_eq_some_iff.mp hb
        have lj : j < hs.length := by rw [c]; exact lt_of_at hkn
        have hdj : hs[j]? = some hs[j] := List.getElem?_eq_getElem lj
        generalize hs[j] = dj at hdj
        obtain ⟨xj, hxj, dxj⟩ := dxA_get hws hdj
        rw [drop_at hkn, drop_at hdj, fbpD] at eqf
        have gk := ge.tk kn (List.mem_of_getElem? hkn)
        have g3 : Gr S1 (upd S2 T2 (.tup [.int (j : Nat), kn.v])) := g2.trans (Gr.new nT2)
        have hT2 : upd S2 T2 (.tup [.int (j : Nat), kn.v]) T2 = some (.tup [.int (j : Nat), kn.v]) := upd_same
        generalize upd S2 T2 (.tup [.int (j : Nat), kn.v]) = S3 at g3 hT2 ⊢
        refine ⟨T2, _, rfl, .inl (.inl hT2), rfl, _, _, rfl, _, _, rfl, rfl, ?_⟩
        refine ⟨_, rfl, pr, _, 1, _, rfl, rfl, g3.sqt hpr, at_1, _, rfl, ph2, _, _, _, rfl, rfl, g3.sqt hph2, atI_nat hxj, _, rfl, _, rfl, pf, _, 0, _, rfl, rfl, (gH1.trans g3).sqt hpf, rfl, _, rfl, xj, dj, kn, ph, kl, f.hd, gv, rfl, g3.kx.dx dxj, (gH1.trans g3).sqt hph, gk, g3.lst ek1, ?_⟩
        cases hmy : mayD gv dj kn with
        | true =>
          rw [if_pos hmy] at eqf
          exact ⟨_, rfl, iteF ⟨_, _, rfl, g3, eqf⟩⟩
        | false =>
          rw [if_neg (by rw [hmy]; decide)] at eqf
          rw [eqf] at eq
          exact ⟨_, rfl, iteT ⟨_, rfl, _, rfl, by show 2 ≤ sizeLine; decide, qs' S3 i (some j) eq (g1.trans g3)⟩⟩
      case i3 =>
        rintro σ S2 ⟨y9, y10, rfl, g2, eqf⟩
        rw [List.length_map, List.drop_length, fbp_nil] at eqf
        rw [eqf] at eq
        dsimp only at eq
        have ek2 := g2.lst ek1
        refine ⟨_, rfl, .inl ⟨rfl, _, .inl (.inl ek2)⟩, _, rfl, kl, _, _, rfl, rfl, ek2, ?_, ?_⟩
        · rw [List.length_map]
          exact small1000 (by omega)
        · refine ⟨_, _, _, _, _, _, gv ++ [e.gv], rfl, (g1.trans g2).upd_new nkl, ?_, ?_, eq⟩
          · rw [upd_same, List.map_append]
            rfl
          · rw [List.length_append, lg]
            rfl
end
end SfC
namespace SfC
open PySem PySem.Spec PyProof.Rows L2 SfG
/-! ### data beside the draws: in the heap without m and r -/
theorem G2.hkx {K : PySem.W.Frag} {m r : Addr} {H H' : Hp} (g : G2 m r H H') : Kx K (hide [m, r] H) (hide [m, r] H') := kx_of fun b o h n nk => by
  obtain ⟨n1, h1⟩ := hide_of h
  rw [hide_ne n1]
  exact g.keep b o (fun z => n1 (by simp [z])) (fun z => n1 (by simp [z])) h1 n
theorem Dr.there {K : PySem.W.Frag} {H : Hp} {m r : Addr} {a : Src} {cs : List Int} {B : Int} (d : Dr K H m r a cs B) : There [m, r] H := fun f hf => by
  have : f = m ∨ f = r := by simpa using hf
  rcases this with rfl | rfl
  · exact d.some.1
  · exact d.some.2
theorem Dr.kth {K : PySem.W.Frag} {H : Hp} {m r : Addr} {a : Src} {cs : List Int} {B : Int} (d : Dr K H m r a cs B) : Kt K H (hide [m, r] H) := by
  obtain ⟨k, ls, h1, h2, _⟩ := d.st
  intro b xs h
  rcases h with (h | ⟨o, h⟩) | h
  · refine .inl (.inl ?_)
    rw [hide_ne (fun z => ?_)]
    · exact h
    · have : b = m ∨ b = r := by simpa using z
      rcases this with rfl | rfl
      · rw [h1] at h
        cases h
      · rw [h2] at h
        cases h
  · refine .inl (.inr ⟨o, ?_⟩)
    rw [hide_ne (fun z => ?_)]
    · exact h
    · have : b = m ∨ b = r := by simpa using z
      rcases this with rfl | rfl
      · rw [h1] at h
        cases h
      · rw [h2] at h
        cases h
  · exact .inr h
mutual
theorem Kt.dx {K : PySem.W.Frag} {H H' : Hp} (g : Kt K H H') : ∀ {d : PyData} {v : V}, Dx K H v d → noL d = true → Dx K H' v d
  | _, _, .non, _ => .non
  | _, _, .bl b, _ => .bl b
  | _, _, .int i, _ => .int i
  | _, _, .str x, _ => .str x
  | _, _, .lst h hs, n => by
    rw [noL] at n
    cases n
  | _, _, .tup h hs, n => .tup (g h) (Kt.dxA g hs (by rw [noL] at n; exact n))
  | _, _, .emp h, n => by
    rw [noL] at n
    cases n
theorem Kt.dxA {K : PySem.W.Frag} {H H' : Hp} (g : Kt K H H') : ∀ {ds : List PyData} {vs : List V}, DxA K H vs ds → noLA ds = true → DxA K H' vs ds
  | _, _, .nil, _ => .nil
  | _, _, .cons h hs, n => by
    rw [noLA, Bool.and_eq_true] at n
    exact .cons (Kt.dx g h n.1) (Kt.dxA g hs n.2)
end
theorem noL_deep : ∀ n, noL (deepD n) = true
  | 0 => by
    rw [deepD, noL, noLA]
  | n + 1 => by
    rw [deepD, noL, noLA, noL_deep n, noLA]
    rfl
theorem dxA_ns {K : PySem.W.Frag} {H : Hp} : ∀ hs : List Nat, DxA K H (hsV hs) (hsD hs)
  | [] => .nil
  | a :: r => .cons (.int _) (dxA_ns r)
theorem dxA_is {K : PySem.W.Frag} {H : Hp} (b : Int) : ∀ n : Nat, DxA K H ((List.range n).map fun j : Nat => V.int (b + (j : Int))) ((List.range n).map fun j : Nat => PyData.int (b + (j : Int)))
  | 0 => .nil
  | n + 1 => by
    rw [List.range_succ, List.map_append, List.map_append]
    exact dxA_app (dxA_is b n) (.cons (.int _) .nil)
theorem dxA_snoc {K : PySem.W.Frag} {H : Hp} {xs : List V} {ds : List PyData} {v : V} {d : PyData} (h : DxA K H xs ds) (hd : Dx K H v d) : DxA K H (xs ++ [v]) (ds ++ [d]) := dxA_app h (.cons hd .nil)
abbrev nStr : List Str := ["_law_m", "_law_number", "_law_kinds_here", "_law_most", "_law_some", "_law_at"]
theorem scStrange : FnScope nStr ["_law_m", "_law_number", "_law_kinds_here", "_law_most"] (defScope sStrange) := ⟨rfl, rfl, rfl, by decide +kernel, rfl, by decide +kernel, by decide +kernel⟩
section
variable {P : Program} {w : World} {K : PySem.W.Frag} {mg : Str → Option Value} {base : Heap}
def spStrange (K : PySem.W.Frag) : Sp := fun vs H Q _ => ∃ (m r kl : Addr) (n most : Int) (a : Src) (cs : List Int) (ks : List V) (B : Int), vs = [.ref m, .int n, .ref kl, .int most] ∧ Dr K H m r a cs B ∧ B ≤ 900000 ∧ H kl = some (.lst ks) ∧ ks.length ≤ 12 ∧
  ∀ H' v d, G2 m r H H' → Dr K H' m r a cs (B + 1) → Dx K (hide [m, r] H') v d → Q v H'
set_option maxHeartbeats 1000000 in
theorem ok_strange {f fO : Addr} {fd dO : FuncData} {k : Nat} (F : Fun K "_law_strange" "_law_strange" sStrange f fd) (HO_ : Has P w K mg base k "_law_of" ["_law_m", "_law_some"] (spOf K) fO dO) (ml : mg "len" = none) (mr : mg "range" = none) :
    FnOk P w K mg base CX0 (k + 1) f fd ["_law_m", "_law_number", "_law_kinds_here", "_law_most"] (spStrange K) := by
  refine F.ok scStrange (fun vs H Q E h => ?_) (fun cdv A outer s H vs Q E hr h => ?_)
  · obtain ⟨m, r, kl, n, most, a, cs, ks, B, rfl, _⟩ := h
    rfl
  · obtain ⟨m, r, kl, n, most, a, cs, ks, B, rfl, d0, hB, ek, lk, q⟩ := h
    have nd := scStrange.nd
    refine' ⟨_, pss_cons ?s1 (pss_one ?s2), ?rd⟩
    case s1 =>
      exact ps_set (i := 4) nd rfl (.inl rfl) (pe_lst (pa_cons pe_non (pa_cons pe_bl (pa_cons pe_bl (pa_cons pe_str (pa_cons pe_str (pa_cons (pe_tup (pa_cons pe_int pa_nil)) (pa_cons (pe_lst (pa_cons pe_int pa_nil)) (pa_cons pe_dnewK (pa_cons (pe_un un_neg pe_int) (pa_cons (pe_op op_pow pe_int pe_int)
        (pa_cons (pv 1) (pa_cons (pe_op op_add (pv 1) pe_int) (pa_cons pe_int (pa_cons (pv 3) pa_nil)))))))))))))))
    case s2 =>
      exact ps_ret (hcall HO_ hr (pa_cons (pv 0) (pa_cons (pe_op op_cat (pv 4) (pe_lc (own := [("_law_at", 5)]) (g := gName 5) rfl nd (pi_range1 (by rfl) mr (pa_cons (pe_callB call_len_seq (by rfl) ml PySem.boot_len (pa_cons (pv 2) pa_nil)) pa_nil)) (blkOk_by (own := [("_law_at", 5)]) (N := nStr) (sc := defScope sStrange) (by decide +kernel))
        (fun _ _ _ _ _ => pg_name (i := 5) nd rfl (.inl rfl)) (fun _ _ _ _ _ => pts_nil) (fun _ _ _ _ _ => pv 5))) pa_nil)))
    case rd =>
    have th := d0.there
    refine ⟨by show 1 ≤ sizeLine; decide, fun t1 n1 => ?_⟩
    have k1 : Gr H (upd H t1 (.tup [.int 0])) := Gr.new n1
    have D1 : Dx K (hide [m, r] (upd H t1 (.tup [.int 0]))) (.ref t1) (.tuple [.int 0]) := dx_newT n1 th (.cons (.int 0) .nil)
    generalize upd H t1 (.tup [.int 0]) = H1 at k1 D1 ⊢
    refine ⟨by show 1 ≤ sizeLine; decide, fun t2 n2 => ?_⟩
    have k2 : Gr H1 (upd H1 t2 (.lst [.int 0])) := Gr.new n2
    have D2 : Dx K (hide [m, r] (upd H1 t2 (.lst [.int 0]))) (.ref t2) (.list [.int 0]) := dx_newL n2 (th.gr k1) (.cons (.int 0) .nil)
    have D12 := k2.hkx.dx D1
    generalize upd H1 t2 (.lst [.int 0]) = H2 at k2 D2 D12 ⊢
    refine fun t3 n3 => ?_
    have k3 : Gr H2 (upd H2 t3 (.dK [])) := Gr.new n3
    have D3 : Dx K (hide [m, r] (upd H2 t3 (.dK []))) (.ref t3) (.dict []) := dx_newE n3 (th.gr (k1.trans k2))
    have D13 := k3.hkx.dx D12
    have D23 := k3.hkx.dx D2
    have k03 := k1.trans (k2.trans k3)
    generalize upd H2 t3 (.dK []) = H3 at k3 D3 D13 D23 k03 ⊢
    refine ⟨1, rfl, 10, 30, rfl, rfl, ⟨by decide, by decide, by decide⟩, _, rfl, _, rfl, n, 1, rfl, rfl, _, rfl, by show 14 ≤ sizeLine; decide, fun l nl => ?_⟩
    have A3 : DxA K (hide [m, r] H3) [.non, .bl true, .bl false, .str "0", .str "", .ref t1, .ref t2, .ref t3, .int (-1), .int (10 ^ (30 : Int).toNat), .int n, .int (n + 1), .int 200, .int most] [.none, .bool true, .bool false, .str "0", .str "", .tuple [.int 0], .list [.int 0], .dict [], .int (-1), .int (10 ^ (30 : Int).toNat), .int n, .int (n + 1), .int 200, .int most] :=
      .cons .non (.cons (.bl _) (.cons (.bl _) (.cons (.str _) (.cons (.str _) (.cons D13 (.cons D23 (.cons D3 (.cons (.int _) (.cons (.int _) (.cons (.int _) (.cons (.int _) (.cons (.int _) (.cons (.int _) .nil)))))))))))))
    generalize hvs : ([.non, .bl true, .bl false, .str "0", .str "", .ref t1, .ref t2, .ref t3, .int (-1), .int (10 ^ (30 : Int).toNat), .int n, .int (n + 1), .int 200, .int most] : List V) = vs at A3
    have lvs : vs.length = 14 := by rw [← hvs]; rfl
    generalize ([.none, .bool true, .bool false, .str "0", .str "", .tuple [.int 0], .list [.int 0], .dict [], .int (-1), .int (10 ^ (30 : Int).toNat), .int n, .int (n + 1), .int 200, .int most] : List PyData) = ds at A3
    have k4 : Gr H3 (upd H3 l (.lst vs)) := Gr.new nl
    have e4 : upd H3 l (.lst vs) l = some (.lst vs) := upd_same
    have A4 := k4.hkx.dxA A3
    have k04 := k03.trans k4
    dsimp only
    generalize upd H3 l (.lst vs) = H4 at k4 e4 A4 k04 ⊢
    refine ⟨_, rfl, _, rfl, _, rfl, kl, _, rfl, .inl (.inl (.inl (k04.lst ek))), _, rfl, by omega, by omega, fun D nD => ?_⟩
    refine lc_it (walk_range (lo := 0) (n := ((ks.length : Nat) : Int).toNat)) (fun i S => S D = some (.lst ((List.range i).map fun j : Nat => V.int (0 + (j : Int)))) ∧ Gr H4 S) ⟨upd_same, Gr.new nD⟩ (fun _ _ _ _ => trivial) ?c1 ?c2
    case c1 =>
      rintro i y S' S hi ⟨eD, g⟩ ⟨rfl, rfl⟩
      refine ⟨rfl, tYes_i (iteT ⟨_, rfl, _, eD, ?_, ?_, g.upd_new nD⟩)⟩
      · rw [List.length_map, List.length_range]
        exact small1000 (by omega)
      · rw [upd_same, List.range_succ, List.map_append]
        rfl
    case c2 =>
    rintro S ⟨eD, g⟩
    rw [Int.toNat_natCast] at eD
    have A5 := dxA_app (g.hkx.dxA A4) (dxA_is (K := K) (H := hide [m, r] S) 0 ks.length)
    refine ⟨l, D, _, _, rfl, rfl, g.lst e4, eD, ?_, fun c nc => ?_⟩
    · rw [lvs, List.length_map, List.length_range]
      exact Nat.le_of_lt (small1000 (by omega))
    have lxs : (vs ++ (List.range ks.length).map fun j : Nat => V.int (0 + (j : Int))).length = 14 + ks.length := by rw [List.length_append, lvs, List.length_map, List.length_range]
    generalize vs ++ (List.range ks.length).map (fun j : Nat => V.int (0 + (j : Int))) = xs at A5 lxs ⊢
    generalize ds ++ (List.range ks.length).map (fun j : Nat => PyData.int (0 + (j : Int))) = es at A5
    have k5 : Gr S (upd S c (.lst xs)) := Gr.new nc
    have e5 : upd S c (.lst xs) c = some (.lst xs) := upd_same
    have A6 := k5.hkx.dxA A5
    have k05 := k04.trans (g.trans k5)
    obtain ⟨nc1, nc2⟩ := (d0.gr (k04.trans g)).nm nc
    generalize upd S c (.lst xs) = S5 at k5 e5 A6 k05 ⊢
    refine ⟨m, r, c, a, cs, xs, B, rfl, d0.gr k05, by omega, .inl ⟨.inl (.inl e5), nc1, nc2⟩, (fun z => by rw [z] at lxs; simp at lxs; omega), by omega, fun H' i x g6 d6 hx => ?_⟩
    obtain ⟨d, _, hd⟩ := dxA_at A6 hx
    exact q H' x d ((G2.gr k05).trans g6) d6 (g6.hkx.dx hd)
end
end SfC
namespace SfC
open PySem PySem.Spec PyProof.Rows L2 SfG
/-! ### users with one thing otherwise -/
abbrev nSp : List Str := ["_law_m", "_law_face_here", "_law_user_here", "_law_at", "_law_name", "_law_handed", "_law_kinds_here", "_law_deed", "_law_row", "_law_spot", "_law_takes", "_law_most", "_law_some"]
theorem scSpoilt : FnScope nSp ["_law_m", "_law_face_here", "_law_user_here"] (defScope sSpoilt) := ⟨rfl, rfl, rfl, by decide +kernel, rfl, by decide +kernel, by decide +kernel⟩
def scRowK : Scope := { kind := .function, names := [(".0", .local), ("_law_row", .cell), ("_law_face_here", .cell)], isGenerator := false, isCoroutine := false }
def scDeedK : Scope := { kind := .function, names := [(".0", .local), ("_law_deed", .local), ("_law_row", .free)], isGenerator := false, isCoroutine := false }
theorem fnd_of {f : Fc} (go : goF f) {e : De} (he : e ∈ f.ds) : fnd f e.nm = some e := by
  cases h : fnd f e.nm with
  | none => exact absurd (List.mem_map.mpr ⟨e, he, rfl⟩) (fnd_none h)
  | some e' =>
    obtain ⟨hm, hn⟩ := fnd_some h
    obtain ⟨i, hi⟩ := List.mem_iff_getElem?.mp he
    obtain ⟨j, hj⟩ := List.mem_iff_getElem?.mp hm
    have nd := up_nodup go.up
    have e1 : (f.ds.map De.nm)[i]? = some e.nm := by rw [List.getElem?_map, hi]; rfl
    have e2 : (f.ds.map De.nm)[j]? = some e.nm := by rw [List.getElem?_map, hj]; show some e'.nm = _; rw [hn]
    obtain ⟨li, ei⟩ := List.getElem?_eq_some_iff.mp e1
    obtain ⟨lj, ej⟩ := List.getElem?_eq_some_iff.mp e2
    have : i = j := (List.getElem_inj (h₀ := li) (h₁ := lj) nd).mp (ei.trans ej.symm)
    subst this
    rw [hi] at hj
    rw [Option.some.inj hj]
/-- the deeds of a name: one -/
def named (z : Str) (e : De) : Bool := decide (e.nm = z)
theorem named_hd {f : Fc} (go : goF f) {e : De} (he : e ∈ f.ds) : ∃ r, f.ds.filter (named e.nm) = e :: r := by
  have h := fnd_of go he
  unfold fnd at h
  have h2 : (f.ds.filter (named e.nm)).head? = some e := by
    rw [List.head?_filter]
    exact h
  cases hl : f.ds.filter (named e.nm) with
  | nil =>
    rw [hl] at h2
    cases h2
  | cons a r =>
    rw [hl] at h2
    cases h2
    exact ⟨r, rfl⟩
def tkD (e : De) : PyData := .tuple (e.tk.map Kn.d)
theorem noL_tkD (e : De) : noL (tkD e) = true := by
  unfold tkD
  rw [noL, noLA_map _ noL_kn]
theorem cutD_len (ds : List PyData) (lo hi : Option Int) : (SfG.cutD ds lo hi).length ≤ ds.length := by
  unfold SfG.cutD
  rw [List.length_take, List.length_drop]
  omega
theorem seq_end {t u : TS} {D : Ends} {σ : L2.St} {H : Hp} (Fa : L2.St → Hp → Prop) (hE : ∀ σ S, Fa σ S → u D σ S) (h : (∀ σ S, Fa σ S → u D σ S) → tSeq t u D σ H) : tSeq t u D σ H := h hE
theorem seq_go {t u : TS} {D : Ends} {σ : L2.St} {H : Hp} (h : t { D with nx := u D } σ H) : tSeq t u D σ H := h
theorem gname_go {i : Nat} {v : V} {σ : L2.St} {H : Hp} {Q : L2.St → Hp → Prop} (h : Q (σ.set i (some v)) H) : gName i v σ H Q := h
theorem if_else {tc : TT} {t u : TS} {D : Ends} {σ : L2.St} {H : Hp} (Fa : Hp → Prop) (hE : ∀ S, Fa S → u D σ S) (h : (∀ S, Fa S → u D σ S) → tIfS tc t u D σ H) : tIfS tc t u D σ H := h hE
section
variable {P : Program} {w : World} {K : PySem.W.Frag} {mg : Str → Option Value} {base : Heap}
def spSpoilt (K : PySem.W.Frag) : Sp := fun vs H Q _ => ∃ (m r : Addr) (x y : V) (f : Fc) (u : List Ur) (a : Src) (cs : List Int) (B : Int), vs = [.ref m, x, y] ∧ Dr K H m r a cs B ∧ B ≤ 800000 ∧ Dp K H x f.d ∧ goF f ∧ Dp K H y (usD u) ∧ GoU f u ∧ u.length ≤ 12 ∧
  ∀ H' v ds, G2 m r H H' → Dr K H' m r a cs (B + 10) → Dx K (hide [m, r] H') v (.tuple ds) → ds.length = u.length → Q v H'
set_option maxHeartbeats 8000000 in
theorem ok_spoilt {f fD fO fS fP : Addr} {fd dD dO dS dP : FuncData} {k : Nat} (F : Fun K "_law_spoilt" "_law_spoilt" sSpoilt f fd) (HD : Has P w K mg base k "_law_draw" ["_law_m", "_law_many"] (spDrw K) fD dD) (HO_ : Has P w K mg base k "_law_of" ["_law_m", "_law_some"] (spOf K) fO dO)
    (HS : Has P w K mg base k "_law_strange" ["_law_m", "_law_number", "_law_kinds_here", "_law_most"] (spStrange K) fS dS) (HDp : Has P w K mg base k "_law_deep" ["_law_many"] (spDeep K) fP dP) (ml : mg "len" = none) (mt : mg "list" = none) :
    FnOk P w K mg base CX0 (k + 1) f fd ["_law_m", "_law_face_here", "_law_user_here"] (spSpoilt K) := by
  refine F.ok scSpoilt (fun vs H Q E h => ?_) (fun cdv A outer s H vs Q E hr h => ?_)
  · obtain ⟨m, r, x, y, f, u, a, cs, B, rfl, _⟩ := h
    rfl
  · obtain ⟨m, r, x, y, f, u, a, cs, B, rfl, d0, hB, hx, go, hy, gu, hu, q⟩ := h
    have nd := scSpoilt.nd
    refine' ⟨_, pss_cons ?s1 (pss_cons ?s2 (pss_cons ?s3 (pss_cons ?s4 (pss_one ?s5)))), ?rd⟩
    case s1 => exact ps_set (i := 3) nd rfl (.inl rfl) (hcall HO_ hr (pa_cons (pv 0) (pa_cons (pe_lst (pa_cons (hcall HD hr (pa_cons (pv 0) (pa_cons (pe_callB call_len_seq (by rfl) ml PySem.boot_len (pa_cons (pv 2) pa_nil)) pa_nil))) (pa_cons pe_int (pa_cons (pe_op op_sub (pe_callB call_len_seq (by rfl) ml PySem.boot_len (pa_cons (pv 2) pa_nil)) pe_int) pa_nil)))) pa_nil)))
    case s2 => exact ps_asg (pe_ix ix_tup (pv 2) (pv 3) (fun _ _ => rfl)) (pg_tup rfl (pgs_cons (pg_name (i := 4) nd rfl (.inr rfl)) (pgs_cons (pg_name (i := 5) nd rfl (.inl rfl)) pgs_nil)))
    case s3 =>
      exact ps_setLc (i := 6) (own := [("_law_row", 8)]) (g := gName 8) rfl nd rfl rfl (sw_true rfl rfl rfl (by decide +kernel)) (pi_tup (pe_slice sl_tupX (pv 2) po_none (po_some (pv 3)))) (blkOk_by (own := [("_law_row", 8)]) (N := nSp) (sc := defScope sSpoilt) (by decide +kernel)) (fun _ _ _ _ _ => pg_name (i := 8) nd rfl (.inr rfl)) (fun _ _ _ _ _ => pts_nil)
        (fun _ _ _ _ _ => (pe_ix (r := rIxL K) ix_list (pe_lc (own := [("_law_deed", 7)]) (g := gName 7) (wi := iTup K (tOp (rIxT K) (tVar 1) (tC (.int 1)))) rfl nd (pi_tup (pe_ix (r := rIxT K) ix_tup (pv 1) pe_int (fun _ _ => rfl))) (by exact blkOk_by (own := [("_law_deed", 7)]) (N := nSp) (sc := scRowK) (scope := scDeedK) (by decide +kernel))
          (fun _ _ _ _ _ => pg_name (i := 7) nd rfl (.inl rfl)) (fun _ _ _ _ _ => pts_one (pt_cmpR op_eq (pe_ix (r := rIxT K) ix_tup (pv 7) pe_int (fun _ _ => rfl)) (pe_ix (r := rIxT K) ix_tup (pv 8) pe_int (fun _ _ => rfl)) (nomark _))) (fun _ _ _ _ _ => pe_ix (r := rIxT K) ix_tup (pv 7) pe_int (fun _ _ => rfl))) pe_int (fun _ _ => rfl)))
    case s4 =>
      refine' ps_if (PW.pt (pw_and (pt_cmpR op_gt (hcall HD hr (pa_cons (pv 0) (pa_cons pe_int pa_nil))) pe_int (nomark _)) (pw_and1 (pt_cmpR (op_neT0 hr) (pv 5) (pe_tup pa_nil) (nomark _))))) (pss_cons ?b1 (pss_cons ?b2 (pss_cons ?b3 (pss_one ?b4)))) (pss_cons ?c1 (pss_cons ?c2 (pss_cons ?c3 (pss_one ?c4))))
      case b1 => exact ps_set (i := 9) nd rfl (.inl rfl) (hcall HD hr (pa_cons (pv 0) (pa_cons (pe_callB call_len_seq (by rfl) ml PySem.boot_len (pa_cons (pv 5) pa_nil)) pa_nil)))
      case b2 => exact ps_set (i := 10) nd rfl (.inl rfl) (pe_ix (r := rIxL K) ix_list (pe_lc (own := [("_law_deed", 7)]) (g := gName 7) (wi := iTup K (tOp (rIxT K) (tVar 1) (tC (.int 1)))) rfl nd (pi_tup (pe_ix (r := rIxT K) ix_tup (pv 1) pe_int (fun _ _ => rfl))) (blkOk_by (own := [("_law_deed", 7)]) (N := nSp) (sc := defScope sSpoilt) (by decide +kernel))
          (fun _ _ _ _ _ => pg_name (i := 7) nd rfl (.inl rfl)) (fun _ _ _ _ _ => pts_one (pt_cmpR op_eq (pe_ix (r := rIxT K) ix_tup (pv 7) pe_int (fun _ _ => rfl)) (pv 4) (nomark _))) (fun _ _ _ _ _ => pe_ix (r := rIxT K) ix_tup (pv 7) pe_int (fun _ _ => rfl))) pe_int (fun _ _ => rfl))
      case b3 => exact ps_set (i := 11) nd rfl (.inl rfl) (pe_ifExp (pt_cmpR op_notIn_seq (pe_ix ix_tup (pv 10) (pv 9) (fun _ _ => rfl)) (pe_ix ix_tup (pv 1) pe_int (fun _ _ => rfl)) rfl) (pe_ix ix_tup (pv 10) (pv 9) (fun _ _ => rfl)) (pe_callB call_len_seq (by rfl) ml PySem.boot_len (pa_cons (pv 2) pa_nil)))
      case b4 =>
        exact ps_set (i := 8) nd rfl (.inl rfl) (pe_tup (pa_cons (pv 4) (pa_cons (pe_op op_catX (pe_op op_catX (pe_slice sl_tupX (pv 5) po_none (po_some (pv 9))) (pe_tup (pa_cons (hcall HS hr (pa_cons (pv 0) (pa_cons (pv 3) (pa_cons (pv 6) (pa_cons (pv 11) pa_nil))))) pa_nil))) (pe_slice sl_tupX (pv 5) (po_some (pe_op op_add (pv 9) pe_int)) po_none)) pa_nil)))
      case c1 => exact ps_set (i := 12) nd rfl (.inl rfl) (pe_lst (pa_cons pe_non (pa_cons pe_int (pa_cons (pv 4) (pa_cons (pe_tup (pa_cons (pv 4) pa_nil)) (pa_cons (pe_lst (pa_cons (pv 4) (pa_cons (pv 5) pa_nil))) (pa_cons (pe_tup (pa_cons (pv 4) (pa_cons (pe_callTy call_list_of (by rfl) mt (by decide +kernel) (pa_cons (pv 5) pa_nil)) pa_nil))) (pa_cons (pe_tup (pa_cons (pv 4) (pa_cons (pe_op op_catX (pv 5) (pe_tup (pa_cons pe_int pa_nil))) pa_nil))) pa_nil))))))))
      case c2 => exact ps_set (i := 12) nd rfl (.inl rfl) (pe_op op_cat (pv 12) (pe_lst (pa_cons (pe_tup (pa_cons (pv 4) (pa_cons (pe_slice sl_tupX (pv 5) po_none (po_some (pe_un un_neg pe_int))) pa_nil))) (pa_cons (pe_tup (pa_cons pe_str (pa_cons (pv 5) pa_nil))) (pa_cons (pe_tup (pa_cons (pe_upper (pv 4)) (pa_cons (pv 5) pa_nil))) (pa_cons (pe_tup (pa_cons pe_int (pa_cons (pv 5) pa_nil))) pa_nil))))))
      case c3 => exact ps_set (i := 12) nd rfl (.inl rfl) (pe_op op_cat (pv 12) (pe_lst (pa_cons (pe_tup (pa_cons pe_non (pa_cons (pv 5) pa_nil))) (pa_cons (pe_tup (pa_cons (pv 4) (pa_cons pe_non pa_nil))) (pa_cons pe_dnewK pa_nil)))))
      case c4 => exact ps_set (i := 8) nd rfl (.inl rfl) (hcall HO_ hr (pa_cons (pv 0) (pa_cons (pe_op op_cat (pv 12) (pe_lst (pa_cons (pe_tup (pa_cons (pv 4) (pa_cons (pv 5) (pa_cons (pe_tup pa_nil) pa_nil)))) (pa_cons (pe_tup (pa_cons (pe_op op_add_str (pv 4) pe_str) (pa_cons (pv 5) pa_nil))) (pa_cons (pe_tup (pa_cons pe_bl (pa_cons (pv 5) pa_nil))) (pa_cons (hcall HDp hr (pa_cons pe_int pa_nil)) (pa_cons (pe_tup (pa_cons (pv 4) (pa_cons pe_str pa_nil))) pa_nil))))))) pa_nil)))
    case s5 => exact ps_ret (pe_op op_catX (pe_op op_catX (pe_slice sl_tupX (pv 2) po_none (po_some (pv 3))) (pe_tup (pa_cons (pv 8) pa_nil))) (pe_slice sl_tupX (pv 2) (po_some (pe_op op_add (pv 3) pe_int)) po_none))
    case rd =>
    obtain ⟨pu, us, rfl, hpu, hus⟩ := dp_tup hy
    have lus : us.length = u.length := by
      have := dpA_len hus
      rw [List.length_map] at this
      exact this
    obtain ⟨pf, ph, pd, fxs, rfl, hpf, hph, hpd, dd⟩ := dp_face hx
    have lfx : fxs.length = f.ds.length := by
      have := dpA_len dd
      rw [List.length_map] at this
      exact this
    have hi8 := go.hi
    have lo1 := gu.lo
    -- where
    refine ⟨_, rfl, _, rfl, _, rfl, pu, _, rfl, .inr hpu, m, r, a, cs, _, B, rfl, d0, by omega, by omega, by omega, fun H1 at0 g1 d1 z0 z1 => ?_⟩
    refine ⟨_, rfl, pu, _, rfl, .inr (d0.kt g1 hpu), _, 1, rfl, rfl, by show 3 ≤ sizeLine; decide, fun l nl => ?_⟩
    rw [lus] at z1 ⊢
    obtain ⟨nl1, nl2⟩ := d1.nm nl
    have k1 : Gr H1 (upd H1 l (.lst [.int at0, .int 0, .int (((u.length : Nat) : Int) - 1)])) := Gr.new nl
    have e1 : upd H1 l (.lst [.int at0, .int 0, .int (((u.length : Nat) : Int) - 1)]) l = some (.lst [.int at0, .int 0, .int (((u.length : Nat) : Int) - 1)]) := upd_same
    have d2 := d1.gr k1
    have g2 : G2 m r H (upd H1 l (.lst [.int at0, .int 0, .int (((u.length : Nat) : Int) - 1)])) := g1.trans (G2.gr k1)
    generalize upd H1 l (.lst [.int at0, .int 0, .int (((u.length : Nat) : Int) - 1)]) = H2 at k1 e1 d2 g2 ⊢
    refine ⟨m, r, l, a, cs, _, _, rfl, d2, by omega, .inl ⟨.inl (.inl e1), nl1, nl2⟩, by simp, by show 3 ≤ 1000; decide, fun H3 ix x g3 d3 hx3 => ?_⟩
    obtain ⟨n, rfl, hn⟩ : ∃ n : Nat, x = .int (n : Nat) ∧ n < u.length := by
      have hm := List.mem_of_getElem? hx3
      simp only [List.mem_cons, List.not_mem_nil, or_false] at hm
      rcases hm with rfl | rfl | rfl
      · exact ⟨at0.toNat, by rw [Int.toNat_of_nonneg z0], by omega⟩
      · exact ⟨0, rfl, by omega⟩
      · exact ⟨u.length - 1, by show V.int _ = V.int _; congr 1; omega, by omega⟩
    have G3 : G2 m r H H3 := g2.trans g3
    clear g1 d1 z0 z1 k1 e1 d2 g2 hx3 g3 nl nl1 nl2
    have T3 : Kt K H H3 := d0.kt G3
    have hpu3 := T3 hpu
    have hpf3 := T3 hpf
    have hph3 := T3 hph
    have hpd3 := T3 hpd
    have dd3 := Kt.dpA T3 dd (noLA_map _ noL_de _)
    have hus3 := Kt.dpA T3 hus (noLA_map _ noL_ur _)
    have hU : u[n]? = some u[n] := List.getElem?_eq_getElem hn
    generalize u[n] = r0 at hU
    obtain ⟨hm0, fit0⟩ := gu.ok n r0 hU
    have ge0 := go.ok r0.e hm0
    obtain ⟨v0, hv0, dv0⟩ := dpA_map hus3 hU
    obtain ⟨pr, qh, rfl, hpr, hq⟩ := dp_ur dv0
    have lh : r0.hs.length ≤ 3 := by rw [← fit0.len]; exact ge0.len
    -- its name, what it is handed
    refine ⟨_, rfl, _, rfl, pu, _, _, _, rfl, rfl, hpu3, atI_nat hv0, ?_⟩
    refine ⟨pr, _, rfl, hpr, rfl, _, _, rfl, _, _, rfl, rfl, ?_⟩
    -- the kinds ahead
    have duH : Dx K H3 (.ref pu) (.tuple (u.map Ur.d)) := Dp.dx (.tup hpu3 hus3)
    refine ⟨_, rfl, _, rfl, ((n : Nat) : Int), rfl, [], u.map Ur.d, by rw [hide_nil]; exact duH, There.nil, fun v4 H4 k4 D4 => ?_⟩
    rw [hide_nil, cut_to _ (by rw [List.length_map]; omega), ← List.map_take] at D4
    obtain ⟨p4, xs4, rfl, hp4, hxs4⟩ := dx_tup D4
    have hxs5 := dx_dpU hxs4
    have l4 : xs4.length = n := by
      have := dpA_len hxs5
      rw [List.length_map, List.length_take] at this
      omega
    refine ⟨p4, rfl, ⟨_, hp4⟩, fun D nD => ?_⟩
    obtain ⟨nDm, nDr⟩ := (d3.gr k4).nm nD
    refine lc_it (walk_tup (xs := xs4)) (fun i S => ∃ ks, S D = some (.lst ks) ∧ ks.length = i ∧ Gr H4 S) ⟨[], upd_same, rfl, Gr.new nD⟩ ?c0 ?c1 ?c2
    case c0 =>
      rintro i S hi ⟨ks, _, _, g⟩
      exact g.sqt hp4
    case c1 =>
      rintro i b S' S hi ⟨ks, eD, lk, g⟩ ⟨rfl, hb⟩
      have iu : i < n := by omega
      have hui : (u.take n)[i]? = some ((u.take n)[i]'(by rw [List.length_take]; omega)) := List.getElem?_eq_getElem _
      generalize (u.take n)[i]'(by rw [List.length_take]; omega) = ri at hui
      obtain ⟨b', hb', db⟩ := dpA_map hxs5 hui
      have : b = b' := Option.some.inj (hb.symm.trans hb')
      subst this
      obtain ⟨pri, qri, rfl, hpri, _⟩ := dp_ur (g.kd.dp db)
      have hui2 : u[i]? = some ri := by
        rw [List.getElem?_take, if_pos iu] at hui
        exact hui
      obtain ⟨hmi, _⟩ := gu.ok i ri hui2
      have gS : Gr H3 S := k4.trans g
      refine ⟨rfl, tYes_i (iteT ?_)⟩
      refine ⟨_, rfl, pf, _, 1, .ref pd, rfl, rfl, gS.sqt hpf3, rfl, pd, rfl, ⟨_, gS.sqt hpd3⟩, fun D2 nD2 => ?_⟩
      refine lc_it (walk_tup (xs := fxs)) (fun t S3 => S3 D2 = some (.lst (((f.ds.take t).filter (named ri.e.nm)).map fun e => e.gv.v)) ∧ Gr S S3) ⟨upd_same, Gr.new nD2⟩ ?d0 ?d1 ?d2
      case d0 =>
        rintro t S3 ht ⟨_, g3⟩
        exact (gS.trans g3).sqt hpd3
      case d1 =>
        rintro t z S3' S3 ht ⟨e3, g3⟩ ⟨rfl, hz⟩
        obtain ⟨e, he, de⟩ := dpA_de ((gS.trans g3).kd.dpA dd3) hz
        obtain ⟨pe, nn, tt', vv, rfl, hpe, dn, dt, dg⟩ := dp_3 de
        cases dp_str dn
        cases dp_kn dg
        refine ⟨rfl, ⟨_, rfl, pe, _, 0, .str e.nm, rfl, rfl, hpe, rfl, _, rfl, pri, _, 0, .str ri.e.nm, rfl, rfl, g3.sqt hpri, rfl, rfl, _, rfl, ?_⟩⟩
        have en : decide (V.str e.nm = V.str ri.e.nm) = named ri.e.nm e := by
          unfold named
          by_cases c : e.nm = ri.e.nm
          · rw [c, decide_eq_true rfl, decide_eq_true rfl]
          · rw [decide_eq_false c, decide_eq_false (fun z => c (V.str.inj z))]
        rw [en]
        cases hk : named ri.e.nm e with
        | false =>
          refine iteF ⟨?_, g3⟩
          rw [take_filt (named ri.e.nm) he, hk]
          simpa using e3
        | true =>
          refine iteT ⟨_, rfl, pe, _, 2, e.gv.v, rfl, rfl, hpe, rfl, _, e3, ?_, ?_, g3.upd_new nD2⟩
          · rw [List.length_map]
            refine small1000 ?_
            have a1 := List.length_filter_le (named ri.e.nm) (f.ds.take t)
            rw [List.length_take] at a1
            omega
          · rw [upd_same, take_filt (named ri.e.nm) he, hk, List.map_append]
            rfl
      case d2 =>
      rintro S3 ⟨e3, g3⟩
      rw [lfx, List.take_length] at e3
      obtain ⟨rr, hrr⟩ := named_hd go hmi
      rw [hrr] at e3
      refine ⟨D2, _, 0, _, rfl, rfl, .inl (.inl e3), at_hd, ?_⟩
      exact ⟨_, g3.lst eD, small1000 (by omega), ks ++ [ri.e.gv.v], upd_same, by rw [List.length_append, lk]; rfl, (g.trans g3).upd_new nD⟩
    case c2 =>
    rintro S ⟨ks, eD, lk, gD⟩
    rw [l4] at lk
    have gS : Gr H3 S := k4.trans gD
    have dS := d3.gr gS
    have GS : G2 m r H S := G3.trans (G2.gr gS)
    have hqS := gS.sqt hq
    have hpuS := gS.sqt hpu3
    have husS := gS.kd.dpA hus3
    have hpfS := gS.sqt hpf3
    have hphS := gS.sqt hph3
    have hpdS := gS.sqt hpd3
    have ddS := gS.kd.dpA dd3
    clear hxs4 hxs5 hp4 D4 duH k4 gD gS T3 hpu3 hpf3 hph3 hpd3 dd3 hus3 hq dv0 hpr d3 G3
    have dhU : ∀ S9, Gr S S9 ∨ G2 m r S S9 → Dx K (hide [m, r] S9) (.ref pu) (.tuple (u.map Ur.d)) := fun S9 h => by
      have g9 : G2 m r S S9 := h.elim G2.gr id
      exact g9.hkx.dx (Dp.dx (.tup (dS.kth hpuS) (Kt.dpA dS.kth husS (noLA_map _ noL_ur _))))
    have l12 : u.length ≤ 12 := hu
    have luM : (u.map Ur.d).length = u.length := List.length_map _
    -- what is told at the end
    refine gname_go ?_
    dsimp only
    refine seq_end (fun σ S9 => ∃ v d, σ[2]? = some (some (.ref pu)) ∧ σ[3]? = some (some (.int (n : Nat))) ∧ σ[8]? = some (some v) ∧ G2 m r S S9 ∧ Dr K S9 m r a cs (B + 10) ∧ Dx K (hide [m, r] S9) v d) ?fin (fun hF => ?_)
    case fin =>
      rintro σ S9 ⟨v, d, h2, h3, h8, g9, dr9, dv⟩
      have th9 := dr9.there
      refine ⟨_, h2, _, h3, ((n : Nat) : Int), rfl, [m, r], u.map Ur.d, dhU S9 (.inr g9), th9, fun va Sa ka Da => ?_⟩
      rw [cut_to _ (by omega)] at Da
      have dv1 := ka.hkx.dx dv
      refine ⟨_, h8, by show 1 ≤ sizeLine; decide, fun tb nb => ?_⟩
      have kb : Gr Sa (upd Sa tb (.tup [v])) := Gr.new nb
      have Db : Dx K (hide [m, r] (upd Sa tb (.tup [v]))) (.ref tb) (.tuple [d]) := dx_newT nb (th9.gr ka) (.cons dv1 .nil)
      have Da2 := kb.hkx.dx Da
      have kab := ka.trans kb
      generalize upd Sa tb (.tup [v]) = Sb at kb Db Da2 kab ⊢
      refine ⟨[m, r], _, _, Da2, Db, th9.gr kab, ?_, fun vc Sc kc Dc => ?_⟩
      · rw [List.length_take, luM]
        show _ + 1 ≤ sizeLine
        exact Nat.le_of_lt (small1000 (by omega))
      have kac := kab.trans kc
      have es : ((n : Nat) : Int) + 1 = ((n + 1 : Nat) : Int) := by omega
      refine ⟨_, h2, _, h3, _, 1, rfl, rfl, _, rfl, [m, r], u.map Ur.d, kac.hkx.dx (dhU S9 (.inr g9)), th9.gr kac, fun vd Sd kd Dd => ?_⟩
      rw [es, cut_from _ (by omega)] at Dd
      refine ⟨[m, r], _, _, kd.hkx.dx Dc, Dd, th9.gr (kac.trans kd), ?_, fun ve Se ke De => ?_⟩
      · rw [List.length_append, List.length_take, List.length_drop, luM]
        show _ + 1 + _ ≤ sizeLine
        exact Nat.le_of_lt (small1000 (by omega))
      have kae := kac.trans (kd.trans ke)
      refine q Se ve _ ((GS.trans g9).trans (G2.gr kae)) (dr9.gr kae) De ?_
      rw [List.length_append, List.length_append, List.length_take, List.length_drop, luM]
      show _ + 1 + _ = _
      omega
    refine seq_go ?_
    refine if_else (fun S9 => G2 m r S S9 ∧ Dr K S9 m r a cs (B + 3)) ?els (fun hE => ?_)
    case els =>
      rintro Sb ⟨gb, dr⟩
      have hq := (dS.kt gb) hqS
      have G0 : Gr Sb Sb := Gr.refl Sb
      have lcat : (hsD r0.hs).length + ([.int 0] : List PyData).length ≤ sizeLine := by
        show (r0.hs.map _).length + 1 ≤ sizeLine
        rw [List.length_map]
        exact Nat.le_of_lt (small1000 (by omega))
      have lnm : r0.e.nm.length ≤ 5592405 := by
        have := (isN_txt ge0.nm).1
        omega
      have lnb : r0.e.nm.length + (" " : Str).length ≤ sizeLine := by
        have := (isN_txt ge0.nm).1
        rw [sizeLine_eq]
        show _ + 1 ≤ _
        omega
      refine ⟨_, rfl, _, rfl, by show 1 ≤ sizeLine; decide, fun t1 nt1 => ?_⟩
      have k1 : Gr Sb (upd Sb t1 (.tup [.str r0.e.nm])) := Gr.new nt1
      have D1 : Dx K (hide [m, r] (upd Sb t1 (.tup [.str r0.e.nm]))) (.ref t1) (.tuple [.str r0.e.nm]) := dx_newT nt1 (dr.gr G0).there (.cons (.str _) .nil)
      generalize upd Sb t1 (.tup [.str r0.e.nm]) = S1 at k1 D1 ⊢
      replace hq := k1.sqt hq
      replace G0 := G0.trans k1
      refine ⟨_, rfl, _, rfl, by show 2 ≤ sizeLine; decide, fun t2 nt2 => ?_⟩
      have k2 : Gr S1 (upd S1 t2 (.lst [.str r0.e.nm, .ref qh])) := Gr.new nt2
      have D2 : Dx K (hide [m, r] (upd S1 t2 (.lst [.str r0.e.nm, .ref qh]))) (.ref t2) (.list [.str r0.e.nm, .tuple (hsD r0.hs)]) := dx_newL nt2 (dr.gr G0).there (.cons (.str _) (.cons ((.tup ((dr.gr G0).kth hq) (dxA_ns _))) .nil))
      generalize upd S1 t2 (.lst [.str r0.e.nm, .ref qh]) = S2 at k2 D2 ⊢
      replace D1 := k2.hkx.dx D1
      replace hq := k2.sqt hq
      replace G0 := G0.trans k2
      refine ⟨_, rfl, _, rfl, qh, _, rfl, .inr hq, fun t3 nt3 => ?_⟩
      have k3 : Gr S2 (upd S2 t3 (.lst (hsV r0.hs))) := Gr.new nt3
      have D3 : Dx K (hide [m, r] (upd S2 t3 (.lst (hsV r0.hs)))) (.ref t3) (.list (hsD r0.hs)) := dx_newL nt3 (dr.gr G0).there (dxA_ns _)
      generalize upd S2 t3 (.lst (hsV r0.hs)) = S3 at k3 D3 ⊢
      replace D1 := k3.hkx.dx D1
      replace D2 := k3.hkx.dx D2
      replace hq := k3.sqt hq
      replace G0 := G0.trans k3
      refine ⟨by show 2 ≤ sizeLine; decide, fun t4 nt4 => ?_⟩
      have k4 : Gr S3 (upd S3 t4 (.tup [.str r0.e.nm, .ref t3])) := Gr.new nt4
      have D4 : Dx K (hide [m, r] (upd S3 t4 (.tup [.str r0.e.nm, .ref t3]))) (.ref t4) (.tuple [.str r0.e.nm, .list (hsD r0.hs)]) := dx_newT nt4 (dr.gr G0).there (.cons (.str _) (.cons D3 .nil))
      generalize upd S3 t4 (.tup [.str r0.e.nm, .ref t3]) = S4 at k4 D4 ⊢
      replace D1 := k4.hkx.dx D1
      replace D2 := k4.hkx.dx D2
      replace hq := k4.sqt hq
      replace G0 := G0.trans k4
      refine ⟨_, rfl, _, rfl, by show 1 ≤ sizeLine; decide, fun t5 nt5 => ?_⟩
      have k5 : Gr S4 (upd S4 t5 (.tup [.int 0])) := Gr.new nt5
      have D5 : Dx K (hide [m, r] (upd S4 t5 (.tup [.int 0]))) (.ref t5) (.tuple [.int 0]) := dx_newT nt5 (dr.gr G0).there (.cons (.int _) .nil)
      generalize upd S4 t5 (.tup [.int 0]) = S5 at k5 D5 ⊢
      replace D1 := k5.hkx.dx D1
      replace D2 := k5.hkx.dx D2
      replace D4 := k5.hkx.dx D4
      replace hq := k5.sqt hq
      replace G0 := G0.trans k5
      refine ⟨[m, r], hsD r0.hs, [.int 0], (.tup ((dr.gr G0).kth hq) (dxA_ns _)), D5, (dr.gr G0).there, lcat, fun v6 S6 k6 D6 => ?_⟩
      replace D1 := k6.hkx.dx D1
      replace D2 := k6.hkx.dx D2
      replace D4 := k6.hkx.dx D4
      replace hq := k6.sqt hq
      replace G0 := G0.trans k6
      refine ⟨by show 2 ≤ sizeLine; decide, fun t7 nt7 => ?_⟩
      have k7 : Gr S6 (upd S6 t7 (.tup [.str r0.e.nm, v6])) := Gr.new nt7
      have D7 : Dx K (hide [m, r] (upd S6 t7 (.tup [.str r0.e.nm, v6]))) (.ref t7) (.tuple [.str r0.e.nm, .tuple (hsD r0.hs ++ [.int 0])]) := dx_newT nt7 (dr.gr G0).there (.cons (.str _) (.cons D6 .nil))
      generalize upd S6 t7 (.tup [.str r0.e.nm, v6]) = S7 at k7 D7 ⊢
      replace D1 := k7.hkx.dx D1
      replace D2 := k7.hkx.dx D2
      replace D4 := k7.hkx.dx D4
      replace hq := k7.sqt hq
      replace G0 := G0.trans k7
      refine ⟨by show 7 ≤ sizeLine; decide, fun l1 nl1 => ?_⟩
      have A1 : DxA K (hide [m, r] S7) [.non, .int 5, .str r0.e.nm, .ref t1, .ref t2, .ref t4, .ref t7] [.none, .int 5, .str r0.e.nm, .tuple [.str r0.e.nm], .list [.str r0.e.nm, .tuple (hsD r0.hs)], .tuple [.str r0.e.nm, .list (hsD r0.hs)], .tuple [.str r0.e.nm, .tuple (hsD r0.hs ++ [.int 0])]] := .cons .non (.cons (.int _) (.cons (.str _) (.cons D1 (.cons D2 (.cons D4 (.cons D7 .nil))))))
      obtain ⟨ne1l1, ne2l1⟩ := (dr.gr G0).nm nl1
      obtain ⟨xA1, hxA1⟩ : ∃ x, x = ([.non, .int 5, .str r0.e.nm, .ref t1, .ref t2, .ref t4, .ref t7] : List V) := ⟨_, rfl⟩
      obtain ⟨dA1, hdA1⟩ : ∃ x, x = ([.none, .int 5, .str r0.e.nm, .tuple [.str r0.e.nm], .list [.str r0.e.nm, .tuple (hsD r0.hs)], .tuple [.str r0.e.nm, .list (hsD r0.hs)], .tuple [.str r0.e.nm, .tuple (hsD r0.hs ++ [.int 0])]] : List PyData) := ⟨_, rfl⟩
      rw [← hxA1, ← hdA1] at A1
      rw [show (HO.lst [.non, .int 5, .str r0.e.nm, .ref t1, .ref t2, .ref t4, .ref t7]) = HO.lst xA1 by rw [hxA1]]
      have lenA1 : xA1.length = 7 := by rw [hxA1]; rfl
      have k8 : Gr S7 (upd S7 l1 (.lst xA1)) := Gr.new nl1
      have el1 : (upd S7 l1 (.lst xA1)) l1 = some (.lst xA1) := upd_same
      generalize upd S7 l1 (.lst xA1) = S8 at k8 el1 ⊢
      replace A1 := k8.hkx.dxA A1
      replace hq := k8.sqt hq
      replace G0 := G0.trans k8
      clear hxA1 hdA1 nl1 D1 D2 D4 D7
      refine ⟨_, rfl, _, rfl, _, rfl, 1, rfl, -1, rfl, [m, r], hsD r0.hs, (.tup ((dr.gr G0).kth hq) (dxA_ns _)), (dr.gr G0).there, fun v9 S9 k9 D9 => ?_⟩
      replace A1 := k9.hkx.dxA A1
      replace hq := k9.sqt hq
      replace el1 := k9.lst el1
      replace G0 := G0.trans k9
      refine ⟨by show 2 ≤ sizeLine; decide, fun t10 nt10 => ?_⟩
      have k10 : Gr S9 (upd S9 t10 (.tup [.str r0.e.nm, v9])) := Gr.new nt10
      have D10 : Dx K (hide [m, r] (upd S9 t10 (.tup [.str r0.e.nm, v9]))) (.ref t10) (.tuple [.str r0.e.nm, .tuple (cutD (hsD r0.hs) none (some (-1)))]) := dx_newT nt10 (dr.gr G0).there (.cons (.str _) (.cons D9 .nil))
      generalize upd S9 t10 (.tup [.str r0.e.nm, v9]) = S10 at k10 D10 ⊢
      replace A1 := k10.hkx.dxA A1
      replace hq := k10.sqt hq
      replace el1 := k10.lst el1
      replace G0 := G0.trans k10
      refine ⟨_, rfl, by show 2 ≤ sizeLine; decide, fun t11 nt11 => ?_⟩
      have k11 : Gr S10 (upd S10 t11 (.tup [.str "nodeedso", .ref qh])) := Gr.new nt11
      have D11 : Dx K (hide [m, r] (upd S10 t11 (.tup [.str "nodeedso", .ref qh]))) (.ref t11) (.tuple [.str "nodeedso", .tuple (hsD r0.hs)]) := dx_newT nt11 (dr.gr G0).there (.cons (.str _) (.cons ((.tup ((dr.gr G0).kth hq) (dxA_ns _))) .nil))
      generalize upd S10 t11 (.tup [.str "nodeedso", .ref qh]) = S11 at k11 D11 ⊢
      replace A1 := k11.hkx.dxA A1
      replace D10 := k11.hkx.dx D10
      replace hq := k11.sqt hq
      replace el1 := k11.lst el1
      replace G0 := G0.trans k11
      refine ⟨_, rfl, ⟨_, rfl⟩, r0.e.nm, rfl, rfl, lnm, _, rfl, by show 2 ≤ sizeLine; decide, fun t12 nt12 => ?_⟩
      have k12 : Gr S11 (upd S11 t12 (.tup [.str (Txt.upper r0.e.nm), .ref qh])) := Gr.new nt12
      have D12 : Dx K (hide [m, r] (upd S11 t12 (.tup [.str (Txt.upper r0.e.nm), .ref qh]))) (.ref t12) (.tuple [.str (Txt.upper r0.e.nm), .tuple (hsD r0.hs)]) := dx_newT nt12 (dr.gr G0).there (.cons (.str _) (.cons ((.tup ((dr.gr G0).kth hq) (dxA_ns _))) .nil))
      generalize upd S11 t12 (.tup [.str (Txt.upper r0.e.nm), .ref qh]) = S12 at k12 D12 ⊢
      replace A1 := k12.hkx.dxA A1
      replace D10 := k12.hkx.dx D10
      replace D11 := k12.hkx.dx D11
      replace hq := k12.sqt hq
      replace el1 := k12.lst el1
      replace G0 := G0.trans k12
      refine ⟨_, rfl, by show 2 ≤ sizeLine; decide, fun t13 nt13 => ?_⟩
      have k13 : Gr S12 (upd S12 t13 (.tup [.int 5, .ref qh])) := Gr.new nt13
      have D13 : Dx K (hide [m, r] (upd S12 t13 (.tup [.int 5, .ref qh]))) (.ref t13) (.tuple [.int 5, .tuple (hsD r0.hs)]) := dx_newT nt13 (dr.gr G0).there (.cons (.int _) (.cons ((.tup ((dr.gr G0).kth hq) (dxA_ns _))) .nil))
      generalize upd S12 t13 (.tup [.int 5, .ref qh]) = S13 at k13 D13 ⊢
      replace A1 := k13.hkx.dxA A1
      replace D10 := k13.hkx.dx D10
      replace D11 := k13.hkx.dx D11
      replace D12 := k13.hkx.dx D12
      replace hq := k13.sqt hq
      replace el1 := k13.lst el1
      replace G0 := G0.trans k13
      refine ⟨by show 4 ≤ sizeLine; decide, fun l2 nl2 => ?_⟩
      have A2 : DxA K (hide [m, r] S13) [.ref t10, .ref t11, .ref t12, .ref t13] [.tuple [.str r0.e.nm, .tuple (cutD (hsD r0.hs) none (some (-1)))], .tuple [.str "nodeedso", .tuple (hsD r0.hs)], .tuple [.str (Txt.upper r0.e.nm), .tuple (hsD r0.hs)], .tuple [.int 5, .tuple (hsD r0.hs)]] := .cons D10 (.cons D11 (.cons D12 (.cons D13 .nil)))
      obtain ⟨ne1l2, ne2l2⟩ := (dr.gr G0).nm nl2
      obtain ⟨xA2, hxA2⟩ : ∃ x, x = ([.ref t10, .ref t11, .ref t12, .ref t13] : List V) := ⟨_, rfl⟩
      obtain ⟨dA2, hdA2⟩ : ∃ x, x = ([.tuple [.str r0.e.nm, .tuple (cutD (hsD r0.hs) none (some (-1)))], .tuple [.str "nodeedso", .tuple (hsD r0.hs)], .tuple [.str (Txt.upper r0.e.nm), .tuple (hsD r0.hs)], .tuple [.int 5, .tuple (hsD r0.hs)]] : List PyData) := ⟨_, rfl⟩
      rw [← hxA2, ← hdA2] at A2
      rw [show (HO.lst [.ref t10, .ref t11, .ref t12, .ref t13]) = HO.lst xA2 by rw [hxA2]]
      have lenA2 : xA2.length = 4 := by rw [hxA2]; rfl
      have k14 : Gr S13 (upd S13 l2 (.lst xA2)) := Gr.new nl2
      have el2 : (upd S13 l2 (.lst xA2)) l2 = some (.lst xA2) := upd_same
      generalize upd S13 l2 (.lst xA2) = S14 at k14 el2 ⊢
      replace A1 := k14.hkx.dxA A1
      replace A2 := k14.hkx.dxA A2
      replace hq := k14.sqt hq
      replace el1 := k14.lst el1
      replace G0 := G0.trans k14
      clear hxA2 hdA2 nl2 D10 D11 D12 D13
      refine ⟨l1, l2, _, _, rfl, rfl, el1, el2, by rw [lenA1, lenA2]; decide, fun l3 nl3 => ?_⟩
      have A3 := dxA_app A1 A2
      have lenA3 : (xA1 ++ xA2).length = 11 := by rw [List.length_append, lenA1, lenA2]
      obtain ⟨ne1l3, ne2l3⟩ := (dr.gr G0).nm nl3
      generalize xA1 ++ xA2 = xA3 at A3 lenA3 ⊢
      generalize dA1 ++ dA2 = dA3 at A3
      clear A1 A2 el1 el2 lenA1 lenA2
      have k15 : Gr S14 (upd S14 l3 (.lst xA3)) := Gr.new nl3
      have el3 : (upd S14 l3 (.lst xA3)) l3 = some (.lst xA3) := upd_same
      generalize upd S14 l3 (.lst xA3) = S15 at k15 el3 ⊢
      replace A3 := k15.hkx.dxA A3
      replace hq := k15.sqt hq
      replace G0 := G0.trans k15
      refine ⟨_, rfl, _, rfl, by show 2 ≤ sizeLine; decide, fun t16 nt16 => ?_⟩
      have k16 : Gr S15 (upd S15 t16 (.tup [.non, .ref qh])) := Gr.new nt16
      have D16 : Dx K (hide [m, r] (upd S15 t16 (.tup [.non, .ref qh]))) (.ref t16) (.tuple [.none, .tuple (hsD r0.hs)]) := dx_newT nt16 (dr.gr G0).there (.cons .non (.cons ((.tup ((dr.gr G0).kth hq) (dxA_ns _))) .nil))
      generalize upd S15 t16 (.tup [.non, .ref qh]) = S16 at k16 D16 ⊢
      replace A3 := k16.hkx.dxA A3
      replace hq := k16.sqt hq
      replace el3 := k16.lst el3
      replace G0 := G0.trans k16
      refine ⟨_, rfl, by show 2 ≤ sizeLine; decide, fun t17 nt17 => ?_⟩
      have k17 : Gr S16 (upd S16 t17 (.tup [.str r0.e.nm, .non])) := Gr.new nt17
      have D17 : Dx K (hide [m, r] (upd S16 t17 (.tup [.str r0.e.nm, .non]))) (.ref t17) (.tuple [.str r0.e.nm, .none]) := dx_newT nt17 (dr.gr G0).there (.cons (.str _) (.cons .non .nil))
      generalize upd S16 t17 (.tup [.str r0.e.nm, .non]) = S17 at k17 D17 ⊢
      replace A3 := k17.hkx.dxA A3
      replace D16 := k17.hkx.dx D16
      replace hq := k17.sqt hq
      replace el3 := k17.lst el3
      replace G0 := G0.trans k17
      refine fun t18 nt18 => ?_
      have k18 : Gr S17 (upd S17 t18 (.dK [])) := Gr.new nt18
      have D18 : Dx K (hide [m, r] (upd S17 t18 (.dK []))) (.ref t18) (.dict []) := dx_newE nt18 (dr.gr G0).there
      generalize upd S17 t18 (.dK []) = S18 at k18 D18 ⊢
      replace A3 := k18.hkx.dxA A3
      replace D16 := k18.hkx.dx D16
      replace D17 := k18.hkx.dx D17
      replace hq := k18.sqt hq
      replace el3 := k18.lst el3
      replace G0 := G0.trans k18
      refine ⟨by show 3 ≤ sizeLine; decide, fun l4 nl4 => ?_⟩
      have A4 : DxA K (hide [m, r] S18) [.ref t16, .ref t17, .ref t18] [.tuple [.none, .tuple (hsD r0.hs)], .tuple [.str r0.e.nm, .none], .dict []] := .cons D16 (.cons D17 (.cons D18 .nil))
      obtain ⟨ne1l4, ne2l4⟩ := (dr.gr G0).nm nl4
      obtain ⟨xA4, hxA4⟩ : ∃ x, x = ([.ref t16, .ref t17, .ref t18] : List V) := ⟨_, rfl⟩
      obtain ⟨dA4, hdA4⟩ : ∃ x, x = ([.tuple [.none, .tuple (hsD r0.hs)], .tuple [.str r0.e.nm, .none], .dict []] : List PyData) := ⟨_, rfl⟩
      rw [← hxA4, ← hdA4] at A4
      rw [show (HO.lst [.ref t16, .ref t17, .ref t18]) = HO.lst xA4 by rw [hxA4]]
      have lenA4 : xA4.length = 3 := by rw [hxA4]; rfl
      have k19 : Gr S18 (upd S18 l4 (.lst xA4)) := Gr.new nl4
      have el4 : (upd S18 l4 (.lst xA4)) l4 = some (.lst xA4) := upd_same
      generalize upd S18 l4 (.lst xA4) = S19 at k19 el4 ⊢
      replace A3 := k19.hkx.dxA A3
      replace A4 := k19.hkx.dxA A4
      replace hq := k19.sqt hq
      replace el3 := k19.lst el3
      replace G0 := G0.trans k19
      clear hxA4 hdA4 nl4 D16 D17 D18
      refine ⟨l3, l4, _, _, rfl, rfl, el3, el4, by rw [lenA3, lenA4]; decide, fun l5 nl5 => ?_⟩
      have A5 := dxA_app A3 A4
      have lenA5 : (xA3 ++ xA4).length = 14 := by rw [List.length_append, lenA3, lenA4]
      obtain ⟨ne1l5, ne2l5⟩ := (dr.gr G0).nm nl5
      generalize xA3 ++ xA4 = xA5 at A5 lenA5 ⊢
      generalize dA3 ++ dA4 = dA5 at A5
      clear A3 A4 el3 el4 lenA3 lenA4
      have k20 : Gr S19 (upd S19 l5 (.lst xA5)) := Gr.new nl5
      have el5 : (upd S19 l5 (.lst xA5)) l5 = some (.lst xA5) := upd_same
      generalize upd S19 l5 (.lst xA5) = S20 at k20 el5 ⊢
      replace A5 := k20.hkx.dxA A5
      replace hq := k20.sqt hq
      replace G0 := G0.trans k20
      refine ⟨_, rfl, _, rfl, _, rfl, _, rfl, by show 0 ≤ sizeLine; decide, fun t21 nt21 => ?_⟩
      have k21 : Gr S20 (upd S20 t21 (.tup [])) := Gr.new nt21
      have D21 : Dx K (hide [m, r] (upd S20 t21 (.tup []))) (.ref t21) (.tuple []) := dx_newT nt21 (dr.gr G0).there (.nil)
      generalize upd S20 t21 (.tup []) = S21 at k21 D21 ⊢
      replace A5 := k21.hkx.dxA A5
      replace hq := k21.sqt hq
      replace el5 := k21.lst el5
      replace G0 := G0.trans k21
      refine ⟨by show 3 ≤ sizeLine; decide, fun t22 nt22 => ?_⟩
      have k22 : Gr S21 (upd S21 t22 (.tup [.str r0.e.nm, .ref qh, .ref t21])) := Gr.new nt22
      have D22 : Dx K (hide [m, r] (upd S21 t22 (.tup [.str r0.e.nm, .ref qh, .ref t21]))) (.ref t22) (.tuple [.str r0.e.nm, .tuple (hsD r0.hs), .tuple []]) := dx_newT nt22 (dr.gr G0).there (.cons (.str _) (.cons ((.tup ((dr.gr G0).kth hq) (dxA_ns _))) (.cons D21 .nil)))
      generalize upd S21 t22 (.tup [.str r0.e.nm, .ref qh, .ref t21]) = S22 at k22 D22 ⊢
      replace A5 := k22.hkx.dxA A5
      replace hq := k22.sqt hq
      replace el5 := k22.lst el5
      replace G0 := G0.trans k22
      refine ⟨_, rfl, r0.e.nm, " ", rfl, rfl, lnb, _, rfl, by show 2 ≤ sizeLine; decide, fun t23 nt23 => ?_⟩
      have k23 : Gr S22 (upd S22 t23 (.tup [.str (r0.e.nm ++ (" " : Str)), .ref qh])) := Gr.new nt23
      have D23 : Dx K (hide [m, r] (upd S22 t23 (.tup [.str (r0.e.nm ++ (" " : Str)), .ref qh]))) (.ref t23) (.tuple [.str (r0.e.nm ++ (" " : Str)), .tuple (hsD r0.hs)]) := dx_newT nt23 (dr.gr G0).there (.cons (.str _) (.cons ((.tup ((dr.gr G0).kth hq) (dxA_ns _))) .nil))
      generalize upd S22 t23 (.tup [.str (r0.e.nm ++ (" " : Str)), .ref qh]) = S23 at k23 D23 ⊢
      replace A5 := k23.hkx.dxA A5
      replace D22 := k23.hkx.dx D22
      replace hq := k23.sqt hq
      replace el5 := k23.lst el5
      replace G0 := G0.trans k23
      refine ⟨_, rfl, by show 2 ≤ sizeLine; decide, fun t24 nt24 => ?_⟩
      have k24 : Gr S23 (upd S23 t24 (.tup [.bl true, .ref qh])) := Gr.new nt24
      have D24 : Dx K (hide [m, r] (upd S23 t24 (.tup [.bl true, .ref qh]))) (.ref t24) (.tuple [.bool true, .tuple (hsD r0.hs)]) := dx_newT nt24 (dr.gr G0).there (.cons (.bl _) (.cons ((.tup ((dr.gr G0).kth hq) (dxA_ns _))) .nil))
      generalize upd S23 t24 (.tup [.bl true, .ref qh]) = S24 at k24 D24 ⊢
      replace A5 := k24.hkx.dxA A5
      replace D22 := k24.hkx.dx D22
      replace D23 := k24.hkx.dx D23
      replace hq := k24.sqt hq
      replace el5 := k24.lst el5
      replace G0 := G0.trans k24
      refine ⟨7, rfl, by decide, fun S25 v25 k25 D25 => ?_⟩
      replace A5 := k25.hkx.dxA A5
      replace D22 := k25.hkx.dx D22
      replace D23 := k25.hkx.dx D23
      replace D24 := k25.hkx.dx D24
      replace hq := k25.sqt hq
      replace el5 := k25.lst el5
      replace G0 := G0.trans k25
      replace D25 := Kt.dx (dr.gr G0).kth D25 (noL_deep 7)
      refine ⟨_, rfl, by show 2 ≤ sizeLine; decide, fun t26 nt26 => ?_⟩
      have k26 : Gr S25 (upd S25 t26 (.tup [.str r0.e.nm, .str ""])) := Gr.new nt26
      have D26 : Dx K (hide [m, r] (upd S25 t26 (.tup [.str r0.e.nm, .str ""]))) (.ref t26) (.tuple [.str r0.e.nm, .str ""]) := dx_newT nt26 (dr.gr G0).there (.cons (.str _) (.cons (.str _) .nil))
      generalize upd S25 t26 (.tup [.str r0.e.nm, .str ""]) = S26 at k26 D26 ⊢
      replace A5 := k26.hkx.dxA A5
      replace D22 := k26.hkx.dx D22
      replace D23 := k26.hkx.dx D23
      replace D24 := k26.hkx.dx D24
      replace D25 := k26.hkx.dx D25
      replace hq := k26.sqt hq
      replace el5 := k26.lst el5
      replace G0 := G0.trans k26
      refine ⟨by show 5 ≤ sizeLine; decide, fun l6 nl6 => ?_⟩
      have A6 : DxA K (hide [m, r] S26) [.ref t22, .ref t23, .ref t24, v25, .ref t26] [.tuple [.str r0.e.nm, .tuple (hsD r0.hs), .tuple []], .tuple [.str (r0.e.nm ++ (" " : Str)), .tuple (hsD r0.hs)], .tuple [.bool true, .tuple (hsD r0.hs)], deepD 7, .tuple [.str r0.e.nm, .str ""]] := .cons D22 (.cons D23 (.cons D24 (.cons D25 (.cons D26 .nil))))
      obtain ⟨ne1l6, ne2l6⟩ := (dr.gr G0).nm nl6
      obtain ⟨xA6, hxA6⟩ : ∃ x, x = ([.ref t22, .ref t23, .ref t24, v25, .ref t26] : List V) := ⟨_, rfl⟩
      obtain ⟨dA6, hdA6⟩ : ∃ x, x = ([.tuple [.str r0.e.nm, .tuple (hsD r0.hs), .tuple []], .tuple [.str (r0.e.nm ++ (" " : Str)), .tuple (hsD r0.hs)], .tuple [.bool true, .tuple (hsD r0.hs)], deepD 7, .tuple [.str r0.e.nm, .str ""]] : List PyData) := ⟨_, rfl⟩
      rw [← hxA6, ← hdA6] at A6
      rw [show (HO.lst [.ref t22, .ref t23, .ref t24, v25, .ref t26]) = HO.lst xA6 by rw [hxA6]]
      have lenA6 : xA6.length = 5 := by rw [hxA6]; rfl
      have k27 : Gr S26 (upd S26 l6 (.lst xA6)) := Gr.new nl6
      have el6 : (upd S26 l6 (.lst xA6)) l6 = some (.lst xA6) := upd_same
      generalize upd S26 l6 (.lst xA6) = S27 at k27 el6 ⊢
      replace A5 := k27.hkx.dxA A5
      replace A6 := k27.hkx.dxA A6
      replace hq := k27.sqt hq
      replace el5 := k27.lst el5
      replace G0 := G0.trans k27
      clear hxA6 hdA6 nl6 D22 D23 D24 D25 D26
      refine ⟨l5, l6, _, _, rfl, rfl, el5, el6, by rw [lenA5, lenA6]; decide, fun l7 nl7 => ?_⟩
      have A7 := dxA_app A5 A6
      have lenA7 : (xA5 ++ xA6).length = 19 := by rw [List.length_append, lenA5, lenA6]
      obtain ⟨ne1l7, ne2l7⟩ := (dr.gr G0).nm nl7
      generalize xA5 ++ xA6 = xA7 at A7 lenA7 ⊢
      generalize dA5 ++ dA6 = dA7 at A7
      clear A5 A6 el5 el6 lenA5 lenA6
      have k28 : Gr S27 (upd S27 l7 (.lst xA7)) := Gr.new nl7
      have el7 : (upd S27 l7 (.lst xA7)) l7 = some (.lst xA7) := upd_same
      generalize upd S27 l7 (.lst xA7) = S28 at k28 el7 ⊢
      replace A7 := k28.hkx.dxA A7
      replace hq := k28.sqt hq
      replace G0 := G0.trans k28
      refine ⟨m, r, l7, a, cs, _, _, rfl, dr.gr G0, by omega, .inl ⟨.inl (.inl el7), ne1l7, ne2l7⟩, (fun z => by rw [z] at lenA7; cases lenA7), by rw [lenA7]; decide, fun H9 ix x g9 d9 hx9 => ?_⟩
      obtain ⟨d, _, hd⟩ := dxA_at A7 hx9
      exact hF _ _ ⟨x, d, rfl, rfl, rfl, gb.trans ((G2.gr G0).trans g9), d9.mono (by omega), g9.hkx.dx hd⟩
    -- a thing otherwise
    refine ⟨_, rfl, m, r, a, cs, 3, _, rfl, dS, by omega, by decide, by decide, fun S1 dg g1 d1 _ _ => ?_⟩
    refine ⟨dg, 0, rfl, rfl, _, rfl, ?_⟩
    by_cases hp : dg > 0
    case neg =>
      rw [decide_eq_false hp]
      exact iteF (iteF (hE S1 ⟨g1, d1.mono (by omega)⟩))
    rw [decide_eq_true hp]
    have hq1 := (dS.kt g1) hqS
    refine iteT ⟨_, rfl, by show 0 ≤ sizeLine; decide, fun t0 n0 => ⟨qh, t0, _, rfl, rfl, (Gr.new n0).sqt hq1, .inl (.inl upd_same), _, rfl, ?_⟩⟩
    have k2 : Gr S1 (upd S1 t0 (.tup [])) := Gr.new n0
    generalize upd S1 t0 (.tup []) = S2 at k2 ⊢
    have d2 := d1.gr k2
    have g2 : G2 m r S S2 := g1.trans (G2.gr k2)
    cases hem : (!(hsV r0.hs).isEmpty) with
    | false => exact iteF (hE S2 ⟨g2, d2.mono (by omega)⟩)
    | true =>
    have lh1 : 1 ≤ r0.hs.length := by
      cases hh : r0.hs with
      | nil =>
        rw [hh] at hem
        cases hem
      | cons a b => simp
    have T2 : Kt K S S2 := dS.kt g2
    refine iteT ?_
    refine ⟨_, rfl, _, rfl, qh, _, rfl, .inr (T2 hqS), m, r, a, cs, _, _, rfl, d2, by omega, by rw [hsV_len]; omega, by rw [hsV_len]; omega, fun S3 sp g3 d3 z0 z1 => ?_⟩
    rw [hsV_len] at z1
    obtain ⟨spn, rfl⟩ : ∃ z : Nat, sp = (z : Int) := ⟨sp.toNat, by omega⟩
    have lsp : spn < r0.e.tk.length := by rw [fit0.len]; omega
    have GS3 : G2 m r S S3 := g2.trans g3
    have T3 : Kt K S S3 := dS.kt GS3
    have ddS3 := Kt.dpA T3 ddS (noLA_map _ noL_de _)
    clear g1 d1 hq1 k2 d2 g2 T2 g3 hE
    -- what its deed takes
    refine ⟨_, rfl, pf, _, 1, .ref pd, rfl, rfl, T3 hpfS, rfl, pd, rfl, ⟨_, T3 hpdS⟩, fun D2 nD2 => ?_⟩
    refine lc_it (walk_tup (xs := fxs)) (fun t S4 => ∃ xs, S4 D2 = some (.lst xs) ∧ DpAll K S4 xs (((f.ds.take t).filter (named r0.e.nm)).map tkD) ∧ Gr S3 S4) ⟨[], upd_same, .nil, Gr.new nD2⟩ ?e0 ?e1 ?e2
    case e0 =>
      rintro t S4 ht ⟨_, _, _, g4⟩
      exact g4.sqt (T3 hpdS)
    case e1 =>
      rintro t z S4' S4 ht ⟨xs, e4, dx, g4⟩ ⟨rfl, hz⟩
      obtain ⟨e, he, de⟩ := dpA_de (g4.kd.dpA ddS3) hz
      obtain ⟨pe, nn, tt', vv, rfl, hpe, dn, dt, dg⟩ := dp_3 de
      cases dp_str dn
      cases dp_kn dg
      refine ⟨rfl, ⟨_, rfl, pe, _, 0, .str e.nm, rfl, rfl, hpe, rfl, _, rfl, rfl, _, rfl, ?_⟩⟩
      have en : decide (V.str e.nm = V.str r0.e.nm) = named r0.e.nm e := by
        unfold named
        by_cases c : e.nm = r0.e.nm
        · rw [c, decide_eq_true rfl, decide_eq_true rfl]
        · rw [decide_eq_false c, decide_eq_false (fun z => c (V.str.inj z))]
      rw [en]
      have lxs : xs.length ≤ 8 := by
        have a1 := dpA_len dx
        have a2 := List.length_filter_le (named r0.e.nm) (f.ds.take t)
        rw [List.length_map] at a1
        rw [List.length_take] at a2
        omega
      cases hk : named r0.e.nm e with
      | false =>
        refine iteF ⟨xs, e4, ?_, g4⟩
        rw [take_filt (named r0.e.nm) he, hk]
        simpa using dx
      | true =>
        refine iteT ⟨_, rfl, pe, _, 1, tt', rfl, rfl, hpe, rfl, _, e4, small1000 (by omega), xs ++ [tt'], upd_same, ?_, g4.upd_new nD2⟩
        refine Kt.dpA (kt_lst e4) ?_ (noLA_map _ noL_tkD _)
        rw [take_filt (named r0.e.nm) he, hk, List.map_append]
        exact dpA_app dx (.cons dt .nil)
    case e2 =>
    rintro S4 ⟨xs, e4, dx, g4⟩
    rw [lfx, List.take_length] at dx
    obtain ⟨rr, hrr⟩ := named_hd go hm0
    rw [hrr] at dx
    obtain ⟨x0, xs', rfl, dt0, _⟩ := dpA_cons dx
    obtain ⟨pt, ts, rfl, hpt, hts⟩ := dp_tup dt0
    cases dpA_kns hts
    have d4 := d3.gr g4
    have GS4 : G2 m r S S4 := GS3.trans (G2.gr g4)
    refine ⟨D2, _, 0, _, rfl, rfl, .inl (.inl e4), at_hd, ?_⟩
    clear e4 dx dt0 hts g4 d3 GS3 T3 ddS3 nD2
    have T4 : Kt K S S4 := dS.kt GS4
    have hkn : r0.e.tk[spn]? = some (r0.e.tk[spn]) := List.getElem?_eq_getElem lsp
    generalize r0.e.tk[spn] = kn at hkn
    have gk := ge0.tk kn (List.mem_of_getElem? hkn)
    have atk : atI (r0.e.tk.map Kn.v) ((spn : Nat) : Int) = some kn.v := atI_nat (by rw [List.getElem?_map, hkn]; rfl)
    -- the most
    refine gname_go ?_
    dsimp only
    refine seq_end (fun σ S' => ∃ most : Int, σ = [some (.ref m), some (.ref pf), some (.ref pu), some (.int (n : Nat)), some (.str r0.e.nm), some (.ref qh), some (.ref D), none, none, some (.int (spn : Nat)), some (.ref pt), some (.int most), none] ∧ S' = S4) ?b4 (fun hB => ?_)
    case b4 =>
      rintro σ S' ⟨most, rfl, rfl⟩
      have hq4 := T4 hqS
      have th4 := d4.there
      have DH : Dx K (hide [m, r] S') (.ref qh) (.tuple (hsD r0.hs)) := .tup (d4.kth hq4) (dxA_ns _)
      have lH : (hsD r0.hs).length = r0.hs.length := List.length_map _
      refine ⟨_, rfl, _, rfl, _, rfl, ((spn : Nat) : Int), rfl, [m, r], hsD r0.hs, DH, th4, fun va Sa ka Da => ?_⟩
      have eDa := ka.lst (GS4.lst nDm nDr eD)
      refine ⟨_, rfl, _, rfl, _, rfl, _, rfl, m, r, D, (n : Nat), most, a, cs, ks, _, rfl, d4.gr ka, by omega, eDa, by omega, fun Sb vb db gb drb dvb => ?_⟩
      have Dab := gb.hkx.dx Da
      have DHb := gb.hkx.dx (ka.hkx.dx DH)
      refine ⟨by show 1 ≤ sizeLine; decide, fun tb nb => ?_⟩
      have kb : Gr Sb (upd Sb tb (.tup [vb])) := Gr.new nb
      have Db : Dx K (hide [m, r] (upd Sb tb (.tup [vb]))) (.ref tb) (.tuple [db]) := dx_newT nb drb.there (.cons dvb .nil)
      generalize upd Sb tb (.tup [vb]) = Sc at kb Db ⊢
      have drc := drb.gr kb
      have c1 := cutD_len (hsD r0.hs) none (some ((spn : Nat) : Int))
      refine ⟨[m, r], _, _, kb.hkx.dx Dab, Db, drc.there, ?_, fun vc Sd kc Dc => ?_⟩
      · show _ + 1 ≤ sizeLine
        exact Nat.le_of_lt (small1000 (by omega))
      refine ⟨_, rfl, _, rfl, _, 1, rfl, rfl, _, rfl, [m, r], hsD r0.hs, kc.hkx.dx (kb.hkx.dx DHb), (drc.gr kc).there, fun vd Se kd Dd => ?_⟩
      have c2 := cutD_len (hsD r0.hs) (some (((spn : Nat) : Int) + 1)) none
      refine ⟨[m, r], _, _, kd.hkx.dx Dc, Dd, ((drc.gr kc).gr kd).there, ?_, fun ve Sf ke De => ?_⟩
      · rw [List.length_append]
        show _ + 1 + _ ≤ sizeLine
        exact Nat.le_of_lt (small1000 (by omega))
      refine ⟨by show 2 ≤ sizeLine; decide, fun tf nf => ?_⟩
      have kf : Gr Sf (upd Sf tf (.tup [.str r0.e.nm, ve])) := Gr.new nf
      have kbf := kb.trans (kc.trans (kd.trans (ke.trans kf)))
      refine hF _ _ ⟨.ref tf, _, rfl, rfl, rfl, GS4.trans ((G2.gr ka).trans (gb.trans (G2.gr kbf))), (drb.gr kbf).mono (by omega), dx_newT nf (((drc.gr kc).gr kd).gr ke).there (.cons (.str _) (.cons De .nil))⟩
    refine ⟨_, rfl, _, rfl, pt, _, _, kn.v, rfl, rfl, hpt, atk, _, rfl, pf, _, 0, .ref ph, rfl, rfl, T4 hpfS, rfl, ph, _, rfl, .inr (T4 hphS), flat_kn kn, flat_strs f.hd, _, rfl, ?_⟩
    rw [show (if true = true then !inV kn.v (f.hd.map V.str) else inV kn.v (f.hd.map V.str)) = !kn.isH from by rw [if_pos rfl, inV_kn gk]]
    cases kn with
    | p b => exact iteT ⟨_, rfl, _, rfl, pt, _, _, .int b, rfl, rfl, hpt, atk, hB _ _ ⟨b, rfl, rfl⟩⟩
    | h z => exact iteF ⟨_, rfl, pu, _, rfl, .inr (T4 hpuS), hB _ _ ⟨_, rfl, rfl⟩⟩
end
end SfC
namespace SfC
open PySem PySem.Spec PyProof.Rows L2 SfG
/-! ### _law_one_right -/
/-- repr of a truth too -/
def rReprB (K : PySem.W.Frag) : List V → Hp → VK → Prop := fun xs H Q => (∃ b : Bool, xs = [.bl b] ∧ Q (.str (if b then "True" else "False")) H) ∨ rReprA K xs H Q
theorem call_reprB {X : Cx} {k : Nat} (hr : Room k X.A) (hgd : X.A.guards = some []) : CallR X (.builtin "repr") (rReprB X.K) := by
  intro pins s σ H xs us Q I r h
  rcases h with ⟨b, rfl, q⟩ | h
  · obtain ⟨u, rfl, ru⟩ := vals1 r
    cases ru
    exact PySem.P.repr_of_bool ⟨.str _, H, I.tok _, ⟨_, rfl⟩, q⟩
  · exact call_reprA hr hgd pins s σ H xs us Q I r h
abbrev nOne : List Str := ["_law_face_here", "_law_thing", "_law_due", "_law_found", "_law_deed", "_law_gives"]
theorem scLOne : FnScope nOne ["_law_face_here", "_law_thing"] (defScope sLOne) := ⟨rfl, rfl, rfl, by decide +kernel, rfl, by decide +kernel, by decide +kernel⟩
/-! users have no fault; how great a fault is -/
theorem okH_may {gv : List Kn} {k : Kn} {h : Nat} (o : okH gv k h) : mayD gv (.int (h : Nat)) k = true := by
  cases k with
  | p b =>
    have o' : (h : Int) < b := o
    show (decide ((0 : Int) ≤ (h : Nat)) && decide (((h : Nat) : Int) ≤ b - 1)) = true
    rw [decide_eq_true (show (0 : Int) ≤ (h : Nat) by omega), decide_eq_true (show ((h : Nat) : Int) ≤ b - 1 by omega)]
    rfl
  | h z =>
    show (decide ((0 : Int) ≤ (h : Nat)) && decide (gv[((h : Nat) : Int).toNat]? = some (.h z))) = true
    rw [decide_eq_true (show (0 : Int) ≤ (h : Nat) by omega), Int.toNat_natCast, decide_eq_true (show gv[h]? = some (.h z) from o)]
    rfl
theorem fits_fbp {gv : List Kn} : ∀ {ks : List Kn} {hs : List Nat} {i : Nat}, Fits gv ks hs → fbpD gv ks (hsD hs) i = none
  | _, _, _, .nil => rfl
  | _, _, i, .cons (k := k) (h := h) (hs := hs) o t => by
    show (if mayD gv (.int ((h : Nat) : Int)) k = true then _ else _) = none
    rw [if_pos (okH_may o)]
    exact fits_fbp t
theorem dor_ur {f : Fc} (go : goF f) {r : Ur} (hm : r.e ∈ f.ds) (hl : r.e.tk.length = r.hs.length) : dorD f r.d = some (r.e, hsD r.hs) := by
  show dor2 f (.str r.e.nm) (.tuple (hsD r.hs)) = _
  simp only [dor2, fnd_of go hm]
  rw [if_pos (by unfold hsD; rw [List.length_map, hl])]
theorem rows_ok {f : Fc} (go : goF f) : ∀ {u : List Ur} {i : Nat} {gv : List Kn}, (∀ j r, u[j]? = some r → r.e ∈ f.ds ∧ Fits (gv ++ (gvs u).take j) r.e.tk r.hs) → rowsF' f (u.map Ur.d) i gv = none
  | [], _, _, _ => rfl
  | r :: u, i, gv, h => by
    obtain ⟨hm, fit⟩ := h 0 r rfl
    rw [List.take_zero, List.append_nil] at fit
    rw [List.map_cons, rowsF', dor_ur go hm fit.len]
    dsimp only
    rw [fits_fbp fit]
    dsimp only
    refine rows_ok go fun j r' hr' => ?_
    obtain ⟨h1, h2⟩ := h (j + 1) r' (by simpa using hr')
    refine ⟨h1, ?_⟩
    have e1 : gv ++ (gvs (r :: u)).take (j + 1) = (gv ++ [r.e.gv]) ++ (gvs u).take j := by
      rw [List.append_assoc]
      rfl
    rw [← e1]
    exact h2
theorem user_flt {f : Fc} (go : goF f) {u : List Ur} (gu : GoU f u) : fltU f (usD u) = none := by
  show (if 1 ≤ (u.map Ur.d).length ∧ (u.map Ur.d).length ≤ 200 then (rowsF' f (u.map Ur.d) 0 []).map (fun p => ((some p.1 : Option Nat), p.2)) else some (none, none)) = none
  rw [List.length_map, if_pos ⟨gu.lo, gu.hi⟩, rows_ok go fun j r hr => by
    obtain ⟨h1, h2⟩ := gu.ok j r hr
    rw [List.nil_append]
    exact ⟨h1, h2⟩]
  rfl
theorem fbp_lt {gv : List Kn} : ∀ {ks : List Kn} {ds : List PyData} {i j : Nat}, fbpD gv ks ds i = some j → j < i + ks.length
  | [], ds, i, j, h => by
    rw [fbp_nil] at h
    cases h
  | k :: ks, [], i, j, h => by
    rw [fbpD] at h
    · cases h
    · intro _ _ _ _ _ z
      cases z
  | k :: ks, d :: ds, i, j, h => by
    rw [fbpD] at h
    by_cases c : mayD gv d k = true
    · rw [if_pos c] at h
      have := fbp_lt h
      rw [List.length_cons]
      omega
    · rw [if_neg c] at h
      cases h
      rw [List.length_cons]
      omega
theorem rowsF_lt {f : Fc} (go : goF f) : ∀ {ds : List PyData} {i : Nat} {gv : List Kn} {a : Nat} {b : Option Nat}, rowsF' f ds i gv = some (a, b) → a < i + ds.length ∧ ∀ n, b = some n → n < 3
  | [], _, _, _, _, h => by
    rw [rowsF'] at h
    cases h
  | d :: ds, i, gv, a, b, h => by
    rw [rowsF'] at h
    rw [List.length_cons]
    cases hd : dorD f d with
    | none =>
      rw [hd] at h
      cases h
      exact ⟨by omega, fun n z => by cases z⟩
    | some eh =>
      obtain ⟨e, hs⟩ := eh
      rw [hd] at h
      dsimp only at h
      obtain ⟨_, hm, _⟩ := dor_some hd
      cases hb : fbpD gv e.tk hs 0 with
      | some j =>
        rw [hb] at h
        cases h
        have := fbp_lt hb
        have := (go.ok e hm).len
        exact ⟨by omega, fun n z => by cases z; omega⟩
      | none =>
        rw [hb] at h
        dsimp only at h
        obtain ⟨h1, h2⟩ := rowsF_lt go h
        exact ⟨by omega, h2⟩
theorem flt_lt {f : Fc} (go : goF f) {d : PyData} {a b : Option Nat} (h : fltU f d = some (a, b)) : (∀ n, a = some n → n < 200) ∧ ∀ n, b = some n → n < 200 := by
  cases d with
  | tuple ds =>
    have h' : (if 1 ≤ ds.length ∧ ds.length ≤ 200 then (rowsF' f ds 0 []).map (fun p => ((some p.1 : Option Nat), p.2)) else some (none, none)) = some (a, b) := h
    by_cases c : 1 ≤ ds.length ∧ ds.length ≤ 200
    · rw [if_pos c] at h'
      cases hr : rowsF' f ds 0 [] with
      | none =>
        rw [hr] at h'
        cases h'
      | some p =>
        obtain ⟨p1, p2⟩ := p
        rw [hr] at h'
        cases h'
        obtain ⟨h1, h2⟩ := rowsF_lt go hr
        exact ⟨fun n z => by cases z; omega, fun n z => Nat.lt_of_lt_of_le (h2 n z) (by decide)⟩
    · rw [if_neg c] at h'
      cases h'
      exact ⟨fun n z => (by cases z), fun n z => (by cases z)⟩
  | _ =>
    cases h
    exact ⟨fun n z => (by cases z), fun n z => (by cases z)⟩
def ovD : Option Nat → PyData
  | none => .none
  | some n => .int (n : Nat)
theorem dp_ov {K : PySem.W.Frag} {H : Hp} : ∀ a : Option Nat, Dp K H (ovN a) (ovD a)
  | none => .non
  | some n => .int _
theorem dx_ov {K : PySem.W.Frag} {H : Hp} : ∀ a : Option Nat, Dx K H (ovN a) (ovD a)
  | none => .non
  | some n => .int _
theorem sh_ov {a : Option Nat} (h : ∀ n, a = some n → n < 200) {D : Nat} : Sh (ovD a) 9 (D + 1) := by
  cases a with
  | none => exact Sh.non.mono (by decide) (Nat.le_refl _)
  | some n =>
    have := h n rfl
    have e : (2 : Nat) ^ 8 = 256 := by decide
    exact Sh.int (k := 8) (by show ((n : Nat) : Int).natAbs < 2 ^ 8; omega) (by decide) (by decide)
def uvD (a b : Option Nat) : PyData := .tuple [.str "user", ovD a, ovD b]
def tlD (d : PyData) : PyData := .tuple [.str "told", d]
theorem sh_lit {z : Str} {D : Nat} (h : (decide (z.length ≤ 8) && z.cps.toList.all fun c => decide (c < 128)) = true) : Sh (.str z) 82 (D + 1) := by
  rw [Bool.and_eq_true, decide_eq_true_eq] at h
  refine ⟨rfl, rfl, by simp [PyData.depth], ?_⟩
  have h1 := PySem.StrLaws.reprText_len z fun c hc => Nat.lt_of_lt_of_le (of_decide_eq_true (List.all_eq_true.mp h.2 c hc)) (by decide)
  show (reprText z).length ≤ 82
  omega
theorem sh_uv {a b : Option Nat} (ha : ∀ n, a = some n → n < 200) (hb : ∀ n, b = some n → n < 200) {D : Nat} : Sh (uvD a b) 200 (D + 2) :=
  (Sh.tup (D := D + 1) (ShA.cons (sh_lit (by decide +kernel)) (ShA.cons (sh_ov ha) (ShA.cons (sh_ov hb) ShA.nil)))).mono (by decide) (Nat.le_refl _)
theorem sh_3uv {a b : Option Nat} (ha : ∀ n, a = some n → n < 200) (hb : ∀ n, b = some n → n < 200) : Sh (.list [uvD a b, uvD a b, uvD a b]) 700 4 :=
  (Sh.lst (D := 3) (ShA.cons (sh_uv ha hb) (ShA.cons (sh_uv ha hb) (ShA.cons (sh_uv ha hb) ShA.nil)))).mono (by decide) (by decide)
theorem sh_told {k : Kn} {hd : List Str} (hn : ∀ z ∈ hd, isN z = true) (h : goK hd k) : Sh (.list [tlD .none, tlD k.d]) 700 4 := by
  have hk : Sh k.d 82 1 := by
    cases k with
    | h s =>
      have l := isN_txt (hn s h)
      refine sh_lit (D := 0) ?_
      rw [Bool.and_eq_true, decide_eq_true_eq]
      exact ⟨l.1, List.all_eq_true.mpr fun c hc => decide_eq_true (let_range (List.all_eq_true.mp l.2.2.2.2.2 c hc))⟩
    | p n =>
      refine (Sh.int (k := 4) (D := 0) ?_ (by decide) (by decide)).mono (by decide) (Nat.le_refl _)
      obtain ⟨h1, h2⟩ := h
      show n.natAbs < 2 ^ 4
      have e : (2 : Nat) ^ 4 = 16 := by decide
      omega
  refine (Sh.lst (D := 3) (ShA.cons (Sh.tup (D := 2) (ShA.cons (sh_lit (z := "told") (D := 1) (by decide +kernel)) (ShA.cons (Sh.non (D := 1)) ShA.nil))) (ShA.cons (Sh.tup (D := 2) (ShA.cons (sh_lit (z := "told") (D := 1) (by decide +kernel)) (ShA.cons (hk.mono (Nat.le_refl _) (by decide)) ShA.nil))) ShA.nil))).mono (by decide) (by decide)
theorem at_some {α : Type} {l : List α} {i : Nat} (h : i < l.length) : ∃ a, l[i]? = some a := ⟨l[i], List.getElem?_eq_getElem h⟩
/-- the last row's deed is one, however the user is read -/
theorem last_one {f : Fc} (go : goF f) {u u' : List Ur} (gu : GoU f u) (gu' : GoU f u') (e : usD u = usD u') {r r' : Ur} (hr : u[u.length - 1]? = some r) (hr' : u'[u'.length - 1]? = some r') : r.e = r'.e := by
  have e1 : u.map Ur.d = u'.map Ur.d := PyData.tuple.inj e
  have e2 : u.length = u'.length := by
    have := congrArg List.length e1
    rw [List.length_map, List.length_map] at this
    exact this
  have h1 : (u.map Ur.d)[u.length - 1]? = some r.d := by rw [List.getElem?_map, hr]; rfl
  have h2 : (u'.map Ur.d)[u.length - 1]? = some r'.d := by rw [List.getElem?_map, e2, hr']; rfl
  rw [e1, h2] at h1
  have h3 : r'.d = r.d := Option.some.inj h1
  have h4 : r'.e.nm = r.e.nm := by
    unfold Ur.d at h3
    have := PyData.tuple.inj h3
    exact PyData.str.inj (List.cons.inj this).1
  have m1 := fnd_of go (gu.ok _ r hr).1
  have m2 := fnd_of go (gu'.ok _ r' hr').1
  rw [h4, m1] at m2
  exact Option.some.inj m2
theorem dx_dp3 {K : PySem.W.Frag} {H : Hp} {v : V} {a b : Option Nat} (h : Dx K H v (.tuple ([.str "user"] ++ [ovD a, ovD b]))) : Dp K H v (uvD a b) := by
  obtain ⟨p, xs, rfl, hp, hxs⟩ := dx_tup h
  obtain ⟨x1, r1, rfl, h1, hxs⟩ := dxA_cons hxs
  obtain ⟨x2, r2, rfl, h2, hxs⟩ := dxA_cons hxs
  obtain ⟨x3, r3, rfl, h3, hxs⟩ := dxA_cons hxs
  cases dxA_nil hxs
  have ov : ∀ {x : V} {c : Option Nat}, Dx K H x (ovD c) → Dp K H x (ovD c) := fun {x c} h => by
    cases c with
    | none =>
      cases h
      exact .non
    | some n =>
      cases h
      exact .int _
  cases dx_str h1
  exact .tup hp (.cons (.str _) (.cons (ov h2) (.cons (ov h3) .nil)))
section
variable {P : Program} {w : World} {K : PySem.W.Frag} {mg : Str → Option Value} {base : Heap}
def spLOne (K : PySem.W.Frag) : Sp := fun vs H Q _ => ∃ (x y : V) (f : Fc) (d : PyData), vs = [x, y] ∧ Dp K H x f.d ∧ goF f ∧ Dx K H y d ∧ ∀ H', Gr H H' → Q (.bl true) H'
set_option maxHeartbeats 4000000 in
theorem ok_lone {f fL fU fR fN fK fT : Addr} {fd dL dU dR : FuncData} {k : Nat} (F : Fun K "_law_one_right" "_law_one_right" sLOne f fd) (HL : Has P w K mg base k "_law_first_bad" ["_law_face_here", "_law_user_here"] (spLFst K) fL dL)
    (HU : Has P w K mg base k "is_user" ["face", "thing"] (spIsU K) fU dU) (HR : Has P w K mg base k "_law_refused" ["_law_deed", "_law_face_here", "_law_thing"] (spLRef K fN fK fT) fR dR)
    (gN : mg "need_user" = some (.ref fN)) (gK : mg "kind_told" = some (.ref fK)) (gT : mg "user_text" = some (.ref fT)) (nNK : fN ≠ fK) (nNT : fN ≠ fT) (nKT : fK ≠ fT)
    (mi : mg "isinstance" = none) (mt : mg "tuple" = none) (ml : mg "len" = none) (mp : mg "repr" = none) :
    FnG P w K mg base CX0 (k + 1) f fd ["_law_face_here", "_law_thing"] (spLOne K) := by
  refine fng_of F scLOne (fun vs H Q E h => ?_) (fun cdv A outer s H vs Q E hr hgd h => ?_)
  · obtain ⟨x, y, f, d, rfl, _⟩ := h
    rfl
  · obtain ⟨x, y, f, d, rfl, hx, go, hy, q⟩ := h
    have nd := scLOne.nd
    refine' ⟨_, pss_cons ?s1 (pss_cons ?s2 (pss_cons ?s3 (pss_cons ?s4 (pss_cons ?s5 (pss_cons ?s6 (pss_one ?s7)))))), ?rd⟩
    case s1 => exact ps_set (i := 2) nd rfl (.inl rfl) (pe_tup (pa_cons pe_non (pa_cons pe_non pa_nil)))
    case s2 =>
      exact ps_if (PW.pt (pw_and (pt_val (pe_isi "tuple" 1 mi mt (by decide +kernel))) (pw_and1 (pt_chain op_lt op_lt pe_int (pe_callB call_len_seq (by rfl) ml PySem.boot_len (pa_cons (pv 1) pa_nil)) pe_int))))
        (pss_one (ps_set (i := 2) nd rfl (.inl rfl) (hcall HL hr (pa_cons (pv 0) (pa_cons (pv 1) pa_nil))))) pss_nil
    case s3 =>
      exact ps_if (pt_cmpR op_ne (pe_callB (call_reprB hr hgd) (by rfl) mp (by decide +kernel) (pa_cons (hcall HU hr (pa_cons (pv 0) (pa_cons (pv 1) pa_nil))) pa_nil)) (pe_callB (call_reprB hr hgd) (by rfl) mp (by decide +kernel) (pa_cons (pe_cmpR op_isN (pv 2) pe_non (nomark _)) pa_nil)) (nomark _)) pss_never pss_nil
    case s4 =>
      refine' ps_if (pt_cmpR op_notN (pv 2) pe_non (nomark _)) (pss_cons ?b1 (pss_one ?b2)) pss_nil
      case b1 =>
        exact ps_setLc (i := 3) (own := [("_law_deed", 4)]) (g := gName 4) rfl nd rfl rfl (sw_true rfl rfl rfl (by decide +kernel)) (pi_tup (pe_tup (pa_cons (pe_glob (v := .ref fN) rfl gN rfl) (pa_cons (pe_glob (v := .ref fK) rfl gK rfl) (pa_cons (pe_glob (v := .ref fT) rfl gT rfl) pa_nil)))))
          (blkOk_by (own := [("_law_deed", 4)]) (N := nOne) (sc := defScope sLOne) (by decide +kernel)) (fun _ _ _ _ _ => pg_name (i := 4) nd rfl (.inl rfl)) (fun _ _ _ _ _ => pts_nil) (fun _ _ _ _ _ => hcall HR hr (pa_cons (pv 4) (pa_cons (pv 0) (pa_cons (pv 1) pa_nil))))
      case b2 =>
        exact ps_ret (pe_cmpR op_eq (pe_callB (call_reprA hr hgd) (by rfl) mp (by decide +kernel) (pa_cons (pv 3) pa_nil)) (pe_callB (call_reprA hr hgd) (by rfl) mp (by decide +kernel) (pa_cons (pe_op op_rep (pe_lst (pa_cons (pe_op op_cat0 (pe_tup (pa_cons pe_str pa_nil)) (pv 2)) pa_nil)) pe_int) pa_nil)) (nomark _))
    case s5 =>
      exact ps_set (i := 5) nd rfl (.inl rfl) (pe_ix ix_list (pe_lc (own := [("_law_deed", 4)]) (g := gName 4) rfl nd (pi_tup (pe_ix ix_tup (pv 0) pe_int (fun _ _ => rfl))) (blkOk_by (own := [("_law_deed", 4)]) (N := nOne) (sc := defScope sLOne) (by decide +kernel)) (fun _ _ _ _ _ => pg_name (i := 4) nd rfl (.inl rfl))
        (fun _ _ _ _ _ => pts_one (pt_cmpR op_eq (pe_ix (r := rIxT K) ix_tup (pv 4) pe_int (fun _ _ => rfl)) (pe_ix (r := rIxT K) ix_tup (pe_ix (r := rIxT K) ix_tup (pv 1) (pe_un un_neg pe_int) (fun _ _ => rfl)) pe_int (fun _ _ => rfl)) (nomark _))) (fun _ _ _ _ _ => pe_ix (r := rIxT K) ix_tup (pv 4) pe_int (fun _ _ => rfl))) pe_int (fun _ _ => rfl))
    case s6 =>
      exact ps_setLc (i := 3) (own := [("_law_deed", 4)]) (g := gName 4) rfl nd rfl rfl (sw_true rfl rfl rfl (by decide +kernel)) (pi_tup (pe_tup (pa_cons (pe_glob (v := .ref fN) rfl gN rfl) (pa_cons (pe_glob (v := .ref fK) rfl gK rfl) pa_nil))))
        (blkOk_by (own := [("_law_deed", 4)]) (N := nOne) (sc := defScope sLOne) (by decide +kernel)) (fun _ _ _ _ _ => pg_name (i := 4) nd rfl (.inl rfl)) (fun _ _ _ _ _ => pts_nil) (fun _ _ _ _ _ => hcall HR hr (pa_cons (pv 4) (pa_cons (pv 0) (pa_cons (pv 1) pa_nil))))
    case s7 =>
      exact ps_ret (pe_cmpR op_eq (pe_callB (call_reprA hr hgd) (by rfl) mp (by decide +kernel) (pa_cons (pv 3) pa_nil)) (pe_callB (call_reprA hr hgd) (by rfl) mp (by decide +kernel) (pa_cons (pe_lst (pa_cons (pe_tup (pa_cons pe_str (pa_cons pe_non pa_nil))) (pa_cons (pe_tup (pa_cons pe_str (pa_cons (pv 5) pa_nil))) pa_nil))) pa_nil)) (nomark _))
    case rd =>
    refine ⟨by show 2 ≤ sizeLine; decide, fun t0 n0 => ?_⟩
    have k1 : Gr H (upd H t0 (.tup [.non, .non])) := Gr.new n0
    have e1 : upd H t0 (.tup [.non, .non]) t0 = some (.tup [.non, .non]) := upd_same
    generalize upd H t0 (.tup [.non, .non]) = H1 at k1 e1 ⊢
    refine gname_go ?_
    dsimp only
    have hx1 := k1.kd.dp hx
    have hy1 := k1.kx.dx hy
    refine seq_end (fun σ S => ∃ dv, σ = [some x, some y, some dv, none, none, none] ∧ Gr H S ∧ (fltU f d = none ∧ dv = .non ∨ ∃ a b t, fltU f d = some (a, b) ∧ dv = .ref t ∧ S t = some (.tup [ovN a, ovN b]))) ?rest (fun hF => ?_)
    rotate_left
    · have hI := dx_is hy1
      refine seq_go ?_
      refine ⟨_, rfl, _, _, hI.1, kit_tuple _ hI.2, _, rfl, ?_⟩
      have oth : fltU f d = some (none, none) → ∀ S, Gr H S → S t0 = some (.tup [.non, .non]) → ∃ dv, [some x, some y, some (V.ref t0), none, none, none] = [some x, some y, some dv, none, none, none] ∧ Gr H S ∧ (fltU f d = none ∧ dv = .non ∨ ∃ a b t, fltU f d = some (a, b) ∧ dv = .ref t ∧ S t = some (.tup [ovN a, ovN b])) := fun hf S g et => ⟨_, rfl, g, .inr ⟨none, none, t0, hf, rfl, et⟩⟩
      rcases tup_orT d with ⟨h1, _⟩ | ⟨ds, rfl⟩
      · rw [h1]
        have hf : fltU f d = some (none, none) := by
          cases d with
          | tuple _ => exact absurd h1 (by show ¬ ("tuple" == "tuple") = false; decide)
          | _ => rfl
        exact iteF (iteF (hF _ _ (oth hf H1 k1 e1)))
      rw [show (tyD (.tuple ds) == "tuple") = true from by show ("tuple" == "tuple") = true; decide]
      obtain ⟨p, xs, rfl, hp, hxs⟩ := dx_tup hy1
      have lx := dxA_len hxs
      refine iteT ⟨_, rfl, p, xs, rfl, .inr hp, 0, _, rfl, rfl, _, rfl, ?_⟩
      by_cases c0 : (0 : Int) < ((xs.length : Nat) : Int)
      case neg =>
        rw [decide_eq_false c0]
        have hf : fltU f (.tuple ds) = some (none, none) := by
          show (if _ then _ else _) = _
          rw [if_neg (by omega)]
        exact iteF ⟨_, rfl, iteF (hF _ _ (oth hf H1 k1 e1))⟩
      rw [decide_eq_true c0]
      refine iteT ⟨_, 201, rfl, rfl, _, rfl, ?_⟩
      by_cases c1 : ((xs.length : Nat) : Int) < 201
      case neg =>
        rw [decide_eq_false c1]
        have hf : fltU f (.tuple ds) = some (none, none) := by
          show (if _ then _ else _) = _
          rw [if_neg (by omega)]
        exact iteF (hF _ _ (oth hf H1 k1 e1))
      rw [decide_eq_true c1]
      have hf : fltU f (.tuple ds) = (rowsF' f ds 0 []).map (fun p => (some p.1, p.2)) := by
        show (if _ then _ else _) = _
        rw [if_pos (by omega)]
      refine iteT ⟨_, rfl, _, rfl, x, _, f, ds, rfl, hx1, go, hy1, by omega, fun hn H2 g2 => ?_, fun i b hn H2 t g2 ht => ?_⟩
      · exact hF _ _ ⟨_, rfl, k1.trans g2, .inl ⟨by rw [hf, hn]; rfl, rfl⟩⟩
      · exact hF _ _ ⟨_, rfl, k1.trans g2, .inr ⟨some i, b, t, by rw [hf, hn]; rfl, rfl, ht⟩⟩
    · rintro σ S ⟨dv, rfl, g, hd⟩
      have hxS := g.kd.dp hx
      have hyS := g.kx.dx hy
      refine ⟨_, rfl, _, rfl, x, y, f, d, rfl, hxS, go, hyS, fun H1 g1 => ?_⟩
      refine .inl ⟨_, rfl, ?_⟩
      rcases hd with ⟨hf, rfl⟩ | ⟨a, b, t, hf, rfl, ht⟩
      · -- a user
        refine ⟨_, rfl, rfl, .inl ⟨_, rfl, rfl, _, rfl, ?_⟩⟩
        rw [hf]
        refine iteF ⟨_, rfl, rfl, _, rfl, iteF ?_⟩
        obtain ⟨u, rfl, gu⟩ := flt_user hf
        have G1 := g.trans g1
        have lo := gu.lo
        obtain ⟨r0, hr0⟩ := at_some (l := u) (i := u.length - 1) (by omega)
        obtain ⟨hm0, _⟩ := gu.ok _ r0 hr0
        have dy := dx_dpUs (G1.kx.dx hy)
        obtain ⟨p, xs, rfl, hp, hxs⟩ := dp_tup dy
        have lx : xs.length = u.length := by
          have := dpA_len hxs
          rw [List.length_map] at this
          exact this
        obtain ⟨v, hv, dv⟩ := dpA_map hxs hr0
        obtain ⟨pr, qr, rfl, hpr, hqr⟩ := dp_ur dv
        have hlast : atI xs (-1) = some (.ref pr) := atI_lastW (by rw [lx]; exact hv)
        obtain ⟨pf, ph, pd, fxs, rfl, hpf, hph, hpd, dd⟩ := dp_face (G1.kd.dp hx)
        have lfx : fxs.length = f.ds.length := by
          have := dpA_len dd
          rw [List.length_map] at this
          exact this
        have hi8 := go.hi
        refine ⟨_, rfl, pf, _, 1, .ref pd, rfl, rfl, hpf, rfl, pd, rfl, ⟨_, hpd⟩, fun D nD => ?_⟩
        refine lc_it (walk_tup (xs := fxs)) (fun i S2 => S2 D = some (.lst (((f.ds.take i).filter (named r0.e.nm)).map fun e => e.gv.v)) ∧ Gr H1 S2) ⟨upd_same, Gr.new nD⟩ ?d0 ?d1 ?d2
        case d0 =>
          rintro i S2 hi ⟨_, g2⟩
          exact g2.sqt hpd
        case d1 =>
          rintro i z S2' S2 hi ⟨e2, g2⟩ ⟨rfl, hz⟩
          obtain ⟨e, he, de⟩ := dpA_de (g2.kd.dpA dd) hz
          obtain ⟨pe, nn, tt', vv, rfl, hpe, dn, dt, dg⟩ := dp_3 de
          cases dp_str dn
          cases dp_kn dg
          refine ⟨rfl, ⟨_, rfl, pe, _, 0, .str e.nm, rfl, rfl, hpe, rfl, _, rfl, 1, rfl, p, xs, -1, .ref pr, rfl, rfl, g2.sqt hp, hlast, pr, _, 0, .str r0.e.nm, rfl, rfl, g2.sqt hpr, rfl, rfl, _, rfl, ?_⟩⟩
          have en : decide (V.str e.nm = V.str r0.e.nm) = named r0.e.nm e := by
            unfold named
            by_cases c : e.nm = r0.e.nm
            · rw [c, decide_eq_true rfl, decide_eq_true rfl]
            · rw [decide_eq_false c, decide_eq_false (fun z => c (V.str.inj z))]
          rw [en]
          cases hk : named r0.e.nm e with
          | false =>
            refine iteF ⟨?_, g2⟩
            rw [take_filt (named r0.e.nm) he, hk]
            simpa using e2
          | true =>
            refine iteT ⟨_, rfl, pe, _, 2, e.gv.v, rfl, rfl, hpe, rfl, _, e2, ?_, ?_, g2.upd_new nD⟩
            · rw [List.length_map]
              refine small1000 ?_
              have a1 := List.length_filter_le (named r0.e.nm) (f.ds.take i)
              rw [List.length_take] at a1
              omega
            · rw [upd_same, take_filt (named r0.e.nm) he, hk, List.map_append]
              rfl
        case d2 =>
        rintro S2 ⟨e2, g2⟩
        rw [lfx, List.take_length] at e2
        obtain ⟨rr, hrr⟩ := named_hd go hm0
        rw [hrr] at e2
        refine ⟨D, _, 0, _, rfl, rfl, .inl (.inl e2), at_hd, ?_⟩
        -- what the two tell
        have G2' := G1.trans g2
        clear e2 hrr nD
        refine ⟨by show 2 ≤ sizeLine; decide, fun tn ntn => ?_⟩
        have k3 : Gr S2 (upd S2 tn (.tup [.ref fN, .ref fK])) := Gr.new ntn
        have e3 : upd S2 tn (.tup [.ref fN, .ref fK]) tn = some (.tup [.ref fN, .ref fK]) := upd_same
        have G3 := G2'.trans k3
        generalize upd S2 tn (.tup [.ref fN, .ref fK]) = S3 at k3 e3 G3 ⊢
        refine ⟨tn, rfl, ⟨_, .inl (.inl e3)⟩, fun D2 nD2 => ?_⟩
        refine lc_it (walk_tup (xs := [V.ref fN, .ref fK])) (fun i S4 => ∃ ts : List Addr, S4 D2 = some (.lst (ts.map V.ref)) ∧ ts.length = i ∧ (∀ (j : Nat) (t : Addr), ts[j]? = some t → S4 t = some (.tup [.str "told", [V.non, r0.e.gv.v].getD j .non])) ∧ Gr S3 S4) ⟨[], upd_same, rfl, fun j t h => by simp at h, Gr.new nD2⟩ ?f0 ?f1 ?f2
        case f0 =>
          rintro i S4 hi ⟨_, _, _, _, g4⟩
          exact g4.sqt (.inl (.inl e3))
        case f1 =>
          rintro i z S4' S4 hi ⟨ts, e4, lt4, h4, g4⟩ ⟨rfl, hz⟩
          have G4 := G3.trans g4
          have fin : ∀ (v : V) (S5 : Hp) (t : Addr), v = [V.non, r0.e.gv.v].getD i .non → Gr S4 S5 → S5 t = some (.tup [.str "told", v]) → ∃ acc, S5 D2 = some (.lst acc) ∧ acc.length < sizeLine ∧ ∃ ts : List Addr, upd S5 D2 (.lst (acc ++ [V.ref t])) D2 = some (.lst (ts.map V.ref)) ∧ ts.length = i + 1 ∧ (∀ (j : Nat) (t' : Addr), ts[j]? = some t' → upd S5 D2 (.lst (acc ++ [V.ref t])) t' = some (.tup [.str "told", [V.non, r0.e.gv.v].getD j .non])) ∧ Gr S3 (upd S5 D2 (.lst (acc ++ [V.ref t]))) := by
            rintro v S5 t rfl g5 ht
            have e5 := g5.lst e4
            refine ⟨_, e5, ?_, ts ++ [t], ?_, ?_, ?_, (g4.trans g5).upd_new nD2⟩
            · rw [List.length_map]
              have : i < 2 := hi
              exact small1000 (by omega)
            · rw [upd_same, List.map_append]
              rfl
            · rw [List.length_append, lt4]
              rfl
            · intro j t' hj
              have ne : ∀ {w}, S5 t' = some (.tup w) → t' ≠ D2 := fun h z => by
                rw [z, e5] at h
                cases h
              by_cases hjl : j < ts.length
              · rw [List.getElem?_append_left hjl] at hj
                have h5 := g5.tup (h4 j t' hj)
                rw [upd_ne (ne h5)]
                exact h5
              · have := lt_of_at hj
                rw [List.length_append] at this
                have one : [t].length = 1 := rfl
                have je : j = ts.length := by omega
                subst je
                rw [List.getElem?_append_right (Nat.le_refl _), Nat.sub_self] at hj
                cases hj
                rw [upd_ne (ne ht), lt4]
                exact ht
          refine ⟨rfl, tYes_i (iteT ?_)⟩
          have flN : ∀ a b, fltU f (usD u) = some (a, b) → False := fun a b h => by rw [hf] at h; cases h
          match i, hi, hz with
          | 0, _, hz =>
            cases hz
            refine ⟨_, rfl, _, rfl, _, rfl, fN, _, _, f, usD u, rfl, .inl rfl, G4.kd.dp hx, go, G4.kx.dx hy, fun v S5 t hres g5 ht => ?_, fun a b h => (flN a b h).elim⟩
            refine fin v S5 t ?_ g5 ht
            rcases hres with ⟨_, _, rfl⟩ | ⟨z, _⟩ | ⟨z, _⟩
            · rfl
            · exact (nNK z).elim
            · exact (nNT z).elim
          | 1, _, hz =>
            cases hz
            refine ⟨_, rfl, _, rfl, _, rfl, fK, _, _, f, usD u, rfl, .inr (.inl rfl), G4.kd.dp hx, go, G4.kx.dx hy, fun v S5 t hres g5 ht => ?_, fun a b h => (flN a b h).elim⟩
            refine fin v S5 t ?_ g5 ht
            rcases hres with ⟨z, _⟩ | ⟨_, u', r', eu, gu', hr', rfl⟩ | ⟨z, _⟩
            · exact (nNK z.symm).elim
            · rw [last_one go gu gu' eu hr0 hr']
              rfl
            · exact (nKT z).elim
        case f2 =>
        rintro S4 ⟨ts, e4, lt4, h4, g4⟩
        replace lt4 : ts.length = 2 := lt4
        obtain ⟨t1, t2, rfl⟩ : ∃ t1 t2, ts = [t1, t2] := by
          match ts, lt4 with
          | [a, b], _ => exact ⟨a, b, rfl⟩
        have sN := sh_told go.hid.nm (go.ok r0.e hm0).gv
        have dK : Dp K S4 r0.e.gv.v r0.e.gv.d := by
          cases r0.e.gv with
          | h z => exact .str z
          | p n => exact .int n
        have dF : Dp K S4 (.ref D2) (.list [tlD .none, tlD r0.e.gv.d]) := .lst (.inl (.inl e4)) (.cons (.tup (.inl (.inl (h4 0 t1 rfl))) (.cons (.str _) (.cons .non .nil))) (.cons (.tup (.inl (.inl (h4 1 t2 rfl))) (.cons (.str _) (.cons dK .nil))) .nil))
        refine ⟨_, rfl, .ref D2, _, _, rfl, dF, .inr (.inr ⟨_, rfl⟩), sN.able, sN.nod, Nat.le_trans sN.dep (by decide), rfl, sN.fits (by decide), ?_⟩
        refine ⟨by show 2 ≤ sizeLine; decide, fun q1 nq1 => ?_⟩
        have k5 : Gr S4 (upd S4 q1 (.tup [.str "told", .non])) := Gr.new nq1
        have e5 : upd S4 q1 (.tup [.str "told", .non]) q1 = some (.tup [.str "told", .non]) := upd_same
        generalize upd S4 q1 (.tup [.str "told", .non]) = S5 at k5 e5 ⊢
        refine ⟨_, rfl, by show 2 ≤ sizeLine; decide, fun q2 nq2 => ?_⟩
        have k6 : Gr S5 (upd S5 q2 (.tup [.str "told", r0.e.gv.v])) := Gr.new nq2
        have e6 : upd S5 q2 (.tup [.str "told", r0.e.gv.v]) q2 = some (.tup [.str "told", r0.e.gv.v]) := upd_same
        have e56 := k6.tup e5
        generalize upd S5 q2 (.tup [.str "told", r0.e.gv.v]) = S6 at k6 e6 e56 ⊢
        refine ⟨by show 2 ≤ sizeLine; decide, fun q3 nq3 => ?_⟩
        have k7 : Gr S6 (upd S6 q3 (.lst [.ref q1, .ref q2])) := Gr.new nq3
        have dQ : Dp K (upd S6 q3 (.lst [.ref q1, .ref q2])) (.ref q3) (.list [tlD .none, tlD r0.e.gv.d]) := .lst (.inl (.inl upd_same)) (.cons (.tup (.inl (.inl (k7.tup e56))) (.cons (.str _) (.cons .non .nil))) (.cons (.tup (.inl (.inl (k7.tup e6))) (.cons (.str _) (.cons ((k5.trans (k6.trans k7)).kd.dp dK) .nil))) .nil))
        refine ⟨.ref q3, _, _, rfl, dQ, .inr (.inr ⟨_, rfl⟩), sN.able, sN.nod, Nat.le_trans sN.dep (by decide), rfl, sN.fits (by decide), rfl, ?_⟩
        rw [decide_eq_true rfl]
        exact q _ (G3.trans (g4.trans (k5.trans (k6.trans k7))))
      · -- refused
        refine ⟨_, rfl, rfl, .inl ⟨_, rfl, rfl, _, rfl, ?_⟩⟩
        rw [hf]
        refine iteF ⟨_, rfl, rfl, _, rfl, iteT ?_⟩
        obtain ⟨ba, bb⟩ := flt_lt go hf
        have G1 := g.trans g1
        have ht1 := g1.tup ht
        refine ⟨by show 3 ≤ sizeLine; decide, fun tn ntn => ?_⟩
        have k3 : Gr H1 (upd H1 tn (.tup [.ref fN, .ref fK, .ref fT])) := Gr.new ntn
        have e3 : upd H1 tn (.tup [.ref fN, .ref fK, .ref fT]) tn = some (.tup [.ref fN, .ref fK, .ref fT]) := upd_same
        have G3 := G1.trans k3
        have ht3 := k3.tup ht1
        generalize upd H1 tn (.tup [.ref fN, .ref fK, .ref fT]) = S3 at k3 e3 G3 ht3 ⊢
        refine ⟨tn, rfl, ⟨_, .inl (.inl e3)⟩, fun D2 nD2 => ?_⟩
        refine lc_it (walk_tup (xs := [V.ref fN, .ref fK, .ref fT])) (fun i S4 => ∃ ts : List Addr, S4 D2 = some (.lst (ts.map V.ref)) ∧ ts.length = i ∧ (∀ (j : Nat) (t : Addr), ts[j]? = some t → S4 t = some (.tup [.str "user", ovN a, ovN b])) ∧ Gr S3 S4) ⟨[], upd_same, rfl, fun j t h => (by rw [List.getElem?_nil] at h; cases h), Gr.new nD2⟩ ?f0 ?f1 ?f2
        case f0 =>
          rintro i S4 hi ⟨_, _, _, _, g4⟩
          exact g4.sqt (.inl (.inl e3))
        case f1 =>
          rintro i z S4' S4 hi ⟨ts, e4, lt4, h4, g4⟩ ⟨rfl, hz⟩
          have G4 := G3.trans g4
          have hi3 : i < 3 := hi
          have fin : ∀ (S5 : Hp) (t : Addr), Gr S4 S5 → S5 t = some (.tup [.str "user", ovN a, ovN b]) → ∃ acc, S5 D2 = some (.lst acc) ∧ acc.length < sizeLine ∧ ∃ ts : List Addr, upd S5 D2 (.lst (acc ++ [V.ref t])) D2 = some (.lst (ts.map V.ref)) ∧ ts.length = i + 1 ∧ (∀ (j : Nat) (t' : Addr), ts[j]? = some t' → upd S5 D2 (.lst (acc ++ [V.ref t])) t' = some (.tup [.str "user", ovN a, ovN b])) ∧ Gr S3 (upd S5 D2 (.lst (acc ++ [V.ref t]))) := by
            rintro S5 t g5 ht
            have e5 := g5.lst e4
            refine ⟨_, e5, ?_, ts ++ [t], ?_, ?_, ?_, (g4.trans g5).upd_new nD2⟩
            · rw [List.length_map]
              exact small1000 (by omega)
            · rw [upd_same, List.map_append]
              rfl
            · rw [List.length_append, lt4]
              rfl
            · intro j t' hj
              have ne : ∀ {w}, S5 t' = some (.tup w) → t' ≠ D2 := fun h z => by
                rw [z, e5] at h
                cases h
              have h5 : S5 t' = some (.tup [.str "user", ovN a, ovN b]) := by
                rcases List.mem_append.mp (List.mem_of_getElem? hj) with hm | hm
                · obtain ⟨j', hj'⟩ := List.mem_iff_getElem?.mp hm
                  exact g5.tup (h4 j' t' hj')
                · rw [List.mem_singleton.mp hm]
                  exact ht
              rw [upd_ne (ne h5)]
              exact h5
          refine ⟨rfl, tYes_i (iteT ?_)⟩
          have noU : ∀ u, d = usD u → GoU f u → False := fun u e gu => by
            rw [e, user_flt go gu] at hf
            cases hf
          have hz3 : ∃ fD, z = .ref fD ∧ (fD = fN ∨ fD = fK ∨ fD = fT) := by
            have hm := List.mem_of_getElem? hz
            simp only [List.mem_cons, List.not_mem_nil, or_false] at hm
            rcases hm with rfl | rfl | rfl
            · exact ⟨_, rfl, .inl rfl⟩
            · exact ⟨_, rfl, .inr (.inl rfl)⟩
            · exact ⟨_, rfl, .inr (.inr rfl)⟩
          obtain ⟨fD, rfl, h3⟩ := hz3
          refine ⟨_, rfl, _, rfl, _, rfl, fD, x, y, f, d, rfl, h3, G4.kd.dp hx, go, G4.kx.dx hy, fun v S5 t hres g5 ht => ?_, fun a' b' h S5 t g5 ht => ?_⟩
          · exfalso
            rcases hres with ⟨_, z, _⟩ | ⟨_, u, r', eu, gu, _⟩ | ⟨_, u, eu, gu, _⟩
            · rw [z] at hf
              cases hf
            · exact noU u eu gu
            · exact noU u eu gu
          · rw [hf] at h
            cases h
            exact fin S5 t g5 ht
        case f2 =>
        rintro S4 ⟨ts, e4, lt4, h4, g4⟩
        replace lt4 : ts.length = 3 := lt4
        obtain ⟨t1, t2, t3, rfl⟩ : ∃ t1 t2 t3, ts = [t1, t2, t3] := by
          match ts, lt4 with
          | [a, b, c], _ => exact ⟨a, b, c, rfl⟩
        have sN := sh_3uv ba bb
        have du : ∀ {S : Hp} {t : Addr}, S t = some (.tup [.str "user", ovN a, ovN b]) → Dp K S (.ref t) (uvD a b) := fun h => .tup (.inl (.inl h)) (.cons (.str _) (.cons (dp_ov a) (.cons (dp_ov b) .nil)))
        have dF : Dp K S4 (.ref D2) (.list [uvD a b, uvD a b, uvD a b]) := .lst (.inl (.inl e4)) (.cons (du (h4 0 t1 rfl)) (.cons (du (h4 1 t2 rfl)) (.cons (du (h4 2 t3 rfl)) .nil)))
        refine ⟨_, rfl, .ref D2, _, _, rfl, dF, .inr (.inr ⟨_, rfl⟩), sN.able, sN.nod, Nat.le_trans sN.dep (by decide), rfl, sN.fits (by decide), ?_⟩
        refine ⟨by show 1 ≤ sizeLine; decide, fun q1 nq1 => ?_⟩
        have k5 : Gr S4 (upd S4 q1 (.tup [.str "user"])) := Gr.new nq1
        have e5 : upd S4 q1 (.tup [.str "user"]) q1 = some (.tup [.str "user"]) := upd_same
        generalize upd S4 q1 (.tup [.str "user"]) = S5 at k5 e5 ⊢
        have ht5 := k5.tup (g4.tup ht3)
        refine ⟨_, rfl, [.str "user"], [ovD a, ovD b], .tup (.inl (.inl e5)) (.cons (.str _) .nil), .tup (.inl (.inl ht5)) (.cons (dx_ov a) (.cons (dx_ov b) .nil)), by show 1 + 2 ≤ sizeLine; decide, fun v S6 g6 dv => ?_⟩
        have dvp : Dp K S6 v (uvD a b) := dx_dp3 dv
        refine ⟨by show 1 ≤ sizeLine; decide, fun q2 nq2 => ?_⟩
        have k7 : Gr S6 (upd S6 q2 (.lst [v])) := Gr.new nq2
        have e7 : upd S6 q2 (.lst [v]) q2 = some (.lst [v]) := upd_same
        generalize upd S6 q2 (.lst [v]) = S7 at k7 e7 ⊢
        refine ⟨q2, 3, _, rfl, rfl, e7, by decide, by decide, by show 1 * 3 ≤ sizeLine; decide, fun q3 nq3 => ?_⟩
        have k8 : Gr S7 (upd S7 q3 (.lst (List.replicate (3 : Int).toNat [v]).flatten)) := Gr.new nq3
        have d8 := (k7.trans k8).kd.dp dvp
        have dQ : Dp K (upd S7 q3 (.lst (List.replicate (3 : Int).toNat [v]).flatten)) (.ref q3) (.list [uvD a b, uvD a b, uvD a b]) := .lst (.inl (.inl upd_same)) (.cons d8 (.cons d8 (.cons d8 .nil)))
        refine ⟨.ref q3, _, _, rfl, dQ, .inr (.inr ⟨_, rfl⟩), sN.able, sN.nod, Nat.le_trans sN.dep (by decide), rfl, sN.fits (by decide), rfl, ?_⟩
        rw [decide_eq_true rfl]
        exact q _ (G3.trans (g4.trans (k5.trans (g6.trans (k7.trans k8)))))
end
end SfC
namespace SfC
open PySem PySem.Spec PyProof.Rows L2 SfG
/-! ### how long faces and users are shown -/
theorem isN_low {z : Str} (h : isN z = true) : ∀ c ∈ z.cps.toList, c < 128 := fun c hc => let_range (List.all_eq_true.mp (isN_txt h).2.2.2.2.2 c hc)
theorem sh_name {z : Str} {D : Nat} (h : isN z = true) : Sh (.str z) 82 (D + 1) := by
  refine ⟨rfl, rfl, by simp [PyData.depth], ?_⟩
  have h1 := PySem.StrLaws.reprText_len z fun c hc => Nat.lt_of_lt_of_le (isN_low h c hc) (by decide)
  have h2 := (isN_txt h).1
  show (reprText z).length ≤ 82
  omega
theorem shA_names {D : Nat} : ∀ {l : List Str}, (∀ z ∈ l, isN z = true) → ShA (l.map PyData.str) (l.length * 84) (D + 1)
  | [], _ => ShA.nil.mono (by omega) (Nat.le_refl _)
  | a :: r, h => by
    refine (ShA.cons (sh_name (h a List.mem_cons_self)) (shA_names (D := D) fun z hz => h z (List.mem_cons_of_mem _ hz))).mono ?_ (Nat.le_refl _)
    rw [List.length_cons, Nat.succ_mul]
    omega
theorem sh_kn {hd : List Str} {k : Kn} {D : Nat} (hn : ∀ z ∈ hd, isN z = true) (h : goK hd k) : Sh k.d 82 (D + 1) := by
  cases k with
  | h s => exact sh_name (hn s h)
  | p n =>
    refine (Sh.int (k := 4) ?_ (by decide) (by decide)).mono (by decide) (Nat.le_refl _)
    obtain ⟨h1, h2⟩ := h
    show n.natAbs < 2 ^ 4
    have e : (2 : Nat) ^ 4 = 16 := by decide
    omega
theorem shA_kns {hd : List Str} {D : Nat} (hn : ∀ z ∈ hd, isN z = true) : ∀ {l : List Kn}, (∀ k ∈ l, goK hd k) → ShA (l.map Kn.d) (l.length * 84) (D + 1)
  | [], _ => ShA.nil.mono (by omega) (Nat.le_refl _)
  | a :: r, h => by
    refine (ShA.cons (sh_kn hn (h a List.mem_cons_self)) (shA_kns (D := D) hn fun z hz => h z (List.mem_cons_of_mem _ hz))).mono ?_ (Nat.le_refl _)
    rw [List.length_cons, Nat.succ_mul]
    omega
theorem sh_de {hd : List Str} {e : De} (hn : ∀ z ∈ hd, isN z = true) (gd : goD hd e) : Sh e.d 430 3 := by
  have h1 := Sh.tup (shA_kns (D := 0) hn gd.tk)
  refine (Sh.tup (ShA.cons (sh_name (D := 1) gd.nm) (ShA.cons h1 (ShA.cons (sh_kn (D := 1) hn gd.gv) ShA.nil)))).mono ?_ (by decide)
  have a1 := gd.len
  omega
theorem shA_de {hd : List Str} (hn : ∀ z ∈ hd, isN z = true) : ∀ {l : List De}, (∀ e ∈ l, goD hd e) → ShA (l.map De.d) (l.length * 432) 3
  | [], _ => ShA.nil.mono (by omega) (Nat.le_refl _)
  | a :: r, h => by
    refine (ShA.cons (sh_de hn (h a List.mem_cons_self)) (shA_de hn fun z hz => h z (List.mem_cons_of_mem _ hz))).mono ?_ (Nat.le_refl _)
    rw [List.length_cons, Nat.succ_mul]
    omega
theorem sh_face {f : Fc} (go : goF f) : Sh f.d 10000 5 := by
  have h1 := Sh.tup (shA_names (D := 2) go.hid.nm)
  have h2 := Sh.tup (shA_de go.hid.nm go.ok)
  refine (Sh.tup (ShA.cons h1 (ShA.cons h2 ShA.nil))).mono ?_ (by decide)
  have a1 := go.hid.hi
  have a2 := go.hi
  omega
theorem shA_ns {D : Nat} : ∀ {l : List Nat}, (∀ x ∈ l, x < 200) → ShA (hsD l) (l.length * 11) (D + 1)
  | [], _ => ShA.nil.mono (by omega) (Nat.le_refl _)
  | a :: r, h => by
    have ha : Sh (.int ((a : Nat) : Int)) 9 (D + 1) := Sh.int (k := 8) (by
      have := h a List.mem_cons_self
      have e : (2 : Nat) ^ 8 = 256 := by decide
      omega) (by decide) (by decide)
    refine (ShA.cons ha (shA_ns (D := D) fun x hx => h x (List.mem_cons_of_mem _ hx))).mono ?_ (Nat.le_refl _)
    rw [List.length_cons, Nat.succ_mul]
    omega
theorem sh_ur {r : Ur} (g : RowG r) : Sh r.d 130 3 := by
  have h1 := Sh.tup (shA_ns (D := 0) g.num)
  refine (Sh.tup (ShA.cons (sh_name (D := 1) g.nm) (ShA.cons h1 ShA.nil))).mono ?_ (by decide)
  have := g.len
  omega
theorem shA_us : ∀ {u : List Ur}, (∀ r ∈ u, RowG r) → ShA (u.map Ur.d) (u.length * 132) 3
  | [], _ => ShA.nil.mono (by omega) (Nat.le_refl _)
  | a :: r, h => by
    refine (ShA.cons (sh_ur (h a List.mem_cons_self)) (shA_us fun z hz => h z (List.mem_cons_of_mem _ hz))).mono ?_ (Nat.le_refl _)
    rw [List.length_cons, Nat.succ_mul]
    omega
theorem GoU.rows {f : Fc} {u : List Ur} (go : goF f) (gu : GoU f u) : ∀ r ∈ u, RowG r := fun r hr => by
  obtain ⟨i, hi⟩ := List.mem_iff_getElem?.mp hr
  exact gu.row go hi
theorem sh_us {f : Fc} {u : List Ur} (go : goF f) (gu : GoU f u) : Sh (usD u) 30000 4 := by
  refine (Sh.tup (shA_us (gu.rows go))).mono ?_ (Nat.le_refl _)
  have := gu.hi
  omega
theorem sh_kept {f : Fc} {u : List Ur} (go : goF f) (gu : GoU f u) : Sh (.tuple [f.d, usD u]) 50000 10 :=
  (Sh.tup (D := 9) (ShA.cons ((sh_face go).mono (Nat.le_refl _) (by decide)) (ShA.cons ((sh_us go gu).mono (Nat.le_refl _) (by decide)) ShA.nil))).mono (by decide) (by decide)
end SfC
namespace SfC
open PySem PySem.Spec PyProof.Rows L2 SfG
/-! ### the law of k18 -/
abbrev nLaw : List Str := ["_law_script", "_law_m", "_law_k", "_law_face_here", "_law_user_here", "_law_kept", "_law_once", "_law_twice", "_law_at", "_law_none", "_law_thing", "_law_start", "_law_deed", "_law_kind", "_law_rows", "_law_some"]
theorem scLaw : FnScope nLaw ["_law_script"] (defScope sLaw) := ⟨rfl, rfl, rfl, by decide +kernel, rfl, by decide +kernel, by decide +kernel⟩
def scDeedL : Scope := { kind := .function, names := [(".0", .local), ("_law_deed", .local), ("_law_face_here", .cell)], isGenerator := false, isCoroutine := false }
def scKindL : Scope := { kind := .function, names := [(".0", .local), ("_law_kind", .local), ("_law_face_here", .free)], isGenerator := false, isCoroutine := false }
def plainB (e : De) : Bool := (e.tk.filter Kn.isH).isEmpty
theorem plain_b {e : De} (h : Plain e) : plainB e = true := by
  unfold plainB
  rw [List.filter_eq_nil_iff.mpr fun k hk => by rw [h k hk]; decide]
  rfl
section
variable {P : Program} {w : World} {K : PySem.W.Frag} {mg : Str → Option Value} {base : Heap}
def spLaw (K : PySem.W.Frag) : Sp := fun vs H Q _ => ∃ (a : Addr) (ns : List Int), vs = [.ref a] ∧ SqL K H a (ns.map V.int) ∧ ns.length ≤ 63 ∧ ∀ H', Q (.bl true) H'
structure Calls (P : Program) (w : World) (K : PySem.W.Frag) (mg : Str → Option Value) (base : Heap) (k : Nat) (fS fD fF fU fO fP fE fR : Addr) (dS dD dF dU dO dP dE dR : FuncData) : Prop where
  ST : Has P w K mg base k "_law_started" ["_law_script"] (spStarted K) fS dS
  DR : Has P w K mg base k "_law_draw" ["_law_m", "_law_many"] (spDrw K) fD dD
  FC : Has P w K mg base k "_law_face" ["_law_m", "_law_most"] (spLFace K) fF dF
  US : Has P w K mg base k "_law_user" ["_law_m", "_law_face_here", "_law_many"] (spLUser K) fU dU
  OF : Has P w K mg base k "_law_of" ["_law_m", "_law_some"] (spOf K) fO dO
  SP : Has P w K mg base k "_law_spoilt" ["_law_m", "_law_face_here", "_law_user_here"] (spSpoilt K) fP dP
  DP : Has P w K mg base k "_law_deep" ["_law_many"] (spDeep K) fE dE
  RG : FnG P w K mg base CX0 k fR dR ["_law_face_here", "_law_thing"] (spLOne K)
  gR : mg "_law_one_right" = some (.ref fR)
  kR : PySem.W.keepIn K (.ref fR) = true
  bR : Binds K dR ["_law_face_here", "_law_thing"] []
  ml : mg "len" = none
  mr : mg "range" = none
  mx : mg "max" = none
  mn : mg "min" = none
  mt : mg "list" = none
  mp : mg "repr" = none
set_option maxHeartbeats 8000000 in
theorem ok_law {f fS fD fF fU fO fP fE fR : Addr} {fd dS dD dF dU dO dP dE dR : FuncData} {k : Nat} (F : Fun K "law" "law" sLaw f fd) (C : Calls P w K mg base k fS fD fF fU fO fP fE fR dS dD dF dU dO dP dE dR) : FnG P w K mg base CX0 (k + 1) f fd ["_law_script"] (spLaw K) := by
  refine fng_of F scLaw (fun vs H Q E h => ?_) (fun cdv A outer s H vs Q E hr hgd h => ?_)
  · obtain ⟨a, ns, rfl, _⟩ := h
    rfl
  · obtain ⟨a, ns, rfl, hS, hlen, q⟩ := h
    have nd := scLaw.nd
    refine' ⟨_, pss_cons ?s1 (pss_cons ?s2 (pss_cons ?s3 (pss_cons ?s4 (pss_cons ?s5 (pss_one ?s6))))), ?rd⟩
    case s1 => exact ps_set (i := 1) nd rfl (.inl rfl) (hcall C.ST hr (pa_cons (pv 0) pa_nil))
    case s2 =>
      refine' ps_for PassesOwn.never rfl (pi_range1 rfl C.mr (pa_cons (pe_callB (call_max2 rfl) (by rfl) C.mx (by decide +kernel) (pa_cons pe_int (pa_cons (pe_callB (call_min2 rfl) (by rfl) C.mn (by decide +kernel) (pa_cons pe_int (pa_cons (pe_callB call_len_seq (by rfl) C.ml PySem.boot_len (pa_cons (pv 0) pa_nil)) pa_nil))) pa_nil))) pa_nil))
        (pg_name (i := 2) nd rfl (.inl rfl)) (pss_cons ?b1 (pss_cons ?b2 (pss_cons ?b3 (pss_cons ?b4 (pss_cons ?b5 (pss_cons ?b6 (pss_cons ?b7 (pss_cons ?b8 (pss_one ?b9)))))))))
      case b1 => exact ps_set (i := 3) nd rfl (.inr rfl) (hcall C.FC hr (pa_cons (pv 1) (pa_cons pe_int pa_nil)))
      case b2 => exact ps_set (i := 4) nd rfl (.inl rfl) (hcall C.US hr (pa_cons (pv 1) (pa_cons (pv 3) (pa_cons (hcall C.OF hr (pa_cons (pv 1) (pa_cons (pe_lst (pa_cons pe_int (pa_cons pe_int (pa_cons pe_int (pa_cons pe_int (pa_cons pe_int (pa_cons pe_int pa_nil))))))) pa_nil))) pa_nil))))
      case b3 => exact ps_set (i := 5) nd rfl (.inl rfl) (pe_callB (call_repr hr hgd) (by rfl) C.mp (by decide +kernel) (pa_cons (pe_tup (pa_cons (pv 3) (pa_cons (pv 4) pa_nil))) pa_nil))
      case b4 => exact ps_set (i := 6) nd rfl (.inl rfl) (hcall C.SP hr (pa_cons (pv 1) (pa_cons (pv 3) (pa_cons (pv 4) pa_nil))))
      case b5 => exact ps_set (i := 7) nd rfl (.inl rfl) (hcall C.SP hr (pa_cons (pv 1) (pa_cons (pv 3) (pa_cons (pv 4) pa_nil))))
      case b6 => exact ps_set (i := 8) nd rfl (.inl rfl) (hcall C.DR hr (pa_cons (pv 1) (pa_cons (pe_op op_add (pe_callB call_len_seq (by rfl) C.ml PySem.boot_len (pa_cons (pv 4) pa_nil)) pe_int) pa_nil)))
      case b7 =>
        exact ps_set (i := 9) nd rfl (.inl rfl) (hcall C.OF hr (pa_cons (pv 1) (pa_cons (pe_lst (pa_cons pe_non (pa_cons (pe_tup pa_nil) (pa_cons (pe_callTy call_list_of (by rfl) C.mt (by decide +kernel) (pa_cons (pv 4) pa_nil)) (pa_cons pe_int (pa_cons pe_str (pa_cons pe_dnewK (pa_cons pe_bl
          (pa_cons (pe_ix ix_tup (pv 4) pe_int (fun _ _ => rfl)) (pa_cons (hcall C.DP hr (pa_cons pe_int pa_nil)) pa_nil)))))))))) pa_nil)))
      case b8 =>
        exact ps_for PassesOwn.never rfl (pi_tup (pe_tup (pa_cons (pv 4) (pa_cons (pv 6) (pa_cons (pe_op op_catX (pe_slice sl_tupX (pv 4) po_none (po_some (pv 8))) (pe_slice sl_tupX (pv 7) (po_some (pv 8)) po_none)) (pa_cons (pe_op op_catX (pe_slice sl_tupX (pv 6) po_none (po_some (pv 8))) (pe_slice sl_tupX (pv 7) (po_some (pv 8)) po_none)) (pa_cons (pv 9) pa_nil))))))) (pg_name (i := 10) nd rfl (.inl rfl))
          (pss_one (ps_if (pt_not (pt_val (pe_callG C.RG hr hgd (by rfl) C.gR C.kR C.bR .nil pass0 (pa_cons (pv 3) (pa_cons (pv 10) pa_nil))))) pss_never pss_nil))
      case b9 => exact ps_if (pt_cmpR op_ne (pe_callB (call_repr hr hgd) (by rfl) C.mp (by decide +kernel) (pa_cons (pe_tup (pa_cons (pv 3) (pa_cons (pv 4) pa_nil))) pa_nil)) (pv 5) (nomark _)) pss_never pss_nil
    case s3 =>
      exact ps_set (i := 11) nd rfl (.inl rfl) (pe_ix ix_list (pe_lc (own := [("_law_deed", 12)]) (g := gName 12) rfl nd (pi_tup (pe_ix ix_tup (pv 3) pe_int (fun _ _ => rfl))) (blkOk_by (own := [("_law_deed", 12)]) (N := nLaw) (sc := defScope sLaw) (by decide +kernel))
        (fun _ _ _ _ _ => pg_name (i := 12) nd rfl (.inl rfl))
        (fun _ _ _ _ _ => pts_one (pt_cmpR (r := rEqL0 K) (op_eqL0 hr) (pe_lc (own := [("_law_kind", 13)]) (g := gName 13) (wi := iTup K (tOp (rIxT K) (tVar 12) (tC (.int 1)))) rfl nd (pi_tup (pe_ix (r := rIxT K) ix_tup (pv 12) pe_int (fun _ _ => rfl))) (by exact blkOk_by (own := [("_law_kind", 13)]) (N := nLaw) (sc := scDeedL) (scope := scKindL) (by decide +kernel))
          (fun _ _ _ _ _ => pg_name (i := 13) nd rfl (.inl rfl)) (fun _ _ _ _ _ => pts_one (pt_cmpR (r := rIn K false) op_in_seq (pv 13) (pe_ix (r := rIxT K) ix_tup (pv 3) pe_int (fun _ _ => rfl)) rfl)) (fun _ _ _ _ _ => pv 13)) (pe_lst pa_nil) (nomark _)))
        (fun _ _ _ _ _ => pv 12)) pe_int (fun _ _ => rfl))
    case s4 =>
      exact ps_set (i := 14) nd rfl (.inl rfl) (pe_op op_mulT (pe_tup (pa_cons (pe_tup (pa_cons (pe_ix ix_tup (pv 11) pe_int (fun _ _ => rfl)) (pa_cons (pe_op op_mulT (pe_tup (pa_cons pe_int pa_nil)) (pe_callB call_len_seq (by rfl) C.ml PySem.boot_len (pa_cons (pe_ix ix_tup (pv 11) pe_int (fun _ _ => rfl)) pa_nil))) pa_nil))) pa_nil)) pe_int)
    case s5 =>
      exact ps_set (i := 15) nd rfl (.inl rfl) (pe_lst (pa_cons (pv 14) (pa_cons (pe_op op_cat0 (pv 14) (pe_slice sl_tup0 (pv 14) po_none (po_some pe_int))) (pa_cons (pe_op op_cat0 (pe_slice sl_tup0 (pv 14) po_none (po_some pe_int)) (pe_tup (pa_cons pe_int pa_nil))) pa_nil))))
    case s6 =>
      exact ps_ret (pe_cmpR (op_eqL0 hr) (pe_lc (own := [("_law_thing", 10)]) (g := gName 10) rfl nd (pi_list (pv 15)) (blkOk_by (own := [("_law_thing", 10)]) (N := nLaw) (sc := defScope sLaw) (by decide +kernel)) (fun _ _ _ _ _ => pg_name (i := 10) nd rfl (.inl rfl))
        (fun _ _ _ _ _ => pts_one (pt_not (pt_val (pe_callG C.RG hr hgd (by rfl) C.gR C.kR C.bR .nil pass0 (pa_cons (pv 3) (pa_cons (pv 10) pa_nil)))))) (fun _ _ _ _ _ => pv 10)) (pe_lst pa_nil) (nomark _))
    case rd =>
    refine ⟨_, rfl, a, ns, rfl, hS, hlen, fun H1 m r sx g1 nm nr d1 => ?_⟩
    refine ⟨_, rfl, a, _, rfl, .inl (g1.seq hS), 10, _, rfl, 3, _, rfl, _, rfl, ?lo, ?hi, ?loop⟩
    case lo =>
      have : (-(2 ^ 62) : Int) = -4611686018427387904 := by decide
      rw [this]
      split <;> omega
    case hi =>
      have : ((2 ^ 62) : Int) = 4611686018427387904 := by decide
      rw [this]
      split
      · split <;> omega
      · omega
    case loop =>
    have hM : (if (if (((ns.map V.int).length : Nat) : Int) < 10 then (((ns.map V.int).length : Nat) : Int) else 10) > 3 then (if (((ns.map V.int).length : Nat) : Int) < 10 then (((ns.map V.int).length : Nat) : Int) else 10) else (3 : Int)).toNat ≤ 10 ∧ 3 ≤ (if (if (((ns.map V.int).length : Nat) : Int) < 10 then (((ns.map V.int).length : Nat) : Int) else 10) > 3 then (if (((ns.map V.int).length : Nat) : Int) < 10 then (((ns.map V.int).length : Nat) : Int) else 10) else (3 : Int)).toNat := by
      split
      · split <;> omega
      · omega
    generalize (if (if (((ns.map V.int).length : Nat) : Int) < 10 then (((ns.map V.int).length : Nat) : Int) else 10) > 3 then (if (((ns.map V.int).length : Nat) : Int) < 10 then (((ns.map V.int).length : Nat) : Int) else 10) else (3 : Int)).toNat = M at hM ⊢
    refine for_range (n := M) (fun i σ H2 => ∃ y2 y3 y4 y5 y6 y7 y8 y9 y10 : Option V, σ = [some (.ref a), some (.ref m), y2, y3, y4, y5, y6, y7, y8, y9, y10, none, none, none, none, none] ∧ Dr K H2 m r sx ns (500 * (i : Int)) ∧
      (0 < i → ∃ v f, y3 = some v ∧ Dp K H2 v f.d ∧ goF f ∧ (∃ e ∈ f.ds, Plain e))) ?o0 ?o1 ?o2
    case o0 => exact ⟨_, _, _, _, _, _, _, _, _, rfl, d1.mono (by omega), fun h => absurd h (by decide)⟩
    case o2 =>
      rintro σ H2 ⟨y2, y3, y4, y5, y6, y7, y8, y9, y10, rfl, d, hf⟩
      obtain ⟨v, f, rfl, df, go, hpl⟩ := hf (by omega)
      clear d1 nm nr g1 hS
      obtain ⟨pf, ph, pd, fxs, rfl, hpf, hph, hpd, dd⟩ := dp_face df
      have lfx : fxs.length = f.ds.length := by
        have := dpA_len dd
        rw [List.length_map] at this
        exact this
      have hi8 := go.hi
      -- a deed that takes nothing hidden
      refine ⟨_, rfl, pf, _, 1, .ref pd, rfl, rfl, hpf, rfl, pd, rfl, ⟨_, hpd⟩, fun D nD => ?_⟩
      refine lc_it (walk_tup (xs := fxs)) (fun i S => ∃ xs, S D = some (.lst xs) ∧ DpAll K S xs (((f.ds.take i).filter plainB).map De.d) ∧ Gr H2 S) ⟨[], upd_same, .nil, Gr.new nD⟩ ?c0 ?c1 ?c2
      case c0 =>
        rintro i S hi ⟨_, _, _, g⟩
        exact g.sqt hpd
      case c1 =>
        rintro i b S' S hi ⟨xs, eD, dx, g⟩ ⟨rfl, hb⟩
        obtain ⟨e, he, de⟩ := dpA_de (g.kd.dpA dd) hb
        obtain ⟨pe, nn, tt', vv, rfl, hpe, dn, dt, dg⟩ := dp_3 de
        cases dp_str dn
        cases dp_kn dg
        obtain ⟨pt, ts, rfl, hpt, hts⟩ := dp_tup dt
        cases dpA_kns hts
        have ge := go.ok e (List.mem_of_getElem? he)
        refine ⟨rfl, _, rfl, pe, _, 1, .ref pt, rfl, rfl, hpe, rfl, pt, rfl, ⟨_, hpt⟩, fun D2 nD2 => ?_⟩
        refine lc_it (walk_tup (xs := e.tk.map Kn.v)) (fun t S3 => S3 D2 = some (.lst (((e.tk.take t).filter Kn.isH).map Kn.v)) ∧ Gr S S3) ⟨upd_same, Gr.new nD2⟩ ?d0 ?d1 ?d2
        case d0 =>
          rintro t S3 ht ⟨_, g3⟩
          exact g3.sqt hpt
        case d1 =>
          rintro t z S3' S3 ht ⟨e3, g3⟩ ⟨rfl, hz⟩
          rw [List.getElem?_map] at hz
          obtain ⟨kn, hkn, rfl⟩ := Option.map_eq_some_iff.mp hz
          have gkn := ge.tk kn (List.mem_of_getElem? hkn)
          have g23 := g.trans g3
          refine ⟨rfl, _, rfl, _, rfl, pf, _, 0, _, rfl, rfl, g23.sqt hpf, rfl, ph, _, rfl, .inr (g23.sqt hph), flat_kn kn, flat_strs f.hd, _, rfl, ?_⟩
          rw [show (if false = true then !inV kn.v (f.hd.map V.str) else inV kn.v (f.hd.map V.str)) = kn.isH from inV_kn gkn]
          cases hk : kn.isH with
          | false =>
            refine iteF ⟨?_, g3⟩
            rw [take_filt Kn.isH hkn, hk]
            simpa using e3
          | true =>
            refine iteT ⟨_, rfl, _, e3, ?_, ?_, g3.upd_new nD2⟩
            · rw [List.length_map]
              refine small1000 ?_
              have a1 := List.length_filter_le Kn.isH (e.tk.take t)
              have a2 := ge.len
              rw [List.length_take] at a1
              omega
            · rw [upd_same, take_filt Kn.isH hkn, hk, List.map_append]
              rfl
        case d2 =>
        rintro S3 ⟨e3, g3⟩
        rw [List.length_map, List.take_length] at e3
        refine ⟨by show 0 ≤ sizeLine; decide, fun e0 ne0 => ?_⟩
        have k4 : Gr S3 (upd S3 e0 (.lst [])) := Gr.new ne0
        refine ⟨D2, e0, _, rfl, rfl, .inl (.inl (k4.lst e3)), .inl (.inl upd_same), _, rfl, ?_⟩
        rw [show ((e.tk.filter Kn.isH).map Kn.v).isEmpty = plainB e from List.isEmpty_map ..]
        have k24 := g3.trans k4
        have eD4 := k24.lst eD
        have dx4 := k24.kd.dpA dx
        have de4 : Dp K (upd S3 e0 (.lst [])) (.ref pe) e.d := k24.kd.dp de
        have g4 := g.trans k24
        generalize upd S3 e0 (.lst []) = S4 at k4 k24 eD4 dx4 de4 g4 ⊢
        have lxs : xs.length ≤ 8 := by
          have a1 := dpA_len dx
          have a2 := List.length_filter_le plainB (f.ds.take i)
          rw [List.length_map] at a1
          rw [List.length_take] at a2
          omega
        cases ha : plainB e with
        | false =>
          refine iteF ⟨xs, eD4, ?_, g4⟩
          rw [take_filt plainB he, ha]
          simpa using dx4
        | true =>
          refine iteT ⟨_, rfl, _, eD4, small1000 (by omega), xs ++ [.ref pe], upd_same, ?_, g4.upd_new nD⟩
          refine Kt.dpA (kt_lst eD4) ?_ (noLA_map _ noL_de _)
          rw [take_filt plainB he, ha, List.map_append]
          exact dpA_app dx4 (.cons de4 .nil)
      case c2 =>
      rintro S ⟨xs, eD, dx, g⟩
      rw [lfx, List.take_length] at dx
      have hne : f.ds.filter plainB ≠ [] := by
        obtain ⟨e, he, hp⟩ := hpl
        intro z
        have : e ∈ f.ds.filter plainB := List.mem_filter.mpr ⟨he, plain_b hp⟩
        rw [z] at this
        cases this
      obtain ⟨e, es, hes⟩ := List.exists_cons_of_ne_nil hne
      have hem : e ∈ f.ds := (List.mem_filter.mp (by rw [hes]; exact List.mem_cons_self : e ∈ f.ds.filter plainB)).1
      have ge := go.ok e hem
      have l3 := ge.len
      rw [hes] at dx
      obtain ⟨x0, xs', rfl, de, _⟩ := dpA_cons dx
      refine ⟨D, _, 0, x0, rfl, rfl, .inl (.inl eD), atI_nat (j := 0) rfl, ?_⟩
      have df2 := g.kd.dp df
      clear eD dx hes hne nD df
      obtain ⟨pe, nn, tt', vv, rfl, hpe, dn, dt, dg⟩ := dp_3 de
      cases dp_str dn
      cases dp_kn dg
      obtain ⟨pt, ts, rfl, hpt, hts⟩ := dp_tup dt
      cases dpA_kns hts
      -- its row, two hundred times
      refine ⟨_, rfl, pe, _, 0, .str e.nm, rfl, rfl, hpe, rfl, by show 1 ≤ sizeLine; decide, fun z1 nz1 => ?_⟩
      have k1 : Gr S (upd S z1 (.tup [.int 0])) := Gr.new nz1
      have e1 : upd S z1 (.tup [.int 0]) z1 = some (.tup [.int 0]) := upd_same
      generalize upd S z1 (.tup [.int 0]) = S1 at k1 e1 ⊢
      refine ⟨_, rfl, pe, _, 1, .ref pt, rfl, rfl, k1.sqt hpe, rfl, pt, _, rfl, .inr (k1.sqt hpt), z1, (e.tk.map Kn.v).length, [.int 0], rfl, rfl, .inl (.inl e1), by simp, by rw [List.length_map]; omega, by show 1 ≤ 1000; decide, fun pz S2 g2 hz => ?_⟩
      have zd : DxA K S2 (List.replicate (e.tk.map Kn.v).length [V.int 0]).flatten (List.replicate (e.tk.map Kn.v).length [PyData.int 0]).flatten := dxA_rep (.cons (.int 0) .nil) _
      generalize (List.replicate (e.tk.map Kn.v).length [V.int 0]).flatten = zv at hz zd
      generalize (List.replicate (e.tk.map Kn.v).length [PyData.int 0]).flatten = zs at zd
      refine ⟨by show 2 ≤ sizeLine; decide, fun pr npr => ?_⟩
      have k3 : Gr S2 (upd S2 pr (.tup [.str e.nm, .ref pz])) := Gr.new npr
      have D3 : Dx K (upd S2 pr (.tup [.str e.nm, .ref pz])) (.ref pr) (.tuple [.str e.nm, .tuple zs]) := new_T npr (.cons (.str _) (.cons (.tup hz zd) .nil))
      generalize upd S2 pr (.tup [.str e.nm, .ref pz]) = S3 at k3 D3 ⊢
      refine ⟨by show 1 ≤ sizeLine; decide, fun p1 np1 => ?_⟩
      have k4 : Gr S3 (upd S3 p1 (.tup [.ref pr])) := Gr.new np1
      have e4 : upd S3 p1 (.tup [.ref pr]) p1 = some (.tup [.ref pr]) := upd_same
      have D4 := k4.kx.dx D3
      generalize upd S3 p1 (.tup [.ref pr]) = S4 at k4 e4 D4 ⊢
      refine ⟨p1, 200, [.ref pr], rfl, rfl, .inl (.inl e4), by simp, by decide, by show 1 ≤ 1000; decide, fun pR S5 g5 hR => ?_⟩
      have D5 : Dx K S5 (.ref pR) (.tuple (List.replicate 200 [PyData.tuple [.str e.nm, .tuple zs]]).flatten) := .tup hR (dxA_rep (.cons (g5.kx.dx D4) .nil) _)
      have lR : (List.replicate 200 [PyData.tuple [.str e.nm, .tuple zs]]).flatten.length = 200 := by
        rw [List.flatten_replicate_singleton, List.length_replicate]
      generalize (List.replicate 200 [PyData.tuple [.str e.nm, .tuple zs]]).flatten = R at D5 lR
      have df5 := (k1.trans (g2.trans (k3.trans (k4.trans g5)))).kd.dp df2
      clear k1 e1 g2 hz zd npr k3 D3 np1 k4 e4 D4 hR g5 nz1 hpt hpe de df2 g hts dt
      -- the three
      refine ⟨_, rfl, _, rfl, _, rfl, 1, rfl, R, D5, fun va Sa ka Da => ?_⟩
      have ca := cutD_len R none (some 1)
      refine ⟨R, _, ka.kx.dx D5, Da, by rw [sizeLine_eq]; omega, fun vb Sb kb Db => ?_⟩
      have D5b := kb.kx.dx (ka.kx.dx D5)
      refine ⟨_, rfl, 199, rfl, R, D5b, fun vc Sc kc Dc => ?_⟩
      have cc := cutD_len R none (some 199)
      refine ⟨by show 1 ≤ sizeLine; decide, fun t5 nt5 => ?_⟩
      have kd : Gr Sc (upd Sc t5 (.tup [.int 5])) := Gr.new nt5
      have Dd : Dx K (upd Sc t5 (.tup [.int 5])) (.ref t5) (.tuple [.int 5]) := new_T nt5 (.cons (.int 5) .nil)
      generalize upd Sc t5 (.tup [.int 5]) = Sd at kd Dd ⊢
      refine ⟨_, _, kd.kx.dx Dc, Dd, by show _ + 1 ≤ sizeLine; rw [sizeLine_eq]; omega, fun ve Se ke De => ?_⟩
      refine ⟨by show 3 ≤ sizeLine; decide, fun L nL => ?_⟩
      have kf : Gr Se (upd Se L (.lst [.ref pR, vb, ve])) := Gr.new nL
      have eL : upd Se L (.lst [.ref pR, vb, ve]) L = some (.lst [.ref pR, vb, ve]) := upd_same
      have kbf := kc.trans (kd.trans (ke.trans kf))
      have DA := kbf.kx.dx D5b
      have DB := kbf.kx.dx Db
      have DC := kf.kx.dx De
      have dff := (ka.trans (kb.trans kbf)).kd.dp df5
      generalize upd Se L (.lst [.ref pR, vb, ve]) = Sf at kf eL kbf DA DB DC dff ⊢
      have three : ∀ (j : Nat) (y : V), [V.ref pR, vb, ve][j]? = some y → ∃ dd, Dx K Sf y dd := by
        intro j y hy
        have hm := List.mem_of_getElem? hy
        simp only [List.mem_cons, List.not_mem_nil, or_false] at hm
        rcases hm with rfl | rfl | rfl
        · exact ⟨_, DA⟩
        · exact ⟨_, DB⟩
        · exact ⟨_, DC⟩
      refine ⟨_, rfl, L, rfl, ⟨_, .inl (.inl eL)⟩, fun D nD => ?_⟩
      refine lc_it (walk_list (xs := [V.ref pR, vb, ve])) (fun i S9 => S9 D = some (.lst []) ∧ Gr Sf S9) ⟨upd_same, Gr.new nD⟩ ?g0 ?g1 ?g2
      case g0 =>
        rintro i S9 hi ⟨_, g9⟩
        exact .inl (.inl (g9.lst eL))
      case g1 =>
        rintro i y S9' S9 hi ⟨e9, g9⟩ ⟨rfl, hy⟩
        obtain ⟨dy, hdy⟩ := three i y hy
        exact ⟨rfl, _, rfl, _, rfl, .ref pf, y, f, dy, rfl, g9.kd.dp dff, go, g9.kx.dx hdy, fun S10 g10 => ⟨_, rfl, iteF ⟨g10.lst e9, g9.trans g10⟩⟩⟩
      case g2 =>
      rintro S9 ⟨e9, g9⟩
      refine ⟨by show 0 ≤ sizeLine; decide, fun e0 ne0 => ?_⟩
      exact ⟨D, e0, _, rfl, rfl, .inl (.inl ((Gr.new ne0).lst e9)), .inl (.inl upd_same), q _⟩
    case o1 =>
    rintro i σ H2 hi ⟨y2, y3, y4, y5, y6, y7, y8, y9, y10, rfl, d, _⟩
    refine ⟨_, rfl, m, r, sx, ns, _, rfl, d, by omega, fun H3 v f g3 d3 df go hpl => ?_⟩
    -- a user
    refine ⟨_, rfl, _, rfl, _, rfl, by show 6 ≤ sizeLine; decide, fun l nl => ?_⟩
    have k1 : Gr H3 (upd H3 l (.lst [.int 1, .int 2, .int 3, .int 5, .int 8, .int 12])) := Gr.new nl
    have e1 : upd H3 l (.lst [.int 1, .int 2, .int 3, .int 5, .int 8, .int 12]) l = some (.lst [.int 1, .int 2, .int 3, .int 5, .int 8, .int 12]) := upd_same
    obtain ⟨nl1, nl2⟩ := d3.nm nl
    have ds1 := d3.gr k1
    generalize upd H3 l (.lst [.int 1, .int 2, .int 3, .int 5, .int 8, .int 12]) = S1 at k1 e1 ds1 ⊢
    refine ⟨m, r, l, sx, ns, _, _, rfl, ds1, by omega, .inl ⟨.inl (.inl e1), nl1, nl2⟩, by simp, by decide, fun S2 ix x g2 d2 hx => ?_⟩
    obtain ⟨n, rfl, n1, n12⟩ : ∃ n : Nat, x = .int (n : Nat) ∧ 1 ≤ n ∧ n ≤ 12 := by
      have hm := List.mem_of_getElem? hx
      simp only [List.mem_cons, List.not_mem_nil, or_false] at hm
      rcases hm with rfl | rfl | rfl | rfl | rfl | rfl
      · exact ⟨1, rfl, by decide, by decide⟩
      · exact ⟨2, rfl, by decide, by decide⟩
      · exact ⟨3, rfl, by decide, by decide⟩
      · exact ⟨5, rfl, by decide, by decide⟩
      · exact ⟨8, rfl, by decide, by decide⟩
      · exact ⟨12, rfl, by decide, by decide⟩
    have gS2 : G2 m r H3 S2 := (G2.gr k1).trans g2
    refine ⟨m, r, v, f, sx, ns, n, _, rfl, d2, by omega, Kt.dp (d3.kt gS2) df (noL_fc _), go, hpl, n1, n12, fun S3 w u g4 d4 dw gw lw => ?_⟩
    have df3 : Dp K S3 v f.d := Kt.dp (d3.kt (gS2.trans g4)) df (noL_fc _)
    clear k1 e1 ds1 g2 hx nl gS2 g4 d2 df g3
    -- kept
    have sk := sh_kept go gw
    refine ⟨_, rfl, _, rfl, by show 2 ≤ sizeLine; decide, fun t1 nt1 => ?_⟩
    have k2 : Gr S3 (upd S3 t1 (.tup [v, w])) := Gr.new nt1
    have d5 := d4.gr k2
    have df5 := k2.kd.dp df3
    have dw5 := k2.kd.dp dw
    have dt5 : Dp K (upd S3 t1 (.tup [v, w])) (.ref t1) (.tuple [f.d, usD u]) := .tup (.inl (.inl upd_same)) (.cons df5 (.cons dw5 .nil))
    generalize upd S3 t1 (.tup [v, w]) = S5 at k2 d5 df5 dw5 dt5 ⊢
    refine ⟨t1, .tuple [f.d, usD u], _, rfl, dt5, sk.able, sk.nod, Nat.le_trans sk.dep (by decide), rfl, sk.fits (by decide), ?_⟩
    -- spoilt, once and again
    refine ⟨_, rfl, _, rfl, _, rfl, m, r, v, w, f, u, sx, ns, _, rfl, d5, by omega, df5, go, dw5, gw, by omega, fun S6 v1 ds1 g6 d6 dv1 l1 => ?_⟩
    have df6 := Kt.dp (d5.kt g6) df5 (noL_fc _)
    have dw6 := Kt.dp (d5.kt g6) dw5 (noL_us _)
    refine ⟨_, rfl, _, rfl, _, rfl, m, r, v, w, f, u, sx, ns, _, rfl, d6, by omega, df6, go, dw6, gw, by omega, fun S7 v2 ds2 g7 d7 dv2 l2 => ?_⟩
    have df7 := Kt.dp (d6.kt g7) df6 (noL_fc _)
    have dw7 := Kt.dp (d6.kt g7) dw6 (noL_us _)
    have dv17 := g7.hkx.dx dv1
    clear k2 d5 df5 dt5 g6 d6 df6 dw6 g7 d4 df3 dw5 dw nt1 dv1
    obtain ⟨pu, us, rfl, hpu7, hus7⟩ := dp_tup dw7
    have lus : us.length = u.length := by
      have := dpA_len hus7
      rw [List.length_map] at this
      exact this
    -- at
    refine ⟨_, rfl, _, rfl, pu, _, rfl, .inr hpu7, _, 1, rfl, rfl, m, r, sx, ns, _, _, rfl, d7, by omega, by omega, by omega, fun S8 at0 g8 dr z0 z1 => ?_⟩
    obtain ⟨an, rfl⟩ : ∃ z : Nat, at0 = (z : Int) := ⟨at0.toNat, by omega⟩
    have hpu := (d7.kt g8) hpu7
    have hus := Kt.dpA (d7.kt g8) hus7 (noLA_map _ noL_ur _)
    have df8 := Kt.dp (d7.kt g8) df7 (noL_fc _)
    have dv18 := g8.hkx.dx dv17
    have dv28 := g8.hkx.dx dv2
    clear hpu7 hus7 df7 dw7 dv17 dv2 d7 g8
    obtain ⟨r0, hr0⟩ := at_some (l := u) (i := 0) (by omega)
    obtain ⟨v0, hv0, dv0⟩ := dpA_map hus hr0
    have G0 : Gr S8 S8 := Gr.refl S8
    -- what is none
    refine ⟨_, rfl, ?_⟩
    refine ⟨by show 0 ≤ sizeLine; decide, fun t1 nt1 => ?_⟩
    have k1 : Gr S8 (upd S8 t1 (.tup [])) := Gr.new nt1
    have D1 : Dx K (hide [m, r] (upd S8 t1 (.tup []))) (.ref t1) (.tuple []) := dx_newT nt1 (dr.gr G0).there (.nil)
    generalize upd S8 t1 (.tup []) = S1 at k1 D1 ⊢
    replace G0 := G0.trans k1
    refine ⟨_, rfl, pu, _, rfl, .inr (G0.sqt hpu), fun t2 nt2 => ?_⟩
    have k2 : Gr S1 (upd S1 t2 (.lst us)) := Gr.new nt2
    have D2 : Dx K (hide [m, r] (upd S1 t2 (.lst us))) (.ref t2) (.list (u.map Ur.d)) := dx_newL nt2 (dr.gr G0).there (Dp.dxA (Kt.dpA (dr.gr G0).kth (G0.kd.dpA hus) (noLA_map _ noL_ur _)))
    generalize upd S1 t2 (.lst us) = S2 at k2 D2 ⊢
    replace D1 := k2.hkx.dx D1
    replace G0 := G0.trans k2
    refine fun t3 nt3 => ?_
    have k3 : Gr S2 (upd S2 t3 (.dK [])) := Gr.new nt3
    have D3 : Dx K (hide [m, r] (upd S2 t3 (.dK []))) (.ref t3) (.dict []) := dx_newE nt3 (dr.gr G0).there
    generalize upd S2 t3 (.dK []) = S3 at k3 D3 ⊢
    replace D1 := k3.hkx.dx D1
    replace D2 := k3.hkx.dx D2
    replace G0 := G0.trans k3
    refine ⟨_, rfl, pu, _, 0, v0, rfl, rfl, G0.sqt hpu, atI_nat (j := 0) hv0, 7, rfl, by decide, fun S4 v4 k4 D4 => ?_⟩
    replace D1 := k4.hkx.dx D1
    replace D2 := k4.hkx.dx D2
    replace D3 := k4.hkx.dx D3
    replace G0 := G0.trans k4
    replace D4 := Kt.dx (dr.gr G0).kth D4 (noL_deep 7)
    refine ⟨by show 9 ≤ sizeLine; decide, fun l1 nl1 => ?_⟩
    have A1 : DxA K (hide [m, r] S4) [.non, .ref t1, .ref t2, .int 5, .str "user", .ref t3, .bl true, v0, v4] [.none, .tuple [], .list (u.map Ur.d), .int 5, .str "user", .dict [], .bool true, r0.d, deepD 7] := .cons .non (.cons D1 (.cons D2 (.cons (.int _) (.cons (.str _) (.cons D3 (.cons (.bl _) (.cons ((Dp.dx (Kt.dp (dr.gr G0).kth (G0.kd.dp dv0) (noL_ur _)))) (.cons D4 .nil))))))))
    obtain ⟨ne1l1, ne2l1⟩ := (dr.gr G0).nm nl1
    obtain ⟨xA1, hxA1⟩ : ∃ x, x = ([.non, .ref t1, .ref t2, .int 5, .str "user", .ref t3, .bl true, v0, v4] : List V) := ⟨_, rfl⟩
    obtain ⟨dA1, hdA1⟩ : ∃ x, x = ([.none, .tuple [], .list (u.map Ur.d), .int 5, .str "user", .dict [], .bool true, r0.d, deepD 7] : List PyData) := ⟨_, rfl⟩
    rw [← hxA1, ← hdA1] at A1
    rw [show (HO.lst [.non, .ref t1, .ref t2, .int 5, .str "user", .ref t3, .bl true, v0, v4]) = HO.lst xA1 by rw [hxA1]]
    have lenA1 : xA1.length = 9 := by rw [hxA1]; rfl
    have k5 : Gr S4 (upd S4 l1 (.lst xA1)) := Gr.new nl1
    have el1 : (upd S4 l1 (.lst xA1)) l1 = some (.lst xA1) := upd_same
    generalize upd S4 l1 (.lst xA1) = S5 at k5 el1 ⊢
    replace A1 := k5.hkx.dxA A1
    replace G0 := G0.trans k5
    clear hxA1 hdA1 nl1 D1 D2 D3 D4
    refine ⟨m, r, l1, sx, ns, _, _, rfl, dr.gr G0, by omega, .inl ⟨.inl (.inl el1), ne1l1, ne2l1⟩, (fun z => by rw [z] at lenA1; cases lenA1), by rw [lenA1]; decide, fun S9 ix x g9 d9 hx => ?_⟩
    obtain ⟨dx0, _, hx0⟩ := dxA_at A1 hx
    have g89 := (G2.gr G0).trans g9
    have T9 : Kt K S8 S9 := dr.kt g89
    have DX := g9.hkx.dx hx0
    have D1 := g89.hkx.dx dv18
    have D2 := g89.hkx.dx dv28
    have DU : Dx K (hide [m, r] S9) (.ref pu) (.tuple (u.map Ur.d)) := .tup (d9.kth (T9 hpu)) (Dp.dxA (Kt.dpA d9.kth (Kt.dpA T9 hus (noLA_map _ noL_ur _)) (noLA_map _ noL_ur _)))
    have df9 := Kt.dp T9 df8 (noL_fc _)
    have dw9 : Dp K S9 (.ref pu) (usD u) := .tup (T9 hpu) (Kt.dpA T9 hus (noLA_map _ noL_ur _))
    have th9 := d9.there
    have luM : (u.map Ur.d).length = u.length := List.length_map _
    clear A1 el1 lenA1 hx hx0 g9 T9 dv18 dv28 dv0 hv0 hpu hus df8 dr g89 G0
    -- the five
    refine ⟨_, rfl, _, rfl, _, rfl, _, rfl, ((an : Nat) : Int), rfl, [m, r], u.map Ur.d, DU, th9, fun va Sa ka Da => ?_⟩
    have ca := cutD_len (u.map Ur.d) none (some ((an : Nat) : Int))
    refine ⟨_, rfl, _, rfl, ((an : Nat) : Int), rfl, [m, r], ds2, ka.hkx.dx D2, th9.gr ka, fun vb Sb kb Db => ?_⟩
    have cb := cutD_len ds2 (some ((an : Nat) : Int)) none
    refine ⟨[m, r], _, _, kb.hkx.dx Da, Db, (th9.gr ka).gr kb, by rw [sizeLine_eq]; omega, fun vc Sc kc Dc => ?_⟩
    have kac := ka.trans (kb.trans kc)
    refine ⟨_, rfl, _, rfl, ((an : Nat) : Int), rfl, [m, r], ds1, kac.hkx.dx D1, th9.gr kac, fun vd Sd kd Dd => ?_⟩
    have cd := cutD_len ds1 none (some ((an : Nat) : Int))
    refine ⟨_, rfl, _, rfl, ((an : Nat) : Int), rfl, [m, r], ds2, (kac.trans kd).hkx.dx D2, th9.gr (kac.trans kd), fun ve Se ke De => ?_⟩
    refine ⟨[m, r], _, _, ke.hkx.dx Dd, De, (th9.gr (kac.trans kd)).gr ke, by rw [sizeLine_eq]; omega, fun vf Sf kf Df => ?_⟩
    refine ⟨_, rfl, by show 5 ≤ sizeLine; decide, fun tt ntt => ?_⟩
    have kcf := kd.trans (ke.trans kf)
    have kt : Gr Sf (upd Sf tt (.tup [.ref pu, v1, vc, vf, x])) := Gr.new ntt
    have et : upd Sf tt (.tup [.ref pu, v1, vc, vf, x]) tt = some (.tup [.ref pu, v1, vc, vf, x]) := upd_same
    have kall := kac.trans (kcf.trans kt)
    have E1 := hide_kx.dx (kall.hkx.dx DU)
    have E2 := hide_kx.dx (kall.hkx.dx D1)
    have E3 := hide_kx.dx ((kcf.trans kt).hkx.dx Dc)
    have E4 := hide_kx.dx (kt.hkx.dx Df)
    have E5 := hide_kx.dx (kall.hkx.dx DX)
    have dft := kall.kd.dp df9
    have dwt := kall.kd.dp dw9
    have d10 := d9.gr kall
    generalize upd Sf tt (.tup [.ref pu, v1, vc, vf, x]) = St at kt et kall E1 E2 E3 E4 E5 dft dwt d10 ⊢
    clear DU D1 D2 DX Da Db Dc Dd De Df ka kb kc kac kd ke kf kcf kt kall df9 dw9 d9 th9
    have five : ∀ (j : Nat) (y : V), [V.ref pu, v1, vc, vf, x][j]? = some y → ∃ dd, Dx K St y dd := by
      intro j y hy
      have hm := List.mem_of_getElem? hy
      simp only [List.mem_cons, List.not_mem_nil, or_false] at hm
      rcases hm with rfl | rfl | rfl | rfl | rfl
      · exact ⟨_, E1⟩
      · exact ⟨_, E2⟩
      · exact ⟨_, E3⟩
      · exact ⟨_, E4⟩
      · exact ⟨_, E5⟩
    refine ⟨tt, rfl, ⟨_, .inl (.inl et)⟩, ?_⟩
    refine for_it (walk_tup (xs := [V.ref pu, v1, vc, vf, x])) (fun j σ S => ∃ y10 : Option V, σ = [some (.ref a), some (.ref m), some (.int (0 + (i : Int))), some v, some (.ref pu), some (.str (PyData.tuple [f.d, usD u]).shown), some v1, some v2, some (.int ((an : Nat) : Int)), some x, y10, none, none, none, none, none] ∧ Gr St S) ⟨_, rfl, Gr.refl _⟩ ?f0 ?f1 ?f2
    case f0 =>
      rintro j σ S hj ⟨y10, rfl, g⟩
      exact g.sqt (.inl (.inl et))
    case f1 =>
      rintro j y σ S' S hj ⟨y10, rfl, g⟩ ⟨rfl, hy⟩
      obtain ⟨dy, hdy⟩ := five j y hy
      exact ⟨_, rfl, _, rfl, v, y, f, dy, rfl, g.kd.dp dft, go, g.kx.dx hdy, fun S3 g3 => ⟨_, rfl, iteF ⟨_, rfl, g.trans g3⟩⟩⟩
    case f2 =>
    rintro σ S ⟨y10, rfl, g⟩
    refine ⟨_, rfl, _, rfl, by show 2 ≤ sizeLine; decide, fun t2 nt2 => ?_⟩
    have k2 : Gr S (upd S t2 (.tup [v, .ref pu])) := Gr.new nt2
    have gk := g.trans k2
    have dt2 : Dp K (upd S t2 (.tup [v, .ref pu])) (.ref t2) (.tuple [f.d, usD u]) := .tup (.inl (.inl upd_same)) (.cons (gk.kd.dp dft) (.cons (gk.kd.dp dwt) .nil))
    refine ⟨t2, .tuple [f.d, usD u], _, rfl, dt2, sk.able, sk.nod, Nat.le_trans sk.dep (by decide), rfl, sk.fits (by decide), ?_⟩
    refine ⟨_, rfl, rfl, _, rfl, ?_⟩
    rw [decide_eq_true rfl]
    exact iteF ⟨_, _, _, _, _, _, _, _, _, rfl, (d10.gr gk).mono (by omega), fun _ => ⟨v, f, rfl, gk.kd.dp dft, go, hpl⟩⟩
end
end SfC
namespace SfC
open PySem PySem.Spec PyProof.Rows L2 SfG
theorem init_binds {K : PySem.W.Frag} {kV doc pm ct : Value} {an : Option Addr} {cda cc : Addr} : Binds K (PySem.W.ksFn "__init__" "BadUser.__init__" (defArgs sUserIni) (defBody sUserIni) (defScope sUserIni) .none kV doc pm an (.ref cda) ct cc) ["self", "row", "place"] [] := Binds.all fun us hl => match us, hl with | [_, _, _], _ => rfl
set_option maxHeartbeats 4000000 in
theorem all_mk {l : PySem.W.OpenLaw} {w : World} {K : PySem.W.Frag} {h : Heap} {mg : Str → Option Value} {fa : Addr} (X : K.In h) (G : h.Ns mainGlobals mg) (hfa : mg "law" = some (.ref fa))
    {fSh : Addr} {odSh anSh : Option Addr} {slSh : Array (Option Value)} {ocSh kVSh dcSh pmSh ctSh cdSh : Value}
    (aSh : PySem.W.nsIn K mainGlobals "shown" = some (some (.ref fSh))) (lSh : K.lookup fSh = some ⟨ocSh, odSh, .func (PySem.W.fnOf "shown" "shown" (defArgs sShown) (defBody sShown) (defScope sShown) .none kVSh dcSh pmSh anSh cdSh ctSh), slSh⟩) (hSh : PySem.W.codeIn K cdSh "shown" = true) (kSh : PySem.W.keepIn K (.ref fSh) = true)
    {fA : Addr} {odA anA : Option Addr} {slA : Array (Option Value)} {ocA kVA dcA pmA ctA cdA : Value}
    (aA : PySem.W.nsIn K mainGlobals "is_name" = some (some (.ref fA))) (lA : K.lookup fA = some ⟨ocA, odA, .func (PySem.W.fnOf "is_name" "is_name" (defArgs sName) (defBody sName) (defScope sName) .none kVA dcA pmA anA cdA ctA), slA⟩) (hA : PySem.W.codeIn K cdA "is_name" = true) (kA : PySem.W.keepIn K (.ref fA) = true)
    {fB : Addr} {odB anB : Option Addr} {slB : Array (Option Value)} {ocB kVB dcB pmB ctB cdB : Value}
    (aB : PySem.W.nsIn K mainGlobals "is_kind" = some (some (.ref fB))) (lB : K.lookup fB = some ⟨ocB, odB, .func (PySem.W.fnOf "is_kind" "is_kind" (defArgs sKind) (defBody sKind) (defScope sKind) .none kVB dcB pmB anB cdB ctB), slB⟩) (hB : PySem.W.codeIn K cdB "is_kind" = true) (kB : PySem.W.keepIn K (.ref fB) = true)
    {fC : Addr} {odC anC : Option Addr} {slC : Array (Option Value)} {ocC kVC dcC pmC ctC cdC : Value}
    (aC : PySem.W.nsIn K mainGlobals "first_bad_deed" = some (some (.ref fC))) (lC : K.lookup fC = some ⟨ocC, odC, .func (PySem.W.fnOf "first_bad_deed" "first_bad_deed" (defArgs sBadD) (defBody sBadD) (defScope sBadD) .none kVC dcC pmC anC cdC ctC), slC⟩) (hC : PySem.W.codeIn K cdC "first_bad_deed" = true) (kC : PySem.W.keepIn K (.ref fC) = true)
    {fD : Addr} {odD anD : Option Addr} {slD : Array (Option Value)} {ocD kVD dcD pmD ctD cdD : Value}
    (aD : PySem.W.nsIn K mainGlobals "first_bad_hidden" = some (some (.ref fD))) (lD : K.lookup fD = some ⟨ocD, odD, .func (PySem.W.fnOf "first_bad_hidden" "first_bad_hidden" (defArgs sBadH) (defBody sBadH) (defScope sBadH) .none kVD dcD pmD anD cdD ctD), slD⟩) (hD : PySem.W.codeIn K cdD "first_bad_hidden" = true) (kD : PySem.W.keepIn K (.ref fD) = true)
    {fE : Addr} {odE anE : Option Addr} {slE : Array (Option Value)} {ocE kVE dcE pmE ctE cdE : Value}
    (aE : PySem.W.nsIn K mainGlobals "face_fault" = some (some (.ref fE))) (lE : K.lookup fE = some ⟨ocE, odE, .func (PySem.W.fnOf "face_fault" "face_fault" (defArgs sFault) (defBody sFault) (defScope sFault) .none kVE dcE pmE anE cdE ctE), slE⟩) (hE : PySem.W.codeIn K cdE "face_fault" = true) (kE : PySem.W.keepIn K (.ref fE) = true)
    {fN : Addr} {odN anN : Option Addr} {slN : Array (Option Value)} {ocN kVN dcN pmN ctN cdN : Value}
    (aN : PySem.W.nsIn K mainGlobals "need_face" = some (some (.ref fN))) (lN : K.lookup fN = some ⟨ocN, odN, .func (PySem.W.fnOf "need_face" "need_face" (defArgs sNeed) (defBody sNeed) (defScope sNeed) .none kVN dcN pmN anN cdN ctN), slN⟩) (hN : PySem.W.codeIn K cdN "need_face" = true) (kN : PySem.W.keepIn K (.ref fN) = true)
    {fW : Addr} {odW anW : Option Addr} {slW : Array (Option Value)} {ocW kVW dcW pmW ctW cdW : Value}
    (aW : PySem.W.nsIn K mainGlobals "is_whole" = some (some (.ref fW))) (lW : K.lookup fW = some ⟨ocW, odW, .func (PySem.W.fnOf "is_whole" "is_whole" (defArgs sWhole) (defBody sWhole) (defScope sWhole) .none kVW dcW pmW anW cdW ctW), slW⟩) (hW : PySem.W.codeIn K cdW "is_whole" = true) (kW : PySem.W.keepIn K (.ref fW) = true)
    {fAm : Addr} {odAm anAm : Option Addr} {slAm : Array (Option Value)} {ocAm kVAm dcAm pmAm ctAm cdAm : Value}
    (aAm : PySem.W.nsIn K mainGlobals "is_among" = some (some (.ref fAm))) (lAm : K.lookup fAm = some ⟨ocAm, odAm, .func (PySem.W.fnOf "is_among" "is_among" (defArgs sAmong) (defBody sAmong) (defScope sAmong) .none kVAm dcAm pmAm anAm cdAm ctAm), slAm⟩) (hAm : PySem.W.codeIn K cdAm "is_among" = true) (kAm : PySem.W.keepIn K (.ref fAm) = true)
    {fTt : Addr} {odTt anTt : Option Addr} {slTt : Array (Option Value)} {ocTt kVTt dcTt pmTt ctTt cdTt : Value}
    (aTt : PySem.W.nsIn K mainGlobals "is_tuple_of" = some (some (.ref fTt))) (lTt : K.lookup fTt = some ⟨ocTt, odTt, .func (PySem.W.fnOf "is_tuple_of" "is_tuple_of" (defArgs sTupOf) (defBody sTupOf) (defScope sTupOf) .none kVTt dcTt pmTt anTt cdTt ctTt), slTt⟩) (hTt : PySem.W.codeIn K cdTt "is_tuple_of" = true) (kTt : PySem.W.keepIn K (.ref fTt) = true)
    {fFi : Addr} {odFi anFi : Option Addr} {slFi : Array (Option Value)} {ocFi kVFi dcFi pmFi ctFi cdFi : Value}
    (aFi : PySem.W.nsIn K mainGlobals "find_deed" = some (some (.ref fFi))) (lFi : K.lookup fFi = some ⟨ocFi, odFi, .func (PySem.W.fnOf "find_deed" "find_deed" (defArgs sFind) (defBody sFind) (defScope sFind) .none kVFi dcFi pmFi anFi cdFi ctFi), slFi⟩) (hFi : PySem.W.codeIn K cdFi "find_deed" = true) (kFi : PySem.W.keepIn K (.ref fFi) = true)
    {fMh : Addr} {odMh anMh : Option Addr} {slMh : Array (Option Value)} {ocMh kVMh dcMh pmMh ctMh cdMh : Value}
    (aMh : PySem.W.nsIn K mainGlobals "may_be_handed" = some (some (.ref fMh))) (lMh : K.lookup fMh = some ⟨ocMh, odMh, .func (PySem.W.fnOf "may_be_handed" "may_be_handed" (defArgs sMayH) (defBody sMayH) (defScope sMayH) .none kVMh dcMh pmMh anMh cdMh ctMh), slMh⟩) (hMh : PySem.W.codeIn K cdMh "may_be_handed" = true) (kMh : PySem.W.keepIn K (.ref fMh) = true)
    {fDo : Addr} {odDo anDo : Option Addr} {slDo : Array (Option Value)} {ocDo kVDo dcDo pmDo ctDo cdDo : Value}
    (aDo : PySem.W.nsIn K mainGlobals "deed_of_row" = some (some (.ref fDo))) (lDo : K.lookup fDo = some ⟨ocDo, odDo, .func (PySem.W.fnOf "deed_of_row" "deed_of_row" (defArgs sDeedOR) (defBody sDeedOR) (defScope sDeedOR) .none kVDo dcDo pmDo anDo cdDo ctDo), slDo⟩) (hDo : PySem.W.codeIn K cdDo "deed_of_row" = true) (kDo : PySem.W.keepIn K (.ref fDo) = true)
    {fFb : Addr} {odFb anFb : Option Addr} {slFb : Array (Option Value)} {ocFb kVFb dcFb pmFb ctFb cdFb : Value}
    (aFb : PySem.W.nsIn K mainGlobals "first_bad_place" = some (some (.ref fFb))) (lFb : K.lookup fFb = some ⟨ocFb, odFb, .func (PySem.W.fnOf "first_bad_place" "first_bad_place" (defArgs sFirstBP) (defBody sFirstBP) (defScope sFirstBP) .none kVFb dcFb pmFb anFb cdFb ctFb), slFb⟩) (hFb : PySem.W.codeIn K cdFb "first_bad_place" = true) (kFb : PySem.W.keepIn K (.ref fFb) = true)
    {fUf : Addr} {odUf anUf : Option Addr} {slUf : Array (Option Value)} {ocUf kVUf dcUf pmUf ctUf cdUf : Value}
    (aUf : PySem.W.nsIn K mainGlobals "user_fault" = some (some (.ref fUf))) (lUf : K.lookup fUf = some ⟨ocUf, odUf, .func (PySem.W.fnOf "user_fault" "user_fault" (defArgs sUFault) (defBody sUFault) (defScope sUFault) .none kVUf dcUf pmUf anUf cdUf ctUf), slUf⟩) (hUf : PySem.W.codeIn K cdUf "user_fault" = true) (kUf : PySem.W.keepIn K (.ref fUf) = true)
    {fIu : Addr} {odIu anIu : Option Addr} {slIu : Array (Option Value)} {ocIu kVIu dcIu pmIu ctIu cdIu : Value}
    (aIu : PySem.W.nsIn K mainGlobals "is_user" = some (some (.ref fIu))) (lIu : K.lookup fIu = some ⟨ocIu, odIu, .func (PySem.W.fnOf "is_user" "is_user" (defArgs sIsUser) (defBody sIsUser) (defScope sIsUser) .none kVIu dcIu pmIu anIu cdIu ctIu), slIu⟩) (hIu : PySem.W.codeIn K cdIu "is_user" = true) (kIu : PySem.W.keepIn K (.ref fIu) = true)
    {fRu : Addr} {odRu anRu : Option Addr} {slRu : Array (Option Value)} {ocRu kVRu dcRu pmRu ctRu cdRu : Value}
    (aRu : PySem.W.nsIn K mainGlobals "refuse_no_user" = some (some (.ref fRu))) (lRu : K.lookup fRu = some ⟨ocRu, odRu, .func (PySem.W.fnOf "refuse_no_user" "refuse_no_user" (defArgs sRefU) (defBody sRefU) (defScope sRefU) .none kVRu dcRu pmRu anRu cdRu ctRu), slRu⟩) (hRu : PySem.W.codeIn K cdRu "refuse_no_user" = true) (kRu : PySem.W.keepIn K (.ref fRu) = true)
    {fNu : Addr} {odNu anNu : Option Addr} {slNu : Array (Option Value)} {ocNu kVNu dcNu pmNu ctNu cdNu : Value}
    (aNu : PySem.W.nsIn K mainGlobals "need_user" = some (some (.ref fNu))) (lNu : K.lookup fNu = some ⟨ocNu, odNu, .func (PySem.W.fnOf "need_user" "need_user" (defArgs sNeedU) (defBody sNeedU) (defScope sNeedU) .none kVNu dcNu pmNu anNu cdNu ctNu), slNu⟩) (hNu : PySem.W.codeIn K cdNu "need_user" = true) (kNu : PySem.W.keepIn K (.ref fNu) = true)
    {fKt : Addr} {odKt anKt : Option Addr} {slKt : Array (Option Value)} {ocKt kVKt dcKt pmKt ctKt cdKt : Value}
    (aKt : PySem.W.nsIn K mainGlobals "kind_told" = some (some (.ref fKt))) (lKt : K.lookup fKt = some ⟨ocKt, odKt, .func (PySem.W.fnOf "kind_told" "kind_told" (defArgs sKindTold) (defBody sKindTold) (defScope sKindTold) .none kVKt dcKt pmKt anKt cdKt ctKt), slKt⟩) (hKt : PySem.W.codeIn K cdKt "kind_told" = true) (kKt : PySem.W.keepIn K (.ref fKt) = true)
    {fUr : Addr} {odUr anUr : Option Addr} {slUr : Array (Option Value)} {ocUr kVUr dcUr pmUr ctUr cdUr : Value}
    (aUr : PySem.W.nsIn K mainGlobals "user_rows" = some (some (.ref fUr))) (lUr : K.lookup fUr = some ⟨ocUr, odUr, .func (PySem.W.fnOf "user_rows" "user_rows" (defArgs sURows) (defBody sURows) (defScope sURows) .none kVUr dcUr pmUr anUr cdUr ctUr), slUr⟩) (hUr : PySem.W.codeIn K cdUr "user_rows" = true) (kUr : PySem.W.keepIn K (.ref fUr) = true)
    {fUt : Addr} {odUt anUt : Option Addr} {slUt : Array (Option Value)} {ocUt kVUt dcUt pmUt ctUt cdUt : Value}
    (aUt : PySem.W.nsIn K mainGlobals "user_text" = some (some (.ref fUt))) (lUt : K.lookup fUt = some ⟨ocUt, odUt, .func (PySem.W.fnOf "user_text" "user_text" (defArgs sUText) (defBody sUText) (defScope sUText) .none kVUt dcUt pmUt anUt cdUt ctUt), slUt⟩) (hUt : PySem.W.codeIn K cdUt "user_text" = true) (kUt : PySem.W.keepIn K (.ref fUt) = true)
    {fS1 : Addr} {odS1 anS1 : Option Addr} {slS1 : Array (Option Value)} {ocS1 kVS1 dcS1 pmS1 ctS1 cdS1 : Value}
    (aS1 : PySem.W.nsIn K mainGlobals "_law_started" = some (some (.ref fS1))) (lS1 : K.lookup fS1 = some ⟨ocS1, odS1, .func (PySem.W.fnOf "_law_started" "_law_started" (defArgs sStarted) (defBody sStarted) (defScope sStarted) .none kVS1 dcS1 pmS1 anS1 cdS1 ctS1), slS1⟩) (hS1 : PySem.W.codeIn K cdS1 "_law_started" = true) (kS1 : PySem.W.keepIn K (.ref fS1) = true)
    {fDr : Addr} {odDr anDr : Option Addr} {slDr : Array (Option Value)} {ocDr kVDr dcDr pmDr ctDr cdDr : Value}
    (aDr : PySem.W.nsIn K mainGlobals "_law_draw" = some (some (.ref fDr))) (lDr : K.lookup fDr = some ⟨ocDr, odDr, .func (PySem.W.fnOf "_law_draw" "_law_draw" (defArgs sDrw) (defBody sDrw) (defScope sDrw) .none kVDr dcDr pmDr anDr cdDr ctDr), slDr⟩) (hDr : PySem.W.codeIn K cdDr "_law_draw" = true) (kDr : PySem.W.keepIn K (.ref fDr) = true)
    {fOf : Addr} {odOf anOf : Option Addr} {slOf : Array (Option Value)} {ocOf kVOf dcOf pmOf ctOf cdOf : Value}
    (aOf : PySem.W.nsIn K mainGlobals "_law_of" = some (some (.ref fOf))) (lOf : K.lookup fOf = some ⟨ocOf, odOf, .func (PySem.W.fnOf "_law_of" "_law_of" (defArgs sOf) (defBody sOf) (defScope sOf) .none kVOf dcOf pmOf anOf cdOf ctOf), slOf⟩) (hOf : PySem.W.codeIn K cdOf "_law_of" = true) (kOf : PySem.W.keepIn K (.ref fOf) = true)
    {fK : Addr} {odK anK : Option Addr} {slK : Array (Option Value)} {ocK kVK dcK pmK ctK cdK : Value}
    (aK : PySem.W.nsIn K mainGlobals "_law_kinds" = some (some (.ref fK))) (lK : K.lookup fK = some ⟨ocK, odK, .func (PySem.W.fnOf "_law_kinds" "_law_kinds" (defArgs sKinds) (defBody sKinds) (defScope sKinds) .none kVK dcK pmK anK cdK ctK), slK⟩) (hK : PySem.W.codeIn K cdK "_law_kinds" = true) (kK : PySem.W.keepIn K (.ref fK) = true)
    {fLn : Addr} {odLn anLn : Option Addr} {slLn : Array (Option Value)} {ocLn kVLn dcLn pmLn ctLn cdLn : Value}
    (aLn : PySem.W.nsIn K mainGlobals "_law_names" = some (some (.ref fLn))) (lLn : K.lookup fLn = some ⟨ocLn, odLn, .func (PySem.W.fnOf "_law_names" "_law_names" (defArgs sLNames) (defBody sLNames) (defScope sLNames) .none kVLn dcLn pmLn anLn cdLn ctLn), slLn⟩) (hLn : PySem.W.codeIn K cdLn "_law_names" = true) (kLn : PySem.W.keepIn K (.ref fLn) = true)
    {fTk : Addr} {odTk anTk : Option Addr} {slTk : Array (Option Value)} {ocTk kVTk dcTk pmTk ctTk cdTk : Value}
    (aTk : PySem.W.nsIn K mainGlobals "_law_taken" = some (some (.ref fTk))) (lTk : K.lookup fTk = some ⟨ocTk, odTk, .func (PySem.W.fnOf "_law_taken" "_law_taken" (defArgs sTaken) (defBody sTaken) (defScope sTaken) .none kVTk dcTk pmTk anTk cdTk ctTk), slTk⟩) (hTk : PySem.W.codeIn K cdTk "_law_taken" = true) (kTk : PySem.W.keepIn K (.ref fTk) = true)
    {fLf : Addr} {odLf anLf : Option Addr} {slLf : Array (Option Value)} {ocLf kVLf dcLf pmLf ctLf cdLf : Value}
    (aLf : PySem.W.nsIn K mainGlobals "_law_face" = some (some (.ref fLf))) (lLf : K.lookup fLf = some ⟨ocLf, odLf, .func (PySem.W.fnOf "_law_face" "_law_face" (defArgs sLFace) (defBody sLFace) (defScope sLFace) .none kVLf dcLf pmLf anLf cdLf ctLf), slLf⟩) (hLf : PySem.W.codeIn K cdLf "_law_face" = true) (kLf : PySem.W.keepIn K (.ref fLf) = true)
    {fLu : Addr} {odLu anLu : Option Addr} {slLu : Array (Option Value)} {ocLu kVLu dcLu pmLu ctLu cdLu : Value}
    (aLu : PySem.W.nsIn K mainGlobals "_law_user" = some (some (.ref fLu))) (lLu : K.lookup fLu = some ⟨ocLu, odLu, .func (PySem.W.fnOf "_law_user" "_law_user" (defArgs sLUser) (defBody sLUser) (defScope sLUser) .none kVLu dcLu pmLu anLu cdLu ctLu), slLu⟩) (hLu : PySem.W.codeIn K cdLu "_law_user" = true) (kLu : PySem.W.keepIn K (.ref fLu) = true)
    {fLm : Addr} {odLm anLm : Option Addr} {slLm : Array (Option Value)} {ocLm kVLm dcLm pmLm ctLm cdLm : Value}
    (aLm : PySem.W.nsIn K mainGlobals "_law_may_hand" = some (some (.ref fLm))) (lLm : K.lookup fLm = some ⟨ocLm, odLm, .func (PySem.W.fnOf "_law_may_hand" "_law_may_hand" (defArgs sLMay) (defBody sLMay) (defScope sLMay) .none kVLm dcLm pmLm anLm cdLm ctLm), slLm⟩) (hLm : PySem.W.codeIn K cdLm "_law_may_hand" = true) (kLm : PySem.W.keepIn K (.ref fLm) = true)
    {fLq : Addr} {odLq anLq : Option Addr} {slLq : Array (Option Value)} {ocLq kVLq dcLq pmLq ctLq cdLq : Value}
    (aLq : PySem.W.nsIn K mainGlobals "_law_first_bad" = some (some (.ref fLq))) (lLq : K.lookup fLq = some ⟨ocLq, odLq, .func (PySem.W.fnOf "_law_first_bad" "_law_first_bad" (defArgs sLFirst) (defBody sLFirst) (defScope sLFirst) .none kVLq dcLq pmLq anLq cdLq ctLq), slLq⟩) (hLq : PySem.W.codeIn K cdLq "_law_first_bad" = true) (kLq : PySem.W.keepIn K (.ref fLq) = true)
    {fLs : Addr} {odLs anLs : Option Addr} {slLs : Array (Option Value)} {ocLs kVLs dcLs pmLs ctLs cdLs : Value}
    (aLs : PySem.W.nsIn K mainGlobals "_law_strange" = some (some (.ref fLs))) (lLs : K.lookup fLs = some ⟨ocLs, odLs, .func (PySem.W.fnOf "_law_strange" "_law_strange" (defArgs sStrange) (defBody sStrange) (defScope sStrange) .none kVLs dcLs pmLs anLs cdLs ctLs), slLs⟩) (hLs : PySem.W.codeIn K cdLs "_law_strange" = true) (kLs : PySem.W.keepIn K (.ref fLs) = true)
    {fLd : Addr} {odLd anLd : Option Addr} {slLd : Array (Option Value)} {ocLd kVLd dcLd pmLd ctLd cdLd : Value}
    (aLd : PySem.W.nsIn K mainGlobals "_law_deep" = some (some (.ref fLd))) (lLd : K.lookup fLd = some ⟨ocLd, odLd, .func (PySem.W.fnOf "_law_deep" "_law_deep" (defArgs sDeep) (defBody sDeep) (defScope sDeep) .none kVLd dcLd pmLd anLd cdLd ctLd), slLd⟩) (hLd : PySem.W.codeIn K cdLd "_law_deep" = true) (kLd : PySem.W.keepIn K (.ref fLd) = true)
    {fLp : Addr} {odLp anLp : Option Addr} {slLp : Array (Option Value)} {ocLp kVLp dcLp pmLp ctLp cdLp : Value}
    (aLp : PySem.W.nsIn K mainGlobals "_law_spoilt" = some (some (.ref fLp))) (lLp : K.lookup fLp = some ⟨ocLp, odLp, .func (PySem.W.fnOf "_law_spoilt" "_law_spoilt" (defArgs sSpoilt) (defBody sSpoilt) (defScope sSpoilt) .none kVLp dcLp pmLp anLp cdLp ctLp), slLp⟩) (hLp : PySem.W.codeIn K cdLp "_law_spoilt" = true) (kLp : PySem.W.keepIn K (.ref fLp) = true)
    {fLw : Addr} {odLw anLw : Option Addr} {slLw : Array (Option Value)} {ocLw kVLw dcLw pmLw ctLw cdLw : Value}
    (aLw : PySem.W.nsIn K mainGlobals "_law_refused" = some (some (.ref fLw))) (lLw : K.lookup fLw = some ⟨ocLw, odLw, .func (PySem.W.fnOf "_law_refused" "_law_refused" (defArgs sLRefused) (defBody sLRefused) (defScope sLRefused) .none kVLw dcLw pmLw anLw cdLw ctLw), slLw⟩) (hLw : PySem.W.codeIn K cdLw "_law_refused" = true) (kLw : PySem.W.keepIn K (.ref fLw) = true)
    {fLo : Addr} {odLo anLo : Option Addr} {slLo : Array (Option Value)} {ocLo kVLo dcLo pmLo ctLo cdLo : Value}
    (aLo : PySem.W.nsIn K mainGlobals "_law_one_right" = some (some (.ref fLo))) (lLo : K.lookup fLo = some ⟨ocLo, odLo, .func (PySem.W.fnOf "_law_one_right" "_law_one_right" (defArgs sLOne) (defBody sLOne) (defScope sLOne) .none kVLo dcLo pmLo anLo cdLo ctLo), slLo⟩) (hLo : PySem.W.codeIn K cdLo "_law_one_right" = true) (kLo : PySem.W.keepIn K (.ref fLo) = true)
    {fL : Addr} {odL anL : Option Addr} {slL : Array (Option Value)} {ocL kVL dcL pmL ctL cdL : Value}
    (aL : PySem.W.nsIn K mainGlobals "law" = some (some (.ref fL))) (lL : K.lookup fL = some ⟨ocL, odL, .func (PySem.W.fnOf "law" "law" (defArgs sLaw) (defBody sLaw) (defScope sLaw) .none kVL dcL pmL anL cdL ctL), slL⟩) (hL : PySem.W.codeIn K cdL "law" = true) (kL : PySem.W.keepIn K (.ref fL) = true)
    {tmd : Tok} (cmd : PySem.W.nsIn K mainGlobals "MOST_DEEDS" = some (some (.int 8 tmd)))
    {tmw : Tok} (cmw : PySem.W.nsIn K mainGlobals "MOST_ROWS" = some (some (.int 200 tmw)))
    {cBadRow cBadFace cBadMaking cBadUser cBadSteps cBadLead cToldApart cOutOfPlace cTooGreat cBadPaper cBadProgram cBadModule cRefused cBadUse cBadInput cFaceError : Addr}
    (nBadRow : PySem.W.nsIn K mainGlobals "BadRow" = some (some (.ref cBadRow)))
    (nBadFace : PySem.W.nsIn K mainGlobals "BadFace" = some (some (.ref cBadFace)))
    (nBadMaking : PySem.W.nsIn K mainGlobals "BadMaking" = some (some (.ref cBadMaking)))
    (nBadUser : PySem.W.nsIn K mainGlobals "BadUser" = some (some (.ref cBadUser)))
    (nBadSteps : PySem.W.nsIn K mainGlobals "BadSteps" = some (some (.ref cBadSteps)))
    (nBadLead : PySem.W.nsIn K mainGlobals "BadLead" = some (some (.ref cBadLead)))
    (nToldApart : PySem.W.nsIn K mainGlobals "ToldApart" = some (some (.ref cToldApart)))
    (nOutOfPlace : PySem.W.nsIn K mainGlobals "OutOfPlace" = some (some (.ref cOutOfPlace)))
    (nTooGreat : PySem.W.nsIn K mainGlobals "TooGreat" = some (some (.ref cTooGreat)))
    (nBadPaper : PySem.W.nsIn K mainGlobals "BadPaper" = some (some (.ref cBadPaper)))
    (nBadProgram : PySem.W.nsIn K mainGlobals "BadProgram" = some (some (.ref cBadProgram)))
    (nBadModule : PySem.W.nsIn K mainGlobals "BadModule" = some (some (.ref cBadModule)))
    (nRefused : PySem.W.nsIn K mainGlobals "Refused" = some (some (.ref cRefused)))
    (nBadUse : PySem.W.nsIn K mainGlobals "BadUse" = some (some (.ref cBadUse)))
    (nBadInput : PySem.W.nsIn K mainGlobals "BadInput" = some (some (.ref cBadInput)))
    (nFaceError : PySem.W.nsIn K mainGlobals "FaceError" = some (some (.ref cFaceError)))
    (uBadRow : PySem.W.kitOne K (.ref cBadUser) (.ref cBadRow) = some false)
    (uBadFace : PySem.W.kitOne K (.ref cBadUser) (.ref cBadFace) = some false)
    (uBadMaking : PySem.W.kitOne K (.ref cBadUser) (.ref cBadMaking) = some false)
    (uBadUser : PySem.W.kitOne K (.ref cBadUser) (.ref cBadUser) = some true)
    (uBadSteps : PySem.W.kitOne K (.ref cBadUser) (.ref cBadSteps) = some false)
    (uBadLead : PySem.W.kitOne K (.ref cBadUser) (.ref cBadLead) = some false)
    (uToldApart : PySem.W.kitOne K (.ref cBadUser) (.ref cToldApart) = some false)
    (uOutOfPlace : PySem.W.kitOne K (.ref cBadUser) (.ref cOutOfPlace) = some false)
    (uTooGreat : PySem.W.kitOne K (.ref cBadUser) (.ref cTooGreat) = some false)
    (uBadPaper : PySem.W.kitOne K (.ref cBadUser) (.ref cBadPaper) = some false)
    (uBadProgram : PySem.W.kitOne K (.ref cBadUser) (.ref cBadProgram) = some false)
    (uBadModule : PySem.W.kitOne K (.ref cBadUser) (.ref cBadModule) = some false)
    (uRefused : PySem.W.kitOne K (.ref cBadUser) (.ref cRefused) = some false)
    (uBadUse : PySem.W.kitOne K (.ref cBadUser) (.ref cBadUse) = some false)
    (uBadInput : PySem.W.kitOne K (.ref cBadUser) (.ref cBadInput) = some false)
    (uFaceError : PySem.W.kitOne K (.ref cBadUser) (.ref cFaceError) = some true)
    (uVE : PySem.W.kitOne K (.ref cBadUser) (.type "ValueError") = some true)
    (ueg : PySem.W.findIn K (.ref cBadUser) "__getattribute__" = some (some (.builtin "BaseException.__getattribute__")))
    (uek : PySem.W.findIn K (.ref cBadUser) "__getattr__" = some none)
    (ues : PySem.W.subIn K (.ref cBadUser) (.type "BaseException") = some true)
    (ued : PySem.W.hasDictIn K cBadUser = true)
    (uea : PySem.W.findIn K (.ref cBadUser) "__class__" = some (some (.builtin "object.__class__")))
    (uem : PySem.W.mroIn K cBadUser (.type "object") = some true)
    (ukp : PySem.W.keepIn K (.ref cBadUser) = true)
    (uty : PySem.W.typeIn K (.ref cBadUser) = some (.type "type"))
    (uxm : PySem.W.exmOne K (.ref cBadUser) (.ref cFaceError) = some true)
    (en : PySem.W.specialIn K (.builtin "object.__class__") "__get__" = some (some (.builtin "getset_descriptor.__get__"))) (et : PySem.W.takesIn K (.builtin "object.__class__") = some true)
    (bc : ∃ nm q N bs bm sn sub ab col dd k0 k1 k2 k3 k5, K.lookup cBadUser = some (excClassObj nm q cBadUser N bs bm true sn sub ab col dd k0 k1 k2 k3 k5 "ValueError.__new__") ∧ PySem.HandSPX.refsVE bm = true)
    (bsa : PySem.W.findIn K (.ref cBadUser) "__setattr__" = some (some (.builtin "object.__setattr__")))
    {fBI : Addr} (bi : PySem.W.findIn K (.ref cBadUser) "__init__" = some (some (.ref fBI))) (bt : PySem.W.typeIn K (.ref fBI) = some (.type "function"))
    {bcc bcda : Addr} {boc bkV bdoc bpm bct : Value} {bod ban : Option Addr} {bosl : Array (Option Value)}
    (bl : K.lookup fBI = some ⟨boc, bod, .func (PySem.W.ksFn "__init__" "BadUser.__init__" (defArgs sUserIni) (defBody sUserIni) (defScope sUserIni) .none bkV bdoc bpm ban (.ref bcda) bct bcc), bosl⟩)
    (bh : PySem.W.codeIn K (.ref bcda) "BadUser.__init__" = true)
    {bcl : Value} {bcld : Option Addr} {bcsl : Array (Option Value)} (bce : K.lookup bcc = some ⟨bcl, bcld, .cell (some (.ref cBadUser)), bcsl⟩)
    {bccl : Value} {bcdd : Option Addr} {bvs : Array Value} {bccs : Array (Option Value)} {bfile : Str} {btf : Tok} (bco : K.lookup bcda = some ⟨bccl, bcdd, .fields bvs, bccs⟩) (bv2 : bvs[2]? = some (.str bfile btf)) (bfi : ((l.prog.main.file : Str) == bfile) = true)
    (bmr : PySem.W.mroIn K cBadUser (.ref cBadUser) = some true) (btop : (l.prog.main.scope.names.lookup ("super" : Str)).isSome = false) (bany : PySem.W.nsIn K cStatics "thirdparty.any" = some none)
    (bini : PySem.W.ks_superIn K cBadUser cBadUser "__init__" = some (some (.builtin "ValueError.__init__"))) (bve : PySem.W.subIn K (.ref cBadUser) (.type "ValueError") = some true)
    (bn1 : PySem.W.findIn K (.ref cBadUser) "row" = some none) (bn2 : PySem.W.findIn K (.ref cBadUser) "place" = some none)
    (dNuKt : fNu ≠ fKt)
    (dNuUt : fNu ≠ fUt)
    (dKtUt : fKt ≠ fUt)
    (z_isinstance : PySem.W.nsIn K mainGlobals "isinstance" = some none)
    (z_str : PySem.W.nsIn K mainGlobals "str" = some none)
    (z_int : PySem.W.nsIn K mainGlobals "int" = some none)
    (z_bool : PySem.W.nsIn K mainGlobals "bool" = some none)
    (z_dict : PySem.W.nsIn K mainGlobals "dict" = some none)
    (z_tuple : PySem.W.nsIn K mainGlobals "tuple" = some none)
    (z_len : PySem.W.nsIn K mainGlobals "len" = some none)
    (z_list : PySem.W.nsIn K mainGlobals "list" = some none)
    (z_enumerate : PySem.W.nsIn K mainGlobals "enumerate" = some none)
    (z_range : PySem.W.nsIn K mainGlobals "range" = some none)
    (z_sorted : PySem.W.nsIn K mainGlobals "sorted" = some none)
    (z_repr : PySem.W.nsIn K mainGlobals "repr" = some none)
    (z_max : PySem.W.nsIn K mainGlobals "max" = some none)
    (z_min : PySem.W.nsIn K mainGlobals "min" = some none)
    (z_ValueError : PySem.W.nsIn K mainGlobals "ValueError" = some none)
    (z_super : PySem.W.nsIn K mainGlobals "super" = some none) :
    LawG l w K CX0 11 63 "_law_script" mg fa h := by
  have e := hfa.symm.trans (PySem.W.mg_of X G aL)
  cases e
  have FSh := fun_mk (st := sShown) lSh hSh kSh
  have bSh := (FSh).binds (ps := ["field"]) fun _ _ _ _ _ _ us hl => match us, hl with | [_], _ => rfl
  have gSh := PySem.W.mg_of X G aSh
  have FA := fun_mk (st := sName) lA hA kA
  have bA := (FA).binds (ps := ["thing"]) fun _ _ _ _ _ _ us hl => match us, hl with | [_], _ => rfl
  have gA := PySem.W.mg_of X G aA
  have FB := fun_mk (st := sKind) lB hB kB
  have bB := (FB).binds (ps := ["thing", "hidden"]) fun _ _ _ _ _ _ us hl => match us, hl with | [_, _], _ => rfl
  have gB := PySem.W.mg_of X G aB
  have FC := fun_mk (st := sBadD) lC hC kC
  have bC := (FC).binds (ps := ["deeds", "hidden"]) fun _ _ _ _ _ _ us hl => match us, hl with | [_, _], _ => rfl
  have gC := PySem.W.mg_of X G aC
  have FD := fun_mk (st := sBadH) lD hD kD
  have bD := (FD).binds (ps := ["hidden"]) fun _ _ _ _ _ _ us hl => match us, hl with | [_], _ => rfl
  have gD := PySem.W.mg_of X G aD
  have FE := fun_mk (st := sFault) lE hE kE
  have bE := (FE).binds (ps := ["thing"]) fun _ _ _ _ _ _ us hl => match us, hl with | [_], _ => rfl
  have gE := PySem.W.mg_of X G aE
  have FN := fun_mk (st := sNeed) lN hN kN
  have bN := (FN).binds (ps := ["face"]) fun _ _ _ _ _ _ us hl => match us, hl with | [_], _ => rfl
  have gN := PySem.W.mg_of X G aN
  have FW := fun_mk (st := sWhole) lW hW kW
  have bW := (FW).binds (ps := ["thing"]) fun _ _ _ _ _ _ us hl => match us, hl with | [_], _ => rfl
  have gW := PySem.W.mg_of X G aW
  have FAm := fun_mk (st := sAmong) lAm hAm kAm
  have bAm := (FAm).binds (ps := ["thing", "least", "most"]) fun _ _ _ _ _ _ us hl => match us, hl with | [_, _, _], _ => rfl
  have gAm := PySem.W.mg_of X G aAm
  have FTt := fun_mk (st := sTupOf) lTt hTt kTt
  have bTt := (FTt).binds (ps := ["thing", "least", "most"]) fun _ _ _ _ _ _ us hl => match us, hl with | [_, _, _], _ => rfl
  have gTt := PySem.W.mg_of X G aTt
  have FFi := fun_mk (st := sFind) lFi hFi kFi
  have bFi := (FFi).binds (ps := ["face", "name"]) fun _ _ _ _ _ _ us hl => match us, hl with | [_, _], _ => rfl
  have gFi := PySem.W.mg_of X G aFi
  have FMh := fun_mk (st := sMayH) lMh hMh kMh
  have bMh := (FMh).binds (ps := ["thing", "kind", "given"]) fun _ _ _ _ _ _ us hl => match us, hl with | [_, _, _], _ => rfl
  have gMh := PySem.W.mg_of X G aMh
  have FDo := fun_mk (st := sDeedOR) lDo hDo kDo
  have bDo := (FDo).binds (ps := ["row", "face"]) fun _ _ _ _ _ _ us hl => match us, hl with | [_, _], _ => rfl
  have gDo := PySem.W.mg_of X G aDo
  have FFb := fun_mk (st := sFirstBP) lFb hFb kFb
  have bFb := (FFb).binds (ps := ["handed", "takes", "given"]) fun _ _ _ _ _ _ us hl => match us, hl with | [_, _, _], _ => rfl
  have gFb := PySem.W.mg_of X G aFb
  have FUf := fun_mk (st := sUFault) lUf hUf kUf
  have bUf := (FUf).binds (ps := ["face", "thing"]) fun _ _ _ _ _ _ us hl => match us, hl with | [_, _], _ => rfl
  have gUf := PySem.W.mg_of X G aUf
  have FIu := fun_mk (st := sIsUser) lIu hIu kIu
  have bIu := (FIu).binds (ps := ["face", "thing"]) fun _ _ _ _ _ _ us hl => match us, hl with | [_, _], _ => rfl
  have gIu := PySem.W.mg_of X G aIu
  have FRu := fun_mk (st := sRefU) lRu hRu kRu
  have bRu := (FRu).binds (ps := ["face", "user"]) fun _ _ _ _ _ _ us hl => match us, hl with | [_, _], _ => rfl
  have gRu := PySem.W.mg_of X G aRu
  have FNu := fun_mk (st := sNeedU) lNu hNu kNu
  have bNu := (FNu).binds (ps := ["face", "user"]) fun _ _ _ _ _ _ us hl => match us, hl with | [_, _], _ => rfl
  have gNu := PySem.W.mg_of X G aNu
  have FKt := fun_mk (st := sKindTold) lKt hKt kKt
  have bKt := (FKt).binds (ps := ["face", "user"]) fun _ _ _ _ _ _ us hl => match us, hl with | [_, _], _ => rfl
  have gKt := PySem.W.mg_of X G aKt
  have FUr := fun_mk (st := sURows) lUr hUr kUr
  have bUr := (FUr).binds (ps := ["user"]) fun _ _ _ _ _ _ us hl => match us, hl with | [_], _ => rfl
  have gUr := PySem.W.mg_of X G aUr
  have FUt := fun_mk (st := sUText) lUt hUt kUt
  have bUt := (FUt).binds (ps := ["face", "user"]) fun _ _ _ _ _ _ us hl => match us, hl with | [_, _], _ => rfl
  have gUt := PySem.W.mg_of X G aUt
  have FS1 := fun_mk (st := sStarted) lS1 hS1 kS1
  have bS1 := (FS1).binds (ps := ["_law_script"]) fun _ _ _ _ _ _ us hl => match us, hl with | [_], _ => rfl
  have gS1 := PySem.W.mg_of X G aS1
  have FDr := fun_mk (st := sDrw) lDr hDr kDr
  have bDr := (FDr).binds (ps := ["_law_m", "_law_many"]) fun _ _ _ _ _ _ us hl => match us, hl with | [_, _], _ => rfl
  have gDr := PySem.W.mg_of X G aDr
  have FOf := fun_mk (st := sOf) lOf hOf kOf
  have bOf := (FOf).binds (ps := ["_law_m", "_law_some"]) fun _ _ _ _ _ _ us hl => match us, hl with | [_, _], _ => rfl
  have gOf := PySem.W.mg_of X G aOf
  have FK := fun_mk (st := sKinds) lK hK kK
  have bK := (FK).binds (ps := ["_law_error"]) fun _ _ _ _ _ _ us hl => match us, hl with | [_], _ => rfl
  have gK := PySem.W.mg_of X G aK
  have FLn := fun_mk (st := sLNames) lLn hLn kLn
  have bLn := (FLn).binds (ps := ["_law_m", "_law_many"]) fun _ _ _ _ _ _ us hl => match us, hl with | [_, _], _ => rfl
  have gLn := PySem.W.mg_of X G aLn
  have FTk := fun_mk (st := sTaken) lTk hTk kTk
  have bTk := (FTk).binds (ps := ["_law_m", "_law_hidden"]) fun _ _ _ _ _ _ us hl => match us, hl with | [_, _], _ => rfl
  have gTk := PySem.W.mg_of X G aTk
  have FLf := fun_mk (st := sLFace) lLf hLf kLf
  have bLf := (FLf).binds (ps := ["_law_m", "_law_most"]) fun _ _ _ _ _ _ us hl => match us, hl with | [_, _], _ => rfl
  have gLf := PySem.W.mg_of X G aLf
  have FLu := fun_mk (st := sLUser) lLu hLu kLu
  have bLu := (FLu).binds (ps := ["_law_m", "_law_face_here", "_law_many"]) fun _ _ _ _ _ _ us hl => match us, hl with | [_, _, _], _ => rfl
  have gLu := PySem.W.mg_of X G aLu
  have FLm := fun_mk (st := sLMay) lLm hLm kLm
  have bLm := (FLm).binds (ps := ["_law_thing", "_law_kind", "_law_hidden", "_law_kinds_here"]) fun _ _ _ _ _ _ us hl => match us, hl with | [_, _, _, _], _ => rfl
  have gLm := PySem.W.mg_of X G aLm
  have FLq := fun_mk (st := sLFirst) lLq hLq kLq
  have bLq := (FLq).binds (ps := ["_law_face_here", "_law_user_here"]) fun _ _ _ _ _ _ us hl => match us, hl with | [_, _], _ => rfl
  have gLq := PySem.W.mg_of X G aLq
  have FLs := fun_mk (st := sStrange) lLs hLs kLs
  have bLs := (FLs).binds (ps := ["_law_m", "_law_number", "_law_kinds_here", "_law_most"]) fun _ _ _ _ _ _ us hl => match us, hl with | [_, _, _, _], _ => rfl
  have gLs := PySem.W.mg_of X G aLs
  have FLd := fun_mk (st := sDeep) lLd hLd kLd
  have bLd := (FLd).binds (ps := ["_law_many"]) fun _ _ _ _ _ _ us hl => match us, hl with | [_], _ => rfl
  have gLd := PySem.W.mg_of X G aLd
  have FLp := fun_mk (st := sSpoilt) lLp hLp kLp
  have bLp := (FLp).binds (ps := ["_law_m", "_law_face_here", "_law_user_here"]) fun _ _ _ _ _ _ us hl => match us, hl with | [_, _, _], _ => rfl
  have gLp := PySem.W.mg_of X G aLp
  have FLw := fun_mk (st := sLRefused) lLw hLw kLw
  have bLw := (FLw).binds (ps := ["_law_deed", "_law_face_here", "_law_thing"]) fun _ _ _ _ _ _ us hl => match us, hl with | [_, _, _], _ => rfl
  have gLw := PySem.W.mg_of X G aLw
  have FLo := fun_mk (st := sLOne) lLo hLo kLo
  have bLo := (FLo).binds (ps := ["_law_face_here", "_law_thing"]) fun _ _ _ _ _ _ us hl => match us, hl with | [_, _], _ => rfl
  have gLo := PySem.W.mg_of X G aLo
  have FL := fun_mk (st := sLaw) lL hL kL
  have bL := (FL).binds (ps := ["_law_script"]) fun _ _ _ _ _ _ us hl => match us, hl with | [_], _ => rfl
  have gL := PySem.W.mg_of X G aL
  have m_isinstance := PySem.W.mg_none_of X G z_isinstance
  have m_str := PySem.W.mg_none_of X G z_str
  have m_int := PySem.W.mg_none_of X G z_int
  have m_bool := PySem.W.mg_none_of X G z_bool
  have m_dict := PySem.W.mg_none_of X G z_dict
  have m_tuple := PySem.W.mg_none_of X G z_tuple
  have m_len := PySem.W.mg_none_of X G z_len
  have m_list := PySem.W.mg_none_of X G z_list
  have m_enumerate := PySem.W.mg_none_of X G z_enumerate
  have m_range := PySem.W.mg_none_of X G z_range
  have m_sorted := PySem.W.mg_none_of X G z_sorted
  have m_repr := PySem.W.mg_none_of X G z_repr
  have m_max := PySem.W.mg_none_of X G z_max
  have m_min := PySem.W.mg_none_of X G z_min
  have m_ValueError := PySem.W.mg_none_of X G z_ValueError
  have m_super := PySem.W.mg_none_of X G z_super
  have mmd := PySem.W.mg_of X G cmd
  have mmw := PySem.W.mg_of X G cmw
  have KF : Kxs K mg cBadUser bsUser := ⟨⟨ueg, uek, ues, ued, uea, en, et, uem⟩, rfl, ⟨_, PySem.W.mg_of X G nBadRow, uBadRow⟩, ⟨_, PySem.W.mg_of X G nBadFace, uBadFace⟩, ⟨_, PySem.W.mg_of X G nBadMaking, uBadMaking⟩, ⟨_, PySem.W.mg_of X G nBadUser, uBadUser⟩, ⟨_, PySem.W.mg_of X G nBadSteps, uBadSteps⟩, ⟨_, PySem.W.mg_of X G nBadLead, uBadLead⟩, ⟨_, PySem.W.mg_of X G nToldApart, uToldApart⟩, ⟨_, PySem.W.mg_of X G nOutOfPlace, uOutOfPlace⟩, ⟨_, PySem.W.mg_of X G nTooGreat, uTooGreat⟩, ⟨_, PySem.W.mg_of X G nBadPaper, uBadPaper⟩, ⟨_, PySem.W.mg_of X G nBadProgram, uBadProgram⟩, ⟨_, PySem.W.mg_of X G nBadModule, uBadModule⟩, ⟨_, PySem.W.mg_of X G nRefused, uRefused⟩, ⟨_, PySem.W.mg_of X G nBadUse, uBadUse⟩, ⟨_, PySem.W.mg_of X G nBadInput, uBadInput⟩, uVE, ⟨_, PySem.W.mg_of X G nFaceError, uFaceError⟩, rfl⟩
  have TO : OexC K cBadUser := ⟨bc, bsa, ues, uty, ukp⟩
  have TW : OneU K mg cBadUser cFaceError := ⟨PySem.W.mg_of X G nFaceError, uxm, KF, ⟨ueg, uek, ues, ued⟩, bn1, bn2⟩
  refine ⟨PySem.W.fnOf "law" "law" (defArgs sLaw) (defBody sLaw) (defScope sLaw) .none kVL dcL pmL anL cdL ctL, [], spLaw K, ?_, ?_, ?_, fun s v => .of_eq rfl, ?_, ?_⟩
  · intro p hp
    cases hp
  · intro p hp
    cases hp
  · intro p hp
    cases hp
  · intro H a ns hl hH hS
    exact ⟨a, ns, rfl, hS, hl, fun _ => rfl⟩
  · intro base KB NB TB
    have OSh : FnOk l.prog w K mg base CX0 1 fSh _ ["field"] spShown := ok_shown FSh m_isinstance m_int m_str
    have OBI := ok_userIni (P := l.prog) (w := w) (base := base) (k := 0) bl bh ⟨TO, ⟨_, _, _, bce⟩, ⟨_, _, _, _, _, _, bco, bv2, bfi⟩, bmr, m_super, btop, bany, bini, bve⟩ ⟨OSh, gSh, kSh, bSh⟩ bn1 bn2
    have BB : Bad2 l.prog w K mg base 4 "BadUser" "row" "place" cBadUser fBI _ := ⟨TO, bi, bt, OBI.mono (by decide), init_binds, PySem.W.mg_of X G nBadUser⟩
    have OA := ok_name (P := l.prog) (w := w) (base := base) (k := 0) FA m_isinstance m_str m_len
    have OB := ok_kind (P := l.prog) (w := w) (base := base) (k := 0) FB m_isinstance m_str m_int
    have OD := ok_badH (P := l.prog) (w := w) (base := base) (k := 0) FD ⟨OA.mono (by decide), gA, kA, bA⟩ m_enumerate
    have OC := ok_badD (P := l.prog) (w := w) (base := base) (k := 0) FC ⟨OB.mono (by decide), gB, kB, bB⟩ m_enumerate m_isinstance m_str m_int m_tuple m_len
    have OE := ok_fault (P := l.prog) (w := w) (base := base) (k := 0) FE ⟨OD.mono (by decide), gD, kD, bD⟩ ⟨OC.mono (by decide), gC, kC, bC⟩ m_isinstance m_tuple m_len mmd
    have ON := ok_need (P := l.prog) (w := w) (base := base) (k := 0) FN ⟨OE.mono (by decide), gE, kE, bE⟩
    have OW := ok_whole (P := l.prog) (w := w) (base := base) (k := 0) FW m_isinstance m_int
    have OAm := ok_among (P := l.prog) (w := w) (base := base) (k := 0) FAm ⟨OW.mono (by decide), gW, kW, bW⟩
    have OTt := ok_tupD (P := l.prog) (w := w) (base := base) (k := 0) FTt m_isinstance m_tuple m_len
    have OFi := ok_find (P := l.prog) (w := w) (base := base) (k := 0) FFi m_isinstance m_str m_enumerate
    have OMh := ok_mayD (P := l.prog) (w := w) (base := base) (k := 2) FMh ⟨OW.mono (by decide), gW, kW, bW⟩ ⟨OAm.mono (by decide), gAm, kAm, bAm⟩ m_len
    have ODo := ok_dorD (P := l.prog) (w := w) (base := base) (k := 1) FDo ⟨OTt.mono (by decide), gTt, kTt, bTt⟩ ⟨OFi.mono (by decide), gFi, kFi, bFi⟩ m_len
    have OFb := ok_fbpD (P := l.prog) (w := w) (base := base) (k := 3) FFb ⟨OMh.mono (by decide), gMh, kMh, bMh⟩ m_enumerate
    have OUf := ok_ufaultD (P := l.prog) (w := w) (base := base) (k := 4) FUf ⟨OTt.mono (by decide), gTt, kTt, bTt⟩ ⟨ODo.mono (by decide), gDo, kDo, bDo⟩ ⟨OFb.mono (by decide), gFb, kFb, bFb⟩ m_enumerate mmw
    have OIu := ok_isU (P := l.prog) (w := w) (base := base) (k := 5) FIu ⟨ON.mono (by decide), gN, kN, bN⟩ ⟨OUf.mono (by decide), gUf, kUf, bUf⟩
    have ORu := ok_refUX (P := l.prog) (w := w) (base := base) (k := 4) FRu ⟨OUf.mono (by decide), gUf, kUf, bUf⟩ BB
    have ONu := ok_needUX (P := l.prog) (w := w) (base := base) (k := 6) FNu ⟨ON.mono (by decide), gN, kN, bN⟩ ⟨ORu.mono (by decide), gRu, kRu, bRu⟩
    have OKt := ok_kindToldX (P := l.prog) (w := w) (base := base) (k := 7) FKt ⟨ONu.mono (by decide), gNu, kNu, bNu⟩ ⟨OFi.mono (by decide), gFi, kFi, bFi⟩
    have OUr := ok_urows (P := l.prog) (w := w) (base := base) (k := 0) FUr m_str
    have OUt := ok_utextX (P := l.prog) (w := w) (base := base) (k := 7) FUt ⟨ONu.mono (by decide), gNu, kNu, bNu⟩ ⟨OUr.mono (by decide), gUr, kUr, bUr⟩
    have OS1 := ok_started (P := l.prog) (w := w) (base := base) (k := 0) (mg := mg) FS1
    have ODr := ok_drw (P := l.prog) (w := w) (base := base) (k := 0) FDr m_len
    have OOf := ok_of (P := l.prog) (w := w) (base := base) (k := 1) FOf ⟨ODr.mono (by decide), gDr, kDr, bDr⟩ m_len
    have OLn := ok_lnames (P := l.prog) (w := w) (base := base) (k := 2) FLn ⟨ODr.mono (by decide), gDr, kDr, bDr⟩ ⟨OOf.mono (by decide), gOf, kOf, bOf⟩ m_len m_range m_sorted
    have OTk := ok_taken (P := l.prog) (w := w) (base := base) (k := 2) FTk ⟨ODr.mono (by decide), gDr, kDr, bDr⟩ ⟨OOf.mono (by decide), gOf, kOf, bOf⟩ m_len m_range m_tuple
    have OLf := ok_lface (P := l.prog) (w := w) (base := base) (k := 3) FLf ⟨ODr.mono (by decide), gDr, kDr, bDr⟩ ⟨OOf.mono (by decide), gOf, kOf, bOf⟩ ⟨OLn.mono (by decide), gLn, kLn, bLn⟩ ⟨OTk.mono (by decide), gTk, kTk, bTk⟩ m_len m_enumerate m_tuple m_list
    have OLu := ok_luser (P := l.prog) (w := w) (base := base) (k := 2) FLu ⟨ODr.mono (by decide), gDr, kDr, bDr⟩ ⟨OOf.mono (by decide), gOf, kOf, bOf⟩ m_range m_enumerate m_tuple
    have OK : FnOk l.prog w K mg base CX0 8 fK _ ["_law_error"] (spKinds K mg) := ok_kinds FK m_isinstance m_ValueError
    have OLm := ok_lmayD (P := l.prog) (w := w) (base := base) (k := 0) FLm m_isinstance m_bool m_int m_len
    have OLq := ok_lfst (P := l.prog) (w := w) (base := base) (k := 1) FLq ⟨OLm.mono (by decide), gLm, kLm, bLm⟩ m_isinstance m_str m_dict m_enumerate m_len m_tuple
    have OLs := ok_strange (P := l.prog) (w := w) (base := base) (k := 2) FLs ⟨OOf.mono (by decide), gOf, kOf, bOf⟩ m_len m_range
    have OLd := ok_deep (P := l.prog) (w := w) (base := base) (k := 0) FLd m_range
    have OLp := ok_spoilt (P := l.prog) (w := w) (base := base) (k := 3) FLp ⟨ODr.mono (by decide), gDr, kDr, bDr⟩ ⟨OOf.mono (by decide), gOf, kOf, bOf⟩ ⟨OLs.mono (by decide), gLs, kLs, bLs⟩ ⟨OLd.mono (by decide), gLd, kLd, bLd⟩ m_len m_list
    have HA : ∀ g sp, S3 K cBadUser fNu fKt fUt g sp → HeldX l.prog w K mg base 8 g sp := by
      intro g sp h
      rcases h with ⟨e1, e2⟩ | ⟨e1, e2⟩ | ⟨e1, e2⟩
      · rw [e1, e2]
        exact ⟨⟨_, _, ONu.mono (by decide), kNu, bNu⟩⟩
      · rw [e1, e2]
        exact ⟨⟨_, _, OKt.mono (by decide), kKt, bKt⟩⟩
      · rw [e1, e2]
        exact ⟨⟨_, _, OUt.mono (by decide), kUt, bUt⟩⟩
    have OLw := ok_lref (P := l.prog) (w := w) (base := base) (k := 8) FLw HA ⟨OK.mono (by decide), gK, kK, bK⟩ TW m_isinstance
    have OLo := ok_lone (P := l.prog) (w := w) (base := base) (k := 9) FLo ⟨OLq.mono (by decide), gLq, kLq, bLq⟩ ⟨OIu.mono (by decide), gIu, kIu, bIu⟩ ⟨OLw.mono (by decide), gLw, kLw, bLw⟩ gNu gKt gUt dNuKt dNuUt dKtUt m_isinstance m_tuple m_len m_repr
    exact ok_law (k := 10) FL ⟨⟨OS1.mono (by decide), gS1, kS1, bS1⟩, ⟨ODr.mono (by decide), gDr, kDr, bDr⟩, ⟨OLf.mono (by decide), gLf, kLf, bLf⟩, ⟨OLu.mono (by decide), gLu, kLu, bLu⟩, ⟨OOf.mono (by decide), gOf, kOf, bOf⟩, ⟨OLp.mono (by decide), gLp, kLp, bLp⟩, ⟨OLd.mono (by decide), gLd, kLd, bLd⟩, OLo, gLo, kLo, bLo, m_len, m_range, m_max, m_min, m_list, m_repr⟩
end SfC
open PySem PySem.W PyProof.Rows
set_option maxRecDepth 100000 in
set_option maxHeartbeats 0 in
theorem PySem.Challenge.cw_sameface_k18_which_are_users_holds : PySem.Challenge.rw_sameface_k18_which_are_users.Holds := by
  w_on; o_law; k_head; (case hw => w_witness2)
  k_fill
  refine SfG.walk_G (l := PySem.Challenge.rw_sameface_k18_which_are_users) (n := 63) (k := 11) (x := "_law_script") (CX := fun _ => L2.CX0) rfl (by decide) rfl ⟨rfl, by decide, by decide⟩ (fun w h Y => PySem.W.kIn_of Y) ?F (fun _ _ _ _ _ h => h)
  case F =>
    intro w mg fa h KX G hmg T
    refine' SfC.all_mk KX G hmg ?aSh ?lSh ?hSh ?kSh ?aA ?lA ?hA ?kA ?aB ?lB ?hB ?kB ?aC ?lC ?hC ?kC ?aD ?lD ?hD ?kD ?aE ?lE ?hE ?kE ?aN ?lN ?hN ?kN ?aW ?lW ?hW ?kW ?aAm ?lAm ?hAm ?kAm ?aTt ?lTt ?hTt ?kTt ?aFi ?lFi ?hFi ?kFi ?aMh ?lMh ?hMh ?kMh ?aDo ?lDo ?hDo ?kDo ?aFb ?lFb ?hFb ?kFb ?aUf ?lUf ?hUf ?kUf ?aIu ?lIu ?hIu ?kIu ?aRu ?lRu ?hRu ?kRu ?aNu ?lNu ?hNu ?kNu ?aKt ?lKt ?hKt ?kKt ?aUr ?lUr ?hUr ?kUr ?aUt ?lUt ?hUt ?kUt ?aS1 ?lS1 ?hS1 ?kS1 ?aDr ?lDr ?hDr ?kDr ?aOf ?lOf ?hOf ?kOf ?aK ?lK ?hK ?kK ?aLn ?lLn ?hLn ?kLn ?aTk ?lTk ?hTk ?kTk ?aLf ?lLf ?hLf ?kLf ?aLu ?lLu ?hLu ?kLu ?aLm ?lLm ?hLm ?kLm ?aLq ?lLq ?hLq ?kLq ?aLs ?lLs ?hLs ?kLs ?aLd ?lLd ?hLd ?kLd ?aLp ?lLp ?hLp ?kLp ?aLw ?lLw ?hLw ?kLw ?aLo ?lLo ?hLo ?kLo ?aL ?lL ?hL ?kL ?cmd ?cmw ?nBadRow ?nBadFace ?nBadMaking ?nBadUser ?nBadSteps ?nBadLead ?nToldApart ?nOutOfPlace ?nTooGreat ?nBadPaper ?nBadProgram ?nBadModule ?nRefused ?nBadUse ?nBadInput ?nFaceError ?uBadRow ?uBadFace ?uBadMaking ?uBadUser ?uBadSteps ?uBadLead ?uToldApart ?uOutOfPlace ?uTooGreat ?uBadPaper ?uBadProgram ?uBadModule ?uRefused ?uBadUse ?uBadInput ?uFaceError ?uVE ?ueg ?uek ?ues ?ued ?uea ?uem ?ukp ?uty ?uxm ?en ?et ?bc ?bsa ?bi ?bt ?bl ?bh ?bce ?bco ?bv2 ?bfi ?bmr ?btop ?bany ?bini ?bve ?bn1 ?bn2 ?dNuKt ?dNuUt ?dKtUt ?z_isinstance ?z_str ?z_int ?z_bool ?z_dict ?z_tuple ?z_len ?z_list ?z_enumerate ?z_range ?z_sorted ?z_repr ?z_max ?z_min ?z_ValueError ?z_super
    (case aSh => k_is)
    (case lSh => k_is)
    (case hSh => k_is)
    (case kSh => k_is)
    (case aA => k_is)
    (case lA => k_is)
    (case hA => k_is)
    (case kA => k_is)
    (case aB => k_is)
    (case lB => k_is)
    (case hB => k_is)
    (case kB => k_is)
    (case aC => k_is)
    (case lC => k_is)
    (case hC => k_is)
    (case kC => k_is)
    (case aD => k_is)
    (case lD => k_is)
    (case hD => k_is)
    (case kD => k_is)
    (case aE => k_is)
    (case lE => k_is)
    (case hE => k_is)
    (case kE => k_is)
    (case aN => k_is)
    (case lN => k_is)
    (case hN => k_is)
    (case kN => k_is)
    (case aW => k_is)
    (case lW => k_is)
    (case hW => k_is)
    (case kW => k_is)
    (case aAm => k_is)
    (case lAm => k_is)
    (case hAm => k_is)
    (case kAm => k_is)
    (case aTt => k_is)
    (case lTt => k_is)
    (case hTt => k_is)
    (case kTt => k_is)
    (case aFi => k_is)
    (case lFi => k_is)
    (case hFi => k_is)
    (case kFi => k_is)
    (case aMh => k_is)
    (case lMh => k_is)
    (case hMh => k_is)
    (case kMh => k_is)
    (case aDo => k_is)
    (case lDo => k_is)
    (case hDo => k_is)
    (case kDo => k_is)
    (case aFb => k_is)
    (case lFb => k_is)
    (case hFb => k_is)
    (case kFb => k_is)
    (case aUf => k_is)
    (case lUf => k_is)
    (case hUf => k_is)
    (case kUf => k_is)
    (case aIu => k_is)
    (case lIu => k_is)
    (case hIu => k_is)
    (case kIu => k_is)
    (case aRu => k_is)
    (case lRu => k_is)
    (case hRu => k_is)
    (case kRu => k_is)
    (case aNu => k_is)
    (case lNu => k_is)
    (case hNu => k_is)
    (case kNu => k_is)
    (case aKt => k_is)
    (case lKt => k_is)
    (case hKt => k_is)
    (case kKt => k_is)
    (case aUr => k_is)
    (case lUr => k_is)
    (case hUr => k_is)
    (case kUr => k_is)
    (case aUt => k_is)
    (case lUt => k_is)
    (case hUt => k_is)
    (case kUt => k_is)
    (case aS1 => k_is)
    (case lS1 => k_is)
    (case hS1 => k_is)
    (case kS1 => k_is)
    (case aDr => k_is)
    (case lDr => k_is)
    (case hDr => k_is)
    (case kDr => k_is)
    (case aOf => k_is)
    (case lOf => k_is)
    (case hOf => k_is)
    (case kOf => k_is)
    (case aK => k_is)
    (case lK => k_is)
    (case hK => k_is)
    (case kK => k_is)
    (case aLn => k_is)
    (case lLn => k_is)
    (case hLn => k_is)
    (case kLn => k_is)
    (case aTk => k_is)
    (case lTk => k_is)
    (case hTk => k_is)
    (case kTk => k_is)
    (case aLf => k_is)
    (case lLf => k_is)
    (case hLf => k_is)
    (case kLf => k_is)
    (case aLu => k_is)
    (case lLu => k_is)
    (case hLu => k_is)
    (case kLu => k_is)
    (case aLm => k_is)
    (case lLm => k_is)
    (case hLm => k_is)
    (case kLm => k_is)
    (case aLq => k_is)
    (case lLq => k_is)
    (case hLq => k_is)
    (case kLq => k_is)
    (case aLs => k_is)
    (case lLs => k_is)
    (case hLs => k_is)
    (case kLs => k_is)
    (case aLd => k_is)
    (case lLd => k_is)
    (case hLd => k_is)
    (case kLd => k_is)
    (case aLp => k_is)
    (case lLp => k_is)
    (case hLp => k_is)
    (case kLp => k_is)
    (case aLw => k_is)
    (case lLw => k_is)
    (case hLw => k_is)
    (case kLw => k_is)
    (case aLo => k_is)
    (case lLo => k_is)
    (case hLo => k_is)
    (case kLo => k_is)
    (case aL => k_is)
    (case lL => k_is)
    (case hL => k_is)
    (case kL => k_is)
    (case cmd => k_is)
    (case cmw => k_is)
    (case nBadRow => k_is)
    (case nBadFace => k_is)
    (case nBadMaking => k_is)
    (case nBadUser => k_is)
    (case nBadSteps => k_is)
    (case nBadLead => k_is)
    (case nToldApart => k_is)
    (case nOutOfPlace => k_is)
    (case nTooGreat => k_is)
    (case nBadPaper => k_is)
    (case nBadProgram => k_is)
    (case nBadModule => k_is)
    (case nRefused => k_is)
    (case nBadUse => k_is)
    (case nBadInput => k_is)
    (case nFaceError => k_is)
    (case uBadRow => first | k_is | decide +kernel | exact rfl)
    (case uBadFace => first | k_is | decide +kernel | exact rfl)
    (case uBadMaking => first | k_is | decide +kernel | exact rfl)
    (case uBadUser => first | k_is | decide +kernel | exact rfl)
    (case uBadSteps => first | k_is | decide +kernel | exact rfl)
    (case uBadLead => first | k_is | decide +kernel | exact rfl)
    (case uToldApart => first | k_is | decide +kernel | exact rfl)
    (case uOutOfPlace => first | k_is | decide +kernel | exact rfl)
    (case uTooGreat => first | k_is | decide +kernel | exact rfl)
    (case uBadPaper => first | k_is | decide +kernel | exact rfl)
    (case uBadProgram => first | k_is | decide +kernel | exact rfl)
    (case uBadModule => first | k_is | decide +kernel | exact rfl)
    (case uRefused => first | k_is | decide +kernel | exact rfl)
    (case uBadUse => first | k_is | decide +kernel | exact rfl)
    (case uBadInput => first | k_is | decide +kernel | exact rfl)
    (case uFaceError => first | k_is | decide +kernel | exact rfl)
    (case uVE => first | k_is | decide +kernel | exact rfl)
    (case ueg => first | k_is | decide +kernel | exact rfl)
    (case uek => first | k_is | decide +kernel | exact rfl)
    (case ues => first | k_is | decide +kernel | exact rfl)
    (case ued => first | k_is | decide +kernel | exact rfl)
    (case uea => first | k_is | decide +kernel | exact rfl)
    (case uem => first | k_is | decide +kernel | exact rfl)
    (case ukp => first | k_is | decide +kernel | exact rfl)
    (case uty => first | k_is | decide +kernel | exact rfl)
    (case uxm => first | k_is | decide +kernel | exact rfl)
    (case en => first | k_is | decide +kernel | exact rfl)
    (case et => first | k_is | decide +kernel | exact rfl)
    (case bc => refine' ⟨_, _, _, _, _, _, _, _, _, _, _, _, _, _, _, ?bc1, ?bc2⟩; (case bc1 => first | k_is | exact rfl); (case bc2 => first | exact rfl | decide +kernel))
    (case bsa => first | k_is | decide +kernel | exact rfl)
    (case bi => k_is)
    (case bt => first | k_is | decide +kernel | exact rfl)
    (case bl => k_is)
    (case bh => k_is)
    (case bce => k_is)
    (case bco => k_is)
    (case bv2 => first | exact rfl | k_is)
    (case bfi => first | exact rfl | decide +kernel)
    (case bmr => first | k_is | decide +kernel | exact rfl)
    (case btop => first | exact rfl | decide +kernel)
    (case bany => k_is)
    (case bini => ks_is)
    (case bve => first | k_is | decide +kernel | exact rfl)
    (case bn1 => first | k_is | decide +kernel | exact rfl)
    (case bn2 => first | k_is | decide +kernel | exact rfl)
    (case dNuKt => first | decide | decide +kernel)
    (case dNuUt => first | decide | decide +kernel)
    (case dKtUt => first | decide | decide +kernel)
    (case z_isinstance => k_is)
    (case z_str => k_is)
    (case z_int => k_is)
    (case z_bool => k_is)
    (case z_dict => k_is)
    (case z_tuple => k_is)
    (case z_len => k_is)
    (case z_list => k_is)
    (case z_enumerate => k_is)
    (case z_range => k_is)
    (case z_sorted => k_is)
    (case z_repr => k_is)
    (case z_max => k_is)
    (case z_min => k_is)
    (case z_ValueError => k_is)
    (case z_super => k_is)
