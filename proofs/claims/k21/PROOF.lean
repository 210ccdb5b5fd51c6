import PyProof.Rows.All
import Wide.All
import OpenK.AllK
import Wide.FinOn
import HandS.ForMost
import HandS.Walk
import HandS.Wide
import HandS.IsInst
import HandS.AnyAll
import HandS.Replace
import HandS.EndTab
import HandS.RaiseMore
import HandS.TupLe
import PyProof.ReprRoads
import PyProof.StrOps2
import HandS.TupAny
import HandS.ForExc
import HandS.ExcIs
import HandS.ExcValue
import KE.GoesEnum
import KE.GoesMore
import PyProof.DictUpdate
import PyProof.ListIndex
import PyProof.FactsAll.bool_1
import HandS.StrMore
import HandS.Style
import HandS.TupSets
import HandS.SortOrd
import PyProof.Rows.SortKeyStr
import PyProof.FactsAll.bool_2
import PyProof.EqKinds
import HandS.Zip
import HandS.Strs
import PyProof.TupleOfSeq
import KE.KEqSeq
import PyProof.EqLayable
import HandS.Conv
import PyProof.NeKinds
import PyProof.StrLawsRepr
import HandS.Text
import HandS.Flow
import PySem.Challenge.RW_sameface_k21_outcomes
set_option Elab.async false
set_option linter.all false
set_option maxRecDepth 100000
/-! calls made where no repr is under way; repr of lists; all(..) over a text with a module's name in its test; the law's end -/
namespace SfG
open PySem PySem.Spec PyProof.Rows L2
/-! ### a def's promise where no repr is under way -/
structure FnG (P : Program) (w : World) (K : PySem.W.Frag) (mg : Str → Option Value) (base : Heap)
    (CX : CXT) (k : Nat) (f : Addr) (fd : FuncData) (ps : List Str) (sp : Sp) : Prop where
  size : ∀ vs H Q E, sp vs H Q E → vs.length = ps.length
  goes : ∀ (A : Around) (outer : List Env) (s : Shared) (H : Hp) (args : Args) (us : List Value)
    (vs : List V) (Q : VK) (E : XK), Room k A → A.guards = some [] → Env0 P w K mg base A outer s H →
    BindsTo s fd args (ps.zip us) → Vals vs us → sp vs H Q E →
    codeAny (model P w) A (.call (.ref f) args) (CR CX outer P w H s Q E) s
section
variable {P : Program} {w : World} {K : PySem.W.Frag} {mg : Str → Option Value} {base : Heap}
/-- a def by its body, where no repr is under way -/
theorem fng_of {x qual : Str} {st : Stmt} {f : Addr} {fd : FuncData} {N ps : List Str} {k : Nat} {sp : Sp}
    (F : Fun K x qual st f fd) (S : FnScope N ps (defScope st)) (len : ∀ vs H Q E, sp vs H Q E → vs.length = ps.length)
    (hbody : ∀ (cdv : Value) (A : Around) (outer : List Env) (s : Shared) (H : Hp) (vs : List V) (Q : VK) (E : XK),
      Room k (A.deeper (envOfC qual (defScope st) s.heap.objs.size f cdv)) → A.guards = some [] → sp vs H Q E →
      ∃ t, PSs (cxOf CX0 P w K mg base N qual (defScope st) f cdv A outer s H E).nox (defBody st) t ∧
        t { nx := fun _ H' => Q .non H', rt := Q } (start N vs) H) :
    FnG P w K mg base CX0 (k + 1) f fd ps sp := by
  obtain ⟨oc, od, kV, doc, pm, an, cdv, ct, osl, rfl, lk, hcd⟩ := F.ex
  refine ⟨len, ?_⟩
  intro A outer s H args us vs Q E hr hgd e0 hb r hsp
  refine LamX.run_ofS lk hcd S hr e0 hb r (len _ _ _ _ hsp) ?_
  intro hr'
  obtain ⟨t, h, q⟩ := hbody cdv A outer s H vs Q E hr' hgd hsp
  exact ⟨t, h.nox, q⟩
end
section
variable {X : Cx} {CX : CXT} {k : Nat} {f : Addr} {fd : FuncData} {ps : List Str} {sp : Sp} {dvs : List V}
  {ds : List Value} {E : XK} {x : Str} {p pos : Pos} {e : Expr} {es : List Expr} {t : TA}
theorem run_fng {pins : List (Addr × Obj)} {σ : L2.St} {H : Hp} {s : Shared} {Q : VK} {us : List Value} {vs : List V}
    (F : FnG X.prog X.w X.K X.mg X.base CX k f fd ps sp) (hr : Room k X.A) (hgd : X.A.guards = some [])
    (hb : Binds X.K fd ps ds) (hd : Vals dvs ds) (hx : Passes CX X E) (I : L2.Inv X pins σ H s) (r : Vals vs us)
    (h : sp (vs ++ dvs) H Q E) : wpAny (model X.prog X.w) X.A (call (.ref f) us) (EP X pins σ Q) X.xe s := by
  have r2 := r.append hd
  have hl : (us ++ ds).length = ps.length := r2.length.symm.trans (F.size _ _ _ _ h)
  have go := F.goes X.A X.stack s H ⟨us, []⟩ _ _ Q E hr hgd I.env0 (hb s us I.kIn hl) r2 h
  refine wpAny_call (codeAny_mono go ?_)
  intro res s' hq
  match res, hq with
  | .error e, hq => exact hx pins σ H s e s' I hq
  | .ok (.ret u), hq => exact I.after hq
  | .ok .next, hq => exact False.elim hq
  | .ok .brk, hq => exact False.elim hq
  | .ok .cont, hq => exact False.elim hq
theorem pe_callG (F : FnG X.prog X.w X.K X.mg X.base CX k f fd ps sp) (hr : Room k X.A) (hgd : X.A.guards = some [])
    (hg : Gl X x) (hm : X.mg x = some (.ref f)) (hk : PySem.W.keepIn X.K (.ref f) = true)
    (hb : Binds X.K fd ps ds) (hd : Vals dvs ds) (hx : Passes CX X E) (ha : PA X (e :: es) t)
    (hdb : (x == ("__debug__" : Str)) = false := by decide)
    (he : starEach (e :: es) X.env = (false, eval e X.env) :: starEach es X.env := by rfl)
    (hpl : (backTo pos (starEach es X.env)).any (·.1) = false := by rfl) :
    PE X (.Call (.Name x p) (e :: es) [] pos) (tCall sp dvs E t) := by
  constructor
  intro pins s σ H Q I h
  refine wpAny_Call_Name_kw (ld_glob I hg hm ?_ hdb)
  refine PySem.W.callWith_K (h₀ := X.base) I.ok.mod.kin hk ?_ he hpl
  refine thn (ha.run pos pins s σ H _ I h) ?_
  rintro us s1 ⟨vs, H1, I1, r, q⟩
  exact ⟨I1.kIn, run_fng F hr hgd hb hd hx I1 r q⟩
end
/-! ### repr of a list or a tuple of plain data -/
def rRepr (K : PySem.W.Frag) : List V → Hp → VK → Prop := fun xs H Q =>
  ∃ (a : Addr) (d : PyData) (S : Str), xs = [.ref a] ∧ Dp K H (.ref a) d ∧ d.showable = true ∧ d.hasDict = false ∧
    d.depth ≤ 30 ∧ d.shown = S ∧ S.length ≤ sizeLine ∧ Q (.str S) H
theorem call_repr {X : Cx} {k : Nat} (hr : Room k X.A) (hgd : X.A.guards = some []) :
    CallR X (.builtin "repr") (rRepr X.K) := by
  intro pins s σ H xs us Q I r h
  obtain ⟨a, d, S, rfl, hd, hs, hn, hdep, rfl, hz, q⟩ := h
  obtain ⟨u, rfl, ru⟩ := vals1 r
  cases (show u = Value.ref a from ru)
  obtain ⟨as, rd⟩ := Dp.reads I d _ _ hd (show RelV (.ref a) (.ref a) from rfl)
  have hun := hr.un
  refine repr_of_reads' rd hs (fun z => ?_) hgd (by omega) (fun _ _ z => z) (fun h' u' tk hk => ?_) hz
  · rw [hn] at z
    cases z
  · exact ⟨.str d.shown, H, I.kept hk, ⟨_, rfl⟩, q⟩
/-! ### all(test for x in e), e a text, the test may name what the module holds -/
/-- the test of one sign, run in the expression's own frame; the module's names are to be had -/
def EltG (X : Cx) (scope : Scope) (x : Str) (elt : Expr) (pb : Nat → Bool) : Prop :=
  ∀ (cenv : Env) (A' : Around) (E' : Value → Shared → Prop) (c : Nat) (t : Tok) (s2 : Shared) (m2 : Str → Option Value),
    cenv.scope = scope → cenv.globals = mainGlobals → s2.heap.Ns mainGlobals X.mg → s2.heap.Ns cenv.locals m2 →
    m2 x = some (.str ⟨#[c]⟩ t) →
    wpAny (model X.prog X.w) A' (eval elt cenv) (fun y s3 => y = .bool (pb c) ∧ Keeps s2 s3) E' s2
/-- x in NAME, NAME a text of the module -/
theorem elt_in {X : Cx} {scope : Scope} {x g : Str} {z : Str} {tz : Tok} {p1 p2 p3 : Pos} (hk : scope.kind = .function)
    (hl : scope.names.lookup x = some .local) (hgl : scope.names.lookup g = some .globalImplicit) (hz : X.mg g = some (.str z tz))
    (hd : (x == ("__debug__" : Str)) = false := by decide) (hd2 : (g == ("__debug__" : Str)) = false := by decide) :
    EltG X scope x (.Compare (.Name x p1) [.In] [.Name g p2] p3) (fun c => decide (c ∈ z.cps.toList)) := by
  intro cenv A' E' c t s2 m2 hs hgb hmn hn hm
  have kd : cenv.scope.kind = .function := by rw [hs]; exact hk
  refine wpAny_Compare1 ?_
  refine wpAny_Name (wpAny_loadName_local kd (show cenv.scope.names.lookup x = some .local by rw [hs]; exact hl) hn hm ?_) hd
  refine Calls.Name_function_global kd (show cenv.scope.names.lookup g = some .globalImplicit by rw [hs]; exact hgl) ?_ hd2
  refine Calls.loadGlobal_global (by rw [hgb]; exact hmn) hz ?_
  refine PyProof.Rows.in_str ?_
  exact ⟨congrArg Value.bool (PySem.StrLaws.found_one z c), GxR.keeps_refl _⟩
/-- the expression's code object: found in the def's table, or laid there -/
theorem gen_code {prog : Program} {w : World} {A : Around} {E : Value → Shared → Prop} {env : Env} {gpos : Pos} {q : Str} {scope : Scope}
    {c P : Addr} {ps : Array Value} {s2 : Shared} {Q : Value → Shared → Prop} (hcode : env.code = .ref c) (cd : PySem.W.CodeHd s2.heap c P)
    (hP : s2.heap.get? P = some { cls := .none, data := .fields ps }) (ht : TriplesOk ps.toList)
    (h : ∀ (code : Value) (h3 : Heap) (tk : Nat) (ps' : Array Value), Heap.ExtBut P s2.heap h3 → s2.heap.objs.size ≤ h3.objs.size →
      h3.get? P = some { cls := .none, data := .fields ps' } → (∃ more, ps' = ps ++ more) → TriplesOk ps'.toList →
      Q code { s2 with heap := h3, toks := tk }) : wpAny (model prog w) A (genexprCode env gpos q scope) Q E s2 := by
  cases hf : codeAmong gpos ps.toList with
  | some cv =>
    exact wpAny_genexprCode_hit hcode (cd.code hP ht) hf (h cv s2.heap s2.toks ps (Heap.ExtBut.refl _ _) (Nat.le_refl _) hP ⟨#[], by simp⟩ ht)
  | none =>
    refine wpAny_genexprCodeX hcode (cd.code hP ht) (cd.tab hP) hf ?_
    intro c' h' tk hx hge hlt hco' _ htab' _
    obtain ⟨o1, vs, f1, tf, fl, tg, inF, tx, tt, op, _, _, _, _, _, _, _, _, _, htr, _⟩ := hco'
    exact h _ h' tk _ hx (Nat.le_trans hge (Nat.le_of_lt hlt)) htab'.2 ⟨_, rfl⟩ htr
section
variable {X : Cx} {pins : List (Addr × Obj)} {σ : L2.St} {H : Hp} {s : Shared}
theorem gen_made {c P : Addr} {elt iter : Expr} {x : Str} {px gpos : Pos} {scope : Scope} {pb : Nat → Bool} {te : TE} {k : Nat}
    {Q' : Value → Shared → Prop} {R : Str → Hp → Prop} (hr : Room k X.A) (TB : GxR.TabB X.base X.mg c P) (hcode : X.env.code = .ref c)
    (S : GxR.GenS X.env scope x) (hi : PE X iter te) (hel : EltG X scope x elt pb) (hs : ∀ v, genFold iter X.env v = pure v)
    (I : L2.Inv X pins σ H s) (h : te σ H fun v H1 => ∃ a : Str, v = .str a ∧ GxR.TabG H1 P ∧ R a H1)
    (hQ : ∀ a H1 g s5, R a H1 → GxR.Ready X pins σ H1 P a pb g s5 → Q' (.ref g) s5) :
    wpAny (model X.prog X.w) X.A (eval (.GeneratorExp elt [⟨.Name x px, iter, [], 0⟩] scope gpos) X.env) Q' X.xe s := by
  have hdp := hr.dp
  refine wpAny_GeneratorExp_walksQ hr.hd S.co (closure_ok S.free) S.cell S.dot S.loc S.kind (by omega) ?_ hs
  refine thn (hi.run pins s σ H _ I h) ?_
  rintro xv s1 ⟨v, H1, I1, r1, a, rfl, ⟨ps, hP, ht⟩, q1⟩
  obtain ⟨t, rfl⟩ := _root_.id r1
  refine wpAny_pyIter_str ?_
  intro o St W hst
  have hPs : s1.heap.get? P = some { cls := .none, data := .fields ps } := I1.hok P _ hP
  have hPlt := Heap.lt_size hPs
  have lim2 : (s1.heap.push o).NoLimit := I1.nolimit.push o
  refine ⟨lim2, ?_⟩
  refine gen_code (s2 := { s1 with heap := s1.heap.push o }) hcode (TB.code.keeps fun b u e => Heap.get?_push_of_some _ (I1.bk b u e)) (Heap.get?_push_of_some _ hPs) ht ?_
  intro code h3 tk ps' hx hsz hP3 hmore ht3
  have hcl : cStatics < s1.heap.objs.size := by
    obtain ⟨_, hns, _⟩ := I1.nolimit
    exact hns.lt
  have hcP : cStatics ≠ P := by
    intro e
    obtain ⟨_, ⟨o', es, ep, ho, hd, _⟩, _⟩ := I1.nolimit
    rw [e, hPs] at ho
    cases ho
    cases hd
  have sz2 : (s1.heap.push o).objs.size = s1.heap.objs.size + 1 := Heap.size_push ..
  have keep3 : ∀ b u, b ≠ P → s1.heap.get? b = some u → h3.get? b = some u :=
    fun b u hb e => hx b u hb (Heap.get?_push_of_some _ e)
  have hsz' : s1.heap.objs.size + 1 ≤ h3.objs.size := by
    rw [← sz2]
    exact hsz
  have ns3 : h3.Ns mainGlobals X.mg := ((I1.mod.glob.keeps I1.bk).push o).extBut hx TB.gP
  obtain ⟨bm, ob, e1, e2, e3, e4, e5, e6, e7, e8⟩ := TB.bm
  refine wpAny_builtinsFor (m := X.mg) (by rw [I1.ok.glob]; exact ns3) e1 e2 (keep3 _ _ e4 (I1.bk _ _ e5)) e6 e7 e8 ?_
  refine ⟨s1.heap.objs.size, [s1.heap.objs.size], [s1.heap.objs.size], a.cps.size, SignAt a, St, fun _ => true,
    fun i y => ∃ cc, a.cps[i]? = some cc ∧ y = .bool (pb cc), rfl, W, ?_, ?_, lim2.extBut hx hcP, ?_, ?_, ?_⟩
  · refine (W X.A hr.hd).frame _ _ _ hst ?_
    intro b hb u e
    have eb : b = s1.heap.objs.size := by simpa using hb
    refine hx b u ?_ e
    intro z
    rw [← z, eb] at hPlt
    exact Nat.lt_irrefl _ hPlt
  · intro b hb
    have eb : b = s1.heap.objs.size := by simpa using hb
    rw [eb]
    show s1.heap.objs.size < h3.objs.size
    omega
  · intro z
    have eb : cStatics = s1.heap.objs.size := by simpa using z
    rw [eb] at hcl
    exact Nat.lt_irrefl _ hcl
  · intro href hhref
    constructor
    · intro A' E' i v s2 m2 hA hPv hn hm hk
      simp only [List.forIn_nil]
      exact wpAny_pure ⟨rfl, GxR.keeps_refl _⟩
    · intro A' E' i v s2 m2 hA hPv hp hn hm hk
      obtain ⟨cc, u, hcc, rfl⟩ := hPv
      have nsM : s2.heap.Ns mainGlobals X.mg := by
        obtain ⟨om, es, ep, g1, g2⟩ := ns3
        have glt : mainGlobals < s1.heap.objs.size := by
          obtain ⟨o9, _, _, g9, _⟩ := I1.mod.glob.keeps I1.bk
          exact Heap.lt_size g9
        refine ⟨om, es, ep, hk mainGlobals ?_ ?_ om (hhref _ _ g1), g2⟩
        · refine List.mem_range.mpr ?_
          show mainGlobals < h3.objs.size
          exact Heap.lt_size g1
        · intro z
          have eb : mainGlobals = s1.heap.objs.size := by simpa using z
          rw [eb] at glt
          exact Nat.lt_irrefl _ glt
      exact wpAny_mono (hel _ A' E' cc u s2 m2 rfl I1.ok.glob nsM hn hm) (fun y s3 r => ⟨⟨cc, hcc, r.1⟩, r.2⟩) (fun _ _ e => e)
  · intro g h5 tk5 gs hgb hag hsz5 hk5 W5 hat
    simp only [GxR.passing_true, List.length_range] at W5
    refine hQ a H1 g _ q1 ⟨_, _, _, _, _, W5.in4_1, hat, ?_, ?_⟩
    · intro j y sj Qj Ej hy hQj
      obtain ⟨i, hij, cc, hcc, rfl⟩ := hy
      obtain ⟨hj, ej⟩ := List.getElem?_eq_some_iff.mp hij
      rw [List.getElem_range] at ej
      subst ej
      have e9 : a.cps.toList[j]? = some cc := by rw [Array.getElem?_toList]; exact hcc
      have hQ2 : Qj (GxR.trF pb a.cps.toList j) sj := hQj
      rw [GxR.trF_some e9] at hQ2
      exact wpAny_truthy_bool hQ2
    · intro s' hmv
      obtain ⟨more, em⟩ := hmore
      have nwr : ∀ b u, s1.heap.get? b = some u → b ∉ h3.objs.size :: [s1.heap.objs.size] := by
        intro b u e hb
        have hl := Heap.lt_size e
        rcases List.mem_cons.mp hb with z | z
        · rw [z] at hl
          have h9 : (h3.objs.size : Nat) < s1.heap.objs.size := hl
          omega
        · have eb : b = s1.heap.objs.size := by simpa using z
          rw [eb] at hl
          exact Nat.lt_irrefl _ hl
      have J := GxR.inv_tab (more := more) (h' := s'.heap) (g' := s'.gens) (d' := s'.drawn) (t' := s'.toks) I1 hP
        (fun b u hb e => hmv.heap b u (nwr b u e) (hk5 b u (keep3 b u hb e)))
        (by rw [← em]; exact hmv.heap P _ (nwr P _ hPs) (hk5 P _ hP3)) (AllBare.movedS (I1.bare.push hgb) hmv)
      rw [GxR.sh_eta s1 s' hmv.os] at J
      exact ⟨upd H1 P (.tbl (ps ++ more)), ⟨⟨ps ++ more, upd_same, by rw [← em]; exact ht3⟩, fun b hb => upd_ne hb⟩, J⟩
theorem pe_allG {c P : Addr} {elt iter : Expr} {x : Str} {px p pos gpos : Pos} {scope : Scope} {pb : Nat → Bool} {te : TE} {k : Nat}
    (hr : Room k X.A) (hg : Gl X "all") (hm : X.mg "all" = none) (TB : GxR.TabB X.base X.mg c P) (hcode : X.env.code = .ref c)
    (S : GxR.GenS X.env scope x) (hi : PE X iter te) (hel : EltG X scope x elt pb) (hs : ∀ v, genFold iter X.env v = pure v)
    (he : starEach [.GeneratorExp elt [⟨.Name x px, iter, [], 0⟩] scope gpos] X.env =
      (false, eval (.GeneratorExp elt [⟨.Name x px, iter, [], 0⟩] scope gpos) X.env) :: starEach [] X.env := by rfl) :
    PE X (.Call (.Name "all" p) [.GeneratorExp elt [⟨.Name x px, iter, [], 0⟩] scope gpos] [] pos) (GxR.tAllS P pb te) := by
  constructor
  intro pins s σ H Q I h
  refine wpAny_Call_Name_kw (ld_blt I hg hm (show bootBuiltins "all" = some (.builtin "all") by decide +kernel) ?_)
  refine PyProof.Rows.callWith_builtin1 ?_ he (by rfl)
  rw [he]
  refine Calls.spliced_cons (gen_made (R := fun a H1 => ∀ H2, GxR.Tabbed P H1 H2 → Q (.bl (a.cps.toList.all pb)) H2) hr TB hcode S hi hel hs I h ?_)
  intro a H1 g s5 hR hG
  obtain ⟨fp, wr, G, F, St, W, hst, htr, hI⟩ := hG
  refine Calls.spliced_nil (call_all_walkS (W.self 0 _ _ _ hst ⟨g, fp, wr, G, _, F, St, _, rfl, W, hst, htr, ?_⟩))
  intro s' hmv
  obtain ⟨H2, hT, J⟩ := hI s' hmv
  refine ⟨.bl _, H2, J, rfl, ?_⟩
  rw [GxR.all_signs a pb]
  exact hR H2 hT
end
end SfG
namespace SfG
open PySem PySem.Spec PyProof.Rows L2
/-! ### the law's end: tables of code objects, no repr under way -/
theorem noneIn (b : Addr) (l : List Addr) (h : l = []) : ¬ b ∈ l := by
  rw [h]
  simp
section
variable {P : Program} {w : World} {K : PySem.W.Frag} {mg mb : Str → Option Value} {CX : CXT} {k : Nat} {fa a : Addr}
  {cs : List (Addr × Addr)} {fd : FuncData} {x : Str} {sp : Sp} {s1 : Shared} {vs : List Value} {ns : List Int}
/-- what stands at s1: the module, its tables, the script -/
structure Stands (K : PySem.W.Frag) (mg mb : Str → Option Value) (cs : List (Addr × Addr)) (s1 : Shared) (a : Addr) (vs : List Value) : Prop where
  kin : K.In s1.heap
  glob : s1.heap.Ns mainGlobals mg
  blt : s1.heap.Ns builtinsNs mb
  bltv : ∀ y : Str, y ≠ "__name__" → mb y = bootBuiltins y
  lim : s1.heap.NoLimit
  gens : s1.gens = #[]
  tab : ∀ p ∈ cs, s1.heap.get? p.2 = some { cls := .none, data := .fields #[] }
  ntab : ∀ p ∈ cs, K.lookup p.2 = none
  code : ∀ p ∈ cs, PySem.W.CodeHd s1.heap p.1 p.2
  bmain : ∃ (bm : Addr) (ob : Obj), mg "__builtins__" = some (.ref bm) ∧ bm ≠ builtinsNs ∧ s1.heap.get? bm = some ob ∧
    ob.cls = .type "module" ∧ ob.dict = some builtinsNs ∧ ob.data = .plain
  scr : s1.heap.get? a = some { cls := .type "list", data := .seq vs.toArray }
/-- what is tracked there: the tables, and the script where the written part doesn't hold it -/
def Tracks (K : PySem.W.Frag) (cs : List (Addr × Addr)) (a : Addr) (H : Hp) : Prop :=
  ∀ b u, H b = some u → (b ∈ cs.map (·.2) ∧ u = .tbl #[]) ∨ (b = a ∧ K.lookup a = none ∧ ∃ o xs, u = .frz o (.lst xs))
theorem Stands.untracked {H : Hp} (S : Stands K mg mb cs s1 a vs) (T : Tracks K cs a H) {b : Addr} {o : Obj} (e : s1.heap.get? b = some o)
    (h1 : ∀ us n, o.data ≠ .seq us n) (h2 : o.data ≠ .fields #[]) : H b = none := by
  cases q : H b with
  | none => rfl
  | some u =>
    exfalso
    rcases T b u q with ⟨hb, _⟩ | ⟨hb, _⟩
    · obtain ⟨p, hp, ep⟩ := List.mem_map.mp hb
      have z := S.tab p hp
      rw [ep, e] at z
      cases z
      exact h2 rfl
    · have z := S.scr
      rw [← hb, e] at z
      cases z
      exact h1 _ _ rfl
theorem end_core {H : Hp} (S : Stands K mg mb cs s1 a vs) (T : Tracks K cs a H) (hH : ∀ p ∈ cs, H p.2 = some (.tbl #[]))
    (hok : HOk P w H s1.heap) (hr : Room k callerA)
    (F : ∀ base : Heap, K.In base → base.Ns mainGlobals mg → (∀ p ∈ cs, GxR.TabB base mg p.1 p.2) → FnG P w K mg base CX k fa fd [x] sp)
    (hbind : ∀ (s : Shared) (u : Value), BindsTo s fd ⟨[u], []⟩ [(x, u)])
    (hsp : sp [.ref a] H (fun v _ => v = .bl true) fun _ _ _ => False)
    (hCX : ∀ H e s', CX [] H s1 (fun _ _ _ => False) e s' → False) :
    codeAny (model P w) callerA (.call (.ref fa) ⟨[.ref a], []⟩)
      (fun r s' => r = .ok (.ret (.bool true)) ∧ OldK s1.heap s'.heap ∧ s'.os = s1.os ∧ AllBare s'.gens) s1 := by
  have low : ∀ {b : Addr} {o : Obj}, s1.heap.get? b = some o → H b = none → (hidT s1.heap H).get? b = some o := fun e n => hidT_get e n
  have lowNs : ∀ {b : Addr} {m : Str → Option Value}, s1.heap.Ns b m → (hidT s1.heap H).Ns b m := by
    rintro b m ⟨o, es, ep, e, d, r⟩
    refine ⟨o, es, ep, low e (S.untracked T e ?_ ?_), d, r⟩
    · intro us n z
      rw [d] at z
      cases z
    · intro z
      rw [d] at z
      cases z
  have lowK : K.In (hidT s1.heap H) := by
    intro b o e
    refine low (S.kin b o e) ?_
    cases q : H b with
    | none => rfl
    | some u =>
      exfalso
      rcases T b u q with ⟨hb, _⟩ | ⟨hb, hk, _⟩
      · obtain ⟨p, hp, ep⟩ := List.mem_map.mp hb
        rw [← ep, S.ntab p hp] at e
        cases e
      · rw [hb, hk] at e
        cases e
  have lowT : ∀ p ∈ cs, GxR.TabB (hidT s1.heap H) mg p.1 p.2 := by
    intro p hp
    have tp := S.tab p hp
    constructor
    · obtain ⟨o, us, file, tf, flags, tg, inF, text, tt, e1, r1, r2, r3, rest⟩ := S.code p hp
      refine ⟨o, us, file, tf, flags, tg, inF, text, tt, low e1 (S.untracked T e1 ?_ ?_), r1, r2, r3, rest⟩
      · intro us n z
        rw [r2] at z
        cases z
      · intro z
        rw [r2] at z
        cases z
        simp at r3
    · obtain ⟨bm, ob, b1, b2, b3, b4, b5, b6⟩ := S.bmain
      refine ⟨bm, ob, b1, b2, ?_, ?_, low b3 (S.untracked T b3 ?_ ?_), b4, b5, b6⟩
      · intro q
        obtain ⟨o, es, ep, e, hd, _⟩ := S.glob
        rw [q, e] at b3
        cases b3
        rw [hd] at b6
        cases b6
      · intro q
        rw [q, tp] at b3
        cases b3
        cases b6
      · intro us n z
        rw [b6] at z
        cases z
      · intro z
        rw [b6] at z
        cases z
    · intro z
      obtain ⟨o, es, ep, e, hd, _⟩ := S.glob
      rw [z, tp] at e
      cases e
      cases hd
  have md : L2.Mod K mg (hidT s1.heap H) := by
    refine ⟨lowK, lowNs S.glob, ⟨mb, lowNs S.blt, S.bltv⟩, ?_⟩
    obtain ⟨mc, h1, h2⟩ := S.lim
    exact ⟨mc, lowNs h1, h2⟩
  have e0 : Env0 P w K mg (hidT s1.heap H) callerA [] s1 H :=
    ⟨rfl, md, fun b o e => of_hidT e, Nat.le_of_eq (hidT_size _ _), trivial, fun b hb => absurd hb (noneIn b _ rfl), hok, .of_eq S.gens⟩
  have go := (F _ lowK (lowNs S.glob) lowT).goes callerA [] s1 H ⟨[.ref a], []⟩ [.ref a] [.ref a] _ _ hr rfl e0 (hbind s1 (.ref a)) (.cons rfl .nil) hsp
  refine codeAny_mono go ?_
  intro res s' h
  match res, h with
  | .error e, h => exact (hCX H e s' h).elim
  | .ok .next, h => exact False.elim h
  | .ok .brk, h => exact False.elim h
  | .ok .cont, h => exact False.elim h
  | .ok (.ret u), h =>
    obtain ⟨v, H', os, bare, un, hok', r', q⟩ := h
    cases (show v = .bl true from q)
    cases (show u = Value.bool true from r')
    have stay : ∀ b o, b ∉ cs.map (·.2) → s1.heap.get? b = some o → s'.heap.get? b = some o := by
      intro b o nb e
      cases q : H b with
      | none => exact un.keep b o e q (noneIn b _ rfl) (by simp)
      | some u =>
        rcases T b u q with ⟨hb, _⟩ | ⟨_, _, ob, xs, z⟩
        · exact absurd hb nb
        · rw [z] at q
          obtain ⟨g1, _⟩ := hok b _ q
          obtain ⟨g2, _⟩ := hok' b _ (un.frzs b ob _ q)
          rw [e] at g1
          cases g1
          exact g2
    have tabs : ∀ p ∈ cs, ∃ more : Array Value, s'.heap.get? p.2 = some { cls := .none, data := .fields more } := by
      intro p hp
      obtain ⟨more, z⟩ := un.tbls p.2 #[] (hH p hp)
      exact ⟨_, hok' p.2 _ z⟩
    refine ⟨rfl, ⟨fun b o e => ?_, fun b o e => ?_⟩, os, bare⟩
    · by_cases hb : b ∈ cs.map (·.2)
      · obtain ⟨p, hp, ep⟩ := List.mem_map.mp hb
        subst ep
        obtain ⟨more, hm⟩ := tabs p hp
        rw [S.tab p hp] at e
        cases e
        refine .inr (.inl ⟨((S.code p hp).tab (S.tab p hp)).isCodeTable, rfl, #[], more, rfl, ?_⟩)
        rw [Array.empty_append]
        exact hm
      · exact .inl (stay b o hb e)
    · by_cases hb : b ∈ cs.map (·.2)
      · obtain ⟨p, hp, ep⟩ := List.mem_map.mp hb
        subst ep
        obtain ⟨more, hm⟩ := tabs p hp
        exact ⟨_, hm⟩
      · exact ⟨o, stay b o hb e⟩
/-- the abstract heap at the start -/
def hp0 (cs : List (Addr × Addr)) (sc : Option HO) (a : Addr) : Hp := fun b => if b ∈ cs.map (·.2) then some (.tbl #[]) else if b = a then sc else none
theorem end_call (S : Stands K mg mb cs s1 a vs) (hi : IntsAre vs ns) (hl : ns.length ≤ sizeLine) (hr : Room k callerA)
    (F : ∀ base : Heap, K.In base → base.Ns mainGlobals mg → (∀ p ∈ cs, GxR.TabB base mg p.1 p.2) → FnG P w K mg base CX k fa fd [x] sp)
    (hbind : ∀ (s : Shared) (u : Value), BindsTo s fd ⟨[u], []⟩ [(x, u)])
    (hsp : ∀ H : Hp, (∀ p ∈ cs, H p.2 = some (.tbl #[])) → SqL K H a (ns.map V.int) → sp [.ref a] H (fun v _ => v = .bl true) fun _ _ _ => False)
    (hCX : ∀ H e s', CX [] H s1 (fun _ _ _ => False) e s' → False) :
    codeAny (model P w) callerA (.call (.ref fa) ⟨[.ref a], []⟩)
      (fun r s' => r = .ok (.ret (.bool true)) ∧ OldK s1.heap s'.heap ∧ s'.os = s1.os ∧ AllBare s'.gens) s1 := by
  have rv := vals_ints hi
  have hH : ∀ sc, ∀ p ∈ cs, hp0 cs sc a p.2 = some (.tbl #[]) := fun sc p hp => if_pos (List.mem_map.mpr ⟨p, hp, rfl⟩)
  have na : a ∉ cs.map (·.2) := by
    intro z
    obtain ⟨p, hp, ep⟩ := List.mem_map.mp z
    have q := S.tab p hp
    rw [ep, S.scr] at q
    cases congrArg Obj.data (Option.some.inj q)
  have at_a : ∀ sc, hp0 cs sc a a = sc := fun sc => by
    unfold hp0
    rw [if_neg na, if_pos rfl]
  have cases_of : ∀ sc b u, hp0 cs sc a b = some u → (b ∈ cs.map (·.2) ∧ u = .tbl #[]) ∨ (b = a ∧ sc = some u) := by
    intro sc b u h
    unfold hp0 at h
    by_cases h1 : b ∈ cs.map (·.2)
    · rw [if_pos h1] at h
      exact .inl ⟨h1, (Option.some.inj h).symm⟩
    · rw [if_neg h1] at h
      by_cases h2 : b = a
      · rw [if_pos h2] at h
        exact .inr ⟨h2, h⟩
      · rw [if_neg h2] at h
        cases h
  have tabOk : ∀ (H : Hp) b, b ∈ cs.map (·.2) → ObjOk P w H s1.heap b (.tbl #[]) := by
    intro H b hb
    obtain ⟨p, hp, ep⟩ := List.mem_map.mp hb
    rw [← ep]
    exact S.tab p hp
  cases hk : K.lookup a with
  | some o =>
    have e := S.kin a o hk
    rw [S.scr] at e
    cases e
    refine end_core (H := hp0 cs none a) S ?_ (hH none) ?_ hr F hbind (hsp _ (hH none) (.inr ⟨_, vs.toArray, _, hk, rfl, rfl, rfl, ?_, ?_⟩)) hCX
    · intro b u h
      rcases cases_of none b u h with h | ⟨_, h⟩
      · exact .inl h
      · cases h
    · intro b u h
      rcases cases_of none b u h with ⟨h1, rfl⟩ | ⟨_, h⟩
      · exact tabOk _ b h1
      · cases h
    · rw [List.size_toArray, hi.length]
      exact hl
    · simpa using rv
  | none =>
    refine end_core (H := hp0 cs (some (.frz { cls := .type "list", data := .seq vs.toArray } (.lst (ns.map V.int)))) a) S ?_ (hH _) ?_ hr F hbind
      (hsp _ (hH _) (.inl (.inr ⟨{ cls := .type "list", data := .seq vs.toArray }, at_a _⟩))) hCX
    · intro b u h
      rcases cases_of _ b u h with h | ⟨h1, h2⟩
      · exact .inl h
      · exact .inr ⟨h1, hk, _, _, (Option.some.inj h2).symm⟩
    · intro b u h
      rcases cases_of _ b u h with ⟨h1, rfl⟩ | ⟨rfl, h2⟩
      · exact tabOk _ b h1
      · cases h2
        refine ⟨S.scr, ?_, vs, _, rv, S.scr⟩
        rw [List.length_map]
        exact hl
end
end SfG
namespace SfG
open PySem PySem.Spec PyProof.Rows L2
/-! ### a def whose code object is known -/
structure FunC (K : PySem.W.Frag) (x qual : Str) (st : Stmt) (f : Addr) (fd : FuncData) (c : Addr) : Prop where
  ex : ∃ (oc : Value) (od : Option Addr) (kV doc pm : Value) (an : Option Addr) (ct : Value) (osl : Array (Option Value)),
    fd = PySem.W.fnOf x qual (defArgs st) (defBody st) (defScope st) .none kV doc pm an (.ref c) ct ∧
      K.lookup f = some ⟨oc, od, .func fd, osl⟩ ∧ PySem.W.codeIn K (.ref c) qual = true
  kp : PySem.W.keepIn K (.ref f) = true
theorem FunC.fn {K : PySem.W.Frag} {x qual : Str} {st : Stmt} {f c : Addr} {fd : FuncData} (F : FunC K x qual st f fd c) : Fun K x qual st f fd := by
  obtain ⟨oc, od, kV, doc, pm, an, ct, osl, h1, h2, h3⟩ := F.ex
  exact ⟨⟨oc, od, kV, doc, pm, an, .ref c, ct, osl, h1, h2, h3⟩, F.kp⟩
section
variable {P : Program} {w : World} {K : PySem.W.Frag} {mg : Str → Option Value} {base : Heap}
theorem FunC.ok {x qual : Str} {st : Stmt} {f c : Addr} {fd : FuncData} {N ps : List Str} {k : Nat} {sp : Sp}
    (F : FunC K x qual st f fd c) (S : FnScope N ps (defScope st)) (len : ∀ vs H Q E, sp vs H Q E → vs.length = ps.length)
    (hbody : ∀ (A : Around) (outer : List Env) (s : Shared) (H : Hp) (vs : List V) (Q : VK) (E : XK),
      Room k (A.deeper (envOfC qual (defScope st) s.heap.objs.size f (.ref c))) → sp vs H Q E →
      ∃ t, PSs (cxOf CX0 P w K mg base N qual (defScope st) f (.ref c) A outer s H E).nox (defBody st) t ∧
        t { nx := fun _ H' => Q .non H', rt := Q } (start N vs) H) : FnOk P w K mg base CX0 (k + 1) f fd ps sp := by
  obtain ⟨oc, od, kV, doc, pm, an, ct, osl, rfl, lk, hcd⟩ := F.ex
  refine fn_of lk hcd S len ?_
  intro A outer s H vs Q E hr hsp
  obtain ⟨t, h, q⟩ := hbody A outer s H vs Q E hr hsp
  exact ⟨t, h.nox, q⟩
end
/-! ### heaps that grow: what stood stands, tables of code objects may be longer -/
structure Gr (H H' : Hp) : Prop where
  keep : ∀ b o, H b = some o → (∀ ps, o ≠ .tbl ps) → H' b = some o
  tab : ∀ P, GxR.TabG H P → GxR.TabG H' P
  back : ∀ l, H' l = none → H l = none
theorem Gr.refl (H : Hp) : Gr H H := ⟨fun _ _ h _ => h, fun _ h => h, fun _ h => h⟩
theorem Gr.trans {H H1 H2 : Hp} (a : Gr H H1) (b : Gr H1 H2) : Gr H H2 :=
  ⟨fun c o h n => b.keep c o (a.keep c o h n) n, fun P h => b.tab P (a.tab P h), fun l h => a.back l (b.back l h)⟩
theorem Gr.same {H H' : Hp} (e : Same H H') : Gr H H' := by
  refine ⟨fun b o h _ => e b o h, ?_, fun l h => e.free h⟩
  rintro P ⟨ps, h1, h2⟩
  exact ⟨ps, e P _ h1, h2⟩
theorem Gr.new {H : Hp} {p : Addr} {o : HO} (h : H p = none) : Gr H (upd H p o) := by
  refine Gr.same ?_
  intro b x e
  rw [upd_ne (ne_of_none e h)]
  exact e
theorem Gr.tabbed {P : Addr} {H H' : Hp} (t : GxR.TabG H P) (e : GxR.Tabbed P H H') : Gr H H' := by
  refine ⟨?_, ?_, ?_⟩
  · intro b o h n
    refine (e.2 b ?_).trans h
    intro z
    obtain ⟨ps, h1, _⟩ := t
    rw [z, h1] at h
    exact n ps (Option.some.inj h).symm
  · intro P' t'
    by_cases z : P' = P
    · rw [z]
      exact e.1
    · obtain ⟨ps, h1, h2⟩ := t'
      exact ⟨ps, (e.2 P' z).trans h1, h2⟩
  · intro l h
    by_cases z : l = P
    · obtain ⟨ps, h1, _⟩ := e.1
      rw [z, h1] at h
      cases h
    · rw [← e.2 l z]
      exact h
/-- a list that is changed in the heap: all else stays -/
theorem Gr.lst {H H' : Hp} (g : Gr H H') {b : Addr} {xs : List V} (h : H b = some (.lst xs)) : H' b = some (.lst xs) := g.keep b _ h (fun _ z => (by cases z))
theorem Gr.tup {H H' : Hp} (g : Gr H H') {b : Addr} {xs : List V} (h : H b = some (.tup xs)) : H' b = some (.tup xs) := g.keep b _ h (fun _ z => (by cases z))
theorem Gr.dic {H H' : Hp} (g : Gr H H') {b : Addr} {kvs : List (Key × V)} (h : H b = some (.dK kvs)) : H' b = some (.dK kvs) := g.keep b _ h (fun _ z => (by cases z))
theorem Gr.seq {K : PySem.W.Frag} {H H' : Hp} {a : Addr} {xs : List V} (e : Gr H H') (h : SqL K H a xs) : SqL K H' a xs := by
  rcases h with (h | ⟨o, h⟩) | h
  · exact .inl (.inl (e.lst h))
  · exact .inl (.inr ⟨o, e.keep _ _ h (fun _ z => (by cases z))⟩)
  · exact .inr h
/-! ### kinds of things -/
def kinds : List String := ["NoneType", "bool", "int", "str", "list", "tuple", "dict"]
theorem kit_int : ∀ T ∈ kinds, kitB T "int" = some (T == "int" || T == "bool") := by decide +kernel
theorem kit_bool : ∀ T ∈ kinds, kitB T "bool" = some (T == "bool") := by decide +kernel
theorem kit_str : ∀ T ∈ kinds, kitB T "str" = some (T == "str") := by decide +kernel
/-- x is a thing of the built-in type T -/
def Is (K : PySem.W.Frag) (H : Hp) (x : V) (T : String) : Prop := TyX K H x (.type T) ∧ T ∈ kinds
theorem tyx_is {K : PySem.W.Frag} {H : Hp} {x : V} {t : Value} {T : String} (h : TyX K H x t) (e : t = .type T) :
    (T = "int" → ∃ i, x = .int i) ∧ (T = "str" → ∃ z, x = .str z) ∧ (∀ i, x = .int i → T = "int") ∧ (∀ z, x = .str z → T = "str") := by
  cases h with
  | base b =>
    cases b with
    | int i => cases e; exact ⟨fun _ => ⟨i, rfl⟩, fun z => absurd z (by decide), fun _ _ => rfl, fun _ z => (by cases z)⟩
    | str i => cases e; exact ⟨fun z => absurd z (by decide), fun _ => ⟨i, rfl⟩, fun _ z => (by cases z), fun _ _ => rfl⟩
    | ins => cases e
    | _ => cases e; exact ⟨fun z => absurd z (by decide), fun z => absurd z (by decide), fun _ z => (by cases z), fun _ z => (by cases z)⟩
  | _ => cases e; exact ⟨fun z => absurd z (by decide), fun z => absurd z (by decide), fun _ z => (by cases z), fun _ z => (by cases z)⟩
section
variable {K : PySem.W.Frag} {H : Hp} {x : V} {T : String}
theorem Is.whole (h : Is K H x T) (e : T = "int") : ∃ i, x = .int i := (tyx_is h.1 rfl).1 e
theorem Is.text (h : Is K H x T) (e : T = "str") : ∃ z, x = .str z := (tyx_is h.1 rfl).2.1 e
theorem Is.nint (h : Is K H x T) (e : T ≠ "int") : ∀ i, x ≠ .int i := fun i z => e ((tyx_is h.1 rfl).2.2.1 i z)
theorem Is.ntext (h : Is K H x T) (e : T ≠ "str") : ∀ z, x ≠ .str z := fun i z => e ((tyx_is h.1 rfl).2.2.2 i z)
end
theorem is_int {K : PySem.W.Frag} {H : Hp} (i : Int) : Is K H (.int i) "int" := ⟨.base (.int i), by decide⟩
theorem is_str {K : PySem.W.Frag} {H : Hp} (z : Str) : Is K H (.str z) "str" := ⟨.base (.str z), by decide⟩
theorem is_bl {K : PySem.W.Frag} {H : Hp} (b : Bool) : Is K H (.bl b) "bool" := ⟨.base (.bl b), by decide⟩
theorem is_non {K : PySem.W.Frag} {H : Hp} : Is K H .non "NoneType" := ⟨.base .non, by decide⟩
/-! ### isinstance(x, T), x a name, T a built-in class -/
def tIsi (T : String) (K : PySem.W.Frag) (i : Nat) : TE := fun σ H Q => ∃ v, σ[i]? = some (some v) ∧ ∃ (T' : String) (b : Bool), TyX K H v (.type T') ∧ kitB T' T = some b ∧ Q (.bl b) H
theorem pe_isi {X : Cx} {x nm : Str} {p p1 p2 pos : Pos} (T : String) (i : Nat) (mi : X.mg "isinstance" = none) (mT : X.mg nm = none)
    (hv : bootBuiltins nm = some (.type T)) (hN : X.N[i]? = some x := by rfl) (hvis : Vis X.env.scope x := by first | exact Or.inl rfl | exact Or.inr (Or.inl rfl) | exact Or.inr (Or.inr rfl))
    (hg : Gl X "isinstance" := by rfl) (hgT : Gl X nm := by rfl) (hxd : (x == ("__debug__" : Str)) = false := by decide) (hxc : (x == ("__classdict__" : Str)) = false := by decide)
    (hn : nm ≠ "__name__" := by decide) (hd : (nm == ("__debug__" : Str)) = false := by decide) :
    PE X (.Call (.Name "isinstance" p) [.Name x p1, .Name nm p2] [] pos) (tIsi T X.K i) := by
  have h := pe_callB (p := p) (pos := pos) call_isi hg mi (show bootBuiltins "isinstance" = some (.builtin "isinstance") by decide +kernel)
    (pa_cons (pe_var (pos := p1) hN hvis hxd hxc) (pa_cons (pe_bltn (v := .ty T) (pos := p2) hgT mT hv rfl hn hd) pa_nil))
  constructor
  intro pins s σ H Q I hq
  refine h.run pins s σ H Q I ?_
  obtain ⟨v, hs, T', b, h1, h2, h3⟩ := hq
  exact ⟨v, hs, v, .ty T, .type T', .type T, b, rfl, .ty T, h1, kit_ty h2, h3⟩
end SfG
namespace SfG
open PySem PySem.Spec PyProof.Rows L2
/-! ### the end of a law whose defs have tables -/
/-- the top's defs and their tables, still empty -/
def TabsOf (q : Program) (mg : Str → Option Value) (h : Heap) : Prop := ∀ d ∈ recsOf q, ∃ a o fd c P,
  mg d.name = some (.ref a) ∧ h.get? a = some o ∧ o.data = .func fd ∧ fd.code = .ref c ∧ h.IsCode c P #[] ∧ h.TableAt c P #[]
theorem tab_of {q : Program} {mg : Str → Option Value} {h : Heap} {K : PySem.W.Frag} {nm x qual : Str} {st : Stmt} {f c P : Addr} {fd : FuncData}
    {e : Value} {dd : Option Addr} {vs : Array Value} {sl : Array (Option Value)} (T : TabsOf q mg h) (hrec : ((recsOf q).any fun d => d.name == nm) = true)
    (g : mg nm = some (.ref f)) (KX : K.In h) (F : FunC K x qual st f fd c) (kc : K.lookup c = some ⟨e, dd, .fields vs, sl⟩) (kp : vs[11]? = some (.ref P)) :
    h.get? P = some { cls := .none, data := .fields #[] } ∧ PySem.W.CodeHd h c P := by
  obtain ⟨d, hm, hn⟩ := List.any_eq_true.mp hrec
  have hn2 : d.name = nm := beq_iff_eq.mp hn
  obtain ⟨a, o, fd', c', P', h1, h2, h3, h4, h5, h6⟩ := T d hm
  rw [hn2, g] at h1
  cases h1
  obtain ⟨oc, od, kV, doc, pm, an, ct, osl, rfl, lk, hcd⟩ := F.ex
  rw [KX _ _ lk] at h2
  cases h2
  cases h3
  have ec : c = c' := by
    have z : Value.ref c = Value.ref c' := h4
    cases z
    rfl
  subst ec
  obtain ⟨⟨o1, v1, a1, a2, a3, a4⟩, hP⟩ := h6
  have ek := KX _ _ kc
  rw [ek] at a1
  cases a1
  cases a3
  rw [kp] at a4
  cases a4
  obtain ⟨o2, v2, file, tf, flags, tg, inF, text, tt, op, b1, b2, b3, b4, b5, b6, b7, b8, b9, b10, b11⟩ := h5
  rw [ek] at b1
  cases b1
  cases b2
  exact ⟨hP, _, _, file, tf, flags, tg, inF, text, tt, ek, a2, rfl, kp, b3, b4, b5, b6, b7, b11⟩
/-- what is known of the law's promise at the head's heap h -/
def LawG (l : PySem.W.OpenLaw) (w : World) (K : PySem.W.Frag) (CX : CXT) (k n : Nat) (x : Str) (mg : Str → Option Value) (fa : Addr) (h : Heap) : Prop :=
  ∃ (fd : FuncData) (cs : List (Addr × Addr)) (sp : Sp), (∀ p ∈ cs, h.get? p.2 = some { cls := .none, data := .fields #[] }) ∧ (∀ p ∈ cs, K.lookup p.2 = none) ∧
    (∀ p ∈ cs, PySem.W.CodeHd h p.1 p.2) ∧ (∀ (s : Shared) (u : Value), BindsTo s fd ⟨[u], []⟩ [(x, u)]) ∧
    (∀ (H : Hp) (a : Addr) (ns : List Int), ns.length ≤ n → (∀ p ∈ cs, H p.2 = some (.tbl #[])) → SqL K H a (ns.map V.int) → sp [.ref a] H (fun v _ => v = .bl true) fun _ _ _ => False) ∧
    ∀ base : Heap, K.In base → base.Ns mainGlobals mg → (∀ p ∈ cs, GxR.TabB base mg p.1 p.2) → FnG l.prog w K mg base CX k fa fd [x] sp
theorem walk_G {l : PySem.W.OpenLaw} {n k : Nat} {q : Program} {loose : List Str} {XP : (Str → Option Value) → Heap → Prop} {YP : World → Heap → Prop} {d : DefRec}
    {K : Params → PySem.W.Frag} {CX : World → CXT} {x : Str} (hn : l.most = some n) (hn2 : n ≤ sizeLine) (hdf : d.params.defaults = []) (hr : Room k callerA)
    (hY : ∀ (w : World) (h : Heap), YP w h → (K w.params).In h)
    (F : ∀ (w : World) (mg : Str → Option Value) (fa : Addr) (h : Heap), (K w.params).In h → h.Ns mainGlobals mg → mg d.name = some (.ref fa) → TabsOf q mg h →
      LawG l w (K w.params) (CX w) k n x mg fa h)
    (hCX : ∀ (w : World) (H : Hp) (s : Shared) (e : Value) (s' : Shared), CX w [] H s (fun _ _ _ => False) e s' → False) :
    PySem.W.WalkO q loose XP YP l.row.toRowW d [] (fun f vs => PySem.call f vs) := by
  refine Att.attach_callB hn hdf ?_
  intro w s0 s1 mg mb fa o pm cd doc a vs ns G Y ho hd hcd hmg hobj hints hlen hbits hg
  have KX := hY w _ Y
  obtain ⟨fd, cs, sp, hT, nT, C, hb, hsp, hF⟩ := F w mg fa _ KX G.T.g hmg G.T.tab
  have S : Stands (K w.params) mg mb cs s1 a vs := ⟨KX, G.T.g, G.T.b, G.T.builtins, G.T.nolimit, hg, hT, nT, C, G.T.bmain, hobj⟩
  exact end_call S hints (Nat.le_trans hlen hn2) hr hF hb (fun H hH hS => hsp H a ns hlen hH hS) fun H e s' => hCX w H s1 e s'
end SfG
namespace SfG
open PySem PySem.Spec PyProof.Rows L2
/-- all but p as it was -/
def But (p : Addr) (H H' : Hp) : Prop := ∀ b, b ≠ p → H' b = H b
theorem But.upd {p : Addr} {H H' : Hp} {o : HO} (h : But p H H') : But p H (upd H' p o) := fun b n => (upd_ne n).trans (h b n)
theorem Gr.upd_new {H0 H : Hp} {p : Addr} {o : HO} (g : Gr H0 H) (h : H0 p = none) : Gr H0 (upd H p o) := by
  refine ⟨?_, ?_, ?_⟩
  · intro b u e n
    rw [upd_ne (ne_of_none e h)]
    exact g.keep b u e n
  · intro P t
    have np : P ≠ p := by
      obtain ⟨ps, h1, _⟩ := t
      exact ne_of_none h1 h
    obtain ⟨ps, h1, h2⟩ := g.tab P t
    exact ⟨ps, (upd_ne np).trans h1, h2⟩
  · intro l e
    by_cases z : l = p
    · rw [z]
      exact h
    · rw [upd_ne z] at e
      exact g.back l e
/-! ### heaps in a turn: the draw's state at p is changed, all else grows -/
structure Gp (p : Addr) (H H' : Hp) : Prop where
  keep : ∀ b o, b ≠ p → H b = some o → (∀ ps, o ≠ .tbl ps) → H' b = some o
  tab : ∀ P, P ≠ p → GxR.TabG H P → GxR.TabG H' P
  back : ∀ l, l ≠ p → H' l = none → H l = none
theorem Gp.refl (p : Addr) (H : Hp) : Gp p H H := ⟨fun _ _ _ h _ => h, fun _ _ h => h, fun _ _ h => h⟩
theorem Gp.gr {p : Addr} {H H' : Hp} (g : Gr H H') : Gp p H H' := ⟨fun b o _ => g.keep b o, fun P _ => g.tab P, fun l _ => g.back l⟩
theorem Gp.but {p : Addr} {H H' : Hp} (g : But p H H') : Gp p H H' := by
  refine ⟨fun b o n h _ => (g b n).trans h, ?_, fun l n h => (g l n).symm.trans h⟩
  rintro P n ⟨ps, h1, h2⟩
  exact ⟨ps, (g P n).trans h1, h2⟩
theorem Gp.trans {p : Addr} {H H1 H2 : Hp} (a : Gp p H H1) (b : Gp p H1 H2) : Gp p H H2 :=
  ⟨fun c o n h t => b.keep c o n (a.keep c o n h t) t, fun P n h => b.tab P n (a.tab P n h), fun l n h => a.back l n (b.back l n h)⟩
/-- what was there ahead of p grows -/
theorem Gp.out {p : Addr} {H0 H H' : Hp} (g : Gr H0 H) (h : H0 p = none) (a : Gp p H H') : Gr H0 H' := by
  refine ⟨?_, ?_, ?_⟩
  · intro b o e t
    exact a.keep b o (ne_of_none e h) (g.keep b o e t) t
  · intro P t
    have n : P ≠ p := by
      obtain ⟨ps, h1, _⟩ := t
      exact ne_of_none h1 h
    exact a.tab P n (g.tab P t)
  · intro l e
    by_cases z : l = p
    · rw [z]
      exact h
    · exact g.back l (a.back l z e)
theorem Gp.lst {p : Addr} {H H' : Hp} (g : Gp p H H') {b : Addr} {xs : List V} (n : b ≠ p) (h : H b = some (.lst xs)) : H' b = some (.lst xs) := g.keep b _ n h (fun _ z => by cases z)
theorem Gp.upd_new {p q : Addr} {H0 H : Hp} {o : HO} (g : Gp p H0 H) (h : H0 q = none) : Gp p H0 (upd H q o) := by
  refine ⟨?_, ?_, ?_⟩
  · intro b u nb e n
    rw [upd_ne (ne_of_none e h)]
    exact g.keep b u nb e n
  · intro P nP t
    have np : P ≠ q := by
      obtain ⟨ps, h1, _⟩ := t
      exact ne_of_none h1 h
    obtain ⟨ps, h1, h2⟩ := g.tab P nP t
    exact ⟨ps, (upd_ne np).trans h1, h2⟩
  · intro l nl e
    by_cases z : l = q
    · rw [z]
      exact h
    · rw [upd_ne z] at e
      exact g.back l nl e
/-- a def that is called: where it stands, how it is bound, what it promises -/
structure Has (P : Program) (w : World) (K : PySem.W.Frag) (mg : Str → Option Value) (base : Heap) (k : Nat) (x : Str) (ps : List Str) (sp : Sp) (f : Addr) (fd : FuncData) : Prop where
  ok : FnOk P w K mg base CX0 k f fd ps sp
  at_ : mg x = some (.ref f)
  kp : PySem.W.keepIn K (.ref f) = true
  bd : Binds K fd ps []
theorem hcall {X : Cx} {k : Nat} {x : Str} {ps : List Str} {sp : Sp} {f : Addr} {fd : FuncData} {e : Expr} {es : List Expr} {t : TA} {p pos : Pos} (h : Has X.prog X.w X.K X.mg X.base k x ps sp f fd) (hr : Room k X.A) (ha : PA X (e :: es) t)
    (hg : Gl X x := by rfl) (hdb : (x == ("__debug__" : Str)) = false := by decide) (he : starEach (e :: es) X.env = (false, eval e X.env) :: starEach es X.env := by rfl)
    (hpl : (backTo pos (starEach es X.env)).any (·.1) = false := by rfl) : PE X (.Call (.Name x p) (e :: es) [] pos) (tCall sp [] E0 t) :=
  pe_call h.ok hr hg h.at_ h.kp h.bd .nil pass0 ha hdb he hpl
/-! ### data that stays -/
theorem Gr.sqt {K : PySem.W.Frag} {H H' : Hp} {a : Addr} {xs : List V} (e : Gr H H') (h : SqT K H a xs) : SqT K H' a xs := by
  rcases h with (h | ⟨o, h⟩) | h
  · exact .inl (.inl (e.tup h))
  · exact .inl (.inr ⟨o, e.keep _ _ h (fun _ z => by cases z)⟩)
  · exact .inr h
theorem Gp.sqt {K : PySem.W.Frag} {p : Addr} {H H' : Hp} {a : Addr} {xs : List V} {kv : List (Key × V)} (e : Gp p H H') (hp : H p = some (.dK kv)) (h : SqT K H a xs) : SqT K H' a xs := by
  rcases h with (h | ⟨o, h⟩) | h
  · refine .inl (.inl (e.keep a _ (fun z => ?_) h (fun _ z => by cases z)))
    rw [z, hp] at h
    cases h
  · refine .inl (.inr ⟨o, e.keep a _ (fun z => ?_) h (fun _ z => by cases z)⟩)
    rw [z, hp] at h
    cases h
  · exact .inr h
theorem Gp.sql {K : PySem.W.Frag} {p : Addr} {H H' : Hp} {a : Addr} {xs : List V} {kv : List (Key × V)} (e : Gp p H H') (hp : H p = some (.dK kv)) (h : SqL K H a xs) : SqL K H' a xs := by
  rcases h with (h | ⟨o, h⟩) | h
  · refine .inl (.inl (e.keep a _ (fun z => ?_) h (fun _ z => by cases z)))
    rw [z, hp] at h
    cases h
  · refine .inl (.inr ⟨o, e.keep a _ (fun z => ?_) h (fun _ z => by cases z)⟩)
    rw [z, hp] at h
    cases h
  · exact .inr h
/-- what keeps all lists and tuples keeps data -/
structure Kd (K : PySem.W.Frag) (H H' : Hp) : Prop where
  l : ∀ {a xs}, SqL K H a xs → SqL K H' a xs
  t : ∀ {a xs}, SqT K H a xs → SqT K H' a xs
theorem Gr.kd {K : PySem.W.Frag} {H H' : Hp} (g : Gr H H') : Kd K H H' := ⟨fun h => g.seq h, fun h => g.sqt h⟩
theorem Gp.kd {K : PySem.W.Frag} {p : Addr} {H H' : Hp} {kv : List (Key × V)} (g : Gp p H H') (hp : H p = some (.dK kv)) : Kd K H H' := ⟨fun h => g.sql hp h, fun h => g.sqt hp h⟩
mutual
theorem Kd.dp {K : PySem.W.Frag} {H H' : Hp} (g : Kd K H H') : ∀ {d : PyData} {v : V}, Dp K H v d → Dp K H' v d
  | _, _, .non => .non
  | _, _, .bl b => .bl b
  | _, _, .int i => .int i
  | _, _, .str x => .str x
  | _, _, .lst h hs => .lst (g.l h) (g.dpA hs)
  | _, _, .tup h hs => .tup (g.t h) (g.dpA hs)
theorem Kd.dpA {K : PySem.W.Frag} {H H' : Hp} (g : Kd K H H') : ∀ {ds : List PyData} {vs : List V}, DpAll K H vs ds → DpAll K H' vs ds
  | _, _, .nil => .nil
  | _, _, .cons h hs => .cons (g.dp h) (g.dpA hs)
end
section
variable {K : PySem.W.Frag} {H : Hp} {v : V}
theorem dp_str {z : Str} (h : Dp K H v (.str z)) : v = .str z := by cases h; rfl
theorem dp_int {n : Int} (h : Dp K H v (.int n)) : v = .int n := by cases h; rfl
theorem dp_tup {ds : List PyData} (h : Dp K H v (.tuple ds)) : ∃ p xs, v = .ref p ∧ SqT K H p xs ∧ DpAll K H xs ds := by
  cases h with
  | tup h hs => exact ⟨_, _, rfl, h, hs⟩
theorem dpA_nil {xs : List V} (h : DpAll K H xs []) : xs = [] := by cases h; rfl
theorem dpA_cons {xs : List V} {d : PyData} {ds : List PyData} (h : DpAll K H xs (d :: ds)) : ∃ x r, xs = x :: r ∧ Dp K H x d ∧ DpAll K H r ds := by
  cases h with
  | cons a b => exact ⟨_, _, rfl, a, b⟩
theorem dp_1 {a : PyData} (h : Dp K H v (.tuple [a])) : ∃ p x, v = .ref p ∧ SqT K H p [x] ∧ Dp K H x a := by
  obtain ⟨p, xs, rfl, hp, hs⟩ := dp_tup h
  obtain ⟨x, r, rfl, hx, hs⟩ := dpA_cons hs
  cases dpA_nil hs
  exact ⟨p, x, rfl, hp, hx⟩
theorem dp_2 {a b : PyData} (h : Dp K H v (.tuple [a, b])) : ∃ p x y, v = .ref p ∧ SqT K H p [x, y] ∧ Dp K H x a ∧ Dp K H y b := by
  obtain ⟨p, xs, rfl, hp, hs⟩ := dp_tup h
  obtain ⟨x, r, rfl, hx, hs⟩ := dpA_cons hs
  obtain ⟨y, r, rfl, hy, hs⟩ := dpA_cons hs
  cases dpA_nil hs
  exact ⟨p, x, y, rfl, hp, hx, hy⟩
theorem dp_3 {a b c : PyData} (h : Dp K H v (.tuple [a, b, c])) : ∃ p x y z, v = .ref p ∧ SqT K H p [x, y, z] ∧ Dp K H x a ∧ Dp K H y b ∧ Dp K H z c := by
  obtain ⟨p, xs, rfl, hp, hs⟩ := dp_tup h
  obtain ⟨x, r, rfl, hx, hs⟩ := dpA_cons hs
  obtain ⟨y, r, rfl, hy, hs⟩ := dpA_cons hs
  obtain ⟨z, r, rfl, hz, hs⟩ := dpA_cons hs
  cases dpA_nil hs
  exact ⟨p, x, y, z, rfl, hp, hx, hy, hz⟩
theorem dp_4 {a b c d : PyData} (h : Dp K H v (.tuple [a, b, c, d])) : ∃ p x y z w, v = .ref p ∧ SqT K H p [x, y, z, w] ∧ Dp K H x a ∧ Dp K H y b ∧ Dp K H z c ∧ Dp K H w d := by
  obtain ⟨p, xs, rfl, hp, hs⟩ := dp_tup h
  obtain ⟨x, r, rfl, hx, hs⟩ := dpA_cons hs
  obtain ⟨y, r, rfl, hy, hs⟩ := dpA_cons hs
  obtain ⟨z, r, rfl, hz, hs⟩ := dpA_cons hs
  obtain ⟨u, r, rfl, hu, hs⟩ := dpA_cons hs
  cases dpA_nil hs
  exact ⟨p, x, y, z, u, rfl, hp, hx, hy, hz, hu⟩
/-- the i-th of a tuple of data -/
theorem dpA_get : ∀ {ds : List PyData} {xs : List V} {i : Nat} {d : PyData}, DpAll K H xs ds → ds[i]? = some d → ∃ x, xs[i]? = some x ∧ Dp K H x d
  | [], _, i, d, _, h => by simp at h
  | a :: r, xs, 0, d, hs, h => by
    obtain ⟨x, r', rfl, hx, _⟩ := dpA_cons hs
    have e : a = d := Option.some.inj h
    exact ⟨x, rfl, e ▸ hx⟩
  | a :: r, xs, i + 1, d, hs, h => by
    obtain ⟨x, r', rfl, _, hr⟩ := dpA_cons hs
    obtain ⟨y, hy, hd⟩ := dpA_get hr (show r[i]? = some d from h)
    exact ⟨y, hy, hd⟩
theorem dpA_len : ∀ {ds : List PyData} {xs : List V}, DpAll K H xs ds → xs.length = ds.length
  | [], _, h => by
    rw [dpA_nil h]
    rfl
  | _ :: _, _, h => by
    obtain ⟨x, r, rfl, _, hr⟩ := dpA_cons h
    rw [List.length_cons, List.length_cons, dpA_len hr]
end
end SfG
namespace SfG
open PySem PySem.Spec PyProof.Rows L2
/-! ### an exception that is held behind its try -/
/-- an exception of the class cls, caught, at a -/
def EkO (cls : Value) (d : Option Addr) (a : Addr) : HO := .ext fun h => ∃ oe : Obj, h.get? a = some oe ∧ Zc cls d oe ∧ ∃ vs, oe.data = .fields vs
section
variable {X : Cx} {pins : List (Addr × Obj)} {σ : L2.St} {H : Hp} {s : Shared}
theorem inv_track {a : Addr} {oe : Obj} {vs : Array Value} {φ : Heap → Prop} (I : L2.Inv X pins σ H s) (ha : s.heap.get? a = some oe) (hd : oe.data = .fields vs) (na : H a = none) (nL : a ≠ X.env.locals)
    (n0 : X.s_0.heap.get? a = none) (np : ∀ p ∈ X.pn ++ pins, p.1 ≠ a) (new : ObjOk X.prog X.w (upd H a (.ext φ)) s.heap a (.ext φ)) : L2.Inv X pins σ (upd H a (.ext φ)) s where
  ok := I.ok
  os := I.os
  bare := I.bare
  base := {
    keep := I.base.keep
    slot := I.base.slot
    free := by
      intro b o e n hx
      rw [upd_ne (by intro z; rw [z, n0] at e; cases e)]
      exact I.base.free b o e n hx
    there := I.base.there
    tups := by
      intro b xs e
      have q := I.base.tups b xs e
      rw [upd_ne (ne_of_none q na)]
      exact q
    frzs := by
      intro b o u e
      have q := I.base.frzs b o u e
      rw [upd_ne (ne_of_none q na)]
      exact q
    tbls := by
      intro b ps e
      obtain ⟨more, q⟩ := I.base.tbls b ps e
      exact ⟨more, by rw [upd_ne (ne_of_none q na)]; exact q⟩ }
  loc := I.loc
  cell := I.cell
  free := by
    rw [upd_ne (Ne.symm nL)]
    exact I.free
  freeC := by
    intro x c e
    rw [upd_ne ?_]
    · exact I.freeC x c e
    · intro z
      obtain ⟨v, o, ho, hc⟩ := I.cell x c e
      rw [z, ha] at ho
      cases ho
      rw [hd] at hc
      cases hc
  pin := by
    intro p hp
    obtain ⟨e, n, rest⟩ := I.pin p hp
    exact ⟨e, by rw [upd_ne (np p hp)]; exact n, rest⟩
  hok := I.hok.laidN (fun _ _ e => e) na new
  len := I.len
end
/-- what the clause wishes: the exception is held behind the suite -/
def wKeep (K : PySem.W.Frag) (c : Value) (i : Nat) (ts : Addr → Value → Option Addr → TS) (Wout : WX) (D : Ends) : WX := fun cls d σ H =>
  ∃ b, PySem.W.exmOne K cls c = some b ∧
    (b = true → ∀ a, H a = none → ts a cls d { nx := fun σ' H' => D.nx (σ'.set i none) (upd H' a (EkO cls d a)), rt := fun _ _ => False, bk := fun _ _ => False, ct := fun _ _ => False } (σ.set i (some (.ref a))) H) ∧
    (b = false → Wout cls d σ H)
section
variable {X : Cx} {x n : Str} {c : Value} {i : Nat} {body more : List Stmt} {st0 : Stmt} {p1 p2 p3 : Pos} {tb : WX → TS} {ts : Addr → Value → Option Addr → TS} {Wout : WX}
theorem ps_try_keep (stk : X.stack = X.env :: X.outer) (frm : X.env.frame = some X.env.locals) (hex : X.ex = []) (hN : X.N.Nodup) (hi : X.N[i]? = some n) (hn : X.env.kindOf n = some .local) (hc : Names X x c) (tk : Takes X Wout)
    (bd : ∀ (W : WX) (pn : List (Addr × Obj)) (xe : Value → Shared → Prop), Takes (X.tr pn xe) W → PassesOwn (model X.prog X.w) X.A X.env xe → PSs (X.tr pn xe) body (tb W))
    (su : ∀ (a : Addr) (oe : Obj) (cls : Value) (d : Option Addr) (pn : List (Addr × Obj)), Zc cls d oe → (∃ vs, oe.data = .fields vs) → PSs (X.suite a ((a, oe) :: pn)) (st0 :: more) (ts a cls d))
    (yes : ∀ D cls d σ H, wKeep X.K c i ts Wout D cls d σ H → PySem.W.exmOne X.K cls c = some true) :
    PS X (.Try body [.ExceptHandler (some (.Name x p1)) (some n) (st0 :: more) p2] [] [] p3) (fun D σ H => tb (wKeep X.K c i ts Wout D) D σ H) := by
  constructor
  intro pins s σ H D I h
  have okX := I.ok
  have frames : X.A.frames = some (X.env :: X.outer) := by
    rw [okX.frames, stk]
  refine wpAny_Try_except ?_
  have B1 := bd (wKeep X.K c i ts Wout D) (X.pn ++ pins)
    (fun e s₁ => wpAny (model X.prog X.w) X.A (noteFrame e X.env)
      (fun _ s₂ => wpAny (model X.prog X.w) X.A (setFlight e none)
        (fun _ s₃ => wpAny (model X.prog X.w) X.A
          (handleBy e X.env [.ExceptHandler (some (.Name x p1)) (some n) (st0 :: more) p2]) (SP X pins D) X.xe s₃) X.xe s₂) X.xe s₁)
    ?caught PassesOwn.looking
  · refine wpAny_mono (B1.run [] s σ H D (I.toTry _) h) ?_ (fun _ _ z => z)
    intro f s1 hs1
    cases f with
    | next =>
      obtain ⟨σ', H', J, q⟩ := hs1
      exact wpAny_execs_nil ⟨σ', H', J.ofTry okX, q⟩
    | ret u =>
      obtain ⟨v, σ', H', J, r, q⟩ := hs1
      exact ⟨v, σ', H', J.ofTry okX, r, q⟩
    | brk =>
      obtain ⟨σ', H', J, q⟩ := hs1
      exact ⟨σ', H', J.ofTry okX, q⟩
    | cont =>
      obtain ⟨σ', H', J, q⟩ := hs1
      exact ⟨σ', H', J.ofTry okX, q⟩
  case caught =>
    intro u s' air
    obtain ⟨a, B, sI, pins', σ', H', cls, d, rfl, J', ground, up, sky, na, os, ag, wish⟩ := air
    have hyes := yes D cls d σ' H' wish
    obtain ⟨b, hb1, hgo, _⟩ := wish
    rw [hyes] at hb1
    cases hb1
    have J : L2.Inv X pins σ' H' sI := J'.ofTry okX
    have skyX : Sky B (X.env :: X.outer) a (Zc cls d) X.env.locals s'.heap := by
      rw [← stk]
      exact sky
    show wpAny (model X.prog X.w) X.A (noteFrame (.ref a) X.env) _ _ _
    refine Sky.land Zc.steady frames frm skyX ?_
    intro h3 fl3 up3
    obtain ⟨oe3, vs3, get3, z3, dat3⟩ := fl3.there
    have noFrame : a ∉ frs (X.env :: X.outer) := by
      intro hm
      obtain ⟨_, o', e', nof⟩ := fl3.2.2.1.mem hm
      rw [get3] at e'
      cases e'
      exact nof _ dat3
    have notL : a ≠ X.env.locals := by
      intro z
      refine noFrame (List.mem_filterMap.mpr ⟨X.env, List.mem_cons_self, ?_⟩)
      rw [frm, z]
    have notF : a ∉ X.fs := by
      intro hm
      obtain ⟨e, he, q⟩ := List.mem_filterMap.mp hm
      exact noFrame (List.mem_filterMap.mpr ⟨e, List.mem_cons_of_mem _ he, q⟩)
    have newI : sI.heap.get? a = none := by
      cases e : sI.heap.get? a with
      | none => rfl
      | some o =>
        have z := ground a o e (by rw [stk]; exact noFrame)
        rw [fl3.2.1] at z
        cases z
    have new0 : X.s_0.heap.get? a = none := by
      cases e : X.s_0.heap.get? a with
      | none => rfl
      | some o =>
        obtain ⟨o', z⟩ := J.base.there a o e (by rw [hex]; exact fun q => nomatch q)
        rw [newI] at z
        cases z
    have notP : ∀ p ∈ X.pn ++ pins, p.1 ≠ a := by
      intro p hp z
      have q := (J.pin p hp).1
      rw [z, newI] at q
      cases q
    have J3 : L2.Inv X pins σ' H' { s' with heap := h3 } := J.landed ground fl3.1 (up.trans up3) os ag
    have S3 := J3.suite get3 dat3 na notL notF
    refine wpAny_handleBy_cons (codeAny_handlers_test ?_) (by intro q; cases q)
    have kindly : PySem.W.Looks (model X.prog X.w) h3 (typeOf (.ref a)) cls := by
      intro A2 Q2 E2 s2 k2 q2
      refine wpAny_typeOf_ref (k2 _ _ get3) ?_
      rw [z3.1]
      exact q2
    have match_ := PySem.W.exm_one (M := model X.prog X.w) J3.kIn kindly hyes
    have named : ∀ {Q2 : Value → Shared → Prop} {E2 : Value → Shared → Prop}, Q2 c { s' with heap := h3 } →
        wpAny (model X.prog X.w) (X.A.mark (some (.ref a))) (eval (.Name x p1) X.env) Q2 E2 { s' with heap := h3 } := by
      intro Q2 E2 q2
      obtain ⟨g1, g2, g3 | ⟨g3, g4, g5⟩⟩ := hc
      · exact ld_glob (X := X.suite a ((a, oe3) :: (X.pn ++ pins))) S3 g1 g3 q2 g2
      · exact ld_blt (X := X.suite a ((a, oe3) :: (X.pn ++ pins))) S3 g1 g3 g4 q2 g5 g2
    refine named (match_.here ?_)
    refine codeAny_handlers_suite_as ?_
    refine HandSPX.lands_againZ fl3 ?_
    intro h4 fl4 up4
    obtain ⟨oe4, vs4, get4, z4, dat4⟩ := fl4.there
    have J4 : L2.Inv X pins σ' H' { s' with heap := h4 } := J.landed ground fl4.1 ((up.trans up3).trans up4) os ag
    have S4 := J4.suite get4 dat4 na notL notF
    refine store_ok (X := X.suite a ((a, oe4) :: (X.pn ++ pins))) (v := .ref a) S4 hN hi (.inl hn) rfl ?_ (.inr hn)
    intro s5 S5
    refine wpAny_mono ((su a oe4 cls d (X.pn ++ pins) z4 ⟨_, dat4⟩).run [] s5 _ H' _ S5 (hgo rfl a na)) ?_ (fun _ _ z => False.elim z)
    intro f s6 hs6
    cases f with
    | next =>
      obtain ⟨σ6, H6, S6, q6⟩ := hs6
      obtain ⟨get6, na6, _⟩ := S6.pin (a, oe4) (List.mem_append_left _ List.mem_cons_self)
      have J6 : L2.Inv X pins σ6 H6 s6 := S6.unsuite okX
      have T6 := inv_track (φ := fun h => ∃ oe : Obj, h.get? a = some oe ∧ Zc cls d oe ∧ ∃ vs, oe.data = .fields vs) J6 get6 dat4 na6 notL new0 notP
        ⟨⟨oe4, get6, z4, _, dat4⟩, ⟨oe4, get6⟩, fun h1 h2 ⟨o, e, r⟩ k => ⟨o, k o e, r⟩⟩
      refine gone_ok T6 hN hi hn ?_
      intro s7 J7
      exact ⟨_, _, J7, q6⟩
    | brk =>
      obtain ⟨σ6, H6, S6, q6⟩ := hs6
      exact q6.elim
    | cont =>
      obtain ⟨σ6, H6, S6, q6⟩ := hs6
      exact q6.elim
    | ret u =>
      obtain ⟨v6, σ6, H6, S6, r6, q6⟩ := hs6
      exact q6.elim
end
/-! ### isinstance of such an exception -/
def rIsK (K : PySem.W.Frag) (D : Addr) : List V → Hp → VK → Prop := fun xs H Q =>
  ∃ (a : Addr) (c : V) (cv : Value) (b : Bool), xs = [.ref a, c] ∧ H a = some (EkO (.ref D) none a) ∧ (∀ u, RelV c u → u = cv) ∧ PySem.W.kitOne K (.ref D) cv = some b ∧ Q (.bl b) H
theorem call_isK {X : Cx} {D : Addr} (C : ExcC X.K D) : CallR X (.builtin "isinstance") (rIsK X.K D) := by
  intro pins s σ H xs us Q I r h
  obtain ⟨a, c, cv, b, rfl, hH, hcv, e, q⟩ := h
  obtain ⟨⟨oe, get, z, vs, dat⟩, _⟩ := I.hok a _ hH
  cases r with
  | cons rx rr =>
    cases rr with
    | cons rt rr =>
      cases rr
      cases rx
      have ec := hcv _ rt
      subst ec
      have J : PySem.W.InstAt s.heap a oe D none := by
        obtain ⟨oc, od, oda, osl⟩ := oe
        obtain ⟨h1, h2⟩ := z
        dsimp only at h1 h2 dat
        subst h1 h2 dat
        exact ⟨get, rfl, rfl, trivial⟩
      refine PySem.W.kia_one (PySem.W.handS_kitx_exc C.hg C.hk C.hs C.hd C.ha C.hn C.ht C.hm) I.kIn J e (fun z => nomatch z) ?_
      intro tk
      exact ⟨.bl b, H, I.kept (t' := tk) fun _ _ z => z, rfl, q⟩
end SfG
namespace SfG
open PySem PySem.Spec PyProof.Rows L2
/-! ### enumerate(t), t a tuple -/
set_option maxHeartbeats 1000000 in
theorem meets_enum1 {v : Value} {o : Obj} {H : Heap → Prop} (B : Begins v o H) :
    Meets (Builtin.«enumerate.__new__» ⟨[.type "enumerate", v], []⟩) (fun _ R s => H s.heap ∧
      R (.ok (.ret (.ref (s.heap.push o).objs.size)))
        { s with heap := (s.heap.push o).push { cls := .type "enumerate", data := .fields #[.none, .bool false, .ref s.heap.objs.size, rawInt 0, .none, .none] } }) :=
  .of_wp fun prog w A R s hh => by
    obtain ⟨hp, g, d, tk, os⟩ := s
    obtain ⟨h1, fin⟩ := hh
    have hsub := sub_enumerate
    have it1 : ∀ {A' : Around} {E : Value → Shared → Prop} {Q : Value → Shared → Prop}, Q (.ref hp.objs.size) ⟨hp.push o, g, d, tk, os⟩ →
        wpAny (model prog w) A' (pyIter v) Q E ⟨hp, g, d, tk, os⟩ := fun q => B.iter prog w _ _ ⟨hp, g, d, tk, os⟩ _ h1 q
    wp_walk using it1
    refine wpAny_stack_any fun st => wpAny_pure ?_
    split
    · rename_i c _ _ _ _ _
      cases (c == Value.type "enumerate") <;> (wp_walk using it1; exact ⟨_, rfl, fin⟩)
    · wp_walk using it1
      exact ⟨_, rfl, fin⟩
section
variable {prog : Program} {w : World} {A : Around} {E : Value → Shared → Prop} {s : Shared}
theorem enum1 {v : Value} {o : Obj} {H : Heap → Prop} {Q : Value → Shared → Prop} (B : Begins v o H) (h1 : H s.heap)
    (h : ∀ h', IsEnum h' (s.heap.objs.size + 1) s.heap.objs.size 0 .none → h'.get? s.heap.objs.size = some o →
      (∀ b u, s.heap.get? b = some u → h'.get? b = some u) → Q (.ref (s.heap.objs.size + 1)) { s with heap := h' }) :
    wpAny (model prog w) A (call (.type "enumerate") [v]) Q E s := by
  refine callType_new F.called_enumerate (by decide) (F.typeCall_enumerate_1 _) (F.newCall_enumerate_1 _) (fun obj => F.args_object_init_2 obj _)
    F.entry_enumerate_new (meets_enum1 B) ⟨h1, ?_⟩
  have sz : (s.heap.push o).objs.size = s.heap.objs.size + 1 := Heap.size_push ..
  show _ ∧ _
  rw [sz]
  have made : IsEnum ((s.heap.push o).push { cls := .type "enumerate", data := .fields #[.none, .bool false, .ref s.heap.objs.size, rawInt 0, .none, .none] })
      (s.heap.objs.size + 1) s.heap.objs.size 0 .none := by
    have z := Heap.get?_push_size (s.heap.push o) (o := { cls := .type "enumerate", data := .fields #[.none, .bool false, .ref s.heap.objs.size, rawInt 0, .none, .none] }) rfl
    rw [sz] at z
    exact z
  refine ⟨⟨_, made, rfl⟩, h _ made (Heap.get?_push_of_some _ (Heap.get?_push_size _ B.free)) ?_⟩
  intro b u x
  exact Heap.get?_push_of_some _ (Heap.get?_push_of_some _ x)
end
/-- the tuple at a as it stands at each turn, each item in a new pair -/
def IteT (K : PySem.W.Frag) (a : Addr) : It :=
  ⟨fun i H => ∃ (xs : List V) (x : V), SqT K H a xs ∧ xs[i]? = some x,
   fun i H v H' => ∃ T x, v = .ref T ∧ H T = none ∧ H' = upd H T (.tup [.int (i : Nat), x]) ∧ ∀ xs, SqT K H a xs → xs[i]? = some x,
   fun i H => ∃ xs : List V, SqT K H a xs ∧ xs.length = i⟩
theorem turn_enumT {P : Program} {w : World} {K : PySem.W.Frag} {elts : List Expr} {kk : Nat} {tpos : Pos} (a e it : Addr) :
    Turn P w K (.Tuple elts kk tpos) (IteT K a) [e, it] e (fun i h => (∃ old, IsEnum h e it ((i : Nat) : Int) old) ∧ h.IsTupleIter it a i ∧ e ≠ it) where
  mem := by simp
  obj := by
    rintro i h ⟨⟨old, he⟩, ⟨o, ho, hc, hd⟩, _⟩ b hb
    have two : b = e ∨ b = it := by simpa using hb
    rcases two with rfl | rfl
    · exact ⟨_, he, fun v q => nomatch q⟩
    · exact ⟨o, ho, fun v q => by rw [hd] at q; cases q⟩
  keep := by
    rintro i h h' ⟨⟨old, he⟩, hi, hne⟩ k
    exact ⟨⟨old, k e (by simp) _ he⟩, hi.at fun o q => k it (by simp) o q, hne⟩
  item := by
    intro X hP hw hK hc i pins s σ H E I hf st hg
    subst hP hw hK
    obtain ⟨⟨old, he⟩, hit, hne⟩ := st
    obtain ⟨xs, x, hq, hx⟩ := hg
    obtain ⟨its, rv, p, hz⟩ := I.tuple hq
    obtain ⟨u, hu, ru⟩ := rv.get hx
    have ea : e ≠ a := by
      intro z
      obtain ⟨o, ho, hcl, _⟩ := p
      rw [← z] at ho
      have q := he
      unfold IsEnum at q
      rw [ho] at q
      have q1 := Option.some.inj q
      rw [q1] at hcl
      exact absurd (Value.type.inj hcl) (by decide)
    have ia : a ≠ it := by
      intro z
      obtain ⟨o, ho, hcl, _⟩ := p
      obtain ⟨o', ho', hcl', _⟩ := hit
      rw [z, ho'] at ho
      cases ho
      rw [hcl'] at hcl
      exact absurd (Value.type.inj hcl) (by decide)
    have D : Draws X.prog X.w X.A.in1 it [it, a] its.toArray.size (fun i v => its.toArray[i]? = some v) (fun i h => h.IsTupleIter it a i ∧ h.IsTuple a its.toArray) :=
      Draws.tuple (show X.A.in1.handled = none from I.ok.hd hc) it a ia its.toArray
    have hlt : i < its.toArray.size := by
      have hl := rv.length
      have hi : i < xs.length := by
        rcases Nat.lt_or_ge i xs.length with h1 | h1
        · exact h1
        · rw [List.getElem?_eq_none h1] at hx
          cases hx
      simp
      omega
    have hel : e < s.heap.objs.size := Heap.lt_size he
    have hil : it < s.heap.objs.size := by
      obtain ⟨_, q, _⟩ := hit
      exact Heap.lt_size q
    refine wpAny_pyNext_enum_itemD D he ⟨hit, p⟩ hlt hne (by simp [hne, ea]) ?_
    intro y h' tk hy ho hst hT hsz hk
    have ey : y = u := by
      have h1 : its.toArray[i]? = some u := by simpa using hu
      have h2 : its.toArray[i]? = some y := hy
      rw [h1] at h2
      exact (Option.some.inj h2).symm
    subst ey
    refine ⟨_, rfl, wpAny_letOwnedTupleGo_enum (s := { s with heap := h', toks := tk + 1 }) ho ?_⟩
    intro h'' he' sb
    have hT2 : h''.get? s.heap.objs.size = some { cls := .type "tuple", data := .seq #[.int i tk, y] } := (sb.2 _ (Nat.ne_of_gt hel)).trans hT
    have new : ObjOk X.prog X.w (upd H s.heap.objs.size (.tup [.int (i : Nat), x])) h'' s.heap.objs.size (.tup [.int (i : Nat), x]) :=
      ⟨by show 2 ≤ sizeLine; decide, [.int i tk, y], .cons ⟨_, rfl⟩ (.cons ru .nil), ⟨_, hT2, rfl, _, rfl⟩⟩
    have I1 : L2.Inv X pins σ (upd H s.heap.objs.size (.tup [.int (i : Nat), x])) { s with heap := h'', toks := tk + 1 } := by
      refine I.turnedNew (ch := [e, it]) ?_ hf (Nat.le_refl _) new
      intro b ob hb q
      exact (sb.2 b (fun z => hb (by simp [z]))).trans (hk b ob (fun z => hb (by simp [z])) (fun z => hb (by simp [z])) q)
    refine ⟨.ref s.heap.objs.size, _, I1, rfl, ⟨_, x, rfl, I.hok.fresh (Nat.le_refl _), rfl, ?_⟩, ⟨⟨y, ?_⟩, hst.1.at fun o q => (sb.2 it (Ne.symm hne)).trans q, hne⟩, ?_⟩
    · intro ys hy'
      rw [I.tuple_inj hy' hq]
      exact hx
    · have e1 : ((i + 1 : Nat) : Int) = (i : Int) + 1 := by omega
      rw [e1]
      exact he'
    · intro b hb
      have hb' : b < s.heap.objs.size := by
        have two : b = e ∨ b = it := by simpa using hb
        rcases two with rfl | rfl
        · exact hel
        · exact hil
      rw [upd_ne (Nat.ne_of_lt hb')]
      exact (hf b hb).1
  done := by
    intro X hP hw hK hc i pins s σ H E I hf st hg
    subst hP hw hK
    obtain ⟨⟨old, he⟩, hit, hne⟩ := st
    obtain ⟨xs, hq, hx⟩ := hg
    obtain ⟨its, rv, p, hz⟩ := I.tuple hq
    have ia : a ≠ it := by
      intro z
      obtain ⟨o, ho, hcl, _⟩ := p
      obtain ⟨o', ho', hcl', _⟩ := hit
      rw [z, ho'] at ho
      cases ho
      rw [hcl'] at hcl
      exact absurd (Value.type.inj hcl) (by decide)
    obtain ⟨f0, f1, f2, f3, f4, f5⟩ := hf it (by simp)
    have hl := rv.length
    have D : Draws X.prog X.w X.A.in1 it [it, a] its.toArray.size (fun i v => its.toArray[i]? = some v) (fun i h => h.IsTupleIter it a i ∧ h.IsTuple a its.toArray) :=
      Draws.tuple (show X.A.in1.handled = none from I.ok.hd hc) it a ia its.toArray
    have ei : its.toArray.size = i := by
      simp
      omega
    rw [← ei] at hit
    exact wpAny_pyNext_enum_endD D he ⟨hit, p⟩ fun h' eb => ⟨rfl, I.turned (t' := s.toks) (fun b o hb q => eb b o hb q) f0 f1 f3 f4 f5⟩
  self := by
    rintro A i s Q E ⟨⟨_, he⟩, _⟩ h
    exact wpAny_pyIter_enum he h
def iEnumT (K : PySem.W.Frag) (ta : TA) : TI := fun σ H R => ta σ H fun vs H1 => ∃ a xs, vs = [.ref a] ∧ SqT K H1 a xs ∧ R (IteT K a) H1
theorem pi_enumT {X : Cx} {e : Expr} {ta : TA} {p pos tpos : Pos} {elts : List Expr} {kk : Nat} (hg : Gl X "enumerate") (hm : X.mg "enumerate" = none) (ha : PA X [e] ta)
    (hs : starEach [e] X.env = [(false, eval e X.env)] := by rfl) : PI X (.Tuple elts kk tpos) (.Call (.Name "enumerate" p) [e] [] pos) (iEnumT X.K ta) := by
  constructor
  intro pins s σ H R I h
  refine Call_ (ld_blt I hg hm boot_enumerate (PyProof.Rows.callWith_type1 (thn (ha.run pos pins s σ H _ I h) ?_) hs rfl))
  rintro us s1 ⟨vs, H1, I1, r1, a, xs, rfl, hq, q⟩
  obtain ⟨u, rfl, ru⟩ := vals1 r1
  cases (show u = Value.ref a from ru)
  obtain ⟨its, rv, p', hz⟩ := I1.tuple hq
  refine enum1 (begins_tuple a its.toArray) p' ?_
  intro h' he hit hk
  refine wpAny_pyIter_enum he ?_
  have I2 : L2.Inv X pins σ H1 { s1 with heap := h' } := I1.kept (t' := s1.toks) hk
  refine ⟨s1.heap.objs.size + 1, [s1.heap.objs.size + 1, s1.heap.objs.size], _, _, H1, rfl, I2, turn_enumT a (s1.heap.objs.size + 1) s1.heap.objs.size,
    ⟨⟨.none, he⟩, ⟨_, hit, rfl, rfl⟩, Nat.succ_ne_self _⟩, ?_, q⟩
  intro b hb
  have two : b = s1.heap.objs.size + 1 ∨ b = s1.heap.objs.size := by simpa using hb
  have hle : s1.heap.objs.size ≤ b := by
    rcases two with z | z
    · rw [z]
      exact Nat.le_succ _
    · rw [z]
      exact Nat.le_refl _
  exact I1.fpOk hle (I1.hok.fresh hle)
theorem walk_enumT {K : PySem.W.Frag} {a : Addr} {xs : List V} : Walk (IteT K a) xs.length (fun H => SqT K H a xs) (YPair (fun i => some (.int (i : Nat))) (fun i => xs[i]?)) := by
  refine ⟨?_, ?_, ?_⟩
  · intro i _ hi q
    exact ⟨xs, xs[i], q, by simp [hi]⟩
  · intro _ q
    exact ⟨xs, q, rfl⟩
  · rintro i H v H' _ q ⟨T, x, h1, h2, h3, h4⟩
    exact ⟨T, .int (i : Nat), x, h1, h2, h3, rfl, h4 xs q⟩
end SfG
namespace SfG
open PySem PySem.Spec PyProof.Rows L2
/-! ### d.update(e), two dicts -/
def rDUpd : V → List V → Hp → VK → Prop := fun x vs H Q => ∃ (a b : Addr) (kvs more : List (Key × V)), x = .ref a ∧ vs = [.ref b] ∧ H a = some (.dK kvs) ∧ H b = some (.dK more) ∧ a ≠ b ∧ kvs.length + more.length ≤ 1000 ∧ Q .non (upd H a (.dK (mergeK kvs more)))
theorem mt_dupd {X : Cx} : MtR X "dict.update" rDUpd := by
  intro pins s σ H x vs v us Q I rx rv h
  obtain ⟨a, b, kvs, more, rfl, rfl, ea, eb, ne, hz, q⟩ := h
  cases (show v = Value.ref a from rx)
  obtain ⟨u, rfl, ru⟩ := vals1 rv
  cases (show u = Value.ref b from ru)
  obtain ⟨za, ha, va, ra, da⟩ := dk_of I.hok ea
  obtain ⟨zb, hb, vb, rb, db⟩ := dk_of I.hok eb
  have sz : va.length + vb.length ≤ sizeLine := by
    rw [← ra.length, ← rb.length]
    exact Nat.le_of_lt (small1000 hz)
  refine call_meetsIn PySem.F.slot_dict_update da.typeIs PySem.F.entry_dict_update (PySem.F.args_dict_update_2 _ _) (meets_dict_update (mixKind X.prog X.w) a b ne hb) ⟨va, vb, da, db, sz, fun h' dd' _ hs => ?_⟩
  have he : ∃ o, h'.get? a = some o := by
    obtain ⟨o, _, _, ho, _⟩ := dd'
    exact ⟨o, ho⟩
  have hm : (mergeK kvs more).length ≤ sizeLine := by
    have := length_mergeK more kvs
    exact Nat.le_of_lt (small1000 (by omega))
  exact ⟨.non, _, d_write (t' := s.toks) I (by rw [ea]; exact True.intro) hs he (dk_new hm ha (rb.merge ra) dd'), rfl, q⟩
/-! ### xs[b], b a truth -/
section
variable {prog : Program} {w : World} {A : Around} {E : Value → Shared → Prop} {s : Shared}
theorem sub_bool {M : Model} {b : Bool} {Q : Option Int → Shared → Prop} (h : Q (some (if b then 1 else 0)) s) : wpAny M A (Builtin.List.listSubscript? (.bool b)) Q E s := by
  unfold Builtin.List.listSubscript?
  refine wpAny_bind (wpAny_specialOf (T := "bool") (show s.TypeIs (.bool b) "bool" from rfl) PySem.F.slot_bool_index.lookup ?_)
  cases b with
  | true =>
    refine wpAny_bind (wpAny_of_eq (a := (1 : Int)) rfl ?_)
    exact wpAny_pure h
  | false =>
    refine wpAny_bind (wpAny_of_eq (a := (0 : Int)) rfl ?_)
    exact wpAny_pure h
theorem get_bool {l : Addr} {items : Array Value} {b : Bool} {x : Value} {Q : Value → Shared → Prop} (hl : s.heap.IsList l items) (hx : items[(if b then 1 else 0)]? = some x) (h : Q x s) :
    wpAny (model prog w) A (getItem (.ref l) (.bool b)) Q E s := by
  obtain ⟨o, ho, hc, ne, hd⟩ := id hl
  unfold getItem
  try with_reducible refine wpAny_holding ?_
  first | refine wpAny_bind (wpAny_pure ?_) | skip
  refine wpAny_bind (wpAny_sequenceKey hl.typeIs (by decide) ?_)
  refine wpAny_bind (wpAny_callSpecial?_slot (name := Str.ofString "__getitem__") hl.typeIs slot_list_getitem (wpAny_call_entry slot_list_getitem hl.typeIs entry_list_getitem ?_ (args_list_getitem _ _)))
  refine wpAny_bind (m := Builtin.List.listSubscript? (.bool b)) (sub_bool ?_)
  cases b with
  | true =>
    show wpAny _ _ ((seqItemAt l 1 >>= fun r => pure (r.map (1, ·))) >>= _) _ _ s
    refine wpAny_bind (wpAny_bind (wpAny_seqItemAt ho hd (wpAny_pure ?_)))
    rw [show items[1]? = some x from hx]
    first
      | exact wpAny_bind (wpAny_pure (wpAny_pure ⟨x, rfl, wpAny_pure h⟩))
      | exact wpAny_pure ⟨x, rfl, wpAny_pure h⟩
  | false =>
    show wpAny _ _ ((seqItemAt l 0 >>= fun r => pure (r.map (0, ·))) >>= _) _ _ s
    refine wpAny_bind (wpAny_bind (wpAny_seqItemAt ho hd (wpAny_pure ?_)))
    rw [show items[0]? = some x from hx]
    first
      | exact wpAny_bind (wpAny_pure (wpAny_pure ⟨x, rfl, wpAny_pure h⟩))
      | exact wpAny_pure ⟨x, rfl, wpAny_pure h⟩
end
def rIxB (K : PySem.W.Frag) : R2 := fun x y H Q => ∃ (p : Addr) (xs : List V) (b : Bool) (v : V), x = .ref p ∧ y = .bl b ∧ SqL K H p xs ∧ xs[(if b then 1 else 0)]? = some v ∧ Q v H
theorem ix_bool {X : Cx} : IxR X (rIxB X.K) := by
  intro value slice pins s σ H x y v u Q I rx ry h hs
  obtain ⟨p, xs, b, z, rfl, rfl, hq, he, q⟩ := h
  cases (show v = Value.ref p from rx)
  cases (show u = Value.bool b from ry)
  obtain ⟨its, r, pl, hz⟩ := I.list hq
  obtain ⟨t, et, rt⟩ := r.get he
  exact subscriptTail_builtinR pl.isList.typeIs PySem.slot_list_getitem.lookup (get_bool (Q := fun r' s' => r' = t ∧ EP X pins σ Q r' s') pl.isList (by simpa using et) ⟨rfl, z, H, I, rt, q⟩) hs
end SfG
namespace SfG
open PySem PySem.Spec PyProof.Rows L2
/-! ### repr of None, of a number, of a list or a tuple -/
def rReprA (K : PySem.W.Frag) : List V → Hp → VK → Prop := fun xs H Q =>
  ∃ (v : V) (d : PyData) (S : Str), xs = [v] ∧ Dp K H v d ∧ (v = .non ∨ (∃ i, v = .int i) ∨ ∃ a, v = .ref a) ∧ d.showable = true ∧ d.hasDict = false ∧
    d.depth ≤ 30 ∧ d.shown = S ∧ S.length ≤ sizeLine ∧ Q (.str S) H
theorem call_reprA {X : Cx} {k : Nat} (hr : Room k X.A) (hgd : X.A.guards = some []) :
    CallR X (.builtin "repr") (rReprA X.K) := by
  intro pins s σ H xs us Q I r h
  obtain ⟨v, d, S, rfl, hd, hv, hs, hn, hdep, rfl, hz, q⟩ := h
  rcases hv with rfl | ⟨i, rfl⟩ | ⟨a, rfl⟩
  · cases hd
    obtain ⟨u, rfl, ru⟩ := vals1 r
    cases ru
    exact PySem.P.repr_of_none ⟨.str _, H, I.tok _, ⟨_, rfl⟩, q⟩
  · cases hd
    obtain ⟨u, rfl, t, rfl⟩ := vals1 r
    exact PySem.P.repr_of_int (by simpa [PyData.showable] using hs) ⟨.str _, H, I.tok _, ⟨_, rfl⟩, q⟩
  · exact call_repr hr hgd pins s σ H _ us Q I r ⟨a, d, _, rfl, hd, hs, hn, hdep, rfl, hz, q⟩
/-! ### what can be shown, and how long that is -/
structure Sh (d : PyData) (L D : Nat) : Prop where
  able : d.showable = true
  nod : d.hasDict = false
  dep : d.depth ≤ D
  len : d.shown.length ≤ L
structure ShA (ds : List PyData) (L D : Nat) : Prop where
  able : PyData.showableAll ds = true
  nod : PyData.hasDictAll ds = false
  dep : PyData.depthAll ds ≤ D
  len : ((PyData.shownAll ds).map (·.length)).sum + 2 * ds.length ≤ L
theorem Sh.mono {d : PyData} {L D L' D' : Nat} (h : Sh d L D) (hL : L ≤ L') (hD : D ≤ D') : Sh d L' D' := ⟨h.able, h.nod, Nat.le_trans h.dep hD, Nat.le_trans h.len hL⟩
theorem ShA.mono {d : List PyData} {L D L' D' : Nat} (h : ShA d L D) (hL : L ≤ L') (hD : D ≤ D') : ShA d L' D' := ⟨h.able, h.nod, Nat.le_trans h.dep hD, Nat.le_trans h.len hL⟩
theorem ShA.nil {D : Nat} : ShA [] 0 D := ⟨rfl, rfl, by simp [PyData.depthAll], by simp [PyData.shownAll]⟩
theorem ShA.cons {d : PyData} {ds : List PyData} {L1 L2 D : Nat} (h : Sh d L1 D) (t : ShA ds L2 D) : ShA (d :: ds) (L1 + 2 + L2) D := by
  refine ⟨?_, ?_, ?_, ?_⟩
  · rw [PyData.showableAll, h.able, t.able]
    rfl
  · rw [PyData.hasDictAll, h.nod, t.nod]
    rfl
  · have h1 := h.dep
    have h2 := t.dep
    simp only [PyData.depthAll]
    omega
  · have h1 := h.len
    have h2 := t.len
    simp only [PyData.shownAll, List.map_cons, List.sum_cons, List.length_cons]
    omega
theorem Sh.tup {ds : List PyData} {L D : Nat} (h : ShA ds L D) : Sh (.tuple ds) (L + 3) (D + 1) := by
  refine ⟨h.able, h.nod, ?_, ?_⟩
  · have h1 := h.dep
    simp only [PyData.depth]
    omega
  · have h1 := h.len
    have h2 := tupleText_len_le (PyData.shownAll ds)
    have h3 := PyData.shownAll_length ds
    simp only [PyData.shown]
    omega
theorem Sh.lst {ds : List PyData} {L D : Nat} (h : ShA ds L D) : Sh (.list ds) (L + 3) (D + 1) := by
  refine ⟨h.able, h.nod, ?_, ?_⟩
  · have h1 := h.dep
    simp only [PyData.depth]
    omega
  · have h1 := h.len
    have h2 := listText_len_le (PyData.shownAll ds)
    have h3 := PyData.shownAll_length ds
    simp only [PyData.shown]
    omega
theorem Sh.non {D : Nat} : Sh .none 4 (D + 1) := ⟨rfl, rfl, by simp [PyData.depth], by decide⟩
theorem Sh.int {i : Int} {k D : Nat} (h : i.natAbs < 2 ^ k) (h0 : 0 < k) (hk : k ≤ 1920) : Sh (.int i) (k + 1) (D + 1) := by
  have hl : i.natAbs.log2 < k := by
    by_cases z : i.natAbs = 0
    · rw [z]
      exact h0
    · exact (Nat.log2_lt z).mpr h
  refine ⟨by simp only [PyData.showable]; exact decide_eq_true (by omega), rfl, by simp [PyData.depth], ?_⟩
  have e := int_text_length_le h0 hl
  show (Str.ofString (toString i)).length ≤ k + 1
  rw [PySem.ofString_length]
  exact e
theorem ShA.ints {k D : Nat} (h0 : 0 < k) (hk : k ≤ 1920) : ∀ {l : List Int}, (∀ x ∈ l, x.natAbs < 2 ^ k) → ShA (l.map PyData.int) (l.length * (k + 3)) (D + 1)
  | [], _ => ShA.nil.mono (by omega) (Nat.le_refl _)
  | a :: r, h => by
    have h1 := ShA.cons (Sh.int (h a List.mem_cons_self) h0 hk) (ShA.ints (D := D) h0 hk (l := r) fun x hx => h x (List.mem_cons_of_mem _ hx))
    refine h1.mono ?_ (Nat.le_refl _)
    rw [List.length_cons, Nat.succ_mul]
    omega
theorem Sh.fits {d : PyData} {L D : Nat} (h : Sh d L D) (hL : L ≤ 10000000) : d.shown.length ≤ sizeLine := by
  rw [sizeLine_eq]
  have := h.len
  omega
end SfG
namespace SfG
open PySem PySem.Spec PyProof.Rows L2
/-! ### the kind of plain data -/
def tyD : PyData → String
  | .none => "NoneType"
  | .bool _ => "bool"
  | .int _ => "int"
  | .str _ => "str"
  | .list _ => "list"
  | .tuple _ => "tuple"
  | .dict _ => "dict"
theorem tyx_tup {K : PySem.W.Frag} {H : Hp} {p : Addr} {xs : List V} (h : SqT K H p xs) : TyX K H (.ref p) (.type "tuple") := by
  rcases h with (h | ⟨o, h⟩) | ⟨o, its, n, h1, h2, _⟩
  · exact .base (.tup h)
  · exact .fTuple h
  · exact .kTuple h1 h2
theorem tyx_lst {K : PySem.W.Frag} {H : Hp} {p : Addr} {xs : List V} (h : SqL K H p xs) : TyX K H (.ref p) (.type "list") := by
  rcases h with (h | ⟨o, h⟩) | ⟨o, its, n, h1, h2, _⟩
  · exact .base (.lst h)
  · exact .base (.frz h)
  · exact .kList h1 h2
theorem dp_is {K : PySem.W.Frag} {H : Hp} {v : V} {d : PyData} (h : Dp K H v d) : Is K H v (tyD d) := by
  cases h with
  | non => exact ⟨.base .non, by decide +kernel⟩
  | bl b => exact ⟨.base (.bl b), by show "bool" ∈ kinds; decide +kernel⟩
  | int i => exact ⟨.base (.int i), by show "int" ∈ kinds; decide +kernel⟩
  | str x => exact ⟨.base (.str x), by show "str" ∈ kinds; decide +kernel⟩
  | lst h _ => exact ⟨tyx_lst h, by show "list" ∈ kinds; decide +kernel⟩
  | tup h _ => exact ⟨tyx_tup h, by show "tuple" ∈ kinds; decide +kernel⟩
theorem kit_tuple : ∀ T ∈ kinds, kitB T "tuple" = some (T == "tuple") := by decide +kernel
def whD : PyData → Bool
  | .int _ => true
  | _ => false
def amD (d : PyData) (lo hi : Int) : Bool := match d with
  | .int i => decide (lo ≤ i) && decide (i ≤ hi)
  | _ => false
def tupD (d : PyData) (lo hi : Int) : Bool := match d with
  | .tuple ds => decide (lo ≤ (ds.length : Int)) && decide ((ds.length : Int) ≤ hi)
  | _ => false
end SfG
namespace SfG
open PySem PySem.Spec PyProof.Rows L2
/-! ### x is not True, x is not False, x a whole number or a truth -/
def rNotBx : R2 := fun x y H Q => ∃ b : Bool, y = .bl b ∧ ((∃ a : Bool, x = .bl a ∧ Q (.bl (!decide (a = b))) H) ∨ ∃ i : Int, x = .int i ∧ Q (.bl true) H)
theorem op_notBx {X : Cx} : OpR X (compareOp .IsNot) rNotBx := by
  intro pins s σ H x y v u Q I rx ry h
  obtain ⟨b, rfl, ⟨a, rfl, q⟩ | ⟨i, rfl, q⟩⟩ := h
  · exact op_notBl pins s σ H _ _ v u Q I rx ry ⟨a, b, rfl, rfl, q⟩
  · cases (show u = Value.bool b from ry)
    obtain ⟨t, rfl⟩ := _root_.id rx
    exact wpAny_isNot_other rfl (fun z => by cases z) ⟨.bl true, H, I, rfl, q⟩
theorem tyx_bool {K : PySem.W.Frag} {H : Hp} {x : V} {t : Value} (h : TyX K H x t) (e : t = .type "bool") : ∃ b, x = .bl b := by
  cases h with
  | base b =>
    cases b with
    | bl b => exact ⟨b, rfl⟩
    | ins => cases e
    | _ => exact absurd (Value.type.inj e) (by decide)
  | _ => exact absurd (Value.type.inj e) (by decide)
theorem is_truth {K : PySem.W.Frag} {H : Hp} {x : V} {T : String} (h : Is K H x T) (e : T = "bool") : ∃ b, x = .bl b := tyx_bool h.1 (by rw [e])
end SfG
/-! sorted of a list of tuples, whose first things are texts that are unlike -/
namespace SfG
open PySem PySem.Spec PyProof.Rows L2
abbrev ltS (a b : Str) : Prop := a.cps.toList < b.cps.toList
/-- a tuple that begins with a text -/
def TupHd (h : Heap) (v : Value) (z : Str) : Prop := ∃ a o xs n t, v = .ref a ∧ h.get? a = some o ∧ o.cls = .type "tuple" ∧ o.data = .seq xs n ∧ xs[0]? = some (.str z t)
theorem TupHd.keeps {h h' : Heap} {v : Value} {z : Str} (x : TupHd h v z) (k : ∀ b o, h.get? b = some o → o.cls = .type "tuple" → h'.get? b = some o) : TupHd h' v z := by
  obtain ⟨a, o, xs, n, t, e, ho, hc, hd, h0⟩ := x
  exact ⟨a, o, xs, n, t, e, k a o ho hc, hc, hd, h0⟩
theorem heads_of {h : Heap} {f : Value → Str} (vs : List Value) (x : ∀ v ∈ vs, TupHd h v (f v)) : ∃ gs, PySem.W.KatTups h vs gs ∧ gs.length = vs.length ∧ ∀ g, g ∈ gs → ∃ z t, g = Value.str z t := by
  induction vs with
  | nil => exact ⟨[], PySem.W.KatTups.nil, rfl, fun g hg => nomatch hg⟩
  | cons v vs ih =>
    obtain ⟨gs, k, hl, hi⟩ := ih fun u hu => x u (.tail _ hu)
    obtain ⟨a, o, xs, n, t, e, ho, hc, hd, h0⟩ := x v (.head _)
    subst e
    refine ⟨.str (f (.ref a)) t :: gs, .cons ho hc hd h0 k, congrArg Nat.succ hl, fun g hg => ?_⟩
    cases hg with
    | head => exact ⟨_, _, rfl⟩
    | tail _ hg => exact hi g hg
section
variable {prog : Program} {w : World} {s : Shared} {A : Around} {E : Value → Shared → Prop}
theorem eqBool_self {p : Value} {Q : Bool → Shared → Prop} (h : Q true s) : wpAny (model prog w) A (eqBool p p) Q E s := by
  unfold eqBool
  show wpAny _ _ (holding [p, p] (if (p == p) = true then _ else _)) Q E s
  rw [if_pos (beq_self_eq_true p)]
  exact wpAny_holding (wpAny_bind (wpAny_rule (wpAny_pure h)))
theorem lex_self {b fin : Bool} {Q : Bool → Shared → Prop} (h : Q fin s) : ∀ (l : List Value) (i : Nat), PySem.W.KatLex prog w A b fin Q (l.zip l) i s
  | [], _ => PySem.W.kat_nil h
  | p :: l, i => PySem.W.kat_cons (eqBool_self (PySem.W.kat_yes (lex_self h l (i + 1))))
theorem swoS (f : Value → Str) : SrtO.Swo (fun u v => decide (ltS (f u) (f v))) := by
  refine ⟨fun x y h => decide_eq_false fun h2 => ?_, fun x y z h1 h2 => decide_eq_false fun h3 => ?_⟩
  · exact List.lt_irrefl _ (List.lt_trans (of_decide_eq_true h) h2)
  · have a := List.not_lt.mp (of_decide_eq_false h1)
    have b := List.not_lt.mp (of_decide_eq_false h2)
    exact List.not_lt.mpr (List.le_trans a b) h3
theorem first_of {xs : Array Value} {v : Value} (h : xs[0]? = some v) : ∃ r, xs.toList = v :: r := by
  rw [← Array.getElem?_toList] at h
  match q : xs.toList with
  | [] => rw [q] at h; cases h
  | y :: l => rw [q] at h; exact ⟨l, by rw [Option.some.inj h]⟩
theorem heads_lt {vs : List Value} {f : Value → Str} (x : ∀ v ∈ vs, TupHd s.heap v (f v)) (inj : ∀ u ∈ vs, ∀ v ∈ vs, f u = f v → u = v) {p q : Value} (hp : p ∈ vs) (hq : q ∈ vs) :
    wpAny (model prog w) A (keyLt' (tuples' true) p q) (fun r s' => s' = s ∧ r = decide (ltS (f p) (f q))) (fun _ _ => False) s := by
  obtain ⟨a, o, xs, n, t, ea, ho, _, ho2, h0⟩ := x p hp
  by_cases e : f p = f q
  · rw [← inj p hp q hq e, ea]
    refine PySem.W.kat_lt ho ho2 ho ho2 (lex_self ⟨rfl, ?_⟩ _ 0)
    rw [decide_eq_false (Nat.lt_irrefl _), decide_eq_false (List.lt_irrefl _)]
  · obtain ⟨b, u, ys, m, t2, eb, hu, _, hu2, k0⟩ := x q hq
    obtain ⟨xr, ex⟩ := first_of h0
    obtain ⟨yr, ey⟩ := first_of k0
    have no : decide (f p = f q) = false := decide_eq_false e
    rw [show keyLt' (tuples' true) p q = keyLt' (tuples' true) (.ref a) (.ref b) by rw [ea, eb]]
    refine PySem.W.kat_lt ho ho2 hu hu2 ?_
    rw [ex, ey]
    refine PySem.W.kat_cons (wpAny_eqBool_str ?_)
    rw [no]
    exact PySem.W.kat_no (oneLt_str ⟨rfl, rfl⟩)
end
/-- sorted(xs), xs a list of tuples that begin with unlike texts -/
def rSortedH (K : PySem.W.Frag) : List V → Hp → VK → Prop := fun vs H Q => ∃ (a : Addr) (xs : List V) (hd : V → Str), vs = [V.ref a] ∧ SqL K H a xs ∧ (∀ x ∈ xs, ∃ t rest, x = V.ref t ∧ SqT K H t (.str (hd x) :: rest)) ∧ (∀ x ∈ xs, ∀ y ∈ xs, hd x = hd y → x = y) ∧
  ∀ (ys : List V) (p : Addr), ys.Perm xs → ys.Pairwise (fun x y => ¬ ltS (hd y) (hd x)) → H p = none → Q (.ref p) (upd H p (.lst ys))
theorem cr_sortedH {X : Cx} : CallR X (.builtin "sorted") (rSortedH X.K) := by
  rintro pins s σ H vs us Q I r ⟨a, xs, hd, rfl, hs, hx, inj, q⟩
  have lst := I.list hs
  obtain ⟨its, rv, hl, hz⟩ := lst
  rw [Vals.ref1 r]
  have all : xs = its.map bkV ∧ ∀ u ∈ its, ∃ a, u = Value.ref a := bkV_refs rv fun x m => (hx x m).imp fun t z => z.choose_spec.1
  have mem : ∀ {v}, v ∈ its → bkV v ∈ xs := fun {v} hv => all.1 ▸ List.mem_map_of_mem hv
  have heads : ∀ v ∈ its, TupHd s.heap v (hd (bkV v)) := fun v hv => by
    obtain ⟨t, rfl⟩ := all.2 v hv
    obtain ⟨t', rest, e, ht⟩ := hx _ (mem hv)
    obtain rfl : t = t' := V.ref.inj e
    obtain ⟨fs, rf, ⟨o, ho, hc, n, ho2⟩, _⟩ := I.tuple ht
    cases rf with
    | cons r0 rr =>
      obtain ⟨tk, rfl⟩ := r0
      exact ⟨t, o, _, n, tk, rfl, ho, hc, ho2, by simp⟩
  have same : ∀ u ∈ its, ∀ v ∈ its, hd (bkV u) = hd (bkV v) → u = v := fun u hu v hv e => by
    obtain ⟨t, rfl⟩ := all.2 u hu
    obtain ⟨t', rfl⟩ := all.2 v hv
    exact congrArg Value.ref (V.ref.inj (inj _ (mem hu) _ (mem hv) e))
  refine SrtO.sorted_ord (swoS fun v => hd (bkV v)) hl.isList (rv.length ▸ hz) (fun h2 h1 b hb old h' keep => ?_) fun out so st => ?_
  · have there : ∀ v ∈ its, TupHd h' v (hd (bkV v)) := fun v hv => (heads v hv).keeps fun c o e _ => keep c o (old c o e).1 (old c o e).2
    obtain ⟨fs, k1, k2, k3⟩ := heads_of (f := fun v => hd (bkV v)) its there
    refine ⟨tuples' true, fun Q' E' hq => ?_, fun p q hp hq => heads_lt (f := fun v => hd (bkV v)) there same hp hq⟩
    have looks : ∀ g ∈ fs, PySem.W.Looks (model X.prog X.w) h' (typeOf g) (Value.type "str") := fun g hg => by
      obtain ⟨n, t, rfl⟩ := k3 g hg
      exact PySem.W.Looks.now
    exact PySem.W.kat_kind k1 (by omega) looks rfl hq
  · obtain ⟨ep, he⟩ := PyProof.Rows.sortedAll_at s.heap its out.toArray
    have perm : (out.map bkV).Perm xs := all.1 ▸ st.perm.map bkV
    refine ⟨.ref _, upd H (s.heap.objs.size + 1) (.lst (out.map bkV)), ?_, rfl, q _ _ perm ?_ (I.hok.fresh (Nat.le_succ _))⟩
    · have refs : ∀ u ∈ out, ∃ a, u = Value.ref a := fun u hu => all.2 u (st.perm.mem_iff.mp hu)
      exact I.laid (t' := s.toks) (fun _ _ z => PyProof.Rows.sortedAll_old z) (Nat.le_succ _) ⟨perm.length_eq ▸ hz, out, ep, bkV_vals refs, he⟩
    · exact List.pairwise_map.mpr (List.Pairwise.imp (fun z => of_decide_eq_false z) so)
end SfG
/-! data with empty dicts: what is read, shown, compared -/
namespace SfG
open PySem PySem.Spec PyProof.Rows L2
mutual
inductive Dx (K : PySem.W.Frag) (H : Hp) : V → PyData → Prop
  | non : Dx K H .non .none
  | bl (b : Bool) : Dx K H (.bl b) (.bool b)
  | int (i : Int) : Dx K H (.int i) (.int i)
  | str (z : Str) : Dx K H (.str z) (.str z)
  | lst {p : Addr} {l : List V} {ds : List PyData} : SqL K H p l → DxA K H l ds → Dx K H (.ref p) (.list ds)
  | tup {p : Addr} {l : List V} {ds : List PyData} : SqT K H p l → DxA K H l ds → Dx K H (.ref p) (.tuple ds)
  | emp {p : Addr} : H p = some (.dK []) → Dx K H (.ref p) (.dict [])
inductive DxA (K : PySem.W.Frag) (H : Hp) : List V → List PyData → Prop
  | nil : DxA K H [] []
  | cons {v : V} {l : List V} {d : PyData} {ds : List PyData} : Dx K H v d → DxA K H l ds → DxA K H (v :: l) (d :: ds)
end
section
variable {X : Cx} {pins : List (Addr × Obj)} {σ : L2.St} {H : Hp} {s : Shared}
theorem emp_at (I : L2.Inv X pins σ H s) {p : Addr} (h : H p = some (.dK [])) : ∃ o n, s.heap.get? p = some o ∧ o.cls = .type "dict" ∧ o.data = .dict #[] n ∧ (p == sysModules) = false := by
  obtain ⟨_, hsm, vs, r, o, es, ep, e1, e2, e3, e4, e5, _⟩ := dk_of I.hok h
  cases r
  obtain ⟨l⟩ := es
  have e5' : Pairs (mixKind X.prog X.w) l [] := e5
  have e : l = [] := by
    cases l with
    | nil => rfl
    | cons a b => cases e5'
  subst e
  exact ⟨o, ep, e1, e2.1, e3, hsm⟩
mutual
theorem Dx.reads (I : L2.Inv X pins σ H s) : ∀ (d : PyData) (v : V) (u : Value), Dx X.K H v d → RelV v u → ∃ q, Reads s.heap u d q
  | .none, _, _, h, r => by
    cases h
    cases r
    exact ⟨_, .none⟩
  | .bool b, _, _, h, r => by
    cases h
    cases r
    exact ⟨_, .bool b⟩
  | .int i, _, _, h, r => by
    cases h
    obtain ⟨t, rfl⟩ := r
    exact ⟨_, .int i t⟩
  | .str x, _, _, h, r => by
    cases h
    obtain ⟨t, rfl⟩ := r
    exact ⟨_, .str x t⟩
  | .list ds, _, _, h, r => by
    cases h with
    | lst hp hl =>
      cases r
      obtain ⟨us, rv, ⟨o, n, g1, g2, _, g3⟩, _⟩ := I.list hp
      obtain ⟨q, hq⟩ := DxA.reads I ds _ us hl rv
      exact ⟨_, .list g1 g2 g3 hq⟩
  | .tuple ds, _, _, h, r => by
    cases h with
    | tup hp hl =>
      cases r
      obtain ⟨us, rv, ⟨o, g1, g2, n, g3⟩, _⟩ := I.tuple hp
      obtain ⟨q, hq⟩ := DxA.reads I ds _ us hl rv
      exact ⟨_, .tuple g1 g2 g3 hq⟩
  | .dict _, _, _, h, r => by
    cases h with
    | emp hp =>
      cases r
      obtain ⟨o, n, g1, g2, g3, _⟩ := emp_at I hp
      exact ⟨_, .dict g1 g2 g3 ReadsAll.nil ReadsAll.nil⟩
theorem DxA.reads (I : L2.Inv X pins σ H s) : ∀ (ds : List PyData) (l : List V) (us : List Value), DxA X.K H l ds → Vals l us → ∃ q, ReadsAll s.heap us ds q
  | [], _, _, h, r => by
    cases h
    cases r
    exact ⟨_, .nil⟩
  | d :: ds, _, _, h, r => by
    cases h with
    | cons h1 h2 =>
      cases r with
      | cons r1 r2 =>
        obtain ⟨q1, g1⟩ := Dx.reads I d _ _ h1 r1
        obtain ⟨q2, g2⟩ := DxA.reads I ds _ _ h2 r2
        exact ⟨_, .cons g1 g2⟩
end
theorem noRead (h : Heap) (n : Nat) : ReadAtMost h n [] := by
  intro b z
  cases z
theorem text_empty_dict : PyData.shown (.dict []) = dictText [] := rfl
mutual
/-- what is shown of it, at any depth -/
theorem Dx.look (I : L2.Inv X pins σ H s) : ∀ (d : PyData) (v : V) (u : Value), Dx X.K H v d → RelV v u → d.showable = true → d.shown.length ≤ sizeLine →
    ∃ q, ReadAtMost s.heap d.depth q ∧ ReprK X.prog X.w q s.heap d.depth u d.shown
  | .none, _, _, h, r, _, _ => by
    cases h
    cases r
    exact ⟨[], noRead _ _, .of_is ReprIs.none _ _ _⟩
  | .bool b, _, _, h, r, _, _ => by
    cases h
    cases r
    exact ⟨[], noRead _ _, .of_is (ReprIs.bool b) _ _ _⟩
  | .int i, _, _, h, r, hs, _ => by
    cases h
    obtain ⟨t, rfl⟩ := r
    exact ⟨[], noRead _ _, .of_is (ReprIs.int t (of_decide_eq_true hs)) _ _ _⟩
  | .str x, _, _, h, r, _, hz => by
    cases h
    obtain ⟨t, rfl⟩ := r
    exact ⟨[], noRead _ _, .of_is (ReprIs.str x t hz) _ _ _⟩
  | .list ds, v, u, h, r, hs, hz => by
    obtain ⟨q0, rd⟩ := Dx.reads I _ v u h r
    cases h with
    | lst hp hl =>
      cases r
      obtain ⟨us, rv, ⟨o, n, g1, g2, _, g3⟩, _⟩ := I.list hp
      have hz1 : (listText (PyData.shownAll ds)).length ≤ sizeLine := hz
      obtain ⟨q, hq, hk⟩ := DxA.look I ds _ us hl rv hs fun t ht => Nat.le_trans (listText_mem_le ht) hz1
      have hd : (PyData.list ds).depth = PyData.depthAll ds + 1 := by rw [PyData.depth]
      have hn := not_mem_of_deeper rd (by omega) hq
      refine ⟨_ :: q, .cons rd (by omega) hq, ?_⟩
      rw [hd]
      show ReprK _ _ _ _ _ _ (listText (PyData.shownAll ds))
      cases us with
      | nil =>
        have e : PyData.shownAll ds = [] := List.length_eq_zero_iff.mp hk.length_eq
        rw [e]
        exact .listEmpty g1 g2 g3
      | cons a b => exact .list g1 g2 g3 hn (by simpa using hk.length_eq) fun i y e => hk.item i y (by simpa using e)
  | .tuple ds, v, u, h, r, hs, hz => by
    obtain ⟨q0, rd⟩ := Dx.reads I _ v u h r
    cases h with
    | tup hp hl =>
      cases r
      obtain ⟨us, rv, ⟨o, g1, g2, n, g3⟩, _⟩ := I.tuple hp
      have hz1 : (tupleText (PyData.shownAll ds)).length ≤ sizeLine := hz
      obtain ⟨q, hq, hk⟩ := DxA.look I ds _ us hl rv hs fun t ht => Nat.le_trans (tupleText_mem_le ht) hz1
      have hd : (PyData.tuple ds).depth = PyData.depthAll ds + 1 := by rw [PyData.depth]
      have hn := not_mem_of_deeper rd (by omega) hq
      refine ⟨_ :: q, .cons rd (by omega) hq, ?_⟩
      rw [hd]
      exact .tuple g1 g2 g3 hn hk
  | .dict _, v, u, h, r, _, _ => by
    obtain ⟨q0, rd⟩ := Dx.reads I _ v u h r
    cases h with
    | emp hp =>
      cases r
      obtain ⟨o, n, g1, g2, g3, g4⟩ := emp_at I hp
      have hd : (PyData.dict []).depth = 0 + 1 := by decide
      refine ⟨[_], .cons rd (n := 0) (by omega) (noRead _ _), ?_⟩
      rw [hd, text_empty_dict]
      exact .dict g1 g2 g3 g4 (by simp) ReprEntriesK.nil
theorem DxA.look (I : L2.Inv X pins σ H s) : ∀ (ds : List PyData) (l : List V) (us : List Value), DxA X.K H l ds → Vals l us → PyData.showableAll ds = true → (∀ t ∈ PyData.shownAll ds, t.length ≤ sizeLine) →
    ∃ q, ReadAtMost s.heap (PyData.depthAll ds) q ∧ ReprAllK X.prog X.w q s.heap (PyData.depthAll ds) us (PyData.shownAll ds)
  | [], _, _, h, r, _, _ => by
    cases h
    cases r
    exact ⟨[], noRead _ _, ReprAllK.nil⟩
  | d :: ds, _, _, h, r, hs, hz => by
    cases h with
    | cons h1 h2 =>
      cases r with
      | cons r1 r2 =>
        rw [PyData.showableAll, Bool.and_eq_true] at hs
        have hm : d.shown ∈ PyData.shownAll (d :: ds) := by
          rw [PyData.shownAll]
          exact List.mem_cons_self
        obtain ⟨q1, a1, k1⟩ := Dx.look I d _ _ h1 r1 hs.1 (hz _ hm)
        obtain ⟨q2, a2, k2⟩ := DxA.look I ds _ _ h2 r2 hs.2 fun t ht => hz t (by rw [PyData.shownAll]; exact List.mem_cons_of_mem _ ht)
        have m1 : d.depth ≤ PyData.depthAll (d :: ds) := by
          rw [PyData.depthAll]
          omega
        have m2 : PyData.depthAll ds ≤ PyData.depthAll (d :: ds) := by
          rw [PyData.depthAll]
          omega
        refine ⟨q1 ++ q2, (a1.mono m1).append (a2.mono m2), ?_⟩
        rw [PyData.shownAll]
        exact .cons ((k1.more fun b z => List.mem_append_left _ z).level_le m1) (k2.more_le (fun b z => List.mem_append_right _ z) m2)
end
end
/-! ### repr of a list of such data -/
def rReprX (K : PySem.W.Frag) : List V → Hp → VK → Prop := fun xs H Q =>
  ∃ (v : V) (ds : List PyData) (S : Str), xs = [v] ∧ Dx K H v (.list ds) ∧ PyData.showableAll ds = true ∧
    (PyData.list ds).depth ≤ 40 ∧ (PyData.list ds).shown = S ∧ S.length ≤ sizeLine ∧ Q (.str S) H
theorem call_reprX {X : Cx} {k : Nat} (hr : Room k X.A) (hgd : X.A.guards = some []) :
    CallR X (.builtin "repr") (rReprX X.K) := by
  intro pins s σ H xs us Q I r h
  obtain ⟨v, ds, S, rfl, hd, hs, hdep, rfl, hz, q⟩ := h
  obtain ⟨u, rfl, ru⟩ := vals1 r
  obtain ⟨q0, rd⟩ := Dx.reads I _ v u hd ru
  cases hd with
  | lst hp hl =>
    cases ru
    obtain ⟨vs, rv, ⟨o, n, g1, g2, _, g3⟩, _⟩ := I.list hp
    have hz1 : (listText (PyData.shownAll ds)).length ≤ sizeLine := hz
    obtain ⟨q1, hq, hk⟩ := DxA.look I ds _ vs hl rv hs fun t ht => Nat.le_trans (listText_mem_le ht) hz1
    have hde : (PyData.list ds).depth = PyData.depthAll ds + 1 := by rw [PyData.depth]
    have hn := not_mem_of_deeper rd (by omega) hq
    have hun := hr.un
    refine call_repr_slot (by omega) ⟨o, g1, g2⟩ F.slot_list_repr.toG ?_
    cases vs with
    | nil =>
      have e0 : PyData.shownAll ds = [] := List.length_eq_zero_iff.mp hk.length_eq
      have e : (PyData.list ds).shown = "[]" := by
        rw [PyData.shown, e0]
        rfl
      rw [e] at q
      exact call_list_repr_empty ⟨o, g1, g2⟩ g1 g3 ⟨_, _, rfl, .str "[]", H, I.tok _, ⟨_, rfl⟩, q⟩
    | cons a b =>
      refine call_list_reprK g1 g2 g3 hn (by simpa using hk.length_eq) (fun i y e => hk.item i y (by simpa using e)) (show X.A.in1.guards = some [] from hgd) (fun b _ => Clear.nil b) ?_ (fun _ _ z => z) (fun h' u' tk hk' => ?_) hz1
      · show X.A.units + 1 + _ < cLine
        omega
      · exact ⟨_, _, rfl, .str _, H, I.kept hk', ⟨_, rfl⟩, q⟩
end SfG
/-! such data: its parts, how it stays, == with a text, with () and [] -/
namespace SfG
open PySem PySem.Spec PyProof.Rows L2
section
variable {K : PySem.W.Frag} {H : Hp} {v : V}
theorem dx_str {z : Str} (h : Dx K H v (.str z)) : v = .str z := by cases h; rfl
theorem dx_int {n : Int} (h : Dx K H v (.int n)) : v = .int n := by cases h; rfl
theorem dx_bool {b : Bool} (h : Dx K H v (.bool b)) : v = .bl b := by cases h; rfl
theorem dx_tup {ds : List PyData} (h : Dx K H v (.tuple ds)) : ∃ p xs, v = .ref p ∧ SqT K H p xs ∧ DxA K H xs ds := by
  cases h with
  | tup h hs => exact ⟨_, _, rfl, h, hs⟩
theorem dx_lst {ds : List PyData} (h : Dx K H v (.list ds)) : ∃ p xs, v = .ref p ∧ SqL K H p xs ∧ DxA K H xs ds := by
  cases h with
  | lst h hs => exact ⟨_, _, rfl, h, hs⟩
theorem dxA_nil {xs : List V} (h : DxA K H xs []) : xs = [] := by cases h; rfl
theorem dxA_cons {xs : List V} {d : PyData} {ds : List PyData} (h : DxA K H xs (d :: ds)) : ∃ x r, xs = x :: r ∧ Dx K H x d ∧ DxA K H r ds := by
  cases h with
  | cons a b => exact ⟨_, _, rfl, a, b⟩
theorem dxA_len : ∀ {ds : List PyData} {xs : List V}, DxA K H xs ds → xs.length = ds.length
  | [], _, h => by
    rw [dxA_nil h]
    rfl
  | _ :: _, _, h => by
    obtain ⟨x, r, rfl, _, hr⟩ := dxA_cons h
    rw [List.length_cons, List.length_cons, dxA_len hr]
theorem dxA_get : ∀ {ds : List PyData} {xs : List V} {i : Nat} {d : PyData}, DxA K H xs ds → ds[i]? = some d → ∃ x, xs[i]? = some x ∧ Dx K H x d
  | [], _, i, d, _, h => by simp at h
  | a :: r, xs, 0, d, hs, h => by
    obtain ⟨x, r', rfl, hx, _⟩ := dxA_cons hs
    have e : a = d := Option.some.inj h
    exact ⟨x, rfl, e ▸ hx⟩
  | a :: r, xs, i + 1, d, hs, h => by
    obtain ⟨x, r', rfl, _, hr⟩ := dxA_cons hs
    obtain ⟨y, hy, hd⟩ := dxA_get hr (show r[i]? = some d from h)
    exact ⟨y, hy, hd⟩
/-- by the item -/
theorem dxA_at : ∀ {ds : List PyData} {xs : List V} {i : Nat} {x : V}, DxA K H xs ds → xs[i]? = some x → ∃ d, ds[i]? = some d ∧ Dx K H x d
  | [], _, i, d, hs, h => by
    rw [dxA_nil hs] at h
    simp at h
  | a :: r, xs, 0, d, hs, h => by
    obtain ⟨x, r', rfl, hx, _⟩ := dxA_cons hs
    have e : x = d := Option.some.inj h
    exact ⟨a, rfl, e ▸ hx⟩
  | a :: r, xs, i + 1, d, hs, h => by
    obtain ⟨x, r', rfl, _, hr⟩ := dxA_cons hs
    obtain ⟨y, hy, hd⟩ := dxA_at hr (show r'[i]? = some d from h)
    exact ⟨y, hy, hd⟩
theorem dxA_take : ∀ {ds : List PyData} {xs : List V} (n : Nat), DxA K H xs ds → DxA K H (xs.take n) (ds.take n)
  | [], _, n, h => by
    rw [dxA_nil h]
    simpa using DxA.nil
  | _ :: _, _, 0, _ => by simpa using DxA.nil
  | _ :: _, _, n + 1, h => by
    obtain ⟨x, r, rfl, hx, hr⟩ := dxA_cons h
    exact .cons hx (dxA_take n hr)
theorem dxA_drop : ∀ {ds : List PyData} {xs : List V} (n : Nat), DxA K H xs ds → DxA K H (xs.drop n) (ds.drop n)
  | [], _, n, h => by
    rw [dxA_nil h]
    simpa using DxA.nil
  | _ :: _, _, 0, h => h
  | _ :: _, _, n + 1, h => by
    obtain ⟨x, r, rfl, hx, hr⟩ := dxA_cons h
    exact dxA_drop n hr
theorem dxA_app : ∀ {ds es : List PyData} {xs ys : List V}, DxA K H xs ds → DxA K H ys es → DxA K H (xs ++ ys) (ds ++ es)
  | [], _, _, _, h, g => by
    rw [dxA_nil h]
    exact g
  | _ :: _, _, _, _, h, g => by
    obtain ⟨x, r, rfl, hx, hr⟩ := dxA_cons h
    exact .cons hx (dxA_app hr g)
theorem dxA_rev : ∀ {ds : List PyData} {xs : List V}, DxA K H xs ds → DxA K H xs.reverse ds.reverse
  | [], _, h => by
    rw [dxA_nil h]
    exact .nil
  | _ :: _, _, h => by
    obtain ⟨x, r, rfl, hx, hr⟩ := dxA_cons h
    rw [List.reverse_cons, List.reverse_cons]
    exact dxA_app (dxA_rev hr) (.cons hx .nil)
mutual
theorem Dp.dx : ∀ {d : PyData} {v : V}, Dp K H v d → Dx K H v d
  | _, _, .non => .non
  | _, _, .bl b => .bl b
  | _, _, .int i => .int i
  | _, _, .str x => .str x
  | _, _, .lst h hs => .lst h (Dp.dxA hs)
  | _, _, .tup h hs => .tup h (Dp.dxA hs)
theorem Dp.dxA : ∀ {ds : List PyData} {vs : List V}, DpAll K H vs ds → DxA K H vs ds
  | _, _, .nil => .nil
  | _, _, .cons h hs => .cons (Dp.dx h) (Dp.dxA hs)
end
end
/-- what keeps lists, tuples and empty dicts keeps such data -/
structure Kx (K : PySem.W.Frag) (H H' : Hp) : Prop where
  kd : Kd K H H'
  e : ∀ {p}, H p = some (.dK []) → H' p = some (.dK [])
theorem Gr.kx {K : PySem.W.Frag} {H H' : Hp} (g : Gr H H') : Kx K H H' := ⟨g.kd, fun h => g.dic h⟩
theorem Gp.kx {K : PySem.W.Frag} {p : Addr} {H H' : Hp} {k : Key × V} {kv : List (Key × V)} (g : Gp p H H') (hp : H p = some (.dK (k :: kv))) : Kx K H H' := by
  refine ⟨g.kd hp, ?_⟩
  intro b h
  refine g.keep b _ ?_ h (fun _ z => by cases z)
  intro z
  rw [z, hp] at h
  cases h
theorem Kx.trans {K : PySem.W.Frag} {H H1 H2 : Hp} (a : Kx K H H1) (b : Kx K H1 H2) : Kx K H H2 := ⟨⟨fun h => b.kd.l (a.kd.l h), fun h => b.kd.t (a.kd.t h)⟩, fun h => b.e (a.e h)⟩
mutual
theorem Kx.dx {K : PySem.W.Frag} {H H' : Hp} (g : Kx K H H') : ∀ {d : PyData} {v : V}, Dx K H v d → Dx K H' v d
  | _, _, .non => .non
  | _, _, .bl b => .bl b
  | _, _, .int i => .int i
  | _, _, .str x => .str x
  | _, _, .lst h hs => .lst (g.kd.l h) (g.dxA hs)
  | _, _, .tup h hs => .tup (g.kd.t h) (g.dxA hs)
  | _, _, .emp h => .emp (g.e h)
theorem Kx.dxA {K : PySem.W.Frag} {H H' : Hp} (g : Kx K H H') : ∀ {ds : List PyData} {vs : List V}, DxA K H vs ds → DxA K H' vs ds
  | _, _, .nil => .nil
  | _, _, .cons h hs => .cons (g.dx h) (g.dxA hs)
end
theorem dx_is {K : PySem.W.Frag} {H : Hp} {v : V} {d : PyData} (h : Dx K H v d) : Is K H v (tyD d) := by
  cases h with
  | non => exact ⟨.base .non, by decide +kernel⟩
  | bl b => exact ⟨.base (.bl b), by show "bool" ∈ kinds; decide +kernel⟩
  | int i => exact ⟨.base (.int i), by show "int" ∈ kinds; decide +kernel⟩
  | str x => exact ⟨.base (.str x), by show "str" ∈ kinds; decide +kernel⟩
  | lst h _ => exact ⟨tyx_lst h, by show "list" ∈ kinds; decide +kernel⟩
  | tup h _ => exact ⟨tyx_tup h, by show "tuple" ∈ kinds; decide +kernel⟩
  | emp h => exact ⟨.base (.dK h), by show "dict" ∈ kinds; decide +kernel⟩
/-! ### == -/
theorem dict_eq_str (l : Addr) (es : Array DictEntry) (n : Nat) (dd : Option Addr) (sl : Array (Option Value)) (b : Str) (u : Tok) :
    Meets (Builtin.«dict.__eq__» ⟨[.ref l, .str b u], []⟩) (fun _ R s => s.heap.get? l = some { cls := .type "dict", dict := dd, data := .dict es n, slots := sl } ∧ R (.ok (.ret .notImplemented)) s) := by
  refine .of_wp fun prog w A R s h => ?_
  obtain ⟨hp, g, d, tk, os⟩ := s
  obtain ⟨hl, h⟩ := h
  have f1 := F.sub_str_dict
  wp_walk using wpAny_loadPart' hl
  exact ⟨_, rfl, h⟩
theorem str_eq_dict (b : Str) (u : Tok) (l : Addr) (es : Array DictEntry) (n : Nat) (dd : Option Addr) (sl : Array (Option Value)) :
    Meets (Builtin.«str.__eq__» ⟨[.str b u, .ref l], []⟩) (fun _ R s => s.heap.get? l = some { cls := .type "dict", dict := dd, data := .dict es n, slots := sl } ∧ R (.ok (.ret .notImplemented)) s) := by
  refine .of_wp fun prog w A R s h => ?_
  obtain ⟨hp, g, d, tk, os⟩ := s
  obtain ⟨hl, h⟩ := h
  wp_walk using wpAny_loadPart' hl, wpAny_load hl
  exact ⟨_, rfl, h⟩
end SfG
namespace SfG
open PySem PySem.Spec PyProof.Rows L2
section
variable {A : Around} {s : Shared}
theorem rc_dict_str {l : Addr} {o : Obj} {es : Array DictEntry} {n : Nat} (b : Str) (u : Tok) (ho : s.heap.get? l = some o) (hc : o.cls = .type "dict") (hd : o.data = .dict es n) (hu : A.units < cLine) :
    SeqAt.RcAt A s (.ref l) (.str b u) false := fun prog w E Q h => by
  obtain ⟨cls, dd, data, sl⟩ := o
  simp only at hc hd
  subst hc hd
  refine SeqAt.rc_eq_decline_or (k := false) ⟨_, ho, rfl⟩ (typeIs_str s b u) (by decide) F.sub_str_dict F.slot_dict_eq F.slot_str_eq_refl ?_ ?_ ?_ (.inr hu) h
  · intro Q' hq
    exact call_meets F.slot_dict_eq ⟨_, ho, rfl⟩ F.entry_dict_eq (F.args_dict_eq_2 _ _) (dict_eq_str l es n dd sl b u) ⟨ho, hq⟩
  · intro Q' hq
    exact call_meets F.slot_str_eq_refl (typeIs_str s b u) F.entry_str_eq (F.args_str_eq_2 _ _) (str_eq_dict b u l es n dd sl) ⟨ho, hq⟩
  · intro Q' hq
    exact wpAny_of_eq (show isSame (.ref l) (.str b u) = pure false from rfl) hq
end
/-- a thing is this text -/
def eqS : PyData → Str → Bool
  | .str a, z => decide (a = z)
  | _, _ => false
def rEqXS (K : PySem.W.Frag) : R2 := fun x y H Q => ∃ (d : PyData) (z : Str), Dx K H x d ∧ y = .str z ∧ Q (.bl (eqS d z)) H
section
variable {X : Cx}
theorem op_eqXS {k : Nat} (hr : Room k X.A) : OpR X (compareOp .Eq) (rEqXS X.K) := by
  intro pins s σ H x y v u Q I rx ry h
  obtain ⟨d, z, hx, rfl, q⟩ := h
  obtain ⟨t, rfl⟩ := ry
  have hu : X.A.units < cLine := by
    have := hr.un
    omega
  have fin : Q (.bl (eqS d z)) H → EP X pins σ Q (.bool (eqS d z)) s := fun q => ⟨.bl _, H, I, rfl, q⟩
  cases hx with
  | non =>
    cases rx
    exact SeqAt.RcAt.none_str z t _ _ _ _ (fin q)
  | bl b =>
    cases rx
    exact SeqAt.RcAt.bool_str b z t _ _ _ _ (fin q)
  | int i =>
    obtain ⟨t', rfl⟩ := rx
    exact SeqAt.RcAt.int_str i t' z t _ _ _ _ (fin q)
  | str a =>
    obtain ⟨t', rfl⟩ := rx
    have e : (a == z) = decide (a = z) := by
      by_cases c : a = z
      · rw [decide_eq_true c, c]
        exact beq_self_eq_true z
      · rw [decide_eq_false c]
        exact beq_eq_false_iff_ne.mpr c
    refine SeqAt.RcAt.str_str a t' z t _ _ _ _ ?_
    rw [e]
    exact fin q
  | lst hp hl =>
    cases rx
    obtain ⟨us, rv, ⟨o, n, g1, g2, _, g3⟩, _⟩ := I.list hp
    exact SeqAt.RcAt.list_str z t ⟨o, g1, g2, n, g3⟩ hu _ _ _ _ (fin q)
  | tup hp hl =>
    cases rx
    obtain ⟨us, rv, ⟨o, g1, g2, n, g3⟩, _⟩ := I.tuple hp
    exact SeqAt.RcAt.tuple_str z t ⟨o, g1, g2, n, g3⟩ hu _ _ _ _ (fin q)
  | emp hp =>
    cases rx
    obtain ⟨o, n, g1, g2, g3, _⟩ := emp_at I hp
    exact rc_dict_str z t g1 g2 g3 hu _ _ _ _ (fin q)
def rEqT0 (K : PySem.W.Frag) : R2 := fun x y H Q => ∃ (p q : Addr) (l : List V), x = .ref p ∧ y = .ref q ∧ SqT K H p l ∧ SqT K H q [] ∧ Q (.bl l.isEmpty) H
theorem op_eqT0 {k : Nat} (hr : Room k X.A) : OpR X (compareOp .Eq) (rEqT0 X.K) := by
  intro pins s σ H x y v u Q I rx ry h
  obtain ⟨p, q, l, rfl, rfl, hp, hq, g⟩ := h
  cases rx
  cases ry
  have hu : X.A.units < cLine := by
    have := hr.un
    omega
  obtain ⟨us, rv, tp, _⟩ := I.tuple hp
  obtain ⟨ws, rw', tq, _⟩ := I.tuple hq
  cases rw'
  refine SeqAt.eq_tupleAt (e := fun _ => true) tp tq hu (fun j h1 h2 => absurd h2 (by simp)) ?_
  have e : ((List.range (min us.toArray.size ([] : List Value).toArray.size)).all (fun _ => true) && us.toArray.size == ([] : List Value).toArray.size) = l.isEmpty := by
    cases rv with
    | nil => rfl
    | cons a b => simp
  rw [e]
  exact ⟨.bl _, H, I, rfl, g⟩
def rEqL0 (K : PySem.W.Frag) : R2 := fun x y H Q => ∃ (p q : Addr) (l : List V), x = .ref p ∧ y = .ref q ∧ SqL K H p l ∧ SqL K H q [] ∧ Q (.bl l.isEmpty) H
theorem op_eqL0 {k : Nat} (hr : Room k X.A) : OpR X (compareOp .Eq) (rEqL0 X.K) := by
  intro pins s σ H x y v u Q I rx ry h
  obtain ⟨p, q, l, rfl, rfl, hp, hq, g⟩ := h
  cases rx
  cases ry
  have hu : X.A.units < cLine := by
    have := hr.un
    omega
  obtain ⟨us, rv, ⟨o, n, a1, a2, _, a3⟩, _⟩ := I.list hp
  obtain ⟨ws, rw', ⟨o2, n2, b1, b2, _, b3⟩, _⟩ := I.list hq
  cases rw'
  cases rv with
  | nil => exact SeqAt.eq_listAt (e := fun _ => true) ⟨o, a1, a2, n, a3⟩ ⟨o2, b1, b2, n2, b3⟩ rfl hu (fun j h1 h2 => absurd h2 (by simp)) ⟨.bl true, H, I, rfl, g⟩
  | cons a b => exact SeqAt.eq_list_lengthsAt ⟨o, a1, a2, n, a3⟩ ⟨o2, b1, b2, n2, b3⟩ (by simp) hu ⟨.bl false, H, I, rfl, g⟩
end
end SfG
/-! i <= x, i < x, x a whole number or a truth -/
namespace SfG
open PySem PySem.Spec PyProof.Rows L2
def b2i (b : Bool) : Int := if b = true then 1 else 0
theorem ge_bool_int (a : Bool) (b : Int) (u : Tok) : Gives (Builtin.«int.__ge__» ⟨[.bool a, .int b u], []⟩) (.val (Value.bool ((fun x1 x2 => decide (x1 ≥ x2)) (if a = true then (1 : Int) else 0) b))) :=
  .of_wp fun M A E s Q h => by obtain ⟨hp, g, d, tk, os⟩ := s; wp_walk; exact ⟨_, rfl, h⟩
theorem gt_bool_int (a : Bool) (b : Int) (u : Tok) : Gives (Builtin.«int.__gt__» ⟨[.bool a, .int b u], []⟩) (.val (Value.bool ((fun x1 x2 => decide (x1 > x2)) (if a = true then (1 : Int) else 0) b))) :=
  .of_wp fun M A E s Q h => by obtain ⟨hp, g, d, tk, os⟩ := s; wp_walk; exact ⟨_, rfl, h⟩
section
variable {X : Cx}
def rLeX : R2 := fun x y H Q => ∃ i : Int, x = .int i ∧ ((∃ j : Int, y = .int j ∧ Q (.bl (decide (i ≤ j))) H) ∨ ∃ b : Bool, y = .bl b ∧ Q (.bl (decide (i ≤ b2i b))) H)
theorem op_leX : OpR X (compareOp .LtE) rLeX := by
  intro pins s σ H x y v u Q I rx ry h
  obtain ⟨i, rfl, ⟨j, rfl, q⟩ | ⟨b, rfl, q⟩⟩ := h
  · exact op_le pins s σ H _ _ v u Q I rx ry ⟨i, j, rfl, rfl, q⟩
  · obtain ⟨t, rfl⟩ := _root_.id rx
    cases (show u = Value.bool b from ry)
    show wpAny _ _ (richCompare .LtE (.int i t) (.bool b)) _ _ s
    exact SeqAt.rc_sub_first_or (typeIs_int s i t) rfl (by decide) F.sub_bool_int F.slot_bool_ge_refl
      (call_gives F.slot_bool_ge_refl rfl F.entry_int_ge (F.args_int_ge_2 _ _) (ge_bool_int b i t) ⟨nofun, ⟨.bl (decide (i ≤ b2i b)), H, I, rfl, q⟩⟩) (.inl rfl)
def rLtX : R2 := fun x y H Q => ∃ i : Int, x = .int i ∧ ((∃ j : Int, y = .int j ∧ Q (.bl (decide (i < j))) H) ∨ ∃ b : Bool, y = .bl b ∧ Q (.bl (decide (i < b2i b))) H)
theorem op_ltX : OpR X (compareOp .Lt) rLtX := by
  intro pins s σ H x y v u Q I rx ry h
  obtain ⟨i, rfl, ⟨j, rfl, q⟩ | ⟨b, rfl, q⟩⟩ := h
  · exact op_lt pins s σ H _ _ v u Q I rx ry ⟨i, j, rfl, rfl, q⟩
  · obtain ⟨t, rfl⟩ := _root_.id rx
    cases (show u = Value.bool b from ry)
    show wpAny _ _ (richCompare .Lt (.int i t) (.bool b)) _ _ s
    exact SeqAt.rc_sub_first_or (typeIs_int s i t) rfl (by decide) F.sub_bool_int F.slot_bool_gt_refl
      (call_gives F.slot_bool_gt_refl rfl F.entry_int_gt (F.args_int_gt_2 _ _) (gt_bool_int b i t) ⟨nofun, ⟨.bl (decide (i < b2i b)), H, I, rfl, q⟩⟩) (.inl rfl)
end
end SfG
/-! a thing in a tuple of texts; truths beside numbers: <, <=, + -/
namespace SfG
open PySem PySem.Spec PyProof.Rows L2
theorem lt_bool_int (a : Bool) (b : Int) (u : Tok) : Gives (Builtin.«int.__lt__» ⟨[.bool a, .int b u], []⟩) (.val (Value.bool ((fun x1 x2 => decide (x1 < x2)) (if a = true then (1 : Int) else 0) b))) :=
  .of_wp fun M A E s Q h => by obtain ⟨hp, g, d, tk, os⟩ := s; wp_walk; exact ⟨_, rfl, h⟩
theorem le_bool_int (a : Bool) (b : Int) (u : Tok) : Gives (Builtin.«int.__le__» ⟨[.bool a, .int b u], []⟩) (.val (Value.bool ((fun x1 x2 => decide (x1 ≤ x2)) (if a = true then (1 : Int) else 0) b))) :=
  .of_wp fun M A E s Q h => by obtain ⟨hp, g, d, tk, os⟩ := s; wp_walk; exact ⟨_, rfl, h⟩
/-- the number that a whole number or a truth is -/
def numV : V → Option Int
  | .int i => some i
  | .bl b => some (b2i b)
  | _ => none
section
variable {X : Cx}
def rYlt : R2 := fun x y H Q => ∃ i j : Int, numV x = some i ∧ y = .int j ∧ Q (.bl (decide (i < j))) H
def rYle : R2 := fun x y H Q => ∃ i j : Int, numV x = some i ∧ y = .int j ∧ Q (.bl (decide (i ≤ j))) H
theorem op_ltY : OpR X (compareOp .Lt) rYlt := by
  intro pins s σ H x y v u Q I rx ry h
  obtain ⟨i, j, hx, rfl, q⟩ := h
  cases x with
  | int i' =>
    cases hx
    exact op_lt pins s σ H _ _ v u Q I rx ry ⟨i, j, rfl, rfl, q⟩
  | bl b =>
    cases hx
    cases (show v = Value.bool b from rx)
    obtain ⟨t, rfl⟩ := _root_.id ry
    show wpAny _ _ (richCompare .Lt (.bool b) (.int j t)) _ _ s
    exact SeqAt.rc_left_or rfl (typeIs_int s j t) (by decide) F.sub_int_bool F.slot_bool_lt
      (call_gives F.slot_bool_lt rfl F.entry_int_lt (F.args_int_lt_2 _ _) (lt_bool_int b j t) ⟨nofun, ⟨.bl (decide (b2i b < j)), H, I, rfl, q⟩⟩) (.inl rfl)
  | _ => cases hx
theorem op_leY : OpR X (compareOp .LtE) rYle := by
  intro pins s σ H x y v u Q I rx ry h
  obtain ⟨i, j, hx, rfl, q⟩ := h
  cases x with
  | int i' =>
    cases hx
    exact op_le pins s σ H _ _ v u Q I rx ry ⟨i, j, rfl, rfl, q⟩
  | bl b =>
    cases hx
    cases (show v = Value.bool b from rx)
    obtain ⟨t, rfl⟩ := _root_.id ry
    show wpAny _ _ (richCompare .LtE (.bool b) (.int j t)) _ _ s
    exact SeqAt.rc_left_or rfl (typeIs_int s j t) (by decide) F.sub_int_bool F.slot_bool_le
      (call_gives F.slot_bool_le rfl F.entry_int_le (F.args_int_le_2 _ _) (le_bool_int b j t) ⟨nofun, ⟨.bl (decide (b2i b ≤ j)), H, I, rfl, q⟩⟩) (.inl rfl)
  | _ => cases hx
/-- i <= x, x a number or a truth -/
def rXL : R2 := fun x y H Q => ∃ i j : Int, x = .int i ∧ numV y = some j ∧ Q (.bl (decide (i ≤ j))) H
theorem op_leN : OpR X (compareOp .LtE) rXL := by
  intro pins s σ H x y v u Q I rx ry h
  obtain ⟨i, j, rfl, hy, q⟩ := h
  refine op_leX pins s σ H _ _ v u Q I rx ry ⟨i, rfl, ?_⟩
  cases y with
  | int j' =>
    cases hy
    exact .inl ⟨j, rfl, q⟩
  | bl b =>
    cases hy
    exact .inr ⟨b, rfl, q⟩
  | _ => cases hy
/-- a thing in a tuple of texts -/
def rInXS (K : PySem.W.Frag) : R2 := fun x y H Q => ∃ (d : PyData) (p : Addr) (zs : List Str), Dp K H x d ∧ y = .ref p ∧ SqT K H p (zs.map V.str) ∧ Q (.bl (zs.any fun z => eqS d z)) H
theorem vals_strs : ∀ {zs : List Str} {its : List Value}, Vals (zs.map V.str) its → ∀ w ∈ its, ∃ z t, z ∈ zs ∧ w = Value.str z t
  | [], _, h, w, hw => by
    cases h
    cases hw
  | z :: zs, _, h, w, hw => by
    cases h with
    | cons r1 r2 =>
      obtain ⟨t, rfl⟩ := r1
      rcases List.mem_cons.mp hw with rfl | hw
      · exact ⟨z, t, List.mem_cons_self, rfl⟩
      · obtain ⟨z', t', h1, h2⟩ := vals_strs r2 w hw
        exact ⟨z', t', List.mem_cons_of_mem _ h1, h2⟩
def eqVS (d : PyData) : Value → Bool
  | .str z _ => eqS d z
  | _ => false
theorem any_strs {d : PyData} : ∀ {zs : List Str} {its : List Value}, Vals (zs.map V.str) its → its.any (eqVS d) = zs.any fun z => eqS d z
  | [], _, h => by
    cases h
    rfl
  | z :: zs, _, h => by
    cases h with
    | cons r1 r2 =>
      obtain ⟨t, rfl⟩ := r1
      rw [List.any_cons, List.any_cons, any_strs r2]
      rfl
theorem op_inXS {k : Nat} (hr : Room k X.A) : OpR X (compareOp .In) (rInXS X.K) := by
  intro pins s σ H x y v u Q I rx ry h
  obtain ⟨d, p, zs, hx, rfl, hp, q⟩ := h
  cases ry
  obtain ⟨its, r, pl, hz⟩ := I.tuple hp
  have hu : X.A.in1.units < cLine := by
    have := hr.un
    show X.A.units + 1 < cLine
    omega
  refine SeqAt.in_tupleAt (eqVS d) pl (fun w hw => ?_) ⟨.bl _, H, I, rfl, ?_⟩
  · obtain ⟨z, t, _, rfl⟩ := vals_strs r w (by simpa using hw)
    show SeqAt.EqAt _ s (.str z t) v (eqS d z)
    cases hx with
    | non =>
      cases rx
      exact SeqAt.EqAt.str_none z t
    | bl b =>
      cases rx
      exact SeqAt.EqAt.str_bool z t b
    | int i =>
      obtain ⟨t', rfl⟩ := rx
      exact SeqAt.EqAt.str_int z t i t'
    | str a =>
      obtain ⟨t', rfl⟩ := rx
      have e : (z == a) = decide (a = z) := by
        by_cases c : a = z
        · rw [decide_eq_true c, c]
          exact beq_self_eq_true z
        · rw [decide_eq_false c]
          exact beq_eq_false_iff_ne.mpr (fun e => c e.symm)
      have := SeqAt.EqAt.str_str (A := X.A.in1) (s := s) z t a t'
      rw [e] at this
      exact this
    | lst hp hl =>
      cases rx
      obtain ⟨us, rv, ⟨o, n, g1, g2, _, g3⟩, _⟩ := I.list hp
      exact SeqAt.EqAt.str_list z t ⟨o, g1, g2, n, g3⟩ hu
    | tup hp hl =>
      cases rx
      obtain ⟨us, rv, ⟨o, g1, g2, n, g3⟩, _⟩ := I.tuple hp
      exact SeqAt.EqAt.str_tuple z t ⟨o, g1, g2, n, g3⟩ hu
  · rw [show its.toArray.any (eqVS d) = its.any (eqVS d) by simp, any_strs r]
    exact q
end
end SfG
/-! what stands behind a statement, said once for all the ways to it -/
namespace SfG
open PySem PySem.Spec PyProof.Rows L2
theorem seq_end {t u : TS} {D : Ends} {σ : L2.St} {H : Hp} (Fa : L2.St → Hp → Prop) (hE : ∀ σ S, Fa σ S → u D σ S) (h : (∀ σ S, Fa σ S → u D σ S) → tSeq t u D σ H) : tSeq t u D σ H := h hE
theorem seq_go {t u : TS} {D : Ends} {σ : L2.St} {H : Hp} (h : t { D with nx := u D } σ H) : tSeq t u D σ H := h
theorem gname_go {i : Nat} {v : V} {σ : L2.St} {H : Hp} {Q : L2.St → Hp → Prop} (h : Q (σ.set i (some v)) H) : gName i v σ H Q := h
theorem if_else {tc : TT} {t u : TS} {D : Ends} {σ : L2.St} {H : Hp} (Fa : Hp → Prop) (hE : ∀ S, Fa S → u D σ S) (h : (∀ S, Fa S → u D σ S) → tIfS tc t u D σ H) : tIfS tc t u D σ H := h hE
end SfG
/-! zip of two tuples of one length -/
namespace SfG
open PySem PySem.Spec PyProof.Rows L2
theorem walk_zipT {K : PySem.W.Frag} {a b : Addr} {xs ys : List V} (hl : ys.length = xs.length) : Walk (RZ.ItzT K a b) xs.length (fun H => SqT K H a xs ∧ SqT K H b ys) (YPair (fun i => xs[i]?) (fun i => ys[i]?)) := by
  refine ⟨?_, ?_, ?_⟩
  · intro i _ hi q
    exact ⟨xs, ys, xs[i], ys[i]'(by omega), q.1, q.2, by simp [hi], by simp [hl, hi]⟩
  · intro _ q
    exact ⟨xs, ys, q.1, q.2, .inl (Nat.le_refl _)⟩
  · rintro i H v H' _ q ⟨T, x, y, h1, h2, h3, h4, h5⟩
    exact ⟨T, x, y, h1, h2, h3, h4 xs q.1, h5 ys q.2⟩
end SfG
/-! x *= y of numbers -/
namespace SfG
open PySem PySem.Spec PyProof.Rows L2
theorem ip_mul {X : Cx} : PIp X .Mult (fun x y H Q => ∃ i j : Int, x = .int i ∧ y = .int j ∧ CMul i j ∧ Q (.int (i * j)) H) := by
  intro pins s σ H x y v u Q I r1 r2 h
  obtain ⟨i, j, e1, e2, c, q⟩ := h
  subst e1; subst e2
  obtain ⟨t, rfl⟩ := r1
  obtain ⟨t', rfl⟩ := r2
  exact imul_int ⟨.int _, H, I.tok _, ⟨_, rfl⟩, q⟩ c.ok
end SfG
/-! tuples of which it is known that they have no dict of their own: t.index(x) -/
namespace SfG
open PySem PySem.Spec PyProof.Rows L2
/-- a tuple as it was made -/
def Tz (H : Hp) (p : Addr) (xs : List V) : Prop := ∃ o : Obj, H p = some (.frz o (.tup xs)) ∧ o.cls = .type "tuple" ∧ o.dict = none
theorem Tz.sqt {K : PySem.W.Frag} {H : Hp} {p : Addr} {xs : List V} (h : Tz H p xs) : SqT K H p xs := by
  obtain ⟨o, h, _⟩ := h
  exact .inl (.inr ⟨o, h⟩)
theorem Tz.gr {H H' : Hp} {p : Addr} {xs : List V} (g : Gr H H') (h : Tz H p xs) : Tz H' p xs := by
  obtain ⟨o, h, hc⟩ := h
  exact ⟨o, g.keep _ _ h (fun _ z => by cases z), hc⟩
theorem Tz.upd {H : Hp} {p l : Addr} {xs : List V} {o' : HO} (n : p ≠ l) (h : Tz H p xs) : Tz (upd H l o') p xs := by
  obtain ⟨o, h, hc⟩ := h
  exact ⟨o, (upd_ne n).trans h, hc⟩
theorem Tz.ne {H : Hp} {p l : Addr} {xs ys : List V} (h : Tz H p xs) (hl : H l = some (.lst ys)) : p ≠ l := by
  obtain ⟨o, h, hc⟩ := h
  intro z
  rw [z, hl] at h
  cases h
section
variable {X : Cx}
/-- tuple(l), l a list -/
theorem call_tuple_frz : CallR X (.type "tuple") (fun xs H Q => ∃ p ys, xs = [.ref p] ∧ SqL X.K H p ys ∧ ∀ l H', H l = none → Gr H H' → Tz H' l ys → (∀ b, b ≠ l → H' b = H b) → Q (.ref l) H') := by
  intro pins s σ H xs us Q I r h
  obtain ⟨p, ys, rfl, hq, q⟩ := h
  obtain ⟨u, rfl, rx⟩ := vals1 r
  cases rx
  obtain ⟨its, r', pl, hz⟩ := I.list hq
  have hlen := r'.length
  refine call_tuple_list pl.isList (fun h' kp => ?_) (by simp only [List.size_toArray] <;> omega)
  have I1 : L2.Inv X pins σ H { s with heap := h' } := I.kept (t' := s.toks) kp
  have hn := I1.hok.fresh (Nat.le_refl h'.objs.size)
  have hat : (h'.push { cls := .type "tuple", data := .seq its.toArray }).get? h'.objs.size = some { cls := .type "tuple", data := .seq its.toArray } := Heap.get?_push_size _ rfl
  have I2 : L2.Inv X pins σ (upd H h'.objs.size (.frz { cls := .type "tuple", data := .seq its.toArray } (.tup ys))) { s with heap := h'.push { cls := .type "tuple", data := .seq its.toArray } } :=
    I1.laid (t' := s.toks) (fun b o e => Heap.get?_push_of_some _ e) (Nat.le_refl _) (show ObjOk X.prog X.w _ _ _ (.frz _ (.tup ys)) from ⟨hat, hz, its, r', IsTup.new _ _⟩)
  exact ⟨.ref h'.objs.size, _, I2, rfl, q _ _ hn (Gr.new hn) ⟨_, upd_same, rfl, rfl⟩ fun b hb => upd_ne hb⟩
def tTIx (to : TE) (t : TA) : TE := fun σ H Q => to σ H fun x H1 => ∃ (p : Addr) (ys : List Str), x = .ref p ∧ Tz H1 p (ys.map V.str) ∧ t σ H1 fun xs H2 => ∃ (z : Str) (j : Nat), xs = [.str z] ∧ Tz H2 p (ys.map V.str) ∧ ys[j]? = some z ∧ (∀ m, m < j → ys[m]? ≠ some z) ∧ Q (.int (j : Nat)) H2
variable {o e : Expr} {es : List Expr} {to : TE} {t : TA} {apos cpos : Pos}
/-- t.index(x), the first place -/
theorem pe_tix (ho : PE X o to) (ha : PA X [e] t)
    (hbase : attributeBase o "index" X.env (eval o X.env) = eval o X.env := by rfl)
    (hfew : ((backTo cpos (starEach [e] X.env)).all (fun x => !x.1) && (backToKw cpos (keywordEach [] X.env)).all (fun x => x.1.isSome)
      && decide ([e].length + ([] : List Keyword).length + (if ([] : List Keyword).isEmpty then 0 else 1) < 30)) = true := by rfl)
    (hline : (apos.endLine == cpos.line) = true := by rfl) (hs : starEach [e] X.env = (false, eval e X.env) :: starEach [] X.env := by rfl) :
    PE X (.Call (.Attribute o "index" apos) [e] [] cpos) (tTIx to t) := by
  refine ⟨fun pins s σ H Q I h => ?_⟩
  refine wpAny_Call_method_late hbase hfew hline rfl (thn (ho.run pins s σ H _ I h) fun v s1 ⟨x, H1, I1, r1, q1⟩ => ?_)
  obtain ⟨p, ys, rfl, ⟨ob, hob, hc, hd⟩, q1⟩ := q1
  cases r1
  have hget := (I1.hok p _ hob).1
  refine ⟨"tuple", "tuple.index", PySem.F.plainAttrs_tuple, PySem.F.slot_tuple_index, PySem.F.type_tuple_index, ⟨ob, hget, hc⟩, fun a ea => ?_, ?_⟩
  · cases ea
    exact ⟨ob, hget, hd⟩
  have hA := ha.run cpos pins s1 σ H1 _ I1 q1
  rw [hs] at hA ⊢
  refine Calls.callWith_builtin (by rfl) (Calls.evalArgs_plain ?_)
  refine thn hA fun us s2 ⟨vs, H2, I2, r2, z, j, e1, hz, hj, hno, q2⟩ => mt_tup_index pins s2 σ H2 (.ref p) vs (.ref p) us Q I2 rfl r2 ⟨p, ys, z, j, rfl, e1, hz.sqt, hj, hno, q2⟩
end
end SfG
namespace SfC
open PySem PySem.Spec PyProof.Rows L2 SfG
def topS (i : Nat) : Stmt := PySem.Challenge.pw_sameface_k21_outcomes.main.body.getD i (.Pass ⟨0, 0, 0, 0⟩)
abbrev sName : Stmt := topS 18
abbrev sKind : Stmt := topS 21
abbrev sBadD : Stmt := topS 22
abbrev sBadH : Stmt := topS 23
abbrev sFault : Stmt := topS 24
abbrev sNeed : Stmt := topS 25
abbrev sFind : Stmt := topS 26
abbrev sWhole : Stmt := topS 15
abbrev sAmong : Stmt := topS 16
abbrev sTupOf : Stmt := topS 17
abbrev sMayH : Stmt := topS 37
abbrev sDeedOR : Stmt := topS 38
abbrev sFirstBP : Stmt := topS 39
abbrev sUFault : Stmt := topS 40
abbrev sRefU : Stmt := topS 41
abbrev sLbe : Stmt := topS 10
abbrev sLbb : Stmt := topS 11
abbrev sVal : Stmt := topS 12
abbrev sCho : Stmt := topS 13
abbrev sShape : Stmt := topS 28
abbrev sMFault : Stmt := topS 29
abbrev sRefM : Stmt := topS 30
abbrev sNeedM : Stmt := topS 31
abbrev sGivK : Stmt := topS 33
abbrev sDoneR : Stmt := topS 34
abbrev sOutOf : Stmt := topS 43
abbrev sOutc : Stmt := topS 44
abbrev sStarted : Stmt := topS 46
abbrev sDrw : Stmt := topS 47
abbrev sOf : Stmt := topS 48
abbrev sLNames : Stmt := topS 49
abbrev sTaken : Stmt := topS 50
abbrev sLFace : Stmt := topS 51
abbrev sLeaf : Stmt := topS 52
abbrev sReck : Stmt := topS 53
abbrev sLBody : Stmt := topS 54
abbrev sLMak : Stmt := topS 55
abbrev sReckd : Stmt := topS 56
abbrev sLDone : Stmt := topS 57
abbrev sLUser : Stmt := topS 58
abbrev sLOut : Stmt := topS 59
abbrev sLaw : Stmt := topS 60
end SfC
namespace SfC
open PySem PySem.Spec PyProof.Rows L2 SfG
/-! ### names -/
abbrev letters : Str := "abcdefghijklmnopqrstuvwxyz"
def isLet (c : Nat) : Bool := decide (c ∈ letters.cps.toList)
/-- one to eight small letters -/
def isN (z : Str) : Bool := decide (z.length ≤ 8) && (decide (1 ≤ z.length) && z.cps.toList.all isLet)
theorem let_alpha : ∀ c, c < 128 → Unicode.isAlpha c = (isLet c || (Unicode.isUpper c || Unicode.isTitle c)) := by decide +kernel
theorem let_lower : ∀ c, c < 128 → Unicode.isLower c = isLet c := by decide +kernel
theorem let_upper : ∀ c, c < 128 → isLet c = true → (Unicode.isUpper c || Unicode.isTitle c) = false := by decide +kernel
theorem let_range {c : Nat} (h : isLet c = true) : c < 128 := by
  have h' : c ∈ letters.cps.toList := of_decide_eq_true h
  have e : ∀ d ∈ letters.cps.toList, d < 128 := by decide +kernel
  exact e c h'
theorem name_list : ∀ l : List Nat, (∀ c ∈ l, c < 128) → (l.all Unicode.isAlpha && !(l.any fun c => Unicode.isUpper c || Unicode.isTitle c)) = l.all isLet
  | [], _ => rfl
  | a :: r, h => by
    have ih := name_list r fun c hc => h c (.tail _ hc)
    have ha := h a (.head _)
    rw [List.all_cons, List.any_cons, List.all_cons, ← ih, let_alpha a ha]
    cases hl : isLet a with
    | true =>
      rw [let_upper a ha hl]
      simp
    | false =>
      cases (Unicode.isUpper a || Unicode.isTitle a) <;> simp
theorem name_txt (z : Str) : (Txt.isalpha z && (Txt.islower z && Txt.isascii z)) = (decide (1 ≤ z.length) && z.cps.toList.all isLet) := by
  have hl : z.length = z.cps.toList.length := by simp [Str.length]
  unfold Txt.isalpha Txt.islower Txt.isascii
  rw [← Array.all_toList, ← Array.any_toList, ← Array.any_toList, ← Array.all_toList, hl]
  generalize z.cps.toList = l
  by_cases hc : ∀ c ∈ l, c < 128
  · have h1 : (l.all fun x => decide (x < 128)) = true := List.all_eq_true.mpr fun c h => decide_eq_true (hc c h)
    have e := name_list l hc
    rw [h1, ← e]
    cases l with
    | nil => rfl
    | cons a r =>
      have h2 : (decide ((a :: r).length > 0)) = true := decide_eq_true (by simp)
      have h3 : (decide (1 ≤ (a :: r).length)) = true := decide_eq_true (by simp)
      rw [h2, h3]
      cases hA : (a :: r).all isLet with
      | true =>
        rw [hA] at e
        have hla : isLet a = true := by
          rw [List.all_cons] at hA
          exact (Bool.and_eq_true_iff.mp hA).1
        have hlow : (a :: r).any Unicode.isLower = true := by
          rw [List.any_cons, let_lower a (hc a (.head _)), hla]
          rfl
        rw [hlow]
        simp
      | false =>
        rw [hA] at e
        rw [e]
        cases h4 : (a :: r).all Unicode.isAlpha with
        | false => rfl
        | true =>
          rw [h4] at e
          cases h5 : (a :: r).any fun c => Unicode.isUpper c || Unicode.isTitle c with
          | true => simp
          | false =>
            rw [h5] at e
            cases e
  · have h1 : (l.all fun x => decide (x < 128)) = false := by
      cases h : (l.all fun x => decide (x < 128)) with
      | false => rfl
      | true => exact absurd (fun c hc' => of_decide_eq_true (List.all_eq_true.mp h c hc')) hc
    have h2 : l.all isLet = false := by
      cases h : l.all isLet with
      | false => rfl
      | true => exact absurd (fun c hc' => let_range (List.all_eq_true.mp h c hc')) hc
    rw [h1, h2]
    simp
theorem isN_txt {z : Str} (h : isN z = true) : z.length ≤ 8 ∧ 1 ≤ z.length ∧ Txt.isalpha z = true ∧ Txt.islower z = true ∧ Txt.isascii z = true ∧ z.cps.toList.all isLet = true := by
  unfold isN at h
  rw [← name_txt, Bool.and_eq_true, Bool.and_eq_true, Bool.and_eq_true, decide_eq_true_eq] at h
  have e := name_txt z
  rw [h.2.1, h.2.2.1, h.2.2.2] at e
  have e' := e.symm
  rw [Bool.and_true, Bool.and_true, Bool.and_eq_true, decide_eq_true_eq] at e'
  exact ⟨h.1, e'.1, h.2.1, h.2.2.1, h.2.2.2, e'.2⟩
theorem isN_small {z : Str} (h : isN z = true) : z.length ≤ sizeLine := by
  have h1 := (isN_txt h).1
  rw [sizeLine_eq]
  omega
/-! ### faces -/
abbrev lt (a b : Str) : Prop := a.cps.toList < b.cps.toList
inductive Kn where
  | h (s : Str)
  | p (n : Int)
def Kn.d : Kn → PyData
  | .h s => .str s
  | .p n => .int n
def Kn.v : Kn → V
  | .h s => .str s
  | .p n => .int n
def Kn.isH : Kn → Bool
  | .h _ => true
  | .p _ => false
structure De where
  nm : Str
  tk : List Kn
  gv : Kn
structure Fc where
  hd : List Str
  ds : List De
def De.d (e : De) : PyData := .tuple [.str e.nm, .tuple (e.tk.map Kn.d), e.gv.d]
def Fc.d (f : Fc) : PyData := .tuple [.tuple (f.hd.map .str), .tuple (f.ds.map De.d)]
def goK (hd : List Str) : Kn → Prop
  | .h s => s ∈ hd
  | .p n => 2 ≤ n ∧ n ≤ 9
def hidN (tk : List Kn) : Nat := (tk.filter Kn.isH).length
structure goD (hd : List Str) (e : De) : Prop where
  nm : isN e.nm = true
  len : e.tk.length ≤ 3
  tk : ∀ k ∈ e.tk, goK hd k
  two : hidN e.tk ≤ 2
  gv : goK hd e.gv
structure goH (hd : List Str) : Prop where
  lo : 1 ≤ hd.length
  hi : hd.length ≤ 2
  nm : ∀ z ∈ hd, isN z = true
  up : hd.Pairwise lt
structure goF (f : Fc) : Prop where
  hid : goH f.hd
  lo : 1 ≤ f.ds.length
  hi : f.ds.length ≤ 8
  up : (f.ds.map De.nm).Pairwise lt
  ok : ∀ e ∈ f.ds, goD f.hd e
/-- the name ahead of the i-th -/
def ahd (l : List Str) (i : Nat) : Str := if i = 0 then "" else l.getD (i - 1) ""
theorem ahd_lt {l : List Str} (up : l.Pairwise lt) (hn : ∀ z ∈ l, isN z = true) {i : Nat} {z : Str} (hz : l[i]? = some z) : lt (ahd l i) z := by
  unfold ahd
  by_cases h0 : i = 0
  · rw [if_pos h0]
    have h1 := (isN_txt (hn z (List.mem_of_getElem? hz))).2.1
    have hl : z.length = z.cps.toList.length := by simp [Str.length]
    show (([] : List Nat) < z.cps.toList)
    cases hc : z.cps.toList with
    | nil =>
      rw [hl, hc] at h1
      exact absurd h1 (by simp)
    | cons a r => exact List.nil_lt_cons a r
  · rw [if_neg h0]
    have hi : i < l.length := by
      rcases Nat.lt_or_ge i l.length with h | h
      · exact h
      · rw [List.getElem?_eq_none h] at hz
        cases hz
    have e1 : l.getD (i - 1) "" = l[i - 1] := by
      rw [List.getD_eq_getElem?_getD, List.getElem?_eq_getElem (by omega)]
      rfl
    have e2 : z = l[i] := by
      rw [List.getElem?_eq_getElem hi] at hz
      exact (Option.some.inj hz).symm
    rw [e1, e2]
    exact List.pairwise_iff_getElem.mp up (i - 1) i (by omega) hi (by omega)
theorem ahd_succ {l : List Str} {i : Nat} {z : Str} (hz : l[i]? = some z) : ahd l (i + 1) = z := by
  unfold ahd
  rw [if_neg (by omega), List.getD_eq_getElem?_getD, Nat.add_sub_cancel, hz]
  rfl
theorem inV_mem {s : Str} {l : List Str} (h : s ∈ l) : inV (.str s) (l.map V.str) = true := by
  unfold inV
  rw [List.any_map]
  exact List.any_eq_true.mpr ⟨s, h, by simp [eqV]⟩
theorem flat_strs (l : List Str) : (l.map V.str).all flatV = true := by
  rw [List.all_map]
  exact List.all_eq_true.mpr fun _ _ => rfl
section
variable {P : Program} {w : World} {K : PySem.W.Frag} {mg : Str → Option Value} {base : Heap}
theorem is_kn {H : Hp} (k : Kn) : Is K H k.v (match k with | .h _ => "str" | .p _ => "int") := by
  cases k with
  | h s => exact is_str s
  | p n => exact is_int n
theorem dp_kn {H : Hp} {v : V} {k : Kn} (h : Dp K H v k.d) : v = k.v := by
  cases k with
  | h s => exact dp_str h
  | p n => exact dp_int h
theorem dpA_strs {H : Hp} : ∀ {l : List Str} {xs : List V}, DpAll K H xs (l.map PyData.str) → xs = l.map V.str
  | [], _, h => dpA_nil h
  | a :: r, _, h => by
    obtain ⟨x, t, rfl, hx, ht⟩ := dpA_cons h
    rw [dp_str hx, dpA_strs ht]
    rfl
theorem dpA_kns {H : Hp} : ∀ {l : List Kn} {xs : List V}, DpAll K H xs (l.map Kn.d) → xs = l.map Kn.v
  | [], _, h => dpA_nil h
  | a :: r, _, h => by
    obtain ⟨x, t, rfl, hx, ht⟩ := dpA_cons h
    rw [dp_kn hx, dpA_kns ht]
    rfl
/-! ### is_name, is_kind, first_bad_hidden -/
theorem scName : FnScope ["thing"] ["thing"] (defScope sName) := ⟨rfl, rfl, rfl, by decide +kernel, rfl, by decide +kernel, by decide +kernel⟩
theorem scKind : FnScope ["thing", "hidden"] ["thing", "hidden"] (defScope sKind) := ⟨rfl, rfl, rfl, by decide +kernel, rfl, by decide +kernel, by decide +kernel⟩
abbrev nBadH : List Str := ["hidden", "ahead", "number", "name"]
theorem scBadH : FnScope nBadH ["hidden"] (defScope sBadH) := ⟨rfl, rfl, rfl, by decide +kernel, rfl, by decide +kernel, by decide +kernel⟩
def spName : Sp := fun vs H Q _ => ∃ z : Str, vs = [.str z] ∧ isN z = true ∧ Q (.bl true) H
theorem ok_name {f : Addr} {fd : FuncData} {k : Nat} (F : Fun K "is_name" "is_name" sName f fd) (mi : mg "isinstance" = none) (m1 : mg "str" = none) (ml : mg "len" = none) :
    FnOk P w K mg base CX0 (k + 1) f fd ["thing"] spName := by
  refine F.ok scName (fun vs H Q E h => ?_) (fun cdv A outer s H vs Q E hr h => ?_)
  · obtain ⟨z, rfl, _⟩ := h
    rfl
  · obtain ⟨z, rfl, hz, q⟩ := h
    obtain ⟨h8, h1, ha, hlo, has, _⟩ := isN_txt hz
    refine ⟨_, pss_one (ps_ret (pe_and (pe_isi "str" 0 mi m1 (by decide +kernel))
      (pe_and (pe_cmpR op_le (pe_callB call_len_str (by rfl) ml PySem.boot_len (pa_cons (pv 0) pa_nil)) pe_int (nomark _))
      (pe_and (pe_m0 PySem.F.slot_str_isalpha PySem.F.type_str_isalpha mt_isalpha (pv 0))
      (pe_and (pe_m0 PySem.F.slot_str_islower PySem.F.type_str_islower mt_islower (pv 0))
      (pe_one (pe_m0 PySem.F.slot_str_isascii PySem.F.type_str_isascii mt_isascii (pv 0)))))))), ?_⟩
    refine ⟨_, rfl, "str", _, (is_str z).1, by decide +kernel, _, rfl, iteT ⟨_, rfl, z, rfl, isN_small hz, _, 8, rfl, rfl, _, rfl, ?_⟩⟩
    rw [decide_eq_true (show (z.length : Int) ≤ 8 by omega)]
    refine iteT ⟨_, rfl, ⟨z, rfl⟩, z, rfl, rfl, trivial, _, rfl, ?_⟩
    rw [ha]
    refine iteT ⟨_, rfl, ⟨z, rfl⟩, z, rfl, rfl, trivial, _, rfl, ?_⟩
    rw [hlo]
    refine iteT ⟨_, rfl, ⟨z, rfl⟩, z, rfl, rfl, trivial, ?_⟩
    rw [has]
    exact q
def spKind (K : PySem.W.Frag) : Sp := fun vs H Q _ => ∃ (k : Kn) (hd : List Str) (p : Addr), vs = [k.v, .ref p] ∧ SqT K H p (hd.map V.str) ∧ goK hd k ∧ Q (.bl true) H
theorem ok_kind {f : Addr} {fd : FuncData} {k : Nat} (F : Fun K "is_kind" "is_kind" sKind f fd) (mi : mg "isinstance" = none) (m1 : mg "str" = none) (m2 : mg "int" = none) :
    FnOk P w K mg base CX0 (k + 1) f fd ["thing", "hidden"] (spKind K) := by
  refine F.ok scKind (fun vs H Q E h => ?_) (fun cdv A outer s H vs Q E hr h => ?_)
  · obtain ⟨k, hd, p, rfl, _⟩ := h
    rfl
  · obtain ⟨k, hd, p, rfl, hp, hk, q⟩ := h
    refine ⟨_, pss_cons (ps_if (pt_val (pe_isi "str" 0 mi m1 (by decide +kernel))) (pss_one (ps_ret (pe_cmpR op_in_seq (pv 0) (pv 1) rfl))) pss_nil)
      (pss_one (ps_ret (pe_and (pe_isi "int" 0 mi m2 (by decide +kernel)) (pe_one (pe_chain op_le op_le pe_int (pv 0) pe_int))))), ?_⟩
    cases k with
    | h s =>
      refine ⟨_, rfl, "str", _, (is_str s).1, by decide +kernel, _, rfl, iteT ⟨_, rfl, _, rfl, p, _, rfl, .inr hp, rfl, flat_strs hd, ?_⟩⟩
      rw [show inV (Kn.v (.h s)) (hd.map V.str) = true from inV_mem hk]
      exact q
    | p n =>
      obtain ⟨h2, h9⟩ := hk
      refine ⟨_, rfl, "int", false, (is_int n).1, by decide +kernel, _, rfl, iteF ⟨_, rfl, "int", true, (is_int n).1, by decide +kernel, _, rfl, iteT ⟨_, rfl, 2, n, rfl, rfl, _, rfl, ?_⟩⟩⟩
      rw [decide_eq_true h2]
      refine iteT ⟨n, 9, rfl, rfl, ?_⟩
      show Q (.bl (decide (n ≤ 9))) H
      rw [decide_eq_true h9]
      exact q
def spBadH (K : PySem.W.Frag) : Sp := fun vs H Q _ => ∃ (hd : List Str) (p : Addr), vs = [.ref p] ∧ SqT K H p (hd.map V.str) ∧ (∀ z ∈ hd, isN z = true) ∧ hd.Pairwise lt ∧ ∀ H', Gr H H' → Q .non H'
theorem ok_badH {f fN : Addr} {fd fdN : FuncData} {k : Nat} (F : Fun K "first_bad_hidden" "first_bad_hidden" sBadH f fd) (HN : Has P w K mg base (k + 1) "is_name" ["thing"] spName fN fdN) (me : mg "enumerate" = none) :
    FnOk P w K mg base CX0 (k + 2) f fd ["hidden"] (spBadH K) := by
  refine F.ok scBadH (fun vs H Q E h => ?_) (fun cdv A outer s H vs Q E hr h => ?_)
  · obtain ⟨hd, p, rfl, _⟩ := h
    rfl
  · obtain ⟨hd, p, rfl, hp, hn, up, q⟩ := h
    have nd := scBadH.nd
    refine' ⟨_, pss_cons (ps_set (i := 1) nd rfl (.inl rfl) pe_str) (pss_cons (ps_for PassesOwn.never rfl (pi_enumT (by rfl) me (pa_cons (pv 0) pa_nil))
        (pg_tup rfl (pgs_cons (pg_name (i := 2) nd rfl (.inl rfl)) (pgs_cons (pg_name (i := 3) nd rfl (.inl rfl)) pgs_nil)))
        (pss_cons (ps_if (PW.pt (pw_or (pt_not (pt_val (hcall HN hr (pa_cons (pv 3) pa_nil)))) (pw_or1 (pt_cmpR op_le_str (pv 3) (pv 1) (nomark _))))) (pss_one (ps_ret (pv 2))) pss_nil)
        (pss_one (ps_set (i := 1) nd rfl (.inl rfl) (pv 3))))) (pss_one (ps_ret pe_non))), ?rd⟩
    case rd =>
    refine ⟨_, rfl, p, _, rfl, hp, for_it (walk_enumT (xs := hd.map V.str)) (fun i σ H1 => ∃ y2 y3 : Option V, σ = [some (.ref p), some (.str (ahd hd i)), y2, y3] ∧ Gr H H1) ⟨none, none, rfl, Gr.refl H⟩ ?h1 ?h2 ?h3⟩
    case h1 =>
      rintro i σ H1 hi ⟨y2, y3, rfl, g⟩
      exact g.sqt hp
    case h2 =>
      rintro i x σ H1 H2 hi ⟨y2, y3, rfl, g⟩ ⟨T, a, b, rfl, nT, rfl, ha, hb⟩
      cases ha
      rw [show (fun i : Nat => (hd.map V.str)[i]?) i = (hd.map V.str)[i]? from rfl, List.getElem?_map] at hb
      obtain ⟨z, hz, rfl⟩ := Option.map_eq_some_iff.mp hb
      have gz := hn z (List.mem_of_getElem? hz)
      have lz := ahd_lt up hn hz
      refine ⟨T, [.int (i : Nat), .str z], rfl, .inl (.inl upd_same), rfl, .int (i : Nat), [.str z], rfl, .str z, [], rfl, rfl, ?_⟩
      refine ⟨_, rfl, z, rfl, gz, _, rfl, iteF ⟨_, rfl, _, rfl, z, _, rfl, rfl, _, rfl, ?_⟩⟩
      rw [decide_eq_true lz]
      refine iteF ⟨_, rfl, ?_⟩
      show ∃ y2 y3 : Option V, _ = [some (.ref p), some (.str (ahd hd (i + 1))), y2, y3] ∧ _
      rw [ahd_succ hz]
      exact ⟨_, _, rfl, g.trans (Gr.new nT)⟩
    case h3 =>
      rintro σ H1 ⟨y2, y3, rfl, g⟩
      exact q H1 g
end
end SfC
namespace SfC
open PySem PySem.Spec PyProof.Rows L2 SfG
abbrev nBadD : List Str := ["deeds", "hidden", "ahead", "number", "deed", "name", "takes", "gives", "many", "kind"]
theorem scBadD : FnScope nBadD ["deeds", "hidden"] (defScope sBadD) := ⟨rfl, rfl, rfl, by decide +kernel, rfl, by decide +kernel, by decide +kernel⟩
theorem dpA_de {K : PySem.W.Frag} {H : Hp} {xs : List V} {es : List De} (h : DpAll K H xs (es.map De.d)) {i : Nat} {x : V} (hx : xs[i]? = some x) : ∃ e, es[i]? = some e ∧ Dp K H x e.d := by
  have hl := dpA_len h
  rw [List.length_map] at hl
  have hi : i < xs.length := by
    rcases Nat.lt_or_ge i xs.length with h1 | h1
    · exact h1
    · rw [List.getElem?_eq_none h1] at hx
      cases hx
  have hi' : i < es.length := by omega
  obtain ⟨y, hy, hd⟩ := dpA_get (i := i) (d := (es[i]).d) h (by simp [hi'])
  rw [hx] at hy
  cases hy
  exact ⟨es[i], by simp [hi'], hd⟩
theorem hidN_snoc (tk : List Kn) (k : Kn) : hidN (tk ++ [k]) = hidN tk + (if k.isH then 1 else 0) := by
  unfold hidN
  rw [List.filter_append, List.length_append]
  cases h : k.isH <;> simp [h]
theorem hidN_take {tk : List Kn} {i : Nat} {k : Kn} (h : tk[i]? = some k) : hidN (tk.take (i + 1)) = hidN (tk.take i) + (if k.isH then 1 else 0) := by
  rw [List.take_add_one, h]
  exact hidN_snoc _ k
section
variable {P : Program} {w : World} {K : PySem.W.Frag} {mg : Str → Option Value} {base : Heap}
def spBadD (K : PySem.W.Frag) : Sp := fun vs H Q _ => ∃ (es : List De) (hd : List Str) (x : V) (p : Addr), vs = [x, .ref p] ∧ Dp K H x (.tuple (es.map De.d)) ∧ SqT K H p (hd.map V.str) ∧ (es.map De.nm).Pairwise lt ∧ (∀ e ∈ es, goD hd e) ∧ ∀ H', Gr H H' → Q .non H'
set_option maxHeartbeats 1000000 in
theorem ok_badD {f fK : Addr} {fd fdK : FuncData} {k : Nat} (F : Fun K "first_bad_deed" "first_bad_deed" sBadD f fd) (HK : Has P w K mg base (k + 1) "is_kind" ["thing", "hidden"] (spKind K) fK fdK)
    (me : mg "enumerate" = none) (mi : mg "isinstance" = none) (m1 : mg "str" = none) (m2 : mg "int" = none) (m3 : mg "tuple" = none) (ml : mg "len" = none) :
    FnOk P w K mg base CX0 (k + 2) f fd ["deeds", "hidden"] (spBadD K) := by
  refine F.ok scBadD (fun vs H Q E h => ?_) (fun cdv A outer s H vs Q E hr h => ?_)
  · obtain ⟨es, hd, x, p, rfl, _⟩ := h
    rfl
  · obtain ⟨es, hd, x, p, rfl, hx, hp, up, ok, q⟩ := h
    have nd := scBadD.nd
    refine' ⟨_, pss_cons (ps_set (i := 2) nd rfl (.inl rfl) pe_str) (pss_cons (ps_for PassesOwn.never rfl (pi_enumT (by rfl) me (pa_cons (pv 0) pa_nil))
        (pg_tup rfl (pgs_cons (pg_name (i := 3) nd rfl (.inl rfl)) (pgs_cons (pg_name (i := 4) nd rfl (.inl rfl)) pgs_nil)))
        (pss_cons ?b1 (pss_cons ?b2 (pss_cons ?b3 (pss_cons ?b4 (pss_cons ?b5 (pss_cons ?b6 (pss_cons ?b7 (pss_cons ?b8 (pss_one ?b9)))))))))) (pss_one (ps_ret pe_non))), ?rd⟩
    case b1 =>
      exact ps_if (PW.pt (pw_or (pt_not (pt_val (pe_isi "tuple" 4 mi m3 (by decide +kernel)))) (pw_or1 (pt_cmpR op_ne (pe_callB call_len_seq (by rfl) ml PySem.boot_len (pa_cons (pv 4) pa_nil)) pe_int (nomark _))))) (pss_one (ps_ret (pv 3))) pss_nil
    case b2 =>
      exact ps_asg (pv 4) (pg_tup rfl (pgs_cons (pg_name (i := 5) nd rfl (.inl rfl)) (pgs_cons (pg_name (i := 6) nd rfl (.inl rfl)) (pgs_cons (pg_name (i := 7) nd rfl (.inl rfl)) pgs_nil))))
    case b3 =>
      exact ps_if (PW.pt (pw_or (pt_not (pt_val (pe_isi "str" 5 mi m1 (by decide +kernel)))) (pw_or (pt_cmpR op_gt (pe_callB call_len_str (by rfl) ml PySem.boot_len (pa_cons (pv 5) pa_nil)) pe_int (nomark _)) (pw_or1 (pt_cmpR op_le_str (pv 5) (pv 2) (nomark _)))))) (pss_one (ps_ret (pv 3))) pss_nil
    case b4 =>
      exact ps_if (PW.pt (pw_or (pt_not (pt_val (pe_m0 PySem.F.slot_str_isalpha PySem.F.type_str_isalpha mt_isalpha (pv 5)))) (pw_or (pt_not (pt_val (pe_m0 PySem.F.slot_str_islower PySem.F.type_str_islower mt_islower (pv 5)))) (pw_or1 (pt_not (pt_val (pe_m0 PySem.F.slot_str_isascii PySem.F.type_str_isascii mt_isascii (pv 5)))))))) (pss_one (ps_ret (pv 3))) pss_nil
    case b5 =>
      exact ps_if (PW.pt (pw_or (pt_not (pt_val (pe_isi "tuple" 6 mi m3 (by decide +kernel)))) (pw_or (pt_cmpR op_gt (pe_callB call_len_seq (by rfl) ml PySem.boot_len (pa_cons (pv 6) pa_nil)) pe_int (nomark _)) (pw_or1 (pt_not (pt_val (hcall HK hr (pa_cons (pv 7) (pa_cons (pv 1) pa_nil))))))))) (pss_one (ps_ret (pv 3))) pss_nil
    case b6 =>
      exact ps_set (i := 8) nd rfl (.inl rfl) pe_int
    case b7 =>
      refine' ps_for PassesOwn.never rfl (pi_tup (pv 6)) (pg_name (i := 9) nd rfl (.inl rfl)) (pss_one (ps_if (pt_val (pe_isi "str" 9 mi m1 (by decide +kernel))) (pss_cons ?c1 (pss_one ?c2)) (pss_one ?c3)))
      case c1 => exact ps_if (pt_cmpR op_notIn_seq (pv 9) (pv 1) rfl) (pss_one (ps_ret (pv 3))) pss_nil
      case c2 => exact ps_aug (i := 8) nd rfl (.inl rfl) pe_int ip_add
      case c3 => exact ps_if (PW.pt (pw_or (pt_not (pt_val (pe_isi "int" 9 mi m2 (by decide +kernel)))) (pw_or1 (pt_not (pt_chain op_le op_le pe_int (pv 9) pe_int))))) (pss_one (ps_ret (pv 3))) pss_nil
    case b8 =>
      exact ps_if (pt_cmpR op_gt (pv 8) pe_int (nomark _)) (pss_one (ps_ret (pv 3))) pss_nil
    case b9 =>
      exact ps_set (i := 2) nd rfl (.inl rfl) (pv 5)
    case rd =>
    obtain ⟨pd, xs, rfl, hpd, hxs⟩ := dp_tup hx
    refine ⟨_, rfl, pd, xs, rfl, hpd, for_it (walk_enumT (xs := xs)) (fun i σ H1 => ∃ y3 y4 y5 y6 y7 y8 y9 : Option V, σ = [some (.ref pd), some (.ref p), some (.str (ahd (es.map De.nm) i)), y3, y4, y5, y6, y7, y8, y9] ∧ Gr H H1) ⟨none, none, none, none, none, none, none, rfl, Gr.refl H⟩ ?h1 ?h2 ?h3⟩
    case h1 =>
      rintro i σ H1 hi ⟨y3, y4, y5, y6, y7, y8, y9, rfl, g⟩
      exact g.sqt hpd
    case h3 =>
      rintro σ H1 ⟨y3, y4, y5, y6, y7, y8, y9, rfl, g⟩
      exact q H1 g
    case h2 =>
      rintro i x σ H1 H2 hi ⟨y3, y4, y5, y6, y7, y8, y9, rfl, g⟩ ⟨T, a, b, rfl, nT, rfl, ha, hb⟩
      cases ha
      obtain ⟨e, he, de⟩ := dpA_de hxs hb
      have gd := ok e (List.mem_of_getElem? he)
      have hne : (es.map De.nm)[i]? = some e.nm := by rw [List.getElem?_map, he]; rfl
      have lz := ahd_lt up (fun z hz => by obtain ⟨e', h1, rfl⟩ := List.mem_map.mp hz; exact (ok e' h1).nm) hne
      have g2 : Gr H (upd H1 T (.tup [.int (i : Nat), b])) := g.trans (Gr.new nT)
      have hT : upd H1 T (.tup [.int (i : Nat), b]) T = some (.tup [.int (i : Nat), b]) := upd_same
      generalize upd H1 T (.tup [.int (i : Nat), b]) = H2 at g2 hT ⊢
      have de2 := g2.kd.dp de
      obtain ⟨pe, n1, t1, v1, rfl, hpe, dn, dt, dv⟩ := dp_3 de2
      cases dp_str dn
      cases dp_kn dv
      obtain ⟨pt, ts, rfl, hpt, hts⟩ := dp_tup dt
      cases dpA_kns hts
      have hp2 := g2.sqt hp
      obtain ⟨h8, h1, hal, hlo, has, _⟩ := isN_txt gd.nm
      refine ⟨T, _, rfl, .inl (.inl hT), rfl, .int (i : Nat), [.ref pe], rfl, .ref pe, [], rfl, rfl, ?_⟩
      -- a tuple of three
      refine ⟨_, rfl, "tuple", true, tyx_tup hpe, by decide +kernel, _, rfl, iteF ⟨_, rfl, pe, _, rfl, .inr hpe, rfl, _, rfl, iteF ?_⟩⟩
      refine ⟨_, rfl, pe, _, rfl, hpe, rfl, _, _, rfl, _, _, rfl, _, _, rfl, rfl, ?_⟩
      -- its name
      refine ⟨_, rfl, "str", true, (is_str e.nm).1, by decide +kernel, _, rfl, iteF ⟨_, rfl, _, rfl, isN_small gd.nm, _, 8, rfl, rfl, _, rfl, ?_⟩⟩
      rw [decide_eq_false (show ¬ (e.nm.length : Int) > 8 by omega)]
      refine iteF ⟨_, rfl, _, rfl, e.nm, _, rfl, rfl, _, rfl, ?_⟩
      rw [decide_eq_true lz]
      refine iteF ⟨_, rfl, ⟨_, rfl⟩, e.nm, rfl, rfl, trivial, _, rfl, ?_⟩
      rw [hal]
      refine iteF ⟨_, rfl, ⟨_, rfl⟩, e.nm, rfl, rfl, trivial, _, rfl, ?_⟩
      rw [hlo]
      refine iteF ⟨_, rfl, ⟨_, rfl⟩, e.nm, rfl, rfl, trivial, _, rfl, ?_⟩
      rw [has]
      refine iteF ?_
      -- what it takes and gives
      refine ⟨_, rfl, "tuple", true, tyx_tup hpt, by decide +kernel, _, rfl, iteF ⟨_, rfl, pt, _, rfl, .inr hpt, _, 3, rfl, rfl, _, rfl, ?_⟩⟩
      rw [List.length_map, decide_eq_false (show ¬ ((e.tk.length : Nat) : Int) > 3 by have := gd.len; omega)]
      refine iteF ⟨_, rfl, _, rfl, e.gv, hd, p, rfl, hp2, gd.gv, _, rfl, iteF ?_⟩
      refine ⟨_, rfl, pt, rfl, ⟨_, hpt⟩, for_it (walk_tup (xs := e.tk.map Kn.v)) (fun j σ H3 => ∃ y9 : Option V, σ = [some (.ref pd), some (.ref p), some (.str (ahd (es.map De.nm) i)), some (.int (i : Nat)), some (.ref pe), some (.str e.nm), some (.ref pt), some e.gv.v, some (.int (hidN (e.tk.take j))), y9] ∧ H3 = H2) ⟨_, rfl, rfl⟩ ?i1 ?i2 ?i3⟩
      case i1 =>
        rintro j σ H3 hj ⟨y, rfl, rfl⟩
        exact hpt
      case i2 =>
        rintro j x σ H3 H4 hj ⟨y, rfl, rfl⟩ ⟨rfl, hx⟩
        rw [List.getElem?_map] at hx
        obtain ⟨kn, hkn, rfl⟩ := Option.map_eq_some_iff.mp hx
        have gk := gd.tk kn (List.mem_of_getElem? hkn)
        have ht := hidN_take hkn
        cases kn with
        | h z =>
          refine ⟨_, rfl, "str", true, (is_str z).1, by decide +kernel, _, rfl, iteT ⟨_, rfl, _, rfl, p, _, rfl, .inr hp2, rfl, flat_strs hd, _, rfl, ?_⟩⟩
          rw [show inV (Kn.v (.h z)) (hd.map V.str) = true from inV_mem gk]
          refine iteF ⟨_, rfl, _, 1, rfl, rfl, ?_⟩
          show ∃ y9 : Option V, _ = [some (.ref pd), some (.ref p), some (.str (ahd (es.map De.nm) i)), some (.int (i : Nat)), some (.ref pe), some (.str e.nm), some (.ref pt), some e.gv.v, some (.int (hidN (e.tk.take (j + 1)))), y9] ∧ _
          rw [ht]
          exact ⟨_, rfl, rfl⟩
        | p n =>
          obtain ⟨k2, k9⟩ := gk
          refine ⟨_, rfl, "int", false, (is_int n).1, by decide +kernel, _, rfl, iteF ⟨_, rfl, "int", true, (is_int n).1, by decide +kernel, _, rfl, iteF ⟨_, rfl, 2, n, rfl, rfl, _, rfl, ?_⟩⟩⟩
          rw [decide_eq_true k2]
          refine iteT ⟨n, 9, rfl, rfl, _, rfl, ?_⟩
          rw [decide_eq_true k9]
          refine iteF ?_
          show ∃ y9 : Option V, _ = [some (.ref pd), some (.ref p), some (.str (ahd (es.map De.nm) i)), some (.int (i : Nat)), some (.ref pe), some (.str e.nm), some (.ref pt), some e.gv.v, some (.int (hidN (e.tk.take (j + 1)))), y9] ∧ _
          rw [ht]
          exact ⟨_, rfl, rfl⟩
      case i3 =>
        rintro σ H3 ⟨y, rfl, rfl⟩
        rw [List.length_map, List.take_length]
        refine ⟨_, rfl, _, 2, rfl, rfl, _, rfl, ?_⟩
        rw [decide_eq_false (show ¬ ((hidN e.tk : Nat) : Int) > 2 by have := gd.two; omega)]
        refine iteF ⟨_, rfl, ?_⟩
        show ∃ y3 y4 y5 y6 y7 y8 y9 : Option V, _ = [some (.ref pd), some (.ref p), some (.str (ahd (es.map De.nm) (i + 1))), y3, y4, y5, y6, y7, y8, y9] ∧ _
        rw [ahd_succ hne]
        exact ⟨_, _, _, _, _, _, _, rfl, g2⟩
end
end SfC
namespace SfC
open PySem PySem.Spec PyProof.Rows L2 SfG
theorem scFault : FnScope ["thing", "hidden", "deeds", "number"] ["thing"] (defScope sFault) := ⟨rfl, rfl, rfl, by decide +kernel, rfl, by decide +kernel, by decide +kernel⟩
theorem scNeed : FnScope ["face", "fault", "part", "number"] ["face"] (defScope sNeed) := ⟨rfl, rfl, rfl, by decide +kernel, rfl, by decide +kernel, by decide +kernel⟩
/-- a face in the heap, opened -/
theorem dp_face {K : PySem.W.Frag} {H : Hp} {x : V} {f : Fc} (h : Dp K H x f.d) : ∃ p ph pd xs, x = .ref p ∧ SqT K H p [.ref ph, .ref pd] ∧ SqT K H ph (f.hd.map V.str) ∧ SqT K H pd xs ∧ DpAll K H xs (f.ds.map De.d) := by
  obtain ⟨p, a, b, rfl, hp, ha, hb⟩ := dp_2 h
  obtain ⟨ph, hs, rfl, hph, dh⟩ := dp_tup ha
  obtain ⟨pd, xs, rfl, hpd, dd⟩ := dp_tup hb
  cases dpA_strs dh
  exact ⟨p, ph, pd, xs, rfl, hp, hph, hpd, dd⟩
section
variable {P : Program} {w : World} {K : PySem.W.Frag} {mg : Str → Option Value} {base : Heap}
def spGood (K : PySem.W.Frag) (r : V) : Sp := fun vs H Q _ => ∃ (x : V) (f : Fc), vs = [x] ∧ Dp K H x f.d ∧ goF f ∧ ∀ H', Gr H H' → Q r H'
theorem ok_fault {f fH fD : Addr} {fd fdH fdD : FuncData} {k : Nat} {t8 : Tok} (F : Fun K "face_fault" "face_fault" sFault f fd) (HH : Has P w K mg base (k + 2) "first_bad_hidden" ["hidden"] (spBadH K) fH fdH)
    (HD : Has P w K mg base (k + 2) "first_bad_deed" ["deeds", "hidden"] (spBadD K) fD fdD) (mi : mg "isinstance" = none) (m3 : mg "tuple" = none) (ml : mg "len" = none) (m8 : mg "MOST_DEEDS" = some (.int 8 t8)) :
    FnOk P w K mg base CX0 (k + 3) f fd ["thing"] (spGood K .non) := by
  refine F.ok scFault (fun vs H Q E h => ?_) (fun cdv A outer s H vs Q E hr h => ?_)
  · obtain ⟨x, f, rfl, _⟩ := h
    rfl
  · obtain ⟨x, f, rfl, hx, go, q⟩ := h
    have nd := scFault.nd
    refine' ⟨_, pss_cons ?s1 (pss_cons ?s2 (pss_cons ?s3 (pss_cons ?s4 (pss_cons ?s5 (pss_cons ?s6 (pss_cons ?s7 (pss_cons ?s8 (pss_one ?s9)))))))), ?rd⟩
    case s1 => exact ps_if (PW.pt (pw_or (pt_not (pt_val (pe_isi "tuple" 0 mi m3 (by decide +kernel)))) (pw_or1 (pt_cmpR op_ne (pe_callB call_len_seq (by rfl) ml PySem.boot_len (pa_cons (pv 0) pa_nil)) pe_int (nomark _))))) pss_never pss_nil
    case s2 => exact ps_asg (pv 0) (pg_tup rfl (pgs_cons (pg_name (i := 1) nd rfl (.inl rfl)) (pgs_cons (pg_name (i := 2) nd rfl (.inl rfl)) pgs_nil)))
    case s3 => exact ps_if (PW.pt (pw_or (pt_not (pt_val (pe_isi "tuple" 1 mi m3 (by decide +kernel)))) (pw_or1 (pt_not (pt_chain op_le op_le pe_int (pe_callB call_len_seq (by rfl) ml PySem.boot_len (pa_cons (pv 1) pa_nil)) pe_int))))) pss_never pss_nil
    case s4 => exact ps_if (PW.pt (pw_or (pt_not (pt_val (pe_isi "tuple" 2 mi m3 (by decide +kernel)))) (pw_or1 (pt_not (pt_chain op_le op_le pe_int (pe_callB call_len_seq (by rfl) ml PySem.boot_len (pa_cons (pv 2) pa_nil)) (pe_glob (v := .int 8) rfl m8 ⟨_, rfl⟩)))))) pss_never pss_nil
    case s5 => exact ps_set (i := 3) nd rfl (.inl rfl) (hcall HH hr (pa_cons (pv 1) pa_nil))
    case s6 => exact ps_if (pt_cmpR op_notN (pv 3) pe_non (nomark _)) pss_never pss_nil
    case s7 => exact ps_set (i := 3) nd rfl (.inl rfl) (hcall HD hr (pa_cons (pv 2) (pa_cons (pv 1) pa_nil)))
    case s8 => exact ps_if (pt_cmpR op_notN (pv 3) pe_non (nomark _)) pss_never pss_nil
    case s9 => exact ps_ret pe_non
    case rd =>
    obtain ⟨p, ph, pd, xs, rfl, hp, hph, hpd, dd⟩ := dp_face hx
    have hl : xs.length = f.ds.length := by
      have := dpA_len dd
      rw [List.length_map] at this
      exact this
    refine ⟨_, rfl, "tuple", true, tyx_tup hp, by decide +kernel, _, rfl, iteF ⟨_, rfl, p, _, rfl, .inr hp, rfl, _, rfl, iteF ?_⟩⟩
    refine ⟨_, rfl, p, _, rfl, hp, rfl, _, _, rfl, _, _, rfl, rfl, ?_⟩
    refine ⟨_, rfl, "tuple", true, tyx_tup hph, by decide +kernel, _, rfl, iteF ⟨_, rfl, ph, _, rfl, .inr hph, 1, _, rfl, rfl, _, rfl, ?_⟩⟩
    have a1 := go.hid.lo
    have a2 := go.hid.hi
    have a3 := go.lo
    have a4 := go.hi
    rw [List.length_map, decide_eq_true (show (1 : Int) ≤ ((f.hd.length : Nat) : Int) by omega)]
    refine iteT ⟨_, 2, rfl, rfl, _, rfl, ?_⟩
    rw [decide_eq_true (show ((f.hd.length : Nat) : Int) ≤ 2 by omega)]
    refine iteF ⟨_, rfl, "tuple", true, tyx_tup hpd, by decide +kernel, _, rfl, iteF ⟨_, rfl, pd, _, rfl, .inr hpd, 1, _, rfl, rfl, _, rfl, ?_⟩⟩
    rw [hl, decide_eq_true (show (1 : Int) ≤ ((f.ds.length : Nat) : Int) by omega)]
    refine iteT ⟨_, 8, rfl, rfl, _, rfl, ?_⟩
    rw [decide_eq_true (show ((f.ds.length : Nat) : Int) ≤ 8 by omega)]
    refine iteF ⟨_, rfl, f.hd, ph, rfl, hph, go.hid.nm, go.hid.up, fun H1 g1 => ?_⟩
    refine ⟨_, rfl, rfl, _, rfl, iteF ?_⟩
    refine ⟨_, rfl, _, rfl, f.ds, f.hd, .ref pd, ph, rfl, .tup (g1.sqt hpd) (g1.kd.dpA dd), g1.sqt hph, go.up, go.ok, fun H2 g2 => ?_⟩
    exact ⟨_, rfl, rfl, _, rfl, iteF (q H2 (g1.trans g2))⟩
theorem ok_need {f fF : Addr} {fd fdF : FuncData} {k : Nat} (F : Fun K "need_face" "need_face" sNeed f fd) (HF : Has P w K mg base (k + 3) "face_fault" ["thing"] (spGood K .non) fF fdF) :
    FnOk P w K mg base CX0 (k + 4) f fd ["face"] (spGood K .non) := by
  refine F.ok scNeed (fun vs H Q E h => ?_) (fun cdv A outer s H vs Q E hr h => ?_)
  · obtain ⟨x, f, rfl, _⟩ := h
    rfl
  · obtain ⟨x, f, rfl, hx, go, q⟩ := h
    refine ⟨_, pss_cons (ps_set (i := 1) scNeed.nd rfl (.inl rfl) (hcall HF hr (pa_cons (pv 0) pa_nil))) (pss_one (ps_if (pt_cmpR op_notN (pv 1) pe_non (nomark _)) pss_never pss_nil)), ?_⟩
    exact ⟨_, rfl, x, f, rfl, hx, go, fun H1 g1 => ⟨_, rfl, rfl, _, rfl, iteF (q H1 g1)⟩⟩
end
end SfC
namespace SfC
open PySem PySem.Spec PyProof.Rows L2 SfG
abbrev nNamOf : List Str := ["face", "deed"]
theorem scFind : FnScope ["face", "name", "number", "deed"] ["face", "name"] (defScope sFind) := ⟨rfl, rfl, rfl, by decide +kernel, rfl, by decide +kernel, by decide +kernel⟩
section
variable {P : Program} {w : World} {K : PySem.W.Frag} {mg : Str → Option Value} {base : Heap}
/-- a new list of texts is told -/
def spTold (K : PySem.W.Frag) (l : Fc → List Str) : Sp := fun vs H Q _ => ∃ (x : V) (f : Fc), vs = [x] ∧ Dp K H x f.d ∧ goF f ∧ ∀ H' p, Gr H H' → H p = none → H' p = some (.lst ((l f).map V.str)) → Q (.ref p) H'
/-- the deed so called, or none -/
def spFind (K : PySem.W.Frag) : Sp := fun vs H Q _ => ∃ (x y : V) (f : Fc) (T : String), vs = [x, y] ∧ Dp K H x f.d ∧ Is K H y T ∧
  ((∃ (z : Str) (e : De) (i : Nat), y = .str z ∧ f.ds[i]? = some e ∧ e.nm = z ∧ (f.ds.map De.nm).Pairwise lt ∧ ∀ H', Gr H H' → Q (.int (i : Nat)) H') ∨
    ((∀ z, y = .str z → z ∉ f.ds.map De.nm) ∧ ∀ H', Gr H H' → Q .non H'))
theorem lt_irrefl (a : Str) : ¬ lt a a := List.lt_irrefl _
theorem ok_find {f : Addr} {fd : FuncData} {k : Nat} (F : Fun K "find_deed" "find_deed" sFind f fd) (mi : mg "isinstance" = none) (m1 : mg "str" = none) (me : mg "enumerate" = none) :
    FnOk P w K mg base CX0 (k + 1) f fd ["face", "name"] (spFind K) := by
  refine F.ok scFind (fun vs H Q E h => ?_) (fun cdv A outer s H vs Q E hr h => ?_)
  · obtain ⟨x, y, f, T, rfl, _⟩ := h
    rfl
  · obtain ⟨x, y, f, T, rfl, hx, hy, q⟩ := h
    have nd := scFind.nd
    refine ⟨_, pss_cons (ps_if (pt_val (pe_isi "str" 1 mi m1 (by decide +kernel))) (pss_one (ps_for PassesOwn.never rfl (pi_enumT (by rfl) me (pa_cons (pe_ix ix_tup (pv 0) pe_int (fun _ _ => rfl)) pa_nil))
        (pg_tup rfl (pgs_cons (pg_name (i := 2) nd rfl (.inl rfl)) (pgs_cons (pg_name (i := 3) nd rfl (.inl rfl)) pgs_nil)))
        (pss_one (ps_if (pt_cmpR op_eq (pe_ix ix_tup (pv 3) pe_int (fun _ _ => rfl)) (pv 1) (nomark _)) (pss_one (ps_ret (pv 2))) pss_nil)))) pss_nil) (pss_one (ps_ret pe_non)), ?_⟩
    refine ⟨_, rfl, T, _, hy.1, kit_str T hy.2, _, rfl, ?_⟩
    by_cases e : T = "str"
    · obtain ⟨z, rfl⟩ := hy.text e
      subst e
      obtain ⟨p, ph, pd, xs, rfl, hp, hph, hpd, dd⟩ := dp_face hx
      have hl : xs.length = f.ds.length := by
        have := dpA_len dd
        rw [List.length_map] at this
        exact this
      refine iteT ⟨_, rfl, p, _, 1, _, rfl, rfl, hp, rfl, pd, _, rfl, hpd, for_it (walk_enumT (xs := xs)) (fun i σ H1 => ∃ y2 y3 : Option V, σ = [some (.ref p), some (.str z), y2, y3] ∧ Gr H H1 ∧ ∀ j e, j < i → f.ds[j]? = some e → e.nm ≠ z) ⟨none, none, rfl, Gr.refl H, fun j e h => absurd h (Nat.not_lt_zero j)⟩ ?h1 ?h2 ?h3⟩
      case h1 =>
        rintro i σ H1 hi ⟨y2, y3, rfl, g, _⟩
        exact g.sqt hpd
      case h2 =>
        rintro i v σ H1 H2 hi ⟨y2, y3, rfl, g, no⟩ ⟨T, a, b, rfl, nT, rfl, ha, hb⟩
        cases ha
        obtain ⟨e, he, de⟩ := dpA_de dd hb
        have g2 : Gr H (upd H1 T (.tup [.int (i : Nat), b])) := g.trans (Gr.new nT)
        have hT : upd H1 T (.tup [.int (i : Nat), b]) T = some (.tup [.int (i : Nat), b]) := upd_same
        generalize upd H1 T (.tup [.int (i : Nat), b]) = H2 at g2 hT ⊢
        obtain ⟨pe, n1, t1, v1, rfl, hpe, dn, dt, dv⟩ := dp_3 (g2.kd.dp de)
        cases dp_str dn
        refine ⟨T, _, rfl, .inl (.inl hT), rfl, .int (i : Nat), [.ref pe], rfl, .ref pe, [], rfl, rfl, ?_⟩
        refine ⟨_, rfl, pe, _, 0, _, rfl, rfl, hpe, rfl, _, rfl, rfl, _, rfl, ?_⟩
        by_cases ez : e.nm = z
        · rw [decide_eq_true (congrArg V.str ez)]
          refine iteT ⟨_, rfl, ?_⟩
          rcases q with ⟨z', e', i', hz', he', en', up, q⟩ | ⟨q, _⟩
          · cases hz'
            have same : i' = i := by
              have c1 : (f.ds.map De.nm)[i]? = some z := by rw [List.getElem?_map, he]; exact congrArg some ez
              have c2 : (f.ds.map De.nm)[i']? = some z := by rw [List.getElem?_map, he']; exact congrArg some en'
              obtain ⟨l1, q1⟩ := List.getElem?_eq_some_iff.mp c1
              obtain ⟨l2, q2⟩ := List.getElem?_eq_some_iff.mp c2
              have pw := List.pairwise_iff_getElem.mp up
              rcases Nat.lt_trichotomy i i' with h | h | h
              · have := pw i i' l1 l2 h
                rw [q1, q2] at this
                exact absurd this (lt_irrefl z)
              · exact h.symm
              · have := pw i' i l2 l1 h
                rw [q1, q2] at this
                exact absurd this (lt_irrefl z)
            rw [← same]
            exact q _ g2
          · exact absurd (List.mem_map.mpr ⟨e, List.mem_of_getElem? he, ez⟩) (q z rfl)
        · rw [decide_eq_false (fun h => ez (V.str.inj h))]
          refine iteF ⟨_, _, rfl, g2, fun j e' hj he' => ?_⟩
          rcases Nat.lt_or_eq_of_le (Nat.le_of_lt_succ hj) with h | h
          · exact no j e' h he'
          · rw [h, he] at he'
            cases he'
            exact ez
      case h3 =>
        rintro σ H1 ⟨y2, y3, rfl, g, no⟩
        rcases q with ⟨z', e', i', hz', he', en', up, q⟩ | ⟨_, q⟩
        · cases hz'
          have hi' : i' < xs.length := by
            rw [hl]
            rcases Nat.lt_or_ge i' f.ds.length with h1 | h1
            · exact h1
            · rw [List.getElem?_eq_none h1] at he'
              cases he'
          exact absurd en' (no i' e' hi' he')
        · exact q H1 g
    · have e1 : (T == "str") = false := by simpa using e
      rw [e1]
      refine iteF ?_
      rcases q with ⟨z', e', i', hz', _⟩ | ⟨_, q⟩
      · exact absurd hz' (hy.ntext e z')
      · exact q H (Gr.refl H)
end
end SfC
namespace SfC
open PySem PySem.Spec PyProof.Rows L2 SfG
theorem small1000 {n : Nat} (h : n ≤ 1000) : n < sizeLine := by
  rw [sizeLine_eq]
  omega
/-! ### order -/
theorem lt_tri : ∀ a b : List Nat, a < b ∨ a = b ∨ b < a
  | [], [] => .inr (.inl rfl)
  | [], b :: t => .inl (List.nil_lt_cons b t)
  | a :: r, [] => .inr (.inr (List.nil_lt_cons a r))
  | a :: r, b :: t => by
    rcases Nat.lt_trichotomy a b with h | h | h
    · exact .inl (List.cons_lt_cons_iff.mpr (.inl h))
    · subst h
      rcases lt_tri r t with h | h | h
      · exact .inl (List.cons_lt_cons_iff.mpr (.inr ⟨rfl, h⟩))
      · exact .inr (.inl (by rw [h]))
      · exact .inr (.inr (List.cons_lt_cons_iff.mpr (.inr ⟨rfl, h⟩)))
    · exact .inr (.inr (List.cons_lt_cons_iff.mpr (.inl h)))
theorem lt_trans' {a b c : Str} (h1 : lt a b) (h2 : lt b c) : lt a c := List.lt_trans h1 h2
theorem str_ext {a b : Str} (h : a.cps.toList = b.cps.toList) : a = b := by
  cases a
  cases b
  simp at h
  rw [h]
theorem rise : ∀ (r : List Str) (p : Str), risingS p r = true → (p :: r).Nodup → (p :: r).Pairwise lt
  | [], p, _, _ => by simp
  | x :: t, p, h, nd => by
    unfold risingS at h
    rw [Bool.and_eq_true, Bool.not_eq_true', ltCps_eq] at h
    have ih := rise t x h.2 (List.nodup_cons.mp nd).2
    have np : p ≠ x := fun e => (List.nodup_cons.mp nd).1 (by rw [e]; exact List.mem_cons_self)
    have l1 : lt p x := by
      rcases lt_tri p.cps.toList x.cps.toList with h1 | h1 | h1
      · exact h1
      · exact absurd (str_ext h1) np
      · have z := h.1
        rw [decide_eq_true h1] at z
        cases z
    refine List.pairwise_cons.mpr ⟨fun y hy => ?_, ih⟩
    rcases List.mem_cons.mp hy with rfl | hy
    · exact l1
    · exact lt_trans' l1 ((List.pairwise_cons.mp ih).1 y hy)
theorem sorted_up {ys xs : List Str} (h : sortedS ys = true) (p : ys.Perm xs) (nd : xs.Nodup) : ys.Pairwise lt := by
  have ndy : ys.Nodup := p.nodup_iff.mpr nd
  cases ys with
  | nil => exact List.Pairwise.nil
  | cons a r => exact rise r a h ndy
/-! ### texts of letters -/
theorem joinL_mem {ls : List (List Nat)} {c : Nat} (h : c ∈ TL.joinL [] ls) : ∃ l ∈ ls, c ∈ l := by
  induction ls with
  | nil => cases h
  | cons p r ih =>
    cases r with
    | nil => exact ⟨p, List.mem_cons_self, h⟩
    | cons q r =>
      have h' : c ∈ p ++ ([] ++ TL.joinL [] (q :: r)) := h
      rcases List.mem_append.mp h' with h1 | h1
      · exact ⟨p, List.mem_cons_self, h1⟩
      · obtain ⟨l, hl, hc⟩ := ih (by simpa using h1)
        exact ⟨l, List.mem_cons_of_mem _ hl, hc⟩
theorem joinL_len {ls : List (List Nat)} (h : ∀ l ∈ ls, l.length = 1) : (TL.joinL [] ls).length = ls.length := by
  induction ls with
  | nil => rfl
  | cons p r ih =>
    have hp := h p List.mem_cons_self
    have hr := ih fun l hl => h l (List.mem_cons_of_mem _ hl)
    cases r with
    | nil => exact hp
    | cons q r =>
      show (p ++ ([] ++ TL.joinL [] (q :: r))).length = _
      rw [List.length_append, List.nil_append, hr, hp]
      simp
      omega
abbrev nought : Str := ""
theorem len_list (z : Str) : z.length = z.cps.toList.length := by simp [Str.length]
/-- one letter -/
def one (y : Str) : Prop := ∃ c, y = ⟨#[c]⟩ ∧ isLet c = true
theorem join_name {acc : List Str} (h : ∀ y ∈ acc, one y) (h1 : 1 ≤ acc.length) (h8 : acc.length ≤ 8) : isN (Txt.join nought acc) = true := by
  have hl : (Txt.join nought acc).length = acc.length := by
    have e : (TL.tl (Txt.join nought acc)).length = acc.length := by
      rw [TL.join_eq, TL.tl_join]
      rw [show TL.tl nought = [] from rfl, joinL_len, List.length_map]
      intro l hl
      obtain ⟨y, hy, rfl⟩ := List.mem_map.mp hl
      obtain ⟨c, rfl, _⟩ := h y hy
      rfl
    rw [len_list]
    exact e
  unfold isN
  rw [hl, decide_eq_true h8, decide_eq_true h1]
  refine List.all_eq_true.mpr fun c hc => ?_
  have hc' : c ∈ TL.tl (Str.join nought acc) := by
    rw [← TL.join_eq]
    exact hc
  rw [TL.tl_join] at hc'
  obtain ⟨l, hl', hcl⟩ := joinL_mem hc'
  obtain ⟨y, hy, rfl⟩ := List.mem_map.mp hl'
  obtain ⟨d, rfl, hd⟩ := h y hy
  have e : c = d := by simpa [TL.tl] using hcl
  rw [e]
  exact hd
theorem sum_ones : ∀ {acc : List Str}, (∀ y ∈ acc, y.length = 1) → (acc.map (·.length)).sum = acc.length
  | [], _ => rfl
  | a :: r, h => by
    rw [List.map_cons, List.sum_cons, h a List.mem_cons_self, sum_ones fun y hy => h y (List.mem_cons_of_mem _ hy), List.length_cons]
    omega
theorem letter_at {d : Int} (h0 : 0 ≤ d) (h1 : d < 26) : ∃ c, letters.cps[d.toNat]? = some c ∧ isLet c = true := by
  have e : ∀ n : Nat, n < 26 → ∃ c, letters.cps[n]? = some c ∧ isLet c = true := by
    intro n hn
    have hs : letters.cps.size = 26 := by decide +kernel
    refine ⟨letters.cps[n]'(by omega), by simp [show n < letters.cps.size by omega], ?_⟩
    unfold isLet
    exact decide_eq_true (by simp)
  exact e d.toNat (by omega)
theorem inV_not {s : Str} {l : List Str} : inV (.str s) (l.map V.str) = decide (s ∈ l) := by
  by_cases h : s ∈ l
  · rw [decide_eq_true h]
    exact inV_mem h
  · rw [decide_eq_false h]
    unfold inV
    rw [List.any_map]
    refine List.any_eq_false.mpr fun y hy => ?_
    simp [eqV]
    intro e
    exact h (e ▸ hy)
end SfC
namespace SfC
open PySem PySem.Spec PyProof.Rows L2 SfG
/-! ### users: rows of a deed and what it is handed -/
theorem lt_of_at {α : Type} {l : List α} {i : Nat} {a : α} (h : l[i]? = some a) : i < l.length := (List.getElem?_eq_some_iff.mp h).1
theorem scWhole : FnScope ["thing"] ["thing"] (defScope sWhole) := ⟨rfl, rfl, rfl, by decide +kernel, rfl, by decide +kernel, by decide +kernel⟩
theorem scAmong : FnScope ["thing", "least", "most"] ["thing", "least", "most"] (defScope sAmong) := ⟨rfl, rfl, rfl, by decide +kernel, rfl, by decide +kernel, by decide +kernel⟩
theorem scTupOf : FnScope ["thing", "least", "most"] ["thing", "least", "most"] (defScope sTupOf) := ⟨rfl, rfl, rfl, by decide +kernel, rfl, by decide +kernel, by decide +kernel⟩
theorem scMayH : FnScope ["thing", "kind", "given"] ["thing", "kind", "given"] (defScope sMayH) := ⟨rfl, rfl, rfl, by decide +kernel, rfl, by decide +kernel, by decide +kernel⟩
structure Ur where
  e : De
  hs : List Nat
def hsD (hs : List Nat) : List PyData := hs.map fun n => .int (n : Nat)
def hsV (hs : List Nat) : List V := hs.map fun n => .int (n : Nat)
def Ur.d (r : Ur) : PyData := .tuple [.str r.e.nm, .tuple (hsD r.hs)]
def usD (u : List Ur) : PyData := .tuple (u.map Ur.d)
def okH (gv : List Kn) (k : Kn) (h : Nat) : Prop := match k with
  | .p n => (h : Int) < n
  | .h z => gv[h]? = some (.h z)
inductive Fits (gv : List Kn) : List Kn → List Nat → Prop
  | nil : Fits gv [] []
  | cons {k : Kn} {ks : List Kn} {h : Nat} {hs : List Nat} : okH gv k h → Fits gv ks hs → Fits gv (k :: ks) (h :: hs)
theorem Fits.len {gv : List Kn} : ∀ {ks : List Kn} {hs : List Nat}, Fits gv ks hs → ks.length = hs.length
  | _, _, .nil => rfl
  | _, _, .cons _ t => by rw [List.length_cons, List.length_cons, t.len]
theorem Fits.at {gv : List Kn} : ∀ {ks : List Kn} {hs : List Nat}, Fits gv ks hs → ∀ {i : Nat} {k : Kn}, ks[i]? = some k → ∃ h, hs[i]? = some h ∧ okH gv k h
  | _, _, .nil, i, k, e => by simp at e
  | _, _, .cons (h := h) a t, 0, k, e => by
    cases e
    exact ⟨h, rfl, a⟩
  | _, _, .cons a t, i + 1, k, e => t.at (i := i) e
def gvs (u : List Ur) : List Kn := u.map fun r => r.e.gv
structure GoU (f : Fc) (u : List Ur) : Prop where
  lo : 1 ≤ u.length
  hi : u.length ≤ 200
  ok : ∀ i r, u[i]? = some r → r.e ∈ f.ds ∧ Fits ((gvs u).take i) r.e.tk r.hs
theorem gvs_take (u : List Ur) (i : Nat) : (gvs u).take i = gvs (u.take i) := by
  unfold gvs
  rw [List.map_take]
theorem okH_lt {hd : List Str} {gv : List Kn} {k : Kn} {h : Nat} (hk : goK hd k) (hg : gv.length ≤ 200) (o : okH gv k h) : h < 200 := by
  cases k with
  | p n =>
    have o' : (h : Int) < n := o
    obtain ⟨_, h9⟩ := hk
    omega
  | h z =>
    have := lt_of_at (show gv[h]? = some (.h z) from o)
    omega
theorem kn_is {K : PySem.W.Frag} {H : Hp} (k : Kn) : Is K H k.v (if k.isH then "str" else "int") := by
  cases k with
  | h s => exact is_str s
  | p n => exact is_int n
section
variable {P : Program} {w : World} {K : PySem.W.Frag} {mg : Str → Option Value} {base : Heap}
def spWhole (K : PySem.W.Frag) : Sp := fun vs H Q _ => ∃ (x : V) (T : String), vs = [x] ∧ Is K H x T ∧ Q (.bl (T == "int")) H
theorem ok_whole {f : Addr} {fd : FuncData} {k : Nat} (F : Fun K "is_whole" "is_whole" sWhole f fd) (mi : mg "isinstance" = none) (m1 : mg "int" = none) :
    FnOk P w K mg base CX0 (k + 1) f fd ["thing"] (spWhole K) := by
  refine F.ok scWhole (fun vs H Q E h => ?_) (fun cdv A outer s H vs Q E hr h => ?_)
  · obtain ⟨x, T, rfl, _⟩ := h
    rfl
  · obtain ⟨x, T, rfl, hx, q⟩ := h
    refine ⟨_, pss_one (ps_ret (pe_and (pe_isi "int" 0 mi m1 (by decide +kernel)) (pe_and (pe_cmpR op_notBx (pv 0) pe_bl (nomark _)) (pe_one (pe_cmpR op_notBx (pv 0) pe_bl (nomark _)))))), ?_⟩
    refine ⟨x, rfl, T, _, hx.1, kit_int T hx.2, _, rfl, ?_⟩
    by_cases e : T = "int"
    · obtain ⟨i, rfl⟩ := hx.whole e
      subst e
      exact iteT ⟨_, rfl, true, rfl, .inr ⟨i, rfl, _, rfl, iteT ⟨_, rfl, false, rfl, .inr ⟨i, rfl, q⟩⟩⟩⟩
    · have e1 : (T == "int") = false := by simpa using e
      rw [e1] at q ⊢
      by_cases e2 : T = "bool"
      · obtain ⟨b, rfl⟩ := is_truth hx e2
        subst e2
        cases b with
        | true => exact iteT ⟨_, rfl, true, rfl, .inl ⟨true, rfl, _, rfl, iteF q⟩⟩
        | false => exact iteT ⟨_, rfl, true, rfl, .inl ⟨false, rfl, _, rfl, iteT ⟨_, rfl, false, rfl, .inl ⟨false, rfl, q⟩⟩⟩⟩
      · have e3 : (T == "bool") = false := by simpa using e2
        rw [e3]
        exact iteF q
/-- numbers only -/
def spAmong : Sp := fun vs H Q _ => ∃ i lo hi : Int, vs = [.int i, .int lo, .int hi] ∧ Q (.bl (decide (lo ≤ i) && decide (i ≤ hi))) H
theorem ok_among {f fW : Addr} {fd fdW : FuncData} {k : Nat} (F : Fun K "is_among" "is_among" sAmong f fd) (HW : Has P w K mg base (k + 1) "is_whole" ["thing"] (spWhole K) fW fdW) :
    FnOk P w K mg base CX0 (k + 2) f fd ["thing", "least", "most"] spAmong := by
  refine F.ok scAmong (fun vs H Q E h => ?_) (fun cdv A outer s H vs Q E hr h => ?_)
  · obtain ⟨i, lo, hi, rfl, _⟩ := h
    rfl
  · obtain ⟨i, lo, hi, rfl, q⟩ := h
    refine ⟨_, pss_one (ps_ret (pe_and (hcall HW hr (pa_cons (pv 0) pa_nil)) (pe_and (hcall HW hr (pa_cons (pv 1) pa_nil)) (pe_and (hcall HW hr (pa_cons (pv 2) pa_nil))
      (pe_one (pe_chain op_le op_le (pv 1) (pv 0) (pv 2))))))), ?_⟩
    refine ⟨_, rfl, _, "int", rfl, is_int i, _, rfl, iteT ⟨_, rfl, _, "int", rfl, is_int lo, _, rfl, iteT ⟨_, rfl, _, "int", rfl, is_int hi, _, rfl, iteT ?_⟩⟩⟩
    refine ⟨_, rfl, _, rfl, lo, i, rfl, rfl, _, rfl, ?_⟩
    cases h1 : decide (lo ≤ i) with
    | true =>
      rw [h1] at q
      exact iteT ⟨_, rfl, i, hi, rfl, rfl, q⟩
    | false =>
      rw [h1] at q
      exact iteF q
def spTupOf (K : PySem.W.Frag) : Sp := fun vs H Q _ => ∃ (p : Addr) (xs : List V) (lo hi : Int), vs = [.ref p, .int lo, .int hi] ∧ SqT K H p xs ∧ Q (.bl (decide (lo ≤ (xs.length : Int)) && decide ((xs.length : Int) ≤ hi))) H
theorem ok_tupOf {f : Addr} {fd : FuncData} {k : Nat} (F : Fun K "is_tuple_of" "is_tuple_of" sTupOf f fd) (mi : mg "isinstance" = none) (mt : mg "tuple" = none) (ml : mg "len" = none) :
    FnOk P w K mg base CX0 (k + 1) f fd ["thing", "least", "most"] (spTupOf K) := by
  refine F.ok scTupOf (fun vs H Q E h => ?_) (fun cdv A outer s H vs Q E hr h => ?_)
  · obtain ⟨p, xs, lo, hi, rfl, _⟩ := h
    rfl
  · obtain ⟨p, xs, lo, hi, rfl, hp, q⟩ := h
    refine ⟨_, pss_one (ps_ret (pe_and (pe_isi "tuple" 0 mi mt (by decide +kernel)) (pe_one (pe_chain op_le op_le (pv 1) (pe_callB call_len_seq (by rfl) ml PySem.boot_len (pa_cons (pv 0) pa_nil)) (pv 2))))), ?_⟩
    refine ⟨_, rfl, "tuple", _, tyx_tup hp, kit_tuple _ (by decide +kernel), _, rfl, ?_⟩
    refine iteT ⟨_, rfl, _, rfl, p, xs, rfl, .inr hp, lo, _, rfl, rfl, _, rfl, ?_⟩
    cases h1 : decide (lo ≤ (xs.length : Int)) with
    | true =>
      rw [h1] at q
      exact iteT ⟨_, rfl, _, hi, rfl, rfl, q⟩
    | false =>
      rw [h1] at q
      exact iteF q
/-- what may be handed -/
def spMayH : Sp := fun vs H Q _ => ∃ (h : Nat) (k : Kn) (g : Addr) (gv : List Kn), vs = [.int (h : Nat), k.v, .ref g] ∧ H g = some (.lst (gv.map Kn.v)) ∧ okH gv k h ∧ Q (.bl true) H
theorem ok_mayH {f fW fA : Addr} {fd fdW fdA : FuncData} {k : Nat} (F : Fun K "may_be_handed" "may_be_handed" sMayH f fd) (HW : Has P w K mg base k "is_whole" ["thing"] (spWhole K) fW fdW) (HA : Has P w K mg base k "is_among" ["thing", "least", "most"] spAmong fA fdA) (ml : mg "len" = none) :
    FnOk P w K mg base CX0 (k + 1) f fd ["thing", "kind", "given"] spMayH := by
  refine F.ok scMayH (fun vs H Q E h => ?_) (fun cdv A outer s H vs Q E hr h => ?_)
  · obtain ⟨h, k, g, gv, rfl, _⟩ := h
    rfl
  · obtain ⟨h, k, g, gv, rfl, hg, ok, q⟩ := h
    refine ⟨_, pss_cons (ps_if (pt_val (hcall HW hr (pa_cons (pv 1) pa_nil))) (pss_one (ps_ret (hcall HA hr (pa_cons (pv 0) (pa_cons pe_int (pa_cons (pe_op op_sub (pv 1) pe_int) pa_nil)))))) pss_nil)
      (pss_one (ps_ret (pe_and (hcall HA hr (pa_cons (pv 0) (pa_cons pe_int (pa_cons (pe_op op_sub (pe_callB call_len_seq (by rfl) ml PySem.boot_len (pa_cons (pv 2) pa_nil)) pe_int) pa_nil))))
        (pe_one (pe_cmpR op_eq (pe_ix ix_list (pv 2) (pv 0) (fun _ _ => rfl)) (pv 1) (nomark _)))))), ?_⟩
    refine ⟨_, rfl, _, _, rfl, kn_is k, _, rfl, ?_⟩
    cases k with
    | p n =>
      have ok' : (h : Int) < n := ok
      refine iteT ⟨_, rfl, _, rfl, n, 1, rfl, rfl, (h : Nat), 0, n - 1, rfl, ?_⟩
      rw [decide_eq_true (show (0 : Int) ≤ (h : Nat) by omega), decide_eq_true (show ((h : Nat) : Int) ≤ n - 1 by omega)]
      exact q
    | h z =>
      have ok' : gv[h]? = some (.h z) := ok
      have lt := lt_of_at ok'
      refine iteF ⟨_, rfl, _, rfl, g, _, rfl, .inl (.inl (.inl hg)), _, 1, rfl, rfl, (h : Nat), 0, _, rfl, _, rfl, ?_⟩
      rw [List.length_map, decide_eq_true (show (0 : Int) ≤ (h : Nat) by omega), decide_eq_true (show ((h : Nat) : Int) ≤ (gv.length : Nat) - 1 by omega)]
      refine iteT ⟨_, rfl, _, rfl, g, _, _, .str z, rfl, rfl, .inl (.inl hg), atI_nat (by rw [List.getElem?_map, ok']; rfl), _, rfl, ?_⟩
      refine ⟨rfl, ?_⟩
      show Q (.bl (decide (V.str z = V.str z))) H
      rw [decide_eq_true rfl]
      exact q
end
end SfC
namespace SfC
open PySem PySem.Spec PyProof.Rows L2 SfG
/-! ### a user has no fault -/
abbrev nDOR : List Str := ["row", "face", "name", "handed", "number", "deed", "many"]
theorem scDeedOR : FnScope nDOR ["row", "face"] (defScope sDeedOR) := ⟨rfl, rfl, rfl, by decide +kernel, rfl, by decide +kernel, by decide +kernel⟩
abbrev nFBP : List Str := ["handed", "takes", "given", "place", "kind"]
theorem scFirstBP : FnScope nFBP ["handed", "takes", "given"] (defScope sFirstBP) := ⟨rfl, rfl, rfl, by decide +kernel, rfl, by decide +kernel, by decide +kernel⟩
abbrev nUF : List Str := ["face", "thing", "given", "number", "row", "deed", "place"]
theorem scUFault : FnScope nUF ["face", "thing"] (defScope sUFault) := ⟨rfl, rfl, rfl, by decide +kernel, rfl, by decide +kernel, by decide +kernel⟩
abbrev nRU : List Str := ["face", "user", "fault", "row", "place"]
theorem scRefU : FnScope nRU ["face", "user"] (defScope sRefU) := ⟨rfl, rfl, rfl, by decide +kernel, rfl, by decide +kernel, by decide +kernel⟩
theorem dpA_ns {K : PySem.W.Frag} {H : Hp} : ∀ {hs : List Nat} {xs : List V}, DpAll K H xs (hsD hs) → xs = hsV hs
  | [], _, h => dpA_nil h
  | a :: r, _, h => by
    obtain ⟨x, t, rfl, hx, ht⟩ := dpA_cons h
    rw [dpA_ns (hs := r) ht]
    cases hx
    rfl
theorem dpA_nsI {K : PySem.W.Frag} {H : Hp} : ∀ hs : List Nat, DpAll K H (hsV hs) (hsD hs)
  | [] => .nil
  | a :: r => .cons (.int _) (dpA_nsI r)
theorem dp_ur {K : PySem.W.Frag} {H : Hp} {v : V} {r : Ur} (h : Dp K H v r.d) : ∃ p q, v = .ref p ∧ SqT K H p [.str r.e.nm, .ref q] ∧ SqT K H q (hsV r.hs) := by
  obtain ⟨p, a, b, rfl, hp, ha, hb⟩ := dp_2 h
  cases dp_str ha
  obtain ⟨q, xs, rfl, hq, hx⟩ := dp_tup hb
  cases dpA_ns hx
  exact ⟨p, q, rfl, hp, hq⟩
theorem hsV_len (hs : List Nat) : (hsV hs).length = hs.length := List.length_map _
theorem hsV_at {hs : List Nat} {i : Nat} {h : Nat} (e : hs[i]? = some h) : (hsV hs)[i]? = some (.int (h : Nat)) := by
  unfold hsV
  rw [List.getElem?_map, e]
  rfl
theorem dpA_map {α : Type} {K : PySem.W.Frag} {H : Hp} {g : α → PyData} {as : List α} {xs : List V} (h : DpAll K H xs (as.map g)) {i : Nat} {a : α} (e : as[i]? = some a) : ∃ x, xs[i]? = some x ∧ Dp K H x (g a) :=
  dpA_get h (by rw [List.getElem?_map, e]; rfl)
section
variable {P : Program} {w : World} {K : PySem.W.Frag} {mg : Str → Option Value} {base : Heap}
def spDOR (K : PySem.W.Frag) : Sp := fun vs H Q _ => ∃ (x y : V) (r : Ur) (f : Fc), vs = [x, y] ∧ Dp K H x r.d ∧ Dp K H y f.d ∧ goF f ∧ r.e ∈ f.ds ∧ r.hs.length = r.e.tk.length ∧ ∀ H' v, Gr H H' → Dp K H' v r.e.d → Q v H'
theorem ok_dor {f fT fF : Addr} {fd fdT fdF : FuncData} {k : Nat} (F : Fun K "deed_of_row" "deed_of_row" sDeedOR f fd) (HT : Has P w K mg base k "is_tuple_of" ["thing", "least", "most"] (spTupOf K) fT fdT) (HF : Has P w K mg base k "find_deed" ["face", "name"] (spFind K) fF fdF) (ml : mg "len" = none) :
    FnOk P w K mg base CX0 (k + 1) f fd ["row", "face"] (spDOR K) := by
  refine F.ok scDeedOR (fun vs H Q E h => ?_) (fun cdv A outer s H vs Q E hr h => ?_)
  · obtain ⟨x, y, r, f, rfl, _⟩ := h
    rfl
  · obtain ⟨x, y, r, f, rfl, hx, hy, go, hm, hl, q⟩ := h
    have nd := scDeedOR.nd
    refine' ⟨_, pss_cons ?s1 (pss_cons ?s2 (pss_cons ?s3 (pss_cons ?s4 (pss_cons ?s5 (pss_cons ?s6 (pss_one ?s7)))))), ?rd⟩
    case s1 => exact ps_if (pt_not (pt_val (hcall HT hr (pa_cons (pv 0) (pa_cons pe_int (pa_cons pe_int pa_nil)))))) (pss_one (ps_ret pe_non)) pss_nil
    case s2 => exact ps_asg (pv 0) (pg_tup rfl (pgs_cons (pg_name (i := 2) nd rfl (.inl rfl)) (pgs_cons (pg_name (i := 3) nd rfl (.inl rfl)) pgs_nil)))
    case s3 => exact ps_set (i := 4) nd rfl (.inl rfl) (hcall HF hr (pa_cons (pv 1) (pa_cons (pv 2) pa_nil)))
    case s4 => exact ps_if (pt_cmpR op_isN (pv 4) pe_non (nomark _)) (pss_one (ps_ret pe_non)) pss_nil
    case s5 => exact ps_set (i := 5) nd rfl (.inl rfl) (pe_ix ix_tup (pe_ix ix_tup (pv 1) pe_int (fun _ _ => rfl)) (pv 4) (fun _ _ => rfl))
    case s6 => exact ps_set (i := 6) nd rfl (.inl rfl) (pe_callB call_len_seq (by rfl) ml PySem.boot_len (pa_cons (pe_ix ix_tup (pv 5) pe_int (fun _ _ => rfl)) pa_nil))
    case s7 => exact ps_ret (pe_ifExp (pt_val (hcall HT hr (pa_cons (pv 3) (pa_cons (pv 6) (pa_cons (pv 6) pa_nil))))) (pv 5) pe_non)
    case rd =>
    obtain ⟨p, q2, rfl, hp, hq⟩ := dp_ur hx
    obtain ⟨pf, ph, pd, xs, rfl, hpf, hph, hpd, dd⟩ := dp_face hy
    obtain ⟨i, hi⟩ := List.mem_iff_getElem?.mp hm
    obtain ⟨v, hv, dv⟩ := dpA_map dd hi
    refine ⟨_, rfl, p, _, 2, 2, rfl, hp, _, rfl, ?_⟩
    refine iteF ⟨_, rfl, p, _, rfl, hp, rfl, _, _, rfl, _, _, rfl, rfl, ?_⟩
    refine ⟨_, rfl, _, rfl, _, _, f, "str", rfl, hy, is_str _, .inl ⟨_, r.e, i, rfl, hi, rfl, go.up, fun H1 g1 => ?_⟩⟩
    refine ⟨_, rfl, rfl, _, rfl, iteF ?_⟩
    refine ⟨_, rfl, pf, _, 1, _, rfl, rfl, g1.sqt hpf, rfl, _, rfl, pd, _, _, _, rfl, rfl, g1.sqt hpd, atI_nat hv, ?_⟩
    have dv1 := g1.kd.dp dv
    obtain ⟨pe, n1, t1, v1, rfl, hpe, dn, dt, dg⟩ := dp_3 dv1
    obtain ⟨pt, ts, rfl, hpt, hts⟩ := dp_tup dt
    have lt : ts.length = r.e.tk.length := by
      have := dpA_len hts
      rw [List.length_map] at this
      exact this
    refine ⟨_, rfl, pe, _, 1, _, rfl, rfl, hpe, rfl, pt, _, rfl, .inr hpt, ?_⟩
    refine ⟨_, rfl, _, rfl, _, rfl, q2, _, _, _, rfl, g1.sqt hq, ?_⟩
    rw [hsV_len, hl, lt, decide_eq_true (Int.le_refl _)]
    exact ⟨_, rfl, iteT ⟨_, rfl, q H1 _ g1 dv1⟩⟩
def spFBP (K : PySem.W.Frag) : Sp := fun vs H Q _ => ∃ (p t g : Addr) (hs : List Nat) (ks gv : List Kn), vs = [.ref p, .ref t, .ref g] ∧ SqT K H p (hsV hs) ∧ SqT K H t (ks.map Kn.v) ∧ H g = some (.lst (gv.map Kn.v)) ∧ Fits gv ks hs ∧ ∀ H', Gr H H' → Q .non H'
theorem ok_fbp {f fM : Addr} {fd fdM : FuncData} {k : Nat} (F : Fun K "first_bad_place" "first_bad_place" sFirstBP f fd) (HM : Has P w K mg base k "may_be_handed" ["thing", "kind", "given"] spMayH fM fdM) (me : mg "enumerate" = none) :
    FnOk P w K mg base CX0 (k + 1) f fd ["handed", "takes", "given"] (spFBP K) := by
  refine F.ok scFirstBP (fun vs H Q E h => ?_) (fun cdv A outer s H vs Q E hr h => ?_)
  · obtain ⟨p, t, g, hs, ks, gv, rfl, _⟩ := h
    rfl
  · obtain ⟨p, t, g, hs, ks, gv, rfl, hp, ht, hg, fit, q⟩ := h
    have nd := scFirstBP.nd
    refine ⟨_, pss_cons (ps_for PassesOwn.never rfl (pi_enumT (by rfl) me (pa_cons (pv 1) pa_nil)) (pg_tup rfl (pgs_cons (pg_name (i := 3) nd rfl (.inl rfl)) (pgs_cons (pg_name (i := 4) nd rfl (.inl rfl)) pgs_nil)))
      (pss_one (ps_if (pt_not (pt_val (hcall HM hr (pa_cons (pe_ix ix_tup (pv 0) (pv 3) (fun _ _ => rfl)) (pa_cons (pv 4) (pa_cons (pv 2) pa_nil)))))) (pss_one (ps_ret (pv 3))) pss_nil))) (pss_one (ps_ret pe_non)), ?_⟩
    refine ⟨_, rfl, t, _, rfl, ht, for_it (walk_enumT (xs := ks.map Kn.v)) (fun i σ H1 => ∃ y3 y4 : Option V, σ = [some (.ref p), some (.ref t), some (.ref g), y3, y4] ∧ Gr H H1) ⟨none, none, rfl, Gr.refl H⟩ ?h1 ?h2 ?h3⟩
    case h1 =>
      rintro i σ H1 hi ⟨y3, y4, rfl, g1⟩
      exact g1.sqt ht
    case h2 =>
      rintro i v σ H1 H2 hi ⟨y3, y4, rfl, g1⟩ ⟨T, a, b, rfl, nT, rfl, ha, hb⟩
      cases ha
      replace hb : (ks.map Kn.v)[i]? = some b := hb
      rw [List.getElem?_map] at hb
      obtain ⟨kn, hkn, rfl⟩ := Option.map_eq_some_iff.mp hb
      obtain ⟨h, hh, ok⟩ := fit.at hkn
      have g2 : Gr H (upd H1 T (.tup [.int (i : Nat), kn.v])) := g1.trans (Gr.new nT)
      have hT : upd H1 T (.tup [.int (i : Nat), kn.v]) T = some (.tup [.int (i : Nat), kn.v]) := upd_same
      generalize upd H1 T (.tup [.int (i : Nat), kn.v]) = H2 at g2 hT ⊢
      refine ⟨T, _, rfl, .inl (.inl hT), rfl, _, _, rfl, _, _, rfl, rfl, ?_⟩
      refine ⟨_, rfl, _, rfl, p, _, _, _, rfl, rfl, g2.sqt hp, atI_nat (hsV_at hh), _, rfl, _, rfl, h, kn, g, gv, rfl, g2.lst hg, ok, ?_⟩
      exact ⟨_, rfl, iteF ⟨_, _, rfl, g2⟩⟩
    case h3 =>
      rintro σ H1 ⟨y3, y4, rfl, g1⟩
      exact q H1 g1
def spGoodU (K : PySem.W.Frag) : Sp := fun vs H Q _ => ∃ (x y : V) (f : Fc) (u : List Ur), vs = [x, y] ∧ Dp K H x f.d ∧ Dp K H y (usD u) ∧ goF f ∧ GoU f u ∧ ∀ H', Gr H H' → Q .non H'
set_option maxHeartbeats 1000000 in
theorem ok_ufault {f fT fD fB : Addr} {fd fdT fdD fdB : FuncData} {k : Nat} {tm : Tok} (F : Fun K "user_fault" "user_fault" sUFault f fd) (HT : Has P w K mg base k "is_tuple_of" ["thing", "least", "most"] (spTupOf K) fT fdT) (HD : Has P w K mg base k "deed_of_row" ["row", "face"] (spDOR K) fD fdD)
    (HB : Has P w K mg base k "first_bad_place" ["handed", "takes", "given"] (spFBP K) fB fdB) (me : mg "enumerate" = none) (mm : mg "MOST_ROWS" = some (.int 200 tm)) : FnOk P w K mg base CX0 (k + 1) f fd ["face", "thing"] (spGoodU K) := by
  refine F.ok scUFault (fun vs H Q E h => ?_) (fun cdv A outer s H vs Q E hr h => ?_)
  · obtain ⟨x, y, f, u, rfl, _⟩ := h
    rfl
  · obtain ⟨x, y, f, u, rfl, hx, hy, go, gu, q⟩ := h
    have nd := scUFault.nd
    refine' ⟨_, pss_cons ?s1 (pss_cons ?s2 (pss_cons ?s3 (pss_one ?s4))), ?rd⟩
    case s1 => exact ps_if (pt_not (pt_val (hcall HT hr (pa_cons (pv 1) (pa_cons pe_int (pa_cons (pe_glob (v := .int 200) rfl mm ⟨_, rfl⟩) pa_nil)))))) pss_never pss_nil
    case s2 => exact ps_set (i := 2) nd rfl (.inl rfl) (pe_lst pa_nil)
    case s3 =>
      exact ps_for PassesOwn.never rfl (pi_enumT (by rfl) me (pa_cons (pv 1) pa_nil)) (pg_tup rfl (pgs_cons (pg_name (i := 3) nd rfl (.inl rfl)) (pgs_cons (pg_name (i := 4) nd rfl (.inl rfl)) pgs_nil)))
        (pss_cons (ps_set (i := 5) nd rfl (.inl rfl) (hcall HD hr (pa_cons (pv 4) (pa_cons (pv 0) pa_nil))))
        (pss_cons (ps_if (pt_cmpR op_isN (pv 5) pe_non (nomark _)) pss_never pss_nil)
        (pss_cons (ps_set (i := 6) nd rfl (.inl rfl) (hcall HB hr (pa_cons (pe_ix ix_tup (pv 4) pe_int (fun _ _ => rfl)) (pa_cons (pe_ix ix_tup (pv 5) pe_int (fun _ _ => rfl)) (pa_cons (pv 2) pa_nil)))))
        (pss_cons (ps_if (pt_cmpR op_notN (pv 6) pe_non (nomark _)) pss_never pss_nil)
        (pss_one (ps_expr (pe_bm PySem.F.plainAttrs_list PySem.F.slot_list_append PySem.F.type_list_append mt_append (pv 2) (pa_cons (pe_ix ix_tup (pv 5) pe_int (fun _ _ => rfl)) pa_nil))))))))
    case s4 => exact ps_ret pe_non
    case rd =>
    obtain ⟨p, xs, rfl, hp, hxs⟩ := dp_tup hy
    have lx : xs.length = u.length := by
      have := dpA_len hxs
      rw [List.length_map] at this
      exact this
    have lo := gu.lo
    have hi := gu.hi
    refine ⟨_, rfl, p, xs, 1, 200, rfl, hp, ?_⟩
    rw [lx, decide_eq_true (show (1 : Int) ≤ (u.length : Nat) by omega), decide_eq_true (show ((u.length : Nat) : Int) ≤ 200 by omega)]
    refine ⟨_, rfl, iteF ⟨by show 0 ≤ sizeLine; decide, fun g ng => ?_⟩⟩
    have g1 : Gr H (upd H g (.lst [])) := Gr.new ng
    have e1 : upd H g (.lst []) g = some (.lst []) := upd_same
    generalize upd H g (.lst []) = H1 at g1 e1 ⊢
    refine ⟨_, rfl, p, _, rfl, g1.sqt hp, for_it (walk_enumT (xs := xs)) (fun i σ H2 => ∃ y3 y4 y5 y6 : Option V, σ = [some x, some (.ref p), some (.ref g), y3, y4, y5, y6] ∧ Gr H H2 ∧ H2 g = some (.lst ((gvs (u.take i)).map Kn.v))) ⟨none, none, none, none, rfl, g1, e1⟩ ?h1 ?h2 ?h3⟩
    case h1 =>
      rintro i σ H2 hi ⟨y3, y4, y5, y6, rfl, g2, e2⟩
      exact g2.sqt hp
    case h2 =>
      rintro i v σ H2 H3 hi ⟨y3, y4, y5, y6, rfl, g2, e2⟩ ⟨T, a, b, rfl, nT, rfl, ha, hb⟩
      cases ha
      have iu : i < u.length := by omega
      have hu : u[i]? = some u[i] := List.getElem?_eq_getElem iu
      obtain ⟨b', hb', db⟩ := dpA_map hxs hu
      have : b = b' := Option.some.inj (hb.symm.trans hb')
      subst this
      obtain ⟨hm, fit⟩ := gu.ok i _ hu
      rw [gvs_take] at fit
      have ta : u.take (i + 1) = u.take i ++ [u[i]] := by rw [List.take_add_one, hu]; rfl
      generalize u[i] = r at hu db hm fit ta
      have g3 : Gr H (upd H2 T (.tup [.int (i : Nat), b])) := g2.trans (Gr.new nT)
      have hT : upd H2 T (.tup [.int (i : Nat), b]) T = some (.tup [.int (i : Nat), b]) := upd_same
      have e3 := (Gr.new (o := .tup [.int (i : Nat), b]) nT).lst e2
      generalize upd H2 T (.tup [.int (i : Nat), b]) = H3 at g3 hT e3 ⊢
      refine ⟨T, _, rfl, .inl (.inl hT), rfl, _, _, rfl, _, _, rfl, rfl, ?_⟩
      refine ⟨_, rfl, _, rfl, b, x, r, f, rfl, g3.kd.dp db, g3.kd.dp hx, go, hm, fit.len.symm, fun H4 v g4 dv => ?_⟩
      obtain ⟨pe, n1, t1, v1, rfl, hpe, dn, dt, dg⟩ := dp_3 dv
      obtain ⟨pt, ts, rfl, hpt, hts⟩ := dp_tup dt
      cases dpA_kns hts
      cases dp_kn dg
      obtain ⟨pr, qr, rfl, hpr, hqr⟩ := dp_ur ((g3.trans g4).kd.dp db)
      refine ⟨_, rfl, rfl, _, rfl, iteF ?_⟩
      refine ⟨_, rfl, pr, _, 1, _, rfl, rfl, hpr, rfl, _, rfl, pe, _, 1, _, rfl, rfl, hpe, rfl, _, rfl, ?_⟩
      refine ⟨qr, pt, g, r.hs, r.e.tk, _, rfl, hqr, hpt, g4.lst e3, fit, fun H5 g5 => ?_⟩
      refine ⟨_, rfl, rfl, _, rfl, iteF ?_⟩
      refine ⟨_, rfl, .inl ⟨rfl, _, .inl (.inl ((g4.trans g5).lst e3))⟩, _, rfl, pe, _, 2, _, rfl, rfl, g5.sqt hpe, rfl, g, _, _, rfl, rfl, (g4.trans g5).lst e3, ?_, ?_⟩
      · rw [List.length_map]
        unfold gvs
        rw [List.length_map, List.length_take]
        exact small1000 (by omega)
      · refine ⟨_, _, _, _, rfl, (g3.trans (g4.trans g5)).upd_new ng, ?_⟩
        rw [ta]
        unfold gvs
        rw [List.map_append, List.map_append]
        exact upd_same
    case h3 =>
      rintro σ H2 ⟨y3, y4, y5, y6, rfl, g2, e2⟩
      exact q H2 g2
theorem ok_refU {f fU : Addr} {fd fdU : FuncData} {k : Nat} (F : Fun K "refuse_no_user" "refuse_no_user" sRefU f fd) (HU : Has P w K mg base k "user_fault" ["face", "thing"] (spGoodU K) fU fdU) : FnOk P w K mg base CX0 (k + 1) f fd ["face", "user"] (spGoodU K) := by
  refine F.ok scRefU (fun vs H Q E h => ?_) (fun cdv A outer s H vs Q E hr h => ?_)
  · obtain ⟨x, y, f, u, rfl, _⟩ := h
    rfl
  · obtain ⟨x, y, f, u, rfl, hx, hy, go, gu, q⟩ := h
    refine ⟨_, pss_cons (ps_set (i := 2) scRefU.nd rfl (.inl rfl) (hcall HU hr (pa_cons (pv 0) (pa_cons (pv 1) pa_nil)))) (pss_one (ps_if (pt_cmpR op_notN (pv 2) pe_non (nomark _)) pss_never pss_nil)), ?_⟩
    exact ⟨_, rfl, _, rfl, x, y, f, u, rfl, hx, hy, go, gu, fun H1 g1 => ⟨_, rfl, rfl, _, rfl, iteF (q H1 g1)⟩⟩
end
end SfC
namespace SfC
open PySem PySem.Spec PyProof.Rows L2 SfG
/-! ### users are read -/
abbrev nReadU : List Str := ["face", "text", "names", "rows", "user", "given", "number", "row", "name", "takes", "gives"]
/-! data of tuples and flat things stays where all tuples stay -/
mutual
def noL : PyData → Bool
  | .none => true
  | .bool _ => true
  | .int _ => true
  | .str _ => true
  | .list _ => false
  | .dict _ => false
  | .tuple ds => noLA ds
def noLA : List PyData → Bool
  | [] => true
  | d :: r => noL d && noLA r
end
def Kt (K : PySem.W.Frag) (H H' : Hp) : Prop := ∀ {a : Addr} {xs : List V}, SqT K H a xs → SqT K H' a xs
mutual
theorem Kt.dp {K : PySem.W.Frag} {H H' : Hp} (g : Kt K H H') : ∀ {d : PyData} {v : V}, Dp K H v d → noL d = true → Dp K H' v d
  | _, _, .non, _ => .non
  | _, _, .bl b, _ => .bl b
  | _, _, .int i, _ => .int i
  | _, _, .str x, _ => .str x
  | _, _, .lst h hs, n => by
    rw [noL] at n
    cases n
  | _, _, .tup h hs, n => .tup (g h) (Kt.dpA g hs (by rw [noL] at n; exact n))
theorem Kt.dpA {K : PySem.W.Frag} {H H' : Hp} (g : Kt K H H') : ∀ {ds : List PyData} {vs : List V}, DpAll K H vs ds → noLA ds = true → DpAll K H' vs ds
  | _, _, .nil, _ => .nil
  | _, _, .cons h hs, n => by
    rw [noLA, Bool.and_eq_true] at n
    exact .cons (Kt.dp g h n.1) (Kt.dpA g hs n.2)
end
theorem noLA_map {α : Type} (g : α → PyData) (h : ∀ a, noL (g a) = true) : ∀ l : List α, noLA (l.map g) = true
  | [] => by rw [List.map_nil, noLA]
  | a :: r => by
    rw [List.map_cons, noLA, h a, noLA_map g h r]
    rfl
theorem noL_ur (r : Ur) : noL r.d = true := by
  unfold Ur.d hsD
  rw [noL, noLA, noLA, noLA, noL, noL, noLA_map _ (fun _ => by rw [noL])]
  rfl
theorem noL_us (u : List Ur) : noL (usD u) = true := by
  unfold usD
  rw [noL, noLA_map _ noL_ur]
theorem noL_kn (k : Kn) : noL k.d = true := by
  cases k <;> rw [Kn.d, noL]
theorem noL_de (e : De) : noL e.d = true := by
  unfold De.d
  rw [noL, noLA, noLA, noLA, noLA, noL_kn, noL, noL, noLA_map _ noL_kn]
  rfl
theorem noL_fc (f : Fc) : noL f.d = true := by
  unfold Fc.d
  rw [noL, noLA, noLA, noLA, noL, noL, noLA_map _ (fun _ => by rw [noL]), noLA_map _ noL_de]
  rfl
theorem kt_upd {K : PySem.W.Frag} {H : Hp} {l : Addr} {o o' : HO} (hl : H l = some o) (ht : ∀ ys, o ≠ .tup ys) (hf : ∀ q ys, o ≠ .frz q (.tup ys)) : Kt K H (upd H l o') := by
  intro a xs h
  rcases h with (h | ⟨q, h⟩) | h
  · refine .inl (.inl ?_)
    rw [upd_ne (by intro z; rw [z, hl] at h; cases h; exact ht _ rfl)]
    exact h
  · refine .inl (.inr ⟨q, ?_⟩)
    rw [upd_ne (by intro z; rw [z, hl] at h; cases h; exact hf _ _ rfl)]
    exact h
  · exact .inr h
theorem kt_lst {K : PySem.W.Frag} {H : Hp} {l : Addr} {xs : List V} {o' : HO} (hl : H l = some (.lst xs)) : Kt K H (upd H l o') := kt_upd hl (fun _ e => by cases e) (fun _ _ e => by cases e)
theorem gr_kt {K : PySem.W.Frag} {H H' : Hp} (g : Gr H H') : Kt K H H' := fun h => g.sqt h
theorem dpA_app {K : PySem.W.Frag} {H : Hp} : ∀ {xs ys : List V} {ds es : List PyData}, DpAll K H xs ds → DpAll K H ys es → DpAll K H (xs ++ ys) (ds ++ es)
  | [], _, _, _, h, h2 => by cases h; exact h2
  | _ :: _, _, _, _, h, h2 => by
    cases h with
    | cons a b => exact .cons a (dpA_app b h2)
theorem tYes_i {σ : L2.St} {H : Hp} {Q : Bool → Hp → Prop} (h : Q true H) : tYes σ H Q := h
end SfC
namespace SfC
open PySem PySem.Spec PyProof.Rows L2 SfG
/-! ### draws by a script: the state m, the rest of the cells r, the script a -/
/-- heaps in a turn: m and r are changed, all else grows -/
structure G2 (m r : Addr) (H H' : Hp) : Prop where
  keep : ∀ b o, b ≠ m → b ≠ r → H b = some o → (∀ ps, o ≠ .tbl ps) → H' b = some o
  tab : ∀ P, P ≠ m → P ≠ r → GxR.TabG H P → GxR.TabG H' P
  back : ∀ l, l ≠ m → l ≠ r → H' l = none → H l = none
theorem G2.refl (m r : Addr) (H : Hp) : G2 m r H H := ⟨fun _ _ _ _ h _ => h, fun _ _ _ h => h, fun _ _ _ h => h⟩
theorem G2.gr {m r : Addr} {H H' : Hp} (g : Gr H H') : G2 m r H H' := ⟨fun b o _ _ => g.keep b o, fun P _ _ => g.tab P, fun l _ _ => g.back l⟩
theorem G2.but {m r : Addr} {H H' : Hp} (g : ∀ b, b ≠ m → b ≠ r → H' b = H b) : G2 m r H H' := by
  refine ⟨fun b o n1 n2 h _ => (g b n1 n2).trans h, ?_, fun l n1 n2 h => (g l n1 n2).symm.trans h⟩
  rintro P n1 n2 ⟨ps, h1, h2⟩
  exact ⟨ps, (g P n1 n2).trans h1, h2⟩
theorem G2.trans {m r : Addr} {H H1 H2 : Hp} (a : G2 m r H H1) (b : G2 m r H1 H2) : G2 m r H H2 :=
  ⟨fun c o n1 n2 h t => b.keep c o n1 n2 (a.keep c o n1 n2 h t) t, fun P n1 n2 h => b.tab P n1 n2 (a.tab P n1 n2 h), fun l n1 n2 h => a.back l n1 n2 (b.back l n1 n2 h)⟩
theorem G2.lst {m r : Addr} {H H' : Hp} (g : G2 m r H H') {b : Addr} {xs : List V} (n1 : b ≠ m) (n2 : b ≠ r) (h : H b = some (.lst xs)) : H' b = some (.lst xs) := g.keep b _ n1 n2 h (fun _ z => by cases z)
/-- what was there ahead of both grows -/
theorem G2.out {m r : Addr} {H0 H H' : Hp} (g : Gr H0 H) (h1 : H0 m = none) (h2 : H0 r = none) (a : G2 m r H H') : Gr H0 H' := by
  refine ⟨?_, ?_, ?_⟩
  · intro b o e t
    exact a.keep b o (ne_of_none e h1) (ne_of_none e h2) (g.keep b o e t) t
  · intro P t
    have n1 : P ≠ m := by
      obtain ⟨ps, e, _⟩ := t
      exact ne_of_none e h1
    have n2 : P ≠ r := by
      obtain ⟨ps, e, _⟩ := t
      exact ne_of_none e h2
    exact a.tab P n1 n2 (g.tab P t)
  · intro l e
    by_cases z1 : l = m
    · rw [z1]
      exact h1
    · by_cases z2 : l = r
      · rw [z2]
        exact h2
      · exact g.back l (a.back l z1 z2 e)
theorem G2.upd_new {m r q : Addr} {H0 H : Hp} {o : HO} (g : G2 m r H0 H) (h : H0 q = none) : G2 m r H0 (upd H q o) := by
  refine ⟨?_, ?_, ?_⟩
  · intro b u n1 n2 e n
    rw [upd_ne (ne_of_none e h)]
    exact g.keep b u n1 n2 e n
  · intro P n1 n2 t
    have np : P ≠ q := by
      obtain ⟨ps, e, _⟩ := t
      exact ne_of_none e h
    obtain ⟨ps, e1, e2⟩ := g.tab P n1 n2 t
    exact ⟨ps, (upd_ne np).trans e1, e2⟩
  · intro l n1 n2 e
    by_cases z : l = q
    · rw [z]
      exact h
    · rw [upd_ne z] at e
      exact g.back l n1 n2 e
/-- where the script lies: in the heap, or in what stood there ahead of all -/
inductive Src where
  | here (a : Addr)
  | ahead (a : Addr)
def Src.ad : Src → Addr
  | .here a => a
  | .ahead a => a
def Src.off (q : Addr) : Src → Prop
  | .here a => q ≠ a
  | .ahead _ => True
def SqA (K : PySem.W.Frag) (H : Hp) (m r : Addr) (xs : List V) : Src → Prop
  | .here a => Rd H a (.lst xs) ∧ m ≠ a ∧ r ≠ a
  | .ahead a => ∃ (o : Obj) (its : Array Value) (n : Nat), K.lookup a = some o ∧ o.cls = .type "list" ∧ o.dict = none ∧ o.data = .seq its n ∧ its.size ≤ sizeLine ∧ Vals xs its.toList
theorem SqA.sql {K : PySem.W.Frag} {H : Hp} {m r : Addr} {xs : List V} : ∀ {a : Src}, SqA K H m r xs a → SqL K H a.ad xs
  | .here _, h => .inl h.1
  | .ahead _, h => .inr h
theorem SqA.keep {K : PySem.W.Frag} {H H' : Hp} {m r : Addr} {xs : List V} (g : ∀ b o, b ≠ m → b ≠ r → H b = some o → (∀ ps, o ≠ .tbl ps) → H' b = some o) : ∀ {a : Src}, SqA K H m r xs a → SqA K H' m r xs a
  | .here a, h => by
    obtain ⟨rd, n1, n2⟩ := h
    refine ⟨?_, n1, n2⟩
    rcases rd with h | ⟨o, h⟩
    · exact .inl (g a _ (Ne.symm n1) (Ne.symm n2) h (fun _ z => by cases z))
    · exact .inr ⟨o, g a _ (Ne.symm n1) (Ne.symm n2) h (fun _ z => by cases z)⟩
  | .ahead _, h => h
theorem SqA.upd {K : PySem.W.Frag} {H : Hp} {m r q : Addr} {xs : List V} {o' : HO} : ∀ {a : Src}, SqA K H m r xs a → a.off q → SqA K (upd H q o') m r xs a
  | .here a, h, n => by
    obtain ⟨rd, n1, n2⟩ := h
    refine ⟨?_, n1, n2⟩
    rcases rd with h | ⟨o, h⟩
    · exact .inl ((upd_ne (Ne.symm n)).trans h)
    · exact .inr ⟨o, (upd_ne (Ne.symm n)).trans h⟩
  | .ahead _, h, _ => h
theorem SqA.off {K : PySem.W.Frag} {H : Hp} {m r q : Addr} {xs : List V} (e : H q = none) : ∀ {a : Src}, SqA K H m r xs a → a.off q
  | .here a, h => by
    intro z
    rcases h.1 with h | ⟨o, h⟩
    · rw [← z, e] at h
      cases h
    · rw [← z, e] at h
      cases h
  | .ahead _, _ => trivial
theorem src_of {K : PySem.W.Frag} {H : Hp} {a : Addr} {xs : List V} (h : SqL K H a xs) : ∃ s : Src, s.ad = a ∧ ∀ H' m r, Gr H H' → H m = none → H r = none → SqA K H' m r xs s := by
  rcases h with h | h
  · refine ⟨.here a, rfl, fun H' m r g n1 n2 => ?_⟩
    have ne : ∀ q, H q = none → q ≠ a := fun q e z => by
      rcases h with h | ⟨o, h⟩
      · rw [← z, e] at h
        cases h
      · rw [← z, e] at h
        cases h
    refine ⟨?_, ne m n1, ne r n2⟩
    rcases h with h | ⟨o, h⟩
    · exact .inl (g.lst h)
    · exact .inr ⟨o, g.keep _ _ h (fun _ z => by cases z)⟩
  · exact ⟨.ahead a, rfl, fun _ _ _ _ _ _ => h⟩
abbrev kScript : Key := Sum.inr ("script" : Str)
abbrev kAt : Key := Sum.inr ("at" : Str)
abbrev kRest : Key := Sum.inr ("rest" : Str)
def kvD (a : Src) (r : Addr) (k : Int) : List (Key × V) := [(kScript, .ref a.ad), (kAt, .int k), (kRest, .ref r)]
/-- the state of draws -/
structure Dr (K : PySem.W.Frag) (H : Hp) (m r : Addr) (a : Src) (cs : List Int) (B : Int) : Prop where
  st : ∃ (k : Int) (ls : List Int), H m = some (.dK (kvD a r k)) ∧ H r = some (.lst (ls.map V.int)) ∧ ls.length = cs.length ∧ (∀ l ∈ ls, 0 ≤ l) ∧ 0 ≤ k ∧ k ≤ B
  sc : SqA K H m r (cs.map V.int) a
  len : cs.length ≤ 63
theorem Dr.mr {K : PySem.W.Frag} {H : Hp} {m r : Addr} {a : Src} {cs : List Int} {B : Int} (d : Dr K H m r a cs B) : m ≠ r := by
  obtain ⟨k, ls, h1, h2, _⟩ := d.st
  intro z
  rw [z, h2] at h1
  cases h1
theorem Dr.gr {K : PySem.W.Frag} {H H' : Hp} {m r : Addr} {a : Src} {cs : List Int} {B : Int} (d : Dr K H m r a cs B) (g : Gr H H') : Dr K H' m r a cs B := by
  obtain ⟨⟨k, ls, h1, h2, h3⟩, sc, len⟩ := d
  exact ⟨⟨k, ls, g.dic h1, g.lst h2, h3⟩, sc.keep fun b o _ _ => g.keep b o, len⟩
theorem Dr.mono {K : PySem.W.Frag} {H : Hp} {m r : Addr} {a : Src} {cs : List Int} {B B' : Int} (d : Dr K H m r a cs B) (h : B ≤ B') : Dr K H m r a cs B' := by
  obtain ⟨⟨k, ls, h1, h2, h3, h4, h5, h6⟩, sc, len⟩ := d
  exact ⟨⟨k, ls, h1, h2, h3, h4, h5, Int.le_trans h6 h⟩, sc, len⟩
theorem Dr.nm {K : PySem.W.Frag} {H : Hp} {m r q : Addr} {a : Src} {cs : List Int} {B : Int} (d : Dr K H m r a cs B) (h : H q = none) : q ≠ m ∧ q ≠ r := by
  obtain ⟨k, ls, h1, h2, _⟩ := d.st
  refine ⟨fun z => ?_, fun z => ?_⟩
  · rw [z, h1] at h
    cases h
  · rw [z, h2] at h
    cases h
theorem Dr.some {K : PySem.W.Frag} {H : Hp} {m r : Addr} {a : Src} {cs : List Int} {B : Int} (d : Dr K H m r a cs B) : H m ≠ none ∧ H r ≠ none := by
  obtain ⟨k, ls, h1, h2, _⟩ := d.st
  refine ⟨fun z => ?_, fun z => ?_⟩
  · rw [h1] at z
    cases z
  · rw [h2] at z
    cases z
/-- the state stays where another, later list is changed -/
theorem Dr.upd {K : PySem.W.Frag} {H : Hp} {m r q : Addr} {a : Src} {cs : List Int} {B : Int} {o : HO} (d : Dr K H m r a cs B) (n1 : q ≠ m) (n2 : q ≠ r) (n3 : a.off q) : Dr K (upd H q o) m r a cs B := by
  obtain ⟨⟨k, ls, h1, h2, h3⟩, sc, len⟩ := d
  exact ⟨⟨k, ls, (upd_ne (Ne.symm n1)).trans h1, (upd_ne (Ne.symm n2)).trans h2, h3⟩, sc.upd n3, len⟩
theorem Dr.off {K : PySem.W.Frag} {H : Hp} {m r q : Addr} {a : Src} {cs : List Int} {B : Int} (d : Dr K H m r a cs B) (h : H q = none) : a.off q := d.sc.off h
/-- tuples stay -/
theorem Dr.kt {K : PySem.W.Frag} {H H' : Hp} {m r : Addr} {a : Src} {cs : List Int} {B : Int} (d : Dr K H m r a cs B) (g : G2 m r H H') : Kt K H H' := by
  obtain ⟨k, ls, h1, h2, _⟩ := d.st
  intro b xs h
  rcases h with (h | ⟨o, h⟩) | h
  · refine .inl (.inl (g.keep b _ (fun z => ?_) (fun z => ?_) h (fun _ z => by cases z)))
    · rw [z, h1] at h
      cases h
    · rw [z, h2] at h
      cases h
  · refine .inl (.inr ⟨o, g.keep b _ (fun z => ?_) (fun z => ?_) h (fun _ z => by cases z)⟩)
    · rw [z, h1] at h
      cases h
    · rw [z, h2] at h
      cases h
  · exact .inr h
theorem dpA_ints {K : PySem.W.Frag} {H : Hp} : ∀ ls : List Int, DpAll K H (ls.map V.int) (ls.map PyData.int)
  | [] => .nil
  | a :: r => .cons (.int _) (dpA_ints r)
theorem eqv_nil {ls : List Int} : PyData.eqv (.list (ls.map .int)) (.list []) = decide (ls = []) := by
  cases ls with
  | nil => rfl
  | cons a r => rw [decide_eq_false (by simp)]; rfl
theorem mod_at {α : Type} {xs : List α} {k : Int} (h : xs ≠ []) : ∃ j v, k % ((xs.length : Nat) : Int) = (j : Nat) ∧ xs[j]? = some v := by
  have lp : 0 < xs.length := List.length_pos_iff.mpr h
  have h0 := Int.emod_nonneg k (show ((xs.length : Nat) : Int) ≠ 0 by omega)
  have h1 := Int.emod_lt_of_pos k (show (0 : Int) < ((xs.length : Nat) : Int) by omega)
  refine ⟨(k % ((xs.length : Nat) : Int)).toNat, xs[(k % ((xs.length : Nat) : Int)).toNat]'(by omega), by omega, List.getElem?_eq_getElem _⟩
abbrev nDrw : List Str := ["_law_m", "_law_many", "_law_k", "_law_cells", "_law_left", "_law_cell", "_law_number"]
theorem scDrw : FnScope nDrw ["_law_m", "_law_many"] (defScope sDrw) := ⟨rfl, rfl, rfl, by decide +kernel, rfl, by decide +kernel, by decide +kernel⟩
theorem scOf : FnScope ["_law_m", "_law_some"] ["_law_m", "_law_some"] (defScope sOf) := ⟨rfl, rfl, rfl, by decide +kernel, rfl, by decide +kernel, by decide +kernel⟩
theorem scStarted : FnScope ["_law_script", "_law_cell"] ["_law_script"] (defScope sStarted) := ⟨rfl, rfl, rfl, by decide +kernel, rfl, by decide +kernel, by decide +kernel⟩
section
variable {P : Program} {w : World} {K : PySem.W.Frag} {mg : Str → Option Value} {base : Heap}
def spDrw (K : PySem.W.Frag) : Sp := fun vs H Q _ => ∃ (m r : Addr) (a : Src) (cs : List Int) (n B : Int), vs = [.ref m, .int n] ∧ Dr K H m r a cs B ∧ B ≤ 1000000 ∧ 0 < n ∧ n ≤ 1000000 ∧
  ∀ H' d, G2 m r H H' → Dr K H' m r a cs (B + 1) → 0 ≤ d → d < n → Q (.int d) H'
set_option maxHeartbeats 2000000 in
theorem ok_drw {f : Addr} {fd : FuncData} {k : Nat} (F : Fun K "_law_draw" "_law_draw" sDrw f fd) (ml : mg "len" = none) : FnOk P w K mg base CX0 (k + 1) f fd ["_law_m", "_law_many"] (spDrw K) := by
  refine F.ok scDrw (fun vs H Q E h => ?_) (fun cdv A outer s H vs Q E hr h => ?_)
  · obtain ⟨m, r, a, cs, n, B, rfl, _⟩ := h
    rfl
  · obtain ⟨m, r, a, cs, n, B, rfl, d0, hB, n0, n1, q⟩ := h
    have nd := scDrw.nd
    refine' ⟨_, pss_cons ?s1 (pss_cons ?s2 (pss_cons ?s3 (pss_cons ?s4 (pss_cons ?s5 (pss_cons ?s6 (pss_cons ?s7 (pss_cons ?s8 (pss_one ?s9)))))))), ?rd⟩
    case s1 => exact ps_set (i := 2) nd rfl (.inl rfl) (pe_dget (hu_of hr) (pv 0) pe_str (fun _ _ => rfl))
    case s2 => exact ps_dput (hu_of hr) (pv 0) pe_str (pe_op op_add (pv 2) pe_int) rfl
    case s3 => exact ps_set (i := 3) nd rfl (.inl rfl) (pe_dget (hu_of hr) (pv 0) pe_str (fun _ _ => rfl))
    case s4 =>
      exact ps_set (i := 4) nd rfl (.inl rfl) (pe_ifExp (pt_cmpR (op_neD hr.units) (pe_dget (hu_of hr) (pv 0) pe_str (fun _ _ => rfl)) (pe_lst pa_nil) (nomark _))
        (pe_ix ix_list (pe_dget (hu_of hr) (pv 0) pe_str (fun _ _ => rfl)) (pe_op op_mod (pv 2) (pe_callB call_len_seq (by rfl) ml PySem.boot_len (pa_cons (pv 3) pa_nil))) (fun _ _ => rfl)) pe_int)
    case s5 =>
      exact ps_if (pt_cmpR op_gt (pv 4) pe_int (nomark _))
        (pss_cons (ps_asg (pe_op op_fdivW (pv 4) (pv 1)) (pg_sub (pe_dget (hu_of hr) (pv 0) pe_str (fun _ _ => rfl)) (pe_op op_mod (pv 2) (pe_callB call_len_seq (by rfl) ml PySem.boot_len (pa_cons (pv 3) pa_nil))) set_list))
        (pss_one (ps_ret (pe_op op_mod (pv 4) (pv 1))))) pss_nil
    case s6 =>
      exact ps_set (i := 5) nd rfl (.inl rfl) (pe_ifExp (pt_cmpR (op_neD hr.units) (pv 3) (pe_lst pa_nil) (nomark _))
        (pe_ix ix_list (pv 3) (pe_op op_mod (pv 2) (pe_callB call_len_seq (by rfl) ml PySem.boot_len (pa_cons (pv 3) pa_nil))) (fun _ _ => rfl)) pe_int)
    case s7 =>
      exact ps_set (i := 6) nd rfl (.inl rfl) (pe_op op_mod (pe_op op_add (pe_op op_add (pe_op op_mul (pe_op op_mod (pv 5) pe_int) pe_int) (pe_op op_mul (pe_op op_mul pe_int (pv 2)) (pv 2))) pe_int) pe_int)
    case s8 => exact ps_set (i := 6) nd rfl (.inl rfl) (pe_op op_mod (pe_op op_mul (pv 6) (pe_op op_add pe_int (pe_op op_mul pe_int (pv 2)))) pe_int)
    case s9 => exact ps_ret (pe_op op_mod (pe_op op_fdivW (pe_op op_mod (pe_op op_mul (pv 6) (pv 6)) pe_int) pe_int) (pv 1))
    case rd =>
    obtain ⟨⟨k, ls, hm, hr_, hll, hpos, k0, kB⟩, hsc, hlen⟩ := id d0
    have hmr := d0.mr
    have p64 : ((2 ^ 64) : Int) = 18446744073709551616 := by decide
    have m64 : (-(2 ^ 64) : Int) = -18446744073709551616 := by decide
    -- at
    refine ⟨_, rfl, m, _, rfl, DGet.k (k := kAt) hm, ?_⟩
    have hsz : (kvD a r k).length < sizeLine := by show 3 < sizeLine; decide
    refine ⟨_, rfl, k, 1, rfl, rfl, _, rfl, m, _, rfl, DPut.k (k := kAt) (v := V.int (k + 1)) hm hsz, ?_⟩
    have hm1 : upd H m (.dK (putK (kvD a r k) kAt (.int (k + 1)))) m = some (.dK (kvD a r (k + 1))) := upd_same
    have hr1 : upd H m (.dK (putK (kvD a r k) kAt (.int (k + 1)))) r = some (.lst (ls.map V.int)) := (upd_ne (Ne.symm hmr)).trans hr_
    have b1 : ∀ b, b ≠ m → b ≠ r → upd H m (.dK (putK (kvD a r k) kAt (.int (k + 1)))) b = H b := fun b n _ => upd_ne n
    generalize upd H m (.dK (putK (kvD a r k) kAt (.int (k + 1)))) = H1 at hm1 hr1 b1 ⊢
    have scA : SqA K H1 m r (cs.map V.int) a := hsc.keep fun b o n1 n2 h _ => (b1 b n1 n2).trans h
    have sc1 : SqL K H1 a.ad (cs.map V.int) := scA.sql
    have d1 : Dr K H1 m r a cs (B + 1) := ⟨⟨k + 1, ls, hm1, hr1, hll, hpos, by omega, by omega⟩, scA, hlen⟩
    -- cells
    refine ⟨_, rfl, m, _, rfl, DGet.k (k := kScript) hm1, ?_⟩
    have fin : ∀ (G : Hp) (d : Int), Gr H1 G → 0 ≤ d → d < n → Q (.int d) G := fun G d hG z0 z1 => q G d ((G2.but b1).trans (G2.gr hG)) (d1.gr hG) z0 z1
    have two : ∀ (ls : List Int) {p e : Addr} {G : Hp}, SqL K G p (ls.map V.int) → G e = none → ∃ d e', Dp K (upd G e (.lst [])) (.ref p) d ∧ Dp K (upd G e (.lst [])) (.ref e) e' ∧ SeqAt.shaped d = true ∧ SeqAt.shaped e' = true ∧ PyData.eqv d e' = decide (ls = []) := fun ls p e G h ne =>
      ⟨.list (ls.map .int), .list [], .lst ((Gr.new ne).seq h) (dpA_ints ls), .lst (.inl (.inl upd_same)) .nil, PySem.W.ke_shaped_ints ls, rfl, eqv_nil⟩
    by_cases hc : cs = []
    · have hl : ls = [] := by
        rw [hc] at hll
        exact List.length_eq_zero_iff.mp hll
      refine ⟨_, rfl, m, _, rfl, DGet.k (k := kRest) hm1, by show 0 ≤ sizeLine; decide, fun e ne => ?_⟩
      obtain ⟨dd, de, hd, he, sd, se, ev⟩ := two ls (.inl (.inl hr1)) ne
      refine ⟨dd, de, hd, he, sd, se, _, rfl, ?_⟩
      rw [ev, decide_eq_true hl]
      have hG : Gr H1 (upd H1 e (.lst [])) := Gr.new ne
      generalize upd H1 e (.lst []) = G at hG ⊢
      refine iteF ⟨_, rfl, 0, 0, rfl, rfl, _, rfl, ?_⟩
      rw [decide_eq_false (show ¬ (0 : Int) > 0 by decide)]
      refine iteF ⟨_, rfl, by show 0 ≤ sizeLine; decide, fun e2 ne2 => ?_⟩
      obtain ⟨dd, de, hd, he, sd, se, ev⟩ := two cs (hG.seq sc1) ne2
      refine ⟨dd, de, hd, he, sd, se, _, rfl, ?_⟩
      rw [ev, decide_eq_true hc]
      replace hG := hG.trans (Gr.new (o := .lst []) ne2)
      generalize upd G e2 (.lst []) = G2 at hG ⊢
      refine iteF ?_
      -- the number
      refine ⟨_, rfl, 0, 2147483629, rfl, rfl, (by show (0 : Int) < 2147483629; decide), _, 48271, rfl, rfl, .inr ⟨by decide, by decide⟩, _, rfl, 69621, k, rfl, rfl, .inl ⟨by decide, by decide⟩, _, rfl, _, k, rfl, rfl, .inr ⟨by rw [m64]; omega, by rw [p64]; omega⟩, _, _, rfl, rfl, _, 104729, rfl, rfl, _, 2147483647, rfl, rfl, (by show (0 : Int) < 2147483647; decide), ?_⟩
      generalize hx1 : (0 % 2147483629 * 48271 + 69621 * k * k + 104729) % 2147483647 = x1
      have x10 : 0 ≤ x1 := by rw [← hx1]; exact Int.emod_nonneg _ (by decide)
      have x11 : x1 < 2147483647 := by rw [← hx1]; exact Int.emod_lt_of_pos _ (by decide)
      clear hx1
      refine ⟨_, rfl, _, rfl, 2, k, rfl, rfl, .inl ⟨by decide, by decide⟩, 16807, _, rfl, rfl, _, _, rfl, rfl, .inl ⟨by rw [m64]; omega, by rw [p64]; omega⟩, _, 2147483629, rfl, rfl, (by show (0 : Int) < 2147483629; decide), ?_⟩
      generalize hx2 : x1 * (16807 + 2 * k) % 2147483629 = x2
      have x20 : 0 ≤ x2 := by rw [← hx2]; exact Int.emod_nonneg _ (by decide)
      have x21 : x2 < 2147483629 := by rw [← hx2]; exact Int.emod_lt_of_pos _ (by decide)
      clear hx2
      refine ⟨_, rfl, _, rfl, _, _, rfl, rfl, .inl ⟨by rw [m64]; omega, by rw [p64]; omega⟩, _, 1000000007, rfl, rfl, (by show (0 : Int) < 1000000007; decide), _, 7, rfl, rfl, wide_div (b := 10) (by decide) (by decide) (by decide) (by decide), _, rfl, _, n, rfl, rfl, n0, ?_⟩
      exact fin _ _ hG (Int.emod_nonneg _ (by omega)) (Int.emod_lt_of_pos _ n0)
    · have hl : ls ≠ [] := fun z => by
        rw [z] at hll
        exact hc (List.length_eq_zero_iff.mp hll.symm)
      have lcn : ((cs.map V.int).length) = ls.length := by rw [List.length_map, hll]
      refine ⟨_, rfl, m, _, rfl, DGet.k (k := kRest) hm1, by show 0 ≤ sizeLine; decide, fun e ne => ?_⟩
      obtain ⟨dd, de, hd, he, sd, se, ev⟩ := two ls (.inl (.inl hr1)) ne
      refine ⟨dd, de, hd, he, sd, se, _, rfl, ?_⟩
      rw [ev, decide_eq_false hl]
      have hG : Gr H1 (upd H1 e (.lst [])) := Gr.new ne
      generalize upd H1 e (.lst []) = G at hG ⊢
      obtain ⟨j, l, hj, hv⟩ := mod_at (k := k) hl
      obtain ⟨j2, c, hj2, hv2⟩ := mod_at (k := k) hc
      have hvl : (ls.map V.int)[j]? = some (.int l) := by rw [List.getElem?_map, hv]; rfl
      have hvc : (cs.map V.int)[j2]? = some (.int c) := by rw [List.getElem?_map, hv2]; rfl
      have l0 := hpos l (List.mem_of_getElem? hv)
      have lp : (0 : Int) < ((cs.length : Nat) : Int) := by
        have := List.length_pos_iff.mpr hc
        omega
      refine iteT ⟨_, rfl, m, _, rfl, DGet.k (k := kRest) (hG.dic hm1), _, rfl, _, rfl, a.ad, _, rfl, .inl (hG.seq sc1), k, _, rfl, rfl, ?_, ?_⟩
      · rw [List.length_map]
        exact lp
      refine ⟨r, _, (j : Nat), _, rfl, by show V.int (k % (((cs.map V.int).length : Nat) : Int)) = _; rw [lcn, hj], .inl (.inl (hG.lst hr1)), atI_nat hvl, ?_⟩
      refine ⟨_, rfl, l, 0, rfl, rfl, _, rfl, ?_⟩
      by_cases hp : l > 0
      · rw [decide_eq_true hp]
        refine iteT ⟨_, rfl, _, rfl, l, n, rfl, rfl, wide_div (b := 40) n0 ?_ (by decide) (by decide), ?_⟩
        · have : (2 : Nat) ^ 40 = 1099511627776 := by decide
          rw [this]
          omega
        refine ⟨_, rfl, m, _, rfl, DGet.k (k := kRest) (hG.dic hm1), _, rfl, _, rfl, a.ad, _, rfl, .inl (hG.seq sc1), k, _, rfl, rfl, ?_, ?_⟩
        · rw [List.length_map]
          exact lp
        have lj := lt_of_at hv
        refine ⟨r, _, (j : Nat), j, rfl, by show V.int (k % (((cs.map V.int).length : Nat) : Int)) = _; rw [lcn, hj], hG.lst hr1, ?_, ?_⟩
        · unfold ixN
          rw [if_pos (by omega), List.length_map, if_pos (by omega)]
          rfl
        refine ⟨_, rfl, _, rfl, l, n, rfl, rfl, n0, ?_⟩
        have es : (ls.map V.int).set j (.int (l / n)) = (ls.set j (l / n)).map V.int := (List.map_set ..).symm
        rw [es]
        refine q _ _ ((G2.but b1).trans ((G2.gr hG).trans (G2.but fun b _ n2 => upd_ne n2))) ⟨⟨k + 1, ls.set j (l / n), ?_, upd_same, ?_, ?_, by omega, by omega⟩, scA.keep (fun b o n1 n2 h t => (upd_ne n2).trans (hG.keep b o h t)), hlen⟩ (Int.emod_nonneg _ (by omega)) (Int.emod_lt_of_pos _ n0)
        · exact (upd_ne hmr).trans (hG.dic hm1)
        · rw [List.length_set]
          exact hll
        · intro y hy
          rcases List.mem_or_eq_of_mem_set hy with h | h
          · exact hpos y h
          · rw [h]
            exact Int.ediv_nonneg l0 (by omega)
      · rw [decide_eq_false hp]
        refine iteF ⟨_, rfl, by show 0 ≤ sizeLine; decide, fun e2 ne2 => ?_⟩
        obtain ⟨dd, de, hd, he, sd, se, ev⟩ := two cs (hG.seq sc1) ne2
        refine ⟨dd, de, hd, he, sd, se, _, rfl, ?_⟩
        rw [ev, decide_eq_false hc]
        replace hG := hG.trans (Gr.new (o := .lst []) ne2)
        generalize upd G e2 (.lst []) = G2 at hG ⊢
        refine iteT ⟨_, rfl, _, rfl, _, rfl, a.ad, _, rfl, .inl (hG.seq sc1), k, _, rfl, rfl, ?_, ?_⟩
        · rw [List.length_map]
          exact lp
        refine ⟨a.ad, _, (j2 : Nat), _, rfl, by show V.int (k % (((cs.map V.int).length : Nat) : Int)) = _; rw [List.length_map, hj2], hG.seq sc1, atI_nat hvc, ?_⟩
        -- the number
        refine ⟨_, rfl, c, 2147483629, rfl, rfl, (by show (0 : Int) < 2147483629; decide), _, 48271, rfl, rfl, .inr ⟨by decide, by decide⟩, _, rfl, 69621, k, rfl, rfl, .inl ⟨by decide, by decide⟩, _, rfl, _, k, rfl, rfl, .inr ⟨by rw [m64]; omega, by rw [p64]; omega⟩, _, _, rfl, rfl, _, 104729, rfl, rfl, _, 2147483647, rfl, rfl, (by show (0 : Int) < 2147483647; decide), ?_⟩
        generalize hx1 : (c % 2147483629 * 48271 + 69621 * k * k + 104729) % 2147483647 = x1
        have x10 : 0 ≤ x1 := by rw [← hx1]; exact Int.emod_nonneg _ (by decide)
        have x11 : x1 < 2147483647 := by rw [← hx1]; exact Int.emod_lt_of_pos _ (by decide)
        clear hx1
        refine ⟨_, rfl, _, rfl, 2, k, rfl, rfl, .inl ⟨by decide, by decide⟩, 16807, _, rfl, rfl, _, _, rfl, rfl, .inl ⟨by rw [m64]; omega, by rw [p64]; omega⟩, _, 2147483629, rfl, rfl, (by show (0 : Int) < 2147483629; decide), ?_⟩
        generalize hx2 : x1 * (16807 + 2 * k) % 2147483629 = x2
        have x20 : 0 ≤ x2 := by rw [← hx2]; exact Int.emod_nonneg _ (by decide)
        have x21 : x2 < 2147483629 := by rw [← hx2]; exact Int.emod_lt_of_pos _ (by decide)
        clear hx2
        refine ⟨_, rfl, _, rfl, _, _, rfl, rfl, .inl ⟨by rw [m64]; omega, by rw [p64]; omega⟩, _, 1000000007, rfl, rfl, (by show (0 : Int) < 1000000007; decide), _, 7, rfl, rfl, wide_div (b := 10) (by decide) (by decide) (by decide) (by decide), _, rfl, _, n, rfl, rfl, n0, ?_⟩
        exact fin _ _ hG (Int.emod_nonneg _ (by omega)) (Int.emod_lt_of_pos _ n0)
theorem G2.sql {m r : Addr} {H H' : Hp} (g : G2 m r H H') {b : Addr} {xs : List V} (n1 : b ≠ m) (n2 : b ≠ r) (h : SqL K H b xs) : SqL K H' b xs := by
  rcases h with (h | ⟨o, h⟩) | h
  · exact .inl (.inl (g.lst n1 n2 h))
  · exact .inl (.inr ⟨o, g.keep _ _ n1 n2 h (fun _ z => by cases z)⟩)
  · exact .inr h
/-- one of a list, or of a tuple -/
def spOf (K : PySem.W.Frag) : Sp := fun vs H Q _ => ∃ (m r l : Addr) (a : Src) (cs : List Int) (xs : List V) (B : Int), vs = [.ref m, .ref l] ∧ Dr K H m r a cs B ∧ B ≤ 1000000 ∧ ((SqL K H l xs ∧ l ≠ m ∧ l ≠ r) ∨ SqT K H l xs) ∧ xs ≠ [] ∧ xs.length ≤ 1000 ∧
  ∀ (H' : Hp) (i : Nat) (x : V), G2 m r H H' → Dr K H' m r a cs (B + 1) → xs[i]? = some x → Q x H'
theorem ok_of {f fD : Addr} {fd dD : FuncData} {k : Nat} (F : Fun K "_law_of" "_law_of" sOf f fd) (HD : Has P w K mg base k "_law_draw" ["_law_m", "_law_many"] (spDrw K) fD dD) (ml : mg "len" = none) : FnOk P w K mg base CX0 (k + 1) f fd ["_law_m", "_law_some"] (spOf K) := by
  refine F.ok scOf (fun vs H Q E h => ?_) (fun cdv A outer s H vs Q E hr h => ?_)
  · obtain ⟨m, r, l, a, cs, xs, B, rfl, _⟩ := h
    rfl
  · obtain ⟨m, r, l, a, cs, xs, B, rfl, d, hB, hl, hne, hx, q⟩ := h
    have lp := List.length_pos_iff.mpr hne
    have at_ : ∀ d : Int, 0 ≤ d → d < ((xs.length : Nat) : Int) → ∃ (j : Nat) (v : V), d = (j : Nat) ∧ xs[j]? = some v := fun d h0 h1 => ⟨d.toNat, xs[d.toNat]'(by omega), by omega, List.getElem?_eq_getElem _⟩
    rcases hl with ⟨hl, n1, n2⟩ | hl
    · refine ⟨_, pss_one (ps_ret (pe_ix ix_list (pv 1) (hcall HD hr (pa_cons (pv 0) (pa_cons (pe_callB call_len_seq (by rfl) ml PySem.boot_len (pa_cons (pv 1) pa_nil)) pa_nil))) (fun _ _ => rfl))), ?_⟩
      refine ⟨_, rfl, _, rfl, _, rfl, l, xs, rfl, .inl hl, m, r, a, cs, _, B, rfl, d, hB, by omega, by omega, fun H' i g d' i0 i1 => ?_⟩
      obtain ⟨j, v, rfl, hv⟩ := at_ i i0 i1
      exact ⟨l, xs, _, v, rfl, rfl, g.sql n1 n2 hl, atI_nat hv, q H' j v g d' hv⟩
    · refine ⟨_, pss_one (ps_ret (pe_ix ix_tup (pv 1) (hcall HD hr (pa_cons (pv 0) (pa_cons (pe_callB call_len_seq (by rfl) ml PySem.boot_len (pa_cons (pv 1) pa_nil)) pa_nil))) (fun _ _ => rfl))), ?_⟩
      refine ⟨_, rfl, _, rfl, _, rfl, l, xs, rfl, .inr hl, m, r, a, cs, _, B, rfl, d, hB, by omega, by omega, fun H' i g d' i0 i1 => ?_⟩
      obtain ⟨j, v, rfl, hv⟩ := at_ i i0 i1
      exact ⟨l, xs, _, v, rfl, rfl, d.kt g hl, atI_nat hv, q H' j v g d' hv⟩
def spStarted (K : PySem.W.Frag) : Sp := fun vs H Q _ => ∃ (a : Addr) (cs : List Int), vs = [.ref a] ∧ SqL K H a (cs.map V.int) ∧ cs.length ≤ 63 ∧ ∀ H' m r s, Gr H H' → H m = none → H r = none → Dr K H' m r s cs 0 → Q (.ref m) H'
set_option maxHeartbeats 1000000 in
theorem ok_started {f : Addr} {fd : FuncData} {k : Nat} (F : Fun K "_law_started" "_law_started" sStarted f fd) : FnOk P w K mg base CX0 (k + 1) f fd ["_law_script"] (spStarted K) := by
  refine F.ok scStarted (fun vs H Q E h => ?_) (fun cdv A outer s H vs Q E hr h => ?_)
  · obtain ⟨a, cs, rfl, _⟩ := h
    rfl
  · obtain ⟨a, cs, rfl, ha, hl, q⟩ := h
    have nd := scStarted.nd
    refine' ⟨_, pss_one ?s1, ?rd⟩
    case s1 =>
      exact ps_ret (pe_disp (pps_cons pe_str (pv 0) (pps_cons pe_str pe_int (pps_cons pe_str (pe_lc (own := [("_law_cell", 1)]) (g := gName 1) rfl nd (pi_list (pv 0)) (blkOk_by (own := [("_law_cell", 1)]) (N := ["_law_script", "_law_cell"]) (sc := defScope sStarted) (by decide +kernel))
        (fun _ _ _ _ _ => pg_name (i := 1) nd rfl (.inl rfl)) (fun _ _ _ _ _ => pts_nil) (fun _ _ _ _ _ => pe_ifExp (pt_cmpR op_ge (pv 1) (pe_op op_pow pe_int pe_int) (nomark _)) (pv 1) pe_int)) pps_nil))) (by rfl) (by rfl) (fun z => by cases z) (by decide))
    case rd =>
    intro m nm
    have g0 : Gr H (upd H m (.dK [])) := Gr.new nm
    have e0 : upd H m (.dK []) m = some (.dK []) := upd_same
    refine ⟨_, rfl, _, rfl, a, rfl, ⟨_, g0.seq ha⟩, fun D nD => ?_⟩
    have nD0 : H D = none := g0.back D nD
    generalize upd H m (.dK []) = H0 at g0 e0 nD ⊢
    have nmD : m ≠ D := ne_of_none e0 nD
    refine lc_it (walk_list (xs := cs.map V.int)) (fun i H2 => H2 D = some (.lst (((cs.take i).map fun c => if c ≥ 10 ^ 18 then c else 0).map V.int)) ∧ Gr H0 H2) ⟨upd_same, Gr.new nD⟩ ?c0 ?c1 ?c2
    case c0 =>
      rintro i H2 hi ⟨_, g2⟩
      exact (g0.trans g2).seq ha
    case c1 =>
      rintro i y H2' H2 hi ⟨e2, g2⟩ ⟨rfl, hy⟩
      rw [List.getElem?_map] at hy
      obtain ⟨c, hc, rfl⟩ := Option.map_eq_some_iff.mp hy
      refine ⟨rfl, tYes_i ?_⟩
      have fin : ∀ v : Int, v = (if c ≥ 10 ^ 18 then c else 0) → ∃ acc, H2 D = some (.lst acc) ∧ acc.length < sizeLine ∧ (upd H2 D (.lst (acc ++ [.int v])) D = some (.lst (((cs.take (i + 1)).map fun c => if c ≥ 10 ^ 18 then c else 0).map V.int)) ∧ Gr H0 (upd H2 D (.lst (acc ++ [.int v])))) := by
        rintro v rfl
        refine ⟨_, e2, ?_, upd_same.trans ?_, g2.upd_new nD⟩
        · rw [List.length_map, List.length_map, List.length_take]
          exact small1000 (by omega)
        · rw [List.take_add_one, hc, List.map_append, List.map_append]
          rfl
      refine iteT ⟨_, rfl, 10, 18, rfl, rfl, ⟨by decide, by decide, by decide⟩, _, _, rfl, rfl, _, rfl, ite2 (fun e => ?_) (fun e => ?_)⟩
      · have e' : c ≥ 10 ^ 18 := of_decide_eq_true e
        exact ⟨_, rfl, fin c (by rw [if_pos e'])⟩
      · have e' : ¬ c ≥ 10 ^ 18 := fun z => e (decide_eq_true z)
        exact fin 0 (by rw [if_neg e'])
    case c2 =>
    rintro H2 ⟨e2, g2⟩
    rw [List.length_map, List.take_length] at e2
    have em := g2.dic e0
    obtain ⟨s, rfl, hs⟩ := src_of ha
    refine ⟨em, kvD s D 0, rfl, by show 3 ≤ 15; decide, ?_⟩
    refine q _ m D s ((g0.trans g2).upd_new nm) nm nD0 ⟨⟨0, _, upd_same.trans rfl, (upd_ne (Ne.symm nmD)).trans e2, ?_, ?_, by decide, by decide⟩, hs _ m D ((g0.trans g2).upd_new nm) nm nD0, hl⟩
    · rw [List.length_map]
    · intro l hl
      obtain ⟨c, _, rfl⟩ := List.mem_map.mp hl
      by_cases e' : c ≥ 10 ^ 18
      · rw [if_pos e']
        have : (0 : Int) ≤ 10 ^ 18 := by decide
        omega
      · rw [if_neg e']
        exact Int.le_refl 0
end
end SfC
namespace SfC
open PySem PySem.Spec PyProof.Rows L2 SfG
/-! ### a text some times -/
def repS (z : Str) (n : Nat) : Str := ⟨(List.replicate n z.cps).foldl (· ++ ·) #[]⟩
theorem foldl_len : ∀ (n : Nat) (x acc : Array Nat), ((List.replicate n x).foldl (· ++ ·) acc).size = acc.size + n * x.size
  | 0, x, acc => by simp
  | n + 1, x, acc => by
    rw [List.replicate_succ, List.foldl_cons, foldl_len n x, Array.size_append, Nat.succ_mul]
    omega
theorem rep_len (z : Str) (n : Nat) : (repS z n).length = n * z.length := by
  show ((List.replicate n z.cps).foldl (· ++ ·) #[]).size = n * z.cps.size
  rw [foldl_len]
  simp
theorem rep_one (z : Str) : repS z 1 = z := by
  unfold repS
  simp
theorem op_mulZ {X : Cx} : OpR X (binaryOp .Mult) (fun x y H Q => ∃ (z : Str) (n : Nat), x = .str z ∧ y = .int (n : Int) ∧ 1 ≤ n ∧ z.length * n ≤ 1000000 ∧ z.length ≠ 0 ∧ Q (.str (repS z n)) H) := by
  intro pins s σ H x y v u Q I rx ry h
  obtain ⟨z, n, rfl, rfl, hn, hl, h0, q⟩ := h
  obtain ⟨t, rfl⟩ := rx
  obtain ⟨t', rfl⟩ := ry
  have e63 : (2 : Int) ^ 63 = 9223372036854775808 := by decide
  have hnn : n ≤ 1000000 := by
    refine Nat.le_trans ?_ hl
    exact Nat.le_mul_of_pos_left n (Nat.pos_of_ne_zero h0)
  refine PySem.P.mul_str ?_ ?_ ?_ ?_
  · rw [e63]
    simp
    omega
  · intro _ _ h
    have e : (z.length : Int) ≤ (2 ^ 63 - 1) / (n : Int) := by
      refine Int.le_ediv_of_mul_le (by omega) ?_
      have hl' : ((z.length * n : Nat) : Int) ≤ 1000000 := by omega
      rw [Int.natCast_mul] at hl'
      rw [e63]
      omega
    omega
  · intro _ _
    rw [Int.toNat_natCast]
    unfold Builtin.Str.tooLong
    refine decide_eq_false ?_
    rw [sizeLine_eq]
    omega
  · have c1 : ¬ (n : Int) < 1 := by omega
    rw [if_neg c1]
    by_cases e1 : n = 1
    · subst e1
      have c2 : (((1 : Nat) : Int) == 1 || z.length == 0) = true := by simp
      rw [if_pos c2]
      rw [rep_one] at q
      exact ⟨.str z, H, I, ⟨_, rfl⟩, q⟩
    · have c2 : ¬ (((n : Int) == 1 || z.length == 0) = true) := by
        simp
        omega
      rw [if_neg c2]
      refine ⟨?_, .str (repS z n), H, I.tok _, ⟨_, rfl⟩, q⟩
      have hs := rep_len z n
      have hz : (repS z n).length ≤ sizeLine := by
        rw [hs, sizeLine_eq, Nat.mul_comm]
        omega
      exact hz
end SfC
namespace SfC
open PySem PySem.Spec PyProof.Rows L2 SfG
/-! ### names that are drawn -/
theorem op_mul0 {X : Cx} : OpR X (binaryOp .Mult) (fun x y H Q => ∃ (z : Str) (n : Nat), x = .str z ∧ y = .int (n : Int) ∧ n ≤ 100 ∧ z.length ≤ 100 ∧ z.length ≠ 0 ∧ Q (.str (repS z n)) H) := by
  intro pins s σ H x y v u Q I rx ry h
  obtain ⟨z, n, rfl, rfl, hn, hl, h0, q⟩ := h
  by_cases c : n = 0
  · subst c
    obtain ⟨t, rfl⟩ := rx
    obtain ⟨t', rfl⟩ := ry
    exact PySem.P.mul_str_none (by decide) (by decide) ⟨.str (repS z 0), H, I.tok _, ⟨_, rfl⟩, q⟩
  · have : z.length * n ≤ 100 * 100 := Nat.mul_le_mul hl hn
    exact op_mulZ pins s σ H _ _ v u Q I rx ry ⟨z, n, rfl, rfl, by omega, by omega, h0, q⟩
def poolA : List Str := ["a", "aa", "ab", "b", "give", "hidden", "if", "in", "refuse", "same", "shape", "when"]
def poolB : List Str := ["z", "zz", "zzzzzzzz"]
def poolL : List Str := poolA ++ poolB
theorem pool_ok : ∀ z ∈ poolL, isN z = true := by decide +kernel
theorem pool_nd : poolL.Nodup := by decide +kernel
def nmZ (i j n : Nat) : Str := (⟨#[97 + i]⟩ : Str) ++ repS ⟨#[97 + j]⟩ n
def hdZ (z : Str) : Nat := z.cps.toList.headD 0
theorem nm_all : ∀ i, i < 26 → ∀ j, j < 26 → ∀ n ∈ [0, 1, 7], isN (nmZ i j n) = true ∧ hdZ (nmZ i j n) = 97 + i := by decide +kernel
theorem letter_is : ∀ n, n < 26 → letters.cps[n]? = some (97 + n) := by decide +kernel
def hds (f s i : Nat) : List Nat := (List.range i).map fun k => 97 + (f + s * k) % 26
theorem hds_nd8 : ∀ f, f < 26 → ∀ s ∈ [1, 5, 7, 25], (hds f s 8).Nodup := by decide +kernel
theorem hds_nd {f s i : Nat} (hf : f < 26) (hs : s ∈ [1, 5, 7, 25]) (hi : i ≤ 8) : (hds f s i).Nodup :=
  ((List.range_sublist.mpr hi).map _).nodup (hds_nd8 f hf s hs)
theorem hds_succ (f s i : Nat) : hds f s (i + 1) = hds f s i ++ [97 + (f + s * i) % 26] := by
  unfold hds
  rw [List.range_succ, List.map_append]
  rfl
theorem erase_map {α β : Type} (g : α → β) : ∀ (l : List α) (i : Nat), (l.map g).eraseIdx i = (l.eraseIdx i).map g
  | [], _ => rfl
  | _ :: _, 0 => rfl
  | a :: r, i + 1 => by
    rw [List.map_cons, List.eraseIdx_cons_succ, List.eraseIdx_cons_succ, List.map_cons, erase_map g r i]
theorem erase_perm {α : Type} : ∀ (l : List α) (i : Nat) (h : i < l.length), (l[i] :: l.eraseIdx i).Perm l
  | [], _, h => absurd h (by simp)
  | a :: r, 0, _ => List.Perm.refl _
  | a :: r, i + 1, h => by
    rw [List.eraseIdx_cons_succ]
    exact (List.Perm.swap ..).trans ((erase_perm r i (by simpa using h)).cons a)
theorem nodup_map {α β : Type} (g : α → β) {l : List α} (h : (l.map g).Nodup) : l.Nodup := (List.pairwise_map.mp h).imp fun ne e => ne (congrArg g e)
theorem hi63 (z : Int) (h : z < 1000000) : z < 2 ^ 63 := by
  have : ((2 ^ 63) : Int) = 9223372036854775808 := by decide
  omega
theorem lo63 (z : Int) (h : 0 ≤ z) : -(2 ^ 63) ≤ z := by
  have : (-(2 ^ 63) : Int) = -9223372036854775808 := by decide
  omega
def rLen (K : PySem.W.Frag) : List V → Hp → VK → Prop := fun xs H Q => ∃ p ys, xs = [.ref p] ∧ (SqL K H p ys ∨ SqT K H p ys) ∧ Q (.int ys.length) H
abbrev nLNames : List Str := ["_law_m", "_law_many", "_law_letters", "_law_pool", "_law_k", "_law_first", "_law_step", "_law_found", "_law_more"]
theorem scLNames : FnScope nLNames ["_law_m", "_law_many"] (defScope sLNames) := ⟨rfl, rfl, rfl, by decide +kernel, rfl, by decide +kernel, by decide +kernel⟩
section
variable {P : Program} {w : World} {K : PySem.W.Frag} {mg : Str → Option Value} {base : Heap}
def spLNames (K : PySem.W.Frag) : Sp := fun vs H Q _ => ∃ (m r : Addr) (a : Src) (cs : List Int) (n : Nat) (B : Int), vs = [.ref m, .int (n : Nat)] ∧ Dr K H m r a cs B ∧ B ≤ 900000 ∧ 1 ≤ n ∧ n ≤ 8 ∧
  ∀ H' l (ys : List Str), G2 m r H H' → Dr K H' m r a cs (B + 20) → H l = none → H' l = some (.lst (ys.map V.str)) → ys.Pairwise lt → (∀ z ∈ ys, isN z = true) → ys.length = n → Q (.ref l) H'
set_option maxHeartbeats 2000000 in
theorem ok_lnames {f fD fO : Addr} {fd dD dO : FuncData} {k : Nat} (F : Fun K "_law_names" "_law_names" sLNames f fd) (HD : Has P w K mg base k "_law_draw" ["_law_m", "_law_many"] (spDrw K) fD dD) (HO_ : Has P w K mg base k "_law_of" ["_law_m", "_law_some"] (spOf K) fO dO)
    (ml : mg "len" = none) (mr : mg "range" = none) (ms : mg "sorted" = none) : FnOk P w K mg base CX0 (k + 1) f fd ["_law_m", "_law_many"] (spLNames K) := by
  refine F.ok scLNames (fun vs H Q E h => ?_) (fun cdv A outer s H vs Q E hr h => ?_)
  · obtain ⟨m, r, a, cs, n, B, rfl, _⟩ := h
    rfl
  · obtain ⟨m, r, a, cs, n, B, rfl, d0, hB, n1, n8, q⟩ := h
    have nd := scLNames.nd
    refine' ⟨_, pss_cons ?s1 (pss_cons ?s2 (pss_cons ?s3 (pss_cons ?s4 (pss_cons ?s5 (pss_one ?s6))))), ?rd⟩
    case s1 => exact ps_set (i := 2) nd rfl (.inl rfl) pe_str
    case s2 =>
      refine' ps_if (pt_cmpR op_eq (hcall HD hr (pa_cons (pv 0) (pa_cons pe_int pa_nil))) pe_int (nomark _)) (pss_cons ?b1 (pss_cons ?b2 (pss_one ?b3))) pss_nil
      case b1 => exact ps_set (i := 3) nd rfl (.inr rfl) (pe_lst (pa_cons pe_str (pa_cons pe_str (pa_cons pe_str (pa_cons pe_str (pa_cons pe_str (pa_cons pe_str (pa_cons pe_str (pa_cons pe_str (pa_cons pe_str (pa_cons pe_str (pa_cons pe_str (pa_cons pe_str pa_nil)))))))))))))
      case b2 => exact ps_set (i := 3) nd rfl (.inr rfl) (pe_op op_cat (pv 3) (pe_lst (pa_cons pe_str (pa_cons pe_str (pa_cons pe_str pa_nil)))))
      case b3 =>
        exact ps_ret (pe_callB cr_sortedS (by rfl) ms (by decide +kernel) (pa_cons (pe_lc (own := [("_law_k", 4)]) (g := gName 4) rfl nd (pi_range1 (by rfl) mr (pa_cons (pv 1) pa_nil)) (blkOk_by (own := [("_law_k", 4)]) (N := nLNames) (sc := defScope sLNames) (by decide +kernel))
          (fun _ _ _ _ _ => pg_name (i := 4) nd rfl (.inl rfl)) (fun _ _ _ _ _ => pts_nil)
          (fun _ _ _ _ _ => (pe_bm PySem.F.plainAttrs_list PySem.F.slot_list_pop PySem.F.type_list_pop mt_popAt (pv 3) (pa_cons (hcall HD hr (pa_cons (pv 0) (pa_cons (pe_callB call_len_seq (by rfl) ml PySem.boot_len (pa_cons (pv 3) pa_nil)) pa_nil))) pa_nil) :
            PE _ _ (tBM K "list" rPopAt (tVar 3) (tCons (tCall (spDrw K) [] E0 (tCons (tVar 0) (tCons (tCB (rLen K) (tCons (tVar 3) tNil)) tNil))) tNil))))) pa_nil))
    case s3 =>
      exact ps_par (i := 5) (j := 6) rfl nd rfl rfl (by decide) rfl rfl (pa_cons (hcall HD hr (pa_cons (pv 0) (pa_cons pe_int pa_nil))) (pa_cons (hcall HO_ hr (pa_cons (pv 0) (pa_cons (pe_lst (pa_cons pe_int (pa_cons pe_int (pa_cons pe_int (pa_cons pe_int pa_nil))))) pa_nil))) pa_nil)) (by rfl)
    case s4 => exact ps_set (i := 7) nd rfl (.inl rfl) (pe_lst pa_nil)
    case s5 =>
      refine' ps_for PassesOwn.never rfl (pi_range1 (by rfl) mr (pa_cons (pv 1) pa_nil)) (pg_name (i := 4) nd rfl (.inl rfl)) (pss_cons ?c1 (pss_one ?c2))
      case c1 =>
        exact ps_set (i := 8) nd rfl (.inl rfl) (pe_op op_mul0 (pe_item_str (pv 2) (hcall HD hr (pa_cons (pv 0) (pa_cons pe_int pa_nil))) (fun _ _ => rfl)) (hcall HO_ hr (pa_cons (pv 0) (pa_cons (pe_lst (pa_cons pe_int (pa_cons pe_int (pa_cons pe_int (pa_cons pe_int pa_nil))))) pa_nil))))
      case c2 =>
        exact ps_expr (pe_bm PySem.F.plainAttrs_list PySem.F.slot_list_append PySem.F.type_list_append mt_append (pv 7) (pa_cons (pe_op op_add_str (pe_item_str (pv 2) (pe_op op_mod (pe_op op_add (pv 5) (pe_op op_mul (pv 6) (pv 4))) pe_int) (fun _ _ => rfl)) (pv 8)) pa_nil))
    case s6 => exact ps_ret (pe_callB cr_sortedS (by rfl) ms (by decide +kernel) (pa_cons (pv 7) pa_nil))
    case rd =>
    refine ⟨_, rfl, m, r, a, cs, 3, B, rfl, d0, by omega, by decide, by decide, fun H1 dg g1 d1 z0 z1 => ⟨rfl, _, rfl, ite2 (fun _ => ?_) (fun _ => ?_)⟩⟩
    · -- out of a pool
      refine ⟨by show 12 ≤ sizeLine; decide, fun p1 m1 => ?_⟩
      have k1 : Gr H1 (upd H1 p1 (.lst (poolA.map V.str))) := Gr.new m1
      have e1 : upd H1 p1 (.lst (poolA.map V.str)) p1 = some (.lst (poolA.map V.str)) := upd_same
      change tSeq _ _ _ _ (upd H1 p1 (.lst (poolA.map V.str)))
      generalize upd H1 p1 (.lst (poolA.map V.str)) = G1 at k1 e1 ⊢
      refine ⟨_, rfl, by show 3 ≤ sizeLine; decide, fun p2 m2 => ?_⟩
      have k2 : Gr G1 (upd G1 p2 (.lst (poolB.map V.str))) := Gr.new m2
      have e2 : upd G1 p2 (.lst (poolB.map V.str)) p2 = some (.lst (poolB.map V.str)) := upd_same
      change rCat _ _ (upd G1 p2 (.lst (poolB.map V.str))) _
      generalize upd G1 p2 (.lst (poolB.map V.str)) = G2_ at k2 e2 ⊢
      refine ⟨p1, p2, _, _, rfl, rfl, k2.lst e1, e2, by show 15 ≤ sizeLine; decide, fun p3 m3 => ?_⟩
      rw [← List.map_append]
      have k3 : Gr G2_ (upd G2_ p3 (.lst ((poolA ++ poolB).map V.str))) := Gr.new m3
      have e3 : upd G2_ p3 (.lst ((poolA ++ poolB).map V.str)) p3 = some (.lst (poolL.map V.str)) := upd_same
      have d2 := d1.gr (k1.trans k2)
      obtain ⟨n31, n32⟩ := d2.nm m3
      have o3 := d2.off m3
      have d3 := d2.gr k3
      have h3 : H p3 = none := g1.back p3 n31 n32 ((k1.trans k2).back p3 m3)
      have g3 : G2 m r H (upd G2_ p3 (.lst ((poolA ++ poolB).map V.str))) := g1.trans (G2.gr (k1.trans (k2.trans k3)))
      generalize upd G2_ p3 (.lst ((poolA ++ poolB).map V.str)) = G3 at k3 e3 d3 g3 ⊢
      clear k1 k2 k3 e1 e2 d1 d2 g1 m1 m2 m3
      refine ⟨_, rfl, (n : Nat), rfl, by omega, by omega, fun D nD => ?_⟩
      obtain ⟨nD1, nD2⟩ := d3.nm nD
      have oD := d3.off nD
      have hD := g3.back D nD1 nD2 nD
      have n3D : p3 ≠ D := ne_of_none e3 nD
      have l15 : poolL.length = 15 := rfl
      refine lc_it (walk_range (lo := 0) (n := ((n : Nat) : Int).toNat)) (fun i S => ∃ rem ps : List Str, S D = some (.lst (ps.map V.str)) ∧ S p3 = some (.lst (rem.map V.str)) ∧ (ps ++ rem).Perm poolL ∧ ps.length = i ∧ G2 m r H S ∧ Dr K S m r a cs (B + 1 + (i : Int)))
        ⟨poolL, [], upd_same, (upd_ne n3D).trans e3, List.Perm.refl _, rfl, g3.trans (G2.gr (Gr.new nD)), (d3.upd nD1 nD2 oD).mono (by omega)⟩ (fun _ _ _ _ => trivial) ?c1 ?c2
      case c1 =>
        rintro i y S' S hi ⟨rem, ps, eD, e3, pm, li, g, d⟩ ⟨rfl, rfl⟩
        have i8 : i < n := by omega
        have lr : ps.length + rem.length = 15 := by
          have := pm.length_eq
          rw [List.length_append, l15] at this
          exact this
        refine ⟨rfl, tYes_i (iteT ?_)⟩
        refine ⟨_, rfl, .inl ⟨rfl, _, .inl (.inl e3)⟩, _, rfl, _, rfl, p3, _, rfl, .inl (.inl (.inl e3)), m, r, a, cs, _, _, rfl, d, by omega, ?_, ?_, fun S2 j g2 d2 j0 j1 => ?_⟩
        · rw [List.length_map]
          omega
        · rw [List.length_map]
          omega
        rw [List.length_map] at j1
        have e32 := g2.lst n31 n32 e3
        have eD2 := g2.lst nD1 nD2 eD
        have jl : j.toNat < rem.length := by omega
        refine ⟨p3, _, j, j.toNat, .str rem[j.toNat], rfl, rfl, e32, lo63 j j0, hi63 j (by omega), ?_, ?_, ?_⟩
        · have ix : ixN (rem.map V.str).length j = some j.toNat := by
            unfold ixN
            rw [if_pos j0, List.length_map, if_pos j1]
          exact (ixN_seq ix).1
        · rw [List.getElem?_map, List.getElem?_eq_getElem jl]
          rfl
        have em : (rem.map V.str).eraseIdx j.toNat = (rem.eraseIdx j.toNat).map V.str := erase_map _ _ _
        rw [em]
        refine ⟨_, (upd_ne (Ne.symm n3D)).trans eD2, ?_, rem.eraseIdx j.toNat, ps ++ [rem[j.toNat]], ?_, ?_, ?_, ?_, ?_, ?_⟩
        · rw [List.length_map]
          exact small1000 (by omega)
        · rw [upd_same, List.map_append]
          rfl
        · rw [upd_ne n3D]
          exact upd_same
        · rw [List.append_assoc]
          exact ((List.Perm.append_left ps (erase_perm rem _ jl)).trans pm)
        · rw [List.length_append, li]
          rfl
        · exact ((g.trans g2).upd_new h3).upd_new hD
        · exact ((d2.upd n31 n32 o3).upd nD1 nD2 oD).mono (by omega)
      case c2 =>
      rintro S ⟨rem, ps, eD, e3, pm, li, g, d⟩
      refine ⟨D, ps, rfl, .inl (.inl eD), by omega, fun ys l pm2 so nl => ?_⟩
      have len : ys.length = ps.length := pm2.length_eq
      obtain ⟨nl1, nl2⟩ := d.nm nl
      have hl := g.back l nl1 nl2 nl
      have ndp : ps.Nodup := (List.nodup_append.mp (pm.nodup_iff.mpr pool_nd)).1
      refine q _ l ys (g.trans (G2.gr (Gr.new nl))) ((d.gr (Gr.new nl)).mono (by omega)) hl upd_same (sorted_up so pm2 ndp) (fun z hz => pool_ok z (pm.mem_iff.mp (List.mem_append_left _ (pm2.mem_iff.mp hz)))) (by omega)
    · -- of letters
      refine ⟨_, rfl, m, r, a, cs, 26, _, rfl, d1, by omega, by decide, by decide, fun H2 f g2 d2 f0 f1 => ?_⟩
      refine ⟨_, rfl, by show 4 ≤ sizeLine; decide, fun l nl => ?_⟩
      have k1 : Gr H2 (upd H2 l (.lst [.int 1, .int 5, .int 7, .int 25])) := Gr.new nl
      have e1 : upd H2 l (.lst [.int 1, .int 5, .int 7, .int 25]) l = some (.lst [.int 1, .int 5, .int 7, .int 25]) := upd_same
      obtain ⟨nl1, nl2⟩ := d2.nm nl
      have d3 := d2.gr k1
      generalize upd H2 l (.lst [.int 1, .int 5, .int 7, .int 25]) = H3 at k1 e1 d3 ⊢
      refine ⟨m, r, l, a, cs, _, _, rfl, d3, by omega, .inl ⟨.inl (.inl e1), nl1, nl2⟩, by simp, by decide, fun H4 ix x g4 d4 hx => ?_⟩
      obtain ⟨s, rfl, hs⟩ : ∃ s : Nat, x = .int (s : Nat) ∧ s ∈ [1, 5, 7, 25] := by
        have hm := List.mem_of_getElem? hx
        simp only [List.mem_cons, List.not_mem_nil, or_false] at hm
        rcases hm with rfl | rfl | rfl | rfl
        · exact ⟨1, rfl, by decide⟩
        · exact ⟨5, rfl, by decide⟩
        · exact ⟨7, rfl, by decide⟩
        · exact ⟨25, rfl, by decide⟩
      obtain ⟨fn, rfl⟩ : ∃ z : Nat, f = (z : Int) := ⟨f.toNat, by omega⟩
      have s25 : s ≤ 25 := by
        simp only [List.mem_cons, List.not_mem_nil, or_false] at hs
        omega
      have g04 : G2 m r H H4 := (g1.trans g2).trans ((G2.gr k1).trans g4)
      clear g1 g2 k1 g4 e1 d1 d2 d3 nl hx
      refine ⟨_, _, rfl, ?_⟩
      refine ⟨by show 0 ≤ sizeLine; decide, fun fl nfl => ?_⟩
      obtain ⟨nf1, nf2⟩ := d4.nm nfl
      have of_ := d4.off nfl
      have hfl := g04.back fl nf1 nf2 nfl
      refine ⟨_, rfl, (n : Nat), rfl, by omega, by omega, ?_⟩
      refine for_it (walk_range (lo := 0) (n := ((n : Nat) : Int).toNat)) (fun i σ S => ∃ (y4 y8 : Option V) (ys : List Str), σ = [some (.ref m), some (.int (n : Nat)), some (.str letters), none, y4, some (.int (fn : Nat)), some (.int (s : Nat)), some (.ref fl), y8] ∧
        S fl = some (.lst (ys.map V.str)) ∧ ys.map hdZ = hds fn s i ∧ (∀ z ∈ ys, isN z = true) ∧ G2 m r H S ∧ Dr K S m r a cs (B + 3 + 2 * (i : Int)))
        ⟨none, none, [], rfl, upd_same, rfl, by simp, g04.trans (G2.gr (Gr.new nfl)), (d4.gr (Gr.new nfl)).mono (by omega)⟩ (fun _ _ _ _ _ => trivial) ?h2 ?h3
      case h2 =>
        rintro i y σ S' S hi ⟨y4, y8, ys, rfl, ef, hh, hn, g, d⟩ ⟨rfl, rfl⟩
        have i8 : i < n := by omega
        have ly : ys.length = i := by
          have := congrArg List.length hh
          unfold hds at this
          rw [List.length_map, List.length_map, List.length_range] at this
          exact this
        refine ⟨_, rfl, _, rfl, m, r, a, cs, 26, _, rfl, d, by omega, by decide, by decide, fun S2 j g2 d2 j0 j1 => ?_⟩
        have lz : letters.length = 26 := by decide +kernel
        refine ⟨letters, j, 97 + j.toNat, rfl, rfl, j0, hi63 _ (by omega), by rw [lz]; omega, letter_is _ (by omega), ?_⟩
        refine ⟨_, rfl, by show 4 ≤ sizeLine; decide, fun l nl => ?_⟩
        have k1 : Gr S2 (upd S2 l (.lst [.int 0, .int 0, .int 1, .int 7])) := Gr.new nl
        have e1 : upd S2 l (.lst [.int 0, .int 0, .int 1, .int 7]) l = some (.lst [.int 0, .int 0, .int 1, .int 7]) := upd_same
        obtain ⟨nl1, nl2⟩ := d2.nm nl
        have d3 := d2.gr k1
        generalize upd S2 l (.lst [.int 0, .int 0, .int 1, .int 7]) = S3 at k1 e1 d3 ⊢
        refine ⟨m, r, l, a, cs, _, _, rfl, d3, by omega, .inl ⟨.inl (.inl e1), nl1, nl2⟩, by simp, by decide, fun S4 ix x g4 d4 hx => ?_⟩
        obtain ⟨t, rfl, ht⟩ : ∃ t : Nat, x = .int (t : Nat) ∧ t ∈ [0, 1, 7] := by
          have hm := List.mem_of_getElem? hx
          simp only [List.mem_cons, List.not_mem_nil, or_false] at hm
          rcases hm with rfl | rfl | rfl | rfl
          · exact ⟨0, rfl, by decide⟩
          · exact ⟨0, rfl, by decide⟩
          · exact ⟨1, rfl, by decide⟩
          · exact ⟨7, rfl, by decide⟩
        have t7 : t ≤ 7 := by
          simp only [List.mem_cons, List.not_mem_nil, or_false] at ht
          omega
        have g04 : G2 m r S S4 := g2.trans ((G2.gr k1).trans g4)
        clear g2 k1 g4 e1 d2 d3 nl hx
        refine ⟨_, t, rfl, rfl, by omega, by show 1 ≤ 100; decide, by show 1 ≠ 0; decide, ?_⟩
        have ef4 := g04.lst nf1 nf2 ef
        obtain ⟨c0, hc0⟩ : ∃ z : Nat, (fn + s * i) % 26 = z := ⟨_, rfl⟩
        have c26 : c0 < 26 := by omega
        have ec : ((fn : Nat) + (s : Nat) * (0 + (i : Nat)) : Int) % 26 = (c0 : Nat) := by
          rw [← hc0]
          simp
        obtain ⟨o1, o2⟩ := nm_all c0 c26 j.toNat (by omega) t ht
        refine ⟨_, rfl, .inl ⟨rfl, _, .inl (.inl ef4)⟩, _, rfl, _, rfl, _, rfl, _, rfl, (s : Nat), 0 + (i : Nat), rfl, rfl, .inl ⟨?_, ?_⟩, _, _, rfl, rfl, _, 26, rfl, rfl, (by show (0 : Int) < 26; decide), ?_⟩
        · have : (-(2 ^ 64) : Int) = -18446744073709551616 := by decide
          rw [this]
          omega
        · have : ((2 ^ 64) : Int) = 18446744073709551616 := by decide
          rw [this]
          omega
        refine ⟨letters, (c0 : Nat), 97 + c0, rfl, by show V.int (((fn : Nat) + (s : Nat) * (0 + (i : Nat)) : Int) % 26) = _; rw [ec], by omega, hi63 _ (by omega), by rw [lz]; omega, letter_is _ (by omega), ?_⟩
        refine ⟨_, rfl, _, _, rfl, rfl, ?_, ?_⟩
        · rw [rep_len]
          refine Nat.le_of_lt (small1000 ?_)
          show 1 + t * 1 ≤ 1000
          omega
        refine ⟨fl, _, _, rfl, rfl, ef4, ?_, ?_⟩
        · rw [List.length_map]
          exact small1000 (by omega)
        refine ⟨_, _, ys ++ [nmZ c0 j.toNat t], rfl, ?_, ?_, ?_, (g.trans g04).upd_new hfl, ((d4.upd nf1 nf2 of_).mono (by omega))⟩
        · rw [upd_same, List.map_append]
          rfl
        · rw [List.map_append, hh, hds_succ]
          show hds fn s i ++ [hdZ (nmZ c0 j.toNat t)] = _
          rw [o2, hc0]
        · intro z hz
          rcases List.mem_append.mp hz with h | h
          · exact hn z h
          · rw [List.mem_singleton.mp h]
            exact o1
      case h3 =>
        rintro σ S ⟨y4, y8, ys, rfl, ef, hh, hn, g, d⟩
        have en : ((n : Nat) : Int).toNat = n := Int.toNat_natCast n
        rw [en] at hh
        have ly : ys.length = n := by
          have := congrArg List.length hh
          unfold hds at this
          rw [List.length_map, List.length_map, List.length_range] at this
          exact this
        refine ⟨_, rfl, fl, ys, rfl, .inl (.inl ef), by omega, fun zs l pm2 so nl => ?_⟩
        have len : zs.length = ys.length := pm2.length_eq
        obtain ⟨nl1, nl2⟩ := d.nm nl
        have hl := g.back l nl1 nl2 nl
        have ndy : ys.Nodup := by
          have := hds_nd (f := fn) (s := s) (i := n) (by omega) hs n8
          rw [← hh] at this
          exact nodup_map _ this
        refine q _ l zs (g.trans (G2.gr (Gr.new nl))) ((d.gr (Gr.new nl)).mono (by omega)) hl upd_same (sorted_up so pm2 ndy) (fun z hz => hn z (pm2.mem_iff.mp hz)) (by omega)
end
end SfC
namespace SfC
open PySem PySem.Spec PyProof.Rows L2 SfG
/-! ### kinds that are taken, drawn -/
abbrev nTaken : List Str := ["_law_m", "_law_hidden", "_law_found", "_law_k", "_law_one", "_law_many", "_law_plain"]
theorem scTaken : FnScope nTaken ["_law_m", "_law_hidden"] (defScope sTaken) := ⟨rfl, rfl, rfl, by decide +kernel, rfl, by decide +kernel, by decide +kernel⟩
theorem inV_kn {hd : List Str} {k : Kn} (h : goK hd k) : inV k.v (hd.map V.str) = k.isH := by
  cases k with
  | h s => exact inV_mem h
  | p n =>
    show inV (.int n) (hd.map V.str) = false
    unfold inV
    rw [List.any_map]
    exact List.any_eq_false.mpr fun y hy => by simp [eqV]
theorem flat_kn (k : Kn) : flatV k.v = true := by cases k <;> rfl
/-- hidden kinds as texts of a face -/
theorem hid_at {hd : List Str} {i : Nat} {x : V} (h : (hd.map V.str)[i]? = some x) : ∃ z, x = (Kn.h z).v ∧ goK hd (.h z) := by
  rw [List.getElem?_map] at h
  obtain ⟨z, hz, rfl⟩ := Option.map_eq_some_iff.mp h
  exact ⟨z, rfl, List.mem_of_getElem? hz⟩
theorem filt_take {tk : List Kn} {i : Nat} {k : Kn} (h : tk[i]? = some k) : (tk.take (i + 1)).filter Kn.isH = (tk.take i).filter Kn.isH ++ (if k.isH then [k] else []) := by
  rw [List.take_add_one, h, List.filter_append]
  cases hk : k.isH <;> simp [hk]
section
variable {P : Program} {w : World} {K : PySem.W.Frag} {mg : Str → Option Value} {base : Heap}
def spTaken (K : PySem.W.Frag) : Sp := fun vs H Q _ => ∃ (m r p : Addr) (a : Src) (cs : List Int) (hd : List Str) (B : Int), vs = [.ref m, .ref p] ∧ Dr K H m r a cs B ∧ B ≤ 900000 ∧ SqT K H p (hd.map V.str) ∧ 1 ≤ hd.length ∧ hd.length ≤ 2 ∧
  ∀ H' t (tk : List Kn), G2 m r H H' → Dr K H' m r a cs (B + 10) → H' t = some (.tup (tk.map Kn.v)) → tk.length ≤ 3 → (∀ k ∈ tk, goK hd k) → hidN tk ≤ 2 → Q (.ref t) H'
set_option maxHeartbeats 2000000 in
theorem ok_taken {f fD fO : Addr} {fd dD dO : FuncData} {k : Nat} (F : Fun K "_law_taken" "_law_taken" sTaken f fd) (HD : Has P w K mg base k "_law_draw" ["_law_m", "_law_many"] (spDrw K) fD dD) (HO_ : Has P w K mg base k "_law_of" ["_law_m", "_law_some"] (spOf K) fO dO)
    (ml : mg "len" = none) (mr : mg "range" = none) (mt : mg "tuple" = none) : FnOk P w K mg base CX0 (k + 1) f fd ["_law_m", "_law_hidden"] (spTaken K) := by
  refine F.ok scTaken (fun vs H Q E h => ?_) (fun cdv A outer s H vs Q E hr h => ?_)
  · obtain ⟨m, r, p, a, cs, hd, B, rfl, _⟩ := h
    rfl
  · obtain ⟨m, r, p, a, cs, hd, B, rfl, d0, hB, hp, lo, hi, q⟩ := h
    have nd := scTaken.nd
    refine' ⟨_, pss_cons ?s1 (pss_cons ?s2 (pss_one ?s3)), ?rd⟩
    case s1 => exact ps_set (i := 2) nd rfl (.inl rfl) (pe_lst pa_nil)
    case s2 =>
      refine' ps_for PassesOwn.never rfl (pi_range1 (by rfl) mr (pa_cons (hcall HO_ hr (pa_cons (pv 0) (pa_cons (pe_lst (pa_cons pe_int (pa_cons pe_int (pa_cons pe_int (pa_cons pe_int (pa_cons pe_int (pa_cons pe_int (pa_cons pe_int pa_nil)))))))) pa_nil))) pa_nil)) (pg_name (i := 3) nd rfl (.inl rfl))
        (pss_cons ?b1 (pss_cons ?b2 (pss_one ?b3)))
      case b1 =>
        exact ps_set (i := 5) nd rfl (.inl rfl) (pe_callB call_len_seq (by rfl) ml PySem.boot_len (pa_cons (pe_lc (own := [("_law_one", 4)]) (g := gName 4) rfl nd (pi_list (pv 2)) (blkOk_by (own := [("_law_one", 4)]) (N := nTaken) (sc := defScope sTaken) (by decide +kernel))
          (fun _ _ _ _ _ => pg_name (i := 4) nd rfl (.inl rfl)) (fun _ _ _ _ _ => pts_one (pt_cmpR (r := rIn K false) op_in_seq (pv 4) (pv 1) rfl)) (fun _ _ _ _ _ => pv 4)) pa_nil))
      case b2 => exact ps_set (i := 6) nd rfl (.inl rfl) (hcall HO_ hr (pa_cons (pv 0) (pa_cons (pe_lst (pa_cons pe_int (pa_cons pe_int (pa_cons pe_int (pa_cons pe_int pa_nil))))) pa_nil)))
      case b3 =>
        exact ps_expr (pe_bm PySem.F.plainAttrs_list PySem.F.slot_list_append PySem.F.type_list_append mt_append (pv 2) (pa_cons (pe_ifExp (PW.pt (pw_and (pt_cmpR op_lt (pv 5) pe_int (nomark _)) (pw_and1 (pt_cmpR op_gt (hcall HD hr (pa_cons (pv 0) (pa_cons pe_int pa_nil))) pe_int (nomark _)))))
          (hcall HO_ hr (pa_cons (pv 0) (pa_cons (pv 1) pa_nil))) (pv 6)) pa_nil))
    case s3 => exact ps_ret (pe_callTy call_tuple_of (by rfl) mt (by decide +kernel) (pa_cons (pv 2) pa_nil))
    case rd =>
    refine ⟨by show 0 ≤ sizeLine; decide, fun fl nfl => ?_⟩
    obtain ⟨nf1, nf2⟩ := d0.nm nfl
    have of_ := d0.off nfl
    have k0 : Gr H (upd H fl (.lst [])) := Gr.new nfl
    have e0 : upd H fl (.lst []) fl = some (.lst []) := upd_same
    have d1 := d0.gr k0
    generalize upd H fl (.lst []) = H1 at k0 e0 d1 ⊢
    refine ⟨_, rfl, by show 7 ≤ sizeLine; decide, fun l nl => ?_⟩
    have k1 : Gr H1 (upd H1 l (.lst [.int 0, .int 1, .int 1, .int 1, .int 2, .int 2, .int 3])) := Gr.new nl
    have e1 : upd H1 l (.lst [.int 0, .int 1, .int 1, .int 1, .int 2, .int 2, .int 3]) l = some (.lst [.int 0, .int 1, .int 1, .int 1, .int 2, .int 2, .int 3]) := upd_same
    obtain ⟨nl1, nl2⟩ := d1.nm nl
    have d2 := d1.gr k1
    have e0' := k1.lst e0
    generalize upd H1 l (.lst [.int 0, .int 1, .int 1, .int 1, .int 2, .int 2, .int 3]) = H2 at k1 e1 d2 e0' ⊢
    refine ⟨m, r, l, a, cs, _, _, rfl, d2, by omega, .inl ⟨.inl (.inl e1), nl1, nl2⟩, by simp, by decide, fun H3 ix x g3 d3 hx => ?_⟩
    obtain ⟨t, rfl, ht⟩ : ∃ t : Nat, x = .int (t : Nat) ∧ t ≤ 3 := by
      have hm := List.mem_of_getElem? hx
      simp only [List.mem_cons, List.not_mem_nil, or_false] at hm
      rcases hm with rfl | rfl | rfl | rfl | rfl | rfl | rfl
      · exact ⟨0, rfl, by decide⟩
      · exact ⟨1, rfl, by decide⟩
      · exact ⟨1, rfl, by decide⟩
      · exact ⟨1, rfl, by decide⟩
      · exact ⟨2, rfl, by decide⟩
      · exact ⟨2, rfl, by decide⟩
      · exact ⟨3, rfl, by decide⟩
    have e3 := g3.lst nf1 nf2 e0'
    have gg : G2 m r H H3 := (G2.gr (k0.trans k1)).trans g3
    clear k0 e0 d1 k1 e1 d2 e0' g3 nl hx
    refine ⟨(t : Nat), rfl, by omega, by omega, ?_⟩
    refine for_it (walk_range (lo := 0) (n := ((t : Nat) : Int).toNat)) (fun i σ S => ∃ (y3 y5 y6 : Option V) (tk : List Kn), σ = [some (.ref m), some (.ref p), some (.ref fl), y3, none, y5, y6] ∧
      S fl = some (.lst (tk.map Kn.v)) ∧ tk.length = i ∧ (∀ k ∈ tk, goK hd k) ∧ hidN tk ≤ 2 ∧ G2 m r H S ∧ Dr K S m r a cs (B + 1 + 3 * (i : Int)))
      ⟨none, none, none, [], rfl, e3, rfl, by simp, by show 0 ≤ 2; decide, gg, d3.mono (by omega)⟩ (fun _ _ _ _ _ => trivial) ?h2 ?h3
    case h2 =>
      rintro i y σ S' S hi ⟨y3, y5, y6, tk, rfl, ef, li, gk, h2, g, d⟩ ⟨rfl, rfl⟩
      have i3 : i < t := by omega
      have hpS := (d0.kt g) hp
      refine ⟨_, rfl, fl, rfl, ⟨_, .inl (.inl ef)⟩, fun D nD => ?_⟩
      refine lc_it (walk_list (xs := tk.map Kn.v)) (fun j S2 => S2 D = some (.lst (((tk.take j).filter Kn.isH).map Kn.v)) ∧ Gr S S2) ⟨upd_same, Gr.new nD⟩ ?c0 ?c1 ?c2
      case c0 =>
        rintro j S2 hj ⟨_, g2⟩
        exact .inl (.inl (g2.lst ef))
      case c1 =>
        rintro j z S2' S2 hj ⟨eD, g2⟩ ⟨rfl, hz⟩
        rw [List.getElem?_map] at hz
        obtain ⟨kn, hkn, rfl⟩ := Option.map_eq_some_iff.mp hz
        have gkn := gk kn (List.mem_of_getElem? hkn)
        refine ⟨rfl, _, rfl, _, rfl, p, _, rfl, .inr (g2.sqt hpS), flat_kn kn, flat_strs hd, _, rfl, ?_⟩
        rw [show (if false = true then !inV kn.v (hd.map V.str) else inV kn.v (hd.map V.str)) = kn.isH from inV_kn gkn]
        cases hk : kn.isH with
        | false =>
          refine iteF ⟨?_, g2⟩
          rw [filt_take hkn, hk]
          simpa using eD
        | true =>
          refine iteT ⟨_, rfl, _, eD, ?_, ?_, g2.upd_new nD⟩
          · rw [List.length_map]
            refine small1000 ?_
            have := List.length_filter_le Kn.isH (tk.take j)
            rw [List.length_take] at this
            omega
          · rw [upd_same, filt_take hkn, hk, List.map_append]
            rfl
      case c2 =>
      rintro S2 ⟨eD, g2⟩
      rw [List.length_map, List.take_length] at eD
      have ef2 := g2.lst ef
      refine ⟨D, _, rfl, .inl (.inl (.inl eD)), ?_⟩
      rw [List.length_map]
      have d2 := d.gr g2
      -- a plain kind
      refine ⟨_, rfl, by show 4 ≤ sizeLine; decide, fun l nl => ?_⟩
      have k1 : Gr S2 (upd S2 l (.lst [.int 2, .int 2, .int 3, .int 4])) := Gr.new nl
      have e1 : upd S2 l (.lst [.int 2, .int 2, .int 3, .int 4]) l = some (.lst [.int 2, .int 2, .int 3, .int 4]) := upd_same
      obtain ⟨nl1, nl2⟩ := d2.nm nl
      have d3 := d2.gr k1
      have ef3 := k1.lst ef2
      generalize upd S2 l (.lst [.int 2, .int 2, .int 3, .int 4]) = S3 at k1 e1 d3 ef3 ⊢
      refine ⟨m, r, l, a, cs, _, _, rfl, d3, by omega, .inl ⟨.inl (.inl e1), nl1, nl2⟩, by simp, by decide, fun S4 ix x g4 d4 hx => ?_⟩
      obtain ⟨pl, rfl, hpl⟩ : ∃ pl : Int, x = (Kn.p pl).v ∧ goK hd (.p pl) := by
        have hm := List.mem_of_getElem? hx
        simp only [List.mem_cons, List.not_mem_nil, or_false] at hm
        rcases hm with rfl | rfl | rfl | rfl
        · exact ⟨2, rfl, by decide, by decide⟩
        · exact ⟨2, rfl, by decide, by decide⟩
        · exact ⟨3, rfl, by decide, by decide⟩
        · exact ⟨4, rfl, by decide, by decide⟩
      have ef4 := g4.lst nf1 nf2 ef3
      have g04 : G2 m r H S4 := g.trans ((G2.gr (g2.trans k1)).trans g4)
      have hp4 := (d0.kt g04) hp
      refine ⟨_, rfl, .inl ⟨rfl, _, .inl (.inl ef4)⟩, ?_⟩
      have fin : ∀ (S5 : Hp) (kz : Kn), G2 m r S4 S5 → Dr K S5 m r a cs (B + 1 + 3 * (i : Int) + 1 + 1 + 1) → goK hd kz → hidN (tk ++ [kz]) ≤ 2 → ∃ (y3 y5 y6 : Option V) (tk' : List Kn), [some (V.ref m), some (V.ref p), some (V.ref fl), some (V.int (0 + (i : Int))), none, some (V.int (((tk.filter Kn.isH).length : Nat) : Int)), some (Kn.p pl).v] = [some (V.ref m), some (V.ref p), some (V.ref fl), y3, none, y5, y6] ∧
          upd S5 fl (.lst (tk.map Kn.v ++ [kz.v])) fl = some (.lst (tk'.map Kn.v)) ∧ tk'.length = i + 1 ∧ (∀ k ∈ tk', goK hd k) ∧ hidN tk' ≤ 2 ∧ G2 m r H (upd S5 fl (.lst (tk.map Kn.v ++ [kz.v]))) ∧ Dr K (upd S5 fl (.lst (tk.map Kn.v ++ [kz.v]))) m r a cs (B + 1 + 3 * ((i + 1 : Nat) : Int)) := by
        intro S5 kz g5 d5 hz h2'
        refine ⟨_, _, _, tk ++ [kz], rfl, ?_, ?_, ?_, h2', (g04.trans g5).upd_new nfl, (d5.upd nf1 nf2 of_).mono (by omega)⟩
        · rw [upd_same, List.map_append]
          rfl
        · rw [List.length_append, li]
          rfl
        · intro k hk
          rcases List.mem_append.mp hk with h | h
          · exact gk k h
          · rw [List.mem_singleton.mp h]
            exact hz
      have hNk : hidN tk = (tk.filter Kn.isH).length := rfl
      have plain2 : ∀ (S5 : Hp), hidN (tk ++ [Kn.p pl]) ≤ 2 := fun _ => by
        rw [hidN_snoc]
        exact h2
      refine ⟨_, rfl, _, 2, rfl, rfl, _, rfl, ?_⟩
      by_cases hlt : hidN tk < 2
      · rw [decide_eq_true (show (((tk.filter Kn.isH).length : Nat) : Int) < 2 by omega)]
        refine iteT ⟨_, rfl, m, r, a, cs, 3, _, rfl, d4, by omega, by decide, by decide, fun S5 dg g5 d5 z0 z1 => ⟨dg, 0, rfl, rfl, _, rfl, ?_⟩⟩
        have ef5 := g5.lst nf1 nf2 ef4
        by_cases hg : dg > 0
        · rw [decide_eq_true hg]
          refine iteT ⟨_, rfl, _, rfl, m, r, p, a, cs, hd.map V.str, _, rfl, d5, by omega, .inr (d4.kt g5 hp4), ?_, ?_, fun S6 ix x g6 d6 hx => ?_⟩
          · intro e
            have := congrArg List.length e
            rw [List.length_map] at this
            have z : hd.length = 0 := this
            omega
          · rw [List.length_map]
            omega
          obtain ⟨z, rfl, hz⟩ := hid_at hx
          refine ⟨fl, _, _, rfl, rfl, g6.lst nf1 nf2 ef5, ?_, fin S6 (.h z) (g5.trans g6) (d6.mono (by omega)) hz ?_⟩
          · rw [List.length_map]
            exact small1000 (by omega)
          · rw [hidN_snoc]
            show hidN tk + 1 ≤ 2
            omega
        · rw [decide_eq_false hg]
          refine iteF ⟨_, rfl, fl, _, _, rfl, rfl, ef5, ?_, fin S5 (.p pl) g5 (d5.mono (by omega)) hpl (plain2 S5)⟩
          rw [List.length_map]
          exact small1000 (by omega)
      · rw [decide_eq_false (show ¬ (((tk.filter Kn.isH).length : Nat) : Int) < 2 by omega)]
        refine iteF ⟨_, rfl, fl, _, _, rfl, rfl, ef4, ?_, fin S4 (.p pl) (G2.refl _ _ _) (d4.mono (by omega)) hpl (plain2 S4)⟩
        rw [List.length_map]
        exact small1000 (by omega)
    case h3 =>
      rintro σ S ⟨y3, y5, y6, tk, rfl, ef, li, gk, h2, g, d⟩
      refine ⟨_, rfl, fl, _, rfl, .inl ⟨.inl (.inl ef), fun td ntd => ?_⟩⟩
      exact q _ td tk (g.trans (G2.gr (Gr.new ntd))) ((d.gr (Gr.new ntd)).mono (by omega)) upd_same (by omega) gk h2
end
end SfC
namespace SfC
open PySem PySem.Spec PyProof.Rows L2 SfG
/-! ### faces, drawn -/
abbrev nLFace : List Str := ["_law_m", "_law_most", "_law_hidden", "_law_names_here", "_law_start", "_law_deeds", "_law_at", "_law_name", "_law_gives", "_law_takes", "_law_kind"]
theorem scLFace : FnScope nLFace ["_law_m", "_law_most"] (defScope sLFace) := ⟨rfl, rfl, rfl, by decide +kernel, rfl, by decide +kernel, by decide +kernel⟩
/-- a deed that may stand first -/
def Plain (e : De) : Prop := ∀ k ∈ e.tk, k.isH = false
theorem filt_takeN {tk : List Kn} {i : Nat} {k : Kn} (h : tk[i]? = some k) : (tk.take (i + 1)).filter (fun k => !k.isH) = (tk.take i).filter (fun k => !k.isH) ++ (if k.isH then [] else [k]) := by
  rw [List.take_add_one, h, List.filter_append]
  cases hk : k.isH <;> simp [hk]
theorem gives_at {hd : List Str} {y : Int} (h2 : 2 ≤ y) (h9 : y ≤ 9) {i : Nat} {x : V} (h : ((List.replicate 3 (hd.map V.str)).flatten ++ [V.int 2, .int y])[i]? = some x) : ∃ kn : Kn, x = kn.v ∧ goK hd kn := by
  have hm := List.mem_of_getElem? h
  rcases List.mem_append.mp hm with h | h
  · obtain ⟨l, hl, hx⟩ := List.mem_flatten.mp h
    rw [List.eq_of_mem_replicate hl] at hx
    obtain ⟨z, hz, rfl⟩ := List.mem_map.mp hx
    exact ⟨.h z, rfl, hz⟩
  · simp only [List.mem_cons, List.not_mem_nil, or_false] at h
    rcases h with rfl | rfl
    · exact ⟨.p 2, rfl, by decide, by decide⟩
    · exact ⟨.p y, rfl, h2, h9⟩
theorem dp_kv {K : PySem.W.Frag} {H : Hp} (k : Kn) : Dp K H k.v k.d := by
  cases k with
  | h s => exact .str s
  | p n => exact .int n
theorem dpA_kvs {K : PySem.W.Frag} {H : Hp} : ∀ tk : List Kn, DpAll K H (tk.map Kn.v) (tk.map Kn.d)
  | [] => .nil
  | k :: r => .cons (dp_kv k) (dpA_kvs r)
theorem dpA_svs {K : PySem.W.Frag} {H : Hp} : ∀ l : List Str, DpAll K H (l.map V.str) (l.map PyData.str)
  | [] => .nil
  | a :: r => .cons (.str a) (dpA_svs r)
section
variable {P : Program} {w : World} {K : PySem.W.Frag} {mg : Str → Option Value} {base : Heap}
theorem Tz.g2 {K : PySem.W.Frag} {H H' : Hp} {m r : Addr} {a : Src} {cs : List Int} {B : Int} (d : Dr K H m r a cs B) (g : G2 m r H H') {p : Addr} {xs : List V} (h : Tz H p xs) : Tz H' p xs := by
  obtain ⟨k, ls, h1, h2, _⟩ := d.st
  obtain ⟨o, h, hc⟩ := h
  refine ⟨o, g.keep _ _ (fun z => ?_) (fun z => ?_) h (fun _ z => by cases z), hc⟩
  · rw [z, h1] at h
    cases h
  · rw [z, h2] at h
    cases h
/-- a face in the heap; of its hidden kinds' tuple it is known how it was made -/
def Fz (K : PySem.W.Frag) (H : Hp) (v : V) (f : Fc) : Prop := ∃ (p ph pd : Addr) (xs : List V), v = .ref p ∧ SqT K H p [.ref ph, .ref pd] ∧ Tz H ph (f.hd.map V.str) ∧ SqT K H pd xs ∧ DpAll K H xs (f.ds.map De.d)
theorem Fz.dp {K : PySem.W.Frag} {H : Hp} {v : V} {f : Fc} (h : Fz K H v f) : Dp K H v f.d := by
  obtain ⟨p, ph, pd, xs, rfl, h1, h2, h3, h4⟩ := h
  exact .tup h1 (.cons (.tup h2.sqt (dpA_svs f.hd)) (.cons (.tup h3 h4) .nil))
theorem Fz.gr {K : PySem.W.Frag} {H H' : Hp} {v : V} {f : Fc} (g : Gr H H') (h : Fz K H v f) : Fz K H' v f := by
  obtain ⟨p, ph, pd, xs, rfl, h1, h2, h3, h4⟩ := h
  exact ⟨p, ph, pd, xs, rfl, g.sqt h1, h2.gr g, g.sqt h3, g.kd.dpA h4⟩
theorem Fz.g2 {K : PySem.W.Frag} {H H' : Hp} {m r : Addr} {a : Src} {cs : List Int} {B : Int} (d : Dr K H m r a cs B) (g : G2 m r H H') {v : V} {f : Fc} (h : Fz K H v f) : Fz K H' v f := by
  obtain ⟨p, ph, pd, xs, rfl, h1, h2, h3, h4⟩ := h
  exact ⟨p, ph, pd, xs, rfl, d.kt g h1, Tz.g2 d g h2, d.kt g h3, Kt.dpA (d.kt g) h4 (noLA_map _ noL_de _)⟩
theorem Fz.upd {K : PySem.W.Frag} {H : Hp} {l : Addr} {ys : List V} {o : HO} (e : H l = some (.lst ys)) {v : V} {f : Fc} (h : Fz K H v f) : Fz K (upd H l o) v f := by
  obtain ⟨p, ph, pd, xs, rfl, h1, h2, h3, h4⟩ := h
  have k : Kt K H (L2.upd H l o) := kt_lst e
  exact ⟨p, ph, pd, xs, rfl, k h1, h2.upd (h2.ne e), k h3, Kt.dpA k h4 (noLA_map _ noL_de _)⟩
def spLFace (K : PySem.W.Frag) : Sp := fun vs H Q _ => ∃ (m r : Addr) (a : Src) (cs : List Int) (B : Int), vs = [.ref m, .int 6] ∧ Dr K H m r a cs B ∧ B ≤ 800000 ∧
  ∀ H' v (f : Fc), G2 m r H H' → Dr K H' m r a cs (B + 200) → Fz K H' v f → goF f → (∃ e ∈ f.ds, Plain e) → Q v H'
set_option maxHeartbeats 4000000 in
theorem ok_lface {f fD fO fN fT : Addr} {fd dD dO dN dT : FuncData} {k : Nat} (F : Fun K "_law_face" "_law_face" sLFace f fd) (HD : Has P w K mg base k "_law_draw" ["_law_m", "_law_many"] (spDrw K) fD dD) (HO_ : Has P w K mg base k "_law_of" ["_law_m", "_law_some"] (spOf K) fO dO)
    (HN : Has P w K mg base k "_law_names" ["_law_m", "_law_many"] (spLNames K) fN dN) (HT : Has P w K mg base k "_law_taken" ["_law_m", "_law_hidden"] (spTaken K) fT dT)
    (ml : mg "len" = none) (me : mg "enumerate" = none) (mt : mg "tuple" = none) (mli : mg "list" = none) : FnOk P w K mg base CX0 (k + 1) f fd ["_law_m", "_law_most"] (spLFace K) := by
  refine F.ok scLFace (fun vs H Q E h => ?_) (fun cdv A outer s H vs Q E hr h => ?_)
  · obtain ⟨m, r, a, cs, B, rfl, _⟩ := h
    rfl
  · obtain ⟨m, r, a, cs, B, rfl, d0, hB, q⟩ := h
    have nd := scLFace.nd
    refine' ⟨_, pss_cons ?s1 (pss_cons ?s2 (pss_cons ?s3 (pss_cons ?s4 (pss_cons ?s5 (pss_one ?s6))))), ?rd⟩
    case s1 => exact ps_set (i := 2) nd rfl (.inr rfl) (pe_callTy call_tuple_frz (by rfl) mt (by decide +kernel) (pa_cons (hcall HN hr (pa_cons (pv 0) (pa_cons (pe_op op_add pe_int (hcall HD hr (pa_cons (pv 0) (pa_cons pe_int pa_nil)))) pa_nil))) pa_nil))
    case s2 => exact ps_set (i := 3) nd rfl (.inl rfl) (hcall HN hr (pa_cons (pv 0) (pa_cons (pe_op op_add pe_int (hcall HD hr (pa_cons (pv 0) (pa_cons (pe_op op_sub (pv 1) pe_int) pa_nil)))) pa_nil)))
    case s3 => exact ps_set (i := 4) nd rfl (.inl rfl) (hcall HD hr (pa_cons (pv 0) (pa_cons (pe_callB call_len_seq (by rfl) ml PySem.boot_len (pa_cons (pv 3) pa_nil)) pa_nil)))
    case s4 => exact ps_set (i := 5) nd rfl (.inl rfl) (pe_lst pa_nil)
    case s5 =>
      refine' ps_for PassesOwn.never rfl (pi_enum (by rfl) me (pa_cons (pv 3) pa_nil)) (pg_tup rfl (pgs_cons (pg_name (i := 6) nd rfl (.inl rfl)) (pgs_cons (pg_name (i := 7) nd rfl (.inl rfl)) pgs_nil)))
        (pss_cons ?b1 (pss_cons ?b2 (pss_cons ?b3 (pss_one ?b4))))
      case b1 =>
        exact ps_set (i := 8) nd rfl (.inl rfl) (hcall HO_ hr (pa_cons (pv 0) (pa_cons (pe_op op_cat (pe_op op_rep (pe_callTy call_list_of (by rfl) mli (by decide +kernel) (pa_cons (pv 2) pa_nil)) pe_int)
          (pe_lst (pa_cons pe_int (pa_cons (hcall HO_ hr (pa_cons (pv 0) (pa_cons (pe_lst (pa_cons pe_int (pa_cons pe_int (pa_cons pe_int (pa_cons pe_int pa_nil))))) pa_nil))) pa_nil)))) pa_nil)))
      case b2 => exact ps_set (i := 9) nd rfl (.inl rfl) (hcall HT hr (pa_cons (pv 0) (pa_cons (pv 2) pa_nil)))
      case b3 =>
        exact ps_if (pt_cmpR op_eq (pv 6) (pv 4) (nomark _)) (pss_one (ps_par (i := 8) (j := 9) rfl nd rfl rfl (by decide) rfl rfl (pa_cons (pe_ix ix_tup (pv 2) pe_int (fun _ _ => rfl)) (pa_cons (pe_callTy call_tuple_of (by rfl) mt (by decide +kernel)
          (pa_cons (pe_lc (own := [("_law_kind", 10)]) (g := gName 10) rfl nd (pi_tup (pv 9)) (blkOk_by (own := [("_law_kind", 10)]) (N := nLFace) (sc := defScope sLFace) (by decide +kernel)) (fun _ _ _ _ _ => pg_name (i := 10) nd rfl (.inl rfl))
            (fun _ _ _ _ _ => pts_one (pt_cmpR (r := rIn K true) op_notIn_seq (pv 10) (pv 2) rfl)) (fun _ _ _ _ _ => pv 10)) pa_nil)) pa_nil)) (by rfl))) pss_nil
      case b4 => exact ps_expr (pe_bm PySem.F.plainAttrs_list PySem.F.slot_list_append PySem.F.type_list_append mt_append (pv 5) (pa_cons (pe_tup (pa_cons (pv 7) (pa_cons (pv 9) (pa_cons (pv 8) pa_nil)))) pa_nil))
    case s6 => exact ps_ret (pe_tup (pa_cons (pv 2) (pa_cons (pe_callTy call_tuple_of (by rfl) mt (by decide +kernel) (pa_cons (pv 5) pa_nil)) pa_nil)))
    case rd =>
    -- hidden
    refine ⟨_, rfl, _, rfl, m, r, a, cs, 2, _, rfl, d0, by omega, by decide, by decide, fun H1 x1 g1 d1 x10 x11 => ⟨1, x1, rfl, rfl, ?_⟩⟩
    obtain ⟨h1, e1⟩ : ∃ n : Nat, 1 + x1 = (n : Int) := ⟨(1 + x1).toNat, by omega⟩
    refine ⟨m, r, a, cs, h1, _, by show [V.ref m, V.int (1 + x1)] = _; rw [e1], d1, by omega, by omega, by omega, fun H2 l2 hd g2 d2 n2 e2 up2 nm2 len2 => ?_⟩
    refine ⟨l2, _, rfl, .inl (.inl e2), fun ph H3 nph k3 sh3 _ => ?_⟩
    have d3 := d2.gr k3
    have g3 : G2 m r H H3 := g1.trans (g2.trans (G2.gr k3))
    have ghd : goH hd := ⟨by omega, by omega, nm2, up2⟩
    clear g1 g2 k3 d1 d2 n2 e2 nph x10
    -- names
    refine ⟨_, rfl, _, rfl, _, rfl, 6, 1, rfl, rfl, m, r, a, cs, 5, _, rfl, d3, by omega, by decide, by decide, fun H4 x4 g4 d4 x40 x41 => ⟨2, x4, rfl, rfl, ?_⟩⟩
    obtain ⟨h4, e4⟩ : ∃ n : Nat, 2 + x4 = (n : Int) := ⟨(2 + x4).toNat, by omega⟩
    refine ⟨m, r, a, cs, h4, _, by show [V.ref m, V.int (2 + x4)] = _; rw [e4], d4, by omega, by omega, by omega, fun H5 nl ys g5 d5 n5 e5 up5 nm5 len5 => ?_⟩
    obtain ⟨nn1, nn2⟩ := d4.nm n5
    have g35 := g4.trans g5
    -- start
    refine ⟨_, rfl, _, rfl, nl, _, rfl, .inl (.inl (.inl e5)), m, r, a, cs, _, _, rfl, d5, by omega, ?_, ?_, fun H6 st g6 d6 st0 st1 => ?_⟩
    · rw [List.length_map]
      omega
    · rw [List.length_map]
      omega
    rw [List.length_map] at st1
    obtain ⟨sn, rfl⟩ : ∃ n : Nat, st = (n : Int) := ⟨st.toNat, by omega⟩
    have e6 := g6.lst nn1 nn2 e5
    have g06 : G2 m r H H6 := g3.trans (g35.trans g6)
    -- deeds
    refine ⟨by show 0 ≤ sizeLine; decide, fun dl ndl => ?_⟩
    obtain ⟨nd1, nd2⟩ := d6.nm ndl
    have od := d6.off ndl
    have k7 : Gr H6 (upd H6 dl (.lst [])) := Gr.new ndl
    have e7 : upd H6 dl (.lst []) dl = some (.lst []) := upd_same
    have hdl := g06.back dl nd1 nd2 ndl
    have d7 := d6.gr k7
    have en7 := k7.lst e6
    have nnd : nl ≠ dl := ne_of_none e6 ndl
    have sh7 : Tz (upd H6 dl (.lst [])) ph (hd.map V.str) := (Tz.g2 d3 (g35.trans g6) sh3).gr k7
    have g07 : G2 m r H (upd H6 dl (.lst [])) := g06.trans (G2.gr k7)
    generalize upd H6 dl (.lst []) = H7 at k7 e7 d7 en7 sh7 g07 ⊢
    clear k7 d3 d4 d5 d6 g3 g4 g5 g6 g35 g06 e5 e6 sh3 n5 ndl
    refine ⟨_, rfl, nl, ys.map V.str, rfl, .inl (.inl en7), for_it (walk_enum (xs := ys.map V.str)) (fun i σ S => ∃ (y6 y7 y8 y9 : Option V) (xs : List V) (es : List De), σ = [some (.ref m), some (.int 6), some (.ref ph), some (.ref nl), some (.int (sn : Nat)), some (.ref dl), y6, y7, y8, y9, none] ∧
      S dl = some (.lst xs) ∧ DpAll K S xs (es.map De.d) ∧ es.length = i ∧ es.map De.nm = ys.take i ∧ (∀ e ∈ es, goD hd e) ∧ (sn < i → ∃ e ∈ es, Plain e) ∧ S nl = some (.lst (ys.map V.str)) ∧ Tz S ph (hd.map V.str) ∧ G2 m r H S ∧ Dr K S m r a cs (B + 50 + 20 * (i : Int)))
      ⟨none, none, none, none, [], [], rfl, e7, .nil, rfl, rfl, by simp, fun h => absurd h (Nat.not_lt_zero _), en7, sh7, g07, d7.mono (by omega)⟩ ?h1 ?h2 ?h3⟩
    case h1 =>
      rintro i σ S hi ⟨y6, y7, y8, y9, xs, es, rfl, ed, de, le, nme, ge, pe, en, sh, g, d⟩
      exact .inl (.inl en)
    case h3 =>
      rintro σ S ⟨y6, y7, y8, y9, xs, es, rfl, ed, de, le, nme, ge, pe, en, sh, g, d⟩
      have ly : (ys.map V.str).length = ys.length := List.length_map _
      rw [ly] at le nme pe
      rw [List.take_length] at nme
      refine ⟨_, rfl, _, rfl, dl, _, rfl, .inl ⟨.inl (.inl ed), fun td ntd => ?_⟩⟩
      have k1 : Gr S (upd S td (.tup xs)) := Gr.new ntd
      have e1 : upd S td (.tup xs) td = some (.tup xs) := upd_same
      have d1 := d.gr k1
      generalize upd S td (.tup xs) = S1 at k1 e1 d1 ⊢
      refine ⟨by show 2 ≤ sizeLine; decide, fun tf ntf => ?_⟩
      have k2 : Gr S1 (upd S1 tf (.tup [.ref ph, .ref td])) := Gr.new ntf
      have gf : goF ⟨hd, es⟩ := ⟨ghd, by show 1 ≤ es.length; omega, by show es.length ≤ 8; omega, by show (es.map De.nm).Pairwise lt; rw [nme]; exact up5, ge⟩
      refine q _ (.ref tf) ⟨hd, es⟩ (g.trans (G2.gr (k1.trans k2))) ((d1.gr k2).mono (by omega)) ?_ gf (pe (by omega))
      exact ⟨tf, ph, td, xs, rfl, .inl (.inl upd_same), sh.gr (k1.trans k2), .inl (.inl (k2.tup e1)), (k1.trans k2).kd.dpA de⟩
    case h2 =>
      rintro i v σ S S' hi ⟨y6, y7, y8, y9, xs, es, rfl, ed, de, le, nme, ge, pe, en, sh, g, d⟩ ⟨T, kx, cx, rfl, nT, rfl, ek, ec⟩
      cases ek
      replace ec : (ys.map V.str)[i]? = some cx := ec
      have iy : i < ys.length := by
        have := lt_of_at ec
        rw [List.length_map] at this
        exact this
      rw [List.getElem?_map] at ec
      obtain ⟨nm, hnm, rfl⟩ := Option.map_eq_some_iff.mp ec
      have inm := nm5 nm (List.mem_of_getElem? hnm)
      have ys6 : ys.length ≤ 6 := by omega
      refine ⟨T, [.int (i : Nat), .str nm], rfl, .inl (.inl upd_same), rfl, .int (i : Nat), [.str nm], rfl, .str nm, [], rfl, rfl, ?_⟩
      have k1 : Gr S (upd S T (.tup [.int (i : Nat), .str nm])) := Gr.new nT
      have d1 := d.gr k1
      have g1 : G2 m r S (upd S T (.tup [.int (i : Nat), .str nm])) := G2.gr k1
      have sh1 := k1.sqt (K := K) sh.sqt
      generalize upd S T (.tup [.int (i : Nat), .str nm]) = S1 at k1 d1 g1 sh1 ⊢
      -- what is given
      refine ⟨_, rfl, _, rfl, ph, _, rfl, .inr sh1, fun hl nhl => ⟨hl, 3, _, rfl, rfl, upd_same, lo63 _ (by decide), hi63 _ (by decide), ?_, fun rl nrl => ?_⟩⟩
      · rw [List.length_map]
        refine Nat.le_of_lt (small1000 ?_)
        show hd.length * 3 ≤ 1000
        omega
      have k2 : Gr S1 (upd (upd S1 hl (.lst (hd.map V.str))) rl (.lst (List.replicate 3 (hd.map V.str)).flatten)) := (Gr.new nhl).trans (Gr.new nrl)
      have e2 : upd (upd S1 hl (.lst (hd.map V.str))) rl (.lst (List.replicate 3 (hd.map V.str)).flatten) rl = some (.lst (List.replicate 3 (hd.map V.str)).flatten) := upd_same
      obtain ⟨nr1, nr2⟩ := (d1.gr (Gr.new (o := .lst (hd.map V.str)) nhl)).nm nrl
      have d2 := d1.gr k2
      change tLst _ _ (upd (upd S1 hl (.lst (hd.map V.str))) rl (.lst (List.replicate 3 (hd.map V.str)).flatten)) _
      generalize upd (upd S1 hl (.lst (hd.map V.str))) rl (.lst (List.replicate 3 (hd.map V.str)).flatten) = S2 at k2 e2 d2 ⊢
      refine ⟨_, rfl, by show 4 ≤ sizeLine; decide, fun l nl' => ?_⟩
      have k3 : Gr S2 (upd S2 l (.lst [.int 2, .int 3, .int 5, .int 9])) := Gr.new nl'
      have e3 : upd S2 l (.lst [.int 2, .int 3, .int 5, .int 9]) l = some (.lst [.int 2, .int 3, .int 5, .int 9]) := upd_same
      obtain ⟨nl1, nl2⟩ := d2.nm nl'
      have d3 := d2.gr k3
      generalize upd S2 l (.lst [.int 2, .int 3, .int 5, .int 9]) = S3 at k3 e3 d3 ⊢
      refine ⟨m, r, l, a, cs, _, _, rfl, d3, by omega, .inl ⟨.inl (.inl e3), nl1, nl2⟩, by simp, by decide, fun S4 ix x g4 d4 hx => ?_⟩
      obtain ⟨y, rfl, y2, y9'⟩ : ∃ y : Int, x = .int y ∧ 2 ≤ y ∧ y ≤ 9 := by
        have hm := List.mem_of_getElem? hx
        simp only [List.mem_cons, List.not_mem_nil, or_false] at hm
        rcases hm with rfl | rfl | rfl | rfl
        · exact ⟨2, rfl, by decide, by decide⟩
        · exact ⟨3, rfl, by decide, by decide⟩
        · exact ⟨5, rfl, by decide, by decide⟩
        · exact ⟨9, rfl, by decide, by decide⟩
      have e4 := g4.lst nr1 nr2 (k3.lst e2)
      have g14 : G2 m r S1 S4 := (G2.gr (k2.trans k3)).trans g4
      refine ⟨by show 2 ≤ sizeLine; decide, fun l2 nl2' => ?_⟩
      have k5 : Gr S4 (upd S4 l2 (.lst [.int 2, .int y])) := Gr.new nl2'
      have e5 : upd S4 l2 (.lst [.int 2, .int y]) l2 = some (.lst [.int 2, .int y]) := upd_same
      have e45 := k5.lst e4
      have d5 := d4.gr k5
      generalize upd S4 l2 (.lst [.int 2, .int y]) = S5 at k5 e5 e45 d5 ⊢
      have lr : (List.replicate 3 (hd.map V.str)).flatten.length ≤ 6 := by
        show (hd.map V.str ++ (hd.map V.str ++ (hd.map V.str ++ []))).length ≤ 6
        simp
        omega
      refine ⟨rl, l2, _, _, rfl, rfl, e45, e5, ?_, fun l3 nl3 => ?_⟩
      · refine Nat.le_of_lt (small1000 ?_)
        show _ + 2 ≤ 1000
        omega
      have k6 : Gr S5 (upd S5 l3 (.lst ((List.replicate 3 (hd.map V.str)).flatten ++ [.int 2, .int y]))) := Gr.new nl3
      have e6 : upd S5 l3 (.lst ((List.replicate 3 (hd.map V.str)).flatten ++ [.int 2, .int y])) l3 = some (.lst ((List.replicate 3 (hd.map V.str)).flatten ++ [.int 2, .int y])) := upd_same
      obtain ⟨nl31, nl32⟩ := d5.nm nl3
      have d6 := d5.gr k6
      generalize upd S5 l3 (.lst ((List.replicate 3 (hd.map V.str)).flatten ++ [.int 2, .int y])) = S6 at k6 e6 d6 ⊢
      refine ⟨m, r, l3, a, cs, _, _, rfl, d6, by omega, .inl ⟨.inl (.inl e6), nl31, nl32⟩, ?_, ?_, fun S7 ix7 x7 g7 d7 hx7 => ?_⟩
      · intro z
        have := congrArg List.length z
        rw [List.length_append] at this
        have z2 : (List.replicate 3 (hd.map V.str)).flatten.length + 2 = 0 := this
        omega
      · rw [List.length_append]
        show _ + 2 ≤ 1000
        omega
      obtain ⟨kn, rfl, gkn⟩ := gives_at y2 y9' hx7
      have g17 : G2 m r S1 S7 := g14.trans ((G2.gr (k5.trans k6)).trans g7)
      clear k2 e2 d2 k3 e3 d3 g4 d4 e4 g14 k5 e5 e45 d5 k6 e6 d6 g7 hx hx7 nhl nrl nl' nl2' nl3
      -- what is taken
      refine ⟨_, rfl, _, rfl, m, r, ph, a, cs, hd, _, rfl, d7, by omega, d1.kt g17 sh1, ghd.lo, ghd.hi, fun S8 t tk g8 d8 e8 l3' gk h2 => ?_⟩
      have g18 := g17.trans g8
      have gS8 := g1.trans g18
      have fin : ∀ (S9 : Hp) (tt t' : Addr) (e : De), e.nm = nm → goD hd e → (sn < i + 1 → ∃ e' ∈ es ++ [e], Plain e') → S9 tt = some (.tup [.str nm, .ref t', e.gv.v]) → S9 t' = some (.tup (e.tk.map Kn.v)) → G2 m r S S9 → Dr K S9 m r a cs (B + 50 + 20 * (i : Int) + 12) → ∀ (y8' y9'' : Option V),
          ∃ (y6 y7 y8 y9 : Option V) (xs' : List V) (es' : List De), [some (V.ref m), some (.int 6), some (.ref ph), some (.ref nl), some (.int (sn : Nat)), some (.ref dl), some (.int (i : Nat)), some (.str nm), y8', y9'', none] = [some (V.ref m), some (.int 6), some (.ref ph), some (.ref nl), some (.int (sn : Nat)), some (.ref dl), y6, y7, y8, y9, none] ∧
            upd S9 dl (.lst (xs ++ [.ref tt])) dl = some (.lst xs') ∧ DpAll K (upd S9 dl (.lst (xs ++ [.ref tt]))) xs' (es'.map De.d) ∧ es'.length = i + 1 ∧ es'.map De.nm = ys.take (i + 1) ∧ (∀ e ∈ es', goD hd e) ∧ (sn < i + 1 → ∃ e ∈ es', Plain e) ∧ upd S9 dl (.lst (xs ++ [.ref tt])) nl = some (.lst (ys.map V.str)) ∧ Tz (upd S9 dl (.lst (xs ++ [.ref tt]))) ph (hd.map V.str) ∧ G2 m r H (upd S9 dl (.lst (xs ++ [.ref tt]))) ∧ Dr K (upd S9 dl (.lst (xs ++ [.ref tt]))) m r a cs (B + 50 + 20 * ((i + 1 : Nat) : Int)) := by
        intro S9 tt t' e ne gd pl ett et g9 d9 y8' y9''
        have ed9 := g9.lst nd1 nd2 ed
        have kt9 : Kt K S9 (upd S9 dl (.lst (xs ++ [.ref tt]))) := kt_lst ed9
        refine ⟨_, _, _, _, xs ++ [.ref tt], es ++ [e], rfl, upd_same, ?_, ?_, ?_, ?_, pl, ?_, ?_, ?_, ?_⟩
        · refine Kt.dpA kt9 ?_ (noLA_map _ noL_de _)
          rw [List.map_append]
          refine dpA_app (Kt.dpA (d.kt g9) de (noLA_map _ noL_de _)) (.cons (.tup (.inl (.inl ett)) ?_) .nil)
          rw [← ne]
          exact .cons (.str _) (.cons (.tup (.inl (.inl et)) (dpA_kvs _)) (.cons (dp_kv _) .nil))
        · rw [List.length_append, le]
          rfl
        · rw [List.map_append, nme, List.take_add_one, hnm, ← ne]
          rfl
        · intro e' he
          rcases List.mem_append.mp he with h | h
          · exact ge e' h
          · rw [List.mem_singleton.mp h]
            exact gd
        · rw [upd_ne nnd]
          exact g9.lst nn1 nn2 en
        · exact (Tz.g2 d g9 sh).upd ((Tz.g2 d g9 sh).ne ed9)
        · exact (g.trans g9).upd_new hdl
        · exact (d9.upd nd1 nd2 od).mono (by omega)
      have ed8 := gS8.lst nd1 nd2 ed
      have lx : xs.length ≤ 6 := by
        have := dpA_len de
        rw [List.length_map] at this
        omega
      refine ⟨_, rfl, _, rfl, rfl, _, rfl, ?_⟩
      by_cases hs : i = sn
      · rw [decide_eq_true (show V.int ((i : Nat) : Int) = V.int ((sn : Nat) : Int) by rw [hs])]
        obtain ⟨z0, hz0⟩ : ∃ z0, hd[0]? = some z0 := ⟨hd[0]'(ghd.lo), List.getElem?_eq_getElem _⟩
        have sh8 := d1.kt g18 sh1
        refine iteT ⟨_, rfl, ph, _, 0, .str z0, rfl, rfl, sh8, atI_nat (j := 0) (by rw [List.getElem?_map, hz0]; rfl), ?_⟩
        refine ⟨_, rfl, t, rfl, ⟨_, .inl (.inl e8)⟩, fun D nD => ?_⟩
        refine lc_it (walk_tup (xs := tk.map Kn.v)) (fun j S9 => S9 D = some (.lst (((tk.take j).filter fun k => !k.isH).map Kn.v)) ∧ Gr S8 S9) ⟨upd_same, Gr.new nD⟩ ?c0 ?c1 ?c2
        case c0 =>
          rintro j S9 hj ⟨_, g9⟩
          exact .inl (.inl (g9.tup e8))
        case c1 =>
          rintro j z S9' S9 hj ⟨eD, g9⟩ ⟨rfl, hz⟩
          rw [List.getElem?_map] at hz
          obtain ⟨k', hk', rfl⟩ := Option.map_eq_some_iff.mp hz
          have gk' := gk k' (List.mem_of_getElem? hk')
          refine ⟨rfl, _, rfl, _, rfl, ph, _, rfl, .inr (g9.sqt sh8), flat_kn k', flat_strs hd, _, rfl, ?_⟩
          rw [show (if true = true then !inV k'.v (hd.map V.str) else inV k'.v (hd.map V.str)) = !k'.isH from congrArg not (inV_kn gk')]
          cases hk : k'.isH with
          | true =>
            refine iteF ⟨?_, g9⟩
            rw [filt_takeN hk', hk]
            simpa using eD
          | false =>
            refine iteT ⟨_, rfl, _, eD, ?_, ?_, g9.upd_new nD⟩
            · rw [List.length_map]
              refine small1000 ?_
              have := List.length_filter_le (fun k : Kn => !k.isH) (tk.take j)
              rw [List.length_take] at this
              omega
            · rw [upd_same, filt_takeN hk', hk, List.map_append]
              rfl
        case c2 =>
        rintro S9 ⟨eD, g9⟩
        rw [List.length_map, List.take_length] at eD
        refine ⟨D, _, rfl, .inl ⟨.inl (.inl eD), fun td ntd => ⟨_, _, rfl, ?_⟩⟩⟩
        have k10 : Gr S9 (upd S9 td (.tup ((tk.filter fun k => !k.isH).map Kn.v))) := Gr.new ntd
        have e10 : upd S9 td (.tup ((tk.filter fun k => !k.isH).map Kn.v)) td = some (.tup ((tk.filter fun k => !k.isH).map Kn.v)) := upd_same
        generalize upd S9 td (.tup ((tk.filter fun k => !k.isH).map Kn.v)) = S10 at k10 e10 ⊢
        have k810 := g9.trans k10
        refine ⟨_, rfl, .inl ⟨rfl, _, .inl (.inl (k810.lst ed8))⟩, _, rfl, _, rfl, _, rfl, by show 3 ≤ sizeLine; decide, fun tt ntt => ?_⟩
        have k11 : Gr S10 (upd S10 tt (.tup [.str nm, .ref td, .str z0])) := Gr.new ntt
        refine ⟨dl, _, _, rfl, rfl, (k810.trans k11).lst ed8, small1000 (by omega), ?_⟩
        have fe : (tk.filter fun k => !k.isH).length ≤ 3 := Nat.le_trans (List.length_filter_le _ _) l3'
        have fh : hidN (tk.filter fun k => !k.isH) = 0 := by
          unfold hidN
          rw [List.filter_filter]
          have : (tk.filter fun a => a.isH && !a.isH) = [] := by
            rw [List.filter_eq_nil_iff]
            intro k _
            cases k.isH <;> simp
          rw [this]
          rfl
        refine fin _ tt td ⟨nm, tk.filter fun k => !k.isH, .h z0⟩ rfl ⟨inm, fe, fun k hk => gk k (List.mem_filter.mp hk).1, by show hidN _ ≤ 2; rw [fh]; decide, List.mem_of_getElem? hz0⟩ (fun _ => ⟨_, List.mem_append_right _ (List.mem_singleton.mpr rfl), fun k hk => ?_⟩) upd_same (k11.tup e10) (gS8.trans (G2.gr (k810.trans k11))) ((d8.gr (k810.trans k11)).mono (by omega)) _ _
        have := (List.mem_filter.mp hk).2
        simpa using this
      · rw [decide_eq_false (show ¬ V.int ((i : Nat) : Int) = V.int ((sn : Nat) : Int) from fun z => hs (by have := V.int.inj z; omega))]
        refine iteF ⟨_, rfl, .inl ⟨rfl, _, .inl (.inl ed8)⟩, _, rfl, _, rfl, _, rfl, by show 3 ≤ sizeLine; decide, fun tt ntt => ?_⟩
        have k11 : Gr S8 (upd S8 tt (.tup [.str nm, .ref t, kn.v])) := Gr.new ntt
        refine ⟨dl, _, _, rfl, rfl, k11.lst ed8, small1000 (by omega), ?_⟩
        refine fin _ tt t ⟨nm, tk, kn⟩ rfl ⟨inm, l3', gk, h2, gkn⟩ (fun h => ?_) upd_same (k11.tup e8) (gS8.trans (G2.gr k11)) ((d8.gr k11).mono (by omega)) _ _
        obtain ⟨e', he, hp⟩ := pe (by omega)
        exact ⟨e', List.mem_append_left _ he, hp⟩
end
end SfC
namespace SfC
open PySem PySem.Spec PyProof.Rows L2 SfG
/-! ### users, drawn -/
abbrev nLUser : List Str := ["_law_m", "_law_face_here", "_law_many", "_law_rows", "_law_kinds", "_law_k", "_law_some", "_law_name", "_law_takes", "_law_gives", "_law_kind", "_law_handed", "_law_ahead", "_law_number", "_law_had"]
theorem scLUser : FnScope nLUser ["_law_m", "_law_face_here", "_law_many"] (defScope sLUser) := ⟨rfl, rfl, rfl, by decide +kernel, rfl, by decide +kernel, by decide +kernel⟩
theorem kn_v_inj {a b : Kn} (h : a.v = b.v) : a = b := by
  cases a with
  | h s =>
    cases b with
    | h t => cases h; rfl
    | p n => cases h
  | p n =>
    cases b with
    | h t => cases h
    | p n' => cases h; rfl
instance decKn : DecidableEq Kn := fun a b => decidable_of_iff (a.v = b.v) ⟨kn_v_inj, fun e => congrArg Kn.v e⟩
theorem eqV_str {a b : Str} : eqV (.str a) (.str b) = decide (a = b) := by
  by_cases h : a = b
  · subst h
    simp [eqV]
  · rw [decide_eq_false h]
    simp [eqV]
    exact h
theorem eqV_kn {a b : Kn} (h : eqV a.v b.v = true) : a = b := by
  cases a with
  | h s =>
    cases b with
    | h t =>
      have : eqV (.str s) (.str t) = true := h
      rw [eqV_str, decide_eq_true_eq] at this
      rw [this]
    | p n => simp [Kn.v, eqV] at h
  | p n =>
    cases b with
    | h t => simp [Kn.v, eqV] at h
    | p n' =>
      have : n = n' := by simpa [Kn.v, eqV] using h
      rw [this]
/-- whether it stands among them -/
theorem scal_kn (a b : Kn) : scal a.v b.v = true := by cases a <;> cases b <;> rfl
def memK (gv : List Kn) (k : Kn) : Bool := inV k.v (gv.map Kn.v)
theorem memK_at {gv : List Kn} {k : Kn} (h : memK gv k = true) : ∃ j : Nat, gv[j]? = some k := by
  unfold memK inV at h
  rw [List.any_map] at h
  obtain ⟨y, hy, e⟩ := List.any_eq_true.mp h
  have e' : eqV k.v y.v = true ∨ eqV y.v k.v = true := by
    first
      | exact .inl e
      | exact .inr e
  have : y = k := by
    rcases e' with e' | e'
    · exact (eqV_kn e').symm
    · exact eqV_kn e'
  obtain ⟨j, hj⟩ := List.mem_iff_getElem?.mp hy
  exact ⟨j, by rw [hj, this]⟩
theorem flat_kns (gv : List Kn) : (gv.map Kn.v).all flatV = true := by
  rw [List.all_map]
  exact List.all_eq_true.mpr fun k _ => flat_kn k
/-- what a deed lacks -/
def lack (gv : List Kn) (k : Kn) : Bool := k.isH && !memK gv k
def avl (gv : List Kn) (e : De) : Bool := (e.tk.filter (lack gv)).isEmpty
theorem avl_has {gv : List Kn} {e : De} (h : avl gv e = true) : ∀ k ∈ e.tk, k.isH = true → ∃ j : Nat, gv[j]? = some k := by
  intro k hk hh
  have e1 : e.tk.filter (lack gv) = [] := List.isEmpty_iff.mp h
  have e2 := List.filter_eq_nil_iff.mp e1 k hk
  unfold lack at e2
  rw [hh] at e2
  refine memK_at ?_
  simpa using e2
theorem plain_avl {gv : List Kn} {e : De} (h : Plain e) : avl gv e = true := by
  unfold avl
  rw [List.isEmpty_iff, List.filter_eq_nil_iff]
  intro k hk
  unfold lack
  rw [h k hk]
  simp
theorem take_filt {α : Type} {l : List α} {i : Nat} {k : α} (g : α → Bool) (h : l[i]? = some k) : (l.take (i + 1)).filter g = (l.take i).filter g ++ (if g k then [k] else []) := by
  rw [List.take_add_one, h, List.filter_append]
  cases hk : g k <;> simp [hk]
/-- the places at which a kind stands -/
def plcs (gv : List Kn) (k : Kn) (i : Nat) : List Nat := (List.range i).filter fun j => decide (gv[j]? = some k)
theorem plcs_succ (gv : List Kn) (k : Kn) (i : Nat) : plcs gv k (i + 1) = plcs gv k i ++ (if gv[i]? = some k then [i] else []) := by
  unfold plcs
  rw [List.range_succ, List.filter_append]
  by_cases h : gv[i]? = some k <;> simp [h]
theorem plcs_len (gv : List Kn) (k : Kn) (i : Nat) : (plcs gv k i).length ≤ i := by
  have := List.length_filter_le (fun j => decide (gv[j]? = some k)) (List.range i)
  rw [List.length_range] at this
  exact this
theorem plcs_mem {gv : List Kn} {k : Kn} {i j : Nat} (h : j ∈ plcs gv k i) : gv[j]? = some k := by
  have := (List.mem_filter.mp h).2
  simpa using this
theorem plcs_has {gv : List Kn} {k : Kn} {j : Nat} (h : gv[j]? = some k) : j ∈ plcs gv k gv.length :=
  List.mem_filter.mpr ⟨List.mem_range.mpr (lt_of_at h), decide_eq_true h⟩
theorem Fits.snoc {gv : List Kn} {k : Kn} {h : Nat} (o : okH gv k h) : ∀ {ks : List Kn} {hs : List Nat}, Fits gv ks hs → Fits gv (ks ++ [k]) (hs ++ [h])
  | _, _, .nil => .cons o .nil
  | _, _, .cons a t => .cons a (t.snoc o)
section
variable {P : Program} {w : World} {K : PySem.W.Frag} {mg : Str → Option Value} {base : Heap}
def spLUser (K : PySem.W.Frag) : Sp := fun vs H Q _ => ∃ (m r : Addr) (x : V) (f : Fc) (a : Src) (cs : List Int) (n : Nat) (B : Int), vs = [.ref m, x, .int (n : Nat)] ∧ Dr K H m r a cs B ∧ B ≤ 800000 ∧ Dp K H x f.d ∧ goF f ∧ (∃ e ∈ f.ds, Plain e) ∧ 1 ≤ n ∧ n ≤ 200 ∧
  ∀ H' v (u : List Ur), G2 m r H H' → Dr K H' m r a cs (B + 5 * (n : Int)) → Dp K H' v (usD u) → GoU f u → u.length = n → Q v H'
set_option maxHeartbeats 4000000 in
theorem ok_luser {f fD fO : Addr} {fd dD dO : FuncData} {k : Nat} (F : Fun K "_law_user" "_law_user" sLUser f fd) (HD : Has P w K mg base k "_law_draw" ["_law_m", "_law_many"] (spDrw K) fD dD) (HO_ : Has P w K mg base k "_law_of" ["_law_m", "_law_some"] (spOf K) fO dO)
    (mr : mg "range" = none) (me : mg "enumerate" = none) (mt : mg "tuple" = none) : FnOk P w K mg base CX0 (k + 1) f fd ["_law_m", "_law_face_here", "_law_many"] (spLUser K) := by
  refine F.ok scLUser (fun vs H Q E h => ?_) (fun cdv A outer s H vs Q E hr h => ?_)
  · obtain ⟨m, r, x, f, a, cs, n, B, rfl, _⟩ := h
    rfl
  · obtain ⟨m, r, x, f, a, cs, n, B, rfl, d0, hB, hx, go, hpl, n1, n12, q⟩ := h
    have nd := scLUser.nd
    refine' ⟨_, pss_cons ?s1 (pss_cons ?s2 (pss_one ?s3)), ?rd⟩
    case s1 => exact ps_asg (pe_tup (pa_cons (pe_lst pa_nil) (pa_cons (pe_lst pa_nil) pa_nil))) (pg_tup rfl (pgs_cons (pg_name (i := 3) nd rfl (.inl rfl)) (pgs_cons (pg_name (i := 4) nd rfl (.inr rfl)) pgs_nil)))
    case s2 =>
      refine' ps_for PassesOwn.never rfl (pi_range1 (by rfl) mr (pa_cons (pv 2) pa_nil)) (pg_name (i := 5) nd rfl (.inl rfl)) (pss_cons ?b1 (pss_cons ?b2 (pss_cons ?b3 (pss_cons ?b4 (pss_cons ?b5 (pss_cons ?b6 (pss_one ?b7)))))))
      case b1 => exact ps_set (i := 6) nd rfl (.inl rfl) (pe_lst pa_nil)
      case b2 =>
        exact ps_for PassesOwn.never rfl (pi_tup (pe_ix ix_tup (pv 1) pe_int (fun _ _ => rfl))) (pg_tup rfl (pgs_cons (pg_name (i := 7) nd rfl (.inl rfl)) (pgs_cons (pg_name (i := 8) nd rfl (.inl rfl)) (pgs_cons (pg_name (i := 9) nd rfl (.inl rfl)) pgs_nil))))
          (pss_one (ps_if (pt_cmpR (op_eqL0 hr) (pe_lc (own := [("_law_kind", 10)]) (g := gName 10) rfl nd (pi_tup (pv 8)) (blkOk_by (own := [("_law_kind", 10)]) (N := nLUser) (sc := defScope sLUser) (by decide +kernel)) (fun _ _ _ _ _ => pg_name (i := 10) nd rfl (.inl rfl))
              (fun _ _ _ _ _ => pts_one (PW.pt (pw_and (pt_cmpR (r := rIn K false) op_in_seq (pv 10) (pe_ix (r := rIxT K) ix_tup (pv 1) pe_int (fun _ _ => rfl)) rfl) (pw_and1 (pt_cmpR (r := rIn K true) op_notIn_seq (pv 10) (pv 4) rfl))))) (fun _ _ _ _ _ => pv 10)) (pe_lst pa_nil) (nomark _))
            (pss_one (ps_expr (pe_bm PySem.F.plainAttrs_list PySem.F.slot_list_append PySem.F.type_list_append mt_append (pv 6) (pa_cons (pe_tup (pa_cons (pv 7) (pa_cons (pv 8) (pa_cons (pv 9) pa_nil)))) pa_nil)))) pss_nil))
      case b3 => exact ps_asg (hcall HO_ hr (pa_cons (pv 0) (pa_cons (pv 6) pa_nil))) (pg_tup rfl (pgs_cons (pg_name (i := 7) nd rfl (.inl rfl)) (pgs_cons (pg_name (i := 8) nd rfl (.inl rfl)) (pgs_cons (pg_name (i := 9) nd rfl (.inl rfl)) pgs_nil))))
      case b4 => exact ps_set (i := 11) nd rfl (.inl rfl) (pe_lst pa_nil)
      case b5 =>
        refine' ps_for PassesOwn.never rfl (pi_tup (pv 8)) (pg_name (i := 10) nd rfl (.inr rfl)) (pss_cons ?c1 (pss_one ?c2))
        case c1 =>
          exact ps_setLc (i := 12) (own := [("_law_number", 13), ("_law_had", 14)]) (g := gTup K 2 (gCons (gName 13) (gCons (gName 14) gNil))) rfl nd rfl rfl (sw_true rfl rfl rfl (by decide +kernel)) (pi_enum (by rfl) me (pa_cons (pv 4) pa_nil)) (blkOk_by (own := [("_law_number", 13), ("_law_had", 14)]) (N := nLUser) (sc := defScope sLUser) (by decide +kernel))
            (fun _ _ _ _ _ => pg_tup rfl (pgs_cons (pg_name (i := 13) nd rfl (.inl rfl)) (pgs_cons (pg_name (i := 14) nd rfl (.inl rfl)) pgs_nil))) (fun _ _ _ _ _ => pts_one (pt_cmpR op_eq (pv 14) (pv 10) (nomark _))) (fun _ _ _ _ _ => pv 13)
        case c2 =>
          exact ps_expr (pe_bm PySem.F.plainAttrs_list PySem.F.slot_list_append PySem.F.type_list_append mt_append (pv 11) (pa_cons (pe_ifExp (pt_cmpR op_in_seq (pv 10) (pe_ix ix_tup (pv 1) pe_int (fun _ _ => rfl)) rfl) (hcall HO_ hr (pa_cons (pv 0) (pa_cons (pv 12) pa_nil))) (hcall HD hr (pa_cons (pv 0) (pa_cons (pv 10) pa_nil)))) pa_nil))
      case b6 => exact ps_expr (pe_bm PySem.F.plainAttrs_list PySem.F.slot_list_append PySem.F.type_list_append mt_append (pv 3) (pa_cons (pe_tup (pa_cons (pv 7) (pa_cons (pe_callTy call_tuple_of (by rfl) mt (by decide +kernel) (pa_cons (pv 11) pa_nil)) pa_nil))) pa_nil))
      case b7 => exact ps_expr (pe_bm PySem.F.plainAttrs_list PySem.F.slot_list_append PySem.F.type_list_append mt_append (pv 4) (pa_cons (pv 9) pa_nil))
    case s3 => exact ps_ret (pe_callTy call_tuple_of (by rfl) mt (by decide +kernel) (pa_cons (pv 3) pa_nil))
    case rd =>
    obtain ⟨pf, ph, pd, fxs, rfl, hpf, hph, hpd, dd⟩ := dp_face hx
    have lfx : fxs.length = f.ds.length := by
      have := dpA_len dd
      rw [List.length_map] at this
      exact this
    have hi8 := go.hi
    refine ⟨by show 0 ≤ sizeLine; decide, fun rl nrl => ?_⟩
    have k1 : Gr H (upd H rl (.lst [])) := Gr.new nrl
    have e1 : upd H rl (.lst []) rl = some (.lst []) := upd_same
    obtain ⟨nr1, nr2⟩ := d0.nm nrl
    have or_ := d0.off nrl
    have d1 := d0.gr k1
    generalize upd H rl (.lst []) = H1 at k1 e1 d1 ⊢
    refine ⟨by show 0 ≤ sizeLine; decide, fun kl nkl => ?_⟩
    have k2 : Gr H1 (upd H1 kl (.lst [])) := Gr.new nkl
    have e2 : upd H1 kl (.lst []) kl = some (.lst []) := upd_same
    obtain ⟨nk1, nk2⟩ := d1.nm nkl
    have ok_ := d1.off nkl
    have hkl : H kl = none := k1.back kl nkl
    have nrk : rl ≠ kl := ne_of_none e1 nkl
    have d2 := d1.gr k2
    have e12 := k2.lst e1
    generalize upd H1 kl (.lst []) = H2 at k2 e2 d2 e12 ⊢
    refine ⟨by show 2 ≤ sizeLine; decide, fun tt ntt => ?_⟩
    have k3 : Gr H2 (upd H2 tt (.tup [.ref rl, .ref kl])) := Gr.new ntt
    have e3 : upd H2 tt (.tup [.ref rl, .ref kl]) tt = some (.tup [.ref rl, .ref kl]) := upd_same
    have d3 := d2.gr k3
    have er3 := k3.lst e12
    have ek3 := k3.lst e2
    have g3 : G2 m r H (upd H2 tt (.tup [.ref rl, .ref kl])) := G2.gr (k1.trans (k2.trans k3))
    generalize upd H2 tt (.tup [.ref rl, .ref kl]) = H3 at k3 e3 d3 er3 ek3 g3 ⊢
    clear k1 e1 d1 k2 e2 d2 e12 k3 nkl ntt
    refine ⟨tt, _, rfl, .inl (.inl e3), rfl, _, _, rfl, _, _, rfl, rfl, ?_⟩
    refine ⟨_, rfl, (n : Nat), rfl, by omega, by omega, ?_⟩
    refine for_it (walk_range (lo := 0) (n := ((n : Nat) : Int).toNat)) (fun i σ S => ∃ (y5 y6 y7 y8 y9 y10 y11 y12 : Option V) (xs : List V) (u : List Ur), σ = [some (.ref m), some (.ref pf), some (.int (n : Nat)), some (.ref rl), some (.ref kl), y5, y6, y7, y8, y9, y10, y11, y12, none, none] ∧
      S rl = some (.lst xs) ∧ DpAll K S xs (u.map Ur.d) ∧ S kl = some (.lst ((gvs u).map Kn.v)) ∧ u.length = i ∧ (∀ j r, u[j]? = some r → r.e ∈ f.ds ∧ Fits ((gvs u).take j) r.e.tk r.hs) ∧ G2 m r H S ∧ Dr K S m r a cs (B + 5 * (i : Int)))
      ⟨none, none, none, none, none, none, none, none, [], [], rfl, er3, .nil, ek3, rfl, by simp, g3, d3.mono (by omega)⟩ (fun _ _ _ _ _ => trivial) ?h2 ?h3
    case h3 =>
      rintro σ S ⟨y5, y6, y7, y8, y9, y10, y11, y12, xs, u, rfl, er, du, ek, lu, ou, g, d⟩
      refine ⟨_, rfl, rl, _, rfl, .inl ⟨.inl (.inl er), fun td ntd => ?_⟩⟩
      exact q _ (.ref td) u (g.trans (G2.gr (Gr.new ntd))) ((d.gr (Gr.new ntd)).mono (by omega)) (.tup (.inl (.inl upd_same)) ((Gr.new ntd).kd.dpA du)) ⟨by omega, by omega, ou⟩ (by omega)
    case h2 =>
      rintro i y σ S' S hi ⟨y5, y6, y7, y8, y9, y10, y11, y12, xs, u, rfl, er, du, ek, lu, ou, g, d⟩ ⟨rfl, rfl⟩
      have i12 : i < n := by omega
      have lgv : (gvs u).length = i := by
        unfold gvs
        rw [List.length_map, lu]
      have hpfS := d0.kt g hpf
      have hphS := d0.kt g hph
      have hpdS := d0.kt g hpd
      have ddS := Kt.dpA (d0.kt g) dd (noLA_map _ noL_de _)
      generalize hgv : gvs u = gv at ek ou lgv
      -- the deeds that may stand here
      refine ⟨by show 0 ≤ sizeLine; decide, fun sl nsl => ?_⟩
      obtain ⟨ns1, ns2⟩ := d.nm nsl
      have os_ := d.off nsl
      have k1 : Gr S (upd S sl (.lst [])) := Gr.new nsl
      have e1 : upd S sl (.lst []) sl = some (.lst []) := upd_same
      generalize upd S sl (.lst []) = S1 at k1 e1 ⊢
      refine ⟨_, rfl, pf, _, 1, _, rfl, rfl, k1.sqt hpfS, rfl, pd, rfl, ⟨_, k1.sqt hpdS⟩, ?_⟩
      refine for_it (walk_tup (xs := fxs)) (fun j σ S2 => ∃ (y7 y8 y9 y10 : Option V) (zs : List V), σ = [some (.ref m), some (.ref pf), some (.int (n : Nat)), some (.ref rl), some (.ref kl), some (.int (0 + (i : Int))), some (.ref sl), y7, y8, y9, y10, y11, y12, none, none] ∧
        S2 sl = some (.lst zs) ∧ DpAll K S2 zs (((f.ds.take j).filter (avl gv)).map De.d) ∧ Gr S S2) ⟨_, _, _, _, [], rfl, e1, .nil, k1⟩ ?i1 ?i2 ?i3
      case i1 =>
        rintro j σ S2 hj ⟨_, _, _, _, zs, rfl, es, dz, g2⟩
        exact g2.sqt hpdS
      case i2 =>
        rintro j b σ S2' S2 hj ⟨z7, z8, z9, z10, zs, rfl, es, dz, g2⟩ ⟨rfl, hb⟩
        obtain ⟨e, he, de⟩ := dpA_de (g2.kd.dpA ddS) hb
        obtain ⟨pe, nn, tt', vv, rfl, hpe, dn, dt, dg⟩ := dp_3 de
        cases dp_str dn
        cases dp_kn dg
        obtain ⟨pt, ts, rfl, hpt, hts⟩ := dp_tup dt
        cases dpA_kns hts
        have ge := go.ok e (List.mem_of_getElem? he)
        refine ⟨pe, _, rfl, hpe, rfl, _, _, rfl, _, _, rfl, _, _, rfl, rfl, ?_⟩
        refine ⟨_, rfl, pt, rfl, ⟨_, hpt⟩, fun D nD => ?_⟩
        refine lc_it (walk_tup (xs := e.tk.map Kn.v)) (fun t S3 => S3 D = some (.lst (((e.tk.take t).filter (lack gv)).map Kn.v)) ∧ Gr S2 S3) ⟨upd_same, Gr.new nD⟩ ?c0 ?c1 ?c2
        case c0 =>
          rintro t S3 ht ⟨_, g3⟩
          exact g3.sqt hpt
        case c1 =>
          rintro t z S3' S3 ht ⟨eD, g3⟩ ⟨rfl, hz⟩
          rw [List.getElem?_map] at hz
          obtain ⟨kn, hkn, rfl⟩ := Option.map_eq_some_iff.mp hz
          have gkn := ge.tk kn (List.mem_of_getElem? hkn)
          have g23 := g2.trans g3
          refine ⟨rfl, _, rfl, _, rfl, pf, _, 0, _, rfl, rfl, g23.sqt hpfS, rfl, ph, _, rfl, .inr (g23.sqt hphS), flat_kn kn, flat_strs f.hd, _, rfl, ?_⟩
          rw [show (if false = true then !inV kn.v (f.hd.map V.str) else inV kn.v (f.hd.map V.str)) = kn.isH from inV_kn gkn]
          have no : lack gv kn = false → (S3 D = some (.lst (((e.tk.take (t + 1)).filter (lack gv)).map Kn.v)) ∧ Gr S2 S3) := fun hl => by
            refine ⟨?_, g3⟩
            rw [take_filt (lack gv) hkn, hl]
            simpa using eD
          cases hk : kn.isH with
          | false => exact iteF (no (by unfold lack; rw [hk]; rfl))
          | true =>
            refine iteT ⟨_, rfl, _, rfl, kl, _, rfl, .inl (.inl (.inl (g23.lst ek))), flat_kn kn, flat_kns gv, _, rfl, ?_⟩
            rw [show (if true = true then !inV kn.v (gv.map Kn.v) else inV kn.v (gv.map Kn.v)) = !memK gv kn from rfl]
            cases hm : memK gv kn with
            | true => exact iteF (no (by unfold lack; rw [hk, hm]; rfl))
            | false =>
              have hl : lack gv kn = true := by unfold lack; rw [hk, hm]; rfl
              refine iteT ⟨_, rfl, _, eD, ?_, ?_, g3.upd_new nD⟩
              · rw [List.length_map]
                refine small1000 ?_
                have a1 := List.length_filter_le (lack gv) (e.tk.take t)
                have a2 := ge.len
                rw [List.length_take] at a1
                omega
              · rw [upd_same, take_filt (lack gv) hkn, hl, List.map_append]
                rfl
        case c2 =>
        rintro S3 ⟨eD, g3⟩
        rw [List.length_map, List.take_length] at eD
        refine ⟨by show 0 ≤ sizeLine; decide, fun e0 ne0 => ?_⟩
        have k4 : Gr S3 (upd S3 e0 (.lst [])) := Gr.new ne0
        refine ⟨D, e0, _, rfl, rfl, .inl (.inl (k4.lst eD)), .inl (.inl upd_same), _, rfl, ?_⟩
        rw [show ((e.tk.filter (lack gv)).map Kn.v).isEmpty = avl gv e from List.isEmpty_map ..]
        have k24 := g3.trans k4
        have es4 := k24.lst es
        have dz4 := k24.kd.dpA dz
        have hpt4 := k24.sqt hpt
        have g4 := g2.trans k24
        generalize upd S3 e0 (.lst []) = S4 at k4 k24 es4 dz4 hpt4 g4 ⊢
        cases ha : avl gv e with
        | false =>
          refine iteF ⟨_, _, _, _, zs, rfl, es4, ?_, g4⟩
          rw [take_filt (avl gv) he, ha]
          simpa using dz4
        | true =>
          refine iteT ⟨_, rfl, .inl ⟨rfl, _, .inl (.inl es4)⟩, _, rfl, _, rfl, _, rfl, by show 3 ≤ sizeLine; decide, fun tt ntt => ?_⟩
          have k5 : Gr S4 (upd S4 tt (.tup [.str e.nm, .ref pt, e.gv.v])) := Gr.new ntt
          have e5 : upd S4 tt (.tup [.str e.nm, .ref pt, e.gv.v]) tt = some (.tup [.str e.nm, .ref pt, e.gv.v]) := upd_same
          have es5 := k5.lst es4
          have dz5 := k5.kd.dpA dz4
          have hpt5 := k5.sqt (K := K) hpt4
          have g5 := g4.trans k5
          generalize upd S4 tt (.tup [.str e.nm, .ref pt, e.gv.v]) = S5 at k5 e5 es5 dz5 hpt5 g5 ⊢
          have lz : zs.length ≤ 8 := by
            have a1 := dpA_len dz
            rw [List.length_map] at a1
            have a2 := List.length_filter_le (avl gv) (f.ds.take j)
            rw [List.length_take] at a2
            omega
          refine ⟨sl, _, _, rfl, rfl, es5, small1000 (by omega), _, _, _, _, zs ++ [.ref tt], rfl, upd_same, ?_, g5.upd_new nsl⟩
          rw [take_filt (avl gv) he, ha, if_pos rfl, List.map_append]
          exact Kt.dpA (kt_lst es5) (dpA_app dz5 (.cons (.tup (.inl (.inl e5)) (.cons (.str _) (.cons (.tup hpt5 (dpA_kvs _)) (.cons (dp_kv _) .nil)))) .nil)) (by rw [← List.map_append]; exact noLA_map _ noL_de _)
      case i3 =>
      rintro σ S2 ⟨z7, z8, z9, z10, zs, rfl, es, dz, g2⟩
      rw [lfx, List.take_length] at dz
      have d2 := d.gr g2
      have lz : zs.length = (f.ds.filter (avl gv)).length := by
        have := dpA_len dz
        rw [List.length_map] at this
        exact this
      have lz8 : (f.ds.filter (avl gv)).length ≤ 8 := Nat.le_trans (List.length_filter_le _ _) hi8
      have zne : zs ≠ [] := by
        obtain ⟨e0, he0, hp0⟩ := hpl
        intro z
        rw [z] at lz
        have := List.length_eq_zero_iff.mp lz.symm
        rw [List.filter_eq_nil_iff] at this
        exact this e0 he0 (plain_avl hp0)
      refine ⟨_, rfl, _, rfl, m, r, sl, a, cs, zs, _, rfl, d2, by omega, .inl ⟨.inl (.inl es), ns1, ns2⟩, zne, by omega, fun S3 ix z g3 d3 hz => ?_⟩
      obtain ⟨e, he, de⟩ := dpA_de dz hz
      have hef := List.mem_filter.mp (List.mem_of_getElem? he)
      have hem := hef.1
      have ge := go.ok e hem
      have has := avl_has hef.2
      have de3 := Kt.dp (d2.kt g3) de (noL_de _)
      obtain ⟨pe, nn, tt', vv, rfl, hpe, dn, dt, dg⟩ := dp_3 de3
      cases dp_str dn
      cases dp_kn dg
      obtain ⟨pt, ts, rfl, hpt, hts⟩ := dp_tup dt
      cases dpA_kns hts
      refine ⟨pe, _, rfl, hpe, rfl, _, _, rfl, _, _, rfl, _, _, rfl, rfl, ?_⟩
      refine ⟨by show 0 ≤ sizeLine; decide, fun hl nhl => ?_⟩
      obtain ⟨nh1, nh2⟩ := d3.nm nhl
      have oh := d3.off nhl
      have gS3 : G2 m r S S3 := (G2.gr g2).trans g3
      have shl : S hl = none := gS3.back hl nh1 nh2 nhl
      have k4 : Gr S3 (upd S3 hl (.lst [])) := Gr.new nhl
      have e4 : upd S3 hl (.lst []) hl = some (.lst []) := upd_same
      have d4 := d3.gr k4
      have hpt4 := k4.sqt (K := K) hpt
      have gS4 : G2 m r S (upd S3 hl (.lst [])) := gS3.trans (G2.gr k4)
      generalize upd S3 hl (.lst []) = S4 at k4 e4 d4 hpt4 gS4 ⊢
      clear k1 e1 g2 d2 es dz lz zne hz he hef de de3 dn dt dg hts hpe hpt g3 d3 gS3 k4 nhl nsl
      refine ⟨_, rfl, pt, rfl, ⟨_, hpt4⟩, ?_⟩
      refine for_it (walk_tup (xs := e.tk.map Kn.v)) (fun j σ S5 => ∃ (y10 y12 : Option V) (hs : List Nat), σ = [some (.ref m), some (.ref pf), some (.int (n : Nat)), some (.ref rl), some (.ref kl), some (.int (0 + (i : Int))), some (.ref sl), some (.str e.nm), some (.ref pt), some e.gv.v, y10, some (.ref hl), y12, none, none] ∧
        S5 hl = some (.lst (hsV hs)) ∧ hs.length = j ∧ Fits gv (e.tk.take j) hs ∧ G2 m r S S5 ∧ SqT K S5 pt (e.tk.map Kn.v) ∧ Dr K S5 m r a cs (B + 5 * (i : Int) + 1 + (j : Int))) ⟨_, _, [], rfl, e4, rfl, .nil, gS4, hpt4, d4.mono (by omega)⟩ ?j1 ?j2 ?j3
      case j1 =>
        rintro j σ S5 hj ⟨_, _, hs, rfl, eh, lh, fit, g5, hp5, d5⟩
        exact hp5
      case j2 =>
        rintro j v σ S5' S5 hj ⟨y10', y12', hs, rfl, eh, lh, fit, g5, hp5, d5⟩ ⟨rfl, hv⟩
        rw [List.getElem?_map] at hv
        obtain ⟨kn, hkn, rfl⟩ := Option.map_eq_some_iff.mp hv
        have gkn := ge.tk kn (List.mem_of_getElem? hkn)
        have hkm := List.mem_of_getElem? hkn
        have j3' : j < 3 := by
          have a1 := lt_of_at hkn
          have a2 := ge.len
          omega
        have ek5 := g5.lst nk1 nk2 ek
        refine ⟨_, rfl, kl, _, rfl, .inl (.inl ek5), fun D nD => ?_⟩
        refine lc_it (walk_enum (xs := gv.map Kn.v)) (fun t S6 => S6 D = some (.lst (hsV (plcs gv kn t))) ∧ Gr S5 S6) ⟨upd_same, Gr.new nD⟩ ?e0 ?e1 ?e2
        case e0 =>
          rintro t S6 ht ⟨_, g6⟩
          exact .inl (.inl (g6.lst ek5))
        case e1 =>
          rintro t z S6 S6' ht ⟨eD, g6⟩ ⟨T, kx, cx, rfl, nT, rfl, ek', ec⟩
          cases ek'
          replace ec : (gv.map Kn.v)[t]? = some cx := ec
          rw [List.getElem?_map] at ec
          obtain ⟨kn', hkn', rfl⟩ := Option.map_eq_some_iff.mp ec
          have tl := lt_of_at hkn'
          refine ⟨T, [.int (t : Nat), kn'.v], rfl, .inl (.inl upd_same), rfl, _, [kn'.v], rfl, _, [], rfl, rfl, ?_⟩
          have g7 : Gr S5 (upd S6 T (.tup [.int (t : Nat), kn'.v])) := g6.trans (Gr.new nT)
          have eD7 := (Gr.new (o := .tup [.int (t : Nat), kn'.v]) nT).lst eD
          generalize upd S6 T (.tup [.int (t : Nat), kn'.v]) = S7 at g7 eD7 ⊢
          refine ⟨rfl, _, rfl, _, rfl, scal_kn kn' kn, _, rfl, ?_⟩
          by_cases hk : kn'.v = kn.v
          · rw [decide_eq_true hk]
            have hk2 := kn_v_inj hk
            refine iteT ⟨_, rfl, _, eD7, ?_, ?_, g7.upd_new nD⟩
            · rw [hsV_len]
              have := plcs_len gv kn t
              exact small1000 (by omega)
            · rw [upd_same, plcs_succ, if_pos (by rw [hkn', hk2])]
              unfold hsV
              rw [List.map_append]
              rfl
          · rw [decide_eq_false hk]
            refine iteF ⟨?_, g7⟩
            rw [plcs_succ, if_neg (by rw [hkn']; intro z; exact hk (by rw [Option.some.inj z])), List.append_nil]
            exact eD7
        case e2 =>
        rintro S6 ⟨eD, g6⟩
        rw [List.length_map] at eD
        have d6 := d5.gr g6
        have eh6 := g6.lst eh
        obtain ⟨nD1, nD2⟩ := d5.nm nD
        have g06 : G2 m r S S6 := g5.trans (G2.gr g6)
        have kt6 : Kt K S S6 := d.kt g06
        refine ⟨_, rfl, .inl ⟨rfl, _, .inl (.inl eh6)⟩, _, rfl, _, rfl, pf, _, 0, _, rfl, rfl, kt6 hpfS, rfl, ph, _, rfl, .inr (kt6 hphS), flat_kn kn, flat_strs f.hd, _, rfl, ?_⟩
        rw [show (if false = true then !inV kn.v (f.hd.map V.str) else inV kn.v (f.hd.map V.str)) = kn.isH from inV_kn gkn]
        have fin : ∀ (S7 : Hp) (h : Nat), okH gv kn h → G2 m r S6 S7 → Dr K S7 m r a cs (B + 5 * (i : Int) + 1 + (j : Int) + 1) → ∀ (y12 : Option V), S7 hl = some (.lst (hsV hs)) ∧ (hsV hs).length < sizeLine ∧ ∃ (y10'' y12'' : Option V) (hs' : List Nat), [some (V.ref m), some (V.ref pf), some (V.int (n : Nat)), some (V.ref rl), some (V.ref kl), some (V.int (0 + (i : Int))), some (V.ref sl), some (V.str e.nm), some (V.ref pt), some e.gv.v, some kn.v, some (V.ref hl), y12, none, none] = [some (V.ref m), some (V.ref pf), some (V.int (n : Nat)), some (V.ref rl), some (V.ref kl), some (V.int (0 + (i : Int))), some (V.ref sl), some (V.str e.nm), some (V.ref pt), some e.gv.v, y10'', some (V.ref hl), y12'', none, none] ∧
            upd S7 hl (.lst (hsV hs ++ [.int (h : Nat)])) hl = some (.lst (hsV hs')) ∧ hs'.length = j + 1 ∧ Fits gv (e.tk.take (j + 1)) hs' ∧ G2 m r S (upd S7 hl (.lst (hsV hs ++ [.int (h : Nat)]))) ∧ SqT K (upd S7 hl (.lst (hsV hs ++ [.int (h : Nat)]))) pt (e.tk.map Kn.v) ∧ Dr K (upd S7 hl (.lst (hsV hs ++ [.int (h : Nat)]))) m r a cs (B + 5 * (i : Int) + 1 + ((j + 1 : Nat) : Int)) := by
          intro S7 h ho g7 d7 y12
          have eh7 := g7.lst nh1 nh2 eh6
          refine ⟨eh7, by rw [hsV_len]; exact small1000 (by omega), _, _, hs ++ [h], rfl, ?_, ?_, ?_, (g06.trans g7).upd_new shl, ?_, (d7.upd nh1 nh2 oh).mono (by omega)⟩
          · rw [upd_same]
            unfold hsV
            rw [List.map_append]
            rfl
          · rw [List.length_append, lh]
            rfl
          · rw [List.take_add_one, hkn]
            exact fit.snoc ho
          · exact kt_lst eh7 (d6.kt g7 (g6.sqt hp5))
        cases hk : kn.isH with
        | true =>
          obtain ⟨j0, hj0⟩ := has kn hkm hk
          have hp0 := plcs_has hj0
          refine iteT ⟨_, rfl, _, rfl, m, r, D, a, cs, hsV (plcs gv kn gv.length), _, rfl, d6, by omega, .inl ⟨.inl (.inl eD), nD1, nD2⟩, ?_, ?_, fun S7 ix z g7 d7 hz => ?_⟩
          · intro z
            have := congrArg List.length z
            rw [hsV_len] at this
            rw [List.length_eq_zero_iff.mp this] at hp0
            cases hp0
          · rw [hsV_len]
            have := plcs_len gv kn gv.length
            omega
          replace hz : (hsV (plcs gv kn gv.length))[ix]? = some z := hz
          unfold hsV at hz
          rw [List.getElem?_map] at hz
          obtain ⟨h, hh, rfl⟩ := Option.map_eq_some_iff.mp hz
          have hgv' := plcs_mem (List.mem_of_getElem? hh)
          have ho : okH gv kn h := by
            cases kn with
            | h s => exact hgv'
            | p n => cases hk
          obtain ⟨f1, f2, f3⟩ := fin S7 h ho g7 (d7.mono (by omega)) (some (.ref D))
          exact ⟨hl, _, _, rfl, rfl, f1, f2, f3⟩
        | false =>
          obtain ⟨pn, rfl⟩ : ∃ pn, kn = .p pn := by
            cases kn with
            | h s => cases hk
            | p pn => exact ⟨pn, rfl⟩
          obtain ⟨p2, p9⟩ := gkn
          refine iteF ⟨_, rfl, _, rfl, m, r, a, cs, pn, _, rfl, d6, by omega, by omega, by omega, fun S7 dg g7 d7 z0 z1 => ?_⟩
          obtain ⟨h, rfl⟩ : ∃ h : Nat, dg = (h : Int) := ⟨dg.toNat, by omega⟩
          obtain ⟨f1, f2, f3⟩ := fin S7 h z1 g7 (d7.mono (by omega)) (some (.ref D))
          exact ⟨hl, _, _, rfl, rfl, f1, f2, f3⟩
      case j3 =>
      rintro σ S5 ⟨y10', y12', hs, rfl, eh, lh, fit, g5, hp5, d5⟩
      rw [List.length_map, List.take_length] at fit
      have er5 := g5.lst nr1 nr2 er
      refine ⟨_, rfl, .inl ⟨rfl, _, .inl (.inl er5)⟩, _, rfl, _, rfl, hl, _, rfl, .inl ⟨.inl (.inl eh), fun td ntd => ?_⟩⟩
      have k6 : Gr S5 (upd S5 td (.tup (hsV hs))) := Gr.new ntd
      have e6 : upd S5 td (.tup (hsV hs)) td = some (.tup (hsV hs)) := upd_same
      generalize upd S5 td (.tup (hsV hs)) = S6 at k6 e6 ⊢
      refine ⟨by show 2 ≤ sizeLine; decide, fun tr ntr => ?_⟩
      have k7 : Gr S6 (upd S6 tr (.tup [.str e.nm, .ref td])) := Gr.new ntr
      have e7 : upd S6 tr (.tup [.str e.nm, .ref td]) tr = some (.tup [.str e.nm, .ref td]) := upd_same
      have e67 := k7.tup e6
      generalize upd S6 tr (.tup [.str e.nm, .ref td]) = S7 at k7 e7 e67 ⊢
      have k57 := k6.trans k7
      have g7 : G2 m r S S7 := g5.trans (G2.gr k57)
      have er7 := k57.lst er5
      have ek7 := g7.lst nk1 nk2 ek
      have lxs : xs.length = i := by
        have := dpA_len du
        rw [List.length_map, lu] at this
        exact this
      refine ⟨rl, _, _, rfl, rfl, er7, small1000 (by omega), ?_⟩
      have kt8 : Kt K S7 (upd S7 rl (.lst (xs ++ [.ref tr]))) := kt_lst er7
      have du7 : DpAll K S7 (xs ++ [.ref tr]) ((u ++ [Ur.mk e hs]).map Ur.d) := by
        rw [List.map_append]
        exact dpA_app (Kt.dpA (d.kt g7) du (noLA_map _ noL_ur _)) (.cons (.tup (.inl (.inl e7)) (.cons (.str _) (.cons (.tup (.inl (.inl e67)) (dpA_nsI _)) .nil))) .nil)
      have du8 := Kt.dpA kt8 du7 (noLA_map _ noL_ur _)
      have er8 : upd S7 rl (.lst (xs ++ [.ref tr])) rl = some (.lst (xs ++ [.ref tr])) := upd_same
      have ek8 : upd S7 rl (.lst (xs ++ [.ref tr])) kl = some (.lst (gv.map Kn.v)) := (upd_ne (Ne.symm nrk)).trans ek7
      have g8 : G2 m r H (upd S7 rl (.lst (xs ++ [.ref tr]))) := (g.trans g7).upd_new nrl
      have d8 : Dr K (upd S7 rl (.lst (xs ++ [.ref tr]))) m r a cs (B + 5 * (i : Int) + 4) := ((d5.gr k57).upd nr1 nr2 or_).mono (by have := ge.len; rw [List.length_map]; omega)
      generalize upd S7 rl (.lst (xs ++ [.ref tr])) = S8 at kt8 du8 er8 ek8 g8 d8 ⊢
      refine ⟨_, rfl, .inl ⟨rfl, _, .inl (.inl ek8)⟩, _, rfl, kl, _, _, rfl, rfl, ek8, by rw [List.length_map]; exact small1000 (by omega), ?_⟩
      have gvE : gvs (u ++ [Ur.mk e hs]) = gv ++ [e.gv] := by
        unfold gvs at hgv ⊢
        rw [List.map_append, hgv]
        rfl
      refine ⟨_, _, _, _, _, _, _, _, xs ++ [.ref tr], u ++ [Ur.mk e hs], rfl, (upd_ne nrk).trans er8, Kt.dpA (kt_lst ek8) du8 (noLA_map _ noL_ur _), ?_, ?_, ?_, g8.upd_new hkl, (d8.upd nk1 nk2 ok_).mono (by omega)⟩
      · rw [upd_same, gvE, List.map_append]
        rfl
      · rw [List.length_append, lu]
        rfl
      · intro t rr hrr
        rw [gvE]
        by_cases ht : t < u.length
        · rw [List.getElem?_append_left ht] at hrr
          rw [List.take_append_of_le_length (by omega)]
          exact ou t rr hrr
        · have te : t = i := by
            have := lt_of_at hrr
            rw [List.length_append] at this
            have z : ([⟨e, hs⟩] : List Ur).length = 1 := rfl
            omega
          subst te
          rw [List.getElem?_append_right (by omega), lu, Nat.sub_self] at hrr
          cases hrr
          rw [List.take_append_of_le_length (by omega), ← lgv, List.take_length]
          exact ⟨hem, fit⟩
end
end SfC
namespace SfM
open PySem PySem.Spec PyProof.Rows L2 SfG SfC
/-! ### Es and bodies -/
inductive Ex where
  | num (n : Int)
  | inp (k f : Nat)
  | bin (w : Nat) (a b : Ex)
  | rst (a : Ex) (n : Int)
  | iff (a b c : Ex)
def opw : Nat → Str
  | 0 => "plus"
  | 1 => "less"
  | 2 => "times"
  | 3 => "same"
  | _ => "under"
def Ex.d : Ex → PyData
  | .num n => .tuple [.str "number", .int n]
  | .inp k f => .tuple [.str "in", .int k, .int f]
  | .bin w a b => .tuple [.str (opw w), a.d, b.d]
  | .rst a n => .tuple [.str "rest", a.d, .int n]
  | .iff a b c => .tuple [.str "if", a.d, b.d, c.d]
/-- an E as the document has it, for things of so many fields -/
def okE (cs : List Nat) : Ex → Prop
  | .num n => 0 ≤ n ∧ n ≤ 99
  | .inp k f => ∃ c, cs[k]? = some c ∧ f < c
  | .bin w a b => w ≤ 4 ∧ okE cs a ∧ okE cs b
  | .rst a n => 2 ≤ n ∧ n ≤ 99 ∧ okE cs a
  | .iff a b c => okE cs a ∧ okE cs b ∧ okE cs c
def dep : Ex → Nat
  | .num _ => 1
  | .inp _ _ => 1
  | .bin _ a b => 1 + max (dep a) (dep b)
  | .rst a _ => 1 + dep a
  | .iff a b c => 1 + max (dep a) (max (dep b) (dep c))
/-- how many ends an E has -/
def lvs : Ex → Nat
  | .num _ => 1
  | .inp _ _ => 1
  | .bin _ a b => lvs a + lvs b
  | .rst a _ => lvs a
  | .iff a b c => lvs a + lvs b + lvs c
theorem lvs_pos : ∀ e : Ex, 1 ≤ lvs e
  | .num _ => Nat.le_refl 1
  | .inp _ _ => Nat.le_refl 1
  | .bin _ a b => by have := lvs_pos a; simp only [lvs]; omega
  | .rst a _ => lvs_pos a
  | .iff a b c => by have := lvs_pos a; simp only [lvs]; omega
theorem opw_ne (w : Nat) : V.str (opw w) ≠ .str "number" ∧ V.str (opw w) ≠ .str "in" ∧ V.str (opw w) ≠ .str "rest" ∧ V.str (opw w) ≠ .str "if" := by
  unfold opw
  split <;> decide +kernel
theorem opw_is (w v : Nat) (hw : w ≤ 4) (hv : v ≤ 3) : decide (V.str (opw w) = V.str (opw v)) = decide (w = v) := by
  have : w = 0 ∨ w = 1 ∨ w = 2 ∨ w = 3 ∨ w = 4 := by omega
  have : v = 0 ∨ v = 1 ∨ v = 2 ∨ v = 3 := by omega
  rcases ‹w = 0 ∨ _› with rfl | rfl | rfl | rfl | rfl <;> rcases ‹v = 0 ∨ _› with rfl | rfl | rfl | rfl <;> decide +kernel
inductive Bd where
  | ref
  | giv (es : List Ex)
  | whn (e : Ex) (a b : Bd)
def Bd.d : Bd → PyData
  | .ref => .tuple [.str "refuse"]
  | .giv es => .tuple [.str "give", .tuple (es.map Ex.d)]
  | .whn e a b => .tuple [.str "when", e.d, a.d, b.d]
/-- an E that is good, not too deep -/
def goE (cs : List Nat) (n : Nat) (e : Ex) : Prop := okE cs e ∧ dep e ≤ n ∧ lvs e ≤ 9
def okB (cs : List Nat) (n m : Nat) : Bd → Prop
  | .ref => True
  | .giv es => es.length = m ∧ ∀ e ∈ es, goE cs n e
  | .whn e a b => goE cs n e ∧ okB cs n m a ∧ okB cs n m b
def depB : Bd → Nat
  | .ref => 1
  | .giv _ => 1
  | .whn _ a b => 1 + max (depB a) (depB b)
theorem dpA_ex {K : PySem.W.Frag} {H : Hp} {xs : List V} {es : List Ex} (h : DpAll K H xs (es.map Ex.d)) {i : Nat} {x : V} (hx : xs[i]? = some x) : ∃ e, es[i]? = some e ∧ Dp K H x e.d := by
  have hl := dpA_len h
  rw [List.length_map] at hl
  have hi : i < xs.length := by
    rcases Nat.lt_or_ge i xs.length with h1 | h1
    · exact h1
    · rw [List.getElem?_eq_none h1] at hx
      cases hx
  have hi' : i < es.length := by omega
  obtain ⟨y, hy, hd⟩ := dpA_get (i := i) (d := (es[i]).d) h (by simp [hi'])
  rw [hx] at hy
  cases hy
  exact ⟨es[i], by simp [hi'], hd⟩
/-! ### left_by_expression, left_by_body -/
abbrev nLbe : List Str := ["thing", "takes", "counts", "deep", "left", "size", "word", "first", "second", "fits"]
theorem scLbe : FnScope nLbe ["thing", "takes", "counts", "deep", "left"] (defScope sLbe) := ⟨rfl, rfl, rfl, by decide +kernel, rfl, by decide +kernel, by decide +kernel⟩
def amg (d : PyData) (lo hi : Int) : Bool := match d with
  | .int i => decide (lo ≤ i) && decide (i ≤ hi)
  | _ => false
/-- so many fields has the i-th kind -/
def cAt (cs : List Nat) (i : Int) : Int := ((cs.getD i.toNat 1 : Nat) : Int)
def inE (cs : List Nat) (a b : PyData) (left : Int) : Int := if (amg a 0 ((cs.length : Int) - 1) && amg b 0 (cAt cs (match a with | .int i => i | _ => 0) - 1)) = true then left - 1 else -1
def pairW (d : PyData) : Bool := (["plus", "less", "times", "same", "under"] : List Str).any fun z => eqS d z
/-- what left_by_expression tells -/
def lbe (cs : List Nat) : Nat → PyData → Int → Int
  | 0, _, _ => -1
  | dp + 1, d, left => match d with
    | .tuple [w, a, b] => if eqS w "in" = true then inE cs a b left else if dp = 0 ∨ left < 1 then -1 else if pairW w = true then lbe cs dp b (lbe cs dp a (left - 1)) else if (eqS w "rest" && amg b 2 99) = true then lbe cs dp a (left - 1) else -1
    | .tuple [w, a] => if (eqS w "number" && amg a 0 99) = true then left - 1 else -1
    | .tuple [w, a, b, c] => if eqS w "if" = true ∧ dp ≠ 0 ∧ 0 < left then lbe cs dp c (lbe cs dp b (lbe cs dp a (left - 1))) else -1
    | _ => -1
/-- the key that a kind is -/
def kkey : Kn → Key
  | .h s => Sum.inr s
  | .p n => Sum.inl n
theorem kn_key (k : Kn) : kV (kkey k) = k.v := by cases k <;> rfl
/-- what takes and counts hold: kinds, and how many fields each of them has; 1 of what isn't there -/
structure TC (K : PySem.W.Frag) (H : Hp) (tk ct : Addr) (cs : List Nat) : Prop where
  ex : ∃ ks : List Kn, SqT K H tk (ks.map Kn.v) ∧ ks.length = cs.length ∧ ∃ kvs : List (Key × V), H ct = some (.dK kvs) ∧ ∀ (i : Nat) (k : Kn) (c : Nat), ks[i]? = some k → cs[i]? = some c → (valV kvs (kkey k)).getD (.int 1) = .int (c : Nat)
theorem TC.gr {K : PySem.W.Frag} {H H' : Hp} {tk ct : Addr} {cs : List Nat} (h : TC K H tk ct cs) (g : Gr H H') : TC K H' tk ct cs := by
  obtain ⟨ks, h1, h2, kvs, h3, h4⟩ := h.ex
  exact ⟨⟨ks, g.sqt h1, h2, kvs, g.dic h3, h4⟩⟩
/-- the number that a thing is, a truth too -/
def numD : PyData → Option Int
  | .int i => some i
  | .bool b => some (SfG.b2i b)
  | _ => none
theorem num_vd {K : PySem.W.Frag} {H : Hp} {v : V} {d : PyData} (h : Dp K H v d) : numV v = numD d := by
  cases h <;> rfl
theorem kit_intN {d : PyData} : kitB (tyD d) "int" = some (numD d).isSome := by
  cases d with
  | none => decide +kernel
  | bool b => show kitB "bool" "int" = some true; decide +kernel
  | int i => show kitB "int" "int" = some true; decide +kernel
  | str z => show kitB "str" "int" = some false; decide +kernel
  | list l => show kitB "list" "int" = some false; decide +kernel
  | tuple l => show kitB "tuple" "int" = some false; decide +kernel
  | dict l => show kitB "dict" "int" = some false; decide +kernel
/-- not a truth -/
def notT : PyData → Bool
  | .bool _ => false
  | _ => true
def isTr (d : PyData) (b : Bool) : Bool := match d with
  | .bool c => decide (c = b)
  | _ => false
/-- `x is not True`, x a number or a truth -/
theorem not_bx {K : PySem.W.Frag} {H : Hp} {v : V} {d : PyData} {b : Bool} {Q : VK} (h : Dp K H v d) (hn : (numD d).isSome = true) (q : Q (.bl (!isTr d b)) H) : rNotBx v (.bl b) H Q := by
  cases h with
  | int i => exact ⟨b, rfl, .inr ⟨i, rfl, q⟩⟩
  | bl c => exact ⟨b, rfl, .inl ⟨c, rfl, q⟩⟩
  | _ => cases hn
theorem both_tr (d : PyData) : (!isTr d true && !isTr d false) = notT d := by
  cases d with
  | bool b => cases b <;> rfl
  | _ => rfl
theorem tup_or (d : PyData) : (tyD d == "tuple") = false ∧ (∀ cs dp l, lbe cs dp d l = -1) ∨ ∃ ds, d = .tuple ds := by
  have no : (∀ ds, d ≠ .tuple ds) → ∀ cs dp l, lbe cs dp d l = -1 := fun h cs dp l => by
    cases dp with
    | zero => rw [lbe]
    | succ n =>
      cases d with
      | tuple ds => exact absurd rfl (h ds)
      | _ => rw [lbe]; all_goals (intros; first | (intro z; cases z) | contradiction)
  cases d with
  | tuple ds => exact .inr ⟨ds, rfl⟩
  | none => exact .inl ⟨by show ("NoneType" == "tuple") = false; decide, no (fun ds z => by cases z)⟩
  | bool _ => exact .inl ⟨by show ("bool" == "tuple") = false; decide, no (fun ds z => by cases z)⟩
  | int _ => exact .inl ⟨by show ("int" == "tuple") = false; decide, no (fun ds z => by cases z)⟩
  | str _ => exact .inl ⟨by show ("str" == "tuple") = false; decide, no (fun ds z => by cases z)⟩
  | list _ => exact .inl ⟨by show ("list" == "tuple") = false; decide, no (fun ds z => by cases z)⟩
  | dict _ => exact .inl ⟨by show ("dict" == "tuple") = false; decide, no (fun ds z => by cases z)⟩
end SfM
namespace SfM
open PySem PySem.Spec PyProof.Rows L2 SfG SfC
abbrev fiveW : List Str := ["plus", "less", "times", "same", "under"]
section
variable {P : Program} {w : World} {K : PySem.W.Frag} {mg : Str → Option Value} {base : Heap}
def spLbe (K : PySem.W.Frag) (n : Nat) : Sp := fun vs H Q _ => ∃ (t : V) (d : PyData) (tk ct : Addr) (cs : List Nat) (dp : Nat) (left : Int), vs = [t, .ref tk, .ref ct, .int ((dp + 1 : Nat) : Int), .int left] ∧ Dp K H t d ∧ TC K H tk ct cs ∧ dp + 1 ≤ n ∧ Q (.int (lbe cs (dp + 1) d left)) H
theorem chain_le {σ : L2.St} {x : V} {i lo hi : Int} (hn : numV x = some i) {Q : VK} {H : Hp} (q : Q (.bl (decide (lo ≤ i) && decide (i ≤ hi))) H) : rXL (.int lo) x H fun z H3 => ∃ k, z = .bl k ∧ (if k = true then tC (.int hi) σ H3 (fun w' H4 => rYle x w' H4 Q) else Q (.bl false) H3) := by
  refine ⟨lo, i, rfl, hn, _, rfl, ?_⟩
  cases h : decide (lo ≤ i) with
  | true =>
    rw [h] at q
    exact iteT ⟨i, hi, hn, rfl, q⟩
  | false =>
    rw [h] at q
    exact iteF q
theorem chain_lt {σ : L2.St} {x : V} {i lo hi : Int} (hn : numV x = some i) {Q : VK} {H : Hp} (q : Q (.bl (decide (lo ≤ i) && decide (i < hi))) H) : rXL (.int lo) x H fun z H3 => ∃ k, z = .bl k ∧ (if k = true then tC (.int hi) σ H3 (fun w' H4 => rYlt x w' H4 Q) else Q (.bl false) H3) := by
  refine ⟨lo, i, rfl, hn, _, rfl, ?_⟩
  cases h : decide (lo ≤ i) with
  | true =>
    rw [h] at q
    exact iteT ⟨i, hi, hn, rfl, q⟩
  | false =>
    rw [h] at q
    exact iteF q
/-- beyond four -/
theorem not_bxC {K : PySem.W.Frag} {H : Hp} {σ : L2.St} {v : V} {d : PyData} {b : Bool} {Q : VK} (h : Dp K H v d) (hn : (numD d).isSome = true) (q : Q (.bl (!isTr d b)) H) : tC (.bl b) σ H (fun y H2 => rNotBx v y H2 Q) := not_bx h hn q
theorem three_or (ds : List PyData) : (∃ w a b, ds = [w, a, b]) ∨ (∃ w a, ds = [w, a]) ∨ (∃ w a b c, ds = [w, a, b, c]) ∨ ((∀ cs m l, lbe cs (m + 1) (.tuple ds) l = -1) ∧ ds.length ≠ 3 ∧ ds.length ≠ 2 ∧ ds.length ≠ 4) := by
  match ds with
  | [] => exact .inr (.inr (.inr ⟨fun _ _ _ => rfl, by decide, by decide, by decide⟩))
  | [_] => exact .inr (.inr (.inr ⟨fun _ _ _ => rfl, by simp, by simp, by simp⟩))
  | [w, a] => exact .inr (.inl ⟨w, a, rfl⟩)
  | [w, a, b] => exact .inl ⟨w, a, b, rfl⟩
  | [w, a, b, c] => exact .inr (.inr (.inl ⟨w, a, b, c, rfl⟩))
  | a :: b :: c :: e :: f :: r => exact .inr (.inr (.inr ⟨fun _ _ _ => rfl, by simp only [List.length_cons]; omega, by simp only [List.length_cons]; omega, by simp only [List.length_cons]; omega⟩))
theorem amg_int (i lo hi : Int) : amg (.int i) lo hi = (decide (lo ≤ i) && decide (i ≤ hi)) := rfl
theorem num_cases (d : PyData) : (∃ i, d = .int i) ∨ (∃ b, d = .bool b) ∨ (numD d = none ∧ ∀ lo hi, amg d lo hi = false) := by
  cases d with
  | int i => exact .inl ⟨i, rfl⟩
  | bool b => exact .inr (.inl ⟨b, rfl⟩)
  | _ => exact .inr (.inr ⟨rfl, fun _ _ => rfl⟩)
theorem lbe_long (cs : List Nat) (m : Nat) (a b c e f : PyData) (r : List PyData) (l : Int) : lbe cs (m + 1) (.tuple (a :: b :: c :: e :: f :: r)) l = -1 := rfl
set_option maxHeartbeats 4000000 in
theorem ok_lbe {f pw : Addr} {fd : FuncData} (F : Fun K "left_by_expression" "left_by_expression" sLbe f fd) (bL : Binds K fd ["thing", "takes", "counts", "deep", "left"] []) (gL : mg "left_by_expression" = some (.ref f))
    (mi : mg "isinstance" = none) (mt : mg "tuple" = none) (mn : mg "int" = none) (ml : mg "len" = none) (gP : mg "PAIR_WORDS" = some (.ref pw)) (hP : ∀ H : Hp, SqT K H pw (fiveW.map V.str)) :
    ∀ n, FnOk P w K mg base CX0 (n + 1) f fd ["thing", "takes", "counts", "deep", "left"] (spLbe K n)
  | 0 => by
    refine F.ok scLbe (fun vs H Q E h => ?_) (fun cdv A outer s H vs Q E hr h => ?_)
    · obtain ⟨t, d, tk, ct, cs, dp, left, rfl, _⟩ := h
      rfl
    · obtain ⟨t, d, tk, ct, cs, dp, left, rfl, _, _, hd, _⟩ := h
      omega
  | n + 1 => by
    have GL := ok_lbe F bL gL mi mt mn ml gP hP n
    refine F.ok scLbe (fun vs H Q E h => ?_) (fun cdv A outer s H vs Q E hr h => ?_)
    · obtain ⟨t, d, tk, ct, cs, dp, left, rfl, _⟩ := h
      rfl
    · obtain ⟨t, d, tk, ct, cs, dp, left, rfl, hd0, tc, hdp, q⟩ := h
      have nd := scLbe.nd
      obtain ⟨ks, htk, hlk, kvs, hct, hkv⟩ := tc.ex
      refine' ⟨_, pss_cons ?s1 (pss_one ?s2), ?rd⟩
      case s1 =>
        refine' ps_while PassesOwn.never (pt_val (pe_isi "tuple" 0 mi mt (by decide +kernel))) (pss_cons ?w1 (pss_one (ps_if (pt_cmpR op_eq (pv 5) pe_int (nomark _)) (pss_cons ?a1 (pss_cons ?a2 (pss_cons ?a3 (pss_cons ?a4 (pss_cons ?a5 (pss_one ?a6))))))
          (pss_one (ps_if (pt_cmpR op_eq (pv 5) pe_int (nomark _)) (pss_cons ?b1 (pss_cons ?b2 (pss_one ?b3))) (pss_one ?c1))))))
        case w1 => exact ps_set (i := 5) nd rfl (.inl rfl) (pe_callB call_len_seq (by rfl) ml PySem.boot_len (pa_cons (pv 0) pa_nil))
        case a1 => exact ps_asg (pv 0) (pg_tup rfl (pgs_cons (pg_name (i := 6) nd rfl (.inl rfl)) (pgs_cons (pg_name (i := 7) nd rfl (.inl rfl)) (pgs_cons (pg_name (i := 8) nd rfl (.inl rfl)) pgs_nil))))
        case a2 =>
          exact ps_if (pt_cmpR (op_eqXS hr) (pv 6) pe_str (nomark _)) (pss_cons (ps_if (PW.pt (pw_and (pt_val (pe_isi "int" 7 mi mn (by decide +kernel))) (pw_and (pt_val (pe_isi "int" 8 mi mn (by decide +kernel))) (pw_and1 (pt_chain op_leN op_ltY pe_int (pv 7) (pe_callB call_len_seq (by rfl) ml PySem.boot_len (pa_cons (pv 1) pa_nil)))))))
              (pss_one (ps_if (PW.pt (pw_and (pt_cmpR op_notBx (pv 7) pe_bl (nomark _)) (pw_and (pt_cmpR op_notBx (pv 7) pe_bl (nomark _)) (pw_and (pt_cmpR op_notBx (pv 8) pe_bl (nomark _)) (pw_and1 (pt_cmpR op_notBx (pv 8) pe_bl (nomark _)))))))
                (pss_one (ps_ret (pe_ifExp (pt_chain op_leN op_ltY pe_int (pv 8) (pe_dget2 (hu_of hr) (pv 2) (pe_ix ix_tup (pv 1) (pv 7) (fun _ _ => rfl)) pe_int ⟨rfl, rfl, rfl, rfl⟩)) (pe_op op_sub (pv 4) pe_int) (pe_un un_neg pe_int)))) pss_nil)) pss_nil)
            (pss_one (ps_ret (pe_un un_neg pe_int)))) pss_nil
        case a3 => exact ps_if (PW.pt (pw_or (pt_cmpR op_lt (pv 3) pe_int (nomark _)) (pw_or1 (pt_cmpR op_lt (pv 4) pe_int (nomark _))))) (pss_one (ps_ret (pe_un un_neg pe_int))) pss_nil
        case a4 => exact ps_aug (i := 3) nd rfl (.inl rfl) pe_int ip_sub
        case a5 => exact ps_aug (i := 4) nd rfl (.inl rfl) pe_int ip_sub
        case a6 =>
          exact ps_if (pt_cmpR (op_inXS hr) (pv 6) (pe_glob (v := .ref pw) rfl gP rfl) rfl)
            (pss_cons (ps_set (i := 4) nd rfl (.inl rfl) (pe_call GL hr (by rfl) gL F.kp bL .nil pass0 (pa_cons (pv 7) (pa_cons (pv 1) (pa_cons (pv 2) (pa_cons (pv 3) (pa_cons (pv 4) pa_nil))))))) (pss_one (ps_set (i := 0) nd rfl (.inl rfl) (pv 8))))
            (pss_one (ps_if (PW.pt (pw_and (pt_cmpR (op_eqXS hr) (pv 6) pe_str (nomark _)) (pw_and (pt_val (pe_isi "int" 8 mi mn (by decide +kernel))) (pw_and1 (pt_chain op_leN op_leY pe_int (pv 8) pe_int)))))
              (pss_one (ps_set (i := 0) nd rfl (.inl rfl) (pv 7))) (pss_one (ps_ret (pe_un un_neg pe_int)))))
        case b1 => exact ps_asg (pv 0) (pg_tup rfl (pgs_cons (pg_name (i := 6) nd rfl (.inl rfl)) (pgs_cons (pg_name (i := 7) nd rfl (.inl rfl)) pgs_nil)))
        case b2 => exact ps_set (i := 9) nd rfl (.inl rfl) (pe_and (pe_cmpR (op_eqXS hr) (pv 6) pe_str (nomark _)) (pe_and (pe_isi "int" 7 mi mn (by decide +kernel)) (pe_one (pe_chain op_leN op_leY pe_int (pv 7) pe_int))))
        case b3 => exact ps_ret (pe_ifExp (PW.pt (pw_and (pt_val (pv 9)) (pw_and (pt_cmpR op_notBx (pv 7) pe_bl (nomark _)) (pw_and1 (pt_cmpR op_notBx (pv 7) pe_bl (nomark _)))))) (pe_op op_sub (pv 4) pe_int) (pe_un un_neg pe_int))
        case c1 =>
          exact ps_if (PW.pt (pw_and (pt_cmpR op_eq (pv 5) pe_int (nomark _)) (pw_and (pt_cmpR (op_eqXS hr) (pe_ix ix_tup (pv 0) pe_int (fun _ _ => rfl)) pe_str (nomark _)) (pw_and (pt_cmpR op_gt (pv 3) pe_int (nomark _)) (pw_and1 (pt_cmpR op_gt (pv 4) pe_int (nomark _)))))))
            (pss_cons (ps_aug (i := 3) nd rfl (.inl rfl) pe_int ip_sub)
              (pss_cons (ps_set (i := 4) nd rfl (.inl rfl) (pe_call GL hr (by rfl) gL F.kp bL .nil pass0 (pa_cons (pe_ix ix_tup (pv 0) pe_int (fun _ _ => rfl)) (pa_cons (pv 1) (pa_cons (pv 2) (pa_cons (pv 3) (pa_cons (pe_op op_sub (pv 4) pe_int) pa_nil)))))))
              (pss_cons (ps_set (i := 4) nd rfl (.inl rfl) (pe_call GL hr (by rfl) gL F.kp bL .nil pass0 (pa_cons (pe_ix ix_tup (pv 0) pe_int (fun _ _ => rfl)) (pa_cons (pv 1) (pa_cons (pv 2) (pa_cons (pv 3) (pa_cons (pv 4) pa_nil)))))))
              (pss_one (ps_set (i := 0) nd rfl (.inl rfl) (pe_ix ix_tup (pv 0) pe_int (fun _ _ => rfl)))))))
            (pss_one (ps_ret (pe_un un_neg pe_int)))
      case s2 => exact ps_ret (pe_un un_neg pe_int)
      case rd =>
      refine ⟨fun m σ H1 => H1 = H ∧ ∃ (t' : V) (d' : PyData) (left' : Int) (y5 y6 y7 y8 y9 : Option V), σ = [some t', some (.ref tk), some (.ref ct), some (.int ((m + 1 : Nat) : Int)), some (.int left'), y5, y6, y7, y8, y9] ∧ Dp K H t' d' ∧ m + 1 ≤ n + 1 ∧ lbe cs (m + 1) d' left' = lbe cs (dp + 1) d left,
        ⟨dp, rfl, t, d, left, none, none, none, none, none, rfl, hd0, hdp, rfl⟩, ?_⟩
      rintro m σ H1 ⟨rfl, t', d', left', y5, y6, y7, y8, y9, rfl, hd, hm, eq⟩
      clear hd0
      have hI := dp_is hd
      refine ⟨_, rfl, _, _, hI.1, kit_tuple _ hI.2, _, rfl, ?_⟩
      rcases tup_or d' with ⟨h1, h2⟩ | ⟨ds, rfl⟩
      · rw [h1]
        rw [← eq, h2] at q
        exact iteF ⟨1, rfl, q⟩
      rw [show (tyD (.tuple ds) == "tuple") = true from by show ("tuple" == "tuple") = true; decide]
      refine iteT ⟨fun σ' H' => ∃ m', m' < m ∧ (H' = H1 ∧ ∃ (t' : V) (d' : PyData) (left' : Int) (y5 y6 y7 y8 y9 : Option V), σ' = [some t', some (.ref tk), some (.ref ct), some (.int ((m' + 1 : Nat) : Int)), some (.int left'), y5, y6, y7, y8, y9] ∧ Dp K H1 t' d' ∧ m' + 1 ≤ n + 1 ∧ lbe cs (m' + 1) d' left' = lbe cs (dp + 1) d left), fun _ _ h => h, ?_⟩
      obtain ⟨p, xs, rfl, hp, hxs⟩ := dp_tup hd
      have lx := dpA_len hxs
      have ret : ∀ {r : Int}, lbe cs (m + 1) (.tuple ds) left' = r → Q (.int r) H1 := fun e => by
        rw [← e, eq]
        exact q
      refine ⟨_, rfl, p, _, rfl, .inr hp, ?_⟩
      rcases three_or ds with ⟨dw, da, db, rfl⟩ | ⟨dw, da, rfl⟩ | ⟨dw, da, db, dc, rfl⟩ | ⟨hno, l3, l2, l4⟩
      · -- three
        obtain ⟨xw, xs, rfl, hw, hxs⟩ := dpA_cons hxs
        obtain ⟨xa, xs, rfl, ha, hxs⟩ := dpA_cons hxs
        obtain ⟨xb, xs, rfl, hb, hxs⟩ := dpA_cons hxs
        cases dpA_nil hxs
        have nva := num_vd ha
        have nvb := num_vd hb
        refine ⟨_, rfl, rfl, _, rfl, iteT ?_⟩
        refine ⟨_, rfl, p, _, rfl, hp, rfl, _, _, rfl, _, _, rfl, _, _, rfl, rfl, ?_⟩
        refine ⟨_, rfl, dw, "in", SfG.Dp.dx hw, rfl, _, rfl, ?_⟩
        have hIa := dp_is ha
        have hIb := dp_is hb
        cases hin : eqS dw "in" with
        | true =>
          have e1 : lbe cs (m + 1) (.tuple [dw, da, db]) left' = inE cs da db left' := by rw [lbe, if_pos hin]
          rw [e1] at ret
          clear e1 eq q
          refine iteT ⟨_, rfl, _, _, hIa.1, kit_intN, _, rfl, ?_⟩
          rcases num_cases da with ⟨i, rfl⟩ | ⟨ba, rfl⟩ | ⟨na, ga⟩
          case inr.inr =>
            rw [na]
            exact iteF (iteF ⟨1, rfl, ret (by unfold inE; rw [ga, Bool.false_and]; rfl)⟩)
          case inr.inl =>
            have bad : inE cs (.bool ba) db left' = -1 := rfl
            refine iteT ⟨_, rfl, _, _, hIb.1, kit_intN, _, rfl, ?_⟩
            cases nb : (numD db).isSome with
            | false => exact iteF (iteF ⟨1, rfl, ret bad⟩)
            | true =>
            refine iteT ⟨_, rfl, 0, _, rfl, nva, _, rfl, ?_⟩
            cases hc : decide ((0 : Int) ≤ SfG.b2i ba) with
            | false => exact iteF ⟨_, rfl, iteF ⟨1, rfl, ret bad⟩⟩
            | true =>
            refine iteT ⟨_, rfl, tk, _, rfl, .inr htk, _, _, nva, rfl, _, rfl, ?_⟩
            dsimp only
            rw [List.length_map, hlk]
            cases hc2 : decide (SfG.b2i ba < (cs.length : Int)) with
            | false => exact iteF ⟨1, rfl, ret bad⟩
            | true =>
            refine iteT ⟨_, rfl, ?_⟩
            refine not_bxC ha rfl ?_
            refine ⟨_, rfl, ?_⟩
            cases ba with
            | true => exact iteF (iteF ⟨1, rfl, ret bad⟩)
            | false =>
              refine iteT ⟨_, rfl, ?_⟩
              refine not_bxC ha rfl ?_
              refine ⟨_, rfl, ?_⟩
              exact iteF (iteF ⟨1, rfl, ret bad⟩)
          case inl =>
            cases dp_int ha
            refine iteT ⟨_, rfl, _, _, hIb.1, kit_intN, _, rfl, ?_⟩
            rcases num_cases db with ⟨j, rfl⟩ | ⟨bb, rfl⟩ | ⟨nb, gb⟩
            case inr.inr =>
              rw [nb]
              exact iteF (iteF ⟨1, rfl, ret (by unfold inE; rw [gb, Bool.and_false]; rfl)⟩)
            all_goals
              refine iteT ⟨_, rfl, 0, i, rfl, rfl, _, rfl, ?_⟩
              by_cases c0 : (0 : Int) ≤ i
              case neg =>
                rw [decide_eq_false c0]
                refine iteF ⟨_, rfl, iteF ⟨1, rfl, ret ?_⟩⟩
                unfold inE
                rw [amg_int, decide_eq_false c0, Bool.false_and, Bool.false_and]
                rfl
              rw [decide_eq_true c0]
              refine iteT ⟨_, rfl, tk, _, rfl, .inr htk, i, _, rfl, rfl, _, rfl, ?_⟩
              dsimp only
              rw [List.length_map, hlk]
              by_cases c1 : i < (cs.length : Int)
              case neg =>
                rw [decide_eq_false c1]
                refine iteF ⟨1, rfl, ret ?_⟩
                unfold inE
                rw [amg_int, decide_eq_false (show ¬ i ≤ (cs.length : Int) - 1 by omega), Bool.and_false, Bool.false_and]
                rfl
              rw [decide_eq_true c1]
              refine iteT ⟨_, rfl, ?_⟩
              refine not_bxC ha rfl ?_
              refine ⟨_, rfl, ?_⟩
              refine iteT ⟨_, rfl, ?_⟩
              refine not_bxC ha rfl ?_
              refine ⟨_, rfl, ?_⟩
              refine iteT ⟨_, rfl, ?_⟩
              refine not_bxC hb rfl ?_
              refine ⟨_, rfl, ?_⟩
            rotate_left
            · have bad : inE cs (.int i) (.bool bb) left' = -1 := by
                unfold inE
                rw [show ∀ lo hi, amg (.bool bb) lo hi = false from fun _ _ => rfl, Bool.and_false]
                rfl
              cases bb with
              | true => exact iteF (iteF ⟨1, rfl, ret bad⟩)
              | false =>
                refine iteT ⟨_, rfl, ?_⟩
                refine not_bxC hb rfl ?_
                refine ⟨_, rfl, ?_⟩
                exact iteF ⟨1, rfl, ret bad⟩
            · cases dp_int hb
              refine iteT ⟨_, rfl, ?_⟩
              refine not_bxC hb rfl ?_
              refine ⟨_, rfl, ?_⟩
              refine iteT ?_
              have ga : amg (.int i) 0 ((cs.length : Int) - 1) = true := by
                rw [amg_int, decide_eq_true c0, decide_eq_true (show i ≤ (cs.length : Int) - 1 by omega)]
                rfl
              have eI : inE cs (.int i) (.int j) left' = if (decide ((0 : Int) ≤ j) && decide (j ≤ cAt cs i - 1)) = true then left' - 1 else -1 := by
                unfold inE
                rw [ga, Bool.true_and]
                rfl
              rw [eI] at ret
              obtain ⟨iN, rfl⟩ : ∃ z : Nat, i = (z : Int) := ⟨i.toNat, by omega⟩
              have li : iN < cs.length := by omega
              have hc : cs[iN]? = some cs[iN] := List.getElem?_eq_getElem li
              have ec : cAt cs ((iN : Nat) : Int) = ((cs[iN] : Nat) : Int) := by
                unfold cAt
                rw [Int.toNat_natCast, List.getD_eq_getElem?_getD, hc]
                rfl
              rw [ec] at ret
              generalize cs[iN] = c at hc ret
              refine ⟨_, rfl, 0, j, rfl, rfl, _, rfl, ?_⟩
              by_cases j0 : (0 : Int) ≤ j
              case neg =>
                rw [decide_eq_false j0]
                refine iteF ⟨_, rfl, iteF ⟨1, rfl, ret ?_⟩⟩
                rw [decide_eq_false j0, Bool.false_and]
                rfl
              rw [decide_eq_true j0]
              have hk : ks[iN]? = some ks[iN] := List.getElem?_eq_getElem (by omega)
              generalize ks[iN] = kn at hk
              have atk : atI (ks.map Kn.v) ((iN : Nat) : Int) = some kn.v := atI_nat (by rw [List.getElem?_map, hk]; rfl)
              refine iteT ⟨_, rfl, ct, rfl, .inl ⟨_, .inl hct⟩, _, rfl, _, rfl, tk, _, _, _, rfl, rfl, htk, atk, _, kn_key kn ▸ DGet.k (k := kkey kn) hct, ?_⟩
              rw [hkv iN kn c hk hc]
              refine ⟨j, _, rfl, rfl, _, rfl, ?_⟩
              dsimp only
              by_cases j1 : j < ((c : Nat) : Int)
              · rw [decide_eq_true j1]
                refine iteT ⟨_, rfl, left', 1, rfl, rfl, ret ?_⟩
                rw [decide_eq_true j0, decide_eq_true (show j ≤ ((c : Nat) : Int) - 1 by omega)]
                rfl
              · rw [decide_eq_false j1]
                refine iteF ⟨1, rfl, ret ?_⟩
                rw [decide_eq_true j0, decide_eq_false (show ¬ j ≤ ((c : Nat) : Int) - 1 by omega)]
                rfl
        | false =>
        refine iteF ?_
        have nin : ¬ eqS dw "in" = true := by rw [hin]; decide
        refine ⟨_, rfl, _, 2, rfl, rfl, _, rfl, ?_⟩
        by_cases m0 : m = 0
        · subst m0
          refine iteT (iteT ⟨1, rfl, ret ?_⟩)
          rw [lbe, if_neg nin, if_pos (.inl rfl)]
        rw [decide_eq_false (show ¬ ((m + 1 : Nat) : Int) < 2 by omega)]
        refine iteF ⟨_, rfl, left', 1, rfl, rfl, _, rfl, ?_⟩
        by_cases l1 : left' < 1
        · rw [decide_eq_true l1]
          refine iteT ⟨1, rfl, ret ?_⟩
          rw [lbe, if_neg nin, if_pos (.inr l1)]
        rw [decide_eq_false l1]
        refine iteF ?_
        have nor : ¬ (m = 0 ∨ left' < 1) := fun z => z.elim m0 l1
        have e1 : lbe cs (m + 1) (.tuple [dw, da, db]) left' = if pairW dw = true then lbe cs m db (lbe cs m da (left' - 1)) else if (eqS dw "rest" && amg db 2 99) = true then lbe cs m da (left' - 1) else -1 := by
          rw [lbe, if_neg nin, if_neg nor]
        obtain ⟨m', rfl⟩ : ∃ z, m = z + 1 := ⟨m - 1, by omega⟩
        refine ⟨_, rfl, _, 1, rfl, rfl, ?_⟩
        refine ⟨_, rfl, left', 1, rfl, rfl, ?_⟩
        have em : ((m' + 1 + 1 : Nat) : Int) - 1 = ((m' + 1 : Nat) : Int) := by omega
        dsimp only
        rw [em]
        refine ⟨_, rfl, dw, pw, fiveW, hw, rfl, hP _, _, rfl, ?_⟩
        rw [show (fiveW.any fun z => eqS dw z) = pairW dw from rfl]
        rw [e1] at ret eq
        clear e1
        cases hpw : pairW dw with
        | true =>
          rw [if_pos hpw] at eq
          refine iteT ⟨_, rfl, _, rfl, _, rfl, _, rfl, _, rfl, xa, da, tk, ct, cs, m', left' - 1, rfl, ha, tc, by omega, ?_⟩
          exact ⟨_, rfl, m', by omega, rfl, xb, db, _, _, _, _, _, _, rfl, hb, by omega, eq⟩
        | false =>
          rw [if_neg (by rw [hpw]; decide)] at ret eq
          refine iteF ⟨_, rfl, dw, "rest", SfG.Dp.dx hw, rfl, _, rfl, ?_⟩
          cases hre : eqS dw "rest" with
          | false =>
            rw [hre, Bool.false_and] at ret
            exact iteF (iteF ⟨1, rfl, ret rfl⟩)
          | true =>
          rw [hre, Bool.true_and] at ret eq
          refine iteT ⟨_, rfl, _, _, hIb.1, kit_intN, _, rfl, ?_⟩
          rcases num_cases db with ⟨j, rfl⟩ | ⟨bb, rfl⟩ | ⟨nb, gb⟩
          · refine iteT ⟨_, rfl, chain_le (i := j) nvb ⟨_, rfl, ?_⟩⟩
            cases hg : (decide ((2 : Int) ≤ j) && decide (j ≤ 99)) with
            | true =>
              rw [if_pos (show amg (.int j) 2 99 = true from hg)] at eq
              exact iteT ⟨_, rfl, m', by omega, rfl, xa, da, _, _, _, _, _, _, rfl, ha, by omega, eq⟩
            | false =>
              refine iteF ⟨1, rfl, ret ?_⟩
              rw [if_neg (show ¬ amg (.int j) 2 99 = true from by rw [show amg (.int j) 2 99 = false from hg]; decide)]
          · refine iteT ⟨_, rfl, chain_le (i := SfG.b2i bb) nvb ⟨_, rfl, ?_⟩⟩
            rw [show (decide ((2 : Int) ≤ SfG.b2i bb) && decide (SfG.b2i bb ≤ 99)) = false from by cases bb <;> rfl]
            exact iteF ⟨1, rfl, ret rfl⟩
          · rw [nb]
            refine iteF (iteF ⟨1, rfl, ret ?_⟩)
            rw [gb]
            rfl
      · -- two
        obtain ⟨xw, xs, rfl, hw, hxs⟩ := dpA_cons hxs
        obtain ⟨xa, xs, rfl, ha, hxs⟩ := dpA_cons hxs
        cases dpA_nil hxs
        have nva := num_vd ha
        have hIa := dp_is ha
        refine ⟨_, rfl, rfl, _, rfl, iteF ⟨_, rfl, rfl, _, rfl, iteT ?_⟩⟩
        refine ⟨_, rfl, p, _, rfl, hp, rfl, _, _, rfl, _, _, rfl, rfl, ?_⟩
        refine ⟨_, rfl, dw, "number", SfG.Dp.dx hw, rfl, _, rfl, ?_⟩
        have e1 : lbe cs (m + 1) (.tuple [dw, da]) left' = if (eqS dw "number" && amg da 0 99) = true then left' - 1 else -1 := by rw [lbe]
        rw [e1] at ret
        cases hnm : eqS dw "number" with
        | false =>
          rw [hnm, Bool.false_and] at ret
          exact iteF ⟨_, rfl, _, rfl, iteF (iteF ⟨1, rfl, ret rfl⟩)⟩
        | true =>
        rw [hnm, Bool.true_and] at ret
        refine iteT ⟨_, rfl, _, _, hIa.1, kit_intN, _, rfl, ?_⟩
        rcases num_cases da with ⟨i, rfl⟩ | ⟨ba, rfl⟩ | ⟨na, ga⟩
        · refine iteT ⟨_, rfl, chain_le (i := i) nva ?_⟩
          cases hg : (decide ((0 : Int) ≤ i) && decide (i ≤ 99)) with
          | true =>
            refine ⟨_, rfl, _, rfl, iteT ⟨_, rfl, ?_⟩⟩
            refine not_bxC ha rfl ?_
            refine ⟨_, rfl, ?_⟩
            refine iteT ⟨_, rfl, ?_⟩
            refine not_bxC ha rfl ?_
            refine ⟨_, rfl, ?_⟩
            refine iteT ⟨_, rfl, left', 1, rfl, rfl, ret ?_⟩
            rw [if_pos (show amg (.int i) 0 99 = true from hg)]
          | false =>
            refine ⟨_, rfl, _, rfl, iteF (iteF ⟨1, rfl, ret ?_⟩)⟩
            rw [if_neg (show ¬ amg (.int i) 0 99 = true from by rw [show amg (.int i) 0 99 = false from hg]; decide)]
        · refine iteT ⟨_, rfl, chain_le (i := SfG.b2i ba) nva ?_⟩
          cases ba with
          | true =>
            refine ⟨_, rfl, _, rfl, iteT ⟨_, rfl, ?_⟩⟩
            refine not_bxC ha rfl ?_
            refine ⟨_, rfl, ?_⟩
            exact iteF (iteF ⟨1, rfl, ret rfl⟩)
          | false =>
            refine ⟨_, rfl, _, rfl, iteT ⟨_, rfl, ?_⟩⟩
            refine not_bxC ha rfl ?_
            refine ⟨_, rfl, ?_⟩
            refine iteT ⟨_, rfl, ?_⟩
            refine not_bxC ha rfl ?_
            refine ⟨_, rfl, ?_⟩
            exact iteF ⟨1, rfl, ret rfl⟩
        · rw [na]
          refine iteF ⟨_, rfl, _, rfl, iteF (iteF ⟨1, rfl, ret ?_⟩)⟩
          rw [ga]
          rfl
      · -- four
        obtain ⟨xw, xs, rfl, hw, hxs⟩ := dpA_cons hxs
        obtain ⟨xa, xs, rfl, ha, hxs⟩ := dpA_cons hxs
        obtain ⟨xb, xs, rfl, hb, hxs⟩ := dpA_cons hxs
        obtain ⟨xc, xs, rfl, hc, hxs⟩ := dpA_cons hxs
        cases dpA_nil hxs
        refine ⟨_, rfl, rfl, _, rfl, iteF ⟨_, rfl, rfl, _, rfl, iteF ⟨_, rfl, rfl, _, rfl, iteT ?_⟩⟩⟩
        refine ⟨_, rfl, p, _, 0, xw, rfl, rfl, hp, atI_nat (j := 0) rfl, dw, "if", SfG.Dp.dx hw, rfl, _, rfl, ?_⟩
        cases hif : eqS dw "if" with
        | false =>
          refine iteF (iteF ⟨1, rfl, ret ?_⟩)
          rw [lbe, if_neg (fun z => by rw [hif] at z; cases z.1)]
        | true =>
        refine iteT ⟨_, rfl, _, 1, rfl, rfl, _, rfl, ?_⟩
        by_cases m0 : m = 0
        · subst m0
          refine iteF (iteF ⟨1, rfl, ret ?_⟩)
          rw [lbe, if_neg (fun z => z.2.1 rfl)]
        rw [decide_eq_true (show (1 : Int) < ((m + 1 : Nat) : Int) by omega)]
        refine iteT ⟨_, rfl, left', 0, rfl, rfl, _, rfl, ?_⟩
        by_cases l0 : (0 : Int) < left'
        case neg =>
          rw [decide_eq_false l0]
          refine iteF ⟨1, rfl, ret ?_⟩
          rw [lbe, if_neg (fun z => l0 z.2.2)]
        rw [decide_eq_true l0]
        have e1 : lbe cs (m + 1) (.tuple [dw, da, db, dc]) left' = lbe cs m dc (lbe cs m db (lbe cs m da (left' - 1))) := by rw [lbe, if_pos ⟨hif, m0, l0⟩]
        rw [e1] at eq
        obtain ⟨m', rfl⟩ : ∃ z, m = z + 1 := ⟨m - 1, by omega⟩
        refine iteT ⟨_, rfl, _, 1, rfl, rfl, ?_⟩
        have em : ((m' + 1 + 1 : Nat) : Int) - 1 = ((m' + 1 : Nat) : Int) := by omega
        dsimp only
        rw [em]
        refine ⟨_, rfl, p, _, 1, xa, rfl, rfl, hp, atI_nat (j := 1) rfl, _, rfl, _, rfl, _, rfl, _, rfl, left', 1, rfl, rfl, xa, da, tk, ct, cs, m', left' - 1, rfl, ha, tc, by omega, ?_⟩
        refine ⟨_, rfl, p, _, 2, xb, rfl, rfl, hp, atI_nat (j := 2) rfl, _, rfl, _, rfl, _, rfl, _, rfl, xb, db, tk, ct, cs, m', _, rfl, hb, tc, by omega, ?_⟩
        refine ⟨_, rfl, p, _, 3, xc, rfl, rfl, hp, atI_nat (j := 3) rfl, ?_⟩
        exact ⟨m', by omega, rfl, xc, dc, _, _, _, _, _, _, rfl, hc, by omega, eq⟩
      · -- else
        rw [hno] at ret
        refine ⟨_, rfl, rfl, _, rfl, ?_⟩
        rw [decide_eq_false (fun z => l3 (by have := V.int.inj z; omega))]
        refine iteF ⟨_, rfl, rfl, _, rfl, ?_⟩
        rw [decide_eq_false (fun z => l2 (by have := V.int.inj z; omega))]
        refine iteF ⟨_, rfl, rfl, _, rfl, ?_⟩
        rw [decide_eq_false (fun z => l4 (by have := V.int.inj z; omega))]
        exact iteF (iteF ⟨1, rfl, ret rfl⟩)
end
end SfM
namespace SfM
open PySem PySem.Spec PyProof.Rows L2 SfG SfC
abbrev nLbb : List Str := ["thing", "takes", "counts", "many", "deep", "left", "word", "expression"]
theorem scLbb : FnScope nLbb ["thing", "takes", "counts", "many", "deep", "left"] (defScope sLbb) := ⟨rfl, rfl, rfl, by decide +kernel, rfl, by decide +kernel, by decide +kernel⟩
/-- the Es of a give -/
def giv (cs : List Nat) (dp : Nat) : List PyData → Int → Int
  | [], l => l
  | e :: r, l => if l < 1 then -1 else giv cs dp r (lbe cs dp e l)
def giveD (cs : List Nat) (m dp : Nat) (a : PyData) (l : Int) : Int := match a with
  | .tuple es => if es.length = m then giv cs dp es l else -1
  | _ => -1
/-- a give, a when -/
def bodR (cs : List Nat) (m dp : Nat) (w : PyData) (r : List PyData) (left : Int) (rec : PyData → Int → Int) : Int := match r with
  | [a] => if eqS w "give" = true then giveD cs m dp a (left - 1) else -1
  | [a, b, c] => if eqS w "when" = true then rec c (rec b (lbe cs dp a (left - 1))) else -1
  | _ => -1
/-- what left_by_body tells -/
def lbb (cs : List Nat) (m : Nat) : Nat → PyData → Int → Int
  | 0, _, _ => -1
  | dp + 1, d, left => match d with
    | .tuple (w :: r) => if left < 1 then -1 else if eqS w "refuse" = true then (if r.isEmpty = true then left - 1 else -1) else if dp = 0 then -1 else bodR cs m dp w r left (lbb cs m dp)
    | _ => -1
theorem lbb_tup (cs : List Nat) (m dp : Nat) (w : PyData) (r : List PyData) (left : Int) : lbb cs m (dp + 1) (.tuple (w :: r)) left = if left < 1 then -1 else if eqS w "refuse" = true then (if r.isEmpty = true then left - 1 else -1) else if dp = 0 then -1 else bodR cs m dp w r left (lbb cs m dp) := by rw [lbb]
theorem give_when {d : PyData} (h : eqS d "give" = true) : eqS d "when" = false := by
  cases d with
  | str z =>
    have e : z = "give" := of_decide_eq_true h
    rw [e]
    decide +kernel
  | _ => cases h
theorem giveD_no {cs : List Nat} {m dp : Nat} {a : PyData} {l : Int} (h : (tyD a == "tuple") = false) : giveD cs m dp a l = -1 := by
  cases a with
  | tuple _ => exact absurd h (by show ¬ ("tuple" == "tuple") = false; decide)
  | _ => rfl
theorem tup_is (d : PyData) : (tyD d == "tuple") = false ∨ ∃ ds, d = .tuple ds := by
  rcases tup_or d with ⟨h, _⟩ | h
  · exact .inl h
  · exact .inr h
theorem lbb_no {cs : List Nat} {m dp : Nat} {d : PyData} {l : Int} (h : (tyD d == "tuple") = false) : lbb cs m (dp + 1) d l = -1 := by
  cases d with
  | tuple _ => exact absurd h (by show ¬ ("tuple" == "tuple") = false; decide)
  | _ => rfl
theorem dpA_at {K : PySem.W.Frag} {H : Hp} : ∀ {ds : List PyData} {xs : List V} {i : Nat} {x : V}, DpAll K H xs ds → xs[i]? = some x → ∃ d, ds[i]? = some d ∧ Dp K H x d
  | [], _, i, _, h, e => by
    cases dpA_nil h
    simp at e
  | d :: ds, _, 0, _, h, e => by
    obtain ⟨y, r, rfl, hy, _⟩ := dpA_cons h
    cases e
    exact ⟨d, rfl, hy⟩
  | d :: ds, _, i + 1, _, h, e => by
    obtain ⟨y, r, rfl, _, hr⟩ := dpA_cons h
    obtain ⟨d', h1, h2⟩ := dpA_at (i := i) hr (by simpa using e)
    exact ⟨d', by simpa using h1, h2⟩
section
variable {P : Program} {w : World} {K : PySem.W.Frag} {mg : Str → Option Value} {base : Heap}
def spLbb (K : PySem.W.Frag) (n : Nat) : Sp := fun vs H Q _ => ∃ (t : V) (d : PyData) (tk ct : Addr) (cs : List Nat) (m dp : Nat) (left : Int), vs = [t, .ref tk, .ref ct, .int (m : Nat), .int ((dp + 1 : Nat) : Int), .int left] ∧ Dp K H t d ∧ TC K H tk ct cs ∧ dp + 1 ≤ n ∧ Q (.int (lbb cs m (dp + 1) d left)) H
set_option maxHeartbeats 4000000 in
theorem ok_lbb {f fE : Addr} {fd fdE : FuncData} (F : Fun K "left_by_body" "left_by_body" sLbb f fd) (bL : Binds K fd ["thing", "takes", "counts", "many", "deep", "left"] []) (gL : mg "left_by_body" = some (.ref f))
    (HE : Has P w K mg base 9 "left_by_expression" ["thing", "takes", "counts", "deep", "left"] (spLbe K 8) fE fdE) (mi : mg "isinstance" = none) (mt : mg "tuple" = none) (ml : mg "len" = none) :
    ∀ n, n ≤ 8 → FnOk P w K mg base CX0 (n + 10) f fd ["thing", "takes", "counts", "many", "deep", "left"] (spLbb K n)
  | 0, _ => by
    refine F.ok scLbb (fun vs H Q E h => ?_) (fun cdv A outer s H vs Q E hr h => ?_)
    · obtain ⟨t, d, tk, ct, cs, m, dp, left, rfl, _⟩ := h
      rfl
    · obtain ⟨t, d, tk, ct, cs, m, dp, left, rfl, _, _, hd, _⟩ := h
      omega
  | n + 1, hn => by
    have GL := ok_lbb F bL gL HE mi mt ml n (by omega)
    refine F.ok scLbb (fun vs H Q E h => ?_) (fun cdv A outer s H vs Q E hr h => ?_)
    · obtain ⟨t, d, tk, ct, cs, m, dp, left, rfl, _⟩ := h
      rfl
    · obtain ⟨t, d, tk, ct, cs, m, dp, left, rfl, hd, tc, hdp, q⟩ := h
      have nd := scLbb.nd
      have HE' : Has P w K mg base (n + 10) "left_by_expression" ["thing", "takes", "counts", "deep", "left"] (spLbe K 8) fE fdE := ⟨HE.ok.mono (by omega), HE.at_, HE.kp, HE.bd⟩
      refine' ⟨_, pss_cons ?s1 (pss_cons ?s2 (pss_cons ?s3 (pss_cons ?s4 (pss_cons ?s5 (pss_cons ?s6 (pss_cons ?s7 (pss_cons ?s8 (pss_one ?s9)))))))), ?rd⟩
      case s1 => exact ps_if (PW.pt (pw_or (pt_not (pt_val (pe_isi "tuple" 0 mi mt (by decide +kernel)))) (pw_or (pt_not (pt_truth (pv 0) (fun _ => rfl))) (pw_or1 (pt_cmpR op_lt (pv 5) pe_int (nomark _)))))) (pss_one (ps_ret (pe_un un_neg pe_int))) pss_nil
      case s2 => exact ps_set (i := 6) nd rfl (.inl rfl) (pe_ix ix_tup (pv 0) pe_int (fun _ _ => rfl))
      case s3 => exact ps_if (pt_cmpR (op_eqXS hr) (pv 6) pe_str (nomark _)) (pss_one (ps_ret (pe_ifExp (pt_cmpR op_eq (pe_callB call_len_seq (by rfl) ml PySem.boot_len (pa_cons (pv 0) pa_nil)) pe_int (nomark _)) (pe_op op_sub (pv 5) pe_int) (pe_un un_neg pe_int)))) pss_nil
      case s4 => exact ps_if (pt_cmpR op_lt (pv 4) pe_int (nomark _)) (pss_one (ps_ret (pe_un un_neg pe_int))) pss_nil
      case s5 => exact ps_aug (i := 4) nd rfl (.inl rfl) pe_int ip_sub
      case s6 => exact ps_aug (i := 5) nd rfl (.inl rfl) pe_int ip_sub
      case s7 =>
        refine' ps_if (PW.pt (pw_and (pt_cmpR (op_eqXS hr) (pv 6) pe_str (nomark _)) (pw_and (pt_cmpR op_eq (pe_callB call_len_seq (by rfl) ml PySem.boot_len (pa_cons (pv 0) pa_nil)) pe_int (nomark _))
          (pw_and (pt_val (pe_callB call_isi (by rfl) mi boot_isinstance (pa_cons (pe_ix ix_tup (pv 0) pe_int (fun _ _ => rfl)) (pa_cons (pe_bltn (v := .ty "tuple") (by rfl) mt (by decide +kernel) rfl) pa_nil))))
          (pw_and1 (pt_cmpR op_eq (pe_callB call_len_seq (by rfl) ml PySem.boot_len (pa_cons (pe_ix ix_tup (pv 0) pe_int (fun _ _ => rfl)) pa_nil)) (pv 3) (nomark _)))))))
          (pss_cons ?l1 (pss_one (ps_ret (pv 5)))) pss_nil
        case l1 =>
          exact ps_for PassesOwn.never rfl (pi_tup (pe_ix ix_tup (pv 0) pe_int (fun _ _ => rfl))) (pg_name (i := 7) nd rfl (.inl rfl))
            (pss_cons (ps_if (pt_cmpR op_lt (pv 5) pe_int (nomark _)) (pss_one (ps_ret (pe_un un_neg pe_int))) pss_nil)
            (pss_one (ps_set (i := 5) nd rfl (.inl rfl) (hcall HE' hr (pa_cons (pv 7) (pa_cons (pv 1) (pa_cons (pv 2) (pa_cons (pv 4) (pa_cons (pv 5) pa_nil)))))))))
      case s8 =>
        exact ps_if (PW.pt (pw_and (pt_cmpR (op_eqXS hr) (pv 6) pe_str (nomark _)) (pw_and1 (pt_cmpR op_eq (pe_callB call_len_seq (by rfl) ml PySem.boot_len (pa_cons (pv 0) pa_nil)) pe_int (nomark _)))))
          (pss_cons (ps_set (i := 5) nd rfl (.inl rfl) (hcall HE' hr (pa_cons (pe_ix ix_tup (pv 0) pe_int (fun _ _ => rfl)) (pa_cons (pv 1) (pa_cons (pv 2) (pa_cons (pv 4) (pa_cons (pv 5) pa_nil)))))))
          (pss_cons (ps_set (i := 5) nd rfl (.inl rfl) (pe_call GL hr (by rfl) gL F.kp bL .nil pass0 (pa_cons (pe_ix ix_tup (pv 0) pe_int (fun _ _ => rfl)) (pa_cons (pv 1) (pa_cons (pv 2) (pa_cons (pv 3) (pa_cons (pv 4) (pa_cons (pv 5) pa_nil))))))))
          (pss_one (ps_ret (pe_call GL hr (by rfl) gL F.kp bL .nil pass0 (pa_cons (pe_ix ix_tup (pv 0) pe_int (fun _ _ => rfl)) (pa_cons (pv 1) (pa_cons (pv 2) (pa_cons (pv 3) (pa_cons (pv 4) (pa_cons (pv 5) pa_nil)))))))))))
          pss_nil
      case s9 => exact ps_ret (pe_un un_neg pe_int)
      case rd =>
      have hI := dp_is hd
      have ret : ∀ {r : Int}, lbb cs m (dp + 1) d left = r → Q (.int r) H := fun e => by
        rw [← e]
        exact q
      refine ⟨_, rfl, _, _, hI.1, kit_tuple _ hI.2, _, rfl, ?_⟩
      rcases tup_is d with h1 | ⟨ds, rfl⟩
      · rw [h1]
        exact iteT (iteT ⟨1, rfl, ret (lbb_no h1)⟩)
      rw [show (tyD (.tuple ds) == "tuple") = true from by show ("tuple" == "tuple") = true; decide]
      obtain ⟨p, xs, rfl, hp, hxs⟩ := dp_tup hd
      have lx := dpA_len hxs
      cases ds with
      | nil =>
        cases dpA_nil hxs
        exact iteF ⟨_, rfl, false, .inr (.inl ⟨_, hp, rfl⟩), iteT (iteT ⟨1, rfl, ret rfl⟩)⟩
      | cons dw dr =>
      obtain ⟨xw, xr, rfl, hw, hxr⟩ := dpA_cons hxs
      have lxr := dpA_len hxr
      have e0 := lbb_tup cs m dp dw dr left
      refine iteF ⟨_, rfl, true, .inr (.inl ⟨_, hp, rfl⟩), iteF ⟨_, rfl, left, 1, rfl, rfl, _, rfl, ?_⟩⟩
      by_cases l1 : left < 1
      · rw [decide_eq_true l1]
        exact iteT ⟨1, rfl, ret (by rw [e0, if_pos l1])⟩
      rw [if_neg l1] at e0
      rw [decide_eq_false l1]
      refine iteF ⟨_, rfl, p, _, 0, xw, rfl, rfl, hp, atI_nat (j := 0) rfl, ?_⟩
      refine ⟨_, rfl, dw, "refuse", SfG.Dp.dx hw, rfl, _, rfl, ?_⟩
      cases hre : eqS dw "refuse" with
      | true =>
        rw [if_pos hre] at e0
        refine iteT ⟨_, rfl, p, _, rfl, .inr hp, rfl, _, rfl, ?_⟩
        cases dr with
        | nil =>
          cases dpA_nil hxr
          exact iteT ⟨_, rfl, left, 1, rfl, rfl, ret e0⟩
        | cons a r =>
          rw [decide_eq_false (fun z => by have := V.int.inj z; rw [List.length_cons, lxr, List.length_cons] at this; omega)]
          exact iteF ⟨1, rfl, ret e0⟩
      | false =>
      rw [if_neg (by rw [hre]; decide)] at e0
      refine iteF ⟨_, rfl, _, 2, rfl, rfl, _, rfl, ?_⟩
      by_cases d0 : dp = 0
      · subst d0
        exact iteT ⟨1, rfl, ret (by rw [e0, if_pos rfl])⟩
      rw [if_neg d0] at e0
      rw [decide_eq_false (show ¬ ((dp + 1 : Nat) : Int) < 2 by omega)]
      refine iteF ⟨_, rfl, _, 1, rfl, rfl, _, rfl, left, 1, rfl, rfl, ?_⟩
      obtain ⟨dq, rfl⟩ : ∃ z, dp = z + 1 := ⟨dp - 1, by omega⟩
      have em : ((dq + 1 + 1 : Nat) : Int) - 1 = ((dq + 1 : Nat) : Int) := by omega
      dsimp only
      rw [em]
      refine seq_end (fun σ S => σ = [some (.ref p), some (.ref tk), some (.ref ct), some (.int ((m : Nat) : Int)), some (.int ((dq + 1 : Nat) : Int)), some (.int (left - 1)), some xw, none] ∧ S = H ∧ (eqS dw "give" = true → lbb cs m (dq + 1 + 1) (.tuple (dw :: dr)) left = -1)) ?nog (fun hF => ?_)
      case nog =>
        rintro σ S ⟨rfl, rfl, hno⟩
        have low : eqS dw "when" = false → lbb cs m (dq + 1 + 1) (.tuple (dw :: dr)) left = -1 := fun hwn => by
          by_cases hg : eqS dw "give" = true
          · exact hno hg
          · rw [e0]
            match dr with
            | [] => rfl
            | [a] => exact if_neg hg
            | [_, _] => rfl
            | [a, b, c] => exact if_neg (by rw [hwn]; decide)
            | _ :: _ :: _ :: _ :: _ => rfl
        refine ⟨_, rfl, dw, "when", SfG.Dp.dx hw, rfl, _, rfl, ?_⟩
        cases hwn : eqS dw "when" with
        | false => exact iteF (iteF ⟨1, rfl, ret (low hwn)⟩)
        | true =>
        have ng : ¬ eqS dw "give" = true := fun z => by rw [give_when z] at hwn; cases hwn
        refine iteT ⟨_, rfl, p, _, rfl, .inr hp, rfl, _, rfl, ?_⟩
        by_cases l3 : dr.length = 3
        case neg =>
          rw [decide_eq_false (fun z => l3 (by have := V.int.inj z; rw [List.length_cons, lxr] at this; omega))]
          refine iteF ⟨1, rfl, ret ?_⟩
          rw [e0]
          match dr, l3 with
          | [], _ => rfl
          | [a], _ => exact if_neg ng
          | [_, _], _ => rfl
          | [a, b, c], h => exact absurd rfl h
          | _ :: _ :: _ :: _ :: _, _ => rfl
        obtain ⟨da, db, dc, rfl⟩ : ∃ a b c, dr = [a, b, c] := by
          match dr, l3 with
          | [a, b, c], _ => exact ⟨a, b, c, rfl⟩
        obtain ⟨xa, xr, rfl, ha, hxr⟩ := dpA_cons hxr
        obtain ⟨xb, xr, rfl, hb, hxr⟩ := dpA_cons hxr
        obtain ⟨xc, xr, rfl, hc, hxr⟩ := dpA_cons hxr
        cases dpA_nil hxr
        have e1 : lbb cs m (dq + 1 + 1) (.tuple [dw, da, db, dc]) left = lbb cs m (dq + 1) dc (lbb cs m (dq + 1) db (lbe cs (dq + 1) da (left - 1))) := e0.trans (if_pos hwn)
        rw [e1] at q
        refine iteT ⟨_, rfl, p, _, 1, xa, rfl, rfl, hp, atI_nat (j := 1) rfl, _, rfl, _, rfl, _, rfl, _, rfl, xa, da, tk, ct, cs, dq, left - 1, rfl, ha, tc, by omega, ?_⟩
        refine ⟨_, rfl, p, _, 2, xb, rfl, rfl, hp, atI_nat (j := 2) rfl, _, rfl, _, rfl, _, rfl, _, rfl, _, rfl, xb, db, tk, ct, cs, m, dq, _, rfl, hb, tc, by omega, ?_⟩
        refine ⟨_, rfl, p, _, 3, xc, rfl, rfl, hp, atI_nat (j := 3) rfl, _, rfl, _, rfl, _, rfl, _, rfl, _, rfl, xc, dc, tk, ct, cs, m, dq, _, rfl, hc, tc, by omega, q⟩
      refine seq_go ?_
      refine ⟨_, rfl, dw, "give", SfG.Dp.dx hw, rfl, _, rfl, ?_⟩
      cases hgi : eqS dw "give" with
      | false => exact iteF (iteF (hF _ _ ⟨rfl, rfl, fun z => by rw [hgi] at z; cases z⟩))
      | true =>
      have nw := give_when hgi
      refine iteT ⟨_, rfl, p, _, rfl, .inr hp, rfl, _, rfl, ?_⟩
      by_cases l1' : dr.length = 1
      case neg =>
        rw [decide_eq_false (fun z => l1' (by have := V.int.inj z; rw [List.length_cons, lxr] at this; omega))]
        refine iteF (iteF (hF _ _ ⟨rfl, rfl, fun _ => ?_⟩))
        rw [e0]
        match dr, l1' with
        | [], _ => rfl
        | [a], h => exact absurd rfl h
        | [_, _], _ => rfl
        | [a, b, c], _ => exact if_neg (by rw [nw]; decide)
        | _ :: _ :: _ :: _ :: _, _ => rfl
      obtain ⟨da, rfl⟩ : ∃ a, dr = [a] := by
        match dr, l1' with
        | [a], _ => exact ⟨a, rfl⟩
      obtain ⟨xa, xr, rfl, ha, hxr⟩ := dpA_cons hxr
      cases dpA_nil hxr
      have e1 : lbb cs m (dq + 1 + 1) (.tuple [dw, da]) left = giveD cs m (dq + 1) da (left - 1) := e0.trans (if_pos hgi)
      have hIa := dp_is ha
      refine iteT ⟨_, rfl, p, _, 1, xa, rfl, rfl, hp, atI_nat (j := 1) rfl, xa, .ty "tuple", .type (tyD da), .type "tuple", (tyD da == "tuple"), rfl, .ty "tuple", hIa.1, kit_ty (kit_tuple _ hIa.2), _, rfl, ?_⟩
      rcases tup_is da with h1 | ⟨es, rfl⟩
      · rw [h1]
        exact iteF (iteF (hF _ _ ⟨rfl, rfl, fun _ => by rw [e1, giveD_no h1]⟩))
      rw [show (tyD (.tuple es) == "tuple") = true from by show ("tuple" == "tuple") = true; decide]
      obtain ⟨pa, ys, rfl, hpa, hys⟩ := dp_tup ha
      have ly := dpA_len hys
      refine iteT ⟨_, rfl, p, _, 1, _, rfl, rfl, hp, atI_nat (j := 1) rfl, pa, _, rfl, .inr hpa, _, rfl, rfl, _, rfl, ?_⟩
      by_cases lm : es.length = m
      case neg =>
        rw [decide_eq_false (fun z => lm (by have := V.int.inj z; omega))]
        exact iteF (hF _ _ ⟨rfl, rfl, fun _ => by rw [e1]; exact if_neg lm⟩)
      rw [decide_eq_true (by rw [ly, lm])]
      have e2 : lbb cs m (dq + 1 + 1) (.tuple [dw, .tuple es]) left = giv cs (dq + 1) es (left - 1) := e1.trans (if_pos lm)
      rw [e2] at q
      refine iteT ⟨_, rfl, p, _, 1, _, rfl, rfl, hp, atI_nat (j := 1) rfl, pa, rfl, ⟨_, hpa⟩, ?_⟩
      refine for_it (walk_tup (xs := ys)) (fun i σ S => ∃ (l : Int) (y7 : Option V), σ = [some (.ref p), some (.ref tk), some (.ref ct), some (.int ((m : Nat) : Int)), some (.int ((dq + 1 : Nat) : Int)), some (.int l), some xw, y7] ∧ S = H ∧ giv cs (dq + 1) es (left - 1) = giv cs (dq + 1) (es.drop i) l) ⟨left - 1, none, rfl, rfl, rfl⟩ ?f0 ?f1 ?f2
      case f0 =>
        rintro i σ S hi ⟨l, y7, rfl, rfl, _⟩
        exact hpa
      case f1 =>
        rintro i y σ S' S hi ⟨l, y7, rfl, rfl, eq⟩ ⟨rfl, hy⟩
        obtain ⟨de, hde, hdy⟩ := dpA_at hys hy
        have dr : es.drop i = de :: es.drop (i + 1) := by
          obtain ⟨li, ei⟩ := List.getElem?_eq_some_iff.mp hde
          rw [List.drop_eq_getElem_cons li, ei]
        rw [dr, giv] at eq
        refine ⟨_, rfl, l, 1, rfl, rfl, _, rfl, ?_⟩
        by_cases l0 : l < 1
        · rw [decide_eq_true l0]
          rw [if_pos l0] at eq
          rw [eq] at q
          exact iteT ⟨1, rfl, q⟩
        · rw [decide_eq_false l0]
          rw [if_neg l0] at eq
          exact iteF ⟨_, rfl, _, rfl, _, rfl, _, rfl, _, rfl, y, de, tk, ct, cs, dq, l, rfl, hdy, tc, by omega, _, _, rfl, rfl, eq⟩
      case f2 =>
      rintro σ S ⟨l, y7, rfl, rfl, eq⟩
      rw [ly, List.drop_length, giv] at eq
      rw [eq] at q
      exact ⟨_, rfl, q⟩
end
end SfM
namespace SfM
open PySem PySem.Spec PyProof.Rows L2 SfG SfC
/-! ### shapes, of any data -/
theorem scShape : FnScope ["thing", "product", "bound"] ["thing"] (defScope sShape) := ⟨rfl, rfl, rfl, by decide +kernel, rfl, by decide +kernel, by decide +kernel⟩
theorem cmul_small {i j : Int} (h0 : 0 ≤ j) (h1 : j ≤ 1000) : CMul i j := by
  have m64 : (-(2 ^ 64) : Int) = -18446744073709551616 := by decide
  have p64 : ((2 ^ 64) : Int) = 18446744073709551616 := by decide
  exact .inr ⟨by rw [m64]; omega, by rw [p64]; omega⟩
def nmI : PyData → Int
  | .int i => i
  | _ => 0
def shpL : List PyData → Int → Option Int
  | [], p => some p
  | d :: r, p => if amg d 2 9 = true then shpL r (p * nmI d) else none
def shpB (d : PyData) : Bool := match d with
  | .tuple ds => decide (1 ≤ ds.length) && (decide (ds.length ≤ 3) && (match shpL ds 1 with
    | some p => decide (p ≤ 16)
    | none => false))
  | _ => false
theorem shpB_t (ds : List PyData) : shpB (.tuple ds) = (decide (1 ≤ ds.length) && (decide (ds.length ≤ 3) && (match shpL ds 1 with
    | some p => decide (p ≤ 16)
    | none => false))) := rfl
theorem shpB_no {d : PyData} (h : (tyD d == "tuple") = false) : shpB d = false := by
  cases d with
  | tuple _ => exact absurd h (by show ¬ ("tuple" == "tuple") = false; decide)
  | _ => rfl
theorem drop_at {α : Type} {l : List α} {i : Nat} {a : α} (h : l[i]? = some a) : l.drop i = a :: l.drop (i + 1) := by
  obtain ⟨li, ei⟩ := List.getElem?_eq_some_iff.mp h
  rw [List.drop_eq_getElem_cons li, ei]
section
variable {P : Program} {w : World} {K : PySem.W.Frag} {mg : Str → Option Value} {base : Heap}
def spShape (K : PySem.W.Frag) : Sp := fun vs H Q _ => ∃ (x : V) (d : PyData), vs = [x] ∧ Dp K H x d ∧ Q (.bl (shpB d)) H
theorem ok_shape {f : Addr} {fd : FuncData} {k : Nat} (F : Fun K "is_shape" "is_shape" sShape f fd) (mi : mg "isinstance" = none) (mt : mg "tuple" = none) (mn : mg "int" = none) (ml : mg "len" = none) :
    FnOk P w K mg base CX0 (k + 1) f fd ["thing"] (spShape K) := by
  refine F.ok scShape (fun vs H Q E h => ?_) (fun cdv A outer s H vs Q E hr h => ?_)
  · obtain ⟨x, d, rfl, _⟩ := h
    rfl
  · obtain ⟨x, d, rfl, hd, q⟩ := h
    have nd := scShape.nd
    refine' ⟨_, pss_cons ?s1 (pss_cons ?s2 (pss_cons ?s3 (pss_one ?s4))), ?rd⟩
    case s1 => exact ps_if (PW.pt (pw_or (pt_not (pt_val (pe_isi "tuple" 0 mi mt (by decide +kernel)))) (pw_or1 (pt_not (pt_chain op_le op_le pe_int (pe_callB call_len_seq (by rfl) ml PySem.boot_len (pa_cons (pv 0) pa_nil)) pe_int))))) (pss_one (ps_ret pe_bl)) pss_nil
    case s2 => exact ps_set (i := 1) nd rfl (.inl rfl) pe_int
    case s3 =>
      exact ps_for PassesOwn.never rfl (pi_tup (pv 0)) (pg_name (i := 2) nd rfl (.inl rfl))
        (pss_cons (ps_if (PW.pt (pw_or (pt_not (pt_val (pe_isi "int" 2 mi mn (by decide +kernel)))) (pw_or1 (pt_not (pt_chain op_leN op_leY pe_int (pv 2) pe_int))))) (pss_one (ps_ret pe_bl)) pss_nil)
        (pss_one (ps_aug (i := 1) nd rfl (.inl rfl) (pv 2) ip_mul)))
    case s4 => exact ps_ret (pe_cmpR op_le (pv 1) pe_int (nomark _))
    case rd =>
    have hI := dp_is hd
    refine ⟨_, rfl, _, _, hI.1, kit_tuple _ hI.2, _, rfl, ?_⟩
    rcases tup_is d with h1 | ⟨ds, rfl⟩
    · rw [h1]
      rw [shpB_no h1] at q
      exact iteT (iteT q)
    rw [show (tyD (.tuple ds) == "tuple") = true from by show ("tuple" == "tuple") = true; decide]
    obtain ⟨p, xs, rfl, hp, hxs⟩ := dp_tup hd
    have lx := dpA_len hxs
    refine iteF ⟨_, rfl, p, _, rfl, .inr hp, 1, _, rfl, rfl, _, rfl, ?_⟩
    by_cases c1 : 1 ≤ ds.length
    case neg =>
      rw [decide_eq_false (show ¬ (1 : Int) ≤ ((xs.length : Nat) : Int) by omega)]
      rw [show shpB (.tuple ds) = false from by rw [shpB_t, decide_eq_false c1]; rfl] at q
      exact iteF ⟨_, rfl, iteT q⟩
    rw [decide_eq_true (show (1 : Int) ≤ ((xs.length : Nat) : Int) by omega)]
    refine iteT ⟨_, 3, rfl, rfl, _, rfl, ?_⟩
    by_cases c3 : ds.length ≤ 3
    case neg =>
      rw [decide_eq_false (show ¬ ((xs.length : Nat) : Int) ≤ 3 by omega)]
      refine iteT ?_
      rw [show shpB (.tuple ds) = false from by rw [shpB_t, decide_eq_false c3, Bool.false_and, Bool.and_false]] at q
      exact q
    rw [decide_eq_true (show ((xs.length : Nat) : Int) ≤ 3 by omega)]
    have e0 : shpB (.tuple ds) = (match shpL ds 1 with | some p => decide (p ≤ 16) | none => false) := by
      rw [shpB_t, decide_eq_true c1, decide_eq_true c3]
      rfl
    rw [e0] at q
    refine iteF ⟨_, rfl, p, rfl, ⟨_, hp⟩, ?_⟩
    refine for_it (walk_tup (xs := xs)) (fun i σ S => ∃ (pr : Int) (y2 : Option V), σ = [some (.ref p), some (.int pr), y2] ∧ S = H ∧ shpL ds 1 = shpL (ds.drop i) pr) ⟨1, none, rfl, rfl, rfl⟩ ?f0 ?f1 ?f2
    case f0 =>
      rintro i σ S hi ⟨pr, y2, rfl, rfl, _⟩
      exact hp
    case f1 =>
      rintro i y σ S' S hi ⟨pr, y2, rfl, rfl, eq⟩ ⟨rfl, hy⟩
      obtain ⟨de, hde, hdy⟩ := dpA_at hxs hy
      rw [drop_at hde, shpL] at eq
      have hIe := dp_is hdy
      have nve := num_vd hdy
      refine ⟨_, rfl, _, _, hIe.1, kit_intN, _, rfl, ?_⟩
      rcases num_cases de with ⟨i, rfl⟩ | ⟨b, rfl⟩ | ⟨nn, ge⟩
      · refine iteF ⟨_, rfl, 2, i, rfl, nve, _, rfl, ?_⟩
        cases dp_int hdy
        by_cases c : 2 ≤ i ∧ i ≤ 9
        · rw [amg_int, decide_eq_true c.1, decide_eq_true c.2, Bool.and_self, if_pos rfl] at eq
          rw [decide_eq_true c.1]
          refine iteT ⟨i, 9, rfl, rfl, _, rfl, ?_⟩
          rw [decide_eq_true c.2]
          have c1' := c.1
          have c2' := c.2
          exact iteF ⟨_, rfl, _, rfl, pr, i, rfl, rfl, cmul_small (by omega) (by omega), _, _, rfl, rfl, eq⟩
        · rw [if_neg (fun z => c (by rw [amg_int, Bool.and_eq_true, decide_eq_true_eq, decide_eq_true_eq] at z; exact z))] at eq
          rw [eq] at q
          by_cases c2 : 2 ≤ i
          · rw [decide_eq_true c2]
            refine iteT ⟨i, 9, rfl, rfl, _, rfl, ?_⟩
            rw [decide_eq_false (show ¬ i ≤ 9 from fun z => c ⟨c2, z⟩)]
            exact iteT q
          · rw [decide_eq_false c2]
            exact iteF ⟨_, rfl, iteT q⟩
      · rw [if_neg (by show ¬ false = true; decide)] at eq
        rw [eq] at q
        refine iteF ⟨_, rfl, 2, _, rfl, nve, _, rfl, ?_⟩
        cases b with
        | true => exact iteF ⟨_, rfl, iteT q⟩
        | false => exact iteF ⟨_, rfl, iteT q⟩
      · rw [ge, if_neg (by decide)] at eq
        rw [eq] at q
        rw [nn]
        exact iteT (iteT q)
    case f2 =>
    rintro σ S ⟨pr, y2, rfl, rfl, eq⟩
    rw [lx, List.drop_length, shpL] at eq
    rw [eq] at q
    exact ⟨_, rfl, pr, 16, rfl, rfl, q⟩
end
end SfM
namespace SfM
open PySem PySem.Spec PyProof.Rows L2 SfG SfC
/-! ### the fault of any thing that should be a making -/
abbrev nMF : List Str := ["face", "thing", "hidden", "deeds", "shapes", "bodies", "counts", "number", "shape", "name", "takes", "gives"]
theorem scMFault : FnScope nMF ["face", "thing"] (defScope sMFault) := ⟨rfl, rfl, rfl, by decide +kernel, rfl, by decide +kernel, by decide +kernel⟩
abbrev wSh : Str := "shapes"
abbrev wBd : Str := "bodies"
/-- where a name stands -/
def posS : List Str → Str → Nat
  | [], _ => 0
  | a :: r, s => if a = s then 0 else posS r s + 1
theorem pos_at : ∀ {l : List Str} {s : Str}, s ∈ l → l[posS l s]? = some s
  | a :: r, s, h => by
    by_cases e : a = s
    · rw [posS, if_pos e, e]
      rfl
    · rw [posS, if_neg e]
      rcases List.mem_cons.mp h with z | z
      · exact absurd z.symm e
      · exact pos_at z
theorem pos_first : ∀ {l : List Str} {s : Str} {m : Nat}, m < posS l s → l[m]? ≠ some s
  | [], s, m, h => by
    cases h
  | a :: r, s, 0, h => by
    intro z
    rw [posS, if_pos (Option.some.inj z)] at h
    cases h
  | a :: r, s, m + 1, h => by
    by_cases e : a = s
    · rw [posS, if_pos e] at h
      cases h
    · rw [posS, if_neg e] at h
      exact pos_first (l := r) (by omega)
theorem pos_eq {l : List Str} {s : Str} {j : Nat} (up : l.Pairwise lt) (h : l[j]? = some s) : posS l s = j := by
  have h1 := pos_at (List.mem_of_getElem? h)
  have n1 : ¬ posS l s < j := fun z => by
    obtain ⟨a1, e1⟩ := List.getElem?_eq_some_iff.mp h1
    obtain ⟨a2, e2⟩ := List.getElem?_eq_some_iff.mp h
    have := List.pairwise_iff_getElem.mp up _ _ a1 a2 z
    rw [e1, e2] at this
    exact List.lt_irrefl _ this
  have n2 : ¬ j < posS l s := fun z => pos_first z h
  omega
/-- how many fields a kind has -/
def cntK (hd : List Str) (ls : List Nat) : Kn → Nat
  | .h s => ls.getD (posS hd s) 1
  | .p _ => 1
def lenD : PyData → Nat
  | .tuple ds => ds.length
  | _ => 0
def shsL : List PyData → Nat → Option Nat
  | [], _ => none
  | d :: r, i => if shpB d = true then shsL r (i + 1) else some i
def bdsL (hd : List Str) (ls : List Nat) : List De → List PyData → Nat → Option Nat
  | e :: es, b :: bs, i => if lbb (e.tk.map (cntK hd ls)) (cntK hd ls e.gv) 8 b 60 < 0 then some i else bdsL hd ls es bs (i + 1)
  | _, _, _ => none
def mfl3 (f : Fc) (ss bs : List PyData) : Option (Option Str × Option Nat) := match shsL ss 0 with
  | some i => some (some wSh, some i)
  | none => (bdsL f.hd (ss.map lenD) f.ds bs 0).map fun i => (some wBd, some i)
def mfl2 (f : Fc) (a b : PyData) : Option (Option Str × Option Nat) := match a with
  | .tuple ss => if ss.length = f.hd.length then (match b with
    | .tuple bs => if bs.length = f.ds.length then mfl3 f ss bs else some (some wBd, none)
    | _ => some (some wBd, none)) else some (some wSh, none)
  | _ => some (some wSh, none)
/-- the fault of a thing -/
def mfl (f : Fc) (d : PyData) : Option (Option Str × Option Nat) := match d with
  | .tuple [a, b] => mfl2 f a b
  | _ => some (none, none)
def ovS : Option Str → V
  | none => .non
  | some z => .str z
def ovN : Option Nat → V
  | none => .non
  | some n => .int (n : Nat)
theorem mfl_no {f : Fc} {d : PyData} (h : (tyD d == "tuple") = false) : mfl f d = some (none, none) := by
  cases d with
  | tuple _ => exact absurd h (by show ¬ ("tuple" == "tuple") = false; decide)
  | _ => rfl
theorem mfl_len {f : Fc} {ds : List PyData} (h : ds.length ≠ 2) : mfl f (.tuple ds) = some (none, none) := by
  match ds, h with
  | [], _ => rfl
  | [_], _ => rfl
  | [_, _], h => exact absurd rfl h
  | _ :: _ :: _ :: _, _ => rfl
theorem mfl2_no {f : Fc} {a b : PyData} (h : (tyD a == "tuple") = false) : mfl2 f a b = some (some wSh, none) := by
  cases a with
  | tuple _ => exact absurd h (by show ¬ ("tuple" == "tuple") = false; decide)
  | _ => rfl
/-- what counts tells of the first i kinds -/
def CtI (hd : List Str) (ls : List Nat) (i : Nat) (kvs : List (Key × V)) : Prop :=
  (∀ n : Int, valV kvs (Sum.inl n) = none) ∧ (∀ (j : Nat) (s : Str) (n : Nat), j < i → hd[j]? = some s → ls[j]? = some n → valV kvs (Sum.inr s) = some (.int (n : Nat)))
theorem CtI.put {hd : List Str} {ls : List Nat} {i : Nat} {kvs : List (Key × V)} (up : hd.Pairwise lt) (h : CtI hd ls i kvs) {s : Str} {n : Nat} (hs : hd[i]? = some s) (hn : ls[i]? = some n) : CtI hd ls (i + 1) (putK kvs (Sum.inr s) (.int (n : Nat))) := by
  refine ⟨fun m => ?_, fun j t m hj ht hm => ?_⟩
  · rw [valV_put, if_neg (fun z => by cases z)]
    exact h.1 m
  · rw [valV_put]
    by_cases e : j = i
    · subst e
      have e1 : t = s := Option.some.inj (ht.symm.trans hs)
      have e2 : m = n := Option.some.inj (hm.symm.trans hn)
      rw [e1, e2, if_pos rfl]
    · rw [if_neg (fun z => ?_)]
      · exact h.2 j t m (by omega) ht hm
      · have z' : t = s := Sum.inr.inj z
        rw [z'] at ht
        have a1 := pos_eq up ht
        have a2 := pos_eq up hs
        omega
theorem CtI.get {hd : List Str} {ls : List Nat} {kvs : List (Key × V)} (hl : ls.length = hd.length) (h : CtI hd ls hd.length kvs) {k : Kn} (hk : goK hd k) : (valV kvs (kkey k)).getD (.int 1) = .int ((cntK hd ls k : Nat) : Int) := by
  cases k with
  | p n =>
    show (valV kvs (Sum.inl n)).getD _ = _
    rw [h.1 n]
    rfl
  | h s =>
    have hk' : s ∈ hd := hk
    have h1 := pos_at hk'
    have li : posS hd s < hd.length := (List.getElem?_eq_some_iff.mp h1).1
    have h2 : ls[posS hd s]? = some (ls[posS hd s]'(by omega)) := List.getElem?_eq_getElem _
    show (valV kvs (Sum.inr s)).getD _ = .int ((ls.getD (posS hd s) 1 : Nat) : Int)
    rw [h.2 _ s _ li h1 h2, List.getD_eq_getElem?_getD, h2]
    rfl
theorem mfl2_b {f : Fc} {ss : List PyData} {b : PyData} (hl : ss.length = f.hd.length) (h : (tyD b == "tuple") = false) : mfl2 f (.tuple ss) b = some (some wBd, none) := by
  show (if ss.length = f.hd.length then _ else _) = _
  rw [if_pos hl]
  cases b with
  | tuple _ => exact absurd h (by show ¬ ("tuple" == "tuple") = false; decide)
  | _ => rfl
theorem mfl2_t {f : Fc} {ss bs : List PyData} (hl : ss.length = f.hd.length) : mfl2 f (.tuple ss) (.tuple bs) = if bs.length = f.ds.length then mfl3 f ss bs else some (some wBd, none) := by
  show (if ss.length = f.hd.length then _ else _) = _
  rw [if_pos hl]
theorem bds_nil {hd : List Str} {ls : List Nat} (bs : List PyData) (i : Nat) : bdsL hd ls [] bs i = none := by cases bs <;> rfl
theorem shp_tup {d : PyData} (h : shpB d = true) : ∃ es, d = .tuple es := by
  cases d with
  | tuple es => exact ⟨es, rfl⟩
  | _ => cases h
section
variable {P : Program} {w : World} {K : PySem.W.Frag} {mg : Str → Option Value} {base : Heap}
/-- any thing; a tuple has no dict in it -/
def Mx (K : PySem.W.Frag) (H : Hp) (y : V) (d : PyData) : Prop := Dx K H y d ∧ ∀ ds, d = .tuple ds → Dp K H y d
def spMF (K : PySem.W.Frag) : Sp := fun vs H Q _ => ∃ (x y : V) (f : Fc) (d : PyData), vs = [x, y] ∧ Dp K H x f.d ∧ goF f ∧ Mx K H y d ∧ (mfl f d = none → ∀ H', Gr H H' → Q .non H') ∧ (∀ a b, mfl f d = some (a, b) → ∀ H' t, Gr H H' → H' t = some (.tup [ovS a, ovN b]) → Q (.ref t) H')
set_option maxHeartbeats 4000000 in
theorem ok_mfault {f fS fB : Addr} {fd fdS fdB : FuncData} {t60 t8 : Tok} (F : Fun K "making_fault" "making_fault" sMFault f fd) (HS : Has P w K mg base 18 "is_shape" ["thing"] (spShape K) fS fdS)
    (HB : Has P w K mg base 18 "left_by_body" ["thing", "takes", "counts", "many", "deep", "left"] (spLbb K 8) fB fdB) (mi : mg "isinstance" = none) (mt : mg "tuple" = none) (ml : mg "len" = none) (me : mg "enumerate" = none)
    (m60 : mg "MOST_PARTS" = some (.int 60 t60)) (m8 : mg "MOST_DEEP" = some (.int 8 t8)) :
    FnOk P w K mg base CX0 19 f fd ["face", "thing"] (spMF K) := by
  refine F.ok scMFault (fun vs H Q E h => ?_) (fun cdv A outer s H vs Q E hr h => ?_)
  · obtain ⟨x, y, f, d, rfl, _⟩ := h
    rfl
  · obtain ⟨x, y, f, d, rfl, hx, go, ⟨hy, hyp⟩, qn, qs⟩ := h
    have nd := scMFault.nd
    refine' ⟨_, pss_cons ?s1 (pss_cons ?s2 (pss_cons ?s3 (pss_cons ?s4 (pss_cons ?s5 (pss_cons ?s6 (pss_cons ?s7 (pss_cons ?s8 (pss_one ?s9)))))))), ?rd⟩
    case s1 => exact ps_if (PW.pt (pw_or (pt_not (pt_val (pe_isi "tuple" 1 mi mt (by decide +kernel)))) (pw_or1 (pt_cmpR op_ne (pe_callB call_len_seq (by rfl) ml PySem.boot_len (pa_cons (pv 1) pa_nil)) pe_int (nomark _))))) (pss_one (ps_ret (pe_tup (pa_cons pe_non (pa_cons pe_non pa_nil))))) pss_nil
    case s2 => exact ps_asg (pv 0) (pg_tup rfl (pgs_cons (pg_name (i := 2) nd rfl (.inl rfl)) (pgs_cons (pg_name (i := 3) nd rfl (.inl rfl)) pgs_nil)))
    case s3 => exact ps_asg (pv 1) (pg_tup rfl (pgs_cons (pg_name (i := 4) nd rfl (.inl rfl)) (pgs_cons (pg_name (i := 5) nd rfl (.inl rfl)) pgs_nil)))
    case s4 => exact ps_if (PW.pt (pw_or (pt_not (pt_val (pe_isi "tuple" 4 mi mt (by decide +kernel)))) (pw_or1 (pt_cmpR op_ne (pe_callB call_len_seq (by rfl) ml PySem.boot_len (pa_cons (pv 4) pa_nil)) (pe_callB call_len_seq (by rfl) ml PySem.boot_len (pa_cons (pv 2) pa_nil)) (nomark _))))) (pss_one (ps_ret (pe_tup (pa_cons pe_str (pa_cons pe_non pa_nil))))) pss_nil
    case s5 => exact ps_if (PW.pt (pw_or (pt_not (pt_val (pe_isi "tuple" 5 mi mt (by decide +kernel)))) (pw_or1 (pt_cmpR op_ne (pe_callB call_len_seq (by rfl) ml PySem.boot_len (pa_cons (pv 5) pa_nil)) (pe_callB call_len_seq (by rfl) ml PySem.boot_len (pa_cons (pv 3) pa_nil)) (nomark _))))) (pss_one (ps_ret (pe_tup (pa_cons pe_str (pa_cons pe_non pa_nil))))) pss_nil
    case s6 => exact ps_set (i := 6) nd rfl (.inl rfl) pe_dnewK
    case s7 =>
      exact ps_for PassesOwn.never rfl (pi_enumT (by rfl) me (pa_cons (pv 4) pa_nil)) (pg_tup rfl (pgs_cons (pg_name (i := 7) nd rfl (.inl rfl)) (pgs_cons (pg_name (i := 8) nd rfl (.inl rfl)) pgs_nil)))
        (pss_cons (ps_if (pt_not (pt_val (hcall HS hr (pa_cons (pv 8) pa_nil)))) (pss_one (ps_ret (pe_tup (pa_cons pe_str (pa_cons (pv 7) pa_nil))))) pss_nil)
        (pss_one (ps_dput (hu_of hr) (pv 6) (pe_ix ix_tup (pv 2) (pv 7) (fun _ _ => rfl)) (pe_callB call_len_seq (by rfl) ml PySem.boot_len (pa_cons (pv 8) pa_nil)) rfl)))
    case s8 =>
      exact ps_for PassesOwn.never rfl (pi_enumT (by rfl) me (pa_cons (pv 3) pa_nil)) (pg_tup rfl (pgs_cons (pg_name (i := 7) nd rfl (.inl rfl)) (pgs_cons (pg_tup rfl (pgs_cons (pg_name (i := 9) nd rfl (.inl rfl)) (pgs_cons (pg_name (i := 10) nd rfl (.inl rfl)) (pgs_cons (pg_name (i := 11) nd rfl (.inl rfl)) pgs_nil)))) pgs_nil)))
        (pss_one (ps_if (pt_cmpR op_lt (hcall HB hr (pa_cons (pe_ix ix_tup (pv 5) (pv 7) (fun _ _ => rfl)) (pa_cons (pv 10) (pa_cons (pv 6) (pa_cons (pe_dget2 (hu_of hr) (pv 6) (pv 11) pe_int ⟨rfl, rfl, rfl, rfl⟩) (pa_cons (pe_glob (v := .int 8) rfl m8 ⟨_, rfl⟩) (pa_cons (pe_glob (v := .int 60) rfl m60 ⟨_, rfl⟩) pa_nil))))))) pe_int (nomark _))
          (pss_one (ps_ret (pe_tup (pa_cons pe_str (pa_cons (pv 7) pa_nil))))) pss_nil))
    case s9 => exact ps_ret pe_non
    case rd =>
    have ty1 : ∀ l : List PyData, (tyD (.tuple l) == "tuple") = true := fun l => by show ("tuple" == "tuple") = true; decide
    have hI := dx_is hy
    refine ⟨_, rfl, _, _, hI.1, kit_tuple _ hI.2, _, rfl, ?_⟩
    rcases tup_is d with h1 | ⟨ds, rfl⟩
    · rw [h1]
      exact iteT (iteT ⟨by show 2 ≤ sizeLine; decide, fun t nt => qs none none (mfl_no h1) _ t (Gr.new nt) upd_same⟩)
    rw [ty1]
    have hd := hyp ds rfl
    clear hy hyp hI
    obtain ⟨p, xs, rfl, hp, hxs⟩ := dp_tup hd
    have lx := dpA_len hxs
    refine iteF ⟨_, rfl, p, _, rfl, .inr hp, rfl, _, rfl, ?_⟩
    by_cases l2 : ds.length = 2
    case neg =>
      rw [decide_eq_false (fun z => l2 (by have := V.int.inj z; omega))]
      exact iteT ⟨by show 2 ≤ sizeLine; decide, fun t nt => qs none none (mfl_len l2) _ t (Gr.new nt) upd_same⟩
    obtain ⟨da, db, rfl⟩ : ∃ a b, ds = [a, b] := by
      match ds, l2 with
      | [a, b], _ => exact ⟨a, b, rfl⟩
    obtain ⟨xa, xr, rfl, ha, hxr⟩ := dpA_cons hxs
    obtain ⟨xb, xr, rfl, hb, hxr⟩ := dpA_cons hxr
    cases dpA_nil hxr
    obtain ⟨pf, ph, pd, fxs, rfl, hpf, hph, hpd, dd⟩ := dp_face hx
    have lf : fxs.length = f.ds.length := by
      have := dpA_len dd
      rw [List.length_map] at this
      exact this
    refine iteF ⟨_, rfl, pf, _, rfl, hpf, rfl, _, _, rfl, _, _, rfl, rfl, ?_⟩
    refine ⟨_, rfl, p, _, rfl, hp, rfl, _, _, rfl, _, _, rfl, rfl, ?_⟩
    have hIa := dp_is ha
    refine ⟨_, rfl, _, _, hIa.1, kit_tuple _ hIa.2, _, rfl, ?_⟩
    rcases tup_is da with h1 | ⟨ss, rfl⟩
    · rw [h1]
      exact iteT (iteT ⟨by show 2 ≤ sizeLine; decide, fun t nt => qs (some wSh) none (mfl2_no h1) _ t (Gr.new nt) upd_same⟩)
    rw [ty1]
    obtain ⟨pa, ys, rfl, hpa, hys⟩ := dp_tup ha
    have ly := dpA_len hys
    refine iteF ⟨_, rfl, pa, _, rfl, .inr hpa, _, rfl, ph, _, rfl, .inr hph, rfl, _, rfl, ?_⟩
    by_cases ls : ss.length = f.hd.length
    case neg =>
      rw [decide_eq_false (fun z => ls (by have := V.int.inj z; rw [List.length_map] at this; omega))]
      exact iteT ⟨by show 2 ≤ sizeLine; decide, fun t nt => qs (some wSh) none (by show mfl2 f (.tuple ss) db = _; show (if _ then _ else _) = _; rw [if_neg ls]) _ t (Gr.new nt) upd_same⟩
    rw [decide_eq_true (show V.int ((ys.length : Nat) : Int) = V.int (((f.hd.map V.str).length : Nat) : Int) by rw [List.length_map, ly, ls])]
    refine iteF ?_
    have hIb := dp_is hb
    refine ⟨_, rfl, _, _, hIb.1, kit_tuple _ hIb.2, _, rfl, ?_⟩
    rcases tup_is db with h1 | ⟨bs, rfl⟩
    · rw [h1]
      exact iteT (iteT ⟨by show 2 ≤ sizeLine; decide, fun t nt => qs (some wBd) none (mfl2_b ls h1) _ t (Gr.new nt) upd_same⟩)
    rw [ty1]
    obtain ⟨pb, zs, rfl, hpb, hzs⟩ := dp_tup hb
    have lz := dpA_len hzs
    have e2 : mfl f (.tuple [.tuple ss, .tuple bs]) = if bs.length = f.ds.length then mfl3 f ss bs else some (some wBd, none) := mfl2_t ls
    refine iteF ⟨_, rfl, pb, _, rfl, .inr hpb, _, rfl, pd, _, rfl, .inr hpd, rfl, _, rfl, ?_⟩
    by_cases lb : bs.length = f.ds.length
    case neg =>
      rw [decide_eq_false (fun z => lb (by have := V.int.inj z; omega))]
      exact iteT ⟨by show 2 ≤ sizeLine; decide, fun t nt => qs (some wBd) none (by rw [e2, if_neg lb]) _ t (Gr.new nt) upd_same⟩
    rw [decide_eq_true (show V.int ((zs.length : Nat) : Int) = V.int ((fxs.length : Nat) : Int) by rw [lz, lb, lf])]
    rw [if_pos lb] at e2
    rw [e2] at qn qs
    clear e2 hIa hIb hd
    refine iteF (fun ct nct => ?_)
    have g1 : Gr H (upd H ct (.dK [])) := Gr.new nct
    have e1 : upd H ct (.dK []) ct = some (.dK []) := upd_same
    generalize upd H ct (.dK []) = H1 at g1 e1 ⊢
    have hi2 := go.hid.hi
    refine ⟨_, rfl, pa, _, rfl, g1.sqt hpa, for_it (walk_enumT (xs := ys)) (fun i σ S => ∃ (y7 y8 : Option V) (kvs : List (Key × V)), σ = [some (.ref pf), some (.ref p), some (.ref ph), some (.ref pd), some (.ref pa), some (.ref pb), some (.ref ct), y7, y8, none, none, none] ∧
      S ct = some (.dK kvs) ∧ kvs.length ≤ i ∧ CtI f.hd (ss.map lenD) i kvs ∧ Gr H S ∧ shsL ss 0 = shsL (ss.drop i) i) ⟨none, none, [], rfl, e1, Nat.le_refl _, ⟨fun _ => rfl, fun _ _ _ h => absurd h (Nat.not_lt_zero _)⟩, g1, rfl⟩ ?h1 ?h2 ?h3⟩
    case h1 =>
      rintro i σ S hi ⟨y7, y8, kvs, rfl, ec, lk, cI, g, eq⟩
      exact g.sqt hpa
    case h2 =>
      rintro i v σ S S' hi ⟨y7, y8, kvs, rfl, ec, lk, cI, g, eq⟩ ⟨T, a, b, rfl, nT, rfl, hna, hnb⟩
      cases hna
      obtain ⟨de, hde, hdy⟩ := dpA_at hys hnb
      rw [drop_at hde, shsL] at eq
      have g2 : Gr H (upd S T (.tup [.int (i : Nat), b])) := g.trans (Gr.new nT)
      have hT : upd S T (.tup [.int (i : Nat), b]) T = some (.tup [.int (i : Nat), b]) := upd_same
      have ec2 := (Gr.new (o := .tup [.int (i : Nat), b]) nT).dic ec
      generalize upd S T (.tup [.int (i : Nat), b]) = S2 at g2 hT ec2 ⊢
      have hdy2 := g2.kd.dp hdy
      refine ⟨T, _, rfl, .inl (.inl hT), rfl, _, _, rfl, _, _, rfl, rfl, ?_⟩
      refine ⟨_, rfl, b, de, rfl, hdy2, ?_⟩
      cases hs : shpB de with
      | false =>
        rw [if_neg (by rw [hs]; decide)] at eq
        exact ⟨_, rfl, iteT ⟨_, rfl, by show 2 ≤ sizeLine; decide, fun t nt => qs (some wSh) (some i) (by unfold mfl3; rw [eq]) _ t (g2.trans (Gr.new nt)) upd_same⟩⟩
      | true =>
        rw [if_pos hs] at eq
        obtain ⟨es, rfl⟩ := shp_tup hs
        obtain ⟨pe, ws, rfl, hpe, hws⟩ := dp_tup hdy2
        have lw := dpA_len hws
        have is_ : i < f.hd.length := by have := lt_of_at hde; omega
        have hn : f.hd[i]? = some f.hd[i] := List.getElem?_eq_getElem is_
        generalize f.hd[i] = nm at hn
        have hl : (ss.map lenD)[i]? = some es.length := by rw [List.getElem?_map, hde]; rfl
        refine ⟨_, rfl, iteF ⟨_, rfl, pe, _, rfl, .inr hpe, _, rfl, _, rfl, _, rfl, ph, _, _, _, rfl, rfl, g2.sqt hph, atI_nat (by rw [List.getElem?_map, hn]; rfl), ct, _, rfl, DPut.k (k := Sum.inr nm) ec2 (SfC.small1000 (by omega)), ?_⟩⟩
        refine ⟨_, _, putK kvs (Sum.inr nm) (.int ((ws.length : Nat) : Int)), rfl, upd_same, ?_, ?_, g2.upd_new nct, eq⟩
        · have := length_putK kvs (Sum.inr nm) (V.int ((ws.length : Nat) : Int))
          omega
        · rw [lw]
          exact cI.put go.hid.up hn hl
    case h3 =>
    rintro σ S ⟨y7, y8, kvs, rfl, ec, lk, cI, g, eq⟩
    rw [ly, List.drop_length, shsL] at eq
    rw [ly, ls] at cI
    have e3 : mfl3 f ss bs = (bdsL f.hd (ss.map lenD) f.ds bs 0).map fun i => (some wBd, some i) := by
      unfold mfl3
      rw [eq]
    rw [e3] at qn qs
    refine ⟨_, rfl, pd, _, rfl, g.sqt hpd, for_it (walk_enumT (xs := fxs)) (fun i σ S => ∃ (y7 y9 y10 y11 : Option V), σ = [some (.ref pf), some (.ref p), some (.ref ph), some (.ref pd), some (.ref pa), some (.ref pb), some (.ref ct), y7, y8, y9, y10, y11] ∧
      S ct = some (.dK kvs) ∧ Gr H S ∧ bdsL f.hd (ss.map lenD) f.ds bs 0 = bdsL f.hd (ss.map lenD) (f.ds.drop i) (bs.drop i) i) ⟨_, _, _, _, rfl, ec, g, rfl⟩ ?k1 ?k2 ?k3⟩
    case k1 =>
      rintro i σ S hi ⟨y7, y9, y10, y11, rfl, ec, g, eq⟩
      exact g.sqt hpd
    case k3 =>
      rintro σ S ⟨y7, y9, y10, y11, rfl, ec, g, eq⟩
      rw [lf, List.drop_length, bds_nil] at eq
      exact qn (by rw [eq]; rfl) S g
    case k2 =>
      rintro i v σ S S' hi ⟨y7, y9, y10, y11, rfl, ec, g, eq⟩ ⟨T, a, b, rfl, nT, rfl, hna, hnb⟩
      cases hna
      obtain ⟨e, he, hde⟩ := dpA_de dd hnb
      have ib : i < bs.length := by have := lt_of_at he; omega
      have hbb : bs[i]? = some bs[i] := List.getElem?_eq_getElem ib
      generalize bs[i] = bd at hbb
      obtain ⟨xbd, hxb, dbd⟩ := dpA_get hzs hbb
      rw [drop_at he, drop_at hbb, bdsL] at eq
      have ge := go.ok e (List.mem_of_getElem? he)
      have g2 : Gr H (upd S T (.tup [.int (i : Nat), b])) := g.trans (Gr.new nT)
      have hT : upd S T (.tup [.int (i : Nat), b]) T = some (.tup [.int (i : Nat), b]) := upd_same
      have ec2 := (Gr.new (o := .tup [.int (i : Nat), b]) nT).dic ec
      generalize upd S T (.tup [.int (i : Nat), b]) = S2 at g2 hT ec2 ⊢
      obtain ⟨pe, n1, t1, v1, rfl, hpe, dn, dt, dg⟩ := dp_3 (g2.kd.dp hde)
      cases dp_str dn
      cases dp_kn dg
      obtain ⟨pt, ts, rfl, hpt, hts⟩ := dp_tup dt
      cases dpA_kns hts
      have tc : TC K S2 pt ct (e.tk.map (cntK f.hd (ss.map lenD))) := ⟨⟨e.tk, hpt, by rw [List.length_map], kvs, ec2, fun j k c hk hc => by
        rw [List.getElem?_map, hk] at hc
        cases hc
        exact cI.get (by rw [List.length_map, ls]) (ge.tk k (List.mem_of_getElem? hk))⟩⟩
      refine ⟨T, _, rfl, .inl (.inl hT), rfl, _, _, rfl, _, _, rfl, pe, _, rfl, hpe, rfl, _, _, rfl, _, _, rfl, _, _, rfl, rfl, rfl, ?_⟩
      refine ⟨_, rfl, _, rfl, pb, _, _, _, rfl, rfl, g2.sqt hpb, atI_nat hxb, _, rfl, _, rfl, _, rfl, ct, rfl, .inl ⟨_, .inl ec2⟩, _, rfl, _, kn_key e.gv ▸ DGet.k (k := kkey e.gv) ec2, ?_⟩
      refine ⟨xbd, bd, pt, ct, _, cntK f.hd (ss.map lenD) e.gv, 7, 60, by rw [cI.get (by rw [List.length_map, ls]) ge.gv]; rfl, g2.kd.dp dbd, tc, Nat.le_refl _, ?_⟩
      refine ⟨_, 0, rfl, rfl, _, rfl, ?_⟩
      by_cases hneg : lbb (e.tk.map (cntK f.hd (ss.map lenD))) (cntK f.hd (ss.map lenD) e.gv) (7 + 1) bd 60 < 0
      · rw [if_pos hneg] at eq
        rw [decide_eq_true hneg]
        exact iteT ⟨_, rfl, by show 2 ≤ sizeLine; decide, fun t nt => qs (some wBd) (some i) (by rw [eq]; rfl) _ t (g2.trans (Gr.new nt)) upd_same⟩
      · rw [if_neg hneg] at eq
        rw [decide_eq_false hneg]
        exact iteF ⟨_, _, _, _, rfl, ec2, g2, eq⟩
end
end SfM
namespace SfM
open PySem PySem.Spec PyProof.Rows L2 SfG SfC
/-! ### good bodies and makings have no fault -/
/-- how many parts -/
def ptE : Ex → Nat
  | .num _ => 1
  | .inp _ _ => 1
  | .bin _ a b => 1 + ptE a + ptE b
  | .rst a _ => 1 + ptE a
  | .iff a b c => 1 + ptE a + ptE b + ptE c
def ptEs (es : List Ex) : Nat := (es.map ptE).sum
def dpEs (es : List Ex) : Nat := es.foldr (fun e n => max (dep e) n) 1
def ptB : Bd → Nat
  | .ref => 1
  | .giv es => 1 + ptEs es
  | .whn e a b => 1 + ptE e + ptB a + ptB b
def dpB : Bd → Nat
  | .ref => 1
  | .giv es => 1 + dpEs es
  | .whn e a b => 1 + max (dep e) (max (dpB a) (dpB b))
def bdOk (cs : List Nat) (m : Nat) : Bd → Prop
  | .ref => True
  | .giv es => es.length = m ∧ ∀ e ∈ es, okE cs e
  | .whn e a b => okE cs e ∧ bdOk cs m a ∧ bdOk cs m b
structure goB (cs : List Nat) (m : Nat) (b : Bd) : Prop where
  ok : bdOk cs m b
  dp : dpB b ≤ 8
  pt : ptB b ≤ 60
theorem dep_pos : ∀ e : Ex, 1 ≤ dep e
  | .num _ => Nat.le_refl 1
  | .inp _ _ => Nat.le_refl 1
  | .bin _ a b => by simp only [dep]; omega
  | .rst a _ => by simp only [dep]; omega
  | .iff a b c => by simp only [dep]; omega
theorem ptE_pos : ∀ e : Ex, 1 ≤ ptE e
  | .num _ => Nat.le_refl 1
  | .inp _ _ => Nat.le_refl 1
  | .bin _ a b => by simp only [ptE]; omega
  | .rst a _ => by simp only [ptE]; omega
  | .iff a b c => by simp only [ptE]; omega
theorem ptB_pos : ∀ b : Bd, 1 ≤ ptB b
  | .ref => Nat.le_refl 1
  | .giv es => by simp only [ptB]; omega
  | .whn e a b => by simp only [ptB]; omega
theorem lvs_pt : ∀ e : Ex, lvs e ≤ ptE e
  | .num _ => Nat.le_refl 1
  | .inp _ _ => Nat.le_refl 1
  | .bin _ a b => by have := lvs_pt a; have := lvs_pt b; simp only [ptE, lvs]; omega
  | .rst a _ => by have := lvs_pt a; simp only [ptE, lvs]; omega
  | .iff a b c => by have := lvs_pt a; have := lvs_pt b; have := lvs_pt c; simp only [ptE, lvs]; omega
theorem dpEs_mem {es : List Ex} {e : Ex} (h : e ∈ es) : dep e ≤ dpEs es := by
  induction es with
  | nil => cases h
  | cons a r ih =>
    show dep e ≤ max (dep a) (dpEs r)
    rcases List.mem_cons.mp h with rfl | h
    · omega
    · have := ih h
      omega
theorem dpEs_pos : ∀ es : List Ex, 1 ≤ dpEs es
  | [] => Nat.le_refl 1
  | a :: r => by
    have := dpEs_pos r
    show 1 ≤ max (dep a) (dpEs r)
    omega
theorem ptEs_mem {es : List Ex} {e : Ex} (h : e ∈ es) : ptE e ≤ ptEs es := by
  induction es with
  | nil => cases h
  | cons a r ih =>
    show ptE e ≤ (((a :: r).map ptE)).sum
    rw [List.map_cons, List.sum_cons]
    rcases List.mem_cons.mp h with rfl | h
    · omega
    · have := ih h
      unfold ptEs at this
      omega
theorem pair_opw (w : Nat) : pairW (.str (opw w)) = true := by
  unfold opw
  split <;> decide +kernel
theorem eqS_ne {a z : Str} (h : V.str a ≠ V.str z) : eqS (.str a) z = false := decide_eq_false fun e => h (by rw [e])
theorem lbe_ok {cs : List Nat} : ∀ (e : Ex) (dp : Nat) (left : Int), okE cs e → dep e ≤ dp → ((ptE e : Nat) : Int) ≤ left → lbe cs dp e.d left = left - ((ptE e : Nat) : Int)
  | e, 0, left, _, hd, _ => by
    have := dep_pos e
    omega
  | .num n, dp + 1, left, ho, hd, hl => by
    rw [Ex.d, lbe, show eqS (.str "number") "number" = true from by decide +kernel]
    have h1 := ho.1
    have h2 := ho.2
    rw [show amg (.int n) 0 99 = true from by show (decide (0 ≤ n) && decide (n ≤ 99)) = true; rw [decide_eq_true h1, decide_eq_true h2]; rfl]
    rfl
  | .inp k f, dp + 1, left, ho, hd, hl => by
    obtain ⟨c, hk, hf⟩ := ho
    have hlt := lt_of_at hk
    rw [Ex.d, lbe, show eqS (.str "in") "in" = true from by decide +kernel, if_pos rfl]
    unfold inE
    have e1 : cAt cs ((k : Nat) : Int) = ((c : Nat) : Int) := by
      unfold cAt
      rw [Int.toNat_natCast, List.getD_eq_getElem?_getD, hk]
      rfl
    have e2 : amg (.int ((k : Nat) : Int)) 0 ((cs.length : Int) - 1) = true := by
      show (decide ((0 : Int) ≤ (k : Nat)) && decide (((k : Nat) : Int) ≤ (cs.length : Int) - 1)) = true
      rw [decide_eq_true (show (0 : Int) ≤ (k : Nat) by omega), decide_eq_true (show ((k : Nat) : Int) ≤ (cs.length : Int) - 1 by omega)]
      rfl
    have e3 : amg (.int ((f : Nat) : Int)) 0 (cAt cs ((k : Nat) : Int) - 1) = true := by
      rw [e1]
      show (decide ((0 : Int) ≤ (f : Nat)) && decide (((f : Nat) : Int) ≤ ((c : Nat) : Int) - 1)) = true
      rw [decide_eq_true (show (0 : Int) ≤ (f : Nat) by omega), decide_eq_true (show ((f : Nat) : Int) ≤ ((c : Nat) : Int) - 1 by omega)]
      rfl
    dsimp only
    rw [e2, e3]
    rfl
  | .bin w a b, dp + 1, left, ho, hd, hl => by
    obtain ⟨n1, n2, n3, n4⟩ := opw_ne w
    simp only [dep] at hd
    simp only [ptE] at hl ⊢
    have pa := dep_pos a
    have qa := ptE_pos a
    rw [Ex.d, lbe, eqS_ne n2, if_neg (by decide), if_neg (by omega), pair_opw, if_pos rfl, lbe_ok a dp _ ho.2.1 (by omega) (by omega), lbe_ok b dp _ ho.2.2 (by omega) (by omega)]
    omega
  | .rst a n, dp + 1, left, ho, hd, hl => by
    simp only [dep] at hd
    simp only [ptE] at hl ⊢
    have pa := dep_pos a
    have h1 := ho.1
    have h2 := ho.2.1
    rw [Ex.d, lbe, show eqS (.str "rest") "in" = false from by decide +kernel, if_neg (by decide), if_neg (by omega), show pairW (.str "rest") = false from by decide +kernel, if_neg (by decide), show eqS (.str "rest") "rest" = true from by decide +kernel]
    rw [show amg (.int n) 2 99 = true from by show (decide (2 ≤ n) && decide (n ≤ 99)) = true; rw [decide_eq_true h1, decide_eq_true h2]; rfl]
    rw [Bool.and_self, if_pos rfl, lbe_ok a dp _ ho.2.2 (by omega) (by omega)]
    omega
  | .iff a b c, dp + 1, left, ho, hd, hl => by
    simp only [dep] at hd
    simp only [ptE] at hl ⊢
    have pa := dep_pos a
    rw [Ex.d, lbe, if_pos ⟨by decide +kernel, by omega, by omega⟩, lbe_ok a dp _ ho.1 (by omega) (by omega), lbe_ok b dp _ ho.2.1 (by omega) (by omega), lbe_ok c dp _ ho.2.2 (by omega) (by omega)]
    omega
theorem giv_ok {cs : List Nat} {dp : Nat} : ∀ (es : List Ex) (left : Int), (∀ e ∈ es, okE cs e ∧ dep e ≤ dp) → ((ptEs es : Nat) : Int) ≤ left → giv cs dp (es.map Ex.d) left = left - ((ptEs es : Nat) : Int)
  | [], left, _, _ => by
    rw [List.map_nil, giv]
    show left = left - 0
    omega
  | e :: r, left, h, hl => by
    have pe := ptE_pos e
    have es : ptEs (e :: r) = ptE e + ptEs r := by
      unfold ptEs
      rw [List.map_cons, List.sum_cons]
    rw [es] at hl ⊢
    rw [List.map_cons, giv, if_neg (by omega), lbe_ok e dp left (h e (.head _)).1 (h e (.head _)).2 (by omega), giv_ok r _ (fun x hx => h x (.tail _ hx)) (by omega)]
    omega
theorem lbb_ok {cs : List Nat} {m : Nat} : ∀ (b : Bd) (dp : Nat) (left : Int), bdOk cs m b → dpB b ≤ dp → ((ptB b : Nat) : Int) ≤ left → lbb cs m dp b.d left = left - ((ptB b : Nat) : Int)
  | .ref, 0, left, _, hd, _ => by
    simp only [dpB] at hd
    omega
  | .giv _, 0, left, _, hd, _ => by
    simp only [dpB] at hd
    omega
  | .whn _ _ _, 0, left, _, hd, _ => by
    simp only [dpB] at hd
    omega
  | .ref, dp + 1, left, ho, hd, hl => by
    simp only [ptB] at hl ⊢
    rw [Bd.d, lbb_tup, if_neg (by omega), if_pos (by decide +kernel), if_pos (show ([] : List PyData).isEmpty = true from rfl)]
    rfl
  | .giv es, dp + 1, left, ho, hd, hl => by
    simp only [ptB] at hl ⊢
    simp only [dpB] at hd
    have pe := dpEs_pos es
    rw [Bd.d, lbb_tup, if_neg (by omega), show eqS (.str "give") "refuse" = false from by decide +kernel, if_neg (by decide), if_neg (by omega)]
    show (if eqS (.str "give") "give" = true then giveD cs m dp (.tuple (es.map Ex.d)) (left - 1) else -1) = _
    rw [if_pos (by decide +kernel)]
    show (if (es.map Ex.d).length = m then giv cs dp (es.map Ex.d) (left - 1) else -1) = _
    rw [if_pos (by rw [List.length_map]; exact ho.1), giv_ok es _ (fun e he => ⟨ho.2 e he, by have := dpEs_mem he; omega⟩) (by omega)]
    omega
  | .whn e a b, dp + 1, left, ho, hd, hl => by
    simp only [ptB] at hl ⊢
    simp only [dpB] at hd
    have pe := dep_pos e
    have pp := ptB_pos b
    rw [Bd.d, lbb_tup, if_neg (by omega), show eqS (.str "when") "refuse" = false from by decide +kernel, if_neg (by decide), if_neg (by omega)]
    show (if eqS (.str "when") "when" = true then lbb cs m dp b.d (lbb cs m dp a.d (lbe cs dp e.d (left - 1))) else -1) = _
    rw [if_pos (by decide +kernel), lbe_ok e dp _ ho.1 (by omega) (by omega), lbb_ok a dp _ ho.2.1 (by omega) (by omega), lbb_ok b dp _ ho.2.2 (by omega) (by omega)]
    omega
/-! ### makings -/
structure Mk where
  shs : List (List Nat)
  bds : List Bd
def shD (s : List Nat) : PyData := .tuple (s.map fun n => .int (n : Nat))
def Mk.d (k : Mk) : PyData := .tuple [.tuple (k.shs.map shD), .tuple (k.bds.map Bd.d)]
structure goS (s : List Nat) : Prop where
  lo : 1 ≤ s.length
  hi : s.length ≤ 3
  bd : ∀ n ∈ s, 2 ≤ n ∧ n ≤ 9
  pr : s.foldl (· * ·) 1 ≤ 16
/-- how many fields a kind has by a making's shapes -/
def fds (f : Fc) (shs : List (List Nat)) (k : Kn) : Nat := cntK f.hd (shs.map List.length) k
structure goM (f : Fc) (k : Mk) : Prop where
  ls : k.shs.length = f.hd.length
  lb : k.bds.length = f.ds.length
  sh : ∀ s ∈ k.shs, goS s
  bd : ∀ (i : Nat) (e : De) (b : Bd), f.ds[i]? = some e → k.bds[i]? = some b → goB (e.tk.map (fds f k.shs)) (fds f k.shs e.gv) b
theorem shpL_ok : ∀ (s : List Nat) (p : Nat), (∀ n ∈ s, 2 ≤ n ∧ n ≤ 9) → shpL (s.map fun n : Nat => .int (n : Nat)) ((p : Nat) : Int) = some ((s.foldl (· * ·) p : Nat) : Int)
  | [], p, _ => rfl
  | n :: r, p, h => by
    have hn := h n (.head _)
    rw [List.map_cons, shpL, amg_int, decide_eq_true (show (2 : Int) ≤ ((n : Nat) : Int) by omega), decide_eq_true (show ((n : Nat) : Int) ≤ 9 by omega), Bool.and_self, if_pos rfl, nmI, show ((p : Nat) : Int) * ((n : Nat) : Int) = ((p * n : Nat) : Int) from (Int.natCast_mul p n).symm, shpL_ok r (p * n) fun x hx => h x (.tail _ hx)]
    rfl
theorem shpB_ok {s : List Nat} (h : goS s) : shpB (shD s) = true := by
  have h1 := h.lo
  have h2 := h.hi
  have h3 := h.pr
  unfold shD
  rw [shpB_t, List.length_map, decide_eq_true h1, decide_eq_true h2, show ((1 : Int)) = ((1 : Nat) : Int) from rfl, shpL_ok s 1 h.bd]
  show decide (((s.foldl (· * ·) 1 : Nat) : Int) ≤ 16) = true
  rw [decide_eq_true]
  omega
theorem shsL_ok : ∀ (l : List (List Nat)) (i : Nat), (∀ s ∈ l, goS s) → shsL (l.map shD) i = none
  | [], _, _ => rfl
  | s :: r, i, h => by
    rw [List.map_cons, shsL, if_pos (shpB_ok (h s (.head _))), shsL_ok r (i + 1) fun x hx => h x (.tail _ hx)]
theorem bdsL_ok {hd : List Str} {ls : List Nat} : ∀ (es : List De) (bs : List Bd) (i : Nat), (∀ (j : Nat) (e : De) (b : Bd), es[j]? = some e → bs[j]? = some b → goB (e.tk.map (cntK hd ls)) (cntK hd ls e.gv) b) → bdsL hd ls es (bs.map Bd.d) i = none
  | [], _, _, _ => bds_nil _ _
  | e :: es, [], _, _ => rfl
  | e :: es, b :: bs, i, h => by
    have g := h 0 e b rfl rfl
    have h1 := g.pt
    rw [List.map_cons, bdsL, lbb_ok b 8 60 g.ok g.dp (by omega), if_neg (by omega), bdsL_ok es bs (i + 1) fun j e' b' he hb => h (j + 1) e' b' (by simpa using he) (by simpa using hb)]
theorem lenD_map (l : List (List Nat)) : (l.map shD).map lenD = l.map List.length := by
  rw [List.map_map]
  refine List.map_congr_left fun s _ => ?_
  show (s.map _).length = s.length
  rw [List.length_map]
theorem mfl_ok {f : Fc} {k : Mk} (h : goM f k) : mfl f k.d = none := by
  show mfl2 f (.tuple (k.shs.map shD)) (.tuple (k.bds.map Bd.d)) = none
  rw [mfl2_t (by rw [List.length_map]; exact h.ls), if_pos (by rw [List.length_map]; exact h.lb)]
  unfold mfl3
  rw [shsL_ok _ _ h.sh, lenD_map]
  dsimp only
  rw [bdsL_ok _ _ _ h.bd]
  rfl
theorem sh_dp {K : PySem.W.Frag} {H : Hp} {v : V} {d : PyData} (h : Dp K H v d) (hn : ∀ kv, d ≠ .dict kv) : Mx K H v d := ⟨SfG.Dp.dx h, fun _ _ => h⟩
abbrev nRM : List Str := ["face", "making", "fault", "part", "number"]
theorem scRefM : FnScope nRM ["face", "making"] (defScope sRefM) := ⟨rfl, rfl, rfl, by decide +kernel, rfl, by decide +kernel, by decide +kernel⟩
theorem scNeedM : FnScope ["face", "making"] ["face", "making"] (defScope sNeedM) := ⟨rfl, rfl, rfl, by decide +kernel, rfl, by decide +kernel, by decide +kernel⟩
section
variable {P : Program} {w : World} {K : PySem.W.Frag} {mg : Str → Option Value} {base : Heap}
/-- a face and a making of it -/
def spGoodM (K : PySem.W.Frag) : Sp := fun vs H Q _ => ∃ (x y : V) (f : Fc) (k : Mk), vs = [x, y] ∧ Dp K H x f.d ∧ Dp K H y k.d ∧ goF f ∧ goM f k ∧ ∀ H', Gr H H' → Q .non H'
theorem ok_refM {f fU : Addr} {fd fdU : FuncData} {k : Nat} (F : Fun K "refuse_no_making" "refuse_no_making" sRefM f fd) (HU : Has P w K mg base k "making_fault" ["face", "thing"] (spMF K) fU fdU) : FnOk P w K mg base CX0 (k + 1) f fd ["face", "making"] (spGoodM K) := by
  refine F.ok scRefM (fun vs H Q E h => ?_) (fun cdv A outer s H vs Q E hr h => ?_)
  · obtain ⟨x, y, f, k, rfl, _⟩ := h
    rfl
  · obtain ⟨x, y, f, k, rfl, hx, hy, go, gm, q⟩ := h
    refine ⟨_, pss_cons (ps_set (i := 2) scRefM.nd rfl (.inl rfl) (hcall HU hr (pa_cons (pv 0) (pa_cons (pv 1) pa_nil)))) (pss_one (ps_if (pt_cmpR op_notN (pv 2) pe_non (nomark _)) pss_never pss_nil)), ?_⟩
    refine ⟨_, rfl, _, rfl, x, y, f, k.d, rfl, hx, go, ⟨SfG.Dp.dx hy, fun _ _ => hy⟩, fun _ H1 g1 => ⟨_, rfl, rfl, _, rfl, iteF (q H1 g1)⟩, fun a b e => ?_⟩
    rw [mfl_ok gm] at e
    cases e
theorem ok_needM {f fN fU : Addr} {fd fdN fdU : FuncData} {k : Nat} (F : Fun K "need_making" "need_making" sNeedM f fd) (HN : Has P w K mg base k "need_face" ["face"] (spGood K .non) fN fdN) (HU : Has P w K mg base k "refuse_no_making" ["face", "making"] (spGoodM K) fU fdU) : FnOk P w K mg base CX0 (k + 1) f fd ["face", "making"] (spGoodM K) := by
  refine F.ok scNeedM (fun vs H Q E h => ?_) (fun cdv A outer s H vs Q E hr h => ?_)
  · obtain ⟨x, y, f, k, rfl, _⟩ := h
    rfl
  · obtain ⟨x, y, f, k, rfl, hx, hy, go, gm, q⟩ := h
    refine ⟨_, pss_cons (ps_expr (hcall HN hr (pa_cons (pv 0) pa_nil))) (pss_one (ps_expr (hcall HU hr (pa_cons (pv 0) (pa_cons (pv 1) pa_nil))))), ?_⟩
    exact ⟨_, rfl, x, f, rfl, hx, go, fun H1 g1 => ⟨_, rfl, _, rfl, x, y, f, k, rfl, g1.kd.dp hx, g1.kd.dp hy, go, gm, fun H2 g2 => q H2 (g1.trans g2)⟩⟩
end
end SfM
/-! xs != [] -/
namespace SfG
open PySem PySem.Spec PyProof.Rows L2
def rNeL0 (K : PySem.W.Frag) : R2 := fun x y H Q => ∃ (p q : Addr) (l : List V), x = .ref p ∧ y = .ref q ∧ SqL K H p l ∧ SqL K H q [] ∧ Q (.bl (!l.isEmpty)) H
theorem op_neL0 {X : Cx} {k : Nat} (hr : Room k X.A) : OpR X (compareOp .NotEq) (rNeL0 X.K) := by
  intro pins s σ H x y v u Q I rx ry h
  obtain ⟨p, q, l, rfl, rfl, hp, hq, g⟩ := h
  cases rx
  cases ry
  have hu : X.A.units < cLine := by
    have := hr.un
    omega
  obtain ⟨us, rv, ⟨o, n, a1, a2, _, a3⟩, _⟩ := I.list hp
  obtain ⟨ws, rw', ⟨o2, n2, b1, b2, _, b3⟩, _⟩ := I.list hq
  cases rw'
  show wpAny _ _ (richCompare .NotEq _ _) _ _ s
  cases rv with
  | nil => exact SeqAt.RcNeAt.lists (e := fun _ => true) ⟨o, a1, a2, n, a3⟩ ⟨o2, b1, b2, n2, b3⟩ rfl hu (fun j h1 h2 => absurd h2 (by simp)) _ _ _ _ ⟨.bl false, H, I, rfl, g⟩
  | cons a b => exact SeqAt.RcNeAt.lists_lengths ⟨o, a1, a2, n, a3⟩ ⟨o2, b1, b2, n2, b3⟩ (by simp) hu _ _ _ _ ⟨.bl true, H, I, rfl, g⟩
end SfG
namespace SfM
open PySem PySem.Spec PyProof.Rows L2 SfG SfC
/-! ### Es, drawn: a leaf, one of some levels -/
abbrev nLeaf : List Str := ["_law_m", "_law_spots", "_law_number", "_law_field"]
theorem scLeaf : FnScope nLeaf ["_law_m", "_law_spots"] (defScope sLeaf) := ⟨rfl, rfl, rfl, by decide +kernel, rfl, by decide +kernel, by decide +kernel⟩
abbrev nReck : List Str := ["_law_m", "_law_spots", "_law_deep", "_law_way", "_law_some", "_law_k", "_law_word"]
theorem scReck : FnScope nReck ["_law_m", "_law_spots", "_law_deep"] (defScope sReck) := ⟨rfl, rfl, rfl, by decide +kernel, rfl, by decide +kernel, by decide +kernel⟩
def spD (p : Nat × Nat) : PyData := .tuple [.int (p.1 : Nat), .int (p.2 : Nat)]
theorem noL_sp (p : Nat × Nat) : noL (spD p) = true := by
  unfold spD
  rw [noL, noLA, noLA, noLA, noL, noL]
  rfl
/-- a list of places of fields -/
structure Sps (K : PySem.W.Frag) (H : Hp) (m r l : Addr) (ps : List (Nat × Nat)) : Prop where
  ex : ∃ xs, H l = some (.lst xs) ∧ DpAll K H xs (ps.map spD)
  nm : l ≠ m
  nr : l ≠ r
theorem Sps.g2 {K : PySem.W.Frag} {H H' : Hp} {m r l : Addr} {a : Src} {cs : List Int} {B : Int} {ps : List (Nat × Nat)} (d : Dr K H m r a cs B) (g : G2 m r H H') (h : Sps K H m r l ps) : Sps K H' m r l ps := by
  obtain ⟨⟨xs, h1, h2⟩, n1, n2⟩ := h
  exact ⟨⟨xs, g.lst n1 n2 h1, Kt.dpA (d.kt g) h2 (noLA_map _ noL_sp _)⟩, n1, n2⟩
def spOk (cn : List Nat) (ps : List (Nat × Nat)) : Prop := ∀ p ∈ ps, ∃ c, cn[p.1]? = some c ∧ p.2 < c
mutual
theorem noL_ex : ∀ e : Ex, noL e.d = true
  | .num n => by rw [Ex.d]; rfl
  | .inp k f => by rw [Ex.d]; rfl
  | .bin w a b => by
    rw [Ex.d, noL, noLA, noLA, noLA, noLA, noL, noL_ex a, noL_ex b]
    rfl
  | .rst a n => by
    rw [Ex.d, noL, noLA, noLA, noLA, noLA, noL, noL, noL_ex a]
    rfl
  | .iff a b c => by
    rw [Ex.d, noL, noLA, noLA, noLA, noLA, noLA, noL, noL_ex a, noL_ex b, noL_ex c]
    rfl
end
section
variable {P : Program} {w : World} {K : PySem.W.Frag} {mg : Str → Option Value} {base : Heap}
def spLeaf (K : PySem.W.Frag) : Sp := fun vs H Q _ => ∃ (m r l : Addr) (a : Src) (cs : List Int) (B : Int) (ps : List (Nat × Nat)) (cn : List Nat), vs = [.ref m, .ref l] ∧ Dr K H m r a cs B ∧ B ≤ 900000 ∧ Sps K H m r l ps ∧ ps.length ≤ 100 ∧ spOk cn ps ∧
  ∀ H' v (e : Ex), G2 m r H H' → Dr K H' m r a cs (B + 4) → Dp K H' v e.d → okE cn e → dep e = 1 → ptE e = 1 → Q v H'
set_option maxHeartbeats 1000000 in
theorem ok_leaf {f fD fO : Addr} {fd dD dO : FuncData} {k : Nat} (F : Fun K "_law_leaf" "_law_leaf" sLeaf f fd) (HD : Has P w K mg base k "_law_draw" ["_law_m", "_law_many"] (spDrw K) fD dD) (HO_ : Has P w K mg base k "_law_of" ["_law_m", "_law_some"] (spOf K) fO dO) :
    FnOk P w K mg base CX0 (k + 1) f fd ["_law_m", "_law_spots"] (spLeaf K) := by
  refine F.ok scLeaf (fun vs H Q E h => ?_) (fun cdv A outer s H vs Q E hr h => ?_)
  · obtain ⟨m, r, l, a, cs, B, ps, cn, rfl, _⟩ := h
    rfl
  · obtain ⟨m, r, l, a, cs, B, ps, cn, rfl, d0, hB, sp, lp, ok, q⟩ := h
    have nd := scLeaf.nd
    refine' ⟨_, pss_cons ?s1 (pss_cons ?s2 (pss_one ?s3)), ?rd⟩
    case s1 => exact ps_set (i := 2) nd rfl (.inl rfl) (hcall HO_ hr (pa_cons (pv 0) (pa_cons (pe_lst (pa_cons pe_int (pa_cons pe_int (pa_cons pe_int (pa_cons pe_int (pa_cons pe_int (pa_cons (hcall HD hr (pa_cons (pv 0) (pa_cons pe_int pa_nil))) pa_nil))))))) pa_nil)))
    case s2 => exact ps_set (i := 3) nd rfl (.inl rfl) (pe_ifExp (pt_cmpR (op_neL0 hr) (pv 1) (pe_lst pa_nil) (nomark _)) (hcall HO_ hr (pa_cons (pv 0) (pa_cons (pv 1) pa_nil))) pe_non)
    case s3 =>
      exact ps_ret (pe_ifExp (PW.pt (pw_or (pt_cmpR op_isN (pv 3) pe_non (nomark _)) (pw_or1 (pt_cmpR op_eq (hcall HD hr (pa_cons (pv 0) (pa_cons pe_int pa_nil))) pe_int (nomark _))))) (pe_tup (pa_cons pe_str (pa_cons (pv 2) pa_nil)))
        (pe_op op_catT (pe_tup (pa_cons pe_str pa_nil)) (pv 3)))
    case rd =>
    refine ⟨_, rfl, _, rfl, m, r, a, cs, 100, B, rfl, d0, by omega, by decide, by decide, fun H1 nu g1 d1 n0 n1 => ⟨by show 6 ≤ sizeLine; decide, fun t nt => ?_⟩⟩
    have k2 : Gr H1 (upd H1 t (.lst [.int 0, .int 1, .int 1, .int 2, .int 3, .int nu])) := Gr.new nt
    have e2 : upd H1 t (.lst [.int 0, .int 1, .int 1, .int 2, .int 3, .int nu]) t = some (.lst [.int 0, .int 1, .int 1, .int 2, .int 3, .int nu]) := upd_same
    obtain ⟨nt1, nt2⟩ := d1.nm nt
    have d2 := d1.gr k2
    have g2 := g1.trans (G2.gr k2)
    generalize upd H1 t (.lst [.int 0, .int 1, .int 1, .int 2, .int 3, .int nu]) = H2 at k2 e2 d2 g2 ⊢
    refine ⟨m, r, t, a, cs, _, _, rfl, d2, by omega, .inl ⟨.inl (.inl e2), nt1, nt2⟩, by simp, by show 6 ≤ 1000; decide, fun H3 ix x g3 d3 hx => ?_⟩
    obtain ⟨v, rfl, v0, v1⟩ : ∃ v : Int, x = .int v ∧ 0 ≤ v ∧ v ≤ 99 := by
      have hm := List.mem_of_getElem? hx
      simp only [List.mem_cons, List.not_mem_nil, or_false] at hm
      rcases hm with rfl | rfl | rfl | rfl | rfl | rfl
      · exact ⟨0, rfl, by decide, by decide⟩
      · exact ⟨1, rfl, by decide, by decide⟩
      · exact ⟨1, rfl, by decide, by decide⟩
      · exact ⟨2, rfl, by decide, by decide⟩
      · exact ⟨3, rfl, by decide, by decide⟩
      · exact ⟨nu, rfl, n0, by omega⟩
    have g03 := g2.trans g3
    have sp3 := sp.g2 d0 g03
    obtain ⟨⟨xs, hl, dxs⟩, nl1, nl2⟩ := sp3
    refine ⟨_, rfl, by show 0 ≤ sizeLine; decide, fun e0 ne0 => ?_⟩
    have k4 : Gr H3 (upd H3 e0 (.lst [])) := Gr.new ne0
    have e4 : upd H3 e0 (.lst []) e0 = some (.lst []) := upd_same
    have d4 := d3.gr k4
    have g04 := g03.trans (G2.gr k4)
    have hl4 := k4.lst hl
    have dx4 := k4.kd.dpA dxs
    generalize upd H3 e0 (.lst []) = H4 at k4 e4 d4 g04 hl4 dx4 ⊢
    refine ⟨l, e0, xs, rfl, rfl, .inl (.inl hl4), .inl (.inl e4), _, rfl, ?_⟩
    have lx : xs.length = ps.length := by
      have := dpA_len dxs
      rw [List.length_map] at this
      exact this
    have num : ∀ (H5 : Hp), G2 m r H H5 → Dr K H5 m r a cs (B + 4) → ∀ t, H5 t = none → Q (.ref t) (upd H5 t (.tup [.str "number", .int v])) := fun H5 g5 d5 t nt =>
      q _ _ (.num v) (g5.trans (G2.gr (Gr.new nt))) (d5.gr (Gr.new nt)) (.tup (.inl (.inl upd_same)) (.cons (.str _) (.cons (.int _) .nil))) ⟨v0, v1⟩ rfl rfl
    cases xs with
    | nil =>
      refine iteF ⟨_, rfl, rfl, _, rfl, iteT (iteT ⟨_, rfl, by show 2 ≤ sizeLine; decide, fun t nt => num H4 g04 (d4.mono (by omega)) t nt⟩)⟩
    | cons x0 xr =>
      refine iteT ⟨_, rfl, _, rfl, m, r, l, a, cs, _, _, rfl, d4, by omega, .inl ⟨.inl (.inl hl4), nl1, nl2⟩, by simp, by omega, fun H5 ix y g5 d5 hy => ?_⟩
      obtain ⟨dy, hdy, dpy⟩ := dpA_at dx4 hy
      rw [List.getElem?_map] at hdy
      obtain ⟨p, hp, rfl⟩ := Option.map_eq_some_iff.mp hdy
      have dp5 := Kt.dp (d4.kt g5) dpy (noL_sp p)
      obtain ⟨py, a1, a2, rfl, hpy, h1, h2⟩ := dp_2 dp5
      cases dp_int h1
      cases dp_int h2
      have g05 := g04.trans g5
      refine ⟨_, rfl, rfl, _, rfl, iteF ?_⟩
      refine ⟨_, rfl, m, r, a, cs, 3, _, rfl, d5, by omega, by decide, by decide, fun H6 z g6 d6 z0 z1 => ⟨rfl, _, rfl, ?_⟩⟩
      have g06 := g05.trans g6
      refine ite2 (fun _ => ⟨_, rfl, by show 2 ≤ sizeLine; decide, fun t nt => num H6 g06 (d6.mono (by omega)) t nt⟩) (fun _ => ?_)
      refine ⟨by show 1 ≤ sizeLine; decide, fun t1 nt1 => ?_⟩
      have k7 : Gr H6 (upd H6 t1 (.tup [.str "in"])) := Gr.new nt1
      have hpy7 := k7.sqt (d5.kt g6 hpy)
      refine ⟨_, rfl, t1, py, [.str "in"], [.int ((p.1 : Nat) : Int), .int ((p.2 : Nat) : Int)], rfl, rfl, .inl (.inl upd_same), hpy7, by simp, by show 3 ≤ sizeLine; decide, fun z => by simp at z, fun _ p2 np2 => ?_⟩
      have k8 := k7.trans (Gr.new (o := .tup ([.str "in"] ++ [.int ((p.1 : Nat) : Int), .int ((p.2 : Nat) : Int)])) np2)
      exact q _ _ (.inp p.1 p.2) (g06.trans (G2.gr k8)) ((d6.gr k8).mono (by omega)) (.tup (.inl (.inl upd_same)) (.cons (.str _) (.cons (.int _) (.cons (.int _) .nil)))) (ok p (List.mem_of_getElem? hp)) rfl rfl
end
end SfM
namespace SfM
open PySem PySem.Spec PyProof.Rows L2 SfG SfC
/-! ### an E of some levels, drawn -/
/-- how many draws, how many parts, at so many levels -/
def bdR : Nat → Nat
  | 0 => 5
  | n + 1 => 3 * bdR n + 3
def pbR : Nat → Nat
  | 0 => 1
  | n + 1 => 1 + 3 * pbR n
theorem pbR_pos : ∀ n, 1 ≤ pbR n
  | 0 => Nat.le_refl 1
  | n + 1 => by rw [pbR]; omega
theorem bdR_ge : ∀ n, 5 ≤ bdR n
  | 0 => Nat.le_refl 5
  | n + 1 => by have := bdR_ge n; rw [bdR]; omega
theorem less_one (x y : V) (d : Nat) : [x, y, V.int ((d : Int) + 1 - 1)] = [x, y, V.int ((d : Nat) : Int)] := by rw [Int.add_sub_cancel]
theorem word_at {x : V} {i : Nat} (h : ([V.str "plus", .str "plus", .str "plus", .str "less", .str "times", .str "same", .str "under"] : List V)[i]? = some x) : ∃ w, w ≤ 4 ∧ x = .str (opw w) := by
  have hm := List.mem_of_getElem? h
  simp only [List.mem_cons, List.not_mem_nil, or_false] at hm
  rcases hm with rfl | rfl | rfl | rfl | rfl | rfl | rfl
  · exact ⟨0, by decide, rfl⟩
  · exact ⟨0, by decide, rfl⟩
  · exact ⟨0, by decide, rfl⟩
  · exact ⟨1, by decide, rfl⟩
  · exact ⟨2, by decide, rfl⟩
  · exact ⟨3, by decide, rfl⟩
  · exact ⟨4, by decide, rfl⟩
section
variable {P : Program} {w : World} {K : PySem.W.Frag} {mg : Str → Option Value} {base : Heap}
def spReck (K : PySem.W.Frag) (n : Nat) : Sp := fun vs H Q _ => ∃ (m r l : Addr) (a : Src) (cs : List Int) (B : Int) (ps : List (Nat × Nat)) (cn : List Nat) (dp : Nat), vs = [.ref m, .ref l, .int (dp : Nat)] ∧ Dr K H m r a cs B ∧ B + ((bdR dp : Nat) : Int) ≤ 900000 ∧ Sps K H m r l ps ∧ ps.length ≤ 100 ∧ spOk cn ps ∧ dp < n ∧
  ∀ H' v (e : Ex), G2 m r H H' → Dr K H' m r a cs (B + ((bdR dp : Nat) : Int)) → Dp K H' v e.d → okE cn e → dep e ≤ dp + 1 → ptE e ≤ pbR dp → Q v H'
set_option maxHeartbeats 4000000 in
theorem ok_reck {f fD fO fL : Addr} {fd dD dO dL : FuncData} {k : Nat} (F : Fun K "_law_reckoning" "_law_reckoning" sReck f fd) (bR : Binds K fd ["_law_m", "_law_spots", "_law_deep"] []) (gR : mg "_law_reckoning" = some (.ref f))
    (HD : Has P w K mg base k "_law_draw" ["_law_m", "_law_many"] (spDrw K) fD dD) (HO_ : Has P w K mg base k "_law_of" ["_law_m", "_law_some"] (spOf K) fO dO) (HL : Has P w K mg base k "_law_leaf" ["_law_m", "_law_spots"] (spLeaf K) fL dL)
    (mr : mg "range" = none) (mi : mg "int" = none) (mt : mg "tuple" = none) : ∀ n, FnOk P w K mg base CX0 (k + n + 1) f fd ["_law_m", "_law_spots", "_law_deep"] (spReck K n)
  | 0 => by
    refine F.ok scReck (fun vs H Q E h => ?_) (fun cdv A outer s H vs Q E hr h => ?_)
    · obtain ⟨m, r, l, a, cs, B, ps, cn, dp, rfl, _⟩ := h
      rfl
    · obtain ⟨m, r, l, a, cs, B, ps, cn, dp, rfl, _, _, _, _, _, hd, _⟩ := h
      omega
  | n + 1 => by
    have GR := ok_reck F bR gR HD HO_ HL mr mi mt n
    refine F.ok scReck (fun vs H Q E h => ?_) (fun cdv A outer s H vs Q E hr h => ?_)
    · obtain ⟨m, r, l, a, cs, B, ps, cn, dp, rfl, _⟩ := h
      rfl
    · obtain ⟨m, r, l, a, cs, B, ps, cn, dp, rfl, d0, hB, sp, lp, ok, hdn, q⟩ := h
      have nd := scReck.nd
      have HD' : Has P w K mg base (k + n + 1) "_law_draw" ["_law_m", "_law_many"] (spDrw K) fD dD := ⟨HD.ok.mono (by omega), HD.at_, HD.kp, HD.bd⟩
      have HO' : Has P w K mg base (k + n + 1) "_law_of" ["_law_m", "_law_some"] (spOf K) fO dO := ⟨HO_.ok.mono (by omega), HO_.at_, HO_.kp, HO_.bd⟩
      have HL' : Has P w K mg base (k + n + 1) "_law_leaf" ["_law_m", "_law_spots"] (spLeaf K) fL dL := ⟨HL.ok.mono (by omega), HL.at_, HL.kp, HL.bd⟩
      refine' ⟨_, pss_cons ?s1 (pss_cons ?s2 (pss_cons ?s3 (pss_cons ?s4 (pss_cons ?s5 (pss_one ?s6))))), ?rd⟩
      case s1 => exact ps_set (i := 3) nd rfl (.inl rfl) (hcall HD' hr (pa_cons (pv 0) (pa_cons pe_int pa_nil)))
      case s2 => exact ps_if (PW.pt (pw_or (pt_cmpR op_eq (pv 2) pe_int (nomark _)) (pw_or1 (pt_cmpR op_lt (pv 3) pe_int (nomark _))))) (pss_one (ps_ret (hcall HL' hr (pa_cons (pv 0) (pa_cons (pv 1) pa_nil))))) pss_nil
      case s3 =>
        exact ps_if (pt_cmpR op_eq (pv 3) pe_int (nomark _)) (pss_one (ps_ret (pe_tup (pa_cons pe_str (pa_cons (pe_call GR hr (by rfl) gR F.kp bR .nil pass0 (pa_cons (pv 0) (pa_cons (pv 1) (pa_cons (pe_op op_sub (pv 2) pe_int) pa_nil))))
          (pa_cons (pe_op op_add pe_int (hcall HD' hr (pa_cons (pv 0) (pa_cons pe_int pa_nil)))) pa_nil)))))) pss_nil
      case s4 =>
        exact ps_setLc (i := 4) (own := [("_law_k", 5)]) (g := gName 5) rfl nd rfl rfl (sw_true rfl rfl rfl (by decide +kernel)) (pi_range1 (by rfl) mr (pa_cons (pe_op op_add pe_int (pe_callTy call_int1 (by rfl) mi (by decide +kernel) (pa_cons (pe_cmpR op_eq (pv 3) pe_int (nomark _)) pa_nil))) pa_nil))
          (blkOk_by (own := [("_law_k", 5)]) (N := nReck) (sc := defScope sReck) (by decide +kernel)) (fun _ _ _ _ _ => pg_name (i := 5) nd rfl (.inl rfl)) (fun _ _ _ _ _ => pts_nil)
          (fun _ _ _ _ _ => pe_call GR hr (by rfl) gR F.kp bR .nil pass0 (pa_cons (pv 0) (pa_cons (pv 1) (pa_cons (pe_op op_sub (pv 2) pe_int) pa_nil))))
      case s5 =>
        exact ps_set (i := 6) nd rfl (.inl rfl) (pe_ifExp (pt_cmpR op_eq (pv 3) pe_int (nomark _)) pe_str (hcall HO' hr (pa_cons (pv 0) (pa_cons (pe_lst (pa_cons pe_str (pa_cons pe_str (pa_cons pe_str (pa_cons pe_str (pa_cons pe_str (pa_cons pe_str (pa_cons pe_str pa_nil)))))))) pa_nil))))
      case s6 => exact ps_ret (pe_op op_catT (pe_tup (pa_cons (pv 6) pa_nil)) (pe_callTy call_tuple_of (by rfl) mt (by decide +kernel) (pa_cons (pv 4) pa_nil)))
      case rd =>
      have hb5 := bdR_ge dp
      refine ⟨_, rfl, m, r, a, cs, 9, B, rfl, d0, by omega, by decide, by decide, fun H1 way g1 d1 w0 w9 => ?_⟩
      have leaf : ∀ {H1 : Hp}, G2 m r H H1 → Dr K H1 m r a cs (B + 1) → spLeaf K [.ref m, .ref l] H1 Q E0 := fun {H1} g1 d1 => by
        refine ⟨m, r, l, a, cs, _, ps, cn, rfl, d1, by omega, sp.g2 d0 g1, lp, ok, fun H' v e g' d' dv oe de pe => ?_⟩
        exact q H' v e (g1.trans g') (d'.mono (by omega)) dv oe (by omega) (by have := pbR_pos dp; omega)
      refine ⟨_, rfl, rfl, _, rfl, ?_⟩
      by_cases z0 : dp = 0
      · rw [decide_eq_true (show V.int ((dp : Nat) : Int) = V.int 0 by rw [z0]; rfl)]
        exact iteT (iteT ⟨_, rfl, _, rfl, leaf g1 d1⟩)
      rw [decide_eq_false (show ¬ V.int ((dp : Nat) : Int) = V.int 0 from fun z => z0 (by have := V.int.inj z; omega))]
      refine iteF ⟨_, rfl, way, 2, rfl, rfl, _, rfl, ite2 (fun _ => ⟨_, rfl, _, rfl, leaf g1 d1⟩) (fun hw2 => ?_)⟩
      clear leaf
      obtain ⟨dq, rfl⟩ : ∃ z, dp = z + 1 := ⟨dp - 1, by omega⟩
      have eb : bdR (dq + 1) = 3 * bdR dq + 3 := rfl
      have ep : pbR (dq + 1) = 1 + 3 * pbR dq := rfl
      have hq5 := bdR_ge dq
      have hpp := pbR_pos dq
      -- rest
      refine ⟨_, rfl, rfl, _, rfl, ite2 (fun _ => ?_) (fun hw3 => ?_)⟩
      · refine ⟨_, rfl, _, rfl, _, rfl, _, 1, rfl, rfl, m, r, l, a, cs, _, ps, cn, dq, less_one _ _ _, d1, by omega, sp.g2 d0 g1, lp, ok, by omega, fun H2 v e g2 d2 dv oe de pe => ?_⟩
        refine ⟨_, rfl, m, r, a, cs, 8, _, rfl, d2, by omega, by decide, by decide, fun H3 z g3 d3 z0 z8 => ⟨2, z, rfl, rfl, by show 3 ≤ sizeLine; decide, fun t nt => ?_⟩⟩
        have k4 := Gr.new (o := .tup [.str "rest", v, .int (2 + z)]) nt
        refine q _ (.ref t) (.rst e (2 + z)) (((g1.trans g2).trans g3).trans (G2.gr k4)) ((d3.gr k4).mono (by omega)) (.tup (.inl (.inl upd_same)) (.cons (.str _) (.cons (k4.kd.dp (Kt.dp (d2.kt g3) dv (noL_ex e))) (.cons (.int _) .nil)))) ⟨by omega, by omega, oe⟩ ?_ ?_
        · simp only [dep]
          omega
        · simp only [ptE]
          omega
      -- some
      obtain ⟨many, hm, hmany⟩ : ∃ many : Nat, (2 + (if decide (V.int way = V.int 3) = true then (1 : Int) else 0)) = ((many : Nat) : Int) ∧ (way = 3 ∧ many = 3 ∨ way ≠ 3 ∧ many = 2) := by
        by_cases c : way = 3
        · exact ⟨3, by rw [c]; rfl, .inl ⟨c, rfl⟩⟩
        · exact ⟨2, by rw [decide_eq_false (fun z => c (V.int.inj z))]; rfl, .inr ⟨c, rfl⟩⟩
      have m3 : many ≤ 3 := by omega
      refine ⟨_, rfl, rfl, .inr ⟨_, rfl, 2, _, rfl, rfl, ((many : Nat) : Int), congrArg (fun z => [V.int z]) hm, by omega, by omega, fun D nD => ?_⟩⟩
      obtain ⟨nD1, nD2⟩ := d1.nm nD
      have oD := d1.off nD
      refine lc_it (walk_range (lo := 0) (n := ((many : Nat) : Int).toNat)) (fun i S => ∃ (es : List Ex) (vs : List V), S D = some (.lst vs) ∧ es.length = i ∧ DpAll K S vs (es.map Ex.d) ∧ (∀ e ∈ es, okE cn e ∧ dep e ≤ dq + 1 ∧ ptE e ≤ pbR dq) ∧ G2 m r H1 S ∧ Dr K S m r a cs (B + 1 + (i : Int) * ((bdR dq : Nat) : Int)))
        ⟨[], [], upd_same, rfl, .nil, fun e he => (by cases he), G2.gr (Gr.new nD), (d1.gr (Gr.new nD)).mono (by omega)⟩ (fun _ _ _ _ => trivial) ?z2 ?z3
      case z2 =>
        rintro i x S S' hi ⟨es, vs, hD, hl, hv, hg, g7, d7⟩ ⟨rfl, rfl⟩
        have hi3 : i < many := by omega
        have hmul : ((i : Nat) : Int) * ((bdR dq : Nat) : Int) + ((bdR dq : Nat) : Int) = ((i + 1 : Nat) : Int) * ((bdR dq : Nat) : Int) := by
          rw [Int.natCast_add, Int.add_mul]
          omega
        have hle : ((i : Nat) : Int) * ((bdR dq : Nat) : Int) ≤ 2 * ((bdR dq : Nat) : Int) := Int.mul_le_mul_of_nonneg_right (by omega) (by omega)
        refine ⟨rfl, tYes_i (iteT ?_)⟩
        refine ⟨_, rfl, _, rfl, _, rfl, _, 1, rfl, rfl, m, r, l, a, cs, _, ps, cn, dq, less_one _ _ _, d7, by omega, sp.g2 d0 (g1.trans g7), lp, ok, by omega, fun S8 v e g8 d8 dv oe de pe => ?_⟩
        have hD8 := g8.lst nD1 nD2 hD
        refine ⟨vs, hD8, ?_, es ++ [e], vs ++ [v], upd_same, ?_, ?_, ?_, (g7.trans g8).upd_new nD, (d8.upd nD1 nD2 oD).mono (by omega)⟩
        · have := dpA_len hv
          rw [List.length_map] at this
          exact SfC.small1000 (by omega)
        · rw [List.length_append, hl]
          rfl
        · rw [List.map_append]
          exact Kt.dpA (kt_lst hD8) (dpA_app (Kt.dpA (d7.kt g8) hv (noLA_map _ noL_ex _)) (.cons dv .nil)) (by rw [← List.map_append]; exact noLA_map _ noL_ex _)
        · intro e' he
          rcases List.mem_append.mp he with h | h
          · exact hg e' h
          · rw [List.mem_singleton.mp h]
            exact ⟨oe, de, pe⟩
      case z3 =>
      rintro S ⟨es, vs, hD, hl, hv, hg, g7, d7⟩
      have hl' : es.length = many := by omega
      have hmul : ((((many : Nat) : Int).toNat : Nat) : Int) * ((bdR dq : Nat) : Int) ≤ 3 * ((bdR dq : Nat) : Int) := Int.mul_le_mul_of_nonneg_right (by omega) (by omega)
      replace d7 : Dr K S m r a cs (B + 1 + 3 * ((bdR dq : Nat) : Int)) := d7.mono (by omega)
      replace g7 : G2 m r H S := g1.trans g7
      clear hmul hl
      dsimp only
      refine seq_end (fun σ S => ∃ (wd : Str) (es : List Ex) (vs : List V) (y2 y3 y5 : Option V) (e : Ex), σ = [some (.ref m), some (.ref l), y2, y3, some (.ref D), y5, some (.str wd)] ∧ S D = some (.lst vs) ∧ DpAll K S vs (es.map Ex.d) ∧ es ≠ [] ∧ es.length ≤ 3 ∧ e.d = .tuple (.str wd :: es.map Ex.d) ∧ okE cn e ∧ dep e ≤ dq + 1 + 1 ∧ ptE e ≤ pbR (dq + 1) ∧ G2 m r H S ∧ Dr K S m r a cs (B + ((bdR (dq + 1) : Nat) : Int))) ?ret (fun hF => seq_go ?_)
      case ret =>
        rintro σ S ⟨wd, es, vs, y2, y3, y5, e, rfl, hD, hv, ne, l3, ed, oe, de, pe, g, d⟩
        have lv : vs.length = es.length := by
          have := dpA_len hv
          rw [List.length_map] at this
          exact this
        have pe1 := List.length_pos_iff.mpr ne
        refine ⟨_, rfl, by show 1 ≤ sizeLine; decide, fun t1 nt1 => ?_⟩
        have k1 : Gr S (upd S t1 (.tup [.str wd])) := Gr.new nt1
        have e1 : upd S t1 (.tup [.str wd]) t1 = some (.tup [.str wd]) := upd_same
        generalize upd S t1 (.tup [.str wd]) = S1 at k1 e1 ⊢
        refine ⟨_, rfl, D, vs, rfl, .inl ⟨.inl (.inl (k1.lst hD)), fun tq ntq => ?_⟩⟩
        have k2 : Gr S1 (upd S1 tq (.tup vs)) := Gr.new ntq
        refine ⟨t1, tq, _, vs, rfl, rfl, .inl (.inl (k2.tup e1)), .inl (.inl upd_same), by simp, ?_, fun z => ?_, fun _ p2 np2 => ?_⟩
        · have := SfC.small1000 (show 1 + vs.length ≤ 1000 by omega)
          show 1 + vs.length ≤ sizeLine
          omega
        · rw [z] at lv
          simp at lv
          omega
        have k3 := k2.trans (Gr.new (o := .tup ([.str wd] ++ vs)) np2)
        refine q _ _ e (g.trans (G2.gr (k1.trans k3))) ((d.gr (k1.trans k3))) ?_ oe de pe
        rw [ed]
        exact .tup (.inl (.inl upd_same)) (.cons (.str _) ((k1.trans k3).kd.dpA hv))
      refine ⟨_, rfl, rfl, _, rfl, ?_⟩
      rcases hmany with ⟨rfl, rfl⟩ | ⟨w3, rfl⟩
      · obtain ⟨a1, a2, a3, rfl⟩ : ∃ a b c, es = [a, b, c] := by
          match es, hl' with
          | [a, b, c], _ => exact ⟨a, b, c, rfl⟩
        obtain ⟨o1, e1, p1⟩ := hg a1 (by simp)
        obtain ⟨o2, e2, p2⟩ := hg a2 (by simp)
        obtain ⟨o3, e3, p3⟩ := hg a3 (by simp)
        refine iteT (hF _ _ ⟨"if", _, vs, _, _, _, .iff a1 a2 a3, rfl, hD, hv, by simp, by show 3 ≤ 3; decide, rfl, ⟨o1, o2, o3⟩, ?_, ?_, g7, d7.mono (by omega)⟩)
        · simp only [dep]
          omega
        · simp only [ptE]
          omega
      · rw [decide_eq_false (fun z => w3 (V.int.inj z))]
        obtain ⟨a1, a2, rfl⟩ : ∃ a b, es = [a, b] := by
          match es, hl' with
          | [a, b], _ => exact ⟨a, b, rfl⟩
        obtain ⟨o1, e1, p1⟩ := hg a1 (by simp)
        obtain ⟨o2, e2, p2⟩ := hg a2 (by simp)
        refine iteF ⟨_, rfl, by show 7 ≤ sizeLine; decide, fun t nt => ?_⟩
        have k8 : Gr S (upd S t (.lst [.str "plus", .str "plus", .str "plus", .str "less", .str "times", .str "same", .str "under"])) := Gr.new nt
        have e8 : upd S t (.lst [.str "plus", .str "plus", .str "plus", .str "less", .str "times", .str "same", .str "under"]) t = some (.lst [.str "plus", .str "plus", .str "plus", .str "less", .str "times", .str "same", .str "under"]) := upd_same
        obtain ⟨nt1, nt2⟩ := d7.nm nt
        have d8 := d7.gr k8
        have g8 := g7.trans (G2.gr k8)
        have hD8 := k8.lst hD
        have hv8 := k8.kd.dpA hv
        generalize upd S t (.lst [.str "plus", .str "plus", .str "plus", .str "less", .str "times", .str "same", .str "under"]) = S8 at k8 e8 d8 g8 hD8 hv8 ⊢
        refine ⟨m, r, t, a, cs, _, _, rfl, d8, by omega, .inl ⟨.inl (.inl e8), nt1, nt2⟩, by simp, by show 7 ≤ 1000; decide, fun S9 ix x g9 d9 hx => ?_⟩
        obtain ⟨wo, hwo, rfl⟩ := word_at hx
        refine hF _ _ ⟨opw wo, _, vs, _, _, _, .bin wo a1 a2, rfl, g9.lst nD1 nD2 hD8, Kt.dpA (d8.kt g9) hv8 (noLA_map _ noL_ex _), by simp, by show 2 ≤ 3; decide, rfl, ⟨hwo, o1, o2⟩, ?_, ?_, g8.trans g9, d9.mono (by omega)⟩
        · simp only [dep]
          omega
        · simp only [ptE]
          omega
end
end SfM
namespace SfM
open PySem PySem.Spec PyProof.Rows L2 SfG SfC
/-! ### a body, drawn -/
abbrev nLBody : List Str := ["_law_m", "_law_spots", "_law_many", "_law_deep", "_law_way", "_law_bodies", "_law_k"]
theorem scLBody : FnScope nLBody ["_law_m", "_law_spots", "_law_many", "_law_deep"] (defScope sLBody) := ⟨rfl, rfl, rfl, by decide +kernel, rfl, by decide +kernel, by decide +kernel⟩
theorem next_go {D : Ends} {σ : L2.St} {H : Hp} (h : D.nx σ H) : tNext D σ H := h
theorem noL_bd : ∀ b : Bd, noL b.d = true
  | .ref => by rw [Bd.d]; rfl
  | .giv es => by
    rw [Bd.d, noL, noLA, noLA, noLA, noL, noL, noLA_map _ noL_ex]
    rfl
  | .whn e a b => by
    rw [Bd.d, noL, noLA, noLA, noLA, noLA, noLA, noL, noL_ex e, noL_bd a, noL_bd b]
    rfl
/-- draws, parts and levels of a body -/
def bdQ (n : Nat) : Nat := if n = 0 then 60 else 140
def pbQ (n : Nat) : Nat := if n = 0 then 14 else 33
def dbQ (n : Nat) : Nat := if n = 0 then 4 else 5
theorem ptEs_le {c : Nat} : ∀ {es : List Ex}, (∀ e ∈ es, ptE e ≤ c) → ptEs es ≤ es.length * c
  | [], _ => by
    show 0 ≤ _
    omega
  | a :: r, h => by
    have h1 := h a (.head _)
    have h2 := ptEs_le (es := r) fun x hx => h x (.tail _ hx)
    have e : ptEs (a :: r) = ptE a + ptEs r := by
      unfold ptEs
      rw [List.map_cons, List.sum_cons]
    rw [e, List.length_cons, Nat.add_mul]
    omega
theorem dpEs_le {c : Nat} (hc : 1 ≤ c) : ∀ {es : List Ex}, (∀ e ∈ es, dep e ≤ c) → dpEs es ≤ c
  | [], _ => hc
  | a :: r, h => by
    have h1 := h a (.head _)
    have h2 := dpEs_le hc (es := r) fun x hx => h x (.tail _ hx)
    show max (dep a) (dpEs r) ≤ c
    omega
section
variable {P : Program} {w : World} {K : PySem.W.Frag} {mg : Str → Option Value} {base : Heap}
def spLBody (K : PySem.W.Frag) (n : Nat) : Sp := fun vs H Q _ => ∃ (m r l : Addr) (a : Src) (cs : List Int) (B : Int) (ps : List (Nat × Nat)) (cn : List Nat) (mn dp : Nat), vs = [.ref m, .ref l, .int (mn : Nat), .int (dp : Nat)] ∧ Dr K H m r a cs B ∧ B + ((bdQ dp : Nat) : Int) ≤ 800000 ∧ Sps K H m r l ps ∧ ps.length ≤ 100 ∧ spOk cn ps ∧ 1 ≤ mn ∧ mn ≤ 3 ∧ dp < n ∧ dp ≤ 1 ∧
  ∀ H' v (b : Bd), G2 m r H H' → Dr K H' m r a cs (B + ((bdQ dp : Nat) : Int)) → Dp K H' v b.d → bdOk cn mn b → dpB b ≤ dbQ dp → ptB b ≤ pbQ dp → Q v H'
set_option maxHeartbeats 4000000 in
theorem ok_lbody {f fD fR : Addr} {fd dD dR : FuncData} {k : Nat} (F : Fun K "_law_body" "_law_body" sLBody f fd) (bB : Binds K fd ["_law_m", "_law_spots", "_law_many", "_law_deep"] []) (gB : mg "_law_body" = some (.ref f))
    (HD : Has P w K mg base k "_law_draw" ["_law_m", "_law_many"] (spDrw K) fD dD) (HR : Has P w K mg base k "_law_reckoning" ["_law_m", "_law_spots", "_law_deep"] (spReck K 3) fR dR)
    (mr : mg "range" = none) (mi : mg "int" = none) (mt : mg "tuple" = none) : ∀ n, FnOk P w K mg base CX0 (k + n + 1) f fd ["_law_m", "_law_spots", "_law_many", "_law_deep"] (spLBody K n)
  | 0 => by
    refine F.ok scLBody (fun vs H Q E h => ?_) (fun cdv A outer s H vs Q E hr h => ?_)
    · obtain ⟨m, r, l, a, cs, B, ps, cn, mn, dp, rfl, _⟩ := h
      rfl
    · obtain ⟨m, r, l, a, cs, B, ps, cn, mn, dp, rfl, _, _, _, _, _, _, _, hd, _⟩ := h
      omega
  | n + 1 => by
    have GB := ok_lbody F bB gB HD HR mr mi mt n
    refine F.ok scLBody (fun vs H Q E h => ?_) (fun cdv A outer s H vs Q E hr h => ?_)
    · obtain ⟨m, r, l, a, cs, B, ps, cn, mn, dp, rfl, _⟩ := h
      rfl
    · obtain ⟨m, r, l, a, cs, B, ps, cn, mn, dp, rfl, d0, hB, sp, lp, ok, mn1, mn3, hdn, hd1, q⟩ := h
      have nd := scLBody.nd
      have HD' : Has P w K mg base (k + n + 1) "_law_draw" ["_law_m", "_law_many"] (spDrw K) fD dD := ⟨HD.ok.mono (by omega), HD.at_, HD.kp, HD.bd⟩
      have HR' : Has P w K mg base (k + n + 1) "_law_reckoning" ["_law_m", "_law_spots", "_law_deep"] (spReck K 3) fR dR := ⟨HR.ok.mono (by omega), HR.at_, HR.kp, HR.bd⟩
      refine' ⟨_, pss_cons ?s1 (pss_cons ?s2 (pss_cons ?s3 (pss_one ?s4))), ?rd⟩
      case s1 => exact ps_set (i := 4) nd rfl (.inl rfl) (hcall HD' hr (pa_cons (pv 0) (pa_cons pe_int pa_nil)))
      case s2 => exact ps_if (pt_cmpR op_eq (pv 4) pe_int (nomark _)) (pss_one (ps_ret (pe_tup (pa_cons pe_str pa_nil)))) pss_nil
      case s3 =>
        refine' ps_if (PW.pt (pw_and (pt_cmpR op_lt (pv 4) pe_int (nomark _)) (pw_and1 (pt_cmpR op_gt (pv 3) pe_int (nomark _))))) (pss_cons ?b1 (pss_one ?b2)) pss_nil
        case b1 =>
          exact ps_setLc (i := 5) (own := [("_law_k", 6)]) (g := gName 6) rfl nd rfl rfl (sw_true rfl rfl rfl (by decide +kernel)) (pi_range1 (by rfl) mr (pa_cons pe_int pa_nil))
            (blkOk_by (own := [("_law_k", 6)]) (N := nLBody) (sc := defScope sLBody) (by decide +kernel)) (fun _ _ _ _ _ => pg_name (i := 6) nd rfl (.inl rfl)) (fun _ _ _ _ _ => pts_nil)
            (fun _ _ _ _ _ => pe_call GB hr (by rfl) gB F.kp bB .nil pass0 (pa_cons (pv 0) (pa_cons (pv 1) (pa_cons (pv 2) (pa_cons pe_int pa_nil)))))
        case b2 =>
          exact ps_ret (pe_op op_catT (pe_tup (pa_cons pe_str (pa_cons (hcall HR' hr (pa_cons (pv 0) (pa_cons (pv 1) (pa_cons pe_int pa_nil)))) pa_nil))) (pe_callTy call_tuple_of (by rfl) mt (by decide +kernel) (pa_cons (pv 5) pa_nil)))
      case s4 =>
        exact ps_ret (pe_tup (pa_cons pe_str (pa_cons (pe_callTy call_tuple_of (by rfl) mt (by decide +kernel) (pa_cons (pe_lc (own := [("_law_k", 6)]) (g := gName 6) rfl nd (pi_range1 (by rfl) mr (pa_cons (pv 2) pa_nil))
          (blkOk_by (own := [("_law_k", 6)]) (N := nLBody) (sc := defScope sLBody) (by decide +kernel)) (fun _ _ _ _ _ => pg_name (i := 6) nd rfl (.inl rfl)) (fun _ _ _ _ _ => pts_nil)
          (fun _ _ _ _ _ => hcall HR' hr (pa_cons (pv 0) (pa_cons (pv 1) (pa_cons (pe_op op_add pe_int (pe_callTy call_int1 (by rfl) mi (by decide +kernel) (pa_cons (pe_cmpR op_eq (pv 2) pe_int (nomark _)) pa_nil))) pa_nil))))) pa_nil)) pa_nil)))
      case rd =>
      have b60 : 60 ≤ bdQ dp := by unfold bdQ; split <;> omega
      have p14 : 14 ≤ pbQ dp := by unfold pbQ; split <;> omega
      have d4 : 4 ≤ dbQ dp := by unfold dbQ; split <;> omega
      have r1 : bdR 1 = 18 := rfl
      have r2 : bdR 2 = 57 := rfl
      have p1 : pbR 1 = 4 := rfl
      have p2' : pbR 2 = 13 := rfl
      refine ⟨_, rfl, m, r, a, cs, 8, B, rfl, d0, by omega, by decide, by decide, fun H1 way g1 d1 w0 w8 => ?_⟩
      refine ⟨_, rfl, rfl, _, rfl, ite2 (fun _ => ?_) (fun _ => ?_)⟩
      · refine ⟨by show 1 ≤ sizeLine; decide, fun t nt => ?_⟩
        exact q _ (.ref t) .ref (g1.trans (G2.gr (Gr.new nt))) ((d1.gr (Gr.new nt)).mono (by omega)) (.tup (.inl (.inl upd_same)) (.cons (.str _) .nil)) trivial (by simp only [dpB]; omega) (by simp only [ptB]; omega)
      refine next_go ?_
      dsimp only
      refine seq_end (fun σ S => ∃ (y5 y6 : Option V), σ = [some (.ref m), some (.ref l), some (.int (mn : Nat)), some (.int (dp : Nat)), some (.int way), y5, y6] ∧ H1 = S) ?giv (fun hF => seq_go ?_)
      case giv =>
        rintro σ S ⟨y5, y6, rfl, rfl⟩
        obtain ⟨lv, hlv, hlc⟩ : ∃ lv : Nat, (1 + (if decide (V.int ((mn : Nat) : Int) = V.int 1) = true then (1 : Int) else 0)) = ((lv : Nat) : Int) ∧ (mn = 1 ∧ lv = 2 ∨ mn ≠ 1 ∧ lv = 1) := by
          by_cases c : mn = 1
          · exact ⟨2, by rw [c]; rfl, .inl ⟨c, rfl⟩⟩
          · exact ⟨1, by rw [decide_eq_false (fun z => c (by have := V.int.inj z; omega))]; rfl, .inr ⟨c, rfl⟩⟩
        refine ⟨_, rfl, ((mn : Nat) : Int), rfl, by omega, by omega, fun D nD => ?_⟩
        obtain ⟨nD1, nD2⟩ := d1.nm nD
        have oD := d1.off nD
        have hlb : ((bdR lv : Nat) : Int) ≤ 57 := by
          rcases hlc with ⟨_, rfl⟩ | ⟨_, rfl⟩
          · rw [r2]; decide
          · rw [r1]; decide
        have hl0 : (0 : Int) ≤ ((bdR lv : Nat) : Int) := by omega
        have hmx : ((mn : Nat) : Int) * ((bdR lv : Nat) : Int) ≤ 57 := by
          rcases hlc with ⟨rfl, rfl⟩ | ⟨_, rfl⟩
          · rw [r2]; decide
          · rw [r1]; omega
        refine lc_it (walk_range (lo := 0) (n := ((mn : Nat) : Int).toNat)) (fun i S => ∃ (es : List Ex) (vs : List V), S D = some (.lst vs) ∧ es.length = i ∧ DpAll K S vs (es.map Ex.d) ∧ (∀ e ∈ es, okE cn e ∧ dep e ≤ lv + 1 ∧ ptE e ≤ pbR lv) ∧ G2 m r H1 S ∧ Dr K S m r a cs (B + 1 + (i : Int) * ((bdR lv : Nat) : Int)))
          ⟨[], [], upd_same, rfl, .nil, fun e he => (by cases he), G2.gr (Gr.new nD), (d1.gr (Gr.new nD)).mono (by omega)⟩ (fun _ _ _ _ => trivial) ?z2 ?z3
        case z2 =>
          rintro i x S S' hi ⟨es, vs, hD, hl, hv, hg, g7, d7⟩ ⟨rfl, rfl⟩
          have hi3 : i < mn := by omega
          have hmul : ((i : Nat) : Int) * ((bdR lv : Nat) : Int) + ((bdR lv : Nat) : Int) = ((i + 1 : Nat) : Int) * ((bdR lv : Nat) : Int) := by
            rw [Int.natCast_add, Int.add_mul]
            omega
          have hle : ((i : Nat) : Int) * ((bdR lv : Nat) : Int) ≤ 2 * ((bdR lv : Nat) : Int) := Int.mul_le_mul_of_nonneg_right (by omega) (by omega)
          refine ⟨rfl, tYes_i (iteT ?_)⟩
          refine ⟨_, rfl, _, rfl, _, rfl, rfl, .inr ⟨_, rfl, 1, _, rfl, rfl, m, r, l, a, cs, _, ps, cn, lv, congrArg (fun z => [V.ref m, V.ref l, V.int z]) hlv, d7, by omega, sp.g2 d0 (g1.trans g7), lp, ok, by omega, fun S8 v e g8 d8 dv oe de pe => ?_⟩⟩
          have hD8 := g8.lst nD1 nD2 hD
          refine ⟨vs, hD8, ?_, es ++ [e], vs ++ [v], upd_same, ?_, ?_, ?_, (g7.trans g8).upd_new nD, (d8.upd nD1 nD2 oD).mono (by omega)⟩
          · have := dpA_len hv
            rw [List.length_map] at this
            exact SfC.small1000 (by omega)
          · rw [List.length_append, hl]
            rfl
          · rw [List.map_append]
            exact Kt.dpA (kt_lst hD8) (dpA_app (Kt.dpA (d7.kt g8) hv (noLA_map _ noL_ex _)) (.cons dv .nil)) (by rw [← List.map_append]; exact noLA_map _ noL_ex _)
          · intro e' he
            rcases List.mem_append.mp he with h | h
            · exact hg e' h
            · rw [List.mem_singleton.mp h]
              exact ⟨oe, de, pe⟩
        case z3 =>
        rintro S ⟨es, vs, hD, hl, hv, hg, g7, d7⟩
        have hl' : es.length = mn := by omega
        have e7 : (((((mn : Nat) : Int).toNat : Nat) : Int)) = ((mn : Nat) : Int) := by omega
        rw [e7] at d7
        refine ⟨D, vs, rfl, .inl ⟨.inl (.inl hD), fun tq ntq => ⟨by show 2 ≤ sizeLine; decide, fun p2 np2 => ?_⟩⟩⟩
        have k2 : Gr S (upd S tq (.tup vs)) := Gr.new ntq
        have e2 : upd S tq (.tup vs) tq = some (.tup vs) := upd_same
        have k3 := k2.trans (Gr.new (o := .tup [.str "give", .ref tq]) np2)
        refine q _ (.ref p2) (.giv es) ((g1.trans g7).trans (G2.gr k3)) ((d7.gr k3).mono (by omega)) (.tup (.inl (.inl upd_same)) (.cons (.str _) (.cons (.tup (.inl (.inl ((Gr.new np2).tup e2))) (k3.kd.dpA hv)) .nil))) ⟨hl', fun e he => (hg e he).1⟩ ?_ ?_
        · simp only [dpB]
          have : dpEs es ≤ lv + 1 := dpEs_le (by omega) fun e he => (hg e he).2.1
          omega
        · simp only [ptB]
          have h1 : ptEs es ≤ es.length * pbR lv := ptEs_le fun e he => (hg e he).2.2
          rcases hlc with ⟨z1, rfl⟩ | ⟨z1, rfl⟩
          · rw [hl', z1, p2'] at h1
            omega
          · rw [p1] at h1
            omega
      refine ⟨_, rfl, way, 4, rfl, rfl, _, rfl, ite2 (fun _ => ?_) (fun _ => hF _ _ ⟨_, _, rfl, rfl⟩)⟩
      refine ⟨_, rfl, _, 0, rfl, rfl, _, rfl, ?_⟩
      by_cases dz : dp = 0
      · rw [decide_eq_false (show ¬ ((dp : Nat) : Int) > 0 by omega)]
        exact iteF (hF _ _ ⟨_, _, rfl, rfl⟩)
      have dp1 : dp = 1 := by omega
      subst dp1
      have hB : B + 140 ≤ 800000 := hB
      rw [decide_eq_true (show ((1 : Nat) : Int) > 0 by decide)]
      clear hF
      refine iteT ⟨2, rfl, by decide, by decide, fun D nD => ?_⟩
      obtain ⟨nD1, nD2⟩ := d1.nm nD
      have oD := d1.off nD
      refine lc_it (walk_range (lo := 0) (n := 2)) (fun i S => ∃ (es : List Bd) (vs : List V), S D = some (.lst vs) ∧ es.length = i ∧ DpAll K S vs (es.map Bd.d) ∧ (∀ e ∈ es, bdOk cn mn e ∧ dpB e ≤ 4 ∧ ptB e ≤ 14) ∧ G2 m r H1 S ∧ Dr K S m r a cs (B + 1 + (i : Int) * 60))
        ⟨[], [], upd_same, rfl, .nil, fun e he => (by cases he), G2.gr (Gr.new nD), (d1.gr (Gr.new nD)).mono (by omega)⟩ (fun _ _ _ _ => trivial) ?y2 ?y3
      case y2 =>
        rintro i x S S' hi ⟨es, vs, hD, hl, hv, hg, g7, d7⟩ ⟨rfl, rfl⟩
        refine ⟨rfl, tYes_i (iteT ?_)⟩
        refine ⟨_, rfl, _, rfl, _, rfl, m, r, l, a, cs, _, ps, cn, mn, 0, rfl, d7, by show _ + ((60 : Nat) : Int) ≤ 800000; omega, sp.g2 d0 (g1.trans g7), lp, ok, mn1, mn3, by omega, by omega, fun S8 v e g8 d8 dv oe de pe => ?_⟩
        have d8 : Dr K S8 m r a cs (B + 1 + (i : Int) * 60 + 60) := d8
        have hD8 := g8.lst nD1 nD2 hD
        refine ⟨vs, hD8, ?_, es ++ [e], vs ++ [v], upd_same, ?_, ?_, ?_, (g7.trans g8).upd_new nD, (d8.upd nD1 nD2 oD).mono (by omega)⟩
        · have := dpA_len hv
          rw [List.length_map] at this
          exact SfC.small1000 (by omega)
        · rw [List.length_append, hl]
          rfl
        · rw [List.map_append]
          exact Kt.dpA (kt_lst hD8) (dpA_app (Kt.dpA (d7.kt g8) hv (noLA_map _ noL_bd _)) (.cons dv .nil)) (by rw [← List.map_append]; exact noLA_map _ noL_bd _)
        · intro e' he
          rcases List.mem_append.mp he with h | h
          · exact hg e' h
          · rw [List.mem_singleton.mp h]
            exact ⟨oe, de, pe⟩
      case y3 =>
      rintro S ⟨es, vs, hD, hl, hv, hg, g7, d7⟩
      obtain ⟨b1, b2, rfl⟩ : ∃ a b, es = [a, b] := by
        match es, hl with
        | [a, b], _ => exact ⟨a, b, rfl⟩
      obtain ⟨ob1, db1, pb1⟩ := hg b1 (by simp)
      obtain ⟨ob2, db2, pb2⟩ := hg b2 (by simp)
      have g8 := g1.trans g7
      refine ⟨_, rfl, _, rfl, m, r, l, a, cs, _, ps, cn, 1, rfl, d7, by show B + 1 + 2 * 60 + 18 ≤ 900000; omega, sp.g2 d0 g8, lp, ok, by decide, fun S2 v e g9 d9 dv oe de pe => ⟨by show 2 ≤ sizeLine; decide, fun t1 nt1 => ?_⟩⟩
      have d9 : Dr K S2 m r a cs (B + 1 + 2 * 60 + 18) := d9
      have k1 : Gr S2 (upd S2 t1 (.tup [.str "when", v])) := Gr.new nt1
      have e1 : upd S2 t1 (.tup [.str "when", v]) t1 = some (.tup [.str "when", v]) := upd_same
      have hD2 := k1.lst (g9.lst nD1 nD2 hD)
      have hv2 := k1.kd.dpA (Kt.dpA (d7.kt g9) hv (noLA_map _ noL_bd _))
      have dv2 := k1.kd.dp dv
      generalize upd S2 t1 (.tup [.str "when", v]) = S3 at k1 e1 hD2 hv2 dv2 ⊢
      refine ⟨_, rfl, D, vs, rfl, .inl ⟨.inl (.inl hD2), fun tq ntq => ?_⟩⟩
      have k2 : Gr S3 (upd S3 tq (.tup vs)) := Gr.new ntq
      have lv : vs.length = 2 := by
        have := dpA_len hv
        simpa using this
      refine ⟨t1, tq, _, vs, rfl, rfl, .inl (.inl (k2.tup e1)), .inl (.inl upd_same), by simp, ?_, fun z => ?_, fun _ p2 np2 => ?_⟩
      · show 2 + vs.length ≤ sizeLine
        rw [lv]
        decide
      · rw [z] at lv
        cases lv
      have k3 := k2.trans (Gr.new (o := .tup ([.str "when", v] ++ vs)) np2)
      refine q _ (.ref p2) (.whn e b1 b2) ((g8.trans g9).trans (G2.gr (k1.trans k3))) ((d9.gr (k1.trans k3)).mono ?_) (.tup (.inl (.inl upd_same)) (.cons (.str _) (.cons (k3.kd.dp dv2) (k3.kd.dpA hv2)))) ⟨oe, ob1, ob2⟩ ?_ ?_
      · show B + 1 + 2 * 60 + 18 ≤ B + ((140 : Nat) : Int)
        omega
      · simp only [dpB]
        show _ ≤ 5
        omega
      · simp only [ptB]
        show _ ≤ 33
        omega
end
end SfM
namespace SfM
open PySem PySem.Spec PyProof.Rows L2 SfG SfC
/-! ### what Es come to; fields in a list of tuples -/
theorem scVal : FnScope ["expression", "fields", "word", "first", "second"] ["expression", "fields"] (defScope sVal) := ⟨rfl, rfl, rfl, by decide +kernel, rfl, by decide +kernel, by decide +kernel⟩
theorem scCho : FnScope ["body", "fields"] ["body", "fields"] (defScope sCho) := ⟨rfl, rfl, rfl, by decide +kernel, rfl, by decide +kernel, by decide +kernel⟩
def op2 (w : Nat) (x y : Int) : Int := match w with
  | 0 => x + y
  | 1 => x - y
  | 2 => x * y
  | 3 => if x = y then 1 else 0
  | _ => if x < y then 1 else 0
abbrev Fs := List (List Int)
def fld (fs : Fs) (k f : Nat) : Int := (fs.getD k []).getD f 0
def ev (fs : Fs) : Ex → Int
  | .num n => n
  | .inp k f => fld fs k f
  | .bin w a b => op2 w (ev fs a) (ev fs b)
  | .rst a n => ev fs a % n
  | .iff a b c => if ev fs a ≠ 0 then ev fs b else ev fs c
def fL (fs : Fs) : PyData := .list (fs.map fun l => .tuple (l.map .int))
theorem dp_lst {K : PySem.W.Frag} {H : Hp} {v : V} {ds : List PyData} (h : Dp K H v (.list ds)) : ∃ p xs, v = .ref p ∧ SqL K H p xs ∧ DpAll K H xs ds := by
  cases h with
  | lst h hs => exact ⟨_, _, rfl, h, hs⟩
/-- fields that fit the counts, none too great -/
structure Fit (cs : List Nat) (fs : Fs) : Prop where
  len : fs.map List.length = cs
  small : ∀ l ∈ fs, ∀ x ∈ l, x.natAbs < 2 ^ 51
theorem Fit.at {cs : List Nat} {fs : Fs} (h : Fit cs fs) {k f c : Nat} (hk : cs[k]? = some c) (hf : f < c) : ∃ l x, fs[k]? = some l ∧ l[f]? = some x ∧ fld fs k f = x ∧ x.natAbs < 2 ^ 51 := by
  rw [← h.len, List.getElem?_map] at hk
  obtain ⟨l, hl, rfl⟩ := Option.map_eq_some_iff.mp hk
  refine ⟨l, l[f], hl, by simp [hf], ?_, h.small l (List.mem_of_getElem? hl) _ (List.getElem_mem hf)⟩
  unfold fld
  have e1 : fs.getD k [] = l := by rw [List.getD_eq_getElem?_getD, hl]; rfl
  rw [e1, List.getD_eq_getElem?_getD]
  simp [hf]
theorem pow_ge (n : Nat) (h : 1 ≤ n) : (2 : Nat) ^ 51 ≤ 2 ^ (51 * n) := Nat.pow_le_pow_right (by decide) (by omega)
theorem ev_small {cs : List Nat} {fs : Fs} (hF : Fit cs fs) : ∀ e : Ex, okE cs e → (ev fs e).natAbs < 2 ^ (51 * lvs e)
  | .num n, h => by
    have h1 := h.1
    have h2 := h.2
    have e : (2 : Nat) ^ (51 * lvs (.num n)) = 2251799813685248 := by show (2 : Nat) ^ (51 * 1) = _; decide
    rw [e]
    simp only [ev]
    omega
  | .inp k f, ⟨c, hk, hf⟩ => by
    obtain ⟨l, x, _, _, e, hx⟩ := hF.at hk hf
    simp only [ev, e]
    exact hx
  | .bin w a b, h => by
    have ha := ev_small hF a h.2.1
    have hb := ev_small hF b h.2.2
    have pa := lvs_pos a
    have pb := lvs_pos b
    have ga := pow_ge (lvs a) pa
    have gb := pow_ge (lvs b) pb
    have e51 : (2 : Nat) ^ 51 = 2251799813685248 := by decide
    rw [e51] at ga gb
    have em : (2 : Nat) ^ (51 * (lvs a + lvs b)) = 2 ^ (51 * lvs a) * 2 ^ (51 * lvs b) := by rw [Nat.mul_add, Nat.pow_add]
    simp only [ev, lvs]
    rw [em]
    generalize ev fs a = x at ha
    generalize ev fs b = y at hb
    generalize (2 : Nat) ^ (51 * lvs a) = A at ha ga
    generalize (2 : Nat) ^ (51 * lvs b) = B at hb gb
    have hAB : A + B ≤ A * B := by
      have h1 : A * 2 ≤ A * B := Nat.mul_le_mul_left A (by omega)
      have h2 : 2 * B ≤ A * B := Nat.mul_le_mul_right B (by omega)
      omega
    unfold op2
    split
    · omega
    · omega
    · rw [Int.natAbs_mul]
      exact Nat.mul_lt_mul'' ha hb
    · split <;> omega
    · split <;> omega
  | .rst a n, h => by
    have ga := pow_ge (lvs a) (lvs_pos a)
    have e51 : (2 : Nat) ^ 51 = 2251799813685248 := by decide
    rw [e51] at ga
    have h1 := h.1
    have h2 := h.2.1
    have m0 := Int.emod_nonneg (ev fs a) (show n ≠ 0 by omega)
    have m1 := Int.emod_lt_of_pos (ev fs a) (show 0 < n by omega)
    simp only [ev, lvs]
    omega
  | .iff a b c, h => by
    have hb := ev_small hF b h.2.1
    have hc := ev_small hF c h.2.2
    simp only [ev, lvs]
    have l1 : (2 : Nat) ^ (51 * lvs b) ≤ 2 ^ (51 * (lvs a + lvs b + lvs c)) := Nat.pow_le_pow_right (by decide) (by omega)
    have l2 : (2 : Nat) ^ (51 * lvs c) ≤ 2 ^ (51 * (lvs a + lvs b + lvs c)) := Nat.pow_le_pow_right (by decide) (by omega)
    split <;> omega
section
variable {P : Program} {w : World} {K : PySem.W.Frag} {mg : Str → Option Value} {base : Heap}
/-! ### value_of -/
def spVal (K : PySem.W.Frag) (n : Nat) : Sp := fun vs H Q _ => ∃ (e f : V) (E : Ex) (cs : List Nat) (fs : Fs), vs = [e, f] ∧ Dp K H e E.d ∧ Dp K H f (fL fs) ∧ okE cs E ∧ Fit cs fs ∧ dep E ≤ n ∧ 51 * lvs E ≤ 90000 ∧ Q (.int (ev fs E)) H
theorem ok_val {f : Addr} {fd : FuncData} (F : Fun K "value_of" "value_of" sVal f fd) (bV : Binds K fd ["expression", "fields"] []) (gV : mg "value_of" = some (.ref f)) :
    ∀ n, FnOk P w K mg base CX0 (n + 1) f fd ["expression", "fields"] (spVal K n)
  | 0 => by
    refine F.ok scVal (fun vs H Q E h => ?_) (fun cdv A outer s H vs Q E hr h => ?_)
    · obtain ⟨e, g, E', cs, fs, rfl, _⟩ := h
      rfl
    · obtain ⟨e, g, E', cs, fs, rfl, _, _, _, _, hd, _⟩ := h
      exfalso
      cases E' <;> simp only [dep] at hd <;> omega
  | n + 1 => by
    have GV := ok_val F bV gV n
    refine F.ok scVal (fun vs H Q E h => ?_) (fun cdv A outer s H vs Q E hr h => ?_)
    · obtain ⟨e, g, E', cs, fs, rfl, _⟩ := h
      rfl
    · obtain ⟨e, g, E', cs, fs, rfl, he, hg, ho, hF, hd, hl, q⟩ := h
      have nd := scVal.nd
      refine' ⟨_, pss_cons ?s1 (pss_cons ?s2 (pss_cons ?s3 (pss_cons ?s4 (pss_cons ?s5 (pss_cons ?s6 (pss_cons ?s7 (pss_cons ?s8 (pss_cons ?s9 (pss_cons ?s10 (pss_cons ?s11 (pss_one ?s12))))))))))), ?rd⟩
      case s1 =>
        exact ps_set (i := 2) nd rfl (.inl rfl) (pe_ix ix_tup (pv 0) pe_int (fun _ _ => rfl))
      case s2 =>
        exact ps_if (pt_cmpR op_eq (pv 2) pe_str (nomark _)) (pss_one (ps_ret (pe_ix ix_tup (pe_ix ix_list (pv 1) (pe_ix ix_tup (pv 0) pe_int (fun _ _ => rfl)) (fun _ _ => rfl)) (pe_ix ix_tup (pv 0) pe_int (fun _ _ => rfl)) (fun _ _ => rfl)))) pss_nil
      case s3 =>
        exact ps_if (pt_cmpR op_eq (pv 2) pe_str (nomark _)) (pss_one (ps_ret (pe_ix ix_tup (pv 0) pe_int (fun _ _ => rfl)))) pss_nil
      case s4 =>
        exact ps_set (i := 3) nd rfl (.inl rfl) (pe_call GV hr (by rfl) gV F.kp bV .nil pass0 (pa_cons (pe_ix ix_tup (pv 0) pe_int (fun _ _ => rfl)) (pa_cons (pv 1) pa_nil)))
      case s5 =>
        exact ps_if (pt_cmpR op_eq (pv 2) pe_str (nomark _)) (pss_one (ps_ret (pe_op op_mod (pv 3) (pe_ix ix_tup (pv 0) pe_int (fun _ _ => rfl))))) pss_nil
      case s6 =>
        exact ps_if (pt_cmpR op_eq (pv 2) pe_str (nomark _)) (pss_one (ps_ret (pe_call GV hr (by rfl) gV F.kp bV .nil pass0 (pa_cons (pe_ix ix_tup (pv 0) (pe_ifExp (pt_cmpR op_ne (pv 3) pe_int (nomark _)) pe_int pe_int) (fun _ _ => rfl)) (pa_cons (pv 1) pa_nil))))) pss_nil
      case s7 =>
        exact ps_set (i := 4) nd rfl (.inl rfl) (pe_call GV hr (by rfl) gV F.kp bV .nil pass0 (pa_cons (pe_ix ix_tup (pv 0) pe_int (fun _ _ => rfl)) (pa_cons (pv 1) pa_nil)))
      case s8 =>
        exact ps_if (pt_cmpR op_eq (pv 2) pe_str (nomark _)) (pss_one (ps_ret (pe_op op_add (pv 3) (pv 4)))) pss_nil
      case s9 =>
        exact ps_if (pt_cmpR op_eq (pv 2) pe_str (nomark _)) (pss_one (ps_ret (pe_op op_sub (pv 3) (pv 4)))) pss_nil
      case s10 =>
        exact ps_if (pt_cmpR op_eq (pv 2) pe_str (nomark _)) (pss_one (ps_ret (pe_op op_mulW (pv 3) (pv 4)))) pss_nil
      case s11 =>
        exact ps_if (pt_cmpR op_eq (pv 2) pe_str (nomark _)) (pss_one (ps_ret (pe_ifExp (pt_cmpR op_eq (pv 3) (pv 4) (nomark _)) pe_int pe_int))) pss_nil
      case s12 =>
        exact ps_ret (pe_ifExp (pt_cmpR op_lt (pv 3) (pv 4) (nomark _)) pe_int pe_int)
      case rd =>
      cases E' with
      | num m =>
        obtain ⟨p, x, y, rfl, hp, hx, hy⟩ := dp_2 he
        cases dp_str hx
        cases dp_int hy
        refine ⟨_, rfl, p, _, 0, _, rfl, rfl, hp, rfl, ?_⟩
        exact ⟨_, rfl, rfl, _, rfl, iteF ⟨_, rfl, rfl, _, rfl, iteT ⟨_, rfl, p, _, 1, _, rfl, rfl, hp, rfl, q⟩⟩⟩
      | inp k j =>
        obtain ⟨p, x, y, z, rfl, hp, hx, hy, hz⟩ := dp_3 he
        cases dp_str hx
        cases dp_int hy
        cases dp_int hz
        obtain ⟨c, hk, hj⟩ := ho
        obtain ⟨l, u, el, eu, ef, _⟩ := hF.at hk hj
        obtain ⟨pf, xs, rfl, hpf, hxs⟩ := dp_lst hg
        obtain ⟨vl, evl, dvl⟩ := dpA_get (i := k) (d := .tuple (l.map .int)) hxs (by rw [List.getElem?_map, el]; rfl)
        obtain ⟨pl, ys, rfl, hpl, hys⟩ := dp_tup dvl
        obtain ⟨vu, evu, dvu⟩ := dpA_get (i := j) (d := .int u) hys (by rw [List.getElem?_map, eu]; rfl)
        cases dp_int dvu
        refine ⟨_, rfl, p, _, 0, _, rfl, rfl, hp, rfl, ?_⟩
        refine ⟨_, rfl, rfl, _, rfl, iteT ⟨_, rfl, _, rfl, p, _, 1, _, rfl, rfl, hp, rfl, pf, _, k, _, rfl, rfl, hpf, atI_nat evl, _, rfl, p, _, 2, _, rfl, rfl, hp, rfl, pl, _, j, _, rfl, rfl, hpl, atI_nat evu, ?_⟩⟩
        have q' : Q (.int (fld fs k j)) H := q
        rw [ef] at q'
        exact q'
      | bin wd a b =>
        obtain ⟨p, x, y, z, rfl, hp, hx, hy, hz⟩ := dp_3 he
        cases dp_str hx
        obtain ⟨n1, n2, n3, n4⟩ := opw_ne wd
        simp only [dep] at hd
        simp only [lvs] at hl
        have pa := lvs_pos a
        have pb := lvs_pos b
        have sa := Nat.lt_of_lt_of_le (ev_small hF a ho.2.1) (Nat.pow_le_pow_right (by decide) (show 51 * lvs a ≤ 100000 by omega))
        have sb := Nat.lt_of_lt_of_le (ev_small hF b ho.2.2) (Nat.pow_le_pow_right (by decide) (show 51 * lvs b ≤ 100000 by omega))
        refine ⟨_, rfl, p, _, 0, _, rfl, rfl, hp, rfl, ?_⟩
        refine ⟨_, rfl, rfl, _, rfl, ?_⟩
        rw [decide_eq_false n2]
        refine iteF ⟨_, rfl, rfl, _, rfl, ?_⟩
        rw [decide_eq_false n1]
        refine iteF ⟨_, rfl, p, _, 1, _, rfl, rfl, hp, rfl, _, rfl, _, _, a, cs, fs, rfl, hy, hg, ho.2.1, hF, by omega, by omega, ?_⟩
        refine ⟨_, rfl, rfl, _, rfl, ?_⟩
        rw [decide_eq_false n3]
        refine iteF ⟨_, rfl, rfl, _, rfl, ?_⟩
        rw [decide_eq_false n4]
        refine iteF ⟨_, rfl, p, _, 2, _, rfl, rfl, hp, rfl, _, rfl, _, _, b, cs, fs, rfl, hz, hg, ho.2.2, hF, by omega, by omega, ?_⟩
        have q0 : Q (.int (op2 wd (ev fs a) (ev fs b))) H := q
        have hw := ho.1
        clear q n1 n2 n3 n4 ho hd hl
        generalize ev fs a = x at sa q0 ⊢
        generalize ev fs b = y at sb q0 ⊢
        have c : wd = 0 ∨ wd = 1 ∨ wd = 2 ∨ wd = 3 ∨ wd = 4 := by omega
        rcases c with rfl | rfl | rfl | rfl | rfl
        · exact ⟨_, rfl, rfl, _, rfl, iteT ⟨_, rfl, _, rfl, x, y, rfl, rfl, q0⟩⟩
        · exact ⟨_, rfl, rfl, _, rfl, iteF ⟨_, rfl, rfl, _, rfl, iteT ⟨_, rfl, _, rfl, x, y, rfl, rfl, q0⟩⟩⟩
        · exact ⟨_, rfl, rfl, _, rfl, iteF ⟨_, rfl, rfl, _, rfl, iteF ⟨_, rfl, rfl, _, rfl, iteT ⟨_, rfl, _, rfl, x, y, rfl, rfl, wide_mul sa sb (by decide) (by decide) (by decide), q0⟩⟩⟩⟩
        · refine ⟨_, rfl, rfl, _, rfl, iteF ⟨_, rfl, rfl, _, rfl, iteF ⟨_, rfl, rfl, _, rfl, iteF ⟨_, rfl, rfl, _, rfl, iteT ⟨_, rfl, _, rfl, rfl, _, rfl, ?_⟩⟩⟩⟩⟩
          have q' : Q (.int (if x = y then 1 else 0)) H := q0
          by_cases h : x = y
          · rw [if_pos h] at q'
            rw [h, decide_eq_true rfl]
            exact iteT q'
          · rw [if_neg h] at q'
            rw [decide_eq_false (fun e => h (V.int.inj e))]
            exact iteF q'
        · refine ⟨_, rfl, rfl, _, rfl, iteF ⟨_, rfl, rfl, _, rfl, iteF ⟨_, rfl, rfl, _, rfl, iteF ⟨_, rfl, rfl, _, rfl, iteF ⟨_, rfl, _, rfl, x, y, rfl, rfl, _, rfl, ?_⟩⟩⟩⟩⟩
          have q' : Q (.int (if x < y then 1 else 0)) H := q0
          by_cases h : x < y
          · rw [if_pos h] at q'
            rw [decide_eq_true h]
            exact iteT q'
          · rw [if_neg h] at q'
            rw [decide_eq_false h]
            exact iteF q'
      | rst a m =>
        obtain ⟨p, x, y, z, rfl, hp, hx, hy, hz⟩ := dp_3 he
        cases dp_str hx
        cases dp_int hz
        simp only [dep] at hd
        simp only [lvs] at hl
        refine ⟨_, rfl, p, _, 0, _, rfl, rfl, hp, rfl, ?_⟩
        refine ⟨_, rfl, rfl, _, rfl, iteF ⟨_, rfl, rfl, _, rfl, iteF ⟨_, rfl, p, _, 1, _, rfl, rfl, hp, rfl, _, rfl, _, _, a, cs, fs, rfl, hy, hg, ho.2.2, hF, by omega, by omega, ?_⟩⟩⟩
        refine ⟨_, rfl, rfl, _, rfl, iteT ⟨_, rfl, _, rfl, p, _, 2, _, rfl, rfl, hp, rfl, _, m, rfl, rfl, ?_, q⟩⟩
        have := ho.1
        show 0 < m
        omega
      | iff a b c =>
        obtain ⟨p, x, y, z, u, rfl, hp, hx, hy, hz, hu⟩ := dp_4 he
        cases dp_str hx
        simp only [dep] at hd
        simp only [lvs] at hl
        refine ⟨_, rfl, p, _, 0, _, rfl, rfl, hp, rfl, ?_⟩
        refine ⟨_, rfl, rfl, _, rfl, iteF ⟨_, rfl, rfl, _, rfl, iteF ⟨_, rfl, p, _, 1, _, rfl, rfl, hp, rfl, _, rfl, _, _, a, cs, fs, rfl, hy, hg, ho.1, hF, by omega, by omega, ?_⟩⟩⟩
        refine ⟨_, rfl, rfl, _, rfl, iteF ⟨_, rfl, rfl, _, rfl, iteT ⟨_, rfl, _, rfl, rfl, _, rfl, ?_⟩⟩⟩
        have q' : Q (.int (if ev fs a ≠ 0 then ev fs b else ev fs c)) H := q
        by_cases h : ev fs a = 0
        · rw [if_neg (by simpa using h)] at q'
          rw [decide_eq_true (congrArg V.int h)]
          exact iteF ⟨p, _, 3, _, rfl, rfl, hp, rfl, _, rfl, _, _, c, cs, fs, rfl, hu, hg, ho.2.2, hF, by omega, by omega, q'⟩
        · rw [if_pos h] at q'
          rw [decide_eq_false (fun e => h (V.int.inj e))]
          exact iteT ⟨p, _, 2, _, rfl, rfl, hp, rfl, _, rfl, _, _, b, cs, fs, rfl, hz, hg, ho.2.1, hF, by omega, by omega, q'⟩
/-- the Es that are given -/
def chs (fs : Fs) : Bd → Option (List Ex)
  | .ref => none
  | .giv es => some es
  | .whn e a b => if ev fs e ≠ 0 then chs fs a else chs fs b
def spCho (K : PySem.W.Frag) : Sp := fun vs H Q _ => ∃ (b f : V) (B : Bd) (cs : List Nat) (fs : Fs) (m : Nat), vs = [b, f] ∧ Dp K H b B.d ∧ Dp K H f (fL fs) ∧ goB cs m B ∧ Fit cs fs ∧
  (chs fs B = none → Q .non H) ∧ ∀ es p ys, chs fs B = some es → es.length = m → (∀ e ∈ es, okE cs e ∧ dep e ≤ 8 ∧ ptE e ≤ 60) → SqT K H p ys → DpAll K H ys (es.map Ex.d) → Q (.ref p) H
theorem ok_cho {f fV : Addr} {fd fdV : FuncData} {k : Nat} (F : Fun K "chosen_by" "chosen_by" sCho f fd) (HV : Has P w K mg base k "value_of" ["expression", "fields"] (spVal K 8) fV fdV) : FnOk P w K mg base CX0 (k + 1) f fd ["body", "fields"] (spCho K) := by
  refine F.ok scCho (fun vs H Q E h => ?_) (fun cdv A outer s H vs Q E hr h => ?_)
  · obtain ⟨b, g, B, cs, fs, m, rfl, _⟩ := h
    rfl
  · obtain ⟨b, g, B, cs, fs, m, rfl, hb, hg, ho, hF, q1, q2⟩ := h
    have nd := scCho.nd
    refine' ⟨_, pss_cons ?s1 (pss_one ?s2), ?rd⟩
    case s1 =>
      exact ps_while PassesOwn.never (pt_cmpR op_eq (pe_ix ix_tup (pv 0) pe_int (fun _ _ => rfl)) pe_str (nomark _))
        (pss_one (ps_set (i := 0) nd rfl (.inl rfl) (pe_ix ix_tup (pv 0) (pe_ifExp (pt_cmpR op_ne (hcall HV hr (pa_cons (pe_ix ix_tup (pv 0) pe_int (fun _ _ => rfl)) (pa_cons (pv 1) pa_nil))) pe_int (nomark _)) pe_int pe_int) (fun _ _ => rfl))))
    case s2 =>
      exact ps_ret (pe_ifExp (pt_cmpR op_eq (pe_ix ix_tup (pv 0) pe_int (fun _ _ => rfl)) pe_str (nomark _)) pe_non (pe_ix ix_tup (pv 0) pe_int (fun _ _ => rfl)))
    case rd =>
    refine ⟨fun d σ H1 => ∃ (b' : V) (B' : Bd), σ = [some b', some g] ∧ H1 = H ∧ Dp K H b' B'.d ∧ goB cs m B' ∧ chs fs B' = chs fs B ∧ depB B' = d, ⟨depB B, b, B, rfl, rfl, hb, ho, rfl, rfl⟩, ?_⟩
    rintro d σ H1 ⟨b', B', rfl, rfl, hb', ho', eg, rfl⟩
    cases B' with
    | ref =>
      obtain ⟨p, x, rfl, hp, hx⟩ := dp_1 hb'
      cases dp_str hx
      refine ⟨_, rfl, p, _, 0, _, rfl, rfl, hp, rfl, rfl, _, rfl, iteF ?_⟩
      exact ⟨_, rfl, p, _, 0, _, rfl, rfl, hp, rfl, rfl, _, rfl, iteT (q1 eg.symm)⟩
    | whn e a c =>
      obtain ⟨p, x, y, z, u, rfl, hp, hx, hy, hz, hu⟩ := dp_4 hb'
      cases dp_str hx
      obtain ⟨⟨e1, oka, okc⟩, hdp, hpt⟩ := ho'
      simp only [dpB] at hdp
      simp only [ptB] at hpt
      have lpt := lvs_pt e
      have e2 : dep e ≤ 8 := by omega
      have oa : goB cs m a := ⟨oka, by omega, by omega⟩
      have oc : goB cs m c := ⟨okc, by omega, by omega⟩
      refine ⟨_, rfl, p, _, 0, _, rfl, rfl, hp, rfl, rfl, _, rfl, iteT ⟨fun σ' H' => ∃ (b' : V) (B' : Bd), σ' = [some b', some g] ∧ H' = H1 ∧ Dp K H1 b' B'.d ∧ goB cs m B' ∧ chs fs B' = chs fs B ∧ depB B' < depB (.whn e a c), ?_, ?_⟩⟩
      · rintro σ' H' ⟨b2, B2, h1, h2, h3, h4, h5, h6⟩
        exact ⟨depB B2, h6, b2, B2, h1, h2, h3, h4, h5, rfl⟩
      · refine ⟨_, rfl, _, rfl, p, _, 1, _, rfl, rfl, hp, rfl, _, rfl, _, _, e, cs, fs, rfl, hy, hg, e1, hF, e2, by omega, rfl, _, rfl, ?_⟩
        simp only [chs] at eg
        by_cases h : ev fs e = 0
        · rw [if_neg (by simpa using h)] at eg
          rw [decide_eq_true (congrArg V.int h)]
          exact iteF ⟨p, _, 3, _, rfl, rfl, hp, rfl, u, c, rfl, rfl, hu, oc, eg, by simp only [depB]; omega⟩
        · rw [if_pos h] at eg
          rw [decide_eq_false (fun e => h (V.int.inj e))]
          exact iteT ⟨p, _, 2, _, rfl, rfl, hp, rfl, z, a, rfl, rfl, hz, oa, eg, by simp only [depB]; omega⟩
    | giv es =>
      obtain ⟨p, x, y, rfl, hp, hx, hy⟩ := dp_2 hb'
      cases dp_str hx
      obtain ⟨py, ys, rfl, hpy, hys⟩ := dp_tup hy
      refine ⟨_, rfl, p, _, 0, _, rfl, rfl, hp, rfl, rfl, _, rfl, iteF ?_⟩
      exact ⟨_, rfl, p, _, 0, _, rfl, rfl, hp, rfl, rfl, _, rfl, iteF ⟨_, rfl, p, _, 1, _, rfl, rfl, hp, rfl, q2 es py ys (eg.symm.trans rfl) ho'.ok.1 (fun e he => ⟨ho'.ok.2 e he, by have h1 := dpEs_mem he; have h2 := ho'.dp; simp only [dpB] at h2; omega, by have h1 := ptEs_mem he; have h2 := ho'.pt; simp only [ptB] at h2; omega⟩) hpy hys⟩⟩
end
end SfM
namespace SfM
open PySem PySem.Spec PyProof.Rows L2 SfG SfC
/-! ### a deed done by a making -/
inductive Gv where
  | wth (l : List Int)
  | num (n : Int)
def Gv.d : Gv → PyData
  | .wth l => .tuple (l.map .int)
  | .num n => .int n
def Gv.fs : Gv → List Int
  | .wth l => l
  | .num n => [n]
def gvO : Option Gv → PyData
  | none => .none
  | some g => g.d
def outV (sh : List Nat) (vals : List Int) : List Int := List.zipWith (fun (v : Int) (b : Nat) => v % ((b : Nat) : Int)) vals sh
/-- the shape of a hidden kind -/
def shK (f : Fc) (shs : List (List Nat)) (s : Str) : List Nat := shs.getD (posS f.hd s) []
def outK (f : Fc) (shs : List (List Nat)) (kn : Kn) (vals : List Int) : Gv := match kn with
  | .h s => .wth (outV (shK f shs s) vals)
  | .p n => .num (vals.headD 0 % n)
/-- what a deed gives by its body -/
def dnB (f : Fc) (shs : List (List Nat)) (e : De) (b : Bd) (fs : Fs) : Option Gv := (chs fs b).map fun es => outK f shs e.gv (es.map (ev fs))
/-- a thing that fits a kind -/
def mtG (f : Fc) (shs : List (List Nat)) : Kn → Gv → Prop
  | .h s, .wth l => l.length = fds f shs (.h s) ∧ ∀ x ∈ l, x.natAbs < 2 ^ 51
  | .p _, .num n => n.natAbs < 2 ^ 51
  | _, _ => False
structure MtL (f : Fc) (shs : List (List Nat)) (ks : List Kn) (gs : List Gv) : Prop where
  len : gs.length = ks.length
  at_ : ∀ (i : Nat) k g, ks[i]? = some k → gs[i]? = some g → mtG f shs k g
theorem fds_p (f : Fc) (shs : List (List Nat)) (n : Int) : fds f shs (.p n) = 1 := rfl
theorem mt_len {f : Fc} {shs : List (List Nat)} {k : Kn} {g : Gv} (h : mtG f shs k g) : g.fs.length = fds f shs k := by
  cases k with
  | h s =>
    cases g with
    | wth l => exact h.1
    | num n => exact h.elim
  | p n =>
    cases g with
    | wth l => exact h.elim
    | num n => rfl
theorem mt_small {f : Fc} {shs : List (List Nat)} {k : Kn} {g : Gv} (h : mtG f shs k g) : ∀ x ∈ g.fs, x.natAbs < 2 ^ 51 := by
  cases k with
  | h s =>
    cases g with
    | wth l => exact h.2
    | num n => exact h.elim
  | p n =>
    cases g with
    | wth l => exact h.elim
    | num n =>
      intro x hx
      rw [List.mem_singleton.mp hx]
      exact h
theorem MtL.fit {f : Fc} {shs : List (List Nat)} {ks : List Kn} {gs : List Gv} (h : MtL f shs ks gs) : Fit (ks.map (fds f shs)) (gs.map Gv.fs) := by
  constructor
  · rw [List.map_map]
    refine List.ext_getElem? fun i => ?_
    rw [List.getElem?_map, List.getElem?_map]
    have hl := h.len
    rcases Nat.lt_or_ge i ks.length with c | c
    · have h1 : ks[i]? = some ks[i] := List.getElem?_eq_getElem c
      have h2 : gs[i]? = some (gs[i]'(by omega)) := List.getElem?_eq_getElem _
      rw [h1, h2]
      exact congrArg some (mt_len (h.at_ i _ _ h1 h2))
    · rw [List.getElem?_eq_none c, List.getElem?_eq_none (show gs.length ≤ i by omega)]
      rfl
  · intro l hl x hx
    obtain ⟨g, hg, rfl⟩ := List.mem_map.mp hl
    obtain ⟨i, hi⟩ := List.mem_iff_getElem?.mp hg
    have hlt := lt_of_at hi
    have hln := h.len
    have h1 : ks[i]? = some (ks[i]'(by omega)) := List.getElem?_eq_getElem _
    exact mt_small (h.at_ i _ _ h1 hi) x hx
theorem sh_at {f : Fc} {shs : List (List Nat)} {s : Str} (hl : shs.length = f.hd.length) (hs : s ∈ f.hd) : shs[posS f.hd s]? = some (shK f shs s) ∧ fds f shs (.h s) = (shK f shs s).length := by
  have h1 := pos_at hs
  have li := lt_of_at h1
  have h2 : shs[posS f.hd s]? = some (shs[posS f.hd s]'(by omega)) := List.getElem?_eq_getElem _
  have h3 : shK f shs s = shs[posS f.hd s]'(by omega) := by
    unfold shK
    rw [List.getD_eq_getElem?_getD, h2]
    rfl
  refine ⟨by rw [h3]; exact h2, ?_⟩
  show (shs.map List.length).getD (posS f.hd s) 1 = _
  rw [List.getD_eq_getElem?_getD, List.getElem?_map, h2, h3]
  rfl
theorem out_mt {f : Fc} {k : Mk} (gm : goM f k) {kn : Kn} (hk : goK f.hd kn) {vals : List Int} (hl : vals.length = fds f k.shs kn) : mtG f k.shs kn (outK f k.shs kn vals) := by
  have p51 : (2 : Nat) ^ 51 = 2251799813685248 := by decide
  cases kn with
  | h s =>
    obtain ⟨h1, h2⟩ := sh_at gm.ls (show s ∈ f.hd from hk)
    have gs := gm.sh _ (List.mem_of_getElem? h1)
    refine ⟨?_, ?_⟩
    · show (outV (shK f k.shs s) vals).length = _
      unfold outV
      rw [List.length_zipWith, hl, h2]
      omega
    · intro x hx
      have hx' : x ∈ List.zipWith (fun (v : Int) (b : Nat) => v % ((b : Nat) : Int)) vals (shK f k.shs s) := hx
      obtain ⟨i, hi⟩ := List.mem_iff_getElem?.mp hx'
      rw [List.getElem?_zipWith] at hi
      cases hv : vals[i]? with
      | none =>
        rw [hv] at hi
        cases hi
      | some v =>
        cases hb : (shK f k.shs s)[i]? with
        | none =>
          rw [hv, hb] at hi
          cases hi
        | some b =>
          rw [hv, hb] at hi
          have e := Option.some.inj hi
          have g := gs.bd b (List.mem_of_getElem? hb)
          have m0 := Int.emod_nonneg v (show ((b : Nat) : Int) ≠ 0 by omega)
          have m1 := Int.emod_lt_of_pos v (show 0 < ((b : Nat) : Int) by omega)
          rw [p51]
          omega
  | p n =>
    obtain ⟨h2, h9⟩ := hk
    show (vals.headD 0 % n).natAbs < 2 ^ 51
    have m0 := Int.emod_nonneg (vals.headD 0) (show n ≠ 0 by omega)
    have m1 := Int.emod_lt_of_pos (vals.headD 0) (show 0 < n by omega)
    rw [p51]
    omega
theorem chs_good {cs : List Nat} {m : Nat} {fs : Fs} : ∀ {b : Bd} {es : List Ex}, bdOk cs m b → chs fs b = some es → es.length = m ∧ ∀ e ∈ es, okE cs e
  | .ref, _, _, h => by cases h
  | .giv es, _, ho, h => by
    cases h
    exact ho
  | .whn e a b, es, ho, h => by
    simp only [chs] at h
    split at h
    · exact chs_good ho.2.1 h
    · exact chs_good ho.2.2 h
theorem dn_mt {f : Fc} {k : Mk} (go : goF f) (gm : goM f k) {i : Nat} {e : De} {b : Bd} (he : f.ds[i]? = some e) (hb : k.bds[i]? = some b) {fs : Fs} {g : Gv} (h : dnB f k.shs e b fs = some g) : mtG f k.shs e.gv g := by
  unfold dnB at h
  cases hc : chs fs b with
  | none =>
    rw [hc] at h
    cases h
  | some es =>
    rw [hc] at h
    cases h
    have gb := gm.bd i e b he hb
    exact out_mt gm (go.ok e (List.mem_of_getElem? he)).gv (by rw [List.length_map]; exact (chs_good gb.ok hc).1)
abbrev nGK : List Str := ["face", "making", "number", "fields", "chosen", "kind", "shape", "expression", "bound"]
theorem scGivK : FnScope nGK ["face", "making", "number", "fields"] (defScope sGivK) := ⟨rfl, rfl, rfl, by decide +kernel, rfl, by decide +kernel, by decide +kernel⟩
abbrev nDR : List Str := ["face", "making", "number", "handed", "takes", "fields", "kind", "thing"]
theorem scDoneR : FnScope nDR ["face", "making", "number", "handed"] (defScope sDoneR) := ⟨rfl, rfl, rfl, by decide +kernel, rfl, by decide +kernel, by decide +kernel⟩
theorem dp_mk {K : PySem.W.Frag} {H : Hp} {v : V} {k : Mk} (h : Dp K H v k.d) : ∃ p ps pb ss bs, v = .ref p ∧ SqT K H p [.ref ps, .ref pb] ∧ SqT K H ps ss ∧ DpAll K H ss (k.shs.map shD) ∧ SqT K H pb bs ∧ DpAll K H bs (k.bds.map Bd.d) := by
  obtain ⟨p, a, b, rfl, hp, ha, hb⟩ := dp_2 h
  obtain ⟨ps, ss, rfl, hps, ds⟩ := dp_tup ha
  obtain ⟨pb, bs, rfl, hpb, db⟩ := dp_tup hb
  exact ⟨p, ps, pb, ss, bs, rfl, hp, hps, ds, hpb, db⟩
theorem dp_gv {K : PySem.W.Frag} {H : Hp} {l : List Int} {p : Addr} (h : SqT K H p (l.map V.int)) : Dp K H (.ref p) (Gv.wth l).d := .tup h (dpA_ints l)
section
variable {P : Program} {w : World} {K : PySem.W.Frag} {mg : Str → Option Value} {base : Heap}
def spGivK (K : PySem.W.Frag) : Sp := fun vs H Q _ => ∃ (x y z : V) (f : Fc) (k : Mk) (i : Nat) (e : De) (b : Bd) (fs : Fs), vs = [x, y, .int (i : Nat), z] ∧ Fz K H x f ∧ Dp K H y k.d ∧ goF f ∧ goM f k ∧ f.ds[i]? = some e ∧ k.bds[i]? = some b ∧ Dp K H z (fL fs) ∧ Fit (e.tk.map (fds f k.shs)) fs ∧
  ∀ H' v, Gr H H' → Dp K H' v (gvO (dnB f k.shs e b fs)) → Q v H'
set_option maxHeartbeats 4000000 in
theorem ok_givK {f fC fV : Addr} {fd fdC fdV : FuncData} {k : Nat} (F : Fun K "given_of_kind" "given_of_kind" sGivK f fd) (HC : Has P w K mg base k "chosen_by" ["body", "fields"] (spCho K) fC fdC) (HV : Has P w K mg base k "value_of" ["expression", "fields"] (spVal K 8) fV fdV)
    (mi : mg "isinstance" = none) (ms : mg "str" = none) (mt : mg "tuple" = none) (mz : mg "zip" = none) : FnOk P w K mg base CX0 (k + 1) f fd ["face", "making", "number", "fields"] (spGivK K) := by
  refine F.ok scGivK (fun vs H Q E h => ?_) (fun cdv A outer s H vs Q E hr h => ?_)
  · obtain ⟨x, y, z, f, k, i, e, b, fs, rfl, _⟩ := h
    rfl
  · obtain ⟨x, y, z, f, k, i, e, b, fs, rfl, hx, hy, go, gm, he, hb, hz, fit, q⟩ := h
    have nd := scGivK.nd
    refine' ⟨_, pss_cons ?s1 (pss_cons ?s2 (pss_cons ?s3 (pss_cons ?s4 (pss_one ?s5)))), ?rd⟩
    case s1 => exact ps_set (i := 4) nd rfl (.inl rfl) (hcall HC hr (pa_cons (pe_ix ix_tup (pe_ix ix_tup (pv 1) pe_int (fun _ _ => rfl)) (pv 2) (fun _ _ => rfl)) (pa_cons (pv 3) pa_nil)))
    case s2 => exact ps_if (pt_cmpR op_isN (pv 4) pe_non (nomark _)) (pss_one (ps_ret pe_non)) pss_nil
    case s3 => exact ps_set (i := 5) nd rfl (.inl rfl) (pe_ix ix_tup (pe_ix ix_tup (pe_ix ix_tup (pv 0) pe_int (fun _ _ => rfl)) (pv 2) (fun _ _ => rfl)) pe_int (fun _ _ => rfl))
    case s4 =>
      refine' ps_if (pt_val (pe_isi "str" 5 mi ms (by decide +kernel))) (pss_cons ?a1 (pss_one ?a2)) pss_nil
      case a1 => exact ps_set (i := 6) nd rfl (.inl rfl) (pe_ix ix_tup (pe_ix ix_tup (pv 1) pe_int (fun _ _ => rfl)) (pe_tix (pe_ix ix_tup (pv 0) pe_int (fun _ _ => rfl)) (pa_cons (pv 5) pa_nil)) (fun _ _ => rfl))
      case a2 =>
        exact ps_ret (pe_callTy call_tuple_of (by rfl) mt (by decide +kernel) (pa_cons (pe_lc (own := [("expression", 7), ("bound", 8)]) (g := gTup K 2 (gCons (gName 7) (gCons (gName 8) gNil))) rfl nd (RZ.pi_zipA (by rfl) mz (pa_cons (pv 4) (pa_cons (pv 6) pa_nil)))
          (blkOk_by (own := [("expression", 7), ("bound", 8)]) (N := nGK) (sc := defScope sGivK) (by decide +kernel)) (fun _ _ _ _ _ => pg_tup rfl (pgs_cons (pg_name (i := 7) nd rfl (.inl rfl)) (pgs_cons (pg_name (i := 8) nd rfl (.inl rfl)) pgs_nil))) (fun _ _ _ _ _ => pts_nil)
          (fun _ _ _ _ _ => pe_op op_mod (hcall HV hr (pa_cons (pv 7) (pa_cons (pv 3) pa_nil))) (pv 8))) pa_nil))
    case s5 => exact ps_ret (pe_op op_mod (hcall HV hr (pa_cons (pe_ix ix_tup (pv 4) pe_int (fun _ _ => rfl)) (pa_cons (pv 3) pa_nil))) (pv 5))
    case rd =>
    obtain ⟨pf, ph, pd, fxs, rfl, hpf, hph, hpd, dd⟩ := hx
    obtain ⟨pm, ps, pb, ss, bs, rfl, hpm, hps, dss, hpb, dbs⟩ := dp_mk hy
    obtain ⟨xb, hxb, dxb⟩ := dpA_map dbs hb
    obtain ⟨xe, hxe, dxe⟩ := dpA_map dd he
    have gb := gm.bd i e b he hb
    have ge := go.ok e (List.mem_of_getElem? he)
    refine ⟨_, rfl, pm, _, 1, _, rfl, rfl, hpm, rfl, _, rfl, pb, _, _, _, rfl, rfl, hpb, atI_nat hxb, _, rfl, ?_⟩
    refine ⟨xb, z, b, _, fs, _, rfl, dxb, hz, gb, fit, fun hn => ?_, fun es p ys hes hlen hgo hp hys => ?_⟩
    · refine ⟨_, rfl, rfl, _, rfl, iteT (q H .non (Gr.refl H) ?_)⟩
      unfold dnB
      rw [hn]
      exact .non
    have eg : dnB f k.shs e b fs = some (outK f k.shs e.gv (es.map (ev fs))) := by
      unfold dnB
      rw [hes]
      rfl
    rw [eg] at q
    have q : ∀ H' v, Gr H H' → Dp K H' v (outK f k.shs e.gv (es.map (ev fs))).d → Q v H' := q
    have ly : ys.length = es.length := by
      have := dpA_len hys
      rw [List.length_map] at this
      exact this
    obtain ⟨pe, n1, t1, v1, rfl, hpe, dn, dt, dg⟩ := dp_3 dxe
    cases dp_kn dg
    refine ⟨_, rfl, rfl, _, rfl, iteF ?_⟩
    refine ⟨_, rfl, pf, _, 1, _, rfl, rfl, hpf, rfl, _, rfl, pd, _, _, _, rfl, rfl, hpd, atI_nat hxe, pe, _, 2, _, rfl, rfl, hpe, rfl, ?_⟩
    have gvk := ge.gv
    cases hk : e.gv with
    | p n =>
      rw [hk] at gvk q hlen
      obtain ⟨n2, n9⟩ := gvk
      refine ⟨_, rfl, "int", false, (is_int n).1, by decide +kernel, _, rfl, iteF ?_⟩
      obtain ⟨e0, rfl⟩ : ∃ a, es = [a] := by
        have hl1 : es.length = 1 := hlen
        match es, hl1 with
        | [a], _ => exact ⟨a, rfl⟩
      obtain ⟨y0, yr, rfl, dy0, hyr⟩ := dpA_cons hys
      obtain ⟨o1, o2, o3⟩ := hgo e0 (.head _)
      have := lvs_pt e0
      refine ⟨_, rfl, p, _, 0, y0, rfl, rfl, hp, atI_nat (j := 0) rfl, _, rfl, y0, z, e0, _, fs, rfl, dy0, hz, o1, fit, o2, by omega, _, rfl, _, n, rfl, rfl, ?_, ?_⟩
      · show 0 < n
        omega
      · exact q H _ (Gr.refl H) (.int _)
    | h s =>
      rw [hk] at gvk q hlen
      have hs : s ∈ f.hd := gvk
      obtain ⟨hsh, hfd⟩ := sh_at gm.ls hs
      rw [hfd] at hlen
      have gsh := gm.sh _ (List.mem_of_getElem? hsh)
      have q : ∀ H' v, Gr H H' → Dp K H' v (Gv.wth (outV (shK f k.shs s) (es.map (ev fs)))).d → Q v H' := q
      generalize shK f k.shs s = sh at hsh hlen gsh q
      obtain ⟨xsh, hxsh, dsh⟩ := dpA_map dss hsh
      obtain ⟨psh, bv, rfl, hpsh, dbv⟩ := dp_tup dsh
      have lbv : bv.length = sh.length := by
        have := dpA_len dbv
        rw [List.length_map] at this
        exact this
      refine ⟨_, rfl, "str", true, (is_str s).1, by decide +kernel, _, rfl, iteT ?_⟩
      refine ⟨_, rfl, pm, _, 0, _, rfl, rfl, hpm, rfl, _, rfl, pf, _, 0, _, rfl, rfl, hpf, rfl, ph, f.hd, rfl, hph, _, rfl, s, posS f.hd s, rfl, hph, pos_at hs, fun m hm => pos_first hm, ps, _, _, _, rfl, rfl, hps, atI_nat hxsh, ?_⟩
      refine ⟨_, rfl, _, rfl, p, psh, ys, bv, rfl, .inr ⟨hp, hpsh, fun D nD => ?_⟩⟩
      have gD : ∀ o, Gr H (upd H D o) := fun o => Gr.new nD
      refine lc_it (walk_zipT (xs := ys) (ys := bv) (by omega)) (fun j S => S D = some (.lst (((outV sh (es.map (ev fs))).take j).map V.int)) ∧ Gr H S) ⟨upd_same, gD _⟩ ?c0 ?c1 ?c2
      case c0 =>
        rintro j S hj ⟨_, g⟩
        exact ⟨g.sqt hp, g.sqt hpsh⟩
      case c1 =>
        rintro j v S S' hj ⟨eD, g⟩ ⟨T, a, c, rfl, nT, rfl, ha, hc⟩
        obtain ⟨ej, hej, daj⟩ := dpA_at hys ha
        rw [List.getElem?_map] at hej
        obtain ⟨ex, hex, rfl⟩ := Option.map_eq_some_iff.mp hej
        obtain ⟨dc, hdc, dcj⟩ := dpA_at dbv hc
        rw [List.getElem?_map] at hdc
        obtain ⟨bn, hbn, rfl⟩ := Option.map_eq_some_iff.mp hdc
        cases dp_int dcj
        obtain ⟨o1, o2, o3⟩ := hgo ex (List.mem_of_getElem? hex)
        have := lvs_pt ex
        have gbn := gsh.bd bn (List.mem_of_getElem? hbn)
        have g2 : Gr H (upd S T (.tup [a, .int (bn : Nat)])) := g.trans (Gr.new nT)
        have hT : upd S T (.tup [a, .int (bn : Nat)]) T = some (.tup [a, .int (bn : Nat)]) := upd_same
        have eD2 := (Gr.new (o := .tup [a, .int (bn : Nat)]) nT).lst eD
        generalize upd S T (.tup [a, .int (bn : Nat)]) = S2 at g2 hT eD2 ⊢
        refine ⟨T, [a, .int (bn : Nat)], rfl, .inl (.inl hT), rfl, a, [.int (bn : Nat)], rfl, .int (bn : Nat), [], rfl, rfl, ?_⟩
        refine ⟨rfl, tYes_i (iteT ?_)⟩
        refine ⟨_, rfl, _, rfl, a, z, ex, _, fs, rfl, g2.kd.dp daj, g2.kd.dp hz, o1, fit, o2, by omega, _, rfl, _, _, rfl, rfl, ?_, ?_⟩
        · show (0 : Int) < ((bn : Nat) : Int)
          omega
        refine ⟨_, eD2, ?_, ?_, g2.upd_new nD⟩
        · rw [List.length_map, List.length_take]
          have := gsh.hi
          refine SfC.small1000 ?_
          unfold outV
          rw [List.length_zipWith, List.length_map]
          omega
        · have ho : (outV sh (es.map (ev fs)))[j]? = some (ev fs ex % ((bn : Nat) : Int)) := by
            unfold outV
            rw [List.getElem?_zipWith, List.getElem?_map, hex, hbn]
            rfl
          rw [List.take_add_one, ho, List.map_append]
          exact upd_same
      case c2 =>
      rintro S ⟨eD, g⟩
      have lo : (outV sh (es.map (ev fs))).length = ys.length := by
        unfold outV
        rw [List.length_zipWith, List.length_map]
        omega
      rw [← lo, List.take_length] at eD
      refine ⟨D, _, rfl, .inl ⟨.inl (.inl eD), fun t nt => ?_⟩⟩
      exact q _ _ (g.trans (Gr.new nt)) (dp_gv (.inl (.inl upd_same)))
end
end SfM
namespace SfM
open PySem PySem.Spec PyProof.Rows L2 SfG SfC
/-! ### a making, drawn -/
abbrev nLMak : List Str := ["_law_m", "_law_face_here", "_law_some", "_law_shapes", "_law_kind", "_law_bodies", "_law_name", "_law_takes", "_law_gives", "_law_spots", "_law_k", "_law_fields", "_law_field", "_law_many"]
theorem scLMak : FnScope nLMak ["_law_m", "_law_face_here"] (defScope sLMak) := ⟨rfl, rfl, rfl, by decide +kernel, rfl, by decide +kernel, by decide +kernel⟩
/-- tuples of numbers, laid one behind the other -/
def taI : List Int → TA
  | [] => tNil
  | n :: r => tCons (tC (.int n)) (taI r)
def taS : List (List Int) → TA
  | [] => tNil
  | s :: r => tCons (tTup (taI s)) (taS r)
theorem taI_ok : ∀ (s : List Int) {σ : L2.St} {H : Hp} {Q : List V → Hp → Prop}, Q (s.map V.int) H → taI s σ H Q
  | [], _, _, _, h => h
  | n :: r, σ, H, Q, h => taI_ok r (σ := σ) (H := H) (Q := fun xs H2 => Q (.int n :: xs) H2) h
theorem taS_ok {K : PySem.W.Frag} : ∀ (s : List (List Int)) {σ : L2.St} {H : Hp} {Q : List V → Hp → Prop}, (∀ t ∈ s, t.length ≤ 100) → (∀ H' vs, Gr H H' → DpAll K H' vs (s.map fun t => .tuple (t.map .int)) → Q vs H') → taS s σ H Q
  | [], _, H, _, _, h => h H [] (Gr.refl H) .nil
  | t :: r, σ, H, Q, hl, h => by
    refine taI_ok t ?_
    refine ⟨?_, fun p np => ?_⟩
    · rw [List.length_map]
      exact Nat.le_of_lt (SfC.small1000 (by have := hl t (.head _); omega))
    · refine taS_ok r (K := K) (fun x hx => hl x (.tail _ hx)) (fun H' vs g d => h H' _ ((Gr.new np).trans g) ?_)
      exact .cons (.tup (g.sqt (.inl (.inl upd_same))) (dpA_ints t)) d
def someS : List (List Nat) := [[2], [3], [4], [5], [2, 2], [3, 2], [2, 3], [9], [2, 2, 2], [3, 3], [2, 2, 4]]
theorem someS_good : ∀ s ∈ someS, goS s := by
  intro s hs
  have h : ∀ s ∈ someS, (1 ≤ s.length ∧ s.length ≤ 3) ∧ (∀ n ∈ s, 2 ≤ n ∧ n ≤ 9) ∧ s.foldl (· * ·) 1 ≤ 16 := by decide
  obtain ⟨⟨h1, h2⟩, h3, h4⟩ := h s hs
  exact ⟨h1, h2, h3, h4⟩
theorem noL_sh (s : List Nat) : noL (shD s) = true := by
  unfold shD
  rw [noL, noLA_map _ (fun _ => by rw [noL])]
def tSome : TE := tLst (taS [[2], [3], [4], [5], [2, 2], [3, 2], [2, 3], [9], [2, 2, 2], [3, 3], [2, 2, 4]])
theorem tSome_ok {K : PySem.W.Frag} {σ : L2.St} {H : Hp} {Q : VK} (h : ∀ H1 sm ss, Gr H H1 → H sm = none → H1 sm = some (.lst ss) → DpAll K H1 ss (someS.map shD) → Q (.ref sm) H1) : tSome σ H Q := by
  unfold tSome tLst
  refine taS_ok (K := K) _ (fun t ht => ?_) (fun H1 ss g1 dss => ?_)
  · have hm : t.length ≤ 3 := by
      simp only [List.mem_cons, List.not_mem_nil, or_false] at ht
      rcases ht with rfl | rfl | rfl | rfl | rfl | rfl | rfl | rfl | rfl | rfl | rfl <;> decide
    omega
  have lss : ss.length = 11 := dpA_len dss
  refine ⟨Nat.le_of_lt (SfC.small1000 (by omega)), fun sm nsm => ?_⟩
  exact h _ sm ss (g1.trans (Gr.new nsm)) (g1.back sm nsm) upd_same ((Gr.new nsm).kd.dpA dss)
theorem asg_go {te : TE} {g : TG} {D : Ends} {σ : L2.St} {H : Hp} (h : te σ H fun v H1 => g v σ H1 D.nx) : tAsg te g D σ H := h
theorem eleven {K : PySem.W.Frag} {H : Hp} {xs : List V} (h : DpAll K H xs (someS.map shD)) : cutV xs none (some 7) = xs.take 7 := by
  obtain ⟨x1, r, rfl, _, h⟩ := dpA_cons h
  obtain ⟨x2, r, rfl, _, h⟩ := dpA_cons h
  obtain ⟨x3, r, rfl, _, h⟩ := dpA_cons h
  obtain ⟨x4, r, rfl, _, h⟩ := dpA_cons h
  obtain ⟨x5, r, rfl, _, h⟩ := dpA_cons h
  obtain ⟨x6, r, rfl, _, h⟩ := dpA_cons h
  obtain ⟨x7, r, rfl, _, h⟩ := dpA_cons h
  obtain ⟨x8, r, rfl, _, h⟩ := dpA_cons h
  obtain ⟨x9, r, rfl, _, h⟩ := dpA_cons h
  obtain ⟨x10, r, rfl, _, h⟩ := dpA_cons h
  obtain ⟨x11, r, rfl, _, h⟩ := dpA_cons h
  cases dpA_nil h
  rfl
theorem fds_le {f : Fc} {shs : List (List Nat)} (hl : shs.length = f.hd.length) (hs : ∀ s ∈ shs, goS s) {k : Kn} (hk : goK f.hd k) : 1 ≤ fds f shs k ∧ fds f shs k ≤ 3 := by
  cases k with
  | p n => exact ⟨Nat.le_refl 1, by show 1 ≤ 3; decide⟩
  | h s =>
    obtain ⟨h1, h2⟩ := sh_at hl (show s ∈ f.hd from hk)
    have g := hs _ (List.mem_of_getElem? h1)
    rw [h2]
    exact ⟨g.lo, g.hi⟩
end SfM
namespace SfM
open PySem PySem.Spec PyProof.Rows L2 SfG SfC
section
variable {P : Program} {w : World} {K : PySem.W.Frag} {mg : Str → Option Value} {base : Heap}
def spLMak (K : PySem.W.Frag) : Sp := fun vs H Q _ => ∃ (m r : Addr) (x : V) (f : Fc) (a : Src) (cs : List Int) (B : Int), vs = [.ref m, x] ∧ Dr K H m r a cs B ∧ B ≤ 700000 ∧ Fz K H x f ∧ goF f ∧
  ∀ H' v (k : Mk), G2 m r H H' → Dr K H' m r a cs (B + 1200) → Dp K H' v k.d → goM f k → Q v H'
set_option maxHeartbeats 8000000 in
theorem ok_lmak {f fD fO fB : Addr} {fd dD dO dB : FuncData} {k : Nat} (F : Fun K "_law_making" "_law_making" sLMak f fd) (HD : Has P w K mg base k "_law_draw" ["_law_m", "_law_many"] (spDrw K) fD dD) (HO_ : Has P w K mg base k "_law_of" ["_law_m", "_law_some"] (spOf K) fO dO)
    (HB : Has P w K mg base k "_law_body" ["_law_m", "_law_spots", "_law_many", "_law_deep"] (spLBody K 2) fB dB) (ml : mg "len" = none) (mr : mg "range" = none) (me : mg "enumerate" = none) (mt : mg "tuple" = none) : FnOk P w K mg base CX0 (k + 1) f fd ["_law_m", "_law_face_here"] (spLMak K) := by
  refine F.ok scLMak (fun vs H Q E h => ?_) (fun cdv A outer s H vs Q E hr h => ?_)
  · obtain ⟨m, r, x, f, a, cs, B, rfl, _⟩ := h
    rfl
  · obtain ⟨m, r, x, f, a, cs, B, rfl, d0, hB, hx, go, q⟩ := h
    have nd := scLMak.nd
    refine' ⟨_, pss_cons ?s1 (pss_cons ?s2 (pss_cons ?s3 (pss_cons ?s4 (pss_one ?s5)))), ?rd⟩
    case s1 =>
      refine ps_set (i := 2) nd rfl (.inr rfl) (te := tSome) ?_
      exact (pe_lst (pa_cons (pe_tup (pa_cons pe_int pa_nil)) (pa_cons (pe_tup (pa_cons pe_int pa_nil)) (pa_cons (pe_tup (pa_cons pe_int pa_nil)) (pa_cons (pe_tup (pa_cons pe_int pa_nil)) (pa_cons (pe_tup (pa_cons pe_int (pa_cons pe_int pa_nil))) (pa_cons (pe_tup (pa_cons pe_int (pa_cons pe_int pa_nil))) (pa_cons (pe_tup (pa_cons pe_int (pa_cons pe_int pa_nil)))
        (pa_cons (pe_tup (pa_cons pe_int pa_nil)) (pa_cons (pe_tup (pa_cons pe_int (pa_cons pe_int (pa_cons pe_int pa_nil)))) (pa_cons (pe_tup (pa_cons pe_int (pa_cons pe_int pa_nil))) (pa_cons (pe_tup (pa_cons pe_int (pa_cons pe_int (pa_cons pe_int pa_nil)))) pa_nil))))))))))))
    case s2 =>
      exact ps_set (i := 3) nd rfl (.inl rfl) (pe_callTy call_tuple_of (by rfl) mt (by decide +kernel) (pa_cons (pe_lc (own := [("_law_kind", 4)]) (g := gName 4) rfl nd (pi_tup (pe_ix ix_tup (pv 1) pe_int (fun _ _ => rfl))) (blkOk_by (own := [("_law_kind", 4)]) (N := nLMak) (sc := defScope sLMak) (by decide +kernel))
        (fun _ _ _ _ _ => pg_name (i := 4) nd rfl (.inl rfl)) (fun _ _ _ _ _ => pts_nil) (fun _ _ _ _ _ => hcall HO_ hr (pa_cons (pv 0) (pa_cons (pe_ifExp (pt_cmpR op_gt (hcall HD hr (pa_cons (pv 0) (pa_cons pe_int pa_nil))) pe_int (nomark _)) (pe_slice (r := rSlL K) sl_list (pv 2) po_none (po_some pe_int)) (pv 2)) pa_nil)))) pa_nil))
    case s3 => exact ps_set (i := 5) nd rfl (.inl rfl) (pe_lst pa_nil)
    case s4 =>
      refine' ps_for PassesOwn.never rfl (pi_tup (pe_ix ix_tup (pv 1) pe_int (fun _ _ => rfl))) (pg_tup rfl (pgs_cons (pg_name (i := 6) nd rfl (.inl rfl)) (pgs_cons (pg_name (i := 7) nd rfl (.inl rfl)) (pgs_cons (pg_name (i := 8) nd rfl (.inl rfl)) pgs_nil))))
        (pss_cons ?b1 (pss_cons ?b2 (pss_cons ?b3 (pss_one ?b4))))
      case b1 => exact ps_set (i := 9) nd rfl (.inl rfl) (pe_lst pa_nil)
      case b2 =>
        refine' ps_for PassesOwn.never rfl (pi_enumT (by rfl) me (pa_cons (pv 7) pa_nil)) (pg_tup rfl (pgs_cons (pg_name (i := 10) nd rfl (.inr rfl)) (pgs_cons (pg_name (i := 4) nd rfl (.inl rfl)) pgs_nil))) (pss_cons ?c1 (pss_one ?c2))
        case c1 =>
          exact ps_set (i := 11) nd rfl (.inl rfl) (pe_ifExp (pt_cmpR op_in_seq (pv 4) (pe_ix ix_tup (pv 1) pe_int (fun _ _ => rfl)) rfl)
            (pe_callB call_len_seq (by rfl) ml PySem.boot_len (pa_cons (pe_ix ix_tup (pv 3) (pe_tix (pe_ix ix_tup (pv 1) pe_int (fun _ _ => rfl)) (pa_cons (pv 4) pa_nil)) (fun _ _ => rfl)) pa_nil)) pe_int)
        case c2 =>
          exact ps_expr (pe_bm PySem.F.plainAttrs_list PySem.F.slot_list_extend PySem.F.type_list_extend mt_extend (pv 9) (pa_cons (pe_lc (own := [("_law_field", 12)]) (g := gName 12) rfl nd (pi_range1 (by rfl) mr (pa_cons (pv 11) pa_nil)) (blkOk_by (own := [("_law_field", 12)]) (N := nLMak) (sc := defScope sLMak) (by decide +kernel))
            (fun _ _ _ _ _ => pg_name (i := 12) nd rfl (.inl rfl)) (fun _ _ _ _ _ => pts_nil) (fun _ _ _ _ _ => pe_tup (pa_cons (pv 10) (pa_cons (pv 12) pa_nil)))) pa_nil))
      case b3 =>
        exact ps_set (i := 13) nd rfl (.inl rfl) (pe_ifExp (pt_cmpR op_in_seq (pv 8) (pe_ix ix_tup (pv 1) pe_int (fun _ _ => rfl)) rfl)
          (pe_callB call_len_seq (by rfl) ml PySem.boot_len (pa_cons (pe_ix ix_tup (pv 3) (pe_tix (pe_ix ix_tup (pv 1) pe_int (fun _ _ => rfl)) (pa_cons (pv 8) pa_nil)) (fun _ _ => rfl)) pa_nil)) pe_int)
      case b4 => exact ps_expr (pe_bm PySem.F.plainAttrs_list PySem.F.slot_list_append PySem.F.type_list_append mt_append (pv 5) (pa_cons (hcall HB hr (pa_cons (pv 0) (pa_cons (pv 9) (pa_cons (pv 13) (pa_cons pe_int pa_nil))))) pa_nil))
    case s5 => exact ps_ret (pe_tup (pa_cons (pv 3) (pa_cons (pe_callTy call_tuple_of (by rfl) mt (by decide +kernel) (pa_cons (pv 5) pa_nil)) pa_nil)))
    case rd =>
    obtain ⟨pf, ph, pd, fxs, rfl, hpf, hph, hpd, dd⟩ := id hx
    have lfx : fxs.length = f.ds.length := by
      have := dpA_len dd
      rw [List.length_map] at this
      exact this
    have h2 := go.hid.hi
    have hi8 := go.hi
    -- the shapes
    refine seq_go (asg_go (tSome_ok (K := K) fun H2 sm ss g1 nsm e2 dss2 => ?_))
    have lss : ss.length = 11 := dpA_len dss2
    obtain ⟨ns1, ns2⟩ := d0.nm nsm
    have d2 := d0.gr g1
    have g2 : G2 m r H H2 := G2.gr g1
    clear g1 nsm
    refine gname_go ?_
    refine ⟨_, rfl, pf, _, 0, _, rfl, rfl, d0.kt g2 hpf, rfl, ph, rfl, ⟨_, d0.kt g2 hph.sqt⟩, fun D nD => ?_⟩
    obtain ⟨nD1, nD2⟩ := d2.nm nD
    have oD := d2.off nD
    refine lc_it (walk_tup (xs := f.hd.map V.str)) (fun i S => ∃ (shs : List (List Nat)) (vs : List V), S D = some (.lst vs) ∧ shs.length = i ∧ DpAll K S vs (shs.map shD) ∧ (∀ s ∈ shs, goS s) ∧ G2 m r H2 S ∧ Dr K S m r a cs (B + (i : Int) * 2))
      ⟨[], [], upd_same, rfl, .nil, fun s hs => (by cases hs), G2.gr (Gr.new nD), (d2.gr (Gr.new nD)).mono (by omega)⟩ ?u1 ?u2 ?u3
    case u1 =>
      rintro i S hi ⟨shs, vs, hD, hl, hv, hg, g, d⟩
      exact d0.kt (g2.trans g) hph.sqt
    case u2 =>
      rintro i x S S' hi ⟨shs, vs, hD, hl, hv, hg, g, d⟩ ⟨rfl, hx'⟩
      have hi2 : i < 2 := by
        rw [List.length_map] at hi
        omega
      refine ⟨rfl, tYes_i (iteT ?_)⟩
      refine ⟨_, rfl, _, rfl, m, r, a, cs, 4, _, rfl, d, by omega, by decide, by decide, fun S1 z g1 d1 z0 z4 => ?_⟩
      have gS1 := g.trans g1
      have e21 := gS1.lst ns1 ns2 e2
      have dss1 := Kt.dpA (d2.kt gS1) dss2 (noLA_map _ noL_sh _)
      have of : ∀ (S2 : Hp) (t : Addr) (ys : List V), Gr S1 S2 → S2 t = some (.lst ys) → t ≠ m → t ≠ r → ys ≠ [] → ys.length ≤ 11 → (∀ y ∈ ys, y ∈ ss) → spOf K [.ref m, .ref t] S2 (fun y H4 => ∃ acc, H4 D = some (.lst acc) ∧ acc.length < sizeLine ∧ ∃ (shs : List (List Nat)) (vs : List V), upd H4 D (.lst (acc ++ [y])) D = some (.lst vs) ∧ shs.length = i + 1 ∧ DpAll K (upd H4 D (.lst (acc ++ [y]))) vs (shs.map shD) ∧ (∀ s ∈ shs, goS s) ∧ G2 m r H2 (upd H4 D (.lst (acc ++ [y]))) ∧ Dr K (upd H4 D (.lst (acc ++ [y]))) m r a cs (B + ((i + 1 : Nat) : Int) * 2)) E0 := by
        intro S2 t ys k12 et nt1 nt2 hne hlen hin
        refine ⟨m, r, t, a, cs, ys, _, rfl, d1.gr k12, by omega, .inl ⟨.inl (.inl et), nt1, nt2⟩, hne, by omega, fun S3 ix y g3 d3 hy => ?_⟩
        obtain ⟨j, hj⟩ := List.mem_iff_getElem?.mp (hin y (List.mem_of_getElem? hy))
        obtain ⟨ds, hds, dy⟩ := dpA_at dss1 hj
        rw [List.getElem?_map] at hds
        obtain ⟨sh, hsh, rfl⟩ := Option.map_eq_some_iff.mp hds
        have g13 : G2 m r S1 S3 := (G2.gr k12).trans g3
        have gS3 := gS1.trans g13
        have hD3 := (g1.trans g13).lst nD1 nD2 hD
        have dy3 := Kt.dp (d1.kt g13) dy (noL_sh sh)
        have lv : vs.length = i := by
          have := dpA_len hv
          rw [List.length_map, hl] at this
          exact this
        refine ⟨vs, hD3, SfC.small1000 (by omega), shs ++ [sh], vs ++ [y], upd_same, ?_, ?_, ?_, gS3.upd_new nD, (d3.upd nD1 nD2 oD).mono (by omega)⟩
        · rw [List.length_append, hl]
          rfl
        · rw [List.map_append]
          exact Kt.dpA (kt_lst hD3) (dpA_app (Kt.dpA (d.kt (g1.trans g13)) hv (noLA_map _ noL_sh _)) (.cons dy3 .nil)) (by rw [← List.map_append]; exact noLA_map _ noL_sh _)
        · intro s' hs
          rcases List.mem_append.mp hs with h | h
          · exact hg s' h
          · rw [List.mem_singleton.mp h]
            exact someS_good sh (List.mem_of_getElem? hsh)
      refine ⟨z, 0, rfl, rfl, _, rfl, ite2 (fun _ => ?_) (fun _ => ?_)⟩
      · refine ⟨_, rfl, 7, rfl, sm, ss, rfl, .inl (.inl e21), fun t nt => ?_⟩
        obtain ⟨nt1, nt2⟩ := d1.nm nt
        refine of _ t _ (Gr.new nt) upd_same nt1 nt2 ?_ ?_ ?_
        · rw [eleven dss1]
          intro z
          have := congrArg List.length z
          rw [List.length_take, lss] at this
          simp at this
        · rw [eleven dss1, List.length_take, lss]
          decide
        · intro y hy
          rw [eleven dss1] at hy
          exact List.mem_of_mem_take hy
      · refine ⟨_, rfl, of S1 sm ss (Gr.refl S1) e21 ns1 ns2 ?_ (by omega) (fun y hy => hy)⟩
        intro z
        rw [z] at lss
        cases lss
    case u3 =>
    rintro S ⟨shs, vs, hD, hl, hv, hg, g, d⟩
    rw [List.length_map] at hl d
    replace d : Dr K S m r a cs (B + 4) := d.mono (by omega)
    refine ⟨D, vs, rfl, .inl ⟨.inl (.inl hD), fun sp nsp => ?_⟩⟩
    have k3 : Gr S (upd S sp (.tup vs)) := Gr.new nsp
    have e3 : upd S sp (.tup vs) sp = some (.tup vs) := upd_same
    have d3 := d.gr k3
    have g3 : G2 m r H (upd S sp (.tup vs)) := g2.trans (g.trans (G2.gr k3))
    have hv3 := k3.kd.dpA hv
    generalize upd S sp (.tup vs) = H3 at k3 e3 d3 g3 hv3 ⊢
    clear k3 d g hD hv nsp nD oD nD1 nD2 e2 dss2 d2 g2
    have lvs : vs.length = shs.length := by
      have := dpA_len hv3
      rw [List.length_map] at this
      exact this
    have hpf3 := d0.kt g3 hpf
    have hph3 := Tz.g2 d0 g3 hph
    have hpd3 := d0.kt g3 hpd
    have dd3 := Kt.dpA (d0.kt g3) dd (noLA_map _ noL_de _)
    have hsp3 : SqT K H3 sp vs := .inl (.inl e3)
    refine ⟨by show 0 ≤ sizeLine; decide, fun bl nbl => ?_⟩
    obtain ⟨nb1, nb2⟩ := d3.nm nbl
    have ob := d3.off nbl
    have k4 : Gr H3 (upd H3 bl (.lst [])) := Gr.new nbl
    have e4 : upd H3 bl (.lst []) bl = some (.lst []) := upd_same
    generalize upd H3 bl (.lst []) = H4 at k4 e4 ⊢
    -- the number of fields of a kind
    have fld : ∀ (S : Hp), G2 m r H3 S → ∀ (kn : Kn), goK f.hd kn → ∀ (s : Str), kn = .h s → ∃ (j : Nat) (psh : Addr) (bv : List V), f.hd[j]? = some s ∧ (∀ n, n < j → f.hd[n]? ≠ some s) ∧ vs[j]? = some (.ref psh) ∧ SqT K S psh bv ∧ bv.length = fds f shs kn := by
      intro S g kn hk s e
      subst e
      obtain ⟨a1, a2⟩ := sh_at hl (show s ∈ f.hd from hk)
      obtain ⟨xsh, hxsh, dsh⟩ := dpA_map hv3 a1
      obtain ⟨psh, bv, rfl, hpsh, dbv⟩ := dp_tup dsh
      refine ⟨posS f.hd s, psh, bv, pos_at hk, fun n hn => pos_first hn, hxsh, d3.kt g hpsh, ?_⟩
      have := dpA_len dbv
      rw [List.length_map] at this
      rw [a2, this]
    refine ⟨_, rfl, pf, _, 1, _, rfl, rfl, k4.sqt hpf3, rfl, pd, rfl, ⟨_, k4.sqt hpd3⟩, ?_⟩
    refine for_it (walk_tup (xs := fxs)) (fun i σ S => ∃ (y4 y6 y7 y8 y9 y10 y11 y13 : Option V) (bvs : List V) (bds : List Bd), σ = [some (.ref m), some (.ref pf), some (.ref sm), some (.ref sp), y4, some (.ref bl), y6, y7, y8, y9, y10, y11, none, y13] ∧ S bl = some (.lst bvs) ∧ DpAll K S bvs (bds.map Bd.d) ∧ bds.length = i ∧
      (∀ (j : Nat) (e : De) (b : Bd), f.ds[j]? = some e → bds[j]? = some b → goB (e.tk.map (fds f shs)) (fds f shs e.gv) b) ∧ G2 m r H3 S ∧ Dr K S m r a cs (B + 4 + (i : Int) * 140)) ⟨_, _, _, _, _, _, _, _, [], [], rfl, e4, .nil, rfl, (fun j e b _ h => by simp at h), G2.gr k4, (d3.gr k4).mono (by omega)⟩ ?v1 ?v2 ?v3
    case v1 =>
      rintro i σ S hi ⟨y4, y6, y7, y8, y9, y10, y11, y13, bvs, bds, rfl, eb, db, lb, gb, g, d⟩
      exact d3.kt g hpd3
    case v3 =>
      rintro σ S ⟨y4, y6, y7, y8, y9, y10, y11, y13, bvs, bds, rfl, eb, db, lb, gb, g, d⟩
      refine ⟨_, rfl, _, rfl, bl, _, rfl, .inl ⟨.inl (.inl eb), fun td ntd => ⟨by show 2 ≤ sizeLine; decide, fun tf ntf => ?_⟩⟩⟩
      have k1 : Gr S (upd S td (.tup bvs)) := Gr.new ntd
      have e1 : upd S td (.tup bvs) td = some (.tup bvs) := upd_same
      have k2 := k1.trans (Gr.new (o := .tup [.ref sp, .ref td]) ntf)
      refine q _ (.ref tf) ⟨shs, bds⟩ (g3.trans (g.trans (G2.gr k2))) ((d.gr k2).mono (by omega)) ?_ ⟨hl, by show bds.length = _; omega, hg, gb⟩
      exact .tup (.inl (.inl upd_same)) (.cons (.tup (k2.sqt (d3.kt g hsp3)) (k2.kd.dpA (Kt.dpA (d3.kt g) hv3 (noLA_map _ noL_sh _)))) (.cons (.tup (.inl (.inl ((Gr.new ntf).tup e1))) (k2.kd.dpA db)) .nil))
    case v2 =>
      rintro i x σ S' S hi ⟨y4, y6, y7, y8, y9, y10, y11, y13, bvs, bds, rfl, eb, db, lb, gb, g, d⟩ ⟨rfl, hx'⟩
      have i8 : i < 8 := by omega
      have hpfS := d3.kt g hpf3
      have hphS := Tz.g2 d3 g hph3
      have ddS := Kt.dpA (d3.kt g) dd3 (noLA_map _ noL_de _)
      have hspS := d3.kt g hsp3
      obtain ⟨e, he, de⟩ := dpA_de ddS hx'
      obtain ⟨pe, nn, tt, vv, rfl, hpe, dn, dt, dg⟩ := dp_3 de
      cases dp_str dn
      cases dp_kn dg
      obtain ⟨pt, ts, rfl, hpt, hts⟩ := dp_tup dt
      cases dpA_kns hts
      have ge := go.ok e (List.mem_of_getElem? he)
      refine ⟨pe, _, rfl, hpe, rfl, _, _, rfl, _, _, rfl, _, _, rfl, rfl, ?_⟩
      refine ⟨by show 0 ≤ sizeLine; decide, fun sl nsl => ?_⟩
      obtain ⟨nsl1, nsl2⟩ := d.nm nsl
      have k5 : Gr S (upd S sl (.lst [])) := Gr.new nsl
      have e5 : upd S sl (.lst []) sl = some (.lst []) := upd_same
      generalize upd S sl (.lst []) = S5 at k5 e5 ⊢
      refine ⟨_, rfl, pt, _, rfl, k5.sqt hpt, for_it (walk_enumT (xs := e.tk.map Kn.v)) (fun j σ S2 => ∃ (y4 y10 y11 : Option V) (xs : List V) (ps : List (Nat × Nat)), σ = [some (.ref m), some (.ref pf), some (.ref sm), some (.ref sp), y4, some (.ref bl), some (.str e.nm), some (.ref pt), some e.gv.v, some (.ref sl), y10, y11, none, y13] ∧
        S2 sl = some (.lst xs) ∧ DpAll K S2 xs (ps.map spD) ∧ ps.length ≤ 3 * j ∧ (∀ p ∈ ps, ∃ k, e.tk[p.1]? = some k ∧ p.2 < fds f shs k) ∧ Gr S S2) ⟨_, _, _, [], [], rfl, e5, .nil, Nat.zero_le _, (fun p hp => by cases hp), k5⟩ ?w1 ?w2 ?w3⟩
      case w1 =>
        rintro j σ S2 hj ⟨z4, z10, z11, xs, ps, rfl, es, dxs, lp, okp, g2⟩
        exact g2.sqt hpt
      case w2 =>
        rintro j v σ S2 S2' hj ⟨z4, z10, z11, xs, ps, rfl, es, dxs, lp, okp, g2⟩ ⟨T, a', b', rfl, nT, rfl, ha, hb⟩
        cases ha
        replace hb : (e.tk.map Kn.v)[j]? = some b' := hb
        rw [List.getElem?_map] at hb
        obtain ⟨kn, hkn, rfl⟩ := Option.map_eq_some_iff.mp hb
        have gkn := ge.tk kn (List.mem_of_getElem? hkn)
        have fle := fds_le hl hg gkn
        have j3 : j < 3 := by
          have := lt_of_at hkn
          have := ge.len
          omega
        have k6 : Gr S2 (upd S2 T (.tup [.int (j : Nat), kn.v])) := Gr.new nT
        have hT : upd S2 T (.tup [.int (j : Nat), kn.v]) T = some (.tup [.int (j : Nat), kn.v]) := upd_same
        have es6 := k6.lst es
        have dx6 := k6.kd.dpA dxs
        have g6 := g2.trans k6
        generalize upd S2 T (.tup [.int (j : Nat), kn.v]) = S6 at k6 hT es6 dx6 g6 ⊢
        refine ⟨T, _, rfl, .inl (.inl hT), rfl, _, _, rfl, _, _, rfl, rfl, ?_⟩
        dsimp only
        refine seq_end (fun σ S => σ = [some (.ref m), some (.ref pf), some (.ref sm), some (.ref sp), some kn.v, some (.ref bl), some (.str e.nm), some (.ref pt), some e.gv.v, some (.ref sl), some (.int (j : Nat)), some (.int ((fds f shs kn : Nat) : Int)), none, y13] ∧ S6 = S) ?ext (fun hF => seq_go ?_)
        case ext =>
          rintro σ S7 ⟨rfl, rfl⟩
          have lx : xs.length ≤ 9 := by
            have := dpA_len dxs
            rw [List.length_map] at this
            omega
          refine ⟨_, rfl, .inl ⟨rfl, _, .inl (.inl es6)⟩, _, rfl, ((fds f shs kn : Nat) : Int), rfl, by omega, by omega, fun D nD => ?_⟩
          have nsD : sl ≠ D := ne_of_none es6 nD
          refine lc_it (walk_range (lo := 0) (n := (((fds f shs kn : Nat) : Int)).toNat)) (fun i S8 => ∃ zs, S8 D = some (.lst zs) ∧ DpAll K S8 zs ((List.range i).map fun x => spD (j, x)) ∧ Gr S6 S8) ⟨[], upd_same, .nil, Gr.new nD⟩ (fun _ _ _ _ => trivial) ?x2 ?x3
          case x2 =>
            rintro i' x S8' S8 hi' ⟨zs, hD, hz, g8⟩ ⟨rfl, rfl⟩
            show gName 12 (V.int (0 + ((i' : Nat) : Int))) _ _ _
            rw [Int.zero_add]
            refine ⟨rfl, tYes_i (iteT ⟨_, rfl, _, rfl, by show 2 ≤ sizeLine; decide, fun t nt => ?_⟩)⟩
            have k9 : Gr S8 (upd S8 t (.tup [.int (j : Nat), .int ((i' : Nat) : Int)])) := Gr.new nt
            have e9 : upd S8 t (.tup [.int (j : Nat), .int ((i' : Nat) : Int)]) t = some (.tup [.int (j : Nat), .int ((i' : Nat) : Int)]) := upd_same
            have hD9 := k9.lst hD
            have hz9 := k9.kd.dpA hz
            generalize upd S8 t (.tup [.int (j : Nat), .int ((i' : Nat) : Int)]) = S9 at k9 e9 hD9 hz9 ⊢
            have lz : zs.length = i' := by
              have := dpA_len hz
              rw [List.length_map, List.length_range] at this
              exact this
            refine ⟨zs, hD9, SfC.small1000 (by omega), zs ++ [.ref t], upd_same, ?_, (g8.trans k9).upd_new nD⟩
            rw [List.range_succ, List.map_append]
            exact Kt.dpA (kt_lst hD9) (dpA_app hz9 (.cons (.tup (.inl (.inl e9)) (.cons (.int _) (.cons (.int _) .nil))) .nil)) (by rw [← List.map_append]; exact noLA_map _ (fun _ => noL_sp _) _)
          case x3 =>
          rintro S8 ⟨zs, hD, hz, g8⟩
          rw [show (((fds f shs kn : Nat) : Int)).toNat = fds f shs kn by omega] at hz
          have lz : zs.length = fds f shs kn := by
            have := dpA_len hz
            rw [List.length_map, List.length_range] at this
            exact this
          have es8 := g8.lst es6
          refine ⟨sl, D, xs, zs, rfl, rfl, es8, hD, Nat.le_of_lt (SfC.small1000 (by omega)), _, _, _, xs ++ zs, ps ++ (List.range (fds f shs kn)).map (fun x => (j, x)), rfl, upd_same, ?_, ?_, ?_, (g6.trans g8).upd_new nsl⟩
          · rw [List.map_append, List.map_map]
            exact Kt.dpA (kt_lst es8) (dpA_app (g8.kd.dpA dx6) hz) (by rw [← List.map_map, ← List.map_append]; exact noLA_map _ noL_sp _)
          · rw [List.length_append, List.length_map, List.length_range]
            omega
          · intro p hp
            rcases List.mem_append.mp hp with h | h
            · exact okp p h
            · obtain ⟨x, hx, rfl⟩ := List.mem_map.mp h
              exact ⟨kn, hkn, List.mem_range.mp hx⟩
        have gg : G2 m r H3 S6 := g.trans (G2.gr g6)
        have hpf6 := g6.sqt hpfS
        have hph6 := hphS.gr g6
        refine ⟨_, rfl, _, rfl, pf, _, 0, _, rfl, rfl, hpf6, rfl, ph, _, rfl, .inr hph6.sqt, flat_kn kn, SfC.flat_strs f.hd, _, rfl, ?_⟩
        rw [show (if false = true then !inV kn.v (f.hd.map V.str) else inV kn.v (f.hd.map V.str)) = kn.isH from inV_kn gkn]
        cases hk : kn with
        | p n =>
          subst hk
          exact iteF (hF _ _ ⟨rfl, rfl⟩)
        | h s =>
          obtain ⟨jj, psh, bv, f1, f2, f3, f4, f5⟩ := fld S6 gg kn gkn s hk
          subst hk
          refine iteT ⟨_, rfl, _, rfl, pf, _, 0, _, rfl, rfl, hpf6, rfl, ph, f.hd, rfl, hph6, _, rfl, s, jj, rfl, hph6, f1, f2, sp, _, _, _, rfl, rfl, g6.sqt hspS, atI_nat f3, psh, _, rfl, .inr f4, hF _ _ ⟨?_, rfl⟩⟩
          rw [f5]
          rfl
      case w3 =>
      rintro σ S2 ⟨z4, z10, z11, xs, ps, rfl, es, dxs, lp, okp, g2⟩
      rw [List.length_map] at lp
      have ltk := ge.len
      have gg : G2 m r H3 S2 := g.trans (G2.gr g2)
      have hpf6 := g2.sqt hpfS
      have hph6 := hphS.gr g2
      have fle := fds_le hl hg ge.gv
      dsimp only
      refine seq_end (fun σ S => σ = [some (.ref m), some (.ref pf), some (.ref sm), some (.ref sp), z4, some (.ref bl), some (.str e.nm), some (.ref pt), some e.gv.v, some (.ref sl), z10, z11, none, some (.int ((fds f shs e.gv : Nat) : Int))] ∧ S2 = S) ?bod (fun hF => seq_go ?_)
      case bod =>
        rintro σ S7 ⟨rfl, rfl⟩
        have dS2 := d.gr g2
        refine ⟨_, rfl, .inl ⟨rfl, _, .inl (.inl (g2.lst eb))⟩, _, rfl, _, rfl, _, rfl, m, r, sl, a, cs, _, ps, e.tk.map (fds f shs), fds f shs e.gv, 1, rfl, dS2, ?_, ⟨⟨xs, es, dxs⟩, nsl1, nsl2⟩, by omega, ?_, fle.1, fle.2, by decide, by decide, fun S9 v b g9 d9 dv ob' db' pb' => ?_⟩
        · show B + 4 + (i : Int) * 140 + 140 ≤ 800000
          omega
        · intro p hp
          obtain ⟨k, h1, h2⟩ := okp p hp
          exact ⟨fds f shs k, by rw [List.getElem?_map, h1]; rfl, h2⟩
        have gS9 : G2 m r S S9 := (G2.gr g2).trans g9
        have eb9 := gS9.lst nb1 nb2 eb
        have lbv : bvs.length = i := by
          have := dpA_len db
          rw [List.length_map, lb] at this
          exact this
        have d9 : Dr K S9 m r a cs (B + 4 + (i : Int) * 140 + 140) := d9
        refine ⟨bl, _, _, rfl, rfl, eb9, SfC.small1000 (by omega), _, _, _, _, _, _, _, _, bvs ++ [v], bds ++ [b], rfl, upd_same, ?_, ?_, ?_, (g.trans gS9).upd_new nbl, (d9.upd nb1 nb2 ob).mono (by omega)⟩
        · rw [List.map_append]
          exact Kt.dpA (kt_lst eb9) (dpA_app (Kt.dpA (d.kt gS9) db (noLA_map _ noL_bd _)) (.cons dv .nil)) (by rw [← List.map_append]; exact noLA_map _ noL_bd _)
        · rw [List.length_append, lb]
          rfl
        · intro j e' b' he' hb'
          by_cases c : j < bds.length
          · rw [List.getElem?_append_left c] at hb'
            exact gb j e' b' he' hb'
          · have hj : j = i := by
              have := lt_of_at hb'
              rw [List.length_append] at this
              simp at this
              omega
            subst hj
            rw [List.getElem?_append_right (by omega), lb, Nat.sub_self] at hb'
            cases hb'
            rw [he] at he'
            cases he'
            have q1 : dbQ 1 = 5 := rfl
            have q2 : pbQ 1 = 33 := rfl
            exact ⟨ob', by omega, by omega⟩
      refine ⟨_, rfl, _, rfl, pf, _, 0, _, rfl, rfl, hpf6, rfl, ph, _, rfl, .inr hph6.sqt, flat_kn e.gv, SfC.flat_strs f.hd, _, rfl, ?_⟩
      rw [show (if false = true then !inV e.gv.v (f.hd.map V.str) else inV e.gv.v (f.hd.map V.str)) = e.gv.isH from inV_kn ge.gv]
      have hgv := ge.gv
      have fldv := fld S2 gg e.gv ge.gv
      generalize e.gv = kn at hgv fldv hF ⊢
      cases kn with
      | p n => exact iteF (hF _ _ ⟨rfl, rfl⟩)
      | h s =>
        obtain ⟨jj, psh, bv, f1, f2, f3, f4, f5⟩ := fldv s rfl
        refine iteT ⟨_, rfl, _, rfl, pf, _, 0, _, rfl, rfl, hpf6, rfl, ph, f.hd, rfl, hph6, _, rfl, s, jj, rfl, hph6, f1, f2, sp, _, _, _, rfl, rfl, g2.sqt hspS, atI_nat f3, psh, _, rfl, .inr f4, hF _ _ ⟨?_, rfl⟩⟩
        rw [f5]
        rfl
end
end SfM
namespace SfM
open PySem PySem.Spec PyProof.Rows L2 SfG SfC
/-! ### a user gone through -/
abbrev nOut : List Str := ["face", "making", "user", "given", "name", "handed", "number", "takes", "things", "kind", "thing", "told"]
theorem scOutOf : FnScope nOut ["face", "making", "user"] (defScope sOutOf) := ⟨rfl, rfl, rfl, by decide +kernel, rfl, by decide +kernel, by decide +kernel⟩
theorem scOutc : FnScope ["face", "making", "user"] ["face", "making", "user"] (defScope sOutc) := ⟨rfl, rfl, rfl, by decide +kernel, rfl, by decide +kernel, by decide +kernel⟩
theorem at_neg {α : Type} {xs : List α} {i : Nat} {v : α} (hl : xs.length = i + 1) (h : xs[i]? = some v) : atI xs (-1) = some v := by
  have hx : xs = xs.take i ++ [v] := by
    have e : xs.take (i + 1) = xs.take i ++ [v] := by rw [List.take_add_one, h]; rfl
    rw [List.take_of_length_le (by omega)] at e
    exact e
  rw [hx]
  exact atI_last _ v
theorem noL_gv (g : Gv) : noL g.d = true := by
  cases g with
  | wth l =>
    rw [Gv.d, noL]
    exact noLA_map _ (fun _ => by rw [noL]) l
  | num n => rw [Gv.d, noL]
/-- the thing that is handed for a kind -/
def thG (gs : List Gv) : Kn → Nat → Gv
  | .p _, h => .num ((h : Nat) : Int)
  | .h _, h => gs.getD h (.num 0)
def thL (gs : List Gv) (r : Ur) : List Gv := List.zipWith (thG gs) r.e.tk r.hs
/-- a deed's place, its body -/
def plD (f : Fc) (e : De) : Nat := posS (f.ds.map De.nm) e.nm
def bOf (f : Fc) (k : Mk) (e : De) : Bd := k.bds.getD (plD f e) .ref
theorem pl_at {f : Fc} (go : goF f) {e : De} (h : e ∈ f.ds) : f.ds[plD f e]? = some e := by
  obtain ⟨j, hj⟩ := List.mem_iff_getElem?.mp h
  have hn : (f.ds.map De.nm)[j]? = some e.nm := by rw [List.getElem?_map, hj]; rfl
  have : plD f e = j := pos_eq go.up hn
  rw [this]
  exact hj
theorem b_at {f : Fc} {k : Mk} (go : goF f) (gm : goM f k) {e : De} (h : e ∈ f.ds) : k.bds[plD f e]? = some (bOf f k e) := by
  have h1 := lt_of_at (pl_at go h)
  have h2 : k.bds[plD f e]? = some (k.bds[plD f e]'(by have := gm.lb; omega)) := List.getElem?_eq_getElem _
  unfold bOf
  rw [List.getD_eq_getElem?_getD, h2]
  rfl
def stepU (f : Fc) (k : Mk) (gs : List Gv) (r : Ur) : Option Gv := dnB f k.shs r.e (bOf f k r.e) ((thL gs r).map Gv.fs)
def runU (f : Fc) (k : Mk) : List Ur → List Gv → Option (List Gv)
  | [], gs => some gs
  | r :: u, gs => match stepU f k gs r with
    | none => none
    | some g => runU f k u (gs ++ [g])
def outU (f : Fc) (k : Mk) (u : List Ur) : Option Gv := match runU f k u [] with
  | none => none
  | some gs => gs.getLast?
/-- what the rows gave fits the kinds that they give -/
def TyU (f : Fc) (k : Mk) (u : List Ur) (gs : List Gv) : Prop := ∀ (j : Nat) (r : Ur) (g : Gv), u[j]? = some r → gs[j]? = some g → mtG f k.shs r.e.gv g
theorem small51 {n : Nat} (h : n < 1000) : ((n : Nat) : Int).natAbs < 2 ^ 51 := by
  have p51 : (2 : Nat) ^ 51 = 2251799813685248 := by decide
  rw [p51]
  omega
theorem th_mt {f : Fc} {k : Mk} {u : List Ur} (go : goF f) (gu : GoU f u) {i : Nat} {r : Ur} (hr : u[i]? = some r) {gs : List Gv} (hl : gs.length = i) (ty : TyU f k u gs) : MtL f k.shs r.e.tk (thL gs r) := by
  obtain ⟨hm, fit⟩ := gu.ok i r hr
  have ge := go.ok _ hm
  have ll := fit.len
  refine ⟨by unfold thL; rw [List.length_zipWith]; omega, fun j kn g hk hg => ?_⟩
  obtain ⟨h, hh, ok⟩ := fit.at hk
  unfold thL at hg
  rw [List.getElem?_zipWith, hk, hh] at hg
  have hg' := Option.some.inj hg
  subst hg'
  cases kn with
  | p n =>
    have o : (h : Int) < n := ok
    obtain ⟨_, h9⟩ := ge.tk _ (List.mem_of_getElem? hk)
    exact small51 (by omega)
  | h s =>
    have o : ((gvs u).take i)[h]? = some (.h s) := ok
    have hlt : h < i := by
      have := lt_of_at o
      rw [List.length_take] at this
      omega
    rw [List.getElem?_take_of_lt hlt] at o
    unfold gvs at o
    rw [List.getElem?_map] at o
    obtain ⟨r', hr', e'⟩ := Option.map_eq_some_iff.mp o
    have hgs : gs[h]? = some (gs[h]'(by omega)) := List.getElem?_eq_getElem _
    have := ty h r' _ hr' hgs
    rw [e'] at this
    show mtG f k.shs (.h s) (gs.getD h (.num 0))
    rw [List.getD_eq_getElem?_getD, hgs]
    exact this
theorem step_ty {f : Fc} {k : Mk} {u : List Ur} (go : goF f) (gm : goM f k) (gu : GoU f u) {i : Nat} {r : Ur} (hr : u[i]? = some r) {gs : List Gv} (hl : gs.length = i) (ty : TyU f k u gs) {g : Gv} (hs : stepU f k gs r = some g) : TyU f k u (gs ++ [g]) := by
  intro j r' g' hr' hg'
  by_cases c : j < gs.length
  · rw [List.getElem?_append_left c] at hg'
    exact ty j r' g' hr' hg'
  · have hj : j = i := by
      have := lt_of_at hg'
      rw [List.length_append] at this
      simp at this
      omega
    subst hj
    rw [hr] at hr'
    cases hr'
    rw [List.getElem?_append_right (by omega), hl, Nat.sub_self] at hg'
    cases hg'
    have hm := (gu.ok _ _ hr).1
    exact dn_mt go gm (pl_at go hm) (b_at go gm hm) hs
section
variable {P : Program} {w : World} {K : PySem.W.Frag} {mg : Str → Option Value} {base : Heap}
def spDoneR (K : PySem.W.Frag) : Sp := fun vs H Q _ => ∃ (x y z : V) (f : Fc) (k : Mk) (i : Nat) (e : De) (b : Bd) (gs : List Gv), vs = [x, y, .int (i : Nat), z] ∧ Fz K H x f ∧ Dp K H y k.d ∧ goF f ∧ goM f k ∧ f.ds[i]? = some e ∧ k.bds[i]? = some b ∧ Dp K H z (.tuple (gs.map Gv.d)) ∧ MtL f k.shs e.tk gs ∧
  ∀ H' v, Gr H H' → Dp K H' v (gvO (dnB f k.shs e b (gs.map Gv.fs))) → Q v H'
set_option maxHeartbeats 2000000 in
theorem ok_doneR {f fG : Addr} {fd fdG : FuncData} {k : Nat} (F : Fun K "done_rightly" "done_rightly" sDoneR f fd) (HG : Has P w K mg base k "given_of_kind" ["face", "making", "number", "fields"] (spGivK K) fG fdG)
    (mi : mg "isinstance" = none) (ms : mg "str" = none) (mz : mg "zip" = none) : FnOk P w K mg base CX0 (k + 1) f fd ["face", "making", "number", "handed"] (spDoneR K) := by
  refine F.ok scDoneR (fun vs H Q E h => ?_) (fun cdv A outer s H vs Q E hr h => ?_)
  · obtain ⟨x, y, z, f, k, i, e, b, gs, rfl, _⟩ := h
    rfl
  · obtain ⟨x, y, z, f, k, i, e, b, gs, rfl, hx, hy, go, gm, he, hb, hz, mt, q⟩ := h
    have nd := scDoneR.nd
    refine' ⟨_, pss_cons ?s1 (pss_cons ?s2 (pss_one ?s3)), ?rd⟩
    case s1 => exact ps_set (i := 4) nd rfl (.inl rfl) (pe_ix ix_tup (pe_ix ix_tup (pe_ix ix_tup (pv 0) pe_int (fun _ _ => rfl)) (pv 2) (fun _ _ => rfl)) pe_int (fun _ _ => rfl))
    case s2 =>
      exact ps_setLc (i := 5) (own := [("kind", 6), ("thing", 7)]) (g := gTup K 2 (gCons (gName 6) (gCons (gName 7) gNil))) rfl nd rfl rfl (sw_true rfl rfl rfl (by decide +kernel)) (RZ.pi_zipA (by rfl) mz (pa_cons (pv 4) (pa_cons (pv 3) pa_nil)))
        (blkOk_by (own := [("kind", 6), ("thing", 7)]) (N := nDR) (sc := defScope sDoneR) (by decide +kernel)) (fun _ _ _ _ _ => pg_tup rfl (pgs_cons (pg_name (i := 6) nd rfl (.inl rfl)) (pgs_cons (pg_name (i := 7) nd rfl (.inl rfl)) pgs_nil))) (fun _ _ _ _ _ => pts_nil)
        (fun _ _ _ _ _ => pe_ifExp (pt_val (t := tIsi "str" K 6) (pe_isi "str" 6 mi ms (by decide +kernel))) (pv 7) (pe_tup (pa_cons (pv 7) pa_nil)))
    case s3 => exact ps_ret (hcall HG hr (pa_cons (pv 0) (pa_cons (pv 1) (pa_cons (pv 2) (pa_cons (pv 5) pa_nil)))))
    case rd =>
    obtain ⟨pf, ph, pd, fxs, rfl, hpf, hph, hpd, dd⟩ := id hx
    obtain ⟨xe, hxe, dxe⟩ := dpA_map dd he
    obtain ⟨pe, n1, t1, v1, rfl, hpe, dn, dt, dg⟩ := dp_3 dxe
    obtain ⟨pt, ts, rfl, hpt, hts⟩ := dp_tup dt
    cases dpA_kns hts
    obtain ⟨pz, zs, rfl, hpz, hzs⟩ := dp_tup hz
    have lz : zs.length = gs.length := by
      have := dpA_len hzs
      rw [List.length_map] at this
      exact this
    have lg := mt.len
    have ge := go.ok e (List.mem_of_getElem? he)
    refine ⟨_, rfl, pf, _, 1, _, rfl, rfl, hpf, rfl, _, rfl, pd, _, _, _, rfl, rfl, hpd, atI_nat hxe, pe, _, 1, _, rfl, rfl, hpe, rfl, ?_⟩
    refine ⟨_, rfl, _, rfl, pt, pz, e.tk.map Kn.v, zs, rfl, .inr ⟨hpt, hpz, fun D nD => ?_⟩⟩
    refine lc_it (walk_zipT (xs := e.tk.map Kn.v) (ys := zs) (by rw [List.length_map]; omega)) (fun j S => ∃ xs, S D = some (.lst xs) ∧ DpAll K S xs ((gs.take j).map fun g => .tuple (g.fs.map .int)) ∧ Gr H S) ⟨[], upd_same, .nil, Gr.new nD⟩ ?c0 ?c1 ?c2
    case c0 =>
      rintro j S hj ⟨_, _, _, g⟩
      exact ⟨g.sqt hpt, g.sqt hpz⟩
    case c1 =>
      rintro j v S S' hj ⟨xs, eD, dxs, g⟩ ⟨T, a, c, rfl, nT, rfl, ha, hc⟩
      replace ha : (e.tk.map Kn.v)[j]? = some a := ha
      rw [List.getElem?_map] at ha
      obtain ⟨kn, hkn, rfl⟩ := Option.map_eq_some_iff.mp ha
      have jg : j < gs.length := by have := lt_of_at hkn; omega
      have hgj : gs[j]? = some gs[j] := List.getElem?_eq_getElem jg
      generalize gs[j] = gv at hgj
      obtain ⟨c', hc', dc⟩ := dpA_map hzs hgj
      have : c = c' := Option.some.inj (hc.symm.trans hc')
      subst this
      have hmt := mt.at_ j kn gv hkn hgj
      have g2 : Gr H (upd S T (.tup [kn.v, c])) := g.trans (Gr.new nT)
      have hT : upd S T (.tup [kn.v, c]) T = some (.tup [kn.v, c]) := upd_same
      have k2 : Gr S (upd S T (.tup [kn.v, c])) := Gr.new nT
      have eD2 := k2.lst eD
      have dx2 := k2.kd.dpA dxs
      generalize upd S T (.tup [kn.v, c]) = S2 at g2 hT k2 eD2 dx2 ⊢
      have lx : xs.length = j := by
        have := dpA_len dxs
        rw [List.length_map, List.length_take] at this
        omega
      have fin : ∀ (S3 : Hp) (y : V), Gr S2 S3 → Dp K S3 y (.tuple (gv.fs.map .int)) → ∃ acc, S3 D = some (.lst acc) ∧ acc.length < sizeLine ∧ ∃ xs', upd S3 D (.lst (acc ++ [y])) D = some (.lst xs') ∧ DpAll K (upd S3 D (.lst (acc ++ [y]))) xs' ((gs.take (j + 1)).map fun g => .tuple (g.fs.map .int)) ∧ Gr H (upd S3 D (.lst (acc ++ [y]))) := by
        intro S3 y g3 dy
        have eD3 := g3.lst eD2
        refine ⟨xs, eD3, SfC.small1000 (by have := ge.len; omega), xs ++ [y], upd_same, ?_, (g2.trans g3).upd_new nD⟩
        have nl : ∀ g : Gv, noL (.tuple (g.fs.map .int)) = true := fun g => by rw [noL]; exact noLA_map _ (fun _ => by rw [noL]) _
        rw [List.take_add_one, hgj, List.map_append]
        exact Kt.dpA (kt_lst eD3) (dpA_app (g3.kd.dpA dx2) (.cons dy .nil)) (by rw [← List.map_append]; exact noLA_map _ nl _)
      refine ⟨T, [kn.v, c], rfl, .inl (.inl hT), rfl, kn.v, [c], rfl, c, [], rfl, rfl, ?_⟩
      refine ⟨rfl, tYes_i (iteT ?_)⟩
      cases kn with
      | h s =>
        cases gv with
        | num n => exact hmt.elim
        | wth l => exact ⟨_, rfl, "str", true, (is_str s).1, by decide +kernel, _, rfl, iteT ⟨_, rfl, fin S2 c (Gr.refl S2) (g2.kd.dp dc)⟩⟩
      | p n =>
        cases gv with
        | wth l => exact hmt.elim
        | num m =>
          cases dp_int dc
          exact ⟨_, rfl, "int", false, (is_int n).1, by decide +kernel, _, rfl, iteF ⟨_, rfl, by show 1 ≤ sizeLine; decide, fun t nt => fin _ (.ref t) (Gr.new nt) (.tup (.inl (.inl upd_same)) (.cons (.int _) .nil))⟩⟩
    case c2 =>
    rintro S ⟨xs, eD, dxs, g⟩
    rw [List.length_map, ← lg, List.take_length] at dxs
    refine ⟨_, rfl, _, rfl, _, rfl, _, rfl, _, _, _, f, k, i, e, b, gs.map Gv.fs, rfl, hx.gr g, g.kd.dp hy, go, gm, he, hb, ?_, mt.fit, fun H' v g' => q H' v (g.trans g')⟩
    show Dp K S (.ref D) (.list ((gs.map Gv.fs).map fun l => .tuple (l.map .int)))
    rw [List.map_map]
    exact .lst (.inl (.inl eD)) dxs
end
end SfM
namespace SfM
open PySem PySem.Spec PyProof.Rows L2 SfG SfC
/-! ### the law's own reckoning -/
abbrev nReckd : List Str := ["_law_e", "_law_things", "_law_word", "_law_thing", "_law_one", "_law_other"]
theorem scReckd : FnScope nReckd ["_law_e", "_law_things"] (defScope sReckd) := ⟨rfl, rfl, rfl, by decide +kernel, rfl, by decide +kernel, by decide +kernel⟩
def gsL (gs : List Gv) : PyData := .list (gs.map Gv.d)
theorem opw_ne2 (w : Nat) (hw : w ≤ 4) : decide (V.str (opw w) = V.str "times") = decide (w = 2) ∧ decide (V.str (opw w) = V.str "same") = decide (w = 3) ∧ decide (V.str (opw w) = V.str "plus") = decide (w = 0) ∧ inV (V.str (opw w)) [.str "same", .str "under"] = decide (w = 3 ∨ w = 4) := by
  have : w = 0 ∨ w = 1 ∨ w = 2 ∨ w = 3 ∨ w = 4 := by omega
  rcases this with rfl | rfl | rfl | rfl | rfl <;> decide +kernel
section
variable {P : Program} {w : World} {K : PySem.W.Frag} {mg : Str → Option Value} {base : Heap}
def spReckd (K : PySem.W.Frag) (n : Nat) : Sp := fun vs H Q _ => ∃ (e f : V) (E : Ex) (cs : List Nat) (gs : List Gv), vs = [e, f] ∧ Dp K H e E.d ∧ Dp K H f (gsL gs) ∧ okE cs E ∧ Fit cs (gs.map Gv.fs) ∧ dep E ≤ n ∧ 51 * lvs E ≤ 90000 ∧ ∀ H', Gr H H' → Q (.int (ev (gs.map Gv.fs) E)) H'
set_option maxHeartbeats 4000000 in
theorem ok_reckd {f : Addr} {fd : FuncData} (F : Fun K "_law_reckoned" "_law_reckoned" sReckd f fd) (bV : Binds K fd ["_law_e", "_law_things"] []) (gV : mg "_law_reckoned" = some (.ref f)) (mi : mg "isinstance" = none) (mt : mg "tuple" = none) (mn : mg "int" = none) :
    ∀ n, FnOk P w K mg base CX0 (n + 1) f fd ["_law_e", "_law_things"] (spReckd K n)
  | 0 => by
    refine F.ok scReckd (fun vs H Q E h => ?_) (fun cdv A outer s H vs Q E hr h => ?_)
    · obtain ⟨e, g, E', cs, gs, rfl, _⟩ := h
      rfl
    · obtain ⟨e, g, E', cs, gs, rfl, _, _, _, _, hd, _⟩ := h
      have := dep_pos E'
      omega
  | n + 1 => by
    have GV := ok_reckd F bV gV mi mt mn n
    refine F.ok scReckd (fun vs H Q E h => ?_) (fun cdv A outer s H vs Q E hr h => ?_)
    · obtain ⟨e, g, E', cs, gs, rfl, _⟩ := h
      rfl
    · obtain ⟨e, g, E', cs, gs, rfl, he, hg, ho, hF, hd, hl, q⟩ := h
      have nd := scReckd.nd
      refine' ⟨_, pss_cons ?s1 (pss_cons ?s2 (pss_cons ?s3 (pss_cons ?s4 (pss_cons ?s5 (pss_cons ?s6 (pss_cons ?s7 (pss_cons ?s8 (pss_cons ?s9 (pss_one ?s10))))))))), ?rd⟩
      case s1 => exact ps_set (i := 2) nd rfl (.inl rfl) (pe_ix ix_tup (pv 0) pe_int (fun _ _ => rfl))
      case s2 => exact ps_if (pt_cmpR op_eq (pv 2) pe_str (nomark _)) (pss_one (ps_ret (pe_ix ix_tup (pv 0) pe_int (fun _ _ => rfl)))) pss_nil
      case s3 =>
        exact ps_if (pt_cmpR op_eq (pv 2) pe_str (nomark _)) (pss_cons (ps_set (i := 3) nd rfl (.inl rfl) (pe_ix ix_list (pv 1) (pe_ix ix_tup (pv 0) pe_int (fun _ _ => rfl)) (fun _ _ => rfl)))
          (pss_one (ps_ret (pe_ifExp (pt_val (pe_isi "tuple" 3 mi mt (by decide +kernel))) (pe_ix ix_tup (pv 3) (pe_ix ix_tup (pv 0) pe_int (fun _ _ => rfl)) (fun _ _ => rfl)) (pv 3))))) pss_nil
      case s4 =>
        exact ps_if (pt_cmpR op_eq (pv 2) pe_str (nomark _)) (pss_one (ps_ret (pe_call GV hr (by rfl) gV F.kp bV .nil pass0 (pa_cons (pe_ix ix_tup (pv 0) (pe_ifExp (pt_cmpR op_ne (pe_call GV hr (by rfl) gV F.kp bV .nil pass0 (pa_cons (pe_ix ix_tup (pv 0) pe_int (fun _ _ => rfl)) (pa_cons (pv 1) pa_nil))) pe_int (nomark _)) pe_int pe_int) (fun _ _ => rfl)) (pa_cons (pv 1) pa_nil))))) pss_nil
      case s5 => exact ps_set (i := 4) nd rfl (.inl rfl) (pe_call GV hr (by rfl) gV F.kp bV .nil pass0 (pa_cons (pe_ix ix_tup (pv 0) pe_int (fun _ _ => rfl)) (pa_cons (pv 1) pa_nil)))
      case s6 => exact ps_if (pt_cmpR op_eq (pv 2) pe_str (nomark _)) (pss_one (ps_ret (pe_op op_mod (pv 4) (pe_ix ix_tup (pv 0) pe_int (fun _ _ => rfl))))) pss_nil
      case s7 => exact ps_set (i := 5) nd rfl (.inl rfl) (pe_call GV hr (by rfl) gV F.kp bV .nil pass0 (pa_cons (pe_ix ix_tup (pv 0) pe_int (fun _ _ => rfl)) (pa_cons (pv 1) pa_nil)))
      case s8 => exact ps_if (pt_cmpR op_eq (pv 2) pe_str (nomark _)) (pss_one (ps_ret (pe_op op_mulW (pv 4) (pv 5)))) pss_nil
      case s9 =>
        exact ps_if (pt_cmpR op_in_seq (pv 2) (pe_tup (pa_cons pe_str (pa_cons pe_str pa_nil))) rfl) (pss_one (ps_ret (pe_ifExp (pt_cmpR op_eq (pv 2) pe_str (nomark _))
          (pe_callTy call_int1 (by rfl) mn (by decide +kernel) (pa_cons (pe_cmpR op_eq (pv 4) (pv 5) (nomark _)) pa_nil)) (pe_callTy call_int1 (by rfl) mn (by decide +kernel) (pa_cons (pe_cmpR op_lt (pv 4) (pv 5) (nomark _)) pa_nil))))) pss_nil
      case s10 => exact ps_ret (pe_ifExp (pt_cmpR op_eq (pv 2) pe_str (nomark _)) (pe_op op_add (pv 4) (pv 5)) (pe_op op_sub (pv 4) (pv 5)))
      case rd =>
      cases E' with
      | num m =>
        obtain ⟨p, x, y, rfl, hp, hx, hy⟩ := dp_2 he
        cases dp_str hx
        cases dp_int hy
        refine ⟨_, rfl, p, _, 0, _, rfl, rfl, hp, rfl, ?_⟩
        exact ⟨_, rfl, rfl, _, rfl, iteT ⟨_, rfl, p, _, 1, _, rfl, rfl, hp, rfl, q H (Gr.refl H)⟩⟩
      | inp k j =>
        obtain ⟨p, x, y, z, rfl, hp, hx, hy, hz⟩ := dp_3 he
        cases dp_str hx
        cases dp_int hy
        cases dp_int hz
        obtain ⟨c, hk, hj⟩ := ho
        obtain ⟨l, u, el, eu, ef, _⟩ := hF.at hk hj
        rw [List.getElem?_map] at el
        obtain ⟨gv, hgv, rfl⟩ := Option.map_eq_some_iff.mp el
        obtain ⟨pf, xs, rfl, hpf, hxs⟩ := dp_lst hg
        obtain ⟨vl, evl, dvl⟩ := dpA_map hxs hgv
        have q' := q H (Gr.refl H)
        change Q (.int (fld (gs.map Gv.fs) k j)) H at q'
        rw [ef] at q'
        refine ⟨_, rfl, p, _, 0, _, rfl, rfl, hp, rfl, ?_⟩
        refine ⟨_, rfl, rfl, _, rfl, iteF ⟨_, rfl, rfl, _, rfl, iteT ⟨_, rfl, _, rfl, p, _, 1, _, rfl, rfl, hp, rfl, pf, _, k, _, rfl, rfl, hpf, atI_nat evl, ?_⟩⟩⟩
        cases gv with
        | wth l =>
          obtain ⟨pl, ys, rfl, hpl, hys⟩ := dp_tup dvl
          obtain ⟨vu, evu, dvu⟩ := dpA_get (i := j) (d := .int u) hys (by rw [List.getElem?_map, show l[j]? = some u from eu]; rfl)
          cases dp_int dvu
          exact ⟨_, rfl, "tuple", true, tyx_tup hpl, by decide +kernel, _, rfl, iteT ⟨_, rfl, _, rfl, p, _, 2, _, rfl, rfl, hp, rfl, pl, _, j, _, rfl, rfl, hpl, atI_nat evu, q'⟩⟩
        | num v =>
          cases dp_int dvl
          have hu : v = u := by
            have e1 : ([v] : List Int)[j]? = some u := eu
            have j0 : j = 0 := by
              have := lt_of_at e1
              simp at this
              omega
            rw [j0] at e1
            exact Option.some.inj e1
          rw [hu]
          exact ⟨_, rfl, "int", false, (is_int u).1, by decide +kernel, _, rfl, iteF ⟨_, rfl, q'⟩⟩
      | bin wd a b =>
        obtain ⟨p, x, y, z, rfl, hp, hx, hy, hz⟩ := dp_3 he
        cases dp_str hx
        obtain ⟨n1, n2, n3, n4⟩ := opw_ne wd
        simp only [dep] at hd
        simp only [lvs] at hl
        have pa := lvs_pos a
        have pb := lvs_pos b
        have sa := Nat.lt_of_lt_of_le (ev_small hF a ho.2.1) (Nat.pow_le_pow_right (by decide) (show 51 * lvs a ≤ 100000 by omega))
        have sb := Nat.lt_of_lt_of_le (ev_small hF b ho.2.2) (Nat.pow_le_pow_right (by decide) (show 51 * lvs b ≤ 100000 by omega))
        refine ⟨_, rfl, p, _, 0, _, rfl, rfl, hp, rfl, ?_⟩
        refine ⟨_, rfl, rfl, _, rfl, ?_⟩
        rw [decide_eq_false n1]
        refine iteF ⟨_, rfl, rfl, _, rfl, ?_⟩
        rw [decide_eq_false n2]
        refine iteF ⟨_, rfl, rfl, _, rfl, ?_⟩
        rw [decide_eq_false n4]
        refine iteF ⟨_, rfl, p, _, 1, _, rfl, rfl, hp, rfl, _, rfl, _, _, a, cs, gs, rfl, hy, hg, ho.2.1, hF, by omega, by omega, fun H1 g1 => ?_⟩
        have hp1 := g1.sqt hp
        refine ⟨_, rfl, rfl, _, rfl, ?_⟩
        rw [decide_eq_false n3]
        refine iteF ⟨_, rfl, p, _, 2, _, rfl, rfl, hp1, rfl, _, rfl, _, _, b, cs, gs, rfl, g1.kd.dp hz, g1.kd.dp hg, ho.2.2, hF, by omega, by omega, fun H2 g2 => ?_⟩
        have g02 := g1.trans g2
        have q0 : ∀ H', Gr H H' → Q (.int (op2 wd (ev (gs.map Gv.fs) a) (ev (gs.map Gv.fs) b))) H' := q
        have hw := ho.1
        clear q n1 n2 n3 n4 ho hd hl hp1
        generalize ev (gs.map Gv.fs) a = x at sa q0 ⊢
        generalize ev (gs.map Gv.fs) b = y at sb q0 ⊢
        obtain ⟨w1, w2, w3, w4⟩ := opw_ne2 wd hw
        refine ⟨_, rfl, rfl, _, rfl, ?_⟩
        rw [w1]
        by_cases e2 : wd = 2
        · subst e2
          exact iteT ⟨_, rfl, _, rfl, x, y, rfl, rfl, wide_mul sa sb (by decide) (by decide) (by decide), q0 H2 g02⟩
        rw [decide_eq_false e2]
        refine iteF ⟨_, rfl, by show 2 ≤ sizeLine; decide, fun t nt => ?_⟩
        have k3 : Gr H2 (upd H2 t (.tup [.str "same", .str "under"])) := Gr.new nt
        have e3 : upd H2 t (.tup [.str "same", .str "under"]) t = some (.tup [.str "same", .str "under"]) := upd_same
        have g03 := g02.trans k3
        generalize upd H2 t (.tup [.str "same", .str "under"]) = H3 at k3 e3 g03 ⊢
        have q3 := q0 H3 g03
        refine ⟨t, _, rfl, .inr (.inl (.inl e3)), rfl, rfl, _, rfl, ?_⟩
        rw [show (if false = true then !inV (V.str (opw wd)) [.str "same", .str "under"] else inV (V.str (opw wd)) [.str "same", .str "under"]) = decide (wd = 3 ∨ wd = 4) from w4]
        by_cases e34 : wd = 3 ∨ wd = 4
        · rw [decide_eq_true e34]
          refine iteT ⟨_, rfl, rfl, _, rfl, ?_⟩
          rw [w2]
          rcases e34 with rfl | rfl
          · refine iteT ⟨_, rfl, _, rfl, rfl, .inr ⟨_, rfl, ?_⟩⟩
            have q' : Q (.int (if x = y then 1 else 0)) H3 := q3
            by_cases h : x = y
            · rw [if_pos h] at q'
              rw [h, decide_eq_true rfl]
              exact q'
            · rw [if_neg h] at q'
              rw [decide_eq_false (fun e => h (V.int.inj e))]
              exact q'
          · refine iteF ⟨_, rfl, _, rfl, x, y, rfl, rfl, .inr ⟨_, rfl, ?_⟩⟩
            have q' : Q (.int (if x < y then 1 else 0)) H3 := q3
            by_cases h : x < y
            · rw [if_pos h] at q'
              rw [decide_eq_true h]
              exact q'
            · rw [if_neg h] at q'
              rw [decide_eq_false h]
              exact q'
        · rw [decide_eq_false e34]
          refine iteF ⟨_, rfl, rfl, _, rfl, ?_⟩
          rw [w3]
          have c : wd = 0 ∨ wd = 1 := by omega
          rcases c with rfl | rfl
          · exact iteT ⟨_, rfl, _, rfl, x, y, rfl, rfl, q3⟩
          · exact iteF ⟨_, rfl, _, rfl, x, y, rfl, rfl, q3⟩
      | rst a m =>
        obtain ⟨p, x, y, z, rfl, hp, hx, hy, hz⟩ := dp_3 he
        cases dp_str hx
        cases dp_int hz
        simp only [dep] at hd
        simp only [lvs] at hl
        refine ⟨_, rfl, p, _, 0, _, rfl, rfl, hp, rfl, ?_⟩
        refine ⟨_, rfl, rfl, _, rfl, iteF ⟨_, rfl, rfl, _, rfl, iteF ⟨_, rfl, rfl, _, rfl, iteF ⟨_, rfl, p, _, 1, _, rfl, rfl, hp, rfl, _, rfl, _, _, a, cs, gs, rfl, hy, hg, ho.2.2, hF, by omega, by omega, fun H1 g1 => ?_⟩⟩⟩⟩
        refine ⟨_, rfl, rfl, _, rfl, iteT ⟨_, rfl, _, rfl, p, _, 2, _, rfl, rfl, g1.sqt hp, rfl, _, m, rfl, rfl, ?_, q H1 g1⟩⟩
        have := ho.1
        show 0 < m
        omega
      | iff a b c =>
        obtain ⟨p, x, y, z, u, rfl, hp, hx, hy, hz, hu⟩ := dp_4 he
        cases dp_str hx
        simp only [dep] at hd
        simp only [lvs] at hl
        refine ⟨_, rfl, p, _, 0, _, rfl, rfl, hp, rfl, ?_⟩
        refine ⟨_, rfl, rfl, _, rfl, iteF ⟨_, rfl, rfl, _, rfl, iteF ⟨_, rfl, rfl, _, rfl, iteT ⟨_, rfl, _, rfl, p, _, 1, _, rfl, rfl, hp, rfl, _, rfl, _, _, a, cs, gs, rfl, hy, hg, ho.1, hF, by omega, by omega, fun H1 g1 => ?_⟩⟩⟩⟩
        refine ⟨rfl, _, rfl, ?_⟩
        have hp1 := g1.sqt hp
        have q' : ∀ H', Gr H H' → Q (.int (if ev (gs.map Gv.fs) a ≠ 0 then ev (gs.map Gv.fs) b else ev (gs.map Gv.fs) c)) H' := q
        by_cases h : ev (gs.map Gv.fs) a = 0
        · rw [decide_eq_true (congrArg V.int h)]
          refine iteF ⟨p, _, 3, _, rfl, rfl, hp1, rfl, _, rfl, _, _, c, cs, gs, rfl, g1.kd.dp hu, g1.kd.dp hg, ho.2.2, hF, by omega, by omega, fun H2 g2 => ?_⟩
          have := q' H2 (g1.trans g2)
          rw [if_neg (by simpa using h)] at this
          exact this
        · rw [decide_eq_false (fun e => h (V.int.inj e))]
          refine iteT ⟨p, _, 2, _, rfl, rfl, hp1, rfl, _, rfl, _, _, b, cs, gs, rfl, g1.kd.dp hz, g1.kd.dp hg, ho.2.1, hF, by omega, by omega, fun H2 g2 => ?_⟩
          have := q' H2 (g1.trans g2)
          rw [if_pos h] at this
          exact this
end
end SfM
namespace SfM
open PySem PySem.Spec PyProof.Rows L2 SfG SfC
/-! ### the law's own doing of a deed -/
abbrev nLDone : List Str := ["_law_face_here", "_law_making_here", "_law_name", "_law_things", "_law_at", "_law_deed", "_law_body_here", "_law_gives", "_law_bounds", "_law_numbers", "_law_e", "_law_bound"]
theorem scLDone : FnScope nLDone ["_law_face_here", "_law_making_here", "_law_name", "_law_things"] (defScope sLDone) := ⟨rfl, rfl, rfl, by decide +kernel, rfl, by decide +kernel, by decide +kernel⟩
def modL (vals bz : List Int) : List Int := List.zipWith (fun v b => v % b) vals bz
theorem modL_out (vals : List Int) (sh : List Nat) : modL vals (sh.map fun n : Nat => ((n : Nat) : Int)) = outV sh vals := by
  unfold modL outV
  rw [List.zipWith_map_right]
section
variable {P : Program} {w : World} {K : PySem.W.Frag} {mg : Str → Option Value} {base : Heap}
def spLDone (K : PySem.W.Frag) : Sp := fun vs H Q _ => ∃ (x y z : V) (f : Fc) (k : Mk) (e : De) (gs : List Gv), vs = [x, y, .str e.nm, z] ∧ Fz K H x f ∧ Dp K H y k.d ∧ goF f ∧ goM f k ∧ e ∈ f.ds ∧ Dp K H z (gsL gs) ∧ MtL f k.shs e.tk gs ∧
  ∀ H' v, Gr H H' → Dp K H' v (gvO (dnB f k.shs e (bOf f k e) (gs.map Gv.fs))) → Q v H'
set_option maxHeartbeats 8000000 in
theorem ok_ldone {f fV : Addr} {fd fdV : FuncData} {k : Nat} (F : Fun K "_law_done" "_law_done" sLDone f fd) (HV : Has P w K mg base k "_law_reckoned" ["_law_e", "_law_things"] (spReckd K 8) fV fdV) (mt : mg "tuple" = none) (mz : mg "zip" = none) : FnOk P w K mg base CX0 (k + 1) f fd ["_law_face_here", "_law_making_here", "_law_name", "_law_things"] (spLDone K) := by
  refine F.ok scLDone (fun vs H Q E h => ?_) (fun cdv A outer s H vs Q E hr h => ?_)
  · obtain ⟨x, y, z, f, k, e, gs, rfl, _⟩ := h
    rfl
  · obtain ⟨x, y, z, f, k, e, gs, rfl, hx, hy, go, gm, he, hz, mtl, q⟩ := h
    have nd := scLDone.nd
    refine' ⟨_, pss_cons ?s1 (pss_cons ?s2 (pss_cons ?s3 (pss_cons ?s4 (pss_cons ?s5 (pss_cons ?s6 (pss_one ?s7)))))), ?rd⟩
    case s1 =>
      exact ps_set (i := 4) nd rfl (.inl rfl) (pe_bm PySem.F.plainAttrs_list PySem.F.slot_list_index PySem.F.type_list_index mt_index (pe_lc (own := [("_law_deed", 5)]) (g := gName 5) rfl nd (pi_tup (pe_ix ix_tup (pv 0) pe_int (fun _ _ => rfl)))
        (blkOk_by (own := [("_law_deed", 5)]) (N := nLDone) (sc := defScope sLDone) (by decide +kernel)) (fun _ _ _ _ _ => pg_name (i := 5) nd rfl (.inl rfl)) (fun _ _ _ _ _ => pts_nil) (fun _ _ _ _ _ => pe_ix (r := rIxT K) ix_tup (pv 5) pe_int (fun _ _ => rfl))) (pa_cons (pv 2) pa_nil))
    case s2 =>
      exact ps_par (i := 6) (j := 7) rfl nd rfl rfl (by decide) rfl rfl (pa_cons (pe_ix ix_tup (pe_ix ix_tup (pv 1) pe_int (fun _ _ => rfl)) (pv 4) (fun _ _ => rfl)) (pa_cons (pe_ix ix_tup (pe_ix ix_tup (pe_ix ix_tup (pv 0) pe_int (fun _ _ => rfl)) (pv 4) (fun _ _ => rfl)) pe_int (fun _ _ => rfl)) pa_nil)) (by rfl)
    case s3 =>
      exact ps_while PassesOwn.never (pt_cmpR op_eq (pe_ix ix_tup (pv 6) pe_int (fun _ _ => rfl)) pe_str (nomark _))
        (pss_one (ps_set (i := 6) nd rfl (.inl rfl) (pe_ix ix_tup (pv 6) (pe_ifExp (pt_cmpR op_ne (hcall HV hr (pa_cons (pe_ix ix_tup (pv 6) pe_int (fun _ _ => rfl)) (pa_cons (pv 3) pa_nil))) pe_int (nomark _)) pe_int pe_int) (fun _ _ => rfl))))
    case s4 => exact ps_if (pt_cmpR op_eq (pe_ix ix_tup (pv 6) pe_int (fun _ _ => rfl)) pe_str (nomark _)) (pss_one (ps_ret pe_non)) pss_nil
    case s5 =>
      exact ps_set (i := 8) nd rfl (.inl rfl) (pe_ifExp (pt_cmpR op_in_seq (pv 7) (pe_ix ix_tup (pv 0) pe_int (fun _ _ => rfl)) rfl)
        (pe_ix ix_tup (pe_ix ix_tup (pv 1) pe_int (fun _ _ => rfl)) (pe_tix (pe_ix ix_tup (pv 0) pe_int (fun _ _ => rfl)) (pa_cons (pv 7) pa_nil)) (fun _ _ => rfl)) (pe_tup (pa_cons (pv 7) pa_nil)))
    case s6 =>
      exact ps_set (i := 9) nd rfl (.inl rfl) (pe_callTy call_tuple_of (by rfl) mt (by decide +kernel) (pa_cons (pe_lc (own := [("_law_e", 10), ("_law_bound", 11)]) (g := gTup K 2 (gCons (gName 10) (gCons (gName 11) gNil))) rfl nd (RZ.pi_zipA (by rfl) mz (pa_cons (pe_ix ix_tup (pv 6) pe_int (fun _ _ => rfl)) (pa_cons (pv 8) pa_nil)))
        (blkOk_by (own := [("_law_e", 10), ("_law_bound", 11)]) (N := nLDone) (sc := defScope sLDone) (by decide +kernel)) (fun _ _ _ _ _ => pg_tup rfl (pgs_cons (pg_name (i := 10) nd rfl (.inl rfl)) (pgs_cons (pg_name (i := 11) nd rfl (.inl rfl)) pgs_nil))) (fun _ _ _ _ _ => pts_nil)
        (fun _ _ _ _ _ => pe_op op_mod (hcall HV hr (pa_cons (pv 10) (pa_cons (pv 3) pa_nil))) (pv 11))) pa_nil))
    case s7 => exact ps_ret (pe_ifExp (pt_cmpR op_in_seq (pv 7) (pe_ix ix_tup (pv 0) pe_int (fun _ _ => rfl)) rfl) (pv 9) (pe_ix ix_tup (pv 9) pe_int (fun _ _ => rfl)))
    case rd =>
    obtain ⟨pf, ph, pd, fxs, rfl, hpf, hph, hpd, dd⟩ := hx
    obtain ⟨pm, ps, pb, ss, bs, rfl, hpm, hps, dss, hpb, dbs⟩ := dp_mk hy
    have hpl := pl_at go he
    have hbl := b_at go gm he
    have gb := gm.bd _ e _ hpl hbl
    have ge := go.ok e he
    obtain ⟨xb, hxb, dxb⟩ := dpA_map dbs hbl
    obtain ⟨xe, hxe, dxe⟩ := dpA_map dd hpl
    have lfx : fxs.length = f.ds.length := by
      have := dpA_len dd
      rw [List.length_map] at this
      exact this
    have hi8 := go.hi
    have fit := mtl.fit
    -- at
    refine ⟨_, rfl, pf, _, 1, _, rfl, rfl, hpf, rfl, pd, rfl, ⟨_, hpd⟩, fun D nD => ?_⟩
    refine lc_it (walk_tup (xs := fxs)) (fun i S => S D = some (.lst (((f.ds.take i).map De.nm).map V.str)) ∧ Gr H S) ⟨upd_same, Gr.new nD⟩ ?c0 ?c1 ?c2
    case c0 =>
      rintro i S hi ⟨_, g⟩
      exact g.sqt hpd
    case c1 =>
      rintro i v S' S hi ⟨eD, g⟩ ⟨rfl, hv⟩
      obtain ⟨e', he', de'⟩ := dpA_de dd hv
      obtain ⟨pe', n1, t1, v1, rfl, hpe', dn, dt, dg⟩ := dp_3 (g.kd.dp de')
      cases dp_str dn
      refine ⟨rfl, tYes_i (iteT ⟨_, rfl, pe', _, 0, _, rfl, rfl, hpe', rfl, _, eD, ?_, ?_, g.upd_new nD⟩)⟩
      · rw [List.length_map, List.length_map, List.length_take]
        exact SfC.small1000 (by omega)
      · rw [upd_same, List.take_add_one, he', List.map_append, List.map_append]
        rfl
    case c2 =>
    rintro S ⟨eD, g⟩
    rw [lfx, List.take_length] at eD
    have hfl : ((f.ds.map De.nm).map V.str).all flatV = true := SfC.flat_strs _
    refine ⟨.inl ⟨rfl, _, .inl (.inl eD)⟩, _, rfl, D, _, _, plD f e, .str e.nm, rfl, rfl, .inl (.inl eD), rfl, hfl, ?_, ?_, ?_, ?_⟩
    · rw [List.getElem?_map, List.getElem?_map, hpl]
      rfl
    · rw [eqV_str, decide_eq_true rfl]
    · intro n z' hn hz'
      rw [List.getElem?_map] at hz'
      obtain ⟨nm, hnm, rfl⟩ := Option.map_eq_some_iff.mp hz'
      rw [eqV_str, decide_eq_false]
      intro z
      exact pos_first hn (by rw [hnm, z])
    obtain ⟨pe, n1, t1, v1, rfl, hpe, dn, dt, dg⟩ := dp_3 (g.kd.dp dxe)
    cases dp_kn dg
    -- body, gives
    refine ⟨_, rfl, pm, _, 1, _, rfl, rfl, g.sqt hpm, rfl, _, rfl, pb, _, _, _, rfl, rfl, g.sqt hpb, atI_nat hxb, ?_⟩
    refine ⟨_, rfl, pf, _, 1, _, rfl, rfl, g.sqt hpf, rfl, _, rfl, pd, _, _, _, rfl, rfl, g.sqt hpd, atI_nat hxe, pe, _, 2, _, rfl, rfl, hpe, rfl, ?_⟩
    refine ⟨_, _, rfl, ?_⟩
    generalize hfs : gs.map Gv.fs = fs at fit q
    -- while
    refine ⟨fun d σ H1 => ∃ (b' : V) (B' : Bd), σ = [some (.ref pf), some (.ref pm), some (.str e.nm), some z, some (.int ((plD f e : Nat) : Int)), none, some b', some e.gv.v, none, none, none, none] ∧ Gr H H1 ∧ Dp K H1 b' B'.d ∧ goB (e.tk.map (fds f k.shs)) (fds f k.shs e.gv) B' ∧ chs fs B' = chs fs (bOf f k e) ∧ depB B' = d,
      ⟨depB (bOf f k e), xb, _, rfl, g, g.kd.dp dxb, gb, rfl, rfl⟩, ?_⟩
    rintro d σ H1 ⟨b', B', rfl, g1, hb', ho', eg, rfl⟩
    cases B' with
    | ref =>
      obtain ⟨p, x, rfl, hp, hx⟩ := dp_1 hb'
      cases dp_str hx
      refine ⟨_, rfl, p, _, 0, _, rfl, rfl, hp, rfl, rfl, _, rfl, iteF ?_⟩
      refine ⟨_, rfl, p, _, 0, _, rfl, rfl, hp, rfl, rfl, _, rfl, iteT (q H1 _ g1 ?_)⟩
      unfold dnB
      rw [← eg]
      exact .non
    | whn e' a c =>
      obtain ⟨p, x, y, z', u, rfl, hp, hx, hy', hz', hu⟩ := dp_4 hb'
      cases dp_str hx
      obtain ⟨⟨e1, oka, okc⟩, hdp, hpt⟩ := ho'
      simp only [dpB] at hdp
      simp only [ptB] at hpt
      have lpt := lvs_pt e'
      have e2 : dep e' ≤ 8 := by omega
      have oa : goB (e.tk.map (fds f k.shs)) (fds f k.shs e.gv) a := ⟨oka, by omega, by omega⟩
      have oc : goB (e.tk.map (fds f k.shs)) (fds f k.shs e.gv) c := ⟨okc, by omega, by omega⟩
      refine ⟨_, rfl, p, _, 0, _, rfl, rfl, hp, rfl, rfl, _, rfl, iteT ⟨fun σ' H' => ∃ (b' : V) (B' : Bd), σ' = [some (.ref pf), some (.ref pm), some (.str e.nm), some z, some (.int ((plD f e : Nat) : Int)), none, some b', some e.gv.v, none, none, none, none] ∧ Gr H H' ∧ Dp K H' b' B'.d ∧ goB (e.tk.map (fds f k.shs)) (fds f k.shs e.gv) B' ∧ chs fs B' = chs fs (bOf f k e) ∧ depB B' < depB (.whn e' a c), ?_, ?_⟩⟩
      · rintro σ' H' ⟨b2, B2, h1, h2, h3, h4, h5, h6⟩
        exact ⟨depB B2, h6, b2, B2, h1, h2, h3, h4, h5, rfl⟩
      · refine ⟨_, rfl, _, rfl, p, _, 1, _, rfl, rfl, hp, rfl, _, rfl, _, _, e', _, gs, rfl, hy', g1.kd.dp hz, e1, by rw [hfs]; exact fit, e2, by omega, fun H2 g2 => ⟨rfl, _, rfl, ?_⟩⟩
        rw [hfs]
        have hp2 := g2.sqt hp
        simp only [chs] at eg
        by_cases h : ev fs e' = 0
        · rw [if_neg (by simpa using h)] at eg
          rw [decide_eq_true (congrArg V.int h)]
          exact iteF ⟨p, _, 3, _, rfl, rfl, hp2, rfl, u, c, rfl, g1.trans g2, g2.kd.dp hu, oc, eg, by simp only [depB]; omega⟩
        · rw [if_pos h] at eg
          rw [decide_eq_false (fun e => h (V.int.inj e))]
          exact iteT ⟨p, _, 2, _, rfl, rfl, hp2, rfl, z', a, rfl, g1.trans g2, g2.kd.dp hz', oa, eg, by simp only [depB]; omega⟩
    | giv es =>
      obtain ⟨p, x, y, rfl, hp, hx, hy'⟩ := dp_2 hb'
      cases dp_str hx
      obtain ⟨py, ys, rfl, hpy, hys⟩ := dp_tup hy'
      have hes : es.length = fds f k.shs e.gv := ho'.ok.1
      have hgo : ∀ e' ∈ es, okE (e.tk.map (fds f k.shs)) e' ∧ dep e' ≤ 8 ∧ ptE e' ≤ 60 := fun e' he' => ⟨ho'.ok.2 e' he', by have h1 := dpEs_mem he'; have h2 := ho'.dp; simp only [dpB] at h2; omega, by have h1 := ptEs_mem he'; have h2 := ho'.pt; simp only [ptB] at h2; omega⟩
      have eg' : dnB f k.shs e (bOf f k e) fs = some (outK f k.shs e.gv (es.map (ev fs))) := by
        unfold dnB
        rw [← eg]
        rfl
      rw [eg'] at q
      replace q : ∀ H' v, Gr H H' → Dp K H' v (outK f k.shs e.gv (es.map (ev fs))).d → Q v H' := q
      have fle : fds f k.shs e.gv ≤ 3 := by
        have gvk := ge.gv
        cases hk : e.gv with
        | p n => exact (by decide : 1 ≤ 3)
        | h s =>
          rw [hk] at gvk
          obtain ⟨a1, a2⟩ := sh_at gm.ls (show s ∈ f.hd from gvk)
          have := gm.sh _ (List.mem_of_getElem? a1)
          rw [a2]
          exact this.hi
      have lys : ys.length = es.length := by
        have := dpA_len hys
        rw [List.length_map] at this
        exact this
      have hpf1 := g1.sqt hpf
      have hph1 := hph.gr g1
      have hz1 := g1.kd.dp hz
      refine ⟨_, rfl, p, _, 0, _, rfl, rfl, hp, rfl, rfl, _, rfl, iteF ?_⟩
      refine ⟨_, rfl, p, _, 0, _, rfl, rfl, hp, rfl, rfl, _, rfl, iteF ?_⟩
      refine next_go ?_
      dsimp only
      refine seq_end (fun σ S => ∃ (pz : Addr) (bz : List Int), σ = [some (.ref pf), some (.ref pm), some (.str e.nm), some z, some (.int ((plD f e : Nat) : Int)), none, some (.ref p), some e.gv.v, some (.ref pz), none, none, none] ∧ Gr H1 S ∧ SqT K S pz (bz.map V.int) ∧ bz.length = es.length ∧ (∀ b ∈ bz, 0 < b) ∧
        ((∃ s, e.gv = .h s ∧ outK f k.shs e.gv (es.map (ev fs)) = .wth (modL (es.map (ev fs)) bz)) ∨ (∃ n v, e.gv = .p n ∧ modL (es.map (ev fs)) bz = [v] ∧ outK f k.shs e.gv (es.map (ev fs)) = .num v))) ?num (fun hF => seq_go ?_)
      case num =>
        rintro σ S ⟨pz, bz, rfl, g2, hpz, lbz, hpos, hout⟩
        refine ⟨_, rfl, p, _, 1, _, rfl, rfl, g2.sqt hp, rfl, _, rfl, py, pz, ys, bz.map V.int, rfl, .inr ⟨g2.sqt hpy, hpz, fun D nD => ?_⟩⟩
        refine lc_it (walk_zipT (xs := ys) (ys := bz.map V.int) (by rw [List.length_map]; omega)) (fun j S2 => S2 D = some (.lst (((modL (es.map (ev fs)) bz).take j).map V.int)) ∧ Gr S S2) ⟨upd_same, Gr.new nD⟩ ?d0 ?d1 ?d2
        case d0 =>
          rintro j S2 hj ⟨_, g3⟩
          exact ⟨(g2.trans g3).sqt hpy, g3.sqt hpz⟩
        case d1 =>
          rintro j v S2 S2' hj ⟨eD, g3⟩ ⟨T, a, c, rfl, nT, rfl, ha, hc⟩
          replace hc : (bz.map V.int)[j]? = some c := hc
          rw [List.getElem?_map] at hc
          obtain ⟨bn, hbn, rfl⟩ := Option.map_eq_some_iff.mp hc
          obtain ⟨ej, hej, daj⟩ := dpA_at hys ha
          rw [List.getElem?_map] at hej
          obtain ⟨ex, hex, rfl⟩ := Option.map_eq_some_iff.mp hej
          obtain ⟨o1, o2, o3⟩ := hgo ex (List.mem_of_getElem? hex)
          have := lvs_pt ex
          have bpos := hpos bn (List.mem_of_getElem? hbn)
          have k4 : Gr S2 (upd S2 T (.tup [a, .int bn])) := Gr.new nT
          have hT : upd S2 T (.tup [a, .int bn]) T = some (.tup [a, .int bn]) := upd_same
          have eD4 := k4.lst eD
          have g4 := g3.trans k4
          generalize upd S2 T (.tup [a, .int bn]) = S4 at k4 hT eD4 g4 ⊢
          refine ⟨T, [a, .int bn], rfl, .inl (.inl hT), rfl, a, [.int bn], rfl, .int bn, [], rfl, rfl, ?_⟩
          refine ⟨rfl, tYes_i (iteT ?_)⟩
          refine ⟨_, rfl, _, rfl, a, z, ex, _, gs, rfl, (g2.trans g4).kd.dp daj, (g2.trans g4).kd.dp hz1, o1, by rw [hfs]; exact fit, o2, by omega, fun S5 g5 => ⟨_, rfl, _, _, rfl, rfl, bpos, ?_⟩⟩
          refine ⟨_, g5.lst eD4, ?_, ?_, (g4.trans g5).upd_new nD⟩
          · rw [List.length_map, List.length_take]
            refine SfC.small1000 ?_
            unfold modL
            rw [List.length_zipWith, List.length_map]
            omega
          · have hm : (modL (es.map (ev fs)) bz)[j]? = some (ev fs ex % bn) := by
              unfold modL
              rw [List.getElem?_zipWith, List.getElem?_map, hex, hbn]
              rfl
            rw [hfs, List.take_add_one, hm, List.map_append]
            exact upd_same
        case d2 =>
        rintro S2 ⟨eD, g3⟩
        have lm : (modL (es.map (ev fs)) bz).length = ys.length := by
          unfold modL
          rw [List.length_zipWith, List.length_map]
          omega
        rw [← lm, List.take_length] at eD
        refine ⟨D, _, rfl, .inl ⟨.inl (.inl eD), fun t nt => ?_⟩⟩
        have k4 : Gr S2 (upd S2 t (.tup ((modL (es.map (ev fs)) bz).map V.int))) := Gr.new nt
        have e4 : upd S2 t (.tup ((modL (es.map (ev fs)) bz).map V.int)) t = some (.tup ((modL (es.map (ev fs)) bz).map V.int)) := upd_same
        have g4 : Gr H1 (upd S2 t (.tup ((modL (es.map (ev fs)) bz).map V.int))) := g2.trans (g3.trans k4)
        generalize upd S2 t (.tup ((modL (es.map (ev fs)) bz).map V.int)) = S4 at k4 e4 g4 ⊢
        refine ⟨_, rfl, _, rfl, pf, _, 0, _, rfl, rfl, g4.sqt hpf1, rfl, ph, _, rfl, .inr (hph1.gr g4).sqt, flat_kn e.gv, SfC.flat_strs f.hd, _, rfl, ?_⟩
        rw [show (if false = true then !inV e.gv.v (f.hd.map V.str) else inV e.gv.v (f.hd.map V.str)) = e.gv.isH from inV_kn ge.gv]
        rcases hout with ⟨s, e1, e2⟩ | ⟨n, v, e1, e3, e2⟩
        · rw [show e.gv.isH = true by rw [e1]; rfl]
          refine iteT ⟨_, rfl, q S4 _ (g1.trans g4) ?_⟩
          rw [e2]
          exact dp_gv (.inl (.inl e4))
        · rw [show e.gv.isH = false by rw [e1]; rfl]
          rw [e3] at e4
          refine iteF ⟨_, rfl, t, _, 0, .int v, rfl, rfl, .inl (.inl e4), rfl, q S4 _ (g1.trans g4) ?_⟩
          rw [e2]
          exact .int v
      refine ⟨_, rfl, _, rfl, pf, _, 0, _, rfl, rfl, hpf1, rfl, ph, _, rfl, .inr hph1.sqt, flat_kn e.gv, SfC.flat_strs f.hd, _, rfl, ?_⟩
      rw [show (if false = true then !inV e.gv.v (f.hd.map V.str) else inV e.gv.v (f.hd.map V.str)) = e.gv.isH from inV_kn ge.gv]
      have gvk := ge.gv
      clear q eg eg' hgo ho' fle
      generalize e.gv = kn at gvk hF hes ⊢
      cases kn with
      | p n =>
        obtain ⟨e0, rfl⟩ : ∃ a, es = [a] := by
          have h1 : es.length = 1 := hes
          match es, h1 with
          | [a], _ => exact ⟨a, rfl⟩
        obtain ⟨n2, n9⟩ := gvk
        refine iteF ⟨_, rfl, by show 1 ≤ sizeLine; decide, fun t nt => hF _ _ ⟨t, [n], rfl, Gr.new nt, .inl (.inl upd_same), rfl, fun b hb => ?_, .inr ⟨n, ev fs e0 % n, rfl, rfl, rfl⟩⟩⟩
        rw [List.mem_singleton.mp hb]
        omega
      | h s =>
        have hs : s ∈ f.hd := gvk
        obtain ⟨a1, a2⟩ := sh_at gm.ls hs
        have gsh := gm.sh _ (List.mem_of_getElem? a1)
        obtain ⟨xsh, hxsh, dsh⟩ := dpA_map dss a1
        obtain ⟨psh, bv, rfl, hpsh, dbv⟩ := dp_tup dsh
        cases dpA_ns dbv
        refine iteT ⟨_, rfl, pm, _, 0, _, rfl, rfl, g1.sqt hpm, rfl, _, rfl, pf, _, 0, _, rfl, rfl, hpf1, rfl, ph, f.hd, rfl, hph1, _, rfl, s, posS f.hd s, rfl, hph1, pos_at hs, fun m hm => pos_first hm, ps, _, _, _, rfl, rfl, g1.sqt hps, atI_nat hxsh, hF _ _ ⟨psh, (shK f k.shs s).map fun n : Nat => ((n : Nat) : Int), rfl, Gr.refl H1, ?_, ?_, ?_, .inl ⟨s, rfl, ?_⟩⟩⟩
        · rw [List.map_map]
          exact g1.sqt hpsh
        · rw [List.length_map, hes, a2]
        · intro b hb
          obtain ⟨n, hn, rfl⟩ := List.mem_map.mp hb
          have := gsh.bd n hn
          omega
        · rw [modL_out]
          rfl
end
end SfM
namespace SfM
open PySem PySem.Spec PyProof.Rows L2 SfG SfC
theorem run_len {f : Fc} {k : Mk} : ∀ {u : List Ur} {gs gs' : List Gv}, runU f k u gs = some gs' → gs'.length = gs.length + u.length
  | [], gs, gs', h => by
    cases h
    rfl
  | r :: u, gs, gs', h => by
    rw [runU] at h
    cases hs : stepU f k gs r with
    | none =>
      rw [hs] at h
      cases h
    | some g =>
      rw [hs] at h
      have := run_len h
      rw [List.length_append] at this
      simp only [List.length_cons, List.length_nil] at this ⊢
      omega
/-- what a told thing is, by its data -/
theorem dp_gvO {K : PySem.W.Frag} {H : Hp} {v : V} {g : Gv} (h : Dp K H v g.d) : (∃ p, v = .ref p) ∨ ∃ n, v = .int n := by
  cases g with
  | wth l =>
    obtain ⟨p, xs, rfl, _⟩ := dp_tup h
    exact .inl ⟨p, rfl⟩
  | num n => exact .inr ⟨n, dp_int h⟩
section
variable {P : Program} {w : World} {K : PySem.W.Frag} {mg : Str → Option Value} {base : Heap}
def spOutc (K : PySem.W.Frag) : Sp := fun vs H Q _ => ∃ (x y z : V) (f : Fc) (k : Mk) (u : List Ur), vs = [x, y, z] ∧ Fz K H x f ∧ Dp K H y k.d ∧ Dp K H z (usD u) ∧ goF f ∧ goM f k ∧ GoU f u ∧ ∀ H' v, Gr H H' → Dp K H' v (gvO (outU f k u)) → Q v H'
set_option maxHeartbeats 4000000 in
theorem ok_outOf {f fF fW fD : Addr} {fd fdF fdW fdD : FuncData} {k : Nat} (F : Fun K "outcome_of" "outcome_of" sOutOf f fd) (HF : Has P w K mg base k "find_deed" ["face", "name"] (spFind K) fF fdF) (HW : Has P w K mg base k "is_whole" ["thing"] (spWhole K) fW fdW)
    (HD : Has P w K mg base k "done_rightly" ["face", "making", "number", "handed"] (spDoneR K) fD fdD) (mt : mg "tuple" = none) (mz : mg "zip" = none) : FnOk P w K mg base CX0 (k + 1) f fd ["face", "making", "user"] (spOutc K) := by
  refine F.ok scOutOf (fun vs H Q E h => ?_) (fun cdv A outer s H vs Q E hr h => ?_)
  · obtain ⟨x, y, z, f, k, u, rfl, _⟩ := h
    rfl
  · obtain ⟨x, y, z, f, k, u, rfl, hx, hy, hz, go, gm, gu, q⟩ := h
    have nd := scOutOf.nd
    refine' ⟨_, pss_cons ?s1 (pss_cons ?s2 (pss_one ?s3)), ?rd⟩
    case s1 => exact ps_set (i := 3) nd rfl (.inr rfl) (pe_lst pa_nil)
    case s2 =>
      refine' ps_for PassesOwn.never rfl (pi_tup (pv 2)) (pg_tup rfl (pgs_cons (pg_name (i := 4) nd rfl (.inl rfl)) (pgs_cons (pg_name (i := 5) nd rfl (.inl rfl)) pgs_nil)))
        (pss_cons ?b1 (pss_cons ?b2 (pss_cons ?b3 (pss_cons ?b4 (pss_cons ?b5 (pss_one ?b6))))))
      case b1 => exact ps_set (i := 6) nd rfl (.inl rfl) (hcall HF hr (pa_cons (pv 0) (pa_cons (pv 4) pa_nil)))
      case b2 => exact ps_set (i := 7) nd rfl (.inl rfl) (pe_ix ix_tup (pe_ix ix_tup (pe_ix ix_tup (pv 0) pe_int (fun _ _ => rfl)) (pv 6) (fun _ _ => rfl)) pe_int (fun _ _ => rfl))
      case b3 =>
        exact ps_set (i := 8) nd rfl (.inl rfl) (pe_callTy call_tuple_of (by rfl) mt (by decide +kernel) (pa_cons (pe_lc (own := [("kind", 9), ("thing", 10)]) (g := gTup K 2 (gCons (gName 9) (gCons (gName 10) gNil))) rfl nd (RZ.pi_zipA (by rfl) mz (pa_cons (pv 7) (pa_cons (pv 5) pa_nil)))
          (blkOk_by (own := [("kind", 9), ("thing", 10)]) (N := nOut) (sc := defScope sOutOf) (by decide +kernel)) (fun _ _ _ _ _ => pg_tup rfl (pgs_cons (pg_name (i := 9) nd rfl (.inl rfl)) (pgs_cons (pg_name (i := 10) nd rfl (.inl rfl)) pgs_nil))) (fun _ _ _ _ _ => pts_nil)
          (fun _ _ _ _ _ => pe_ifExp (pt_val (hcall HW hr (pa_cons (pv 9) pa_nil))) (pv 10) (pe_ix (r := rIxL K) ix_list (pv 3) (pv 10) (fun _ _ => rfl)))) pa_nil))
      case b4 => exact ps_set (i := 11) nd rfl (.inl rfl) (hcall HD hr (pa_cons (pv 0) (pa_cons (pv 1) (pa_cons (pv 6) (pa_cons (pv 8) pa_nil)))))
      case b5 => exact ps_if (pt_cmpR op_isN (pv 11) pe_non (nomark _)) (pss_one (ps_ret pe_non)) pss_nil
      case b6 => exact ps_expr (pe_bm PySem.F.plainAttrs_list PySem.F.slot_list_append PySem.F.type_list_append mt_append (pv 3) (pa_cons (pv 11) pa_nil))
    case s3 => exact ps_ret (pe_ix ix_list (pv 3) (pe_un un_neg pe_int) (fun _ _ => rfl))
    case rd =>
    obtain ⟨pz, zs, rfl, hpz, hzs⟩ := dp_tup hz
    have lz : zs.length = u.length := by
      have := dpA_len hzs
      rw [List.length_map] at this
      exact this
    have lo := gu.lo
    have hi := gu.hi
    refine ⟨by show 0 ≤ sizeLine; decide, fun gl ngl => ?_⟩
    have g1 : Gr H (upd H gl (.lst [])) := Gr.new ngl
    have e1 : upd H gl (.lst []) gl = some (.lst []) := upd_same
    generalize upd H gl (.lst []) = H1 at g1 e1 ⊢
    refine ⟨_, rfl, pz, rfl, ⟨_, g1.sqt hpz⟩, for_it (walk_tup (xs := zs)) (fun i σ S => ∃ (y4 y5 y6 y7 y8 y11 : Option V) (xs : List V) (gs : List Gv), σ = [some x, some y, some (.ref pz), some (.ref gl), y4, y5, y6, y7, y8, none, none, y11] ∧ S gl = some (.lst xs) ∧ DpAll K S xs (gs.map Gv.d) ∧ Gr H S ∧ gs.length = i ∧ TyU f k u gs ∧
      runU f k u [] = runU f k (u.drop i) gs) ⟨none, none, none, none, none, none, [], [], rfl, e1, .nil, g1, rfl, (fun j r g _ h => by simp at h), rfl⟩ ?h1 ?h2 ?h3⟩
    case h1 =>
      rintro i σ S hi ⟨y4, y5, y6, y7, y8, y11, xs, gs, rfl, e, dxs, g, lg, ty, eq⟩
      exact g.sqt hpz
    case h3 =>
      rintro σ S ⟨y4, y5, y6, y7, y8, y11, xs, gs, rfl, e, dxs, g, lg, ty, eq⟩
      rw [lz, List.drop_length, runU] at eq
      have lx : xs.length = gs.length := by
        have := dpA_len dxs
        rw [List.length_map] at this
        exact this
      obtain ⟨n, hn⟩ : ∃ n, gs.length = n + 1 := ⟨gs.length - 1, by omega⟩
      have hg : gs[n]? = some (gs[n]'(by omega)) := List.getElem?_eq_getElem _
      generalize gs[n]'(by omega) = gv at hg
      obtain ⟨v, hv, dv⟩ := dpA_map dxs hg
      have hl : gs.getLast? = some gv := by
        rw [List.getLast?_eq_getElem?, hn]
        exact hg
      refine ⟨_, rfl, 1, rfl, gl, xs, -1, v, rfl, rfl, .inl (.inl e), at_neg (by omega) hv, q S v g ?_⟩
      unfold outU
      rw [eq]
      dsimp only
      rw [hl]
      exact dv
    case h2 =>
      rintro i v σ S' S hi' ⟨y4, y5, y6, y7, y8, y11, xs, gs, rfl, e, dxs, g, lg, ty, eq⟩ ⟨rfl, hv⟩
      obtain ⟨du, hdu, dv⟩ := dpA_at hzs hv
      rw [List.getElem?_map] at hdu
      obtain ⟨r, hr', rfl⟩ := Option.map_eq_some_iff.mp hdu
      rw [drop_at hr', runU] at eq
      obtain ⟨hm, fit⟩ := gu.ok i r hr'
      obtain ⟨p, qh, rfl, hp, hqh⟩ := dp_ur (g.kd.dp dv)
      have hpl := pl_at go hm
      have hbl := b_at go gm hm
      have hx1 := hx.gr g
      have lx : xs.length = i := by
        have := dpA_len dxs
        rw [List.length_map] at this
        omega
      refine ⟨p, _, rfl, hp, rfl, _, _, rfl, _, _, rfl, rfl, ?_⟩
      refine ⟨_, rfl, _, rfl, _, _, f, "str", rfl, hx1.dp, is_str _, .inl ⟨_, r.e, plD f r.e, rfl, hpl, rfl, go.up, fun H2 g2 => ?_⟩⟩
      have hx2 := hx1.gr g2
      obtain ⟨pf, ph, pd, fxs, rfl, hpf, hph, hpd, dd⟩ := id hx2
      obtain ⟨xe, hxe, dxe⟩ := dpA_map dd hpl
      obtain ⟨pe, n1, t1, v1, rfl, hpe, dn, dt, dg⟩ := dp_3 dxe
      obtain ⟨pt, ts, rfl, hpt, hts⟩ := dp_tup dt
      cases dpA_kns hts
      refine ⟨_, rfl, pf, _, 1, _, rfl, rfl, hpf, rfl, _, rfl, pd, _, _, _, rfl, rfl, hpd, atI_nat hxe, pe, _, 1, _, rfl, rfl, hpe, rfl, ?_⟩
      have ge := go.ok _ hm
      have mt := th_mt go gu hr' lg ty
      have lt' := mt.len
      refine ⟨_, rfl, _, rfl, pt, qh, r.e.tk.map Kn.v, hsV r.hs, rfl, .inr ⟨hpt, g2.sqt hqh, fun D nD => ?_⟩⟩
      refine lc_it (walk_zipT (xs := r.e.tk.map Kn.v) (ys := hsV r.hs) (by rw [List.length_map, hsV_len]; exact fit.len.symm)) (fun j S2 => ∃ zs, S2 D = some (.lst zs) ∧ DpAll K S2 zs (((thL gs r).take j).map Gv.d) ∧ Gr H2 S2) ⟨[], upd_same, .nil, Gr.new nD⟩ ?c0 ?c1 ?c2
      case c0 =>
        rintro j S2 hj ⟨_, _, _, g3⟩
        exact ⟨g3.sqt hpt, (g2.trans g3).sqt hqh⟩
      case c1 =>
        rintro j v S2 S2' hj ⟨ws, eD, dws, g3⟩ ⟨T, a, c, rfl, nT, rfl, ha, hc⟩
        replace ha : (r.e.tk.map Kn.v)[j]? = some a := ha
        rw [List.getElem?_map] at ha
        obtain ⟨kn, hkn, rfl⟩ := Option.map_eq_some_iff.mp ha
        obtain ⟨h, hh, ok⟩ := fit.at hkn
        have ec : c = .int (h : Nat) := Option.some.inj (hc.symm.trans (hsV_at hh))
        subst ec
        have htl : (thL gs r)[j]? = some (thG gs kn h) := by
          unfold thL
          rw [List.getElem?_zipWith, hkn, hh]
        have hmt := mt.at_ j kn _ hkn htl
        have k4 : Gr S2 (upd S2 T (.tup [kn.v, .int (h : Nat)])) := Gr.new nT
        have hT : upd S2 T (.tup [kn.v, .int (h : Nat)]) T = some (.tup [kn.v, .int (h : Nat)]) := upd_same
        have eD4 := k4.lst eD
        have dw4 := k4.kd.dpA dws
        have g4 := g3.trans k4
        generalize upd S2 T (.tup [kn.v, .int (h : Nat)]) = S4 at k4 hT eD4 dw4 g4 ⊢
        have lw : ws.length ≤ 3 := by
          have h1 := dpA_len dws
          have h2 := ge.len
          rw [List.length_map, List.length_take] at h1
          omega
        have fin : ∀ (y : V), Dp K S4 y (thG gs kn h).d → ∃ acc, S4 D = some (.lst acc) ∧ acc.length < sizeLine ∧ ∃ zs', upd S4 D (.lst (acc ++ [y])) D = some (.lst zs') ∧ DpAll K (upd S4 D (.lst (acc ++ [y]))) zs' (((thL gs r).take (j + 1)).map Gv.d) ∧ Gr H2 (upd S4 D (.lst (acc ++ [y]))) := by
          intro y dy
          refine ⟨ws, eD4, SfC.small1000 (by omega), ws ++ [y], upd_same, ?_, g4.upd_new nD⟩
          rw [List.take_add_one, htl, List.map_append]
          exact Kt.dpA (kt_lst eD4) (dpA_app dw4 (.cons dy .nil)) (by rw [← List.map_append]; exact noLA_map _ noL_gv _)
        refine ⟨T, [kn.v, .int (h : Nat)], rfl, .inl (.inl hT), rfl, kn.v, [.int (h : Nat)], rfl, .int (h : Nat), [], rfl, rfl, ?_⟩
        refine ⟨rfl, tYes_i (iteT ?_)⟩
        refine ⟨_, rfl, kn.v, _, rfl, kn_is kn, _, rfl, ?_⟩
        cases kn with
        | p n => exact iteT ⟨_, rfl, fin _ (.int _)⟩
        | h s =>
          have o : ((gvs u).take i)[h]? = some (.h s) := ok
          have hlt : h < i := by
            have := lt_of_at o
            rw [List.length_take] at this
            omega
          have hgs : gs[h]? = some (gs[h]'(by omega)) := List.getElem?_eq_getElem _
          obtain ⟨w', hw', dw'⟩ := dpA_map dxs hgs
          have eg : thG gs (.h s) h = gs[h]'(by omega) := by
            show gs.getD h (.num 0) = _
            rw [List.getD_eq_getElem?_getD, hgs]
            rfl
          refine iteF ⟨_, rfl, _, rfl, gl, xs, _, w', rfl, rfl, .inl (.inl ((g2.trans g4).lst e)), atI_nat hw', fin w' ?_⟩
          rw [eg]
          exact (g2.trans g4).kd.dp dw'
      case c2 =>
      rintro S2 ⟨ws, eD, dws, g3⟩
      rw [List.length_map, ← lt', List.take_length] at dws
      refine ⟨D, _, rfl, .inl ⟨.inl (.inl eD), fun t nt => ?_⟩⟩
      have k4 : Gr S2 (upd S2 t (.tup ws)) := Gr.new nt
      have dt4 : Dp K (upd S2 t (.tup ws)) (.ref t) (.tuple ((thL gs r).map Gv.d)) := .tup (.inl (.inl upd_same)) (k4.kd.dpA dws)
      have g4 := g3.trans k4
      generalize upd S2 t (.tup ws) = S4 at k4 dt4 g4 ⊢
      have gS4 := g2.trans g4
      refine ⟨_, rfl, _, rfl, _, rfl, _, rfl, _, _, _, f, k, _, r.e, _, thL gs r, rfl, hx2.gr g4, (g.trans gS4).kd.dp hy, go, gm, hpl, hbl, dt4, mt, fun H5 v g5 dv5 => ?_⟩
      change Dp K H5 v (gvO (stepU f k gs r)) at dv5
      have gS5 := gS4.trans g5
      cases hs : stepU f k gs r with
      | none =>
        rw [hs] at dv5 eq
        cases dv5
        refine ⟨_, rfl, rfl, _, rfl, iteT (q H5 _ (g.trans gS5) ?_)⟩
        unfold outU
        rw [eq]
        exact .non
      | some gv =>
        rw [hs] at dv5 eq
        have hty := step_ty go gm gu hr' lg ty hs
        have dv5 : Dp K H5 v gv.d := dv5
        have e5 := gS5.lst e
        have fin : ∃ (y4 y5 y6 y7 y8 y11 : Option V) (xs' : List V) (gs' : List Gv), [some (V.ref pf), some y, some (.ref pz), some (.ref gl), some (.str r.e.nm), some (.ref qh), some (.int ((plD f r.e : Nat) : Int)), some (.ref pt), some (.ref t), none, none, some v] = [some (V.ref pf), some y, some (.ref pz), some (.ref gl), y4, y5, y6, y7, y8, none, none, y11] ∧ upd H5 gl (.lst (xs ++ [v])) gl = some (.lst xs') ∧ DpAll K (upd H5 gl (.lst (xs ++ [v]))) xs' (gs'.map Gv.d) ∧ Gr H (upd H5 gl (.lst (xs ++ [v]))) ∧ gs'.length = i + 1 ∧ TyU f k u gs' ∧
            runU f k u [] = runU f k (u.drop (i + 1)) gs' := by
          refine ⟨_, _, _, _, _, _, xs ++ [v], gs ++ [gv], rfl, upd_same, ?_, (g.trans gS5).upd_new ngl, by rw [List.length_append, lg]; rfl, hty, eq⟩
          rw [List.map_append]
          exact Kt.dpA (kt_lst e5) (dpA_app (gS5.kd.dpA dxs) (.cons dv5 .nil)) (by rw [← List.map_append]; exact noLA_map _ noL_gv _)
        rcases dp_gvO dv5 with ⟨pv', rfl⟩ | ⟨n, rfl⟩
        · exact ⟨_, rfl, rfl, _, rfl, iteF ⟨_, rfl, .inl ⟨rfl, _, .inl (.inl e5)⟩, _, rfl, gl, _, _, rfl, rfl, e5, SfC.small1000 (by omega), fin⟩⟩
        · exact ⟨_, rfl, rfl, _, rfl, iteF ⟨_, rfl, .inl ⟨rfl, _, .inl (.inl e5)⟩, _, rfl, gl, _, _, rfl, rfl, e5, SfC.small1000 (by omega), fin⟩⟩
theorem ok_outc {f fN fU fO : Addr} {fd fdN fdU fdO : FuncData} {k : Nat} (F : Fun K "outcome" "outcome" sOutc f fd) (HN : Has P w K mg base k "need_making" ["face", "making"] (spGoodM K) fN fdN) (HU : Has P w K mg base k "refuse_no_user" ["face", "user"] (spGoodU K) fU fdU)
    (HO : Has P w K mg base k "outcome_of" ["face", "making", "user"] (spOutc K) fO fdO) : FnOk P w K mg base CX0 (k + 1) f fd ["face", "making", "user"] (spOutc K) := by
  refine F.ok scOutc (fun vs H Q E h => ?_) (fun cdv A outer s H vs Q E hr h => ?_)
  · obtain ⟨x, y, z, f, k, u, rfl, _⟩ := h
    rfl
  · obtain ⟨x, y, z, f, k, u, rfl, hx, hy, hz, go, gm, gu, q⟩ := h
    refine ⟨_, pss_cons (ps_expr (hcall HN hr (pa_cons (pv 0) (pa_cons (pv 1) pa_nil)))) (pss_cons (ps_expr (hcall HU hr (pa_cons (pv 0) (pa_cons (pv 2) pa_nil)))) (pss_one (ps_ret (hcall HO hr (pa_cons (pv 0) (pa_cons (pv 1) (pa_cons (pv 2) pa_nil))))))), ?_⟩
    refine ⟨_, rfl, _, rfl, x, y, f, k, rfl, hx.dp, hy, go, gm, fun H1 g1 => ?_⟩
    refine ⟨_, rfl, _, rfl, x, z, f, u, rfl, (hx.gr g1).dp, g1.kd.dp hz, go, gu, fun H2 g2 => ?_⟩
    exact ⟨_, rfl, _, rfl, _, rfl, x, y, z, f, k, u, rfl, hx.gr (g1.trans g2), (g1.trans g2).kd.dp hy, (g1.trans g2).kd.dp hz, go, gm, gu, fun H3 v g3 => q H3 v ((g1.trans g2).trans g3)⟩
end
end SfM
namespace SfM
open PySem PySem.Spec PyProof.Rows L2 SfG SfC
/-! ### the law's own going through a user -/
abbrev nLOut : List Str := ["_law_face_here", "_law_making_here", "_law_user_here", "_law_given", "_law_name", "_law_handed", "_law_takes", "_law_deed", "_law_things", "_law_thing", "_law_kind"]
theorem scLOut : FnScope nLOut ["_law_face_here", "_law_making_here", "_law_user_here"] (defScope sLOut) := ⟨rfl, rfl, rfl, by decide +kernel, rfl, by decide +kernel, by decide +kernel⟩
def isNm (z : Str) (e : De) : Bool := decide (e.nm = z)
theorem only_nm : ∀ {l : List De} {e : De}, (l.map De.nm).Pairwise lt → e ∈ l → l.filter (isNm e.nm) = [e]
  | a :: r, e, up, he => by
    rw [List.map_cons, List.pairwise_cons] at up
    rcases List.mem_cons.mp he with rfl | he
    · rw [List.filter_cons_of_pos (by unfold isNm; exact decide_eq_true rfl)]
      have : r.filter (isNm e.nm) = [] := by
        rw [List.filter_eq_nil_iff]
        intro x hx hc
        have e1 : x.nm = e.nm := of_decide_eq_true hc
        have := up.1 x.nm (List.mem_map.mpr ⟨x, hx, rfl⟩)
        rw [e1] at this
        exact List.lt_irrefl _ this
      rw [this]
    · have hne : ¬ isNm e.nm a = true := by
        intro hc
        have e1 : a.nm = e.nm := of_decide_eq_true hc
        have := up.1 e.nm (List.mem_map.mpr ⟨e, he, rfl⟩)
        rw [e1] at this
        exact List.lt_irrefl _ this
      rw [List.filter_cons_of_neg hne]
      exact only_nm up.2 he
def tkD (e : De) : PyData := .tuple (e.tk.map Kn.d)
theorem noL_tk (e : De) : noL (tkD e) = true := by
  unfold tkD
  rw [noL, noLA_map _ noL_kn]
section
variable {P : Program} {w : World} {K : PySem.W.Frag} {mg : Str → Option Value} {base : Heap}
set_option maxHeartbeats 8000000 in
theorem ok_lout {f fD : Addr} {fd fdD : FuncData} {k : Nat} (F : Fun K "_law_outcome" "_law_outcome" sLOut f fd) (HD : Has P w K mg base k "_law_done" ["_law_face_here", "_law_making_here", "_law_name", "_law_things"] (spLDone K) fD fdD) (mz : mg "zip" = none) :
    FnOk P w K mg base CX0 (k + 1) f fd ["_law_face_here", "_law_making_here", "_law_user_here"] (spOutc K) := by
  refine F.ok scLOut (fun vs H Q E h => ?_) (fun cdv A outer s H vs Q E hr h => ?_)
  · obtain ⟨x, y, z, f, k, u, rfl, _⟩ := h
    rfl
  · obtain ⟨x, y, z, f, k, u, rfl, hx, hy, hz, go, gm, gu, q⟩ := h
    have nd := scLOut.nd
    refine' ⟨_, pss_cons ?s1 (pss_cons ?s2 (pss_one ?s3)), ?rd⟩
    case s1 => exact ps_set (i := 3) nd rfl (.inr rfl) (pe_lst pa_nil)
    case s2 =>
      refine' ps_for PassesOwn.never rfl (pi_tup (pv 2)) (pg_tup rfl (pgs_cons (pg_name (i := 4) nd rfl (.inr rfl)) (pgs_cons (pg_name (i := 5) nd rfl (.inl rfl)) pgs_nil)))
        (pss_cons ?b1 (pss_cons ?b2 (pss_cons ?b3 (pss_one ?b4))))
      case b1 =>
        exact ps_set (i := 6) nd rfl (.inl rfl) (pe_ix ix_list (pe_lc (own := [("_law_deed", 7)]) (g := gName 7) rfl nd (pi_tup (pe_ix ix_tup (pv 0) pe_int (fun _ _ => rfl))) (blkOk_by (own := [("_law_deed", 7)]) (N := nLOut) (sc := defScope sLOut) (by decide +kernel))
          (fun _ _ _ _ _ => pg_name (i := 7) nd rfl (.inl rfl)) (fun _ _ _ _ _ => pts_one (pt_cmpR op_eq (pe_ix (r := rIxT K) ix_tup (pv 7) pe_int (fun _ _ => rfl)) (pv 4) (nomark _))) (fun _ _ _ _ _ => pe_ix (r := rIxT K) ix_tup (pv 7) pe_int (fun _ _ => rfl))) pe_int (fun _ _ => rfl))
      case b2 =>
        exact ps_setLc (i := 8) (own := [("_law_thing", 9), ("_law_kind", 10)]) (g := gTup K 2 (gCons (gName 9) (gCons (gName 10) gNil))) rfl nd rfl rfl (sw_true rfl rfl rfl (by decide +kernel)) (RZ.pi_zipA (by rfl) mz (pa_cons (pv 5) (pa_cons (pv 6) pa_nil)))
          (blkOk_by (own := [("_law_thing", 9), ("_law_kind", 10)]) (N := nLOut) (sc := defScope sLOut) (by decide +kernel)) (fun _ _ _ _ _ => pg_tup rfl (pgs_cons (pg_name (i := 9) nd rfl (.inl rfl)) (pgs_cons (pg_name (i := 10) nd rfl (.inl rfl)) pgs_nil))) (fun _ _ _ _ _ => pts_nil)
          (fun _ _ _ _ _ => pe_ifExp (pt_cmpR (r := rIn K false) op_in_seq (pv 10) (pe_ix (r := rIxT K) ix_tup (pv 0) pe_int (fun _ _ => rfl)) rfl) (pe_ix (r := rIxL K) ix_list (pv 3) (pv 9) (fun _ _ => rfl)) (pv 9))
      case b3 => exact ps_expr (pe_bm PySem.F.plainAttrs_list PySem.F.slot_list_append PySem.F.type_list_append mt_append (pv 3) (pa_cons (hcall HD hr (pa_cons (pv 0) (pa_cons (pv 1) (pa_cons (pv 4) (pa_cons (pv 8) pa_nil))))) pa_nil))
      case b4 => exact ps_if (pt_cmpR op_isN (pe_ix ix_list (pv 3) (pe_un un_neg pe_int) (fun _ _ => rfl)) pe_non (nomark _)) (pss_one (ps_ret pe_non)) pss_nil
    case s3 => exact ps_ret (pe_ix ix_list (pv 3) (pe_un un_neg pe_int) (fun _ _ => rfl))
    case rd =>
    obtain ⟨pz, zs, rfl, hpz, hzs⟩ := dp_tup hz
    have lz : zs.length = u.length := by
      have := dpA_len hzs
      rw [List.length_map] at this
      exact this
    have lo := gu.lo
    have hi := gu.hi
    have hi8 := go.hi
    refine ⟨by show 0 ≤ sizeLine; decide, fun gl ngl => ?_⟩
    have g1 : Gr H (upd H gl (.lst [])) := Gr.new ngl
    have e1 : upd H gl (.lst []) gl = some (.lst []) := upd_same
    generalize upd H gl (.lst []) = H1 at g1 e1 ⊢
    refine ⟨_, rfl, pz, rfl, ⟨_, g1.sqt hpz⟩, for_it (walk_tup (xs := zs)) (fun i σ S => ∃ (y4 y5 y6 y8 : Option V) (xs : List V) (gs : List Gv), σ = [some x, some y, some (.ref pz), some (.ref gl), y4, y5, y6, none, y8, none, none] ∧ S gl = some (.lst xs) ∧ DpAll K S xs (gs.map Gv.d) ∧ Gr H S ∧ gs.length = i ∧ TyU f k u gs ∧
      runU f k u [] = runU f k (u.drop i) gs) ⟨none, none, none, none, [], [], rfl, e1, .nil, g1, rfl, (fun j r g _ h => by simp at h), rfl⟩ ?h1 ?h2 ?h3⟩
    case h1 =>
      rintro i σ S hi ⟨y4, y5, y6, y8, xs, gs, rfl, e, dxs, g, lg, ty, eq⟩
      exact g.sqt hpz
    case h3 =>
      rintro σ S ⟨y4, y5, y6, y8, xs, gs, rfl, e, dxs, g, lg, ty, eq⟩
      rw [lz, List.drop_length, runU] at eq
      have lx : xs.length = gs.length := by
        have := dpA_len dxs
        rw [List.length_map] at this
        exact this
      obtain ⟨n, hn⟩ : ∃ n, gs.length = n + 1 := ⟨gs.length - 1, by omega⟩
      have hg : gs[n]? = some (gs[n]'(by omega)) := List.getElem?_eq_getElem _
      generalize gs[n]'(by omega) = gv at hg
      obtain ⟨v, hv, dv⟩ := dpA_map dxs hg
      have hl : gs.getLast? = some gv := by
        rw [List.getLast?_eq_getElem?, hn]
        exact hg
      refine ⟨_, rfl, 1, rfl, gl, xs, -1, v, rfl, rfl, .inl (.inl e), at_neg (by omega) hv, q S v g ?_⟩
      unfold outU
      rw [eq]
      dsimp only
      rw [hl]
      exact dv
    case h2 =>
      rintro i v σ S' S hi' ⟨y4, y5, y6, y8, xs, gs, rfl, e, dxs, g, lg, ty, eq⟩ ⟨rfl, hv⟩
      obtain ⟨du, hdu, dv⟩ := dpA_at hzs hv
      rw [List.getElem?_map] at hdu
      obtain ⟨r, hr', rfl⟩ := Option.map_eq_some_iff.mp hdu
      rw [drop_at hr', runU] at eq
      obtain ⟨hm, fit⟩ := gu.ok i r hr'
      obtain ⟨p, qh, rfl, hp, hqh⟩ := dp_ur (g.kd.dp dv)
      have ge := go.ok _ hm
      have hx1 := hx.gr g
      obtain ⟨pf, ph, pd, fxs, rfl, hpf, hph, hpd, dd⟩ := id hx1
      have lfx : fxs.length = f.ds.length := by
        have := dpA_len dd
        rw [List.length_map] at this
        exact this
      have lx : xs.length = i := by
        have := dpA_len dxs
        rw [List.length_map] at this
        omega
      refine ⟨p, _, rfl, hp, rfl, _, _, rfl, _, _, rfl, rfl, ?_⟩
      -- takes
      refine ⟨_, rfl, pf, _, 1, _, rfl, rfl, hpf, rfl, pd, rfl, ⟨_, hpd⟩, fun D nD => ?_⟩
      refine lc_it (walk_tup (xs := fxs)) (fun j S2 => ∃ ws, S2 D = some (.lst ws) ∧ DpAll K S2 ws (((f.ds.take j).filter (isNm r.e.nm)).map tkD) ∧ Gr S S2) ⟨[], upd_same, .nil, Gr.new nD⟩ ?t0 ?t1 ?t2
      case t0 =>
        rintro j S2 hj ⟨_, _, _, g2⟩
        exact g2.sqt hpd
      case t1 =>
        rintro j b S2' S2 hj ⟨ws, eD, dws, g2⟩ ⟨rfl, hb⟩
        obtain ⟨e', he', de'⟩ := dpA_de dd hb
        obtain ⟨pe', n1, t1, v1, rfl, hpe', dn, dt, dg⟩ := dp_3 (g2.kd.dp de')
        cases dp_str dn
        refine ⟨rfl, _, rfl, pe', _, 0, _, rfl, rfl, hpe', rfl, _, rfl, rfl, _, rfl, ?_⟩
        have ed : decide (V.str e'.nm = V.str r.e.nm) = isNm r.e.nm e' := by
          unfold isNm
          by_cases c : e'.nm = r.e.nm
          · rw [c, decide_eq_true rfl, decide_eq_true rfl]
          · rw [decide_eq_false (fun z => c (V.str.inj z)), decide_eq_false c]
        rw [ed]
        cases hc : isNm r.e.nm e' with
        | false =>
          refine iteF ⟨ws, eD, ?_, g2⟩
          rw [take_filt (isNm r.e.nm) he', hc]
          simpa using dws
        | true =>
          have lw : ws.length ≤ 8 := by
            have a1 := dpA_len dws
            rw [List.length_map] at a1
            have a2 := List.length_filter_le (isNm r.e.nm) (f.ds.take j)
            rw [List.length_take] at a2
            omega
          refine iteT ⟨_, rfl, pe', _, 1, _, rfl, rfl, hpe', rfl, ws, eD, SfC.small1000 (by omega), ws ++ [t1], upd_same, ?_, g2.upd_new nD⟩
          rw [take_filt (isNm r.e.nm) he', hc, if_pos rfl, List.map_append]
          exact Kt.dpA (kt_lst eD) (dpA_app dws (.cons dt .nil)) (by rw [← List.map_append]; exact noLA_map _ noL_tk _)
      case t2 =>
      rintro S2 ⟨ws, eD, dws, g2⟩
      rw [lfx, List.take_length, only_nm go.up hm] at dws
      obtain ⟨w0, wr, rfl, dw0, dwr⟩ := dpA_cons dws
      cases dpA_nil dwr
      obtain ⟨pt, ts, rfl, hpt, hts⟩ := dp_tup dw0
      cases dpA_kns hts
      refine ⟨D, _, 0, _, rfl, rfl, .inl (.inl eD), rfl, ?_⟩
      have mt := th_mt go gu hr' lg ty
      have lt' := mt.len
      have hph2 := hph.gr g2
      have hpf2 := g2.sqt hpf
      refine ⟨_, rfl, _, rfl, qh, pt, hsV r.hs, r.e.tk.map Kn.v, rfl, .inr ⟨g2.sqt hqh, hpt, fun D2 nD2 => ?_⟩⟩
      refine lc_it (walk_zipT (xs := hsV r.hs) (ys := r.e.tk.map Kn.v) (by rw [List.length_map, hsV_len]; exact fit.len)) (fun j S3 => ∃ zs, S3 D2 = some (.lst zs) ∧ DpAll K S3 zs (((thL gs r).take j).map Gv.d) ∧ Gr S2 S3) ⟨[], upd_same, .nil, Gr.new nD2⟩ ?c0 ?c1 ?c2
      case c0 =>
        rintro j S3 hj ⟨_, _, _, g3⟩
        exact ⟨(g2.trans g3).sqt hqh, g3.sqt hpt⟩
      case c1 =>
        rintro j v S3 S3' hj ⟨ws, eD2, dws, g3⟩ ⟨T, c, a, rfl, nT, rfl, hc, ha⟩
        replace ha : (r.e.tk.map Kn.v)[j]? = some a := ha
        rw [List.getElem?_map] at ha
        obtain ⟨kn, hkn, rfl⟩ := Option.map_eq_some_iff.mp ha
        have gkn := ge.tk kn (List.mem_of_getElem? hkn)
        obtain ⟨h, hh, ok⟩ := fit.at hkn
        have ec : c = .int (h : Nat) := Option.some.inj (hc.symm.trans (hsV_at hh))
        subst ec
        have htl : (thL gs r)[j]? = some (thG gs kn h) := by
          unfold thL
          rw [List.getElem?_zipWith, hkn, hh]
        have k4 : Gr S3 (upd S3 T (.tup [.int (h : Nat), kn.v])) := Gr.new nT
        have hT : upd S3 T (.tup [.int (h : Nat), kn.v]) T = some (.tup [.int (h : Nat), kn.v]) := upd_same
        have eD4 := k4.lst eD2
        have dw4 := k4.kd.dpA dws
        have g4 := g3.trans k4
        generalize upd S3 T (.tup [.int (h : Nat), kn.v]) = S4 at k4 hT eD4 dw4 g4 ⊢
        have lw : ws.length ≤ 3 := by
          have h1 := dpA_len dws
          have h2 := ge.len
          rw [List.length_map, List.length_take] at h1
          omega
        have fin : ∀ (y : V), Dp K S4 y (thG gs kn h).d → ∃ acc, S4 D2 = some (.lst acc) ∧ acc.length < sizeLine ∧ ∃ zs', upd S4 D2 (.lst (acc ++ [y])) D2 = some (.lst zs') ∧ DpAll K (upd S4 D2 (.lst (acc ++ [y]))) zs' (((thL gs r).take (j + 1)).map Gv.d) ∧ Gr S2 (upd S4 D2 (.lst (acc ++ [y]))) := by
          intro y dy
          refine ⟨ws, eD4, SfC.small1000 (by omega), ws ++ [y], upd_same, ?_, g4.upd_new nD2⟩
          rw [List.take_add_one, htl, List.map_append]
          exact Kt.dpA (kt_lst eD4) (dpA_app dw4 (.cons dy .nil)) (by rw [← List.map_append]; exact noLA_map _ noL_gv _)
        refine ⟨T, [.int (h : Nat), kn.v], rfl, .inl (.inl hT), rfl, .int (h : Nat), [kn.v], rfl, kn.v, [], rfl, rfl, ?_⟩
        refine ⟨rfl, tYes_i (iteT ?_)⟩
        refine ⟨_, rfl, _, rfl, pf, _, 0, _, rfl, rfl, g4.sqt hpf2, rfl, ph, _, rfl, .inr (hph2.gr g4).sqt, flat_kn kn, SfC.flat_strs f.hd, _, rfl, ?_⟩
        rw [show (if false = true then !inV kn.v (f.hd.map V.str) else inV kn.v (f.hd.map V.str)) = kn.isH from inV_kn gkn]
        cases kn with
        | p n => exact iteF ⟨_, rfl, fin _ (.int _)⟩
        | h s =>
          have o : ((gvs u).take i)[h]? = some (.h s) := ok
          have hlt : h < i := by
            have := lt_of_at o
            rw [List.length_take] at this
            omega
          have hgs : gs[h]? = some (gs[h]'(by omega)) := List.getElem?_eq_getElem _
          obtain ⟨w', hw', dw'⟩ := dpA_map dxs hgs
          have eg : thG gs (.h s) h = gs[h]'(by omega) := by
            show gs.getD h (.num 0) = _
            rw [List.getD_eq_getElem?_getD, hgs]
            rfl
          refine iteT ⟨_, rfl, _, rfl, gl, xs, _, w', rfl, rfl, .inl (.inl ((g2.trans g4).lst e)), atI_nat hw', fin w' ?_⟩
          rw [eg]
          exact (g2.trans g4).kd.dp dw'
      case c2 =>
      rintro S3 ⟨ws, eD2, dws, g3⟩
      rw [hsV_len, ← fit.len, ← lt', List.take_length] at dws
      have gS3 := g2.trans g3
      refine ⟨_, rfl, .inl ⟨rfl, _, .inl (.inl (gS3.lst e))⟩, _, rfl, _, rfl, _, rfl, _, rfl, _, _, _, f, k, r.e, thL gs r, rfl, hx1.gr gS3, (g.trans gS3).kd.dp hy, go, gm, hm, .lst (.inl (.inl eD2)) dws, mt, fun H5 v g5 dv5 => ?_⟩
      change Dp K H5 v (gvO (stepU f k gs r)) at dv5
      have gS5 := gS3.trans g5
      have e5 := gS5.lst e
      have k6 : upd H5 gl (.lst (xs ++ [v])) gl = some (.lst (xs ++ [v])) := upd_same
      have g6 : Gr H (upd H5 gl (.lst (xs ++ [v]))) := (g.trans gS5).upd_new ngl
      have kt6 : Kt K H5 (upd H5 gl (.lst (xs ++ [v]))) := kt_lst e5
      refine ⟨gl, _, _, rfl, rfl, e5, SfC.small1000 (by omega), ?_⟩
      generalize upd H5 gl (.lst (xs ++ [v])) = H6 at k6 g6 kt6 ⊢
      have at6 : atI (xs ++ [v]) (-1) = some v := atI_last _ _
      cases hs : stepU f k gs r with
      | none =>
        rw [hs] at dv5 eq
        cases dv5
        refine ⟨_, rfl, 1, rfl, gl, _, -1, .non, rfl, rfl, .inl (.inl k6), at6, rfl, _, rfl, iteT (q H6 _ g6 ?_)⟩
        unfold outU
        rw [eq]
        exact .non
      | some gv =>
        rw [hs] at dv5 eq
        have hty := step_ty go gm gu hr' lg ty hs
        have dv5 : Dp K H5 v gv.d := dv5
        have inv : ∀ v', v' = v → ∃ (y4 y5 y6 y8 : Option V) (xs' : List V) (gs' : List Gv), [some (V.ref pf), some y, some (.ref pz), some (.ref gl), some (.str r.e.nm), some (.ref qh), some (.ref pt), none, some (.ref D2), none, none] = [some (V.ref pf), some y, some (.ref pz), some (.ref gl), y4, y5, y6, none, y8, none, none] ∧ H6 gl = some (.lst xs') ∧ DpAll K H6 xs' (gs'.map Gv.d) ∧ Gr H H6 ∧ gs'.length = i + 1 ∧ TyU f k u gs' ∧
            runU f k u [] = runU f k (u.drop (i + 1)) gs' := by
          intro v' _
          refine ⟨_, _, _, _, xs ++ [v], gs ++ [gv], rfl, k6, ?_, g6, by rw [List.length_append, lg]; rfl, hty, eq⟩
          rw [List.map_append]
          exact Kt.dpA kt6 (dpA_app (gS5.kd.dpA dxs) (.cons dv5 .nil)) (by rw [← List.map_append]; exact noLA_map _ noL_gv _)
        rcases dp_gvO dv5 with ⟨pv', rfl⟩ | ⟨n, rfl⟩
        · exact ⟨_, rfl, 1, rfl, gl, _, -1, _, rfl, rfl, .inl (.inl k6), at6, rfl, _, rfl, iteF (inv _ rfl)⟩
        · exact ⟨_, rfl, 1, rfl, gl, _, -1, _, rfl, rfl, .inl (.inl k6), at6, rfl, _, rfl, iteF (inv _ rfl)⟩
end
end SfM
/-! how great data is -/
namespace SfG
open PySem PySem.Spec PyProof.Rows L2
mutual
/-- how long it is when shown, at most -/
def wt : PyData → Nat
  | .none => 5
  | .bool _ => 5
  | .int i => i.natAbs.log2 + 3
  | .str z => 10 * z.length + 2
  | .list ds => wtA ds + 3
  | .tuple ds => wtA ds + 3
  | .dict _ => 2
def wtA : List PyData → Nat
  | [] => 0
  | d :: ds => wt d + 2 + wtA ds
end
mutual
/-- of plain texts, of numbers that can be shown, of empty dicts -/
def okd : PyData → Bool
  | .none => true
  | .bool _ => true
  | .int i => decide (i.natAbs.log2 < 1900)
  | .str z => z.cps.toList.all fun c => decide (c < 128)
  | .list ds => okdA ds
  | .tuple ds => okdA ds
  | .dict kvs => kvs.isEmpty
def okdA : List PyData → Bool
  | [] => true
  | d :: ds => okd d && okdA ds
end
theorem okd_str {z : Str} (h : okd (.str z) = true) : ∀ c ∈ z.cps.toList, c < 128 := by
  rw [okd] at h
  exact fun c hc => of_decide_eq_true (List.all_eq_true.mp h c hc)
mutual
theorem okd_able : ∀ {d : PyData}, okd d = true → d.showable = true
  | .none, _ => rfl
  | .bool _, _ => rfl
  | .int i, h => by
    rw [okd, decide_eq_true_eq] at h
    rw [PyData.showable]
    exact decide_eq_true (by omega)
  | .str z, _ => rfl
  | .list ds, h => by
    rw [okd] at h
    rw [PyData.showable]
    exact okdA_able h
  | .tuple ds, h => by
    rw [okd] at h
    rw [PyData.showable]
    exact okdA_able h
  | .dict [], _ => rfl
  | .dict (_ :: _), h => by
    rw [okd] at h
    cases h
theorem okdA_able : ∀ {ds : List PyData}, okdA ds = true → PyData.showableAll ds = true
  | [], _ => rfl
  | d :: ds, h => by
    rw [okdA, Bool.and_eq_true] at h
    rw [PyData.showableAll, okd_able h.1, okdA_able h.2]
    rfl
end
mutual
theorem okd_len : ∀ {d : PyData}, okd d = true → d.shown.length ≤ wt d
  | .none, _ => by decide
  | .bool true, _ => by decide
  | .bool false, _ => by decide
  | .int i, h => by
    have hl : i.natAbs.log2 < i.natAbs.log2 + 1 := by omega
    have e := int_text_length_le (k := i.natAbs.log2 + 1) (a := i) (by omega) hl
    show (Str.ofString (toString i)).length ≤ _
    rw [PySem.ofString_length, wt]
    omega
  | .str z, h => by
    have h1 := PySem.StrLaws.reprText_len z fun c hc => Nat.lt_of_lt_of_le (okd_str h c hc) (by decide)
    show (reprText z).length ≤ _
    rw [wt]
    omega
  | .list ds, h => by
    rw [okd] at h
    have h1 := okdA_len h
    have h2 := listText_len_le (PyData.shownAll ds)
    have h3 := PyData.shownAll_length ds
    rw [PyData.shown, wt]
    omega
  | .tuple ds, h => by
    rw [okd] at h
    have h1 := okdA_len h
    have h2 := tupleText_len_le (PyData.shownAll ds)
    have h3 := PyData.shownAll_length ds
    rw [PyData.shown, wt]
    omega
  | .dict [], _ => by decide
  | .dict (_ :: _), h => by
    rw [okd] at h
    cases h
theorem okdA_len : ∀ {ds : List PyData}, okdA ds = true → ((PyData.shownAll ds).map (·.length)).sum + 2 * ds.length ≤ wtA ds
  | [], _ => by decide
  | d :: ds, h => by
    rw [okdA, Bool.and_eq_true] at h
    have h1 := okd_len h.1
    have h2 := okdA_len h.2
    rw [PyData.shownAll, List.map_cons, List.sum_cons, List.length_cons, wtA]
    omega
end
/-! ### parts -/
theorem okdA_app : ∀ {a b : List PyData}, okdA (a ++ b) = (okdA a && okdA b)
  | [], b => by
    rw [okdA]
    simp
  | d :: a, b => by
    rw [List.cons_append, okdA, okdA, okdA_app, Bool.and_assoc]
theorem wtA_app : ∀ {a b : List PyData}, wtA (a ++ b) = wtA a + wtA b
  | [], b => by
    rw [wtA]
    simp
  | d :: a, b => by
    rw [List.cons_append, wtA, wtA, wtA_app]
    omega
theorem depA_app : ∀ {a b : List PyData}, PyData.depthAll (a ++ b) = max (PyData.depthAll a) (PyData.depthAll b)
  | [], b => by
    rw [PyData.depthAll]
    simp
  | d :: a, b => by
    rw [List.cons_append, PyData.depthAll, PyData.depthAll, depA_app]
    omega
structure Wt (d : PyData) (L D : Nat) : Prop where
  ok : okd d = true
  le : wt d ≤ L
  dep : d.depth ≤ D
structure WtA (ds : List PyData) (L D : Nat) : Prop where
  ok : okdA ds = true
  le : wtA ds ≤ L
  dep : PyData.depthAll ds ≤ D
theorem Wt.mono {d : PyData} {L D L' D' : Nat} (h : Wt d L D) (hL : L ≤ L') (hD : D ≤ D') : Wt d L' D' := ⟨h.ok, Nat.le_trans h.le hL, Nat.le_trans h.dep hD⟩
theorem WtA.mono {d : List PyData} {L D L' D' : Nat} (h : WtA d L D) (hL : L ≤ L') (hD : D ≤ D') : WtA d L' D' := ⟨h.ok, Nat.le_trans h.le hL, Nat.le_trans h.dep hD⟩
theorem WtA.nil {L D : Nat} : WtA [] L D := ⟨rfl, by rw [wtA]; omega, by rw [PyData.depthAll]; omega⟩
theorem WtA.cons {d : PyData} {ds : List PyData} {L1 L2 D : Nat} (h : Wt d L1 D) (t : WtA ds L2 D) : WtA (d :: ds) (L1 + 2 + L2) D := by
  refine ⟨?_, ?_, ?_⟩
  · rw [okdA, h.ok, t.ok]
    rfl
  · have := h.le
    have := t.le
    rw [wtA]
    omega
  · have := h.dep
    have := t.dep
    rw [PyData.depthAll]
    omega
theorem WtA.app {a b : List PyData} {L1 L2 D : Nat} (h : WtA a L1 D) (t : WtA b L2 D) : WtA (a ++ b) (L1 + L2) D := by
  refine ⟨?_, ?_, ?_⟩
  · rw [okdA_app, h.ok, t.ok]
    rfl
  · have := h.le
    have := t.le
    rw [wtA_app]
    omega
  · have := h.dep
    have := t.dep
    rw [depA_app]
    omega
theorem WtA.take {a : List PyData} {L D : Nat} (h : WtA a L D) (n : Nat) : WtA (a.take n) L D := by
  obtain ⟨h1, h2, h3⟩ := h
  rw [← List.take_append_drop n a] at h1 h2 h3
  rw [okdA_app, Bool.and_eq_true] at h1
  rw [wtA_app] at h2
  rw [depA_app] at h3
  exact ⟨h1.1, by omega, by omega⟩
theorem WtA.drop {a : List PyData} {L D : Nat} (h : WtA a L D) (n : Nat) : WtA (a.drop n) L D := by
  obtain ⟨h1, h2, h3⟩ := h
  rw [← List.take_append_drop n a] at h1 h2 h3
  rw [okdA_app, Bool.and_eq_true] at h1
  rw [wtA_app] at h2
  rw [depA_app] at h3
  exact ⟨h1.2, by omega, by omega⟩
/-- both ends of it weigh no more than it -/
theorem wtA_ends (a : List PyData) {m n : Nat} (h : m ≤ n) : wtA (a.take m) + wtA (a.drop n) ≤ wtA a := by
  have e : a.drop m = (a.drop m).take (n - m) ++ a.drop n := by
    have := (List.take_append_drop (n - m) (a.drop m)).symm
    rw [List.drop_drop, show m + (n - m) = n by omega] at this
    exact this
  have e1 : wtA a = wtA (a.take m) + wtA (a.drop m) := by rw [← wtA_app, List.take_append_drop]
  rw [e1, e, wtA_app]
  omega
theorem WtA.get {a : List PyData} {L D i : Nat} {d : PyData} (h : WtA a L D) (e : a[i]? = some d) : Wt d L D := by
  have hd : a.drop i = d :: a.drop (i + 1) := by
    obtain ⟨hi, e'⟩ := List.getElem?_eq_some_iff.mp e
    rw [List.drop_eq_getElem_cons hi, e']
  obtain ⟨h1, h2, h3⟩ := h.drop i
  rw [hd, okdA, Bool.and_eq_true] at h1
  rw [hd, wtA] at h2
  rw [hd, PyData.depthAll] at h3
  exact ⟨h1.1, by omega, by omega⟩
theorem WtA.rev : ∀ {a : List PyData} {L D : Nat}, WtA a L D → WtA a.reverse L D
  | [], _, _, _ => WtA.nil
  | d :: ds, L, D, h => by
    obtain ⟨h1, h2, h3⟩ := h
    rw [okdA, Bool.and_eq_true] at h1
    rw [wtA] at h2
    rw [PyData.depthAll] at h3
    have r : WtA ds.reverse (wtA ds) D := WtA.rev ⟨h1.2, Nat.le_refl _, by omega⟩
    rw [List.reverse_cons]
    exact (r.app (WtA.cons (L1 := wt d) ⟨h1.1, Nat.le_refl _, by omega⟩ (WtA.nil (L := 0)))).mono (by omega) (Nat.le_refl _)
theorem Wt.tup {ds : List PyData} {L D : Nat} (h : WtA ds L D) : Wt (.tuple ds) (L + 3) (D + 1) := by
  refine ⟨h.ok, ?_, ?_⟩
  · have := h.le
    rw [wt]
    omega
  · have := h.dep
    rw [PyData.depth]
    omega
theorem Wt.lst {ds : List PyData} {L D : Nat} (h : WtA ds L D) : Wt (.list ds) (L + 3) (D + 1) := by
  refine ⟨h.ok, ?_, ?_⟩
  · have := h.le
    rw [wt]
    omega
  · have := h.dep
    rw [PyData.depth]
    omega
theorem Wt.un {ds : List PyData} {L D : Nat} (h : Wt (.tuple ds) L D) : WtA ds L D ∧ PyData.depthAll ds + 1 ≤ D ∧ wtA ds + 3 ≤ L := by
  obtain ⟨h1, h2, h3⟩ := h
  rw [wt] at h2
  rw [PyData.depth] at h3
  exact ⟨⟨h1, by omega, by omega⟩, h3, h2⟩
theorem Wt.text {z : Str} {L D : Nat} (h : Wt (.str z) L D) : 10 * z.length + 2 ≤ L := by
  have := h.le
  rw [wt] at this
  exact this
theorem Wt.lit {d : PyData} {L D : Nat} (h : (okd d && decide (wt d ≤ L) && decide (d.depth ≤ D)) = true) : Wt d L D := by
  rw [Bool.and_eq_true, Bool.and_eq_true, decide_eq_true_eq, decide_eq_true_eq] at h
  exact ⟨h.1.1, h.1.2, h.2⟩
end SfG
/-! data of plain texts is shown by a plain text; str of it -/
namespace SfG
open PySem PySem.Spec PyProof.Rows L2
def AscT (z : Str) : Prop := ∀ c ∈ z.cps.toList, c < 128
theorem ascT_app {a b : Str} (ha : AscT a) (hb : AscT b) : AscT (a ++ b) := by
  intro c hc
  have hc : c ∈ TL.tl (a ++ b) := hc
  rw [TL.tl_append] at hc
  rcases List.mem_append.mp hc with h | h
  · exact ha c h
  · exact hb c h
theorem ascT_char (q c : Nat) (hq : q = 34 ∨ q = 39) (hc : c < 128) : ∀ e ∈ PySem.Builtin.Str.reprChar q c, e < 128 := by
  have h : ((List.range 128).all fun c => (PySem.Builtin.Str.reprChar 34 c).all (fun e => decide (e < 128)) && (PySem.Builtin.Str.reprChar 39 c).all (fun e => decide (e < 128))) = true := by decide +kernel
  have h1 := List.all_eq_true.mp h c (List.mem_range.mpr hc)
  rw [Bool.and_eq_true] at h1
  intro e he
  rcases hq with rfl | rfl
  · exact of_decide_eq_true (List.all_eq_true.mp h1.1 e he)
  · exact of_decide_eq_true (List.all_eq_true.mp h1.2 e he)
theorem ascT_fold (q : Nat) (hq : q = 34 ∨ q = 39) : ∀ (l : List Nat) (acc : Array Nat), (∀ c ∈ l, c < 128) → (∀ c ∈ acc.toList, c < 128) → ∀ c ∈ (l.foldl (fun out c => out ++ (PySem.Builtin.Str.reprChar q c).toArray) acc).toList, c < 128
  | [], acc, _, h => h
  | x :: r, acc, hl, h => by
    refine ascT_fold q hq r _ (fun c hc => hl c (List.mem_cons_of_mem _ hc)) fun c hc => ?_
    rw [Array.toList_append] at hc
    rcases List.mem_append.mp hc with h1 | h1
    · exact h c h1
    · exact ascT_char q x hq (hl x List.mem_cons_self) c h1
theorem ascT_repr {x : Str} (h : AscT x) : AscT (reprText x) := by
  have hq : reprQuote x = 34 ∨ reprQuote x = 39 := by
    unfold reprQuote
    split
    · exact .inl rfl
    · exact .inr rfl
  intro c hc
  unfold reprText at hc
  rw [Array.toList_push] at hc
  rcases List.mem_append.mp hc with h1 | h1
  · rw [← Array.foldl_toList] at h1
    refine ascT_fold (reprQuote x) hq x.cps.toList #[reprQuote x] h (fun c hc => ?_) c h1
    have : c = reprQuote x := by simpa using hc
    omega
  · have : c = reprQuote x := by simpa using h1
    omega
theorem ascT_lit {z : String} (h : ((Str.ofString z).cps.toList.all fun c => decide (c < 128)) = true) : AscT (Str.ofString z) := fun c hc => of_decide_eq_true (List.all_eq_true.mp h c hc)
theorem ascT_from : ∀ (ts : List Str) (k : Nat) (acc : Str), AscT acc → (∀ t ∈ ts, AscT t) → AscT (textFrom k acc ts)
  | [], _, acc, h, _ => h
  | t :: r, k, acc, h, ht => by
    refine ascT_from r (k + 1) _ (ascT_app (ascT_app h ?_) (ht t List.mem_cons_self)) fun t h => ht t (List.mem_cons_of_mem _ h)
    split
    · exact ascT_lit (by decide +kernel)
    · exact ascT_lit (by decide +kernel)
theorem ascT_join : ∀ (ts : List Str), (∀ t ∈ ts, AscT t) → AscT (Str.join ", " ts)
  | [], _ => by
    intro c hc
    cases hc
  | [x], h => h x List.mem_cons_self
  | x :: y :: r, h => ascT_app (ascT_app (h x List.mem_cons_self) (ascT_lit (by decide +kernel))) (ascT_join (y :: r) fun t ht => h t (List.mem_cons_of_mem _ ht))
theorem ascT_int (i : Int) : AscT (Str.ofString (toString i)) := by
  have nat : ∀ n : Nat, AscT (Str.ofString (toString ((n : Nat) : Int))) := fun n c hc => by
    have hc : c ∈ TL.tl (Str.ofString (toString ((n : Nat) : Int))) := hc
    rw [TL.tl_num] at hc
    have := TL.numL_digits n c hc
    omega
  cases i with
  | ofNat n => exact nat n
  | negSucc m =>
    have e : (Str.ofString (toString (Int.negSucc m))).cps.toList = 45 :: (Str.ofString (toString (((m + 1 : Nat) : Nat) : Int))).cps.toList := by
      have e1 : toString (Int.negSucc m) = "-" ++ toString (((m + 1 : Nat) : Nat) : Int) := rfl
      rw [e1, Str.ofString_eq_toList, Str.ofString_eq_toList, String.toList_append, List.map_append]
      rfl
    intro c hc
    rw [e] at hc
    rcases List.mem_cons.mp hc with h | h
    · omega
    · exact nat (m + 1) c h
mutual
theorem okd_asc : ∀ {d : PyData}, okd d = true → AscT d.shown
  | .none, _ => ascT_lit (by decide +kernel)
  | .bool true, _ => ascT_lit (by decide +kernel)
  | .bool false, _ => ascT_lit (by decide +kernel)
  | .int i, _ => ascT_int i
  | .str z, h => ascT_repr (okd_str h)
  | .list ds, h => by
    rw [okd] at h
    rw [PyData.shown]
    exact ascT_app (ascT_from _ 0 _ (ascT_lit (by decide +kernel)) (okdA_asc h)) (ascT_lit (by decide +kernel))
  | .tuple ds, h => by
    rw [okd] at h
    rw [PyData.shown]
    unfold tupleText
    refine ascT_app (ascT_app (ascT_lit (by decide +kernel)) (ascT_join _ (okdA_asc h))) ?_
    split
    · exact ascT_lit (by decide +kernel)
    · exact ascT_lit (by decide +kernel)
  | .dict [], _ => by
    intro c hc
    have h : ((PyData.dict []).shown.cps.toList.all fun c => decide (c < 128)) = true := by decide +kernel
    exact of_decide_eq_true (List.all_eq_true.mp h c hc)
  | .dict (_ :: _), h => by
    rw [okd] at h
    cases h
theorem okdA_asc : ∀ {ds : List PyData}, okdA ds = true → ∀ t ∈ PyData.shownAll ds, AscT t
  | [], _ => fun t h => by cases h
  | d :: ds, h => by
    rw [okdA, Bool.and_eq_true] at h
    intro t ht
    rw [PyData.shownAll] at ht
    rcases List.mem_cons.mp ht with rfl | ht
    · exact okd_asc h.1
    · exact okdA_asc h.2 t ht
end
/-- str(x) of data that is no text -/
def rStrD (K : PySem.W.Frag) : List V → Hp → VK → Prop := fun xs H Q =>
  ∃ (v : V) (d : PyData), xs = [v] ∧ Dp K H v d ∧ (∀ z, d ≠ .str z) ∧ d.showable = true ∧ d.hasDict = false ∧ d.depth ≤ 30 ∧ d.shown.length ≤ sizeLine ∧ Q (.str d.shown) H
theorem call_strD {X : Cx} {k : Nat} (hr : Room k X.A) (hgd : X.A.guards = some []) : CallR X (.type "str") (rStrD X.K) := by
  intro pins s σ H xs us Q I r h
  obtain ⟨v, d, rfl, hd, hns, hs, hn, hdep, hz, q⟩ := h
  obtain ⟨u, rfl, ru⟩ := vals1 r
  have hun := hr.un
  have go : ∀ a, v = .ref a → wpAny (model X.prog X.w) X.A (call (.type "str") [.ref a]) (EP X pins σ Q) X.xe s := by
    rintro a rfl
    obtain ⟨as, rd⟩ := Dp.reads I d _ _ hd (show RelV (.ref a) (.ref a) from rfl)
    refine str_of_reads rd hs (fun z => ?_) hgd (by omega) (fun _ _ z => z) (fun h' u' tk hk => ?_) hz
    · rw [hn] at z
      cases z
    · exact ⟨.str d.shown, H, I.kept hk, ⟨_, rfl⟩, q⟩
  cases hd with
  | non =>
    cases ru
    exact PySem.P.str_of_none ⟨.str _, H, I.tok _, ⟨_, rfl⟩, q⟩
  | bl b =>
    cases ru
    exact PySem.P.str_of_bool ⟨.str _, H, I.tok _, ⟨_, rfl⟩, (by cases b <;> exact q)⟩
  | int i =>
    obtain ⟨t, rfl⟩ := ru
    exact PySem.P.str_of_int (by simpa [PyData.showable] using hs) ⟨.str _, H, I.tok _, ⟨_, rfl⟩, q⟩
  | str z => exact absurd rfl (hns z)
  | lst h hx =>
    cases ru
    exact go _ rfl
  | tup h hx =>
    cases ru
    exact go _ rfl
end SfG
namespace SfC
open PySem PySem.Spec PyProof.Rows L2 SfG
/-! ### how long faces, users, makings, outcomes are shown -/
theorem isN_low {z : Str} (h : isN z = true) : ∀ c ∈ z.cps.toList, c < 128 := fun c hc => let_range (List.all_eq_true.mp (isN_txt h).2.2.2.2.2 c hc)
theorem sh_name {z : Str} {D : Nat} (h : isN z = true) : Sh (.str z) 82 (D + 1) := by
  refine ⟨rfl, rfl, by simp [PyData.depth], ?_⟩
  have h1 := PySem.StrLaws.reprText_len z fun c hc => Nat.lt_of_lt_of_le (isN_low h c hc) (by decide)
  have h2 := (isN_txt h).1
  show (reprText z).length ≤ 82
  omega
theorem shA_names {D : Nat} : ∀ {l : List Str}, (∀ z ∈ l, isN z = true) → ShA (l.map PyData.str) (l.length * 84) (D + 1)
  | [], _ => ShA.nil.mono (by omega) (Nat.le_refl _)
  | a :: r, h => by
    refine (ShA.cons (sh_name (h a List.mem_cons_self)) (shA_names (D := D) fun z hz => h z (List.mem_cons_of_mem _ hz))).mono ?_ (Nat.le_refl _)
    rw [List.length_cons, Nat.succ_mul]
    omega
theorem sh_kn {hd : List Str} {k : Kn} {D : Nat} (hn : ∀ z ∈ hd, isN z = true) (h : goK hd k) : Sh k.d 82 (D + 1) := by
  cases k with
  | h s => exact sh_name (hn s h)
  | p n =>
    refine (Sh.int (k := 4) ?_ (by decide) (by decide)).mono (by decide) (Nat.le_refl _)
    obtain ⟨h1, h2⟩ := h
    show n.natAbs < 2 ^ 4
    have e : (2 : Nat) ^ 4 = 16 := by decide
    omega
theorem shA_kns {hd : List Str} {D : Nat} (hn : ∀ z ∈ hd, isN z = true) : ∀ {l : List Kn}, (∀ k ∈ l, goK hd k) → ShA (l.map Kn.d) (l.length * 84) (D + 1)
  | [], _ => ShA.nil.mono (by omega) (Nat.le_refl _)
  | a :: r, h => by
    refine (ShA.cons (sh_kn hn (h a List.mem_cons_self)) (shA_kns (D := D) hn fun z hz => h z (List.mem_cons_of_mem _ hz))).mono ?_ (Nat.le_refl _)
    rw [List.length_cons, Nat.succ_mul]
    omega
theorem sh_de {hd : List Str} {e : De} (hn : ∀ z ∈ hd, isN z = true) (gd : goD hd e) : Sh e.d 430 3 := by
  have h1 := Sh.tup (shA_kns (D := 0) hn gd.tk)
  refine (Sh.tup (ShA.cons (sh_name (D := 1) gd.nm) (ShA.cons h1 (ShA.cons (sh_kn (D := 1) hn gd.gv) ShA.nil)))).mono ?_ (by decide)
  have a1 := gd.len
  omega
theorem shA_de {hd : List Str} (hn : ∀ z ∈ hd, isN z = true) : ∀ {l : List De}, (∀ e ∈ l, goD hd e) → ShA (l.map De.d) (l.length * 432) 3
  | [], _ => ShA.nil.mono (by omega) (Nat.le_refl _)
  | a :: r, h => by
    refine (ShA.cons (sh_de hn (h a List.mem_cons_self)) (shA_de hn fun z hz => h z (List.mem_cons_of_mem _ hz))).mono ?_ (Nat.le_refl _)
    rw [List.length_cons, Nat.succ_mul]
    omega
theorem sh_face {f : Fc} (go : goF f) : Sh f.d 10000 5 := by
  have h1 := Sh.tup (shA_names (D := 2) go.hid.nm)
  have h2 := Sh.tup (shA_de go.hid.nm go.ok)
  refine (Sh.tup (ShA.cons h1 (ShA.cons h2 ShA.nil))).mono ?_ (by decide)
  have a1 := go.hid.hi
  have a2 := go.hi
  omega
theorem shA_ns {D : Nat} : ∀ {l : List Nat}, (∀ x ∈ l, x < 200) → ShA (hsD l) (l.length * 11) (D + 1)
  | [], _ => ShA.nil.mono (by omega) (Nat.le_refl _)
  | a :: r, h => by
    have ha : Sh (.int ((a : Nat) : Int)) 9 (D + 1) := Sh.int (k := 8) (by
      have := h a List.mem_cons_self
      have e : (2 : Nat) ^ 8 = 256 := by decide
      omega) (by decide) (by decide)
    refine (ShA.cons ha (shA_ns (D := D) fun x hx => h x (List.mem_cons_of_mem _ hx))).mono ?_ (Nat.le_refl _)
    rw [List.length_cons, Nat.succ_mul]
    omega
end SfC
namespace SfM
open PySem PySem.Spec PyProof.Rows L2 SfG SfC
theorem GoU.lt {f : Fc} {u : List Ur} (go : goF f) (gu : GoU f u) {r : Ur} (hr : r ∈ u) : r.e ∈ f.ds ∧ r.hs.length ≤ 3 ∧ ∀ h ∈ r.hs, h < 200 := by
  obtain ⟨i, hi⟩ := List.mem_iff_getElem?.mp hr
  obtain ⟨hm, fit⟩ := gu.ok i r hi
  have ge := go.ok _ hm
  have ll := fit.len
  refine ⟨hm, by have := ge.len; omega, fun h hh => ?_⟩
  obtain ⟨j, hj⟩ := List.mem_iff_getElem?.mp hh
  have hlt := lt_of_at hj
  have hk : r.e.tk[j]? = some (r.e.tk[j]'(by omega)) := List.getElem?_eq_getElem _
  obtain ⟨h', hh', ok⟩ := fit.at hk
  have e : h' = h := Option.some.inj (hh'.symm.trans hj)
  rw [e] at ok
  refine okH_lt (ge.tk _ (List.mem_of_getElem? hk)) ?_ ok
  have := gu.hi
  unfold gvs
  rw [List.length_take, List.length_map]
  omega
theorem sh_ur {f : Fc} {u : List Ur} (go : goF f) (gu : GoU f u) {r : Ur} (hr : r ∈ u) : Sh r.d 130 3 := by
  obtain ⟨hm, l3, hs⟩ := GoU.lt go gu hr
  have h1 := Sh.tup (shA_ns (D := 0) hs)
  refine (Sh.tup (ShA.cons (sh_name (D := 1) (go.ok _ hm).nm) (ShA.cons h1 ShA.nil))).mono ?_ (by decide)
  omega
theorem shA_us : ∀ {u : List Ur}, (∀ r ∈ u, Sh r.d 130 3) → ShA (u.map Ur.d) (u.length * 132) 3
  | [], _ => ShA.nil.mono (by omega) (Nat.le_refl _)
  | a :: r, h => by
    refine (ShA.cons (h a List.mem_cons_self) (shA_us fun z hz => h z (List.mem_cons_of_mem _ hz))).mono ?_ (Nat.le_refl _)
    rw [List.length_cons, Nat.succ_mul]
    omega
theorem sh_us {f : Fc} {u : List Ur} (go : goF f) (gu : GoU f u) : Sh (usD u) 30000 4 := by
  refine (Sh.tup (shA_us fun r hr => sh_ur go gu hr)).mono ?_ (Nat.le_refl _)
  have := gu.hi
  omega
theorem sh_w {D : Nat} {x : Str} (h : (PyData.shown (.str x)).length ≤ 8 := by decide +kernel) : Sh (.str x) 8 (D + 1) := ⟨rfl, rfl, by simp [PyData.depth], h⟩
theorem sh_opw {D : Nat} (w : Nat) : Sh (.str (opw w)) 8 (D + 1) := by
  unfold opw
  split <;> exact sh_w
theorem sh_100 {D : Nat} {n : Int} (h0 : 0 ≤ n) (h : n ≤ 99) : Sh (.int n) 8 (D + 1) := Sh.int (k := 7) (by show n.natAbs < 128; omega) (by decide) (by decide)
def smC (cs : List Nat) : Prop := cs.length ≤ 3 ∧ ∀ c ∈ cs, c ≤ 3
theorem sh_ex {cs : List Nat} (hc : smC cs) : ∀ {e : Ex}, okE cs e → Sh e.d (40 * ptE e) (dep e + 1)
  | .num n, h => (Sh.tup (ShA.cons (sh_w (D := 0)) (ShA.cons (sh_100 h.1 h.2) ShA.nil))).mono (by simp only [ptE]; omega) (by simp only [dep]; omega)
  | .inp k f, ⟨c, hk, hf⟩ => by
    have h1 := lt_of_at hk
    have h2 := hc.2 c (List.mem_of_getElem? hk)
    have h3 := hc.1
    exact (Sh.tup (ShA.cons (sh_w (D := 0)) (ShA.cons (sh_100 (by omega) (by omega)) (ShA.cons (sh_100 (by omega) (by omega)) ShA.nil)))).mono (by simp only [ptE]; omega) (by simp only [dep]; omega)
  | .bin w a b, h => by
    have ha := (sh_ex hc h.2.1).mono (Nat.le_refl _) (show dep a + 1 ≤ dep (.bin w a b) by simp only [dep]; omega)
    have hb := (sh_ex hc h.2.2).mono (Nat.le_refl _) (show dep b + 1 ≤ dep (.bin w a b) by simp only [dep]; omega)
    obtain ⟨n, hn⟩ : ∃ n, dep (.bin w a b) = n + 1 := ⟨max (dep a) (dep b), by simp only [dep]; omega⟩
    rw [hn] at ha hb ⊢
    exact (Sh.tup (ShA.cons (sh_opw w) (ShA.cons ha (ShA.cons hb ShA.nil)))).mono (by simp only [ptE]; omega) (Nat.le_refl _)
  | .rst a n, h => by
    have ha := (sh_ex hc h.2.2).mono (Nat.le_refl _) (show dep a + 1 ≤ dep (.rst a n) by simp only [dep]; omega)
    obtain ⟨m, hm⟩ : ∃ m, dep (.rst a n) = m + 1 := ⟨dep a, by simp only [dep]; omega⟩
    rw [hm] at ha ⊢
    have h1 := h.1
    exact (Sh.tup (ShA.cons sh_w (ShA.cons ha (ShA.cons (sh_100 (by omega) h.2.1) ShA.nil)))).mono (by simp only [ptE]; omega) (Nat.le_refl _)
  | .iff a b c, h => by
    have ha := (sh_ex hc h.1).mono (Nat.le_refl _) (show dep a + 1 ≤ dep (.iff a b c) by simp only [dep]; omega)
    have hb := (sh_ex hc h.2.1).mono (Nat.le_refl _) (show dep b + 1 ≤ dep (.iff a b c) by simp only [dep]; omega)
    have hc' := (sh_ex hc h.2.2).mono (Nat.le_refl _) (show dep c + 1 ≤ dep (.iff a b c) by simp only [dep]; omega)
    obtain ⟨n, hn⟩ : ∃ n, dep (.iff a b c) = n + 1 := ⟨max (dep a) (max (dep b) (dep c)), by simp only [dep]; omega⟩
    rw [hn] at ha hb hc' ⊢
    exact (Sh.tup (ShA.cons sh_w (ShA.cons ha (ShA.cons hb (ShA.cons hc' ShA.nil))))).mono (by simp only [ptE]; omega) (Nat.le_refl _)
theorem shA_ex {cs : List Nat} (hc : smC cs) {D : Nat} : ∀ {es : List Ex}, (∀ e ∈ es, okE cs e ∧ dep e + 1 ≤ D) → ShA (es.map Ex.d) (42 * ptEs es) D
  | [], _ => ShA.nil.mono (by omega) (Nat.le_refl _)
  | a :: r, h => by
    have h1 := h a (.head _)
    have e : ptEs (a :: r) = ptE a + ptEs r := by
      unfold ptEs
      rw [List.map_cons, List.sum_cons]
    have p := ptE_pos a
    rw [e]
    exact (ShA.cons ((sh_ex hc h1.1).mono (Nat.le_refl _) h1.2) (shA_ex hc fun x hx => h x (.tail _ hx))).mono (by omega) (Nat.le_refl _)
theorem sh_bd {cs : List Nat} {m : Nat} (hc : smC cs) : ∀ {b : Bd}, bdOk cs m b → Sh b.d (50 * ptB b) (dpB b + 2)
  | .ref, _ => (Sh.tup (ShA.cons (sh_w (D := 0)) ShA.nil)).mono (by simp only [ptB]; omega) (by simp only [dpB]; omega)
  | .giv es, h => by
    have h1 := Sh.tup (shA_ex hc (D := dpEs es + 1) fun e he => ⟨h.2 e he, by have := dpEs_mem he; omega⟩)
    exact (Sh.tup (ShA.cons sh_w (ShA.cons h1 ShA.nil))).mono (by simp only [ptB]; omega) (by simp only [dpB]; omega)
  | .whn e a b, h => by
    have he := (sh_ex hc h.1).mono (Nat.le_refl _) (show dep e + 1 ≤ dpB (.whn e a b) + 1 by simp only [dpB]; omega)
    have ha := (sh_bd hc h.2.1).mono (Nat.le_refl _) (show dpB a + 2 ≤ dpB (.whn e a b) + 1 by simp only [dpB]; omega)
    have hb := (sh_bd hc h.2.2).mono (Nat.le_refl _) (show dpB b + 2 ≤ dpB (.whn e a b) + 1 by simp only [dpB]; omega)
    exact (Sh.tup (ShA.cons sh_w (ShA.cons he (ShA.cons ha (ShA.cons hb ShA.nil))))).mono (by simp only [ptB]; omega) (Nat.le_refl _)
theorem sh_sh {s : List Nat} (h : goS s) {D : Nat} : Sh (shD s) 30 (D + 2) := by
  have h1 := ShA.ints (k := 4) (D := D) (by decide) (by decide) (l := s.map fun n : Nat => ((n : Nat) : Int)) (fun x hx => by
    obtain ⟨n, hn, rfl⟩ := List.mem_map.mp hx
    have := h.bd n hn
    show ((n : Nat) : Int).natAbs < 16
    omega)
  rw [List.map_map, List.length_map] at h1
  have := h.hi
  exact (Sh.tup h1).mono (by omega) (Nat.le_refl _)
theorem shA_sh {D : Nat} : ∀ {l : List (List Nat)}, (∀ s ∈ l, goS s) → ShA (l.map shD) (l.length * 32) (D + 2)
  | [], _ => ShA.nil.mono (by omega) (Nat.le_refl _)
  | a :: r, h => by
    refine (ShA.cons (sh_sh (h a (.head _))) (shA_sh fun x hx => h x (.tail _ hx))).mono ?_ (Nat.le_refl _)
    rw [List.length_cons, Nat.succ_mul]
    omega
theorem shA_bd : ∀ {l : List Bd}, (∀ b ∈ l, Sh b.d 3000 10) → ShA (l.map Bd.d) (l.length * 3002) 10
  | [], _ => ShA.nil.mono (by omega) (Nat.le_refl _)
  | a :: r, h => by
    refine (ShA.cons (h a (.head _)) (shA_bd fun x hx => h x (.tail _ hx))).mono ?_ (Nat.le_refl _)
    rw [List.length_cons, Nat.succ_mul]
    omega
theorem sh_mk {f : Fc} {k : Mk} (go : goF f) (gm : goM f k) : Sh k.d 25000 12 := by
  have hb : ∀ b ∈ k.bds, Sh b.d 3000 10 := fun b hb => by
    obtain ⟨i, hi⟩ := List.mem_iff_getElem?.mp hb
    have hlt := lt_of_at hi
    have hl := gm.lb
    have he : f.ds[i]? = some (f.ds[i]'(by omega)) := List.getElem?_eq_getElem _
    have g := gm.bd i _ b he hi
    have ge := go.ok _ (List.mem_of_getElem? he)
    have sm : smC ((f.ds[i]'(by omega)).tk.map (fds f k.shs)) := ⟨by rw [List.length_map]; exact ge.len, fun c hc => by
      obtain ⟨kn, hkn, rfl⟩ := List.mem_map.mp hc
      exact (fds_le gm.ls gm.sh (ge.tk kn hkn)).2⟩
    have hp := g.pt
    have hd := g.dp
    exact (sh_bd sm g.ok).mono (by omega) (by omega)
  have h1 := Sh.tup (shA_sh (D := 8) gm.sh)
  have h2 := Sh.tup (shA_bd hb)
  have l1 := gm.ls
  have l2 := gm.lb
  have l3 := go.hid.hi
  have l4 := go.hi
  exact (Sh.tup (ShA.cons h1 (ShA.cons h2 ShA.nil))).mono (by omega) (Nat.le_refl _)
theorem run_ty {f : Fc} {k : Mk} {u : List Ur} (go : goF f) (gm : goM f k) (gu : GoU f u) : ∀ (n i : Nat) (gs gs' : List Gv), u.length - i = n → gs.length = i → TyU f k u gs → runU f k (u.drop i) gs = some gs' → TyU f k u gs'
  | 0, i, gs, gs', hn, hl, ty, h => by
    rw [List.drop_eq_nil_of_le (by omega), runU] at h
    cases h
    exact ty
  | n + 1, i, gs, gs', hn, hl, ty, h => by
    have hi : i < u.length := by omega
    have hr : u[i]? = some u[i] := List.getElem?_eq_getElem hi
    rw [drop_at hr, runU] at h
    cases hs : stepU f k gs u[i] with
    | none =>
      rw [hs] at h
      cases h
    | some g =>
      rw [hs] at h
      exact run_ty go gm gu n (i + 1) (gs ++ [g]) gs' (by omega) (by rw [List.length_append, hl]; rfl) (step_ty go gm gu hr hl ty hs) h
theorem sh_gv {f : Fc} {k : Mk} (gm : goM f k) {kn : Kn} (hk : goK f.hd kn) {g : Gv} (h : mtG f k.shs kn g) : Sh g.d 200 4 := by
  cases g with
  | num n =>
    cases kn with
    | h s => exact h.elim
    | p m => exact (Sh.int (k := 51) h (by decide) (by decide)).mono (by decide) (Nat.le_refl 4)
  | wth l =>
    cases kn with
    | p m => exact h.elim
    | h s =>
      have l3 := (fds_le gm.ls gm.sh hk).2
      have h1 := ShA.ints (k := 51) (D := 2) (by decide) (by decide) h.2
      have h2 := h.1
      exact (Sh.tup h1).mono (by omega) (Nat.le_refl _)
theorem okd_int51 {x : Int} (h : x.natAbs < 2 ^ 51) : okd (.int x) = true := by
  rw [okd]
  refine decide_eq_true ?_
  by_cases z : x.natAbs = 0
  · rw [z]
    decide
  · have := (Nat.log2_lt z).mpr h
    omega
theorem okd_ints : ∀ {l : List Int}, (∀ x ∈ l, x.natAbs < 2 ^ 51) → okdA (l.map .int) = true
  | [], _ => by rw [List.map_nil, okdA]
  | a :: r, h => by
    rw [List.map_cons, okdA, okd_int51 (h a (.head _)), okd_ints fun x hx => h x (.tail _ hx)]
    rfl
theorem okd_gv {f : Fc} {k : Mk} {kn : Kn} {g : Gv} (h : mtG f k.shs kn g) : okd g.d = true := by
  cases g with
  | num n =>
    cases kn with
    | h s => exact h.elim
    | p m => exact okd_int51 h
  | wth l =>
    cases kn with
    | p m => exact h.elim
    | h s =>
      rw [Gv.d, okd]
      exact okd_ints h.2
/-- what an outcome is, how long it is shown -/
theorem sh_out {f : Fc} {k : Mk} {u : List Ur} (go : goF f) (gm : goM f k) (gu : GoU f u) : Sh (gvO (outU f k u)) 200 4 ∧ okd (gvO (outU f k u)) = true := by
  cases hr : runU f k u [] with
  | none =>
    unfold outU
    rw [hr]
    exact ⟨(Sh.non (D := 3)).mono (by decide) (Nat.le_refl _), by show okd .none = true; rw [okd]⟩
  | some gs =>
    have ty := run_ty go gm gu u.length 0 [] gs (by omega) rfl (fun j r g _ h => by simp at h) hr
    have hl := run_len hr
    have lo := gu.lo
    have e : outU f k u = gs.getLast? := by
      unfold outU
      rw [hr]
    rw [e, List.getLast?_eq_getElem?]
    have hl' : gs.length = u.length := by simpa using hl
    have hg : gs[gs.length - 1]? = some (gs[gs.length - 1]'(by omega)) := List.getElem?_eq_getElem _
    have hu : u[gs.length - 1]? = some (u[gs.length - 1]'(by omega)) := List.getElem?_eq_getElem _
    rw [hg]
    have hm := (gu.ok _ _ hu).1
    exact ⟨sh_gv gm (go.ok _ hm).gv (ty _ _ _ hu hg), okd_gv (ty _ _ _ hu hg)⟩
/-- texts of lists are alike to themselves -/
theorem strOk_asc {z : Str} (h : AscT z) : PyData.strOk z = true := by
  unfold PyData.strOk
  rw [← Array.all_toList]
  refine List.all_eq_true.mpr ?_
  intro c hc
  have := h c hc
  exact decide_eq_true (by omega)
theorem strs_lay {l : List Str} (h : ∀ z ∈ l, AscT z) : PyData.canLayAll0 (l.map PyData.str) = true := by
  induction l with
  | nil => rfl
  | cons a r ih =>
    rw [List.map_cons, PyData.canLayAll0, ih fun z hz => h z (List.mem_cons_of_mem _ hz), PyData.canLay0, strOk_asc (h a List.mem_cons_self)]
    rfl
theorem strs_shape {l : List Str} (h : ∀ z ∈ l, AscT z) : SeqAt.shaped (.list (l.map .str)) = true := by
  have h2 : PyData.depthAll (l.map PyData.str) ≤ 1 := by
    clear h
    induction l with
    | nil => simp [PyData.depthAll]
    | cons a r ih => simp only [List.map_cons, PyData.depthAll, PyData.depth]; omega
  unfold SeqAt.shaped
  rw [PyData.canLay0, strs_lay h]
  refine decide_eq_true ?_
  rw [PyData.depth]
  omega
theorem strs_self {l : List Str} (h : ∀ z ∈ l, AscT z) : PyData.eqv (.list (l.map .str)) (.list (l.map .str)) = true := by
  refine SeqAt.eqv_refl _ ?_
  rw [PyData.canLay0, strs_lay h]
theorem dpA_strs' {K : PySem.W.Frag} {H : Hp} : ∀ l : List Str, DpAll K H (l.map V.str) (l.map PyData.str)
  | [] => .nil
  | a :: r => .cons (.str a) (dpA_strs' r)
theorem noL_mk (k : Mk) : noL k.d = true := by
  unfold Mk.d
  rw [noL, noLA, noLA, noLA, noL, noL, noLA_map _ noL_sh, noLA_map _ noL_bd]
  rfl
end SfM
namespace SfM
open PySem PySem.Spec PyProof.Rows L2 SfG SfC
/-! ### the law of k21 -/
abbrev nLaw : List Str := ["_law_script", "_law_m", "_law_k", "_law_face_here", "_law_makings", "_law_turn", "_law_users", "_law_kept", "_law_due", "_law_making_here", "_law_user_here", "_law_number"]
theorem scLaw : FnScope nLaw ["_law_script"] (defScope sLaw) := ⟨rfl, rfl, rfl, by decide +kernel, rfl, by decide +kernel, by decide +kernel⟩
def scMkS : Scope := { kind := .function, names := [(".0", .local), ("_law_making_here", .cell), ("_law_face_here", .cell), ("_law_users", .cell)], isGenerator := false, isCoroutine := false }
def scUsS : Scope := { kind := .function, names := [(".0", .local), ("_law_user_here", .local), ("repr", .globalImplicit), ("_law_outcome", .globalImplicit), ("_law_face_here", .free), ("_law_making_here", .free)], isGenerator := false, isCoroutine := false }
theorem two_of {α : Type} {l : List α} (h : l.length = 2) : ∃ a b, l = [a, b] := by
  match l, h with
  | [a, b], _ => exact ⟨a, b, rfl⟩
def tU (f : Fc) (k : Mk) (u : List Ur) : Str := (gvO (outU f k u)).shown
theorem shA_uss {f : Fc} (go : goF f) : ∀ {us : List (List Ur)}, (∀ u ∈ us, GoU f u) → ShA (us.map usD) (us.length * 30002) 4
  | [], _ => ShA.nil.mono (by omega) (Nat.le_refl _)
  | a :: r, h => by
    refine (ShA.cons (sh_us go (h a (.head _))) (shA_uss go fun x hx => h x (.tail _ hx))).mono ?_ (Nat.le_refl _)
    rw [List.length_cons, Nat.succ_mul]
    omega
theorem sh_kept {f : Fc} {k1 k2 : Mk} {us : List (List Ur)} (go : goF f) (g1 : goM f k1) (g2 : goM f k2) (gu : ∀ u ∈ us, GoU f u) (hl : us.length ≤ 4) : Sh (.tuple [f.d, .list [k1.d, k2.d], .list (us.map usD)]) 300000 20 := by
  have h1 := (sh_face go).mono (Nat.le_refl _) (show 5 ≤ 13 by decide)
  have h2 := Sh.lst (ShA.cons (sh_mk go g1) (ShA.cons (sh_mk go g2) ShA.nil))
  have h3 := (Sh.lst (shA_uss go gu)).mono (Nat.le_refl _) (show 4 + 1 ≤ 13 by decide)
  exact (Sh.tup (ShA.cons h1 (ShA.cons h2 (ShA.cons h3 ShA.nil)))).mono (by omega) (by decide)
/-- what an outcome is, in the heap -/
theorem out_v {K : PySem.W.Frag} {H : Hp} {v : V} {o : Option Gv} (h : Dp K H v (gvO o)) : v = .non ∨ (∃ i, v = .int i) ∨ ∃ a, v = .ref a := by
  cases o with
  | none =>
    cases h
    exact .inl rfl
  | some g =>
    rcases dp_gvO (show Dp K H v g.d from h) with ⟨p, rfl⟩ | ⟨n, rfl⟩
    · exact .inr (.inr ⟨p, rfl⟩)
    · exact .inr (.inl ⟨n, rfl⟩)
section
variable {P : Program} {w : World} {K : PySem.W.Frag} {mg : Str → Option Value} {base : Heap}
def spLaw (K : PySem.W.Frag) : Sp := fun vs H Q _ => ∃ (a : Addr) (ns : List Int), vs = [.ref a] ∧ SqL K H a (ns.map V.int) ∧ ns.length ≤ 63 ∧ ∀ H', Q (.bl true) H'
structure Calls (P : Program) (w : World) (K : PySem.W.Frag) (mg : Str → Option Value) (base : Heap) (k : Nat) (fS fF fM fU fO fD fL fC : Addr) (dS dF dM dU dO dD dL dC : FuncData) : Prop where
  ST : Has P w K mg base k "_law_started" ["_law_script"] (spStarted K) fS dS
  FC : Has P w K mg base k "_law_face" ["_law_m", "_law_most"] (spLFace K) fF dF
  MK : Has P w K mg base k "_law_making" ["_law_m", "_law_face_here"] (spLMak K) fM dM
  US : Has P w K mg base k "_law_user" ["_law_m", "_law_face_here", "_law_many"] (spLUser K) fU dU
  OF : Has P w K mg base k "_law_of" ["_law_m", "_law_some"] (spOf K) fO dO
  DR : Has P w K mg base k "_law_draw" ["_law_m", "_law_many"] (spDrw K) fD dD
  LO : Has P w K mg base k "_law_outcome" ["_law_face_here", "_law_making_here", "_law_user_here"] (spOutc K) fL dL
  OC : Has P w K mg base k "outcome" ["face", "making", "user"] (spOutc K) fC dC
  ml : mg "len" = none
  mr : mg "range" = none
  mx : mg "max" = none
  mn : mg "min" = none
  mp : mg "repr" = none
set_option maxHeartbeats 16000000 in
theorem ok_law {f fS fF fM fU fO fD fL fC : Addr} {fd dS dF dM dU dO dD dL dC : FuncData} {k : Nat} (F : Fun K "law" "law" sLaw f fd) (C : Calls P w K mg base k fS fF fM fU fO fD fL fC dS dF dM dU dO dD dL dC) : FnG P w K mg base CX0 (k + 1) f fd ["_law_script"] (spLaw K) := by
  refine fng_of F scLaw (fun vs H Q E h => ?_) (fun cdv A outer s H vs Q E hr hgd h => ?_)
  · obtain ⟨a, ns, rfl, _⟩ := h
    rfl
  · obtain ⟨a, ns, rfl, hS, hlen, q⟩ := h
    have nd := scLaw.nd
    refine' ⟨_, pss_cons ?s1 (pss_cons ?s2 (pss_one ?s3)), ?rd⟩
    case s1 => exact ps_set (i := 1) nd rfl (.inr rfl) (hcall C.ST hr (pa_cons (pv 0) pa_nil))
    case s2 =>
      refine' ps_for PassesOwn.never rfl (pi_range1 rfl C.mr (pa_cons (pe_callB (call_max2 rfl) (by rfl) C.mx (by decide +kernel) (pa_cons pe_int (pa_cons (pe_callB (call_min2 rfl) (by rfl) C.mn (by decide +kernel) (pa_cons pe_int (pa_cons (pe_callB call_len_seq (by rfl) C.ml PySem.boot_len (pa_cons (pv 0) pa_nil)) pa_nil))) pa_nil))) pa_nil))
        (pg_name (i := 2) nd rfl (.inl rfl)) (pss_cons ?b1 (pss_cons ?b2 (pss_cons ?b3 (pss_cons ?b4 (pss_cons ?b5 (pss_cons ?b6 (pss_cons ?b7 (pss_one ?b8))))))))
      case b1 => exact ps_set (i := 3) nd rfl (.inr rfl) (hcall C.FC hr (pa_cons (pv 1) (pa_cons pe_int pa_nil)))
      case b2 =>
        exact ps_set (i := 4) nd rfl (.inr rfl) (pe_lc (own := [("_law_turn", 5)]) (g := gName 5) rfl nd (pi_range1 (by rfl) C.mr (pa_cons pe_int pa_nil)) (blkOk_by (own := [("_law_turn", 5)]) (N := nLaw) (sc := defScope sLaw) (by decide +kernel))
          (fun _ _ _ _ _ => pg_name (i := 5) nd rfl (.inl rfl)) (fun _ _ _ _ _ => pts_nil) (fun _ _ _ _ _ => hcall C.MK hr (pa_cons (pv 1) (pa_cons (pv 3) pa_nil))))
      case b3 =>
        exact ps_set (i := 6) nd rfl (.inr rfl) (pe_lc (own := [("_law_turn", 5)]) (g := gName 5) rfl nd (pi_range1 (by rfl) C.mr (pa_cons pe_int pa_nil)) (blkOk_by (own := [("_law_turn", 5)]) (N := nLaw) (sc := defScope sLaw) (by decide +kernel))
          (fun _ _ _ _ _ => pg_name (i := 5) nd rfl (.inl rfl)) (fun _ _ _ _ _ => pts_nil) (fun _ _ _ _ _ => hcall C.US hr (pa_cons (pv 1) (pa_cons (pv 3) (pa_cons (hcall C.OF hr (pa_cons (pv 1) (pa_cons (pe_lst (pa_cons pe_int (pa_cons pe_int (pa_cons pe_int (pa_cons pe_int (pa_cons pe_int (pa_cons pe_int pa_nil))))))) pa_nil))) pa_nil)))))
      case b4 =>
        exact ps_if (PW.pt (pw_and (pt_cmpR op_eq (pv 2) pe_int (nomark _)) (pw_and1 (pt_cmpR op_eq (hcall C.DR hr (pa_cons (pv 1) (pa_cons pe_int pa_nil))) pe_int (nomark _)))))
          (pss_one (ps_expr (pe_bm PySem.F.plainAttrs_list PySem.F.slot_list_append PySem.F.type_list_append mt_append (pv 6) (pa_cons (hcall C.US hr (pa_cons (pv 1) (pa_cons (pv 3) (pa_cons pe_int pa_nil)))) pa_nil)))) pss_nil
      case b5 => exact ps_set (i := 7) nd rfl (.inl rfl) (pe_callB (call_repr hr hgd) (by rfl) C.mp (by decide +kernel) (pa_cons (pe_tup (pa_cons (pv 3) (pa_cons (pv 4) (pa_cons (pv 6) pa_nil)))) pa_nil))
      case b6 =>
        exact ps_setLc (i := 8) (own := [("_law_making_here", 9)]) (g := gName 9) rfl nd rfl rfl (sw_true rfl rfl rfl (by decide +kernel)) (pi_list (pv 4)) (blkOk_by (own := [("_law_making_here", 9)]) (N := nLaw) (sc := defScope sLaw) (by decide +kernel))
          (fun _ _ _ _ _ => pg_name (i := 9) nd rfl (.inr rfl)) (fun _ _ _ _ _ => pts_nil)
          (fun _ _ _ _ _ => pe_lc (own := [("_law_user_here", 10)]) (g := gName 10) (wi := iList K (tVar 6)) rfl nd (pi_list (pv 6)) (by exact blkOk_by (own := [("_law_user_here", 10)]) (N := nLaw) (sc := scMkS) (scope := scUsS) (by decide +kernel))
            (fun _ _ _ _ _ => pg_name (i := 10) nd rfl (.inl rfl)) (fun _ _ _ _ _ => pts_nil)
            (fun _ _ _ _ _ => pe_callB (r := rReprA K) (call_reprA hr hgd) (by rfl) C.mp (by decide +kernel) (pa_cons (hcall C.LO hr (pa_cons (pv 3) (pa_cons (pv 9) (pa_cons (pv 10) pa_nil)))) pa_nil)))
      case b7 =>
        exact ps_for PassesOwn.never rfl (pi_tup (pe_tup (pa_cons pe_int (pa_cons pe_int pa_nil)))) (pg_name (i := 11) nd rfl (.inr rfl))
          (pss_one (ps_if (pt_cmpR (op_neD hr.units) (pe_lc (own := [("_law_user_here", 10)]) (g := gName 10) rfl nd (pi_list (pv 6)) (blkOk_by (own := [("_law_user_here", 10)]) (N := nLaw) (sc := defScope sLaw) (by decide +kernel))
            (fun _ _ _ _ _ => pg_name (i := 10) nd rfl (.inl rfl)) (fun _ _ _ _ _ => pts_nil)
            (fun _ _ _ _ _ => pe_callB (r := rReprA K) (call_reprA hr hgd) (by rfl) C.mp (by decide +kernel) (pa_cons (hcall C.OC hr (pa_cons (pv 3) (pa_cons (pe_ix (r := rIxL K) ix_list (pv 4) (pv 11) (fun _ _ => rfl)) (pa_cons (pv 10) pa_nil)))) pa_nil)))
            (pe_ix ix_list (pv 8) (pv 11) (fun _ _ => rfl)) (nomark _)) pss_never pss_nil))
      case b8 =>
        exact ps_if (pt_cmpR op_ne (pe_callB (call_repr hr hgd) (by rfl) C.mp (by decide +kernel) (pa_cons (pe_tup (pa_cons (pv 3) (pa_cons (pv 4) (pa_cons (pv 6) pa_nil)))) pa_nil)) (pv 7) (nomark _)) pss_never pss_nil
    case s3 => exact ps_ret pe_bl
    case rd =>
    refine ⟨_, rfl, a, ns, rfl, hS, hlen, fun H1 m r sx g1 nm nr d1 => ?_⟩
    refine ⟨_, rfl, a, _, rfl, .inl (g1.seq hS), 10, _, rfl, 3, _, rfl, _, rfl, ?lo, ?hi, ?loop⟩
    case lo =>
      have : (-(2 ^ 62) : Int) = -4611686018427387904 := by decide
      rw [this]
      split <;> omega
    case hi =>
      have : ((2 ^ 62) : Int) = 4611686018427387904 := by decide
      rw [this]
      split
      · split <;> omega
      · omega
    case loop =>
    have hM : (if (if (((ns.map V.int).length : Nat) : Int) < 10 then (((ns.map V.int).length : Nat) : Int) else 10) > 3 then (if (((ns.map V.int).length : Nat) : Int) < 10 then (((ns.map V.int).length : Nat) : Int) else 10) else (3 : Int)).toNat ≤ 10 := by
      split
      · split <;> omega
      · omega
    generalize (if (if (((ns.map V.int).length : Nat) : Int) < 10 then (((ns.map V.int).length : Nat) : Int) else 10) > 3 then (if (((ns.map V.int).length : Nat) : Int) < 10 then (((ns.map V.int).length : Nat) : Int) else 10) else (3 : Int)).toNat = M at hM ⊢
    refine for_range (n := M) (fun i σ H2 => (∃ y2 y3 y4 y6 y7 y8 y11 : Option V, σ = [some (.ref a), some (.ref m), y2, y3, y4, none, y6, y7, y8, none, none, y11]) ∧ Dr K H2 m r sx ns (5000 * (i : Int))) ?o0 ?o1 ?o2
    case o0 => exact ⟨⟨_, _, _, _, _, _, _, rfl⟩, d1.mono (by omega)⟩
    case o2 =>
      rintro σ H2 ⟨⟨y2, y3, y4, y6, y7, y8, y11, rfl⟩, d⟩
      exact q H2
    case o1 =>
    rintro i σ H2 hi ⟨⟨y2, y3, y4, y6, y7, y8, y11, rfl⟩, d⟩
    refine ⟨_, rfl, m, r, sx, ns, _, rfl, d, by omega, fun H3 v f g3 d3 df go hpl => ?_⟩
    -- two makings
    refine ⟨2, rfl, by decide, by decide, fun ML nML => ?_⟩
    obtain ⟨nM1, nM2⟩ := d3.nm nML
    have oM := d3.off nML
    refine lc_it (walk_range (lo := 0) (n := 2)) (fun j S => ∃ (xs : List V) (ks : List Mk), S ML = some (.lst xs) ∧ DpAll K S xs (ks.map Mk.d) ∧ ks.length = j ∧ (∀ k ∈ ks, goM f k) ∧ G2 m r H3 S ∧ Dr K S m r sx ns (5000 * (i : Int) + 200 + 1200 * (j : Int)))
      ⟨[], [], upd_same, .nil, rfl, by simp, G2.gr (Gr.new nML), (d3.gr (Gr.new nML)).mono (by omega)⟩ (fun _ _ _ _ => trivial) ?c1 ?c2
    case c1 =>
      rintro j y S' S hj ⟨xs, ks, eD, du, lu, gu, g, ds⟩ ⟨rfl, rfl⟩
      have j2 : j < 2 := hj
      refine ⟨rfl, tYes_i (iteT ?_)⟩
      refine ⟨_, rfl, _, rfl, m, r, v, f, sx, ns, _, rfl, ds, by omega, Fz.g2 d3 g df, go, fun S3 w k g4 d4 dw gk => ?_⟩
      have eD3 := g4.lst nM1 nM2 eD
      have lx : xs.length = j := by
        have := dpA_len du
        rw [List.length_map, lu] at this
        exact this
      refine ⟨_, eD3, SfC.small1000 (by omega), xs ++ [w], ks ++ [k], upd_same, ?_, ?_, ?_, (g.trans g4).upd_new nML, (d4.upd nM1 nM2 oM).mono (by omega)⟩
      · rw [List.map_append]
        exact Kt.dpA (kt_lst eD3) (dpA_app (Kt.dpA (ds.kt g4) du (noLA_map _ noL_mk _)) (.cons dw .nil)) (by rw [← List.map_append]; exact noLA_map _ noL_mk _)
      · rw [List.length_append, lu]
        rfl
      · intro u' hu'
        rcases List.mem_append.mp hu' with h | h
        · exact gu u' h
        · rw [List.mem_singleton.mp h]
          exact gk
    case c2 =>
    rintro H4 ⟨mxs, ks, eM, dM, lM, gM, g4, d4⟩
    replace df := Fz.g2 d3 g4 df
    obtain ⟨k1, k2, rfl⟩ := two_of lM
    have gm1 := gM k1 (by simp)
    have gm2 := gM k2 (by simp)
    clear g4 d3 g3 nML oM lM gM
    refine gname_go ?_
    -- three users
    refine ⟨3, rfl, by decide, by decide, fun UL nUL => ?_⟩
    obtain ⟨nU1, nU2⟩ := d4.nm nUL
    have oU := d4.off nUL
    have nMU : ML ≠ UL := ne_of_none eM nUL
    refine lc_it (walk_range (lo := 0) (n := 3)) (fun j S => ∃ (xs : List V) (us : List (List Ur)), S UL = some (.lst xs) ∧ DpAll K S xs (us.map usD) ∧ us.length = j ∧ (∀ u ∈ us, GoU f u) ∧ G2 m r H4 S ∧ Dr K S m r sx ns (5000 * (i : Int) + 2600 + 70 * (j : Int)))
      ⟨[], [], upd_same, .nil, rfl, by simp, G2.gr (Gr.new nUL), (d4.gr (Gr.new nUL)).mono (by omega)⟩ (fun _ _ _ _ => trivial) ?e1 ?e2
    case e1 =>
      rintro j y S' S hj ⟨xs, us, eD, du, lu, gu, g, ds⟩ ⟨rfl, rfl⟩
      have j3 : j < 3 := hj
      refine ⟨rfl, tYes_i (iteT ?_)⟩
      refine ⟨_, rfl, _, rfl, _, rfl, by show 6 ≤ sizeLine; decide, fun l nl => ?_⟩
      have k1' : Gr S (upd S l (.lst [.int 1, .int 2, .int 3, .int 5, .int 8, .int 12])) := Gr.new nl
      have e1 : upd S l (.lst [.int 1, .int 2, .int 3, .int 5, .int 8, .int 12]) l = some (.lst [.int 1, .int 2, .int 3, .int 5, .int 8, .int 12]) := upd_same
      obtain ⟨nl1, nl2⟩ := ds.nm nl
      have ds1 := ds.gr k1'
      generalize upd S l (.lst [.int 1, .int 2, .int 3, .int 5, .int 8, .int 12]) = S1 at k1' e1 ds1 ⊢
      refine ⟨m, r, l, sx, ns, _, _, rfl, ds1, by omega, .inl ⟨.inl (.inl e1), nl1, nl2⟩, by simp, by show 6 ≤ 1000; decide, fun S2 ix x g2 d2 hx => ?_⟩
      obtain ⟨n, rfl, n1, n12⟩ : ∃ n : Nat, x = .int (n : Nat) ∧ 1 ≤ n ∧ n ≤ 12 := by
        have hm := List.mem_of_getElem? hx
        simp only [List.mem_cons, List.not_mem_nil, or_false] at hm
        rcases hm with rfl | rfl | rfl | rfl | rfl | rfl
        · exact ⟨1, rfl, by decide, by decide⟩
        · exact ⟨2, rfl, by decide, by decide⟩
        · exact ⟨3, rfl, by decide, by decide⟩
        · exact ⟨5, rfl, by decide, by decide⟩
        · exact ⟨8, rfl, by decide, by decide⟩
        · exact ⟨12, rfl, by decide, by decide⟩
      have gS2 : G2 m r S S2 := (G2.gr k1').trans g2
      refine ⟨m, r, v, f, sx, ns, n, _, rfl, d2, by omega, (Fz.g2 d4 (g.trans gS2) df).dp, go, hpl, n1, by omega, fun S3 w u g4' d4' dw gw lw => ?_⟩
      have gS3 := gS2.trans g4'
      have eD3 := gS3.lst nU1 nU2 eD
      have lx : xs.length = j := by
        have := dpA_len du
        rw [List.length_map, lu] at this
        exact this
      refine ⟨_, eD3, SfC.small1000 (by omega), xs ++ [w], us ++ [u], upd_same, ?_, ?_, ?_, (g.trans gS3).upd_new nUL, (d4'.upd nU1 nU2 oU).mono (by omega)⟩
      · rw [List.map_append]
        exact Kt.dpA (kt_lst eD3) (dpA_app (Kt.dpA (ds.kt gS3) du (noLA_map _ noL_us _)) (.cons dw .nil)) (by rw [← List.map_append]; exact noLA_map _ noL_us _)
      · rw [List.length_append, lu]
        rfl
      · intro u' hu'
        rcases List.mem_append.mp hu' with h | h
        · exact gu u' h
        · rw [List.mem_singleton.mp h]
          exact gw
    case e2 =>
    rintro H5 ⟨uxs, us, eU, dU, lU, gU, g5, d5⟩
    refine gname_go ?_
    -- perhaps a long one
    dsimp only
    refine seq_end (fun σ S => ∃ (y2 y7 y8 y11 : Option V) (uxs : List V) (us : List (List Ur)), σ = [some (.ref a), some (.ref m), y2, some v, some (.ref ML), none, some (.ref UL), y7, y8, none, none, y11] ∧ S UL = some (.lst uxs) ∧ DpAll K S uxs (us.map usD) ∧ us.length ≤ 4 ∧ (∀ u ∈ us, GoU f u) ∧ G2 m r H4 S ∧ Dr K S m r sx ns (5000 * (i : Int) + 4500)) ?rest (fun hF => seq_go ?_)
    case rest =>
      rintro σ S ⟨z2, z7, z8, z11, uxs, us, rfl, eU, dU, lU, gU, g, d⟩
      have eMS := g.lst nM1 nM2 eM
      have dMS := Kt.dpA (d4.kt g) dM (noLA_map _ noL_mk _)
      have dfS := Fz.g2 d4 g df
      obtain ⟨w1, mr1, rfl, dw1, dM1⟩ := dpA_cons dMS
      obtain ⟨w2, mr2, rfl, dw2, dM2⟩ := dpA_cons dM1
      cases dpA_nil dM2
      have sk := sh_kept go gm1 gm2 gU lU
      have lux : uxs.length = us.length := by
        have := dpA_len dU
        rw [List.length_map] at this
        exact this
      clear dMS dM1 dM2
      -- kept
      have kept : ∀ (S1 : Hp) (tt : Addr), Gr S S1 → S1 tt = none → Dp K (upd S1 tt (.tup [v, .ref ML, .ref UL])) (.ref tt) (.tuple [f.d, .list [k1.d, k2.d], .list (us.map usD)]) := by
        intro S1 tt g1 nt
        have k1' : Gr S (upd S1 tt (.tup [v, .ref ML, .ref UL])) := g1.trans (Gr.new nt)
        exact .tup (.inl (.inl upd_same)) (.cons (k1'.kd.dp dfS.dp) (.cons (.lst (.inl (.inl (k1'.lst eMS))) (.cons (k1'.kd.dp dw1) (.cons (k1'.kd.dp dw2) .nil))) (.cons (.lst (.inl (.inl (k1'.lst eU))) (k1'.kd.dpA dU)) .nil)))
      refine ⟨_, rfl, _, rfl, _, rfl, by show 3 ≤ sizeLine; decide, fun tt ntt => ?_⟩
      have k6 : Gr S (upd S tt (.tup [v, .ref ML, .ref UL])) := Gr.new ntt
      have dk := kept S tt (Gr.refl S) ntt
      generalize upd S tt (.tup [v, .ref ML, .ref UL]) = S6 at k6 dk ⊢
      refine ⟨tt, _, _, rfl, dk, sk.able, sk.nod, Nat.le_trans sk.dep (by decide), rfl, sk.fits (by decide), ?_⟩
      have each : ∀ (j : Nat) (y : V), uxs[j]? = some y → ∃ u, us[j]? = some u ∧ Dp K S y (usD u) ∧ GoU f u := by
        intro j y hy
        obtain ⟨du, hdu, dy⟩ := dpA_at dU hy
        rw [List.getElem?_map] at hdu
        obtain ⟨u, hu, rfl⟩ := Option.map_eq_some_iff.mp hdu
        exact ⟨u, hu, dy, gU u (List.mem_of_getElem? hu)⟩
      have mks : ∀ (j : Nat) (y : V), [w1, w2][j]? = some y → ∃ k, [k1, k2][j]? = some k ∧ Dp K S y k.d ∧ goM f k := by
        intro j y hy
        match j, hy with
        | 0, hy =>
          cases hy
          exact ⟨k1, rfl, dw1, gm1⟩
        | 1, hy =>
          cases hy
          exact ⟨k2, rfl, dw2, gm2⟩
        | j + 2, hy => cases hy
      -- due
      refine ⟨_, rfl, ML, rfl, ⟨_, .inl (.inl (k6.lst eMS))⟩, fun DL nDL => ?_⟩
      refine lc_it (walk_list (xs := [w1, w2])) (fun j S2 => ∃ vs : List V, S2 DL = some (.lst vs) ∧ vs.length = j ∧ (∀ (j' : Nat) (x : V) (k : Mk), vs[j']? = some x → [k1, k2][j']? = some k → ∃ l, x = .ref l ∧ l ≠ DL ∧ S2 l = some (.lst ((us.map (tU f k)).map V.str))) ∧ Gr S6 S2) ⟨[], upd_same, rfl, (fun j' x k h _ => by simp at h), Gr.new nDL⟩ ?f0 ?f1 ?f2
      case f0 =>
        rintro j S2 hj ⟨vs, _, _, _, g2⟩
        exact .inl (.inl ((k6.trans g2).lst eMS))
      case f1 =>
        rintro j y S2' S2 hj ⟨vs, eD, lv, hvs, g2⟩ ⟨rfl, hy⟩
        obtain ⟨k, hk, dw, gk⟩ := mks j y hy
        have g02 := k6.trans g2
        refine ⟨rfl, tYes_i (iteT ?_)⟩
        refine ⟨_, rfl, UL, rfl, ⟨_, .inl (.inl (g02.lst eU))⟩, fun D2 nD2 => ?_⟩
        have nDD : DL ≠ D2 := ne_of_none eD nD2
        refine lc_it (walk_list (xs := uxs)) (fun t S3 => S3 D2 = some (.lst (((us.take t).map (tU f k)).map V.str)) ∧ Gr S2 S3) ⟨upd_same, Gr.new nD2⟩ ?h0 ?h1 ?h2
        case h0 =>
          rintro t S3 ht ⟨_, g3⟩
          exact .inl (.inl ((g02.trans g3).lst eU))
        case h1 =>
          rintro t z S3' S3 ht ⟨e3, g3⟩ ⟨rfl, hz⟩
          obtain ⟨u, hu, dy, gu⟩ := each t z hz
          refine ⟨rfl, tYes_i (iteT ?_)⟩
          refine ⟨_, rfl, _, rfl, _, rfl, v, y, z, f, k, u, rfl, dfS.gr (g02.trans g3), (g02.trans g3).kd.dp dw, (g02.trans g3).kd.dp dy, go, gk, gu, fun S4 x g4 dx => ?_⟩
          have so := (sh_out go gk gu).1
          refine ⟨x, _, _, rfl, dx, out_v dx, so.able, so.nod, Nat.le_trans so.dep (by decide), rfl, so.fits (by decide), ?_⟩
          refine ⟨_, g4.lst e3, ?_, upd_same.trans ?_, (g3.trans g4).upd_new nD2⟩
          · rw [List.length_map, List.length_map, List.length_take]
            exact SfC.small1000 (by omega)
          · rw [List.take_add_one, hu, List.map_append, List.map_append]
            rfl
        case h2 =>
        rintro S3 ⟨e3, g3⟩
        rw [lux, List.take_length] at e3
        have eD3 := g3.lst eD
        refine ⟨vs, eD3, SfC.small1000 (by show vs.length ≤ 1000; have : j < 2 := hj; omega), vs ++ [.ref D2], upd_same, by rw [List.length_append, lv]; rfl, ?_, (g2.trans g3).upd_new nDL⟩
        intro j' x k' hx hk'
        by_cases c : j' < vs.length
        · rw [List.getElem?_append_left c] at hx
          obtain ⟨l, rfl, n1, e1⟩ := hvs j' x k' hx hk'
          exact ⟨l, rfl, n1, (upd_ne n1).trans (g3.lst e1)⟩
        · have hj' : j' = j := by
            have := lt_of_at hx
            rw [List.length_append] at this
            simp at this
            omega
          subst hj'
          rw [List.getElem?_append_right (by omega), lv, Nat.sub_self] at hx
          cases hx
          have ek : k' = k := Option.some.inj (hk'.symm.trans hk)
          rw [ek]
          exact ⟨D2, rfl, Ne.symm nDD, (upd_ne (Ne.symm nDD)).trans e3⟩
      case f2 =>
      rintro S7 ⟨vs, eD, lv, hvs, g7⟩
      have g07 := k6.trans g7
      refine gname_go ?_
      -- for number in (0, 1)
      refine ⟨by show 2 ≤ sizeLine; decide, fun nt nnt => ?_⟩
      have k8 : Gr S7 (upd S7 nt (.tup [.int 0, .int 1])) := Gr.new nnt
      have e8 : upd S7 nt (.tup [.int 0, .int 1]) nt = some (.tup [.int 0, .int 1]) := upd_same
      generalize upd S7 nt (.tup [.int 0, .int 1]) = S8 at k8 e8 ⊢
      have g08 := g07.trans k8
      refine ⟨nt, rfl, ⟨_, .inl (.inl e8)⟩, ?_⟩
      refine for_it (walk_tup (xs := [V.int 0, .int 1])) (fun j σ S9 => ∃ y11 : Option V, σ = [some (.ref a), some (.ref m), z2, some v, some (.ref ML), none, some (.ref UL), some (.str (PyData.tuple [f.d, .list [k1.d, k2.d], .list (us.map usD)]).shown), some (.ref DL), none, none, y11] ∧ Gr S8 S9) ⟨_, rfl, Gr.refl S8⟩ ?i0 ?i1 ?i2
      case i0 =>
        rintro j σ S9 hj ⟨y11', rfl, g9⟩
        exact .inl (.inl (g9.tup e8))
      case i1 =>
        rintro j y σ S9' S9 hj ⟨y11', rfl, g9⟩ ⟨rfl, hy⟩
        have j2 : j < 2 := hj
        have ey : y = .int ((j : Nat) : Int) := by
          match j, j2, hy with
          | 0, _, hy =>
            cases hy
            rfl
          | 1, _, hy =>
            cases hy
            rfl
        subst ey
        obtain ⟨wj, hwj⟩ : ∃ wj, [w1, w2][j]? = some wj := ⟨[w1, w2][j]'(by simpa using j2), List.getElem?_eq_getElem _⟩
        obtain ⟨k, hk, dw, gk⟩ := mks j wj hwj
        obtain ⟨xj, hxj⟩ : ∃ xj, vs[j]? = some xj := ⟨vs[j]'(by have : vs.length = 2 := lv; omega), List.getElem?_eq_getElem _⟩
        obtain ⟨l, rfl, nl, el⟩ := hvs j xj k hxj hk
        have g09 := g08.trans g9
        refine gname_go ?_
        refine ⟨_, rfl, UL, rfl, ⟨_, .inl (.inl (g09.lst eU))⟩, fun D2 nD2 => ?_⟩
        refine lc_it (walk_list (xs := uxs)) (fun t S3 => S3 D2 = some (.lst (((us.take t).map (tU f k)).map V.str)) ∧ Gr S9 S3) ⟨upd_same, Gr.new nD2⟩ ?h0 ?h1 ?h2
        case h0 =>
          rintro t S3 ht ⟨_, g3⟩
          exact .inl (.inl ((g09.trans g3).lst eU))
        case h1 =>
          rintro t z S3' S3 ht ⟨e3, g3⟩ ⟨rfl, hz⟩
          obtain ⟨u, hu, dy, gu⟩ := each t z hz
          refine ⟨rfl, tYes_i (iteT ?_)⟩
          refine ⟨_, rfl, _, rfl, _, rfl, ML, _, _, wj, rfl, rfl, .inl (.inl ((g09.trans g3).lst eMS)), atI_nat hwj, _, rfl, v, wj, z, f, k, u, rfl, dfS.gr (g09.trans g3), (g09.trans g3).kd.dp dw, (g09.trans g3).kd.dp dy, go, gk, gu, fun S4 x g4 dx => ?_⟩
          have so := (sh_out go gk gu).1
          refine ⟨x, _, _, rfl, dx, out_v dx, so.able, so.nod, Nat.le_trans so.dep (by decide), rfl, so.fits (by decide), ?_⟩
          refine ⟨_, g4.lst e3, ?_, upd_same.trans ?_, (g3.trans g4).upd_new nD2⟩
          · rw [List.length_map, List.length_map, List.length_take]
            exact SfC.small1000 (by omega)
          · rw [List.take_add_one, hu, List.map_append, List.map_append]
            rfl
        case h2 =>
        rintro S3 ⟨e3, g3⟩
        rw [lux, List.take_length] at e3
        have g79 : Gr S7 S3 := k8.trans (g9.trans g3)
        have asc : ∀ z ∈ us.map (tU f k), AscT z := by
          intro z hz
          obtain ⟨u, hu, rfl⟩ := List.mem_map.mp hz
          exact okd_asc (sh_out go gk (gU u hu)).2
        refine ⟨_, rfl, _, rfl, DL, vs, _, _, rfl, rfl, .inl (.inl (g79.lst eD)), atI_nat hxj, .list ((us.map (tU f k)).map .str), .list ((us.map (tU f k)).map .str), .lst (.inl (.inl e3)) (dpA_strs' _), .lst (.inl (.inl (g79.lst el))) (dpA_strs' _), strs_shape asc, strs_shape asc, _, rfl, ?_⟩
        rw [strs_self asc]
        exact iteF ⟨_, rfl, g9.trans g3⟩
      case i2 =>
      rintro σ S9 ⟨y11', rfl, g9⟩
      have g09 := g08.trans g9
      refine ⟨_, rfl, _, rfl, _, rfl, by show 3 ≤ sizeLine; decide, fun t2 nt2 => ?_⟩
      have dk2 := kept S9 t2 g09 nt2
      have g10 : Gr S (upd S9 t2 (.tup [v, .ref ML, .ref UL])) := g09.trans (Gr.new nt2)
      generalize upd S9 t2 (.tup [v, .ref ML, .ref UL]) = S10 at dk2 g10 ⊢
      refine ⟨t2, _, _, rfl, dk2, sk.able, sk.nod, Nat.le_trans sk.dep (by decide), rfl, sk.fits (by decide), _, rfl, rfl, _, rfl, ?_⟩
      rw [decide_eq_true rfl]
      exact iteF ⟨⟨_, _, _, _, _, _, _, rfl⟩, (d.gr g10).mono (by omega)⟩
    refine ⟨_, rfl, rfl, _, rfl, ite2 (fun _ => ?_) (fun _ => hF _ _ ⟨_, _, _, _, uxs, us, rfl, eU, dU, by omega, gU, g5, d5.mono (by omega)⟩)⟩
    refine ⟨_, rfl, m, r, sx, ns, 8, _, rfl, d5, by omega, by decide, by decide, fun H6 z g6 d6 z0 z8 => ⟨rfl, _, rfl, ?_⟩⟩
    have g46 := g5.trans g6
    have eU6 := g6.lst nU1 nU2 eU
    have dU6 := Kt.dpA (d5.kt g6) dU (noLA_map _ noL_us _)
    refine ite2 (fun _ => ?_) (fun _ => hF _ _ ⟨_, _, _, _, uxs, us, rfl, eU6, dU6, by omega, gU, g46, d6.mono (by omega)⟩)
    refine ⟨_, rfl, .inl ⟨rfl, _, .inl (.inl eU6)⟩, _, rfl, _, rfl, m, r, v, f, sx, ns, 200, _, rfl, d6, by omega, (Fz.g2 d4 g46 df).dp, go, hpl, by decide, by decide, fun S3 w u g7 d7 dw gw lw => ?_⟩
    have eU7 := g7.lst nU1 nU2 eU6
    have d7 : Dr K S3 m r sx ns _ := d7
    have lux : uxs.length = us.length := by
      have := dpA_len dU
      rw [List.length_map] at this
      exact this
    refine ⟨UL, _, _, rfl, rfl, eU7, SfC.small1000 (by omega), hF _ _ ⟨_, _, _, _, uxs ++ [w], us ++ [u], rfl, upd_same, ?_, ?_, ?_, (g46.trans g7).upd_new nUL, (d7.upd nU1 nU2 oU).mono (by omega)⟩⟩
    · rw [List.map_append]
      exact Kt.dpA (kt_lst eU7) (dpA_app (Kt.dpA (d6.kt g7) dU6 (noLA_map _ noL_us _)) (.cons dw .nil)) (by rw [← List.map_append]; exact noLA_map _ noL_us _)
    · rw [List.length_append]
      show us.length + 1 ≤ 4
      omega
    · intro u' hu'
      rcases List.mem_append.mp hu' with h | h
      · exact gU u' h
      · rw [List.mem_singleton.mp h]
        exact gw
end
end SfM
namespace SfM
open PySem PySem.Spec PyProof.Rows L2 SfG
open SfC
set_option maxHeartbeats 4000000 in
theorem all_mk {l : PySem.W.OpenLaw} {w : World} {K : PySem.W.Frag} {h : Heap} {mg : Str → Option Value} {fa : Addr} (X : K.In h) (G : h.Ns mainGlobals mg) (hfa : mg "law" = some (.ref fa))
    {fA : Addr} {odA anA : Option Addr} {slA : Array (Option Value)} {ocA kVA dcA pmA ctA cdA : Value}
    (aA : PySem.W.nsIn K mainGlobals "is_name" = some (some (.ref fA))) (lA : K.lookup fA = some ⟨ocA, odA, .func (PySem.W.fnOf "is_name" "is_name" (defArgs sName) (defBody sName) (defScope sName) .none kVA dcA pmA anA cdA ctA), slA⟩) (hA : PySem.W.codeIn K cdA "is_name" = true) (kA : PySem.W.keepIn K (.ref fA) = true)
    {fB : Addr} {odB anB : Option Addr} {slB : Array (Option Value)} {ocB kVB dcB pmB ctB cdB : Value}
    (aB : PySem.W.nsIn K mainGlobals "is_kind" = some (some (.ref fB))) (lB : K.lookup fB = some ⟨ocB, odB, .func (PySem.W.fnOf "is_kind" "is_kind" (defArgs sKind) (defBody sKind) (defScope sKind) .none kVB dcB pmB anB cdB ctB), slB⟩) (hB : PySem.W.codeIn K cdB "is_kind" = true) (kB : PySem.W.keepIn K (.ref fB) = true)
    {fC : Addr} {odC anC : Option Addr} {slC : Array (Option Value)} {ocC kVC dcC pmC ctC cdC : Value}
    (aC : PySem.W.nsIn K mainGlobals "first_bad_deed" = some (some (.ref fC))) (lC : K.lookup fC = some ⟨ocC, odC, .func (PySem.W.fnOf "first_bad_deed" "first_bad_deed" (defArgs sBadD) (defBody sBadD) (defScope sBadD) .none kVC dcC pmC anC cdC ctC), slC⟩) (hC : PySem.W.codeIn K cdC "first_bad_deed" = true) (kC : PySem.W.keepIn K (.ref fC) = true)
    {fD : Addr} {odD anD : Option Addr} {slD : Array (Option Value)} {ocD kVD dcD pmD ctD cdD : Value}
    (aD : PySem.W.nsIn K mainGlobals "first_bad_hidden" = some (some (.ref fD))) (lD : K.lookup fD = some ⟨ocD, odD, .func (PySem.W.fnOf "first_bad_hidden" "first_bad_hidden" (defArgs sBadH) (defBody sBadH) (defScope sBadH) .none kVD dcD pmD anD cdD ctD), slD⟩) (hD : PySem.W.codeIn K cdD "first_bad_hidden" = true) (kD : PySem.W.keepIn K (.ref fD) = true)
    {fE : Addr} {odE anE : Option Addr} {slE : Array (Option Value)} {ocE kVE dcE pmE ctE cdE : Value}
    (aE : PySem.W.nsIn K mainGlobals "face_fault" = some (some (.ref fE))) (lE : K.lookup fE = some ⟨ocE, odE, .func (PySem.W.fnOf "face_fault" "face_fault" (defArgs sFault) (defBody sFault) (defScope sFault) .none kVE dcE pmE anE cdE ctE), slE⟩) (hE : PySem.W.codeIn K cdE "face_fault" = true) (kE : PySem.W.keepIn K (.ref fE) = true)
    {fN : Addr} {odN anN : Option Addr} {slN : Array (Option Value)} {ocN kVN dcN pmN ctN cdN : Value}
    (aN : PySem.W.nsIn K mainGlobals "need_face" = some (some (.ref fN))) (lN : K.lookup fN = some ⟨ocN, odN, .func (PySem.W.fnOf "need_face" "need_face" (defArgs sNeed) (defBody sNeed) (defScope sNeed) .none kVN dcN pmN anN cdN ctN), slN⟩) (hN : PySem.W.codeIn K cdN "need_face" = true) (kN : PySem.W.keepIn K (.ref fN) = true)
    {fFi : Addr} {odFi anFi : Option Addr} {slFi : Array (Option Value)} {ocFi kVFi dcFi pmFi ctFi cdFi : Value}
    (aFi : PySem.W.nsIn K mainGlobals "find_deed" = some (some (.ref fFi))) (lFi : K.lookup fFi = some ⟨ocFi, odFi, .func (PySem.W.fnOf "find_deed" "find_deed" (defArgs sFind) (defBody sFind) (defScope sFind) .none kVFi dcFi pmFi anFi cdFi ctFi), slFi⟩) (hFi : PySem.W.codeIn K cdFi "find_deed" = true) (kFi : PySem.W.keepIn K (.ref fFi) = true)
    {fW : Addr} {odW anW : Option Addr} {slW : Array (Option Value)} {ocW kVW dcW pmW ctW cdW : Value}
    (aW : PySem.W.nsIn K mainGlobals "is_whole" = some (some (.ref fW))) (lW : K.lookup fW = some ⟨ocW, odW, .func (PySem.W.fnOf "is_whole" "is_whole" (defArgs sWhole) (defBody sWhole) (defScope sWhole) .none kVW dcW pmW anW cdW ctW), slW⟩) (hW : PySem.W.codeIn K cdW "is_whole" = true) (kW : PySem.W.keepIn K (.ref fW) = true)
    {fAm : Addr} {odAm anAm : Option Addr} {slAm : Array (Option Value)} {ocAm kVAm dcAm pmAm ctAm cdAm : Value}
    (aAm : PySem.W.nsIn K mainGlobals "is_among" = some (some (.ref fAm))) (lAm : K.lookup fAm = some ⟨ocAm, odAm, .func (PySem.W.fnOf "is_among" "is_among" (defArgs sAmong) (defBody sAmong) (defScope sAmong) .none kVAm dcAm pmAm anAm cdAm ctAm), slAm⟩) (hAm : PySem.W.codeIn K cdAm "is_among" = true) (kAm : PySem.W.keepIn K (.ref fAm) = true)
    {fTu : Addr} {odTu anTu : Option Addr} {slTu : Array (Option Value)} {ocTu kVTu dcTu pmTu ctTu cdTu : Value}
    (aTu : PySem.W.nsIn K mainGlobals "is_tuple_of" = some (some (.ref fTu))) (lTu : K.lookup fTu = some ⟨ocTu, odTu, .func (PySem.W.fnOf "is_tuple_of" "is_tuple_of" (defArgs sTupOf) (defBody sTupOf) (defScope sTupOf) .none kVTu dcTu pmTu anTu cdTu ctTu), slTu⟩) (hTu : PySem.W.codeIn K cdTu "is_tuple_of" = true) (kTu : PySem.W.keepIn K (.ref fTu) = true)
    {fMh : Addr} {odMh anMh : Option Addr} {slMh : Array (Option Value)} {ocMh kVMh dcMh pmMh ctMh cdMh : Value}
    (aMh : PySem.W.nsIn K mainGlobals "may_be_handed" = some (some (.ref fMh))) (lMh : K.lookup fMh = some ⟨ocMh, odMh, .func (PySem.W.fnOf "may_be_handed" "may_be_handed" (defArgs sMayH) (defBody sMayH) (defScope sMayH) .none kVMh dcMh pmMh anMh cdMh ctMh), slMh⟩) (hMh : PySem.W.codeIn K cdMh "may_be_handed" = true) (kMh : PySem.W.keepIn K (.ref fMh) = true)
    {fDo : Addr} {odDo anDo : Option Addr} {slDo : Array (Option Value)} {ocDo kVDo dcDo pmDo ctDo cdDo : Value}
    (aDo : PySem.W.nsIn K mainGlobals "deed_of_row" = some (some (.ref fDo))) (lDo : K.lookup fDo = some ⟨ocDo, odDo, .func (PySem.W.fnOf "deed_of_row" "deed_of_row" (defArgs sDeedOR) (defBody sDeedOR) (defScope sDeedOR) .none kVDo dcDo pmDo anDo cdDo ctDo), slDo⟩) (hDo : PySem.W.codeIn K cdDo "deed_of_row" = true) (kDo : PySem.W.keepIn K (.ref fDo) = true)
    {fFb : Addr} {odFb anFb : Option Addr} {slFb : Array (Option Value)} {ocFb kVFb dcFb pmFb ctFb cdFb : Value}
    (aFb : PySem.W.nsIn K mainGlobals "first_bad_place" = some (some (.ref fFb))) (lFb : K.lookup fFb = some ⟨ocFb, odFb, .func (PySem.W.fnOf "first_bad_place" "first_bad_place" (defArgs sFirstBP) (defBody sFirstBP) (defScope sFirstBP) .none kVFb dcFb pmFb anFb cdFb ctFb), slFb⟩) (hFb : PySem.W.codeIn K cdFb "first_bad_place" = true) (kFb : PySem.W.keepIn K (.ref fFb) = true)
    {fUf : Addr} {odUf anUf : Option Addr} {slUf : Array (Option Value)} {ocUf kVUf dcUf pmUf ctUf cdUf : Value}
    (aUf : PySem.W.nsIn K mainGlobals "user_fault" = some (some (.ref fUf))) (lUf : K.lookup fUf = some ⟨ocUf, odUf, .func (PySem.W.fnOf "user_fault" "user_fault" (defArgs sUFault) (defBody sUFault) (defScope sUFault) .none kVUf dcUf pmUf anUf cdUf ctUf), slUf⟩) (hUf : PySem.W.codeIn K cdUf "user_fault" = true) (kUf : PySem.W.keepIn K (.ref fUf) = true)
    {fRu : Addr} {odRu anRu : Option Addr} {slRu : Array (Option Value)} {ocRu kVRu dcRu pmRu ctRu cdRu : Value}
    (aRu : PySem.W.nsIn K mainGlobals "refuse_no_user" = some (some (.ref fRu))) (lRu : K.lookup fRu = some ⟨ocRu, odRu, .func (PySem.W.fnOf "refuse_no_user" "refuse_no_user" (defArgs sRefU) (defBody sRefU) (defScope sRefU) .none kVRu dcRu pmRu anRu cdRu ctRu), slRu⟩) (hRu : PySem.W.codeIn K cdRu "refuse_no_user" = true) (kRu : PySem.W.keepIn K (.ref fRu) = true)
    {fLe : Addr} {odLe anLe : Option Addr} {slLe : Array (Option Value)} {ocLe kVLe dcLe pmLe ctLe cdLe : Value}
    (aLe : PySem.W.nsIn K mainGlobals "left_by_expression" = some (some (.ref fLe))) (lLe : K.lookup fLe = some ⟨ocLe, odLe, .func (PySem.W.fnOf "left_by_expression" "left_by_expression" (defArgs sLbe) (defBody sLbe) (defScope sLbe) .none kVLe dcLe pmLe anLe cdLe ctLe), slLe⟩) (hLe : PySem.W.codeIn K cdLe "left_by_expression" = true) (kLe : PySem.W.keepIn K (.ref fLe) = true)
    {fLb : Addr} {odLb anLb : Option Addr} {slLb : Array (Option Value)} {ocLb kVLb dcLb pmLb ctLb cdLb : Value}
    (aLb : PySem.W.nsIn K mainGlobals "left_by_body" = some (some (.ref fLb))) (lLb : K.lookup fLb = some ⟨ocLb, odLb, .func (PySem.W.fnOf "left_by_body" "left_by_body" (defArgs sLbb) (defBody sLbb) (defScope sLbb) .none kVLb dcLb pmLb anLb cdLb ctLb), slLb⟩) (hLb : PySem.W.codeIn K cdLb "left_by_body" = true) (kLb : PySem.W.keepIn K (.ref fLb) = true)
    {fVa : Addr} {odVa anVa : Option Addr} {slVa : Array (Option Value)} {ocVa kVVa dcVa pmVa ctVa cdVa : Value}
    (aVa : PySem.W.nsIn K mainGlobals "value_of" = some (some (.ref fVa))) (lVa : K.lookup fVa = some ⟨ocVa, odVa, .func (PySem.W.fnOf "value_of" "value_of" (defArgs sVal) (defBody sVal) (defScope sVal) .none kVVa dcVa pmVa anVa cdVa ctVa), slVa⟩) (hVa : PySem.W.codeIn K cdVa "value_of" = true) (kVa : PySem.W.keepIn K (.ref fVa) = true)
    {fCh : Addr} {odCh anCh : Option Addr} {slCh : Array (Option Value)} {ocCh kVCh dcCh pmCh ctCh cdCh : Value}
    (aCh : PySem.W.nsIn K mainGlobals "chosen_by" = some (some (.ref fCh))) (lCh : K.lookup fCh = some ⟨ocCh, odCh, .func (PySem.W.fnOf "chosen_by" "chosen_by" (defArgs sCho) (defBody sCho) (defScope sCho) .none kVCh dcCh pmCh anCh cdCh ctCh), slCh⟩) (hCh : PySem.W.codeIn K cdCh "chosen_by" = true) (kCh : PySem.W.keepIn K (.ref fCh) = true)
    {fSp : Addr} {odSp anSp : Option Addr} {slSp : Array (Option Value)} {ocSp kVSp dcSp pmSp ctSp cdSp : Value}
    (aSp : PySem.W.nsIn K mainGlobals "is_shape" = some (some (.ref fSp))) (lSp : K.lookup fSp = some ⟨ocSp, odSp, .func (PySem.W.fnOf "is_shape" "is_shape" (defArgs sShape) (defBody sShape) (defScope sShape) .none kVSp dcSp pmSp anSp cdSp ctSp), slSp⟩) (hSp : PySem.W.codeIn K cdSp "is_shape" = true) (kSp : PySem.W.keepIn K (.ref fSp) = true)
    {fMf : Addr} {odMf anMf : Option Addr} {slMf : Array (Option Value)} {ocMf kVMf dcMf pmMf ctMf cdMf : Value}
    (aMf : PySem.W.nsIn K mainGlobals "making_fault" = some (some (.ref fMf))) (lMf : K.lookup fMf = some ⟨ocMf, odMf, .func (PySem.W.fnOf "making_fault" "making_fault" (defArgs sMFault) (defBody sMFault) (defScope sMFault) .none kVMf dcMf pmMf anMf cdMf ctMf), slMf⟩) (hMf : PySem.W.codeIn K cdMf "making_fault" = true) (kMf : PySem.W.keepIn K (.ref fMf) = true)
    {fRm : Addr} {odRm anRm : Option Addr} {slRm : Array (Option Value)} {ocRm kVRm dcRm pmRm ctRm cdRm : Value}
    (aRm : PySem.W.nsIn K mainGlobals "refuse_no_making" = some (some (.ref fRm))) (lRm : K.lookup fRm = some ⟨ocRm, odRm, .func (PySem.W.fnOf "refuse_no_making" "refuse_no_making" (defArgs sRefM) (defBody sRefM) (defScope sRefM) .none kVRm dcRm pmRm anRm cdRm ctRm), slRm⟩) (hRm : PySem.W.codeIn K cdRm "refuse_no_making" = true) (kRm : PySem.W.keepIn K (.ref fRm) = true)
    {fNm : Addr} {odNm anNm : Option Addr} {slNm : Array (Option Value)} {ocNm kVNm dcNm pmNm ctNm cdNm : Value}
    (aNm : PySem.W.nsIn K mainGlobals "need_making" = some (some (.ref fNm))) (lNm : K.lookup fNm = some ⟨ocNm, odNm, .func (PySem.W.fnOf "need_making" "need_making" (defArgs sNeedM) (defBody sNeedM) (defScope sNeedM) .none kVNm dcNm pmNm anNm cdNm ctNm), slNm⟩) (hNm : PySem.W.codeIn K cdNm "need_making" = true) (kNm : PySem.W.keepIn K (.ref fNm) = true)
    {fGk : Addr} {odGk anGk : Option Addr} {slGk : Array (Option Value)} {ocGk kVGk dcGk pmGk ctGk cdGk : Value}
    (aGk : PySem.W.nsIn K mainGlobals "given_of_kind" = some (some (.ref fGk))) (lGk : K.lookup fGk = some ⟨ocGk, odGk, .func (PySem.W.fnOf "given_of_kind" "given_of_kind" (defArgs sGivK) (defBody sGivK) (defScope sGivK) .none kVGk dcGk pmGk anGk cdGk ctGk), slGk⟩) (hGk : PySem.W.codeIn K cdGk "given_of_kind" = true) (kGk : PySem.W.keepIn K (.ref fGk) = true)
    {fDn : Addr} {odDn anDn : Option Addr} {slDn : Array (Option Value)} {ocDn kVDn dcDn pmDn ctDn cdDn : Value}
    (aDn : PySem.W.nsIn K mainGlobals "done_rightly" = some (some (.ref fDn))) (lDn : K.lookup fDn = some ⟨ocDn, odDn, .func (PySem.W.fnOf "done_rightly" "done_rightly" (defArgs sDoneR) (defBody sDoneR) (defScope sDoneR) .none kVDn dcDn pmDn anDn cdDn ctDn), slDn⟩) (hDn : PySem.W.codeIn K cdDn "done_rightly" = true) (kDn : PySem.W.keepIn K (.ref fDn) = true)
    {fOo : Addr} {odOo anOo : Option Addr} {slOo : Array (Option Value)} {ocOo kVOo dcOo pmOo ctOo cdOo : Value}
    (aOo : PySem.W.nsIn K mainGlobals "outcome_of" = some (some (.ref fOo))) (lOo : K.lookup fOo = some ⟨ocOo, odOo, .func (PySem.W.fnOf "outcome_of" "outcome_of" (defArgs sOutOf) (defBody sOutOf) (defScope sOutOf) .none kVOo dcOo pmOo anOo cdOo ctOo), slOo⟩) (hOo : PySem.W.codeIn K cdOo "outcome_of" = true) (kOo : PySem.W.keepIn K (.ref fOo) = true)
    {fOc : Addr} {odOc anOc : Option Addr} {slOc : Array (Option Value)} {ocOc kVOc dcOc pmOc ctOc cdOc : Value}
    (aOc : PySem.W.nsIn K mainGlobals "outcome" = some (some (.ref fOc))) (lOc : K.lookup fOc = some ⟨ocOc, odOc, .func (PySem.W.fnOf "outcome" "outcome" (defArgs sOutc) (defBody sOutc) (defScope sOutc) .none kVOc dcOc pmOc anOc cdOc ctOc), slOc⟩) (hOc : PySem.W.codeIn K cdOc "outcome" = true) (kOc : PySem.W.keepIn K (.ref fOc) = true)
    {fS1 : Addr} {odS1 anS1 : Option Addr} {slS1 : Array (Option Value)} {ocS1 kVS1 dcS1 pmS1 ctS1 cdS1 : Value}
    (aS1 : PySem.W.nsIn K mainGlobals "_law_started" = some (some (.ref fS1))) (lS1 : K.lookup fS1 = some ⟨ocS1, odS1, .func (PySem.W.fnOf "_law_started" "_law_started" (defArgs sStarted) (defBody sStarted) (defScope sStarted) .none kVS1 dcS1 pmS1 anS1 cdS1 ctS1), slS1⟩) (hS1 : PySem.W.codeIn K cdS1 "_law_started" = true) (kS1 : PySem.W.keepIn K (.ref fS1) = true)
    {fDr : Addr} {odDr anDr : Option Addr} {slDr : Array (Option Value)} {ocDr kVDr dcDr pmDr ctDr cdDr : Value}
    (aDr : PySem.W.nsIn K mainGlobals "_law_draw" = some (some (.ref fDr))) (lDr : K.lookup fDr = some ⟨ocDr, odDr, .func (PySem.W.fnOf "_law_draw" "_law_draw" (defArgs sDrw) (defBody sDrw) (defScope sDrw) .none kVDr dcDr pmDr anDr cdDr ctDr), slDr⟩) (hDr : PySem.W.codeIn K cdDr "_law_draw" = true) (kDr : PySem.W.keepIn K (.ref fDr) = true)
    {fOf : Addr} {odOf anOf : Option Addr} {slOf : Array (Option Value)} {ocOf kVOf dcOf pmOf ctOf cdOf : Value}
    (aOf : PySem.W.nsIn K mainGlobals "_law_of" = some (some (.ref fOf))) (lOf : K.lookup fOf = some ⟨ocOf, odOf, .func (PySem.W.fnOf "_law_of" "_law_of" (defArgs sOf) (defBody sOf) (defScope sOf) .none kVOf dcOf pmOf anOf cdOf ctOf), slOf⟩) (hOf : PySem.W.codeIn K cdOf "_law_of" = true) (kOf : PySem.W.keepIn K (.ref fOf) = true)
    {fLn : Addr} {odLn anLn : Option Addr} {slLn : Array (Option Value)} {ocLn kVLn dcLn pmLn ctLn cdLn : Value}
    (aLn : PySem.W.nsIn K mainGlobals "_law_names" = some (some (.ref fLn))) (lLn : K.lookup fLn = some ⟨ocLn, odLn, .func (PySem.W.fnOf "_law_names" "_law_names" (defArgs sLNames) (defBody sLNames) (defScope sLNames) .none kVLn dcLn pmLn anLn cdLn ctLn), slLn⟩) (hLn : PySem.W.codeIn K cdLn "_law_names" = true) (kLn : PySem.W.keepIn K (.ref fLn) = true)
    {fTk : Addr} {odTk anTk : Option Addr} {slTk : Array (Option Value)} {ocTk kVTk dcTk pmTk ctTk cdTk : Value}
    (aTk : PySem.W.nsIn K mainGlobals "_law_taken" = some (some (.ref fTk))) (lTk : K.lookup fTk = some ⟨ocTk, odTk, .func (PySem.W.fnOf "_law_taken" "_law_taken" (defArgs sTaken) (defBody sTaken) (defScope sTaken) .none kVTk dcTk pmTk anTk cdTk ctTk), slTk⟩) (hTk : PySem.W.codeIn K cdTk "_law_taken" = true) (kTk : PySem.W.keepIn K (.ref fTk) = true)
    {fLf : Addr} {odLf anLf : Option Addr} {slLf : Array (Option Value)} {ocLf kVLf dcLf pmLf ctLf cdLf : Value}
    (aLf : PySem.W.nsIn K mainGlobals "_law_face" = some (some (.ref fLf))) (lLf : K.lookup fLf = some ⟨ocLf, odLf, .func (PySem.W.fnOf "_law_face" "_law_face" (defArgs sLFace) (defBody sLFace) (defScope sLFace) .none kVLf dcLf pmLf anLf cdLf ctLf), slLf⟩) (hLf : PySem.W.codeIn K cdLf "_law_face" = true) (kLf : PySem.W.keepIn K (.ref fLf) = true)
    {fLl : Addr} {odLl anLl : Option Addr} {slLl : Array (Option Value)} {ocLl kVLl dcLl pmLl ctLl cdLl : Value}
    (aLl : PySem.W.nsIn K mainGlobals "_law_leaf" = some (some (.ref fLl))) (lLl : K.lookup fLl = some ⟨ocLl, odLl, .func (PySem.W.fnOf "_law_leaf" "_law_leaf" (defArgs sLeaf) (defBody sLeaf) (defScope sLeaf) .none kVLl dcLl pmLl anLl cdLl ctLl), slLl⟩) (hLl : PySem.W.codeIn K cdLl "_law_leaf" = true) (kLl : PySem.W.keepIn K (.ref fLl) = true)
    {fLr : Addr} {odLr anLr : Option Addr} {slLr : Array (Option Value)} {ocLr kVLr dcLr pmLr ctLr cdLr : Value}
    (aLr : PySem.W.nsIn K mainGlobals "_law_reckoning" = some (some (.ref fLr))) (lLr : K.lookup fLr = some ⟨ocLr, odLr, .func (PySem.W.fnOf "_law_reckoning" "_law_reckoning" (defArgs sReck) (defBody sReck) (defScope sReck) .none kVLr dcLr pmLr anLr cdLr ctLr), slLr⟩) (hLr : PySem.W.codeIn K cdLr "_law_reckoning" = true) (kLr : PySem.W.keepIn K (.ref fLr) = true)
    {fLy : Addr} {odLy anLy : Option Addr} {slLy : Array (Option Value)} {ocLy kVLy dcLy pmLy ctLy cdLy : Value}
    (aLy : PySem.W.nsIn K mainGlobals "_law_body" = some (some (.ref fLy))) (lLy : K.lookup fLy = some ⟨ocLy, odLy, .func (PySem.W.fnOf "_law_body" "_law_body" (defArgs sLBody) (defBody sLBody) (defScope sLBody) .none kVLy dcLy pmLy anLy cdLy ctLy), slLy⟩) (hLy : PySem.W.codeIn K cdLy "_law_body" = true) (kLy : PySem.W.keepIn K (.ref fLy) = true)
    {fLm : Addr} {odLm anLm : Option Addr} {slLm : Array (Option Value)} {ocLm kVLm dcLm pmLm ctLm cdLm : Value}
    (aLm : PySem.W.nsIn K mainGlobals "_law_making" = some (some (.ref fLm))) (lLm : K.lookup fLm = some ⟨ocLm, odLm, .func (PySem.W.fnOf "_law_making" "_law_making" (defArgs sLMak) (defBody sLMak) (defScope sLMak) .none kVLm dcLm pmLm anLm cdLm ctLm), slLm⟩) (hLm : PySem.W.codeIn K cdLm "_law_making" = true) (kLm : PySem.W.keepIn K (.ref fLm) = true)
    {fLd : Addr} {odLd anLd : Option Addr} {slLd : Array (Option Value)} {ocLd kVLd dcLd pmLd ctLd cdLd : Value}
    (aLd : PySem.W.nsIn K mainGlobals "_law_reckoned" = some (some (.ref fLd))) (lLd : K.lookup fLd = some ⟨ocLd, odLd, .func (PySem.W.fnOf "_law_reckoned" "_law_reckoned" (defArgs sReckd) (defBody sReckd) (defScope sReckd) .none kVLd dcLd pmLd anLd cdLd ctLd), slLd⟩) (hLd : PySem.W.codeIn K cdLd "_law_reckoned" = true) (kLd : PySem.W.keepIn K (.ref fLd) = true)
    {fLx : Addr} {odLx anLx : Option Addr} {slLx : Array (Option Value)} {ocLx kVLx dcLx pmLx ctLx cdLx : Value}
    (aLx : PySem.W.nsIn K mainGlobals "_law_done" = some (some (.ref fLx))) (lLx : K.lookup fLx = some ⟨ocLx, odLx, .func (PySem.W.fnOf "_law_done" "_law_done" (defArgs sLDone) (defBody sLDone) (defScope sLDone) .none kVLx dcLx pmLx anLx cdLx ctLx), slLx⟩) (hLx : PySem.W.codeIn K cdLx "_law_done" = true) (kLx : PySem.W.keepIn K (.ref fLx) = true)
    {fLu : Addr} {odLu anLu : Option Addr} {slLu : Array (Option Value)} {ocLu kVLu dcLu pmLu ctLu cdLu : Value}
    (aLu : PySem.W.nsIn K mainGlobals "_law_user" = some (some (.ref fLu))) (lLu : K.lookup fLu = some ⟨ocLu, odLu, .func (PySem.W.fnOf "_law_user" "_law_user" (defArgs sLUser) (defBody sLUser) (defScope sLUser) .none kVLu dcLu pmLu anLu cdLu ctLu), slLu⟩) (hLu : PySem.W.codeIn K cdLu "_law_user" = true) (kLu : PySem.W.keepIn K (.ref fLu) = true)
    {fLo : Addr} {odLo anLo : Option Addr} {slLo : Array (Option Value)} {ocLo kVLo dcLo pmLo ctLo cdLo : Value}
    (aLo : PySem.W.nsIn K mainGlobals "_law_outcome" = some (some (.ref fLo))) (lLo : K.lookup fLo = some ⟨ocLo, odLo, .func (PySem.W.fnOf "_law_outcome" "_law_outcome" (defArgs sLOut) (defBody sLOut) (defScope sLOut) .none kVLo dcLo pmLo anLo cdLo ctLo), slLo⟩) (hLo : PySem.W.codeIn K cdLo "_law_outcome" = true) (kLo : PySem.W.keepIn K (.ref fLo) = true)
    {fL : Addr} {odL anL : Option Addr} {slL : Array (Option Value)} {ocL kVL dcL pmL ctL cdL : Value}
    (aL : PySem.W.nsIn K mainGlobals "law" = some (some (.ref fL))) (lL : K.lookup fL = some ⟨ocL, odL, .func (PySem.W.fnOf "law" "law" (defArgs sLaw) (defBody sLaw) (defScope sLaw) .none kVL dcL pmL anL cdL ctL), slL⟩) (hL : PySem.W.codeIn K cdL "law" = true) (kL : PySem.W.keepIn K (.ref fL) = true)
    {tmd : Tok} (cmd : PySem.W.nsIn K mainGlobals "MOST_DEEDS" = some (some (.int 8 tmd)))
    {tmw : Tok} (cmw : PySem.W.nsIn K mainGlobals "MOST_ROWS" = some (some (.int 200 tmw)))
    {tmp : Tok} (cmp : PySem.W.nsIn K mainGlobals "MOST_PARTS" = some (some (.int 60 tmp)))
    {tmq : Tok} (cmq : PySem.W.nsIn K mainGlobals "MOST_DEEP" = some (some (.int 8 tmq)))
    {pw : Addr} {oW : Obj} {itW : Array Value} {nW : Nat} (aPW : PySem.W.nsIn K mainGlobals "PAIR_WORDS" = some (some (.ref pw))) (lPW : K.lookup pw = some oW) (cPW : oW.cls = .type "tuple") (dPW : oW.data = .seq itW nW) (zPW : itW.size ≤ sizeLine) (vPW : Vals (fiveW.map V.str) itW.toList)
    (z_isinstance : PySem.W.nsIn K mainGlobals "isinstance" = some none)
    (z_str : PySem.W.nsIn K mainGlobals "str" = some none)
    (z_int : PySem.W.nsIn K mainGlobals "int" = some none)
    (z_tuple : PySem.W.nsIn K mainGlobals "tuple" = some none)
    (z_len : PySem.W.nsIn K mainGlobals "len" = some none)
    (z_enumerate : PySem.W.nsIn K mainGlobals "enumerate" = some none)
    (z_range : PySem.W.nsIn K mainGlobals "range" = some none)
    (z_min : PySem.W.nsIn K mainGlobals "min" = some none)
    (z_max : PySem.W.nsIn K mainGlobals "max" = some none)
    (z_sorted : PySem.W.nsIn K mainGlobals "sorted" = some none)
    (z_list : PySem.W.nsIn K mainGlobals "list" = some none)
    (z_repr : PySem.W.nsIn K mainGlobals "repr" = some none)
    (z_zip : PySem.W.nsIn K mainGlobals "zip" = some none) :
    LawG l w K CX0 23 63 "_law_script" mg fa h := by
  have e := hfa.symm.trans (PySem.W.mg_of X G aL)
  cases e
  have FA := fun_mk (st := sName) lA hA kA
  have bA := (FA).binds (ps := ["thing"]) fun _ _ _ _ _ _ us hl => match us, hl with | [_], _ => rfl
  have gA := PySem.W.mg_of X G aA
  have FB := fun_mk (st := sKind) lB hB kB
  have bB := (FB).binds (ps := ["thing", "hidden"]) fun _ _ _ _ _ _ us hl => match us, hl with | [_, _], _ => rfl
  have gB := PySem.W.mg_of X G aB
  have FC := fun_mk (st := sBadD) lC hC kC
  have bC := (FC).binds (ps := ["deeds", "hidden"]) fun _ _ _ _ _ _ us hl => match us, hl with | [_, _], _ => rfl
  have gC := PySem.W.mg_of X G aC
  have FD := fun_mk (st := sBadH) lD hD kD
  have bD := (FD).binds (ps := ["hidden"]) fun _ _ _ _ _ _ us hl => match us, hl with | [_], _ => rfl
  have gD := PySem.W.mg_of X G aD
  have FE := fun_mk (st := sFault) lE hE kE
  have bE := (FE).binds (ps := ["thing"]) fun _ _ _ _ _ _ us hl => match us, hl with | [_], _ => rfl
  have gE := PySem.W.mg_of X G aE
  have FN := fun_mk (st := sNeed) lN hN kN
  have bN := (FN).binds (ps := ["face"]) fun _ _ _ _ _ _ us hl => match us, hl with | [_], _ => rfl
  have gN := PySem.W.mg_of X G aN
  have FFi := fun_mk (st := sFind) lFi hFi kFi
  have bFi := (FFi).binds (ps := ["face", "name"]) fun _ _ _ _ _ _ us hl => match us, hl with | [_, _], _ => rfl
  have gFi := PySem.W.mg_of X G aFi
  have FW := fun_mk (st := sWhole) lW hW kW
  have bW := (FW).binds (ps := ["thing"]) fun _ _ _ _ _ _ us hl => match us, hl with | [_], _ => rfl
  have gW := PySem.W.mg_of X G aW
  have FAm := fun_mk (st := sAmong) lAm hAm kAm
  have bAm := (FAm).binds (ps := ["thing", "least", "most"]) fun _ _ _ _ _ _ us hl => match us, hl with | [_, _, _], _ => rfl
  have gAm := PySem.W.mg_of X G aAm
  have FTu := fun_mk (st := sTupOf) lTu hTu kTu
  have bTu := (FTu).binds (ps := ["thing", "least", "most"]) fun _ _ _ _ _ _ us hl => match us, hl with | [_, _, _], _ => rfl
  have gTu := PySem.W.mg_of X G aTu
  have FMh := fun_mk (st := sMayH) lMh hMh kMh
  have bMh := (FMh).binds (ps := ["thing", "kind", "given"]) fun _ _ _ _ _ _ us hl => match us, hl with | [_, _, _], _ => rfl
  have gMh := PySem.W.mg_of X G aMh
  have FDo := fun_mk (st := sDeedOR) lDo hDo kDo
  have bDo := (FDo).binds (ps := ["row", "face"]) fun _ _ _ _ _ _ us hl => match us, hl with | [_, _], _ => rfl
  have gDo := PySem.W.mg_of X G aDo
  have FFb := fun_mk (st := sFirstBP) lFb hFb kFb
  have bFb := (FFb).binds (ps := ["handed", "takes", "given"]) fun _ _ _ _ _ _ us hl => match us, hl with | [_, _, _], _ => rfl
  have gFb := PySem.W.mg_of X G aFb
  have FUf := fun_mk (st := sUFault) lUf hUf kUf
  have bUf := (FUf).binds (ps := ["face", "thing"]) fun _ _ _ _ _ _ us hl => match us, hl with | [_, _], _ => rfl
  have gUf := PySem.W.mg_of X G aUf
  have FRu := fun_mk (st := sRefU) lRu hRu kRu
  have bRu := (FRu).binds (ps := ["face", "user"]) fun _ _ _ _ _ _ us hl => match us, hl with | [_, _], _ => rfl
  have gRu := PySem.W.mg_of X G aRu
  have FLe := fun_mk (st := sLbe) lLe hLe kLe
  have bLe := (FLe).binds (ps := ["thing", "takes", "counts", "deep", "left"]) fun _ _ _ _ _ _ us hl => match us, hl with | [_, _, _, _, _], _ => rfl
  have gLe := PySem.W.mg_of X G aLe
  have FLb := fun_mk (st := sLbb) lLb hLb kLb
  have bLb := (FLb).binds (ps := ["thing", "takes", "counts", "many", "deep", "left"]) fun _ _ _ _ _ _ us hl => match us, hl with | [_, _, _, _, _, _], _ => rfl
  have gLb := PySem.W.mg_of X G aLb
  have FVa := fun_mk (st := sVal) lVa hVa kVa
  have bVa := (FVa).binds (ps := ["expression", "fields"]) fun _ _ _ _ _ _ us hl => match us, hl with | [_, _], _ => rfl
  have gVa := PySem.W.mg_of X G aVa
  have FCh := fun_mk (st := sCho) lCh hCh kCh
  have bCh := (FCh).binds (ps := ["body", "fields"]) fun _ _ _ _ _ _ us hl => match us, hl with | [_, _], _ => rfl
  have gCh := PySem.W.mg_of X G aCh
  have FSp := fun_mk (st := sShape) lSp hSp kSp
  have bSp := (FSp).binds (ps := ["thing"]) fun _ _ _ _ _ _ us hl => match us, hl with | [_], _ => rfl
  have gSp := PySem.W.mg_of X G aSp
  have FMf := fun_mk (st := sMFault) lMf hMf kMf
  have bMf := (FMf).binds (ps := ["face", "thing"]) fun _ _ _ _ _ _ us hl => match us, hl with | [_, _], _ => rfl
  have gMf := PySem.W.mg_of X G aMf
  have FRm := fun_mk (st := sRefM) lRm hRm kRm
  have bRm := (FRm).binds (ps := ["face", "making"]) fun _ _ _ _ _ _ us hl => match us, hl with | [_, _], _ => rfl
  have gRm := PySem.W.mg_of X G aRm
  have FNm := fun_mk (st := sNeedM) lNm hNm kNm
  have bNm := (FNm).binds (ps := ["face", "making"]) fun _ _ _ _ _ _ us hl => match us, hl with | [_, _], _ => rfl
  have gNm := PySem.W.mg_of X G aNm
  have FGk := fun_mk (st := sGivK) lGk hGk kGk
  have bGk := (FGk).binds (ps := ["face", "making", "number", "fields"]) fun _ _ _ _ _ _ us hl => match us, hl with | [_, _, _, _], _ => rfl
  have gGk := PySem.W.mg_of X G aGk
  have FDn := fun_mk (st := sDoneR) lDn hDn kDn
  have bDn := (FDn).binds (ps := ["face", "making", "number", "handed"]) fun _ _ _ _ _ _ us hl => match us, hl with | [_, _, _, _], _ => rfl
  have gDn := PySem.W.mg_of X G aDn
  have FOo := fun_mk (st := sOutOf) lOo hOo kOo
  have bOo := (FOo).binds (ps := ["face", "making", "user"]) fun _ _ _ _ _ _ us hl => match us, hl with | [_, _, _], _ => rfl
  have gOo := PySem.W.mg_of X G aOo
  have FOc := fun_mk (st := sOutc) lOc hOc kOc
  have bOc := (FOc).binds (ps := ["face", "making", "user"]) fun _ _ _ _ _ _ us hl => match us, hl with | [_, _, _], _ => rfl
  have gOc := PySem.W.mg_of X G aOc
  have FS1 := fun_mk (st := sStarted) lS1 hS1 kS1
  have bS1 := (FS1).binds (ps := ["_law_script"]) fun _ _ _ _ _ _ us hl => match us, hl with | [_], _ => rfl
  have gS1 := PySem.W.mg_of X G aS1
  have FDr := fun_mk (st := sDrw) lDr hDr kDr
  have bDr := (FDr).binds (ps := ["_law_m", "_law_many"]) fun _ _ _ _ _ _ us hl => match us, hl with | [_, _], _ => rfl
  have gDr := PySem.W.mg_of X G aDr
  have FOf := fun_mk (st := sOf) lOf hOf kOf
  have bOf := (FOf).binds (ps := ["_law_m", "_law_some"]) fun _ _ _ _ _ _ us hl => match us, hl with | [_, _], _ => rfl
  have gOf := PySem.W.mg_of X G aOf
  have FLn := fun_mk (st := sLNames) lLn hLn kLn
  have bLn := (FLn).binds (ps := ["_law_m", "_law_many"]) fun _ _ _ _ _ _ us hl => match us, hl with | [_, _], _ => rfl
  have gLn := PySem.W.mg_of X G aLn
  have FTk := fun_mk (st := sTaken) lTk hTk kTk
  have bTk := (FTk).binds (ps := ["_law_m", "_law_hidden"]) fun _ _ _ _ _ _ us hl => match us, hl with | [_, _], _ => rfl
  have gTk := PySem.W.mg_of X G aTk
  have FLf := fun_mk (st := sLFace) lLf hLf kLf
  have bLf := (FLf).binds (ps := ["_law_m", "_law_most"]) fun _ _ _ _ _ _ us hl => match us, hl with | [_, _], _ => rfl
  have gLf := PySem.W.mg_of X G aLf
  have FLl := fun_mk (st := sLeaf) lLl hLl kLl
  have bLl := (FLl).binds (ps := ["_law_m", "_law_spots"]) fun _ _ _ _ _ _ us hl => match us, hl with | [_, _], _ => rfl
  have gLl := PySem.W.mg_of X G aLl
  have FLr := fun_mk (st := sReck) lLr hLr kLr
  have bLr := (FLr).binds (ps := ["_law_m", "_law_spots", "_law_deep"]) fun _ _ _ _ _ _ us hl => match us, hl with | [_, _, _], _ => rfl
  have gLr := PySem.W.mg_of X G aLr
  have FLy := fun_mk (st := sLBody) lLy hLy kLy
  have bLy := (FLy).binds (ps := ["_law_m", "_law_spots", "_law_many", "_law_deep"]) fun _ _ _ _ _ _ us hl => match us, hl with | [_, _, _, _], _ => rfl
  have gLy := PySem.W.mg_of X G aLy
  have FLm := fun_mk (st := sLMak) lLm hLm kLm
  have bLm := (FLm).binds (ps := ["_law_m", "_law_face_here"]) fun _ _ _ _ _ _ us hl => match us, hl with | [_, _], _ => rfl
  have gLm := PySem.W.mg_of X G aLm
  have FLd := fun_mk (st := sReckd) lLd hLd kLd
  have bLd := (FLd).binds (ps := ["_law_e", "_law_things"]) fun _ _ _ _ _ _ us hl => match us, hl with | [_, _], _ => rfl
  have gLd := PySem.W.mg_of X G aLd
  have FLx := fun_mk (st := sLDone) lLx hLx kLx
  have bLx := (FLx).binds (ps := ["_law_face_here", "_law_making_here", "_law_name", "_law_things"]) fun _ _ _ _ _ _ us hl => match us, hl with | [_, _, _, _], _ => rfl
  have gLx := PySem.W.mg_of X G aLx
  have FLu := fun_mk (st := sLUser) lLu hLu kLu
  have bLu := (FLu).binds (ps := ["_law_m", "_law_face_here", "_law_many"]) fun _ _ _ _ _ _ us hl => match us, hl with | [_, _, _], _ => rfl
  have gLu := PySem.W.mg_of X G aLu
  have FLo := fun_mk (st := sLOut) lLo hLo kLo
  have bLo := (FLo).binds (ps := ["_law_face_here", "_law_making_here", "_law_user_here"]) fun _ _ _ _ _ _ us hl => match us, hl with | [_, _, _], _ => rfl
  have gLo := PySem.W.mg_of X G aLo
  have FL := fun_mk (st := sLaw) lL hL kL
  have bL := (FL).binds (ps := ["_law_script"]) fun _ _ _ _ _ _ us hl => match us, hl with | [_], _ => rfl
  have gL := PySem.W.mg_of X G aL
  have m_isinstance := PySem.W.mg_none_of X G z_isinstance
  have m_str := PySem.W.mg_none_of X G z_str
  have m_int := PySem.W.mg_none_of X G z_int
  have m_tuple := PySem.W.mg_none_of X G z_tuple
  have m_len := PySem.W.mg_none_of X G z_len
  have m_enumerate := PySem.W.mg_none_of X G z_enumerate
  have m_range := PySem.W.mg_none_of X G z_range
  have m_min := PySem.W.mg_none_of X G z_min
  have m_max := PySem.W.mg_none_of X G z_max
  have m_sorted := PySem.W.mg_none_of X G z_sorted
  have m_list := PySem.W.mg_none_of X G z_list
  have m_repr := PySem.W.mg_none_of X G z_repr
  have m_zip := PySem.W.mg_none_of X G z_zip
  have mmd := PySem.W.mg_of X G cmd
  have mmw := PySem.W.mg_of X G cmw
  have mmp := PySem.W.mg_of X G cmp
  have mmq := PySem.W.mg_of X G cmq
  have gPW := PySem.W.mg_of X G aPW
  have hPW : ∀ H : Hp, SqT K H pw (fiveW.map V.str) := fun H => .inr ⟨oW, itW, nW, lPW, cPW, dPW, zPW, vPW⟩
  refine ⟨PySem.W.fnOf "law" "law" (defArgs sLaw) (defBody sLaw) (defScope sLaw) .none kVL dcL pmL anL cdL ctL, [], spLaw K, ?_, ?_, ?_, fun s v => .of_eq rfl, ?_, ?_⟩
  · intro p hp
    cases hp
  · intro p hp
    cases hp
  · intro p hp
    cases hp
  · intro H a ns hl hH hS
    exact ⟨a, ns, rfl, hS, hl, fun _ => rfl⟩
  · intro base KB NB TB
    have OA := ok_name (P := l.prog) (w := w) (base := base) (k := 0) FA m_isinstance m_str m_len
    have OB := ok_kind (P := l.prog) (w := w) (base := base) (k := 0) FB m_isinstance m_str m_int
    have OD := ok_badH (P := l.prog) (w := w) (base := base) (k := 0) FD ⟨(OA).mono (by decide), gA, kA, bA⟩ m_enumerate
    have OC := ok_badD (P := l.prog) (w := w) (base := base) (k := 0) FC ⟨(OB).mono (by decide), gB, kB, bB⟩ m_enumerate m_isinstance m_str m_int m_tuple m_len
    have OE := ok_fault (P := l.prog) (w := w) (base := base) (k := 0) FE ⟨(OD).mono (by decide), gD, kD, bD⟩ ⟨(OC).mono (by decide), gC, kC, bC⟩ m_isinstance m_tuple m_len mmd
    have ON := ok_need (P := l.prog) (w := w) (base := base) (k := 0) FN ⟨(OE).mono (by decide), gE, kE, bE⟩
    have OFi := ok_find (P := l.prog) (w := w) (base := base) (k := 0) FFi m_isinstance m_str m_enumerate
    have OW := ok_whole (P := l.prog) (w := w) (base := base) (k := 0) FW m_isinstance m_int
    have OAm := ok_among (P := l.prog) (w := w) (base := base) (k := 0) FAm ⟨(OW).mono (by decide), gW, kW, bW⟩
    have OTu := ok_tupOf (P := l.prog) (w := w) (base := base) (k := 0) FTu m_isinstance m_tuple m_len
    have OMh := ok_mayH (P := l.prog) (w := w) (base := base) (k := 2) FMh ⟨(OW).mono (by decide), gW, kW, bW⟩ ⟨(OAm).mono (by decide), gAm, kAm, bAm⟩ m_len
    have ODo := ok_dor (P := l.prog) (w := w) (base := base) (k := 1) FDo ⟨(OTu).mono (by decide), gTu, kTu, bTu⟩ ⟨(OFi).mono (by decide), gFi, kFi, bFi⟩ m_len
    have OFb := ok_fbp (P := l.prog) (w := w) (base := base) (k := 3) FFb ⟨(OMh).mono (by decide), gMh, kMh, bMh⟩ m_enumerate
    have OUf := ok_ufault (P := l.prog) (w := w) (base := base) (k := 4) FUf ⟨(OTu).mono (by decide), gTu, kTu, bTu⟩ ⟨(ODo).mono (by decide), gDo, kDo, bDo⟩ ⟨(OFb).mono (by decide), gFb, kFb, bFb⟩ m_enumerate mmw
    have ORu := ok_refU (P := l.prog) (w := w) (base := base) (k := 5) FRu ⟨(OUf).mono (by decide), gUf, kUf, bUf⟩
    have OLe := ok_lbe (P := l.prog) (w := w) (base := base) FLe bLe gLe m_isinstance m_tuple m_int m_len gPW hPW
    have OLb := ok_lbb (P := l.prog) (w := w) (base := base) FLb bLb gLb ⟨OLe 8, gLe, kLe, bLe⟩ m_isinstance m_tuple m_len
    have OVa := ok_val (P := l.prog) (w := w) (base := base) FVa bVa gVa
    have OCh := ok_cho (P := l.prog) (w := w) (base := base) (k := 9) FCh ⟨OVa 8, gVa, kVa, bVa⟩
    have OSp := ok_shape (P := l.prog) (w := w) (base := base) (k := 0) FSp m_isinstance m_tuple m_int m_len
    have OMf := ok_mfault (P := l.prog) (w := w) (base := base) FMf ⟨(OSp).mono (by decide), gSp, kSp, bSp⟩ ⟨OLb 8 (by decide), gLb, kLb, bLb⟩ m_isinstance m_tuple m_len m_enumerate mmp mmq
    have ORm := ok_refM (P := l.prog) (w := w) (base := base) (k := 19) FRm ⟨(OMf).mono (by decide), gMf, kMf, bMf⟩
    have ONm := ok_needM (P := l.prog) (w := w) (base := base) (k := 20) FNm ⟨(ON).mono (by decide), gN, kN, bN⟩ ⟨(ORm).mono (by decide), gRm, kRm, bRm⟩
    have OGk := ok_givK (P := l.prog) (w := w) (base := base) (k := 10) FGk ⟨(OCh).mono (by decide), gCh, kCh, bCh⟩ ⟨(OVa 8).mono (by decide), gVa, kVa, bVa⟩ m_isinstance m_str m_tuple m_zip
    have ODn := ok_doneR (P := l.prog) (w := w) (base := base) (k := 11) FDn ⟨(OGk).mono (by decide), gGk, kGk, bGk⟩ m_isinstance m_str m_zip
    have OOo := ok_outOf (P := l.prog) (w := w) (base := base) (k := 12) FOo ⟨(OFi).mono (by decide), gFi, kFi, bFi⟩ ⟨(OW).mono (by decide), gW, kW, bW⟩ ⟨(ODn).mono (by decide), gDn, kDn, bDn⟩ m_tuple m_zip
    have OOc := ok_outc (P := l.prog) (w := w) (base := base) (k := 21) FOc ⟨(ONm).mono (by decide), gNm, kNm, bNm⟩ ⟨(ORu).mono (by decide), gRu, kRu, bRu⟩ ⟨(OOo).mono (by decide), gOo, kOo, bOo⟩
    have OS1 := ok_started (P := l.prog) (w := w) (base := base) (k := 0) (mg := mg) FS1
    have ODr := ok_drw (P := l.prog) (w := w) (base := base) (k := 0) FDr m_len
    have OOf := ok_of (P := l.prog) (w := w) (base := base) (k := 1) FOf ⟨(ODr).mono (by decide), gDr, kDr, bDr⟩ m_len
    have OLn := ok_lnames (P := l.prog) (w := w) (base := base) (k := 2) FLn ⟨(ODr).mono (by decide), gDr, kDr, bDr⟩ ⟨(OOf).mono (by decide), gOf, kOf, bOf⟩ m_len m_range m_sorted
    have OTk := ok_taken (P := l.prog) (w := w) (base := base) (k := 2) FTk ⟨(ODr).mono (by decide), gDr, kDr, bDr⟩ ⟨(OOf).mono (by decide), gOf, kOf, bOf⟩ m_len m_range m_tuple
    have OLf := ok_lface (P := l.prog) (w := w) (base := base) (k := 3) FLf ⟨(ODr).mono (by decide), gDr, kDr, bDr⟩ ⟨(OOf).mono (by decide), gOf, kOf, bOf⟩ ⟨(OLn).mono (by decide), gLn, kLn, bLn⟩ ⟨(OTk).mono (by decide), gTk, kTk, bTk⟩ m_len m_enumerate m_tuple m_list
    have OLl := ok_leaf (P := l.prog) (w := w) (base := base) (k := 2) FLl ⟨(ODr).mono (by decide), gDr, kDr, bDr⟩ ⟨(OOf).mono (by decide), gOf, kOf, bOf⟩
    have OLr := ok_reck (P := l.prog) (w := w) (base := base) (k := 3) FLr bLr gLr ⟨(ODr).mono (by decide), gDr, kDr, bDr⟩ ⟨(OOf).mono (by decide), gOf, kOf, bOf⟩ ⟨(OLl).mono (by decide), gLl, kLl, bLl⟩ m_range m_int m_tuple
    have OLy := ok_lbody (P := l.prog) (w := w) (base := base) (k := 7) FLy bLy gLy ⟨(ODr).mono (by decide), gDr, kDr, bDr⟩ ⟨OLr 3, gLr, kLr, bLr⟩ m_range m_int m_tuple
    have OLm := ok_lmak (P := l.prog) (w := w) (base := base) (k := 10) FLm ⟨(ODr).mono (by decide), gDr, kDr, bDr⟩ ⟨(OOf).mono (by decide), gOf, kOf, bOf⟩ ⟨OLy 2, gLy, kLy, bLy⟩ m_len m_range m_enumerate m_tuple
    have OLd := ok_reckd (P := l.prog) (w := w) (base := base) FLd bLd gLd m_isinstance m_tuple m_int
    have OLx := ok_ldone (P := l.prog) (w := w) (base := base) (k := 9) FLx ⟨OLd 8, gLd, kLd, bLd⟩ m_tuple m_zip
    have OLu := ok_luser (P := l.prog) (w := w) (base := base) (k := 2) FLu ⟨(ODr).mono (by decide), gDr, kDr, bDr⟩ ⟨(OOf).mono (by decide), gOf, kOf, bOf⟩ m_range m_enumerate m_tuple
    have OLo := ok_lout (P := l.prog) (w := w) (base := base) (k := 10) FLo ⟨(OLx).mono (by decide), gLx, kLx, bLx⟩ m_zip
    exact ok_law (k := 22) FL ⟨⟨(OS1).mono (by decide), gS1, kS1, bS1⟩, ⟨(OLf).mono (by decide), gLf, kLf, bLf⟩, ⟨(OLm).mono (by decide), gLm, kLm, bLm⟩, ⟨(OLu).mono (by decide), gLu, kLu, bLu⟩, ⟨(OOf).mono (by decide), gOf, kOf, bOf⟩, ⟨(ODr).mono (by decide), gDr, kDr, bDr⟩, ⟨(OLo).mono (by decide), gLo, kLo, bLo⟩, ⟨(OOc).mono (by decide), gOc, kOc, bOc⟩, m_len, m_range, m_max, m_min, m_repr⟩
end SfM
open PySem PySem.W PyProof.Rows
set_option maxRecDepth 100000 in
set_option maxHeartbeats 0 in
theorem PySem.Challenge.cw_sameface_k21_outcomes_holds : PySem.Challenge.rw_sameface_k21_outcomes.Holds := by
  w_on; o_law; k_head; (case hw => w_witness2)
  k_fill
  refine SfG.walk_G (l := PySem.Challenge.rw_sameface_k21_outcomes) (n := 63) (k := 23) (x := "_law_script") (CX := fun _ => L2.CX0) rfl (by decide) rfl ⟨rfl, by decide, by decide⟩ (fun w h Y => PySem.W.kIn_of Y) ?F (fun _ _ _ _ _ h => h)
  case F =>
    intro w mg fa h KX G hmg T
    refine' SfM.all_mk KX G hmg ?aA ?lA ?hA ?kA ?aB ?lB ?hB ?kB ?aC ?lC ?hC ?kC ?aD ?lD ?hD ?kD ?aE ?lE ?hE ?kE ?aN ?lN ?hN ?kN ?aFi ?lFi ?hFi ?kFi ?aW ?lW ?hW ?kW ?aAm ?lAm ?hAm ?kAm ?aTu ?lTu ?hTu ?kTu ?aMh ?lMh ?hMh ?kMh ?aDo ?lDo ?hDo ?kDo ?aFb ?lFb ?hFb ?kFb ?aUf ?lUf ?hUf ?kUf ?aRu ?lRu ?hRu ?kRu ?aLe ?lLe ?hLe ?kLe ?aLb ?lLb ?hLb ?kLb ?aVa ?lVa ?hVa ?kVa ?aCh ?lCh ?hCh ?kCh ?aSp ?lSp ?hSp ?kSp ?aMf ?lMf ?hMf ?kMf ?aRm ?lRm ?hRm ?kRm ?aNm ?lNm ?hNm ?kNm ?aGk ?lGk ?hGk ?kGk ?aDn ?lDn ?hDn ?kDn ?aOo ?lOo ?hOo ?kOo ?aOc ?lOc ?hOc ?kOc ?aS1 ?lS1 ?hS1 ?kS1 ?aDr ?lDr ?hDr ?kDr ?aOf ?lOf ?hOf ?kOf ?aLn ?lLn ?hLn ?kLn ?aTk ?lTk ?hTk ?kTk ?aLf ?lLf ?hLf ?kLf ?aLl ?lLl ?hLl ?kLl ?aLr ?lLr ?hLr ?kLr ?aLy ?lLy ?hLy ?kLy ?aLm ?lLm ?hLm ?kLm ?aLd ?lLd ?hLd ?kLd ?aLx ?lLx ?hLx ?kLx ?aLu ?lLu ?hLu ?kLu ?aLo ?lLo ?hLo ?kLo ?aL ?lL ?hL ?kL ?cmd ?cmw ?cmp ?cmq ?aPW ?lPW ?cPW ?dPW ?zPW ?vPW ?z_isinstance ?z_str ?z_int ?z_tuple ?z_len ?z_enumerate ?z_range ?z_min ?z_max ?z_sorted ?z_list ?z_repr ?z_zip
    (case aA => k_is)
    (case lA => k_is)
    (case hA => k_is)
    (case kA => k_is)
    (case aB => k_is)
    (case lB => k_is)
    (case hB => k_is)
    (case kB => k_is)
    (case aC => k_is)
    (case lC => k_is)
    (case hC => k_is)
    (case kC => k_is)
    (case aD => k_is)
    (case lD => k_is)
    (case hD => k_is)
    (case kD => k_is)
    (case aE => k_is)
    (case lE => k_is)
    (case hE => k_is)
    (case kE => k_is)
    (case aN => k_is)
    (case lN => k_is)
    (case hN => k_is)
    (case kN => k_is)
    (case aFi => k_is)
    (case lFi => k_is)
    (case hFi => k_is)
    (case kFi => k_is)
    (case aW => k_is)
    (case lW => k_is)
    (case hW => k_is)
    (case kW => k_is)
    (case aAm => k_is)
    (case lAm => k_is)
    (case hAm => k_is)
    (case kAm => k_is)
    (case aTu => k_is)
    (case lTu => k_is)
    (case hTu => k_is)
    (case kTu => k_is)
    (case aMh => k_is)
    (case lMh => k_is)
    (case hMh => k_is)
    (case kMh => k_is)
    (case aDo => k_is)
    (case lDo => k_is)
    (case hDo => k_is)
    (case kDo => k_is)
    (case aFb => k_is)
    (case lFb => k_is)
    (case hFb => k_is)
    (case kFb => k_is)
    (case aUf => k_is)
    (case lUf => k_is)
    (case hUf => k_is)
    (case kUf => k_is)
    (case aRu => k_is)
    (case lRu => k_is)
    (case hRu => k_is)
    (case kRu => k_is)
    (case aLe => k_is)
    (case lLe => k_is)
    (case hLe => k_is)
    (case kLe => k_is)
    (case aLb => k_is)
    (case lLb => k_is)
    (case hLb => k_is)
    (case kLb => k_is)
    (case aVa => k_is)
    (case lVa => k_is)
    (case hVa => k_is)
    (case kVa => k_is)
    (case aCh => k_is)
    (case lCh => k_is)
    (case hCh => k_is)
    (case kCh => k_is)
    (case aSp => k_is)
    (case lSp => k_is)
    (case hSp => k_is)
    (case kSp => k_is)
    (case aMf => k_is)
    (case lMf => k_is)
    (case hMf => k_is)
    (case kMf => k_is)
    (case aRm => k_is)
    (case lRm => k_is)
    (case hRm => k_is)
    (case kRm => k_is)
    (case aNm => k_is)
    (case lNm => k_is)
    (case hNm => k_is)
    (case kNm => k_is)
    (case aGk => k_is)
    (case lGk => k_is)
    (case hGk => k_is)
    (case kGk => k_is)
    (case aDn => k_is)
    (case lDn => k_is)
    (case hDn => k_is)
    (case kDn => k_is)
    (case aOo => k_is)
    (case lOo => k_is)
    (case hOo => k_is)
    (case kOo => k_is)
    (case aOc => k_is)
    (case lOc => k_is)
    (case hOc => k_is)
    (case kOc => k_is)
    (case aS1 => k_is)
    (case lS1 => k_is)
    (case hS1 => k_is)
    (case kS1 => k_is)
    (case aDr => k_is)
    (case lDr => k_is)
    (case hDr => k_is)
    (case kDr => k_is)
    (case aOf => k_is)
    (case lOf => k_is)
    (case hOf => k_is)
    (case kOf => k_is)
    (case aLn => k_is)
    (case lLn => k_is)
    (case hLn => k_is)
    (case kLn => k_is)
    (case aTk => k_is)
    (case lTk => k_is)
    (case hTk => k_is)
    (case kTk => k_is)
    (case aLf => k_is)
    (case lLf => k_is)
    (case hLf => k_is)
    (case kLf => k_is)
    (case aLl => k_is)
    (case lLl => k_is)
    (case hLl => k_is)
    (case kLl => k_is)
    (case aLr => k_is)
    (case lLr => k_is)
    (case hLr => k_is)
    (case kLr => k_is)
    (case aLy => k_is)
    (case lLy => k_is)
    (case hLy => k_is)
    (case kLy => k_is)
    (case aLm => k_is)
    (case lLm => k_is)
    (case hLm => k_is)
    (case kLm => k_is)
    (case aLd => k_is)
    (case lLd => k_is)
    (case hLd => k_is)
    (case kLd => k_is)
    (case aLx => k_is)
    (case lLx => k_is)
    (case hLx => k_is)
    (case kLx => k_is)
    (case aLu => k_is)
    (case lLu => k_is)
    (case hLu => k_is)
    (case kLu => k_is)
    (case aLo => k_is)
    (case lLo => k_is)
    (case hLo => k_is)
    (case kLo => k_is)
    (case aL => k_is)
    (case lL => k_is)
    (case hL => k_is)
    (case kL => k_is)
    (case cmd => k_is)
    (case cmw => k_is)
    (case cmp => k_is)
    (case cmq => k_is)
    (case aPW => k_is)
    (case lPW => k_is)
    (case cPW => exact rfl)
    (case dPW => exact rfl)
    (case zPW => decide)
    (case vPW => exact .cons ⟨_, rfl⟩ (.cons ⟨_, rfl⟩ (.cons ⟨_, rfl⟩ (.cons ⟨_, rfl⟩ (.cons ⟨_, rfl⟩ .nil)))))
    (case z_isinstance => k_is)
    (case z_str => k_is)
    (case z_int => k_is)
    (case z_tuple => k_is)
    (case z_len => k_is)
    (case z_enumerate => k_is)
    (case z_range => k_is)
    (case z_min => k_is)
    (case z_max => k_is)
    (case z_sorted => k_is)
    (case z_list => k_is)
    (case z_repr => k_is)
    (case z_zip => k_is)
