import PyProof.Rows.All
import Wide.All
import OpenK.AllK
import Wide.FinOn
import HandS.ForMost
import HandS.Walk
import HandS.Wide
import HandS.IsInst
import HandS.AnyAll
import HandS.Replace
import HandS.EndTab
import HandS.RaiseMore
import HandS.TupLe
import PyProof.ReprRoads
import PyProof.StrOps2
import HandS.TupAny
import HandS.ForExc
import HandS.ExcIs
import HandS.ExcValue
import KE.GoesEnum
import KE.GoesMore
import PyProof.DictUpdate
import PyProof.ListIndex
import PyProof.FactsAll.bool_1
import HandS.StrMore
import HandS.Style
import PyProof.StrLawsRepr
import HandS.Star
import KE.KDictPairs
import PyProof.EqLayable
import KE.LtData
import KE.KUnpackStar
import HandS.FStr
import HandS.TupSets
import HandS.SortOrd
import PyProof.Rows.SortKeyStr
import HandS.TupMul
import KE.KRevSl
import HandS.Flow
import PySem.Challenge.RW_sameface_k59_programs_as_texts
set_option Elab.async false
set_option linter.all false
set_option maxRecDepth 100000
/-! calls made where no repr is under way; repr of lists; all(..) over a text with a module's name in its test; the law's end -/
namespace SfG
open PySem PySem.Spec PyProof.Rows L2
/-! ### a def's promise where no repr is under way -/
structure FnG (P : Program) (w : World) (K : PySem.W.Frag) (mg : Str → Option Value) (base : Heap)
    (CX : CXT) (k : Nat) (f : Addr) (fd : FuncData) (ps : List Str) (sp : Sp) : Prop where
  size : ∀ vs H Q E, sp vs H Q E → vs.length = ps.length
  goes : ∀ (A : Around) (outer : List Env) (s : Shared) (H : Hp) (args : Args) (us : List Value)
    (vs : List V) (Q : VK) (E : XK), Room k A → A.guards = some [] → Env0 P w K mg base A outer s H →
    BindsTo s fd args (ps.zip us) → Vals vs us → sp vs H Q E →
    codeAny (model P w) A (.call (.ref f) args) (CR CX outer P w H s Q E) s
section
variable {P : Program} {w : World} {K : PySem.W.Frag} {mg : Str → Option Value} {base : Heap}
/-- a def by its body, where no repr is under way -/
theorem fng_of {x qual : Str} {st : Stmt} {f : Addr} {fd : FuncData} {N ps : List Str} {k : Nat} {sp : Sp}
    (F : Fun K x qual st f fd) (S : FnScope N ps (defScope st)) (len : ∀ vs H Q E, sp vs H Q E → vs.length = ps.length)
    (hbody : ∀ (cdv : Value) (A : Around) (outer : List Env) (s : Shared) (H : Hp) (vs : List V) (Q : VK) (E : XK),
      Room k (A.deeper (envOfC qual (defScope st) s.heap.objs.size f cdv)) → A.guards = some [] → sp vs H Q E →
      ∃ t, PSs (cxOf CX0 P w K mg base N qual (defScope st) f cdv A outer s H E).nox (defBody st) t ∧
        t { nx := fun _ H' => Q .non H', rt := Q } (start N vs) H) :
    FnG P w K mg base CX0 (k + 1) f fd ps sp := by
  obtain ⟨oc, od, kV, doc, pm, an, cdv, ct, osl, rfl, lk, hcd⟩ := F.ex
  refine ⟨len, ?_⟩
  intro A outer s H args us vs Q E hr hgd e0 hb r hsp
  refine LamX.run_ofS lk hcd S hr e0 hb r (len _ _ _ _ hsp) ?_
  intro hr'
  obtain ⟨t, h, q⟩ := hbody cdv A outer s H vs Q E hr' hgd hsp
  exact ⟨t, h.nox, q⟩
end
section
variable {X : Cx} {CX : CXT} {k : Nat} {f : Addr} {fd : FuncData} {ps : List Str} {sp : Sp} {dvs : List V}
  {ds : List Value} {E : XK} {x : Str} {p pos : Pos} {e : Expr} {es : List Expr} {t : TA}
theorem run_fng {pins : List (Addr × Obj)} {σ : L2.St} {H : Hp} {s : Shared} {Q : VK} {us : List Value} {vs : List V}
    (F : FnG X.prog X.w X.K X.mg X.base CX k f fd ps sp) (hr : Room k X.A) (hgd : X.A.guards = some [])
    (hb : Binds X.K fd ps ds) (hd : Vals dvs ds) (hx : Passes CX X E) (I : L2.Inv X pins σ H s) (r : Vals vs us)
    (h : sp (vs ++ dvs) H Q E) : wpAny (model X.prog X.w) X.A (call (.ref f) us) (EP X pins σ Q) X.xe s := by
  have r2 := r.append hd
  have hl : (us ++ ds).length = ps.length := r2.length.symm.trans (F.size _ _ _ _ h)
  have go := F.goes X.A X.stack s H ⟨us, []⟩ _ _ Q E hr hgd I.env0 (hb s us I.kIn hl) r2 h
  refine wpAny_call (codeAny_mono go ?_)
  intro res s' hq
  match res, hq with
  | .error e, hq => exact hx pins σ H s e s' I hq
  | .ok (.ret u), hq => exact I.after hq
  | .ok .next, hq => exact False.elim hq
  | .ok .brk, hq => exact False.elim hq
  | .ok .cont, hq => exact False.elim hq
theorem pe_callG (F : FnG X.prog X.w X.K X.mg X.base CX k f fd ps sp) (hr : Room k X.A) (hgd : X.A.guards = some [])
    (hg : Gl X x) (hm : X.mg x = some (.ref f)) (hk : PySem.W.keepIn X.K (.ref f) = true)
    (hb : Binds X.K fd ps ds) (hd : Vals dvs ds) (hx : Passes CX X E) (ha : PA X (e :: es) t)
    (hdb : (x == ("__debug__" : Str)) = false := by decide)
    (he : starEach (e :: es) X.env = (false, eval e X.env) :: starEach es X.env := by rfl)
    (hpl : (backTo pos (starEach es X.env)).any (·.1) = false := by rfl) :
    PE X (.Call (.Name x p) (e :: es) [] pos) (tCall sp dvs E t) := by
  constructor
  intro pins s σ H Q I h
  refine wpAny_Call_Name_kw (ld_glob I hg hm ?_ hdb)
  refine PySem.W.callWith_K (h₀ := X.base) I.ok.mod.kin hk ?_ he hpl
  refine thn (ha.run pos pins s σ H _ I h) ?_
  rintro us s1 ⟨vs, H1, I1, r, q⟩
  exact ⟨I1.kIn, run_fng F hr hgd hb hd hx I1 r q⟩
end
/-! ### repr of a list or a tuple of plain data -/
def rRepr (K : PySem.W.Frag) : List V → Hp → VK → Prop := fun xs H Q =>
  ∃ (a : Addr) (d : PyData) (S : Str), xs = [.ref a] ∧ Dp K H (.ref a) d ∧ d.showable = true ∧ d.hasDict = false ∧
    d.depth ≤ 30 ∧ d.shown = S ∧ S.length ≤ sizeLine ∧ Q (.str S) H
theorem call_repr {X : Cx} {k : Nat} (hr : Room k X.A) (hgd : X.A.guards = some []) :
    CallR X (.builtin "repr") (rRepr X.K) := by
  intro pins s σ H xs us Q I r h
  obtain ⟨a, d, S, rfl, hd, hs, hn, hdep, rfl, hz, q⟩ := h
  obtain ⟨u, rfl, ru⟩ := vals1 r
  cases (show u = Value.ref a from ru)
  obtain ⟨as, rd⟩ := Dp.reads I d _ _ hd (show RelV (.ref a) (.ref a) from rfl)
  have hun := hr.un
  refine repr_of_reads' rd hs (fun z => ?_) hgd (by omega) (fun _ _ z => z) (fun h' u' tk hk => ?_) hz
  · rw [hn] at z
    cases z
  · exact ⟨.str d.shown, H, I.kept hk, ⟨_, rfl⟩, q⟩
/-! ### all(test for x in e), e a text, the test may name what the module holds -/
/-- the test of one sign, run in the expression's own frame; the module's names are to be had -/
def EltG (X : Cx) (scope : Scope) (x : Str) (elt : Expr) (pb : Nat → Bool) : Prop :=
  ∀ (cenv : Env) (A' : Around) (E' : Value → Shared → Prop) (c : Nat) (t : Tok) (s2 : Shared) (m2 : Str → Option Value),
    cenv.scope = scope → cenv.globals = mainGlobals → s2.heap.Ns mainGlobals X.mg → s2.heap.Ns cenv.locals m2 →
    m2 x = some (.str ⟨#[c]⟩ t) →
    wpAny (model X.prog X.w) A' (eval elt cenv) (fun y s3 => y = .bool (pb c) ∧ Keeps s2 s3) E' s2
/-- x in NAME, NAME a text of the module -/
theorem elt_in {X : Cx} {scope : Scope} {x g : Str} {z : Str} {tz : Tok} {p1 p2 p3 : Pos} (hk : scope.kind = .function)
    (hl : scope.names.lookup x = some .local) (hgl : scope.names.lookup g = some .globalImplicit) (hz : X.mg g = some (.str z tz))
    (hd : (x == ("__debug__" : Str)) = false := by decide) (hd2 : (g == ("__debug__" : Str)) = false := by decide) :
    EltG X scope x (.Compare (.Name x p1) [.In] [.Name g p2] p3) (fun c => decide (c ∈ z.cps.toList)) := by
  intro cenv A' E' c t s2 m2 hs hgb hmn hn hm
  have kd : cenv.scope.kind = .function := by rw [hs]; exact hk
  refine wpAny_Compare1 ?_
  refine wpAny_Name (wpAny_loadName_local kd (show cenv.scope.names.lookup x = some .local by rw [hs]; exact hl) hn hm ?_) hd
  refine Calls.Name_function_global kd (show cenv.scope.names.lookup g = some .globalImplicit by rw [hs]; exact hgl) ?_ hd2
  refine Calls.loadGlobal_global (by rw [hgb]; exact hmn) hz ?_
  refine PyProof.Rows.in_str ?_
  exact ⟨congrArg Value.bool (PySem.StrLaws.found_one z c), GxR.keeps_refl _⟩
/-- the expression's code object: found in the def's table, or laid there -/
theorem gen_code {prog : Program} {w : World} {A : Around} {E : Value → Shared → Prop} {env : Env} {gpos : Pos} {q : Str} {scope : Scope}
    {c P : Addr} {ps : Array Value} {s2 : Shared} {Q : Value → Shared → Prop} (hcode : env.code = .ref c) (cd : PySem.W.CodeHd s2.heap c P)
    (hP : s2.heap.get? P = some { cls := .none, data := .fields ps }) (ht : TriplesOk ps.toList)
    (h : ∀ (code : Value) (h3 : Heap) (tk : Nat) (ps' : Array Value), Heap.ExtBut P s2.heap h3 → s2.heap.objs.size ≤ h3.objs.size →
      h3.get? P = some { cls := .none, data := .fields ps' } → (∃ more, ps' = ps ++ more) → TriplesOk ps'.toList →
      Q code { s2 with heap := h3, toks := tk }) : wpAny (model prog w) A (genexprCode env gpos q scope) Q E s2 := by
  cases hf : codeAmong gpos ps.toList with
  | some cv =>
    exact wpAny_genexprCode_hit hcode (cd.code hP ht) hf (h cv s2.heap s2.toks ps (Heap.ExtBut.refl _ _) (Nat.le_refl _) hP ⟨#[], by simp⟩ ht)
  | none =>
    refine wpAny_genexprCodeX hcode (cd.code hP ht) (cd.tab hP) hf ?_
    intro c' h' tk hx hge hlt hco' _ htab' _
    obtain ⟨o1, vs, f1, tf, fl, tg, inF, tx, tt, op, _, _, _, _, _, _, _, _, _, htr, _⟩ := hco'
    exact h _ h' tk _ hx (Nat.le_trans hge (Nat.le_of_lt hlt)) htab'.2 ⟨_, rfl⟩ htr
section
variable {X : Cx} {pins : List (Addr × Obj)} {σ : L2.St} {H : Hp} {s : Shared}
theorem gen_made {c P : Addr} {elt iter : Expr} {x : Str} {px gpos : Pos} {scope : Scope} {pb : Nat → Bool} {te : TE} {k : Nat}
    {Q' : Value → Shared → Prop} {R : Str → Hp → Prop} (hr : Room k X.A) (TB : GxR.TabB X.base X.mg c P) (hcode : X.env.code = .ref c)
    (S : GxR.GenS X.env scope x) (hi : PE X iter te) (hel : EltG X scope x elt pb) (hs : ∀ v, genFold iter X.env v = pure v)
    (I : L2.Inv X pins σ H s) (h : te σ H fun v H1 => ∃ a : Str, v = .str a ∧ GxR.TabG H1 P ∧ R a H1)
    (hQ : ∀ a H1 g s5, R a H1 → GxR.Ready X pins σ H1 P a pb g s5 → Q' (.ref g) s5) :
    wpAny (model X.prog X.w) X.A (eval (.GeneratorExp elt [⟨.Name x px, iter, [], 0⟩] scope gpos) X.env) Q' X.xe s := by
  have hdp := hr.dp
  refine wpAny_GeneratorExp_walksQ hr.hd S.co (closure_ok S.free) S.cell S.dot S.loc S.kind (by omega) ?_ hs
  refine thn (hi.run pins s σ H _ I h) ?_
  rintro xv s1 ⟨v, H1, I1, r1, a, rfl, ⟨ps, hP, ht⟩, q1⟩
  obtain ⟨t, rfl⟩ := _root_.id r1
  refine wpAny_pyIter_str ?_
  intro o St W hst
  have hPs : s1.heap.get? P = some { cls := .none, data := .fields ps } := I1.hok P _ hP
  have hPlt := Heap.lt_size hPs
  have lim2 : (s1.heap.push o).NoLimit := I1.nolimit.push o
  refine ⟨lim2, ?_⟩
  refine gen_code (s2 := { s1 with heap := s1.heap.push o }) hcode (TB.code.keeps fun b u e => Heap.get?_push_of_some _ (I1.bk b u e)) (Heap.get?_push_of_some _ hPs) ht ?_
  intro code h3 tk ps' hx hsz hP3 hmore ht3
  have hcl : cStatics < s1.heap.objs.size := by
    obtain ⟨_, hns, _⟩ := I1.nolimit
    exact hns.lt
  have hcP : cStatics ≠ P := by
    intro e
    obtain ⟨_, ⟨o', es, ep, ho, hd, _⟩, _⟩ := I1.nolimit
    rw [e, hPs] at ho
    cases ho
    cases hd
  have sz2 : (s1.heap.push o).objs.size = s1.heap.objs.size + 1 := Heap.size_push ..
  have keep3 : ∀ b u, b ≠ P → s1.heap.get? b = some u → h3.get? b = some u :=
    fun b u hb e => hx b u hb (Heap.get?_push_of_some _ e)
  have hsz' : s1.heap.objs.size + 1 ≤ h3.objs.size := by
    rw [← sz2]
    exact hsz
  have ns3 : h3.Ns mainGlobals X.mg := ((I1.mod.glob.keeps I1.bk).push o).extBut hx TB.gP
  obtain ⟨bm, ob, e1, e2, e3, e4, e5, e6, e7, e8⟩ := TB.bm
  refine wpAny_builtinsFor (m := X.mg) (by rw [I1.ok.glob]; exact ns3) e1 e2 (keep3 _ _ e4 (I1.bk _ _ e5)) e6 e7 e8 ?_
  refine ⟨s1.heap.objs.size, [s1.heap.objs.size], [s1.heap.objs.size], a.cps.size, SignAt a, St, fun _ => true,
    fun i y => ∃ cc, a.cps[i]? = some cc ∧ y = .bool (pb cc), rfl, W, ?_, ?_, lim2.extBut hx hcP, ?_, ?_, ?_⟩
  · refine (W X.A hr.hd).frame _ _ _ hst ?_
    intro b hb u e
    have eb : b = s1.heap.objs.size := by simpa using hb
    refine hx b u ?_ e
    intro z
    rw [← z, eb] at hPlt
    exact Nat.lt_irrefl _ hPlt
  · intro b hb
    have eb : b = s1.heap.objs.size := by simpa using hb
    rw [eb]
    show s1.heap.objs.size < h3.objs.size
    omega
  · intro z
    have eb : cStatics = s1.heap.objs.size := by simpa using z
    rw [eb] at hcl
    exact Nat.lt_irrefl _ hcl
  · intro href hhref
    constructor
    · intro A' E' i v s2 m2 hA hPv hn hm hk
      simp only [List.forIn_nil]
      exact wpAny_pure ⟨rfl, GxR.keeps_refl _⟩
    · intro A' E' i v s2 m2 hA hPv hp hn hm hk
      obtain ⟨cc, u, hcc, rfl⟩ := hPv
      have nsM : s2.heap.Ns mainGlobals X.mg := by
        obtain ⟨om, es, ep, g1, g2⟩ := ns3
        have glt : mainGlobals < s1.heap.objs.size := by
          obtain ⟨o9, _, _, g9, _⟩ := I1.mod.glob.keeps I1.bk
          exact Heap.lt_size g9
        refine ⟨om, es, ep, hk mainGlobals ?_ ?_ om (hhref _ _ g1), g2⟩
        · refine List.mem_range.mpr ?_
          show mainGlobals < h3.objs.size
          exact Heap.lt_size g1
        · intro z
          have eb : mainGlobals = s1.heap.objs.size := by simpa using z
          rw [eb] at glt
          exact Nat.lt_irrefl _ glt
      exact wpAny_mono (hel _ A' E' cc u s2 m2 rfl I1.ok.glob nsM hn hm) (fun y s3 r => ⟨⟨cc, hcc, r.1⟩, r.2⟩) (fun _ _ e => e)
  · intro g h5 tk5 gs hgb hag hsz5 hk5 W5 hat
    simp only [GxR.passing_true, List.length_range] at W5
    refine hQ a H1 g _ q1 ⟨_, _, _, _, _, W5.in4_1, hat, ?_, ?_⟩
    · intro j y sj Qj Ej hy hQj
      obtain ⟨i, hij, cc, hcc, rfl⟩ := hy
      obtain ⟨hj, ej⟩ := List.getElem?_eq_some_iff.mp hij
      rw [List.getElem_range] at ej
      subst ej
      have e9 : a.cps.toList[j]? = some cc := by rw [Array.getElem?_toList]; exact hcc
      have hQ2 : Qj (GxR.trF pb a.cps.toList j) sj := hQj
      rw [GxR.trF_some e9] at hQ2
      exact wpAny_truthy_bool hQ2
    · intro s' hmv
      obtain ⟨more, em⟩ := hmore
      have nwr : ∀ b u, s1.heap.get? b = some u → b ∉ h3.objs.size :: [s1.heap.objs.size] := by
        intro b u e hb
        have hl := Heap.lt_size e
        rcases List.mem_cons.mp hb with z | z
        · rw [z] at hl
          have h9 : (h3.objs.size : Nat) < s1.heap.objs.size := hl
          omega
        · have eb : b = s1.heap.objs.size := by simpa using z
          rw [eb] at hl
          exact Nat.lt_irrefl _ hl
      have J := GxR.inv_tab (more := more) (h' := s'.heap) (g' := s'.gens) (d' := s'.drawn) (t' := s'.toks) I1 hP
        (fun b u hb e => hmv.heap b u (nwr b u e) (hk5 b u (keep3 b u hb e)))
        (by rw [← em]; exact hmv.heap P _ (nwr P _ hPs) (hk5 P _ hP3)) (AllBare.movedS (I1.bare.push hgb) hmv)
      rw [GxR.sh_eta s1 s' hmv.os] at J
      exact ⟨upd H1 P (.tbl (ps ++ more)), ⟨⟨ps ++ more, upd_same, by rw [← em]; exact ht3⟩, fun b hb => upd_ne hb⟩, J⟩
theorem pe_allG {c P : Addr} {elt iter : Expr} {x : Str} {px p pos gpos : Pos} {scope : Scope} {pb : Nat → Bool} {te : TE} {k : Nat}
    (hr : Room k X.A) (hg : Gl X "all") (hm : X.mg "all" = none) (TB : GxR.TabB X.base X.mg c P) (hcode : X.env.code = .ref c)
    (S : GxR.GenS X.env scope x) (hi : PE X iter te) (hel : EltG X scope x elt pb) (hs : ∀ v, genFold iter X.env v = pure v)
    (he : starEach [.GeneratorExp elt [⟨.Name x px, iter, [], 0⟩] scope gpos] X.env =
      (false, eval (.GeneratorExp elt [⟨.Name x px, iter, [], 0⟩] scope gpos) X.env) :: starEach [] X.env := by rfl) :
    PE X (.Call (.Name "all" p) [.GeneratorExp elt [⟨.Name x px, iter, [], 0⟩] scope gpos] [] pos) (GxR.tAllS P pb te) := by
  constructor
  intro pins s σ H Q I h
  refine wpAny_Call_Name_kw (ld_blt I hg hm (show bootBuiltins "all" = some (.builtin "all") by decide +kernel) ?_)
  refine PyProof.Rows.callWith_builtin1 ?_ he (by rfl)
  rw [he]
  refine Calls.spliced_cons (gen_made (R := fun a H1 => ∀ H2, GxR.Tabbed P H1 H2 → Q (.bl (a.cps.toList.all pb)) H2) hr TB hcode S hi hel hs I h ?_)
  intro a H1 g s5 hR hG
  obtain ⟨fp, wr, G, F, St, W, hst, htr, hI⟩ := hG
  refine Calls.spliced_nil (call_all_walkS (W.self 0 _ _ _ hst ⟨g, fp, wr, G, _, F, St, _, rfl, W, hst, htr, ?_⟩))
  intro s' hmv
  obtain ⟨H2, hT, J⟩ := hI s' hmv
  refine ⟨.bl _, H2, J, rfl, ?_⟩
  rw [GxR.all_signs a pb]
  exact hR H2 hT
end
end SfG
namespace SfG
open PySem PySem.Spec PyProof.Rows L2
/-! ### the law's end: tables of code objects, no repr under way -/
theorem noneIn (b : Addr) (l : List Addr) (h : l = []) : ¬ b ∈ l := by
  rw [h]
  simp
section
variable {P : Program} {w : World} {K : PySem.W.Frag} {mg mb : Str → Option Value} {CX : CXT} {k : Nat} {fa a : Addr}
  {cs : List (Addr × Addr)} {fd : FuncData} {x : Str} {sp : Sp} {s1 : Shared} {vs : List Value} {ns : List Int}
/-- what stands at s1: the module, its tables, the script -/
structure Stands (K : PySem.W.Frag) (mg mb : Str → Option Value) (cs : List (Addr × Addr)) (s1 : Shared) (a : Addr) (vs : List Value) : Prop where
  kin : K.In s1.heap
  glob : s1.heap.Ns mainGlobals mg
  blt : s1.heap.Ns builtinsNs mb
  bltv : ∀ y : Str, y ≠ "__name__" → mb y = bootBuiltins y
  lim : s1.heap.NoLimit
  gens : s1.gens = #[]
  tab : ∀ p ∈ cs, s1.heap.get? p.2 = some { cls := .none, data := .fields #[] }
  ntab : ∀ p ∈ cs, K.lookup p.2 = none
  code : ∀ p ∈ cs, PySem.W.CodeHd s1.heap p.1 p.2
  bmain : ∃ (bm : Addr) (ob : Obj), mg "__builtins__" = some (.ref bm) ∧ bm ≠ builtinsNs ∧ s1.heap.get? bm = some ob ∧
    ob.cls = .type "module" ∧ ob.dict = some builtinsNs ∧ ob.data = .plain
  scr : s1.heap.get? a = some { cls := .type "list", data := .seq vs.toArray }
/-- what is tracked there: the tables, and the script where the written part doesn't hold it -/
def Tracks (K : PySem.W.Frag) (cs : List (Addr × Addr)) (a : Addr) (H : Hp) : Prop :=
  ∀ b u, H b = some u → (b ∈ cs.map (·.2) ∧ u = .tbl #[]) ∨ (b = a ∧ K.lookup a = none ∧ ∃ o xs, u = .frz o (.lst xs))
theorem Stands.untracked {H : Hp} (S : Stands K mg mb cs s1 a vs) (T : Tracks K cs a H) {b : Addr} {o : Obj} (e : s1.heap.get? b = some o)
    (h1 : ∀ us n, o.data ≠ .seq us n) (h2 : o.data ≠ .fields #[]) : H b = none := by
  cases q : H b with
  | none => rfl
  | some u =>
    exfalso
    rcases T b u q with ⟨hb, _⟩ | ⟨hb, _⟩
    · obtain ⟨p, hp, ep⟩ := List.mem_map.mp hb
      have z := S.tab p hp
      rw [ep, e] at z
      cases z
      exact h2 rfl
    · have z := S.scr
      rw [← hb, e] at z
      cases z
      exact h1 _ _ rfl
theorem end_core {H : Hp} (S : Stands K mg mb cs s1 a vs) (T : Tracks K cs a H) (hH : ∀ p ∈ cs, H p.2 = some (.tbl #[]))
    (hok : HOk P w H s1.heap) (hr : Room k callerA)
    (F : ∀ base : Heap, K.In base → base.Ns mainGlobals mg → (∀ p ∈ cs, GxR.TabB base mg p.1 p.2) → FnG P w K mg base CX k fa fd [x] sp)
    (hbind : ∀ (s : Shared) (u : Value), BindsTo s fd ⟨[u], []⟩ [(x, u)])
    (hsp : sp [.ref a] H (fun v _ => v = .bl true) fun _ _ _ => False)
    (hCX : ∀ H e s', CX [] H s1 (fun _ _ _ => False) e s' → False) :
    codeAny (model P w) callerA (.call (.ref fa) ⟨[.ref a], []⟩)
      (fun r s' => r = .ok (.ret (.bool true)) ∧ OldK s1.heap s'.heap ∧ s'.os = s1.os ∧ AllBare s'.gens) s1 := by
  have low : ∀ {b : Addr} {o : Obj}, s1.heap.get? b = some o → H b = none → (hidT s1.heap H).get? b = some o := fun e n => hidT_get e n
  have lowNs : ∀ {b : Addr} {m : Str → Option Value}, s1.heap.Ns b m → (hidT s1.heap H).Ns b m := by
    rintro b m ⟨o, es, ep, e, d, r⟩
    refine ⟨o, es, ep, low e (S.untracked T e ?_ ?_), d, r⟩
    · intro us n z
      rw [d] at z
      cases z
    · intro z
      rw [d] at z
      cases z
  have lowK : K.In (hidT s1.heap H) := by
    intro b o e
    refine low (S.kin b o e) ?_
    cases q : H b with
    | none => rfl
    | some u =>
      exfalso
      rcases T b u q with ⟨hb, _⟩ | ⟨hb, hk, _⟩
      · obtain ⟨p, hp, ep⟩ := List.mem_map.mp hb
        rw [← ep, S.ntab p hp] at e
        cases e
      · rw [hb, hk] at e
        cases e
  have lowT : ∀ p ∈ cs, GxR.TabB (hidT s1.heap H) mg p.1 p.2 := by
    intro p hp
    have tp := S.tab p hp
    constructor
    · obtain ⟨o, us, file, tf, flags, tg, inF, text, tt, e1, r1, r2, r3, rest⟩ := S.code p hp
      refine ⟨o, us, file, tf, flags, tg, inF, text, tt, low e1 (S.untracked T e1 ?_ ?_), r1, r2, r3, rest⟩
      · intro us n z
        rw [r2] at z
        cases z
      · intro z
        rw [r2] at z
        cases z
        simp at r3
    · obtain ⟨bm, ob, b1, b2, b3, b4, b5, b6⟩ := S.bmain
      refine ⟨bm, ob, b1, b2, ?_, ?_, low b3 (S.untracked T b3 ?_ ?_), b4, b5, b6⟩
      · intro q
        obtain ⟨o, es, ep, e, hd, _⟩ := S.glob
        rw [q, e] at b3
        cases b3
        rw [hd] at b6
        cases b6
      · intro q
        rw [q, tp] at b3
        cases b3
        cases b6
      · intro us n z
        rw [b6] at z
        cases z
      · intro z
        rw [b6] at z
        cases z
    · intro z
      obtain ⟨o, es, ep, e, hd, _⟩ := S.glob
      rw [z, tp] at e
      cases e
      cases hd
  have md : L2.Mod K mg (hidT s1.heap H) := by
    refine ⟨lowK, lowNs S.glob, ⟨mb, lowNs S.blt, S.bltv⟩, ?_⟩
    obtain ⟨mc, h1, h2⟩ := S.lim
    exact ⟨mc, lowNs h1, h2⟩
  have e0 : Env0 P w K mg (hidT s1.heap H) callerA [] s1 H :=
    ⟨rfl, md, fun b o e => of_hidT e, Nat.le_of_eq (hidT_size _ _), trivial, fun b hb => absurd hb (noneIn b _ rfl), hok, .of_eq S.gens⟩
  have go := (F _ lowK (lowNs S.glob) lowT).goes callerA [] s1 H ⟨[.ref a], []⟩ [.ref a] [.ref a] _ _ hr rfl e0 (hbind s1 (.ref a)) (.cons rfl .nil) hsp
  refine codeAny_mono go ?_
  intro res s' h
  match res, h with
  | .error e, h => exact (hCX H e s' h).elim
  | .ok .next, h => exact False.elim h
  | .ok .brk, h => exact False.elim h
  | .ok .cont, h => exact False.elim h
  | .ok (.ret u), h =>
    obtain ⟨v, H', os, bare, un, hok', r', q⟩ := h
    cases (show v = .bl true from q)
    cases (show u = Value.bool true from r')
    have stay : ∀ b o, b ∉ cs.map (·.2) → s1.heap.get? b = some o → s'.heap.get? b = some o := by
      intro b o nb e
      cases q : H b with
      | none => exact un.keep b o e q (noneIn b _ rfl) (by simp)
      | some u =>
        rcases T b u q with ⟨hb, _⟩ | ⟨_, _, ob, xs, z⟩
        · exact absurd hb nb
        · rw [z] at q
          obtain ⟨g1, _⟩ := hok b _ q
          obtain ⟨g2, _⟩ := hok' b _ (un.frzs b ob _ q)
          rw [e] at g1
          cases g1
          exact g2
    have tabs : ∀ p ∈ cs, ∃ more : Array Value, s'.heap.get? p.2 = some { cls := .none, data := .fields more } := by
      intro p hp
      obtain ⟨more, z⟩ := un.tbls p.2 #[] (hH p hp)
      exact ⟨_, hok' p.2 _ z⟩
    refine ⟨rfl, ⟨fun b o e => ?_, fun b o e => ?_⟩, os, bare⟩
    · by_cases hb : b ∈ cs.map (·.2)
      · obtain ⟨p, hp, ep⟩ := List.mem_map.mp hb
        subst ep
        obtain ⟨more, hm⟩ := tabs p hp
        rw [S.tab p hp] at e
        cases e
        refine .inr (.inl ⟨((S.code p hp).tab (S.tab p hp)).isCodeTable, rfl, #[], more, rfl, ?_⟩)
        rw [Array.empty_append]
        exact hm
      · exact .inl (stay b o hb e)
    · by_cases hb : b ∈ cs.map (·.2)
      · obtain ⟨p, hp, ep⟩ := List.mem_map.mp hb
        subst ep
        obtain ⟨more, hm⟩ := tabs p hp
        exact ⟨_, hm⟩
      · exact ⟨o, stay b o hb e⟩
/-- the abstract heap at the start -/
def hp0 (cs : List (Addr × Addr)) (sc : Option HO) (a : Addr) : Hp := fun b => if b ∈ cs.map (·.2) then some (.tbl #[]) else if b = a then sc else none
theorem end_call (S : Stands K mg mb cs s1 a vs) (hi : IntsAre vs ns) (hl : ns.length ≤ sizeLine) (hr : Room k callerA)
    (F : ∀ base : Heap, K.In base → base.Ns mainGlobals mg → (∀ p ∈ cs, GxR.TabB base mg p.1 p.2) → FnG P w K mg base CX k fa fd [x] sp)
    (hbind : ∀ (s : Shared) (u : Value), BindsTo s fd ⟨[u], []⟩ [(x, u)])
    (hsp : ∀ H : Hp, (∀ p ∈ cs, H p.2 = some (.tbl #[])) → SqL K H a (ns.map V.int) → sp [.ref a] H (fun v _ => v = .bl true) fun _ _ _ => False)
    (hCX : ∀ H e s', CX [] H s1 (fun _ _ _ => False) e s' → False) :
    codeAny (model P w) callerA (.call (.ref fa) ⟨[.ref a], []⟩)
      (fun r s' => r = .ok (.ret (.bool true)) ∧ OldK s1.heap s'.heap ∧ s'.os = s1.os ∧ AllBare s'.gens) s1 := by
  have rv := vals_ints hi
  have hH : ∀ sc, ∀ p ∈ cs, hp0 cs sc a p.2 = some (.tbl #[]) := fun sc p hp => if_pos (List.mem_map.mpr ⟨p, hp, rfl⟩)
  have na : a ∉ cs.map (·.2) := by
    intro z
    obtain ⟨p, hp, ep⟩ := List.mem_map.mp z
    have q := S.tab p hp
    rw [ep, S.scr] at q
    cases congrArg Obj.data (Option.some.inj q)
  have at_a : ∀ sc, hp0 cs sc a a = sc := fun sc => by
    unfold hp0
    rw [if_neg na, if_pos rfl]
  have cases_of : ∀ sc b u, hp0 cs sc a b = some u → (b ∈ cs.map (·.2) ∧ u = .tbl #[]) ∨ (b = a ∧ sc = some u) := by
    intro sc b u h
    unfold hp0 at h
    by_cases h1 : b ∈ cs.map (·.2)
    · rw [if_pos h1] at h
      exact .inl ⟨h1, (Option.some.inj h).symm⟩
    · rw [if_neg h1] at h
      by_cases h2 : b = a
      · rw [if_pos h2] at h
        exact .inr ⟨h2, h⟩
      · rw [if_neg h2] at h
        cases h
  have tabOk : ∀ (H : Hp) b, b ∈ cs.map (·.2) → ObjOk P w H s1.heap b (.tbl #[]) := by
    intro H b hb
    obtain ⟨p, hp, ep⟩ := List.mem_map.mp hb
    rw [← ep]
    exact S.tab p hp
  cases hk : K.lookup a with
  | some o =>
    have e := S.kin a o hk
    rw [S.scr] at e
    cases e
    refine end_core (H := hp0 cs none a) S ?_ (hH none) ?_ hr F hbind (hsp _ (hH none) (.inr ⟨_, vs.toArray, _, hk, rfl, rfl, rfl, ?_, ?_⟩)) hCX
    · intro b u h
      rcases cases_of none b u h with h | ⟨_, h⟩
      · exact .inl h
      · cases h
    · intro b u h
      rcases cases_of none b u h with ⟨h1, rfl⟩ | ⟨_, h⟩
      · exact tabOk _ b h1
      · cases h
    · rw [List.size_toArray, hi.length]
      exact hl
    · simpa using rv
  | none =>
    refine end_core (H := hp0 cs (some (.frz { cls := .type "list", data := .seq vs.toArray } (.lst (ns.map V.int)))) a) S ?_ (hH _) ?_ hr F hbind
      (hsp _ (hH _) (.inl (.inr ⟨{ cls := .type "list", data := .seq vs.toArray }, at_a _⟩))) hCX
    · intro b u h
      rcases cases_of _ b u h with h | ⟨h1, h2⟩
      · exact .inl h
      · exact .inr ⟨h1, hk, _, _, (Option.some.inj h2).symm⟩
    · intro b u h
      rcases cases_of _ b u h with ⟨h1, rfl⟩ | ⟨rfl, h2⟩
      · exact tabOk _ b h1
      · cases h2
        refine ⟨S.scr, ?_, vs, _, rv, S.scr⟩
        rw [List.length_map]
        exact hl
end
end SfG
namespace SfG
open PySem PySem.Spec PyProof.Rows L2
/-! ### a def whose code object is known -/
structure FunC (K : PySem.W.Frag) (x qual : Str) (st : Stmt) (f : Addr) (fd : FuncData) (c : Addr) : Prop where
  ex : ∃ (oc : Value) (od : Option Addr) (kV doc pm : Value) (an : Option Addr) (ct : Value) (osl : Array (Option Value)),
    fd = PySem.W.fnOf x qual (defArgs st) (defBody st) (defScope st) .none kV doc pm an (.ref c) ct ∧
      K.lookup f = some ⟨oc, od, .func fd, osl⟩ ∧ PySem.W.codeIn K (.ref c) qual = true
  kp : PySem.W.keepIn K (.ref f) = true
theorem FunC.fn {K : PySem.W.Frag} {x qual : Str} {st : Stmt} {f c : Addr} {fd : FuncData} (F : FunC K x qual st f fd c) : Fun K x qual st f fd := by
  obtain ⟨oc, od, kV, doc, pm, an, ct, osl, h1, h2, h3⟩ := F.ex
  exact ⟨⟨oc, od, kV, doc, pm, an, .ref c, ct, osl, h1, h2, h3⟩, F.kp⟩
section
variable {P : Program} {w : World} {K : PySem.W.Frag} {mg : Str → Option Value} {base : Heap}
theorem FunC.ok {x qual : Str} {st : Stmt} {f c : Addr} {fd : FuncData} {N ps : List Str} {k : Nat} {sp : Sp}
    (F : FunC K x qual st f fd c) (S : FnScope N ps (defScope st)) (len : ∀ vs H Q E, sp vs H Q E → vs.length = ps.length)
    (hbody : ∀ (A : Around) (outer : List Env) (s : Shared) (H : Hp) (vs : List V) (Q : VK) (E : XK),
      Room k (A.deeper (envOfC qual (defScope st) s.heap.objs.size f (.ref c))) → sp vs H Q E →
      ∃ t, PSs (cxOf CX0 P w K mg base N qual (defScope st) f (.ref c) A outer s H E).nox (defBody st) t ∧
        t { nx := fun _ H' => Q .non H', rt := Q } (start N vs) H) : FnOk P w K mg base CX0 (k + 1) f fd ps sp := by
  obtain ⟨oc, od, kV, doc, pm, an, ct, osl, rfl, lk, hcd⟩ := F.ex
  refine fn_of lk hcd S len ?_
  intro A outer s H vs Q E hr hsp
  obtain ⟨t, h, q⟩ := hbody A outer s H vs Q E hr hsp
  exact ⟨t, h.nox, q⟩
end
/-! ### heaps that grow: what stood stands, tables of code objects may be longer -/
structure Gr (H H' : Hp) : Prop where
  keep : ∀ b o, H b = some o → (∀ ps, o ≠ .tbl ps) → H' b = some o
  tab : ∀ P, GxR.TabG H P → GxR.TabG H' P
  back : ∀ l, H' l = none → H l = none
theorem Gr.refl (H : Hp) : Gr H H := ⟨fun _ _ h _ => h, fun _ h => h, fun _ h => h⟩
theorem Gr.trans {H H1 H2 : Hp} (a : Gr H H1) (b : Gr H1 H2) : Gr H H2 :=
  ⟨fun c o h n => b.keep c o (a.keep c o h n) n, fun P h => b.tab P (a.tab P h), fun l h => a.back l (b.back l h)⟩
theorem Gr.same {H H' : Hp} (e : Same H H') : Gr H H' := by
  refine ⟨fun b o h _ => e b o h, ?_, fun l h => e.free h⟩
  rintro P ⟨ps, h1, h2⟩
  exact ⟨ps, e P _ h1, h2⟩
theorem Gr.new {H : Hp} {p : Addr} {o : HO} (h : H p = none) : Gr H (upd H p o) := by
  refine Gr.same ?_
  intro b x e
  rw [upd_ne (ne_of_none e h)]
  exact e
theorem Gr.tabbed {P : Addr} {H H' : Hp} (t : GxR.TabG H P) (e : GxR.Tabbed P H H') : Gr H H' := by
  refine ⟨?_, ?_, ?_⟩
  · intro b o h n
    refine (e.2 b ?_).trans h
    intro z
    obtain ⟨ps, h1, _⟩ := t
    rw [z, h1] at h
    exact n ps (Option.some.inj h).symm
  · intro P' t'
    by_cases z : P' = P
    · rw [z]
      exact e.1
    · obtain ⟨ps, h1, h2⟩ := t'
      exact ⟨ps, (e.2 P' z).trans h1, h2⟩
  · intro l h
    by_cases z : l = P
    · obtain ⟨ps, h1, _⟩ := e.1
      rw [z, h1] at h
      cases h
    · rw [← e.2 l z]
      exact h
/-- a list that is changed in the heap: all else stays -/
theorem Gr.lst {H H' : Hp} (g : Gr H H') {b : Addr} {xs : List V} (h : H b = some (.lst xs)) : H' b = some (.lst xs) := g.keep b _ h (fun _ z => (by cases z))
theorem Gr.tup {H H' : Hp} (g : Gr H H') {b : Addr} {xs : List V} (h : H b = some (.tup xs)) : H' b = some (.tup xs) := g.keep b _ h (fun _ z => (by cases z))
theorem Gr.dic {H H' : Hp} (g : Gr H H') {b : Addr} {kvs : List (Key × V)} (h : H b = some (.dK kvs)) : H' b = some (.dK kvs) := g.keep b _ h (fun _ z => (by cases z))
theorem Gr.seq {K : PySem.W.Frag} {H H' : Hp} {a : Addr} {xs : List V} (e : Gr H H') (h : SqL K H a xs) : SqL K H' a xs := by
  rcases h with (h | ⟨o, h⟩) | h
  · exact .inl (.inl (e.lst h))
  · exact .inl (.inr ⟨o, e.keep _ _ h (fun _ z => (by cases z))⟩)
  · exact .inr h
/-! ### kinds of things -/
def kinds : List String := ["NoneType", "bool", "int", "str", "list", "tuple", "dict"]
theorem kit_int : ∀ T ∈ kinds, kitB T "int" = some (T == "int" || T == "bool") := by decide +kernel
theorem kit_bool : ∀ T ∈ kinds, kitB T "bool" = some (T == "bool") := by decide +kernel
theorem kit_str : ∀ T ∈ kinds, kitB T "str" = some (T == "str") := by decide +kernel
/-- x is a thing of the built-in type T -/
def Is (K : PySem.W.Frag) (H : Hp) (x : V) (T : String) : Prop := TyX K H x (.type T) ∧ T ∈ kinds
theorem tyx_is {K : PySem.W.Frag} {H : Hp} {x : V} {t : Value} {T : String} (h : TyX K H x t) (e : t = .type T) :
    (T = "int" → ∃ i, x = .int i) ∧ (T = "str" → ∃ z, x = .str z) ∧ (∀ i, x = .int i → T = "int") ∧ (∀ z, x = .str z → T = "str") := by
  cases h with
  | base b =>
    cases b with
    | int i => cases e; exact ⟨fun _ => ⟨i, rfl⟩, fun z => absurd z (by decide), fun _ _ => rfl, fun _ z => (by cases z)⟩
    | str i => cases e; exact ⟨fun z => absurd z (by decide), fun _ => ⟨i, rfl⟩, fun _ z => (by cases z), fun _ _ => rfl⟩
    | ins => cases e
    | _ => cases e; exact ⟨fun z => absurd z (by decide), fun z => absurd z (by decide), fun _ z => (by cases z), fun _ z => (by cases z)⟩
  | _ => cases e; exact ⟨fun z => absurd z (by decide), fun z => absurd z (by decide), fun _ z => (by cases z), fun _ z => (by cases z)⟩
section
variable {K : PySem.W.Frag} {H : Hp} {x : V} {T : String}
theorem Is.whole (h : Is K H x T) (e : T = "int") : ∃ i, x = .int i := (tyx_is h.1 rfl).1 e
theorem Is.text (h : Is K H x T) (e : T = "str") : ∃ z, x = .str z := (tyx_is h.1 rfl).2.1 e
theorem Is.nint (h : Is K H x T) (e : T ≠ "int") : ∀ i, x ≠ .int i := fun i z => e ((tyx_is h.1 rfl).2.2.1 i z)
theorem Is.ntext (h : Is K H x T) (e : T ≠ "str") : ∀ z, x ≠ .str z := fun i z => e ((tyx_is h.1 rfl).2.2.2 i z)
end
theorem is_int {K : PySem.W.Frag} {H : Hp} (i : Int) : Is K H (.int i) "int" := ⟨.base (.int i), by decide⟩
theorem is_str {K : PySem.W.Frag} {H : Hp} (z : Str) : Is K H (.str z) "str" := ⟨.base (.str z), by decide⟩
theorem is_bl {K : PySem.W.Frag} {H : Hp} (b : Bool) : Is K H (.bl b) "bool" := ⟨.base (.bl b), by decide⟩
theorem is_non {K : PySem.W.Frag} {H : Hp} : Is K H .non "NoneType" := ⟨.base .non, by decide⟩
/-! ### isinstance(x, T), x a name, T a built-in class -/
def tIsi (T : String) (K : PySem.W.Frag) (i : Nat) : TE := fun σ H Q => ∃ v, σ[i]? = some (some v) ∧ ∃ (T' : String) (b : Bool), TyX K H v (.type T') ∧ kitB T' T = some b ∧ Q (.bl b) H
theorem pe_isi {X : Cx} {x nm : Str} {p p1 p2 pos : Pos} (T : String) (i : Nat) (mi : X.mg "isinstance" = none) (mT : X.mg nm = none)
    (hv : bootBuiltins nm = some (.type T)) (hN : X.N[i]? = some x := by rfl) (hvis : Vis X.env.scope x := by first | exact Or.inl rfl | exact Or.inr (Or.inl rfl) | exact Or.inr (Or.inr rfl))
    (hg : Gl X "isinstance" := by rfl) (hgT : Gl X nm := by rfl) (hxd : (x == ("__debug__" : Str)) = false := by decide) (hxc : (x == ("__classdict__" : Str)) = false := by decide)
    (hn : nm ≠ "__name__" := by decide) (hd : (nm == ("__debug__" : Str)) = false := by decide) :
    PE X (.Call (.Name "isinstance" p) [.Name x p1, .Name nm p2] [] pos) (tIsi T X.K i) := by
  have h := pe_callB (p := p) (pos := pos) call_isi hg mi (show bootBuiltins "isinstance" = some (.builtin "isinstance") by decide +kernel)
    (pa_cons (pe_var (pos := p1) hN hvis hxd hxc) (pa_cons (pe_bltn (v := .ty T) (pos := p2) hgT mT hv rfl hn hd) pa_nil))
  constructor
  intro pins s σ H Q I hq
  refine h.run pins s σ H Q I ?_
  obtain ⟨v, hs, T', b, h1, h2, h3⟩ := hq
  exact ⟨v, hs, v, .ty T, .type T', .type T, b, rfl, .ty T, h1, kit_ty h2, h3⟩
end SfG
namespace SfG
open PySem PySem.Spec PyProof.Rows L2
/-! ### the end of a law whose defs have tables -/
/-- the top's defs and their tables, still empty -/
def TabsOf (q : Program) (mg : Str → Option Value) (h : Heap) : Prop := ∀ d ∈ recsOf q, ∃ a o fd c P,
  mg d.name = some (.ref a) ∧ h.get? a = some o ∧ o.data = .func fd ∧ fd.code = .ref c ∧ h.IsCode c P #[] ∧ h.TableAt c P #[]
theorem tab_of {q : Program} {mg : Str → Option Value} {h : Heap} {K : PySem.W.Frag} {nm x qual : Str} {st : Stmt} {f c P : Addr} {fd : FuncData}
    {e : Value} {dd : Option Addr} {vs : Array Value} {sl : Array (Option Value)} (T : TabsOf q mg h) (hrec : ((recsOf q).any fun d => d.name == nm) = true)
    (g : mg nm = some (.ref f)) (KX : K.In h) (F : FunC K x qual st f fd c) (kc : K.lookup c = some ⟨e, dd, .fields vs, sl⟩) (kp : vs[11]? = some (.ref P)) :
    h.get? P = some { cls := .none, data := .fields #[] } ∧ PySem.W.CodeHd h c P := by
  obtain ⟨d, hm, hn⟩ := List.any_eq_true.mp hrec
  have hn2 : d.name = nm := beq_iff_eq.mp hn
  obtain ⟨a, o, fd', c', P', h1, h2, h3, h4, h5, h6⟩ := T d hm
  rw [hn2, g] at h1
  cases h1
  obtain ⟨oc, od, kV, doc, pm, an, ct, osl, rfl, lk, hcd⟩ := F.ex
  rw [KX _ _ lk] at h2
  cases h2
  cases h3
  have ec : c = c' := by
    have z : Value.ref c = Value.ref c' := h4
    cases z
    rfl
  subst ec
  obtain ⟨⟨o1, v1, a1, a2, a3, a4⟩, hP⟩ := h6
  have ek := KX _ _ kc
  rw [ek] at a1
  cases a1
  cases a3
  rw [kp] at a4
  cases a4
  obtain ⟨o2, v2, file, tf, flags, tg, inF, text, tt, op, b1, b2, b3, b4, b5, b6, b7, b8, b9, b10, b11⟩ := h5
  rw [ek] at b1
  cases b1
  cases b2
  exact ⟨hP, _, _, file, tf, flags, tg, inF, text, tt, ek, a2, rfl, kp, b3, b4, b5, b6, b7, b11⟩
/-- what is known of the law's promise at the head's heap h -/
def LawG (l : PySem.W.OpenLaw) (w : World) (K : PySem.W.Frag) (CX : CXT) (k n : Nat) (x : Str) (mg : Str → Option Value) (fa : Addr) (h : Heap) : Prop :=
  ∃ (fd : FuncData) (cs : List (Addr × Addr)) (sp : Sp), (∀ p ∈ cs, h.get? p.2 = some { cls := .none, data := .fields #[] }) ∧ (∀ p ∈ cs, K.lookup p.2 = none) ∧
    (∀ p ∈ cs, PySem.W.CodeHd h p.1 p.2) ∧ (∀ (s : Shared) (u : Value), BindsTo s fd ⟨[u], []⟩ [(x, u)]) ∧
    (∀ (H : Hp) (a : Addr) (ns : List Int), ns.length ≤ n → (∀ p ∈ cs, H p.2 = some (.tbl #[])) → SqL K H a (ns.map V.int) → sp [.ref a] H (fun v _ => v = .bl true) fun _ _ _ => False) ∧
    ∀ base : Heap, K.In base → base.Ns mainGlobals mg → (∀ p ∈ cs, GxR.TabB base mg p.1 p.2) → FnG l.prog w K mg base CX k fa fd [x] sp
theorem walk_G {l : PySem.W.OpenLaw} {n k : Nat} {q : Program} {loose : List Str} {XP : (Str → Option Value) → Heap → Prop} {YP : World → Heap → Prop} {d : DefRec}
    {K : Params → PySem.W.Frag} {CX : World → CXT} {x : Str} (hn : l.most = some n) (hn2 : n ≤ sizeLine) (hdf : d.params.defaults = []) (hr : Room k callerA)
    (hY : ∀ (w : World) (h : Heap), YP w h → (K w.params).In h)
    (F : ∀ (w : World) (mg : Str → Option Value) (fa : Addr) (h : Heap), (K w.params).In h → h.Ns mainGlobals mg → mg d.name = some (.ref fa) → TabsOf q mg h →
      LawG l w (K w.params) (CX w) k n x mg fa h)
    (hCX : ∀ (w : World) (H : Hp) (s : Shared) (e : Value) (s' : Shared), CX w [] H s (fun _ _ _ => False) e s' → False) :
    PySem.W.WalkO q loose XP YP l.row.toRowW d [] (fun f vs => PySem.call f vs) := by
  refine Att.attach_callB hn hdf ?_
  intro w s0 s1 mg mb fa o pm cd doc a vs ns G Y ho hd hcd hmg hobj hints hlen hbits hg
  have KX := hY w _ Y
  obtain ⟨fd, cs, sp, hT, nT, C, hb, hsp, hF⟩ := F w mg fa _ KX G.T.g hmg G.T.tab
  have S : Stands (K w.params) mg mb cs s1 a vs := ⟨KX, G.T.g, G.T.b, G.T.builtins, G.T.nolimit, hg, hT, nT, C, G.T.bmain, hobj⟩
  exact end_call S hints (Nat.le_trans hlen hn2) hr hF hb (fun H hH hS => hsp H a ns hlen hH hS) fun H e s' => hCX w H s1 e s'
end SfG
namespace SfG
open PySem PySem.Spec PyProof.Rows L2
/-- all but p as it was -/
def But (p : Addr) (H H' : Hp) : Prop := ∀ b, b ≠ p → H' b = H b
theorem But.upd {p : Addr} {H H' : Hp} {o : HO} (h : But p H H') : But p H (upd H' p o) := fun b n => (upd_ne n).trans (h b n)
theorem Gr.upd_new {H0 H : Hp} {p : Addr} {o : HO} (g : Gr H0 H) (h : H0 p = none) : Gr H0 (upd H p o) := by
  refine ⟨?_, ?_, ?_⟩
  · intro b u e n
    rw [upd_ne (ne_of_none e h)]
    exact g.keep b u e n
  · intro P t
    have np : P ≠ p := by
      obtain ⟨ps, h1, _⟩ := t
      exact ne_of_none h1 h
    obtain ⟨ps, h1, h2⟩ := g.tab P t
    exact ⟨ps, (upd_ne np).trans h1, h2⟩
  · intro l e
    by_cases z : l = p
    · rw [z]
      exact h
    · rw [upd_ne z] at e
      exact g.back l e
/-! ### heaps in a turn: the draw's state at p is changed, all else grows -/
structure Gp (p : Addr) (H H' : Hp) : Prop where
  keep : ∀ b o, b ≠ p → H b = some o → (∀ ps, o ≠ .tbl ps) → H' b = some o
  tab : ∀ P, P ≠ p → GxR.TabG H P → GxR.TabG H' P
  back : ∀ l, l ≠ p → H' l = none → H l = none
theorem Gp.refl (p : Addr) (H : Hp) : Gp p H H := ⟨fun _ _ _ h _ => h, fun _ _ h => h, fun _ _ h => h⟩
theorem Gp.gr {p : Addr} {H H' : Hp} (g : Gr H H') : Gp p H H' := ⟨fun b o _ => g.keep b o, fun P _ => g.tab P, fun l _ => g.back l⟩
theorem Gp.but {p : Addr} {H H' : Hp} (g : But p H H') : Gp p H H' := by
  refine ⟨fun b o n h _ => (g b n).trans h, ?_, fun l n h => (g l n).symm.trans h⟩
  rintro P n ⟨ps, h1, h2⟩
  exact ⟨ps, (g P n).trans h1, h2⟩
theorem Gp.trans {p : Addr} {H H1 H2 : Hp} (a : Gp p H H1) (b : Gp p H1 H2) : Gp p H H2 :=
  ⟨fun c o n h t => b.keep c o n (a.keep c o n h t) t, fun P n h => b.tab P n (a.tab P n h), fun l n h => a.back l n (b.back l n h)⟩
/-- what was there ahead of p grows -/
theorem Gp.out {p : Addr} {H0 H H' : Hp} (g : Gr H0 H) (h : H0 p = none) (a : Gp p H H') : Gr H0 H' := by
  refine ⟨?_, ?_, ?_⟩
  · intro b o e t
    exact a.keep b o (ne_of_none e h) (g.keep b o e t) t
  · intro P t
    have n : P ≠ p := by
      obtain ⟨ps, h1, _⟩ := t
      exact ne_of_none h1 h
    exact a.tab P n (g.tab P t)
  · intro l e
    by_cases z : l = p
    · rw [z]
      exact h
    · exact g.back l (a.back l z e)
theorem Gp.lst {p : Addr} {H H' : Hp} (g : Gp p H H') {b : Addr} {xs : List V} (n : b ≠ p) (h : H b = some (.lst xs)) : H' b = some (.lst xs) := g.keep b _ n h (fun _ z => by cases z)
theorem Gp.upd_new {p q : Addr} {H0 H : Hp} {o : HO} (g : Gp p H0 H) (h : H0 q = none) : Gp p H0 (upd H q o) := by
  refine ⟨?_, ?_, ?_⟩
  · intro b u nb e n
    rw [upd_ne (ne_of_none e h)]
    exact g.keep b u nb e n
  · intro P nP t
    have np : P ≠ q := by
      obtain ⟨ps, h1, _⟩ := t
      exact ne_of_none h1 h
    obtain ⟨ps, h1, h2⟩ := g.tab P nP t
    exact ⟨ps, (upd_ne np).trans h1, h2⟩
  · intro l nl e
    by_cases z : l = q
    · rw [z]
      exact h
    · rw [upd_ne z] at e
      exact g.back l nl e
/-- a def that is called: where it stands, how it is bound, what it promises -/
structure Has (P : Program) (w : World) (K : PySem.W.Frag) (mg : Str → Option Value) (base : Heap) (k : Nat) (x : Str) (ps : List Str) (sp : Sp) (f : Addr) (fd : FuncData) : Prop where
  ok : FnOk P w K mg base CX0 k f fd ps sp
  at_ : mg x = some (.ref f)
  kp : PySem.W.keepIn K (.ref f) = true
  bd : Binds K fd ps []
theorem hcall {X : Cx} {k : Nat} {x : Str} {ps : List Str} {sp : Sp} {f : Addr} {fd : FuncData} {e : Expr} {es : List Expr} {t : TA} {p pos : Pos} (h : Has X.prog X.w X.K X.mg X.base k x ps sp f fd) (hr : Room k X.A) (ha : PA X (e :: es) t)
    (hg : Gl X x := by rfl) (hdb : (x == ("__debug__" : Str)) = false := by decide) (he : starEach (e :: es) X.env = (false, eval e X.env) :: starEach es X.env := by rfl)
    (hpl : (backTo pos (starEach es X.env)).any (·.1) = false := by rfl) : PE X (.Call (.Name x p) (e :: es) [] pos) (tCall sp [] E0 t) :=
  pe_call h.ok hr hg h.at_ h.kp h.bd .nil pass0 ha hdb he hpl
/-! ### data that stays -/
theorem Gr.sqt {K : PySem.W.Frag} {H H' : Hp} {a : Addr} {xs : List V} (e : Gr H H') (h : SqT K H a xs) : SqT K H' a xs := by
  rcases h with (h | ⟨o, h⟩) | h
  · exact .inl (.inl (e.tup h))
  · exact .inl (.inr ⟨o, e.keep _ _ h (fun _ z => by cases z)⟩)
  · exact .inr h
theorem Gp.sqt {K : PySem.W.Frag} {p : Addr} {H H' : Hp} {a : Addr} {xs : List V} {kv : List (Key × V)} (e : Gp p H H') (hp : H p = some (.dK kv)) (h : SqT K H a xs) : SqT K H' a xs := by
  rcases h with (h | ⟨o, h⟩) | h
  · refine .inl (.inl (e.keep a _ (fun z => ?_) h (fun _ z => by cases z)))
    rw [z, hp] at h
    cases h
  · refine .inl (.inr ⟨o, e.keep a _ (fun z => ?_) h (fun _ z => by cases z)⟩)
    rw [z, hp] at h
    cases h
  · exact .inr h
theorem Gp.sql {K : PySem.W.Frag} {p : Addr} {H H' : Hp} {a : Addr} {xs : List V} {kv : List (Key × V)} (e : Gp p H H') (hp : H p = some (.dK kv)) (h : SqL K H a xs) : SqL K H' a xs := by
  rcases h with (h | ⟨o, h⟩) | h
  · refine .inl (.inl (e.keep a _ (fun z => ?_) h (fun _ z => by cases z)))
    rw [z, hp] at h
    cases h
  · refine .inl (.inr ⟨o, e.keep a _ (fun z => ?_) h (fun _ z => by cases z)⟩)
    rw [z, hp] at h
    cases h
  · exact .inr h
/-- what keeps all lists and tuples keeps data -/
structure Kd (K : PySem.W.Frag) (H H' : Hp) : Prop where
  l : ∀ {a xs}, SqL K H a xs → SqL K H' a xs
  t : ∀ {a xs}, SqT K H a xs → SqT K H' a xs
theorem Gr.kd {K : PySem.W.Frag} {H H' : Hp} (g : Gr H H') : Kd K H H' := ⟨fun h => g.seq h, fun h => g.sqt h⟩
theorem Gp.kd {K : PySem.W.Frag} {p : Addr} {H H' : Hp} {kv : List (Key × V)} (g : Gp p H H') (hp : H p = some (.dK kv)) : Kd K H H' := ⟨fun h => g.sql hp h, fun h => g.sqt hp h⟩
mutual
theorem Kd.dp {K : PySem.W.Frag} {H H' : Hp} (g : Kd K H H') : ∀ {d : PyData} {v : V}, Dp K H v d → Dp K H' v d
  | _, _, .non => .non
  | _, _, .bl b => .bl b
  | _, _, .int i => .int i
  | _, _, .str x => .str x
  | _, _, .lst h hs => .lst (g.l h) (g.dpA hs)
  | _, _, .tup h hs => .tup (g.t h) (g.dpA hs)
theorem Kd.dpA {K : PySem.W.Frag} {H H' : Hp} (g : Kd K H H') : ∀ {ds : List PyData} {vs : List V}, DpAll K H vs ds → DpAll K H' vs ds
  | _, _, .nil => .nil
  | _, _, .cons h hs => .cons (g.dp h) (g.dpA hs)
end
section
variable {K : PySem.W.Frag} {H : Hp} {v : V}
theorem dp_str {z : Str} (h : Dp K H v (.str z)) : v = .str z := by cases h; rfl
theorem dp_int {n : Int} (h : Dp K H v (.int n)) : v = .int n := by cases h; rfl
theorem dp_tup {ds : List PyData} (h : Dp K H v (.tuple ds)) : ∃ p xs, v = .ref p ∧ SqT K H p xs ∧ DpAll K H xs ds := by
  cases h with
  | tup h hs => exact ⟨_, _, rfl, h, hs⟩
theorem dpA_nil {xs : List V} (h : DpAll K H xs []) : xs = [] := by cases h; rfl
theorem dpA_cons {xs : List V} {d : PyData} {ds : List PyData} (h : DpAll K H xs (d :: ds)) : ∃ x r, xs = x :: r ∧ Dp K H x d ∧ DpAll K H r ds := by
  cases h with
  | cons a b => exact ⟨_, _, rfl, a, b⟩
theorem dp_1 {a : PyData} (h : Dp K H v (.tuple [a])) : ∃ p x, v = .ref p ∧ SqT K H p [x] ∧ Dp K H x a := by
  obtain ⟨p, xs, rfl, hp, hs⟩ := dp_tup h
  obtain ⟨x, r, rfl, hx, hs⟩ := dpA_cons hs
  cases dpA_nil hs
  exact ⟨p, x, rfl, hp, hx⟩
theorem dp_2 {a b : PyData} (h : Dp K H v (.tuple [a, b])) : ∃ p x y, v = .ref p ∧ SqT K H p [x, y] ∧ Dp K H x a ∧ Dp K H y b := by
  obtain ⟨p, xs, rfl, hp, hs⟩ := dp_tup h
  obtain ⟨x, r, rfl, hx, hs⟩ := dpA_cons hs
  obtain ⟨y, r, rfl, hy, hs⟩ := dpA_cons hs
  cases dpA_nil hs
  exact ⟨p, x, y, rfl, hp, hx, hy⟩
theorem dp_3 {a b c : PyData} (h : Dp K H v (.tuple [a, b, c])) : ∃ p x y z, v = .ref p ∧ SqT K H p [x, y, z] ∧ Dp K H x a ∧ Dp K H y b ∧ Dp K H z c := by
  obtain ⟨p, xs, rfl, hp, hs⟩ := dp_tup h
  obtain ⟨x, r, rfl, hx, hs⟩ := dpA_cons hs
  obtain ⟨y, r, rfl, hy, hs⟩ := dpA_cons hs
  obtain ⟨z, r, rfl, hz, hs⟩ := dpA_cons hs
  cases dpA_nil hs
  exact ⟨p, x, y, z, rfl, hp, hx, hy, hz⟩
theorem dp_4 {a b c d : PyData} (h : Dp K H v (.tuple [a, b, c, d])) : ∃ p x y z w, v = .ref p ∧ SqT K H p [x, y, z, w] ∧ Dp K H x a ∧ Dp K H y b ∧ Dp K H z c ∧ Dp K H w d := by
  obtain ⟨p, xs, rfl, hp, hs⟩ := dp_tup h
  obtain ⟨x, r, rfl, hx, hs⟩ := dpA_cons hs
  obtain ⟨y, r, rfl, hy, hs⟩ := dpA_cons hs
  obtain ⟨z, r, rfl, hz, hs⟩ := dpA_cons hs
  obtain ⟨u, r, rfl, hu, hs⟩ := dpA_cons hs
  cases dpA_nil hs
  exact ⟨p, x, y, z, u, rfl, hp, hx, hy, hz, hu⟩
/-- the i-th of a tuple of data -/
theorem dpA_get : ∀ {ds : List PyData} {xs : List V} {i : Nat} {d : PyData}, DpAll K H xs ds → ds[i]? = some d → ∃ x, xs[i]? = some x ∧ Dp K H x d
  | [], _, i, d, _, h => by simp at h
  | a :: r, xs, 0, d, hs, h => by
    obtain ⟨x, r', rfl, hx, _⟩ := dpA_cons hs
    have e : a = d := Option.some.inj h
    exact ⟨x, rfl, e ▸ hx⟩
  | a :: r, xs, i + 1, d, hs, h => by
    obtain ⟨x, r', rfl, _, hr⟩ := dpA_cons hs
    obtain ⟨y, hy, hd⟩ := dpA_get hr (show r[i]? = some d from h)
    exact ⟨y, hy, hd⟩
theorem dpA_len : ∀ {ds : List PyData} {xs : List V}, DpAll K H xs ds → xs.length = ds.length
  | [], _, h => by
    rw [dpA_nil h]
    rfl
  | _ :: _, _, h => by
    obtain ⟨x, r, rfl, _, hr⟩ := dpA_cons h
    rw [List.length_cons, List.length_cons, dpA_len hr]
end
end SfG
namespace SfG
open PySem PySem.Spec PyProof.Rows L2
/-! ### an exception that is held behind its try -/
/-- an exception of the class cls, caught, at a -/
def EkO (cls : Value) (d : Option Addr) (a : Addr) : HO := .ext fun h => ∃ oe : Obj, h.get? a = some oe ∧ Zc cls d oe ∧ ∃ vs, oe.data = .fields vs
section
variable {X : Cx} {pins : List (Addr × Obj)} {σ : L2.St} {H : Hp} {s : Shared}
theorem inv_track {a : Addr} {oe : Obj} {vs : Array Value} {φ : Heap → Prop} (I : L2.Inv X pins σ H s) (ha : s.heap.get? a = some oe) (hd : oe.data = .fields vs) (na : H a = none) (nL : a ≠ X.env.locals)
    (n0 : X.s_0.heap.get? a = none) (np : ∀ p ∈ X.pn ++ pins, p.1 ≠ a) (new : ObjOk X.prog X.w (upd H a (.ext φ)) s.heap a (.ext φ)) : L2.Inv X pins σ (upd H a (.ext φ)) s where
  ok := I.ok
  os := I.os
  bare := I.bare
  base := {
    keep := I.base.keep
    slot := I.base.slot
    free := by
      intro b o e n hx
      rw [upd_ne (by intro z; rw [z, n0] at e; cases e)]
      exact I.base.free b o e n hx
    there := I.base.there
    tups := by
      intro b xs e
      have q := I.base.tups b xs e
      rw [upd_ne (ne_of_none q na)]
      exact q
    frzs := by
      intro b o u e
      have q := I.base.frzs b o u e
      rw [upd_ne (ne_of_none q na)]
      exact q
    tbls := by
      intro b ps e
      obtain ⟨more, q⟩ := I.base.tbls b ps e
      exact ⟨more, by rw [upd_ne (ne_of_none q na)]; exact q⟩ }
  loc := I.loc
  cell := I.cell
  free := by
    rw [upd_ne (Ne.symm nL)]
    exact I.free
  freeC := by
    intro x c e
    rw [upd_ne ?_]
    · exact I.freeC x c e
    · intro z
      obtain ⟨v, o, ho, hc⟩ := I.cell x c e
      rw [z, ha] at ho
      cases ho
      rw [hd] at hc
      cases hc
  pin := by
    intro p hp
    obtain ⟨e, n, rest⟩ := I.pin p hp
    exact ⟨e, by rw [upd_ne (np p hp)]; exact n, rest⟩
  hok := I.hok.laidN (fun _ _ e => e) na new
  len := I.len
end
/-- what the clause wishes: the exception is held behind the suite -/
def wKeep (K : PySem.W.Frag) (c : Value) (i : Nat) (ts : Addr → Value → Option Addr → TS) (Wout : WX) (D : Ends) : WX := fun cls d σ H =>
  ∃ b, PySem.W.exmOne K cls c = some b ∧
    (b = true → ∀ a, H a = none → ts a cls d { nx := fun σ' H' => D.nx (σ'.set i none) (upd H' a (EkO cls d a)), rt := fun _ _ => False, bk := fun _ _ => False, ct := fun _ _ => False } (σ.set i (some (.ref a))) H) ∧
    (b = false → Wout cls d σ H)
section
variable {X : Cx} {x n : Str} {c : Value} {i : Nat} {body more : List Stmt} {st0 : Stmt} {p1 p2 p3 : Pos} {tb : WX → TS} {ts : Addr → Value → Option Addr → TS} {Wout : WX}
theorem ps_try_keep (stk : X.stack = X.env :: X.outer) (frm : X.env.frame = some X.env.locals) (hex : X.ex = []) (hN : X.N.Nodup) (hi : X.N[i]? = some n) (hn : X.env.kindOf n = some .local) (hc : Names X x c) (tk : Takes X Wout)
    (bd : ∀ (W : WX) (pn : List (Addr × Obj)) (xe : Value → Shared → Prop), Takes (X.tr pn xe) W → PassesOwn (model X.prog X.w) X.A X.env xe → PSs (X.tr pn xe) body (tb W))
    (su : ∀ (a : Addr) (oe : Obj) (cls : Value) (d : Option Addr) (pn : List (Addr × Obj)), Zc cls d oe → (∃ vs, oe.data = .fields vs) → PSs (X.suite a ((a, oe) :: pn)) (st0 :: more) (ts a cls d))
    (yes : ∀ D cls d σ H, wKeep X.K c i ts Wout D cls d σ H → PySem.W.exmOne X.K cls c = some true) :
    PS X (.Try body [.ExceptHandler (some (.Name x p1)) (some n) (st0 :: more) p2] [] [] p3) (fun D σ H => tb (wKeep X.K c i ts Wout D) D σ H) := by
  constructor
  intro pins s σ H D I h
  have okX := I.ok
  have frames : X.A.frames = some (X.env :: X.outer) := by
    rw [okX.frames, stk]
  refine wpAny_Try_except ?_
  have B1 := bd (wKeep X.K c i ts Wout D) (X.pn ++ pins)
    (fun e s₁ => wpAny (model X.prog X.w) X.A (noteFrame e X.env)
      (fun _ s₂ => wpAny (model X.prog X.w) X.A (setFlight e none)
        (fun _ s₃ => wpAny (model X.prog X.w) X.A
          (handleBy e X.env [.ExceptHandler (some (.Name x p1)) (some n) (st0 :: more) p2]) (SP X pins D) X.xe s₃) X.xe s₂) X.xe s₁)
    ?caught PassesOwn.looking
  · refine wpAny_mono (B1.run [] s σ H D (I.toTry _) h) ?_ (fun _ _ z => z)
    intro f s1 hs1
    cases f with
    | next =>
      obtain ⟨σ', H', J, q⟩ := hs1
      exact wpAny_execs_nil ⟨σ', H', J.ofTry okX, q⟩
    | ret u =>
      obtain ⟨v, σ', H', J, r, q⟩ := hs1
      exact ⟨v, σ', H', J.ofTry okX, r, q⟩
    | brk =>
      obtain ⟨σ', H', J, q⟩ := hs1
      exact ⟨σ', H', J.ofTry okX, q⟩
    | cont =>
      obtain ⟨σ', H', J, q⟩ := hs1
      exact ⟨σ', H', J.ofTry okX, q⟩
  case caught =>
    intro u s' air
    obtain ⟨a, B, sI, pins', σ', H', cls, d, rfl, J', ground, up, sky, na, os, ag, wish⟩ := air
    have hyes := yes D cls d σ' H' wish
    obtain ⟨b, hb1, hgo, _⟩ := wish
    rw [hyes] at hb1
    cases hb1
    have J : L2.Inv X pins σ' H' sI := J'.ofTry okX
    have skyX : Sky B (X.env :: X.outer) a (Zc cls d) X.env.locals s'.heap := by
      rw [← stk]
      exact sky
    show wpAny (model X.prog X.w) X.A (noteFrame (.ref a) X.env) _ _ _
    refine Sky.land Zc.steady frames frm skyX ?_
    intro h3 fl3 up3
    obtain ⟨oe3, vs3, get3, z3, dat3⟩ := fl3.there
    have noFrame : a ∉ frs (X.env :: X.outer) := by
      intro hm
      obtain ⟨_, o', e', nof⟩ := fl3.2.2.1.mem hm
      rw [get3] at e'
      cases e'
      exact nof _ dat3
    have notL : a ≠ X.env.locals := by
      intro z
      refine noFrame (List.mem_filterMap.mpr ⟨X.env, List.mem_cons_self, ?_⟩)
      rw [frm, z]
    have notF : a ∉ X.fs := by
      intro hm
      obtain ⟨e, he, q⟩ := List.mem_filterMap.mp hm
      exact noFrame (List.mem_filterMap.mpr ⟨e, List.mem_cons_of_mem _ he, q⟩)
    have newI : sI.heap.get? a = none := by
      cases e : sI.heap.get? a with
      | none => rfl
      | some o =>
        have z := ground a o e (by rw [stk]; exact noFrame)
        rw [fl3.2.1] at z
        cases z
    have new0 : X.s_0.heap.get? a = none := by
      cases e : X.s_0.heap.get? a with
      | none => rfl
      | some o =>
        obtain ⟨o', z⟩ := J.base.there a o e (by rw [hex]; exact fun q => nomatch q)
        rw [newI] at z
        cases z
    have notP : ∀ p ∈ X.pn ++ pins, p.1 ≠ a := by
      intro p hp z
      have q := (J.pin p hp).1
      rw [z, newI] at q
      cases q
    have J3 : L2.Inv X pins σ' H' { s' with heap := h3 } := J.landed ground fl3.1 (up.trans up3) os ag
    have S3 := J3.suite get3 dat3 na notL notF
    refine wpAny_handleBy_cons (codeAny_handlers_test ?_) (by intro q; cases q)
    have kindly : PySem.W.Looks (model X.prog X.w) h3 (typeOf (.ref a)) cls := by
      intro A2 Q2 E2 s2 k2 q2
      refine wpAny_typeOf_ref (k2 _ _ get3) ?_
      rw [z3.1]
      exact q2
    have match_ := PySem.W.exm_one (M := model X.prog X.w) J3.kIn kindly hyes
    have named : ∀ {Q2 : Value → Shared → Prop} {E2 : Value → Shared → Prop}, Q2 c { s' with heap := h3 } →
        wpAny (model X.prog X.w) (X.A.mark (some (.ref a))) (eval (.Name x p1) X.env) Q2 E2 { s' with heap := h3 } := by
      intro Q2 E2 q2
      obtain ⟨g1, g2, g3 | ⟨g3, g4, g5⟩⟩ := hc
      · exact ld_glob (X := X.suite a ((a, oe3) :: (X.pn ++ pins))) S3 g1 g3 q2 g2
      · exact ld_blt (X := X.suite a ((a, oe3) :: (X.pn ++ pins))) S3 g1 g3 g4 q2 g5 g2
    refine named (match_.here ?_)
    refine codeAny_handlers_suite_as ?_
    refine HandSPX.lands_againZ fl3 ?_
    intro h4 fl4 up4
    obtain ⟨oe4, vs4, get4, z4, dat4⟩ := fl4.there
    have J4 : L2.Inv X pins σ' H' { s' with heap := h4 } := J.landed ground fl4.1 ((up.trans up3).trans up4) os ag
    have S4 := J4.suite get4 dat4 na notL notF
    refine store_ok (X := X.suite a ((a, oe4) :: (X.pn ++ pins))) (v := .ref a) S4 hN hi (.inl hn) rfl ?_ (.inr hn)
    intro s5 S5
    refine wpAny_mono ((su a oe4 cls d (X.pn ++ pins) z4 ⟨_, dat4⟩).run [] s5 _ H' _ S5 (hgo rfl a na)) ?_ (fun _ _ z => False.elim z)
    intro f s6 hs6
    cases f with
    | next =>
      obtain ⟨σ6, H6, S6, q6⟩ := hs6
      obtain ⟨get6, na6, _⟩ := S6.pin (a, oe4) (List.mem_append_left _ List.mem_cons_self)
      have J6 : L2.Inv X pins σ6 H6 s6 := S6.unsuite okX
      have T6 := inv_track (φ := fun h => ∃ oe : Obj, h.get? a = some oe ∧ Zc cls d oe ∧ ∃ vs, oe.data = .fields vs) J6 get6 dat4 na6 notL new0 notP
        ⟨⟨oe4, get6, z4, _, dat4⟩, ⟨oe4, get6⟩, fun h1 h2 ⟨o, e, r⟩ k => ⟨o, k o e, r⟩⟩
      refine gone_ok T6 hN hi hn ?_
      intro s7 J7
      exact ⟨_, _, J7, q6⟩
    | brk =>
      obtain ⟨σ6, H6, S6, q6⟩ := hs6
      exact q6.elim
    | cont =>
      obtain ⟨σ6, H6, S6, q6⟩ := hs6
      exact q6.elim
    | ret u =>
      obtain ⟨v6, σ6, H6, S6, r6, q6⟩ := hs6
      exact q6.elim
end
/-! ### isinstance of such an exception -/
def rIsK (K : PySem.W.Frag) (D : Addr) : List V → Hp → VK → Prop := fun xs H Q =>
  ∃ (a : Addr) (c : V) (cv : Value) (b : Bool), xs = [.ref a, c] ∧ H a = some (EkO (.ref D) none a) ∧ (∀ u, RelV c u → u = cv) ∧ PySem.W.kitOne K (.ref D) cv = some b ∧ Q (.bl b) H
theorem call_isK {X : Cx} {D : Addr} (C : ExcC X.K D) : CallR X (.builtin "isinstance") (rIsK X.K D) := by
  intro pins s σ H xs us Q I r h
  obtain ⟨a, c, cv, b, rfl, hH, hcv, e, q⟩ := h
  obtain ⟨⟨oe, get, z, vs, dat⟩, _⟩ := I.hok a _ hH
  cases r with
  | cons rx rr =>
    cases rr with
    | cons rt rr =>
      cases rr
      cases rx
      have ec := hcv _ rt
      subst ec
      have J : PySem.W.InstAt s.heap a oe D none := by
        obtain ⟨oc, od, oda, osl⟩ := oe
        obtain ⟨h1, h2⟩ := z
        dsimp only at h1 h2 dat
        subst h1 h2 dat
        exact ⟨get, rfl, rfl, trivial⟩
      refine PySem.W.kia_one (PySem.W.handS_kitx_exc C.hg C.hk C.hs C.hd C.ha C.hn C.ht C.hm) I.kIn J e (fun z => nomatch z) ?_
      intro tk
      exact ⟨.bl b, H, I.kept (t' := tk) fun _ _ z => z, rfl, q⟩
end SfG
namespace SfG
open PySem PySem.Spec PyProof.Rows L2
/-! ### enumerate(t), t a tuple -/
set_option maxHeartbeats 1000000 in
theorem meets_enum1 {v : Value} {o : Obj} {H : Heap → Prop} (B : Begins v o H) :
    Meets (Builtin.«enumerate.__new__» ⟨[.type "enumerate", v], []⟩) (fun _ R s => H s.heap ∧
      R (.ok (.ret (.ref (s.heap.push o).objs.size)))
        { s with heap := (s.heap.push o).push { cls := .type "enumerate", data := .fields #[.none, .bool false, .ref s.heap.objs.size, rawInt 0, .none, .none] } }) :=
  .of_wp fun prog w A R s hh => by
    obtain ⟨hp, g, d, tk, os⟩ := s
    obtain ⟨h1, fin⟩ := hh
    have hsub := sub_enumerate
    have it1 : ∀ {A' : Around} {E : Value → Shared → Prop} {Q : Value → Shared → Prop}, Q (.ref hp.objs.size) ⟨hp.push o, g, d, tk, os⟩ →
        wpAny (model prog w) A' (pyIter v) Q E ⟨hp, g, d, tk, os⟩ := fun q => B.iter prog w _ _ ⟨hp, g, d, tk, os⟩ _ h1 q
    wp_walk using it1
    refine wpAny_stack_any fun st => wpAny_pure ?_
    split
    · rename_i c _ _ _ _ _
      cases (c == Value.type "enumerate") <;> (wp_walk using it1; exact ⟨_, rfl, fin⟩)
    · wp_walk using it1
      exact ⟨_, rfl, fin⟩
section
variable {prog : Program} {w : World} {A : Around} {E : Value → Shared → Prop} {s : Shared}
theorem enum1 {v : Value} {o : Obj} {H : Heap → Prop} {Q : Value → Shared → Prop} (B : Begins v o H) (h1 : H s.heap)
    (h : ∀ h', IsEnum h' (s.heap.objs.size + 1) s.heap.objs.size 0 .none → h'.get? s.heap.objs.size = some o →
      (∀ b u, s.heap.get? b = some u → h'.get? b = some u) → Q (.ref (s.heap.objs.size + 1)) { s with heap := h' }) :
    wpAny (model prog w) A (call (.type "enumerate") [v]) Q E s := by
  refine callType_new F.called_enumerate (by decide) (F.typeCall_enumerate_1 _) (F.newCall_enumerate_1 _) (fun obj => F.args_object_init_2 obj _)
    F.entry_enumerate_new (meets_enum1 B) ⟨h1, ?_⟩
  have sz : (s.heap.push o).objs.size = s.heap.objs.size + 1 := Heap.size_push ..
  show _ ∧ _
  rw [sz]
  have made : IsEnum ((s.heap.push o).push { cls := .type "enumerate", data := .fields #[.none, .bool false, .ref s.heap.objs.size, rawInt 0, .none, .none] })
      (s.heap.objs.size + 1) s.heap.objs.size 0 .none := by
    have z := Heap.get?_push_size (s.heap.push o) (o := { cls := .type "enumerate", data := .fields #[.none, .bool false, .ref s.heap.objs.size, rawInt 0, .none, .none] }) rfl
    rw [sz] at z
    exact z
  refine ⟨⟨_, made, rfl⟩, h _ made (Heap.get?_push_of_some _ (Heap.get?_push_size _ B.free)) ?_⟩
  intro b u x
  exact Heap.get?_push_of_some _ (Heap.get?_push_of_some _ x)
end
/-- the tuple at a as it stands at each turn, each item in a new pair -/
def IteT (K : PySem.W.Frag) (a : Addr) : It :=
  ⟨fun i H => ∃ (xs : List V) (x : V), SqT K H a xs ∧ xs[i]? = some x,
   fun i H v H' => ∃ T x, v = .ref T ∧ H T = none ∧ H' = upd H T (.tup [.int (i : Nat), x]) ∧ ∀ xs, SqT K H a xs → xs[i]? = some x,
   fun i H => ∃ xs : List V, SqT K H a xs ∧ xs.length = i⟩
theorem turn_enumT {P : Program} {w : World} {K : PySem.W.Frag} {elts : List Expr} {kk : Nat} {tpos : Pos} (a e it : Addr) :
    Turn P w K (.Tuple elts kk tpos) (IteT K a) [e, it] e (fun i h => (∃ old, IsEnum h e it ((i : Nat) : Int) old) ∧ h.IsTupleIter it a i ∧ e ≠ it) where
  mem := by simp
  obj := by
    rintro i h ⟨⟨old, he⟩, ⟨o, ho, hc, hd⟩, _⟩ b hb
    have two : b = e ∨ b = it := by simpa using hb
    rcases two with rfl | rfl
    · exact ⟨_, he, fun v q => nomatch q⟩
    · exact ⟨o, ho, fun v q => by rw [hd] at q; cases q⟩
  keep := by
    rintro i h h' ⟨⟨old, he⟩, hi, hne⟩ k
    exact ⟨⟨old, k e (by simp) _ he⟩, hi.at fun o q => k it (by simp) o q, hne⟩
  item := by
    intro X hP hw hK hc i pins s σ H E I hf st hg
    subst hP hw hK
    obtain ⟨⟨old, he⟩, hit, hne⟩ := st
    obtain ⟨xs, x, hq, hx⟩ := hg
    obtain ⟨its, rv, p, hz⟩ := I.tuple hq
    obtain ⟨u, hu, ru⟩ := rv.get hx
    have ea : e ≠ a := by
      intro z
      obtain ⟨o, ho, hcl, _⟩ := p
      rw [← z] at ho
      have q := he
      unfold IsEnum at q
      rw [ho] at q
      have q1 := Option.some.inj q
      rw [q1] at hcl
      exact absurd (Value.type.inj hcl) (by decide)
    have ia : a ≠ it := by
      intro z
      obtain ⟨o, ho, hcl, _⟩ := p
      obtain ⟨o', ho', hcl', _⟩ := hit
      rw [z, ho'] at ho
      cases ho
      rw [hcl'] at hcl
      exact absurd (Value.type.inj hcl) (by decide)
    have D : Draws X.prog X.w X.A.in1 it [it, a] its.toArray.size (fun i v => its.toArray[i]? = some v) (fun i h => h.IsTupleIter it a i ∧ h.IsTuple a its.toArray) :=
      Draws.tuple (show X.A.in1.handled = none from I.ok.hd hc) it a ia its.toArray
    have hlt : i < its.toArray.size := by
      have hl := rv.length
      have hi : i < xs.length := by
        rcases Nat.lt_or_ge i xs.length with h1 | h1
        · exact h1
        · rw [List.getElem?_eq_none h1] at hx
          cases hx
      simp
      omega
    have hel : e < s.heap.objs.size := Heap.lt_size he
    have hil : it < s.heap.objs.size := by
      obtain ⟨_, q, _⟩ := hit
      exact Heap.lt_size q
    refine wpAny_pyNext_enum_itemD D he ⟨hit, p⟩ hlt hne (by simp [hne, ea]) ?_
    intro y h' tk hy ho hst hT hsz hk
    have ey : y = u := by
      have h1 : its.toArray[i]? = some u := by simpa using hu
      have h2 : its.toArray[i]? = some y := hy
      rw [h1] at h2
      exact (Option.some.inj h2).symm
    subst ey
    refine ⟨_, rfl, wpAny_letOwnedTupleGo_enum (s := { s with heap := h', toks := tk + 1 }) ho ?_⟩
    intro h'' he' sb
    have hT2 : h''.get? s.heap.objs.size = some { cls := .type "tuple", data := .seq #[.int i tk, y] } := (sb.2 _ (Nat.ne_of_gt hel)).trans hT
    have new : ObjOk X.prog X.w (upd H s.heap.objs.size (.tup [.int (i : Nat), x])) h'' s.heap.objs.size (.tup [.int (i : Nat), x]) :=
      ⟨by show 2 ≤ sizeLine; decide, [.int i tk, y], .cons ⟨_, rfl⟩ (.cons ru .nil), ⟨_, hT2, rfl, _, rfl⟩⟩
    have I1 : L2.Inv X pins σ (upd H s.heap.objs.size (.tup [.int (i : Nat), x])) { s with heap := h'', toks := tk + 1 } := by
      refine I.turnedNew (ch := [e, it]) ?_ hf (Nat.le_refl _) new
      intro b ob hb q
      exact (sb.2 b (fun z => hb (by simp [z]))).trans (hk b ob (fun z => hb (by simp [z])) (fun z => hb (by simp [z])) q)
    refine ⟨.ref s.heap.objs.size, _, I1, rfl, ⟨_, x, rfl, I.hok.fresh (Nat.le_refl _), rfl, ?_⟩, ⟨⟨y, ?_⟩, hst.1.at fun o q => (sb.2 it (Ne.symm hne)).trans q, hne⟩, ?_⟩
    · intro ys hy'
      rw [I.tuple_inj hy' hq]
      exact hx
    · have e1 : ((i + 1 : Nat) : Int) = (i : Int) + 1 := by omega
      rw [e1]
      exact he'
    · intro b hb
      have hb' : b < s.heap.objs.size := by
        have two : b = e ∨ b = it := by simpa using hb
        rcases two with rfl | rfl
        · exact hel
        · exact hil
      rw [upd_ne (Nat.ne_of_lt hb')]
      exact (hf b hb).1
  done := by
    intro X hP hw hK hc i pins s σ H E I hf st hg
    subst hP hw hK
    obtain ⟨⟨old, he⟩, hit, hne⟩ := st
    obtain ⟨xs, hq, hx⟩ := hg
    obtain ⟨its, rv, p, hz⟩ := I.tuple hq
    have ia : a ≠ it := by
      intro z
      obtain ⟨o, ho, hcl, _⟩ := p
      obtain ⟨o', ho', hcl', _⟩ := hit
      rw [z, ho'] at ho
      cases ho
      rw [hcl'] at hcl
      exact absurd (Value.type.inj hcl) (by decide)
    obtain ⟨f0, f1, f2, f3, f4, f5⟩ := hf it (by simp)
    have hl := rv.length
    have D : Draws X.prog X.w X.A.in1 it [it, a] its.toArray.size (fun i v => its.toArray[i]? = some v) (fun i h => h.IsTupleIter it a i ∧ h.IsTuple a its.toArray) :=
      Draws.tuple (show X.A.in1.handled = none from I.ok.hd hc) it a ia its.toArray
    have ei : its.toArray.size = i := by
      simp
      omega
    rw [← ei] at hit
    exact wpAny_pyNext_enum_endD D he ⟨hit, p⟩ fun h' eb => ⟨rfl, I.turned (t' := s.toks) (fun b o hb q => eb b o hb q) f0 f1 f3 f4 f5⟩
  self := by
    rintro A i s Q E ⟨⟨_, he⟩, _⟩ h
    exact wpAny_pyIter_enum he h
def iEnumT (K : PySem.W.Frag) (ta : TA) : TI := fun σ H R => ta σ H fun vs H1 => ∃ a xs, vs = [.ref a] ∧ SqT K H1 a xs ∧ R (IteT K a) H1
theorem pi_enumT {X : Cx} {e : Expr} {ta : TA} {p pos tpos : Pos} {elts : List Expr} {kk : Nat} (hg : Gl X "enumerate") (hm : X.mg "enumerate" = none) (ha : PA X [e] ta)
    (hs : starEach [e] X.env = [(false, eval e X.env)] := by rfl) : PI X (.Tuple elts kk tpos) (.Call (.Name "enumerate" p) [e] [] pos) (iEnumT X.K ta) := by
  constructor
  intro pins s σ H R I h
  refine Call_ (ld_blt I hg hm boot_enumerate (PyProof.Rows.callWith_type1 (thn (ha.run pos pins s σ H _ I h) ?_) hs rfl))
  rintro us s1 ⟨vs, H1, I1, r1, a, xs, rfl, hq, q⟩
  obtain ⟨u, rfl, ru⟩ := vals1 r1
  cases (show u = Value.ref a from ru)
  obtain ⟨its, rv, p', hz⟩ := I1.tuple hq
  refine enum1 (begins_tuple a its.toArray) p' ?_
  intro h' he hit hk
  refine wpAny_pyIter_enum he ?_
  have I2 : L2.Inv X pins σ H1 { s1 with heap := h' } := I1.kept (t' := s1.toks) hk
  refine ⟨s1.heap.objs.size + 1, [s1.heap.objs.size + 1, s1.heap.objs.size], _, _, H1, rfl, I2, turn_enumT a (s1.heap.objs.size + 1) s1.heap.objs.size,
    ⟨⟨.none, he⟩, ⟨_, hit, rfl, rfl⟩, Nat.succ_ne_self _⟩, ?_, q⟩
  intro b hb
  have two : b = s1.heap.objs.size + 1 ∨ b = s1.heap.objs.size := by simpa using hb
  have hle : s1.heap.objs.size ≤ b := by
    rcases two with z | z
    · rw [z]
      exact Nat.le_succ _
    · rw [z]
      exact Nat.le_refl _
  exact I1.fpOk hle (I1.hok.fresh hle)
theorem walk_enumT {K : PySem.W.Frag} {a : Addr} {xs : List V} : Walk (IteT K a) xs.length (fun H => SqT K H a xs) (YPair (fun i => some (.int (i : Nat))) (fun i => xs[i]?)) := by
  refine ⟨?_, ?_, ?_⟩
  · intro i _ hi q
    exact ⟨xs, xs[i], q, by simp [hi]⟩
  · intro _ q
    exact ⟨xs, q, rfl⟩
  · rintro i H v H' _ q ⟨T, x, h1, h2, h3, h4⟩
    exact ⟨T, .int (i : Nat), x, h1, h2, h3, rfl, h4 xs q⟩
end SfG
namespace SfG
open PySem PySem.Spec PyProof.Rows L2
/-! ### d.update(e), two dicts -/
def rDUpd : V → List V → Hp → VK → Prop := fun x vs H Q => ∃ (a b : Addr) (kvs more : List (Key × V)), x = .ref a ∧ vs = [.ref b] ∧ H a = some (.dK kvs) ∧ H b = some (.dK more) ∧ a ≠ b ∧ kvs.length + more.length ≤ 1000 ∧ Q .non (upd H a (.dK (mergeK kvs more)))
theorem mt_dupd {X : Cx} : MtR X "dict.update" rDUpd := by
  intro pins s σ H x vs v us Q I rx rv h
  obtain ⟨a, b, kvs, more, rfl, rfl, ea, eb, ne, hz, q⟩ := h
  cases (show v = Value.ref a from rx)
  obtain ⟨u, rfl, ru⟩ := vals1 rv
  cases (show u = Value.ref b from ru)
  obtain ⟨za, ha, va, ra, da⟩ := dk_of I.hok ea
  obtain ⟨zb, hb, vb, rb, db⟩ := dk_of I.hok eb
  have sz : va.length + vb.length ≤ sizeLine := by
    rw [← ra.length, ← rb.length]
    exact Nat.le_of_lt (small1000 hz)
  refine call_meetsIn PySem.F.slot_dict_update da.typeIs PySem.F.entry_dict_update (PySem.F.args_dict_update_2 _ _) (meets_dict_update (mixKind X.prog X.w) a b ne hb) ⟨va, vb, da, db, sz, fun h' dd' _ hs => ?_⟩
  have he : ∃ o, h'.get? a = some o := by
    obtain ⟨o, _, _, ho, _⟩ := dd'
    exact ⟨o, ho⟩
  have hm : (mergeK kvs more).length ≤ sizeLine := by
    have := length_mergeK more kvs
    exact Nat.le_of_lt (small1000 (by omega))
  exact ⟨.non, _, d_write (t' := s.toks) I (by rw [ea]; exact True.intro) hs he (dk_new hm ha (rb.merge ra) dd'), rfl, q⟩
/-! ### xs[b], b a truth -/
section
variable {prog : Program} {w : World} {A : Around} {E : Value → Shared → Prop} {s : Shared}
theorem sub_bool {M : Model} {b : Bool} {Q : Option Int → Shared → Prop} (h : Q (some (if b then 1 else 0)) s) : wpAny M A (Builtin.List.listSubscript? (.bool b)) Q E s := by
  unfold Builtin.List.listSubscript?
  refine wpAny_bind (wpAny_specialOf (T := "bool") (show s.TypeIs (.bool b) "bool" from rfl) PySem.F.slot_bool_index.lookup ?_)
  cases b with
  | true =>
    refine wpAny_bind (wpAny_of_eq (a := (1 : Int)) rfl ?_)
    exact wpAny_pure h
  | false =>
    refine wpAny_bind (wpAny_of_eq (a := (0 : Int)) rfl ?_)
    exact wpAny_pure h
theorem get_bool {l : Addr} {items : Array Value} {b : Bool} {x : Value} {Q : Value → Shared → Prop} (hl : s.heap.IsList l items) (hx : items[(if b then 1 else 0)]? = some x) (h : Q x s) :
    wpAny (model prog w) A (getItem (.ref l) (.bool b)) Q E s := by
  obtain ⟨o, ho, hc, ne, hd⟩ := id hl
  unfold getItem
  try with_reducible refine wpAny_holding ?_
  first | refine wpAny_bind (wpAny_pure ?_) | skip
  refine wpAny_bind (wpAny_sequenceKey hl.typeIs (by decide) ?_)
  refine wpAny_bind (wpAny_callSpecial?_slot (name := Str.ofString "__getitem__") hl.typeIs slot_list_getitem (wpAny_call_entry slot_list_getitem hl.typeIs entry_list_getitem ?_ (args_list_getitem _ _)))
  refine wpAny_bind (m := Builtin.List.listSubscript? (.bool b)) (sub_bool ?_)
  cases b with
  | true =>
    show wpAny _ _ ((seqItemAt l 1 >>= fun r => pure (r.map (1, ·))) >>= _) _ _ s
    refine wpAny_bind (wpAny_bind (wpAny_seqItemAt ho hd (wpAny_pure ?_)))
    rw [show items[1]? = some x from hx]
    first
      | exact wpAny_bind (wpAny_pure (wpAny_pure ⟨x, rfl, wpAny_pure h⟩))
      | exact wpAny_pure ⟨x, rfl, wpAny_pure h⟩
  | false =>
    show wpAny _ _ ((seqItemAt l 0 >>= fun r => pure (r.map (0, ·))) >>= _) _ _ s
    refine wpAny_bind (wpAny_bind (wpAny_seqItemAt ho hd (wpAny_pure ?_)))
    rw [show items[0]? = some x from hx]
    first
      | exact wpAny_bind (wpAny_pure (wpAny_pure ⟨x, rfl, wpAny_pure h⟩))
      | exact wpAny_pure ⟨x, rfl, wpAny_pure h⟩
end
def rIxB (K : PySem.W.Frag) : R2 := fun x y H Q => ∃ (p : Addr) (xs : List V) (b : Bool) (v : V), x = .ref p ∧ y = .bl b ∧ SqL K H p xs ∧ xs[(if b then 1 else 0)]? = some v ∧ Q v H
theorem ix_bool {X : Cx} : IxR X (rIxB X.K) := by
  intro value slice pins s σ H x y v u Q I rx ry h hs
  obtain ⟨p, xs, b, z, rfl, rfl, hq, he, q⟩ := h
  cases (show v = Value.ref p from rx)
  cases (show u = Value.bool b from ry)
  obtain ⟨its, r, pl, hz⟩ := I.list hq
  obtain ⟨t, et, rt⟩ := r.get he
  exact subscriptTail_builtinR pl.isList.typeIs PySem.slot_list_getitem.lookup (get_bool (Q := fun r' s' => r' = t ∧ EP X pins σ Q r' s') pl.isList (by simpa using et) ⟨rfl, z, H, I, rt, q⟩) hs
end SfG
namespace SfG
open PySem PySem.Spec PyProof.Rows L2
/-! ### repr of None, of a number, of a list or a tuple -/
def rReprA (K : PySem.W.Frag) : List V → Hp → VK → Prop := fun xs H Q =>
  ∃ (v : V) (d : PyData) (S : Str), xs = [v] ∧ Dp K H v d ∧ (v = .non ∨ (∃ i, v = .int i) ∨ ∃ a, v = .ref a) ∧ d.showable = true ∧ d.hasDict = false ∧
    d.depth ≤ 30 ∧ d.shown = S ∧ S.length ≤ sizeLine ∧ Q (.str S) H
theorem call_reprA {X : Cx} {k : Nat} (hr : Room k X.A) (hgd : X.A.guards = some []) :
    CallR X (.builtin "repr") (rReprA X.K) := by
  intro pins s σ H xs us Q I r h
  obtain ⟨v, d, S, rfl, hd, hv, hs, hn, hdep, rfl, hz, q⟩ := h
  rcases hv with rfl | ⟨i, rfl⟩ | ⟨a, rfl⟩
  · cases hd
    obtain ⟨u, rfl, ru⟩ := vals1 r
    cases ru
    exact PySem.P.repr_of_none ⟨.str _, H, I.tok _, ⟨_, rfl⟩, q⟩
  · cases hd
    obtain ⟨u, rfl, t, rfl⟩ := vals1 r
    exact PySem.P.repr_of_int (by simpa [PyData.showable] using hs) ⟨.str _, H, I.tok _, ⟨_, rfl⟩, q⟩
  · exact call_repr hr hgd pins s σ H _ us Q I r ⟨a, d, _, rfl, hd, hs, hn, hdep, rfl, hz, q⟩
/-! ### what can be shown, and how long that is -/
structure Sh (d : PyData) (L D : Nat) : Prop where
  able : d.showable = true
  nod : d.hasDict = false
  dep : d.depth ≤ D
  len : d.shown.length ≤ L
structure ShA (ds : List PyData) (L D : Nat) : Prop where
  able : PyData.showableAll ds = true
  nod : PyData.hasDictAll ds = false
  dep : PyData.depthAll ds ≤ D
  len : ((PyData.shownAll ds).map (·.length)).sum + 2 * ds.length ≤ L
theorem Sh.mono {d : PyData} {L D L' D' : Nat} (h : Sh d L D) (hL : L ≤ L') (hD : D ≤ D') : Sh d L' D' := ⟨h.able, h.nod, Nat.le_trans h.dep hD, Nat.le_trans h.len hL⟩
theorem ShA.mono {d : List PyData} {L D L' D' : Nat} (h : ShA d L D) (hL : L ≤ L') (hD : D ≤ D') : ShA d L' D' := ⟨h.able, h.nod, Nat.le_trans h.dep hD, Nat.le_trans h.len hL⟩
theorem ShA.nil {D : Nat} : ShA [] 0 D := ⟨rfl, rfl, by simp [PyData.depthAll], by simp [PyData.shownAll]⟩
theorem ShA.cons {d : PyData} {ds : List PyData} {L1 L2 D : Nat} (h : Sh d L1 D) (t : ShA ds L2 D) : ShA (d :: ds) (L1 + 2 + L2) D := by
  refine ⟨?_, ?_, ?_, ?_⟩
  · rw [PyData.showableAll, h.able, t.able]
    rfl
  · rw [PyData.hasDictAll, h.nod, t.nod]
    rfl
  · have h1 := h.dep
    have h2 := t.dep
    simp only [PyData.depthAll]
    omega
  · have h1 := h.len
    have h2 := t.len
    simp only [PyData.shownAll, List.map_cons, List.sum_cons, List.length_cons]
    omega
theorem Sh.tup {ds : List PyData} {L D : Nat} (h : ShA ds L D) : Sh (.tuple ds) (L + 3) (D + 1) := by
  refine ⟨h.able, h.nod, ?_, ?_⟩
  · have h1 := h.dep
    simp only [PyData.depth]
    omega
  · have h1 := h.len
    have h2 := tupleText_len_le (PyData.shownAll ds)
    have h3 := PyData.shownAll_length ds
    simp only [PyData.shown]
    omega
theorem Sh.lst {ds : List PyData} {L D : Nat} (h : ShA ds L D) : Sh (.list ds) (L + 3) (D + 1) := by
  refine ⟨h.able, h.nod, ?_, ?_⟩
  · have h1 := h.dep
    simp only [PyData.depth]
    omega
  · have h1 := h.len
    have h2 := listText_len_le (PyData.shownAll ds)
    have h3 := PyData.shownAll_length ds
    simp only [PyData.shown]
    omega
theorem Sh.non {D : Nat} : Sh .none 4 (D + 1) := ⟨rfl, rfl, by simp [PyData.depth], by decide⟩
theorem Sh.int {i : Int} {k D : Nat} (h : i.natAbs < 2 ^ k) (h0 : 0 < k) (hk : k ≤ 1920) : Sh (.int i) (k + 1) (D + 1) := by
  have hl : i.natAbs.log2 < k := by
    by_cases z : i.natAbs = 0
    · rw [z]
      exact h0
    · exact (Nat.log2_lt z).mpr h
  refine ⟨by simp only [PyData.showable]; exact decide_eq_true (by omega), rfl, by simp [PyData.depth], ?_⟩
  have e := int_text_length_le h0 hl
  show (Str.ofString (toString i)).length ≤ k + 1
  rw [PySem.ofString_length]
  exact e
theorem ShA.ints {k D : Nat} (h0 : 0 < k) (hk : k ≤ 1920) : ∀ {l : List Int}, (∀ x ∈ l, x.natAbs < 2 ^ k) → ShA (l.map PyData.int) (l.length * (k + 3)) (D + 1)
  | [], _ => ShA.nil.mono (by omega) (Nat.le_refl _)
  | a :: r, h => by
    have h1 := ShA.cons (Sh.int (h a List.mem_cons_self) h0 hk) (ShA.ints (D := D) h0 hk (l := r) fun x hx => h x (List.mem_cons_of_mem _ hx))
    refine h1.mono ?_ (Nat.le_refl _)
    rw [List.length_cons, Nat.succ_mul]
    omega
theorem Sh.fits {d : PyData} {L D : Nat} (h : Sh d L D) (hL : L ≤ 10000000) : d.shown.length ≤ sizeLine := by
  rw [sizeLine_eq]
  have := h.len
  omega
end SfG
namespace SfG
open PySem PySem.Spec PyProof.Rows L2
/-! ### the kind of plain data -/
def tyD : PyData → String
  | .none => "NoneType"
  | .bool _ => "bool"
  | .int _ => "int"
  | .str _ => "str"
  | .list _ => "list"
  | .tuple _ => "tuple"
  | .dict _ => "dict"
theorem tyx_tup {K : PySem.W.Frag} {H : Hp} {p : Addr} {xs : List V} (h : SqT K H p xs) : TyX K H (.ref p) (.type "tuple") := by
  rcases h with (h | ⟨o, h⟩) | ⟨o, its, n, h1, h2, _⟩
  · exact .base (.tup h)
  · exact .fTuple h
  · exact .kTuple h1 h2
theorem tyx_lst {K : PySem.W.Frag} {H : Hp} {p : Addr} {xs : List V} (h : SqL K H p xs) : TyX K H (.ref p) (.type "list") := by
  rcases h with (h | ⟨o, h⟩) | ⟨o, its, n, h1, h2, _⟩
  · exact .base (.lst h)
  · exact .base (.frz h)
  · exact .kList h1 h2
theorem dp_is {K : PySem.W.Frag} {H : Hp} {v : V} {d : PyData} (h : Dp K H v d) : Is K H v (tyD d) := by
  cases h with
  | non => exact ⟨.base .non, by decide +kernel⟩
  | bl b => exact ⟨.base (.bl b), by show "bool" ∈ kinds; decide +kernel⟩
  | int i => exact ⟨.base (.int i), by show "int" ∈ kinds; decide +kernel⟩
  | str x => exact ⟨.base (.str x), by show "str" ∈ kinds; decide +kernel⟩
  | lst h _ => exact ⟨tyx_lst h, by show "list" ∈ kinds; decide +kernel⟩
  | tup h _ => exact ⟨tyx_tup h, by show "tuple" ∈ kinds; decide +kernel⟩
theorem kit_tuple : ∀ T ∈ kinds, kitB T "tuple" = some (T == "tuple") := by decide +kernel
def whD : PyData → Bool
  | .int _ => true
  | _ => false
def amD (d : PyData) (lo hi : Int) : Bool := match d with
  | .int i => decide (lo ≤ i) && decide (i ≤ hi)
  | _ => false
def tupD (d : PyData) (lo hi : Int) : Bool := match d with
  | .tuple ds => decide (lo ≤ (ds.length : Int)) && decide ((ds.length : Int) ≤ hi)
  | _ => false
end SfG
namespace SfG
open PySem PySem.Spec PyProof.Rows L2
/-! ### x is not True, x is not False, x a whole number or a truth -/
def rNotBx : R2 := fun x y H Q => ∃ b : Bool, y = .bl b ∧ ((∃ a : Bool, x = .bl a ∧ Q (.bl (!decide (a = b))) H) ∨ ∃ i : Int, x = .int i ∧ Q (.bl true) H)
theorem op_notBx {X : Cx} : OpR X (compareOp .IsNot) rNotBx := by
  intro pins s σ H x y v u Q I rx ry h
  obtain ⟨b, rfl, ⟨a, rfl, q⟩ | ⟨i, rfl, q⟩⟩ := h
  · exact op_notBl pins s σ H _ _ v u Q I rx ry ⟨a, b, rfl, rfl, q⟩
  · cases (show u = Value.bool b from ry)
    obtain ⟨t, rfl⟩ := _root_.id rx
    exact wpAny_isNot_other rfl (fun z => by cases z) ⟨.bl true, H, I, rfl, q⟩
theorem tyx_bool {K : PySem.W.Frag} {H : Hp} {x : V} {t : Value} (h : TyX K H x t) (e : t = .type "bool") : ∃ b, x = .bl b := by
  cases h with
  | base b =>
    cases b with
    | bl b => exact ⟨b, rfl⟩
    | ins => cases e
    | _ => exact absurd (Value.type.inj e) (by decide)
  | _ => exact absurd (Value.type.inj e) (by decide)
theorem is_truth {K : PySem.W.Frag} {H : Hp} {x : V} {T : String} (h : Is K H x T) (e : T = "bool") : ∃ b, x = .bl b := tyx_bool h.1 (by rw [e])
end SfG
/-! data with empty dicts: what is read, shown, compared -/
namespace SfG
open PySem PySem.Spec PyProof.Rows L2
mutual
inductive Dx (K : PySem.W.Frag) (H : Hp) : V → PyData → Prop
  | non : Dx K H .non .none
  | bl (b : Bool) : Dx K H (.bl b) (.bool b)
  | int (i : Int) : Dx K H (.int i) (.int i)
  | str (z : Str) : Dx K H (.str z) (.str z)
  | lst {p : Addr} {l : List V} {ds : List PyData} : SqL K H p l → DxA K H l ds → Dx K H (.ref p) (.list ds)
  | tup {p : Addr} {l : List V} {ds : List PyData} : SqT K H p l → DxA K H l ds → Dx K H (.ref p) (.tuple ds)
  | emp {p : Addr} : H p = some (.dK []) → Dx K H (.ref p) (.dict [])
inductive DxA (K : PySem.W.Frag) (H : Hp) : List V → List PyData → Prop
  | nil : DxA K H [] []
  | cons {v : V} {l : List V} {d : PyData} {ds : List PyData} : Dx K H v d → DxA K H l ds → DxA K H (v :: l) (d :: ds)
end
section
variable {X : Cx} {pins : List (Addr × Obj)} {σ : L2.St} {H : Hp} {s : Shared}
theorem emp_at (I : L2.Inv X pins σ H s) {p : Addr} (h : H p = some (.dK [])) : ∃ o n, s.heap.get? p = some o ∧ o.cls = .type "dict" ∧ o.data = .dict #[] n ∧ (p == sysModules) = false := by
  obtain ⟨_, hsm, vs, r, o, es, ep, e1, e2, e3, e4, e5, _⟩ := dk_of I.hok h
  cases r
  obtain ⟨l⟩ := es
  have e5' : Pairs (mixKind X.prog X.w) l [] := e5
  have e : l = [] := by
    cases l with
    | nil => rfl
    | cons a b => cases e5'
  subst e
  exact ⟨o, ep, e1, e2.1, e3, hsm⟩
mutual
theorem Dx.reads (I : L2.Inv X pins σ H s) : ∀ (d : PyData) (v : V) (u : Value), Dx X.K H v d → RelV v u → ∃ q, Reads s.heap u d q
  | .none, _, _, h, r => by
    cases h
    cases r
    exact ⟨_, .none⟩
  | .bool b, _, _, h, r => by
    cases h
    cases r
    exact ⟨_, .bool b⟩
  | .int i, _, _, h, r => by
    cases h
    obtain ⟨t, rfl⟩ := r
    exact ⟨_, .int i t⟩
  | .str x, _, _, h, r => by
    cases h
    obtain ⟨t, rfl⟩ := r
    exact ⟨_, .str x t⟩
  | .list ds, _, _, h, r => by
    cases h with
    | lst hp hl =>
      cases r
      obtain ⟨us, rv, ⟨o, n, g1, g2, _, g3⟩, _⟩ := I.list hp
      obtain ⟨q, hq⟩ := DxA.reads I ds _ us hl rv
      exact ⟨_, .list g1 g2 g3 hq⟩
  | .tuple ds, _, _, h, r => by
    cases h with
    | tup hp hl =>
      cases r
      obtain ⟨us, rv, ⟨o, g1, g2, n, g3⟩, _⟩ := I.tuple hp
      obtain ⟨q, hq⟩ := DxA.reads I ds _ us hl rv
      exact ⟨_, .tuple g1 g2 g3 hq⟩
  | .dict _, _, _, h, r => by
    cases h with
    | emp hp =>
      cases r
      obtain ⟨o, n, g1, g2, g3, _⟩ := emp_at I hp
      exact ⟨_, .dict g1 g2 g3 ReadsAll.nil ReadsAll.nil⟩
theorem DxA.reads (I : L2.Inv X pins σ H s) : ∀ (ds : List PyData) (l : List V) (us : List Value), DxA X.K H l ds → Vals l us → ∃ q, ReadsAll s.heap us ds q
  | [], _, _, h, r => by
    cases h
    cases r
    exact ⟨_, .nil⟩
  | d :: ds, _, _, h, r => by
    cases h with
    | cons h1 h2 =>
      cases r with
      | cons r1 r2 =>
        obtain ⟨q1, g1⟩ := Dx.reads I d _ _ h1 r1
        obtain ⟨q2, g2⟩ := DxA.reads I ds _ _ h2 r2
        exact ⟨_, .cons g1 g2⟩
end
theorem noRead (h : Heap) (n : Nat) : ReadAtMost h n [] := by
  intro b z
  cases z
theorem text_empty_dict : PyData.shown (.dict []) = dictText [] := rfl
mutual
/-- what is shown of it, at any depth -/
theorem Dx.look (I : L2.Inv X pins σ H s) : ∀ (d : PyData) (v : V) (u : Value), Dx X.K H v d → RelV v u → d.showable = true → d.shown.length ≤ sizeLine →
    ∃ q, ReadAtMost s.heap d.depth q ∧ ReprK X.prog X.w q s.heap d.depth u d.shown
  | .none, _, _, h, r, _, _ => by
    cases h
    cases r
    exact ⟨[], noRead _ _, .of_is ReprIs.none _ _ _⟩
  | .bool b, _, _, h, r, _, _ => by
    cases h
    cases r
    exact ⟨[], noRead _ _, .of_is (ReprIs.bool b) _ _ _⟩
  | .int i, _, _, h, r, hs, _ => by
    cases h
    obtain ⟨t, rfl⟩ := r
    exact ⟨[], noRead _ _, .of_is (ReprIs.int t (of_decide_eq_true hs)) _ _ _⟩
  | .str x, _, _, h, r, _, hz => by
    cases h
    obtain ⟨t, rfl⟩ := r
    exact ⟨[], noRead _ _, .of_is (ReprIs.str x t hz) _ _ _⟩
  | .list ds, v, u, h, r, hs, hz => by
    obtain ⟨q0, rd⟩ := Dx.reads I _ v u h r
    cases h with
    | lst hp hl =>
      cases r
      obtain ⟨us, rv, ⟨o, n, g1, g2, _, g3⟩, _⟩ := I.list hp
      have hz1 : (listText (PyData.shownAll ds)).length ≤ sizeLine := hz
      obtain ⟨q, hq, hk⟩ := DxA.look I ds _ us hl rv hs fun t ht => Nat.le_trans (listText_mem_le ht) hz1
      have hd : (PyData.list ds).depth = PyData.depthAll ds + 1 := by rw [PyData.depth]
      have hn := not_mem_of_deeper rd (by omega) hq
      refine ⟨_ :: q, .cons rd (by omega) hq, ?_⟩
      rw [hd]
      show ReprK _ _ _ _ _ _ (listText (PyData.shownAll ds))
      cases us with
      | nil =>
        have e : PyData.shownAll ds = [] := List.length_eq_zero_iff.mp hk.length_eq
        rw [e]
        exact .listEmpty g1 g2 g3
      | cons a b => exact .list g1 g2 g3 hn (by simpa using hk.length_eq) fun i y e => hk.item i y (by simpa using e)
  | .tuple ds, v, u, h, r, hs, hz => by
    obtain ⟨q0, rd⟩ := Dx.reads I _ v u h r
    cases h with
    | tup hp hl =>
      cases r
      obtain ⟨us, rv, ⟨o, g1, g2, n, g3⟩, _⟩ := I.tuple hp
      have hz1 : (tupleText (PyData.shownAll ds)).length ≤ sizeLine := hz
      obtain ⟨q, hq, hk⟩ := DxA.look I ds _ us hl rv hs fun t ht => Nat.le_trans (tupleText_mem_le ht) hz1
      have hd : (PyData.tuple ds).depth = PyData.depthAll ds + 1 := by rw [PyData.depth]
      have hn := not_mem_of_deeper rd (by omega) hq
      refine ⟨_ :: q, .cons rd (by omega) hq, ?_⟩
      rw [hd]
      exact .tuple g1 g2 g3 hn hk
  | .dict _, v, u, h, r, _, _ => by
    obtain ⟨q0, rd⟩ := Dx.reads I _ v u h r
    cases h with
    | emp hp =>
      cases r
      obtain ⟨o, n, g1, g2, g3, g4⟩ := emp_at I hp
      have hd : (PyData.dict []).depth = 0 + 1 := by decide
      refine ⟨[_], .cons rd (n := 0) (by omega) (noRead _ _), ?_⟩
      rw [hd, text_empty_dict]
      exact .dict g1 g2 g3 g4 (by simp) ReprEntriesK.nil
theorem DxA.look (I : L2.Inv X pins σ H s) : ∀ (ds : List PyData) (l : List V) (us : List Value), DxA X.K H l ds → Vals l us → PyData.showableAll ds = true → (∀ t ∈ PyData.shownAll ds, t.length ≤ sizeLine) →
    ∃ q, ReadAtMost s.heap (PyData.depthAll ds) q ∧ ReprAllK X.prog X.w q s.heap (PyData.depthAll ds) us (PyData.shownAll ds)
  | [], _, _, h, r, _, _ => by
    cases h
    cases r
    exact ⟨[], noRead _ _, ReprAllK.nil⟩
  | d :: ds, _, _, h, r, hs, hz => by
    cases h with
    | cons h1 h2 =>
      cases r with
      | cons r1 r2 =>
        rw [PyData.showableAll, Bool.and_eq_true] at hs
        have hm : d.shown ∈ PyData.shownAll (d :: ds) := by
          rw [PyData.shownAll]
          exact List.mem_cons_self
        obtain ⟨q1, a1, k1⟩ := Dx.look I d _ _ h1 r1 hs.1 (hz _ hm)
        obtain ⟨q2, a2, k2⟩ := DxA.look I ds _ _ h2 r2 hs.2 fun t ht => hz t (by rw [PyData.shownAll]; exact List.mem_cons_of_mem _ ht)
        have m1 : d.depth ≤ PyData.depthAll (d :: ds) := by
          rw [PyData.depthAll]
          omega
        have m2 : PyData.depthAll ds ≤ PyData.depthAll (d :: ds) := by
          rw [PyData.depthAll]
          omega
        refine ⟨q1 ++ q2, (a1.mono m1).append (a2.mono m2), ?_⟩
        rw [PyData.shownAll]
        exact .cons ((k1.more fun b z => List.mem_append_left _ z).level_le m1) (k2.more_le (fun b z => List.mem_append_right _ z) m2)
end
end
/-! ### repr of a list of such data -/
def rReprX (K : PySem.W.Frag) : List V → Hp → VK → Prop := fun xs H Q =>
  ∃ (v : V) (ds : List PyData) (S : Str), xs = [v] ∧ Dx K H v (.list ds) ∧ PyData.showableAll ds = true ∧
    (PyData.list ds).depth ≤ 40 ∧ (PyData.list ds).shown = S ∧ S.length ≤ sizeLine ∧ Q (.str S) H
theorem call_reprX {X : Cx} {k : Nat} (hr : Room k X.A) (hgd : X.A.guards = some []) :
    CallR X (.builtin "repr") (rReprX X.K) := by
  intro pins s σ H xs us Q I r h
  obtain ⟨v, ds, S, rfl, hd, hs, hdep, rfl, hz, q⟩ := h
  obtain ⟨u, rfl, ru⟩ := vals1 r
  obtain ⟨q0, rd⟩ := Dx.reads I _ v u hd ru
  cases hd with
  | lst hp hl =>
    cases ru
    obtain ⟨vs, rv, ⟨o, n, g1, g2, _, g3⟩, _⟩ := I.list hp
    have hz1 : (listText (PyData.shownAll ds)).length ≤ sizeLine := hz
    obtain ⟨q1, hq, hk⟩ := DxA.look I ds _ vs hl rv hs fun t ht => Nat.le_trans (listText_mem_le ht) hz1
    have hde : (PyData.list ds).depth = PyData.depthAll ds + 1 := by rw [PyData.depth]
    have hn := not_mem_of_deeper rd (by omega) hq
    have hun := hr.un
    refine call_repr_slot (by omega) ⟨o, g1, g2⟩ F.slot_list_repr.toG ?_
    cases vs with
    | nil =>
      have e0 : PyData.shownAll ds = [] := List.length_eq_zero_iff.mp hk.length_eq
      have e : (PyData.list ds).shown = "[]" := by
        rw [PyData.shown, e0]
        rfl
      rw [e] at q
      exact call_list_repr_empty ⟨o, g1, g2⟩ g1 g3 ⟨_, _, rfl, .str "[]", H, I.tok _, ⟨_, rfl⟩, q⟩
    | cons a b =>
      refine call_list_reprK g1 g2 g3 hn (by simpa using hk.length_eq) (fun i y e => hk.item i y (by simpa using e)) (show X.A.in1.guards = some [] from hgd) (fun b _ => Clear.nil b) ?_ (fun _ _ z => z) (fun h' u' tk hk' => ?_) hz1
      · show X.A.units + 1 + _ < cLine
        omega
      · exact ⟨_, _, rfl, .str _, H, I.kept hk', ⟨_, rfl⟩, q⟩
end SfG
/-! such data: its parts, how it stays, == with a text, with () and [] -/
namespace SfG
open PySem PySem.Spec PyProof.Rows L2
section
variable {K : PySem.W.Frag} {H : Hp} {v : V}
theorem dx_str {z : Str} (h : Dx K H v (.str z)) : v = .str z := by cases h; rfl
theorem dx_int {n : Int} (h : Dx K H v (.int n)) : v = .int n := by cases h; rfl
theorem dx_bool {b : Bool} (h : Dx K H v (.bool b)) : v = .bl b := by cases h; rfl
theorem dx_tup {ds : List PyData} (h : Dx K H v (.tuple ds)) : ∃ p xs, v = .ref p ∧ SqT K H p xs ∧ DxA K H xs ds := by
  cases h with
  | tup h hs => exact ⟨_, _, rfl, h, hs⟩
theorem dx_lst {ds : List PyData} (h : Dx K H v (.list ds)) : ∃ p xs, v = .ref p ∧ SqL K H p xs ∧ DxA K H xs ds := by
  cases h with
  | lst h hs => exact ⟨_, _, rfl, h, hs⟩
theorem dxA_nil {xs : List V} (h : DxA K H xs []) : xs = [] := by cases h; rfl
theorem dxA_cons {xs : List V} {d : PyData} {ds : List PyData} (h : DxA K H xs (d :: ds)) : ∃ x r, xs = x :: r ∧ Dx K H x d ∧ DxA K H r ds := by
  cases h with
  | cons a b => exact ⟨_, _, rfl, a, b⟩
theorem dxA_len : ∀ {ds : List PyData} {xs : List V}, DxA K H xs ds → xs.length = ds.length
  | [], _, h => by
    rw [dxA_nil h]
    rfl
  | _ :: _, _, h => by
    obtain ⟨x, r, rfl, _, hr⟩ := dxA_cons h
    rw [List.length_cons, List.length_cons, dxA_len hr]
theorem dxA_get : ∀ {ds : List PyData} {xs : List V} {i : Nat} {d : PyData}, DxA K H xs ds → ds[i]? = some d → ∃ x, xs[i]? = some x ∧ Dx K H x d
  | [], _, i, d, _, h => by simp at h
  | a :: r, xs, 0, d, hs, h => by
    obtain ⟨x, r', rfl, hx, _⟩ := dxA_cons hs
    have e : a = d := Option.some.inj h
    exact ⟨x, rfl, e ▸ hx⟩
  | a :: r, xs, i + 1, d, hs, h => by
    obtain ⟨x, r', rfl, _, hr⟩ := dxA_cons hs
    obtain ⟨y, hy, hd⟩ := dxA_get hr (show r[i]? = some d from h)
    exact ⟨y, hy, hd⟩
/-- by the item -/
theorem dxA_at : ∀ {ds : List PyData} {xs : List V} {i : Nat} {x : V}, DxA K H xs ds → xs[i]? = some x → ∃ d, ds[i]? = some d ∧ Dx K H x d
  | [], _, i, d, hs, h => by
    rw [dxA_nil hs] at h
    simp at h
  | a :: r, xs, 0, d, hs, h => by
    obtain ⟨x, r', rfl, hx, _⟩ := dxA_cons hs
    have e : x = d := Option.some.inj h
    exact ⟨a, rfl, e ▸ hx⟩
  | a :: r, xs, i + 1, d, hs, h => by
    obtain ⟨x, r', rfl, _, hr⟩ := dxA_cons hs
    obtain ⟨y, hy, hd⟩ := dxA_at hr (show r'[i]? = some d from h)
    exact ⟨y, hy, hd⟩
theorem dxA_take : ∀ {ds : List PyData} {xs : List V} (n : Nat), DxA K H xs ds → DxA K H (xs.take n) (ds.take n)
  | [], _, n, h => by
    rw [dxA_nil h]
    simpa using DxA.nil
  | _ :: _, _, 0, _ => by simpa using DxA.nil
  | _ :: _, _, n + 1, h => by
    obtain ⟨x, r, rfl, hx, hr⟩ := dxA_cons h
    exact .cons hx (dxA_take n hr)
theorem dxA_drop : ∀ {ds : List PyData} {xs : List V} (n : Nat), DxA K H xs ds → DxA K H (xs.drop n) (ds.drop n)
  | [], _, n, h => by
    rw [dxA_nil h]
    simpa using DxA.nil
  | _ :: _, _, 0, h => h
  | _ :: _, _, n + 1, h => by
    obtain ⟨x, r, rfl, hx, hr⟩ := dxA_cons h
    exact dxA_drop n hr
theorem dxA_app : ∀ {ds es : List PyData} {xs ys : List V}, DxA K H xs ds → DxA K H ys es → DxA K H (xs ++ ys) (ds ++ es)
  | [], _, _, _, h, g => by
    rw [dxA_nil h]
    exact g
  | _ :: _, _, _, _, h, g => by
    obtain ⟨x, r, rfl, hx, hr⟩ := dxA_cons h
    exact .cons hx (dxA_app hr g)
theorem dxA_rev : ∀ {ds : List PyData} {xs : List V}, DxA K H xs ds → DxA K H xs.reverse ds.reverse
  | [], _, h => by
    rw [dxA_nil h]
    exact .nil
  | _ :: _, _, h => by
    obtain ⟨x, r, rfl, hx, hr⟩ := dxA_cons h
    rw [List.reverse_cons, List.reverse_cons]
    exact dxA_app (dxA_rev hr) (.cons hx .nil)
mutual
theorem Dp.dx : ∀ {d : PyData} {v : V}, Dp K H v d → Dx K H v d
  | _, _, .non => .non
  | _, _, .bl b => .bl b
  | _, _, .int i => .int i
  | _, _, .str x => .str x
  | _, _, .lst h hs => .lst h (Dp.dxA hs)
  | _, _, .tup h hs => .tup h (Dp.dxA hs)
theorem Dp.dxA : ∀ {ds : List PyData} {vs : List V}, DpAll K H vs ds → DxA K H vs ds
  | _, _, .nil => .nil
  | _, _, .cons h hs => .cons (Dp.dx h) (Dp.dxA hs)
end
end
/-- what keeps lists, tuples and empty dicts keeps such data -/
structure Kx (K : PySem.W.Frag) (H H' : Hp) : Prop where
  kd : Kd K H H'
  e : ∀ {p}, H p = some (.dK []) → H' p = some (.dK [])
theorem Gr.kx {K : PySem.W.Frag} {H H' : Hp} (g : Gr H H') : Kx K H H' := ⟨g.kd, fun h => g.dic h⟩
theorem Gp.kx {K : PySem.W.Frag} {p : Addr} {H H' : Hp} {k : Key × V} {kv : List (Key × V)} (g : Gp p H H') (hp : H p = some (.dK (k :: kv))) : Kx K H H' := by
  refine ⟨g.kd hp, ?_⟩
  intro b h
  refine g.keep b _ ?_ h (fun _ z => by cases z)
  intro z
  rw [z, hp] at h
  cases h
theorem Kx.trans {K : PySem.W.Frag} {H H1 H2 : Hp} (a : Kx K H H1) (b : Kx K H1 H2) : Kx K H H2 := ⟨⟨fun h => b.kd.l (a.kd.l h), fun h => b.kd.t (a.kd.t h)⟩, fun h => b.e (a.e h)⟩
mutual
theorem Kx.dx {K : PySem.W.Frag} {H H' : Hp} (g : Kx K H H') : ∀ {d : PyData} {v : V}, Dx K H v d → Dx K H' v d
  | _, _, .non => .non
  | _, _, .bl b => .bl b
  | _, _, .int i => .int i
  | _, _, .str x => .str x
  | _, _, .lst h hs => .lst (g.kd.l h) (g.dxA hs)
  | _, _, .tup h hs => .tup (g.kd.t h) (g.dxA hs)
  | _, _, .emp h => .emp (g.e h)
theorem Kx.dxA {K : PySem.W.Frag} {H H' : Hp} (g : Kx K H H') : ∀ {ds : List PyData} {vs : List V}, DxA K H vs ds → DxA K H' vs ds
  | _, _, .nil => .nil
  | _, _, .cons h hs => .cons (g.dx h) (g.dxA hs)
end
theorem dx_is {K : PySem.W.Frag} {H : Hp} {v : V} {d : PyData} (h : Dx K H v d) : Is K H v (tyD d) := by
  cases h with
  | non => exact ⟨.base .non, by decide +kernel⟩
  | bl b => exact ⟨.base (.bl b), by show "bool" ∈ kinds; decide +kernel⟩
  | int i => exact ⟨.base (.int i), by show "int" ∈ kinds; decide +kernel⟩
  | str x => exact ⟨.base (.str x), by show "str" ∈ kinds; decide +kernel⟩
  | lst h _ => exact ⟨tyx_lst h, by show "list" ∈ kinds; decide +kernel⟩
  | tup h _ => exact ⟨tyx_tup h, by show "tuple" ∈ kinds; decide +kernel⟩
  | emp h => exact ⟨.base (.dK h), by show "dict" ∈ kinds; decide +kernel⟩
/-! ### == -/
theorem dict_eq_str (l : Addr) (es : Array DictEntry) (n : Nat) (dd : Option Addr) (sl : Array (Option Value)) (b : Str) (u : Tok) :
    Meets (Builtin.«dict.__eq__» ⟨[.ref l, .str b u], []⟩) (fun _ R s => s.heap.get? l = some { cls := .type "dict", dict := dd, data := .dict es n, slots := sl } ∧ R (.ok (.ret .notImplemented)) s) := by
  refine .of_wp fun prog w A R s h => ?_
  obtain ⟨hp, g, d, tk, os⟩ := s
  obtain ⟨hl, h⟩ := h
  have f1 := F.sub_str_dict
  wp_walk using wpAny_loadPart' hl
  exact ⟨_, rfl, h⟩
theorem str_eq_dict (b : Str) (u : Tok) (l : Addr) (es : Array DictEntry) (n : Nat) (dd : Option Addr) (sl : Array (Option Value)) :
    Meets (Builtin.«str.__eq__» ⟨[.str b u, .ref l], []⟩) (fun _ R s => s.heap.get? l = some { cls := .type "dict", dict := dd, data := .dict es n, slots := sl } ∧ R (.ok (.ret .notImplemented)) s) := by
  refine .of_wp fun prog w A R s h => ?_
  obtain ⟨hp, g, d, tk, os⟩ := s
  obtain ⟨hl, h⟩ := h
  wp_walk using wpAny_loadPart' hl, wpAny_load hl
  exact ⟨_, rfl, h⟩
end SfG
namespace SfG
open PySem PySem.Spec PyProof.Rows L2
section
variable {A : Around} {s : Shared}
theorem rc_dict_str {l : Addr} {o : Obj} {es : Array DictEntry} {n : Nat} (b : Str) (u : Tok) (ho : s.heap.get? l = some o) (hc : o.cls = .type "dict") (hd : o.data = .dict es n) (hu : A.units < cLine) :
    SeqAt.RcAt A s (.ref l) (.str b u) false := fun prog w E Q h => by
  obtain ⟨cls, dd, data, sl⟩ := o
  simp only at hc hd
  subst hc hd
  refine SeqAt.rc_eq_decline_or (k := false) ⟨_, ho, rfl⟩ (typeIs_str s b u) (by decide) F.sub_str_dict F.slot_dict_eq F.slot_str_eq_refl ?_ ?_ ?_ (.inr hu) h
  · intro Q' hq
    exact call_meets F.slot_dict_eq ⟨_, ho, rfl⟩ F.entry_dict_eq (F.args_dict_eq_2 _ _) (dict_eq_str l es n dd sl b u) ⟨ho, hq⟩
  · intro Q' hq
    exact call_meets F.slot_str_eq_refl (typeIs_str s b u) F.entry_str_eq (F.args_str_eq_2 _ _) (str_eq_dict b u l es n dd sl) ⟨ho, hq⟩
  · intro Q' hq
    exact wpAny_of_eq (show isSame (.ref l) (.str b u) = pure false from rfl) hq
end
/-- a thing is this text -/
def eqS : PyData → Str → Bool
  | .str a, z => decide (a = z)
  | _, _ => false
def rEqXS (K : PySem.W.Frag) : R2 := fun x y H Q => ∃ (d : PyData) (z : Str), Dx K H x d ∧ y = .str z ∧ Q (.bl (eqS d z)) H
section
variable {X : Cx}
theorem op_eqXS {k : Nat} (hr : Room k X.A) : OpR X (compareOp .Eq) (rEqXS X.K) := by
  intro pins s σ H x y v u Q I rx ry h
  obtain ⟨d, z, hx, rfl, q⟩ := h
  obtain ⟨t, rfl⟩ := ry
  have hu : X.A.units < cLine := by
    have := hr.un
    omega
  have fin : Q (.bl (eqS d z)) H → EP X pins σ Q (.bool (eqS d z)) s := fun q => ⟨.bl _, H, I, rfl, q⟩
  cases hx with
  | non =>
    cases rx
    exact SeqAt.RcAt.none_str z t _ _ _ _ (fin q)
  | bl b =>
    cases rx
    exact SeqAt.RcAt.bool_str b z t _ _ _ _ (fin q)
  | int i =>
    obtain ⟨t', rfl⟩ := rx
    exact SeqAt.RcAt.int_str i t' z t _ _ _ _ (fin q)
  | str a =>
    obtain ⟨t', rfl⟩ := rx
    have e : (a == z) = decide (a = z) := by
      by_cases c : a = z
      · rw [decide_eq_true c, c]
        exact beq_self_eq_true z
      · rw [decide_eq_false c]
        exact beq_eq_false_iff_ne.mpr c
    refine SeqAt.RcAt.str_str a t' z t _ _ _ _ ?_
    rw [e]
    exact fin q
  | lst hp hl =>
    cases rx
    obtain ⟨us, rv, ⟨o, n, g1, g2, _, g3⟩, _⟩ := I.list hp
    exact SeqAt.RcAt.list_str z t ⟨o, g1, g2, n, g3⟩ hu _ _ _ _ (fin q)
  | tup hp hl =>
    cases rx
    obtain ⟨us, rv, ⟨o, g1, g2, n, g3⟩, _⟩ := I.tuple hp
    exact SeqAt.RcAt.tuple_str z t ⟨o, g1, g2, n, g3⟩ hu _ _ _ _ (fin q)
  | emp hp =>
    cases rx
    obtain ⟨o, n, g1, g2, g3, _⟩ := emp_at I hp
    exact rc_dict_str z t g1 g2 g3 hu _ _ _ _ (fin q)
def rEqT0 (K : PySem.W.Frag) : R2 := fun x y H Q => ∃ (p q : Addr) (l : List V), x = .ref p ∧ y = .ref q ∧ SqT K H p l ∧ SqT K H q [] ∧ Q (.bl l.isEmpty) H
theorem op_eqT0 {k : Nat} (hr : Room k X.A) : OpR X (compareOp .Eq) (rEqT0 X.K) := by
  intro pins s σ H x y v u Q I rx ry h
  obtain ⟨p, q, l, rfl, rfl, hp, hq, g⟩ := h
  cases rx
  cases ry
  have hu : X.A.units < cLine := by
    have := hr.un
    omega
  obtain ⟨us, rv, tp, _⟩ := I.tuple hp
  obtain ⟨ws, rw', tq, _⟩ := I.tuple hq
  cases rw'
  refine SeqAt.eq_tupleAt (e := fun _ => true) tp tq hu (fun j h1 h2 => absurd h2 (by simp)) ?_
  have e : ((List.range (min us.toArray.size ([] : List Value).toArray.size)).all (fun _ => true) && us.toArray.size == ([] : List Value).toArray.size) = l.isEmpty := by
    cases rv with
    | nil => rfl
    | cons a b => simp
  rw [e]
  exact ⟨.bl _, H, I, rfl, g⟩
def rEqL0 (K : PySem.W.Frag) : R2 := fun x y H Q => ∃ (p q : Addr) (l : List V), x = .ref p ∧ y = .ref q ∧ SqL K H p l ∧ SqL K H q [] ∧ Q (.bl l.isEmpty) H
theorem op_eqL0 {k : Nat} (hr : Room k X.A) : OpR X (compareOp .Eq) (rEqL0 X.K) := by
  intro pins s σ H x y v u Q I rx ry h
  obtain ⟨p, q, l, rfl, rfl, hp, hq, g⟩ := h
  cases rx
  cases ry
  have hu : X.A.units < cLine := by
    have := hr.un
    omega
  obtain ⟨us, rv, ⟨o, n, a1, a2, _, a3⟩, _⟩ := I.list hp
  obtain ⟨ws, rw', ⟨o2, n2, b1, b2, _, b3⟩, _⟩ := I.list hq
  cases rw'
  cases rv with
  | nil => exact SeqAt.eq_listAt (e := fun _ => true) ⟨o, a1, a2, n, a3⟩ ⟨o2, b1, b2, n2, b3⟩ rfl hu (fun j h1 h2 => absurd h2 (by simp)) ⟨.bl true, H, I, rfl, g⟩
  | cons a b => exact SeqAt.eq_list_lengthsAt ⟨o, a1, a2, n, a3⟩ ⟨o2, b1, b2, n2, b3⟩ (by simp) hu ⟨.bl false, H, I, rfl, g⟩
end
end SfG
/-! how great data is -/
namespace SfG
open PySem PySem.Spec PyProof.Rows L2
mutual
/-- how long it is when shown, at most -/
def wt : PyData → Nat
  | .none => 5
  | .bool _ => 5
  | .int i => i.natAbs.log2 + 3
  | .str z => 10 * z.length + 2
  | .list ds => wtA ds + 3
  | .tuple ds => wtA ds + 3
  | .dict _ => 2
def wtA : List PyData → Nat
  | [] => 0
  | d :: ds => wt d + 2 + wtA ds
end
mutual
/-- of plain texts, of numbers that can be shown, of empty dicts -/
def okd : PyData → Bool
  | .none => true
  | .bool _ => true
  | .int i => decide (i.natAbs.log2 < 1900)
  | .str z => z.cps.toList.all fun c => decide (c < 128)
  | .list ds => okdA ds
  | .tuple ds => okdA ds
  | .dict kvs => kvs.isEmpty
def okdA : List PyData → Bool
  | [] => true
  | d :: ds => okd d && okdA ds
end
theorem okd_str {z : Str} (h : okd (.str z) = true) : ∀ c ∈ z.cps.toList, c < 128 := by
  rw [okd] at h
  exact fun c hc => of_decide_eq_true (List.all_eq_true.mp h c hc)
mutual
theorem okd_able : ∀ {d : PyData}, okd d = true → d.showable = true
  | .none, _ => rfl
  | .bool _, _ => rfl
  | .int i, h => by
    rw [okd, decide_eq_true_eq] at h
    rw [PyData.showable]
    exact decide_eq_true (by omega)
  | .str z, _ => rfl
  | .list ds, h => by
    rw [okd] at h
    rw [PyData.showable]
    exact okdA_able h
  | .tuple ds, h => by
    rw [okd] at h
    rw [PyData.showable]
    exact okdA_able h
  | .dict [], _ => rfl
  | .dict (_ :: _), h => by
    rw [okd] at h
    cases h
theorem okdA_able : ∀ {ds : List PyData}, okdA ds = true → PyData.showableAll ds = true
  | [], _ => rfl
  | d :: ds, h => by
    rw [okdA, Bool.and_eq_true] at h
    rw [PyData.showableAll, okd_able h.1, okdA_able h.2]
    rfl
end
mutual
theorem okd_len : ∀ {d : PyData}, okd d = true → d.shown.length ≤ wt d
  | .none, _ => by decide
  | .bool true, _ => by decide
  | .bool false, _ => by decide
  | .int i, h => by
    have hl : i.natAbs.log2 < i.natAbs.log2 + 1 := by omega
    have e := int_text_length_le (k := i.natAbs.log2 + 1) (a := i) (by omega) hl
    show (Str.ofString (toString i)).length ≤ _
    rw [PySem.ofString_length, wt]
    omega
  | .str z, h => by
    have h1 := PySem.StrLaws.reprText_len z fun c hc => Nat.lt_of_lt_of_le (okd_str h c hc) (by decide)
    show (reprText z).length ≤ _
    rw [wt]
    omega
  | .list ds, h => by
    rw [okd] at h
    have h1 := okdA_len h
    have h2 := listText_len_le (PyData.shownAll ds)
    have h3 := PyData.shownAll_length ds
    rw [PyData.shown, wt]
    omega
  | .tuple ds, h => by
    rw [okd] at h
    have h1 := okdA_len h
    have h2 := tupleText_len_le (PyData.shownAll ds)
    have h3 := PyData.shownAll_length ds
    rw [PyData.shown, wt]
    omega
  | .dict [], _ => by decide
  | .dict (_ :: _), h => by
    rw [okd] at h
    cases h
theorem okdA_len : ∀ {ds : List PyData}, okdA ds = true → ((PyData.shownAll ds).map (·.length)).sum + 2 * ds.length ≤ wtA ds
  | [], _ => by decide
  | d :: ds, h => by
    rw [okdA, Bool.and_eq_true] at h
    have h1 := okd_len h.1
    have h2 := okdA_len h.2
    rw [PyData.shownAll, List.map_cons, List.sum_cons, List.length_cons, wtA]
    omega
end
/-! ### parts -/
theorem okdA_app : ∀ {a b : List PyData}, okdA (a ++ b) = (okdA a && okdA b)
  | [], b => by
    rw [okdA]
    simp
  | d :: a, b => by
    rw [List.cons_append, okdA, okdA, okdA_app, Bool.and_assoc]
theorem wtA_app : ∀ {a b : List PyData}, wtA (a ++ b) = wtA a + wtA b
  | [], b => by
    rw [wtA]
    simp
  | d :: a, b => by
    rw [List.cons_append, wtA, wtA, wtA_app]
    omega
theorem depA_app : ∀ {a b : List PyData}, PyData.depthAll (a ++ b) = max (PyData.depthAll a) (PyData.depthAll b)
  | [], b => by
    rw [PyData.depthAll]
    simp
  | d :: a, b => by
    rw [List.cons_append, PyData.depthAll, PyData.depthAll, depA_app]
    omega
structure Wt (d : PyData) (L D : Nat) : Prop where
  ok : okd d = true
  le : wt d ≤ L
  dep : d.depth ≤ D
structure WtA (ds : List PyData) (L D : Nat) : Prop where
  ok : okdA ds = true
  le : wtA ds ≤ L
  dep : PyData.depthAll ds ≤ D
theorem Wt.mono {d : PyData} {L D L' D' : Nat} (h : Wt d L D) (hL : L ≤ L') (hD : D ≤ D') : Wt d L' D' := ⟨h.ok, Nat.le_trans h.le hL, Nat.le_trans h.dep hD⟩
theorem WtA.mono {d : List PyData} {L D L' D' : Nat} (h : WtA d L D) (hL : L ≤ L') (hD : D ≤ D') : WtA d L' D' := ⟨h.ok, Nat.le_trans h.le hL, Nat.le_trans h.dep hD⟩
theorem WtA.nil {L D : Nat} : WtA [] L D := ⟨rfl, by rw [wtA]; omega, by rw [PyData.depthAll]; omega⟩
theorem WtA.cons {d : PyData} {ds : List PyData} {L1 L2 D : Nat} (h : Wt d L1 D) (t : WtA ds L2 D) : WtA (d :: ds) (L1 + 2 + L2) D := by
  refine ⟨?_, ?_, ?_⟩
  · rw [okdA, h.ok, t.ok]
    rfl
  · have := h.le
    have := t.le
    rw [wtA]
    omega
  · have := h.dep
    have := t.dep
    rw [PyData.depthAll]
    omega
theorem WtA.app {a b : List PyData} {L1 L2 D : Nat} (h : WtA a L1 D) (t : WtA b L2 D) : WtA (a ++ b) (L1 + L2) D := by
  refine ⟨?_, ?_, ?_⟩
  · rw [okdA_app, h.ok, t.ok]
    rfl
  · have := h.le
    have := t.le
    rw [wtA_app]
    omega
  · have := h.dep
    have := t.dep
    rw [depA_app]
    omega
theorem WtA.take {a : List PyData} {L D : Nat} (h : WtA a L D) (n : Nat) : WtA (a.take n) L D := by
  obtain ⟨h1, h2, h3⟩ := h
  rw [← List.take_append_drop n a] at h1 h2 h3
  rw [okdA_app, Bool.and_eq_true] at h1
  rw [wtA_app] at h2
  rw [depA_app] at h3
  exact ⟨h1.1, by omega, by omega⟩
theorem WtA.drop {a : List PyData} {L D : Nat} (h : WtA a L D) (n : Nat) : WtA (a.drop n) L D := by
  obtain ⟨h1, h2, h3⟩ := h
  rw [← List.take_append_drop n a] at h1 h2 h3
  rw [okdA_app, Bool.and_eq_true] at h1
  rw [wtA_app] at h2
  rw [depA_app] at h3
  exact ⟨h1.2, by omega, by omega⟩
/-- both ends of it weigh no more than it -/
theorem wtA_ends (a : List PyData) {m n : Nat} (h : m ≤ n) : wtA (a.take m) + wtA (a.drop n) ≤ wtA a := by
  have e : a.drop m = (a.drop m).take (n - m) ++ a.drop n := by
    have := (List.take_append_drop (n - m) (a.drop m)).symm
    rw [List.drop_drop, show m + (n - m) = n by omega] at this
    exact this
  have e1 : wtA a = wtA (a.take m) + wtA (a.drop m) := by rw [← wtA_app, List.take_append_drop]
  rw [e1, e, wtA_app]
  omega
theorem WtA.get {a : List PyData} {L D i : Nat} {d : PyData} (h : WtA a L D) (e : a[i]? = some d) : Wt d L D := by
  have hd : a.drop i = d :: a.drop (i + 1) := by
    obtain ⟨hi, e'⟩ := List.getElem?_eq_some_iff.mp e
    rw [List.drop_eq_getElem_cons hi, e']
  obtain ⟨h1, h2, h3⟩ := h.drop i
  rw [hd, okdA, Bool.and_eq_true] at h1
  rw [hd, wtA] at h2
  rw [hd, PyData.depthAll] at h3
  exact ⟨h1.1, by omega, by omega⟩
theorem WtA.rev : ∀ {a : List PyData} {L D : Nat}, WtA a L D → WtA a.reverse L D
  | [], _, _, _ => WtA.nil
  | d :: ds, L, D, h => by
    obtain ⟨h1, h2, h3⟩ := h
    rw [okdA, Bool.and_eq_true] at h1
    rw [wtA] at h2
    rw [PyData.depthAll] at h3
    have r : WtA ds.reverse (wtA ds) D := WtA.rev ⟨h1.2, Nat.le_refl _, by omega⟩
    rw [List.reverse_cons]
    exact (r.app (WtA.cons (L1 := wt d) ⟨h1.1, Nat.le_refl _, by omega⟩ (WtA.nil (L := 0)))).mono (by omega) (Nat.le_refl _)
theorem Wt.tup {ds : List PyData} {L D : Nat} (h : WtA ds L D) : Wt (.tuple ds) (L + 3) (D + 1) := by
  refine ⟨h.ok, ?_, ?_⟩
  · have := h.le
    rw [wt]
    omega
  · have := h.dep
    rw [PyData.depth]
    omega
theorem Wt.lst {ds : List PyData} {L D : Nat} (h : WtA ds L D) : Wt (.list ds) (L + 3) (D + 1) := by
  refine ⟨h.ok, ?_, ?_⟩
  · have := h.le
    rw [wt]
    omega
  · have := h.dep
    rw [PyData.depth]
    omega
theorem Wt.un {ds : List PyData} {L D : Nat} (h : Wt (.tuple ds) L D) : WtA ds L D ∧ PyData.depthAll ds + 1 ≤ D ∧ wtA ds + 3 ≤ L := by
  obtain ⟨h1, h2, h3⟩ := h
  rw [wt] at h2
  rw [PyData.depth] at h3
  exact ⟨⟨h1, by omega, by omega⟩, h3, h2⟩
theorem Wt.text {z : Str} {L D : Nat} (h : Wt (.str z) L D) : 10 * z.length + 2 ≤ L := by
  have := h.le
  rw [wt] at this
  exact this
theorem Wt.lit {d : PyData} {L D : Nat} (h : (okd d && decide (wt d ≤ L) && decide (d.depth ≤ D)) = true) : Wt d L D := by
  rw [Bool.and_eq_true, Bool.and_eq_true, decide_eq_true_eq, decide_eq_true_eq] at h
  exact ⟨h.1.1, h.1.2, h.2⟩
end SfG
/-! d.get(k) of a written dict by texts -/
namespace SfG
open PySem PySem.Spec PyProof.Rows L2
/-- a dict of the module, all its keys texts: what is there by each -/
def KDo (K : PySem.W.Frag) (w : World) (p : Addr) (f : Str → Option V) : Prop :=
  ∃ es n, K.lookup p = some ⟨.type "dict", none, .dict es n, #[]⟩ ∧ PySem.W.KeysLit w.params es.toList ∧ (p == sysModules) = false ∧ ∀ z, RelO (f z) (findBy Value.isStrOf es z)
def tKGet (K : PySem.W.Frag) (w : World) (td ty : TE) : TE := fun σ H Q => td σ H fun x H1 => ∃ (p : Addr) (f : Str → Option V), x = .ref p ∧ KDo K w p f ∧ ty σ H1 fun y H2 => ∃ z : Str, y = .str z ∧ Q ((f z).getD .non) H2
theorem relO_getD {a : Option V} {b : Option Value} (h : RelO a b) : RelV (a.getD .non) (b.getD .none) := by
  cases a with
  | none =>
    cases b with
    | none => exact rfl
    | some u => exact absurd h id
  | some v =>
    cases b with
    | none => exact absurd h id
    | some u => exact h
theorem pe_kget {X : Cx} {o e : Expr} {apos cpos : Pos} {td ty : TE} (ho : PE X o td) (he : PE X e ty) (m : M1 X o "get" apos e cpos) : PE X (.Call (.Attribute o "get" apos) [e] [] cpos) (tKGet X.K X.w td ty) := by
  constructor
  intro pins s σ H Q I h
  refine wpAny_Call_method m.base m.few m.line PySem.F.plainAttrs_dict PySem.F.slot_dict_get PySem.F.type_dict_get ?_
  refine thn (ho.run pins s σ H _ I h) ?_
  rintro u s1 ⟨x, H1, I1, rx, p, f, rfl, ⟨es, n, hl, hk, hs, hf⟩, q1⟩
  cases (show u = Value.ref p from rx)
  have hm := fun (I : L2.Inv X pins σ H1 s1) => PySem.W.mapOf_K (prog := X.prog) (w := X.w) I.kIn hl hk
  refine ⟨(hm I1).typeIs, ?_, ?_⟩
  · intro b z
    cases z
    exact ⟨_, I1.kIn _ _ hl, rfl⟩
  rw [m.trees]
  refine Calls.callWith_builtin rfl (Calls.evalArgs_plain (Calls.spliced_cons (thn (he.run pins s1 σ H1 _ I1 q1) ?_)))
  rintro v s2 ⟨y, H2, I2, ry, z, rfl, q2⟩
  obtain ⟨t, rfl⟩ := (show ∃ t, v = Value.str z t from ry)
  refine Calls.spliced_nil ?_
  have hm2 := PySem.W.mapOf_K (prog := X.prog) (w := X.w) I2.kIn hl hk
  exact call_meetsIn PySem.F.slot_dict_get hm2.typeIs PySem.F.entry_dict_get (PySem.F.args_dict_get_2 _ _) (meets_dict_get (strKind X.prog X.w) p (strKind_is X.prog X.w z t) hs) ⟨_, hm2, _, H2, I2.tok _, relO_getD (hf z), q2⟩
end SfG
namespace SfC
open PySem PySem.Spec PyProof.Rows L2 SfG
def topS (i : Nat) : Stmt := PySem.Challenge.pw_sameface_k59_programs_as_texts.main.body.getD i (.Pass ⟨0, 0, 0, 0⟩)
abbrev sShown : Stmt := topS 1
abbrev sBadRowC : Stmt := topS 3
abbrev sBadProgC : Stmt := topS 4
abbrev sWhole : Stmt := topS 6
abbrev sAmong : Stmt := topS 7
abbrev sTupOf : Stmt := topS 8
abbrev sName : Stmt := topS 9
abbrev sNextN : Stmt := topS 10
abbrev sFigs : Stmt := topS 11
abbrev sNum : Stmt := topS 12
abbrev sWords : Stmt := topS 13
abbrev sKind : Stmt := topS 16
abbrev sBadD : Stmt := topS 17
abbrev sAreT : Stmt := topS 18
abbrev sBadH : Stmt := topS 19
abbrev sFault : Stmt := topS 20
abbrev sIsF : Stmt := topS 21
abbrev sFind : Stmt := topS 22
abbrev sRowsOf : Stmt := topS 24
abbrev sRowAt : Stmt := topS 25
abbrev sNoMore : Stmt := topS 26
abbrev sRow : Stmt := topS 27
abbrev sDeedRow : Stmt := topS 29
abbrev sFaceRows : Stmt := topS 30
abbrev sReadH : Stmt := topS 31
abbrev sKindBy : Stmt := topS 32
abbrev sReadT : Stmt := topS 33
abbrev sReadD : Stmt := topS 34
abbrev sReadFB : Stmt := topS 35
abbrev sIsArg : Stmt := topS 43
abbrev sRowOf : Stmt := topS 44
abbrev sLooked : Stmt := topS 46
abbrev sBadUse : Stmt := topS 47
abbrev sBadInp : Stmt := topS 48
abbrev sParts : Stmt := topS 49
abbrev sKindsBN : Stmt := topS 50
abbrev sNeedP : Stmt := topS 51
abbrev sArgText : Stmt := topS 53
abbrev sRowText : Stmt := topS 54
abbrev sProgText : Stmt := topS 55
abbrev sEndF : Stmt := topS 56
abbrev sReadU : Stmt := topS 57
abbrev sReadUs : Stmt := topS 58
abbrev sReadI : Stmt := topS 59
abbrev sArgBy : Stmt := topS 60
abbrev sReadA : Stmt := topS 61
abbrev sReadAs : Stmt := topS 62
abbrev sReadNs : Stmt := topS 63
abbrev sReadR : Stmt := topS 64
abbrev sReadP : Stmt := topS 65
abbrev sMixed : Stmt := topS 67
abbrev sDraw : Stmt := topS 68
abbrev sDigit : Stmt := topS 69
abbrev sNamesP : Stmt := topS 70
abbrev sFaceP : Stmt := topS 71
abbrev sArgsOf : Stmt := topS 72
abbrev sLet : Stmt := topS 73
abbrev sPick : Stmt := topS 74
abbrev sProg : Stmt := topS 75
abbrev sLFRows : Stmt := topS 76
abbrev sArgWord : Stmt := topS 77
abbrev sTextP : Stmt := topS 78
abbrev sByForm : Stmt := topS 79
abbrev sLaw : Stmt := topS 80
end SfC
namespace SfC
open PySem PySem.Spec PyProof.Rows L2 SfG
/-! ### names -/
abbrev letters : Str := "abcdefghijklmnopqrstuvwxyz"
def isLet (c : Nat) : Bool := decide (c ∈ letters.cps.toList)
/-- one to eight small letters -/
def isN (z : Str) : Bool := decide (z.length ≤ 8) && (decide (1 ≤ z.length) && z.cps.toList.all isLet)
theorem let_alpha : ∀ c, c < 128 → Unicode.isAlpha c = (isLet c || (Unicode.isUpper c || Unicode.isTitle c)) := by decide +kernel
theorem let_lower : ∀ c, c < 128 → Unicode.isLower c = isLet c := by decide +kernel
theorem let_upper : ∀ c, c < 128 → isLet c = true → (Unicode.isUpper c || Unicode.isTitle c) = false := by decide +kernel
theorem let_range {c : Nat} (h : isLet c = true) : c < 128 := by
  have h' : c ∈ letters.cps.toList := of_decide_eq_true h
  have e : ∀ d ∈ letters.cps.toList, d < 128 := by decide +kernel
  exact e c h'
theorem name_list : ∀ l : List Nat, (∀ c ∈ l, c < 128) → (l.all Unicode.isAlpha && !(l.any fun c => Unicode.isUpper c || Unicode.isTitle c)) = l.all isLet
  | [], _ => rfl
  | a :: r, h => by
    have ih := name_list r fun c hc => h c (.tail _ hc)
    have ha := h a (.head _)
    rw [List.all_cons, List.any_cons, List.all_cons, ← ih, let_alpha a ha]
    cases hl : isLet a with
    | true =>
      rw [let_upper a ha hl]
      simp
    | false =>
      cases (Unicode.isUpper a || Unicode.isTitle a) <;> simp
theorem name_txt (z : Str) : (Txt.isalpha z && (Txt.islower z && Txt.isascii z)) = (decide (1 ≤ z.length) && z.cps.toList.all isLet) := by
  have hl : z.length = z.cps.toList.length := by simp [Str.length]
  unfold Txt.isalpha Txt.islower Txt.isascii
  rw [← Array.all_toList, ← Array.any_toList, ← Array.any_toList, ← Array.all_toList, hl]
  generalize z.cps.toList = l
  by_cases hc : ∀ c ∈ l, c < 128
  · have h1 : (l.all fun x => decide (x < 128)) = true := List.all_eq_true.mpr fun c h => decide_eq_true (hc c h)
    have e := name_list l hc
    rw [h1, ← e]
    cases l with
    | nil => rfl
    | cons a r =>
      have h2 : (decide ((a :: r).length > 0)) = true := decide_eq_true (by simp)
      have h3 : (decide (1 ≤ (a :: r).length)) = true := decide_eq_true (by simp)
      rw [h2, h3]
      cases hA : (a :: r).all isLet with
      | true =>
        rw [hA] at e
        have hla : isLet a = true := by
          rw [List.all_cons] at hA
          exact (Bool.and_eq_true_iff.mp hA).1
        have hlow : (a :: r).any Unicode.isLower = true := by
          rw [List.any_cons, let_lower a (hc a (.head _)), hla]
          rfl
        rw [hlow]
        simp
      | false =>
        rw [hA] at e
        rw [e]
        cases h4 : (a :: r).all Unicode.isAlpha with
        | false => rfl
        | true =>
          rw [h4] at e
          cases h5 : (a :: r).any fun c => Unicode.isUpper c || Unicode.isTitle c with
          | true => simp
          | false =>
            rw [h5] at e
            cases e
  · have h1 : (l.all fun x => decide (x < 128)) = false := by
      cases h : (l.all fun x => decide (x < 128)) with
      | false => rfl
      | true => exact absurd (fun c hc' => of_decide_eq_true (List.all_eq_true.mp h c hc')) hc
    have h2 : l.all isLet = false := by
      cases h : l.all isLet with
      | false => rfl
      | true => exact absurd (fun c hc' => let_range (List.all_eq_true.mp h c hc')) hc
    rw [h1, h2]
    simp
theorem isN_txt {z : Str} (h : isN z = true) : z.length ≤ 8 ∧ 1 ≤ z.length ∧ Txt.isalpha z = true ∧ Txt.islower z = true ∧ Txt.isascii z = true ∧ z.cps.toList.all isLet = true := by
  unfold isN at h
  rw [← name_txt, Bool.and_eq_true, Bool.and_eq_true, Bool.and_eq_true, decide_eq_true_eq] at h
  have e := name_txt z
  rw [h.2.1, h.2.2.1, h.2.2.2] at e
  have e' := e.symm
  rw [Bool.and_true, Bool.and_true, Bool.and_eq_true, decide_eq_true_eq] at e'
  exact ⟨h.1, e'.1, h.2.1, h.2.2.1, h.2.2.2, e'.2⟩
theorem isN_small {z : Str} (h : isN z = true) : z.length ≤ sizeLine := by
  have h1 := (isN_txt h).1
  rw [sizeLine_eq]
  omega
/-! ### faces -/
abbrev lt (a b : Str) : Prop := a.cps.toList < b.cps.toList
inductive Kn where
  | h (s : Str)
  | p (n : Int)
def Kn.d : Kn → PyData
  | .h s => .str s
  | .p n => .int n
def Kn.v : Kn → V
  | .h s => .str s
  | .p n => .int n
def Kn.isH : Kn → Bool
  | .h _ => true
  | .p _ => false
structure De where
  nm : Str
  tk : List Kn
  gv : Kn
structure Fc where
  hd : List Str
  ds : List De
def De.d (e : De) : PyData := .tuple [.str e.nm, .tuple (e.tk.map Kn.d), e.gv.d]
def Fc.d (f : Fc) : PyData := .tuple [.tuple (f.hd.map .str), .tuple (f.ds.map De.d)]
def goK (hd : List Str) : Kn → Prop
  | .h s => s ∈ hd
  | .p n => 2 ≤ n ∧ n ≤ 9
def hidN (tk : List Kn) : Nat := (tk.filter Kn.isH).length
structure goD (hd : List Str) (e : De) : Prop where
  nm : isN e.nm = true
  len : e.tk.length ≤ 3
  tk : ∀ k ∈ e.tk, goK hd k
  two : hidN e.tk ≤ 2
  gv : goK hd e.gv
structure goH (hd : List Str) : Prop where
  lo : 1 ≤ hd.length
  hi : hd.length ≤ 2
  nm : ∀ z ∈ hd, isN z = true
  up : hd.Pairwise lt
structure goF (f : Fc) : Prop where
  hid : goH f.hd
  lo : 1 ≤ f.ds.length
  hi : f.ds.length ≤ 8
  up : (f.ds.map De.nm).Pairwise lt
  ok : ∀ e ∈ f.ds, goD f.hd e
/-- the name ahead of the i-th -/
def ahd (l : List Str) (i : Nat) : Str := if i = 0 then "" else l.getD (i - 1) ""
theorem ahd_lt {l : List Str} (up : l.Pairwise lt) (hn : ∀ z ∈ l, isN z = true) {i : Nat} {z : Str} (hz : l[i]? = some z) : lt (ahd l i) z := by
  unfold ahd
  by_cases h0 : i = 0
  · rw [if_pos h0]
    have h1 := (isN_txt (hn z (List.mem_of_getElem? hz))).2.1
    have hl : z.length = z.cps.toList.length := by simp [Str.length]
    show (([] : List Nat) < z.cps.toList)
    cases hc : z.cps.toList with
    | nil =>
      rw [hl, hc] at h1
      exact absurd h1 (by simp)
    | cons a r => exact List.nil_lt_cons a r
  · rw [if_neg h0]
    have hi : i < l.length := by
      rcases Nat.lt_or_ge i l.length with h | h
      · exact h
      · rw [List.getElem?_eq_none h] at hz
        cases hz
    have e1 : l.getD (i - 1) "" = l[i - 1] := by
      rw [List.getD_eq_getElem?_getD, List.getElem?_eq_getElem (by omega)]
      rfl
    have e2 : z = l[i] := by
      rw [List.getElem?_eq_getElem hi] at hz
      exact (Option.some.inj hz).symm
    rw [e1, e2]
    exact List.pairwise_iff_getElem.mp up (i - 1) i (by omega) hi (by omega)
theorem ahd_succ {l : List Str} {i : Nat} {z : Str} (hz : l[i]? = some z) : ahd l (i + 1) = z := by
  unfold ahd
  rw [if_neg (by omega), List.getD_eq_getElem?_getD, Nat.add_sub_cancel, hz]
  rfl
theorem inV_mem {s : Str} {l : List Str} (h : s ∈ l) : inV (.str s) (l.map V.str) = true := by
  unfold inV
  rw [List.any_map]
  exact List.any_eq_true.mpr ⟨s, h, by simp [eqV]⟩
theorem flat_strs (l : List Str) : (l.map V.str).all flatV = true := by
  rw [List.all_map]
  exact List.all_eq_true.mpr fun _ _ => rfl
section
variable {P : Program} {w : World} {K : PySem.W.Frag} {mg : Str → Option Value} {base : Heap}
theorem is_kn {H : Hp} (k : Kn) : Is K H k.v (match k with | .h _ => "str" | .p _ => "int") := by
  cases k with
  | h s => exact is_str s
  | p n => exact is_int n
theorem dp_kn {H : Hp} {v : V} {k : Kn} (h : Dp K H v k.d) : v = k.v := by
  cases k with
  | h s => exact dp_str h
  | p n => exact dp_int h
theorem dpA_strs {H : Hp} : ∀ {l : List Str} {xs : List V}, DpAll K H xs (l.map PyData.str) → xs = l.map V.str
  | [], _, h => dpA_nil h
  | a :: r, _, h => by
    obtain ⟨x, t, rfl, hx, ht⟩ := dpA_cons h
    rw [dp_str hx, dpA_strs ht]
    rfl
theorem dpA_kns {H : Hp} : ∀ {l : List Kn} {xs : List V}, DpAll K H xs (l.map Kn.d) → xs = l.map Kn.v
  | [], _, h => dpA_nil h
  | a :: r, _, h => by
    obtain ⟨x, t, rfl, hx, ht⟩ := dpA_cons h
    rw [dp_kn hx, dpA_kns ht]
    rfl
/-! ### is_name, is_kind, first_bad_hidden -/
theorem scName : FnScope ["thing"] ["thing"] (defScope sName) := ⟨rfl, rfl, rfl, by decide +kernel, rfl, by decide +kernel, by decide +kernel⟩
theorem scKind : FnScope ["thing", "hidden"] ["thing", "hidden"] (defScope sKind) := ⟨rfl, rfl, rfl, by decide +kernel, rfl, by decide +kernel, by decide +kernel⟩
abbrev nBadH : List Str := ["hidden", "ahead", "number", "name"]
theorem scBadH : FnScope nBadH ["hidden"] (defScope sBadH) := ⟨rfl, rfl, rfl, by decide +kernel, rfl, by decide +kernel, by decide +kernel⟩
def spName : Sp := fun vs H Q _ => ∃ z : Str, vs = [.str z] ∧ isN z = true ∧ Q (.bl true) H
theorem ok_name {f : Addr} {fd : FuncData} {k : Nat} (F : Fun K "is_name" "is_name" sName f fd) (mi : mg "isinstance" = none) (m1 : mg "str" = none) (ml : mg "len" = none) :
    FnOk P w K mg base CX0 (k + 1) f fd ["thing"] spName := by
  refine F.ok scName (fun vs H Q E h => ?_) (fun cdv A outer s H vs Q E hr h => ?_)
  · obtain ⟨z, rfl, _⟩ := h
    rfl
  · obtain ⟨z, rfl, hz, q⟩ := h
    obtain ⟨h8, h1, ha, hlo, has, _⟩ := isN_txt hz
    refine ⟨_, pss_one (ps_ret (pe_and (pe_isi "str" 0 mi m1 (by decide +kernel))
      (pe_and (pe_cmpR op_le (pe_callB call_len_str (by rfl) ml PySem.boot_len (pa_cons (pv 0) pa_nil)) pe_int (nomark _))
      (pe_and (pe_m0 PySem.F.slot_str_isalpha PySem.F.type_str_isalpha mt_isalpha (pv 0))
      (pe_and (pe_m0 PySem.F.slot_str_islower PySem.F.type_str_islower mt_islower (pv 0))
      (pe_one (pe_m0 PySem.F.slot_str_isascii PySem.F.type_str_isascii mt_isascii (pv 0)))))))), ?_⟩
    refine ⟨_, rfl, "str", _, (is_str z).1, by decide +kernel, _, rfl, iteT ⟨_, rfl, z, rfl, isN_small hz, _, 8, rfl, rfl, _, rfl, ?_⟩⟩
    rw [decide_eq_true (show (z.length : Int) ≤ 8 by omega)]
    refine iteT ⟨_, rfl, ⟨z, rfl⟩, z, rfl, rfl, trivial, _, rfl, ?_⟩
    rw [ha]
    refine iteT ⟨_, rfl, ⟨z, rfl⟩, z, rfl, rfl, trivial, _, rfl, ?_⟩
    rw [hlo]
    refine iteT ⟨_, rfl, ⟨z, rfl⟩, z, rfl, rfl, trivial, ?_⟩
    rw [has]
    exact q
def spKind (K : PySem.W.Frag) : Sp := fun vs H Q _ => ∃ (k : Kn) (hd : List Str) (p : Addr), vs = [k.v, .ref p] ∧ SqT K H p (hd.map V.str) ∧ goK hd k ∧ Q (.bl true) H
theorem ok_kind {f : Addr} {fd : FuncData} {k : Nat} (F : Fun K "is_kind" "is_kind" sKind f fd) (mi : mg "isinstance" = none) (m1 : mg "str" = none) (m2 : mg "int" = none) :
    FnOk P w K mg base CX0 (k + 1) f fd ["thing", "hidden"] (spKind K) := by
  refine F.ok scKind (fun vs H Q E h => ?_) (fun cdv A outer s H vs Q E hr h => ?_)
  · obtain ⟨k, hd, p, rfl, _⟩ := h
    rfl
  · obtain ⟨k, hd, p, rfl, hp, hk, q⟩ := h
    refine ⟨_, pss_cons (ps_if (pt_val (pe_isi "str" 0 mi m1 (by decide +kernel))) (pss_one (ps_ret (pe_cmpR op_in_seq (pv 0) (pv 1) rfl))) pss_nil)
      (pss_one (ps_ret (pe_and (pe_isi "int" 0 mi m2 (by decide +kernel)) (pe_one (pe_chain op_le op_le pe_int (pv 0) pe_int))))), ?_⟩
    cases k with
    | h s =>
      refine ⟨_, rfl, "str", _, (is_str s).1, by decide +kernel, _, rfl, iteT ⟨_, rfl, _, rfl, p, _, rfl, .inr hp, rfl, flat_strs hd, ?_⟩⟩
      rw [show inV (Kn.v (.h s)) (hd.map V.str) = true from inV_mem hk]
      exact q
    | p n =>
      obtain ⟨h2, h9⟩ := hk
      refine ⟨_, rfl, "int", false, (is_int n).1, by decide +kernel, _, rfl, iteF ⟨_, rfl, "int", true, (is_int n).1, by decide +kernel, _, rfl, iteT ⟨_, rfl, 2, n, rfl, rfl, _, rfl, ?_⟩⟩⟩
      rw [decide_eq_true h2]
      refine iteT ⟨n, 9, rfl, rfl, ?_⟩
      show Q (.bl (decide (n ≤ 9))) H
      rw [decide_eq_true h9]
      exact q
def spBadH (K : PySem.W.Frag) : Sp := fun vs H Q _ => ∃ (hd : List Str) (p : Addr), vs = [.ref p] ∧ SqT K H p (hd.map V.str) ∧ (∀ z ∈ hd, isN z = true) ∧ hd.Pairwise lt ∧ ∀ H', Gr H H' → Q .non H'
theorem ok_badH {f fN : Addr} {fd fdN : FuncData} {k : Nat} (F : Fun K "first_bad_hidden" "first_bad_hidden" sBadH f fd) (HN : Has P w K mg base (k + 1) "is_name" ["thing"] spName fN fdN) (me : mg "enumerate" = none) :
    FnOk P w K mg base CX0 (k + 2) f fd ["hidden"] (spBadH K) := by
  refine F.ok scBadH (fun vs H Q E h => ?_) (fun cdv A outer s H vs Q E hr h => ?_)
  · obtain ⟨hd, p, rfl, _⟩ := h
    rfl
  · obtain ⟨hd, p, rfl, hp, hn, up, q⟩ := h
    have nd := scBadH.nd
    refine' ⟨_, pss_cons (ps_set (i := 1) nd rfl (.inl rfl) pe_str) (pss_cons (ps_for PassesOwn.never rfl (pi_enumT (by rfl) me (pa_cons (pv 0) pa_nil))
        (pg_tup rfl (pgs_cons (pg_name (i := 2) nd rfl (.inl rfl)) (pgs_cons (pg_name (i := 3) nd rfl (.inl rfl)) pgs_nil)))
        (pss_cons (ps_if (PW.pt (pw_or (pt_not (pt_val (hcall HN hr (pa_cons (pv 3) pa_nil)))) (pw_or1 (pt_cmpR op_le_str (pv 3) (pv 1) (nomark _))))) (pss_one (ps_ret (pv 2))) pss_nil)
        (pss_one (ps_set (i := 1) nd rfl (.inl rfl) (pv 3))))) (pss_one (ps_ret pe_non))), ?rd⟩
    case rd =>
    refine ⟨_, rfl, p, _, rfl, hp, for_it (walk_enumT (xs := hd.map V.str)) (fun i σ H1 => ∃ y2 y3 : Option V, σ = [some (.ref p), some (.str (ahd hd i)), y2, y3] ∧ Gr H H1) ⟨none, none, rfl, Gr.refl H⟩ ?h1 ?h2 ?h3⟩
    case h1 =>
      rintro i σ H1 hi ⟨y2, y3, rfl, g⟩
      exact g.sqt hp
    case h2 =>
      rintro i x σ H1 H2 hi ⟨y2, y3, rfl, g⟩ ⟨T, a, b, rfl, nT, rfl, ha, hb⟩
      cases ha
      rw [show (fun i : Nat => (hd.map V.str)[i]?) i = (hd.map V.str)[i]? from rfl, List.getElem?_map] at hb
      obtain ⟨z, hz, rfl⟩ := Option.map_eq_some_iff.mp hb
      have gz := hn z (List.mem_of_getElem? hz)
      have lz := ahd_lt up hn hz
      refine ⟨T, [.int (i : Nat), .str z], rfl, .inl (.inl upd_same), rfl, .int (i : Nat), [.str z], rfl, .str z, [], rfl, rfl, ?_⟩
      refine ⟨_, rfl, z, rfl, gz, _, rfl, iteF ⟨_, rfl, _, rfl, z, _, rfl, rfl, _, rfl, ?_⟩⟩
      rw [decide_eq_true lz]
      refine iteF ⟨_, rfl, ?_⟩
      show ∃ y2 y3 : Option V, _ = [some (.ref p), some (.str (ahd hd (i + 1))), y2, y3] ∧ _
      rw [ahd_succ hz]
      exact ⟨_, _, rfl, g.trans (Gr.new nT)⟩
    case h3 =>
      rintro σ H1 ⟨y2, y3, rfl, g⟩
      exact q H1 g
end
end SfC
namespace SfC
open PySem PySem.Spec PyProof.Rows L2 SfG
abbrev nBadD : List Str := ["deeds", "hidden", "ahead", "number", "deed", "name", "takes", "gives", "many", "kind"]
theorem scBadD : FnScope nBadD ["deeds", "hidden"] (defScope sBadD) := ⟨rfl, rfl, rfl, by decide +kernel, rfl, by decide +kernel, by decide +kernel⟩
theorem dpA_de {K : PySem.W.Frag} {H : Hp} {xs : List V} {es : List De} (h : DpAll K H xs (es.map De.d)) {i : Nat} {x : V} (hx : xs[i]? = some x) : ∃ e, es[i]? = some e ∧ Dp K H x e.d := by
  have hl := dpA_len h
  rw [List.length_map] at hl
  have hi : i < xs.length := by
    rcases Nat.lt_or_ge i xs.length with h1 | h1
    · exact h1
    · rw [List.getElem?_eq_none h1] at hx
      cases hx
  have hi' : i < es.length := by omega
  obtain ⟨y, hy, hd⟩ := dpA_get (i := i) (d := (es[i]).d) h (by simp [hi'])
  rw [hx] at hy
  cases hy
  exact ⟨es[i], by simp [hi'], hd⟩
theorem hidN_snoc (tk : List Kn) (k : Kn) : hidN (tk ++ [k]) = hidN tk + (if k.isH then 1 else 0) := by
  unfold hidN
  rw [List.filter_append, List.length_append]
  cases h : k.isH <;> simp [h]
theorem hidN_take {tk : List Kn} {i : Nat} {k : Kn} (h : tk[i]? = some k) : hidN (tk.take (i + 1)) = hidN (tk.take i) + (if k.isH then 1 else 0) := by
  rw [List.take_add_one, h]
  exact hidN_snoc _ k
section
variable {P : Program} {w : World} {K : PySem.W.Frag} {mg : Str → Option Value} {base : Heap}
def spBadD (K : PySem.W.Frag) : Sp := fun vs H Q _ => ∃ (es : List De) (hd : List Str) (x : V) (p : Addr), vs = [x, .ref p] ∧ Dp K H x (.tuple (es.map De.d)) ∧ SqT K H p (hd.map V.str) ∧ (es.map De.nm).Pairwise lt ∧ (∀ e ∈ es, goD hd e) ∧ ∀ H', Gr H H' → Q .non H'
set_option maxHeartbeats 1000000 in
theorem ok_badD {f fK : Addr} {fd fdK : FuncData} {k : Nat} (F : Fun K "first_bad_deed" "first_bad_deed" sBadD f fd) (HK : Has P w K mg base (k + 1) "is_kind" ["thing", "hidden"] (spKind K) fK fdK)
    (me : mg "enumerate" = none) (mi : mg "isinstance" = none) (m1 : mg "str" = none) (m2 : mg "int" = none) (m3 : mg "tuple" = none) (ml : mg "len" = none) :
    FnOk P w K mg base CX0 (k + 2) f fd ["deeds", "hidden"] (spBadD K) := by
  refine F.ok scBadD (fun vs H Q E h => ?_) (fun cdv A outer s H vs Q E hr h => ?_)
  · obtain ⟨es, hd, x, p, rfl, _⟩ := h
    rfl
  · obtain ⟨es, hd, x, p, rfl, hx, hp, up, ok, q⟩ := h
    have nd := scBadD.nd
    refine' ⟨_, pss_cons (ps_set (i := 2) nd rfl (.inl rfl) pe_str) (pss_cons (ps_for PassesOwn.never rfl (pi_enumT (by rfl) me (pa_cons (pv 0) pa_nil))
        (pg_tup rfl (pgs_cons (pg_name (i := 3) nd rfl (.inl rfl)) (pgs_cons (pg_name (i := 4) nd rfl (.inl rfl)) pgs_nil)))
        (pss_cons ?b1 (pss_cons ?b2 (pss_cons ?b3 (pss_cons ?b4 (pss_cons ?b5 (pss_cons ?b6 (pss_cons ?b7 (pss_cons ?b8 (pss_one ?b9)))))))))) (pss_one (ps_ret pe_non))), ?rd⟩
    case b1 =>
      exact ps_if (PW.pt (pw_or (pt_not (pt_val (pe_isi "tuple" 4 mi m3 (by decide +kernel)))) (pw_or1 (pt_cmpR op_ne (pe_callB call_len_seq (by rfl) ml PySem.boot_len (pa_cons (pv 4) pa_nil)) pe_int (nomark _))))) (pss_one (ps_ret (pv 3))) pss_nil
    case b2 =>
      exact ps_asg (pv 4) (pg_tup rfl (pgs_cons (pg_name (i := 5) nd rfl (.inl rfl)) (pgs_cons (pg_name (i := 6) nd rfl (.inl rfl)) (pgs_cons (pg_name (i := 7) nd rfl (.inl rfl)) pgs_nil))))
    case b3 =>
      exact ps_if (PW.pt (pw_or (pt_not (pt_val (pe_isi "str" 5 mi m1 (by decide +kernel)))) (pw_or (pt_cmpR op_gt (pe_callB call_len_str (by rfl) ml PySem.boot_len (pa_cons (pv 5) pa_nil)) pe_int (nomark _)) (pw_or1 (pt_cmpR op_le_str (pv 5) (pv 2) (nomark _)))))) (pss_one (ps_ret (pv 3))) pss_nil
    case b4 =>
      exact ps_if (PW.pt (pw_or (pt_not (pt_val (pe_m0 PySem.F.slot_str_isalpha PySem.F.type_str_isalpha mt_isalpha (pv 5)))) (pw_or (pt_not (pt_val (pe_m0 PySem.F.slot_str_islower PySem.F.type_str_islower mt_islower (pv 5)))) (pw_or1 (pt_not (pt_val (pe_m0 PySem.F.slot_str_isascii PySem.F.type_str_isascii mt_isascii (pv 5)))))))) (pss_one (ps_ret (pv 3))) pss_nil
    case b5 =>
      exact ps_if (PW.pt (pw_or (pt_not (pt_val (pe_isi "tuple" 6 mi m3 (by decide +kernel)))) (pw_or (pt_cmpR op_gt (pe_callB call_len_seq (by rfl) ml PySem.boot_len (pa_cons (pv 6) pa_nil)) pe_int (nomark _)) (pw_or1 (pt_not (pt_val (hcall HK hr (pa_cons (pv 7) (pa_cons (pv 1) pa_nil))))))))) (pss_one (ps_ret (pv 3))) pss_nil
    case b6 =>
      exact ps_set (i := 8) nd rfl (.inl rfl) pe_int
    case b7 =>
      refine' ps_for PassesOwn.never rfl (pi_tup (pv 6)) (pg_name (i := 9) nd rfl (.inl rfl)) (pss_one (ps_if (pt_val (pe_isi "str" 9 mi m1 (by decide +kernel))) (pss_cons ?c1 (pss_one ?c2)) (pss_one ?c3)))
      case c1 => exact ps_if (pt_cmpR op_notIn_seq (pv 9) (pv 1) rfl) (pss_one (ps_ret (pv 3))) pss_nil
      case c2 => exact ps_aug (i := 8) nd rfl (.inl rfl) pe_int ip_add
      case c3 => exact ps_if (PW.pt (pw_or (pt_not (pt_val (pe_isi "int" 9 mi m2 (by decide +kernel)))) (pw_or1 (pt_not (pt_chain op_le op_le pe_int (pv 9) pe_int))))) (pss_one (ps_ret (pv 3))) pss_nil
    case b8 =>
      exact ps_if (pt_cmpR op_gt (pv 8) pe_int (nomark _)) (pss_one (ps_ret (pv 3))) pss_nil
    case b9 =>
      exact ps_set (i := 2) nd rfl (.inl rfl) (pv 5)
    case rd =>
    obtain ⟨pd, xs, rfl, hpd, hxs⟩ := dp_tup hx
    refine ⟨_, rfl, pd, xs, rfl, hpd, for_it (walk_enumT (xs := xs)) (fun i σ H1 => ∃ y3 y4 y5 y6 y7 y8 y9 : Option V, σ = [some (.ref pd), some (.ref p), some (.str (ahd (es.map De.nm) i)), y3, y4, y5, y6, y7, y8, y9] ∧ Gr H H1) ⟨none, none, none, none, none, none, none, rfl, Gr.refl H⟩ ?h1 ?h2 ?h3⟩
    case h1 =>
      rintro i σ H1 hi ⟨y3, y4, y5, y6, y7, y8, y9, rfl, g⟩
      exact g.sqt hpd
    case h3 =>
      rintro σ H1 ⟨y3, y4, y5, y6, y7, y8, y9, rfl, g⟩
      exact q H1 g
    case h2 =>
      rintro i x σ H1 H2 hi ⟨y3, y4, y5, y6, y7, y8, y9, rfl, g⟩ ⟨T, a, b, rfl, nT, rfl, ha, hb⟩
      cases ha
      obtain ⟨e, he, de⟩ := dpA_de hxs hb
      have gd := ok e (List.mem_of_getElem? he)
      have hne : (es.map De.nm)[i]? = some e.nm := by rw [List.getElem?_map, he]; rfl
      have lz := ahd_lt up (fun z hz => by obtain ⟨e', h1, rfl⟩ := List.mem_map.mp hz; exact (ok e' h1).nm) hne
      have g2 : Gr H (upd H1 T (.tup [.int (i : Nat), b])) := g.trans (Gr.new nT)
      have hT : upd H1 T (.tup [.int (i : Nat), b]) T = some (.tup [.int (i : Nat), b]) := upd_same
      generalize upd H1 T (.tup [.int (i : Nat), b]) = H2 at g2 hT ⊢
      have de2 := g2.kd.dp de
      obtain ⟨pe, n1, t1, v1, rfl, hpe, dn, dt, dv⟩ := dp_3 de2
      cases dp_str dn
      cases dp_kn dv
      obtain ⟨pt, ts, rfl, hpt, hts⟩ := dp_tup dt
      cases dpA_kns hts
      have hp2 := g2.sqt hp
      obtain ⟨h8, h1, hal, hlo, has, _⟩ := isN_txt gd.nm
      refine ⟨T, _, rfl, .inl (.inl hT), rfl, .int (i : Nat), [.ref pe], rfl, .ref pe, [], rfl, rfl, ?_⟩
      -- a tuple of three
      refine ⟨_, rfl, "tuple", true, tyx_tup hpe, by decide +kernel, _, rfl, iteF ⟨_, rfl, pe, _, rfl, .inr hpe, rfl, _, rfl, iteF ?_⟩⟩
      refine ⟨_, rfl, pe, _, rfl, hpe, rfl, _, _, rfl, _, _, rfl, _, _, rfl, rfl, ?_⟩
      -- its name
      refine ⟨_, rfl, "str", true, (is_str e.nm).1, by decide +kernel, _, rfl, iteF ⟨_, rfl, _, rfl, isN_small gd.nm, _, 8, rfl, rfl, _, rfl, ?_⟩⟩
      rw [decide_eq_false (show ¬ (e.nm.length : Int) > 8 by omega)]
      refine iteF ⟨_, rfl, _, rfl, e.nm, _, rfl, rfl, _, rfl, ?_⟩
      rw [decide_eq_true lz]
      refine iteF ⟨_, rfl, ⟨_, rfl⟩, e.nm, rfl, rfl, trivial, _, rfl, ?_⟩
      rw [hal]
      refine iteF ⟨_, rfl, ⟨_, rfl⟩, e.nm, rfl, rfl, trivial, _, rfl, ?_⟩
      rw [hlo]
      refine iteF ⟨_, rfl, ⟨_, rfl⟩, e.nm, rfl, rfl, trivial, _, rfl, ?_⟩
      rw [has]
      refine iteF ?_
      -- what it takes and gives
      refine ⟨_, rfl, "tuple", true, tyx_tup hpt, by decide +kernel, _, rfl, iteF ⟨_, rfl, pt, _, rfl, .inr hpt, _, 3, rfl, rfl, _, rfl, ?_⟩⟩
      rw [List.length_map, decide_eq_false (show ¬ ((e.tk.length : Nat) : Int) > 3 by have := gd.len; omega)]
      refine iteF ⟨_, rfl, _, rfl, e.gv, hd, p, rfl, hp2, gd.gv, _, rfl, iteF ?_⟩
      refine ⟨_, rfl, pt, rfl, ⟨_, hpt⟩, for_it (walk_tup (xs := e.tk.map Kn.v)) (fun j σ H3 => ∃ y9 : Option V, σ = [some (.ref pd), some (.ref p), some (.str (ahd (es.map De.nm) i)), some (.int (i : Nat)), some (.ref pe), some (.str e.nm), some (.ref pt), some e.gv.v, some (.int (hidN (e.tk.take j))), y9] ∧ H3 = H2) ⟨_, rfl, rfl⟩ ?i1 ?i2 ?i3⟩
      case i1 =>
        rintro j σ H3 hj ⟨y, rfl, rfl⟩
        exact hpt
      case i2 =>
        rintro j x σ H3 H4 hj ⟨y, rfl, rfl⟩ ⟨rfl, hx⟩
        rw [List.getElem?_map] at hx
        obtain ⟨kn, hkn, rfl⟩ := Option.map_eq_some_iff.mp hx
        have gk := gd.tk kn (List.mem_of_getElem? hkn)
        have ht := hidN_take hkn
        cases kn with
        | h z =>
          refine ⟨_, rfl, "str", true, (is_str z).1, by decide +kernel, _, rfl, iteT ⟨_, rfl, _, rfl, p, _, rfl, .inr hp2, rfl, flat_strs hd, _, rfl, ?_⟩⟩
          rw [show inV (Kn.v (.h z)) (hd.map V.str) = true from inV_mem gk]
          refine iteF ⟨_, rfl, _, 1, rfl, rfl, ?_⟩
          show ∃ y9 : Option V, _ = [some (.ref pd), some (.ref p), some (.str (ahd (es.map De.nm) i)), some (.int (i : Nat)), some (.ref pe), some (.str e.nm), some (.ref pt), some e.gv.v, some (.int (hidN (e.tk.take (j + 1)))), y9] ∧ _
          rw [ht]
          exact ⟨_, rfl, rfl⟩
        | p n =>
          obtain ⟨k2, k9⟩ := gk
          refine ⟨_, rfl, "int", false, (is_int n).1, by decide +kernel, _, rfl, iteF ⟨_, rfl, "int", true, (is_int n).1, by decide +kernel, _, rfl, iteF ⟨_, rfl, 2, n, rfl, rfl, _, rfl, ?_⟩⟩⟩
          rw [decide_eq_true k2]
          refine iteT ⟨n, 9, rfl, rfl, _, rfl, ?_⟩
          rw [decide_eq_true k9]
          refine iteF ?_
          show ∃ y9 : Option V, _ = [some (.ref pd), some (.ref p), some (.str (ahd (es.map De.nm) i)), some (.int (i : Nat)), some (.ref pe), some (.str e.nm), some (.ref pt), some e.gv.v, some (.int (hidN (e.tk.take (j + 1)))), y9] ∧ _
          rw [ht]
          exact ⟨_, rfl, rfl⟩
      case i3 =>
        rintro σ H3 ⟨y, rfl, rfl⟩
        rw [List.length_map, List.take_length]
        refine ⟨_, rfl, _, 2, rfl, rfl, _, rfl, ?_⟩
        rw [decide_eq_false (show ¬ ((hidN e.tk : Nat) : Int) > 2 by have := gd.two; omega)]
        refine iteF ⟨_, rfl, ?_⟩
        show ∃ y3 y4 y5 y6 y7 y8 y9 : Option V, _ = [some (.ref pd), some (.ref p), some (.str (ahd (es.map De.nm) (i + 1))), y3, y4, y5, y6, y7, y8, y9] ∧ _
        rw [ahd_succ hne]
        exact ⟨_, _, _, _, _, _, _, rfl, g2⟩
end
end SfC
namespace SfC
open PySem PySem.Spec PyProof.Rows L2 SfG
theorem scFault : FnScope ["thing", "hidden", "deeds", "number"] ["thing"] (defScope sFault) := ⟨rfl, rfl, rfl, by decide +kernel, rfl, by decide +kernel, by decide +kernel⟩
/-- a face in the heap, opened -/
theorem dp_face {K : PySem.W.Frag} {H : Hp} {x : V} {f : Fc} (h : Dp K H x f.d) : ∃ p ph pd xs, x = .ref p ∧ SqT K H p [.ref ph, .ref pd] ∧ SqT K H ph (f.hd.map V.str) ∧ SqT K H pd xs ∧ DpAll K H xs (f.ds.map De.d) := by
  obtain ⟨p, a, b, rfl, hp, ha, hb⟩ := dp_2 h
  obtain ⟨ph, hs, rfl, hph, dh⟩ := dp_tup ha
  obtain ⟨pd, xs, rfl, hpd, dd⟩ := dp_tup hb
  cases dpA_strs dh
  exact ⟨p, ph, pd, xs, rfl, hp, hph, hpd, dd⟩
section
variable {P : Program} {w : World} {K : PySem.W.Frag} {mg : Str → Option Value} {base : Heap}
def spGood (K : PySem.W.Frag) (r : V) : Sp := fun vs H Q _ => ∃ (x : V) (f : Fc), vs = [x] ∧ Dp K H x f.d ∧ goF f ∧ ∀ H', Gr H H' → Q r H'
theorem ok_fault {f fH fD : Addr} {fd fdH fdD : FuncData} {k : Nat} {t8 : Tok} (F : Fun K "face_fault" "face_fault" sFault f fd) (HH : Has P w K mg base (k + 2) "first_bad_hidden" ["hidden"] (spBadH K) fH fdH)
    (HD : Has P w K mg base (k + 2) "first_bad_deed" ["deeds", "hidden"] (spBadD K) fD fdD) (mi : mg "isinstance" = none) (m3 : mg "tuple" = none) (ml : mg "len" = none) (m8 : mg "MOST_DEEDS" = some (.int 8 t8)) :
    FnOk P w K mg base CX0 (k + 3) f fd ["thing"] (spGood K .non) := by
  refine F.ok scFault (fun vs H Q E h => ?_) (fun cdv A outer s H vs Q E hr h => ?_)
  · obtain ⟨x, f, rfl, _⟩ := h
    rfl
  · obtain ⟨x, f, rfl, hx, go, q⟩ := h
    have nd := scFault.nd
    refine' ⟨_, pss_cons ?s1 (pss_cons ?s2 (pss_cons ?s3 (pss_cons ?s4 (pss_cons ?s5 (pss_cons ?s6 (pss_cons ?s7 (pss_cons ?s8 (pss_one ?s9)))))))), ?rd⟩
    case s1 => exact ps_if (PW.pt (pw_or (pt_not (pt_val (pe_isi "tuple" 0 mi m3 (by decide +kernel)))) (pw_or1 (pt_cmpR op_ne (pe_callB call_len_seq (by rfl) ml PySem.boot_len (pa_cons (pv 0) pa_nil)) pe_int (nomark _))))) pss_never pss_nil
    case s2 => exact ps_asg (pv 0) (pg_tup rfl (pgs_cons (pg_name (i := 1) nd rfl (.inl rfl)) (pgs_cons (pg_name (i := 2) nd rfl (.inl rfl)) pgs_nil)))
    case s3 => exact ps_if (PW.pt (pw_or (pt_not (pt_val (pe_isi "tuple" 1 mi m3 (by decide +kernel)))) (pw_or1 (pt_not (pt_chain op_le op_le pe_int (pe_callB call_len_seq (by rfl) ml PySem.boot_len (pa_cons (pv 1) pa_nil)) pe_int))))) pss_never pss_nil
    case s4 => exact ps_if (PW.pt (pw_or (pt_not (pt_val (pe_isi "tuple" 2 mi m3 (by decide +kernel)))) (pw_or1 (pt_not (pt_chain op_le op_le pe_int (pe_callB call_len_seq (by rfl) ml PySem.boot_len (pa_cons (pv 2) pa_nil)) (pe_glob (v := .int 8) rfl m8 ⟨_, rfl⟩)))))) pss_never pss_nil
    case s5 => exact ps_set (i := 3) nd rfl (.inl rfl) (hcall HH hr (pa_cons (pv 1) pa_nil))
    case s6 => exact ps_if (pt_cmpR op_notN (pv 3) pe_non (nomark _)) pss_never pss_nil
    case s7 => exact ps_set (i := 3) nd rfl (.inl rfl) (hcall HD hr (pa_cons (pv 2) (pa_cons (pv 1) pa_nil)))
    case s8 => exact ps_if (pt_cmpR op_notN (pv 3) pe_non (nomark _)) pss_never pss_nil
    case s9 => exact ps_ret pe_non
    case rd =>
    obtain ⟨p, ph, pd, xs, rfl, hp, hph, hpd, dd⟩ := dp_face hx
    have hl : xs.length = f.ds.length := by
      have := dpA_len dd
      rw [List.length_map] at this
      exact this
    refine ⟨_, rfl, "tuple", true, tyx_tup hp, by decide +kernel, _, rfl, iteF ⟨_, rfl, p, _, rfl, .inr hp, rfl, _, rfl, iteF ?_⟩⟩
    refine ⟨_, rfl, p, _, rfl, hp, rfl, _, _, rfl, _, _, rfl, rfl, ?_⟩
    refine ⟨_, rfl, "tuple", true, tyx_tup hph, by decide +kernel, _, rfl, iteF ⟨_, rfl, ph, _, rfl, .inr hph, 1, _, rfl, rfl, _, rfl, ?_⟩⟩
    have a1 := go.hid.lo
    have a2 := go.hid.hi
    have a3 := go.lo
    have a4 := go.hi
    rw [List.length_map, decide_eq_true (show (1 : Int) ≤ ((f.hd.length : Nat) : Int) by omega)]
    refine iteT ⟨_, 2, rfl, rfl, _, rfl, ?_⟩
    rw [decide_eq_true (show ((f.hd.length : Nat) : Int) ≤ 2 by omega)]
    refine iteF ⟨_, rfl, "tuple", true, tyx_tup hpd, by decide +kernel, _, rfl, iteF ⟨_, rfl, pd, _, rfl, .inr hpd, 1, _, rfl, rfl, _, rfl, ?_⟩⟩
    rw [hl, decide_eq_true (show (1 : Int) ≤ ((f.ds.length : Nat) : Int) by omega)]
    refine iteT ⟨_, 8, rfl, rfl, _, rfl, ?_⟩
    rw [decide_eq_true (show ((f.ds.length : Nat) : Int) ≤ 8 by omega)]
    refine iteF ⟨_, rfl, f.hd, ph, rfl, hph, go.hid.nm, go.hid.up, fun H1 g1 => ?_⟩
    refine ⟨_, rfl, rfl, _, rfl, iteF ?_⟩
    refine ⟨_, rfl, _, rfl, f.ds, f.hd, .ref pd, ph, rfl, .tup (g1.sqt hpd) (g1.kd.dpA dd), g1.sqt hph, go.up, go.ok, fun H2 g2 => ?_⟩
    exact ⟨_, rfl, rfl, _, rfl, iteF (q H2 (g1.trans g2))⟩
end
end SfC
namespace SfC
open PySem PySem.Spec PyProof.Rows L2 SfG
theorem scMixed : FnScope ["_law_cell", "_law_k"] ["_law_cell", "_law_k"] (defScope sMixed) := ⟨rfl, rfl, rfl, by decide +kernel, rfl, by decide +kernel, by decide +kernel⟩
theorem scDraw : FnScope ["_law_cell", "_law_k"] ["_law_cell", "_law_k"] (defScope sDraw) := ⟨rfl, rfl, rfl, by decide +kernel, rfl, by decide +kernel, by decide +kernel⟩
theorem scDigit : FnScope ["_law_state", "_law_many", "_law_j", "_law_found"] ["_law_state", "_law_many"] (defScope sDigit) := ⟨rfl, rfl, rfl, by decide +kernel, rfl, by decide +kernel, by decide +kernel⟩
section
variable {P : Program} {w : World} {K : PySem.W.Frag} {mg : Str → Option Value} {base : Heap}
/-! ### the draws -/
def spMixed : Sp := fun vs H Q _ => ∃ a b : Int, vs = [.int a, .int b] ∧ 0 ≤ b ∧ b ≤ 1000000000 ∧ ∀ r, 0 ≤ r → r < 2147483647 → Q (.int r) H
theorem ok_mixed {f : Addr} {fd : FuncData} {k : Nat} (F : Fun K "_law_mixed" "_law_mixed" sMixed f fd) : FnOk P w K mg base CX0 (k + 1) f fd ["_law_cell", "_law_k"] spMixed := by
  refine F.ok scMixed (fun vs H Q E h => ?_) (fun cdv A outer s H vs Q E hr h => ?_)
  · obtain ⟨a, b, rfl, _⟩ := h
    rfl
  · obtain ⟨a, b, rfl, hb0, hb1, q⟩ := h
    refine ⟨_, pss_cons (ps_set (i := 0) scMixed.nd rfl (.inl rfl) (pe_op op_add (pe_op op_add (pe_op op_mod (pv 0) pe_int) (pe_op op_mul pe_int (pv 1))) pe_int))
      (pss_one (ps_ret (pe_op op_mod (pe_op op_mul (pe_op op_mod (pe_op op_mul (pv 0) (pv 0)) pe_int) pe_int) pe_int))), ?_⟩
    refine ⟨_, rfl, a, 1000000007, rfl, rfl, (by show (0 : Int) < 1000000007; decide), _, rfl, 7919, b, rfl, rfl, .inl ⟨by decide, by decide⟩, _, _, rfl, rfl, _, _, rfl, rfl, ?_⟩
    refine ⟨_, rfl, _, rfl, _, _, rfl, rfl, .inl ⟨?_, ?_⟩, _, 1000000007, rfl, rfl, (by show (0 : Int) < 1000000007; decide), _, 48271, rfl, rfl, .inr ⟨by decide, by decide⟩, _, 2147483647, rfl, rfl, (by show (0 : Int) < 2147483647; decide), q _ ?_ ?_⟩
    · have : (-(2 ^ 64) : Int) = -18446744073709551616 := by decide
      rw [this]
      omega
    · have : ((2 ^ 64) : Int) = 18446744073709551616 := by decide
      rw [this]
      omega
    · exact Int.emod_nonneg _ (by decide)
    · exact Int.emod_lt_of_pos _ (by decide)
/-- the state of a draw -/
abbrev kLeft : Key := Sum.inr ("left" : Str)
abbrev kSeed : Key := Sum.inr ("seed" : Str)
abbrev kTurns : Key := Sum.inr ("turns" : Str)
def kv3 (l s t : Int) : List (Key × V) := [(kLeft, .int l), (kSeed, .int s), (kTurns, .int t)]
def Drw (H : Hp) (p : Addr) (B : Int) : Prop := ∃ l s t, H p = some (.dK (kv3 l s t)) ∧ 0 ≤ l ∧ 0 ≤ t ∧ t ≤ B
theorem kv_left (l s t : Int) : valV (kv3 l s t) kLeft = some (.int l) := rfl
theorem kv_seed (l s t : Int) : valV (kv3 l s t) kSeed = some (.int s) := rfl
theorem kv_turns (l s t : Int) : valV (kv3 l s t) kTurns = some (.int t) := rfl
theorem put_left (l s t l' : Int) : putK (kv3 l s t) kLeft (.int l') = kv3 l' s t := rfl
theorem put_turns (l s t t' : Int) : putK (kv3 l s t) kTurns (.int t') = kv3 l s t' := rfl
theorem get_left {H : Hp} {p : Addr} {l s t : Int} (h : H p = some (.dK (kv3 l s t))) : DGet H p (.str "left") (some (.int l)) := DGet.k (k := kLeft) h
theorem get_seed {H : Hp} {p : Addr} {l s t : Int} (h : H p = some (.dK (kv3 l s t))) : DGet H p (.str "seed") (some (.int s)) := DGet.k (k := kSeed) h
theorem get_turns {H : Hp} {p : Addr} {l s t : Int} (h : H p = some (.dK (kv3 l s t))) : DGet H p (.str "turns") (some (.int t)) := DGet.k (k := kTurns) h
theorem set_left {H : Hp} {p : Addr} {l s t l' : Int} (h : H p = some (.dK (kv3 l s t))) : DPut H p (.str "left") (.int l') (upd H p (.dK (kv3 l' s t))) := DPut.k (k := kLeft) h (by show 3 < sizeLine; decide)
theorem set_turns {H : Hp} {p : Addr} {l s t t' : Int} (h : H p = some (.dK (kv3 l s t))) : DPut H p (.str "turns") (.int t') (upd H p (.dK (kv3 l s t'))) := DPut.k (k := kTurns) h (by show 3 < sizeLine; decide)
theorem gr_new2 {H : Hp} {p : Addr} {o o' : HO} (h : H p = none) : Gr H (upd (upd H p o) p o') := by
  refine Gr.same ?_
  intro b x e
  have n : b ≠ p := ne_of_none e h
  rw [upd_ne n, upd_ne n]
  exact e
def spDraw : Sp := fun vs H Q _ => ∃ a b : Int, vs = [.int a, .int b] ∧ 0 ≤ b ∧ b ≤ 1000 ∧ ∀ H' p, H p = none → Gr H H' → Drw H' p b → Q (.ref p) H'
theorem ok_draw {f fM : Addr} {fd fdM : FuncData} (F : Fun K "_law_draw" "_law_draw" sDraw f fd) (FM : Fun K "_law_mixed" "_law_mixed" sMixed fM fdM) (bM : Binds K fdM ["_law_cell", "_law_k"] []) (gM : mg "_law_mixed" = some (.ref fM)) :
    FnOk P w K mg base CX0 2 f fd ["_law_cell", "_law_k"] spDraw := by
  have GM : FnOk P w K mg base CX0 1 fM fdM ["_law_cell", "_law_k"] spMixed := ok_mixed FM
  refine F.ok scDraw (fun vs H Q E h => ?_) (fun cdv A outer s H vs Q E hr h => ?_)
  · obtain ⟨a, b, rfl, _⟩ := h
    rfl
  · obtain ⟨a, b, rfl, hb0, hb1, q⟩ := h
    refine ⟨_, pss_one (ps_ret (pe_disp (pps_cons pe_str (pe_ifExp (pt_cmpR op_ge (pv 0) (pe_op op_pow pe_int pe_int) (nomark _)) (pv 0) pe_int)
      (pps_cons pe_str (pe_call GM hr (by rfl) gM FM.kp bM .nil pass0 (pa_cons (pv 0) (pa_cons (pv 1) pa_nil)))
      (pps_cons pe_str (pv 1) pps_nil))) (by rfl) (by rfl) (fun z => by cases z) (by decide))), ?_⟩
    intro p np
    have key : ∀ l : Int, 0 ≤ l → tPairs [(tC (V.str "seed"), tCall spMixed [] E0 (tCons (tVar 0) (tCons (tVar 1) tNil))), (tC (V.str "turns"), tVar 1)] (L2.start ["_law_cell", "_law_k"] [V.int a, V.int b]) (upd H p (.dK []))
        (fun ps H3 => H3 p = some (.dK []) ∧ ∃ kvs : List (Key × V), (V.str "left", V.int l) :: ps = kvs.map (fun kv => (kV kv.1, kv.2)) ∧ kvs.length ≤ 15 ∧ Q (.ref p) (upd H3 p (.dK (mergeK [] kvs)))) := by
      intro l hl
      refine ⟨_, rfl, _, rfl, a, b, rfl, hb0, by omega, ?_⟩
      intro r h0 h1
      refine ⟨_, rfl, upd_same, kv3 l r b, rfl, by show 3 ≤ 15; decide, ?_⟩
      refine q _ p np ?_ ⟨l, r, b, ?_, hl, hb0, Int.le_refl b⟩
      · exact gr_new2 np
      · rw [upd_same]
        rfl
    refine ⟨_, rfl, 10, 18, rfl, rfl, ⟨by decide, by decide, by decide⟩, _, _, rfl, rfl, _, rfl, ite2 (fun e => ?_) (fun e => ?_)⟩
    · have e' : a ≥ 10 ^ 18 := of_decide_eq_true e
      refine ⟨_, rfl, key a ?_⟩
      have : (0 : Int) ≤ 10 ^ 18 := by decide
      omega
    · exact key 0 (by decide)
def spDigit : Sp := fun vs H Q _ => ∃ (p : Addr) (m B : Int), vs = [.ref p, .int m] ∧ Drw H p B ∧ B ≤ 100000 ∧ 0 < m ∧ m ≤ 1000000000 ∧
  ∀ H' d, But p H H' → Drw H' p (B + 1) → 0 ≤ d → d < m → Q (.int d) H'
theorem ok_digit {f fM : Addr} {fd fdM : FuncData} (F : Fun K "_law_digit" "_law_digit" sDigit f fd) (FM : Fun K "_law_mixed" "_law_mixed" sMixed fM fdM) (bM : Binds K fdM ["_law_cell", "_law_k"] []) (gM : mg "_law_mixed" = some (.ref fM)) (mr : mg "range" = none) :
    FnOk P w K mg base CX0 2 f fd ["_law_state", "_law_many"] spDigit := by
  have GM : FnOk P w K mg base CX0 1 fM fdM ["_law_cell", "_law_k"] spMixed := ok_mixed FM
  refine F.ok scDigit (fun vs H Q E h => ?_) (fun cdv A outer s H vs Q E hr h => ?_)
  · obtain ⟨p, m, B, rfl, _⟩ := h
    rfl
  · obtain ⟨p, m, B, rfl, ⟨l, sd, t, hp, hl, ht, htB⟩, hB, hm0, hm1, q⟩ := h
    refine ⟨_, pss_cons (ps_if (pt_cmpR op_eq (pe_dget (hu_of hr) (pv 0) pe_str (fun _ _ => rfl)) pe_int (nomark _))
        (pss_cons (ps_dput (hu_of hr) (pv 0) pe_str (pe_op op_add (pe_dget (hu_of hr) (pv 0) pe_str (fun _ _ => rfl)) pe_int) rfl)
        (pss_one (ps_for PassesOwn.never rfl (pi_range1 rfl mr (pa_cons pe_int pa_nil)) (pg_name (i := 2) scDigit.nd rfl (Or.inl rfl))
          (pss_one (ps_dput (hu_of hr) (pv 0) pe_str (pe_op op_add (pe_op op_mul (pe_dget (hu_of hr) (pv 0) pe_str (fun _ _ => rfl)) pe_int)
            (pe_call GM hr (by rfl) gM FM.kp bM .nil pass0 (pa_cons (pe_dget (hu_of hr) (pv 0) pe_str (fun _ _ => rfl)) (pa_cons (pe_op op_add (pe_op op_mul pe_int (pe_dget (hu_of hr) (pv 0) pe_str (fun _ _ => rfl))) (pv 2)) pa_nil)))) rfl))))) pss_nil)
      (pss_cons (ps_set (i := 3) scDigit.nd rfl (.inl rfl) (pe_op op_mod (pe_dget (hu_of hr) (pv 0) pe_str (fun _ _ => rfl)) (pv 1)))
      (pss_cons (ps_dput (hu_of hr) (pv 0) pe_str (pe_op op_fdivW (pe_dget (hu_of hr) (pv 0) pe_str (fun _ _ => rfl)) (pv 1)) rfl)
      (pss_one (ps_ret (pv 3))))), ?_⟩
    -- what follows the if
    have tail : ∀ (H1 : Hp) (l1 s1 t1 : Int) (y2 y3 : Option V), But p H H1 → H1 p = some (.dK (kv3 l1 s1 t1)) → 0 ≤ l1 → 0 ≤ t1 → t1 ≤ B + 1 →
        tSeq (tAsg (tOp (rI (fun _ j => 0 < j) fun i j => .int (i % j)) (tDGet (tVar 0) (tC (.str "left"))) (tVar 1)) (gName 3))
          (tSeq (sDPut (tVar 0) (tC (.str "left")) (tOp (rI CDivW fun i j => .int (i / j)) (tDGet (tVar 0) (tC (.str "left"))) (tVar 1))) (tRet (tVar 3)))
          { nx := fun _ H' => Q .non H', rt := Q } [some (.ref p), some (.int m), y2, y3] H1 := by
      intro H1 l1 s1 t1 y2 y3 hb h1 hl1 ht1 htb
      refine ⟨_, rfl, p, _, rfl, get_left h1, _, rfl, l1, m, rfl, rfl, hm0, ?_⟩
      refine ⟨_, rfl, p, _, rfl, get_left h1, _, rfl, l1, m, rfl, rfl, wide_div (b := 40) hm0 ?_ (by decide) (by decide), _, rfl, p, _, rfl, set_left h1, _, rfl, q _ _ hb.upd ⟨l1 / m, s1, t1, upd_same, ?_, ht1, htb⟩ ?_ ?_⟩
      · have : (2 : Nat) ^ 40 = 1099511627776 := by decide
        rw [this]
        omega
      · exact Int.ediv_nonneg hl1 (by omega)
      · exact Int.emod_nonneg _ (by omega)
      · exact Int.emod_lt_of_pos _ hm0
    refine ⟨_, rfl, p, _, rfl, get_left hp, rfl, _, rfl, ite2 (fun e => ?_) (fun e => ?_)⟩
    · -- state['turns'] = state['turns'] + 1
      refine ⟨_, rfl, p, _, rfl, get_turns hp, t, 1, rfl, rfl, _, rfl, p, _, rfl, set_turns hp, ?_⟩
      refine ⟨4, rfl, by decide, by decide, for_range (n := 4) (fun i σ H1 => ∃ (l1 : Int) (y2 : Option V), σ = [some (.ref p), some (.int m), y2, none] ∧ But p H H1 ∧ H1 p = some (.dK (kv3 l1 sd (t + 1))) ∧ 0 ≤ l1) ?_ ?_ ?_⟩
      · exact ⟨l, none, rfl, But.upd (fun _ _ => rfl), upd_same, hl⟩
      · rintro i σ H1 hi ⟨l1, y2, rfl, hb, h1, hl1⟩
        refine ⟨_, rfl, p, _, rfl, get_left h1, l1, 2147483647, rfl, rfl, .inr ⟨by decide, by decide⟩, ?_⟩
        refine ⟨_, rfl, p, _, rfl, get_seed h1, _, rfl, p, _, rfl, get_turns h1, 4, t + 1, rfl, rfl, .inl ⟨by decide, by decide⟩, _, rfl, _, _, rfl, rfl, sd, _, rfl, by omega, by omega, ?_⟩
        intro r h0 hr1
        refine ⟨_, _, rfl, rfl, _, rfl, p, _, rfl, set_left h1, _, _, rfl, hb.upd, upd_same, ?_⟩
        have : 0 ≤ l1 * 2147483647 := Int.mul_nonneg hl1 (by decide)
        omega
      · rintro σ H1 ⟨l1, y2, rfl, hb, h1, hl1⟩
        exact tail H1 l1 sd (t + 1) y2 none hb h1 hl1 (by omega) (by omega)
    · exact tail H l sd t none none (fun _ _ => rfl) hp hl ht (by omega)
end
end SfC
namespace SfC
open PySem PySem.Spec PyProof.Rows L2 SfG
theorem Drw.gr {H H' : Hp} {p : Addr} {B : Int} (d : Drw H p B) (g : Gr H H') : Drw H' p B := by
  obtain ⟨l, s, t, h, r⟩ := d
  exact ⟨l, s, t, g.dic h, r⟩
theorem Drw.ne {H : Hp} {p q : Addr} {B : Int} (d : Drw H p B) (h : H q = none) : q ≠ p := by
  obtain ⟨l, s, t, e, _⟩ := d
  intro z
  rw [z, e] at h
  cases h
theorem Drw.new {H : Hp} {p q : Addr} {B : Int} {o : HO} (d : Drw H p B) (h : H q = none) : Drw (upd H q o) p B := d.gr (Gr.new h)
theorem Drw.mono {H : Hp} {p : Addr} {B B' : Int} (d : Drw H p B) (h : B ≤ B') : Drw H p B' := by
  obtain ⟨l, s, t, e, h1, h2, h3⟩ := d
  exact ⟨l, s, t, e, h1, h2, Int.le_trans h3 h⟩
theorem Drw.upd {H : Hp} {p q : Addr} {B : Int} {o : HO} (d : Drw H p B) (h : q ≠ p) : Drw (upd H q o) p B := by
  obtain ⟨l, s, t, e, r⟩ := d
  exact ⟨l, s, t, (upd_ne (Ne.symm h)).trans e, r⟩
theorem small1000 {n : Nat} (h : n ≤ 1000) : n < sizeLine := by
  rw [sizeLine_eq]
  omega
/-! ### order -/
theorem lt_tri : ∀ a b : List Nat, a < b ∨ a = b ∨ b < a
  | [], [] => .inr (.inl rfl)
  | [], b :: t => .inl (List.nil_lt_cons b t)
  | a :: r, [] => .inr (.inr (List.nil_lt_cons a r))
  | a :: r, b :: t => by
    rcases Nat.lt_trichotomy a b with h | h | h
    · exact .inl (List.cons_lt_cons_iff.mpr (.inl h))
    · subst h
      rcases lt_tri r t with h | h | h
      · exact .inl (List.cons_lt_cons_iff.mpr (.inr ⟨rfl, h⟩))
      · exact .inr (.inl (by rw [h]))
      · exact .inr (.inr (List.cons_lt_cons_iff.mpr (.inr ⟨rfl, h⟩)))
    · exact .inr (.inr (List.cons_lt_cons_iff.mpr (.inl h)))
theorem lt_trans' {a b c : Str} (h1 : lt a b) (h2 : lt b c) : lt a c := List.lt_trans h1 h2
theorem str_ext {a b : Str} (h : a.cps.toList = b.cps.toList) : a = b := by
  cases a
  cases b
  simp at h
  rw [h]
theorem rise : ∀ (r : List Str) (p : Str), risingS p r = true → (p :: r).Nodup → (p :: r).Pairwise lt
  | [], p, _, _ => by simp
  | x :: t, p, h, nd => by
    unfold risingS at h
    rw [Bool.and_eq_true, Bool.not_eq_true', ltCps_eq] at h
    have ih := rise t x h.2 (List.nodup_cons.mp nd).2
    have np : p ≠ x := fun e => (List.nodup_cons.mp nd).1 (by rw [e]; exact List.mem_cons_self)
    have l1 : lt p x := by
      rcases lt_tri p.cps.toList x.cps.toList with h1 | h1 | h1
      · exact h1
      · exact absurd (str_ext h1) np
      · have z := h.1
        rw [decide_eq_true h1] at z
        cases z
    refine List.pairwise_cons.mpr ⟨fun y hy => ?_, ih⟩
    rcases List.mem_cons.mp hy with rfl | hy
    · exact l1
    · exact lt_trans' l1 ((List.pairwise_cons.mp ih).1 y hy)
theorem sorted_up {ys xs : List Str} (h : sortedS ys = true) (p : ys.Perm xs) (nd : xs.Nodup) : ys.Pairwise lt := by
  have ndy : ys.Nodup := p.nodup_iff.mpr nd
  cases ys with
  | nil => exact List.Pairwise.nil
  | cons a r => exact rise r a h ndy
/-! ### texts of letters -/
theorem joinL_mem {ls : List (List Nat)} {c : Nat} (h : c ∈ TL.joinL [] ls) : ∃ l ∈ ls, c ∈ l := by
  induction ls with
  | nil => cases h
  | cons p r ih =>
    cases r with
    | nil => exact ⟨p, List.mem_cons_self, h⟩
    | cons q r =>
      have h' : c ∈ p ++ ([] ++ TL.joinL [] (q :: r)) := h
      rcases List.mem_append.mp h' with h1 | h1
      · exact ⟨p, List.mem_cons_self, h1⟩
      · obtain ⟨l, hl, hc⟩ := ih (by simpa using h1)
        exact ⟨l, List.mem_cons_of_mem _ hl, hc⟩
theorem joinL_len {ls : List (List Nat)} (h : ∀ l ∈ ls, l.length = 1) : (TL.joinL [] ls).length = ls.length := by
  induction ls with
  | nil => rfl
  | cons p r ih =>
    have hp := h p List.mem_cons_self
    have hr := ih fun l hl => h l (List.mem_cons_of_mem _ hl)
    cases r with
    | nil => exact hp
    | cons q r =>
      show (p ++ ([] ++ TL.joinL [] (q :: r))).length = _
      rw [List.length_append, List.nil_append, hr, hp]
      simp
      omega
abbrev nought : Str := ""
theorem len_list (z : Str) : z.length = z.cps.toList.length := by simp [Str.length]
/-- one letter -/
def one (y : Str) : Prop := ∃ c, y = ⟨#[c]⟩ ∧ isLet c = true
theorem join_name {acc : List Str} (h : ∀ y ∈ acc, one y) (h1 : 1 ≤ acc.length) (h8 : acc.length ≤ 8) : isN (Txt.join nought acc) = true := by
  have hl : (Txt.join nought acc).length = acc.length := by
    have e : (TL.tl (Txt.join nought acc)).length = acc.length := by
      rw [TL.join_eq, TL.tl_join]
      rw [show TL.tl nought = [] from rfl, joinL_len, List.length_map]
      intro l hl
      obtain ⟨y, hy, rfl⟩ := List.mem_map.mp hl
      obtain ⟨c, rfl, _⟩ := h y hy
      rfl
    rw [len_list]
    exact e
  unfold isN
  rw [hl, decide_eq_true h8, decide_eq_true h1]
  refine List.all_eq_true.mpr fun c hc => ?_
  have hc' : c ∈ TL.tl (Str.join nought acc) := by
    rw [← TL.join_eq]
    exact hc
  rw [TL.tl_join] at hc'
  obtain ⟨l, hl', hcl⟩ := joinL_mem hc'
  obtain ⟨y, hy, rfl⟩ := List.mem_map.mp hl'
  obtain ⟨d, rfl, hd⟩ := h y hy
  have e : c = d := by simpa [TL.tl] using hcl
  rw [e]
  exact hd
theorem sum_ones : ∀ {acc : List Str}, (∀ y ∈ acc, y.length = 1) → (acc.map (·.length)).sum = acc.length
  | [], _ => rfl
  | a :: r, h => by
    rw [List.map_cons, List.sum_cons, h a List.mem_cons_self, sum_ones fun y hy => h y (List.mem_cons_of_mem _ hy), List.length_cons]
    omega
theorem letter_at {d : Int} (h0 : 0 ≤ d) (h1 : d < 26) : ∃ c, letters.cps[d.toNat]? = some c ∧ isLet c = true := by
  have e : ∀ n : Nat, n < 26 → ∃ c, letters.cps[n]? = some c ∧ isLet c = true := by
    intro n hn
    have hs : letters.cps.size = 26 := by decide +kernel
    refine ⟨letters.cps[n]'(by omega), by simp [show n < letters.cps.size by omega], ?_⟩
    unfold isLet
    exact decide_eq_true (by simp)
  exact e d.toNat (by omega)
theorem inV_not {s : Str} {l : List Str} : inV (.str s) (l.map V.str) = decide (s ∈ l) := by
  by_cases h : s ∈ l
  · rw [decide_eq_true h]
    exact inV_mem h
  · rw [decide_eq_false h]
    unfold inV
    rw [List.any_map]
    refine List.any_eq_false.mpr fun y hy => ?_
    simp [eqV]
    intro e
    exact h (e ▸ hy)
/-! ### _law_names -/
abbrev nNames : List Str := ["_law_state", "_law_many", "_law_found", "_law_k", "_law_signs", "_law_word", "_law_j"]
theorem seven {W : Str} {d : Int} (hW : isN W = true) (h0 : 0 ≤ d) (h7 : d < 7) : ∃ z, atI [V.str W, .str "a", .str "b", .str "ab", .str "ba", .str "abc", .str "hidden"] d = some (.str z) ∧ isN z = true := by
  have c : d = 0 ∨ d = 1 ∨ d = 2 ∨ d = 3 ∨ d = 4 ∨ d = 5 ∨ d = 6 := by omega
  rcases c with rfl | rfl | rfl | rfl | rfl | rfl | rfl
  · exact ⟨W, rfl, hW⟩
  all_goals exact ⟨_, rfl, by decide +kernel⟩
section
variable {P : Program} {w : World} {K : PySem.W.Frag} {mg : Str → Option Value} {base : Heap}
def spNames : Sp := fun vs H Q _ => ∃ (p : Addr) (m : Nat) (B : Int), vs = [.ref p, .int m] ∧ 1 ≤ m ∧ m ≤ 8 ∧ Drw H p B ∧ 0 ≤ B ∧ B ≤ 90000 ∧
  ∀ H' l (ys : List Str), Gp p H H' → Drw H' p (B + 160) → H l = none → H' l = some (.lst (ys.map V.str)) → ys.Pairwise lt → (∀ z ∈ ys, isN z = true) → 1 ≤ ys.length → ys.length ≤ m → Q (.ref l) H'
end
end SfC
namespace SfC
open PySem PySem.Spec PyProof.Rows L2 SfG
theorem dpA_app {K : PySem.W.Frag} {H : Hp} : ∀ {xs ys : List V} {ds es : List PyData}, DpAll K H xs ds → DpAll K H ys es → DpAll K H (xs ++ ys) (ds ++ es)
  | [], _, _, _, h, h2 => by cases h; exact h2
  | _ :: _, _, _, _, h, h2 => by
    cases h with
    | cons a b => exact .cons a (dpA_app b h2)
theorem sqt_lst {K : PySem.W.Frag} {H : Hp} {l a : Addr} {xs ys zs : List V} (hl : H l = some (.lst xs)) (h : SqT K H a ys) : SqT K (upd H l (.lst zs)) a ys := by
  rcases h with (h | ⟨o, h⟩) | h
  · refine .inl (.inl ?_)
    rw [upd_ne (by intro z; rw [z, hl] at h; cases h)]
    exact h
  · refine .inl (.inr ⟨o, ?_⟩)
    rw [upd_ne (by intro z; rw [z, hl] at h; cases h)]
    exact h
  · exact .inr h
end SfC
namespace SfC
open PySem PySem.Spec PyProof.Rows L2 SfG
abbrev nLKind : List Str := ["_law_state", "_law_hidden", "_law_own"]
theorem kind_at {hd : List Str} {own : Int} (h2 : 2 ≤ own) (h9 : own ≤ 9) {v : V} (hv : v ∈ (hd.map V.str ++ hd.map V.str) ++ [V.int 2, .int 9, .int own]) : ∃ k : Kn, goK hd k ∧ v = k.v := by
  rcases List.mem_append.mp hv with h | h
  · have h' : v ∈ hd.map V.str := by
      rcases List.mem_append.mp h with h | h <;> exact h
    obtain ⟨z, hz, rfl⟩ := List.mem_map.mp h'
    exact ⟨.h z, hz, rfl⟩
  · have h' : v = .int 2 ∨ v = .int 9 ∨ v = .int own := by simpa using h
    rcases h' with rfl | rfl | rfl
    · exact ⟨.p 2, ⟨by decide, by decide⟩, rfl⟩
    · exact ⟨.p 9, ⟨by decide, by decide⟩, rfl⟩
    · exact ⟨.p own, ⟨h2, h9⟩, rfl⟩
section
variable {P : Program} {w : World} {K : PySem.W.Frag} {mg : Str → Option Value} {base : Heap}
theorem Drw.kd {H H' : Hp} {p : Addr} {B : Int} (d : Drw H p B) (g : Gp p H H') : Kd K H H' := by
  obtain ⟨l, s, t, e, _⟩ := d
  exact g.kd e
def spLKind (K : PySem.W.Frag) : Sp := fun vs H Q _ => ∃ (p ph : Addr) (hd : List Str) (B : Int), vs = [.ref p, .ref ph] ∧ SqT K H ph (hd.map V.str) ∧ hd.length ≤ 2 ∧ Drw H p B ∧ 0 ≤ B ∧ B ≤ 90000 ∧
  ∀ H' (k : Kn), Gp p H H' → Drw H' p (B + 2) → goK hd k → Q k.v H'
end
/-! ### a list that is changed: what deeds are stays -/
theorem de_lst {K : PySem.W.Frag} {H : Hp} {l : Addr} {xs zs : List V} {x : V} {e : De} (hl : H l = some (.lst xs)) (h : Dp K H x e.d) : Dp K (upd H l (.lst zs)) x e.d := by
  obtain ⟨p, a, b, c, rfl, hp, ha, hb, hc⟩ := dp_3 h
  cases dp_str ha
  cases dp_kn hc
  obtain ⟨pt, ts, rfl, hpt, hts⟩ := dp_tup hb
  cases dpA_kns hts
  refine .tup (sqt_lst hl hp) (.cons (.str _) (.cons (.tup (sqt_lst hl hpt) ?_) (.cons ?_ .nil)))
  · generalize e.tk = l'
    induction l' with
    | nil => exact .nil
    | cons k r ih =>
      refine .cons ?_ ih
      cases k with
      | h s => exact .str s
      | p n => exact .int n
  · generalize e.gv = k
    cases k with
    | h s => exact .str s
    | p n => exact .int n
theorem des_lst {K : PySem.W.Frag} {H : Hp} {l : Addr} {xs zs : List V} (hl : H l = some (.lst xs)) : ∀ {es : List De} {ys : List V}, DpAll K H ys (es.map De.d) → DpAll K (upd H l (.lst zs)) ys (es.map De.d)
  | [], _, h => by
    cases h
    exact .nil
  | e :: r, _, h => by
    obtain ⟨x, t, rfl, hx, ht⟩ := dpA_cons h
    exact .cons (de_lst hl hx) (des_lst hl ht)
theorem dp_kv {K : PySem.W.Frag} {H : Hp} (k : Kn) : Dp K H k.v k.d := by
  cases k with
  | h s => exact .str s
  | p n => exact .int n
theorem dpA_kv {K : PySem.W.Frag} {H : Hp} : ∀ l : List Kn, DpAll K H (l.map Kn.v) (l.map Kn.d)
  | [] => .nil
  | k :: r => .cons (dp_kv k) (dpA_kv r)
theorem dpA_sv {K : PySem.W.Frag} {H : Hp} : ∀ l : List Str, DpAll K H (l.map V.str) (l.map PyData.str)
  | [] => .nil
  | k :: r => .cons (.str k) (dpA_sv r)
theorem flat_kn (k : Kn) : flatV k.v = true := by
  cases k <;> rfl
theorem in_kn {hd : List Str} {k : Kn} (h : goK hd k) : inV k.v (hd.map V.str) = k.isH := by
  cases k with
  | h s => exact inV_mem h
  | p n =>
    show inV (.int n) (hd.map V.str) = false
    unfold inV
    rw [List.any_map]
    exact List.any_eq_false.mpr fun y hy => by simp [eqV]
end SfC
namespace SfC
open PySem PySem.Spec PyProof.Rows L2 SfG
abbrev nFace : List Str := ["_law_state", "_law_most", "_law_hidden", "_law_deeds", "_law_name", "_law_takes", "_law_k", "_law_kind_here", "_law_own", "_law_one"]
section
variable {P : Program} {w : World} {K : PySem.W.Frag} {mg : Str → Option Value} {base : Heap}
def spFace (K : PySem.W.Frag) : Sp := fun vs H Q _ => ∃ (p : Addr) (m : Nat) (B : Int), vs = [.ref p, .int m] ∧ 1 ≤ m ∧ m ≤ 8 ∧ Drw H p B ∧ 0 ≤ B ∧ B ≤ 80000 ∧
  ∀ H' v f, Gp p H H' → Drw H' p (B + 500) → Dp K H' v (Fc.d f) → goF f → Q v H'
end
end SfC
namespace SfC
open PySem PySem.Spec PyProof.Rows L2 SfG
/-! ### words and rows of a face's text -/
abbrev blank : Str := " "
abbrev feed : Str := "\n"
abbrev colon : Str := ":"
def kS : Kn → Str
  | .h s => s
  | .p n => ⟨#[48 + n.toNat]⟩
/-- a word: not empty, neither blanks nor line feeds -/
def clean (z : Str) : Prop := 1 ≤ z.length ∧ z.length ≤ 8 ∧ ∀ c ∈ z.cps.toList, c ≠ 32 ∧ c ≠ 10
theorem let_not : ∀ c, c < 128 → isLet c = true → c ≠ 32 ∧ c ≠ 10 := by decide +kernel
theorem clean_name {z : Str} (h : isN z = true) : clean z := by
  obtain ⟨h8, h1, _, _, _, hl⟩ := isN_txt h
  refine ⟨h1, h8, fun c hc => ?_⟩
  have hlc := List.all_eq_true.mp hl c hc
  exact let_not c (let_range hlc) hlc
theorem digit_str : ∀ n : Nat, n < 10 → ((toString (n : Int) : String) : Str) = ⟨#[48 + n]⟩ := by decide +kernel
theorem str_kind {n : Int} (h2 : 2 ≤ n) (h9 : n ≤ 9) : ((toString n : String) : Str) = kS (.p n) := by
  have e := digit_str n.toNat (by omega)
  rw [Int.toNat_of_nonneg (by omega)] at e
  exact e
theorem clean_kind {hd : List Str} (hn : ∀ z ∈ hd, isN z = true) {k : Kn} (h : goK hd k) : clean (kS k) := by
  cases k with
  | h s => exact clean_name (hn s h)
  | p n =>
    obtain ⟨h2, h9⟩ := h
    refine ⟨Nat.le_refl 1, (by show 1 ≤ 8; decide), fun c hc => ?_⟩
    have e : c = 48 + n.toNat := by simpa [kS] using hc
    omega
theorem clean_colon : clean colon := by unfold clean; decide +kernel
def wsD (e : De) : List Str := e.nm :: (e.tk.map kS ++ [colon, kS e.gv])
def wsH (hd : List Str) : List Str := ("hidden" : Str) :: hd
def rowD (e : De) : Str := Txt.join blank (wsD e)
def rowH (hd : List Str) : Str := Txt.join blank (wsH hd)
def rowsF (f : Fc) : List Str := rowH f.hd :: f.ds.map rowD
def textF (f : Fc) : Str := Txt.join feed (rowsF f)
theorem clean_wsD {hd : List Str} (hn : ∀ z ∈ hd, isN z = true) {e : De} (g : goD hd e) : ∀ z ∈ wsD e, clean z := by
  intro z hz
  rcases List.mem_cons.mp hz with rfl | hz
  · exact clean_name g.nm
  · rcases List.mem_append.mp hz with h | h
    · obtain ⟨k, hk, rfl⟩ := List.mem_map.mp h
      exact clean_kind hn (g.tk k hk)
    · have h' : z = colon ∨ z = kS e.gv := by simpa using h
      rcases h' with rfl | rfl
      · exact clean_colon
      · exact clean_kind hn g.gv
theorem clean_wsH {hd : List Str} (hn : ∀ z ∈ hd, isN z = true) : ∀ z ∈ wsH hd, clean z := by
  intro z hz
  rcases List.mem_cons.mp hz with rfl | hz
  · unfold clean
    decide +kernel
  · exact clean_name (hn z hz)
theorem tl_blank : TL.tl blank = [32] := by decide +kernel
theorem tl_feed : TL.tl feed = [10] := by decide +kernel
theorem split_words {ws : List Str} (hne : ws ≠ []) (h : ∀ z ∈ ws, clean z) : Txt.split (Txt.join blank ws) blank = ws :=
  TL.split_join (s := 32) (S := []) tl_blank (by decide +kernel) hne fun p hp e => ((h p hp).2.2 32 e).1 rfl
theorem joinL_in {S : List Nat} {c : Nat} : ∀ {ls : List (List Nat)}, c ∈ TL.joinL S ls → c ∈ S ∨ ∃ l ∈ ls, c ∈ l
  | [], h => by cases h
  | [p], h => .inr ⟨p, List.mem_cons_self, h⟩
  | p :: q :: r, h => by
    have h' : c ∈ p ++ (S ++ TL.joinL S (q :: r)) := h
    rcases List.mem_append.mp h' with h1 | h1
    · exact .inr ⟨p, List.mem_cons_self, h1⟩
    · rcases List.mem_append.mp h1 with h2 | h2
      · exact .inl h2
      · rcases joinL_in h2 with h3 | ⟨l, hl, hc⟩
        · exact .inl h3
        · exact .inr ⟨l, List.mem_cons_of_mem _ hl, hc⟩
theorem row_feed {ws : List Str} (h : ∀ z ∈ ws, clean z) : 10 ∉ TL.tl (Txt.join blank ws) := by
  intro hc
  rw [TL.join_eq, TL.tl_join, tl_blank] at hc
  rcases joinL_in hc with h1 | ⟨l, hl, hc⟩
  · simp at h1
  · obtain ⟨z, hz, rfl⟩ := List.mem_map.mp hl
    exact ((h z hz).2.2 10 hc).2 rfl
theorem split_rows {rws : List Str} (hne : rws ≠ []) (h : ∀ z ∈ rws, 10 ∉ TL.tl z) : Txt.split (Txt.join feed rws) feed = rws :=
  TL.split_join (s := 10) (S := []) tl_feed (by decide +kernel) hne h
theorem joinL_length {S : List Nat} {m : Nat} (hS : S.length = 1) : ∀ {ls : List (List Nat)}, (∀ l ∈ ls, l.length ≤ m) → (TL.joinL S ls).length ≤ ls.length * (m + 1)
  | [], _ => by simp [TL.joinL]
  | [p], h => by
    have := h p List.mem_cons_self
    show p.length ≤ 1 * (m + 1)
    omega
  | p :: q :: r, h => by
    have h1 := h p List.mem_cons_self
    have h2 := joinL_length hS (ls := q :: r) fun l hl => h l (List.mem_cons_of_mem _ hl)
    show (p ++ (S ++ TL.joinL S (q :: r))).length ≤ _
    rw [List.length_append, List.length_append, hS]
    rw [List.length_cons, Nat.succ_mul]
    omega
theorem join_len (y : Str) (hy : y.length = 1) {m : Nat} {ws : List Str} (h : ∀ z ∈ ws, z.length ≤ m) : (Txt.join y ws).length ≤ ws.length * (m + 1) := by
  have hS : (TL.tl y).length = 1 := by
    rw [← hy, len_list]
  have := joinL_length (m := m) hS (ls := ws.map TL.tl) fun l hl => by
    obtain ⟨z, hz, rfl⟩ := List.mem_map.mp hl
    have := h z hz
    rw [len_list] at this
    exact this
  rw [List.length_map, ← TL.tl_join, ← TL.join_eq] at this
  rw [len_list]
  exact this
theorem row_len {ws : List Str} (h : ∀ z ∈ ws, clean z) : (Txt.join blank ws).length ≤ ws.length * 9 := join_len blank (by decide +kernel) fun z hz => (h z hz).2.1
theorem wsD_len {hd : List Str} {e : De} (g : goD hd e) : (wsD e).length ≤ 6 := by
  unfold wsD
  rw [List.length_cons, List.length_append, List.length_map]
  have := g.len
  show e.tk.length + 2 + 1 ≤ 6
  omega
theorem wsH_len {hd : List Str} (g : goH hd) : (wsH hd).length ≤ 3 := by
  have := g.hi
  show hd.length + 1 ≤ 3
  omega
/-! ### texts put together -/
theorem tl_inj {a b : Str} (h : TL.tl a = TL.tl b) : a = b := str_ext h
theorem tl_app (a b : Str) : TL.tl (a ++ b) = TL.tl a ++ TL.tl b := TL.tl_append a b
theorem joinL_snoc (S : List Nat) (x : List Nat) : ∀ (ls : List (List Nat)), ls ≠ [] → TL.joinL S (ls ++ [x]) = TL.joinL S ls ++ (S ++ x)
  | [], h => absurd rfl h
  | [p], _ => rfl
  | p :: q :: r, _ => by
    show p ++ (S ++ TL.joinL S ((q :: r) ++ [x])) = (p ++ (S ++ TL.joinL S (q :: r))) ++ (S ++ x)
    rw [joinL_snoc S x (q :: r) (by simp)]
    simp [List.append_assoc]
theorem join_snoc (y x : Str) {ws : List Str} (h : ws ≠ []) : Txt.join y (ws ++ [x]) = (Txt.join y ws ++ y) ++ x := by
  refine tl_inj ?_
  rw [tl_app, tl_app, TL.join_eq, TL.join_eq, TL.tl_join, TL.tl_join, List.map_append]
  show TL.joinL (TL.tl y) (ws.map TL.tl ++ [TL.tl x]) = _
  rw [joinL_snoc _ _ _ (by simpa using h), List.append_assoc]
theorem join_one (y x : Str) : Txt.join y [x] = x := by
  refine tl_inj ?_
  rw [TL.join_eq, TL.tl_join]
  rfl
theorem three : ((blank ++ colon) ++ blank : Str) = " : " := by decide +kernel
theorem app_assoc (a b c : Str) : (a ++ b) ++ c = a ++ (b ++ c) := by
  refine tl_inj ?_
  simp [tl_app, List.append_assoc]
/-- a row of a deed, as the law writes it -/
theorem rowD_eq (e : De) : rowD e = (Txt.join blank (e.nm :: e.tk.map kS) ++ (" : " : Str)) ++ kS e.gv := by
  unfold rowD wsD
  rw [show e.nm :: (e.tk.map kS ++ [colon, kS e.gv]) = ((e.nm :: e.tk.map kS) ++ [colon]) ++ [kS e.gv] by simp]
  rw [join_snoc _ _ (by simp), join_snoc _ _ (by simp), ← three]
  simp [app_assoc]
end SfC
namespace SfC
open PySem PySem.Spec PyProof.Rows L2 SfG
/-! ### the small defs that readers call -/
theorem scNextN : FnScope ["thing", "ahead"] ["thing", "ahead"] (defScope sNextN) := ⟨rfl, rfl, rfl, by decide +kernel, rfl, by decide +kernel, by decide +kernel⟩
theorem scFigs : FnScope ["word", "most"] ["word", "most"] (defScope sFigs) := ⟨rfl, rfl, rfl, by decide +kernel, rfl, by decide +kernel, by decide +kernel⟩
theorem scNum : FnScope ["word"] ["word"] (defScope sNum) := ⟨rfl, rfl, rfl, by decide +kernel, rfl, by decide +kernel, by decide +kernel⟩
theorem scWords : FnScope ["row", "words"] ["row"] (defScope sWords) := ⟨rfl, rfl, rfl, by decide +kernel, rfl, by decide +kernel, by decide +kernel⟩
theorem scAreT : FnScope ["thing", "hidden"] ["thing", "hidden"] (defScope sAreT) := ⟨rfl, rfl, rfl, by decide +kernel, rfl, by decide +kernel, by decide +kernel⟩
theorem scKindBy : FnScope ["word", "number"] ["word"] (defScope sKindBy) := ⟨rfl, rfl, rfl, by decide +kernel, rfl, by decide +kernel, by decide +kernel⟩
theorem scRowsOf : FnScope ["text"] ["text"] (defScope sRowsOf) := ⟨rfl, rfl, rfl, by decide +kernel, rfl, by decide +kernel, by decide +kernel⟩
theorem scNoMore : FnScope ["rows", "most"] ["rows", "most"] (defScope sNoMore) := ⟨rfl, rfl, rfl, by decide +kernel, rfl, by decide +kernel, by decide +kernel⟩
theorem let_digit : ∀ c, c < 128 → isLet c = true → Unicode.isDigit c = false := by decide +kernel
theorem name_digit {z : Str} (h : isN z = true) : Txt.isdigit z = false := by
  obtain ⟨_, h1, _, _, _, hl⟩ := isN_txt h
  unfold Txt.isdigit
  rw [← Array.all_toList]
  cases hc : z.cps.toList with
  | nil =>
    rw [len_list, hc] at h1
    exact absurd h1 (by simp)
  | cons a r =>
    rw [hc] at hl
    have ha := List.all_eq_true.mp hl a List.mem_cons_self
    rw [List.all_cons, let_digit a (let_range ha) ha]
    simp
theorem fig_txt : ∀ n : Nat, n < 10 → Txt.isdigit ⟨#[48 + n]⟩ = true ∧ Txt.isascii ⟨#[48 + n]⟩ = true ∧ PySem.intText? ⟨#[48 + n]⟩ = some (n : Int) := by decide +kernel
section
variable {P : Program} {w : World} {K : PySem.W.Frag} {mg : Str → Option Value} {base : Heap}
def spNextN : Sp := fun vs H Q _ => ∃ z a : Str, vs = [.str z, .str a] ∧ isN z = true ∧ lt a z ∧ Q (.bl true) H
theorem ok_nextN {f fN : Addr} {fd fdN : FuncData} {k : Nat} (F : Fun K "is_next_name" "is_next_name" sNextN f fd) (HN : Has P w K mg base (k + 1) "is_name" ["thing"] spName fN fdN) : FnOk P w K mg base CX0 (k + 2) f fd ["thing", "ahead"] spNextN := by
  refine F.ok scNextN (fun vs H Q E h => ?_) (fun cdv A outer s H vs Q E hr h => ?_)
  · obtain ⟨z, a, rfl, _⟩ := h
    rfl
  · obtain ⟨z, a, rfl, hz, hl, q⟩ := h
    refine ⟨_, pss_one (ps_ret (pe_and (hcall HN hr (pa_cons (pv 0) pa_nil)) (pe_one (pe_cmpR op_lt_str (pv 1) (pv 0) (nomark _))))), ?_⟩
    refine ⟨_, rfl, z, rfl, hz, _, rfl, iteT ⟨_, rfl, _, rfl, a, z, rfl, rfl, ?_⟩⟩
    rw [decide_eq_true hl]
    exact q
def numK : Kn → V
  | .h _ => .non
  | .p n => .int n
def spFigs : Sp := fun vs H Q _ => ∃ (k : Kn) (hd : List Str), vs = [.str (kS k), .int 2] ∧ goK hd k ∧ (∀ z ∈ hd, isN z = true) ∧ Q (numK k) H
theorem ok_figs {f : Addr} {fd : FuncData} {k : Nat} (F : Fun K "number_by_figures" "number_by_figures" sFigs f fd) (mi : mg "isinstance" = none) (m1 : mg "str" = none) (ml : mg "len" = none) (mn : mg "int" = none) :
    FnOk P w K mg base CX0 (k + 1) f fd ["word", "most"] spFigs := by
  refine F.ok scFigs (fun vs H Q E h => ?_) (fun cdv A outer s H vs Q E hr h => ?_)
  · obtain ⟨k, hd, rfl, _⟩ := h
    rfl
  · obtain ⟨k, hd, rfl, hk, hn, q⟩ := h
    refine ⟨_, pss_cons (ps_if (PW.pt (pw_or (pt_not (pt_val (pe_isi "str" 0 mi m1 (by decide +kernel))))
        (pw_or (pt_cmpR op_gt (pe_callB call_len_str (by rfl) ml PySem.boot_len (pa_cons (pv 0) pa_nil)) (pv 1) (nomark _))
        (pw_or (pt_not (pt_val (pe_m0 PySem.F.slot_str_isdigit PySem.F.type_str_isdigit mt_isdigit (pv 0))))
        (pw_or1 (pt_not (pt_val (pe_m0 PySem.F.slot_str_isascii PySem.F.type_str_isascii mt_isascii (pv 0)))))))))
        (pss_one (ps_ret pe_non)) pss_nil)
      (pss_cons (ps_if (PW.pt (pw_and (pt_cmpR op_eq (pe_item_str (pv 0) pe_int (fun _ _ => rfl)) pe_str (nomark _)) (pw_and1 (pt_cmpR op_ne (pv 0) pe_str (nomark _)))))
        (pss_one (ps_ret pe_non)) pss_nil)
      (pss_one (ps_ret (pe_callTy call_int_str (by rfl) mn (by decide +kernel) (pa_cons (pv 0) pa_nil))))), ?_⟩
    have cl := clean_kind hn hk
    have hz : (kS k).length ≤ sizeLine := by
      have := cl.2.1
      rw [sizeLine_eq]
      omega
    refine ⟨_, rfl, "str", true, (is_str _).1, by decide +kernel, _, rfl, iteF ⟨_, rfl, _, rfl, hz, _, rfl, _, 2, rfl, rfl, _, rfl, ?_⟩⟩
    cases k with
    | h s =>
      have hs := hn s hk
      have q' : Q .non H := q
      by_cases h2 : ((kS (.h s)).length : Int) > 2
      · rw [decide_eq_true h2]
        exact iteT (iteT q')
      · rw [decide_eq_false h2]
        refine iteF ⟨_, rfl, ⟨_, rfl⟩, _, rfl, rfl, trivial, _, rfl, ?_⟩
        rw [show Txt.isdigit (kS (.h s)) = false from name_digit hs]
        exact iteT (iteT q')
    | p n =>
      obtain ⟨h2, h9⟩ := hk
      obtain ⟨f1, f2, f3⟩ := fig_txt n.toNat (by omega)
      have hl : (kS (.p n)).length = 1 := rfl
      rw [hl, decide_eq_false (show ¬ ((1 : Nat) : Int) > 2 by decide)]
      refine iteF ⟨_, rfl, ⟨_, rfl⟩, _, rfl, rfl, trivial, _, rfl, ?_⟩
      rw [show Txt.isdigit (kS (.p n)) = true from f1]
      refine iteF ⟨_, rfl, ⟨_, rfl⟩, _, rfl, rfl, trivial, _, rfl, ?_⟩
      rw [show Txt.isascii (kS (.p n)) = true from f2]
      refine iteF ⟨_, rfl, kS (.p n), 0, 48 + n.toNat, rfl, rfl, by decide, by decide, (by rw [hl]; decide), rfl, rfl, _, rfl, ?_⟩
      have ne : ¬ V.str ⟨#[48 + n.toNat]⟩ = V.str "0" := by
        intro e
        have e1 := congrArg (fun z : Str => z.cps.toList) (V.str.inj e)
        have e2 : ("0" : Str).cps.toList = [48] := by decide +kernel
        simp only [e2] at e1
        have e3 : 48 + n.toNat = 48 := by simpa using e1
        omega
      rw [decide_eq_false ne]
      refine iteF (iteF ⟨_, rfl, kS (.p n), n, rfl, ?_, (by rw [hl]; decide), q⟩)
      rw [show PySem.intText? (kS (.p n)) = some ((n.toNat : Nat) : Int) from f3, Int.toNat_of_nonneg (by omega)]
def spNum : Sp := fun vs H Q _ => ∃ (k : Kn) (hd : List Str), vs = [.str (kS k)] ∧ goK hd k ∧ (∀ z ∈ hd, isN z = true) ∧ Q (numK k) H
theorem ok_num {f fF : Addr} {fd fdF : FuncData} {k : Nat} (F : Fun K "number_of" "number_of" sNum f fd) (HF : Has P w K mg base (k + 1) "number_by_figures" ["word", "most"] spFigs fF fdF) : FnOk P w K mg base CX0 (k + 2) f fd ["word"] spNum := by
  refine F.ok scNum (fun vs H Q E h => ?_) (fun cdv A outer s H vs Q E hr h => ?_)
  · obtain ⟨k, hd, rfl, _⟩ := h
    rfl
  · obtain ⟨k, hd, rfl, hk, hn, q⟩ := h
    refine ⟨_, pss_one (ps_ret (hcall HF hr (pa_cons (pv 0) (pa_cons pe_int pa_nil)))), ?_⟩
    exact ⟨_, rfl, k, hd, rfl, hk, hn, q⟩
def spKindBy : Sp := fun vs H Q _ => ∃ (k : Kn) (hd : List Str), vs = [.str (kS k)] ∧ goK hd k ∧ (∀ z ∈ hd, isN z = true) ∧ Q k.v H
theorem ok_kindBy {f fN : Addr} {fd fdN : FuncData} {k : Nat} (F : Fun K "kind_by" "kind_by" sKindBy f fd) (HN : Has P w K mg base (k + 2) "number_of" ["word"] spNum fN fdN) : FnOk P w K mg base CX0 (k + 3) f fd ["word"] spKindBy := by
  refine F.ok scKindBy (fun vs H Q E h => ?_) (fun cdv A outer s H vs Q E hr h => ?_)
  · obtain ⟨k, hd, rfl, _⟩ := h
    rfl
  · obtain ⟨k, hd, rfl, hk, hn, q⟩ := h
    refine ⟨_, pss_cons (ps_set (i := 1) scKindBy.nd rfl (.inl rfl) (hcall HN hr (pa_cons (pv 0) pa_nil))) (pss_cons (ps_if (pt_cmpR op_isN (pv 1) pe_non (nomark _)) (pss_one (ps_ret (pv 0))) pss_nil) (pss_one (ps_ret (pv 1)))), ?_⟩
    refine ⟨_, rfl, k, hd, rfl, hk, hn, _, rfl, rfl, _, rfl, ?_⟩
    cases k with
    | h s => exact iteT ⟨_, rfl, q⟩
    | p n => exact iteF ⟨_, rfl, q⟩
def spAreT (K : PySem.W.Frag) : Sp := fun vs H Q _ => ∃ (x : V) (tk : List Kn) (hd : List Str) (p : Addr), vs = [x, .ref p] ∧ Dp K H x (.tuple (tk.map Kn.d)) ∧ SqT K H p (hd.map V.str) ∧ tk.length ≤ 3 ∧ (∀ k ∈ tk, goK hd k) ∧ hidN tk ≤ 2 ∧ ∀ H', Gr H H' → Q (.bl true) H'
theorem ok_areT {f fD : Addr} {fd fdD : FuncData} {k : Nat} (F : Fun K "are_takes" "are_takes" sAreT f fd) (HD : Has P w K mg base (k + 2) "first_bad_deed" ["deeds", "hidden"] (spBadD K) fD fdD) : FnOk P w K mg base CX0 (k + 3) f fd ["thing", "hidden"] (spAreT K) := by
  refine F.ok scAreT (fun vs H Q E h => ?_) (fun cdv A outer s H vs Q E hr h => ?_)
  · obtain ⟨x, tk, hd, p, rfl, _⟩ := h
    rfl
  · obtain ⟨x, tk, hd, p, rfl, hx, hp, h3, hk, h2, q⟩ := h
    refine ⟨_, pss_one (ps_ret (pe_cmpR op_isN (hcall HD hr (pa_cons (pe_tup (pa_cons (pe_tup (pa_cons pe_str (pa_cons (pv 0) (pa_cons pe_int pa_nil)))) pa_nil)) (pa_cons (pv 1) pa_nil))) pe_non (nomark _))), ?_⟩
    refine ⟨_, rfl, by show 3 ≤ sizeLine; decide, fun t1 n1 => ?_⟩
    have g1 : Gr H (upd H t1 (.tup [.str "a", x, .int 2])) := Gr.new n1
    have e1 : upd H t1 (.tup [.str "a", x, .int 2]) t1 = some (.tup [.str "a", x, .int 2]) := upd_same
    generalize upd H t1 (.tup [.str "a", x, .int 2]) = H1 at g1 e1 ⊢
    refine ⟨by show 1 ≤ sizeLine; decide, fun t2 n2 => ?_⟩
    have g2 : Gr H1 (upd H1 t2 (.tup [.ref t1])) := Gr.new n2
    have e2 : upd H1 t2 (.tup [.ref t1]) t2 = some (.tup [.ref t1]) := upd_same
    generalize upd H1 t2 (.tup [.ref t1]) = H2 at g2 e2 ⊢
    have g := g1.trans g2
    refine ⟨_, rfl, [⟨"a", tk, .p 2⟩], hd, .ref t2, p, rfl, .tup (.inl (.inl e2)) (.cons (.tup (.inl (.inl (g2.tup e1))) (.cons (.str _) (.cons (g.kd.dp hx) (.cons (.int 2) .nil)))) .nil), g.sqt hp, List.pairwise_singleton _ _, ?_, fun H3 g3 => ⟨rfl, q H3 (g.trans g3)⟩⟩
    intro e he
    have : e = ⟨"a", tk, .p 2⟩ := by simpa using he
    rw [this]
    exact ⟨by show isN "a" = true; decide +kernel, h3, hk, h2, ⟨by decide, by decide⟩⟩
/-! ### words_of, rows_of, need_no_more -/
def spWords : Sp := fun vs H Q _ => ∃ ws : List Str, vs = [.str (Txt.join blank ws)] ∧ ws ≠ [] ∧ (∀ z ∈ ws, clean z) ∧ ws.length ≤ 100 ∧ ∀ H' p, Gr H H' → H p = none → H' p = some (.lst (ws.map V.str)) → Q (.ref p) H'
theorem ok_words {f : Addr} {fd : FuncData} {k : Nat} (F : Fun K "words_of" "words_of" sWords f fd) (mi : mg "isinstance" = none) (m1 : mg "str" = none) : FnOk P w K mg base CX0 (k + 1) f fd ["row"] spWords := by
  refine F.ok scWords (fun vs H Q E h => ?_) (fun cdv A outer s H vs Q E hr h => ?_)
  · obtain ⟨ws, rfl, _⟩ := h
    rfl
  · obtain ⟨ws, rfl, hne, hc, hl, q⟩ := h
    refine ⟨_, pss_cons (ps_if (pt_not (pt_val (pe_isi "str" 0 mi m1 (by decide +kernel)))) pss_never pss_nil)
      (pss_cons (ps_set (i := 1) scWords.nd rfl (.inl rfl) (pe_split (pv 0) pe_str))
      (pss_cons (ps_if (pt_cmpR op_in_seq pe_str (pv 1) rfl) pss_never pss_nil)
      (pss_one (ps_ret (pv 1))))), ?_⟩
    have hlen := row_len hc
    refine ⟨_, rfl, "str", true, (is_str _).1, by decide +kernel, _, rfl, iteF ⟨_, rfl, ⟨_, rfl⟩, _, blank, rfl, rfl, by decide +kernel, by rw [sizeLine_eq]; omega, ?_⟩⟩
    intro p np
    rw [split_words hne hc]
    refine ⟨_, rfl, p, ws.map V.str, rfl, .inl (.inl (.inl upd_same)), rfl, flat_strs ws, _, rfl, ?_⟩
    have no : inV (.str nought) (ws.map V.str) = false := by
      rw [inV_not]
      refine decide_eq_false fun h => ?_
      exact absurd (hc _ h).1 (by decide +kernel)
    show if inV (.str nought) (ws.map V.str) = true then _ else _
    rw [no]
    exact iteF ⟨_, rfl, q _ p (Gr.new np) np upd_same⟩
def spRowsOf : Sp := fun vs H Q _ => ∃ rws : List Str, vs = [.str (Txt.join feed rws)] ∧ rws ≠ [] ∧ (∀ z ∈ rws, 10 ∉ TL.tl z) ∧ (Txt.join feed rws).length ≤ 100000 ∧ ∀ H' p, Gr H H' → H p = none → H' p = some (.lst (rws.map V.str)) → Q (.ref p) H'
theorem ok_rowsOf {f : Addr} {fd : FuncData} {k : Nat} (F : Fun K "rows_of" "rows_of" sRowsOf f fd) (mi : mg "isinstance" = none) (m1 : mg "str" = none) : FnOk P w K mg base CX0 (k + 1) f fd ["text"] spRowsOf := by
  refine F.ok scRowsOf (fun vs H Q E h => ?_) (fun cdv A outer s H vs Q E hr h => ?_)
  · obtain ⟨ws, rfl, _⟩ := h
    rfl
  · obtain ⟨ws, rfl, hne, hc, hl, q⟩ := h
    refine ⟨_, pss_cons (ps_if (pt_not (pt_val (pe_isi "str" 0 mi m1 (by decide +kernel)))) pss_never pss_nil) (pss_one (ps_ret (pe_split (pv 0) pe_str))), ?_⟩
    refine ⟨_, rfl, "str", true, (is_str _).1, by decide +kernel, _, rfl, iteF ⟨_, rfl, ⟨_, rfl⟩, _, feed, rfl, rfl, by decide +kernel, by rw [sizeLine_eq]; omega, ?_⟩⟩
    intro p np
    rw [split_rows hne hc]
    exact q _ p (Gr.new np) np upd_same
def spNoMore (K : PySem.W.Frag) : Sp := fun vs H Q _ => ∃ (p : Addr) (xs : List V) (m : Int), vs = [.ref p, .int m] ∧ SqL K H p xs ∧ (xs.length : Int) ≤ m ∧ Q .non H
theorem ok_noMore {f : Addr} {fd : FuncData} {k : Nat} (F : Fun K "need_no_more" "need_no_more" sNoMore f fd) (ml : mg "len" = none) : FnOk P w K mg base CX0 (k + 1) f fd ["rows", "most"] (spNoMore K) := by
  refine F.ok scNoMore (fun vs H Q E h => ?_) (fun cdv A outer s H vs Q E hr h => ?_)
  · obtain ⟨p, xs, m, rfl, _⟩ := h
    rfl
  · obtain ⟨p, xs, m, rfl, hp, hm, q⟩ := h
    refine ⟨_, pss_one (ps_if (pt_cmpR op_gt (pe_callB call_len_seq (by rfl) ml PySem.boot_len (pa_cons (pv 0) pa_nil)) (pv 1) (nomark _)) pss_never pss_nil), ?_⟩
    refine ⟨_, rfl, p, xs, rfl, .inl hp, _, rfl, _, m, rfl, rfl, _, rfl, ?_⟩
    rw [decide_eq_false (show ¬ (xs.length : Int) > m by omega)]
    exact iteF q
end
end SfC
namespace SfC
open PySem PySem.Spec PyProof.Rows L2 SfG
/-! ### rows that are read -/
abbrev sInit : Stmt := inClass sRow 0
abbrev sSeen : Stmt := inClass sRow 1
abbrev sTake : Stmt := inClass sRow 2
abbrev sTakeW : Stmt := inClass sRow 3
abbrev sClose : Stmt := inClass sRow 5
theorem scInit : FnScope ["self", "number", "text", "words"] ["self", "number", "text"] (defScope sInit) := ⟨rfl, rfl, rfl, by decide +kernel, rfl, by decide +kernel, by decide +kernel⟩
theorem scSeen : FnScope ["self"] ["self"] (defScope sSeen) := ⟨rfl, rfl, rfl, by decide +kernel, rfl, by decide +kernel, by decide +kernel⟩
theorem scTake : FnScope ["self", "stands"] ["self", "stands"] (defScope sTake) := ⟨rfl, rfl, rfl, by decide +kernel, rfl, by decide +kernel, by decide +kernel⟩
theorem scTakeW : FnScope ["self", "word"] ["self", "word"] (defScope sTakeW) := ⟨rfl, rfl, rfl, by decide +kernel, rfl, by decide +kernel, by decide +kernel⟩
theorem scClose : FnScope ["self"] ["self"] (defScope sClose) := ⟨rfl, rfl, rfl, by decide +kernel, rfl, by decide +kernel, by decide +kernel⟩
theorem scRowAt : FnScope ["rows", "number"] ["rows", "number"] (defScope sRowAt) := ⟨rfl, rfl, rfl, by decide +kernel, rfl, by decide +kernel, by decide +kernel⟩
def rf (n : Int) (wl : Addr) (a : Int) : List (Str × V) := [("number", .int n), ("words", .ref wl), ("at", .int a)]
theorem nw : ¬ (("number" : Str) = "words") := by decide +kernel
theorem na : ¬ (("number" : Str) = "at") := by decide +kernel
theorem wa : ¬ (("words" : Str) = "at") := by decide +kernel
theorem rf_number (n : Int) (wl : Addr) (a : Int) : (rf n wl a).lookup ("number" : Str) = some (.int n) := by simp [rf, List.lookup]
theorem rf_words (n : Int) (wl : Addr) (a : Int) : (rf n wl a).lookup ("words" : Str) = some (.ref wl) := by
  have h : (("words" : Str) == ("number" : Str)) = false := by decide +kernel
  simp [rf, List.lookup, h]
theorem rf_at (n : Int) (wl : Addr) (a : Int) : (rf n wl a).lookup ("at" : Str) = some (.int a) := by
  have h : (("at" : Str) == ("number" : Str)) = false := by decide +kernel
  have h2 : (("at" : Str) == ("words" : Str)) = false := by decide +kernel
  simp [rf, List.lookup, h, h2]
theorem rf_no (n : Int) (wl : Addr) (a : Int) {m : Str} (h1 : (m == ("number" : Str)) = false) (h2 : (m == ("words" : Str)) = false) (h3 : (m == ("at" : Str)) = false) : (rf n wl a).lookup m = none := by
  simp [rf, List.lookup, h1, h2, h3]
theorem rf_put (n : Int) (wl : Addr) (a b : Int) : putF "at" (.int b) (rf n wl a) = rf n wl b := by
  show (if ("number" : Str) = "at" then _ else (("number" : Str), V.int n) :: (if ("words" : Str) = "at" then _ else (("words" : Str), V.ref wl) :: (if ("at" : Str) = "at" then [(("at" : Str), V.int b)] else _))) = rf n wl b
  rw [if_neg na, if_neg wa, if_pos rfl]
  rfl
theorem rf_made (n : Int) (wl : Addr) : putF "at" (.int 0) (putF "words" (.ref wl) (putF "number" (.int n) [])) = rf n wl 0 := by
  show putF "at" (.int 0) (if ("number" : Str) = "words" then _ else (("number" : Str), V.int n) :: putF "words" (.ref wl) []) = rf n wl 0
  rw [if_neg nw]
  show (if ("number" : Str) = "at" then _ else (("number" : Str), V.int n) :: (if ("words" : Str) = "at" then _ else (("words" : Str), V.ref wl) :: putF "at" (.int 0) [])) = rf n wl 0
  rw [if_neg na, if_neg wa]
  rfl
/-- a row at x: its number, its words, and how many are taken -/
def RowAt (C : Addr) (H : Hp) (x : Addr) (n : Int) (ws : List Str) (a : Nat) : Prop := ∃ dx wl, H x = some (.ins C dx (rf n wl (a : Nat))) ∧ H wl = some (.lst (ws.map V.str ++ [.non]))
theorem RowAt.gr {C : Addr} {H H' : Hp} {x : Addr} {n : Int} {ws : List Str} {a : Nat} (h : RowAt C H x n ws a) (g : Gr H H') : RowAt C H' x n ws a := by
  obtain ⟨dx, wl, h1, h2⟩ := h
  exact ⟨dx, wl, g.keep _ _ h1 (fun _ z => by cases z), g.lst h2⟩
/-- what is seen there -/
def seenV (ws : List Str) (a : Nat) : V := match ws[a]? with
  | some z => .str z
  | none => .non
theorem seen_at {ws : List Str} {a : Nat} (h : a ≤ ws.length) : (ws.map V.str ++ [V.non])[a]? = some (seenV ws a) := by
  unfold seenV
  rcases Nat.lt_or_ge a ws.length with h1 | h1
  · rw [List.getElem?_append_left (by rw [List.length_map]; exact h1), List.getElem?_map, List.getElem?_eq_getElem h1]
    rfl
  · have e : a = ws.length := by omega
    rw [List.getElem?_append_right (by rw [List.length_map]; omega), List.length_map, e, Nat.sub_self, List.getElem?_eq_none (Nat.le_refl _)]
    rfl
structure RowC (K : PySem.W.Frag) (mg : Str → Option Value) (C : Addr) : Prop where
  cl : Cls K C
  nN : NoAttr K C "number"
  nW : NoAttr K C "words"
  nA : NoAttr K C "at"
  g : mg "Row" = some (.ref C)
/-- a method: where it stands, how it is bound, what it promises -/
structure HasM (P : Program) (w : World) (K : PySem.W.Frag) (mg : Str → Option Value) (base : Heap) (C : Addr) (k : Nat) (m : Str) (ps : List Str) (sp : Sp) (f : Addr) (fd : FuncData) : Prop where
  ok : FnOk P w K mg base CX0 k f fd ps sp
  me : Meth K C m f
  bd : Binds K fd ps []
section
variable {P : Program} {w : World} {K : PySem.W.Frag} {mg : Str → Option Value} {base : Heap}
def spInit (C : Addr) : Sp := fun vs H Q _ => ∃ (x dx : Addr) (n : Int) (ws : List Str), vs = [.ref x, .int n, .str (Txt.join blank ws)] ∧ H x = some (.ins C dx []) ∧ ws ≠ [] ∧ (∀ z ∈ ws, clean z) ∧ ws.length ≤ 100 ∧ ∀ H', Gp x H H' → RowAt C H' x n ws 0 → Q .non H'
theorem ok_init {f fW C : Addr} {fd fdW : FuncData} {k : Nat} (F : Fun K "__init__" "Row.__init__" sInit f fd) (R : RowC K mg C) (HW : Has P w K mg base (k + 1) "words_of" ["row"] spWords fW fdW) : FnOk P w K mg base CX0 (k + 2) f fd ["self", "number", "text"] (spInit C) := by
  refine F.ok scInit (fun vs H Q E h => ?_) (fun cdv A outer s H vs Q E hr h => ?_)
  · obtain ⟨x, dx, n, ws, rfl, _⟩ := h
    rfl
  · obtain ⟨x, dx, n, ws, rfl, hx, hne, hc, hl, q⟩ := h
    have nd := scInit.nd
    refine ⟨_, pss_cons (ps_set (i := 3) nd rfl (.inl rfl) (hcall HW hr (pa_cons (pv 2) pa_nil))) (pss_cons (ps_if (pt_cmpR op_isN (pv 3) pe_non (nomark _)) pss_never pss_nil)
      (pss_cons (ps_fld (pv 0) (pv 1) rfl) (pss_cons (ps_fld (pv 0) (pe_lst (StX.pa_star (pv 3) (pa_cons pe_non pa_nil))) rfl) (pss_one (ps_fld (pv 0) pe_int rfl))))), ?_⟩
    refine ⟨_, rfl, ws, rfl, hne, hc, hl, fun H1 p g1 np hp => ⟨_, rfl, rfl, _, rfl, iteF ?_⟩⟩
    have hx1 : H1 x = some (.ins C dx []) := g1.keep _ _ hx (fun _ z => by cases z)
    refine ⟨_, rfl, _, rfl, x, C, dx, _, rfl, hx1, R.cl, R.nN, (by show 0 < 1000; decide), ?_⟩
    have px : p ≠ x := by
      intro z
      rw [z, hx1] at hp
      cases hp
    have hp2 : upd H1 x (.ins C dx (putF "number" (.int n) [])) p = some (.lst (ws.map V.str)) := (upd_ne px).trans hp
    have hx2 : upd H1 x (.ins C dx (putF "number" (.int n) [])) x = some (.ins C dx (putF "number" (.int n) [])) := upd_same
    have g2 : Gp x H (upd H1 x (.ins C dx (putF "number" (.int n) []))) := (Gp.gr g1).trans (Gp.but (But.upd (fun _ _ => rfl)))
    generalize upd H1 x (.ins C dx (putF "number" (.int n) [])) = H2 at hp2 hx2 g2 ⊢
    refine ⟨_, rfl, p, _, rfl, .inr (.inl (.inl hp2)), ?_, fun wl nwl => ?_⟩
    · rw [List.length_append, List.length_map]
      exact Nat.le_of_lt (small1000 (by show ws.length + 1 ≤ 1000; omega))
    have wx : x ≠ wl := ne_of_none hx2 nwl
    have hw3 : upd H2 wl (.lst (ws.map V.str ++ [.non])) wl = some (.lst (ws.map V.str ++ [.non])) := upd_same
    have hx3 : upd H2 wl (.lst (ws.map V.str ++ [.non])) x = some (.ins C dx (putF "number" (.int n) [])) := (upd_ne wx).trans hx2
    have g3 : Gp x H (upd H2 wl (.lst (ws.map V.str ++ [.non]))) := g2.trans (Gp.gr (Gr.new nwl))
    generalize upd H2 wl (.lst (ws.map V.str ++ [.non])) = H3 at hw3 hx3 g3 ⊢
    refine ⟨_, rfl, x, C, dx, _, rfl, hx3, R.cl, R.nW, (by show 1 < 1000; decide), ?_⟩
    refine ⟨_, rfl, x, C, dx, _, rfl, upd_same, R.cl, R.nA, ?_, ?_⟩
    · show (putF "words" (.ref wl) (putF "number" (.int n) [])).length < 1000
      show (if ("number" : Str) = "words" then [(("number" : Str), V.ref wl)] else (("number" : Str), V.int n) :: putF "words" (.ref wl) []).length < 1000
      rw [if_neg nw]
      show 2 < 1000
      decide
    refine q _ ((g3.trans (Gp.but (But.upd (fun _ _ => rfl)))).trans (Gp.but (But.upd (fun _ _ => rfl)))) ⟨dx, wl, ?_, ?_⟩
    · rw [upd_same, rf_made]
      rfl
    · rw [upd_ne (Ne.symm wx), upd_ne (Ne.symm wx)]
      exact hw3
def spSeen (C : Addr) : Sp := fun vs H Q _ => ∃ (x : Addr) (n : Int) (ws : List Str) (a : Nat), vs = [.ref x] ∧ RowAt C H x n ws a ∧ a ≤ ws.length ∧ Q (seenV ws a) H
theorem ok_seen {f C : Addr} {fd : FuncData} {k : Nat} (F : Fun K "seen" "Row.seen" sSeen f fd) (R : RowC K mg C) : FnOk P w K mg base CX0 (k + 1) f fd ["self"] (spSeen C) := by
  refine F.ok scSeen (fun vs H Q E h => ?_) (fun cdv A outer s H vs Q E hr h => ?_)
  · obtain ⟨x, n, ws, a, rfl, _⟩ := h
    rfl
  · obtain ⟨x, n, ws, a, rfl, ⟨dx, wl, hx, hw⟩, ha, q⟩ := h
    refine ⟨_, pss_one (ps_ret (pe_ix ix_list (pe_fld (pv 0) rfl) (pe_fld (pv 0) rfl) (fun _ _ => rfl))), ?_⟩
    exact ⟨_, rfl, x, C, dx, _, _, rfl, hx, R.cl, R.nW, rf_words _ _ _, _, rfl, x, C, dx, _, _, rfl, hx, R.cl, R.nA, rf_at _ _ _, wl, _, (a : Nat), _, rfl, rfl, .inl (.inl hw), atI_nat (seen_at ha), q⟩
def spTake (C : Addr) : Sp := fun vs H Q _ => ∃ (x : Addr) (n : Int) (ws : List Str) (a : Nat), vs = [.ref x, .bl true] ∧ RowAt C H x n ws a ∧ a ≤ ws.length ∧ ∀ H', Gp x H H' → RowAt C H' x n ws (a + 1) → Q (seenV ws a) H'
theorem ok_take {f C : Addr} {fd : FuncData} {k : Nat} (F : Fun K "take" "Row.take" sTake f fd) (R : RowC K mg C) : FnOk P w K mg base CX0 (k + 1) f fd ["self", "stands"] (spTake C) := by
  refine F.ok scTake (fun vs H Q E h => ?_) (fun cdv A outer s H vs Q E hr h => ?_)
  · obtain ⟨x, n, ws, a, rfl, _⟩ := h
    rfl
  · obtain ⟨x, n, ws, a, rfl, ⟨dx, wl, hx, hw⟩, ha, q⟩ := h
    refine ⟨_, pss_cons (ps_if (pt_not (pt_val (pv 1))) pss_never pss_nil) (pss_cons (ps_fldaug (pv 0) pe_int in_add)
      (pss_one (ps_ret (pe_ix ix_list (pe_fld (pv 0) rfl) (pe_op op_sub (pe_fld (pv 0) rfl) pe_int) (fun _ _ => rfl))))), ?_⟩
    refine ⟨_, rfl, _, rfl, iteF ?_⟩
    refine ⟨_, rfl, x, C, dx, _, _, rfl, hx, R.cl, R.nA, rf_at _ _ _, _, 1, rfl, rfl, _, _, hx, (by show 3 < 1000; decide), ?_⟩
    rw [rf_put]
    have wx : wl ≠ x := by
      intro z
      rw [z, hx] at hw
      cases hw
    have e1 : ((a : Nat) : Int) + 1 = ((a + 1 : Nat) : Int) := by omega
    rw [e1]
    have hx2 : upd H x (.ins C dx (rf n wl ((a + 1 : Nat) : Int))) x = some (.ins C dx (rf n wl ((a + 1 : Nat) : Int))) := upd_same
    have hw2 : upd H x (.ins C dx (rf n wl ((a + 1 : Nat) : Int))) wl = some (.lst (ws.map V.str ++ [.non])) := (upd_ne wx).trans hw
    have g2 : Gp x H (upd H x (.ins C dx (rf n wl ((a + 1 : Nat) : Int)))) := Gp.but (But.upd (fun _ _ => rfl))
    generalize upd H x (.ins C dx (rf n wl ((a + 1 : Nat) : Int))) = H2 at hx2 hw2 g2 ⊢
    refine ⟨_, rfl, x, C, dx, _, _, rfl, hx2, R.cl, R.nW, rf_words _ _ _, _, rfl, x, C, dx, _, _, rfl, hx2, R.cl, R.nA, rf_at _ _ _, _, 1, rfl, rfl, wl, _, _, _, rfl, rfl, .inl (.inl hw2), ?_, q H2 g2 ⟨dx, wl, hx2, hw2⟩⟩
    have e2 : ((a + 1 : Nat) : Int) - 1 = ((a : Nat) : Int) := by omega
    rw [e2]
    exact atI_nat (seen_at ha)
def spTakeW (C : Addr) : Sp := fun vs H Q _ => ∃ (x : Addr) (n : Int) (ws : List Str) (a : Nat) (z : Str), vs = [.ref x, .str z] ∧ RowAt C H x n ws a ∧ ws[a]? = some z ∧ ∀ H', Gp x H H' → RowAt C H' x n ws (a + 1) → Q .non H'
theorem lt_of_at {α : Type} {l : List α} {i : Nat} {x : α} (h : l[i]? = some x) : i < l.length := (List.getElem?_eq_some_iff.mp h).1
theorem seen_is {ws : List Str} {a : Nat} {z : Str} (h : ws[a]? = some z) : seenV ws a = .str z := by
  unfold seenV
  rw [h]
theorem ok_takeW {f fS fT C : Addr} {fd fdS fdT : FuncData} {k : Nat} (F : Fun K "take_word" "Row.take_word" sTakeW f fd) (R : RowC K mg C) (HS : HasM P w K mg base C (k + 1) "seen" ["self"] (spSeen C) fS fdS)
    (HT : HasM P w K mg base C (k + 1) "take" ["self", "stands"] (spTake C) fT fdT) : FnOk P w K mg base CX0 (k + 2) f fd ["self", "word"] (spTakeW C) := by
  refine F.ok scTakeW (fun vs H Q E h => ?_) (fun cdv A outer s H vs Q E hr h => ?_)
  · obtain ⟨x, n, ws, a, z, rfl, _⟩ := h
    rfl
  · obtain ⟨x, n, ws, a, z, rfl, hR, hz, q⟩ := h
    have ha := lt_of_at hz
    refine ⟨_, pss_one (ps_expr (pe_meth (pv 0) R.cl HT.me HT.ok hr HT.bd .nil pass0 (pa_cons (pe_cmpR op_eq (pe_meth0 (pv 0) R.cl HS.me HS.ok hr HS.bd .nil pass0) (pv 1) (nomark _)) pa_nil))), ?_⟩
    obtain ⟨dx, wl, hx, hw⟩ := id hR
    refine ⟨_, rfl, x, dx, _, rfl, hx, rf_no _ _ _ (by decide +kernel) (by decide +kernel) (by decide +kernel), _, rfl, x, dx, _, rfl, hx, rf_no _ _ _ (by decide +kernel) (by decide +kernel) (by decide +kernel), x, n, ws, a, rfl, hR, Nat.le_of_lt ha, ?_⟩
    rw [seen_is hz]
    refine ⟨_, rfl, rfl, ?_⟩
    rw [decide_eq_true rfl]
    exact ⟨x, n, ws, a, rfl, hR, Nat.le_of_lt ha, fun H' g R' => q H' g R'⟩
def spClose (C : Addr) : Sp := fun vs H Q _ => ∃ (x : Addr) (n : Int) (ws : List Str), vs = [.ref x] ∧ RowAt C H x n ws ws.length ∧ Q .non H
theorem ok_close {f fS C : Addr} {fd fdS : FuncData} {k : Nat} (F : Fun K "close" "Row.close" sClose f fd) (R : RowC K mg C) (HS : HasM P w K mg base C (k + 1) "seen" ["self"] (spSeen C) fS fdS) : FnOk P w K mg base CX0 (k + 2) f fd ["self"] (spClose C) := by
  refine F.ok scClose (fun vs H Q E h => ?_) (fun cdv A outer s H vs Q E hr h => ?_)
  · obtain ⟨x, n, ws, rfl, _⟩ := h
    rfl
  · obtain ⟨x, n, ws, rfl, hR, q⟩ := h
    refine ⟨_, pss_one (ps_if (pt_cmpR op_notN (pe_meth0 (pv 0) R.cl HS.me HS.ok hr HS.bd .nil pass0) pe_non (nomark _)) pss_never pss_nil), ?_⟩
    obtain ⟨dx, wl, hx, hw⟩ := id hR
    refine ⟨_, rfl, x, dx, _, rfl, hx, rf_no _ _ _ (by decide +kernel) (by decide +kernel) (by decide +kernel), x, n, ws, ws.length, rfl, hR, Nat.le_refl _, rfl, _, rfl, ?_⟩
    have e : seenV ws ws.length = .non := by
      unfold seenV
      rw [List.getElem?_eq_none (Nat.le_refl _)]
    rw [e]
    exact iteF q
def spRowAt (K : PySem.W.Frag) (C : Addr) : Sp := fun vs H Q _ => ∃ (rl : Addr) (rws : List Str) (i : Nat) (ws : List Str), vs = [.ref rl, .int ((i + 1 : Nat) : Int)] ∧ SqL K H rl (rws.map V.str) ∧ rws[i]? = some (Txt.join blank ws) ∧ ws ≠ [] ∧ (∀ z ∈ ws, clean z) ∧ ws.length ≤ 100 ∧
  ∀ H' x, Gr H H' → H x = none → RowAt C H' x ((i + 1 : Nat) : Int) ws 0 → Q (.ref x) H'
theorem ok_rowAt {f fI C : Addr} {fd fdI : FuncData} {k : Nat} (F : Fun K "row_at" "row_at" sRowAt f fd) (R : RowC K mg C) (M : Mk K C fI) (GI : FnOk P w K mg base CX0 (k + 2) fI fdI ["self", "number", "text"] (spInit C)) (bI : Binds K fdI ["self", "number", "text"] []) (ml : mg "len" = none) :
    FnOk P w K mg base CX0 (k + 4) f fd ["rows", "number"] (spRowAt K C) := by
  refine F.ok scRowAt (fun vs H Q E h => ?_) (fun cdv A outer s H vs Q E hr h => ?_)
  · obtain ⟨rl, rws, i, ws, rfl, _⟩ := h
    rfl
  · obtain ⟨rl, rws, i, ws, rfl, hrl, hz, hne, hc, hl, q⟩ := h
    have hi := lt_of_at hz
    refine ⟨_, pss_cons (ps_if (pt_cmpR op_gt (pv 1) (pe_callB call_len_seq (by rfl) ml PySem.boot_len (pa_cons (pv 0) pa_nil)) (nomark _)) pss_never pss_nil)
      (pss_one (ps_ret (pe_make M GI hr (by rfl) R.g bI .nil pass0 (pa_cons (pv 1) (pa_cons (pe_ix ix_list (pv 0) (pe_op op_sub (pv 1) pe_int) (fun _ _ => rfl)) pa_nil))))), ?_⟩
    refine ⟨_, rfl, _, rfl, rl, _, rfl, .inl hrl, _, _, rfl, rfl, _, rfl, ?_⟩
    rw [List.length_map, decide_eq_false (show ¬ ((i + 1 : Nat) : Int) > ((rws.length : Nat) : Int) by omega)]
    refine iteF ⟨_, rfl, _, rfl, _, rfl, _, 1, rfl, rfl, rl, _, _, .str (Txt.join blank ws), rfl, rfl, hrl, ?_, ?_⟩
    · have e2 : ((i + 1 : Nat) : Int) - 1 = ((i : Nat) : Int) := by omega
      rw [e2]
      exact atI_nat (by rw [List.getElem?_map, hz]; rfl)
    intro x dx nx ndx nex
    have g1 : Gr H (upd (upd H dx (.own x)) x (.ins C dx [])) := by
      refine (Gr.new ndx).trans (Gr.new ?_)
      rw [upd_ne (Ne.symm nex)]
      exact nx
    refine ⟨x, dx, _, ws, rfl, upd_same, hne, hc, hl, fun H' g R' => ⟨rfl, ?_⟩⟩
    exact q H' x (Gp.out g1 nx g) nx R'
end
end SfC
namespace SfC
open PySem PySem.Spec PyProof.Rows L2 SfG
theorem scReadH : FnScope ["row", "names"] ["row"] (defScope sReadH) := ⟨rfl, rfl, rfl, by decide +kernel, rfl, by decide +kernel, by decide +kernel⟩
theorem scReadT : FnScope ["row", "hidden", "takes", "more"] ["row", "hidden"] (defScope sReadT) := ⟨rfl, rfl, rfl, by decide +kernel, rfl, by decide +kernel, by decide +kernel⟩
theorem scReadD : FnScope ["row", "hidden", "ahead", "name", "takes", "gives"] ["row", "hidden", "ahead"] (defScope sReadD) := ⟨rfl, rfl, rfl, by decide +kernel, rfl, by decide +kernel, by decide +kernel⟩
/-- the methods of rows -/
structure Rws (P : Program) (w : World) (K : PySem.W.Frag) (mg : Str → Option Value) (base : Heap) (C : Addr) (k : Nat) (fS fT fW fC : Addr) (dS dT dW dC : FuncData) : Prop where
  R : RowC K mg C
  HS : HasM P w K mg base C k "seen" ["self"] (spSeen C) fS dS
  HT : HasM P w K mg base C k "take" ["self", "stands"] (spTake C) fT dT
  HW : HasM P w K mg base C k "take_word" ["self", "word"] (spTakeW C) fW dW
  HC : HasM P w K mg base C k "close" ["self"] (spClose C) fC dC
/-- a row's field of no name of ours -/
theorem RowAt.has {C : Addr} {H : Hp} {x : Addr} {n : Int} {ws : List Str} {a : Nat} (h : RowAt C H x n ws a) : ∃ dx fs, H x = some (.ins C dx fs) ∧ fs.lookup ("seen" : Str) = none ∧ fs.lookup ("take" : Str) = none ∧ fs.lookup ("take_word" : Str) = none ∧ fs.lookup ("close" : Str) = none := by
  obtain ⟨dx, wl, h1, _⟩ := h
  refine ⟨dx, _, h1, ?_, ?_, ?_, ?_⟩ <;> exact rf_no _ _ _ (by decide +kernel) (by decide +kernel) (by decide +kernel)
theorem gp_sqtI {K : PySem.W.Frag} {x : Addr} {H H' : Hp} {a : Addr} {xs : List V} {C dx : Addr} {fs : List (Str × V)} (g : Gp x H H') (hx : H x = some (.ins C dx fs)) (h : SqT K H a xs) : SqT K H' a xs := by
  rcases h with (h | ⟨o, h⟩) | h
  · refine .inl (.inl (g.keep a _ (fun z => ?_) h (fun _ z => by cases z)))
    rw [z, hx] at h
    cases h
  · refine .inl (.inr ⟨o, g.keep a _ (fun z => ?_) h (fun _ z => by cases z)⟩)
    rw [z, hx] at h
    cases h
  · exact .inr h
theorem RowAt.sqt {K : PySem.W.Frag} {C x : Addr} {H H' : Hp} {n : Int} {ws : List Str} {i : Nat} {a : Addr} {xs : List V} (r : RowAt C H x n ws i) (g : Gp x H H') (h : SqT K H a xs) : SqT K H' a xs := by
  obtain ⟨dx, wl, hx, _⟩ := r
  exact gp_sqtI g hx h
theorem nought_lt {z : Str} (h : isN z = true) : lt "" z := by
  refine ahd_lt (l := [z]) (List.pairwise_singleton _ _) (fun y hy => ?_) (i := 0) rfl
  have e : y = z := by simpa using hy
  rw [e]
  exact h
section
variable {P : Program} {w : World} {K : PySem.W.Frag} {mg : Str → Option Value} {base : Heap}
def spReadH (C : Addr) : Sp := fun vs H Q _ => ∃ (x : Addr) (n : Int) (hd : List Str), vs = [.ref x] ∧ RowAt C H x n (wsH hd) 0 ∧ goH hd ∧ ∀ H' p, Gp x H H' → H' p = some (.tup (hd.map V.str)) → Q (.ref p) H'
set_option maxHeartbeats 1000000 in
theorem ok_readH {f fS fT fW fC fN C : Addr} {fd dS dT dW dC dN : FuncData} {k : Nat} (F : Fun K "read_hidden" "read_hidden" sReadH f fd) (Z : Rws P w K mg base C k fS fT fW fC dS dT dW dC) (HN : Has P w K mg base k "is_next_name" ["thing", "ahead"] spNextN fN dN) (mt : mg "tuple" = none) :
    FnOk P w K mg base CX0 (k + 1) f fd ["row"] (spReadH C) := by
  refine F.ok scReadH (fun vs H Q E h => ?_) (fun cdv A outer s H vs Q E hr h => ?_)
  · obtain ⟨x, n, hd, rfl, _⟩ := h
    rfl
  · obtain ⟨x, n, hd, rfl, r0, gh, q⟩ := h
    have nd := scReadH.nd
    refine' ⟨_, pss_cons ?s1 (pss_cons ?s2 (pss_cons ?s3 (pss_cons ?s4 (pss_one ?s5)))), ?rd⟩
    case s1 => exact ps_expr (pe_meth (pv 0) Z.R.cl Z.HW.me Z.HW.ok hr Z.HW.bd .nil pass0 (pa_cons pe_str pa_nil))
    case s2 => exact ps_set (i := 1) nd rfl (.inl rfl) (pe_lst (pa_cons (pe_meth (pv 0) Z.R.cl Z.HT.me Z.HT.ok hr Z.HT.bd .nil pass0 (pa_cons (hcall HN hr (pa_cons (pe_meth0 (pv 0) Z.R.cl Z.HS.me Z.HS.ok hr Z.HS.bd .nil pass0) (pa_cons pe_str pa_nil))) pa_nil)) pa_nil))
    case s3 =>
      exact ps_if (pt_cmpR op_notN (pe_meth0 (pv 0) Z.R.cl Z.HS.me Z.HS.ok hr Z.HS.bd .nil pass0) pe_non (nomark _))
        (pss_one (ps_expr (pe_bm PySem.F.plainAttrs_list PySem.F.slot_list_append PySem.F.type_list_append mt_append (pv 1) (pa_cons (pe_meth (pv 0) Z.R.cl Z.HT.me Z.HT.ok hr Z.HT.bd .nil pass0 (pa_cons (hcall HN hr (pa_cons (pe_meth0 (pv 0) Z.R.cl Z.HS.me Z.HS.ok hr Z.HS.bd .nil pass0) (pa_cons (pe_ix ix_list (pv 1) pe_int (fun _ _ => rfl)) pa_nil))) pa_nil)) pa_nil)))) pss_nil
    case s4 => exact ps_expr (pe_meth0 (pv 0) Z.R.cl Z.HC.me Z.HC.ok hr Z.HC.bd .nil pass0)
    case s5 => exact ps_ret (pe_callTy call_tuple_of (by rfl) mt (by decide +kernel) (pa_cons (pv 1) pa_nil))
    case rd =>
    obtain ⟨h1, h2, hn, up⟩ := gh
    -- hidden
    obtain ⟨dx, fs, e0, a1, a2, a3, a4⟩ := r0.has
    refine ⟨_, rfl, x, dx, fs, rfl, e0, a3, x, n, wsH hd, 0, "hidden", rfl, r0, rfl, fun H1 g1 r1 => ?_⟩
    -- the first name
    obtain ⟨n1, rest, ehd⟩ : ∃ n1 rest, hd = n1 :: rest := by
      cases hd with
      | nil => exact absurd h1 (by simp)
      | cons a r => exact ⟨a, r, rfl⟩
    have w1 : (wsH hd)[1]? = some n1 := by rw [ehd]; rfl
    have gn1 : isN n1 = true := hn n1 (by rw [ehd]; exact List.mem_cons_self)
    have l1 : 1 ≤ (wsH hd).length := Nat.le_of_lt (lt_of_at w1)
    obtain ⟨dx1, fs1, f0, b1, b2, b3, b4⟩ := r1.has
    refine ⟨_, rfl, x, dx1, fs1, rfl, f0, b2, _, rfl, x, dx1, fs1, rfl, f0, b1, x, n, wsH hd, 1, rfl, r1, l1, ?_⟩
    rw [seen_is w1]
    refine ⟨n1, "", rfl, gn1, ?_, x, n, wsH hd, 1, rfl, r1, l1, fun H2 g2 r2 => ?_⟩
    · exact nought_lt gn1
    rw [seen_is w1]
    refine ⟨by show 1 ≤ sizeLine; decide, fun nl nnl => ?_⟩
    have xl : x ≠ nl := by
      obtain ⟨dx2, fs2, c0, _⟩ := r2.has
      exact ne_of_none c0 nnl
    have r3 : RowAt C (upd H2 nl (.lst [.str n1])) x n (wsH hd) 2 := r2.gr (Gr.new nnl)
    have e3 : upd H2 nl (.lst [.str n1]) nl = some (.lst [.str n1]) := upd_same
    have g3 : Gp x H (upd H2 nl (.lst [.str n1])) := (g1.trans g2).trans (Gp.gr (Gr.new nnl))
    generalize upd H2 nl (.lst [.str n1]) = H3 at r3 e3 g3 ⊢
    obtain ⟨dx3, fs3, c0, c1, c2, c3, c4⟩ := r3.has
    refine ⟨_, rfl, x, dx3, fs3, rfl, c0, c1, x, n, wsH hd, 2, rfl, r3, ?_, ?_⟩
    · rw [ehd]
      show 2 ≤ (n1 :: rest).length + 1
      simp
    cases rest with
    | nil =>
      have e : seenV (wsH hd) 2 = .non := by rw [ehd]; rfl
      rw [e]
      refine ⟨rfl, _, rfl, iteF ?_⟩
      have r4 : RowAt C H3 x n (wsH hd) (wsH hd).length := by
        rw [show (wsH hd).length = 2 by rw [ehd]; rfl]
        exact r3
      refine ⟨_, rfl, x, dx3, fs3, rfl, c0, c4, x, n, wsH hd, rfl, r4, ?_⟩
      refine ⟨_, rfl, nl, _, rfl, .inl ⟨.inl (.inl e3), fun p np => q _ p (g3.trans (Gp.gr (Gr.new np))) ?_⟩⟩
      rw [upd_same, ehd]
      rfl
    | cons n2 rest2 =>
      have e2 : rest2 = [] := by
        rw [ehd] at h2
        cases rest2 with
        | nil => rfl
        | cons a r => exact absurd h2 (by simp)
      subst e2
      have w2 : (wsH hd)[2]? = some n2 := by rw [ehd]; rfl
      have gn2 : isN n2 = true := hn n2 (by rw [ehd]; simp)
      have l2 : 2 ≤ (wsH hd).length := Nat.le_of_lt (lt_of_at w2)
      rw [seen_is w2]
      refine ⟨rfl, _, rfl, iteT ?_⟩
      refine ⟨_, rfl, .inl ⟨rfl, _, .inl (.inl e3)⟩, _, rfl, x, dx3, fs3, rfl, c0, c2, _, rfl, x, dx3, fs3, rfl, c0, c1, x, n, wsH hd, 2, rfl, r3, l2, ?_⟩
      rw [seen_is w2]
      refine ⟨_, rfl, nl, _, 0, _, rfl, rfl, .inl (.inl e3), rfl, n2, n1, rfl, gn2, ?_, x, n, wsH hd, 2, rfl, r3, l2, fun H4 g4 r4 => ?_⟩
      · rw [ehd] at up
        exact (List.pairwise_cons.mp up).1 n2 List.mem_cons_self
      rw [seen_is w2]
      have e4 : H4 nl = some (.lst [.str n1]) := g4.lst (Ne.symm xl) e3
      refine ⟨nl, _, _, rfl, rfl, e4, small1000 (by show 1 ≤ 1000; decide), ?_⟩
      have g5 : Gp x H (upd H4 nl (.lst ([.str n1] ++ [.str n2]))) := (g3.trans g4).upd_new ((g1.trans g2).back nl (Ne.symm xl) nnl)
      have e5 : upd H4 nl (.lst ([.str n1] ++ [.str n2])) nl = some (.lst ([.str n1] ++ [.str n2])) := upd_same
      have r5 : RowAt C (upd H4 nl (.lst ([.str n1] ++ [.str n2]))) x n (wsH hd) (wsH hd).length := by
        obtain ⟨dx4, wl4, d1, d2⟩ := r4
        have wn : wl4 ≠ nl := by
          intro z
          rw [z, e4] at d2
          have := HO.lst.inj (Option.some.inj d2)
          have hl := congrArg List.length this
          rw [List.length_append, List.length_map, ehd] at hl
          exact absurd hl (by show ¬ (1 = 3 + 1); decide)
        rw [show (wsH hd).length = 3 by rw [ehd]; rfl]
        exact ⟨dx4, wl4, (upd_ne xl).trans d1, (upd_ne wn).trans d2⟩
      generalize upd H4 nl (.lst ([.str n1] ++ [.str n2])) = H5 at g5 e5 r5 ⊢
      obtain ⟨dx5, fs5, d0, d1, d2, d3, d4⟩ := r5.has
      refine ⟨_, rfl, x, dx5, fs5, rfl, d0, d4, x, n, wsH hd, rfl, r5, ?_⟩
      refine ⟨_, rfl, nl, _, rfl, .inl ⟨.inl (.inl e5), fun p np => q _ p (g5.trans (Gp.gr (Gr.new np))) ?_⟩⟩
      rw [upd_same, ehd]
      rfl
end
end SfC
namespace SfC
open PySem PySem.Spec PyProof.Rows L2 SfG
theorem RowAt.kd {K : PySem.W.Frag} {C x : Addr} {H H' : Hp} {n : Int} {ws : List Str} {i : Nat} (r : RowAt C H x n ws i) (g : Gp x H H') : Kd K H H' := by
  obtain ⟨dx, wl, hx, _⟩ := r
  refine ⟨fun {a xs} h => ?_, fun {a xs} h => gp_sqtI g hx h⟩
  rcases h with (h | ⟨o, h⟩) | h
  · refine .inl (.inl (g.keep a _ (fun z => ?_) h (fun _ z => by cases z)))
    rw [z, hx] at h
    cases h
  · refine .inl (.inr ⟨o, g.keep a _ (fun z => ?_) h (fun _ z => by cases z)⟩)
    rw [z, hx] at h
    cases h
  · exact .inr h
theorem kS_colon {hd : List Str} (hn : ∀ z ∈ hd, isN z = true) {k : Kn} (h : goK hd k) : V.str (kS k) ≠ V.str colon := by
  intro e
  have e1 := V.str.inj e
  cases k with
  | h s =>
    have := hn s h
    rw [show s = colon from e1] at this
    exact absurd this (by decide +kernel)
  | p n =>
    obtain ⟨h2, h9⟩ := h
    have e2 := congrArg (fun z : Str => z.cps.toList) e1
    have e3 : colon.cps.toList = [58] := by decide +kernel
    simp only [e3] at e2
    have e4 : 48 + n.toNat = 58 := by simpa [kS] using e2
    omega
theorem wsD_tk {e : De} {j : Nat} {k : Kn} (h : e.tk[j]? = some k) : (wsD e)[1 + j]? = some (kS k) := by
  unfold wsD
  rw [Nat.add_comm, List.getElem?_cons_succ, List.getElem?_append_left (by rw [List.length_map]; exact lt_of_at h), List.getElem?_map, h]
  rfl
theorem wsD_colon (e : De) : (wsD e)[1 + e.tk.length]? = some colon := by
  unfold wsD
  rw [Nat.add_comm, List.getElem?_cons_succ, List.getElem?_append_right (by rw [List.length_map]; exact Nat.le_refl _), List.length_map, Nat.sub_self]
  rfl
theorem wsD_gv (e : De) : (wsD e)[1 + e.tk.length + 1]? = some (kS e.gv) := by
  unfold wsD
  rw [show 1 + e.tk.length + 1 = (e.tk.length + 1) + 1 by omega, List.getElem?_cons_succ, List.getElem?_append_right (by rw [List.length_map]; omega), List.length_map, Nat.add_sub_cancel_left]
  rfl
theorem wsD_all (e : De) : (wsD e).length = 1 + e.tk.length + 1 + 1 := by
  unfold wsD
  rw [List.length_cons, List.length_append, List.length_map]
  show e.tk.length + 2 + 1 = _
  omega
section
variable {P : Program} {w : World} {K : PySem.W.Frag} {mg : Str → Option Value} {base : Heap}
def spReadT (K : PySem.W.Frag) (C : Addr) : Sp := fun vs H Q _ => ∃ (x ph : Addr) (n : Int) (e : De) (hd : List Str), vs = [.ref x, .ref ph] ∧ RowAt C H x n (wsD e) 1 ∧ goD hd e ∧ (∀ z ∈ hd, isN z = true) ∧ SqT K H ph (hd.map V.str) ∧
  ∀ H' v, Gp x H H' → RowAt C H' x n (wsD e) (1 + e.tk.length + 1) → Dp K H' v (.tuple (e.tk.map Kn.d)) → Q v H'
set_option maxHeartbeats 1000000 in
theorem ok_readT {f fS fT fW fC fB fA C : Addr} {fd dS dT dW dC dB dA : FuncData} {k : Nat} (F : Fun K "read_takes" "read_takes" sReadT f fd) (Z : Rws P w K mg base C k fS fT fW fC dS dT dW dC) (HB : Has P w K mg base k "kind_by" ["word"] spKindBy fB dB)
    (HA : Has P w K mg base k "are_takes" ["thing", "hidden"] (spAreT K) fA dA) : FnOk P w K mg base CX0 (k + 1) f fd ["row", "hidden"] (spReadT K C) := by
  refine F.ok scReadT (fun vs H Q E h => ?_) (fun cdv A outer s H vs Q E hr h => ?_)
  · obtain ⟨x, ph, n, e, hd, rfl, _⟩ := h
    rfl
  · obtain ⟨x, ph, n, e, hd, rfl, r0, gd, hn, hph, q⟩ := h
    have nd := scReadT.nd
    refine' ⟨_, pss_cons ?s1 (pss_cons ?s2 (pss_cons ?s3 (pss_one ?s4))), ?rd⟩
    case s1 => exact ps_set (i := 2) nd rfl (.inl rfl) (pe_tup pa_nil)
    case s2 =>
      exact ps_while PassesOwn.never (pt_cmpR op_ne (pe_meth0 (pv 0) Z.R.cl Z.HS.me Z.HS.ok hr Z.HS.bd .nil pass0) pe_str (nomark _))
        (pss_cons (ps_set (i := 3) nd rfl (.inl rfl) (pe_tup (StX.pa_star (pv 2) (pa_cons (hcall HB hr (pa_cons (pe_meth0 (pv 0) Z.R.cl Z.HS.me Z.HS.ok hr Z.HS.bd .nil pass0) pa_nil)) pa_nil))))
        (pss_cons (ps_expr (pe_meth (pv 0) Z.R.cl Z.HT.me Z.HT.ok hr Z.HT.bd .nil pass0 (pa_cons (hcall HA hr (pa_cons (pv 3) (pa_cons (pv 1) pa_nil))) pa_nil)))
        (pss_one (ps_set (i := 2) nd rfl (.inl rfl) (pv 3)))))
    case s3 => exact ps_expr (pe_meth (pv 0) Z.R.cl Z.HW.me Z.HW.ok hr Z.HW.bd .nil pass0 (pa_cons pe_str pa_nil))
    case s4 => exact ps_ret (pv 2)
    case rd =>
    refine ⟨Nat.zero_le _, fun t0 nt0 => ?_⟩
    have all := wsD_all e
    have h3 := gd.len
    refine ⟨fun d σ H1 => ∃ (j : Nat) (tp : Addr) (y3 : Option V), σ = [some (.ref x), some (.ref ph), some (.ref tp), y3] ∧ j ≤ e.tk.length ∧ Gp x H H1 ∧ RowAt C H1 x n (wsD e) (1 + j) ∧ H1 tp = some (.tup ((e.tk.take j).map Kn.v)) ∧ SqT K H1 ph (hd.map V.str) ∧ d = e.tk.length - j,
      ⟨_, 0, t0, none, rfl, Nat.zero_le _, Gp.gr (Gr.new nt0), r0.gr (Gr.new nt0), upd_same, (Gr.new nt0).sqt hph, rfl⟩, ?_⟩
    rintro d σ H1 ⟨j, tp, y3, rfl, hj, g1, r1, htp, hph1, rfl⟩
    obtain ⟨dx, fs, e0, a1, a2, a3, a4⟩ := r1.has
    refine ⟨_, rfl, x, dx, fs, rfl, e0, a1, x, n, wsD e, 1 + j, rfl, r1, by omega, ?_⟩
    rcases Nat.lt_or_ge j e.tk.length with hlt | hge
    · have hk : e.tk[j]? = some e.tk[j] := List.getElem?_eq_getElem hlt
      generalize e.tk[j] = kn at hk
      have gk := gd.tk kn (List.mem_of_getElem? hk)
      have hw := wsD_tk hk
      rw [seen_is hw]
      refine ⟨rfl, _, rfl, ?_⟩
      rw [decide_eq_false (kS_colon hn gk)]
      refine iteT ⟨fun σ' H' => ∃ (tp : Addr) (y3 : Option V), σ' = [some (.ref x), some (.ref ph), some (.ref tp), y3] ∧ Gp x H H' ∧ RowAt C H' x n (wsD e) (1 + (j + 1)) ∧ H' tp = some (.tup ((e.tk.take (j + 1)).map Kn.v)) ∧ SqT K H' ph (hd.map V.str), ?_, ?_⟩
      · rintro σ' H' ⟨tp', y', b1, b2, b3, b4, b5⟩
        exact ⟨e.tk.length - (j + 1), by omega, j + 1, tp', y', b1, hlt, b2, b3, b4, b5, rfl⟩
      · refine ⟨_, rfl, tp, _, rfl, .inl (.inl (.inl htp)), _, rfl, x, dx, fs, rfl, e0, a1, x, n, wsD e, 1 + j, rfl, r1, by omega, ?_⟩
        rw [seen_is hw]
        refine ⟨kn, hd, rfl, gk, hn, ?_, fun t1 nt1 => ?_⟩
        · rw [List.length_append, List.length_map, List.length_take]
          exact Nat.le_of_lt (small1000 (by show _ + 1 ≤ 1000; omega))
        have eV : (e.tk.take j).map Kn.v ++ [kn.v] = (e.tk.take (j + 1)).map Kn.v := by
          rw [List.take_add_one, hk, List.map_append]
          rfl
        rw [eV]
        have g2 : Gr H1 (upd H1 t1 (.tup ((e.tk.take (j + 1)).map Kn.v))) := Gr.new nt1
        have e2 : upd H1 t1 (.tup ((e.tk.take (j + 1)).map Kn.v)) t1 = some (.tup ((e.tk.take (j + 1)).map Kn.v)) := upd_same
        generalize upd H1 t1 (.tup ((e.tk.take (j + 1)).map Kn.v)) = H2 at g2 e2 ⊢
        have r2 := r1.gr g2
        obtain ⟨dx2, fs2, c0, c1, c2, c3, c4⟩ := r2.has
        refine ⟨_, rfl, x, dx2, fs2, rfl, c0, c2, _, rfl, _, rfl, .ref t1, e.tk.take (j + 1), hd, ph, rfl, .tup (.inl (.inl e2)) (dpA_kv _), g2.sqt hph1, ?_, ?_, ?_, fun H3 g3 => ?_⟩
        · rw [List.length_take]
          omega
        · exact fun k hk => gd.tk k (List.mem_of_mem_take hk)
        · refine Nat.le_trans ?_ gd.two
          unfold hidN
          exact (List.Sublist.filter _ (List.take_sublist _ _)).length_le
        refine ⟨x, n, wsD e, 1 + j, rfl, r2.gr g3, by omega, fun H4 g4 r4 => ?_⟩
        have r3 := r2.gr g3
        have e4 : H4 t1 = some (.tup ((e.tk.take (j + 1)).map Kn.v)) := by
          refine g4.keep t1 _ ?_ (g3.tup e2) (fun _ z => by cases z)
          intro z
          rw [z, c0] at e2
          cases e2
        refine ⟨_, rfl, t1, _, rfl, ((g1.trans (Gp.gr g2)).trans (Gp.gr g3)).trans g4, ?_, e4, r3.sqt g4 ((g2.trans g3).sqt hph1)⟩
        rw [show 1 + (j + 1) = 1 + j + 1 by omega]
        exact r4
    · have ej : j = e.tk.length := by omega
      subst ej
      rw [seen_is (wsD_colon e)]
      refine ⟨rfl, _, rfl, ?_⟩
      rw [decide_eq_true rfl]
      refine iteF ?_
      refine ⟨_, rfl, x, dx, fs, rfl, e0, a3, x, n, wsD e, 1 + e.tk.length, colon, rfl, r1, wsD_colon e, fun H2 g2 r2 => ?_⟩
      rw [List.take_length] at htp
      refine ⟨_, rfl, q H2 _ (g1.trans g2) r2 (.tup (r1.sqt g2 (.inl (.inl htp))) (dpA_kv _))⟩
def spReadD (K : PySem.W.Frag) (C : Addr) : Sp := fun vs H Q _ => ∃ (x ph : Addr) (n : Int) (e : De) (hd : List Str) (a : Str), vs = [.ref x, .ref ph, .str a] ∧ RowAt C H x n (wsD e) 0 ∧ goD hd e ∧ (∀ z ∈ hd, isN z = true) ∧ lt a e.nm ∧ SqT K H ph (hd.map V.str) ∧
  ∀ H' v, Gp x H H' → Dp K H' v e.d → Q v H'
set_option maxHeartbeats 1000000 in
theorem ok_readD {f fS fT fW fC fN fR fB fK C : Addr} {fd dS dT dW dC dN dR dB dK : FuncData} {k : Nat} (F : Fun K "read_deed" "read_deed" sReadD f fd) (Z : Rws P w K mg base C k fS fT fW fC dS dT dW dC) (HN : Has P w K mg base k "is_next_name" ["thing", "ahead"] spNextN fN dN)
    (HR : Has P w K mg base k "read_takes" ["row", "hidden"] (spReadT K C) fR dR) (HB : Has P w K mg base k "kind_by" ["word"] spKindBy fB dB) (HK : Has P w K mg base k "is_kind" ["thing", "hidden"] (spKind K) fK dK) :
    FnOk P w K mg base CX0 (k + 1) f fd ["row", "hidden", "ahead"] (spReadD K C) := by
  refine F.ok scReadD (fun vs H Q E h => ?_) (fun cdv A outer s H vs Q E hr h => ?_)
  · obtain ⟨x, ph, n, e, hd, a, rfl, _⟩ := h
    rfl
  · obtain ⟨x, ph, n, e, hd, a, rfl, r0, gd, hn, hlt, hph, q⟩ := h
    have nd := scReadD.nd
    refine' ⟨_, pss_cons ?s1 (pss_cons ?s2 (pss_cons ?s3 (pss_cons ?s4 (pss_cons ?s5 (pss_one ?s6))))), ?rd⟩
    case s1 => exact ps_set (i := 3) nd rfl (.inl rfl) (pe_meth (pv 0) Z.R.cl Z.HT.me Z.HT.ok hr Z.HT.bd .nil pass0 (pa_cons (hcall HN hr (pa_cons (pe_meth0 (pv 0) Z.R.cl Z.HS.me Z.HS.ok hr Z.HS.bd .nil pass0) (pa_cons (pv 2) pa_nil))) pa_nil))
    case s2 => exact ps_set (i := 4) nd rfl (.inl rfl) (hcall HR hr (pa_cons (pv 0) (pa_cons (pv 1) pa_nil)))
    case s3 => exact ps_set (i := 5) nd rfl (.inl rfl) (hcall HB hr (pa_cons (pe_meth0 (pv 0) Z.R.cl Z.HS.me Z.HS.ok hr Z.HS.bd .nil pass0) pa_nil))
    case s4 => exact ps_expr (pe_meth (pv 0) Z.R.cl Z.HT.me Z.HT.ok hr Z.HT.bd .nil pass0 (pa_cons (hcall HK hr (pa_cons (pv 5) (pa_cons (pv 1) pa_nil))) pa_nil))
    case s5 => exact ps_expr (pe_meth0 (pv 0) Z.R.cl Z.HC.me Z.HC.ok hr Z.HC.bd .nil pass0)
    case s6 => exact ps_ret (pe_tup (pa_cons (pv 3) (pa_cons (pv 4) (pa_cons (pv 5) pa_nil))))
    case rd =>
    have all := wsD_all e
    have w0 : (wsD e)[0]? = some e.nm := rfl
    obtain ⟨dx, fs, e0, a1, a2, a3, a4⟩ := r0.has
    refine ⟨_, rfl, x, dx, fs, rfl, e0, a2, _, rfl, x, dx, fs, rfl, e0, a1, x, n, wsD e, 0, rfl, r0, Nat.zero_le _, ?_⟩
    rw [seen_is w0]
    refine ⟨_, rfl, e.nm, a, rfl, gd.nm, hlt, x, n, wsD e, 0, rfl, r0, Nat.zero_le _, fun H1 g1 r1 => ?_⟩
    rw [seen_is w0]
    -- takes
    refine ⟨_, rfl, _, rfl, x, ph, n, e, hd, rfl, r1, gd, hn, r0.sqt g1 hph, fun H2 v g2 r2 dv => ?_⟩
    have g12 := g1.trans g2
    -- gives
    have w2 := wsD_gv e
    have l2 : 1 + e.tk.length + 1 ≤ (wsD e).length := by omega
    obtain ⟨dx2, fs2, c0, c1, c2, c3, c4⟩ := r2.has
    refine ⟨_, rfl, x, dx2, fs2, rfl, c0, c1, x, n, wsD e, 1 + e.tk.length + 1, rfl, r2, l2, ?_⟩
    rw [seen_is w2]
    refine ⟨e.gv, hd, rfl, gd.gv, hn, ?_⟩
    refine ⟨_, rfl, x, dx2, fs2, rfl, c0, c2, _, rfl, _, rfl, e.gv, hd, ph, rfl, r0.sqt g12 hph, gd.gv, x, n, wsD e, 1 + e.tk.length + 1, rfl, r2, l2, fun H3 g3 r3 => ?_⟩
    -- the end
    have r3' : RowAt C H3 x n (wsD e) (wsD e).length := by
      rw [all]
      exact r3
    obtain ⟨dx3, fs3, d0, d1, d2, d3, d4⟩ := r3.has
    refine ⟨_, rfl, x, dx3, fs3, rfl, d0, d4, x, n, wsD e, rfl, r3', ?_⟩
    refine ⟨_, rfl, _, rfl, _, rfl, by show 3 ≤ sizeLine; decide, fun t nt => ?_⟩
    have g4 : Gr H3 (upd H3 t (.tup [.str e.nm, v, e.gv.v])) := Gr.new nt
    exact q _ _ ((g12.trans g3).trans (Gp.gr g4)) (.tup (.inl (.inl upd_same)) (.cons (.str _) (.cons (g4.kd.dp ((r2.kd g3).dp dv)) (.cons (dp_kv e.gv) .nil))))
end
end SfC
namespace SfC
open PySem PySem.Spec PyProof.Rows L2 SfG
theorem scReadFB : FnScope ["rows", "ahead", "hidden", "deeds", "most", "number"] ["rows", "ahead"] (defScope sReadFB) := ⟨rfl, rfl, rfl, by decide +kernel, rfl, by decide +kernel, by decide +kernel⟩
theorem at_neg {α : Type} {xs : List α} {i : Nat} {v : α} (hl : xs.length = i + 1) (h : xs[i]? = some v) : atI xs (-1) = some v := by
  rcases List.eq_nil_or_concat xs with e | ⟨L, b, e⟩
  · rw [e] at hl
    cases hl
  · have e' : xs = L ++ [b] := by simpa using e
    have hL : L.length = i := by
      rw [e', List.length_append] at hl
      have : L.length + 1 = i + 1 := hl
      omega
    rw [e', ← hL, List.getElem?_append_right (Nat.le_refl _), Nat.sub_self] at h
    have hb : b = v := Option.some.inj h
    rw [e', ← hb]
    exact atI_last L b
theorem rows_ok {f : Fc} (go : goF f) : ∀ z ∈ rowsF f, 10 ∉ TL.tl z := by
  intro z hz
  rcases List.mem_cons.mp hz with rfl | hz
  · exact row_feed (clean_wsH go.hid.nm)
  · obtain ⟨e, he, rfl⟩ := List.mem_map.mp hz
    exact row_feed (clean_wsD go.hid.nm (go.ok e he))
theorem rows_len {f : Fc} (go : goF f) : ∀ z ∈ rowsF f, z.length ≤ 60 := by
  intro z hz
  rcases List.mem_cons.mp hz with rfl | hz
  · have a := row_len (clean_wsH go.hid.nm)
    have b := wsH_len go.hid
    unfold rowH
    omega
  · obtain ⟨e, he, rfl⟩ := List.mem_map.mp hz
    have a := row_len (clean_wsD go.hid.nm (go.ok e he))
    have b := wsD_len (go.ok e he)
    unfold rowD
    omega
theorem text_len {f : Fc} (go : goF f) : (textF f).length ≤ 1000 := by
  have a := join_len feed (by decide +kernel) (rows_len go)
  have b : (rowsF f).length ≤ 9 := by
    show (f.ds.map rowD).length + 1 ≤ 9
    rw [List.length_map]
    have := go.hi
    omega
  unfold textF
  have : (rowsF f).length * (60 + 1) ≤ 9 * 61 := Nat.mul_le_mul_right _ b
  omega
section
variable {P : Program} {w : World} {K : PySem.W.Frag} {mg : Str → Option Value} {base : Heap}
def spReadF (K : PySem.W.Frag) : Sp := fun vs H Q _ => ∃ f : Fc, vs = [.str (textF f)] ∧ goF f ∧ ∀ H' v, Gr H H' → Dp K H' v f.d → Q v H'
/-- the face of all rows behind the first so many -/
def spReadFB (K : PySem.W.Frag) : Sp := fun vs H Q _ => ∃ (rl : Addr) (pre : List Str) (f : Fc), vs = [.ref rl, .int (pre.length : Int)] ∧ H rl = some (.lst ((pre ++ rowsF f).map V.str)) ∧ pre.length ≤ 100000 ∧ goF f ∧ ∀ H' v, Gr H H' → Dp K H' v f.d → Q v H'
set_option maxHeartbeats 2000000 in
theorem ok_readFB {f fA fH fD fM C : Addr} {fd dA dH dD dM : FuncData} {k : Nat} {t8 : Tok} (F : Fun K "read_face_behind" "read_face_behind" sReadFB f fd) (HA : Has P w K mg base k "row_at" ["rows", "number"] (spRowAt K C) fA dA)
    (HH : Has P w K mg base k "read_hidden" ["row"] (spReadH C) fH dH) (HD : Has P w K mg base k "read_deed" ["row", "hidden", "ahead"] (spReadD K C) fD dD) (HM : Has P w K mg base k "need_no_more" ["rows", "most"] (spNoMore K) fM dM)
    (mr : mg "range" = none) (mm : mg "min" = none) (ml : mg "len" = none) (mt : mg "tuple" = none) (m8 : mg "MOST_DEEDS" = some (.int 8 t8)) : FnOk P w K mg base CX0 (k + 1) f fd ["rows", "ahead"] (spReadFB K) := by
  refine F.ok scReadFB (fun vs H Q E h => ?_) (fun cdv A outer s H vs Q E hr h => ?_)
  · obtain ⟨rl, pre, f, rfl, _⟩ := h
    rfl
  · obtain ⟨rl, pre, f, rfl, hrl, hp, go, q⟩ := h
    have nd := scReadFB.nd
    refine' ⟨_, pss_cons ?s1 (pss_cons ?s2 (pss_cons ?s3 (pss_cons ?s4 (pss_cons ?s5 (pss_one ?s6))))), ?rd⟩
    case s1 => exact ps_set (i := 2) nd rfl (.inl rfl) (hcall HH hr (pa_cons (hcall HA hr (pa_cons (pv 0) (pa_cons (pe_op op_add (pv 1) pe_int) pa_nil))) pa_nil))
    case s2 => exact ps_set (i := 3) nd rfl (.inl rfl) (pe_lst (pa_cons (hcall HD hr (pa_cons (hcall HA hr (pa_cons (pv 0) (pa_cons (pe_op op_add (pv 1) pe_int) pa_nil))) (pa_cons (pv 2) (pa_cons pe_str pa_nil)))) pa_nil))
    case s3 => exact ps_set (i := 4) nd rfl (.inl rfl) (pe_op op_add (pe_op op_add (pv 1) pe_int) (pe_glob (v := .int 8) rfl m8 ⟨_, rfl⟩))
    case s4 =>
      exact ps_for PassesOwn.never rfl (pi_range2 (by rfl) mr (pa_cons (pe_op op_add (pv 1) pe_int) (pa_cons (pe_op op_add (pe_callB (call_min2 rfl) (by rfl) mm (by decide +kernel) (pa_cons (pe_callB call_len_seq (by rfl) ml PySem.boot_len (pa_cons (pv 0) pa_nil)) (pa_cons (pv 4) pa_nil))) pe_int) pa_nil)))
        (pg_name (i := 5) nd rfl (.inl rfl))
        (pss_one (ps_expr (pe_bm PySem.F.plainAttrs_list PySem.F.slot_list_append PySem.F.type_list_append mt_append (pv 3) (pa_cons (hcall HD hr (pa_cons (hcall HA hr (pa_cons (pv 0) (pa_cons (pv 5) pa_nil))) (pa_cons (pv 2) (pa_cons (pe_ix ix_tup (pe_ix ix_list (pv 3) (pe_un un_neg pe_int) (fun _ _ => rfl)) pe_int (fun _ _ => rfl)) pa_nil)))) pa_nil))))
    case s5 => exact ps_expr (hcall HM hr (pa_cons (pv 0) (pa_cons (pv 4) pa_nil)))
    case s6 => exact ps_ret (pe_tup (pa_cons (pv 2) (pa_cons (pe_callTy call_tuple_of (by rfl) mt (by decide +kernel) (pa_cons (pv 3) pa_nil)) pa_nil)))
    case rd =>
    have hi8 := go.hi
    have hlo := go.lo
    have hn := go.hid.nm
    have rl_len : (rowsF f).length = f.ds.length + 1 := by
      show (f.ds.map rowD).length + 1 = _
      rw [List.length_map]
    have rowE : ∀ (i : Nat) (e : De), f.ds[i]? = some e → (rowsF f)[i + 1]? = some (Txt.join blank (wsD e)) := by
      intro i e he
      show (f.ds.map rowD)[i]? = _
      rw [List.getElem?_map, he]
      rfl
    have rowF : ∀ (i : Nat) (z : Str), (rowsF f)[i]? = some z → (pre ++ rowsF f)[pre.length + i]? = some z := by
      intro i z hz
      rw [List.getElem?_append_right (by omega), Nat.add_sub_cancel_left]
      exact hz
    have g1 := Gr.refl H
    -- hidden
    refine ⟨_, rfl, _, rfl, _, 1, rfl, rfl, rl, pre ++ rowsF f, pre.length, wsH f.hd, rfl, .inl (.inl hrl), rowF 0 _ rfl, by simp [wsH], clean_wsH hn, by have := wsH_len go.hid; omega, fun H2 x g2 nx r2 => ?_⟩
    refine ⟨x, _, f.hd, rfl, r2, go.hid, fun H3 ph g3 hph => ?_⟩
    have g13 : Gr H H3 := Gp.out g2 nx g3
    have hrl3 := g13.lst hrl
    -- the first deed
    obtain ⟨e0, rest, eds⟩ : ∃ e0 rest, f.ds = e0 :: rest := by
      cases hd : f.ds with
      | nil =>
        rw [hd] at hlo
        exact absurd hlo (by simp)
      | cons a r => exact ⟨a, r, rfl⟩
    have at0 : f.ds[0]? = some e0 := by rw [eds]; rfl
    have gd0 := go.ok e0 (List.mem_of_getElem? at0)
    refine ⟨_, rfl, _, rfl, _, 2, rfl, rfl, rl, pre ++ rowsF f, pre.length + 1, wsD e0, rfl, .inl (.inl hrl3), rowF 1 _ (rowE 0 e0 at0), by simp [wsD], clean_wsD hn gd0, by have := wsD_len gd0; omega, fun H4 x4 g4 nx4 r4 => ?_⟩
    refine ⟨_, rfl, x4, ph, _, e0, f.hd, "", rfl, r4, gd0, hn, nought_lt gd0.nm, g4.sqt (.inl (.inl hph)), fun H5 v5 g5 d5 => ?_⟩
    have g35 : Gr H3 H5 := Gp.out g4 nx4 g5
    refine ⟨by show 1 ≤ sizeLine; decide, fun dl ndl => ?_⟩
    have g6 : Gr H5 (upd H5 dl (.lst [v5])) := Gr.new ndl
    have e6 : upd H5 dl (.lst [v5]) dl = some (.lst [v5]) := upd_same
    have n5 : H3 dl = none := g35.back dl ndl
    generalize upd H5 dl (.lst [v5]) = H6 at g6 e6 ⊢
    have g36 : Gr H3 H6 := g35.trans g6
    have hrl6 := g36.lst hrl3
    -- the others
    refine ⟨_, rfl, _, 1, rfl, rfl, _, 8, rfl, rfl, ?_⟩
    have al_len : (pre ++ rowsF f).length = pre.length + (f.ds.length + 1) := by rw [List.length_append, rl_len]
    refine ⟨_, rfl, _, 3, rfl, rfl, _, rfl, rl, _, rfl, .inl (.inl (.inl hrl6)), _, rfl, _, _, rfl, _, 1, rfl, rfl, ?_⟩
    rw [List.length_map, al_len, if_neg (show ¬ (pre.length : Int) + 1 + 8 < ((pre.length + (f.ds.length + 1) : Nat) : Int) by omega)]
    refine ⟨(pre.length : Int) + 3, ((pre.length + (f.ds.length + 1) : Nat) : Int) + 1, rfl, ⟨by omega, by omega, by omega, by omega⟩, ?_⟩
    have cnt : (((pre.length + (f.ds.length + 1) : Nat) : Int) + 1 - ((pre.length : Int) + 3)).toNat = f.ds.length - 1 := by omega
    rw [cnt]
    refine for_it (walk_range (lo := (pre.length : Int) + 3) (n := f.ds.length - 1)) (fun i σ H7 => ∃ (xs : List V) (y4 : Option V), σ = [some (.ref rl), some (.int (pre.length : Int)), some (.ref ph), some (.ref dl), some (.int ((pre.length : Int) + 1 + 8)), y4] ∧ H7 dl = some (.lst xs) ∧ DpAll K H7 xs ((f.ds.take (i + 1)).map De.d) ∧ Gr H3 H7)
      ⟨[v5], none, rfl, e6, by rw [eds]; exact .cons (g6.kd.dp d5) .nil, g36⟩ (fun _ _ _ _ _ => trivial) ?h2 ?h3
    case h2 =>
      rintro i y σ H7' H7 hi ⟨xs, y4, rfl, e7, da7, g7⟩ ⟨rfl, rfl⟩
      have ai : f.ds[i]? = some f.ds[i] := List.getElem?_eq_getElem (by omega)
      have ai1 : f.ds[i + 1]? = some f.ds[i + 1] := List.getElem?_eq_getElem (by omega)
      have up := List.pairwise_iff_getElem.mp go.up i (i + 1) (by rw [List.length_map]; omega) (by rw [List.length_map]; omega) (by omega)
      rw [List.getElem_map, List.getElem_map] at up
      generalize f.ds[i] = ea at ai up
      generalize f.ds[i + 1] = eb at ai1 up
      have gdb := go.ok eb (List.mem_of_getElem? ai1)
      have lx : xs.length = i + 1 := by
        have a := dpA_len da7
        rw [List.length_map, List.length_take] at a
        omega
      obtain ⟨va, hva, dva⟩ := dpA_get (i := i) (d := ea.d) da7 (by rw [List.getElem?_map, List.getElem?_take_of_lt (by omega), ai]; rfl)
      refine ⟨_, rfl, .inl ⟨rfl, _, .inl (.inl e7)⟩, _, rfl, _, rfl, rl, pre ++ rowsF f, pre.length + (i + 2), wsD eb, ?_, .inl (.inl (g7.lst hrl3)), rowF (i + 2) _ (rowE (i + 1) eb ai1), by simp [wsD], clean_wsD hn gdb, by have := wsD_len gdb; omega, fun H8 x8 g8 nx8 r8 => ?_⟩
      · show [V.ref rl, V.int ((pre.length : Int) + 3 + (i : Int))] = [V.ref rl, V.int ((pre.length + (i + 2) + 1 : Nat) : Int)]
        rw [show (pre.length : Int) + 3 + (i : Int) = ((pre.length + (i + 2) + 1 : Nat) : Int) by omega]
      have e8 := g8.lst e7
      obtain ⟨pe, n1, t1, v1, rfl, hpe, dn, dt, dv⟩ := dp_3 (g8.kd.dp dva)
      cases dp_str dn
      refine ⟨_, rfl, _, rfl, 1, rfl, dl, _, -1, _, rfl, rfl, .inl (.inl e8), at_neg lx hva, pe, _, 0, _, rfl, rfl, hpe, rfl, x8, ph, _, eb, f.hd, ea.nm, rfl, r8, gdb, hn, up, (g7.trans g8).sqt (.inl (.inl hph)), fun H9 v9 g9 d9 => ?_⟩
      have g79 : Gr H7 H9 := Gp.out g8 nx8 g9
      have e9 := g79.lst e7
      refine ⟨dl, _, _, rfl, rfl, e9, small1000 (by omega), ?_⟩
      refine ⟨xs ++ [v9], _, rfl, upd_same, ?_, (g7.trans g79).upd_new n5⟩
      rw [List.take_add_one (i := i + 1), ai1, List.map_append]
      exact dpA_app (des_lst e9 (g79.kd.dpA da7)) (.cons (de_lst e9 d9) .nil)
    case h3 =>
      rintro σ H7 ⟨xs, y4, rfl, e7, da7, g7⟩
      rw [show f.ds.length - 1 + 1 = f.ds.length by omega, List.take_length] at da7
      refine ⟨_, rfl, _, rfl, rl, _, _, rfl, .inl (.inl (g7.lst hrl3)), ?_, ?_⟩
      · rw [List.length_map, al_len]
        show ((pre.length + (f.ds.length + 1) : Nat) : Int) ≤ (pre.length : Int) + 1 + 8
        omega
      refine ⟨_, rfl, _, rfl, dl, _, rfl, .inl ⟨.inl (.inl e7), fun td ntd => ?_⟩⟩
      have k1 : Gr H7 (upd H7 td (.tup xs)) := Gr.new ntd
      have w1 : upd H7 td (.tup xs) td = some (.tup xs) := upd_same
      generalize upd H7 td (.tup xs) = H8 at k1 w1 ⊢
      refine ⟨by show 2 ≤ sizeLine; decide, fun tf ntf => ?_⟩
      have k2 : Gr H8 (upd H8 tf (.tup [.ref ph, .ref td])) := Gr.new ntf
      refine q _ (.ref tf) (g1.trans (g13.trans (g7.trans (k1.trans k2)))) ?_
      exact .tup (.inl (.inl upd_same)) (.cons (.tup (.inl (.inl (k2.tup (k1.tup (g7.tup hph))))) (dpA_sv f.hd)) (.cons (.tup (.inl (.inl (k2.tup w1))) ((k1.trans k2).kd.dpA da7)) .nil))
end
end SfC
namespace SfC
open PySem PySem.Spec PyProof.Rows L2 SfG
abbrev nDeedRow : List Str := ["deed", "name", "takes", "gives", "words", "word"]
theorem scDeedRow : FnScope nDeedRow ["deed"] (defScope sDeedRow) := ⟨rfl, rfl, rfl, by decide +kernel, rfl, by decide +kernel, by decide +kernel⟩
theorem scFaceRows : FnScope ["face", "hidden", "deeds", "rows", "deed"] ["face"] (defScope sFaceRows) := ⟨rfl, rfl, rfl, by decide +kernel, rfl, by decide +kernel, by decide +kernel⟩
/-- str of a text or a number -/
def rStrX : List V → Hp → VK → Prop := fun xs H Q => (∃ a, xs = [.str a] ∧ Q (.str a) H) ∨ ∃ i : Int, xs = [.int i] ∧ i.natAbs.log2 < 1920 ∧ Q (.str (toString i)) H
theorem call_strX {X : Cx} : CallR X (.type "str") rStrX := by
  intro pins s σ H xs us Q I r h
  rcases h with h | h
  · exact SkE.call_str_str pins s σ H xs us Q I r h
  · exact call_str_int pins s σ H xs us Q I r h
theorem app_len (a b : Str) : (a ++ b).length = a.length + b.length := by
  show (a.cps ++ b.cps).size = _
  exact Array.size_append
theorem str_kn {hd : List Str} {k : Kn} (h : goK hd k) {H : Hp} {Q : VK} (q : Q (.str (kS k)) H) : rStrX [k.v] H Q := by
  cases k with
  | h s => exact .inl ⟨s, rfl, q⟩
  | p n =>
    obtain ⟨h2, h9⟩ := h
    refine .inr ⟨n, rfl, ?_, ?_⟩
    · have e : n.natAbs ≠ 0 := by omega
      refine Nat.lt_of_lt_of_le ((Nat.log2_lt (k := 10) e).mpr ?_) (by decide)
      have : (2 : Nat) ^ 10 = 1024 := by decide
      omega
    · rw [str_kind h2 h9]
      exact q
/-- the words of a row, ahead of str -/
def wkD (e : De) : List Kn := .h e.nm :: (e.tk ++ [.h colon, e.gv])
theorem wkD_S (e : De) : (wkD e).map kS = wsD e := by
  unfold wkD wsD
  rw [List.map_cons, List.map_append]
  rfl
theorem wkD_V (e : De) : (wkD e).map Kn.v = .str e.nm :: (e.tk.map Kn.v ++ [.str colon, e.gv.v]) := by
  unfold wkD
  rw [List.map_cons, List.map_append]
  rfl
theorem sum_len : ∀ {ws : List Str}, (∀ z ∈ ws, z.length ≤ 1000) → (ws.map (·.length)).sum ≤ ws.length * 1000
  | [], _ => by simp
  | a :: r, h => by
    rw [List.map_cons, List.sum_cons, List.length_cons, Nat.succ_mul]
    have h1 := h a List.mem_cons_self
    have h2 := sum_len fun z hz => h z (List.mem_cons_of_mem _ hz)
    omega
theorem rows_lenX {f : Fc} (go : goF f) : ∀ z ∈ rowsF f, z.length ≤ 60 := by
  intro z hz
  rcases List.mem_cons.mp hz with rfl | hz
  · have a := row_len (clean_wsH go.hid.nm)
    have b := wsH_len go.hid
    unfold rowH
    omega
  · obtain ⟨e, he, rfl⟩ := List.mem_map.mp hz
    have a := row_len (clean_wsD go.hid.nm (go.ok e he))
    have b := wsD_len (go.ok e he)
    unfold rowD
    omega
section
variable {P : Program} {w : World} {K : PySem.W.Frag} {mg : Str → Option Value} {base : Heap}
def spDeedRow (K : PySem.W.Frag) : Sp := fun vs H Q _ => ∃ (x : V) (e : De) (hd : List Str), vs = [x] ∧ Dp K H x e.d ∧ goD hd e ∧ (∀ z ∈ hd, isN z = true) ∧ ∀ H', Gr H H' → Q (.str (rowD e)) H'
theorem ok_deedRow {f : Addr} {fd : FuncData} {k : Nat} (F : Fun K "deed_row" "deed_row" sDeedRow f fd) (m1 : mg "str" = none) : FnOk P w K mg base CX0 (k + 1) f fd ["deed"] (spDeedRow K) := by
  refine F.ok scDeedRow (fun vs H Q E h => ?_) (fun cdv A outer s H vs Q E hr h => ?_)
  · obtain ⟨x, e, hd, rfl, _⟩ := h
    rfl
  · obtain ⟨x, e, hd, rfl, hx, gd, hn, q⟩ := h
    have nd := scDeedRow.nd
    refine' ⟨_, pss_cons ?s1 (pss_cons ?s2 (pss_one ?s3)), ?rd⟩
    case s1 => exact ps_asg (pv 0) (pg_tup rfl (pgs_cons (pg_name (i := 1) nd rfl (.inl rfl)) (pgs_cons (pg_name (i := 2) nd rfl (.inl rfl)) (pgs_cons (pg_name (i := 3) nd rfl (.inl rfl)) pgs_nil))))
    case s2 => exact ps_set (i := 4) nd rfl (.inl rfl) (pe_lst (pa_cons (pv 1) (StX.pa_star (pv 2) (pa_cons pe_str (pa_cons (pv 3) pa_nil)))))
    case s3 =>
      exact ps_ret (pe_join pe_str (pe_lc (own := [("word", 5)]) (g := gName 5) rfl nd (pi_list (pv 4)) (blkOk_by (own := [("word", 5)]) (N := nDeedRow) (sc := defScope sDeedRow) (by decide +kernel)) (fun _ _ _ _ _ => pg_name (i := 5) nd rfl (Or.inl rfl)) (fun _ _ _ _ _ => pts_nil)
        (fun _ _ _ _ _ => pe_callTy call_strX (by rfl) m1 (by decide +kernel) (pa_cons (pv 5) pa_nil))))
    case rd =>
    obtain ⟨pe, n1, t1, v1, rfl, hpe, dn, dt, dv⟩ := dp_3 hx
    cases dp_str dn
    cases dp_kn dv
    obtain ⟨pt, ts, rfl, hpt, hts⟩ := dp_tup dt
    cases dpA_kns hts
    have h3 := gd.len
    have lw : (wkD e).length ≤ 6 := by
      have := wsD_len gd
      rw [← wkD_S, List.length_map] at this
      exact this
    refine ⟨_, rfl, pe, _, rfl, hpe, rfl, _, _, rfl, _, _, rfl, _, _, rfl, rfl, ?_⟩
    refine ⟨_, rfl, _, rfl, pt, _, rfl, .inl hpt, _, rfl, ?_, fun wl nwl => ?_⟩
    · show (V.str e.nm :: (e.tk.map Kn.v ++ [.str colon, e.gv.v])).length ≤ sizeLine
      rw [← wkD_V, List.length_map]
      exact Nat.le_of_lt (small1000 (by omega))
    have eW : upd H wl (.lst (V.str e.nm :: (e.tk.map Kn.v ++ [.str colon, e.gv.v]))) = upd H wl (.lst ((wkD e).map Kn.v)) := by rw [wkD_V]
    have g1 : Gr H (upd H wl (.lst (V.str e.nm :: (e.tk.map Kn.v ++ [.str colon, e.gv.v])))) := Gr.new nwl
    have e1 : upd H wl (.lst (V.str e.nm :: (e.tk.map Kn.v ++ [.str colon, e.gv.v]))) wl = some (.lst ((wkD e).map Kn.v)) := by rw [eW]; exact upd_same
    clear eW
    generalize upd H wl (.lst (V.str e.nm :: (e.tk.map Kn.v ++ [.str colon, e.gv.v]))) = H1 at g1 e1 ⊢
    refine ⟨⟨_, rfl⟩, _, rfl, wl, rfl, ⟨_, .inl (.inl e1)⟩, fun D nD => ?_⟩
    have gD : ∀ o, Gr H1 (upd H1 D o) := fun o => Gr.new nD
    refine lc_it (walk_list (xs := (wkD e).map Kn.v)) (fun i H2 => H2 = upd H1 D (.lst ((((wkD e).take i).map kS).map V.str))) rfl ?c0 ?c1 ?c2
    case c0 =>
      rintro i H2 hi rfl
      exact .inl (.inl ((gD _).lst e1))
    case c1 =>
      rintro i y H2 H2' hi rfl ⟨rfl, hy⟩
      rw [List.getElem?_map] at hy
      obtain ⟨kn, hkn, rfl⟩ := Option.map_eq_some_iff.mp hy
      refine ⟨rfl, ?_⟩
      unfold tYes
      refine iteT ⟨_, rfl, ?_⟩
      have fin : ∃ acc, upd H1 D (.lst ((((wkD e).take i).map kS).map V.str)) D = some (.lst acc) ∧ acc.length < sizeLine ∧ upd (upd H1 D (.lst ((((wkD e).take i).map kS).map V.str))) D (.lst (acc ++ [.str (kS kn)])) = upd H1 D (.lst ((((wkD e).take (i + 1)).map kS).map V.str)) := by
        refine ⟨_, upd_same, ?_, ?_⟩
        · rw [List.length_map, List.length_map, List.length_take]
          exact small1000 (by omega)
        · rw [upd_upd, List.take_add_one, hkn, List.map_append, List.map_append]
          rfl
      rcases List.mem_cons.mp (List.mem_of_getElem? hkn) with rfl | hm
      · exact .inl ⟨_, rfl, fin⟩
      · rcases List.mem_append.mp hm with h | h
        · have T : ∀ (H : Hp) (Q : VK), Q (.str (kS kn)) H → rStrX [kn.v] H Q := fun H Q q => str_kn (gd.tk kn h) q
          delta tNil
          refine T _ _ ?_
          exact fin
        · have h' : kn = .h colon ∨ kn = e.gv := by simpa using h
          rcases h' with rfl | rfl
          · exact .inl ⟨_, rfl, fin⟩
          · have T : ∀ (H : Hp) (Q : VK), Q (.str (kS e.gv)) H → rStrX [e.gv.v] H Q := fun H Q q => str_kn gd.gv q
            delta tNil
            refine T _ _ ?_
            exact fin
    case c2 =>
    rintro H2 rfl
    rw [List.length_map, List.take_length, wkD_S]
    have cl := clean_wsD hn gd
    refine ⟨blank, D, wsD e, rfl, rfl, .inl (.inl (.inl upd_same)), ?_, ?_⟩
    · have a := sum_len (ws := wsD e) fun z hz => Nat.le_trans (cl z hz).2.1 (by decide)
      have b := wsD_len gd
      have c : blank.length = 1 := by decide +kernel
      rw [c]
      omega
    · exact q _ (g1.trans (gD _))
def spFText (K : PySem.W.Frag) : Sp := fun vs H Q _ => ∃ (x : V) (f : Fc), vs = [x] ∧ Dp K H x f.d ∧ goF f ∧ ∀ H', Gr H H' → Q (.str (textF f)) H'
theorem rows_sum {f : Fc} (go : goF f) : ((rowsF f).map (·.length)).sum + (rowsF f).length * 1 ≤ 16777216 := by
  have a := sum_len (ws := rowsF f) fun z hz => Nat.le_trans (rows_lenX go z hz) (by decide)
  have b : (rowsF f).length ≤ 9 := by
    show (f.ds.map rowD).length + 1 ≤ 9
    rw [List.length_map]
    have := go.hi
    omega
  omega
def spFRows (K : PySem.W.Frag) : Sp := fun vs H Q _ => ∃ (x : V) (f : Fc), vs = [x] ∧ Dp K H x f.d ∧ goF f ∧ ∀ H' p, Gr H H' → H p = none → H' p = some (.lst ((rowsF f).map V.str)) → Q (.ref p) H'
theorem ok_faceRows {f fD : Addr} {fd dD : FuncData} {k : Nat} (F : Fun K "face_rows" "face_rows" sFaceRows f fd) (HD : Has P w K mg base k "deed_row" ["deed"] (spDeedRow K) fD dD) :
    FnOk P w K mg base CX0 (k + 1) f fd ["face"] (spFRows K) := by
  refine F.ok scFaceRows (fun vs H Q E h => ?_) (fun cdv A outer s H vs Q E hr h => ?_)
  · obtain ⟨x, f, rfl, _⟩ := h
    rfl
  · obtain ⟨x, f, rfl, hx, go, q⟩ := h
    have nd := scFaceRows.nd
    refine' ⟨_, pss_cons ?s2 (pss_cons ?s3 (pss_cons ?s4 (pss_one ?s5))), ?rd⟩
    case s2 => exact ps_asg (pv 0) (pg_tup rfl (pgs_cons (pg_name (i := 1) nd rfl (.inl rfl)) (pgs_cons (pg_name (i := 2) nd rfl (.inl rfl)) pgs_nil)))
    case s3 => exact ps_set (i := 3) nd rfl (.inl rfl) (pe_lst (pa_cons (pe_join pe_str (pe_lst (pa_cons pe_str (StX.pa_star (pv 1) pa_nil)))) pa_nil))
    case s4 =>
      exact ps_for PassesOwn.never rfl (pi_tup (pv 2)) (pg_name (i := 4) nd rfl (.inl rfl)) (pss_one (ps_expr (pe_bm PySem.F.plainAttrs_list PySem.F.slot_list_append PySem.F.type_list_append mt_append (pv 3) (pa_cons (hcall HD hr (pa_cons (pv 4) pa_nil)) pa_nil))))
    case s5 => exact ps_ret (pv 3)
    case rd =>
    have hi8 := go.hi
    have hn := go.hid.nm
    have g1 : Gr H H := Gr.refl H
    have hx1 : Dp K H x f.d := hx
    generalize hH1 : H = H1 at hx1 ⊢
    obtain ⟨p, ph, pd, xs, rfl, hp, hph, hpd, dd⟩ := dp_face hx1
    have hl : xs.length = f.ds.length := by
      have := dpA_len dd
      rw [List.length_map] at this
      exact this
    refine ⟨_, rfl, p, _, rfl, hp, rfl, _, _, rfl, _, _, rfl, rfl, ?_⟩
    refine ⟨⟨_, rfl⟩, _, rfl, ph, _, rfl, .inl hph, ?_, fun wl nwl => ?_⟩
    · show (V.str "hidden" :: (f.hd.map V.str ++ [])).length ≤ sizeLine
      rw [List.append_nil, List.length_cons, List.length_map]
      have := go.hid.hi
      exact Nat.le_of_lt (small1000 (by omega))
    have g2 : Gr H1 (upd H1 wl (.lst (V.str "hidden" :: (f.hd.map V.str ++ [])))) := Gr.new nwl
    have e2 : upd H1 wl (.lst (V.str "hidden" :: (f.hd.map V.str ++ []))) wl = some (.lst ((wsH f.hd).map V.str)) := by
      rw [upd_same, List.append_nil]
      rfl
    generalize upd H1 wl (.lst (V.str "hidden" :: (f.hd.map V.str ++ []))) = H2 at g2 e2 ⊢
    refine ⟨blank, wl, wsH f.hd, rfl, rfl, .inl (.inl (.inl e2)), ?_, by show 1 ≤ sizeLine; decide, fun rl nrl => ?_⟩
    · have a := sum_len (ws := wsH f.hd) fun z hz => Nat.le_trans (clean_wsH hn z hz).2.1 (by decide)
      have b := wsH_len go.hid
      have c : blank.length = 1 := by decide +kernel
      rw [c]
      omega
    have g3 : Gr H2 (upd H2 rl (.lst [.str (rowH f.hd)])) := Gr.new nrl
    have e3 : upd H2 rl (.lst [.str (Txt.join blank (wsH f.hd))]) rl = some (.lst [.str (rowH f.hd)]) := upd_same
    have n3 : H1 rl = none := g2.back rl nrl
    change Gr H2 (upd H2 rl (.lst [.str (Txt.join blank (wsH f.hd))])) at g3
    generalize upd H2 rl (.lst [.str (Txt.join blank (wsH f.hd))]) = H3 at g3 e3 ⊢
    have g13 := g2.trans g3
    refine ⟨_, rfl, pd, rfl, ⟨_, g13.sqt hpd⟩, ?_⟩
    refine for_it (walk_tup (xs := xs)) (fun i σ H4 => ∃ y4 : Option V, σ = [some (.ref p), some (.ref ph), some (.ref pd), some (.ref rl), y4] ∧ H4 rl = some (.lst ((rowH f.hd :: (f.ds.take i).map rowD).map V.str)) ∧ Gr H1 H4) ⟨none, rfl, e3, g13⟩ ?h1 ?h2 ?h3
    case h1 =>
      rintro i σ H4 hi ⟨y4, rfl, e4, g4⟩
      exact g4.sqt hpd
    case h2 =>
      rintro i v σ H4' H4 hi ⟨y4, rfl, e4, g4⟩ ⟨rfl, hv⟩
      obtain ⟨e, he, de⟩ := dpA_de (g4.kd.dpA dd) hv
      refine ⟨_, rfl, .inl ⟨rfl, _, .inl (.inl e4)⟩, _, rfl, v, e, f.hd, rfl, de, go.ok e (List.mem_of_getElem? he), hn, fun H5 g5 => ?_⟩
      refine ⟨rl, _, _, rfl, rfl, g5.lst e4, ?_, ?_⟩
      · rw [List.length_map, List.length_cons, List.length_map, List.length_take]
        exact small1000 (by omega)
      · refine ⟨_, rfl, ?_, (g4.trans g5).upd_new n3⟩
        rw [upd_same, List.take_add_one, he, List.map_append]
        simp
    case h3 =>
      rintro σ H4 ⟨y4, rfl, e4, g4⟩
      rw [hl, List.take_length] at e4
      subst hH1
      exact ⟨_, rfl, q H4 rl (g1.trans g4) n3 e4⟩
end
end SfC
namespace SfC
open PySem PySem.Spec PyProof.Rows L2 SfG
/-! ### what is a name, an argument, a row -/
def nmD : PyData → Bool
  | .str z => isN z
  | _ => false
def argD : PyData → Bool
  | .tuple [a, b] => if eqS a "name" = true then nmD b else if eqS a "number" = true then amD b 0 8 else (eqS a "input" && amD b 0 2)
  | _ => false
/-- how many things stand behind a row's word -/
def rsz (z : Str) : Option V := if z = "let" then some (.int 4) else if z = "pick" then some (.int 4) else if z = "say" then some (.int 1) else none
def rofD : PyData → Bool
  | .tuple (.str z :: r) => decide (r.length ≤ 4) && decide ((rsz z).getD .non = .int (r.length : Int))
  | _ => false
theorem scWhole : FnScope ["thing"] ["thing"] (defScope sWhole) := ⟨rfl, rfl, rfl, by decide +kernel, rfl, by decide +kernel, by decide +kernel⟩
theorem scAmong : FnScope ["thing", "least", "most"] ["thing", "least", "most"] (defScope sAmong) := ⟨rfl, rfl, rfl, by decide +kernel, rfl, by decide +kernel, by decide +kernel⟩
theorem scTupOf : FnScope ["thing", "least", "most"] ["thing", "least", "most"] (defScope sTupOf) := ⟨rfl, rfl, rfl, by decide +kernel, rfl, by decide +kernel, by decide +kernel⟩
theorem scNameX : FnScope ["thing"] ["thing"] (defScope sName) := ⟨rfl, rfl, rfl, by decide +kernel, rfl, by decide +kernel, by decide +kernel⟩
theorem scIsArg : FnScope ["thing", "word", "told"] ["thing"] (defScope sIsArg) := ⟨rfl, rfl, rfl, by decide +kernel, rfl, by decide +kernel, by decide +kernel⟩
section
variable {P : Program} {w : World} {K : PySem.W.Frag} {mg : Str → Option Value} {base : Heap}
def spWhole (K : PySem.W.Frag) : Sp := fun vs H Q _ => ∃ (x : V) (d : PyData), vs = [x] ∧ Dx K H x d ∧ Q (.bl (whD d)) H
theorem ok_whole {f : Addr} {fd : FuncData} {k : Nat} (F : Fun K "is_whole" "is_whole" sWhole f fd) (mi : mg "isinstance" = none) (m1 : mg "int" = none) :
    FnOk P w K mg base CX0 (k + 1) f fd ["thing"] (spWhole K) := by
  refine F.ok scWhole (fun vs H Q E h => ?_) (fun cdv A outer s H vs Q E hr h => ?_)
  · obtain ⟨x, d, rfl, _⟩ := h
    rfl
  · obtain ⟨x, d, rfl, hx, q⟩ := h
    have hi := dx_is hx
    refine ⟨_, pss_one (ps_ret (pe_and (pe_isi "int" 0 mi m1 (by decide +kernel)) (pe_and (pe_cmpR op_notBx (pv 0) pe_bl (nomark _)) (pe_one (pe_cmpR op_notBx (pv 0) pe_bl (nomark _)))))), ?_⟩
    refine ⟨x, rfl, _, _, hi.1, kit_int _ hi.2, _, rfl, ?_⟩
    cases d with
    | int i =>
      cases dx_int hx
      exact iteT ⟨_, rfl, true, rfl, .inr ⟨i, rfl, _, rfl, iteT ⟨_, rfl, false, rfl, .inr ⟨i, rfl, q⟩⟩⟩⟩
    | bool b =>
      cases dx_bool hx
      cases b with
      | true => exact iteT ⟨_, rfl, true, rfl, .inl ⟨true, rfl, _, rfl, iteF q⟩⟩
      | false => exact iteT ⟨_, rfl, true, rfl, .inl ⟨false, rfl, _, rfl, iteT ⟨_, rfl, false, rfl, .inl ⟨false, rfl, q⟩⟩⟩⟩
    | _ => exact iteF q
def spAmong (K : PySem.W.Frag) : Sp := fun vs H Q _ => ∃ (x : V) (d : PyData) (lo hi : Int), vs = [x, .int lo, .int hi] ∧ Dx K H x d ∧ Q (.bl (amD d lo hi)) H
theorem ok_among {f fW : Addr} {fd fdW : FuncData} {k : Nat} (F : Fun K "is_among" "is_among" sAmong f fd) (HW : Has P w K mg base (k + 1) "is_whole" ["thing"] (spWhole K) fW fdW) :
    FnOk P w K mg base CX0 (k + 2) f fd ["thing", "least", "most"] (spAmong K) := by
  refine F.ok scAmong (fun vs H Q E h => ?_) (fun cdv A outer s H vs Q E hr h => ?_)
  · obtain ⟨x, d, lo, hi, rfl, _⟩ := h
    rfl
  · obtain ⟨x, d, lo, hi, rfl, hx, q⟩ := h
    refine ⟨_, pss_one (ps_ret (pe_and (hcall HW hr (pa_cons (pv 0) pa_nil)) (pe_and (hcall HW hr (pa_cons (pv 1) pa_nil)) (pe_and (hcall HW hr (pa_cons (pv 2) pa_nil)) (pe_one (pe_chain op_le op_le (pv 1) (pv 0) (pv 2))))))), ?_⟩
    refine ⟨_, rfl, x, d, rfl, hx, _, rfl, ?_⟩
    cases d with
    | int i =>
      cases dx_int hx
      refine iteT ⟨_, rfl, _, .int lo, rfl, .int lo, _, rfl, iteT ⟨_, rfl, _, .int hi, rfl, .int hi, _, rfl, iteT ?_⟩⟩
      refine ⟨_, rfl, _, rfl, lo, i, rfl, rfl, _, rfl, ?_⟩
      simp only [amD] at q
      cases h1 : decide (lo ≤ i) with
      | true =>
        rw [h1] at q
        exact iteT ⟨_, rfl, i, hi, rfl, rfl, q⟩
      | false =>
        rw [h1] at q
        exact iteF q
    | _ => exact iteF q
def spTupOf (K : PySem.W.Frag) : Sp := fun vs H Q _ => ∃ (x : V) (d : PyData) (lo hi : Int), vs = [x, .int lo, .int hi] ∧ Dx K H x d ∧ Q (.bl (tupD d lo hi)) H
theorem ok_tupOf {f : Addr} {fd : FuncData} {k : Nat} (F : Fun K "is_tuple_of" "is_tuple_of" sTupOf f fd) (mi : mg "isinstance" = none) (mt : mg "tuple" = none) (ml : mg "len" = none) :
    FnOk P w K mg base CX0 (k + 1) f fd ["thing", "least", "most"] (spTupOf K) := by
  refine F.ok scTupOf (fun vs H Q E h => ?_) (fun cdv A outer s H vs Q E hr h => ?_)
  · obtain ⟨x, d, lo, hi, rfl, _⟩ := h
    rfl
  · obtain ⟨x, d, lo, hi, rfl, hx, q⟩ := h
    have hI := dx_is hx
    refine ⟨_, pss_one (ps_ret (pe_and (pe_isi "tuple" 0 mi mt (by decide +kernel)) (pe_one (pe_chain op_le op_le (pv 1) (pe_callB call_len_seq (by rfl) ml PySem.boot_len (pa_cons (pv 0) pa_nil)) (pv 2))))), ?_⟩
    refine ⟨x, rfl, _, _, hI.1, kit_tuple _ hI.2, _, rfl, ?_⟩
    cases d with
    | tuple ds =>
      obtain ⟨p, xs, rfl, hp, hxs⟩ := dx_tup hx
      have hl : xs.length = ds.length := dxA_len hxs
      refine iteT ⟨_, rfl, _, rfl, p, xs, rfl, .inr hp, lo, _, rfl, rfl, _, rfl, ?_⟩
      rw [hl]
      simp only [tupD] at q
      cases h1 : decide (lo ≤ (ds.length : Int)) with
      | true =>
        rw [h1] at q
        exact iteT ⟨_, rfl, _, hi, rfl, rfl, q⟩
      | false =>
        rw [h1] at q
        exact iteF q
    | _ => exact iteF q
/-- texts that are not too long -/
def fitS (d : PyData) : Prop := ∀ z, d = .str z → z.length ≤ sizeLine
def spNameX (K : PySem.W.Frag) : Sp := fun vs H Q _ => ∃ (x : V) (d : PyData), vs = [x] ∧ Dx K H x d ∧ fitS d ∧ Q (.bl (nmD d)) H
theorem isN_by (z : Str) : isN z = (decide ((z.length : Int) ≤ 8) && (Txt.isalpha z && (Txt.islower z && Txt.isascii z))) := by
  unfold isN
  rw [name_txt]
  have e : decide (z.length ≤ 8) = decide ((z.length : Int) ≤ 8) := by
    by_cases c : z.length ≤ 8
    · rw [decide_eq_true c, decide_eq_true (by omega)]
    · rw [decide_eq_false c, decide_eq_false (by omega)]
  rw [e]
theorem ok_nameX {f : Addr} {fd : FuncData} {k : Nat} (F : Fun K "is_name" "is_name" sName f fd) (mi : mg "isinstance" = none) (m1 : mg "str" = none) (ml : mg "len" = none) :
    FnOk P w K mg base CX0 (k + 1) f fd ["thing"] (spNameX K) := by
  refine F.ok scNameX (fun vs H Q E h => ?_) (fun cdv A outer s H vs Q E hr h => ?_)
  · obtain ⟨x, d, rfl, _⟩ := h
    rfl
  · obtain ⟨x, d, rfl, hx, hz, q⟩ := h
    have hI := dx_is hx
    refine ⟨_, pss_one (ps_ret (pe_and (pe_isi "str" 0 mi m1 (by decide +kernel))
      (pe_and (pe_cmpR op_le (pe_callB call_len_str (by rfl) ml PySem.boot_len (pa_cons (pv 0) pa_nil)) pe_int (nomark _))
      (pe_and (pe_m0 PySem.F.slot_str_isalpha PySem.F.type_str_isalpha mt_isalpha (pv 0))
      (pe_and (pe_m0 PySem.F.slot_str_islower PySem.F.type_str_islower mt_islower (pv 0))
      (pe_one (pe_m0 PySem.F.slot_str_isascii PySem.F.type_str_isascii mt_isascii (pv 0)))))))), ?_⟩
    refine ⟨x, rfl, _, _, hI.1, kit_str _ hI.2, _, rfl, ?_⟩
    cases d with
    | str z =>
      cases dx_str hx
      have q' : Q (.bl (isN z)) H := q
      rw [isN_by] at q'
      refine iteT ⟨_, rfl, z, rfl, hz z rfl, _, 8, rfl, rfl, _, rfl, ?_⟩
      cases h1 : decide ((z.length : Int) ≤ 8) with
      | false =>
        rw [h1] at q'
        exact iteF q'
      | true =>
        rw [h1, Bool.true_and] at q'
        refine iteT ⟨_, rfl, ⟨z, rfl⟩, z, rfl, rfl, trivial, _, rfl, ?_⟩
        cases h2 : Txt.isalpha z with
        | false =>
          rw [h2] at q'
          exact iteF q'
        | true =>
          rw [h2, Bool.true_and] at q'
          refine iteT ⟨_, rfl, ⟨z, rfl⟩, z, rfl, rfl, trivial, _, rfl, ?_⟩
          cases h3 : Txt.islower z with
          | false =>
            rw [h3] at q'
            exact iteF q'
          | true =>
            rw [h3, Bool.true_and] at q'
            exact iteT ⟨_, rfl, ⟨z, rfl⟩, z, rfl, rfl, trivial, q'⟩
    | _ => exact iteF q
end
end SfC
namespace SfC
open PySem PySem.Spec PyProof.Rows L2 SfG
/-- data that is not too great -/
abbrev Go (d : PyData) : Prop := Wt d 1000000 60
theorem Go.fit {d : PyData} (h : Go d) : fitS d := by
  rintro z rfl
  have := h.text
  rw [sizeLine_eq]
  omega
theorem Go.at {ds : List PyData} {i : Nat} {d : PyData} (h : Go (.tuple ds)) (e : ds[i]? = some d) : Go d := h.un.1.get e
abbrev nRowOf : List Str := ["thing"]
theorem scRowOf : FnScope nRowOf ["thing"] (defScope sRowOf) := ⟨rfl, rfl, rfl, by decide +kernel, rfl, by decide +kernel, by decide +kernel⟩
theorem boot_isi : bootBuiltins "isinstance" = some (.builtin "isinstance") := by decide +kernel
theorem boot_all : bootBuiltins "all" = some (.builtin "all") := by decide +kernel
theorem two_or : ∀ d : PyData, (tupD d 2 2 = false ∧ argD d = false) ∨ ∃ a b, d = .tuple [a, b]
  | .tuple [a, b] => .inr ⟨a, b, rfl⟩
  | .tuple [] => .inl ⟨rfl, rfl⟩
  | .tuple [_] => .inl ⟨rfl, rfl⟩
  | .tuple (_ :: _ :: _ :: r) => by
    refine .inl ⟨?_, rfl⟩
    simp only [tupD, List.length_cons]
    rw [Bool.and_eq_false_iff]
    exact .inr (decide_eq_false (by omega))
  | .none => .inl ⟨rfl, rfl⟩
  | .bool _ => .inl ⟨rfl, rfl⟩
  | .int _ => .inl ⟨rfl, rfl⟩
  | .str _ => .inl ⟨rfl, rfl⟩
  | .list _ => .inl ⟨rfl, rfl⟩
  | .dict _ => .inl ⟨rfl, rfl⟩
section
variable {P : Program} {w : World} {K : PySem.W.Frag} {mg : Str → Option Value} {base : Heap}
def spIsArg (K : PySem.W.Frag) : Sp := fun vs H Q _ => ∃ (x : V) (d : PyData), vs = [x] ∧ Dx K H x d ∧ Go d ∧ Q (.bl (argD d)) H
theorem ok_isArg {f fT fN fA : Addr} {fd fdT fdN fdA : FuncData} {k : Nat} {t3 t8 : Tok} (F : Fun K "is_arg" "is_arg" sIsArg f fd) (HT : Has P w K mg base (k + 2) "is_tuple_of" ["thing", "least", "most"] (spTupOf K) fT fdT)
    (HN : Has P w K mg base (k + 2) "is_name" ["thing"] (spNameX K) fN fdN) (HA : Has P w K mg base (k + 2) "is_among" ["thing", "least", "most"] (spAmong K) fA fdA)
    (m8 : mg "MOST_NUMBER" = some (.int 8 t8)) (m3 : mg "MOST_INPUTS" = some (.int 3 t3)) : FnOk P w K mg base CX0 (k + 3) f fd ["thing"] (spIsArg K) := by
  refine F.ok scIsArg (fun vs H Q E h => ?_) (fun cdv A outer s H vs Q E hr h => ?_)
  · obtain ⟨x, d, rfl, _⟩ := h
    rfl
  · obtain ⟨x, d, rfl, hx, go, q⟩ := h
    have nd := scIsArg.nd
    refine' ⟨_, pss_cons ?s1 (pss_cons ?s2 (pss_cons ?s3 (pss_cons ?s4 (pss_one ?s5)))), ?rd⟩
    case s1 => exact ps_if (pt_not (pt_val (hcall HT hr (pa_cons (pv 0) (pa_cons pe_int (pa_cons pe_int pa_nil)))))) (pss_one (ps_ret pe_bl)) pss_nil
    case s2 => exact ps_asg (pv 0) (pg_tup rfl (pgs_cons (pg_name (i := 1) nd rfl (.inl rfl)) (pgs_cons (pg_name (i := 2) nd rfl (.inl rfl)) pgs_nil)))
    case s3 => exact ps_if (pt_cmpR (op_eqXS hr) (pv 1) pe_str (nomark _)) (pss_one (ps_ret (hcall HN hr (pa_cons (pv 2) pa_nil)))) pss_nil
    case s4 => exact ps_if (pt_cmpR (op_eqXS hr) (pv 1) pe_str (nomark _)) (pss_one (ps_ret (hcall HA hr (pa_cons (pv 2) (pa_cons pe_int (pa_cons (pe_glob (v := .int 8) rfl m8 ⟨_, rfl⟩) pa_nil)))))) pss_nil
    case s5 => exact ps_ret (pe_and (pe_cmpR (op_eqXS hr) (pv 1) pe_str (nomark _)) (pe_one (hcall HA hr (pa_cons (pv 2) (pa_cons pe_int (pa_cons (pe_op op_sub (pe_glob (v := .int 3) rfl m3 ⟨_, rfl⟩) pe_int) pa_nil))))))
    case rd =>
    refine ⟨_, rfl, x, d, 2, 2, rfl, hx, _, rfl, ?_⟩
    rcases two_or d with ⟨h1, h2⟩ | ⟨a, b, rfl⟩
    · rw [h2] at q
      rw [h1]
      exact iteT q
    obtain ⟨p, xs, rfl, hp, hxs⟩ := dx_tup hx
    obtain ⟨u, r, rfl, hu, hr1⟩ := dxA_cons hxs
    obtain ⟨v, r, rfl, hv, hr2⟩ := dxA_cons hr1
    cases dxA_nil hr2
    have gb : Go b := go.at (i := 1) rfl
    refine iteF ⟨_, rfl, p, [u, v], rfl, hp, rfl, u, [v], rfl, v, [], rfl, rfl, ?_⟩
    refine ⟨_, rfl, a, "name", hu, rfl, _, rfl, ?_⟩
    have q' : Q (.bl (if eqS a "name" = true then nmD b else if eqS a "number" = true then amD b 0 8 else (eqS a "input" && amD b 0 2))) H := q
    cases c1 : eqS a "name" with
    | true =>
      rw [c1] at q'
      exact iteT ⟨_, rfl, v, b, rfl, hv, gb.fit, q'⟩
    | false =>
    rw [c1, if_neg (by decide)] at q'
    refine iteF ⟨_, rfl, a, "number", hu, rfl, _, rfl, ?_⟩
    cases c2 : eqS a "number" with
    | true =>
      rw [c2] at q'
      exact iteT ⟨_, rfl, v, b, 0, 8, rfl, hv, q'⟩
    | false =>
    rw [c2, if_neg (by decide)] at q'
    refine iteF ⟨_, rfl, a, "input", hu, rfl, _, rfl, ?_⟩
    cases c3 : eqS a "input" with
    | false =>
      rw [c3] at q'
      exact iteF q'
    | true =>
      rw [c3] at q'
      exact iteT ⟨_, rfl, 3, 1, rfl, rfl, v, b, 0, 2, rfl, hv, q'⟩
end
end SfC
namespace SfC
open PySem PySem.Spec PyProof.Rows L2 SfG
section
variable {P : Program} {w : World} {K : PySem.W.Frag} {mg : Str → Option Value} {base : Heap}
theorem at_0 (u : V) (r : List V) : atI (u :: r) 0 = some u := atI_nat (xs := u :: r) (j := 0) rfl
theorem bls (f : PyData → Bool) (ds : List PyData) : (ds.map fun d => V.bl (f d)) = (ds.map f).map V.bl := by rw [List.map_map]; rfl
theorem all_id (f : PyData → Bool) (ds : List PyData) : (ds.map f).all id = ds.all f := by rw [List.all_map]; rfl
theorem tup_few {ds : List PyData} {n : Int} (h : tupD (.tuple ds) 0 n = true) : (ds.length : Int) ≤ n := by
  simp only [tupD] at h
  rw [Bool.and_eq_true] at h
  exact of_decide_eq_true h.2
/-- a tuple of one to five, its first a text -/
theorem first_or : ∀ d : PyData, ((tupD d 1 5 = false ∨ (∃ a r, d = .tuple (a :: r) ∧ (tyD a == "str") = false)) ∧ rofD d = false) ∨ ∃ z r, d = .tuple (.str z :: r) ∧ r.length ≤ 4
  | .tuple [] => .inl ⟨.inl rfl, rfl⟩
  | .tuple (.str z :: r) => by
    by_cases c : r.length ≤ 4
    · exact .inr ⟨z, r, rfl, c⟩
    · refine .inl ⟨.inl ?_, ?_⟩
      · simp only [tupD, List.length_cons]
        rw [Bool.and_eq_false_iff]
        exact .inr (decide_eq_false (by omega))
      · simp only [rofD]
        rw [decide_eq_false c]
        rfl
  | .tuple (.none :: r) => .inl ⟨.inr ⟨_, _, rfl, by decide⟩, rfl⟩
  | .tuple (.bool _ :: r) => .inl ⟨.inr ⟨_, _, rfl, by show ("bool" == "str") = false; decide⟩, rfl⟩
  | .tuple (.int _ :: r) => .inl ⟨.inr ⟨_, _, rfl, by show ("int" == "str") = false; decide⟩, rfl⟩
  | .tuple (.list _ :: r) => .inl ⟨.inr ⟨_, _, rfl, by show ("list" == "str") = false; decide⟩, rfl⟩
  | .tuple (.tuple _ :: r) => .inl ⟨.inr ⟨_, _, rfl, by show ("tuple" == "str") = false; decide⟩, rfl⟩
  | .tuple (.dict _ :: r) => .inl ⟨.inr ⟨_, _, rfl, by show ("dict" == "str") = false; decide⟩, rfl⟩
  | .none => .inl ⟨.inl rfl, rfl⟩
  | .bool _ => .inl ⟨.inl rfl, rfl⟩
  | .int _ => .inl ⟨.inl rfl, rfl⟩
  | .str _ => .inl ⟨.inl rfl, rfl⟩
  | .list _ => .inl ⟨.inl rfl, rfl⟩
  | .dict _ => .inl ⟨.inl rfl, rfl⟩
theorem rsz_scal (z : Str) (n : Int) : scal ((rsz z).getD .non) (.int n) = true := by
  unfold rsz
  split
  · rfl
  split
  · rfl
  split <;> rfl
def spRowOf (K : PySem.W.Frag) : Sp := fun vs H Q _ => ∃ (x : V) (d : PyData), vs = [x] ∧ Dx K H x d ∧ Q (.bl (rofD d)) H
theorem ok_rowOf {f fT pS : Addr} {fd fdT : FuncData} {k : Nat} (F : Fun K "is_row_of_things" "is_row_of_things" sRowOf f fd) (HT : Has P w K mg base (k + 1) "is_tuple_of" ["thing", "least", "most"] (spTupOf K) fT fdT)
    (mS : mg "ROW_SIZES" = some (.ref pS)) (kS : KDo K w pS rsz) (mi : mg "isinstance" = none) (m1 : mg "str" = none) (ml : mg "len" = none) : FnOk P w K mg base CX0 (k + 2) f fd ["thing"] (spRowOf K) := by
  refine F.ok scRowOf (fun vs H Q E h => ?_) (fun cdv A outer s H vs Q E hr h => ?_)
  · obtain ⟨x, d, rfl, _⟩ := h
    rfl
  · obtain ⟨x, d, rfl, hx, q⟩ := h
    have nd := scRowOf.nd
    refine' ⟨_, pss_cons ?s1 (pss_one ?s2), ?rd⟩
    case s1 =>
      exact ps_if (PW.pt (pw_or (pt_not (pt_val (hcall HT hr (pa_cons (pv 0) (pa_cons pe_int (pa_cons pe_int pa_nil))))))
        (pw_or1 (pt_not (pt_val (pe_callB call_isi (by rfl) mi boot_isi (pa_cons (pe_ix ix_tup (pv 0) pe_int (fun _ _ => rfl)) (pa_cons (pe_bltn (v := .ty "str") (by rfl) m1 (by decide +kernel) rfl) pa_nil)))))))) (pss_one (ps_ret pe_bl)) pss_nil
    case s2 =>
      exact ps_ret (pe_cmpR op_eq (pe_kget (pe_glob (v := .ref pS) rfl mS rfl) (pe_ix ix_tup (pv 0) pe_int (fun _ _ => rfl)) ⟨rfl, rfl, rfl, rfl⟩) (pe_op op_sub (pe_callB call_len_seq (by rfl) ml PySem.boot_len (pa_cons (pv 0) pa_nil)) pe_int) (nomark _))
    case rd =>
    refine ⟨_, rfl, x, d, 1, 5, rfl, hx, _, rfl, ?_⟩
    rcases first_or d with ⟨h1, h2⟩ | ⟨z, r, rfl, hr4⟩
    · rw [h2] at q
      cases ht : tupD d 1 5 with
      | false => exact iteT q
      | true =>
        rcases h1 with h1 | ⟨a, r, rfl, ha⟩
        · rw [h1] at ht
          cases ht
        · obtain ⟨p, xs, rfl, hp, hxs⟩ := dx_tup hx
          obtain ⟨u, r', rfl, hu, _⟩ := dxA_cons hxs
          have hI := dx_is hu
          refine iteF ⟨_, rfl, p, _, 0, u, rfl, rfl, hp, at_0 _ _, u, .ty "str", .type (tyD a), .type "str", (tyD a == "str"), rfl, .ty "str", hI.1, kit_ty (kit_str _ hI.2), _, rfl, ?_⟩
          rw [ha]
          exact iteT q
    · obtain ⟨p, xs, rfl, hp, hxs⟩ := dx_tup hx
      obtain ⟨u, r', rfl, hu, hr'⟩ := dxA_cons hxs
      cases dx_str hu
      have hl := dxA_len hr'
      have ht : tupD (.tuple (.str z :: r)) 1 5 = true := by
        simp only [tupD, List.length_cons]
        rw [Bool.and_eq_true]
        exact ⟨decide_eq_true (by omega), decide_eq_true (by omega)⟩
      rw [ht]
      refine iteF ⟨_, rfl, p, _, 0, _, rfl, rfl, hp, at_0 _ _, .str z, .ty "str", .type "str", .type "str", true, rfl, .ty "str", (is_str z).1, kit_ty (by decide +kernel), _, rfl, iteF ?_⟩
      refine ⟨pS, rsz, rfl, kS, _, rfl, p, _, 0, _, rfl, rfl, hp, at_0 _ _, z, rfl, ?_⟩
      refine ⟨_, rfl, p, _, rfl, .inr hp, _, 1, rfl, rfl, rsz_scal z _, ?_⟩
      have q' : Q (.bl (decide (r.length ≤ 4) && decide ((rsz z).getD .non = .int (r.length : Int)))) H := q
      rw [decide_eq_true hr4, Bool.true_and] at q'
      have e1 : (((V.str z :: r').length : Int) - 1) = (r.length : Int) := by
        rw [List.length_cons, hl]
        omega
      show Q (.bl (decide ((rsz z).getD .non = .int (((V.str z :: r').length : Int) - 1)))) H
      rw [e1]
      exact q'
end
end SfC
/-! dict(t) of a tuple of pairs; such a tuple has no names of its own: it is known as it was made -/
namespace SfG
open PySem PySem.Spec PyProof.Rows L2
section
variable {X : Cx}
/-- a tuple that is known as it was made: without names of its own -/
def Bare (H : Hp) (a : Addr) (ys : List V) : Prop := ∃ o, H a = some (.frz o (.tup ys)) ∧ o.dict = none
theorem Bare.sqt {K : PySem.W.Frag} {H : Hp} {a : Addr} {ys : List V} (h : Bare H a ys) : SqT K H a ys := by
  obtain ⟨o, h, _⟩ := h
  exact .inl (.inr ⟨o, h⟩)
theorem Bare.gr {H H' : Hp} {a : Addr} {ys : List V} (h : Bare H a ys) (g : Gr H H') : Bare H' a ys := by
  obtain ⟨o, h, d⟩ := h
  exact ⟨o, g.keep a _ h (fun _ z => by cases z), d⟩
theorem Bare.gp {H H' : Hp} {p a : Addr} {ys : List V} (h : Bare H a ys) (g : Gp p H H') (n : a ≠ p) : Bare H' a ys := by
  obtain ⟨o, h, d⟩ := h
  exact ⟨o, g.keep a _ n h (fun _ z => by cases z), d⟩
theorem call_tuple_frz : CallR X (.type "tuple") (fun xs H Q => ∃ p ys, xs = [.ref p] ∧ SqL X.K H p ys ∧ ∀ l H', Gr H H' → H l = none → Bare H' l ys → Q (.ref l) H') := by
  intro pins s σ H xs us Q I r h
  obtain ⟨p, ys, rfl, hq, q⟩ := h
  obtain ⟨u, rfl, rx⟩ := vals1 r
  cases rx
  obtain ⟨its, r', pl, hz⟩ := I.list hq
  have hlen := r'.length
  refine call_tuple_list pl.isList (fun h' kp => ?_) (by simp only [List.size_toArray] <;> omega)
  have I1 : L2.Inv X pins σ H { s with heap := h' } := I.kept (t' := s.toks) kp
  have nn := I1.hok.fresh (Nat.le_refl _)
  have I2 : L2.Inv X pins σ (upd H h'.objs.size (.frz { cls := .type "tuple", data := .seq its.toArray } (.tup ys))) { s with heap := h'.push { cls := .type "tuple", data := .seq its.toArray } } :=
    I1.laid (t' := s.toks) (fun b o e => Heap.get?_push_of_some _ e) (Nat.le_refl _) (show ObjOk X.prog X.w _ _ _ (.frz _ (.tup ys)) from ⟨Heap.get?_push_size _ rfl, hz, its, r', IsTup.new _ _⟩)
  exact ⟨.ref h'.objs.size, _, I2, rfl, q _ _ (Gr.new nn) nn ⟨_, upd_same, rfl⟩⟩
theorem raw_of {pins : List (Addr × Obj)} {σ : L2.St} {H : Hp} {s : Shared} (I : L2.Inv X pins σ H s) : ∀ {ps : List Addr} {kvs : List (Key × V)}, Paired (fun p kv => SqT X.K H p [kV kv.1, kv.2]) ps kvs →
    ∃ (prs : List (Key × Value)) (raw : List (Value × Value)), KV kvs prs ∧ prs.length = ps.length ∧ raw.length = ps.length ∧ ∀ (j : Nat) (k v : Value), raw[j]? = some (k, v) → ∃ (b : Addr) (y : Key), ps[j]? = some b ∧ s.heap.IsTuple b #[k, v] ∧ prs[j]? = some (y, v) ∧ (mixKind X.prog X.w).is y k = true
  | _, _, .nil => ⟨[], [], .nil, rfl, rfl, fun j k v e => by simp at e⟩
  | _, _, .cons (a := p) (b := kv) h t => by
    obtain ⟨prs, raw, r, hl, hr, hp⟩ := raw_of I t
    obtain ⟨its, rv, ht, _⟩ := I.tuple h
    obtain ⟨u, y, ei, ru, ry⟩ := vals2 rv
    subst ei
    refine ⟨(kv.1, y) :: prs, (u, y) :: raw, .cons ⟨rfl, ry⟩ r, by rw [List.length_cons, List.length_cons, hl], by rw [List.length_cons, List.length_cons, hr], fun j k v e => ?_⟩
    cases j with
    | zero =>
      have e' : (u, y) = (k, v) := Option.some.inj e
      cases e'
      exact ⟨p, kv.1, rfl, ht, rfl, kV_is (P := X.prog) (w := X.w) ru⟩
    | succ j =>
      obtain ⟨b, y', e1, e2, e3, e4⟩ := hp j k v (by simpa using e)
      exact ⟨b, y', by simpa using e1, e2, by simpa using e3, e4⟩
/-- dict(t) of a tuple of pairs -/
theorem call_dictPT (hcalm : X.calm = true) : CallR X (.type "dict") (fun xs H Q => ∃ (a : Addr) (ps : List Addr) (kvs : List (Key × V)), xs = [.ref a] ∧ Bare H a (ps.map V.ref) ∧ Paired (fun p kv => SqT X.K H p [kV kv.1, kv.2]) ps kvs ∧
    ∀ p, H p = none → Q (.ref p) (upd H p (.dK (mergeK [] kvs)))) := by
  intro pins s σ H xs us Q I r q
  obtain ⟨a, ps, kvs, ex, hq, hp, q⟩ := q
  subst ex
  obtain ⟨u, eu, rx⟩ := vals1 r
  subst eu
  cases rx
  obtain ⟨o, ho, hd⟩ := hq
  obtain ⟨go, hz, its, rv, ⟨o', e1, hc, n, hdat⟩⟩ := (show ObjOk X.prog X.w H s.heap a (.frz o (.tup (ps.map V.ref))) from I.hok a _ ho)
  rw [go] at e1
  cases e1
  have ei := refs_at rv
  subst ei
  rw [List.length_map] at hz
  obtain ⟨prs, raw, rel, hl, hr, hpr⟩ := raw_of I hp
  have P := PairArg.tuple (prog := X.prog) (w := X.w) a (ps.map Value.ref).toArray (fun j => ps.getD j 0) raw
  refine PySem.call_dict_pairs (knd := mixKind X.prog X.w) (kvs := prs) P (I.ok.hd hcalm) ⟨⟨o, n, go, hc, hd, hdat⟩, ?_, fun j k v e => ?_⟩ ⟨by rw [hl, hr], fun j k v e => ?_⟩ (by rw [hr]; exact hz) fun h' tk hd' k => ?_
  · simp [hr]
  · obtain ⟨b, y, e1, e2, _, _⟩ := hpr j k v e
    refine ⟨by simp [e1], .inl ?_⟩
    show s.heap.IsTuple (ps.getD j 0) #[k, v]
    rw [List.getD_eq_getElem?_getD, e1]
    exact e2
  · obtain ⟨b, y, e1, e2, e3, e4⟩ := hpr j k v e
    exact ⟨y, e3, e4⟩
  · have hm : (s.heap.objs.size == sysModules) = false := beq_eq_false_iff_ne.mpr (Nat.ne_of_gt I.big)
    have hlen : (mergeK [] kvs).length ≤ sizeLine := by
      refine Nat.le_trans (length_mergeK kvs []) ?_
      rw [List.length_nil, Nat.zero_add, rel.length, hl]
      exact hz
    exact ⟨.ref s.heap.objs.size, upd H s.heap.objs.size (.dK (mergeK [] kvs)), I.laid (t' := tk) (fun b o g => k b o (fun z => by cases z) g) (Nat.le_refl _) (show ObjOk X.prog X.w _ _ _ (.dK (mergeK [] kvs)) from ⟨hlen, hm, merged [] prs, KV.merge rel .nil, hd'⟩), rfl, q _ (I.hok.fresh (Nat.le_refl _))⟩
end
end SfG
/-! programs: arguments, rows, uses; their texts -/
namespace SfC
open PySem PySem.Spec PyProof.Rows L2 SfG
inductive Ag where
  | n (z : Str)
  | u (i : Int)
  | i (i : Int)
def Ag.d : Ag → PyData
  | .n z => .tuple [.str "name", .str z]
  | .u j => .tuple [.str "number", .int j]
  | .i j => .tuple [.str "input", .int j]
def goA : Ag → Prop
  | .n z => isN z = true
  | .u j => 0 ≤ j ∧ j ≤ 8
  | .i j => 0 ≤ j ∧ j ≤ 2
inductive Ro where
  | l (nm lb dd : Str) (as : List Ag)
  | p (nm : Str) (a b c : Ag)
  | s (a : Ag)
def Ro.d : Ro → PyData
  | .l nm lb dd as => .tuple [.str "let", .str nm, .str lb, .str dd, .tuple (as.map Ag.d)]
  | .p nm a b c => .tuple [.str "pick", .str nm, a.d, b.d, c.d]
  | .s a => .tuple [.str "say", a.d]
def goR : Ro → Prop
  | .l nm lb dd as => isN nm = true ∧ isN lb = true ∧ isN dd = true ∧ as.length ≤ 3 ∧ ∀ a ∈ as, goA a
  | .p nm a b c => isN nm = true ∧ goA a ∧ goA b ∧ goA c
  | .s a => goA a
structure Us where
  lb : Str
  fc : Fc
def Us.d (u : Us) : PyData := .tuple [.str u.lb, u.fc.d]
structure Pg where
  us : List Us
  is : List Int
  rs : List Ro
def Pg.d (p : Pg) : PyData := .tuple [.tuple (p.us.map Us.d), .tuple (p.is.map .int), .tuple (p.rs.map Ro.d)]
/-- good in its form: kinds are not looked at -/
structure goP (p : Pg) : Prop where
  u1 : 1 ≤ p.us.length
  u4 : p.us.length ≤ 4
  uN : ∀ u ∈ p.us, isN u.lb = true ∧ goF u.fc
  i3 : p.is.length ≤ 3
  iN : ∀ j ∈ p.is, 2 ≤ j ∧ j ≤ 9
  r30 : p.rs.length ≤ 30
  rN : ∀ r ∈ p.rs, goR r
/-! ### texts -/
def wA : Ag → Str
  | .n z => z
  | .u j => ⟨#[48 + j.toNat]⟩
  | .i j => ⟨#[36, 48 + j.toNat]⟩
def wsR : Ro → List Str
  | .l nm lb dd as => ("let" : Str) :: nm :: lb :: dd :: as.map wA
  | .p nm a b c => [("pick" : Str), nm, wA a, wA b, wA c]
  | .s a => [("say" : Str), wA a]
def wsU (z : Str) : List Str := [("use" : Str), z]
def wsI (is : List Int) : List Str := ("inputs" : Str) :: is.map fun j => kS (.p j)
def rowR (r : Ro) : Str := Txt.join blank (wsR r)
def rowU (z : Str) : Str := Txt.join blank (wsU z)
def rowI (is : List Int) : Str := Txt.join blank (wsI is)
def rowsU (u : Us) : List Str := rowU u.lb :: rowsF u.fc
def rowsUs (us : List Us) : List Str := us.flatMap rowsU
def rowsP (p : Pg) : List Str := rowsUs p.us ++ rowI p.is :: p.rs.map rowR
def textP (p : Pg) : Str := Txt.join feed (rowsP p)
theorem fig_clean : ∀ n : Nat, n < 10 → clean ⟨#[48 + n]⟩ := by unfold clean; decide +kernel
theorem dol_clean : ∀ n : Nat, n < 3 → clean ⟨#[36, 48 + n]⟩ := by unfold clean; decide +kernel
theorem clean_arg {a : Ag} (h : goA a) : clean (wA a) := by
  cases a with
  | n z => exact clean_name h
  | u j => exact fig_clean j.toNat (by have := h.1; have := h.2; omega)
  | i j => exact dol_clean j.toNat (by have := h.1; have := h.2; omega)
theorem clean_let : clean "let" := by unfold clean; decide +kernel
theorem clean_pick : clean "pick" := by unfold clean; decide +kernel
theorem clean_say : clean "say" := by unfold clean; decide +kernel
theorem clean_use : clean "use" := by unfold clean; decide +kernel
theorem clean_inputs : clean "inputs" := by unfold clean; decide +kernel
theorem clean_wsR {r : Ro} (h : goR r) : ∀ z ∈ wsR r, clean z := by
  intro z hz
  cases r with
  | l nm lb dd as =>
    obtain ⟨h1, h2, h3, _, h4⟩ := h
    simp only [wsR, List.mem_cons, List.mem_map] at hz
    rcases hz with rfl | rfl | rfl | rfl | ⟨a, ha, rfl⟩
    · exact clean_let
    · exact clean_name h1
    · exact clean_name h2
    · exact clean_name h3
    · exact clean_arg (h4 a ha)
  | p nm a b c =>
    obtain ⟨h1, h2, h3, h4⟩ := h
    simp only [wsR, List.mem_cons, List.not_mem_nil, or_false] at hz
    rcases hz with rfl | rfl | rfl | rfl | rfl
    · exact clean_pick
    · exact clean_name h1
    · exact clean_arg h2
    · exact clean_arg h3
    · exact clean_arg h4
  | s a =>
    simp only [wsR, List.mem_cons, List.not_mem_nil, or_false] at hz
    rcases hz with rfl | rfl
    · exact clean_say
    · exact clean_arg h
theorem wsR_len {r : Ro} (h : goR r) : (wsR r).length ≤ 7 := by
  cases r with
  | l nm lb dd as =>
    obtain ⟨_, _, _, h4, _⟩ := h
    simp only [wsR, List.length_cons, List.length_map]
    omega
  | p nm a b c => show 5 ≤ 7; decide
  | s a => show 2 ≤ 7; decide
theorem wsR_ne (r : Ro) : wsR r ≠ [] := by cases r <;> simp [wsR]
theorem clean_wsU {z : Str} (h : isN z = true) : ∀ y ∈ wsU z, clean y := by
  intro y hy
  simp only [wsU, List.mem_cons, List.not_mem_nil, or_false] at hy
  rcases hy with rfl | rfl
  · exact clean_use
  · exact clean_name h
theorem clean_wsI {is : List Int} (h : ∀ j ∈ is, 2 ≤ j ∧ j ≤ 9) : ∀ y ∈ wsI is, clean y := by
  intro y hy
  simp only [wsI, List.mem_cons, List.mem_map] at hy
  rcases hy with rfl | ⟨j, hj, rfl⟩
  · exact clean_inputs
  · exact fig_clean j.toNat (by have := h j hj; omega)
theorem rowsP_feed {p : Pg} (g : goP p) : ∀ z ∈ rowsP p, 10 ∉ TL.tl z := by
  intro z hz
  simp only [rowsP, rowsUs, List.mem_append, List.mem_flatMap, List.mem_cons, List.mem_map] at hz
  rcases hz with ⟨u, hu, hz⟩ | rfl | ⟨r, hr, rfl⟩
  · obtain ⟨h1, h2⟩ := g.uN u hu
    rcases List.mem_cons.mp hz with rfl | hz
    · exact row_feed (clean_wsU h1)
    · exact rows_ok h2 z hz
  · exact row_feed (clean_wsI g.iN)
  · exact row_feed (clean_wsR (g.rN r hr))
theorem rowsP_ne (p : Pg) : rowsP p ≠ [] := by simp [rowsP]
theorem rowsP_row {p : Pg} (g : goP p) : ∀ z ∈ rowsP p, z.length ≤ 70 := by
  intro z hz
  simp only [rowsP, rowsUs, List.mem_append, List.mem_flatMap, List.mem_cons, List.mem_map] at hz
  rcases hz with ⟨u, hu, hz⟩ | rfl | ⟨r, hr, rfl⟩
  · obtain ⟨h1, h2⟩ := g.uN u hu
    rcases List.mem_cons.mp hz with rfl | hz
    · exact Nat.le_trans (row_len (clean_wsU h1)) (by show 2 * 9 ≤ 70; decide)
    · exact Nat.le_trans (rows_len h2 z hz) (by decide)
  · have := row_len (clean_wsI g.iN)
    have h3 := g.i3
    have e : (wsI p.is).length = 1 + p.is.length := by
      simp only [wsI, List.length_cons, List.length_map]
      omega
    exact Nat.le_trans this (by omega)
  · have := row_len (clean_wsR (g.rN r hr))
    have h7 := wsR_len (g.rN r hr)
    exact Nat.le_trans this (by omega)
theorem rowsF_len {f : Fc} (g : goF f) : (rowsF f).length ≤ 9 := by
  have := g.hi
  simp only [rowsF, List.length_cons, List.length_map]
  omega
theorem rowsUs_len : ∀ {us : List Us}, (∀ u ∈ us, goF u.fc) → (rowsUs us).length ≤ 10 * us.length
  | [], _ => by simp [rowsUs]
  | u :: r, h => by
    have h1 := rowsF_len (h u List.mem_cons_self)
    have h2 := rowsUs_len fun v hv => h v (List.mem_cons_of_mem _ hv)
    have e : rowsUs (u :: r) = (rowU u.lb :: rowsF u.fc) ++ rowsUs r := rfl
    rw [e, List.length_append, List.length_cons, List.length_cons]
    omega
theorem rowsP_len {p : Pg} (g : goP p) : (rowsP p).length ≤ 71 := by
  have h1 := rowsUs_len fun u hu => (g.uN u hu).2
  have h2 := g.u4
  have h3 := g.r30
  simp only [rowsP, List.length_append, List.length_cons, List.length_map]
  omega
theorem textP_len {p : Pg} (g : goP p) : (textP p).length ≤ 10000 := by
  have h1 := join_len feed (by decide +kernel) (rowsP_row g)
  have h2 := rowsP_len g
  exact Nat.le_trans h1 (by omega)
end SfC
/-! numbers of words; a row's numbers; arguments by their words -/
namespace SfC
open PySem PySem.Spec PyProof.Rows L2 SfG
def fig (n : Nat) : Str := ⟨#[48 + n]⟩
def dol (n : Nat) : Str := ⟨#[36, 48 + n]⟩
theorem dol_txt : ∀ n : Nat, n < 3 → Txt.isdigit (dol n) = false ∧ Txt.startswith (dol n) "$" = true ∧ cutS (dol n) (some 1) none = fig n ∧ (dol n).length ≤ 8 := by decide +kernel
theorem name_dol {z : Str} (h : isN z = true) : Txt.startswith z "$" = false := by
  obtain ⟨_, h1, _, _, _, hl⟩ := isN_txt h
  cases hc : z.cps.toList with
  | nil =>
    rw [len_list, hc] at h1
    exact absurd h1 (by simp)
  | cons a r =>
    rw [hc] at hl
    have ha := List.all_eq_true.mp hl a List.mem_cons_self
    have n36 : a ≠ 36 := by
      rintro rfl
      exact absurd ha (by decide +kernel)
    cases hs : Txt.startswith z "$" with
    | false => rfl
    | true =>
      exfalso
      unfold Txt.startswith PySem.Builtin.Str.subAt at hs
      rw [Bool.and_eq_true] at hs
      have e1 := congrArg Array.toList (eq_of_beq hs.2)
      have e2 : ("$" : Str).cps.toList = [36] := by decide +kernel
      have e3 : 0 + ("$" : Str).length = 1 := by decide +kernel
      rw [e2, e3, Array.toList_extract, hc] at e1
      exact n36 (by simpa using e1)
abbrev sTakeN : Stmt := inClass sRow 4
theorem scTakeN : FnScope ["self", "least", "most", "number"] ["self", "least", "most"] (defScope sTakeN) := ⟨rfl, rfl, rfl, by decide +kernel, rfl, by decide +kernel, by decide +kernel⟩
theorem scArgBy : FnScope ["word", "number"] ["word"] (defScope sArgBy) := ⟨rfl, rfl, rfl, by decide +kernel, rfl, by decide +kernel, by decide +kernel⟩
theorem scReadA : FnScope ["row", "arg"] ["row"] (defScope sReadA) := ⟨rfl, rfl, rfl, by decide +kernel, rfl, by decide +kernel, by decide +kernel⟩
section
variable {P : Program} {w : World} {K : PySem.W.Frag} {mg : Str → Option Value} {base : Heap}
/-- a number of one figure, or none -/
def NumW (z : Str) (q : V → Prop) : Prop := (Txt.isdigit z = false ∧ q .non) ∨ ∃ n : Nat, n < 10 ∧ z = fig n ∧ q (.int n)
def spFigs2 : Sp := fun vs H Q _ => ∃ z, vs = [.str z, .int 2] ∧ z.length ≤ 100 ∧ NumW z fun v => Q v H
theorem ok_figs2 {f : Addr} {fd : FuncData} {k : Nat} (F : Fun K "number_by_figures" "number_by_figures" sFigs f fd) (mi : mg "isinstance" = none) (m1 : mg "str" = none) (ml : mg "len" = none) (mn : mg "int" = none) :
    FnOk P w K mg base CX0 (k + 1) f fd ["word", "most"] spFigs2 := by
  refine F.ok scFigs (fun vs H Q E h => ?_) (fun cdv A outer s H vs Q E hr h => ?_)
  · obtain ⟨z, rfl, _⟩ := h
    rfl
  · obtain ⟨z, rfl, hz, q⟩ := h
    refine ⟨_, pss_cons (ps_if (PW.pt (pw_or (pt_not (pt_val (pe_isi "str" 0 mi m1 (by decide +kernel))))
        (pw_or (pt_cmpR op_gt (pe_callB call_len_str (by rfl) ml PySem.boot_len (pa_cons (pv 0) pa_nil)) (pv 1) (nomark _))
        (pw_or (pt_not (pt_val (pe_m0 PySem.F.slot_str_isdigit PySem.F.type_str_isdigit mt_isdigit (pv 0))))
        (pw_or1 (pt_not (pt_val (pe_m0 PySem.F.slot_str_isascii PySem.F.type_str_isascii mt_isascii (pv 0)))))))))
        (pss_one (ps_ret pe_non)) pss_nil)
      (pss_cons (ps_if (PW.pt (pw_and (pt_cmpR op_eq (pe_item_str (pv 0) pe_int (fun _ _ => rfl)) pe_str (nomark _)) (pw_and1 (pt_cmpR op_ne (pv 0) pe_str (nomark _)))))
        (pss_one (ps_ret pe_non)) pss_nil)
      (pss_one (ps_ret (pe_callTy call_int_str (by rfl) mn (by decide +kernel) (pa_cons (pv 0) pa_nil))))), ?_⟩
    have hz' : z.length ≤ sizeLine := by
      rw [sizeLine_eq]
      omega
    refine ⟨_, rfl, "str", true, (is_str _).1, by decide +kernel, _, rfl, iteF ⟨_, rfl, _, rfl, hz', _, rfl, _, 2, rfl, rfl, _, rfl, ?_⟩⟩
    rcases q with ⟨hd, q⟩ | ⟨n, h10, rfl, q⟩
    · by_cases h2 : (z.length : Int) > 2
      · rw [decide_eq_true h2]
        exact iteT (iteT q)
      · rw [decide_eq_false h2]
        refine iteF ⟨_, rfl, ⟨_, rfl⟩, _, rfl, rfl, trivial, _, rfl, ?_⟩
        rw [hd]
        exact iteT (iteT q)
    · obtain ⟨f1, f2, f3⟩ := fig_txt n h10
      have hl : (fig n).length = 1 := rfl
      rw [hl, decide_eq_false (show ¬ ((1 : Nat) : Int) > 2 by decide)]
      refine iteF ⟨_, rfl, ⟨_, rfl⟩, _, rfl, rfl, trivial, _, rfl, ?_⟩
      rw [show Txt.isdigit (fig n) = true from f1]
      refine iteF ⟨_, rfl, ⟨_, rfl⟩, _, rfl, rfl, trivial, _, rfl, ?_⟩
      rw [show Txt.isascii (fig n) = true from f2]
      refine iteF ⟨_, rfl, fig n, 0, 48 + n, rfl, rfl, by decide, by decide, (by rw [hl]; decide), rfl, rfl, _, rfl, ?_⟩
      have e0 : V.str "0" = V.str (fig 0) := congrArg V.str (by decide +kernel)
      by_cases h0 : n = 0
      · subst h0
        rw [decide_eq_true (show V.str ⟨#[48 + 0]⟩ = V.str "0" from e0.symm)]
        refine iteT ⟨_, rfl, rfl, _, rfl, ?_⟩
        rw [decide_eq_true e0.symm]
        exact iteF ⟨_, rfl, fig 0, 0, rfl, f3, (by rw [hl]; decide), q⟩
      · have ne : ¬ V.str ⟨#[48 + n]⟩ = V.str "0" := by
          intro e
          have e1 := congrArg (fun z : Str => z.cps.toList) (V.str.inj e)
          have e2 : ("0" : Str).cps.toList = [48] := by decide +kernel
          simp only [e2] at e1
          have e3 : 48 + n = 48 := by simpa using e1
          omega
        rw [decide_eq_false ne]
        refine iteF (iteF ⟨_, rfl, fig n, n, rfl, f3, (by rw [hl]; decide), q⟩)
def spNum2 : Sp := fun vs H Q _ => ∃ z, vs = [.str z] ∧ z.length ≤ 100 ∧ NumW z fun v => Q v H
theorem ok_num2 {f fF : Addr} {fd fdF : FuncData} {k : Nat} (F : Fun K "number_of" "number_of" sNum f fd) (HF : Has P w K mg base (k + 1) "number_by_figures" ["word", "most"] spFigs2 fF fdF) : FnOk P w K mg base CX0 (k + 2) f fd ["word"] spNum2 := by
  refine F.ok scNum (fun vs H Q E h => ?_) (fun cdv A outer s H vs Q E hr h => ?_)
  · obtain ⟨z, rfl, _⟩ := h
    rfl
  · obtain ⟨z, rfl, hz, q⟩ := h
    refine ⟨_, pss_one (ps_ret (hcall HF hr (pa_cons (pv 0) (pa_cons pe_int pa_nil)))), ?_⟩
    exact ⟨_, rfl, z, rfl, hz, q⟩
/-- kinds' words are numbers of one figure or names -/
theorem num_of2 {vs : List V} {H : Hp} {Q : VK} {E : XK} (h : spNum vs H Q E) : spNum2 vs H Q E := by
  obtain ⟨k, hd, rfl, hk, hn, q⟩ := h
  cases k with
  | h s =>
    have hs := hn s hk
    exact ⟨s, rfl, Nat.le_trans (isN_txt hs).1 (by decide), .inl ⟨name_digit hs, q⟩⟩
  | p n =>
    obtain ⟨h2, h9⟩ := hk
    refine ⟨kS (.p n), rfl, (by show 1 ≤ 100; decide), .inr ⟨n.toNat, by omega, rfl, ?_⟩⟩
    rw [Int.toNat_of_nonneg (by omega)]
    exact q
def spTakeN (C : Addr) : Sp := fun vs H Q _ => ∃ (x : Addr) (n : Int) (ws : List Str) (a : Nat) (lo hi : Int) (v : Nat), vs = [.ref x, .int lo, .int hi] ∧ RowAt C H x n ws a ∧ ws[a]? = some (fig v) ∧ v < 10 ∧ lo ≤ (v : Int) ∧ (v : Int) ≤ hi ∧ ∀ H', Gp x H H' → RowAt C H' x n ws (a + 1) → Q (.int v) H'
theorem ok_takeN {f fS fT fN C : Addr} {fd fdS fdT fdN : FuncData} {k : Nat} (F : Fun K "take_number" "Row.take_number" sTakeN f fd) (R : RowC K mg C) (HS : HasM P w K mg base C k "seen" ["self"] (spSeen C) fS fdS) (HT : HasM P w K mg base C k "take" ["self", "stands"] (spTake C) fT fdT)
    (HN : Has P w K mg base k "number_of" ["word"] spNum2 fN fdN) : FnOk P w K mg base CX0 (k + 1) f fd ["self", "least", "most"] (spTakeN C) := by
  refine F.ok scTakeN (fun vs H Q E h => ?_) (fun cdv A outer s H vs Q E hr h => ?_)
  · obtain ⟨x, n, ws, a, lo, hi, v, rfl, _⟩ := h
    rfl
  · obtain ⟨x, n, ws, a, lo, hi, v, rfl, hR, hw, h10, hlo, hhi, q⟩ := h
    have nd := scTakeN.nd
    have ha := lt_of_at hw
    refine ⟨_, pss_cons (ps_set (i := 3) nd rfl (.inl rfl) (hcall HN hr (pa_cons (pe_meth0 (pv 0) R.cl HS.me HS.ok hr HS.bd .nil pass0) pa_nil)))
      (pss_cons (ps_expr (pe_meth (pv 0) R.cl HT.me HT.ok hr HT.bd .nil pass0 (pa_cons (pe_and (pe_cmpR op_notN (pv 3) pe_non (nomark _)) (pe_one (pe_chain op_le op_le (pv 1) (pv 3) (pv 2)))) pa_nil))) (pss_one (ps_ret (pv 3)))), ?_⟩
    obtain ⟨dx, wl, hx, _⟩ := id hR
    refine ⟨_, rfl, x, dx, _, rfl, hx, rf_no _ _ _ (by decide +kernel) (by decide +kernel) (by decide +kernel), x, n, ws, a, rfl, hR, Nat.le_of_lt ha, ?_⟩
    rw [seen_is hw]
    refine ⟨fig v, rfl, (by show 1 ≤ 100; decide), .inr ⟨v, h10, rfl, ?_⟩⟩
    refine ⟨_, rfl, x, dx, _, rfl, hx, rf_no _ _ _ (by decide +kernel) (by decide +kernel) (by decide +kernel), ?_⟩
    refine ⟨_, rfl, rfl, _, rfl, iteT ⟨_, rfl, _, rfl, lo, v, rfl, rfl, _, rfl, ?_⟩⟩
    rw [decide_eq_true hlo]
    refine iteT ⟨_, rfl, v, hi, rfl, rfl, ?_⟩
    dsimp only
    rw [decide_eq_true hhi]
    exact ⟨x, n, ws, a, rfl, hR, Nat.le_of_lt ha, fun H2 g2 r2 => ⟨_, rfl, q H2 g2 r2⟩⟩
/-! ### arg_by, read_arg -/
def spArgBy (K : PySem.W.Frag) : Sp := fun vs H Q _ => ∃ a : Ag, vs = [.str (wA a)] ∧ goA a ∧ ∀ H' v, Gr H H' → Dp K H' v a.d → Q v H'
theorem ok_argBy {f fN : Addr} {fd fdN : FuncData} {k : Nat} (F : Fun K "arg_by" "arg_by" sArgBy f fd) (HN : Has P w K mg base k "number_of" ["word"] spNum2 fN fdN) : FnOk P w K mg base CX0 (k + 1) f fd ["word"] (spArgBy K) := by
  refine F.ok scArgBy (fun vs H Q E h => ?_) (fun cdv A outer s H vs Q E hr h => ?_)
  · obtain ⟨a, rfl, _⟩ := h
    rfl
  · obtain ⟨a, rfl, ga, q⟩ := h
    have nd := scArgBy.nd
    refine' ⟨_, pss_cons ?s1 (pss_cons ?s2 (pss_cons ?s3 (pss_one ?s4))), ?rd⟩
    case s1 => exact ps_set (i := 1) nd rfl (.inl rfl) (hcall HN hr (pa_cons (pv 0) pa_nil))
    case s2 => exact ps_if (pt_cmpR op_notN (pv 1) pe_non (nomark _)) (pss_one (ps_ret (pe_tup (pa_cons pe_str (pa_cons (pv 1) pa_nil))))) pss_nil
    case s3 =>
      exact ps_if (PW.pt (pw_and (pt_cmpR op_notN (pv 0) pe_non (nomark _)) (pw_and1 (pt_val (pe_m1 PySem.F.slot_str_startswith PySem.F.type_str_startswith mt_startswith (pv 0) pe_str)))))
        (pss_one (ps_ret (pe_tup (pa_cons pe_str (pa_cons (hcall HN hr (pa_cons (pe_slice sl_str (pv 0) (po_some pe_int) po_none) pa_nil)) pa_nil))))) pss_nil
    case s4 => exact ps_ret (pe_tup (pa_cons pe_str (pa_cons (pv 0) pa_nil)))
    case rd =>
    have two : 2 ≤ sizeLine := by decide
    have hl : (wA a).length ≤ 100 := Nat.le_trans (clean_arg ga).2.1 (by decide)
    cases a with
    | u j =>
      obtain ⟨h0, h8⟩ := ga
      refine ⟨_, rfl, _, rfl, hl, .inr ⟨j.toNat, by omega, rfl, ?_⟩⟩
      rw [Int.toNat_of_nonneg h0]
      refine ⟨_, rfl, rfl, _, rfl, iteT ⟨_, rfl, two, fun t nt => ?_⟩⟩
      exact q _ _ (Gr.new nt) (.tup (SqT.of upd_same) (.cons (.str _) (.cons (.int _) .nil)))
    | n z =>
      refine ⟨_, rfl, _, rfl, hl, .inl ⟨name_digit ga, ?_⟩⟩
      refine ⟨_, rfl, rfl, _, rfl, iteF ⟨_, rfl, rfl, _, rfl, iteT ?_⟩⟩
      refine ⟨_, rfl, ⟨_, rfl⟩, z, _, rfl, rfl, _, rfl, ?_⟩
      rw [name_dol ga]
      refine iteF ⟨_, rfl, two, fun t nt => ?_⟩
      exact q _ _ (Gr.new nt) (.tup (SqT.of upd_same) (.cons (.str _) (.cons (.str _) .nil)))
    | i j =>
      obtain ⟨h0, h2⟩ := ga
      obtain ⟨d1, d2, d3, d4⟩ := dol_txt j.toNat (by omega)
      refine ⟨_, rfl, _, rfl, hl, .inl ⟨d1, ?_⟩⟩
      refine ⟨_, rfl, rfl, _, rfl, iteF ⟨_, rfl, rfl, _, rfl, iteT ?_⟩⟩
      refine ⟨_, rfl, ⟨_, rfl⟩, wA (.i j), _, rfl, rfl, _, rfl, ?_⟩
      rw [show Txt.startswith (wA (.i j)) "$" = true from d2]
      refine iteT ⟨_, rfl, 1, rfl, wA (.i j), rfl, Nat.le_trans hl (by decide), ?_⟩
      have e : cutS (wA (.i j)) (some 1) none = fig j.toNat := d3
      rw [e]
      refine ⟨fig j.toNat, rfl, (by show 1 ≤ 100; decide), .inr ⟨j.toNat, by omega, rfl, ?_⟩⟩
      rw [Int.toNat_of_nonneg h0]
      refine ⟨two, fun t nt => ?_⟩
      exact q _ _ (Gr.new nt) (.tup (SqT.of upd_same) (.cons (.str _) (.cons (.int _) .nil)))
end
end SfC
namespace SfG
open PySem PySem.Spec PyProof.Rows L2
/-! data of tuples and flat things stays where all tuples stay -/
mutual
def noL : PyData → Bool
  | .none => true
  | .bool _ => true
  | .int _ => true
  | .str _ => true
  | .list _ => false
  | .dict _ => false
  | .tuple ds => noLA ds
def noLA : List PyData → Bool
  | [] => true
  | d :: r => noL d && noLA r
end
def Kt (K : PySem.W.Frag) (H H' : Hp) : Prop := ∀ {a : Addr} {xs : List V}, SqT K H a xs → SqT K H' a xs
mutual
theorem Kt.dp {K : PySem.W.Frag} {H H' : Hp} (g : Kt K H H') : ∀ {d : PyData} {v : V}, Dp K H v d → noL d = true → Dp K H' v d
  | _, _, .non, _ => .non
  | _, _, .bl b, _ => .bl b
  | _, _, .int i, _ => .int i
  | _, _, .str x, _ => .str x
  | _, _, .lst h hs, n => by
    rw [noL] at n
    cases n
  | _, _, .tup h hs, n => .tup (g h) (Kt.dpA g hs (by rw [noL] at n; exact n))
theorem Kt.dpA {K : PySem.W.Frag} {H H' : Hp} (g : Kt K H H') : ∀ {ds : List PyData} {vs : List V}, DpAll K H vs ds → noLA ds = true → DpAll K H' vs ds
  | _, _, .nil, _ => .nil
  | _, _, .cons h hs, n => by
    rw [noLA, Bool.and_eq_true] at n
    exact .cons (Kt.dp g h n.1) (Kt.dpA g hs n.2)
end
theorem noLA_map {α : Type} (g : α → PyData) (h : ∀ a, noL (g a) = true) : ∀ l : List α, noLA (l.map g) = true
  | [] => by rw [List.map_nil, noLA]
  | a :: r => by
    rw [List.map_cons, noLA, h a, noLA_map g h r]
    rfl
theorem kt_upd {K : PySem.W.Frag} {H : Hp} {l : Addr} {o o' : HO} (hl : H l = some o) (ht : ∀ ys, o ≠ .tup ys) (hf : ∀ q ys, o ≠ .frz q (.tup ys)) : Kt K H (upd H l o') := by
  intro a xs h
  rcases h with (h | ⟨q, h⟩) | h
  · refine .inl (.inl ?_)
    rw [upd_ne (by intro z; rw [z, hl] at h; cases h; exact ht _ rfl)]
    exact h
  · refine .inl (.inr ⟨q, ?_⟩)
    rw [upd_ne (by intro z; rw [z, hl] at h; cases h; exact hf _ _ rfl)]
    exact h
  · exact .inr h
theorem kt_lst {K : PySem.W.Frag} {H : Hp} {l : Addr} {xs : List V} {o' : HO} (hl : H l = some (.lst xs)) : Kt K H (upd H l o') := kt_upd hl (fun _ e => by cases e) (fun _ _ e => by cases e)
theorem gr_kt {K : PySem.W.Frag} {H H' : Hp} (g : Gr H H') : Kt K H H' := fun h => g.sqt h
theorem Kd.kt {K : PySem.W.Frag} {H H' : Hp} (g : Kd K H H') : Kt K H H' := fun h => g.t h
theorem Kt.trans {K : PySem.W.Frag} {H H1 H2 : Hp} (a : Kt K H H1) (b : Kt K H1 H2) : Kt K H H2 := fun h => b (a h)
end SfG
/-! arguments and names of a row are read -/
namespace SfC
open PySem PySem.Spec PyProof.Rows L2 SfG
theorem scReadAs : FnScope ["row", "least", "most", "args"] ["row", "least", "most"] (defScope sReadAs) := ⟨rfl, rfl, rfl, by decide +kernel, rfl, by decide +kernel, by decide +kernel⟩
theorem scReadNs : FnScope ["row", "many", "place"] ["row", "many"] (defScope sReadNs) := ⟨rfl, rfl, rfl, by decide +kernel, rfl, by decide +kernel, by decide +kernel⟩
theorem isN_ok {z : Str} (h : isN z = true) : Wt (.str z) 82 0 := by
  obtain ⟨h8, _, _, _, _, hl⟩ := isN_txt h
  refine ⟨?_, ?_, ?_⟩
  · rw [okd]
    exact List.all_eq_true.mpr fun c hc => decide_eq_true (let_range (List.all_eq_true.mp hl c hc))
  · rw [wt]
    omega
  · exact Nat.le_refl 0
theorem wt_int {n : Int} (h0 : 0 ≤ n) (h9 : n ≤ 9) : Wt (.int n) 20 0 := by
  have c : n = 0 ∨ n = 1 ∨ n = 2 ∨ n = 3 ∨ n = 4 ∨ n = 5 ∨ n = 6 ∨ n = 7 ∨ n = 8 ∨ n = 9 := by omega
  rcases c with rfl | rfl | rfl | rfl | rfl | rfl | rfl | rfl | rfl | rfl <;> exact Wt.lit (by decide +kernel)
theorem wt_2 {z : Str} {d : PyData} (hz : Wt (.str z) 82 0) (hd : Wt d 82 0) : Wt (.tuple [.str z, d]) 171 1 :=
  (Wt.tup (WtA.cons hz (WtA.cons hd (WtA.nil (L := 0))))).mono (by decide) (by decide)
theorem wt_ag {a : Ag} (h : goA a) : Wt a.d 171 1 := by
  cases a with
  | n z => exact wt_2 (Wt.lit (by decide +kernel)) (isN_ok h)
  | u j => exact wt_2 (Wt.lit (by decide +kernel)) ((wt_int h.1 (by have := h.2; omega)).mono (by decide) (by decide))
  | i j => exact wt_2 (Wt.lit (by decide +kernel)) ((wt_int h.1 (by have := h.2; omega)).mono (by decide) (by decide))
theorem am_in {n lo hi : Int} (h1 : lo ≤ n) (h2 : n ≤ hi) : amD (.int n) lo hi = true := by
  simp only [amD]
  rw [Bool.and_eq_true]
  exact ⟨decide_eq_true h1, decide_eq_true h2⟩
theorem arg_is {a : Ag} (h : goA a) : argD a.d = true := by
  cases a with
  | n z => exact h
  | u j => exact am_in h.1 h.2
  | i j => exact am_in h.1 h.2
theorem go_ag {a : Ag} (h : goA a) : Go a.d := (wt_ag h).mono (by decide) (by decide)
theorem noL_ag (a : Ag) : noL a.d = true := by
  cases a <;> (unfold Ag.d; rw [noL, noLA, noLA, noLA, noL, noL]; rfl)
/-- a list that is no row's words is written -/
theorem RowAt.updL {C x D : Addr} {H : Hp} {n : Int} {ws : List Str} {a : Nat} {ys : List V} {o : HO} (r : RowAt C H x n ws a) (hD : H D = some (.lst ys)) (hl : ys.length ≤ ws.length) : RowAt C (upd H D o) x n ws a := by
  obtain ⟨dx4, wl4, q1, q2⟩ := r
  have xn : x ≠ D := by
    intro z
    rw [z, hD] at q1
    cases q1
  have wn : wl4 ≠ D := by
    intro z
    rw [z, hD] at q2
    have hl' := congrArg List.length (HO.lst.inj (Option.some.inj q2))
    rw [List.length_append, List.length_map, List.length_singleton] at hl'
    omega
  exact ⟨dx4, wl4, (upd_ne xn).trans q1, (upd_ne wn).trans q2⟩
section
variable {P : Program} {w : World} {K : PySem.W.Frag} {mg : Str → Option Value} {base : Heap}
def spReadA (K : PySem.W.Frag) (C : Addr) : Sp := fun vs H Q _ => ∃ (x : Addr) (n : Int) (ws : List Str) (i : Nat) (a : Ag), vs = [.ref x] ∧ RowAt C H x n ws i ∧ ws[i]? = some (wA a) ∧ goA a ∧
  ∀ H' v, Gp x H H' → RowAt C H' x n ws (i + 1) → Dp K H' v a.d → Q v H'
theorem ok_readA {f fS fT fW fC fB fA C : Addr} {fd dS dT dW dC dB dA : FuncData} {k : Nat} (F : Fun K "read_arg" "read_arg" sReadA f fd) (Z : Rws P w K mg base C k fS fT fW fC dS dT dW dC) (HB : Has P w K mg base k "arg_by" ["word"] (spArgBy K) fB dB)
    (HA : Has P w K mg base k "is_arg" ["thing"] (spIsArg K) fA dA) : FnOk P w K mg base CX0 (k + 1) f fd ["row"] (spReadA K C) := by
  refine F.ok scReadA (fun vs H Q E h => ?_) (fun cdv A outer s H vs Q E hr h => ?_)
  · obtain ⟨x, n, ws, i, a, rfl, _⟩ := h
    rfl
  · obtain ⟨x, n, ws, i, a, rfl, r0, hw, ga, q⟩ := h
    have nd := scReadA.nd
    refine ⟨_, pss_cons (ps_set (i := 1) nd rfl (.inl rfl) (hcall HB hr (pa_cons (pe_meth0 (pv 0) Z.R.cl Z.HS.me Z.HS.ok hr Z.HS.bd .nil pass0) pa_nil)))
      (pss_cons (ps_expr (pe_meth (pv 0) Z.R.cl Z.HT.me Z.HT.ok hr Z.HT.bd .nil pass0 (pa_cons (hcall HA hr (pa_cons (pv 1) pa_nil)) pa_nil))) (pss_one (ps_ret (pv 1)))), ?_⟩
    have hi := lt_of_at hw
    obtain ⟨dx, fs, e0, a1, a2, a3, a4⟩ := r0.has
    refine ⟨_, rfl, x, dx, fs, rfl, e0, a1, x, n, ws, i, rfl, r0, by omega, ?_⟩
    rw [seen_is hw]
    refine ⟨a, rfl, ga, fun H1 v g1 d1 => ?_⟩
    have r1 := r0.gr g1
    obtain ⟨dx1, fs1, c0, c1, c2, c3, c4⟩ := r1.has
    refine ⟨_, rfl, x, dx1, fs1, rfl, c0, c2, _, rfl, v, a.d, rfl, Dp.dx d1, go_ag ga, ?_⟩
    rw [arg_is ga]
    refine ⟨x, n, ws, i, rfl, r1, by omega, fun H2 g2 r2 => ⟨_, rfl, ?_⟩⟩
    exact q H2 v ((Gp.gr g1).trans g2) r2 ((r1.kd g2).dp d1)
def spReadAs (K : PySem.W.Frag) (C : Addr) : Sp := fun vs H Q _ => ∃ (x : Addr) (n : Int) (ws : List Str) (i : Nat) (as : List Ag) (lo hi : Int), vs = [.ref x, .int lo, .int hi] ∧ RowAt C H x n ws i ∧ ws.length = i + as.length ∧ (∀ j a, as[j]? = some a → ws[i + j]? = some (wA a) ∧ goA a) ∧
  lo ≤ (as.length : Int) ∧ (as.length : Int) ≤ hi ∧ hi ≤ 9 ∧ ∀ H' p vs, Gp x H H' → H' p = some (.tup vs) → DpAll K H' vs (as.map Ag.d) → Q (.ref p) H'
set_option maxHeartbeats 1000000 in
theorem ok_readAs {f fS fT fW fC fA C : Addr} {fd dS dT dW dC dA : FuncData} {k : Nat} (F : Fun K "read_args" "read_args" sReadAs f fd) (Z : Rws P w K mg base C k fS fT fW fC dS dT dW dC)
    (HA : Has P w K mg base k "read_arg" ["row"] (spReadA K C) fA dA) (ml : mg "len" = none) (mt : mg "tuple" = none) : FnOk P w K mg base CX0 (k + 1) f fd ["row", "least", "most"] (spReadAs K C) := by
  refine F.ok scReadAs (fun vs H Q E h => ?_) (fun cdv A outer s H vs Q E hr h => ?_)
  · obtain ⟨x, n, ws, i, as, lo, hi, rfl, _⟩ := h
    rfl
  · obtain ⟨x, n, ws, i, as, lo, hi, rfl, r0, hl, hw, h1, h2, h9, q⟩ := h
    have nd := scReadAs.nd
    refine' ⟨_, pss_cons ?s1 (pss_cons ?s2 (pss_cons ?s3 (pss_one ?s4))), ?rd⟩
    case s1 => exact ps_set (i := 3) nd rfl (.inl rfl) (pe_lst pa_nil)
    case s2 =>
      exact ps_while PassesOwn.never (PW.pt (pw_or (pt_cmpR op_lt (pe_callB call_len_seq (by rfl) ml PySem.boot_len (pa_cons (pv 3) pa_nil)) (pv 1) (nomark _))
          (pw_or1 (PW.pt (pw_and (pt_cmpR op_lt (pe_callB call_len_seq (by rfl) ml PySem.boot_len (pa_cons (pv 3) pa_nil)) (pv 2) (nomark _))
            (pw_and1 (pt_cmpR op_notN (pe_meth0 (pv 0) Z.R.cl Z.HS.me Z.HS.ok hr Z.HS.bd .nil pass0) pe_non (nomark _))))))))
        (pss_one (ps_expr (pe_bm PySem.F.plainAttrs_list PySem.F.slot_list_append PySem.F.type_list_append mt_append (pv 3) (pa_cons (hcall HA hr (pa_cons (pv 0) pa_nil)) pa_nil))))
    case s3 => exact ps_expr (pe_meth0 (pv 0) Z.R.cl Z.HC.me Z.HC.ok hr Z.HC.bd .nil pass0)
    case s4 => exact ps_ret (pe_callTy call_tuple_of (by rfl) mt (by decide +kernel) (pa_cons (pv 3) pa_nil))
    case rd =>
    refine ⟨Nat.zero_le _, fun al nal => ?_⟩
    refine ⟨fun d σ H1 => ∃ (j : Nat) (xs : List V), σ = [some (.ref x), some (.int lo), some (.int hi), some (.ref al)] ∧ j ≤ as.length ∧ xs.length = j ∧ Gp x H H1 ∧ RowAt C H1 x n ws (i + j) ∧ H1 al = some (.lst xs) ∧ DpAll K H1 xs ((as.take j).map Ag.d) ∧ d = as.length - j,
      ⟨_, 0, [], rfl, Nat.zero_le _, rfl, Gp.gr (Gr.new nal), r0.gr (Gr.new nal), upd_same, .nil, rfl⟩, ?_⟩
    rintro d σ H1 ⟨j, xs, rfl, hj, hx, g1, r1, e1, d1, rfl⟩
    obtain ⟨dx, fs, e0, a1, a2, a3, a4⟩ := r1.has
    have xal : al ≠ x := by
      intro z
      rw [z, e0] at e1
      cases e1
    refine ⟨_, rfl, al, _, rfl, .inl (.inl (.inl e1)), _, rfl, _, _, rfl, rfl, _, rfl, ?_⟩
    rcases Nat.lt_or_ge j as.length with hlt | hge
    · have hk : as[j]? = some as[j] := List.getElem?_eq_getElem hlt
      generalize as[j] = a at hk
      obtain ⟨hwa, ga⟩ := hw j a hk
      by_cases c : ((xs.length : Nat) : Int) < lo
      case' pos =>
        rw [decide_eq_true c]
        refine iteT (iteT ?_)
      case' neg =>
        rw [decide_eq_false c]
        refine iteF ⟨_, rfl, al, _, rfl, .inl (.inl (.inl e1)), _, rfl, _, _, rfl, rfl, _, rfl, ?_⟩
        rw [decide_eq_true (show ((xs.length : Nat) : Int) < hi by omega)]
        refine iteT ⟨_, rfl, x, dx, fs, rfl, e0, a1, x, n, ws, i + j, rfl, r1, by omega, ?_⟩
        rw [seen_is hwa]
        refine ⟨rfl, _, rfl, ?_⟩
        refine iteT ?_
      all_goals
        refine ⟨fun σ' H' => ∃ (xs : List V), σ' = [some (.ref x), some (.int lo), some (.int hi), some (.ref al)] ∧ xs.length = j + 1 ∧ Gp x H H' ∧ RowAt C H' x n ws (i + (j + 1)) ∧ H' al = some (.lst xs) ∧ DpAll K H' xs ((as.take (j + 1)).map Ag.d), ?_, ?_⟩
        · rintro σ' H' ⟨xs', b1, b2, b3, b4, b5, b6⟩
          exact ⟨as.length - (j + 1), by omega, j + 1, xs', b1, hlt, b2, b3, b4, b5, b6, rfl⟩
        refine ⟨_, rfl, .inl ⟨rfl, _, .inl (.inl e1)⟩, _, rfl, x, n, ws, i + j, a, rfl, r1, hwa, ga, fun H2 v g2 r2 d2 => ?_⟩
        have e2 : H2 al = some (.lst xs) := g2.lst xal e1
        refine ⟨al, _, _, rfl, rfl, e2, small1000 (by omega), ?_⟩
        have t2 := (r1.kd g2).dpA d1
        have kt : Kt K H2 (upd H2 al (.lst (xs ++ [v]))) := kt_lst e2
        refine ⟨xs ++ [v], rfl, by rw [List.length_append, hx]; rfl, (g1.trans g2).upd_new nal, ?_, upd_same, ?_⟩
        · obtain ⟨dx4, wl4, q1, q2⟩ := r2
          have wn : wl4 ≠ al := by
            intro z
            rw [z, e2] at q2
            have hl' := congrArg List.length (HO.lst.inj (Option.some.inj q2))
            rw [List.length_append, List.length_map, List.length_singleton] at hl'
            omega
          exact ⟨dx4, wl4, (upd_ne (Ne.symm xal)).trans q1, (upd_ne wn).trans q2⟩
        · rw [List.take_add_one, hk, List.map_append]
          exact dpA_app (kt.dpA t2 (noLA_map _ noL_ag _)) (.cons (kt.dp d2 (noL_ag a)) .nil)
    · have ej : j = as.length := by omega
      subst ej
      rw [decide_eq_false (show ¬ ((xs.length : Nat) : Int) < lo by omega)]
      refine iteF ⟨_, rfl, al, _, rfl, .inl (.inl (.inl e1)), _, rfl, _, _, rfl, rfl, _, rfl, ?_⟩
      have sn : seenV ws (i + as.length) = .non := by
        unfold seenV
        rw [List.getElem?_eq_none (by omega)]
      have fin : ∀ (p : Addr), H1 p = none → Q (.ref p) (upd H1 p (.tup xs)) := fun p np => by
        rw [List.take_length] at d1
        exact q _ p xs (g1.trans (Gp.gr (Gr.new np))) upd_same ((Gr.new np).kd.dpA d1)
      have r9 : RowAt C H1 x n ws ws.length := by
        rw [hl]
        exact r1
      by_cases c : ((xs.length : Nat) : Int) < hi
      case' pos =>
        rw [decide_eq_true c]
        refine iteT ⟨_, rfl, x, dx, fs, rfl, e0, a1, x, n, ws, i + as.length, rfl, r1, by omega, ?_⟩
        rw [sn]
        refine ⟨rfl, _, rfl, ?_⟩
        refine iteF ?_
      case' neg =>
        rw [decide_eq_false c]
        refine iteF (iteF ?_)
      all_goals
        refine ⟨_, rfl, x, dx, fs, rfl, e0, a4, x, n, ws, rfl, r9, ?_⟩
        exact ⟨_, rfl, al, _, rfl, .inl ⟨.inl (.inl e1), fun p np => fin p np⟩⟩
/-- names are read -/
def spReadNs (C : Addr) : Sp := fun vs H Q _ => ∃ (x : Addr) (n : Int) (ws zs : List Str) (i : Nat), vs = [.ref x, .int (zs.length : Nat)] ∧ RowAt C H x n ws i ∧ zs.length ≤ 9 ∧ i + zs.length ≤ ws.length ∧ (∀ j z, zs[j]? = some z → ws[i + j]? = some z ∧ isN z = true) ∧
  ∀ H' p, Gp x H H' → RowAt C H' x n ws (i + zs.length) → H' p = some (.tup (zs.map V.str)) → Q (.ref p) H'
theorem ok_readNs {f fS fT fW fC fN C : Addr} {fd dS dT dW dC dN : FuncData} {k : Nat} (F : Fun K "read_names" "read_names" sReadNs f fd) (Z : Rws P w K mg base C k fS fT fW fC dS dT dW dC)
    (HN : Has P w K mg base k "is_name" ["thing"] spName fN dN) (mr : mg "range" = none) (mt : mg "tuple" = none) : FnOk P w K mg base CX0 (k + 1) f fd ["row", "many"] (spReadNs C) := by
  refine F.ok scReadNs (fun vs H Q E h => ?_) (fun cdv A outer s H vs Q E hr h => ?_)
  · obtain ⟨x, n, ws, zs, i, rfl, _⟩ := h
    rfl
  · obtain ⟨x, n, ws, zs, i, rfl, r0, h9, lw, hw, q⟩ := h
    have nd := scReadNs.nd
    refine ⟨_, pss_one (ps_ret (pe_callTy call_tuple_of (by rfl) mt (by decide +kernel) (pa_cons (pe_lc (own := [("place", 2)]) (g := gName 2) rfl nd (pi_range1 (by rfl) mr (pa_cons (pv 1) pa_nil))
      (blkOk_by (own := [("place", 2)]) (N := ["row", "many", "place"]) (sc := defScope sReadNs) (by decide +kernel)) (fun _ _ _ _ _ => pg_name (i := 2) nd rfl (.inl rfl)) (fun _ _ _ _ _ => pts_nil)
      (fun _ _ _ _ _ => pe_meth (pv 0) Z.R.cl Z.HT.me Z.HT.ok hr Z.HT.bd .nil pass0 (pa_cons (hcall HN hr (pa_cons (pe_meth0 (pv 0) Z.R.cl Z.HS.me Z.HS.ok hr Z.HS.bd .nil pass0) pa_nil)) pa_nil))) pa_nil))), ?_⟩
    refine ⟨_, rfl, _, rfl, by omega, by omega, fun D nD => ?_⟩
    obtain ⟨dx, fs, e0, _⟩ := r0.has
    have xD : D ≠ x := Ne.symm (ne_of_none e0 nD)
    refine lc_it (walk_range (lo := 0) (n := zs.length)) (fun j H5 => H5 D = some (.lst ((zs.take j).map V.str)) ∧ Gp x H H5 ∧ RowAt C H5 x n ws (i + j)) ?w0 (fun _ _ _ _ => trivial) ?w1 ?w2
    case w0 => exact ⟨upd_same, Gp.gr (Gr.new nD), r0.gr (Gr.new nD)⟩
    case w1 =>
      rintro j y H5 H5' hj ⟨hD5, g5, r5⟩ ⟨rfl, rfl⟩
      refine ⟨rfl, ?_⟩
      unfold tYes
      refine iteT ?_
      have hk : zs[j]? = some zs[j] := List.getElem?_eq_getElem hj
      generalize zs[j] = z at hk
      obtain ⟨hwz, nz⟩ := hw j z hk
      obtain ⟨dx, fs, e0, a1, a2, a3, a4⟩ := r5.has
      refine ⟨_, rfl, x, dx, fs, rfl, e0, a2, _, rfl, x, dx, fs, rfl, e0, a1, x, n, ws, i + j, rfl, r5, by omega, ?_⟩
      rw [seen_is hwz]
      refine ⟨z, rfl, nz, x, n, ws, i + j, rfl, r5, by omega, fun H6 g6 r6 => ?_⟩
      rw [seen_is hwz]
      have hD6 := g6.lst xD hD5
      have lt' : ((zs.take j).map V.str).length = j := by
        rw [List.length_map, List.length_take]
        omega
      refine ⟨_, hD6, ?_, ?_, ?_, ?_⟩
      · rw [lt']
        exact small1000 (by omega)
      · rw [upd_same, List.take_add_one, hk, List.map_append]
        rfl
      · exact (g5.trans g6).upd_new nD
      · exact r6.updL hD6 (by rw [lt']; omega)
    case w2 =>
      rintro H5 ⟨hD5, g5, r5⟩
      rw [List.take_length] at hD5
      exact ⟨D, _, rfl, .inl ⟨.inl (.inl hD5), fun p np => q _ p (g5.trans (Gp.gr (Gr.new np))) (r5.gr (Gr.new np)) upd_same⟩⟩
end
end SfC
/-! a program's row is read -/
namespace SfC
open PySem PySem.Spec PyProof.Rows L2 SfG
theorem scReadR : FnScope ["row", "word", "names", "args"] ["row"] (defScope sReadR) := ⟨rfl, rfl, rfl, by decide +kernel, rfl, by decide +kernel, by decide +kernel⟩
section
variable {P : Program} {w : World} {K : PySem.W.Frag} {mg : Str → Option Value} {base : Heap}
def spReadR (K : PySem.W.Frag) (C : Addr) : Sp := fun vs H Q _ => ∃ (x : Addr) (n : Int) (r : Ro), vs = [.ref x] ∧ RowAt C H x n (wsR r) 0 ∧ goR r ∧ ∀ H' v, Gp x H H' → Dp K H' v r.d → Q v H'
set_option maxHeartbeats 1000000 in
theorem ok_readR {f fS fT fW fC fN fA C : Addr} {fd dS dT dW dC dN dA : FuncData} {k : Nat} {t3 : Tok} (F : Fun K "read_row" "read_row" sReadR f fd) (Z : Rws P w K mg base C k fS fT fW fC dS dT dW dC)
    (HN : Has P w K mg base k "read_names" ["row", "many"] (spReadNs C) fN dN) (HA : Has P w K mg base k "read_args" ["row", "least", "most"] (spReadAs K C) fA dA) (m3 : mg "MOST_ARGS" = some (.int 3 t3)) :
    FnOk P w K mg base CX0 (k + 1) f fd ["row"] (spReadR K C) := by
  refine F.ok scReadR (fun vs H Q E h => ?_) (fun cdv A outer s H vs Q E hr h => ?_)
  · obtain ⟨x, n, r, rfl, _⟩ := h
    rfl
  · obtain ⟨x, n, r, rfl, r0, gr, q⟩ := h
    have nd := scReadR.nd
    refine' ⟨_, pss_cons ?s1 (pss_cons ?s2 (pss_cons ?s3 (pss_one ?s4))), ?rd⟩
    case s1 =>
      exact ps_set (i := 1) nd rfl (.inl rfl) (pe_meth (pv 0) Z.R.cl Z.HT.me Z.HT.ok hr Z.HT.bd .nil pass0 (pa_cons (pe_cmpR op_in_seq (pe_meth0 (pv 0) Z.R.cl Z.HS.me Z.HS.ok hr Z.HS.bd .nil pass0) (pe_tup (pa_cons pe_str (pa_cons pe_str (pa_cons pe_str pa_nil)))) rfl) pa_nil))
    case s2 =>
      exact ps_if (pt_cmpR op_eq (pv 1) pe_str (nomark _)) (pss_cons (ps_set (i := 2) nd rfl (.inl rfl) (hcall HN hr (pa_cons (pv 0) (pa_cons pe_int pa_nil))))
        (pss_one (ps_ret (pe_tup (pa_cons (pv 1) (StX.pa_star (pv 2) (pa_cons (hcall HA hr (pa_cons (pv 0) (pa_cons pe_int (pa_cons (pe_glob (v := .int 3) rfl m3 ⟨_, rfl⟩) pa_nil)))) pa_nil))))))) pss_nil
    case s3 =>
      exact ps_if (pt_cmpR op_eq (pv 1) pe_str (nomark _)) (pss_cons (ps_set (i := 2) nd rfl (.inl rfl) (hcall HN hr (pa_cons (pv 0) (pa_cons pe_int pa_nil))))
          (pss_one (ps_set (i := 3) nd rfl (.inl rfl) (hcall HA hr (pa_cons (pv 0) (pa_cons pe_int (pa_cons pe_int pa_nil)))))))
        (pss_cons (ps_set (i := 2) nd rfl (.inl rfl) (pe_tup pa_nil)) (pss_one (ps_set (i := 3) nd rfl (.inl rfl) (hcall HA hr (pa_cons (pv 0) (pa_cons pe_int (pa_cons pe_int pa_nil)))))))
    case s4 => exact ps_ret (pe_tup (pa_cons (pv 1) (StX.pa_star (pv 2) (StX.pa_star (pv 3) pa_nil))))
    case rd =>
    obtain ⟨dx, fs, e0, a1, a2, a3, a4⟩ := r0.has
    obtain ⟨kw, hw, hin⟩ : ∃ kw, (wsR r)[0]? = some kw ∧ inV (.str kw) [.str "let", .str "pick", .str "say"] = true := by
      cases r <;> exact ⟨_, rfl, by decide +kernel⟩
    refine ⟨_, rfl, x, dx, fs, rfl, e0, a2, _, rfl, x, dx, fs, rfl, e0, a1, x, n, wsR r, 0, rfl, r0, Nat.zero_le _, ?_⟩
    rw [seen_is hw]
    refine ⟨by show 3 ≤ sizeLine; decide, fun t nt => ⟨t, _, rfl, .inr (SqT.of upd_same), rfl, rfl, ?_⟩⟩
    rw [hin]
    refine ⟨x, n, wsR r, 0, rfl, r0.gr (Gr.new nt), Nat.zero_le _, fun H2 g2 r2 => ?_⟩
    rw [seen_is hw]
    have gx : Gp x H H2 := (Gp.gr (Gr.new nt)).trans g2
    clear hin g2
    cases r with
    | l nm lb dd as =>
      cases hw
      obtain ⟨h1, h2, h3, h4, h5⟩ := gr
      refine ⟨_, rfl, rfl, _, rfl, ?_⟩
      rw [decide_eq_true rfl]
      refine iteT ⟨_, rfl, x, n, _, [nm, lb, dd], 1, rfl, r2, (by show 3 ≤ 9; decide), (by show 1 + 3 ≤ (nm :: lb :: dd :: as.map wA).length + 1; simp), ?_, fun H3 p3 g3 r3 e3 => ?_⟩
      · intro j z hz
        match j, hz with
        | 0, hz => cases hz; exact ⟨rfl, h1⟩
        | 1, hz => cases hz; exact ⟨rfl, h2⟩
        | 2, hz => cases hz; exact ⟨rfl, h3⟩
        | j + 3, hz => simp at hz
      refine ⟨_, rfl, _, rfl, p3, _, rfl, .inl (SqT.of e3), ?_⟩
      refine ⟨_, rfl, x, n, _, 4, as, 0, 3, rfl, r3, ?_, ?_, by omega, by omega, by decide, fun H4 p4 vs g4 e4 d4 => ?_⟩
      · show (nm :: lb :: dd :: as.map wA).length + 1 = _
        simp only [List.length_cons, List.length_map]
        omega
      · intro j z hz
        refine ⟨?_, h5 z (List.mem_of_getElem? hz)⟩
        show (("let" : Str) :: nm :: lb :: dd :: as.map wA)[4 + j]? = _
        rw [show 4 + j = j + 1 + 1 + 1 + 1 by omega, List.getElem?_cons_succ, List.getElem?_cons_succ, List.getElem?_cons_succ, List.getElem?_cons_succ, List.getElem?_map, hz]
        rfl
      refine ⟨by show 5 ≤ sizeLine; decide, fun tf ntf => ?_⟩
      have kf : Gr H4 (upd H4 tf (.tup [.str "let", .str nm, .str lb, .str dd, .ref p4])) := Gr.new ntf
      exact q _ _ (gx.trans (g3.trans (g4.trans (Gp.gr kf)))) (.tup (SqT.of upd_same) (.cons (.str _) (.cons (.str _) (.cons (.str _) (.cons (.str _) (.cons (.tup (SqT.of (kf.tup e4)) (kf.kd.dpA d4)) .nil))))))
    | p nm a b c =>
      cases hw
      obtain ⟨h1, h2, h3, h4⟩ := gr
      refine ⟨_, rfl, rfl, _, rfl, ?_⟩
      rw [decide_eq_false (by decide +kernel)]
      refine iteF ⟨_, rfl, rfl, _, rfl, ?_⟩
      rw [decide_eq_true rfl]
      refine iteT ⟨_, rfl, x, n, _, [nm], 1, rfl, r2, (by show 1 ≤ 9; decide), (by show 1 + 1 ≤ 5; decide), ?_, fun H3 p3 g3 r3 e3 => ?_⟩
      · intro j z hz
        match j, hz with
        | 0, hz => cases hz; exact ⟨rfl, h1⟩
        | j + 1, hz => simp at hz
      refine ⟨_, rfl, x, n, _, 2, [a, b, c], 3, 3, rfl, r3, rfl, ?_, (by show (3 : Int) ≤ 3; decide), (by show (3 : Int) ≤ 3; decide), by decide, fun H4 p4 vs g4 e4 d4 => ?_⟩
      · intro j z hz
        match j, hz with
        | 0, hz => cases hz; exact ⟨rfl, h2⟩
        | 1, hz => cases hz; exact ⟨rfl, h3⟩
        | 2, hz => cases hz; exact ⟨rfl, h4⟩
        | j + 3, hz => simp at hz
      have l4 := dpA_len d4
      refine ⟨_, rfl, _, rfl, p3, _, rfl, .inl ((r3.kd g4).t (SqT.of e3)), _, rfl, p4, _, rfl, .inl (SqT.of e4), ?_⟩
      refine ⟨?_, fun tf ntf => ?_⟩
      · rw [List.append_nil]
        show vs.length + 1 + 1 ≤ sizeLine
        rw [l4]
        show 5 ≤ sizeLine
        decide
      rw [List.append_nil]
      have kf : Gr H4 (upd H4 tf (.tup (.str "pick" :: .str nm :: vs))) := Gr.new ntf
      exact q _ _ (gx.trans (g3.trans (g4.trans (Gp.gr kf)))) (.tup (SqT.of upd_same) (.cons (.str _) (.cons (.str _) (kf.kd.dpA d4))))
    | s a =>
      cases hw
      refine ⟨_, rfl, rfl, _, rfl, ?_⟩
      rw [decide_eq_false (by decide +kernel)]
      refine iteF ⟨_, rfl, rfl, _, rfl, ?_⟩
      rw [decide_eq_false (by decide +kernel)]
      refine iteF ⟨Nat.zero_le _, fun t3 nt3 => ?_⟩
      have r3 := r2.gr (Gr.new (o := .tup []) nt3)
      refine ⟨_, rfl, x, n, _, 1, [a], 1, 1, rfl, r3, rfl, ?_, (by show (1 : Int) ≤ 1; decide), (by show (1 : Int) ≤ 1; decide), by decide, fun H4 p4 vs g4 e4 d4 => ?_⟩
      · intro j z hz
        match j, hz with
        | 0, hz => cases hz; exact ⟨rfl, gr⟩
        | j + 1, hz => simp at hz
      have l4 := dpA_len d4
      have k3 : Gr H2 (upd H2 t3 (.tup [])) := Gr.new nt3
      refine ⟨_, rfl, _, rfl, t3, [], rfl, .inl ((r3.kd g4).t (SqT.of upd_same)), _, rfl, p4, _, rfl, .inl (SqT.of e4), ?_⟩
      refine ⟨?_, fun tf ntf => ?_⟩
      · rw [List.append_nil]
        show vs.length + 1 ≤ sizeLine
        rw [l4]
        show 2 ≤ sizeLine
        decide
      rw [List.append_nil]
      have kf : Gr H4 (upd H4 tf (.tup (.str "say" :: vs))) := Gr.new ntf
      exact q _ _ (gx.trans ((Gp.gr k3).trans (g4.trans (Gp.gr kf)))) (.tup (SqT.of upd_same) (.cons (.str _) (kf.kd.dpA d4)))
end
end SfC
/-! inputs are read; where a face ends; uses are read -/
namespace SfC
open PySem PySem.Spec PyProof.Rows L2 SfG
theorem scReadI : FnScope ["row", "inputs"] ["row"] (defScope sReadI) := ⟨rfl, rfl, rfl, by decide +kernel, rfl, by decide +kernel, by decide +kernel⟩
theorem scEndF : FnScope ["rows", "start", "number", "words"] ["rows", "start"] (defScope sEndF) := ⟨rfl, rfl, rfl, by decide +kernel, rfl, by decide +kernel, by decide +kernel⟩
theorem scReadU : FnScope ["rows", "ahead", "row", "label", "end"] ["rows", "ahead"] (defScope sReadU) := ⟨rfl, rfl, rfl, by decide +kernel, rfl, by decide +kernel, by decide +kernel⟩
theorem scReadUs : FnScope ["rows", "use", "gone", "uses"] ["rows"] (defScope sReadUs) := ⟨rfl, rfl, rfl, by decide +kernel, rfl, by decide +kernel, by decide +kernel⟩
theorem cutV_fr (xs : List V) {n : Nat} (h : n ≤ xs.length) : cutV xs (some (n : Int)) none = xs.drop n := by
  unfold cutV
  rw [HT.sIx_none, HT.sIx_nat, Nat.min_eq_left h]
  exact List.take_of_length_le (by rw [List.length_drop]; omega)
theorem cutV_til (xs : List V) {n : Nat} (h : n ≤ xs.length) : cutV xs none (some (n : Int)) = xs.take n := by
  unfold cutV
  rw [HT.sIx_none, HT.sIx_nat, Nat.min_eq_left h, List.drop_zero, Nat.sub_zero]
section
variable {P : Program} {w : World} {K : PySem.W.Frag} {mg : Str → Option Value} {base : Heap}
def spReadI (K : PySem.W.Frag) (C : Addr) : Sp := fun vs H Q _ => ∃ (x : Addr) (n : Int) (is : List Int), vs = [.ref x] ∧ RowAt C H x n (wsI is) 0 ∧ is.length ≤ 3 ∧ (∀ j ∈ is, 2 ≤ j ∧ j ≤ 9) ∧ ∀ H' p, Gp x H H' → H' p = some (.tup (is.map V.int)) → Q (.ref p) H'
set_option maxHeartbeats 1000000 in
theorem ok_readI {f fS fT fW fC fN C : Addr} {fd dS dT dW dC dN : FuncData} {k : Nat} {t3 : Tok} (F : Fun K "read_inputs" "read_inputs" sReadI f fd) (Z : Rws P w K mg base C k fS fT fW fC dS dT dW dC)
    (HN : HasM P w K mg base C k "take_number" ["self", "least", "most"] (spTakeN C) fN dN) (ml : mg "len" = none) (mt : mg "tuple" = none) (m3 : mg "MOST_INPUTS" = some (.int 3 t3)) : FnOk P w K mg base CX0 (k + 1) f fd ["row"] (spReadI K C) := by
  refine F.ok scReadI (fun vs H Q E h => ?_) (fun cdv A outer s H vs Q E hr h => ?_)
  · obtain ⟨x, n, is, rfl, _⟩ := h
    rfl
  · obtain ⟨x, n, is, rfl, r0, h3, hi, q⟩ := h
    have nd := scReadI.nd
    refine' ⟨_, pss_cons ?s1 (pss_cons ?s2 (pss_cons ?s3 (pss_cons ?s4 (pss_one ?s5)))), ?rd⟩
    case s1 => exact ps_expr (pe_meth (pv 0) Z.R.cl Z.HW.me Z.HW.ok hr Z.HW.bd .nil pass0 (pa_cons pe_str pa_nil))
    case s2 => exact ps_set (i := 1) nd rfl (.inl rfl) (pe_lst pa_nil)
    case s3 =>
      exact ps_while PassesOwn.never (PW.pt (pw_and (pt_cmpR op_lt (pe_callB call_len_seq (by rfl) ml PySem.boot_len (pa_cons (pv 1) pa_nil)) (pe_glob (v := .int 3) rfl m3 ⟨_, rfl⟩) (nomark _))
            (pw_and1 (pt_cmpR op_notN (pe_meth0 (pv 0) Z.R.cl Z.HS.me Z.HS.ok hr Z.HS.bd .nil pass0) pe_non (nomark _)))))
        (pss_one (ps_expr (pe_bm PySem.F.plainAttrs_list PySem.F.slot_list_append PySem.F.type_list_append mt_append (pv 1) (pa_cons (pe_meth (pv 0) Z.R.cl HN.me HN.ok hr HN.bd .nil pass0 (pa_cons pe_int (pa_cons pe_int pa_nil))) pa_nil))))
    case s4 => exact ps_expr (pe_meth0 (pv 0) Z.R.cl Z.HC.me Z.HC.ok hr Z.HC.bd .nil pass0)
    case s5 => exact ps_ret (pe_callTy call_tuple_of (by rfl) mt (by decide +kernel) (pa_cons (pv 1) pa_nil))
    case rd =>
    obtain ⟨dx, fs, e0, a1, a2, a3, a4⟩ := r0.has
    refine ⟨_, rfl, x, dx, fs, rfl, e0, a3, x, n, wsI is, 0, "inputs", rfl, r0, rfl, fun H1 g1 r1 => ?_⟩
    refine ⟨Nat.zero_le _, fun al nal => ?_⟩
    have wl : (wsI is).length = 1 + is.length := by
      simp only [wsI, List.length_cons, List.length_map]
      omega
    have nH : H al = none := g1.back al (fun z => by
      obtain ⟨dx, fs, e0, _⟩ := r1.has
      rw [← z, nal] at e0
      cases e0) nal
    refine ⟨fun d σ H2 => ∃ (j : Nat), σ = [some (.ref x), some (.ref al)] ∧ j ≤ is.length ∧ Gp x H H2 ∧ RowAt C H2 x n (wsI is) (1 + j) ∧ H2 al = some (.lst ((is.take j).map V.int)) ∧ d = is.length - j,
      ⟨_, 0, rfl, Nat.zero_le _, g1.trans (Gp.gr (Gr.new nal)), r1.gr (Gr.new nal), upd_same, rfl⟩, ?_⟩
    rintro d σ H2 ⟨j, rfl, hj, g2, r2, e2, rfl⟩
    obtain ⟨dx, fs, e0, a1, a2, a3, a4⟩ := r2.has
    have xal : al ≠ x := by
      intro z
      rw [z, e0] at e2
      cases e2
    have lx : ((is.take j).map V.int).length = j := by
      rw [List.length_map, List.length_take]
      omega
    refine ⟨_, rfl, al, _, rfl, .inl (.inl (.inl e2)), _, 3, rfl, rfl, _, rfl, ?_⟩
    rw [lx]
    rcases Nat.lt_or_ge j is.length with hlt | hge
    · have hk : is[j]? = some is[j] := List.getElem?_eq_getElem hlt
      generalize is[j] = v at hk
      obtain ⟨v2, v9⟩ := hi v (List.mem_of_getElem? hk)
      have hw : (wsI is)[1 + j]? = some (fig v.toNat) := by
        show (("inputs" : Str) :: is.map fun j => kS (.p j))[1 + j]? = _
        rw [Nat.add_comm, List.getElem?_cons_succ, List.getElem?_map, hk]
        rfl
      rw [decide_eq_true (show ((j : Nat) : Int) < 3 by omega)]
      refine iteT ⟨_, rfl, x, dx, fs, rfl, e0, a1, x, n, wsI is, 1 + j, rfl, r2, by omega, ?_⟩
      rw [seen_is hw]
      refine ⟨rfl, _, rfl, ?_⟩
      refine iteT ?_
      refine ⟨fun σ' H' => σ' = [some (.ref x), some (.ref al)] ∧ Gp x H H' ∧ RowAt C H' x n (wsI is) (1 + (j + 1)) ∧ H' al = some (.lst ((is.take (j + 1)).map V.int)), ?_, ?_⟩
      · rintro σ' H' ⟨b1, b2, b3, b4⟩
        exact ⟨is.length - (j + 1), by omega, j + 1, b1, hlt, b2, b3, b4, rfl⟩
      obtain ⟨dx9, wl9, hx9, _⟩ := id r2
      refine ⟨_, rfl, .inl ⟨rfl, _, .inl (.inl e2)⟩, _, rfl, x, dx9, _, rfl, hx9, rf_no _ _ _ (by decide +kernel) (by decide +kernel) (by decide +kernel), x, n, wsI is, 1 + j, 2, 9, v.toNat, rfl, r2, hw, by omega, by omega, by omega, fun H3 g3 r3 => ?_⟩
      have e3 : H3 al = some (.lst ((is.take j).map V.int)) := g3.lst xal e2
      refine ⟨al, _, _, rfl, rfl, e3, (by rw [lx]; exact small1000 (by omega)), ?_⟩
      refine ⟨rfl, (g2.trans g3).upd_new nH, r3.updL e3 (by rw [lx]; omega), ?_⟩
      rw [upd_same, List.take_add_one, hk, List.map_append, Int.toNat_of_nonneg (by omega)]
      rfl
    · have ej : j = is.length := by omega
      subst ej
      have sn : seenV (wsI is) (1 + is.length) = .non := by
        unfold seenV
        rw [List.getElem?_eq_none (by omega)]
      have r9 : RowAt C H2 x n (wsI is) (wsI is).length := by
        rw [wl]
        exact r2
      rw [List.take_length] at e2
      by_cases c : ((is.length : Nat) : Int) < 3
      case' pos =>
        rw [decide_eq_true c]
        refine iteT ⟨_, rfl, x, dx, fs, rfl, e0, a1, x, n, wsI is, 1 + is.length, rfl, r2, by omega, ?_⟩
        rw [sn]
        refine ⟨rfl, _, rfl, ?_⟩
        refine iteF ?_
      case' neg =>
        rw [decide_eq_false c]
        refine iteF (iteF ?_)
      all_goals
        refine ⟨_, rfl, x, dx, fs, rfl, e0, a4, x, n, wsI is, rfl, r9, ?_⟩
        exact ⟨_, rfl, al, _, rfl, .inl ⟨.inl (.inl e2), fun p np => q _ p (g2.trans (Gp.gr (Gr.new np))) upd_same⟩⟩
/-! ### where a face ends -/
def spEndF (K : PySem.W.Frag) : Sp := fun vs H Q _ => ∃ (rl : Addr) (pre : List Str) (f : Fc) (z : Str) (post : List Str) (ws : List Str), vs = [.ref rl, .int (pre.length : Nat)] ∧ H rl = some (.lst ((pre ++ rowsF f ++ z :: post).map V.str)) ∧ goF f ∧ pre.length ≤ 100 ∧ post.length ≤ 200 ∧
  z = Txt.join blank ws ∧ ws ≠ [] ∧ (∀ y ∈ ws, clean y ∧ y ≠ colon) ∧ ws.length ≤ 100 ∧ ∀ H', Gr H H' → Q (.int (pre.length + (rowsF f).length : Nat)) H'
theorem ok_endF {f fW : Addr} {fd dW : FuncData} {k : Nat} (F : Fun K "end_of_face" "end_of_face" sEndF f fd) (HW : Has P w K mg base k "words_of" ["row"] spWords fW dW) (mr : mg "range" = none) (ml : mg "len" = none) :
    FnOk P w K mg base CX0 (k + 1) f fd ["rows", "start"] (spEndF K) := by
  refine F.ok scEndF (fun vs H Q E h => ?_) (fun cdv A outer s H vs Q E hr h => ?_)
  · obtain ⟨rl, pre, f, z, post, ws, rfl, _⟩ := h
    rfl
  · obtain ⟨rl, pre, f, z, post, ws, rfl, hrl, go, hp, hq, rfl, wne, wc, wl, q⟩ := h
    have nd := scEndF.nd
    refine' ⟨_, pss_cons ?s1 (pss_one ?s2), ?rd⟩
    case s1 =>
      exact ps_for PassesOwn.never rfl (pi_range2 (by rfl) mr (pa_cons (pe_op op_add (pv 1) pe_int) (pa_cons (pe_callB call_len_seq (by rfl) ml PySem.boot_len (pa_cons (pv 0) pa_nil)) pa_nil)))
        (pg_name (i := 2) nd rfl (.inl rfl))
        (pss_cons (ps_set (i := 3) nd rfl (.inl rfl) (hcall HW hr (pa_cons (pe_ix ix_list (pv 0) (pv 2) (fun _ _ => rfl)) pa_nil)))
        (pss_one (ps_if (PW.pt (pw_and (pt_cmpR op_notN (pv 3) pe_non (nomark _)) (pw_and1 (pt_cmpR op_notIn_seq pe_str (pv 3) rfl)))) (pss_one (ps_ret (pv 2))) pss_nil)))
    case s2 => exact ps_ret (pe_callB call_len_seq (by rfl) ml PySem.boot_len (pa_cons (pv 0) pa_nil))
    case rd =>
    have fl : (rowsF f).length = f.ds.length + 1 := by
      show (f.ds.map rowD).length + 1 = _
      rw [List.length_map]
    have al : (pre ++ rowsF f ++ Txt.join blank ws :: post).length = pre.length + (f.ds.length + 1) + (post.length + 1) := by
      rw [List.length_append, List.length_append, fl, List.length_cons]
    have hi8 := go.hi
    have rowE : ∀ (i : Nat) (e : De), f.ds[i]? = some e → (pre ++ rowsF f ++ Txt.join blank ws :: post)[pre.length + 1 + i]? = some (Txt.join blank (wsD e)) := by
      intro i e he
      have hi := lt_of_at he
      rw [List.getElem?_append_left (by rw [List.length_append, fl]; omega), List.getElem?_append_right (by omega), show pre.length + 1 + i - pre.length = i + 1 by omega]
      show (f.ds.map rowD)[i]? = _
      rw [List.getElem?_map, he]
      rfl
    have rowZ : (pre ++ rowsF f ++ Txt.join blank ws :: post)[pre.length + 1 + f.ds.length]? = some (Txt.join blank ws) := by
      rw [List.getElem?_append_right (by rw [List.length_append, fl]; omega), List.length_append, fl, show pre.length + 1 + f.ds.length - (pre.length + (f.ds.length + 1)) = 0 by omega]
      rfl
    refine ⟨_, rfl, _, 1, rfl, rfl, _, rfl, rl, _, rfl, .inl (.inl (.inl hrl)), ?_⟩
    rw [List.length_map, al]
    generalize pre ++ rowsF f ++ Txt.join blank ws :: post = all at *
    refine ⟨(pre.length : Int) + 1, _, rfl, ⟨by omega, by omega, by omega, by omega⟩, ?_⟩
    have cnt : (((pre.length + (f.ds.length + 1) + (post.length + 1) : Nat) : Int) - ((pre.length : Int) + 1)).toNat = f.ds.length + 1 + post.length := by omega
    rw [cnt]
    refine for_it (walk_range (lo := (pre.length : Int) + 1) (n := f.ds.length + 1 + post.length)) (fun i σ H7 => ∃ (y2 y3 : Option V), σ = [some (.ref rl), some (.int (pre.length : Nat)), y2, y3] ∧ i ≤ f.ds.length ∧ Gr H H7)
      ⟨none, none, rfl, Nat.zero_le _, Gr.refl H⟩ (fun _ _ _ _ _ => trivial) ?h2 ?h3
    case h2 =>
      rintro i y σ H7' H7 hi ⟨y2, y3, rfl, hle, g7⟩ ⟨rfl, rfl⟩
      have iE : (pre.length : Int) + 1 + (i : Int) = ((pre.length + 1 + i : Nat) : Int) := by omega
      have hrl7 := g7.lst hrl
      have step : ∀ (us : List Str), all[pre.length + 1 + i]? = some (Txt.join blank us) → atI (all.map V.str) ((pre.length : Int) + 1 + (i : Int)) = some (.str (Txt.join blank us)) := fun us e => by
        rw [iE]
        exact atI_nat (by rw [List.getElem?_map, e]; rfl)
      rcases Nat.lt_or_ge i f.ds.length with hlt | hge
      · have hk : f.ds[i]? = some f.ds[i] := List.getElem?_eq_getElem hlt
        generalize f.ds[i] = e at hk
        have ge := go.ok e (List.mem_of_getElem? hk)
        refine ⟨_, rfl, _, rfl, rl, _, _, _, rfl, rfl, .inl (.inl hrl7), step _ (rowE i e hk), wsD e, rfl, by simp [wsD], clean_wsD go.hid.nm ge, by have := wsD_len ge; omega, fun H8 p g8 np hp8 => ?_⟩
        refine ⟨_, rfl, rfl, _, rfl, iteT ⟨_, rfl, p, _, rfl, .inl (.inl (.inl hp8)), rfl, flat_strs _, _, rfl, ?_⟩⟩
        rw [inV_not, decide_eq_true (List.mem_of_getElem? (wsD_colon e))]
        refine iteF ?_
        exact ⟨_, _, rfl, hlt, g7.trans g8⟩
      · have ei : i = f.ds.length := by omega
        subst ei
        refine ⟨_, rfl, _, rfl, rl, _, _, _, rfl, rfl, .inl (.inl hrl7), step _ rowZ, ws, rfl, wne, fun y hy => (wc y hy).1, wl, fun H8 p g8 np hp8 => ?_⟩
        refine ⟨_, rfl, rfl, _, rfl, iteT ⟨_, rfl, p, _, rfl, .inl (.inl (.inl hp8)), rfl, flat_strs _, _, rfl, ?_⟩⟩
        rw [inV_not, decide_eq_false (fun z => (wc _ z).2 rfl)]
        refine iteT ⟨_, rfl, ?_⟩
        show Q (.int ((pre.length : Int) + 1 + ((f.ds.length : Nat) : Int))) H8
        rw [iE]
        have := q H8 (g7.trans g8)
        rw [fl] at this
        rw [show pre.length + 1 + f.ds.length = pre.length + (f.ds.length + 1) by omega]
        exact this
    case h3 =>
      rintro σ H7 ⟨y2, y3, rfl, hle, g7⟩
      exact absurd hle (by omega)
/-! ### read_use -/
/-- a row behind a face: words none of which is a colon -/
def NoC (z : Str) : Prop := ∃ ws, z = Txt.join blank ws ∧ ws ≠ [] ∧ (∀ y ∈ ws, clean y ∧ y ≠ colon) ∧ ws.length ≤ 100
def spReadU (K : PySem.W.Frag) : Sp := fun vs H Q _ => ∃ (rl : Addr) (pre : List Str) (u : Us) (z : Str) (post : List Str), vs = [.ref rl, .int (pre.length : Nat)] ∧ H rl = some (.lst ((pre ++ rowsU u ++ z :: post).map V.str)) ∧ isN u.lb = true ∧ goF u.fc ∧ pre.length ≤ 90 ∧ post.length ≤ 200 ∧ NoC z ∧
  ∀ H' p v, Gr H H' → H' p = some (.tup [v, .int (pre.length + (rowsU u).length : Nat)]) → Dp K H' v u.d → Q (.ref p) H'
theorem ok_readU {f fA fS fT fW fC fN fE fB C : Addr} {fd dA dS dT dW dC dN dE dB : FuncData} {k : Nat} (F : Fun K "read_use" "read_use" sReadU f fd) (Z : Rws P w K mg base C k fS fT fW fC dS dT dW dC) (HA : Has P w K mg base k "row_at" ["rows", "number"] (spRowAt K C) fA dA)
    (HN : Has P w K mg base k "is_name" ["thing"] spName fN dN) (HE : Has P w K mg base k "end_of_face" ["rows", "start"] (spEndF K) fE dE) (HB : Has P w K mg base k "read_face_behind" ["rows", "ahead"] (spReadFB K) fB dB) :
    FnOk P w K mg base CX0 (k + 1) f fd ["rows", "ahead"] (spReadU K) := by
  refine F.ok scReadU (fun vs H Q E h => ?_) (fun cdv A outer s H vs Q E hr h => ?_)
  · obtain ⟨rl, pre, u, z, post, rfl, _⟩ := h
    rfl
  · obtain ⟨rl, pre, u, z, post, rfl, hrl, nl, go, hp, hq, ⟨ws, rfl, wne, wc, wl⟩, q⟩ := h
    have nd := scReadU.nd
    refine' ⟨_, pss_cons ?s1 (pss_cons ?s2 (pss_cons ?s3 (pss_cons ?s4 (pss_cons ?s5 (pss_one ?s6))))), ?rd⟩
    case s1 => exact ps_set (i := 2) nd rfl (.inl rfl) (hcall HA hr (pa_cons (pv 0) (pa_cons (pe_op op_add (pv 1) pe_int) pa_nil)))
    case s2 => exact ps_expr (pe_meth (pv 2) Z.R.cl Z.HW.me Z.HW.ok hr Z.HW.bd .nil pass0 (pa_cons pe_str pa_nil))
    case s3 => exact ps_set (i := 3) nd rfl (.inl rfl) (pe_meth (pv 2) Z.R.cl Z.HT.me Z.HT.ok hr Z.HT.bd .nil pass0 (pa_cons (hcall HN hr (pa_cons (pe_meth0 (pv 2) Z.R.cl Z.HS.me Z.HS.ok hr Z.HS.bd .nil pass0) pa_nil)) pa_nil))
    case s4 => exact ps_expr (pe_meth0 (pv 2) Z.R.cl Z.HC.me Z.HC.ok hr Z.HC.bd .nil pass0)
    case s5 => exact ps_set (i := 4) nd rfl (.inl rfl) (hcall HE hr (pa_cons (pv 0) (pa_cons (pe_op op_add (pv 1) pe_int) pa_nil)))
    case s6 => exact ps_ret (pe_tup (pa_cons (pe_tup (pa_cons (pv 3) (pa_cons (hcall HB hr (pa_cons (pe_slice sl_list (pv 0) po_none (po_some (pv 4))) (pa_cons (pe_op op_add (pv 1) pe_int) pa_nil))) pa_nil))) (pa_cons (pv 4) pa_nil)))
    case rd =>
    have eR : pre ++ rowsU u ++ Txt.join blank ws :: post = (pre ++ [rowU u.lb]) ++ rowsF u.fc ++ Txt.join blank ws :: post := by
      simp [rowsU]
    have fl := rowsF_len go
    have rl0 : (pre ++ rowsU u ++ Txt.join blank ws :: post)[pre.length]? = some (Txt.join blank (wsU u.lb)) := by
      rw [List.append_assoc, List.getElem?_append_right (Nat.le_refl _), Nat.sub_self]
      rfl
    refine ⟨_, rfl, _, rfl, _, 1, rfl, rfl, rl, _, pre.length, wsU u.lb, rfl, .inl (.inl hrl), rl0, by simp [wsU], clean_wsU nl, (by show 2 ≤ 100; decide), fun H2 x g2 nx r2 => ?_⟩
    obtain ⟨dx, fs, e0, a1, a2, a3, a4⟩ := r2.has
    refine ⟨_, rfl, x, dx, fs, rfl, e0, a3, x, _, wsU u.lb, 0, "use", rfl, r2, rfl, fun H3 g3 r3 => ?_⟩
    obtain ⟨dx, fs, e0, a1, a2, a3, a4⟩ := r3.has
    refine ⟨_, rfl, x, dx, fs, rfl, e0, a2, _, rfl, x, dx, fs, rfl, e0, a1, x, _, wsU u.lb, 1, rfl, r3, (by show 1 ≤ 2; decide), ?_⟩
    have hw1 : (wsU u.lb)[1]? = some u.lb := rfl
    rw [seen_is hw1]
    refine ⟨u.lb, rfl, nl, x, _, wsU u.lb, 1, rfl, r3, (by show 1 ≤ 2; decide), fun H4 g4 r4 => ?_⟩
    rw [seen_is hw1]
    obtain ⟨dx, fs, e0, a1, a2, a3, a4⟩ := r4.has
    refine ⟨_, rfl, x, dx, fs, rfl, e0, a4, x, _, wsU u.lb, rfl, r4, ?_⟩
    have g04 : Gr H H4 := Gp.out g2 nx (g3.trans g4)
    have hrl4 := g04.lst hrl
    rw [eR] at hrl4
    refine ⟨_, rfl, _, rfl, _, 1, rfl, rfl, rl, pre ++ [rowU u.lb], u.fc, _, post, ws, ?_, hrl4, go, ?_, hq, rfl, wne, wc, wl, fun H5 g5 => ?_⟩
    · rw [List.length_append]
      rfl
    · rw [List.length_append]
      show pre.length + 1 ≤ 100
      omega
    have hrl5 := g5.lst hrl4
    refine ⟨_, rfl, _, rfl, _, rfl, _, rfl, rl, _, rfl, .inl (.inl hrl5), fun sl nsl => ?_⟩
    have lA : (pre ++ [rowU u.lb]).length = pre.length + 1 := by simp
    have cut : cutV (((pre ++ [rowU u.lb]) ++ rowsF u.fc ++ Txt.join blank ws :: post).map V.str) none (some (((pre ++ [rowU u.lb]).length + (rowsF u.fc).length : Nat) : Int)) = ((pre ++ [rowU u.lb]) ++ rowsF u.fc).map V.str := by
      rw [cutV_til _ (by rw [List.length_map, List.length_append (as := (pre ++ [rowU u.lb]) ++ rowsF u.fc), List.length_append (as := pre ++ [rowU u.lb])]; omega), ← List.map_take, ← List.length_append, List.take_left]
    rw [cut]
    have k6 : Gr H5 (upd H5 sl (.lst (((pre ++ [rowU u.lb]) ++ rowsF u.fc).map V.str))) := Gr.new nsl
    refine ⟨_, rfl, _, 1, rfl, rfl, sl, pre ++ [rowU u.lb], u.fc, ?_, upd_same, ?_, go, fun H6 v g6 d6 => ?_⟩
    · rw [lA]
      rfl
    · rw [lA]
      omega
    refine ⟨by show 2 ≤ sizeLine; decide, fun t1 n1 => ?_⟩
    have k7 : Gr H6 (upd H6 t1 (.tup [.str u.lb, v])) := Gr.new n1
    have e7 : upd H6 t1 (.tup [.str u.lb, v]) t1 = some (.tup [.str u.lb, v]) := upd_same
    generalize upd H6 t1 (.tup [.str u.lb, v]) = H7 at k7 e7 ⊢
    refine ⟨_, rfl, by show 2 ≤ sizeLine; decide, fun t2 n2 => ?_⟩
    rw [lA, show pre.length + 1 + (rowsF u.fc).length = pre.length + (rowsU u).length by
      show _ = pre.length + ((rowsF u.fc).length + 1)
      omega]
    exact q _ t2 (.ref t1) (g04.trans (g5.trans (k6.trans (g6.trans (k7.trans (Gr.new n2)))))) upd_same ((Gr.new n2).kd.dp (.tup (SqT.of e7) (.cons (.str _) (.cons (k7.kd.dp d6) .nil))))
end
end SfC
/-! all uses are read -/
namespace SfC
open PySem PySem.Spec PyProof.Rows L2 SfG
theorem name_colon {z : Str} (h : isN z = true) : z ≠ colon := by
  rintro rfl
  exact absurd h (by decide +kernel)
theorem noC_use {z : Str} (h : isN z = true) : NoC (rowU z) := by
  refine ⟨wsU z, rfl, by simp [wsU], fun y hy => ⟨clean_wsU h y hy, ?_⟩, (by show 2 ≤ 100; decide)⟩
  simp only [wsU, List.mem_cons, List.not_mem_nil, or_false] at hy
  rcases hy with rfl | rfl
  · decide +kernel
  · exact name_colon h
theorem fig_colon : ∀ n : Nat, n < 10 → (⟨#[48 + n]⟩ : Str) ≠ colon := by decide +kernel
theorem noC_inp {is : List Int} (h3 : is.length ≤ 3) (h : ∀ j ∈ is, 2 ≤ j ∧ j ≤ 9) : NoC (rowI is) := by
  refine ⟨wsI is, rfl, by simp [wsI], fun y hy => ⟨clean_wsI h y hy, ?_⟩, ?_⟩
  · simp only [wsI, List.mem_cons, List.mem_map] at hy
    rcases hy with rfl | ⟨j, hj, rfl⟩
    · decide +kernel
    · exact fig_colon j.toNat (by have := h j hj; omega)
  · simp only [wsI, List.length_cons, List.length_map]
    omega
theorem rowsUs_take {us : List Us} {j : Nat} {u : Us} (h : us[j]? = some u) : rowsUs (us.take (j + 1)) = rowsUs (us.take j) ++ rowsU u := by
  unfold rowsUs
  rw [List.take_add_one, h, List.flatMap_append]
  simp
theorem rowsUs_split {us : List Us} {j : Nat} {u : Us} (h : us[j]? = some u) : rowsUs us = rowsUs (us.take j) ++ rowsU u ++ rowsUs (us.drop (j + 1)) := by
  rw [← rowsUs_take h]
  unfold rowsUs
  rw [← List.flatMap_append, List.take_append_drop]
theorem rest_of {us : List Us} (hn : ∀ u ∈ us, isN u.lb = true ∧ goF u.fc) (h4 : us.length ≤ 4) {z : Str} (hz : NoC z) {post : List Str} (hp : post.length ≤ 100) : ∃ z' post', rowsUs us ++ z :: post = z' :: post' ∧ NoC z' ∧ post'.length ≤ 200 := by
  cases us with
  | nil => exact ⟨z, post, rfl, hz, by omega⟩
  | cons u r =>
    have h := rowsUs_len (us := u :: r) fun v hv => (hn v hv).2
    refine ⟨rowU u.lb, rowsF u.fc ++ (rowsUs r ++ z :: post), ?_, noC_use (hn u List.mem_cons_self).1, ?_⟩
    · show ((rowU u.lb :: rowsF u.fc) ++ rowsUs r) ++ z :: post = _
      simp
    · have e : (rowsUs (u :: r)).length = (rowsF u.fc).length + 1 + (rowsUs r).length := by
        show ((rowU u.lb :: rowsF u.fc) ++ rowsUs r).length = _
        rw [List.length_append, List.length_cons]
      rw [List.length_append, List.length_append, List.length_cons]
      rw [List.length_cons] at h4 h
      omega
theorem noL_kn (k : Kn) : noL k.d = true := by
  cases k <;> rw [Kn.d, noL]
theorem noL_de (e : De) : noL e.d = true := by
  unfold De.d
  rw [noL, noLA, noLA, noLA, noLA, noL_kn, noL, noL, noLA_map _ noL_kn]
  rfl
theorem noL_fc (f : Fc) : noL f.d = true := by
  unfold Fc.d
  rw [noL, noLA, noLA, noLA, noL, noL, noLA_map _ (fun _ => by rw [noL]), noLA_map _ noL_de]
  rfl
theorem noL_use (u : Us) : noL u.d = true := by
  unfold Us.d
  rw [noL, noLA, noLA, noLA, noL, noL_fc]
  rfl
theorem noL_ro (r : Ro) : noL r.d = true := by
  cases r with
  | l nm lb dd as =>
    unfold Ro.d
    rw [noL, noLA, noLA, noLA, noLA, noLA, noLA, noL, noL, noL, noL, noL, noLA_map _ noL_ag]
    rfl
  | p nm a b c =>
    unfold Ro.d
    rw [noL, noLA, noLA, noLA, noLA, noLA, noLA, noL, noL, noL_ag, noL_ag, noL_ag]
    rfl
  | s a =>
    unfold Ro.d
    rw [noL, noLA, noLA, noLA, noL, noL_ag]
    rfl
section
variable {P : Program} {w : World} {K : PySem.W.Frag} {mg : Str → Option Value} {base : Heap}
def spReadUs (K : PySem.W.Frag) : Sp := fun vs H Q _ => ∃ (rl : Addr) (us : List Us) (is : List Int) (post : List Str), vs = [.ref rl] ∧ H rl = some (.lst ((rowsUs us ++ rowI is :: post).map V.str)) ∧ 1 ≤ us.length ∧ us.length ≤ 4 ∧ (∀ u ∈ us, isN u.lb = true ∧ goF u.fc) ∧
  is.length ≤ 3 ∧ (∀ j ∈ is, 2 ≤ j ∧ j ≤ 9) ∧ post.length ≤ 100 ∧ ∀ H' p v, Gr H H' → H' p = some (.tup [v, .int ((rowsUs us).length : Nat)]) → Dp K H' v (.tuple (us.map Us.d)) → Q (.ref p) H'
set_option maxHeartbeats 1000000 in
theorem ok_readUs {f fA fS fT fW fC fU C : Addr} {fd dA dS dT dW dC dU : FuncData} {k : Nat} {t4 : Tok} (F : Fun K "read_uses" "read_uses" sReadUs f fd) (Z : Rws P w K mg base C k fS fT fW fC dS dT dW dC) (HA : Has P w K mg base k "row_at" ["rows", "number"] (spRowAt K C) fA dA)
    (HU : Has P w K mg base k "read_use" ["rows", "ahead"] (spReadU K) fU dU) (ml : mg "len" = none) (mt : mg "tuple" = none) (m4 : mg "MOST_USES" = some (.int 4 t4)) : FnOk P w K mg base CX0 (k + 1) f fd ["rows"] (spReadUs K) := by
  refine F.ok scReadUs (fun vs H Q E h => ?_) (fun cdv A outer s H vs Q E hr h => ?_)
  · obtain ⟨rl, us, is, post, rfl, _⟩ := h
    rfl
  · obtain ⟨rl, us, is, post, rfl, hrl, u1, u4, un, i3, iN, hp, q⟩ := h
    have nd := scReadUs.nd
    refine' ⟨_, pss_cons ?s1 (pss_cons ?s2 (pss_cons ?s3 (pss_one ?s4))), ?rd⟩
    case s1 => exact ps_asg (hcall HU hr (pa_cons (pv 0) (pa_cons pe_int pa_nil))) (pg_tup rfl (pgs_cons (pg_name (i := 1) nd rfl (.inl rfl)) (pgs_cons (pg_name (i := 2) nd rfl (.inl rfl)) pgs_nil)))
    case s2 => exact ps_set (i := 3) nd rfl (.inl rfl) (pe_lst (pa_cons (pv 1) pa_nil))
    case s3 =>
      exact ps_while PassesOwn.never (PW.pt (pw_and (pt_cmpR op_lt (pe_callB call_len_seq (by rfl) ml PySem.boot_len (pa_cons (pv 3) pa_nil)) (pe_glob (v := .int 4) rfl m4 ⟨_, rfl⟩) (nomark _))
            (pw_and1 (pt_cmpR op_eq (pe_meth0 (hcall HA hr (pa_cons (pv 0) (pa_cons (pe_op op_add (pv 2) pe_int) pa_nil))) Z.R.cl Z.HS.me Z.HS.ok hr Z.HS.bd .nil pass0) pe_str (nomark _)))))
        (pss_cons (ps_asg (hcall HU hr (pa_cons (pv 0) (pa_cons (pv 2) pa_nil))) (pg_tup rfl (pgs_cons (pg_name (i := 1) nd rfl (.inl rfl)) (pgs_cons (pg_name (i := 2) nd rfl (.inl rfl)) pgs_nil))))
        (pss_one (ps_expr (pe_bm PySem.F.plainAttrs_list PySem.F.slot_list_append PySem.F.type_list_append mt_append (pv 3) (pa_cons (pv 1) pa_nil)))))
    case s4 => exact ps_ret (pe_tup (pa_cons (pe_callTy call_tuple_of (by rfl) mt (by decide +kernel) (pa_cons (pv 3) pa_nil)) (pa_cons (pv 2) pa_nil)))
    case rd =>
    have zN := noC_inp i3 iN
    -- one use: where it stands
    have one : ∀ (j : Nat) (u : Us), us[j]? = some u → ∃ z' post', rowsUs us ++ rowI is :: post = rowsUs (us.take j) ++ rowsU u ++ z' :: post' ∧ NoC z' ∧ post'.length ≤ 200 ∧ (rowsUs (us.take j)).length ≤ 90 := by
      intro j u hu
      obtain ⟨z', post', e, c1, c2⟩ := rest_of (us := us.drop (j + 1)) (fun v hv => un v (List.mem_of_mem_drop hv)) (by rw [List.length_drop]; omega) zN hp
      refine ⟨z', post', ?_, c1, c2, ?_⟩
      · rw [rowsUs_split hu, List.append_assoc, e]
      · have := rowsUs_len (us := us.take j) fun v hv => (un v (List.mem_of_mem_take hv)).2
        rw [List.length_take] at this
        omega
    obtain ⟨u0, r0, e0⟩ : ∃ u r, us = u :: r := by
      cases us with
      | nil => exact absurd u1 (by simp)
      | cons u r => exact ⟨u, r, rfl⟩
    have at0 : us[0]? = some u0 := by rw [e0]; rfl
    obtain ⟨z0, p0, c0, c1, c2, c3⟩ := one 0 u0 at0
    refine ⟨_, rfl, rl, rowsUs (us.take 0), u0, z0, p0, rfl, by rw [hrl, c0], (un u0 (List.mem_of_getElem? at0)).1, (un u0 (List.mem_of_getElem? at0)).2, c3, c2, c1, fun H1 t1 v1 g1 e1 d1 => ?_⟩
    refine ⟨t1, _, rfl, .inl (.inl e1), rfl, v1, _, rfl, _, [], rfl, rfl, ?_⟩
    refine ⟨_, rfl, by show 1 ≤ sizeLine; decide, fun al nal => ?_⟩
    have k2 : Gr H1 (upd H1 al (.lst [v1])) := Gr.new nal
    have e2 : upd H1 al (.lst [v1]) al = some (.lst [v1]) := upd_same
    have nH : H al = none := g1.back al nal
    generalize upd H1 al (.lst [v1]) = H2 at k2 e2 ⊢
    refine ⟨fun d σ H3 => ∃ (j : Nat) (xs : List V) (v : V), σ = [some (.ref rl), some v, some (.int ((rowsUs (us.take j)).length : Nat)), some (.ref al)] ∧ 1 ≤ j ∧ j ≤ us.length ∧ Gr H H3 ∧ H3 al = some (.lst xs) ∧ DpAll K H3 xs ((us.take j).map Us.d) ∧ d = us.length - j,
      ⟨_, 1, [v1], v1, ?_, Nat.le_refl _, u1, g1.trans k2, e2, ?_, rfl⟩, ?_⟩
    · rw [rowsUs_take at0]
      show _ = [some (V.ref rl), some v1, some (V.int ((([] : List Str) ++ rowsU u0).length : Nat)), some (V.ref al)]
      rw [List.nil_append]
      show [some (V.ref rl), some v1, some (V.int ((0 + (rowsU u0).length : Nat) : Int)), some (V.ref al)] = _
      rw [Nat.zero_add]
    · rw [e0]
      exact .cons (k2.kd.dp d1) .nil
    rintro d σ H3 ⟨j, xs, v, rfl, j1, hj, g3, e3, d3, rfl⟩
    have lx : xs.length = j := by
      have := dpA_len d3
      rw [List.length_map, List.length_take] at this
      omega
    refine ⟨_, rfl, al, _, rfl, .inl (.inl (.inl e3)), _, 4, rfl, rfl, _, rfl, ?_⟩
    rw [lx]
    have hrl3 := g3.lst hrl
    rcases Nat.lt_or_ge j us.length with hlt | hge
    · have hk : us[j]? = some us[j] := List.getElem?_eq_getElem hlt
      generalize us[j] = u at hk
      obtain ⟨un1, un2⟩ := un u (List.mem_of_getElem? hk)
      obtain ⟨z', p', c0, c1, c2, c3⟩ := one j u hk
      rw [decide_eq_true (show ((j : Nat) : Int) < 4 by omega)]
      have rj : (rowsUs us ++ rowI is :: post)[(rowsUs (us.take j)).length]? = some (Txt.join blank (wsU u.lb)) := by
        rw [c0, List.append_assoc, List.getElem?_append_right (Nat.le_refl _), Nat.sub_self]
        rfl
      refine iteT ⟨_, rfl, _, rfl, _, 1, rfl, rfl, rl, _, (rowsUs (us.take j)).length, wsU u.lb, rfl, .inl (.inl hrl3), rj, by simp [wsU], clean_wsU un1, (by show 2 ≤ 100; decide), fun H4 x g4 nx r4 => ?_⟩
      obtain ⟨dx, fs, f0, a1, a2, a3, a4⟩ := r4.has
      refine ⟨x, dx, fs, rfl, f0, a1, x, _, wsU u.lb, 0, rfl, r4, Nat.zero_le _, ?_⟩
      rw [seen_is (show (wsU u.lb)[0]? = some ("use" : Str) from rfl)]
      refine ⟨rfl, _, rfl, ?_⟩
      rw [decide_eq_true rfl]
      refine iteT ⟨fun σ' H' => ∃ (xs : List V) (v : V), σ' = [some (.ref rl), some v, some (.int ((rowsUs (us.take (j + 1))).length : Nat)), some (.ref al)] ∧ Gr H H' ∧ H' al = some (.lst xs) ∧ DpAll K H' xs ((us.take (j + 1)).map Us.d), ?_, ?_⟩
      · rintro σ' H' ⟨xs', v', b1, b2, b3, b4⟩
        exact ⟨us.length - (j + 1), by omega, j + 1, xs', v', b1, by omega, hlt, b2, b3, b4, rfl⟩
      have hrl4 := g4.lst hrl3
      refine ⟨_, rfl, _, rfl, rl, rowsUs (us.take j), u, z', p', rfl, by rw [hrl4, c0], un1, un2, c3, c2, c1, fun H5 t5 v5 g5 e5 d5 => ?_⟩
      refine ⟨t5, _, rfl, .inl (.inl e5), rfl, v5, _, rfl, _, [], rfl, rfl, ?_⟩
      have g45 := g4.trans g5
      have e6 := g45.lst e3
      refine ⟨_, rfl, .inl ⟨rfl, _, .inl (.inl e6)⟩, _, rfl, al, _, _, rfl, rfl, e6, small1000 (by omega), ?_⟩
      have kt : Kt K H5 (upd H5 al (.lst (xs ++ [v5]))) := kt_lst e6
      refine ⟨xs ++ [v5], v5, ?_, (g3.trans g45).upd_new nH, upd_same, ?_⟩
      · rw [rowsUs_take hk, List.length_append]
        rfl
      · rw [List.take_add_one, hk, List.map_append]
        exact dpA_app (kt.dpA (g45.kd.dpA d3) (noLA_map _ noL_use _)) (.cons (kt.dp d5 (noL_use u)) .nil)
    · have ej : j = us.length := by omega
      subst ej
      rw [List.take_length] at d3
      rw [List.take_length]
      have fin : ∀ H4, Gr H3 H4 → (∀ p : Addr, H4 p = none → ∀ t, upd H4 p (.tup xs) t = none → Q (.ref t) (upd (upd H4 p (.tup xs)) t (.tup [.ref p, .int ((rowsUs us).length : Nat)]))) := by
        intro H4 g4 p np t nt
        have k5 : Gr H4 (upd H4 p (.tup xs)) := Gr.new np
        have k6 : Gr (upd H4 p (.tup xs)) (upd (upd H4 p (.tup xs)) t (.tup [.ref p, .int ((rowsUs us).length : Nat)])) := Gr.new nt
        exact q _ t (.ref p) (g3.trans (g4.trans (k5.trans k6))) upd_same (k6.kd.dp (.tup (SqT.of upd_same) ((g4.trans k5).kd.dpA d3)))
      by_cases c : ((us.length : Nat) : Int) < 4
      case' pos =>
        rw [decide_eq_true c]
        have rz : (rowsUs us ++ rowI is :: post)[(rowsUs us).length]? = some (Txt.join blank (wsI is)) := by
          rw [List.getElem?_append_right (Nat.le_refl _), Nat.sub_self]
          rfl
        refine iteT ⟨_, rfl, _, rfl, _, 1, rfl, rfl, rl, _, (rowsUs us).length, wsI is, rfl, .inl (.inl hrl3), rz, by simp [wsI], clean_wsI iN, (by simp only [wsI, List.length_cons, List.length_map]; omega), fun H4 x g4 nx r4 => ?_⟩
        obtain ⟨dx, fs, f0, a1, a2, a3, a4⟩ := r4.has
        refine ⟨x, dx, fs, rfl, f0, a1, x, _, wsI is, 0, rfl, r4, Nat.zero_le _, ?_⟩
        rw [seen_is (show (wsI is)[0]? = some ("inputs" : Str) from rfl)]
        refine ⟨rfl, _, rfl, ?_⟩
        rw [decide_eq_false (by decide +kernel)]
        refine iteF ?_
      case' neg =>
        rw [decide_eq_false c]
        refine iteF (iteF ?_)
        have g4 := Gr.refl H3
      all_goals
        have e4 := g4.lst e3
        exact ⟨_, rfl, al, _, rfl, .inl ⟨.inl (.inl e4), fun p np => ⟨_, rfl, by show 2 ≤ sizeLine; decide, fun t nt => fin _ g4 p np t nt⟩⟩⟩
end
end SfC
/-! a program is read -/
namespace SfC
open PySem PySem.Spec PyProof.Rows L2 SfG
abbrev nReadP : List Str := ["text", "rows", "uses", "gone", "inputs", "told", "number", "row"]
theorem scReadP : FnScope nReadP ["text"] (defScope sReadP) := ⟨rfl, rfl, rfl, by decide +kernel, rfl, by decide +kernel, by decide +kernel⟩
theorem dpA_ints {K : PySem.W.Frag} {H : Hp} : ∀ is : List Int, DpAll K H (is.map V.int) (is.map PyData.int)
  | [] => .nil
  | i :: r => .cons (.int i) (dpA_ints r)
section
variable {P : Program} {w : World} {K : PySem.W.Frag} {mg : Str → Option Value} {base : Heap}
def spReadP (K : PySem.W.Frag) : Sp := fun vs H Q _ => ∃ p : Pg, vs = [.str (textP p)] ∧ goP p ∧ ∀ H' v, Gr H H' → Dp K H' v p.d → Q v H'
set_option maxHeartbeats 1000000 in
theorem ok_readP {f fO fA fS fT fW fC fU fI fR C : Addr} {fd dO dA dS dT dW dC dU dI dR : FuncData} {k : Nat} {t30 : Tok} (F : Fun K "read_program" "read_program" sReadP f fd) (Z : Rws P w K mg base C k fS fT fW fC dS dT dW dC) (HO_ : Has P w K mg base k "rows_of" ["text"] spRowsOf fO dO) (HA : Has P w K mg base k "row_at" ["rows", "number"] (spRowAt K C) fA dA)
    (HU : Has P w K mg base k "read_uses" ["rows"] (spReadUs K) fU dU) (HI : Has P w K mg base k "read_inputs" ["row"] (spReadI K C) fI dI) (HR : Has P w K mg base k "read_row" ["row"] (spReadR K C) fR dR)
    (mr : mg "range" = none) (ml : mg "len" = none) (mt : mg "tuple" = none) (m30 : mg "MOST_ROWS" = some (.int 30 t30)) : FnOk P w K mg base CX0 (k + 1) f fd ["text"] (spReadP K) := by
  refine F.ok scReadP (fun vs H Q E h => ?_) (fun cdv A outer s H vs Q E hr h => ?_)
  · obtain ⟨p, rfl, _⟩ := h
    rfl
  · obtain ⟨p, rfl, go, q⟩ := h
    have nd := scReadP.nd
    refine' ⟨_, pss_cons ?s1 (pss_cons ?s2 (pss_cons ?s3 (pss_cons ?s4 (pss_cons ?s5 (pss_one ?s6))))), ?rd⟩
    case s1 => exact ps_set (i := 1) nd rfl (.inl rfl) (hcall HO_ hr (pa_cons (pv 0) pa_nil))
    case s2 => exact ps_asg (hcall HU hr (pa_cons (pv 1) pa_nil)) (pg_tup rfl (pgs_cons (pg_name (i := 2) nd rfl (.inl rfl)) (pgs_cons (pg_name (i := 3) nd rfl (.inl rfl)) pgs_nil)))
    case s3 => exact ps_set (i := 4) nd rfl (.inl rfl) (hcall HI hr (pa_cons (hcall HA hr (pa_cons (pv 1) (pa_cons (pe_op op_add (pv 3) pe_int) pa_nil))) pa_nil))
    case s4 => exact ps_set (i := 5) nd rfl (.inl rfl) (pe_lst pa_nil)
    case s5 =>
      exact ps_for PassesOwn.never rfl (pi_range2 (by rfl) mr (pa_cons (pe_op op_add (pv 3) pe_int) (pa_cons (pe_op op_add (pe_callB call_len_seq (by rfl) ml PySem.boot_len (pa_cons (pv 1) pa_nil)) pe_int) pa_nil)))
        (pg_name (i := 6) nd rfl (.inl rfl))
        (pss_cons (ps_set (i := 7) nd rfl (.inl rfl) (hcall HA hr (pa_cons (pv 1) (pa_cons (pv 6) pa_nil))))
        (pss_cons (ps_if (pt_cmpR op_eq (pe_callB call_len_seq (by rfl) ml PySem.boot_len (pa_cons (pv 5) pa_nil)) (pe_glob (v := .int 30) rfl m30 ⟨_, rfl⟩) (nomark _)) pss_never pss_nil)
        (pss_one (ps_expr (pe_bm PySem.F.plainAttrs_list PySem.F.slot_list_append PySem.F.type_list_append mt_append (pv 5) (pa_cons (hcall HR hr (pa_cons (pv 7) pa_nil)) pa_nil))))))
    case s6 => exact ps_ret (pe_tup (pa_cons (pv 2) (pa_cons (pv 4) (pa_cons (pe_callTy call_tuple_of (by rfl) mt (by decide +kernel) (pa_cons (pv 5) pa_nil)) pa_nil))))
    case rd =>
    have u40 := rowsUs_len fun u hu => (go.uN u hu).2
    have u4 := go.u4
    have r30 := go.r30
    have rP : rowsP p = rowsUs p.us ++ rowI p.is :: p.rs.map rowR := rfl
    have lP : (rowsP p).length = (rowsUs p.us).length + 1 + p.rs.length := by
      rw [rP, List.length_append, List.length_cons, List.length_map]
      omega
    refine ⟨_, rfl, rowsP p, rfl, rowsP_ne p, rowsP_feed go, Nat.le_trans (textP_len go) (by decide), fun H1 rl g1 nrl hrl => ?_⟩
    refine ⟨_, rfl, rl, p.us, p.is, p.rs.map rowR, rfl, hrl, go.u1, go.u4, go.uN, go.i3, go.iN, by rw [List.length_map]; omega, fun H2 t2 v2 g2 e2 d2 => ?_⟩
    refine ⟨t2, _, rfl, .inl (.inl e2), rfl, v2, _, rfl, _, [], rfl, rfl, ?_⟩
    have hrl2 := g2.lst hrl
    have rz : (rowsP p)[(rowsUs p.us).length]? = some (Txt.join blank (wsI p.is)) := by
      rw [rP, List.getElem?_append_right (Nat.le_refl _), Nat.sub_self]
      rfl
    have ri : ∀ (i : Nat) (r : Ro), p.rs[i]? = some r → (rowsP p)[(rowsUs p.us).length + 1 + i]? = some (Txt.join blank (wsR r)) := by
      intro i r hi
      rw [rP, List.getElem?_append_right (by omega), show (rowsUs p.us).length + 1 + i - (rowsUs p.us).length = i + 1 by omega, List.getElem?_cons_succ, List.getElem?_map, hi]
      rfl
    have i3 := go.i3
    refine ⟨_, rfl, _, rfl, _, 1, rfl, rfl, rl, _, (rowsUs p.us).length, wsI p.is, rfl, .inl (.inl hrl2), rz, by simp [wsI], clean_wsI go.iN, (by simp only [wsI, List.length_cons, List.length_map]; omega), fun H3 x g3 nx r3 => ?_⟩
    refine ⟨x, _, p.is, rfl, r3, go.i3, go.iN, fun H4 t4 g4 e4 => ?_⟩
    have g24 : Gr H2 H4 := Gp.out g3 nx g4
    have hrl4 := g24.lst hrl2
    have d4 := g24.kd.dp d2
    refine ⟨Nat.zero_le _, fun al nal => ?_⟩
    have k5 : Gr H4 (upd H4 al (.lst [])) := Gr.new nal
    have e5 : upd H4 al (.lst []) al = some (.lst []) := upd_same
    generalize upd H4 al (.lst []) = H5 at k5 e5 ⊢
    have hrl5 := k5.lst hrl4
    refine ⟨_, rfl, _, 2, rfl, rfl, _, rfl, rl, _, rfl, .inl (.inl (.inl hrl5)), _, 1, rfl, rfl, ?_⟩
    rw [List.length_map, lP]
    refine ⟨((rowsUs p.us).length : Int) + 2, _, rfl, ⟨by omega, by omega, by omega, by omega⟩, ?_⟩
    have cnt : (((((rowsUs p.us).length + 1 + p.rs.length : Nat) : Int) + 1) - (((rowsUs p.us).length : Int) + 2)).toNat = p.rs.length := by omega
    rw [cnt]
    refine for_it (walk_range (lo := ((rowsUs p.us).length : Int) + 2) (n := p.rs.length)) (fun i σ H6 => ∃ (xs : List V) (y6 y7 : Option V), σ = [some (.str (textP p)), some (.ref rl), some v2, some (.int ((rowsUs p.us).length : Nat)), some (.ref t4), some (.ref al), y6, y7] ∧ H6 al = some (.lst xs) ∧ DpAll K H6 xs ((p.rs.take i).map Ro.d) ∧ Gr H4 H6)
      ⟨[], none, none, rfl, e5, .nil, k5⟩ (fun _ _ _ _ _ => trivial) ?h2 ?h3
    case h2 =>
      rintro i y σ H6' H6 hi ⟨xs, y6, y7, rfl, e6, d6, g6⟩ ⟨rfl, rfl⟩
      have hk : p.rs[i]? = some p.rs[i] := List.getElem?_eq_getElem hi
      generalize p.rs[i] = r at hk
      have gr := go.rN r (List.mem_of_getElem? hk)
      have lx : xs.length = i := by
        have := dpA_len d6
        rw [List.length_map, List.length_take] at this
        omega
      have hrl6 := g6.lst hrl4
      refine ⟨_, rfl, _, rfl, rl, _, (rowsUs p.us).length + 1 + i, wsR r, ?_, .inl (.inl hrl6), ri i r hk, wsR_ne r, clean_wsR gr, by have := wsR_len gr; omega, fun H7 x7 g7 nx7 r7 => ?_⟩
      · show [V.ref rl, V.int (((rowsUs p.us).length : Int) + 2 + (i : Int))] = [V.ref rl, V.int (((rowsUs p.us).length + 1 + i + 1 : Nat) : Int)]
        rw [show ((rowsUs p.us).length : Int) + 2 + (i : Int) = (((rowsUs p.us).length + 1 + i + 1 : Nat) : Int) by omega]
      have e7 := g7.lst e6
      refine ⟨_, rfl, al, _, rfl, .inl (.inl (.inl e7)), ?_⟩
      refine ⟨rfl, _, rfl, ?_⟩
      rw [lx, decide_eq_false (show ¬ V.int ((i : Nat) : Int) = V.int 30 from fun z => by
        have := V.int.inj z
        omega)]
      refine iteF ?_
      refine ⟨_, rfl, .inl ⟨rfl, _, .inl (.inl e7)⟩, _, rfl, x7, _, r, rfl, r7, gr, fun H8 v8 g8 d8 => ?_⟩
      have g68 : Gr H6 H8 := Gp.out g7 nx7 g8
      have e8 := g68.lst e6
      have kt : Kt K H8 (upd H8 al (.lst (xs ++ [v8]))) := kt_lst e8
      refine ⟨al, _, _, rfl, rfl, e8, small1000 (by omega), ?_⟩
      refine ⟨xs ++ [v8], _, _, rfl, upd_same, ?_, (g6.trans g68).upd_new nal⟩
      rw [List.take_add_one, hk, List.map_append]
      exact dpA_app (kt.dpA (g68.kd.dpA d6) (noLA_map _ noL_ro _)) (.cons (kt.dp d8 (noL_ro r)) .nil)
    case h3 =>
      rintro σ H6 ⟨xs, y6, y7, rfl, e6, d6, g6⟩
      rw [List.take_length] at d6
      refine ⟨_, rfl, _, rfl, _, rfl, al, _, rfl, .inl ⟨.inl (.inl e6), fun td ntd => ?_⟩⟩
      have k7 : Gr H6 (upd H6 td (.tup xs)) := Gr.new ntd
      refine ⟨by show 3 ≤ sizeLine; decide, fun tf ntf => ?_⟩
      have k8 : Gr (upd H6 td (.tup xs)) (upd (upd H6 td (.tup xs)) tf (.tup [v2, .ref t4, .ref td])) := Gr.new ntf
      have g := g6.trans (k7.trans k8)
      refine q _ (.ref tf) (g1.trans (g2.trans (g24.trans g))) (.tup (SqT.of upd_same) (.cons (g.kd.dp d4) (.cons (.tup (SqT.of (g.tup e4)) ?_) (.cons (k8.kd.dp (.tup (SqT.of upd_same) (k7.kd.dpA d6))) .nil))))
      exact dpA_ints _
end
end SfC
/-! class Looked: what is known of kinds while a program's rows are looked at -/
namespace SfC
open PySem PySem.Spec PyProof.Rows L2 SfG
abbrev sLkI : Stmt := inClass sLooked 0
abbrev sKoA : Stmt := inClass sLooked 1
abbrev sPlain : Stmt := inClass sLooked 2
abbrev sMay : Stmt := inClass sLooked 3
abbrev sNewN : Stmt := inClass sLooked 4
abbrev sPLet : Stmt := inClass sLooked 5
abbrev sPPick : Stmt := inClass sLooked 6
abbrev sPIn : Stmt := inClass sLooked 7
theorem scLkI : FnScope ["self", "uses", "inputs"] ["self", "uses", "inputs"] (defScope sLkI) := ⟨rfl, rfl, rfl, by decide +kernel, rfl, by decide +kernel, by decide +kernel⟩
theorem scKoA : FnScope ["self", "thing", "word", "told"] ["self", "thing"] (defScope sKoA) := ⟨rfl, rfl, rfl, by decide +kernel, rfl, by decide +kernel, by decide +kernel⟩
theorem scPlain : FnScope ["self", "thing"] ["self", "thing"] (defScope sPlain) := ⟨rfl, rfl, rfl, by decide +kernel, rfl, by decide +kernel, by decide +kernel⟩
theorem scMay : FnScope ["self", "thing", "label", "kind", "told"] ["self", "thing", "label", "kind"] (defScope sMay) := ⟨rfl, rfl, rfl, by decide +kernel, rfl, by decide +kernel, by decide +kernel⟩
theorem scNewN : FnScope ["self", "thing"] ["self", "thing"] (defScope sNewN) := ⟨rfl, rfl, rfl, by decide +kernel, rfl, by decide +kernel, by decide +kernel⟩
/-- can be compared, so deep -/
structure Cm (d : PyData) (D : Nat) : Prop where
  lay : d.canLay0 = true
  dep : d.depth ≤ D
theorem Cm.shaped {d : PyData} {D : Nat} (h : Cm d D) (hD : D ≤ 64) : SeqAt.shaped d = true := by
  unfold SeqAt.shaped
  rw [h.lay, decide_eq_true (Nat.le_trans h.dep hD)]
  rfl
theorem Cm.mono {d : PyData} {D D' : Nat} (h : Cm d D) (hD : D ≤ D') : Cm d D' := ⟨h.lay, Nat.le_trans h.dep hD⟩
theorem cm_all {D : Nat} : ∀ {ds : List PyData}, (∀ d ∈ ds, Cm d D) → PyData.canLayAll0 ds = true ∧ PyData.depthAll ds ≤ D
  | [], _ => ⟨rfl, by simp [PyData.depthAll]⟩
  | d :: r, h => by
    obtain ⟨a, b⟩ := cm_all (D := D) (ds := r) fun x hx => h x (.tail _ hx)
    have hd := h d (.head _)
    refine ⟨by rw [PyData.canLayAll0, hd.lay, a]; rfl, ?_⟩
    rw [PyData.depthAll]
    exact Nat.max_le.mpr ⟨hd.dep, b⟩
theorem cm_tup {D : Nat} {ds : List PyData} (h : ∀ d ∈ ds, Cm d D) : Cm (.tuple ds) (D + 1) := by
  obtain ⟨a, b⟩ := cm_all h
  refine ⟨by rw [PyData.canLay0]; exact a, ?_⟩
  rw [PyData.depth]
  omega
theorem cm_lst {D : Nat} {ds : List PyData} (h : ∀ d ∈ ds, Cm d D) : Cm (.list ds) (D + 1) := by
  obtain ⟨a, b⟩ := cm_all h
  refine ⟨by rw [PyData.canLay0]; exact a, ?_⟩
  rw [PyData.depth]
  omega
theorem cm_name {z : Str} (h : isN z = true) : Cm (.str z) 1 := by
  refine ⟨?_, by simp [PyData.depth]⟩
  rw [PyData.canLay0]
  have lo : ∀ c ∈ z.cps.toList, c < 128 := fun c hc => let_range (List.all_eq_true.mp (isN_txt h).2.2.2.2.2 c hc)
  show z.cps.all (fun c => decide (c < 0x110000)) = true
  rw [← Array.all_toList]
  exact List.all_eq_true.mpr fun c hc => decide_eq_true (Nat.lt_of_lt_of_le (lo c hc) (by decide))
/-- kinds of parts: a number, or a hidden kind of a label's face -/
inductive Ki where
  | w (n : Int)
  | h (lb z : Str)
def Ki.d : Ki → PyData
  | .w n => .int n
  | .h lb z => .tuple [.str lb, .str z]
def koD : Option Ki → PyData
  | none => .none
  | some k => k.d
abbrev En := List (Str × Ki)
def lkp : En → Str → Option Ki
  | [], _ => none
  | p :: r, z => if p.1 = z then some p.2 else lkp r z
def kiA (is : List Int) (e : En) : Ag → Option Ki
  | .n z => lkp e z
  | .u j => some (.w (j + 1))
  | .i j => (is[j.toNat]?).map .w
/-- what is known by names, in a dict -/
inductive EnD (K : PySem.W.Frag) (H : Hp) : En → List (Key × V) → Prop
  | nil : EnD K H [] []
  | cons {z : Str} {k : Ki} {v : V} {e : En} {kvs : List (Key × V)} : Dp K H v k.d → EnD K H e kvs → EnD K H ((z, k) :: e) ((Sum.inr z, v) :: kvs)
theorem EnD.kd {K : PySem.W.Frag} {H H' : Hp} {e : En} {kvs : List (Key × V)} (h : EnD K H e kvs) (g : Kd K H H') : EnD K H' e kvs := by
  induction h with
  | nil => exact .nil
  | cons a b ih => exact .cons (g.dp a) ih
theorem EnD.at {K : PySem.W.Frag} {H : Hp} {e : En} {kvs : List (Key × V)} (h : EnD K H e kvs) (z : Str) : Dp K H ((valV kvs (Sum.inr z)).getD .non) (koD (lkp e z)) ∧ ((valV kvs (Sum.inr z)).isSome = (lkp e z).isSome) := by
  induction h with
  | nil => exact ⟨.non, rfl⟩
  | @cons y k v e kvs a b ih =>
    by_cases c : y = z
    · subst c
      rw [valV_pos (p := ((Sum.inr y : Key), v)) rfl]
      unfold lkp
      rw [if_pos rfl]
      exact ⟨a, rfl⟩
    · rw [valV_neg (p := ((Sum.inr y : Key), v)) (fun q => c (Sum.inr.inj q))]
      unfold lkp
      rw [if_neg c]
      exact ih
theorem EnD.put {K : PySem.W.Frag} {H : Hp} {e : En} {kvs : List (Key × V)} (h : EnD K H e kvs) {z : Str} {k : Ki} {v : V} (hv : Dp K H v k.d) : EnD K H (e ++ [(z, k)]) (kvs ++ [(Sum.inr z, v)]) := by
  induction h with
  | nil => exact .cons hv .nil
  | cons a b ih => exact .cons a ih
theorem EnD.len {K : PySem.W.Frag} {H : Hp} {e : En} {kvs : List (Key × V)} (h : EnD K H e kvs) : kvs.length = e.length := by
  induction h with
  | nil => rfl
  | cons a b ih => rw [List.length_cons, List.length_cons, ih]
/-- faces by their labels, in a dict -/
def Fcs (K : PySem.W.Frag) (H : Hp) (kvs : List (Key × V)) (us : List Us) : Prop := ∀ u ∈ us, ∃ v, valV kvs (Sum.inr u.lb) = some v ∧ Dp K H v u.fc.d
theorem Fcs.kd {K : PySem.W.Frag} {H H' : Hp} {kvs : List (Key × V)} {us : List Us} (h : Fcs K H kvs us) (g : Kd K H H') : Fcs K H' kvs us := fun u hu => by
  obtain ⟨v, a, b⟩ := h u hu
  exact ⟨v, a, g.dp b⟩
def lf (fd it kd : Addr) : List (Str × V) := [("faces", .ref fd), ("inputs", .ref it), ("kinds", .ref kd)]
theorem lf_faces (fd it kd : Addr) : (lf fd it kd).lookup ("faces" : Str) = some (.ref fd) := by simp [lf, List.lookup]
theorem lf_inputs (fd it kd : Addr) : (lf fd it kd).lookup ("inputs" : Str) = some (.ref it) := by
  have h : (("inputs" : Str) == ("faces" : Str)) = false := by decide +kernel
  simp [lf, List.lookup, h]
theorem lf_kinds (fd it kd : Addr) : (lf fd it kd).lookup ("kinds" : Str) = some (.ref kd) := by
  have h : (("kinds" : Str) == ("faces" : Str)) = false := by decide +kernel
  have h2 : (("kinds" : Str) == ("inputs" : Str)) = false := by decide +kernel
  simp [lf, List.lookup, h, h2]
theorem lf_no (fd it kd : Addr) {m : Str} (h1 : (m == ("faces" : Str)) = false) (h2 : (m == ("inputs" : Str)) = false) (h3 : (m == ("kinds" : Str)) = false) : (lf fd it kd).lookup m = none := by
  simp [lf, List.lookup, h1, h2, h3]
/-- a Looked at x, its dict of kinds at kd -/
def LkAt (C : Addr) (K : PySem.W.Frag) (H : Hp) (x kd : Addr) (us : List Us) (is : List Int) (e : En) : Prop :=
  ∃ dx fd it fk kvs, H x = some (.ins C dx (lf fd it kd)) ∧ H fd = some (.dK fk) ∧ SqT K H it (is.map V.int) ∧ H kd = some (.dK kvs) ∧ Fcs K H fk us ∧ EnD K H e kvs ∧ fd ≠ kd
theorem LkAt.gr {C : Addr} {K : PySem.W.Frag} {H H' : Hp} {x kd : Addr} {us : List Us} {is : List Int} {e : En} (h : LkAt C K H x kd us is e) (g : Gr H H') : LkAt C K H' x kd us is e := by
  obtain ⟨dx, fd, it, fk, kvs, h1, h2, h3, h4, h5, h6, h7⟩ := h
  exact ⟨dx, fd, it, fk, kvs, g.keep _ _ h1 (fun _ z => by cases z), g.dic h2, g.sqt h3, g.dic h4, h5.kd g.kd, h6.kd g.kd, h7⟩
structure LkC (K : PySem.W.Frag) (mg : Str → Option Value) (C : Addr) : Prop where
  cl : Cls K C
  nF : NoAttr K C "faces"
  nI : NoAttr K C "inputs"
  nK : NoAttr K C "kinds"
  g : mg "Looked" = some (.ref C)
section
variable {P : Program} {w : World} {K : PySem.W.Frag} {mg : Str → Option Value} {base : Heap}
def spKoA (C : Addr) (K : PySem.W.Frag) : Sp := fun vs H Q _ => ∃ (x kd : Addr) (us : List Us) (is : List Int) (e : En) (a : Ag) (v : V), vs = [.ref x, v] ∧ LkAt C K H x kd us is e ∧ is.length ≤ 3 ∧ Dp K H v a.d ∧ goA a ∧ ∀ u, Dp K H u (koD (kiA is e a)) → Q u H
theorem ok_koA {f fA C : Addr} {fd dA : FuncData} {k : Nat} (F : Fun K "kind_of_arg" "Looked.kind_of_arg" sKoA f fd) (R : LkC K mg C) (HA : Has P w K mg base k "is_arg" ["thing"] (spIsArg K) fA dA) (ml : mg "len" = none) : FnOk P w K mg base CX0 (k + 1) f fd ["self", "thing"] (spKoA C K) := by
  refine F.ok scKoA (fun vs H Q E h => ?_) (fun cdv A outer s H vs Q E hr h => ?_)
  · obtain ⟨x, kd, us, is, e, a, v, rfl, _⟩ := h
    rfl
  · obtain ⟨x, kd, us, is, e, a, v, rfl, hL, i3, hv, ga, q⟩ := h
    have nd := scKoA.nd
    refine' ⟨_, pss_cons ?s1 (pss_cons ?s2 (pss_cons ?s3 (pss_cons ?s4 (pss_one ?s5)))), ?rd⟩
    case s1 => exact ps_if (pt_not (pt_val (hcall HA hr (pa_cons (pv 1) pa_nil)))) pss_never pss_nil
    case s2 => exact ps_asg (pv 1) (pg_tup rfl (pgs_cons (pg_name (i := 2) nd rfl (.inl rfl)) (pgs_cons (pg_name (i := 3) nd rfl (.inl rfl)) pgs_nil)))
    case s3 => exact ps_if (pt_cmpR op_eq (pv 2) pe_str (nomark _)) (pss_one (ps_ret (pe_op op_add (pv 3) pe_int))) pss_nil
    case s4 => exact ps_if (pt_cmpR op_eq (pv 2) pe_str (nomark _)) (pss_one (ps_ret (pe_dget1 (hu_of hr) (pe_fld (pv 0) rfl) (pv 3) ⟨rfl, rfl, rfl, rfl⟩))) pss_nil
    case s5 => exact ps_ret (pe_ifExp (pt_cmpR op_lt (pv 3) (pe_callB call_len_seq (by rfl) ml PySem.boot_len (pa_cons (pe_fld (pv 0) rfl) pa_nil)) (nomark _)) (pe_ix ix_tup (pe_fld (pv 0) rfl) (pv 3) (fun _ _ => rfl)) pe_non)
    case rd =>
    obtain ⟨dx, fd, it, fk, kvs, h1, h2, h3, h4, h5, h6, h7⟩ := hL
    refine ⟨_, rfl, v, a.d, rfl, Dp.dx hv, go_ag ga, ?_⟩
    rw [arg_is ga]
    refine ⟨_, rfl, iteF ?_⟩
    cases a with
    | n z =>
      obtain ⟨p, a, b, rfl, hp, ha, hb⟩ := dp_2 hv
      cases dp_str ha
      cases dp_str hb
      refine ⟨_, rfl, p, _, rfl, hp, rfl, _, _, rfl, _, [], rfl, rfl, ?_⟩
      refine ⟨_, rfl, rfl, _, rfl, ?_⟩
      rw [decide_eq_false (by decide +kernel)]
      refine iteF ⟨_, rfl, rfl, _, rfl, ?_⟩
      rw [decide_eq_true rfl]
      refine iteT ⟨_, rfl, x, C, dx, _, _, rfl, h1, R.cl, R.nK, lf_kinds _ _ _, kd, rfl, .inl ⟨_, .inl h4⟩, _, rfl, _, DGet.k (k := Sum.inr z) h4, ?_⟩
      exact q _ (h6.at z).1
    | u j =>
      obtain ⟨p, a, b, rfl, hp, ha, hb⟩ := dp_2 hv
      cases dp_str ha
      cases dp_int hb
      refine ⟨_, rfl, p, _, rfl, hp, rfl, _, _, rfl, _, [], rfl, rfl, ?_⟩
      refine ⟨_, rfl, rfl, _, rfl, ?_⟩
      rw [decide_eq_true rfl]
      exact iteT ⟨_, rfl, j, 1, rfl, rfl, q _ (.int _)⟩
    | i j =>
      obtain ⟨p, a, b, rfl, hp, ha, hb⟩ := dp_2 hv
      cases dp_str ha
      cases dp_int hb
      obtain ⟨j0, j2⟩ := ga
      refine ⟨_, rfl, p, _, rfl, hp, rfl, _, _, rfl, _, [], rfl, rfl, ?_⟩
      refine ⟨_, rfl, rfl, _, rfl, ?_⟩
      rw [decide_eq_false (by decide +kernel)]
      refine iteF ⟨_, rfl, rfl, _, rfl, ?_⟩
      rw [decide_eq_false (by decide +kernel)]
      refine iteF ⟨_, rfl, _, rfl, x, C, dx, _, _, rfl, h1, R.cl, R.nI, lf_inputs _ _ _, it, _, rfl, .inr h3, _, _, rfl, rfl, _, rfl, ?_⟩
      rw [List.length_map]
      rcases Nat.lt_or_ge j.toNat is.length with c | c
      · rw [decide_eq_true (show j < ((is.length : Nat) : Int) by omega)]
        have hk : is[j.toNat]? = some is[j.toNat] := List.getElem?_eq_getElem c
        refine iteT ⟨_, rfl, x, C, dx, _, _, rfl, h1, R.cl, R.nI, lf_inputs _ _ _, _, rfl, it, _, j, .int is[j.toNat], rfl, rfl, h3, ?_, ?_⟩
        · have := atI_nat (xs := is.map V.int) (j := j.toNat) (v := .int is[j.toNat]) (by rw [List.getElem?_map, hk]; rfl)
          rw [Int.toNat_of_nonneg j0] at this
          exact this
        · refine q _ ?_
          show Dp K H (V.int is[j.toNat]) (koD ((is[j.toNat]?).map .w))
          rw [hk]
          exact .int _
      · rw [decide_eq_false (show ¬ j < ((is.length : Nat) : Int) by omega)]
        refine iteF (q _ ?_)
        show Dp K H .non (koD ((is[j.toNat]?).map .w))
        rw [List.getElem?_eq_none c]
        exact .non
def spPlain (C : Addr) (K : PySem.W.Frag) : Sp := fun vs H Q _ => ∃ (x kd : Addr) (us : List Us) (is : List Int) (e : En) (a : Ag) (v : V) (n : Int), vs = [.ref x, v] ∧ LkAt C K H x kd us is e ∧ is.length ≤ 3 ∧ Dp K H v a.d ∧ goA a ∧ kiA is e a = some (.w n) ∧ Q (.bl true) H
theorem ok_plain {f fO fW C : Addr} {fd dO dW : FuncData} {k : Nat} (F : Fun K "is_plain" "Looked.is_plain" sPlain f fd) (R : LkC K mg C) (HO_ : HasM P w K mg base C k "kind_of_arg" ["self", "thing"] (spKoA C K) fO dO) (HW : Has P w K mg base k "is_whole" ["thing"] (spWhole K) fW dW) :
    FnOk P w K mg base CX0 (k + 1) f fd ["self", "thing"] (spPlain C K) := by
  refine F.ok scPlain (fun vs H Q E h => ?_) (fun cdv A outer s H vs Q E hr h => ?_)
  · obtain ⟨x, kd, us, is, e, a, v, n, rfl, _⟩ := h
    rfl
  · obtain ⟨x, kd, us, is, e, a, v, n, rfl, hL, i3, hv, ga, hk, q⟩ := h
    refine ⟨_, pss_one (ps_ret (hcall HW hr (pa_cons (pe_meth (pv 0) R.cl HO_.me HO_.ok hr HO_.bd .nil pass0 (pa_cons (pv 1) pa_nil)) pa_nil))), ?_⟩
    obtain ⟨dx, fd, it, fk, kvs, h1, _⟩ := id hL
    refine ⟨_, rfl, x, dx, _, rfl, h1, lf_no _ _ _ (by decide +kernel) (by decide +kernel) (by decide +kernel), _, rfl, x, kd, us, is, e, a, v, rfl, hL, i3, hv, ga, fun u hu => ?_⟩
    rw [hk] at hu
    exact ⟨u, _, rfl, Dp.dx hu, q⟩
/-- a kind that may stand where another is asked -/
def stands : Option Ki → Str → Kn → Prop
  | some (.w m), _, .p n => m ≤ n
  | some (.h lb' z'), lb, .h z => lb' = lb ∧ z' = z
  | _, _, _ => False
def spMay (C : Addr) (K : PySem.W.Frag) : Sp := fun vs H Q _ => ∃ (x kd : Addr) (us : List Us) (is : List Int) (e : En) (a : Ag) (v : V) (lb : Str) (kn : Kn), vs = [.ref x, v, .str lb, kn.v] ∧ LkAt C K H x kd us is e ∧ is.length ≤ 3 ∧ Dp K H v a.d ∧ goA a ∧ isN lb = true ∧ (∀ z, kn = .h z → isN z = true) ∧ stands (kiA is e a) lb kn ∧ ∀ H', Gr H H' → Q (.bl true) H'
theorem ok_may {f fO fW C : Addr} {fd dO dW : FuncData} {k : Nat} (F : Fun K "may_stand_for" "Looked.may_stand_for" sMay f fd) (R : LkC K mg C) (HO_ : HasM P w K mg base C k "kind_of_arg" ["self", "thing"] (spKoA C K) fO dO) (HW : Has P w K mg base k "is_whole" ["thing"] (spWhole K) fW dW) :
    FnOk P w K mg base CX0 (k + 1) f fd ["self", "thing", "label", "kind"] (spMay C K) := by
  refine F.ok scMay (fun vs H Q E h => ?_) (fun cdv A outer s H vs Q E hr h => ?_)
  · obtain ⟨x, kd, us, is, e, a, v, lb, kn, rfl, _⟩ := h
    rfl
  · obtain ⟨x, kd, us, is, e, a, v, lb, kn, rfl, hL, i3, hv, ga, nl, nk, hk, q⟩ := h
    have nd := scMay.nd
    refine' ⟨_, pss_cons ?s1 (pss_cons ?s2 (pss_one ?s3)), ?rd⟩
    case s1 => exact ps_set (i := 4) nd rfl (.inl rfl) (pe_meth (pv 0) R.cl HO_.me HO_.ok hr HO_.bd .nil pass0 (pa_cons (pv 1) pa_nil))
    case s2 => exact ps_if (pt_val (hcall HW hr (pa_cons (pv 3) pa_nil))) (pss_one (ps_ret (pe_and (hcall HW hr (pa_cons (pv 4) pa_nil)) (pe_one (pe_cmpR op_le (pv 4) (pv 3) (nomark _)))))) pss_nil
    case s3 => exact ps_ret (pe_cmpR (op_eqD hr.units) (pv 4) (pe_tup (pa_cons (pv 2) (pa_cons (pv 3) pa_nil))) (nomark _))
    case rd =>
    obtain ⟨dx, fd, it, fk, kvs, h1, _⟩ := id hL
    refine ⟨_, rfl, x, dx, _, rfl, h1, lf_no _ _ _ (by decide +kernel) (by decide +kernel) (by decide +kernel), _, rfl, x, kd, us, is, e, a, v, rfl, hL, i3, hv, ga, fun u hu => ?_⟩
    generalize kiA is e a = o at hk hu
    cases kn with
    | p n =>
      cases o with
      | none => exact absurd hk id
      | some ki =>
        cases ki with
        | h lb' z' => exact absurd hk id
        | w m =>
          cases dp_int hu
          refine ⟨_, rfl, _, .int n, rfl, .int n, _, rfl, iteT ⟨_, rfl, _, .int m, rfl, .int m, _, rfl, iteT ⟨_, rfl, _, rfl, m, n, rfl, rfl, ?_⟩⟩⟩
          show Q (.bl (decide (m ≤ n))) H
          rw [decide_eq_true (show m ≤ n from hk)]
          exact q H (Gr.refl H)
    | h z =>
      cases o with
      | none => exact absurd hk id
      | some ki =>
        cases ki with
        | w m => exact absurd hk id
        | h lb' z' =>
          obtain ⟨rfl, rfl⟩ := hk
          have cm : Cm (.tuple [.str lb', .str z']) 2 := cm_tup fun d hd => by
            have hd' : d = .str lb' ∨ d = .str z' := by simpa using hd
            rcases hd' with rfl | rfl
            · exact cm_name nl
            · exact cm_name (nk _ rfl)
          refine ⟨_, rfl, _, .str z', rfl, .str z', _, rfl, iteF ⟨_, rfl, _, rfl, _, rfl, by show 2 ≤ sizeLine; decide, fun t nt => ?_⟩⟩
          refine ⟨_, _, (Gr.new nt).kd.dp hu, .tup (SqT.of upd_same) (.cons (.str _) (.cons (.str _) .nil)), cm.shaped (by decide), cm.shaped (by decide), ?_⟩
          show Q (.bl (PyData.eqv (.tuple [.str lb', .str z']) (.tuple [.str lb', .str z']))) _
          rw [SeqAt.eqv_refl _ cm.lay]
          exact q _ (Gr.new nt)
def spNewN (C : Addr) (K : PySem.W.Frag) : Sp := fun vs H Q _ => ∃ (x kd : Addr) (us : List Us) (is : List Int) (e : En) (z : Str), vs = [.ref x, .str z] ∧ LkAt C K H x kd us is e ∧ isN z = true ∧ lkp e z = none ∧ Q (.bl true) H
theorem ok_newN {f fN C : Addr} {fd dN : FuncData} {k : Nat} (F : Fun K "is_new_name" "Looked.is_new_name" sNewN f fd) (R : LkC K mg C) (HN : Has P w K mg base k "is_name" ["thing"] spName fN dN) : FnOk P w K mg base CX0 (k + 1) f fd ["self", "thing"] (spNewN C K) := by
  refine F.ok scNewN (fun vs H Q E h => ?_) (fun cdv A outer s H vs Q E hr h => ?_)
  · obtain ⟨x, kd, us, is, e, z, rfl, _⟩ := h
    rfl
  · obtain ⟨x, kd, us, is, e, z, rfl, hL, nz, he, q⟩ := h
    refine ⟨_, pss_one (ps_ret (pe_and (hcall HN hr (pa_cons (pv 1) pa_nil)) (pe_one (pe_cmp (pc_dnotin (hu_of hr) (pv 1) (pe_fld (pv 0) rfl)))))), ?_⟩
    obtain ⟨dx, fd, it, fk, kvs, h1, h2, h3, h4, h5, h6, h7⟩ := hL
    refine ⟨_, rfl, z, rfl, nz, _, rfl, iteT ?_⟩
    have a := (h6.at z).2
    rw [he] at a
    refine ⟨_, rfl, _, rfl, x, C, dx, _, _, rfl, h1, R.cl, R.nK, lf_kinds _ _ _, kd, _, rfl, DGet.k (k := Sum.inr z) h4, ?_⟩
    rw [a]
    exact q
end
end SfC
namespace SfC
open PySem PySem.Spec PyProof.Rows L2 SfG
theorem scIsF : FnScope ["thing"] ["thing"] (defScope sIsF) := ⟨rfl, rfl, rfl, by decide +kernel, rfl, by decide +kernel, by decide +kernel⟩
abbrev nNamOf : List Str := ["face", "deed"]
theorem scFind : FnScope ["face", "name", "number", "deed"] ["face", "name"] (defScope sFind) := ⟨rfl, rfl, rfl, by decide +kernel, rfl, by decide +kernel, by decide +kernel⟩
section
variable {P : Program} {w : World} {K : PySem.W.Frag} {mg : Str → Option Value} {base : Heap}
theorem ok_isF {f fF : Addr} {fd fdF : FuncData} {k : Nat} (F : Fun K "is_face" "is_face" sIsF f fd) (HF : Has P w K mg base (k + 3) "face_fault" ["thing"] (spGood K .non) fF fdF) :
    FnOk P w K mg base CX0 (k + 4) f fd ["thing"] (spGood K (.bl true)) := by
  refine F.ok scIsF (fun vs H Q E h => ?_) (fun cdv A outer s H vs Q E hr h => ?_)
  · obtain ⟨x, f, rfl, _⟩ := h
    rfl
  · obtain ⟨x, f, rfl, hx, go, q⟩ := h
    refine ⟨_, pss_one (ps_ret (pe_cmpR op_isN (hcall HF hr (pa_cons (pv 0) pa_nil)) pe_non (nomark _))), ?_⟩
    exact ⟨_, rfl, x, f, rfl, hx, go, fun H1 g1 => ⟨rfl, q H1 g1⟩⟩
/-- a new list of texts is told -/
def spTold (K : PySem.W.Frag) (l : Fc → List Str) : Sp := fun vs H Q _ => ∃ (x : V) (f : Fc), vs = [x] ∧ Dp K H x f.d ∧ goF f ∧ ∀ H' p, Gr H H' → H p = none → H' p = some (.lst ((l f).map V.str)) → Q (.ref p) H'
/-- the deed so called, or none -/
def spFind (K : PySem.W.Frag) : Sp := fun vs H Q _ => ∃ (x y : V) (f : Fc) (T : String), vs = [x, y] ∧ Dp K H x f.d ∧ Is K H y T ∧
  ((∃ (z : Str) (e : De) (i : Nat), y = .str z ∧ f.ds[i]? = some e ∧ e.nm = z ∧ (f.ds.map De.nm).Pairwise lt ∧ ∀ H', Gr H H' → Q (.int (i : Nat)) H') ∨
    ((∀ z, y = .str z → z ∉ f.ds.map De.nm) ∧ ∀ H', Gr H H' → Q .non H'))
theorem lt_irrefl (a : Str) : ¬ lt a a := List.lt_irrefl _
theorem ok_find {f : Addr} {fd : FuncData} {k : Nat} (F : Fun K "find_deed" "find_deed" sFind f fd) (mi : mg "isinstance" = none) (m1 : mg "str" = none) (me : mg "enumerate" = none) :
    FnOk P w K mg base CX0 (k + 1) f fd ["face", "name"] (spFind K) := by
  refine F.ok scFind (fun vs H Q E h => ?_) (fun cdv A outer s H vs Q E hr h => ?_)
  · obtain ⟨x, y, f, T, rfl, _⟩ := h
    rfl
  · obtain ⟨x, y, f, T, rfl, hx, hy, q⟩ := h
    have nd := scFind.nd
    refine ⟨_, pss_cons (ps_if (pt_val (pe_isi "str" 1 mi m1 (by decide +kernel))) (pss_one (ps_for PassesOwn.never rfl (pi_enumT (by rfl) me (pa_cons (pe_ix ix_tup (pv 0) pe_int (fun _ _ => rfl)) pa_nil))
        (pg_tup rfl (pgs_cons (pg_name (i := 2) nd rfl (.inl rfl)) (pgs_cons (pg_name (i := 3) nd rfl (.inl rfl)) pgs_nil)))
        (pss_one (ps_if (pt_cmpR op_eq (pe_ix ix_tup (pv 3) pe_int (fun _ _ => rfl)) (pv 1) (nomark _)) (pss_one (ps_ret (pv 2))) pss_nil)))) pss_nil) (pss_one (ps_ret pe_non)), ?_⟩
    refine ⟨_, rfl, T, _, hy.1, kit_str T hy.2, _, rfl, ?_⟩
    by_cases e : T = "str"
    · obtain ⟨z, rfl⟩ := hy.text e
      subst e
      obtain ⟨p, ph, pd, xs, rfl, hp, hph, hpd, dd⟩ := dp_face hx
      have hl : xs.length = f.ds.length := by
        have := dpA_len dd
        rw [List.length_map] at this
        exact this
      refine iteT ⟨_, rfl, p, _, 1, _, rfl, rfl, hp, rfl, pd, _, rfl, hpd, for_it (walk_enumT (xs := xs)) (fun i σ H1 => ∃ y2 y3 : Option V, σ = [some (.ref p), some (.str z), y2, y3] ∧ Gr H H1 ∧ ∀ j e, j < i → f.ds[j]? = some e → e.nm ≠ z) ⟨none, none, rfl, Gr.refl H, fun j e h => absurd h (Nat.not_lt_zero j)⟩ ?h1 ?h2 ?h3⟩
      case h1 =>
        rintro i σ H1 hi ⟨y2, y3, rfl, g, _⟩
        exact g.sqt hpd
      case h2 =>
        rintro i v σ H1 H2 hi ⟨y2, y3, rfl, g, no⟩ ⟨T, a, b, rfl, nT, rfl, ha, hb⟩
        cases ha
        obtain ⟨e, he, de⟩ := dpA_de dd hb
        have g2 : Gr H (upd H1 T (.tup [.int (i : Nat), b])) := g.trans (Gr.new nT)
        have hT : upd H1 T (.tup [.int (i : Nat), b]) T = some (.tup [.int (i : Nat), b]) := upd_same
        generalize upd H1 T (.tup [.int (i : Nat), b]) = H2 at g2 hT ⊢
        obtain ⟨pe, n1, t1, v1, rfl, hpe, dn, dt, dv⟩ := dp_3 (g2.kd.dp de)
        cases dp_str dn
        refine ⟨T, _, rfl, .inl (.inl hT), rfl, .int (i : Nat), [.ref pe], rfl, .ref pe, [], rfl, rfl, ?_⟩
        refine ⟨_, rfl, pe, _, 0, _, rfl, rfl, hpe, rfl, _, rfl, rfl, _, rfl, ?_⟩
        by_cases ez : e.nm = z
        · rw [decide_eq_true (congrArg V.str ez)]
          refine iteT ⟨_, rfl, ?_⟩
          rcases q with ⟨z', e', i', hz', he', en', up, q⟩ | ⟨q, _⟩
          · cases hz'
            have same : i' = i := by
              have c1 : (f.ds.map De.nm)[i]? = some z := by rw [List.getElem?_map, he]; exact congrArg some ez
              have c2 : (f.ds.map De.nm)[i']? = some z := by rw [List.getElem?_map, he']; exact congrArg some en'
              obtain ⟨l1, q1⟩ := List.getElem?_eq_some_iff.mp c1
              obtain ⟨l2, q2⟩ := List.getElem?_eq_some_iff.mp c2
              have pw := List.pairwise_iff_getElem.mp up
              rcases Nat.lt_trichotomy i i' with h | h | h
              · have := pw i i' l1 l2 h
                rw [q1, q2] at this
                exact absurd this (lt_irrefl z)
              · exact h.symm
              · have := pw i' i l2 l1 h
                rw [q1, q2] at this
                exact absurd this (lt_irrefl z)
            rw [← same]
            exact q _ g2
          · exact absurd (List.mem_map.mpr ⟨e, List.mem_of_getElem? he, ez⟩) (q z rfl)
        · rw [decide_eq_false (fun h => ez (V.str.inj h))]
          refine iteF ⟨_, _, rfl, g2, fun j e' hj he' => ?_⟩
          rcases Nat.lt_or_eq_of_le (Nat.le_of_lt_succ hj) with h | h
          · exact no j e' h he'
          · rw [h, he] at he'
            cases he'
            exact ez
      case h3 =>
        rintro σ H1 ⟨y2, y3, rfl, g, no⟩
        rcases q with ⟨z', e', i', hz', he', en', up, q⟩ | ⟨_, q⟩
        · cases hz'
          have hi' : i' < xs.length := by
            rw [hl]
            rcases Nat.lt_or_ge i' f.ds.length with h1 | h1
            · exact h1
            · rw [List.getElem?_eq_none h1] at he'
              cases he'
          exact absurd en' (no i' e' hi' he')
        · exact q H1 g
    · have e1 : (T == "str") = false := by simpa using e
      rw [e1]
      refine iteF ?_
      rcases q with ⟨z', e', i', hz', _⟩ | ⟨_, q⟩
      · exact absurd hz' (hy.ntext e z')
      · exact q H (Gr.refl H)
end
end SfC
/-! class Looked: where a row goes wrong (good rows) -/
namespace SfC
open PySem PySem.Spec PyProof.Rows L2 SfG
abbrev nPLet : List Str := ["self", "row", "name", "label", "deed", "args", "face", "number", "takes", "gives", "place", "kind"]
theorem scPLet : FnScope nPLet ["self", "row"] (defScope sPLet) := ⟨rfl, rfl, rfl, by decide +kernel, rfl, by decide +kernel, by decide +kernel⟩
theorem scPPick : FnScope ["self", "row", "name", "condition", "first", "second", "one", "other"] ["self", "row"] (defScope sPPick) := ⟨rfl, rfl, rfl, by decide +kernel, rfl, by decide +kernel, by decide +kernel⟩
theorem scPIn : FnScope ["self", "row"] ["self", "row"] (defScope sPIn) := ⟨rfl, rfl, rfl, by decide +kernel, rfl, by decide +kernel, by decide +kernel⟩
def kiOf (lb : Str) : Kn → Ki
  | .p n => .w n
  | .h z => .h lb z
/-- a row that stands, and what it makes known -/
def StepOk (us : List Us) (is : List Int) (e : En) : Ro → En → Prop
  | .l nm lb dd as, e' => lkp e nm = none ∧ ∃ u ∈ us, u.lb = lb ∧ ∃ d ∈ u.fc.ds, De.nm d = dd ∧ as.length = d.tk.length ∧ (∀ (j : Nat) (a : Ag) (k : Kn), as[j]? = some a → d.tk[j]? = some k → stands (kiA is e a) lb k) ∧ e' = e ++ [(nm, kiOf lb d.gv)]
  | .p nm a b c, e' => lkp e nm = none ∧ (∃ n, kiA is e a = some (.w n)) ∧
      ((∃ m n, kiA is e b = some (.w m) ∧ kiA is e c = some (.w n) ∧ e' = e ++ [(nm, .w (max m n))]) ∨ ∃ lb z, isN lb = true ∧ isN z = true ∧ kiA is e b = some (.h lb z) ∧ kiA is e c = some (.h lb z) ∧ e' = e ++ [(nm, .h lb z)])
  | .s a, e' => (∃ n, kiA is e a = some (.w n)) ∧ e' = e
theorem cut_one (x : V) (r : List V) : cutV (x :: r) (some 1) none = r := by
  show cutV (x :: r) (some ((1 : Nat) : Int)) none = r
  rw [cutV_fr _ (by rw [List.length_cons]; omega)]
  rfl
/-- the dict of kinds is put to -/
theorem LkAt.put {C : Addr} {K : PySem.W.Frag} {H : Hp} {x kd : Addr} {us : List Us} {is : List Int} {e : En} (h : LkAt C K H x kd us is e) {z : Str} (hz : lkp e z = none) (he : e.length ≤ 100) {k : Ki} {v : V} (hv : Dp K H v k.d) :
    ∃ H', DPut H kd (.str z) v H' ∧ Gp kd H H' ∧ LkAt C K H' x kd us is (e ++ [(z, k)]) := by
  obtain ⟨dx, fd, it, fk, kvs, h1, h2, h3, h4, h5, h6, h7⟩ := h
  have vn : valV kvs (Sum.inr z) = none := by
    have a := (h6.at z).2
    rw [hz] at a
    cases c : valV kvs (Sum.inr z) with
    | none => rfl
    | some v =>
      rw [c] at a
      cases a
  have dp0 : DPut H kd (kV (Sum.inr z)) v (upd H kd (.dK (putK kvs (Sum.inr z) v))) := DPut.k h4 (by rw [h6.len]; exact Nat.lt_of_le_of_lt he (by decide))
  rw [putK_new v vn] at dp0
  have g : Gp kd H (upd H kd (.dK (kvs ++ [(Sum.inr z, v)]))) := Gp.but (But.upd fun _ _ => rfl)
  have gk : Kd K H (upd H kd (.dK (kvs ++ [(Sum.inr z, v)]))) := g.kd h4
  refine ⟨_, dp0, g, dx, fd, it, fk, _, ?_, ?_, gk.t h3, upd_same, h5.kd gk, (h6.kd gk).put (gk.dp hv), h7⟩
  · rw [upd_ne (by
      intro c
      rw [c, h4] at h1
      cases h1)]
    exact h1
  · rw [upd_ne h7]
    exact h2
theorem nz1 {n : Nat} (h : 1 ≤ n) {Q : Prop} : ¬ (HT.sIx n 0 (some 1) = 0 ∧ Q) := by
  rw [show HT.sIx n 0 (some 1) = min 1 n from HT.sIx_nat n 0 1]
  omega
section
variable {P : Program} {w : World} {K : PySem.W.Frag} {mg : Str → Option Value} {base : Heap}
def spPIn (C : Addr) (K : PySem.W.Frag) (ok : Ro → Prop) : Sp := fun vs H Q _ => ∃ (x kd : Addr) (us : List Us) (is : List Int) (e e' : En) (r : Ro) (v : V), vs = [.ref x, v] ∧ ok r ∧ LkAt C K H x kd us is e ∧ is.length ≤ 3 ∧ e.length ≤ 100 ∧ Dp K H v r.d ∧ goR r ∧
  (∀ u ∈ us, isN u.lb = true ∧ goF u.fc) ∧ StepOk us is e r e' ∧ ∀ H', Gp kd H H' → LkAt C K H' x kd us is e' → Q .non H'
set_option maxHeartbeats 1000000 in
theorem ok_pLet {f fN fI fF fT fM fW C : Addr} {fd dN dI dF dT dM dW : FuncData} {k : Nat} (F : Fun K "place_in_let" "Looked.place_in_let" sPLet f fd) (R : LkC K mg C) (HN : HasM P w K mg base C k "is_new_name" ["self", "thing"] (spNewN C K) fN dN)
    (HI : Has P w K mg base k "is_name" ["thing"] spName fI dI) (HF : Has P w K mg base k "find_deed" ["face", "name"] (spFind K) fF dF) (HT : Has P w K mg base k "is_tuple_of" ["thing", "least", "most"] (spTupOf K) fT dT)
    (HM : HasM P w K mg base C k "may_stand_for" ["self", "thing", "label", "kind"] (spMay C K) fM dM) (HW : Has P w K mg base k "is_whole" ["thing"] (spWhole K) fW dW) (ml : mg "len" = none) (me : mg "enumerate" = none) :
    FnOk P w K mg base CX0 (k + 1) f fd ["self", "row"] (spPIn C K fun r => ∃ nm lb dd as, r = .l nm lb dd as) := by
  refine F.ok scPLet (fun vs H Q E h => ?_) (fun cdv A outer s H vs Q E hr h => ?_)
  · obtain ⟨x, kd, us, is, e, e', r, v, rfl, _⟩ := h
    rfl
  · obtain ⟨x, kd, us, is, e, e', r, v, rfl, ⟨nm, lb, dd, as, rfl⟩, hL, i3, e100, hv, ⟨n1, n2, n3, a3, ga⟩, un, ⟨he, u, hu, rfl, d, hd, rfl, la, st, rfl⟩, q⟩ := h
    have nd := scPLet.nd
    refine' ⟨_, pss_cons ?s1 (pss_cons ?s2 (pss_cons ?s3 (pss_cons ?s4 (pss_cons ?s5 (pss_cons ?s6 (pss_cons ?s7 (pss_cons ?s8 (pss_cons ?s9 (pss_cons ?s10 (pss_one ?s11)))))))))), ?rd⟩
    case s1 => exact ps_asg (pe_slice sl_tup (pv 1) (po_some pe_int) po_none) (pg_tup rfl (pgs_cons (pg_name (i := 2) nd rfl (.inl rfl)) (pgs_cons (pg_name (i := 3) nd rfl (.inl rfl)) (pgs_cons (pg_name (i := 4) nd rfl (.inl rfl)) (pgs_cons (pg_name (i := 5) nd rfl (.inl rfl)) pgs_nil)))))
    case s2 => exact ps_if (pt_not (pt_val (pe_meth (pv 0) R.cl HN.me HN.ok hr HN.bd .nil pass0 (pa_cons (pv 2) pa_nil)))) pss_never pss_nil
    case s3 => exact ps_if (PW.pt (pw_or (pt_not (pt_val (hcall HI hr (pa_cons (pv 3) pa_nil)))) (pw_or1 (pt_cmp (pc_dnotin (hu_of hr) (pv 3) (pe_fld (pv 0) rfl)))))) pss_never pss_nil
    case s4 => exact ps_set (i := 6) nd rfl (.inl rfl) (pe_dget (hu_of hr) (pe_fld (pv 0) rfl) (pv 3) (fun _ _ => rfl))
    case s5 => exact ps_set (i := 7) nd rfl (.inl rfl) (hcall HF hr (pa_cons (pv 6) (pa_cons (pv 4) pa_nil)))
    case s6 => exact ps_if (pt_cmpR op_isN (pv 7) pe_non (nomark _)) pss_never pss_nil
    case s7 => exact ps_asg (pe_slice sl_tup (pe_ix ix_tup (pe_ix ix_tup (pv 6) pe_int (fun _ _ => rfl)) (pv 7) (fun _ _ => rfl)) (po_some pe_int) po_none) (pg_tup rfl (pgs_cons (pg_name (i := 8) nd rfl (.inl rfl)) (pgs_cons (pg_name (i := 9) nd rfl (.inl rfl)) pgs_nil)))
    case s8 => exact ps_if (pt_not (pt_val (hcall HT hr (pa_cons (pv 5) (pa_cons (pe_callB call_len_seq (by rfl) ml PySem.boot_len (pa_cons (pv 8) pa_nil)) (pa_cons (pe_callB call_len_seq (by rfl) ml PySem.boot_len (pa_cons (pv 8) pa_nil)) pa_nil)))))) pss_never pss_nil
    case s9 =>
      exact ps_for PassesOwn.never rfl (pi_enumT (by rfl) me (pa_cons (pv 8) pa_nil)) (pg_tup rfl (pgs_cons (pg_name (i := 10) nd rfl (.inl rfl)) (pgs_cons (pg_name (i := 11) nd rfl (.inl rfl)) pgs_nil)))
        (pss_one (ps_if (pt_not (pt_val (pe_meth (pv 0) R.cl HM.me HM.ok hr HM.bd .nil pass0 (pa_cons (pe_ix ix_tup (pv 5) (pv 10) (fun _ _ => rfl)) (pa_cons (pv 3) (pa_cons (pv 11) pa_nil)))))) pss_never pss_nil))
    case s10 => exact ps_dput (hu_of hr) (pe_fld (pv 0) rfl) (pv 2) (pe_ifExp (pt_val (hcall HW hr (pa_cons (pv 9) pa_nil))) (pv 9) (pe_tup (pa_cons (pv 3) (pa_cons (pv 9) pa_nil)))) rfl
    case s11 => exact ps_ret pe_non
    case rd =>
    obtain ⟨go1, go2⟩ := un u hu
    obtain ⟨i, hi⟩ := List.getElem?_of_mem hd
    obtain ⟨p, xs, rfl, hp, dxs⟩ := dp_tup hv
    obtain ⟨v0, xs, rfl, d0, dxs⟩ := dpA_cons dxs
    obtain ⟨v1, xs, rfl, d1, dxs⟩ := dpA_cons dxs
    obtain ⟨v2, xs, rfl, d2, dxs⟩ := dpA_cons dxs
    obtain ⟨v3, xs, rfl, d3, dxs⟩ := dpA_cons dxs
    obtain ⟨v4, xs, rfl, d4, dxs⟩ := dpA_cons dxs
    cases dpA_nil dxs
    cases dp_str d1
    cases dp_str d2
    cases dp_str d3
    refine ⟨_, rfl, 1, rfl, p, _, rfl, hp, nz1 (by simp), fun t nt => ?_⟩
    rw [cut_one]
    have g1 : Gr H (upd H t (.tup [.str nm, .str u.lb, .str d.nm, v4])) := Gr.new nt
    have e1 : upd H t (.tup [.str nm, .str u.lb, .str d.nm, v4]) t = some (.tup [.str nm, .str u.lb, .str d.nm, v4]) := upd_same
    generalize upd H t (.tup [.str nm, .str u.lb, .str d.nm, v4]) = H1 at g1 e1 ⊢
    refine ⟨t, _, rfl, .inl (.inl e1), rfl, _, _, rfl, _, _, rfl, _, _, rfl, _, [], rfl, rfl, ?_⟩
    have hL1 := hL.gr g1
    obtain ⟨dx, fa, it, fk, kvs, h1, h2, h3, h4, h5, h6, h7⟩ := id hL1
    obtain ⟨fv, hfv, dfv⟩ := h5 u hu
    refine ⟨_, rfl, x, dx, _, rfl, h1, lf_no _ _ _ (by decide +kernel) (by decide +kernel) (by decide +kernel), _, rfl, x, kd, us, is, e, nm, rfl, hL1, n1, he, _, rfl, iteF ?_⟩
    refine ⟨_, rfl, u.lb, rfl, n2, _, rfl, iteF ⟨_, rfl, _, rfl, x, C, dx, _, _, rfl, h1, R.cl, R.nF, lf_faces _ _ _, fa, _, rfl, DGet.k (k := Sum.inr u.lb) h2, _, rfl, ?_⟩⟩
    rw [hfv]
    have dg : DGet H1 fa (.str u.lb) (some fv) := by
      have := DGet.k (k := Sum.inr u.lb) h2
      rw [hfv] at this
      exact this
    refine iteF ⟨_, rfl, x, C, dx, _, _, rfl, h1, R.cl, R.nF, lf_faces _ _ _, _, rfl, fa, fv, rfl, dg, ?_⟩
    refine ⟨_, rfl, _, rfl, fv, .str d.nm, u.fc, "str", rfl, dfv, is_str _, .inl ⟨d.nm, d, i, rfl, hi, rfl, go2.up, fun H2 g2 => ?_⟩⟩
    refine ⟨_, rfl, rfl, _, rfl, iteF ?_⟩
    have dfv2 := g2.kd.dp dfv
    obtain ⟨pf, ph, pd, ys, rfl, hpf, hph, hpd, dys⟩ := dp_face dfv2
    obtain ⟨y, hy, dy⟩ := dpA_get dys (i := i) (d := d.d) (by rw [List.getElem?_map, hi]; rfl)
    obtain ⟨pe, y0, y1, y2, rfl, hpe, dn, dt, dv⟩ := dp_3 dy
    obtain ⟨tp, ts, rfl, htp, dts⟩ := dp_tup dt
    have hts : ts = d.tk.map Kn.v := dpA_kns dts
    subst hts
    have hgv : y2 = d.gv.v := dp_kn dv
    subst hgv
    refine ⟨_, rfl, pf, _, 1, _, rfl, rfl, hpf, rfl, _, rfl, pd, _, (i : Nat), _, rfl, rfl, hpd, atI_nat hy, 1, rfl, pe, _, rfl, hpe, nz1 (by simp), fun t2 nt2 => ?_⟩
    rw [cut_one]
    have g3 : Gr H2 (upd H2 t2 (.tup [.ref tp, d.gv.v])) := Gr.new nt2
    have e3 : upd H2 t2 (.tup [.ref tp, d.gv.v]) t2 = some (.tup [.ref tp, d.gv.v]) := upd_same
    generalize upd H2 t2 (.tup [.ref tp, d.gv.v]) = H3 at g3 e3 ⊢
    refine ⟨t2, _, rfl, .inl (.inl e3), rfl, _, _, rfl, _, [], rfl, rfl, ?_⟩
    have g13 := g2.trans g3
    have htp3 := g3.sqt htp
    have d43 := (g1.trans g13).kd.dp d4
    refine ⟨_, rfl, _, rfl, tp, _, rfl, .inr htp3, _, rfl, tp, _, rfl, .inr htp3, v4, .tuple (as.map Ag.d), _, _, rfl, Dp.dx d43, ?_⟩
    rw [show tupD (.tuple (as.map Ag.d)) (((d.tk.map Kn.v).length : Nat) : Int) (((d.tk.map Kn.v).length : Nat) : Int) = true by
      simp only [tupD, List.length_map]
      rw [decide_eq_true (by omega), decide_eq_true (by omega)]
      rfl]
    refine ⟨_, rfl, iteF ?_⟩
    obtain ⟨ap, avs, rfl, hap, davs⟩ := dp_tup d43
    have hL3 := hL1.gr g13
    have gd := go2.ok d hd
    refine ⟨_, rfl, tp, _, rfl, htp3, for_it (walk_enumT (xs := d.tk.map Kn.v)) (fun j σ H4 => ∃ (y10 y11 : Option V), σ = [some (.ref x), some (.ref p), some (.str nm), some (.str u.lb), some (.str d.nm), some (.ref ap), some (.ref pf), some (.int (i : Nat)), some (.ref tp), some d.gv.v, y10, y11] ∧ Gr H3 H4)
      ⟨none, none, rfl, Gr.refl H3⟩ ?w1 ?w2 ?w3⟩
    case w1 =>
      rintro j σ H4 hj ⟨y10, y11, rfl, g4⟩
      exact g4.sqt htp3
    case w2 =>
      rintro j vv σ H4 H5 hj ⟨y10, y11, rfl, g4⟩ ⟨T, a, b, rfl, nT, rfl, ha, hb⟩
      cases ha
      have hj' : j < d.tk.length := by
        rw [List.length_map] at hj
        exact hj
      have hk : d.tk[j]? = some d.tk[j] := List.getElem?_eq_getElem hj'
      generalize d.tk[j] = kn at hk
      have hb' : b = kn.v := by
        have hb2 : (d.tk.map Kn.v)[j]? = some b := hb
        rw [List.getElem?_map, hk] at hb2
        exact (Option.some.inj hb2).symm
      subst hb'
      have ea : as[j]? = some as[j] := List.getElem?_eq_getElem (by omega)
      generalize as[j] = a at ea
      have g6 : Gr H3 (upd H4 T (.tup [.int (j : Nat), kn.v])) := g4.trans (Gr.new nT)
      have e6 : upd H4 T (.tup [.int (j : Nat), kn.v]) T = some (.tup [.int (j : Nat), kn.v]) := upd_same
      generalize upd H4 T (.tup [.int (j : Nat), kn.v]) = H6 at g6 e6 ⊢
      refine ⟨T, _, rfl, .inl (.inl e6), rfl, _, _, rfl, _, [], rfl, rfl, ?_⟩
      have hL6 := hL3.gr g6
      obtain ⟨dx, fa, it, fk, kvs, h1, _⟩ := id hL6
      obtain ⟨av, hav, dav⟩ := dpA_get davs (i := j) (d := a.d) (by rw [List.getElem?_map, ea]; rfl)
      have gk := gd.tk kn (List.mem_of_getElem? hk)
      refine ⟨_, rfl, x, dx, _, rfl, h1, lf_no _ _ _ (by decide +kernel) (by decide +kernel) (by decide +kernel), _, rfl, _, rfl, ap, _, (j : Nat), av, rfl, rfl, g6.sqt hap, atI_nat hav, _, rfl, _, rfl, x, kd, us, is, e, a, av, u.lb, kn, rfl, hL6, i3, g6.kd.dp dav, ga a (List.mem_of_getElem? ea), n2, ?_, st j a kn ea hk, fun H7 g7 => ?_⟩
      · rintro z rfl
        exact go2.hid.nm z gk
      exact ⟨_, rfl, iteF ⟨_, _, rfl, g6.trans g7⟩⟩
    case w3 =>
      rintro σ H4 ⟨y10, y11, rfl, g4⟩
      have hL4 := hL3.gr g4
      have dv4 := (g3.trans g4).kd.dp dv
      obtain ⟨dx, fa, it, fk, kvs, h1, _⟩ := id hL4
      have gkv := gd.gv
      cases hgv : d.gv with
      | p n =>
        rw [hgv] at q dv4
        obtain ⟨H', pt, gp, hL'⟩ := hL4.put he e100 (k := .w n) (v := .int n) (.int n)
        refine ⟨_, rfl, .int n, .int n, rfl, .int n, _, rfl, iteT ⟨_, rfl, _, rfl, x, C, dx, _, _, rfl, h1, R.cl, R.nK, lf_kinds _ _ _, _, rfl, kd, H', rfl, pt, ?_⟩⟩
        exact q H' ((Gp.gr (g1.trans (g13.trans g4))).trans gp) hL'
      | h z =>
        rw [hgv] at q dv4
        refine ⟨_, rfl, .str z, .str z, rfl, .str z, _, rfl, iteF ⟨_, rfl, _, rfl, by show 2 ≤ sizeLine; decide, fun t5 nt5 => ?_⟩⟩
        have k5 : Gr H4 (upd H4 t5 (.tup [.str u.lb, .str z])) := Gr.new nt5
        have e5 : upd H4 t5 (.tup [.str u.lb, .str z]) t5 = some (.tup [.str u.lb, .str z]) := upd_same
        have hL5 := hL4.gr k5
        obtain ⟨dx, fa, it, fk, kvs, h1, _⟩ := id hL5
        obtain ⟨H', pt, gp, hL'⟩ := hL5.put he e100 (k := .h u.lb z) (v := .ref t5) (.tup (SqT.of e5) (.cons (.str _) (.cons (.str _) .nil)))
        refine ⟨_, rfl, x, C, dx, _, _, rfl, h1, R.cl, R.nK, lf_kinds _ _ _, _, rfl, kd, H', rfl, pt, ?_⟩
        exact q H' ((Gp.gr (g1.trans (g13.trans (g4.trans k5)))).trans gp) hL'
set_option maxHeartbeats 1000000 in
theorem ok_pPick {f fN fO fP fW C : Addr} {fd dN dO dP dW : FuncData} {k : Nat} (F : Fun K "place_in_pick" "Looked.place_in_pick" sPPick f fd) (R : LkC K mg C) (HN : HasM P w K mg base C k "is_new_name" ["self", "thing"] (spNewN C K) fN dN)
    (HP : HasM P w K mg base C k "is_plain" ["self", "thing"] (spPlain C K) fP dP) (HO_ : HasM P w K mg base C k "kind_of_arg" ["self", "thing"] (spKoA C K) fO dO) (HW : Has P w K mg base k "is_whole" ["thing"] (spWhole K) fW dW) (mm : mg "max" = none) :
    FnOk P w K mg base CX0 (k + 1) f fd ["self", "row"] (spPIn C K fun r => ∃ nm a b c, r = .p nm a b c) := by
  refine F.ok scPPick (fun vs H Q E h => ?_) (fun cdv A outer s H vs Q E hr h => ?_)
  · obtain ⟨x, kd, us, is, e, e', r, v, rfl, _⟩ := h
    rfl
  · obtain ⟨x, kd, us, is, e, e', r, v, rfl, ⟨nm, a, b, c, rfl⟩, hL, i3, e100, hv, ⟨n1, n2, n3, n4⟩, un, ⟨he, ⟨n, hn⟩, hor⟩, q⟩ := h
    have nd := scPPick.nd
    refine' ⟨_, pss_cons ?s1 (pss_cons ?s2 (pss_cons ?s3 (pss_cons ?s4 (pss_cons ?s5 (pss_cons ?s6 (pss_cons ?s7 (pss_one ?s8))))))), ?rd⟩
    case s1 => exact ps_asg (pe_slice sl_tup (pv 1) (po_some pe_int) po_none) (pg_tup rfl (pgs_cons (pg_name (i := 2) nd rfl (.inl rfl)) (pgs_cons (pg_name (i := 3) nd rfl (.inl rfl)) (pgs_cons (pg_name (i := 4) nd rfl (.inl rfl)) (pgs_cons (pg_name (i := 5) nd rfl (.inl rfl)) pgs_nil)))))
    case s2 => exact ps_if (pt_not (pt_val (pe_meth (pv 0) R.cl HN.me HN.ok hr HN.bd .nil pass0 (pa_cons (pv 2) pa_nil)))) pss_never pss_nil
    case s3 => exact ps_if (pt_not (pt_val (pe_meth (pv 0) R.cl HP.me HP.ok hr HP.bd .nil pass0 (pa_cons (pv 3) pa_nil)))) pss_never pss_nil
    case s4 => exact ps_set (i := 6) nd rfl (.inl rfl) (pe_meth (pv 0) R.cl HO_.me HO_.ok hr HO_.bd .nil pass0 (pa_cons (pv 4) pa_nil))
    case s5 => exact ps_if (pt_cmpR op_isN (pv 6) pe_non (nomark _)) pss_never pss_nil
    case s6 => exact ps_set (i := 7) nd rfl (.inl rfl) (pe_meth (pv 0) R.cl HO_.me HO_.ok hr HO_.bd .nil pass0 (pa_cons (pv 5) pa_nil))
    case s7 =>
      exact ps_if (PW.pt (pw_and (pt_val (hcall HW hr (pa_cons (pv 6) pa_nil))) (pw_and1 (pt_val (hcall HW hr (pa_cons (pv 7) pa_nil))))))
        (pss_one (ps_dput (hu_of hr) (pe_fld (pv 0) rfl) (pv 2) (pe_callB (call_max2 rfl) (by rfl) mm (by decide +kernel) (pa_cons (pv 6) (pa_cons (pv 7) pa_nil))) rfl))
        (pss_one (ps_if (pt_cmpR (op_eqD hr.units) (pv 6) (pv 7) (nomark _)) (pss_one (ps_dput (hu_of hr) (pe_fld (pv 0) rfl) (pv 2) (pv 6) rfl)) pss_never))
    case s8 => exact ps_ret pe_non
    case rd =>
    obtain ⟨p, xs, rfl, hp, dxs⟩ := dp_tup hv
    obtain ⟨v0, xs, rfl, d0, dxs⟩ := dpA_cons dxs
    obtain ⟨v1, xs, rfl, d1, dxs⟩ := dpA_cons dxs
    obtain ⟨v2, xs, rfl, d2, dxs⟩ := dpA_cons dxs
    obtain ⟨v3, xs, rfl, d3, dxs⟩ := dpA_cons dxs
    obtain ⟨v4, xs, rfl, d4, dxs⟩ := dpA_cons dxs
    cases dpA_nil dxs
    cases dp_str d1
    refine ⟨_, rfl, 1, rfl, p, _, rfl, hp, nz1 (by simp), fun t nt => ?_⟩
    rw [cut_one]
    have g1 : Gr H (upd H t (.tup [.str nm, v2, v3, v4])) := Gr.new nt
    have e1 : upd H t (.tup [.str nm, v2, v3, v4]) t = some (.tup [.str nm, v2, v3, v4]) := upd_same
    generalize upd H t (.tup [.str nm, v2, v3, v4]) = H1 at g1 e1 ⊢
    refine ⟨t, _, rfl, .inl (.inl e1), rfl, _, _, rfl, _, _, rfl, _, _, rfl, _, [], rfl, rfl, ?_⟩
    have hL1 := hL.gr g1
    have d21 := g1.kd.dp d2
    have d31 := g1.kd.dp d3
    have d41 := g1.kd.dp d4
    obtain ⟨dx, fa, it, fk, kvs, h1, _⟩ := id hL1
    refine ⟨_, rfl, x, dx, _, rfl, h1, lf_no _ _ _ (by decide +kernel) (by decide +kernel) (by decide +kernel), _, rfl, x, kd, us, is, e, nm, rfl, hL1, n1, he, _, rfl, iteF ?_⟩
    refine ⟨_, rfl, x, dx, _, rfl, h1, lf_no _ _ _ (by decide +kernel) (by decide +kernel) (by decide +kernel), _, rfl, x, kd, us, is, e, a, v2, n, rfl, hL1, i3, d21, n2, hn, _, rfl, iteF ?_⟩
    refine ⟨_, rfl, x, dx, _, rfl, h1, lf_no _ _ _ (by decide +kernel) (by decide +kernel) (by decide +kernel), _, rfl, x, kd, us, is, e, b, v3, rfl, hL1, i3, d31, n3, fun ub hub => ?_⟩
    rcases hor with ⟨m, n', hm, hn', rfl⟩ | ⟨lb, z, nlb, nz, hm, hn', rfl⟩
    · rw [hm] at hub
      cases dp_int hub
      refine ⟨_, rfl, rfl, _, rfl, iteF ?_⟩
      refine ⟨_, rfl, x, dx, _, rfl, h1, lf_no _ _ _ (by decide +kernel) (by decide +kernel) (by decide +kernel), _, rfl, x, kd, us, is, e, c, v4, rfl, hL1, i3, d41, n4, fun uc huc => ?_⟩
      rw [hn'] at huc
      cases dp_int huc
      obtain ⟨H', pt, gp, hL'⟩ := hL1.put he e100 (k := .w (max m n')) (v := .int (max m n')) (.int _)
      refine ⟨_, rfl, .int m, .int m, rfl, .int m, _, rfl, iteT ⟨_, rfl, .int n', .int n', rfl, .int n', _, rfl, iteT ?_⟩⟩
      refine ⟨_, rfl, _, rfl, m, n', rfl, ?_⟩
      rw [show (if n' > m then n' else m) = max m n' by split <;> omega]
      refine ⟨_, rfl, x, C, dx, _, _, rfl, h1, R.cl, R.nK, lf_kinds _ _ _, _, rfl, kd, H', rfl, pt, ?_⟩
      exact q H' ((Gp.gr g1).trans gp) hL'
    · rw [hm] at hub
      have hub' := hub
      obtain ⟨q1, y0, y1, rfl, hq1, dy0, dy1⟩ := dp_2 hub'
      refine ⟨_, rfl, rfl, _, rfl, iteF ?_⟩
      refine ⟨_, rfl, x, dx, _, rfl, h1, lf_no _ _ _ (by decide +kernel) (by decide +kernel) (by decide +kernel), _, rfl, x, kd, us, is, e, c, v4, rfl, hL1, i3, d41, n4, fun uc huc => ?_⟩
      rw [hn'] at huc
      obtain ⟨H', pt, gp, hL'⟩ := hL1.put he e100 (k := .h lb z) (v := .ref q1) hub
      have cm : Cm (.tuple [.str lb, .str z]) 2 := cm_tup fun d hd => by
        have hd' : d = .str lb ∨ d = .str z := by simpa using hd
        rcases hd' with rfl | rfl
        · exact cm_name nlb
        · exact cm_name nz
      refine ⟨_, rfl, .ref q1, .tuple [.str lb, .str z], rfl, Dp.dx hub, _, rfl, iteF (iteF ?_)⟩
      refine ⟨_, rfl, _, rfl, _, _, hub, huc, cm.shaped (by decide), cm.shaped (by decide), _, rfl, ?_⟩
      have e1 : PyData.eqv (koD (some (.h lb z))) (koD (some (.h lb z))) = true := SeqAt.eqv_refl _ cm.lay
      rw [e1]
      refine iteT ⟨_, rfl, _, rfl, x, C, dx, _, _, rfl, h1, R.cl, R.nK, lf_kinds _ _ _, _, rfl, kd, H', rfl, pt, ?_⟩
      exact q H' ((Gp.gr g1).trans gp) hL'
theorem ok_pIn {f fL fP fQ C : Addr} {fd dL dP dQ : FuncData} {k : Nat} (F : Fun K "place_in" "Looked.place_in" sPIn f fd) (R : LkC K mg C) (HL : HasM P w K mg base C k "place_in_let" ["self", "row"] (spPIn C K fun r => ∃ nm lb dd as, r = .l nm lb dd as) fL dL)
    (HP : HasM P w K mg base C k "place_in_pick" ["self", "row"] (spPIn C K fun r => ∃ nm a b c, r = .p nm a b c) fP dP) (HQ : HasM P w K mg base C k "is_plain" ["self", "thing"] (spPlain C K) fQ dQ) :
    FnOk P w K mg base CX0 (k + 1) f fd ["self", "row"] (spPIn C K fun _ => True) := by
  refine F.ok scPIn (fun vs H Q E h => ?_) (fun cdv A outer s H vs Q E hr h => ?_)
  · obtain ⟨x, kd, us, is, e, e', r, v, rfl, _⟩ := h
    rfl
  · obtain ⟨x, kd, us, is, e, e', r, v, rfl, _, hL, i3, e100, hv, gr, un, hs, q⟩ := h
    refine' ⟨_, pss_cons ?s1 (pss_cons ?s2 (pss_one ?s3)), ?rd⟩
    case s1 => exact ps_if (pt_cmpR op_eq (pe_ix ix_tup (pv 1) pe_int (fun _ _ => rfl)) pe_str (nomark _)) (pss_one (ps_ret (pe_meth (pv 0) R.cl HL.me HL.ok hr HL.bd .nil pass0 (pa_cons (pv 1) pa_nil)))) pss_nil
    case s2 => exact ps_if (pt_cmpR op_eq (pe_ix ix_tup (pv 1) pe_int (fun _ _ => rfl)) pe_str (nomark _)) (pss_one (ps_ret (pe_meth (pv 0) R.cl HP.me HP.ok hr HP.bd .nil pass0 (pa_cons (pv 1) pa_nil)))) pss_nil
    case s3 => exact ps_ret (pe_ifExp (pt_val (pe_meth (pv 0) R.cl HQ.me HQ.ok hr HQ.bd .nil pass0 (pa_cons (pe_ix ix_tup (pv 1) pe_int (fun _ _ => rfl)) pa_nil))) pe_non pe_int)
    case rd =>
    obtain ⟨dx, fa, it, fk, kvs, h1, _⟩ := id hL
    cases r with
    | l nm lb dd as =>
      obtain ⟨p, xs, rfl, hp, dxs⟩ := dp_tup hv
      obtain ⟨v0, xs, rfl, d0, dxs⟩ := dpA_cons dxs
      cases dp_str d0
      refine ⟨_, rfl, p, _, 0, _, rfl, rfl, hp, at_0 _ _, rfl, _, rfl, ?_⟩
      rw [decide_eq_true rfl]
      exact iteT ⟨_, rfl, x, dx, _, rfl, h1, lf_no _ _ _ (by decide +kernel) (by decide +kernel) (by decide +kernel), _, rfl, x, kd, us, is, e, e', _, .ref p, rfl, ⟨nm, lb, dd, as, rfl⟩, hL, i3, e100, hv, gr, un, hs, fun H' g L' => q H' g L'⟩
    | p nm a b c =>
      obtain ⟨p, xs, rfl, hp, dxs⟩ := dp_tup hv
      obtain ⟨v0, xs, rfl, d0, dxs⟩ := dpA_cons dxs
      cases dp_str d0
      refine ⟨_, rfl, p, _, 0, _, rfl, rfl, hp, at_0 _ _, rfl, _, rfl, ?_⟩
      rw [decide_eq_false (by decide +kernel)]
      refine iteF ⟨_, rfl, p, _, 0, _, rfl, rfl, hp, at_0 _ _, rfl, _, rfl, ?_⟩
      rw [decide_eq_true rfl]
      exact iteT ⟨_, rfl, x, dx, _, rfl, h1, lf_no _ _ _ (by decide +kernel) (by decide +kernel) (by decide +kernel), _, rfl, x, kd, us, is, e, e', _, .ref p, rfl, ⟨nm, a, b, c, rfl⟩, hL, i3, e100, hv, gr, un, hs, fun H' g L' => q H' g L'⟩
    | s a =>
      obtain ⟨p, v0, v1, rfl, hp, d0, d1⟩ := dp_2 hv
      cases dp_str d0
      obtain ⟨⟨n, hn⟩, rfl⟩ := hs
      refine ⟨_, rfl, p, _, 0, _, rfl, rfl, hp, at_0 _ _, rfl, _, rfl, ?_⟩
      rw [decide_eq_false (by decide +kernel)]
      refine iteF ⟨_, rfl, p, _, 0, _, rfl, rfl, hp, at_0 _ _, rfl, _, rfl, ?_⟩
      rw [decide_eq_false (by decide +kernel)]
      refine iteF ⟨_, rfl, x, dx, _, rfl, h1, lf_no _ _ _ (by decide +kernel) (by decide +kernel) (by decide +kernel), _, rfl, p, _, 1, _, rfl, rfl, hp, rfl, x, kd, us, is, _, a, v1, n, rfl, hL, i3, d1, gr, hn, _, rfl, iteT ?_⟩
      exact q H (Gp.refl _ _) hL
end
end SfC
/-! Looked is made; parts of a program; kinds by name -/
namespace SfC
open PySem PySem.Spec PyProof.Rows L2 SfG
theorem scBadUse : FnScope ["uses", "labels", "number", "use"] ["uses"] (defScope sBadUse) := ⟨rfl, rfl, rfl, by decide +kernel, rfl, by decide +kernel, by decide +kernel⟩
theorem scBadInp : FnScope ["inputs", "number", "kind"] ["inputs"] (defScope sBadInp) := ⟨rfl, rfl, rfl, by decide +kernel, rfl, by decide +kernel, by decide +kernel⟩
theorem scParts : FnScope ["program", "uses", "inputs", "rows", "number"] ["program"] (defScope sParts) := ⟨rfl, rfl, rfl, by decide +kernel, rfl, by decide +kernel, by decide +kernel⟩
abbrev nKBN : List Str := ["program", "uses", "inputs", "rows", "looked", "number", "row", "place"]
theorem scKBN : FnScope nKBN ["program"] (defScope sKindsBN) := ⟨rfl, rfl, rfl, by decide +kernel, rfl, by decide +kernel, by decide +kernel⟩
theorem scNeedP : FnScope ["program"] ["program"] (defScope sNeedP) := ⟨rfl, rfl, rfl, by decide +kernel, rfl, by decide +kernel, by decide +kernel⟩
/-- a program whose kinds are right -/
structure goK' (p : Pg) : Prop where
  f : goP p
  nd : (p.us.map Us.lb).Nodup
  run : ∃ es : Nat → En, es 0 = [] ∧ (∀ i, (es i).length ≤ i) ∧ ∀ i r, p.rs[i]? = some r → StepOk p.us p.is (es i) r (es (i + 1))
/-- its value: the tuple of uses has no names of its own -/
def PgV (K : PySem.W.Frag) (H : Hp) (v : V) (p : Pg) : Prop := ∃ (q qu qi qr : Addr) (ps : List Addr) (rs : List V), v = .ref q ∧ SqT K H q [.ref qu, .ref qi, .ref qr] ∧ Bare H qu (ps.map V.ref) ∧ DpAll K H (ps.map V.ref) (p.us.map Us.d) ∧ SqT K H qi (p.is.map V.int) ∧ SqT K H qr rs ∧ DpAll K H rs (p.rs.map Ro.d)
theorem PgV.gr {K : PySem.W.Frag} {H H' : Hp} {v : V} {p : Pg} (h : PgV K H v p) (g : Gr H H') : PgV K H' v p := by
  obtain ⟨q, qu, qi, qr, ps, rs, rfl, h1, h2, h3, h4, h5, h6⟩ := h
  exact ⟨q, qu, qi, qr, ps, rs, rfl, g.sqt h1, h2.gr g, g.kd.dpA h3, g.sqt h4, g.sqt h5, g.kd.dpA h6⟩
theorem PgV.dp {K : PySem.W.Frag} {H : Hp} {v : V} {p : Pg} (h : PgV K H v p) : Dp K H v p.d := by
  obtain ⟨q, qu, qi, qr, ps, rs, rfl, h1, h2, h3, h4, h5, h6⟩ := h
  exact .tup h1 (.cons (.tup h2.sqt h3) (.cons (.tup h4 (dpA_ints _)) (.cons (.tup h5 h6) .nil)))
theorem merge_no : ∀ (more acc : List (Key × V)) (j : Key), (∀ kv ∈ more, kv.1 ≠ j) → valV (mergeK acc more) j = valV acc j
  | [], _, _, _ => rfl
  | kv :: r, acc, j, h => by
    show valV (mergeK (putK acc kv.1 kv.2) r) j = _
    rw [merge_no r _ j fun x hx => h x (.tail _ hx), valV_put, if_neg (Ne.symm (h kv (.head _)))]
theorem merge_in : ∀ (more acc : List (Key × V)) (j : Key) (v : V), (more.map (·.1)).Nodup → (j, v) ∈ more → valV (mergeK acc more) j = some v
  | [], _, _, _, _, h => by cases h
  | kv :: r, acc, j, v, n, h => by
    rw [List.map_cons] at n
    obtain ⟨n1, n2⟩ := List.nodup_cons.mp n
    show valV (mergeK (putK acc kv.1 kv.2) r) j = _
    rcases List.mem_cons.mp h with e | h
    · subst e
      rw [merge_no r _ j fun x hx z => n1 (List.mem_map.mpr ⟨x, hx, z⟩), valV_put, if_pos rfl]
    · exact merge_in r _ j v n2 h
theorem gp_kdI {K : PySem.W.Frag} {x C dx : Addr} {fs : List (Str × V)} {H H' : Hp} (g : Gp x H H') (hx : H x = some (.ins C dx fs)) : Kd K H H' := by
  refine ⟨fun {a xs} h => ?_, fun {a xs} h => gp_sqtI g hx h⟩
  rcases h with (h | ⟨o, h⟩) | h
  · refine .inl (.inl (g.keep a _ (fun z => ?_) h (fun _ z => by cases z)))
    rw [z, hx] at h
    cases h
  · refine .inl (.inr ⟨o, g.keep a _ (fun z => ?_) h (fun _ z => by cases z)⟩)
    rw [z, hx] at h
    cases h
  · exact .inr h
theorem pairs_us {K : PySem.W.Frag} {H : Hp} : ∀ {ps : List Addr} {us : List Us}, DpAll K H (ps.map V.ref) (us.map Us.d) →
    ∃ kvs : List (Key × V), Paired (fun p kv => SqT K H p [kV kv.1, kv.2]) ps kvs ∧ kvs.map (·.1) = us.map (fun u => (Sum.inr u.lb : Key)) ∧ ∀ u ∈ us, ∃ v, ((Sum.inr u.lb : Key), v) ∈ kvs ∧ Dp K H v u.fc.d
  | [], [], _ => ⟨[], .nil, rfl, fun u h => by cases h⟩
  | [], u :: r, h => by cases h
  | p :: ps, [], h => by cases h
  | p :: ps, u :: r, h => by
    cases h with
    | cons a b =>
      obtain ⟨kvs, k1, k2, k3⟩ := pairs_us b
      obtain ⟨q, x, y, e, hq, dx, dy⟩ := dp_2 a
      cases e
      cases dp_str dx
      refine ⟨(Sum.inr u.lb, y) :: kvs, .cons hq k1, by rw [List.map_cons, List.map_cons, k2], fun u' hu' => ?_⟩
      rcases List.mem_cons.mp hu' with rfl | hu'
      · exact ⟨y, .head _, dy⟩
      · obtain ⟨v, h1, h2⟩ := k3 u' hu'
        exact ⟨v, .tail _ h1, h2⟩
theorem nfi : ¬ (("faces" : Str) = "inputs") := by decide +kernel
theorem nfk : ¬ (("faces" : Str) = "kinds") := by decide +kernel
theorem nik : ¬ (("inputs" : Str) = "kinds") := by decide +kernel
def lf2 (fd it : Addr) : List (Str × V) := [("faces", .ref fd), ("inputs", .ref it)]
theorem lf_two (fd it : Addr) : putF "inputs" (.ref it) (putF "faces" (.ref fd) []) = lf2 fd it := by
  show (if ("faces" : Str) = "inputs" then _ else (("faces" : Str), V.ref fd) :: putF "inputs" (.ref it) []) = _
  rw [if_neg nfi]
  rfl
theorem lf_made (fd it kd : Addr) : putF "kinds" (.ref kd) (lf2 fd it) = lf fd it kd := by
  show (if ("faces" : Str) = "kinds" then _ else (("faces" : Str), V.ref fd) :: (if ("inputs" : Str) = "kinds" then _ else (("inputs" : Str), V.ref it) :: putF "kinds" (.ref kd) [])) = _
  rw [if_neg nfk, if_neg nik]
  rfl
theorem flat_strs' : ∀ us : List Us, (us.map fun u => V.str u.lb).all flatV = true
  | [] => rfl
  | u :: r => by rw [List.map_cons, List.all_cons, flat_strs' r]; rfl
section
variable {P : Program} {w : World} {K : PySem.W.Frag} {mg : Str → Option Value} {base : Heap}
def spLkI (C : Addr) (K : PySem.W.Frag) : Sp := fun vs H Q _ => ∃ (x dx qu qi : Addr) (ps : List Addr) (us : List Us) (is : List Int), vs = [.ref x, .ref qu, .ref qi] ∧ H x = some (.ins C dx []) ∧ Bare H qu (ps.map V.ref) ∧ DpAll K H (ps.map V.ref) (us.map Us.d) ∧ (us.map Us.lb).Nodup ∧ us.length ≤ 4 ∧
  SqT K H qi (is.map V.int) ∧ ∀ H' kd, Gp x H H' → H kd = none → LkAt C K H' x kd us is [] → Q .non H'
set_option maxHeartbeats 1000000 in
theorem ok_lkI {f C : Addr} {fd : FuncData} {k : Nat} (F : Fun K "__init__" "Looked.__init__" sLkI f fd) (R : LkC K mg C) (md : mg "dict" = none) : FnOk P w K mg base CX0 (k + 1) f fd ["self", "uses", "inputs"] (spLkI C K) := by
  refine F.ok scLkI (fun vs H Q E h => ?_) (fun cdv A outer s H vs Q E hr h => ?_)
  · obtain ⟨x, dx, qu, qi, ps, us, is, rfl, _⟩ := h
    rfl
  · obtain ⟨x, dx, qu, qi, ps, us, is, rfl, hx, hb, hd, nd', u4, hi, q⟩ := h
    refine' ⟨_, pss_cons ?s1 (pss_cons ?s2 (pss_one ?s3)), ?rd⟩
    case s1 => exact ps_fld (pv 0) (pe_callTy (call_dictPT rfl) (by rfl) md (by decide +kernel) (pa_cons (pv 1) pa_nil)) rfl
    case s2 => exact ps_fld (pv 0) (pv 2) rfl
    case s3 => exact ps_fld (pv 0) (pe_dnewK) rfl
    case rd =>
    obtain ⟨kvs, k1, k2, k3⟩ := pairs_us hd
    have ndk : (kvs.map (·.1)).Nodup := by
      rw [k2, show us.map (fun u => (Sum.inr u.lb : Key)) = (us.map Us.lb).map (fun z => (Sum.inr z : Key)) by rw [List.map_map]; rfl]
      exact List.pairwise_map.mpr (List.Pairwise.imp (fun h e => h (Sum.inr.inj e)) nd')
    refine ⟨_, rfl, qu, ps, kvs, rfl, hb, k1, fun fa nfa => ?_⟩
    have g1 : Gr H (upd H fa (.dK (mergeK [] kvs))) := Gr.new nfa
    have e1 : upd H fa (.dK (mergeK [] kvs)) fa = some (.dK (mergeK [] kvs)) := upd_same
    generalize upd H fa (.dK (mergeK [] kvs)) = H1 at g1 e1 ⊢
    have hx1 : H1 x = some (.ins C dx []) := g1.keep _ _ hx (fun _ z => by cases z)
    have fx : fa ≠ x := fun z => by
      rw [z, hx1] at e1
      cases e1
    refine ⟨_, rfl, x, C, dx, _, rfl, hx1, R.cl, R.nF, (by show 0 < 1000; decide), ?_⟩
    have hx2 : upd H1 x (.ins C dx (putF "faces" (.ref fa) [])) x = some (.ins C dx (putF "faces" (.ref fa) [])) := upd_same
    have e2 : upd H1 x (.ins C dx (putF "faces" (.ref fa) [])) fa = some (.dK (mergeK [] kvs)) := (upd_ne fx).trans e1
    have g2 : Gp x H (upd H1 x (.ins C dx (putF "faces" (.ref fa) []))) := (Gp.gr g1).trans (Gp.but (But.upd fun _ _ => rfl))
    generalize upd H1 x (.ins C dx (putF "faces" (.ref fa) [])) = H2 at hx2 e2 g2 ⊢
    refine ⟨_, rfl, _, rfl, x, C, dx, _, rfl, hx2, R.cl, R.nI, (by show 1 < 1000; decide), ?_⟩
    rw [lf_two]
    have hx3 : upd H2 x (.ins C dx (lf2 fa qi)) x = some (.ins C dx (lf2 fa qi)) := upd_same
    have e3 : upd H2 x (.ins C dx (lf2 fa qi)) fa = some (.dK (mergeK [] kvs)) := (upd_ne fx).trans e2
    have g3 : Gp x H (upd H2 x (.ins C dx (lf2 fa qi))) := g2.trans (Gp.but (But.upd fun _ _ => rfl))
    generalize upd H2 x (.ins C dx (lf2 fa qi)) = H3 at hx3 e3 g3 ⊢
    intro kd nkd
    have k4 : Gr H3 (upd H3 kd (.dK [])) := Gr.new nkd
    have e4 : upd H3 kd (.dK []) kd = some (.dK []) := upd_same
    have xk : x ≠ kd := ne_of_none hx3 nkd
    have fk : fa ≠ kd := ne_of_none e3 nkd
    have nkH : H kd = none := g3.back kd (Ne.symm xk) nkd
    generalize upd H3 kd (.dK []) = H4 at k4 e4 ⊢
    have hx4 : H4 x = some (.ins C dx (lf2 fa qi)) := k4.keep _ _ hx3 (fun _ z => by cases z)
    have e5 := k4.dic e3
    refine ⟨_, rfl, x, C, dx, _, rfl, hx4, R.cl, R.nK, (by show 2 < 1000; decide), ?_⟩
    rw [lf_made]
    have g5 : Gp x H (upd H4 x (.ins C dx (lf fa qi kd))) := (g3.trans (Gp.gr k4)).trans (Gp.but (But.upd fun _ _ => rfl))
    have gk := gp_kdI (K := K) g5 hx
    refine q _ kd g5 nkH ⟨dx, fa, qi, _, [], upd_same, (upd_ne fx).trans e5, gk.t hi, (upd_ne (Ne.symm xk)).trans e4, ?_, .nil, fk⟩
    intro u hu
    obtain ⟨v, m1, m2⟩ := k3 u hu
    exact ⟨v, merge_in kvs [] _ v ndk m1, gk.dp m2⟩
def spBadUse (K : PySem.W.Frag) : Sp := fun vs H Q _ => ∃ (v : V) (us : List Us), vs = [v] ∧ Dp K H v (.tuple (us.map Us.d)) ∧ us.length ≤ 4 ∧ (us.map Us.lb).Nodup ∧ (∀ u ∈ us, isN u.lb = true ∧ goF u.fc) ∧ ∀ H', Gr H H' → Q .non H'
set_option maxHeartbeats 1000000 in
theorem ok_badUse {f fT fN fF : Addr} {fd dT dN dF : FuncData} {k : Nat} (F : Fun K "first_bad_use" "first_bad_use" sBadUse f fd) (HT : Has P w K mg base k "is_tuple_of" ["thing", "least", "most"] (spTupOf K) fT dT) (HN : Has P w K mg base k "is_name" ["thing"] spName fN dN)
    (HF : Has P w K mg base k "is_face" ["thing"] (spGood K (.bl true)) fF dF) (me : mg "enumerate" = none) : FnOk P w K mg base CX0 (k + 1) f fd ["uses"] (spBadUse K) := by
  refine F.ok scBadUse (fun vs H Q E h => ?_) (fun cdv A outer s H vs Q E hr h => ?_)
  · obtain ⟨v, us, rfl, _⟩ := h
    rfl
  · obtain ⟨v, us, rfl, hv, u4, nd', un, q⟩ := h
    have nd := scBadUse.nd
    refine' ⟨_, pss_cons ?s1 (pss_cons ?s2 (pss_one ?s3)), ?rd⟩
    case s1 => exact ps_set (i := 1) nd rfl (.inl rfl) (pe_lst pa_nil)
    case s2 =>
      exact ps_for PassesOwn.never rfl (pi_enumT (by rfl) me (pa_cons (pv 0) pa_nil)) (pg_tup rfl (pgs_cons (pg_name (i := 2) nd rfl (.inl rfl)) (pgs_cons (pg_name (i := 3) nd rfl (.inl rfl)) pgs_nil)))
        (pss_cons (ps_if (PW.pt (pw_or (pt_not (pt_val (hcall HT hr (pa_cons (pv 3) (pa_cons pe_int (pa_cons pe_int pa_nil)))))) (pw_or (pt_not (pt_val (hcall HN hr (pa_cons (pe_ix ix_tup (pv 3) pe_int (fun _ _ => rfl)) pa_nil))))
          (pw_or (pt_cmpR op_in_seq (pe_ix ix_tup (pv 3) pe_int (fun _ _ => rfl)) (pv 1) rfl) (pw_or1 (pt_not (pt_val (hcall HF hr (pa_cons (pe_ix ix_tup (pv 3) pe_int (fun _ _ => rfl)) pa_nil)))))))))
          pss_never pss_nil)
        (pss_one (ps_expr (pe_bm PySem.F.plainAttrs_list PySem.F.slot_list_append PySem.F.type_list_append mt_append (pv 1) (pa_cons (pe_ix ix_tup (pv 3) pe_int (fun _ _ => rfl)) pa_nil)))))
    case s3 => exact ps_ret pe_non
    case rd =>
    obtain ⟨p, xs, rfl, hp, dxs⟩ := dp_tup hv
    refine ⟨Nat.zero_le _, fun al nal => ?_⟩
    have lx : xs.length = us.length := by
      have := dpA_len dxs
      rw [List.length_map] at this
      exact this
    refine ⟨_, rfl, p, _, rfl, (Gr.new nal).sqt hp, for_it (walk_enumT (xs := xs)) (fun j σ H4 => ∃ (y2 y3 : Option V), σ = [some (.ref p), some (.ref al), y2, y3] ∧ Gr H H4 ∧ H4 al = some (.lst ((us.take j).map fun u => V.str u.lb)))
      ⟨none, none, rfl, Gr.new nal, upd_same⟩ ?w1 ?w2 ?w3⟩
    case w1 =>
      rintro j σ H4 hj ⟨y2, y3, rfl, g4, e4⟩
      exact g4.sqt hp
    case w2 =>
      rintro j vv σ H4 H5 hj ⟨y2, y3, rfl, g4, e4⟩ ⟨T, a, b, rfl, nT, rfl, ha, hb⟩
      cases ha
      have hb2 : xs[j]? = some b := hb
      have hk : us[j]? = some us[j] := List.getElem?_eq_getElem (by omega)
      generalize us[j] = u at hk
      obtain ⟨b', hb3, db⟩ := dpA_get dxs (i := j) (d := u.d) (by rw [List.getElem?_map, hk]; rfl)
      rw [hb2] at hb3
      cases hb3
      obtain ⟨un1, un2⟩ := un u (List.mem_of_getElem? hk)
      have g6 : Gr H4 (upd H4 T (.tup [.int (j : Nat), b])) := Gr.new nT
      have e6 : upd H4 T (.tup [.int (j : Nat), b]) T = some (.tup [.int (j : Nat), b]) := upd_same
      generalize upd H4 T (.tup [.int (j : Nat), b]) = H6 at g6 e6 ⊢
      have db6 := (g4.trans g6).kd.dp db
      have e46 := g6.lst e4
      obtain ⟨q1, y0, y1, rfl, hq, dy0, dy1⟩ := dp_2 db6
      cases dp_str dy0
      refine ⟨T, _, rfl, .inl (.inl e6), rfl, _, _, rfl, _, [], rfl, rfl, ?_⟩
      refine ⟨_, rfl, .ref q1, u.d, 2, 2, rfl, Dp.dx db6, _, rfl, iteF ?_⟩
      refine ⟨_, rfl, q1, _, 0, _, rfl, rfl, hq, rfl, u.lb, rfl, un1, _, rfl, iteF ?_⟩
      refine ⟨_, rfl, q1, _, 0, _, rfl, rfl, hq, rfl, _, rfl, al, _, rfl, .inl (.inl (.inl e46)), rfl, ?_, _, rfl, ?_⟩
      · exact flat_strs' _
      have nin : inV (.str u.lb) ((us.take j).map fun u => V.str u.lb) = false := by
        rw [show (us.take j).map (fun u => V.str u.lb) = ((us.take j).map Us.lb).map V.str by rw [List.map_map]; rfl, inV_not]
        refine decide_eq_false fun m => ?_
        obtain ⟨u', hu', eu⟩ := List.mem_map.mp m
        obtain ⟨i', hi'⟩ := List.getElem?_of_mem hu'
        have lt' : i' < j := by
          have := lt_of_at hi'
          rw [List.length_take] at this
          omega
        rw [List.getElem?_take_of_lt lt'] at hi'
        have c1 : (us.map Us.lb)[i']? = some u.lb := by rw [List.getElem?_map, hi']; exact congrArg some eu
        have c2 : (us.map Us.lb)[j]? = some u.lb := by rw [List.getElem?_map, hk]; rfl
        obtain ⟨l1, q1⟩ := List.getElem?_eq_some_iff.mp c1
        obtain ⟨l2, q2⟩ := List.getElem?_eq_some_iff.mp c2
        exact List.pairwise_iff_getElem.mp nd' i' j l1 l2 lt' (q1.trans q2.symm)
      rw [nin]
      refine iteF ⟨_, rfl, q1, _, 1, _, rfl, rfl, hq, rfl, y1, u.fc, rfl, dy1, un2, fun H7 g7 => ?_⟩
      refine ⟨_, rfl, iteF ?_⟩
      have e7 := g7.lst e46
      refine ⟨_, rfl, .inl ⟨rfl, _, .inl (.inl e7)⟩, _, rfl, q1, _, 0, _, rfl, rfl, g7.sqt hq, rfl, al, _, _, rfl, rfl, e7, ?_, ?_⟩
      · rw [List.length_map, List.length_take]
        exact small1000 (by omega)
      · refine ⟨_, _, rfl, (g4.trans (g6.trans g7)).upd_new nal, ?_⟩
        rw [upd_same, List.take_add_one, hk, List.map_append]
        rfl
    case w3 =>
      rintro σ H4 ⟨y2, y3, rfl, g4, e4⟩
      exact q H4 g4
def spBadInp (K : PySem.W.Frag) : Sp := fun vs H Q _ => ∃ (p : Addr) (is : List Int), vs = [.ref p] ∧ SqT K H p (is.map V.int) ∧ (∀ j ∈ is, 2 ≤ j ∧ j ≤ 9) ∧ ∀ H', Gr H H' → Q .non H'
theorem ok_badInp {f fA : Addr} {fd dA : FuncData} {k : Nat} (F : Fun K "first_bad_input" "first_bad_input" sBadInp f fd) (HA : Has P w K mg base k "is_among" ["thing", "least", "most"] (spAmong K) fA dA) (me : mg "enumerate" = none) :
    FnOk P w K mg base CX0 (k + 1) f fd ["inputs"] (spBadInp K) := by
  refine F.ok scBadInp (fun vs H Q E h => ?_) (fun cdv A outer s H vs Q E hr h => ?_)
  · obtain ⟨p, is, rfl, _⟩ := h
    rfl
  · obtain ⟨p, is, rfl, hp, iN, q⟩ := h
    have nd := scBadInp.nd
    refine' ⟨_, pss_cons ?s1 (pss_one ?s2), ?rd⟩
    case s1 =>
      exact ps_for PassesOwn.never rfl (pi_enumT (by rfl) me (pa_cons (pv 0) pa_nil)) (pg_tup rfl (pgs_cons (pg_name (i := 1) nd rfl (.inl rfl)) (pgs_cons (pg_name (i := 2) nd rfl (.inl rfl)) pgs_nil)))
        (pss_one (ps_if (pt_not (pt_val (hcall HA hr (pa_cons (pv 2) (pa_cons pe_int (pa_cons pe_int pa_nil)))))) pss_never pss_nil))
    case s2 => exact ps_ret pe_non
    case rd =>
    refine ⟨_, rfl, p, _, rfl, hp, for_it (walk_enumT (xs := is.map V.int)) (fun j σ H4 => ∃ (y1 y2 : Option V), σ = [some (.ref p), y1, y2] ∧ Gr H H4) ⟨none, none, rfl, Gr.refl H⟩ ?w1 ?w2 ?w3⟩
    case w1 =>
      rintro j σ H4 hj ⟨y1, y2, rfl, g4⟩
      exact g4.sqt hp
    case w2 =>
      rintro j vv σ H4 H5 hj ⟨y1, y2, rfl, g4⟩ ⟨T, a, b, rfl, nT, rfl, ha, hb⟩
      cases ha
      have hb2 : (is.map V.int)[j]? = some b := hb
      rw [List.getElem?_map] at hb2
      obtain ⟨m, hm, rfl⟩ := Option.map_eq_some_iff.mp hb2
      obtain ⟨m2, m9⟩ := iN m (List.mem_of_getElem? hm)
      have g6 : Gr H4 (upd H4 T (.tup [.int (j : Nat), .int m])) := Gr.new nT
      refine ⟨T, _, rfl, .inl (.inl upd_same), rfl, _, _, rfl, _, [], rfl, rfl, ?_⟩
      refine ⟨_, rfl, .int m, .int m, 2, 9, rfl, .int m, ?_⟩
      rw [am_in m2 m9]
      exact ⟨_, rfl, iteF ⟨_, _, rfl, g4.trans g6⟩⟩
    case w3 =>
      rintro σ H4 ⟨y1, y2, rfl, g4⟩
      exact q H4 g4
end
end SfC
/-! a program is looked at -/
namespace SfC
open PySem PySem.Spec PyProof.Rows L2 SfG
section
variable {P : Program} {w : World} {K : PySem.W.Frag} {mg : Str → Option Value} {base : Heap}
def spParts (K : PySem.W.Frag) : Sp := fun vs H Q _ => ∃ (v : V) (p : Pg), vs = [v] ∧ PgV K H v p ∧ goP p ∧ (p.us.map Us.lb).Nodup ∧ ∀ H', Gr H H' → Q .non H'
theorem rof_ro (r : Ro) : rofD r.d = true := by
  cases r <;> rfl
theorem tup_is {ds : List PyData} {lo hi : Int} (h1 : lo ≤ (ds.length : Int)) (h2 : (ds.length : Int) ≤ hi) : tupD (.tuple ds) lo hi = true := by
  simp only [tupD]
  rw [decide_eq_true h1, decide_eq_true h2]
  rfl
set_option maxHeartbeats 1000000 in
theorem ok_parts {f fT fU fI : Addr} {fd dT dU dI : FuncData} {k : Nat} {t4 t3 t30 : Tok} (F : Fun K "need_parts" "need_parts" sParts f fd) (HT : Has P w K mg base k "is_tuple_of" ["thing", "least", "most"] (spTupOf K) fT dT) (HU : Has P w K mg base k "first_bad_use" ["uses"] (spBadUse K) fU dU)
    (HI : Has P w K mg base k "first_bad_input" ["inputs"] (spBadInp K) fI dI) (m4 : mg "MOST_USES" = some (.int 4 t4)) (m3 : mg "MOST_INPUTS" = some (.int 3 t3)) (m30 : mg "MOST_ROWS" = some (.int 30 t30)) : FnOk P w K mg base CX0 (k + 1) f fd ["program"] (spParts K) := by
  refine F.ok scParts (fun vs H Q E h => ?_) (fun cdv A outer s H vs Q E hr h => ?_)
  · obtain ⟨v, p, rfl, _⟩ := h
    rfl
  · obtain ⟨v, p, rfl, hv, go, nd', q⟩ := h
    have nd := scParts.nd
    refine' ⟨_, pss_cons ?s1 (pss_cons ?s2 (pss_cons ?s3 (pss_cons ?s4 (pss_cons ?s5 (pss_cons ?s6 (pss_cons ?s7 (pss_cons ?s8 (pss_one ?s9)))))))), ?rd⟩
    case s1 => exact ps_if (pt_not (pt_val (hcall HT hr (pa_cons (pv 0) (pa_cons pe_int (pa_cons pe_int pa_nil)))))) pss_never pss_nil
    case s2 => exact ps_asg (pv 0) (pg_tup rfl (pgs_cons (pg_name (i := 1) nd rfl (.inl rfl)) (pgs_cons (pg_name (i := 2) nd rfl (.inl rfl)) (pgs_cons (pg_name (i := 3) nd rfl (.inl rfl)) pgs_nil))))
    case s3 => exact ps_if (pt_not (pt_val (hcall HT hr (pa_cons (pv 1) (pa_cons pe_int (pa_cons (pe_glob (v := .int 4) rfl m4 ⟨_, rfl⟩) pa_nil)))))) pss_never pss_nil
    case s4 => exact ps_if (pt_not (pt_val (hcall HT hr (pa_cons (pv 2) (pa_cons pe_int (pa_cons (pe_glob (v := .int 3) rfl m3 ⟨_, rfl⟩) pa_nil)))))) pss_never pss_nil
    case s5 => exact ps_if (pt_not (pt_val (hcall HT hr (pa_cons (pv 3) (pa_cons pe_int (pa_cons (pe_glob (v := .int 30) rfl m30 ⟨_, rfl⟩) pa_nil)))))) pss_never pss_nil
    case s6 => exact ps_set (i := 4) nd rfl (.inl rfl) (hcall HU hr (pa_cons (pv 1) pa_nil))
    case s7 => exact ps_if (pt_cmpR op_notN (pv 4) pe_non (nomark _)) pss_never pss_nil
    case s8 => exact ps_set (i := 4) nd rfl (.inl rfl) (hcall HI hr (pa_cons (pv 2) pa_nil))
    case s9 => exact ps_if (pt_cmpR op_notN (pv 4) pe_non (nomark _)) pss_never pss_nil
    case rd =>
    have dv := hv.dp
    obtain ⟨q0, qu, qi, qr, ps, rs, rfl, h1, h2, h3, h4, h5, h6⟩ := hv
    have du : Dp K H (.ref qu) (.tuple (p.us.map Us.d)) := .tup h2.sqt h3
    have di : Dp K H (.ref qi) (.tuple (p.is.map .int)) := .tup h4 (dpA_ints _)
    have dr : Dp K H (.ref qr) (.tuple (p.rs.map Ro.d)) := .tup h5 h6
    refine ⟨_, rfl, .ref q0, p.d, 3, 3, rfl, Dp.dx dv, ?_⟩
    rw [show tupD p.d 3 3 = true from rfl]
    refine ⟨_, rfl, iteF ?_⟩
    refine ⟨_, rfl, q0, _, rfl, h1, rfl, _, _, rfl, _, _, rfl, _, [], rfl, rfl, ?_⟩
    refine ⟨_, rfl, .ref qu, _, 1, 4, rfl, Dp.dx du, ?_⟩
    rw [tup_is (by rw [List.length_map]; have := go.u1; omega) (by rw [List.length_map]; have := go.u4; omega)]
    refine ⟨_, rfl, iteF ?_⟩
    refine ⟨_, rfl, .ref qi, _, 0, 3, rfl, Dp.dx di, ?_⟩
    rw [tup_is (by omega) (by rw [List.length_map]; have := go.i3; omega)]
    refine ⟨_, rfl, iteF ?_⟩
    refine ⟨_, rfl, .ref qr, _, 0, 30, rfl, Dp.dx dr, ?_⟩
    rw [tup_is (by omega) (by rw [List.length_map]; have := go.r30; omega)]
    refine ⟨_, rfl, iteF ?_⟩
    refine ⟨_, rfl, .ref qu, p.us, rfl, du, go.u4, nd', go.uN, fun H1 g1 => ?_⟩
    refine ⟨_, rfl, rfl, _, rfl, iteF ?_⟩
    refine ⟨_, rfl, qi, p.is, rfl, g1.sqt h4, go.iN, fun H2 g2 => ?_⟩
    exact ⟨_, rfl, rfl, _, rfl, iteF (q H2 (g1.trans g2))⟩
def spKBN (K : PySem.W.Frag) : Sp := fun vs H Q _ => ∃ (v : V) (p : Pg), vs = [v] ∧ PgV K H v p ∧ goK' p ∧ ∀ H' u, Gr H H' → Q u H'
set_option maxHeartbeats 1000000 in
theorem ok_kBN {f fP fR fI fL C : Addr} {fd dP dR dI dL : FuncData} {k k0 : Nat} (F : Fun K "kinds_by_name" "kinds_by_name" sKindsBN f fd) (HP : Has P w K mg base k "need_parts" ["program"] (spParts K) fP dP) (HR : Has P w K mg base k "is_row_of_things" ["thing"] (spRowOf K) fR dR)
    (R : LkC K mg C) (M : Mk K C fI) (GI : FnOk P w K mg base CX0 k fI dI ["self", "uses", "inputs"] (spLkI C K)) (bI : Binds K dI ["self", "uses", "inputs"] []) (HL : HasM P w K mg base C k "place_in" ["self", "row"] (spPIn C K fun _ => True) fL dL) (me : mg "enumerate" = none) :
    FnOk P w K mg base CX0 (k + 2) f fd ["program"] (spKBN K) := by
  refine F.ok scKBN (fun vs H Q E h => ?_) (fun cdv A outer s H vs Q E hr h => ?_)
  · obtain ⟨v, p, rfl, _⟩ := h
    rfl
  · obtain ⟨v, p, rfl, hv, go, q⟩ := h
    have nd := scKBN.nd
    refine' ⟨_, pss_cons ?s1 (pss_cons ?s2 (pss_cons ?s3 (pss_cons ?s4 (pss_one ?s5)))), ?rd⟩
    case s1 => exact ps_expr (hcall HP (hr.mono (by omega)) (pa_cons (pv 0) pa_nil))
    case s2 => exact ps_asg (pv 0) (pg_tup rfl (pgs_cons (pg_name (i := 1) nd rfl (.inl rfl)) (pgs_cons (pg_name (i := 2) nd rfl (.inl rfl)) (pgs_cons (pg_name (i := 3) nd rfl (.inl rfl)) pgs_nil))))
    case s3 => exact ps_set (i := 4) nd rfl (.inl rfl) (pe_make M GI hr (by rfl) R.g bI .nil pass0 (pa_cons (pv 1) (pa_cons (pv 2) pa_nil)))
    case s4 =>
      exact ps_for PassesOwn.never rfl (pi_enumT (by rfl) me (pa_cons (pv 3) pa_nil)) (pg_tup rfl (pgs_cons (pg_name (i := 5) nd rfl (.inl rfl)) (pgs_cons (pg_name (i := 6) nd rfl (.inl rfl)) pgs_nil)))
        (pss_cons (ps_if (pt_not (pt_val (hcall HR (hr.mono (by omega)) (pa_cons (pv 6) pa_nil)))) pss_never pss_nil)
        (pss_cons (ps_set (i := 7) nd rfl (.inl rfl) (pe_meth (pv 4) R.cl HL.me HL.ok (hr.mono (by omega)) HL.bd .nil pass0 (pa_cons (pv 6) pa_nil)))
        (pss_one (ps_if (pt_cmpR op_notN (pv 7) pe_non (nomark _)) pss_never pss_nil))))
    case s5 => exact ps_ret (pe_fld (pv 4) rfl)
    case rd =>
    obtain ⟨es, es0, esl, run⟩ := go.run
    refine ⟨_, rfl, v, p, rfl, hv, go.f, go.nd, fun H1 g1 => ?_⟩
    obtain ⟨q0, qu, qi, qr, ps, rs, rfl, h1, h2, h3, h4, h5, h6⟩ := hv.gr g1
    refine ⟨_, rfl, q0, _, rfl, h1, rfl, _, _, rfl, _, _, rfl, _, [], rfl, rfl, ?_⟩
    refine ⟨_, rfl, _, rfl, ?_⟩
    intro x dx nx ndx nex
    have k2 : Gr H1 (upd (upd H1 dx (.own x)) x (.ins C dx [])) := by
      refine (Gr.new ndx).trans (Gr.new ?_)
      rw [upd_ne (Ne.symm nex)]
      exact nx
    have e2 : upd (upd H1 dx (.own x)) x (.ins C dx []) x = some (.ins C dx []) := upd_same
    generalize upd (upd H1 dx (.own x)) x (.ins C dx []) = H2 at k2 e2 ⊢
    refine ⟨x, dx, qu, qi, ps, p.us, p.is, rfl, e2, h2.gr k2, k2.kd.dpA h3, go.nd, go.f.u4, k2.sqt h4, fun H3 kd g3 nkd hL => ⟨rfl, ?_⟩⟩
    have g13 : Gr H1 H3 := Gp.out k2 nx g3
    have nkd1 : H1 kd = none := k2.back kd nkd
    have lr : rs.length = p.rs.length := by
      have := dpA_len h6
      rw [List.length_map] at this
      exact this
    have r30 := go.f.r30
    refine ⟨_, rfl, qr, _, rfl, g13.sqt h5, for_it (walk_enumT (xs := rs)) (fun j σ H4 => ∃ (y5 y6 y7 : Option V), σ = [some (.ref q0), some (.ref qu), some (.ref qi), some (.ref qr), some (.ref x), y5, y6, y7] ∧ Gr H1 H4 ∧ LkAt C K H4 x kd p.us p.is (es j))
      ⟨none, none, none, rfl, g13, by rw [es0]; exact hL⟩ ?w1 ?w2 ?w3⟩
    case w1 =>
      rintro j σ H4 hj ⟨y5, y6, y7, rfl, g4, L4⟩
      exact g4.sqt h5
    case w2 =>
      rintro j vv σ H4 H5 hj ⟨y5, y6, y7, rfl, g4, L4⟩ ⟨T, a, b, rfl, nT, rfl, ha, hb⟩
      cases ha
      have hb2 : rs[j]? = some b := hb
      have hk : p.rs[j]? = some p.rs[j] := List.getElem?_eq_getElem (by omega)
      generalize p.rs[j] = r at hk
      obtain ⟨b', hb3, db⟩ := dpA_get h6 (i := j) (d := r.d) (by rw [List.getElem?_map, hk]; rfl)
      rw [hb2] at hb3
      cases hb3
      have gr := go.f.rN r (List.mem_of_getElem? hk)
      have g6 : Gr H4 (upd H4 T (.tup [.int (j : Nat), b])) := Gr.new nT
      have e6 : upd H4 T (.tup [.int (j : Nat), b]) T = some (.tup [.int (j : Nat), b]) := upd_same
      generalize upd H4 T (.tup [.int (j : Nat), b]) = H6 at g6 e6 ⊢
      have db6 := (g4.trans g6).kd.dp db
      have L6 := L4.gr g6
      refine ⟨T, _, rfl, .inl (.inl e6), rfl, _, _, rfl, _, [], rfl, rfl, ?_⟩
      refine ⟨_, rfl, b, r.d, rfl, Dp.dx db6, ?_⟩
      rw [rof_ro r]
      refine ⟨_, rfl, iteF ?_⟩
      obtain ⟨dx6, fa, it, fk, kvs, z1, _⟩ := id L6
      refine ⟨_, rfl, x, dx6, _, rfl, z1, lf_no _ _ _ (by decide +kernel) (by decide +kernel) (by decide +kernel), _, rfl, x, kd, p.us, p.is, es j, es (j + 1), r, b, rfl, trivial, L6, go.f.i3, ?_, db6, gr, go.f.uN, run j r hk, fun H7 g7 L7 => ?_⟩
      · have := esl j
        omega
      exact ⟨_, rfl, rfl, _, rfl, iteF ⟨_, _, _, rfl, Gp.out (g4.trans g6) nkd1 g7, L7⟩⟩
    case w3 =>
      rintro σ H4 ⟨y5, y6, y7, rfl, g4, L4⟩
      obtain ⟨dx6, fa, it, fk, kvs, z1, _⟩ := id L4
      exact ⟨_, rfl, x, C, dx6, _, _, rfl, z1, R.cl, R.nK, lf_kinds _ _ _, q H4 _ (g1.trans g4)⟩
def spNeedP (K : PySem.W.Frag) : Sp := fun vs H Q _ => ∃ (v : V) (p : Pg), vs = [v] ∧ PgV K H v p ∧ goK' p ∧ ∀ H', Gr H H' → Q .non H'
theorem ok_needP {f fK : Addr} {fd dK : FuncData} {k : Nat} (F : Fun K "need_program" "need_program" sNeedP f fd) (HK : Has P w K mg base k "kinds_by_name" ["program"] (spKBN K) fK dK) : FnOk P w K mg base CX0 (k + 1) f fd ["program"] (spNeedP K) := by
  refine F.ok scNeedP (fun vs H Q E h => ?_) (fun cdv A outer s H vs Q E hr h => ?_)
  · obtain ⟨v, p, rfl, _⟩ := h
    rfl
  · obtain ⟨v, p, rfl, hv, go, q⟩ := h
    refine ⟨_, pss_one (ps_expr (hcall HK hr (pa_cons (pv 0) pa_nil))), ?_⟩
    exact ⟨_, rfl, v, p, rfl, hv, go, fun H1 u g1 => q H1 g1⟩
end
end SfC
/-! a, *b = t, t a tuple of one or more -/
namespace SfG
open PySem PySem.Spec PyProof.Rows L2 PySem.W PySem.Calls
section
variable {prog : Program} {w : World} {A : Around} {E : Value → Shared → Prop} {s : Shared}
theorem star1 {l : Addr} {u : Value} {us : List Value} {Q : List Value → Shared → Prop} (hl : IsTup s.heap l (u :: us).toArray) (hh : A.handled = none) (hz : (u :: us).length ≤ sizeLine)
    (h : ∀ (h' : Heap) (tk : Nat), (∀ b o, s.heap.get? b = some o → h'.get? b = some o) → Q [u, .ref h'.objs.size] { s with heap := h'.push { cls := .type "list", data := .seq us.toArray }, toks := tk }) :
    wpAny (model prog w) A (unpackItems (.ref l) 2 (some 1)) Q E s := by
  have hlt : l ≠ s.heap.objs.size := by obtain ⟨o, ho, _⟩ := hl; exact Nat.ne_of_lt (Heap.lt_size ho)
  unfold unpackItems
  refine wpAny_bind ?_
  unfold notIterableAtAll
  refine wpAny_bind (wpAny_specialOf hl.typeIs slot_tuple_iter.lookup ?_)
  refine wpAny_pure ?_
  simp only [Bool.false_eq_true, if_false]
  refine wpAny_bind (wpAny_holding (iter_tuple hl ?_))
  refine wpAny_bind (wpAny_holding (draw_tuple hlt 1 0 _ _ ⟨_, Heap.get?_push_size _ rfl, rfl, rfl⟩ (hl.push _) (by simp) fun h₁ hit₁ hs₁ => ?_))
  have hl₁ : IsTup h₁ l (u :: us).toArray := (hl.push _).extBut hs₁.extBut hlt
  rw [Nat.zero_add] at hit₁
  have hit₁' := hit₁
  obtain ⟨oi, hoi, _⟩ := hit₁'
  have hl₁' := hl₁
  obtain ⟨ol, hol, _⟩ := hl₁'
  rw [List.drop_zero]
  have e1 : (u :: us).toArray.toList.take 1 = [u] := by simp
  have e2 : (u :: us).toArray.toList.drop 1 = us := by simp
  rw [e1]
  rw [if_neg (show ¬ (([u] : List Value).length < 1) by simp)]
  refine wpAny_bind (wpAny_holding (kun_collect (s := { s with heap := h₁ }) (T := "tuple_iterator") (.inr (.inr (.inr rfl))) (Walks.tuple (A := A.in1) hh s.heap.objs.size l hlt (u :: us).toArray) (fun j v st => st.1.typeIs) (k := 1) (by simp) ⟨hit₁, hl₁⟩ (Heap.lt_size hoi) (Heap.lt_size hol) (fun h₂ tk hk => ?_) (by simpa using hz)))
  rw [e2]
  show wpAny _ _ (if us.length < 2 - 1 - 1 then _ else _) _ _ _
  rw [if_neg (by omega)]
  show wpAny _ _ (newList (us.take (us.length - (2 - 1 - 1))) >>= fun d => pure ([u] ++ [d] ++ us.drop (us.length - (2 - 1 - 1)))) _ _ _
  rw [show us.length - (2 - 1 - 1) = us.length by omega, List.take_length, List.drop_length]
  have keep : ∀ b o, s.heap.get? b = some o → h₂.get? b = some o := fun b o e => hk b o (Nat.ne_of_lt (Heap.lt_size e)) (hs₁.extBut b o (Nat.ne_of_lt (Heap.lt_size e)) (Heap.get?_push_of_some _ e))
  refine wpAny_bind (wpAny_newList ?_ (by rw [List.length_cons] at hz; omega))
  exact wpAny_pure (h h₂ tk keep)
end
section
variable {X : Cx}
/-- (a, *b) = a tuple of one or more: b is a new list of what is left -/
def gStar1 (K : PySem.W.Frag) (t : TGs) : TG := fun v σ H Q => ∃ a x xs, v = .ref a ∧ SqT K H a (x :: xs) ∧ ∀ l, H l = none → t [x, .ref l] σ (upd H l (.lst xs)) Q
theorem pg_star1 {ea eb : Expr} {k : Nat} {t : TGs} {p pos : Pos} (hc : X.calm = true) (h : PGs X [ea, eb] t)
    (hm : (assignEach [ea, .Starred eb p] X.env).map (·.2) = (assignEach [ea, eb] X.env).map (·.2) := by rfl)
    (hn : (assignEach [ea, .Starred eb p] X.env).length = 2 := by rfl) (hst : (assignEach [ea, .Starred eb p] X.env).findIdx? (·.1) = some 1 := by rfl) : PG X (.Tuple [ea, .Starred eb p] k pos) (gStar1 X.K t) := by
  refine ⟨fun pins s σ H v u Q I r hw => ?_⟩
  obtain ⟨a, x, xs, rfl, hq, hw⟩ := hw
  cases r
  obtain ⟨its, rv, ht, hz⟩ := I.tuple hq
  cases rv with
  | @cons _ u _ us r0 rs =>
    rw [assign_Tuple]
    refine wpAny_bind (wpAny_standAt ?_)
    unfold unpack
    rw [hn, hst, hm]
    have lu := rs.length
    refine wpAny_bind (wpAny_holding (star1 ht (I.ok.hd hc) (by rw [List.length_cons] at hz ⊢; omega) fun h' tk keep => ?_))
    have I1 : L2.Inv X pins σ H { s with heap := h', toks := tk } := I.kept (t' := tk) keep
    have I2 : L2.Inv X pins σ (upd H h'.objs.size (.lst xs)) { s with heap := h'.push { cls := .type "list", data := .seq us.toArray }, toks := tk } :=
      I1.laid (t' := tk) (fun b o e => Heap.get?_push_of_some _ e) (Nat.le_refl _) (show ObjOk X.prog X.w _ _ _ (.lst xs) from ⟨by rw [List.length_cons] at hz; omega, us, 0, rs, Heap.get?_push_size _ rfl⟩)
    exact h.run pins _ σ _ _ _ Q I2 (.cons r0 (.cons (show RelV (.ref h'.objs.size) (.ref h'.objs.size) from rfl) .nil)) (hw _ (I1.hok.fresh (Nat.le_refl _)))
end
end SfG
namespace SfG
open PySem PySem.Spec PyProof.Rows L2
section
variable {X : Cx} {tg : Expr}
/-- a list or a tuple is walked -/
def iLT (K : PySem.W.Frag) (tl : TE) : TI := fun σ H R => tl σ H fun x H1 => ∃ a, x = .ref a ∧ (((∃ xs, SqL K H1 a xs) ∧ R (Itl K a) H1) ∨ ((∃ xs, SqT K H1 a xs) ∧ R (Itt K a) H1))
theorem pi_lt {l : Expr} {tl : TE} (hl : PE X l tl) : PI X tg l (iLT X.K tl) := by
  refine ⟨fun pins s σ H R I h => ?_⟩
  refine thn (hl.run pins s σ H _ I h) fun v s1 ⟨x, H1, I1, r1, q1⟩ => ?_
  obtain ⟨a, e, q⟩ := q1
  subst e
  cases r1
  rcases q with ⟨⟨xs, hq⟩, q⟩ | ⟨⟨xs, hq⟩, q⟩
  · obtain ⟨its, rv, p, hz⟩ := I1.list hq
    refine wpAny_pyIter_list p.isList ?_
    refine ⟨s1.heap.objs.size, [s1.heap.objs.size], _, _, H1, rfl, I1.kept (t' := s1.toks) fun b o e => Heap.get?_push_of_some _ e, turn_list a _, ⟨_, Heap.get?_push_size _ rfl, rfl, rfl⟩, fun b hb => ?_, q⟩
    have e : b = s1.heap.objs.size := by simpa using hb
    subst e
    exact I1.fpOk (Nat.le_refl _) (I1.hok.fresh (Nat.le_refl _))
  · obtain ⟨its, rv, p, hz⟩ := I1.tuple hq
    refine wpAny_pyIter_tuple (show s1.heap.IsTuple a its.toArray from p) ?_
    refine ⟨s1.heap.objs.size, [s1.heap.objs.size], _, _, H1, rfl, I1.kept (t' := s1.toks) fun b o e => Heap.get?_push_of_some _ e, turn_tuple a _, ⟨_, Heap.get?_push_size _ rfl, rfl, rfl⟩, fun b hb => ?_, q⟩
    have e : b = s1.heap.objs.size := by simpa using hb
    subst e
    exact I1.fpOk (Nat.le_refl _) (I1.hok.fresh (Nat.le_refl _))
end
end SfG
/-! texts of programs -/
namespace SfC
open PySem PySem.Spec PyProof.Rows L2 SfG
theorem scArgT : FnScope ["arg", "word", "told"] ["arg"] (defScope sArgText) := ⟨rfl, rfl, rfl, by decide +kernel, rfl, by decide +kernel, by decide +kernel⟩
abbrev nRowT : List Str := ["row", "word", "things", "names", "args", "arg"]
theorem scRowT : FnScope nRowT ["row"] (defScope sRowText) := ⟨rfl, rfl, rfl, by decide +kernel, rfl, by decide +kernel, by decide +kernel⟩
theorem str_dol : ∀ n : Nat, n < 3 → (Str.empty ++ ("$" : Str)) ++ ((toString (n : Int) : String) : Str) = dol n := by decide +kernel
theorem str_fig : ∀ n : Nat, n < 10 → ((toString (n : Int) : String) : Str) = fig n := by decide +kernel
theorem log_9 : ∀ n : Nat, n < 10 → n.log2 < 1920 := by decide +kernel
section
variable {P : Program} {w : World} {K : PySem.W.Frag} {mg : Str → Option Value} {base : Heap}
def spArgT (K : PySem.W.Frag) : Sp := fun vs H Q _ => ∃ (v : V) (a : Ag), vs = [v] ∧ Dp K H v a.d ∧ goA a ∧ Q (.str (wA a)) H
theorem ok_argT {f : Addr} {fd : FuncData} {k : Nat} (F : Fun K "arg_text" "arg_text" sArgText f fd) (m1 : mg "str" = none) : FnOk P w K mg base CX0 (k + 1) f fd ["arg"] (spArgT K) := by
  refine F.ok scArgT (fun vs H Q E h => ?_) (fun cdv A outer s H vs Q E hr h => ?_)
  · obtain ⟨v, a, rfl, _⟩ := h
    rfl
  · obtain ⟨v, a, rfl, hv, ga, q⟩ := h
    have nd := scArgT.nd
    refine ⟨_, pss_cons (ps_asg (pv 0) (pg_tup rfl (pgs_cons (pg_name (i := 1) nd rfl (.inl rfl)) (pgs_cons (pg_name (i := 2) nd rfl (.inl rfl)) pgs_nil))))
      (pss_one (ps_ret (pe_ifExp (pt_cmpR op_eq (pv 1) pe_str (nomark _)) (pe_joined (.cons pe_str (.cons (pe_fmt (pv 2)) .nil))) (pe_callTy call_strX (by rfl) m1 (by decide +kernel) (pa_cons (pv 2) pa_nil))))), ?_⟩
    cases a with
    | n z =>
      obtain ⟨p, a, b, rfl, hp, ha, hb⟩ := dp_2 hv
      cases dp_str ha
      cases dp_str hb
      refine ⟨_, rfl, p, _, rfl, hp, rfl, _, _, rfl, _, [], rfl, rfl, ?_⟩
      refine ⟨_, rfl, rfl, _, rfl, ?_⟩
      rw [decide_eq_false (by decide +kernel)]
      exact iteF ⟨_, rfl, .inl ⟨_, rfl, q⟩⟩
    | u j =>
      obtain ⟨p, a, b, rfl, hp, ha, hb⟩ := dp_2 hv
      cases dp_str ha
      cases dp_int hb
      obtain ⟨h0, h8⟩ := ga
      obtain ⟨n, rfl⟩ : ∃ n : Nat, j = (n : Int) := ⟨j.toNat, by omega⟩
      refine ⟨_, rfl, p, _, rfl, hp, rfl, _, _, rfl, _, [], rfl, rfl, ?_⟩
      refine ⟨_, rfl, rfl, _, rfl, ?_⟩
      rw [decide_eq_false (by decide +kernel)]
      refine iteF ⟨_, rfl, .inr ⟨_, rfl, log_9 n (by omega), ?_⟩⟩
      rw [str_fig n (by omega)]
      exact q
    | i j =>
      obtain ⟨p, a, b, rfl, hp, ha, hb⟩ := dp_2 hv
      cases dp_str ha
      cases dp_int hb
      obtain ⟨h0, h8⟩ := ga
      obtain ⟨n, rfl⟩ : ∃ n : Nat, j = (n : Int) := ⟨j.toNat, by omega⟩
      refine ⟨_, rfl, p, _, rfl, hp, rfl, _, _, rfl, _, [], rfl, rfl, ?_⟩
      refine ⟨_, rfl, rfl, _, rfl, ?_⟩
      rw [decide_eq_true rfl]
      refine iteT ⟨_, rfl, by decide +kernel, ?_⟩
      refine ⟨_, rfl, .inr ⟨_, rfl, log_9 n (by omega), _, rfl, ?_, ?_⟩⟩
      · rw [str_dol n (by omega)]
        exact Nat.le_trans (dol_txt n (by omega)).2.2.2 (by decide)
      · rw [str_dol n (by omega)]
        exact q
def spRowT (K : PySem.W.Frag) : Sp := fun vs H Q _ => ∃ (v : V) (r : Ro), vs = [v] ∧ Dp K H v r.d ∧ goR r ∧ ∀ H', Gr H H' → Q (.str (rowR r)) H'
set_option maxHeartbeats 1000000 in
theorem ok_rowT {f fA : Addr} {fd dA : FuncData} {k : Nat} (F : Fun K "row_text" "row_text" sRowText f fd) (HA : Has P w K mg base k "arg_text" ["arg"] (spArgT K) fA dA) : FnOk P w K mg base CX0 (k + 1) f fd ["row"] (spRowT K) := by
  refine F.ok scRowT (fun vs H Q E h => ?_) (fun cdv A outer s H vs Q E hr h => ?_)
  · obtain ⟨v, r, rfl, _⟩ := h
    rfl
  · obtain ⟨v, r, rfl, hv, gr, q⟩ := h
    have nd := scRowT.nd
    refine' ⟨_, pss_cons ?s1 (pss_cons ?s2 (pss_cons ?s3 (pss_one ?s4))), ?rd⟩
    case s1 => exact ps_asg (pv 0) (pg_star1 rfl (pgs_cons (pg_name (i := 1) nd rfl (.inl rfl)) (pgs_cons (pg_name (i := 2) nd rfl (.inl rfl)) pgs_nil)))
    case s2 => exact ps_if (pt_cmpR op_eq (pv 1) pe_str (nomark _)) (pss_one (ps_ret (pe_joined (.cons pe_str (.cons (pe_fmt (hcall HA hr (pa_cons (pe_ix ix_list (pv 2) pe_int (fun _ _ => rfl)) pa_nil))) .nil))))) pss_nil
    case s3 =>
      exact ps_if (pt_cmpR op_eq (pv 1) pe_str (nomark _)) (pss_cons (ps_set (i := 3) nd rfl (.inl rfl) (pe_slice sl_list (pv 2) po_none (po_some pe_int))) (pss_one (ps_set (i := 4) nd rfl (.inl rfl) (pe_slice sl_list (pv 2) (po_some pe_int) po_none))))
        (pss_cons (ps_set (i := 3) nd rfl (.inl rfl) (pe_slice sl_list (pv 2) po_none (po_some pe_int))) (pss_one (ps_set (i := 4) nd rfl (.inl rfl) (pe_ix ix_list (pv 2) pe_int (fun _ _ => rfl)))))
    case s4 =>
      exact ps_ret (pe_join pe_str (pe_op op_cat (pe_lst (pa_cons (pv 1) (StX.pa_star (pv 3) pa_nil))) (pe_lc (own := [("arg", 5)]) (g := gName 5) rfl nd (pi_lt (pv 4))
        (blkOk_by (own := [("arg", 5)]) (N := nRowT) (sc := defScope sRowText) (by decide +kernel)) (fun _ _ _ _ _ => pg_name (i := 5) nd rfl (.inl rfl)) (fun _ _ _ _ _ => pts_nil) (fun _ _ _ _ _ => hcall HA hr (pa_cons (pv 5) pa_nil)))))
    case rd =>
    cases r with
    | s a =>
      obtain ⟨p, v0, va, rfl, hp, d0, da⟩ := dp_2 hv
      cases dp_str d0
      refine ⟨_, rfl, p, _, _, rfl, hp, fun l nl => ⟨_, _, rfl, _, [], rfl, rfl, ?_⟩⟩
      have k1 : Gr H (upd H l (.lst [va])) := Gr.new nl
      have e1 : upd H l (.lst [va]) l = some (.lst [va]) := upd_same
      generalize upd H l (.lst [va]) = H1 at k1 e1 ⊢
      refine ⟨_, rfl, rfl, _, rfl, ?_⟩
      rw [decide_eq_true rfl]
      have e2 : (Str.empty ++ ("say " : Str)) = ("say" : Str) ++ blank := by decide +kernel
      have e3 : (("say" : Str) ++ blank) ++ wA a = rowR (.s a) := by
        show _ = Txt.join blank ([("say" : Str)] ++ [wA a])
        rw [join_snoc _ _ (by simp), join_one]
      refine iteT ⟨_, rfl, by decide +kernel, ?_⟩
      have ca := clean_arg gr
      refine ⟨_, rfl, l, _, 0, _, rfl, rfl, .inl (.inl e1), rfl, va, a, rfl, k1.kd.dp da, gr, .inl ⟨wA a, rfl, Nat.le_trans ca.2.1 (by decide), wA a, rfl, ?_, ?_⟩⟩
      · rw [e2, e3]
        exact Nat.le_trans (row_len (clean_wsR (r := .s a) gr)) (by show 2 * 9 ≤ sizeLine; decide)
      · show Q (.str ((Str.empty ++ ("say " : Str)) ++ wA a)) H1
        rw [e2, e3]
        exact q H1 k1
    | p nm a b c =>
      obtain ⟨p, xs, rfl, hp, dxs⟩ := dp_tup hv
      obtain ⟨v0, xs, rfl, d0, dxs⟩ := dpA_cons dxs
      obtain ⟨v1, vsN, rfl, d1, dxs3⟩ := dpA_cons dxs
      cases dp_str d0
      cases dp_str d1
      refine ⟨_, rfl, p, _, _, rfl, hp, fun l nl => ⟨_, _, rfl, _, [], rfl, rfl, ?_⟩⟩
      have k1 : Gr H (upd H l (.lst (.str nm :: vsN))) := Gr.new nl
      have e1 : upd H l (.lst (.str nm :: vsN)) l = some (.lst (.str nm :: vsN)) := upd_same
      generalize upd H l (.lst (.str nm :: vsN)) = H1 at k1 e1 ⊢
      refine ⟨_, rfl, rfl, _, rfl, ?_⟩
      rw [decide_eq_false (by decide +kernel)]
      refine iteF ⟨_, rfl, rfl, _, rfl, ?_⟩
      rw [decide_eq_true rfl]
      refine iteT ⟨_, rfl, 1, rfl, l, _, rfl, .inl (.inl e1), fun l3 n3 => ?_⟩
      rw [show cutV (V.str nm :: vsN) none (some 1) = [V.str nm] from (cutV_til (V.str nm :: vsN) (n := 1) (by simp)).trans (by simp)]
      have k2 : Gr H1 (upd H1 l3 (.lst [.str nm])) := Gr.new n3
      have e2 : upd H1 l3 (.lst [.str nm]) l3 = some (.lst [.str nm]) := upd_same
      generalize upd H1 l3 (.lst [.str nm]) = H2 at k2 e2 ⊢
      refine ⟨_, rfl, 1, rfl, l, _, rfl, .inl (.inl (k2.lst e1)), fun l4 n4 => ?_⟩
      rw [cut_one]
      have k3 : Gr H2 (upd H2 l4 (.lst vsN)) := Gr.new n4
      have e4 : upd H2 l4 (.lst vsN) l4 = some (.lst vsN) := upd_same
      generalize upd H2 l4 (.lst vsN) = H4 at k3 e4 ⊢
      have e3 := k3.lst e2
      have k04 := k1.trans (k2.trans k3)
      have dv4 : DpAll K H4 vsN ([a, b, c].map Ag.d) := k04.kd.dpA dxs3
      have gaN : ∀ x ∈ [a, b, c], goA x := by
        intro x hx
        have hx' : x = a ∨ x = b ∨ x = c := by simpa using hx
        obtain ⟨_, g1, g2, g3⟩ := gr
        rcases hx' with rfl | rfl | rfl <;> assumption
      have a3 : [a, b, c].length ≤ 3 := Nat.le_refl 3
      -- the words
      have szs : ([nm].length : Nat) ≤ 10 := by show 1 ≤ 10; decide
      refine ⟨⟨_, rfl⟩, _, rfl, _, rfl, l3, _, rfl, .inr (.inl (.inl e3)), by rw [List.append_nil]; show 1 + 1 ≤ sizeLine; decide, fun D1 nD1 => ?_⟩
      rw [List.append_nil]
      have kN : Gr H4 (upd H4 D1 (.lst [V.str ("pick" : Str), V.str nm])) := Gr.new nD1
      have eN : upd H4 D1 (.lst [V.str ("pick" : Str), V.str nm]) D1 = some (.lst [V.str ("pick" : Str), V.str nm]) := upd_same
      generalize upd H4 D1 (.lst [V.str ("pick" : Str), V.str nm]) = H5 at kN eN ⊢
      refine ⟨_, rfl, l4, rfl, .inl ⟨⟨_, .inl (.inl (kN.lst e4))⟩, fun D nD => ?_⟩⟩
      have gD : ∀ ys, Gr H5 (upd H5 D (.lst ys)) := fun ys => Gr.new nD
      have dv5 := kN.kd.dpA dv4
      have lv : vsN.length = [a, b, c].length := by
        have := dpA_len dv5
        rw [List.length_map] at this
        exact this
      refine lc_it (walk_list (xs := vsN)) (fun i H2 => H2 = upd H5 D (.lst ((([a, b, c].take i).map wA).map V.str))) rfl ?c0 ?c1 ?c2
      case c0 =>
        rintro i H2 hi rfl
        exact .inl (.inl ((gD _).lst (kN.lst e4)))
      case c1 =>
        rintro i y H2 H2' hi rfl ⟨rfl, hy⟩
        have hk : [a, b, c][i]? = some [a, b, c][i] := List.getElem?_eq_getElem (by omega)
        generalize [a, b, c][i] = a at hk
        obtain ⟨y', hy', dy⟩ := dpA_get dv5 (i := i) (d := a.d) (by rw [List.getElem?_map, hk]; rfl)
        have hy2 : vsN[i]? = some y := hy
        rw [hy2] at hy'
        cases hy'
        refine ⟨rfl, ?_⟩
        unfold tYes
        refine iteT ⟨_, rfl, y, a, rfl, (gD _).kd.dp dy, gaN a (List.mem_of_getElem? hk), _, upd_same, ?_, ?_⟩
        · rw [List.length_map, List.length_map, List.length_take]
          exact small1000 (by omega)
        · rw [upd_upd, List.take_add_one, hk, List.map_append, List.map_append]
          rfl
      case c2 =>
        rintro H2 rfl
        rw [show vsN.length = [a, b, c].length from lv, List.take_length]
        have ws : [V.str ("pick" : Str), V.str nm] ++ ([a, b, c].map wA).map V.str = (wsR (.p nm a b c)).map V.str := by rw [wsR]; simp
        refine ⟨D1, D, _, _, rfl, rfl, (gD _).lst eN, upd_same, ?_, fun p np => ?_⟩
        · simp only [List.length_cons, List.length_map, List.length_nil]
          exact Nat.le_of_lt (small1000 (by omega))
        rw [ws]
        refine ⟨blank, p, wsR (.p nm a b c), rfl, rfl, .inl (.inl (.inl upd_same)), ?_, ?_⟩
        · have a := sum_len (ws := wsR (.p nm a b c)) fun z hz => Nat.le_trans (clean_wsR gr z hz).2.1 (by decide)
          have b := wsR_len gr
          have c : blank.length = 1 := by decide +kernel
          rw [c]
          omega
        · exact q _ (k04.trans (kN.trans ((gD _).trans (Gr.new np))))
    | l nm lb dd as =>
      obtain ⟨p, xs, rfl, hp, dxs⟩ := dp_tup hv
      obtain ⟨v0, xs, rfl, d0, dxs⟩ := dpA_cons dxs
      obtain ⟨v1, xs, rfl, d1, dxs⟩ := dpA_cons dxs
      obtain ⟨v2, xs, rfl, d2, dxs⟩ := dpA_cons dxs
      obtain ⟨v3, xs, rfl, d3, dxs⟩ := dpA_cons dxs
      obtain ⟨v4, xs, rfl, d4, dxs⟩ := dpA_cons dxs
      cases dpA_nil dxs
      cases dp_str d0
      cases dp_str d1
      cases dp_str d2
      cases dp_str d3
      obtain ⟨qa, vsN, rfl, hqa, dvs⟩ := dp_tup d4
      refine ⟨_, rfl, p, _, _, rfl, hp, fun l nl => ⟨_, _, rfl, _, [], rfl, rfl, ?_⟩⟩
      have k1 : Gr H (upd H l (.lst [.str nm, .str lb, .str dd, .ref qa])) := Gr.new nl
      have e1 : upd H l (.lst [.str nm, .str lb, .str dd, .ref qa]) l = some (.lst [.str nm, .str lb, .str dd, .ref qa]) := upd_same
      generalize upd H l (.lst [.str nm, .str lb, .str dd, .ref qa]) = H1 at k1 e1 ⊢
      refine ⟨_, rfl, rfl, _, rfl, ?_⟩
      rw [decide_eq_false (by decide +kernel)]
      refine iteF ⟨_, rfl, rfl, _, rfl, ?_⟩
      rw [decide_eq_false (by decide +kernel)]
      refine iteF ⟨_, rfl, 3, rfl, l, _, rfl, .inl (.inl e1), fun l3 n3 => ?_⟩
      rw [show cutV [V.str nm, .str lb, .str dd, .ref qa] none (some 3) = [V.str nm, .str lb, .str dd] from (cutV_til [V.str nm, .str lb, .str dd, .ref qa] (n := 3) (by simp)).trans (by simp)]
      have k2 : Gr H1 (upd H1 l3 (.lst [.str nm, .str lb, .str dd])) := Gr.new n3
      have e3 : upd H1 l3 (.lst [.str nm, .str lb, .str dd]) l3 = some (.lst [.str nm, .str lb, .str dd]) := upd_same
      generalize upd H1 l3 (.lst [.str nm, .str lb, .str dd]) = H4 at k2 e3 ⊢
      have k04 := k1.trans k2
      refine ⟨_, rfl, l, _, 3, _, rfl, rfl, .inl (.inl (k2.lst e1)), rfl, ?_⟩
      have hqa4 := k04.sqt hqa
      have dv4 : DpAll K H4 vsN (as.map Ag.d) := k04.kd.dpA dvs
      have gaN : ∀ x ∈ as, goA x := gr.2.2.2.2
      have a3 := gr.2.2.2.1
      -- the words
      have szs : ([nm, lb, dd].length : Nat) ≤ 10 := by show 3 ≤ 10; decide
      refine ⟨⟨_, rfl⟩, _, rfl, _, rfl, l3, _, rfl, .inr (.inl (.inl e3)), by rw [List.append_nil]; show 3 + 1 ≤ sizeLine; decide, fun D1 nD1 => ?_⟩
      rw [List.append_nil]
      have kN : Gr H4 (upd H4 D1 (.lst [V.str ("let" : Str), V.str nm, V.str lb, V.str dd])) := Gr.new nD1
      have eN : upd H4 D1 (.lst [V.str ("let" : Str), V.str nm, V.str lb, V.str dd]) D1 = some (.lst [V.str ("let" : Str), V.str nm, V.str lb, V.str dd]) := upd_same
      generalize upd H4 D1 (.lst [V.str ("let" : Str), V.str nm, V.str lb, V.str dd]) = H5 at kN eN ⊢
      refine ⟨_, rfl, qa, rfl, .inr ⟨⟨_, kN.sqt hqa4⟩, fun D nD => ?_⟩⟩
      have gD : ∀ ys, Gr H5 (upd H5 D (.lst ys)) := fun ys => Gr.new nD
      have dv5 := kN.kd.dpA dv4
      have lv : vsN.length = as.length := by
        have := dpA_len dv5
        rw [List.length_map] at this
        exact this
      refine lc_it (walk_tup (xs := vsN)) (fun i H2 => H2 = upd H5 D (.lst (((as.take i).map wA).map V.str))) rfl ?c0 ?c1 ?c2
      case c0 =>
        rintro i H2 hi rfl
        exact (gD _).sqt (kN.sqt hqa4)
      case c1 =>
        rintro i y H2 H2' hi rfl ⟨rfl, hy⟩
        have hk : as[i]? = some as[i] := List.getElem?_eq_getElem (by omega)
        generalize as[i] = a at hk
        obtain ⟨y', hy', dy⟩ := dpA_get dv5 (i := i) (d := a.d) (by rw [List.getElem?_map, hk]; rfl)
        have hy2 : vsN[i]? = some y := hy
        rw [hy2] at hy'
        cases hy'
        refine ⟨rfl, ?_⟩
        unfold tYes
        refine iteT ⟨_, rfl, y, a, rfl, (gD _).kd.dp dy, gaN a (List.mem_of_getElem? hk), _, upd_same, ?_, ?_⟩
        · rw [List.length_map, List.length_map, List.length_take]
          exact small1000 (by omega)
        · rw [upd_upd, List.take_add_one, hk, List.map_append, List.map_append]
          rfl
      case c2 =>
        rintro H2 rfl
        rw [show vsN.length = as.length from lv, List.take_length]
        have ws : [V.str ("let" : Str), V.str nm, V.str lb, V.str dd] ++ (as.map wA).map V.str = (wsR (.l nm lb dd as)).map V.str := by rw [wsR]; simp
        refine ⟨D1, D, _, _, rfl, rfl, (gD _).lst eN, upd_same, ?_, fun p np => ?_⟩
        · simp only [List.length_cons, List.length_map, List.length_nil]
          exact Nat.le_of_lt (small1000 (by omega))
        rw [ws]
        refine ⟨blank, p, wsR (.l nm lb dd as), rfl, rfl, .inl (.inl (.inl upd_same)), ?_, ?_⟩
        · have a := sum_len (ws := wsR (.l nm lb dd as)) fun z hz => Nat.le_trans (clean_wsR gr z hz).2.1 (by decide)
          have b := wsR_len gr
          have c : blank.length = 1 := by decide +kernel
          rw [c]
          omega
        · exact q _ (k04.trans (kN.trans ((gD _).trans (Gr.new np))))
end
end SfC
/-! a program's text -/
namespace SfC
open PySem PySem.Spec PyProof.Rows L2 SfG
abbrev nProgT : List Str := ["program", "uses", "inputs", "rows", "told", "label", "face", "kind", "row"]
theorem scProgT : FnScope nProgT ["program"] (defScope sProgText) := ⟨rfl, rfl, rfl, by decide +kernel, rfl, by decide +kernel, by decide +kernel⟩
section
variable {P : Program} {w : World} {K : PySem.W.Frag} {mg : Str → Option Value} {base : Heap}
def spProgT (K : PySem.W.Frag) : Sp := fun vs H Q _ => ∃ (v : V) (p : Pg), vs = [v] ∧ PgV K H v p ∧ goK' p ∧ ∀ H', Gr H H' → Q (.str (textP p)) H'
set_option maxHeartbeats 1000000 in
theorem ok_progT {f fN fF fR : Addr} {fd dN dF dR : FuncData} {k : Nat} (F : Fun K "program_text" "program_text" sProgText f fd) (HN : Has P w K mg base k "need_program" ["program"] (spNeedP K) fN dN) (HF : Has P w K mg base k "face_rows" ["face"] (spFRows K) fF dF)
    (HR : Has P w K mg base k "row_text" ["row"] (spRowT K) fR dR) (m1 : mg "str" = none) : FnOk P w K mg base CX0 (k + 1) f fd ["program"] (spProgT K) := by
  refine F.ok scProgT (fun vs H Q E h => ?_) (fun cdv A outer s H vs Q E hr h => ?_)
  · obtain ⟨v, p, rfl, _⟩ := h
    rfl
  · obtain ⟨v, p, rfl, hv, go, q⟩ := h
    have nd := scProgT.nd
    refine' ⟨_, pss_cons ?s1 (pss_cons ?s2 (pss_cons ?s3 (pss_cons ?s4 (pss_cons ?s5 (pss_cons ?s6 (pss_one ?s7)))))), ?rd⟩
    case s1 => exact ps_expr (hcall HN hr (pa_cons (pv 0) pa_nil))
    case s2 => exact ps_asg (pv 0) (pg_tup rfl (pgs_cons (pg_name (i := 1) nd rfl (.inl rfl)) (pgs_cons (pg_name (i := 2) nd rfl (.inl rfl)) (pgs_cons (pg_name (i := 3) nd rfl (.inl rfl)) pgs_nil))))
    case s3 => exact ps_set (i := 4) nd rfl (.inl rfl) (pe_lst pa_nil)
    case s4 =>
      exact ps_for PassesOwn.never rfl (pi_tup (pv 1)) (pg_tup rfl (pgs_cons (pg_name (i := 5) nd rfl (.inl rfl)) (pgs_cons (pg_name (i := 6) nd rfl (.inl rfl)) pgs_nil)))
        (pss_cons (ps_expr (pe_bm PySem.F.plainAttrs_list PySem.F.slot_list_append PySem.F.type_list_append mt_append (pv 4) (pa_cons (pe_joined (.cons pe_str (.cons (pe_fmt (pv 5)) .nil))) pa_nil)))
        (pss_one (ps_expr (pe_bm PySem.F.plainAttrs_list PySem.F.slot_list_extend PySem.F.type_list_extend mt_extend (pv 4) (pa_cons (hcall HF hr (pa_cons (pv 6) pa_nil)) pa_nil)))))
    case s5 =>
      exact ps_expr (pe_bm PySem.F.plainAttrs_list PySem.F.slot_list_append PySem.F.type_list_append mt_append (pv 4) (pa_cons (pe_join pe_str (pe_op op_cat (pe_lst (pa_cons pe_str pa_nil)) (pe_lc (own := [("kind", 7)]) (g := gName 7) rfl nd (pi_tup (pv 2))
        (blkOk_by (own := [("kind", 7)]) (N := nProgT) (sc := defScope sProgText) (by decide +kernel)) (fun _ _ _ _ _ => pg_name (i := 7) nd rfl (.inl rfl)) (fun _ _ _ _ _ => pts_nil) (fun _ _ _ _ _ => pe_callTy call_strX (by rfl) m1 (by decide +kernel) (pa_cons (pv 7) pa_nil))))) pa_nil))
    case s6 =>
      exact ps_expr (pe_bm PySem.F.plainAttrs_list PySem.F.slot_list_extend PySem.F.type_list_extend mt_extend (pv 4) (pa_cons (pe_lc (own := [("row", 8)]) (g := gName 8) rfl nd (pi_tup (pv 3))
        (blkOk_by (own := [("row", 8)]) (N := nProgT) (sc := defScope sProgText) (by decide +kernel)) (fun _ _ _ _ _ => pg_name (i := 8) nd rfl (.inl rfl)) (fun _ _ _ _ _ => pts_nil) (fun _ _ _ _ _ => hcall HR hr (pa_cons (pv 8) pa_nil))) pa_nil))
    case s7 => exact ps_ret (pe_join pe_str (pv 4))
    case rd =>
    refine ⟨_, rfl, v, p, rfl, hv, go, fun H1 g1 => ?_⟩
    obtain ⟨q0, qu, qi, qr, ps, rs, rfl, h1, h2, h3, h4, h5, h6⟩ := hv.gr g1
    have fo := go.f
    refine ⟨_, rfl, q0, _, rfl, h1, rfl, _, _, rfl, _, _, rfl, _, [], rfl, rfl, ?_⟩
    refine ⟨Nat.zero_le _, fun al nal => ?_⟩
    have lu : (ps.map V.ref).length = p.us.length := by
      have := dpA_len h3
      rw [List.length_map (as := p.us)] at this
      exact this
    have lr : rs.length = p.rs.length := by
      have := dpA_len h6
      rw [List.length_map] at this
      exact this
    have u4 := fo.u4
    have rowsUs_le : ∀ j, (rowsUs (p.us.take j)).length ≤ 40 := fun j => by
      have := rowsUs_len (us := p.us.take j) fun u hu => (fo.uN u (List.mem_of_mem_take hu)).2
      rw [List.length_take] at this
      omega
    refine ⟨_, rfl, qu, rfl, ⟨_, (Gr.new nal).sqt h2.sqt⟩, ?_⟩
    refine for_it (walk_tup (xs := ps.map V.ref)) (fun j σ H4 => ∃ (y5 y6 : Option V), σ = [some (.ref q0), some (.ref qu), some (.ref qi), some (.ref qr), some (.ref al), y5, y6, none, none] ∧ Gr H1 H4 ∧ H4 al = some (.lst ((rowsUs (p.us.take j)).map V.str)))
      ⟨none, none, rfl, Gr.new nal, upd_same⟩ ?w1 ?w2 ?w3
    case w1 =>
      rintro j σ H4 hj ⟨y5, y6, rfl, g4, e4⟩
      exact g4.sqt h2.sqt
    case w2 =>
      rintro j b σ H4 H5 hj ⟨y5, y6, rfl, g4, e4⟩ ⟨rfl, hb⟩
      have hk : p.us[j]? = some p.us[j] := List.getElem?_eq_getElem (by omega)
      generalize p.us[j] = u at hk
      obtain ⟨b', hb3, db⟩ := dpA_get h3 (i := j) (d := u.d) (by rw [List.getElem?_map, hk]; rfl)
      have hb2 : (ps.map V.ref)[j]? = some b := hb
      rw [hb2] at hb3
      cases hb3
      obtain ⟨un1, un2⟩ := fo.uN u (List.mem_of_getElem? hk)
      have db4 := g4.kd.dp db
      obtain ⟨q1, y0, y1, rfl, hq, dy0, dy1⟩ := dp_2 db4
      cases dp_str dy0
      refine ⟨q1, _, rfl, hq, rfl, _, _, rfl, _, [], rfl, rfl, ?_⟩
      have l40 := rowsUs_le j
      have eU : (Str.empty ++ ("use " : Str)) ++ u.lb = rowU u.lb := by
        have e2 : (Str.empty ++ ("use " : Str)) = ("use" : Str) ++ blank := by decide +kernel
        rw [e2]
        show _ = Txt.join blank ([("use" : Str)] ++ [u.lb])
        rw [join_snoc _ _ (by simp), join_one]
      have cu := (isN_txt un1).1
      refine ⟨_, rfl, .inl ⟨rfl, _, .inl (.inl e4)⟩, _, rfl, by decide +kernel, _, rfl, .inl ⟨u.lb, rfl, Nat.le_trans cu (by decide), u.lb, rfl, ?_, ?_⟩⟩
      · rw [eU]
        exact Nat.le_trans (row_len (clean_wsU un1)) (by show 2 * 9 ≤ sizeLine; decide)
      rw [eU]
      refine ⟨al, _, _, rfl, rfl, e4, by rw [List.length_map]; exact small1000 (by omega), ?_⟩
      have kt : Kt K H5 (upd H5 al (.lst ((rowsUs (p.us.take j)).map V.str ++ [.str (rowU u.lb)]))) := kt_lst e4
      have g6 : Gr H1 (upd H5 al (.lst ((rowsUs (p.us.take j)).map V.str ++ [.str (rowU u.lb)]))) := g4.upd_new nal
      have e6 : upd H5 al (.lst ((rowsUs (p.us.take j)).map V.str ++ [.str (rowU u.lb)])) al = some (.lst ((rowsUs (p.us.take j)).map V.str ++ [.str (rowU u.lb)])) := upd_same
      generalize upd H5 al (.lst ((rowsUs (p.us.take j)).map V.str ++ [.str (rowU u.lb)])) = H6 at kt g6 e6 ⊢
      have f9 := rowsF_len un2
      refine ⟨_, rfl, .inl ⟨rfl, _, .inl (.inl e6)⟩, _, rfl, y1, u.fc, rfl, kt.dp dy1 (noL_fc _), un2, fun H7 pz g7 npz e7 => ⟨al, pz, _, _, rfl, rfl, g7.lst e6, e7, ?_, ?_⟩⟩
      · rw [List.length_append, List.length_map, List.length_map, List.length_singleton]
        exact Nat.le_of_lt (small1000 (by omega))
      · refine ⟨_, _, rfl, (g6.trans g7).upd_new nal, ?_⟩
        rw [upd_same, rowsUs_take hk, List.map_append]
        show some (HO.lst ((_ ++ [V.str (rowU u.lb)]) ++ _)) = some (HO.lst (_ ++ (V.str (rowU u.lb) :: (rowsF u.fc).map V.str)))
        rw [List.append_assoc]
        rfl
    case w3 =>
      rintro σ H4 ⟨y5, y6, rfl, g4, e4⟩
      rw [lu, List.take_length] at e4
      have l40 : (rowsUs p.us).length ≤ 40 := by
        have := rowsUs_le p.us.length
        rw [List.take_length] at this
        exact this
      have i3 := fo.i3
      have r30 := fo.r30
      refine ⟨_, rfl, .inl ⟨rfl, _, .inl (.inl e4)⟩, ⟨_, rfl⟩, by show 1 ≤ sizeLine; decide, fun l1 n1 => ?_⟩
      have k5 : Gr H4 (upd H4 l1 (.lst [.str "inputs"])) := Gr.new n1
      have e5 : upd H4 l1 (.lst [.str "inputs"]) l1 = some (.lst [.str "inputs"]) := upd_same
      generalize upd H4 l1 (.lst [.str "inputs"]) = H5 at k5 e5 ⊢
      have hqi := (g4.trans k5).sqt h4
      refine ⟨_, rfl, qi, rfl, ⟨_, hqi⟩, fun D nD => ?_⟩
      have gD : ∀ ys, Gr H5 (upd H5 D (.lst ys)) := fun ys => Gr.new nD
      refine lc_it (walk_tup (xs := p.is.map V.int)) (fun i H2 => H2 = upd H5 D (.lst (((p.is.take i).map fun j => kS (.p j)).map V.str))) rfl ?c0 ?c1 ?c2
      case c0 =>
        rintro i H2 hi rfl
        exact (gD _).sqt hqi
      case c1 =>
        rintro i y H2 H2' hi rfl ⟨rfl, hy⟩
        have hy2 : (p.is.map V.int)[i]? = some y := hy
        rw [List.getElem?_map] at hy2
        obtain ⟨m, hm, rfl⟩ := Option.map_eq_some_iff.mp hy2
        obtain ⟨m2, m9⟩ := fo.iN m (List.mem_of_getElem? hm)
        refine ⟨rfl, ?_⟩
        unfold tYes
        have lm : m.natAbs.log2 < 1920 := by
          obtain ⟨n, rfl⟩ : ∃ n : Nat, m = (n : Int) := ⟨m.toNat, by omega⟩
          exact log_9 n (by omega)
        refine iteT ⟨_, rfl, .inr ⟨m, rfl, lm, ?_⟩⟩
        rw [str_kind m2 m9]
        refine ⟨_, upd_same, ?_, ?_⟩
        · rw [List.length_map, List.length_map, List.length_take]
          exact small1000 (by omega)
        · rw [upd_upd, List.take_add_one, hm, List.map_append, List.map_append]
          rfl
      case c2 =>
      rintro H2 rfl
      rw [List.length_map, List.take_length]
      have cl := clean_wsI fo.iN
      have lI : (wsI p.is).length ≤ 4 := by
        simp only [wsI, List.length_cons, List.length_map]
        omega
      refine ⟨l1, D, _, _, rfl, rfl, (gD _).lst e5, upd_same, ?_, fun pz npz => ?_⟩
      · simp only [List.length_cons, List.length_map, List.length_nil]
        exact Nat.le_of_lt (small1000 (by omega))
      refine ⟨blank, pz, wsI p.is, rfl, rfl, .inl (.inl (.inl upd_same)), ?_, ?_⟩
      · have a := sum_len (ws := wsI p.is) fun z hz => Nat.le_trans (cl z hz).2.1 (by decide)
        have c : blank.length = 1 := by decide +kernel
        rw [c]
        omega
      have k6 : Gr H4 (upd (upd H5 D (.lst ((p.is.map fun j => kS (.p j)).map V.str))) pz (.lst ([V.str "inputs"] ++ (p.is.map fun j => kS (.p j)).map V.str))) := k5.trans ((gD _).trans (Gr.new npz))
      generalize upd (upd H5 D (.lst ((p.is.map fun j => kS (.p j)).map V.str))) pz (.lst ([V.str "inputs"] ++ (p.is.map fun j => kS (.p j)).map V.str)) = H6 at k6 ⊢
      have e6 := k6.lst e4
      refine ⟨al, _, _, rfl, rfl, e6, by rw [List.length_map]; exact small1000 (by omega), ?_⟩
      have g7 : Gr H1 (upd H6 al (.lst ((rowsUs p.us).map V.str ++ [.str (rowI p.is)]))) := (g4.trans k6).upd_new nal
      have e7 : upd H6 al (.lst ((rowsUs p.us).map V.str ++ [.str (rowI p.is)])) al = some (.lst ((rowsUs p.us).map V.str ++ [.str (rowI p.is)])) := upd_same
      rw [show Txt.join blank (wsI p.is) = rowI p.is from rfl]
      generalize upd H6 al (.lst ((rowsUs p.us).map V.str ++ [.str (rowI p.is)])) = H7 at g7 e7 ⊢
      have l7 : ((rowsUs p.us).map V.str ++ [V.str (rowI p.is)]).length ≤ 41 := by
        rw [List.length_append, List.length_map, List.length_singleton]
        omega
      have hqr := g7.sqt h5
      have d6 := g7.kd.dpA h6
      refine ⟨_, rfl, .inl ⟨rfl, _, .inl (.inl e7)⟩, _, rfl, qr, rfl, ⟨_, hqr⟩, fun D' nD' => ?_⟩
      refine lc_it (walk_tup (xs := rs)) (fun i H2 => H2 D' = some (.lst (((p.rs.take i).map rowR).map V.str)) ∧ Gr H7 H2) ⟨upd_same, Gr.new nD'⟩ ?d0 ?d1 ?d2
      case d0 =>
        rintro i H2 hi ⟨_, g⟩
        exact g.sqt hqr
      case d1 =>
        rintro i y H2 H2' hi ⟨eD, g⟩ ⟨rfl, hy⟩
        have hk : p.rs[i]? = some p.rs[i] := List.getElem?_eq_getElem (by omega)
        generalize p.rs[i] = r at hk
        have gr := fo.rN r (List.mem_of_getElem? hk)
        obtain ⟨y', hy', dy⟩ := dpA_get d6 (i := i) (d := r.d) (by rw [List.getElem?_map, hk]; rfl)
        have hy2 : rs[i]? = some y := hy
        rw [hy2] at hy'
        cases hy'
        refine ⟨rfl, ?_⟩
        unfold tYes
        refine iteT ⟨_, rfl, y, r, rfl, g.kd.dp dy, gr, fun H8 g8 => ⟨_, g8.lst eD, ?_, ?_, (g.trans g8).upd_new nD'⟩⟩
        · rw [List.length_map, List.length_map, List.length_take]
          exact small1000 (by omega)
        · rw [upd_same, List.take_add_one, hk, List.map_append, List.map_append]
          rfl
      case d2 =>
      rintro H8 ⟨eD, g8⟩
      rw [lr, List.take_length] at eD
      have e8 := g8.lst e7
      refine ⟨al, D', _, _, rfl, rfl, e8, eD, ?_, ?_⟩
      · rw [List.length_map, List.length_map]
        exact Nat.le_of_lt (small1000 (by omega))
      have g9 : Gr H1 (upd H8 al (.lst (((rowsUs p.us).map V.str ++ [.str (rowI p.is)]) ++ (p.rs.map rowR).map V.str))) := (g7.trans g8).upd_new nal
      have eP : ((rowsUs p.us).map V.str ++ [V.str (rowI p.is)]) ++ (p.rs.map rowR).map V.str = (rowsP p).map V.str := by
        rw [List.append_assoc]
        unfold rowsP
        rw [List.map_append]
        rfl
      refine ⟨⟨_, rfl⟩, _, rfl, feed, al, rowsP p, rfl, rfl, .inl (.inl (.inl ?_)), ?_, ?_⟩
      · rw [upd_same, eP]
      · have a := sum_len (ws := rowsP p) fun z hz => Nat.le_trans (rowsP_row fo z hz) (by decide)
        have b := rowsP_len fo
        have c : feed.length = 1 := by decide +kernel
        rw [c]
        omega
      · exact q _ (g1.trans g9)
end
end SfC
namespace SfC
open PySem PySem.Spec PyProof.Rows L2 SfG
/-! ### a text some times -/
def repS (z : Str) (n : Nat) : Str := ⟨(List.replicate n z.cps).foldl (· ++ ·) #[]⟩
theorem foldl_len : ∀ (n : Nat) (x acc : Array Nat), ((List.replicate n x).foldl (· ++ ·) acc).size = acc.size + n * x.size
  | 0, x, acc => by simp
  | n + 1, x, acc => by
    rw [List.replicate_succ, List.foldl_cons, foldl_len n x, Array.size_append, Nat.succ_mul]
    omega
theorem rep_len (z : Str) (n : Nat) : (repS z n).length = n * z.length := by
  show ((List.replicate n z.cps).foldl (· ++ ·) #[]).size = n * z.cps.size
  rw [foldl_len]
  simp
theorem rep_one (z : Str) : repS z 1 = z := by
  unfold repS
  simp
theorem op_mulZ {X : Cx} : OpR X (binaryOp .Mult) (fun x y H Q => ∃ (z : Str) (n : Nat), x = .str z ∧ y = .int (n : Int) ∧ 1 ≤ n ∧ z.length * n ≤ 1000000 ∧ z.length ≠ 0 ∧ Q (.str (repS z n)) H) := by
  intro pins s σ H x y v u Q I rx ry h
  obtain ⟨z, n, rfl, rfl, hn, hl, h0, q⟩ := h
  obtain ⟨t, rfl⟩ := rx
  obtain ⟨t', rfl⟩ := ry
  have e63 : (2 : Int) ^ 63 = 9223372036854775808 := by decide
  have hnn : n ≤ 1000000 := by
    refine Nat.le_trans ?_ hl
    exact Nat.le_mul_of_pos_left n (Nat.pos_of_ne_zero h0)
  refine PySem.P.mul_str ?_ ?_ ?_ ?_
  · rw [e63]
    simp
    omega
  · intro _ _ h
    have e : (z.length : Int) ≤ (2 ^ 63 - 1) / (n : Int) := by
      refine Int.le_ediv_of_mul_le (by omega) ?_
      have hl' : ((z.length * n : Nat) : Int) ≤ 1000000 := by omega
      rw [Int.natCast_mul] at hl'
      rw [e63]
      omega
    omega
  · intro _ _
    rw [Int.toNat_natCast]
    unfold Builtin.Str.tooLong
    refine decide_eq_false ?_
    rw [sizeLine_eq]
    omega
  · have c1 : ¬ (n : Int) < 1 := by omega
    rw [if_neg c1]
    by_cases e1 : n = 1
    · subst e1
      have c2 : (((1 : Nat) : Int) == 1 || z.length == 0) = true := by simp
      rw [if_pos c2]
      rw [rep_one] at q
      exact ⟨.str z, H, I, ⟨_, rfl⟩, q⟩
    · have c2 : ¬ (((n : Int) == 1 || z.length == 0) = true) := by
        simp
        omega
      rw [if_neg c2]
      refine ⟨?_, .str (repS z n), H, I.tok _, ⟨_, rfl⟩, q⟩
      have hs := rep_len z n
      have hz : (repS z n).length ≤ sizeLine := by
        rw [hs, sizeLine_eq, Nat.mul_comm]
        omega
      exact hz
end SfC
/-! the law's own texts: words of arguments, rows of faces -/
namespace SfC
open PySem PySem.Spec PyProof.Rows L2 SfG
theorem op_mul0 {X : Cx} : OpR X (binaryOp .Mult) (fun x y H Q => ∃ (z : Str) (n : Nat), x = .str z ∧ y = .int (n : Int) ∧ n ≤ 100 ∧ z.length ≤ 100 ∧ z.length ≠ 0 ∧ Q (.str (repS z n)) H) := by
  intro pins s σ H x y v u Q I rx ry h
  obtain ⟨z, n, rfl, rfl, hn, hl, h0, q⟩ := h
  by_cases c : n = 0
  · subst c
    obtain ⟨t, rfl⟩ := rx
    obtain ⟨t', rfl⟩ := ry
    exact PySem.P.mul_str_none (by decide) (by decide) ⟨.str (repS z 0), H, I.tok _, ⟨_, rfl⟩, q⟩
  · have : z.length * n ≤ 100 * 100 := Nat.mul_le_mul hl hn
    exact op_mulZ pins s σ H _ _ v u Q I rx ry ⟨z, n, rfl, rfl, by omega, by omega, h0, q⟩
theorem scArgW : FnScope ["_law_arg"] ["_law_arg"] (defScope sArgWord) := ⟨rfl, rfl, rfl, by decide +kernel, rfl, by decide +kernel, by decide +kernel⟩
abbrev nLFR : List Str := ["_law_face_here", "_law_found", "_law_name", "_law_takes", "_law_gives", "_law_kind"]
theorem scLFR : FnScope nLFR ["_law_face_here"] (defScope sLFRows) := ⟨rfl, rfl, rfl, by decide +kernel, rfl, by decide +kernel, by decide +kernel⟩
theorem rep_0 (z : Str) : repS "$" 0 ++ z = z := by
  have e : repS "$" 0 = Str.empty := by decide +kernel
  rw [e]
  show (⟨#[] ++ z.cps⟩ : Str) = z
  simp
theorem rep_1 : ∀ n : Nat, n < 3 → repS "$" 1 ++ ((toString (n : Int) : String) : Str) = dol n := by decide +kernel
section
variable {P : Program} {w : World} {K : PySem.W.Frag} {mg : Str → Option Value} {base : Heap}
theorem ok_argW {f : Addr} {fd : FuncData} {k : Nat} (F : Fun K "_law_arg_word" "_law_arg_word" sArgWord f fd) (mn : mg "int" = none) (m1 : mg "str" = none) : FnOk P w K mg base CX0 (k + 1) f fd ["_law_arg"] (spArgT K) := by
  refine F.ok scArgW (fun vs H Q E h => ?_) (fun cdv A outer s H vs Q E hr h => ?_)
  · obtain ⟨v, a, rfl, _⟩ := h
    rfl
  · obtain ⟨v, a, rfl, hv, ga, q⟩ := h
    refine ⟨_, pss_one (ps_ret (pe_op op_add_str (pe_op op_mul0 pe_str (pe_callTy call_int1 (by rfl) mn (by decide +kernel) (pa_cons (pe_cmpR op_eq (pe_ix ix_tup (pv 0) pe_int (fun _ _ => rfl)) pe_str (nomark _)) pa_nil)))
      (pe_callTy call_strX (by rfl) m1 (by decide +kernel) (pa_cons (pe_ix ix_tup (pv 0) pe_int (fun _ _ => rfl)) pa_nil)))), ?_⟩
    have cl := (clean_arg ga).2.1
    have l1 : ("$" : Str).length ≤ 100 := by decide +kernel
    have l2 : ("$" : Str).length ≠ 0 := by decide +kernel
    have z0 : (repS "$" 0).length = 0 := by decide +kernel
    have z1 : (repS "$" 1).length = 1 := by decide +kernel
    cases a with
    | n z =>
      obtain ⟨p, a, b, rfl, hp, ha, hb⟩ := dp_2 hv
      cases dp_str ha
      cases dp_str hb
      refine ⟨_, rfl, p, _, 0, _, rfl, rfl, hp, rfl, rfl, .inr ⟨_, rfl, ?_⟩⟩
      rw [decide_eq_false (by decide +kernel)]
      refine ⟨_, 0, rfl, rfl, by decide, l1, l2, ?_⟩
      refine ⟨_, rfl, p, _, 1, _, rfl, rfl, hp, rfl, .inl ⟨_, rfl, _, _, rfl, rfl, ?_, ?_⟩⟩
      · rw [z0, sizeLine_eq]
        have : z.length ≤ 8 := cl
        omega
      · rw [rep_0]
        exact q
    | u j =>
      obtain ⟨p, a, b, rfl, hp, ha, hb⟩ := dp_2 hv
      cases dp_str ha
      cases dp_int hb
      obtain ⟨h0, h8⟩ := ga
      obtain ⟨n, rfl⟩ : ∃ n : Nat, j = (n : Int) := ⟨j.toNat, by omega⟩
      refine ⟨_, rfl, p, _, 0, _, rfl, rfl, hp, rfl, rfl, .inr ⟨_, rfl, ?_⟩⟩
      rw [decide_eq_false (by decide +kernel)]
      refine ⟨_, 0, rfl, rfl, by decide, l1, l2, ?_⟩
      refine ⟨_, rfl, p, _, 1, _, rfl, rfl, hp, rfl, .inr ⟨_, rfl, log_9 n (by omega), ?_⟩⟩
      rw [str_fig n (by omega)]
      refine ⟨_, _, rfl, rfl, ?_, ?_⟩
      · rw [z0]
        show 0 + 1 ≤ sizeLine
        decide
      · rw [rep_0]
        exact q
    | i j =>
      obtain ⟨p, a, b, rfl, hp, ha, hb⟩ := dp_2 hv
      cases dp_str ha
      cases dp_int hb
      obtain ⟨h0, h8⟩ := ga
      obtain ⟨n, rfl⟩ : ∃ n : Nat, j = (n : Int) := ⟨j.toNat, by omega⟩
      refine ⟨_, rfl, p, _, 0, _, rfl, rfl, hp, rfl, rfl, .inr ⟨_, rfl, ?_⟩⟩
      rw [decide_eq_true rfl]
      refine ⟨_, 1, rfl, rfl, by decide, l1, l2, ?_⟩
      refine ⟨_, rfl, p, _, 1, _, rfl, rfl, hp, rfl, .inr ⟨_, rfl, log_9 n (by omega), ?_⟩⟩
      refine ⟨_, _, rfl, rfl, ?_, ?_⟩
      · rw [z1, str_fig n (by omega)]
        show 1 + 1 ≤ sizeLine
        decide
      · rw [rep_1 n (by omega)]
        exact q
set_option maxHeartbeats 1000000 in
theorem ok_lfr {f : Addr} {fd : FuncData} {k : Nat} (F : Fun K "_law_face_rows" "_law_face_rows" sLFRows f fd) (m1 : mg "str" = none) : FnOk P w K mg base CX0 (k + 1) f fd ["_law_face_here"] (spFRows K) := by
  refine F.ok scLFR (fun vs H Q E h => ?_) (fun cdv A outer s H vs Q E hr h => ?_)
  · obtain ⟨x, f, rfl, _⟩ := h
    rfl
  · obtain ⟨x, f, rfl, hx, go, q⟩ := h
    have nd := scLFR.nd
    refine' ⟨_, pss_cons ?s1 (pss_cons ?s2 (pss_one ?s3)), ?rd⟩
    case s1 => exact ps_set (i := 1) nd rfl (.inl rfl) (pe_lst (pa_cons (pe_join pe_str (pe_op op_catT (pe_tup (pa_cons pe_str pa_nil)) (pe_ix ix_tup (pv 0) pe_int (fun _ _ => rfl)))) pa_nil))
    case s2 =>
      exact ps_for PassesOwn.never rfl (pi_tup (pe_ix ix_tup (pv 0) pe_int (fun _ _ => rfl))) (pg_tup rfl (pgs_cons (pg_name (i := 2) nd rfl (.inl rfl)) (pgs_cons (pg_name (i := 3) nd rfl (.inl rfl)) (pgs_cons (pg_name (i := 4) nd rfl (.inl rfl)) pgs_nil))))
        (pss_one (ps_expr (pe_bm PySem.F.plainAttrs_list PySem.F.slot_list_append PySem.F.type_list_append mt_append (pv 1) (pa_cons (pe_join pe_str (pe_op op_cat (pe_op op_cat (pe_lst (pa_cons (pv 2) pa_nil)) (pe_lc (own := [("_law_kind", 5)]) (g := gName 5) rfl nd (pi_tup (pv 3))
          (blkOk_by (own := [("_law_kind", 5)]) (N := nLFR) (sc := defScope sLFRows) (by decide +kernel)) (fun _ _ _ _ _ => pg_name (i := 5) nd rfl (.inl rfl)) (fun _ _ _ _ _ => pts_nil) (fun _ _ _ _ _ => pe_callTy call_strX (by rfl) m1 (by decide +kernel) (pa_cons (pv 5) pa_nil))))
          (pe_lst (pa_cons pe_str (pa_cons (pe_callTy call_strX (by rfl) m1 (by decide +kernel) (pa_cons (pv 4) pa_nil)) pa_nil))))) pa_nil))))
    case s3 => exact ps_ret (pv 1)
    case rd =>
    obtain ⟨p, ph, pd, xs, rfl, hp, hph, hpd, dd⟩ := dp_face hx
    have hi8 := go.hi
    have hn := go.hid.nm
    have lx : xs.length = f.ds.length := by
      have := dpA_len dd
      rw [List.length_map] at this
      exact this
    have lh := wsH_len go.hid
    have ch := clean_wsH hn
    have h1 := go.hid.lo
    refine ⟨⟨_, rfl⟩, by show 1 ≤ sizeLine; decide, fun t nt => ?_⟩
    have k1 : Gr H (upd H t (.tup [.str "hidden"])) := Gr.new nt
    have e1 : upd H t (.tup [.str "hidden"]) t = some (.tup [.str "hidden"]) := upd_same
    generalize upd H t (.tup [.str "hidden"]) = H1 at k1 e1 ⊢
    refine ⟨_, rfl, p, _, 0, _, rfl, rfl, k1.sqt hp, rfl, t, ph, _, _, rfl, rfl, SqT.of e1, k1.sqt hph, by simp, ?_, fun e => ?_, fun _ t2 nt2 => ?_⟩
    · simp only [List.length_map, List.length_cons, List.length_nil]
      have : (wsH f.hd).length = f.hd.length + 1 := rfl
      exact Nat.le_of_lt (small1000 (by omega))
    · rw [List.map_eq_nil_iff] at e
      rw [e] at h1
      exact absurd h1 (by decide)
    have k2 : Gr H1 (upd H1 t2 (.tup ([V.str "hidden"] ++ f.hd.map V.str))) := Gr.new nt2
    have e2 : upd H1 t2 (.tup ([V.str "hidden"] ++ f.hd.map V.str)) t2 = some (.tup ((wsH f.hd).map V.str)) := upd_same
    generalize upd H1 t2 (.tup ([V.str "hidden"] ++ f.hd.map V.str)) = H2 at k2 e2 ⊢
    refine ⟨blank, t2, wsH f.hd, rfl, rfl, .inr (SqT.of e2), ?_, ?_⟩
    · have a := sum_len (ws := wsH f.hd) fun z hz => Nat.le_trans (ch z hz).2.1 (by decide)
      have c : blank.length = 1 := by decide +kernel
      rw [c]
      omega
    refine ⟨by show 1 ≤ sizeLine; decide, fun al nal => ?_⟩
    have k3 : Gr H (upd H2 al (.lst [.str (rowH f.hd)])) := k1.trans (k2.trans (Gr.new nal))
    have nH : H al = none := k1.back al (k2.back al nal)
    have e3 : upd H2 al (.lst [.str (rowH f.hd)]) al = some (.lst [.str (rowH f.hd)]) := upd_same
    rw [show Txt.join blank (wsH f.hd) = rowH f.hd from rfl]
    generalize upd H2 al (.lst [.str (rowH f.hd)]) = H3 at k3 e3 ⊢
    refine ⟨_, rfl, p, _, 1, _, rfl, rfl, k3.sqt hp, rfl, pd, rfl, ⟨_, k3.sqt hpd⟩, ?_⟩
    refine for_it (walk_tup (xs := xs)) (fun j σ H4 => ∃ (y2 y3 y4 : Option V), σ = [some (.ref p), some (.ref al), y2, y3, y4, none] ∧ Gr H H4 ∧ H4 al = some (.lst (((rowsF f).take (j + 1)).map V.str)))
      ⟨none, none, none, rfl, k3, e3⟩ ?w1 ?w2 ?w3
    case w1 =>
      rintro j σ H4 hj ⟨y2, y3, y4, rfl, g4, e4⟩
      exact g4.sqt hpd
    case w3 =>
      rintro σ H4 ⟨y2, y3, y4, rfl, g4, e4⟩
      have fl : (rowsF f).length = f.ds.length + 1 := by
        show (f.ds.map rowD).length + 1 = _
        rw [List.length_map]
      rw [lx, ← fl, List.take_length] at e4
      exact ⟨_, rfl, q H4 al g4 nH e4⟩
    case w2 =>
      rintro j b σ H4 H5 hj ⟨y2, y3, y4, rfl, g4, e4⟩ ⟨rfl, hb⟩
      have hk : f.ds[j]? = some f.ds[j] := List.getElem?_eq_getElem (by omega)
      generalize f.ds[j] = e at hk
      have gd := go.ok e (List.mem_of_getElem? hk)
      obtain ⟨b', hb3, db⟩ := dpA_get dd (i := j) (d := e.d) (by rw [List.getElem?_map, hk]; rfl)
      have hb2 : xs[j]? = some b := hb
      rw [hb2] at hb3
      cases hb3
      obtain ⟨pe, y0, y1, yv, rfl, hpe, dn, dt, dv⟩ := dp_3 (g4.kd.dp db)
      cases dp_str dn
      cases dp_kn dv
      obtain ⟨tp, ts, rfl, htp, dts⟩ := dp_tup dt
      cases dpA_kns dts
      refine ⟨pe, _, rfl, hpe, rfl, _, _, rfl, _, _, rfl, _, [], rfl, rfl, ?_⟩
      have tk3 := gd.len
      refine ⟨_, rfl, .inl ⟨rfl, _, .inl (.inl e4)⟩, ⟨_, rfl⟩, _, rfl, by show 1 ≤ sizeLine; decide, fun l1 n1 => ?_⟩
      have q1 : Gr H5 (upd H5 l1 (.lst [.str e.nm])) := Gr.new n1
      have f1 : upd H5 l1 (.lst [.str e.nm]) l1 = some (.lst [.str e.nm]) := upd_same
      generalize upd H5 l1 (.lst [.str e.nm]) = H6 at q1 f1 ⊢
      refine ⟨_, rfl, tp, rfl, ⟨_, q1.sqt htp⟩, fun D nD => ?_⟩
      have gD : ∀ ys, Gr H6 (upd H6 D (.lst ys)) := fun ys => Gr.new nD
      refine lc_it (walk_tup (xs := e.tk.map Kn.v)) (fun i H2 => H2 = upd H6 D (.lst (((e.tk.take i).map kS).map V.str))) rfl ?c0 ?c1 ?c2
      case c0 =>
        rintro i H2 hi rfl
        exact (gD _).sqt (q1.sqt htp)
      case c1 =>
        rintro i y H2 H2' hi rfl ⟨rfl, hy⟩
        have hy2 : (e.tk.map Kn.v)[i]? = some y := hy
        rw [List.getElem?_map] at hy2
        obtain ⟨kn, hkn, rfl⟩ := Option.map_eq_some_iff.mp hy2
        refine ⟨rfl, ?_⟩
        unfold tYes
        have T : ∀ (H : Hp) (Q : VK), Q (.str (kS kn)) H → rStrX [kn.v] H Q := fun H Q q => str_kn (gd.tk kn (List.mem_of_getElem? hkn)) q
        refine iteT ⟨_, rfl, ?_⟩
        delta tNil
        refine T _ _ ?_
        refine ⟨_, upd_same, ?_, ?_⟩
        · rw [List.length_map, List.length_map, List.length_take]
          exact small1000 (by omega)
        · rw [upd_upd, List.take_add_one, hkn, List.map_append, List.map_append]
          rfl
      case c2 =>
      rintro H2 rfl
      rw [List.length_map, List.take_length]
      refine ⟨l1, D, _, _, rfl, rfl, (gD _).lst f1, upd_same, ?_, fun l2 n2 => ?_⟩
      · simp only [List.length_cons, List.length_map, List.length_nil]
        exact Nat.le_of_lt (small1000 (by omega))
      have q2 : Gr H5 (upd (upd H6 D (.lst ((e.tk.map kS).map V.str))) l2 (.lst ([V.str e.nm] ++ (e.tk.map kS).map V.str))) := q1.trans ((gD _).trans (Gr.new n2))
      have f2 : upd (upd H6 D (.lst ((e.tk.map kS).map V.str))) l2 (.lst ([V.str e.nm] ++ (e.tk.map kS).map V.str)) l2 = some (.lst ([V.str e.nm] ++ (e.tk.map kS).map V.str)) := upd_same
      generalize upd (upd H6 D (.lst ((e.tk.map kS).map V.str))) l2 (.lst ([V.str e.nm] ++ (e.tk.map kS).map V.str)) = H7 at q2 f2 ⊢
      have T : ∀ (H : Hp) (Q : VK), Q (.str (kS e.gv)) H → rStrX [e.gv.v] H Q := fun H Q q => str_kn gd.gv q
      refine ⟨_, rfl, ?_⟩
      delta tNil
      refine T _ _ ?_
      refine ⟨by show 2 ≤ sizeLine; decide, fun l3 n3 => ?_⟩
      have q3 : Gr H7 (upd H7 l3 (.lst [.str ":", .str (kS e.gv)])) := Gr.new n3
      refine ⟨l2, l3, _, _, rfl, rfl, q3.lst f2, upd_same, ?_, fun l4 n4 => ?_⟩
      · simp only [List.length_append, List.length_cons, List.length_map, List.length_nil]
        exact Nat.le_of_lt (small1000 (by omega))
      have q4 : Gr (upd H7 l3 (.lst [.str ":", .str (kS e.gv)])) (upd (upd H7 l3 (.lst [.str ":", .str (kS e.gv)])) l4 (.lst (([V.str e.nm] ++ (e.tk.map kS).map V.str) ++ [.str ":", .str (kS e.gv)]))) := Gr.new n4
      have ws : ([V.str e.nm] ++ (e.tk.map kS).map V.str) ++ [V.str ":", .str (kS e.gv)] = (wsD e).map V.str := by
        unfold wsD
        rw [List.map_cons, List.map_append]
        rfl
      have cl := clean_wsD hn gd
      have f4 : upd (upd H7 l3 (.lst [.str ":", .str (kS e.gv)])) l4 (.lst (([V.str e.nm] ++ (e.tk.map kS).map V.str) ++ [.str ":", .str (kS e.gv)])) l4 = some (.lst ((wsD e).map V.str)) := by rw [upd_same, ws]
      refine ⟨blank, l4, wsD e, rfl, rfl, .inl (.inl (.inl f4)), ?_, ?_⟩
      · have a := sum_len (ws := wsD e) fun z hz => Nat.le_trans (cl z hz).2.1 (by decide)
        have b := wsD_len gd
        have c : blank.length = 1 := by decide +kernel
        rw [c]
        omega
      have q5 := q2.trans (q3.trans q4)
      have e5 := q5.lst e4
      refine ⟨al, _, _, rfl, rfl, e5, ?_, ?_⟩
      · rw [List.length_map, List.length_take]
        exact small1000 (by omega)
      · refine ⟨_, _, _, rfl, (g4.trans q5).upd_new nH, ?_⟩
        have hr : (rowsF f)[j + 1]? = some (rowD e) := by
          show (f.ds.map rowD)[j]? = _
          rw [List.getElem?_map, hk]
          rfl
        rw [upd_same, List.take_add_one (i := j + 1), hr, List.map_append]
        rfl
end
end SfC
/-! the law's own text of a program -/
namespace SfC
open PySem PySem.Spec PyProof.Rows L2 SfG
abbrev nLText : List Str := ["_law_program_here", "_law_rows", "_law_label", "_law_face_here", "_law_row", "_law_many", "_law_args", "_law_kind", "_law_arg"]
theorem scLText : FnScope nLText ["_law_program_here"] (defScope sTextP) := ⟨rfl, rfl, rfl, by decide +kernel, rfl, by decide +kernel, by decide +kernel⟩
def kvM : List (Key × V) := [(Sum.inr ("let" : Str), .int 4), (Sum.inr ("pick" : Str), .int 2), (Sum.inr ("say" : Str), .int 1)]
theorem dpA_intsV {K : PySem.W.Frag} {H : Hp} : ∀ {is : List Int} {xs : List V}, DpAll K H xs (is.map PyData.int) → xs = is.map V.int
  | [], xs, h => dpA_nil h
  | i :: r, xs, h => by
    obtain ⟨x, ys, rfl, hx, hr⟩ := dpA_cons h
    rw [dp_int hx, dpA_intsV hr]
    rfl
theorem dp_tup' {K : PySem.W.Frag} {H : Hp} {v : V} {r : Ro} (h : Dp K H v r.d) : ∃ p xs, v = .ref p ∧ SqT K H p xs ∧ Dp K H v r.d := by
  cases r <;> (obtain ⟨p, xs, e, h1, _⟩ := dp_tup h; exact ⟨p, xs, e, h1, h⟩)
theorem nz3 {n : Nat} (h : 2 ≤ n) {Q : Prop} : ¬ (HT.sIx n 0 (some 2) = 0 ∧ Q) := by
  rw [show HT.sIx n 0 (some 2) = min 2 n from HT.sIx_nat n 0 2]
  omega
theorem nz2 {n m : Nat} (h : m < n) {Q : Prop} : ¬ (Q ∧ HT.sIx n n (some (m : Int)) = n) := by
  rw [HT.sIx_nat]
  omega
section
variable {P : Program} {w : World} {K : PySem.W.Frag} {mg : Str → Option Value} {base : Heap}
def spLText (K : PySem.W.Frag) : Sp := fun vs H Q _ => ∃ (v : V) (p : Pg), vs = [v] ∧ Dp K H v p.d ∧ goP p ∧ ∀ H', Gr H H' → Q (.str (textP p)) H'
set_option maxHeartbeats 1000000 in
theorem ok_lText {f fF fA : Addr} {fd dF dA : FuncData} {k : Nat} (F : Fun K "_law_text" "_law_text" sTextP f fd) (HF : Has P w K mg base k "_law_face_rows" ["_law_face_here"] (spFRows K) fF dF)
    (HA : Has P w K mg base k "_law_arg_word" ["_law_arg"] (spArgT K) fA dA) (m1 : mg "str" = none) (ml : mg "list" = none) : FnOk P w K mg base CX0 (k + 1) f fd ["_law_program_here"] (spLText K) := by
  refine F.ok scLText (fun vs H Q E h => ?_) (fun cdv A outer s H vs Q E hr h => ?_)
  · obtain ⟨v, p, rfl, _⟩ := h
    rfl
  · obtain ⟨v, p, rfl, hv, fo, q⟩ := h
    have nd := scLText.nd
    refine' ⟨_, pss_cons ?s1 (pss_cons ?s2 (pss_cons ?s3 (pss_cons ?s4 (pss_one ?s5)))), ?rd⟩
    case s1 => exact ps_set (i := 1) nd rfl (.inl rfl) (pe_lst pa_nil)
    case s2 =>
      exact ps_for PassesOwn.never rfl (pi_tup (pe_ix ix_tup (pv 0) pe_int (fun _ _ => rfl))) (pg_tup rfl (pgs_cons (pg_name (i := 2) nd rfl (.inl rfl)) (pgs_cons (pg_name (i := 3) nd rfl (.inl rfl)) pgs_nil)))
        (pss_one (ps_set (i := 1) nd rfl (.inl rfl) (pe_op op_cat (pe_op op_cat (pv 1) (pe_lst (pa_cons (pe_op op_add_str pe_str (pv 2)) pa_nil))) (hcall HF hr (pa_cons (pv 3) pa_nil)))))
    case s3 =>
      exact ps_expr (pe_bm PySem.F.plainAttrs_list PySem.F.slot_list_append PySem.F.type_list_append mt_append (pv 1) (pa_cons (pe_join pe_str (pe_op op_cat (pe_lst (pa_cons pe_str pa_nil)) (pe_lc (own := [("_law_kind", 7)]) (g := gName 7) rfl nd (pi_tup (pe_ix ix_tup (pv 0) pe_int (fun _ _ => rfl)))
        (blkOk_by (own := [("_law_kind", 7)]) (N := nLText) (sc := defScope sTextP) (by decide +kernel)) (fun _ _ _ _ _ => pg_name (i := 7) nd rfl (.inl rfl)) (fun _ _ _ _ _ => pts_nil) (fun _ _ _ _ _ => pe_callTy call_strX (by rfl) m1 (by decide +kernel) (pa_cons (pv 7) pa_nil))))) pa_nil))
    case s4 =>
      refine' ps_for PassesOwn.never rfl (pi_tup (pe_ix ix_tup (pv 0) pe_int (fun _ _ => rfl))) (pg_name (i := 4) nd rfl (.inl rfl)) (pss_cons ?b1 (pss_cons ?b2 (pss_one ?b3)))
      case b1 => exact ps_set (i := 5) nd rfl (.inl rfl) (pe_dget (hu_of hr) (pe_disp (pps_cons pe_str pe_int (pps_cons pe_str pe_int (pps_cons pe_str pe_int pps_nil))) (by rfl) (by rfl) (fun z => by cases z) (by decide)) (pe_ix ix_tup (pv 4) pe_int (fun _ _ => rfl)) (fun _ _ => rfl))
      case b2 => exact ps_set (i := 6) nd rfl (.inl rfl) (pe_ifExp (pt_cmpR op_eq (pe_ix ix_tup (pv 4) pe_int (fun _ _ => rfl)) pe_str (nomark _)) (pe_ix ix_tup (pv 4) pe_int (fun _ _ => rfl)) (pe_slice sl_tup (pv 4) (po_some (pv 5)) po_none))
      case b3 =>
        exact ps_expr (pe_bm PySem.F.plainAttrs_list PySem.F.slot_list_append PySem.F.type_list_append mt_append (pv 1) (pa_cons (pe_join pe_str (pe_op op_cat (pe_callTy call_list_of (by rfl) ml (by decide +kernel) (pa_cons (pe_slice sl_tup (pv 4) po_none (po_some (pv 5))) pa_nil)) (pe_lc (own := [("_law_arg", 8)]) (g := gName 8) rfl nd (pi_tup (pv 6))
          (blkOk_by (own := [("_law_arg", 8)]) (N := nLText) (sc := defScope sTextP) (by decide +kernel)) (fun _ _ _ _ _ => pg_name (i := 8) nd rfl (.inl rfl)) (fun _ _ _ _ _ => pts_nil) (fun _ _ _ _ _ => hcall HA hr (pa_cons (pv 8) pa_nil))))) pa_nil))
    case s5 => exact ps_ret (pe_join pe_str (pv 1))
    case rd =>
    obtain ⟨q0, xs0, rfl, hq0, dxs⟩ := dp_tup hv
    obtain ⟨vu, xs0, rfl, du, dxs⟩ := dpA_cons dxs
    obtain ⟨vi, xs0, rfl, di, dxs⟩ := dpA_cons dxs
    obtain ⟨vr, xs0, rfl, dr, dxs⟩ := dpA_cons dxs
    cases dpA_nil dxs
    obtain ⟨qu, us, rfl, hqu, dus⟩ := dp_tup du
    obtain ⟨qi, is', rfl, hqi, dis⟩ := dp_tup di
    obtain ⟨qr, rs, rfl, hqr, drs⟩ := dp_tup dr
    have eis : is' = p.is.map V.int := dpA_intsV dis
    subst eis
    have lu : us.length = p.us.length := by
      have := dpA_len dus
      rw [List.length_map] at this
      exact this
    have lr : rs.length = p.rs.length := by
      have := dpA_len drs
      rw [List.length_map] at this
      exact this
    have u4 := fo.u4
    have i3 := fo.i3
    have r30 := fo.r30
    have rowsUs_le : ∀ j, (rowsUs (p.us.take j)).length ≤ 40 := fun j => by
      have := rowsUs_len (us := p.us.take j) fun u hu => (fo.uN u (List.mem_of_mem_take hu)).2
      rw [List.length_take] at this
      omega
    refine ⟨Nat.zero_le _, fun al0 nal0 => ?_⟩
    have k0 : Gr H (upd H al0 (.lst [])) := Gr.new nal0
    have e0 : upd H al0 (.lst []) al0 = some (.lst []) := upd_same
    generalize upd H al0 (.lst []) = H0 at k0 e0 ⊢
    refine ⟨_, rfl, q0, _, 0, _, rfl, rfl, k0.sqt hq0, rfl, qu, rfl, ⟨_, k0.sqt hqu⟩, ?_⟩
    refine for_it (walk_tup (xs := us)) (fun j σ H4 => ∃ (al : Addr) (y2 y3 : Option V), σ = [some (.ref q0), some (.ref al), y2, y3, none, none, none, none, none] ∧ Gr H H4 ∧ H4 al = some (.lst ((rowsUs (p.us.take j)).map V.str)) ∧ H al = none)
      ⟨al0, none, none, rfl, k0, e0, nal0⟩ ?w1 ?w2 ?w3
    case w1 =>
      rintro j σ H4 hj ⟨al, y2, y3, rfl, g4, e4, _⟩
      exact g4.sqt hqu
    case w2 =>
      rintro j b σ H4 H5 hj ⟨al, y2, y3, rfl, g4, e4, nal⟩ ⟨rfl, hb⟩
      have hk : p.us[j]? = some p.us[j] := List.getElem?_eq_getElem (by omega)
      generalize p.us[j] = u at hk
      obtain ⟨b', hb3, db⟩ := dpA_get dus (i := j) (d := u.d) (by rw [List.getElem?_map, hk]; rfl)
      have hb2 : us[j]? = some b := hb
      rw [hb2] at hb3
      cases hb3
      obtain ⟨un1, un2⟩ := fo.uN u (List.mem_of_getElem? hk)
      obtain ⟨q1, y0, y1, rfl, hq, dy0, dy1⟩ := dp_2 (g4.kd.dp db)
      cases dp_str dy0
      refine ⟨q1, _, rfl, hq, rfl, _, _, rfl, _, [], rfl, rfl, ?_⟩
      have l40 := rowsUs_le j
      have cu := (isN_txt un1).1
      have eU : ("use " : Str) ++ u.lb = rowU u.lb := by
        have e2 : ("use " : Str) = ("use" : Str) ++ blank := by decide +kernel
        rw [e2]
        show _ = Txt.join blank ([("use" : Str)] ++ [u.lb])
        rw [join_snoc _ _ (by simp), join_one]
      refine ⟨_, rfl, _, rfl, _, _, rfl, rfl, ?_, ?_⟩
      · have : ("use " : Str).length = 4 := by decide +kernel
        rw [this, sizeLine_eq]
        omega
      rw [eU]
      refine ⟨by show 1 ≤ sizeLine; decide, fun l1 n1 => ?_⟩
      have q1' : Gr H5 (upd H5 l1 (.lst [.str (rowU u.lb)])) := Gr.new n1
      refine ⟨al, l1, _, _, rfl, rfl, q1'.lst e4, upd_same, ?_, fun l2 n2 => ?_⟩
      · rw [List.length_map, List.length_singleton]
        exact Nat.le_of_lt (small1000 (by omega))
      have q2 : Gr H5 (upd (upd H5 l1 (.lst [.str (rowU u.lb)])) l2 (.lst ((rowsUs (p.us.take j)).map V.str ++ [.str (rowU u.lb)]))) := q1'.trans (Gr.new n2)
      have f2 : upd (upd H5 l1 (.lst [.str (rowU u.lb)])) l2 (.lst ((rowsUs (p.us.take j)).map V.str ++ [.str (rowU u.lb)])) l2 = some (.lst ((rowsUs (p.us.take j)).map V.str ++ [.str (rowU u.lb)])) := upd_same
      generalize upd (upd H5 l1 (.lst [.str (rowU u.lb)])) l2 (.lst ((rowsUs (p.us.take j)).map V.str ++ [.str (rowU u.lb)])) = H6 at q2 f2 ⊢
      have f9 := rowsF_len un2
      refine ⟨_, rfl, y1, u.fc, rfl, q2.kd.dp dy1, un2, fun H7 pz g7 npz e7 => ⟨l2, pz, _, _, rfl, rfl, g7.lst f2, e7, ?_, fun l3 n3 => ?_⟩⟩
      · rw [List.length_append, List.length_map, List.length_map, List.length_singleton]
        exact Nat.le_of_lt (small1000 (by omega))
      refine ⟨l3, _, _, rfl, g4.trans (q2.trans (g7.trans (Gr.new n3))), ?_, g4.back l3 (q2.back l3 (g7.back l3 n3))⟩
      rw [upd_same, rowsUs_take hk, List.map_append]
      show some (HO.lst ((_ ++ [V.str (rowU u.lb)]) ++ _)) = some (HO.lst (_ ++ (V.str (rowU u.lb) :: (rowsF u.fc).map V.str)))
      rw [List.append_assoc]
      rfl
    case w3 =>
      rintro σ H4 ⟨al, y2, y3, rfl, g4, e4, nal⟩
      rw [lu, List.take_length] at e4
      have l40 : (rowsUs p.us).length ≤ 40 := by
        have := rowsUs_le p.us.length
        rw [List.take_length] at this
        exact this
      refine ⟨_, rfl, .inl ⟨rfl, _, .inl (.inl e4)⟩, ⟨_, rfl⟩, by show 1 ≤ sizeLine; decide, fun l1 n1 => ?_⟩
      have k5 : Gr H4 (upd H4 l1 (.lst [.str "inputs"])) := Gr.new n1
      have e5 : upd H4 l1 (.lst [.str "inputs"]) l1 = some (.lst [.str "inputs"]) := upd_same
      generalize upd H4 l1 (.lst [.str "inputs"]) = H5 at k5 e5 ⊢
      have g5 := g4.trans k5
      refine ⟨_, rfl, q0, _, 1, _, rfl, rfl, g5.sqt hq0, rfl, qi, rfl, ⟨_, g5.sqt hqi⟩, fun D nD => ?_⟩
      have gD : ∀ ys, Gr H5 (upd H5 D (.lst ys)) := fun ys => Gr.new nD
      refine lc_it (walk_tup (xs := p.is.map V.int)) (fun i H2 => H2 = upd H5 D (.lst (((p.is.take i).map fun j => kS (.p j)).map V.str))) rfl ?c0 ?c1 ?c2
      case c0 =>
        rintro i H2 hi rfl
        exact (gD _).sqt (g5.sqt hqi)
      case c1 =>
        rintro i y H2 H2' hi rfl ⟨rfl, hy⟩
        have hy2 : (p.is.map V.int)[i]? = some y := hy
        rw [List.getElem?_map] at hy2
        obtain ⟨m, hm, rfl⟩ := Option.map_eq_some_iff.mp hy2
        obtain ⟨m2, m9⟩ := fo.iN m (List.mem_of_getElem? hm)
        refine ⟨rfl, ?_⟩
        unfold tYes
        have lm : m.natAbs.log2 < 1920 := by
          obtain ⟨n, rfl⟩ : ∃ n : Nat, m = (n : Int) := ⟨m.toNat, by omega⟩
          exact log_9 n (by omega)
        refine iteT ⟨_, rfl, .inr ⟨m, rfl, lm, ?_⟩⟩
        rw [str_kind m2 m9]
        refine ⟨_, upd_same, ?_, ?_⟩
        · rw [List.length_map, List.length_map, List.length_take]
          exact small1000 (by omega)
        · rw [upd_upd, List.take_add_one, hm, List.map_append, List.map_append]
          rfl
      case c2 =>
      rintro H2 rfl
      rw [List.length_map, List.take_length]
      have cl := clean_wsI fo.iN
      have lI : (wsI p.is).length ≤ 4 := by
        simp only [wsI, List.length_cons, List.length_map]
        omega
      refine ⟨l1, D, _, _, rfl, rfl, (gD _).lst e5, upd_same, ?_, fun pz npz => ?_⟩
      · simp only [List.length_cons, List.length_map, List.length_nil]
        exact Nat.le_of_lt (small1000 (by omega))
      refine ⟨blank, pz, wsI p.is, rfl, rfl, .inl (.inl (.inl upd_same)), ?_, ?_⟩
      · have a := sum_len (ws := wsI p.is) fun z hz => Nat.le_trans (cl z hz).2.1 (by decide)
        have c : blank.length = 1 := by decide +kernel
        rw [c]
        omega
      have k6 : Gr H4 (upd (upd H5 D (.lst ((p.is.map fun j => kS (.p j)).map V.str))) pz (.lst ([V.str "inputs"] ++ (p.is.map fun j => kS (.p j)).map V.str))) := k5.trans ((gD _).trans (Gr.new npz))
      generalize upd (upd H5 D (.lst ((p.is.map fun j => kS (.p j)).map V.str))) pz (.lst ([V.str "inputs"] ++ (p.is.map fun j => kS (.p j)).map V.str)) = H6 at k6 ⊢
      have e6 := k6.lst e4
      refine ⟨al, _, _, rfl, rfl, e6, by rw [List.length_map]; exact small1000 (by omega), ?_⟩
      have g7 : Gr H (upd H6 al (.lst ((rowsUs p.us).map V.str ++ [.str (rowI p.is)]))) := (g4.trans k6).upd_new nal
      have e7 : upd H6 al (.lst ((rowsUs p.us).map V.str ++ [.str (rowI p.is)])) al = some (.lst ((rowsUs p.us).map V.str ++ [.str (rowI p.is)])) := upd_same
      rw [show Txt.join blank (wsI p.is) = rowI p.is from rfl]
      generalize upd H6 al (.lst ((rowsUs p.us).map V.str ++ [.str (rowI p.is)])) = H7 at g7 e7 ⊢
      refine ⟨_, rfl, q0, _, 2, _, rfl, rfl, g7.sqt hq0, rfl, qr, rfl, ⟨_, g7.sqt hqr⟩, ?_⟩
      refine for_it (walk_tup (xs := rs)) (fun j σ H8 => ∃ (y2 y3 y4 y5 y6 : Option V), σ = [some (.ref q0), some (.ref al), y2, y3, y4, y5, y6, none, none] ∧ Gr H H8 ∧ H8 al = some (.lst (((rowsUs p.us ++ [rowI p.is]) ++ (p.rs.take j).map rowR).map V.str)))
        ⟨_, _, none, none, none, rfl, g7, by rw [e7]; simp⟩ ?v1 ?v2 ?v3
      case v1 =>
        rintro j σ H8 hj ⟨z2, z3, z4, z5, z6, rfl, g8, e8⟩
        exact g8.sqt hqr
      case v2 =>
        rintro j b σ H8 H9 hj ⟨z2, z3, z4, z5, z6, rfl, g8, e8⟩ ⟨rfl, hb⟩
        have hk : p.rs[j]? = some p.rs[j] := List.getElem?_eq_getElem (by omega)
        generalize p.rs[j] = r at hk
        have gr := fo.rN r (List.mem_of_getElem? hk)
        obtain ⟨b', hb3, db⟩ := dpA_get drs (i := j) (d := r.d) (by rw [List.getElem?_map, hk]; rfl)
        have hb2 : rs[j]? = some b := hb
        rw [hb2] at hb3
        cases hb3
        intro sz nsz
        refine ⟨upd_same, kvM, rfl, by decide, ?_⟩
        have k1 : Gr H9 (upd (upd H9 sz (.dK [])) sz (.dK (mergeK [] kvM))) := gr_new2 nsz
        have hsz : upd (upd H9 sz (.dK [])) sz (.dK (mergeK [] kvM)) sz = some (.dK kvM) := upd_same
        generalize upd (upd H9 sz (.dK [])) sz (.dK (mergeK [] kvM)) = G1 at k1 hsz ⊢
        have db1 := (g8.trans k1).kd.dp db
        have eG := k1.lst e8
        have gG := g8.trans k1
        clear k1 e8 g8
        obtain ⟨pb, xb, rfl, hpb, dxb⟩ := dp_tup' db1
        clear hpb xb
        cases r with
        | l nm lb dd as =>
          obtain ⟨p9, xs9, e, hpb, dx9⟩ := dp_tup dxb
          cases e
          obtain ⟨v0, xs9, rfl, d0, dx9⟩ := dpA_cons dx9
          obtain ⟨v1, xs9, rfl, d1, dx9⟩ := dpA_cons dx9
          obtain ⟨v2, xs9, rfl, d2, dx9⟩ := dpA_cons dx9
          obtain ⟨v3, xs9, rfl, d3, dx9⟩ := dpA_cons dx9
          obtain ⟨v4, xs9, rfl, d4, dx9⟩ := dpA_cons dx9
          cases dpA_nil dx9
          cases dp_str d0
          cases dp_str d1
          cases dp_str d2
          cases dp_str d3
          obtain ⟨ta, vsN, rfl, hta, dva⟩ := dp_tup d4
          have dg : DGet G1 sz (.str "let") (some (.int 4)) := DGet.k (k := Sum.inr "let") hsz
          refine ⟨_, rfl, pb, _, 0, _, rfl, rfl, hpb, rfl, sz, .int 4, rfl, dg, ?_⟩
          refine ⟨_, rfl, pb, _, 0, _, rfl, rfl, hpb, rfl, rfl, _, rfl, ?_⟩
          rw [decide_eq_true rfl]
          refine iteT ⟨_, rfl, pb, _, 4, _, rfl, rfl, hpb, rfl, ?_⟩
          have k2 : Gr G1 G1 := Gr.refl G1
          have gaN : ∀ x ∈ as, goA x := gr.2.2.2.2
          have a3 : as.length ≤ 3 := gr.2.2.2.1
          refine ⟨_, rfl, .inl ⟨rfl, _, .inl (.inl (k2.lst eG))⟩, ⟨_, rfl⟩, ?_⟩
          refine ⟨_, rfl, _, rfl, 4, rfl, pb, _, rfl, k2.sqt hpb, nz2 (n := [V.str ("let" : Str), V.str nm, V.str lb, V.str dd, V.ref ta].length) (m := 4) (by simp), fun t2 nt2 => ?_⟩
          rw [show cutV [V.str ("let" : Str), V.str nm, V.str lb, V.str dd, V.ref ta] none (some 4) = [V.str ("let" : Str), V.str nm, V.str lb, V.str dd] from (cutV_til [V.str ("let" : Str), V.str nm, V.str lb, V.str dd, V.ref ta] (n := 4) (by simp)).trans (by simp)]
          refine ⟨t2, _, rfl, .inr (SqT.of upd_same), fun l2 n2 => ?_⟩
          have k3 : Gr G1 (upd (upd G1 t2 (.tup [V.str ("let" : Str), V.str nm, V.str lb, V.str dd])) l2 (.lst [V.str ("let" : Str), V.str nm, V.str lb, V.str dd])) := (Gr.new nt2).trans (Gr.new n2)
          have f3 : upd (upd G1 t2 (.tup [V.str ("let" : Str), V.str nm, V.str lb, V.str dd])) l2 (.lst [V.str ("let" : Str), V.str nm, V.str lb, V.str dd]) l2 = some (.lst [V.str ("let" : Str), V.str nm, V.str lb, V.str dd]) := upd_same
          generalize upd (upd G1 t2 (.tup [V.str ("let" : Str), V.str nm, V.str lb, V.str dd])) l2 (.lst [V.str ("let" : Str), V.str nm, V.str lb, V.str dd]) = G3 at k3 f3 ⊢
          have hta3 : SqT K G3 ta vsN := k3.sqt hta
          have dvG : DpAll K G3 vsN (as.map Ag.d) := (k2.trans k3).kd.dpA dva
          have lv : vsN.length = as.length := by
            have := dpA_len dvG
            rw [List.length_map] at this
            exact this
          refine ⟨_, rfl, ta, rfl, ⟨_, hta3⟩, fun D nD => ?_⟩
          have gD : ∀ ys, Gr G3 (upd G3 D (.lst ys)) := fun ys => Gr.new nD
          refine lc_it (walk_tup (xs := vsN)) (fun i H2 => H2 = upd G3 D (.lst (((as.take i).map wA).map V.str))) rfl ?d0 ?d1 ?d2
          case d0 =>
            rintro i H2 hi rfl
            exact (gD _).sqt hta3
          case d1 =>
            rintro i y H2 H2' hi rfl ⟨rfl, hy⟩
            have hka : as[i]? = some as[i] := List.getElem?_eq_getElem (by omega)
            generalize as[i] = a9 at hka
            obtain ⟨y', hy', dy⟩ := dpA_get dvG (i := i) (d := a9.d) (by rw [List.getElem?_map, hka]; rfl)
            have hy2 : vsN[i]? = some y := hy
            rw [hy2] at hy'
            cases hy'
            refine ⟨rfl, ?_⟩
            unfold tYes
            refine iteT ⟨_, rfl, y, a9, rfl, (gD _).kd.dp dy, gaN a9 (List.mem_of_getElem? hka), _, upd_same, ?_, ?_⟩
            · rw [List.length_map, List.length_map, List.length_take]
              exact small1000 (by omega)
            · rw [upd_upd, List.take_add_one, hka, List.map_append, List.map_append]
              rfl
          case d2 =>
          rintro H2 rfl
          rw [lv, List.take_length]
          have ws : [V.str ("let" : Str), V.str nm, V.str lb, V.str dd] ++ (as.map wA).map V.str = (wsR (.l nm lb dd as)).map V.str := by simp [wsR]
          refine ⟨l2, D, _, _, rfl, rfl, (gD _).lst f3, upd_same, ?_, fun pz npz => ?_⟩
          · simp only [List.length_cons, List.length_map, List.length_nil]
            exact Nat.le_of_lt (small1000 (by omega))
          have k4 : Gr G3 (upd (upd G3 D (.lst ((as.map wA).map V.str))) pz (.lst ([V.str ("let" : Str), V.str nm, V.str lb, V.str dd] ++ (as.map wA).map V.str))) := (gD _).trans (Gr.new npz)
          have f4 : upd (upd G3 D (.lst ((as.map wA).map V.str))) pz (.lst ([V.str ("let" : Str), V.str nm, V.str lb, V.str dd] ++ (as.map wA).map V.str)) pz = some (.lst ((wsR (.l nm lb dd as)).map V.str)) := by rw [upd_same, ws]
          generalize upd (upd G3 D (.lst ((as.map wA).map V.str))) pz (.lst ([V.str ("let" : Str), V.str nm, V.str lb, V.str dd] ++ (as.map wA).map V.str)) = G4 at k4 f4 ⊢
          refine ⟨blank, pz, wsR (.l nm lb dd as), rfl, rfl, .inl (.inl (.inl f4)), ?_, ?_⟩
          · have a := sum_len (ws := wsR (.l nm lb dd as)) fun z hz => Nat.le_trans (clean_wsR gr z hz).2.1 (by decide)
            have b := wsR_len gr
            have c : blank.length = 1 := by decide +kernel
            rw [c]
            omega
          have kk := k2.trans (k3.trans k4)
          refine ⟨al, _, _, rfl, rfl, kk.lst eG, ?_, ?_⟩
          · simp only [List.length_map, List.length_append, List.length_cons, List.length_nil, List.length_take]
            exact small1000 (by omega)
          refine ⟨_, _, _, _, _, rfl, (gG.trans kk).upd_new nal, ?_⟩
          rw [upd_same, List.take_add_one, hk]
          simp [rowR]
        | p nm a b c =>
          obtain ⟨p9, xs9, e, hpb, dx9⟩ := dp_tup dxb
          cases e
          obtain ⟨v0, xs9, rfl, d0, dx9⟩ := dpA_cons dx9
          obtain ⟨v1, xs9, rfl, d1, dx9⟩ := dpA_cons dx9
          obtain ⟨v2, xs9, rfl, d2, dx9⟩ := dpA_cons dx9
          obtain ⟨v3, xs9, rfl, d3, dx9⟩ := dpA_cons dx9
          obtain ⟨v4, xs9, rfl, d4, dx9⟩ := dpA_cons dx9
          cases dpA_nil dx9
          cases dp_str d0
          cases dp_str d1
          have dg : DGet G1 sz (.str "pick") (some (.int 2)) := DGet.k (k := Sum.inr "pick") hsz
          refine ⟨_, rfl, pb, _, 0, _, rfl, rfl, hpb, rfl, sz, .int 2, rfl, dg, ?_⟩
          refine ⟨_, rfl, pb, _, 0, _, rfl, rfl, hpb, rfl, rfl, _, rfl, ?_⟩
          rw [decide_eq_false (by decide +kernel)]
          refine iteF ⟨_, rfl, _, rfl, 2, rfl, pb, _, rfl, hpb, nz3 (n := [V.str ("pick" : Str), V.str nm, v2, v3, v4].length) (by simp), fun ta nta => ?_⟩
          rw [show cutV [V.str ("pick" : Str), V.str nm, v2, v3, v4] (some 2) none = [v2, v3, v4] from (cutV_fr [V.str ("pick" : Str), V.str nm, v2, v3, v4] (n := 2) (by simp)).trans (by simp)]
          have k2 : Gr G1 (upd G1 ta (.tup [v2, v3, v4])) := Gr.new nta
          have eT : upd G1 ta (.tup [v2, v3, v4]) ta = some (.tup [v2, v3, v4]) := upd_same
          generalize upd G1 ta (.tup [v2, v3, v4]) = G2 at k2 eT ⊢
          have gaN : ∀ x ∈ [a, b, c], goA x := by
            intro x hx
            have hx' : x = a ∨ x = b ∨ x = c := by simpa using hx
            obtain ⟨_, g1, g2, g3⟩ := gr
            rcases hx' with rfl | rfl | rfl <;> assumption
          have a3 : [a, b, c].length ≤ 3 := by show 3 ≤ 3; decide
          have dva : DpAll K G1 [v2, v3, v4] ([a, b, c].map Ag.d) := .cons d2 (.cons d3 (.cons d4 .nil))
          refine ⟨_, rfl, .inl ⟨rfl, _, .inl (.inl (k2.lst eG))⟩, ⟨_, rfl⟩, ?_⟩
          refine ⟨_, rfl, _, rfl, 2, rfl, pb, _, rfl, k2.sqt hpb, nz2 (n := [V.str ("pick" : Str), V.str nm, v2, v3, v4].length) (m := 2) (by simp), fun t2 nt2 => ?_⟩
          rw [show cutV [V.str ("pick" : Str), V.str nm, v2, v3, v4] none (some 2) = [V.str ("pick" : Str), V.str nm] from (cutV_til [V.str ("pick" : Str), V.str nm, v2, v3, v4] (n := 2) (by simp)).trans (by simp)]
          refine ⟨t2, _, rfl, .inr (SqT.of upd_same), fun l2 n2 => ?_⟩
          have k3 : Gr G2 (upd (upd G2 t2 (.tup [V.str ("pick" : Str), V.str nm])) l2 (.lst [V.str ("pick" : Str), V.str nm])) := (Gr.new nt2).trans (Gr.new n2)
          have f3 : upd (upd G2 t2 (.tup [V.str ("pick" : Str), V.str nm])) l2 (.lst [V.str ("pick" : Str), V.str nm]) l2 = some (.lst [V.str ("pick" : Str), V.str nm]) := upd_same
          generalize upd (upd G2 t2 (.tup [V.str ("pick" : Str), V.str nm])) l2 (.lst [V.str ("pick" : Str), V.str nm]) = G3 at k3 f3 ⊢
          have hta3 : SqT K G3 ta [v2, v3, v4] := k3.sqt (SqT.of eT)
          have dvG : DpAll K G3 [v2, v3, v4] ([a, b, c].map Ag.d) := (k2.trans k3).kd.dpA dva
          have lv : [v2, v3, v4].length = [a, b, c].length := by
            have := dpA_len dvG
            rw [List.length_map] at this
            exact this
          refine ⟨_, rfl, ta, rfl, ⟨_, hta3⟩, fun D nD => ?_⟩
          have gD : ∀ ys, Gr G3 (upd G3 D (.lst ys)) := fun ys => Gr.new nD
          refine lc_it (walk_tup (xs := [v2, v3, v4])) (fun i H2 => H2 = upd G3 D (.lst ((([a, b, c].take i).map wA).map V.str))) rfl ?d0 ?d1 ?d2
          case d0 =>
            rintro i H2 hi rfl
            exact (gD _).sqt hta3
          case d1 =>
            rintro i y H2 H2' hi rfl ⟨rfl, hy⟩
            have hka : [a, b, c][i]? = some [a, b, c][i] := List.getElem?_eq_getElem (by omega)
            generalize [a, b, c][i] = a9 at hka
            obtain ⟨y', hy', dy⟩ := dpA_get dvG (i := i) (d := a9.d) (by rw [List.getElem?_map, hka]; rfl)
            have hy2 : [v2, v3, v4][i]? = some y := hy
            rw [hy2] at hy'
            cases hy'
            refine ⟨rfl, ?_⟩
            unfold tYes
            refine iteT ⟨_, rfl, y, a9, rfl, (gD _).kd.dp dy, gaN a9 (List.mem_of_getElem? hka), _, upd_same, ?_, ?_⟩
            · rw [List.length_map, List.length_map, List.length_take]
              exact small1000 (by omega)
            · rw [upd_upd, List.take_add_one, hka, List.map_append, List.map_append]
              rfl
          case d2 =>
          rintro H2 rfl
          rw [lv, List.take_length]
          have ws : [V.str ("pick" : Str), V.str nm] ++ ([a, b, c].map wA).map V.str = (wsR (.p nm a b c)).map V.str := by simp [wsR]
          refine ⟨l2, D, _, _, rfl, rfl, (gD _).lst f3, upd_same, ?_, fun pz npz => ?_⟩
          · simp only [List.length_cons, List.length_map, List.length_nil]
            exact Nat.le_of_lt (small1000 (by omega))
          have k4 : Gr G3 (upd (upd G3 D (.lst (([a, b, c].map wA).map V.str))) pz (.lst ([V.str ("pick" : Str), V.str nm] ++ ([a, b, c].map wA).map V.str))) := (gD _).trans (Gr.new npz)
          have f4 : upd (upd G3 D (.lst (([a, b, c].map wA).map V.str))) pz (.lst ([V.str ("pick" : Str), V.str nm] ++ ([a, b, c].map wA).map V.str)) pz = some (.lst ((wsR (.p nm a b c)).map V.str)) := by rw [upd_same, ws]
          generalize upd (upd G3 D (.lst (([a, b, c].map wA).map V.str))) pz (.lst ([V.str ("pick" : Str), V.str nm] ++ ([a, b, c].map wA).map V.str)) = G4 at k4 f4 ⊢
          refine ⟨blank, pz, wsR (.p nm a b c), rfl, rfl, .inl (.inl (.inl f4)), ?_, ?_⟩
          · have a := sum_len (ws := wsR (.p nm a b c)) fun z hz => Nat.le_trans (clean_wsR gr z hz).2.1 (by decide)
            have b := wsR_len gr
            have c : blank.length = 1 := by decide +kernel
            rw [c]
            omega
          have kk := k2.trans (k3.trans k4)
          refine ⟨al, _, _, rfl, rfl, kk.lst eG, ?_, ?_⟩
          · simp only [List.length_map, List.length_append, List.length_cons, List.length_nil, List.length_take]
            exact small1000 (by omega)
          refine ⟨_, _, _, _, _, rfl, (gG.trans kk).upd_new nal, ?_⟩
          rw [upd_same, List.take_add_one, hk]
          simp [rowR]
        | s a =>
          obtain ⟨_, v0, va, e, hpb, d0, da⟩ := dp_2 dxb
          cases e
          cases dp_str d0
          have dg : DGet G1 sz (.str "say") (some (.int 1)) := DGet.k (k := Sum.inr "say") hsz
          refine ⟨_, rfl, pb, _, 0, _, rfl, rfl, hpb, rfl, sz, .int 1, rfl, dg, ?_⟩
          refine ⟨_, rfl, pb, _, 0, _, rfl, rfl, hpb, rfl, rfl, _, rfl, ?_⟩
          rw [decide_eq_false (by decide +kernel)]
          refine iteF ⟨_, rfl, _, rfl, 1, rfl, pb, _, rfl, hpb, nz1 (by simp), fun ta nta => ?_⟩
          rw [cut_one]
          have k2 : Gr G1 (upd G1 ta (.tup [va])) := Gr.new nta
          have eT : upd G1 ta (.tup [va]) ta = some (.tup [va]) := upd_same
          generalize upd G1 ta (.tup [va]) = G2 at k2 eT ⊢
          have gaN : ∀ x ∈ [a], goA x := fun x hx => by
            have : x = a := by simpa using hx
            rw [this]
            exact gr
          have a3 : [a].length ≤ 3 := by show 1 ≤ 3; decide
          have dva : DpAll K G1 [va] ([a].map Ag.d) := .cons da .nil
          refine ⟨_, rfl, .inl ⟨rfl, _, .inl (.inl (k2.lst eG))⟩, ⟨_, rfl⟩, ?_⟩
          refine ⟨_, rfl, _, rfl, 1, rfl, pb, _, rfl, k2.sqt hpb, nz2 (n := [V.str ("say" : Str), va].length) (m := 1) (by simp), fun t2 nt2 => ?_⟩
          rw [show cutV [V.str ("say" : Str), va] none (some 1) = [V.str ("say" : Str)] from (cutV_til [V.str ("say" : Str), va] (n := 1) (by simp)).trans (by simp)]
          refine ⟨t2, _, rfl, .inr (SqT.of upd_same), fun l2 n2 => ?_⟩
          have k3 : Gr G2 (upd (upd G2 t2 (.tup [V.str ("say" : Str)])) l2 (.lst [V.str ("say" : Str)])) := (Gr.new nt2).trans (Gr.new n2)
          have f3 : upd (upd G2 t2 (.tup [V.str ("say" : Str)])) l2 (.lst [V.str ("say" : Str)]) l2 = some (.lst [V.str ("say" : Str)]) := upd_same
          generalize upd (upd G2 t2 (.tup [V.str ("say" : Str)])) l2 (.lst [V.str ("say" : Str)]) = G3 at k3 f3 ⊢
          have hta3 : SqT K G3 ta [va] := k3.sqt (SqT.of eT)
          have dvG : DpAll K G3 [va] ([a].map Ag.d) := (k2.trans k3).kd.dpA dva
          have lv : [va].length = [a].length := by
            have := dpA_len dvG
            rw [List.length_map] at this
            exact this
          refine ⟨_, rfl, ta, rfl, ⟨_, hta3⟩, fun D nD => ?_⟩
          have gD : ∀ ys, Gr G3 (upd G3 D (.lst ys)) := fun ys => Gr.new nD
          refine lc_it (walk_tup (xs := [va])) (fun i H2 => H2 = upd G3 D (.lst ((([a].take i).map wA).map V.str))) rfl ?d0 ?d1 ?d2
          case d0 =>
            rintro i H2 hi rfl
            exact (gD _).sqt hta3
          case d1 =>
            rintro i y H2 H2' hi rfl ⟨rfl, hy⟩
            have hka : [a][i]? = some [a][i] := List.getElem?_eq_getElem (by omega)
            generalize [a][i] = a9 at hka
            obtain ⟨y', hy', dy⟩ := dpA_get dvG (i := i) (d := a9.d) (by rw [List.getElem?_map, hka]; rfl)
            have hy2 : [va][i]? = some y := hy
            rw [hy2] at hy'
            cases hy'
            refine ⟨rfl, ?_⟩
            unfold tYes
            refine iteT ⟨_, rfl, y, a9, rfl, (gD _).kd.dp dy, gaN a9 (List.mem_of_getElem? hka), _, upd_same, ?_, ?_⟩
            · rw [List.length_map, List.length_map, List.length_take]
              exact small1000 (by omega)
            · rw [upd_upd, List.take_add_one, hka, List.map_append, List.map_append]
              rfl
          case d2 =>
          rintro H2 rfl
          rw [lv, List.take_length]
          have ws : [V.str ("say" : Str)] ++ ([a].map wA).map V.str = (wsR (.s a)).map V.str := by simp [wsR]
          refine ⟨l2, D, _, _, rfl, rfl, (gD _).lst f3, upd_same, ?_, fun pz npz => ?_⟩
          · simp only [List.length_cons, List.length_map, List.length_nil]
            exact Nat.le_of_lt (small1000 (by omega))
          have k4 : Gr G3 (upd (upd G3 D (.lst (([a].map wA).map V.str))) pz (.lst ([V.str ("say" : Str)] ++ ([a].map wA).map V.str))) := (gD _).trans (Gr.new npz)
          have f4 : upd (upd G3 D (.lst (([a].map wA).map V.str))) pz (.lst ([V.str ("say" : Str)] ++ ([a].map wA).map V.str)) pz = some (.lst ((wsR (.s a)).map V.str)) := by rw [upd_same, ws]
          generalize upd (upd G3 D (.lst (([a].map wA).map V.str))) pz (.lst ([V.str ("say" : Str)] ++ ([a].map wA).map V.str)) = G4 at k4 f4 ⊢
          refine ⟨blank, pz, wsR (.s a), rfl, rfl, .inl (.inl (.inl f4)), ?_, ?_⟩
          · have a := sum_len (ws := wsR (.s a)) fun z hz => Nat.le_trans (clean_wsR gr z hz).2.1 (by decide)
            have b := wsR_len gr
            have c : blank.length = 1 := by decide +kernel
            rw [c]
            omega
          have kk := k2.trans (k3.trans k4)
          refine ⟨al, _, _, rfl, rfl, kk.lst eG, ?_, ?_⟩
          · simp only [List.length_map, List.length_append, List.length_cons, List.length_nil, List.length_take]
            exact small1000 (by omega)
          refine ⟨_, _, _, _, _, rfl, (gG.trans kk).upd_new nal, ?_⟩
          rw [upd_same, List.take_add_one, hk]
          simp [rowR]
      case v3 =>
        rintro σ H8 ⟨z2, z3, z4, z5, z6, rfl, g8, e8⟩
        rw [lr, List.take_length] at e8
        have eP : (rowsUs p.us ++ [rowI p.is]) ++ p.rs.map rowR = rowsP p := by
          rw [List.append_assoc]
          rfl
        rw [eP] at e8
        refine ⟨⟨_, rfl⟩, _, rfl, feed, al, rowsP p, rfl, rfl, .inl (.inl (.inl e8)), ?_, ?_⟩
        · have a := sum_len (ws := rowsP p) fun z hz => Nat.le_trans (rowsP_row fo z hz) (by decide)
          have b := rowsP_len fo
          have c : feed.length = 1 := by decide +kernel
          rw [c]
          omega
        · exact q _ g8
end
end SfC
/-! the law's names -/
namespace SfC
open PySem PySem.Spec PyProof.Rows L2 SfG
abbrev nNamesP : List Str := ["_law_state", "_law_many", "_law_found", "_law_k", "_law_signs", "_law_word", "_law_some", "_law_j", "_law_sign", "_law_one"]
theorem scNamesP : FnScope nNamesP ["_law_state", "_law_many"] (defScope sNamesP) := ⟨rfl, rfl, rfl, by decide +kernel, rfl, by decide +kernel, by decide +kernel⟩
/-- what is in another list without being there twice is no longer -/
theorem pig {α : Type} [DecidableEq α] : ∀ (l f : List α), l.Nodup → (∀ z ∈ l, z ∈ f) → l.length ≤ f.length
  | [], _, _, _ => Nat.zero_le _
  | a :: r, f, nd, h => by
    obtain ⟨n1, n2⟩ := List.nodup_cons.mp nd
    have ha := h a List.mem_cons_self
    have i := pig r (f.erase a) n2 fun z hz => (List.mem_erase_of_ne (fun e : z = a => n1 (by rw [← e]; exact hz))).mpr (h z (List.mem_cons_of_mem _ hz))
    rw [List.length_erase_of_mem ha] at i
    have p := List.length_pos_of_mem ha
    rw [List.length_cons]
    omega
theorem eight {W : Str} {d : Int} (hW : isN W = true) (h0 : 0 ≤ d) (h7 : d < 8) : ∃ z, atI [V.str W, .str "a", .str "ab", .str "use", .str "say", .str "hidden", .str "inputs", .str "b"] d = some (.str z) ∧ isN z = true := by
  have c : d = 0 ∨ d = 1 ∨ d = 2 ∨ d = 3 ∨ d = 4 ∨ d = 5 ∨ d = 6 ∨ d = 7 := by omega
  rcases c with rfl | rfl | rfl | rfl | rfl | rfl | rfl | rfl
  · exact ⟨W, rfl, hW⟩
  all_goals exact ⟨_, rfl, by decide +kernel⟩
def kvN : List (Key × V) := [(Sum.inr ("l" : Str), .str "let"), (Sum.inr ("p" : Str), .str "pick"), (Sum.inr ("n" : Str), .str "name"), (Sum.inr ("g" : Str), .str "give")]
theorem val_N {z y : Str} (h : isN z = true) : ∃ z', (valV kvN (Sum.inr y)).getD (.str z) = .str z' ∧ isN z' = true := by
  unfold kvN
  by_cases c1 : ("l" : Str) = y
  · rw [valV_pos (p := ((Sum.inr ("l" : Str) : Key), V.str "let")) (congrArg Sum.inr c1)]
    exact ⟨_, rfl, by decide +kernel⟩
  rw [valV_neg (p := ((Sum.inr ("l" : Str) : Key), V.str "let")) (fun e => c1 (Sum.inr.inj e))]
  by_cases c2 : ("p" : Str) = y
  · rw [valV_pos (p := ((Sum.inr ("p" : Str) : Key), V.str "pick")) (congrArg Sum.inr c2)]
    exact ⟨_, rfl, by decide +kernel⟩
  rw [valV_neg (p := ((Sum.inr ("p" : Str) : Key), V.str "pick")) (fun e => c2 (Sum.inr.inj e))]
  by_cases c3 : ("n" : Str) = y
  · rw [valV_pos (p := ((Sum.inr ("n" : Str) : Key), V.str "name")) (congrArg Sum.inr c3)]
    exact ⟨_, rfl, by decide +kernel⟩
  rw [valV_neg (p := ((Sum.inr ("n" : Str) : Key), V.str "name")) (fun e => c3 (Sum.inr.inj e))]
  by_cases c4 : ("g" : Str) = y
  · rw [valV_pos (p := ((Sum.inr ("g" : Str) : Key), V.str "give")) (congrArg Sum.inr c4)]
    exact ⟨_, rfl, by decide +kernel⟩
  rw [valV_neg (p := ((Sum.inr ("g" : Str) : Key), V.str "give")) (fun e => c4 (Sum.inr.inj e))]
  exact ⟨z, rfl, h⟩
/-- a sign ahead of a word's first six -/
def sgn (z : Str) (c : Nat) : Str := (⟨#[c]⟩ : Str) ++ cutS z none (some 6)
theorem cut6_tl (z : Str) : (cutS z none (some 6)).cps.toList = z.cps.toList.take (min 6 z.length) := by
  unfold cutS
  rw [HT.sIx_none, show HT.sIx z.length z.length (some 6) = min 6 z.length from HT.sIx_nat z.length z.length 6, List.drop_zero, Nat.sub_zero]
theorem sgn_tl (z : Str) (c : Nat) : (sgn z c).cps.toList = c :: z.cps.toList.take (min 6 z.length) := by
  unfold sgn
  show ((#[c] : Array Nat) ++ (cutS z none (some 6)).cps).toList = _
  rw [Array.toList_append, cut6_tl]
  rfl
theorem sgn_len (z : Str) (c : Nat) : (sgn z c).length ≤ 7 := by
  rw [len_list, sgn_tl, List.length_cons, List.length_take]
  omega
theorem sgn_name {z : Str} (h : isN z = true) {c : Nat} (hc : isLet c = true) : isN (sgn z c) = true := by
  obtain ⟨_, _, _, _, _, hl⟩ := isN_txt h
  have l7 := sgn_len z c
  have l1 : 1 ≤ (sgn z c).length := by
    rw [len_list, sgn_tl, List.length_cons]
    omega
  unfold isN
  rw [decide_eq_true (show (sgn z c).length ≤ 8 by omega), decide_eq_true l1, sgn_tl, Bool.true_and, Bool.true_and, List.all_cons, hc, Bool.true_and]
  exact List.all_eq_true.mpr fun x hx => List.all_eq_true.mp hl x (List.mem_of_mem_take hx)
theorem sgn_inj {z : Str} {a b : Nat} (h : sgn z a = sgn z b) : a = b := by
  have e := congrArg (fun x : Str => x.cps.toList) h
  simp only [sgn_tl] at e
  exact (List.cons.inj e).1
abbrev zys : List Nat := ("zyxwvutsrqponm" : Str).cps.toList
theorem zys_ok : zys.length = 14 ∧ zys.Nodup ∧ ∀ c ∈ zys, isLet c = true := by decide +kernel
/-- one of the fifteen is not there yet -/
theorem some_new {z : Str} {f : List Str} (h : f.length ≤ 13) : ∃ y ∈ z :: zys.map (sgn z), y ∉ f := by
  refine Classical.byContradiction fun no => ?_
  have all : ∀ y ∈ zys.map (sgn z), y ∈ f := fun y hy => Classical.byContradiction fun n => no ⟨y, List.mem_cons_of_mem _ hy, n⟩
  have nd : (zys.map (sgn z)).Nodup := List.pairwise_map.mpr (List.Pairwise.imp (fun h e => h (sgn_inj e)) zys_ok.2.1)
  have := pig _ f nd all
  rw [List.length_map, zys_ok.1] at this
  omega
section
variable {P : Program} {w : World} {K : PySem.W.Frag} {mg : Str → Option Value} {base : Heap}
/-- so many names, none twice -/
def spNamesP : Sp := fun vs H Q _ => ∃ (p : Addr) (m : Nat) (B : Int), vs = [.ref p, .int m] ∧ m ≤ 13 ∧ Drw H p B ∧ 0 ≤ B ∧ B ≤ 90000 ∧
  ∀ (H' : Hp) (l : Addr) (zs : List Str), Gp p H H' → Drw H' p (B + 10 * m) → H l = none → H' l = some (.lst (zs.map V.str)) → zs.length = m → zs.Nodup → (∀ z ∈ zs, isN z = true) → Q (.ref l) H'
set_option maxHeartbeats 1000000 in
theorem ok_namesP {f fG : Addr} {fd fdG : FuncData} {k : Nat} (F : Fun K "_law_names" "_law_names" sNamesP f fd) (DG : Has P w K mg base (k + 2) "_law_digit" ["_law_state", "_law_many"] spDigit fG fdG) (mr : mg "range" = none) :
    FnOk P w K mg base CX0 (k + 3) f fd ["_law_state", "_law_many"] spNamesP := by
  refine F.ok scNamesP (fun vs H Q E h => ?_) (fun cdv A outer s H vs Q E hr h => ?_)
  · obtain ⟨p, m, B, rfl, _⟩ := h
    rfl
  · obtain ⟨p, m, B, rfl, m13, dr, B0, B9, q⟩ := h
    have nd := scNamesP.nd
    refine' ⟨_, pss_cons ?s1 (pss_cons ?s2 (pss_one ?s3)), ?rd⟩
    case s1 => exact ps_set (i := 2) nd rfl (.inr rfl) (pe_lst pa_nil)
    case s2 =>
      refine' ps_for PassesOwn.never rfl (pi_range1 (by rfl) mr (pa_cons (pv 1) pa_nil)) (pg_name (i := 3) nd rfl (.inl rfl)) (pss_cons ?b1 (pss_cons ?b2 (pss_cons ?b3 (pss_cons ?b4 (pss_one ?b5)))))
      case b1 =>
        exact ps_setLc (i := 4) (own := [("_law_j", 7)]) (g := gName 7) rfl nd rfl rfl (sw_true rfl rfl rfl (by decide +kernel)) (pi_range1 (by rfl) mr (pa_cons (pe_op op_add pe_int (hcall DG hr (pa_cons (pv 0) (pa_cons pe_int pa_nil)))) pa_nil))
          (blkOk_by (own := [("_law_j", 7)]) (N := nNamesP) (sc := defScope sNamesP) (by decide +kernel)) (fun _ _ _ _ _ => pg_name (i := 7) nd rfl (Or.inl rfl)) (fun _ _ _ _ _ => pts_nil)
          (fun _ _ _ _ _ => pe_item_str pe_str (hcall DG hr (pa_cons (pv 0) (pa_cons pe_int pa_nil))) (fun _ _ => rfl))
      case b2 =>
        exact ps_set (i := 5) nd rfl (.inr rfl) (pe_ix ix_list (pe_lst (pa_cons (pe_join pe_str (pv 4)) (pa_cons pe_str (pa_cons pe_str (pa_cons pe_str (pa_cons pe_str (pa_cons pe_str (pa_cons pe_str (pa_cons pe_str pa_nil))))))))) (hcall DG hr (pa_cons (pv 0) (pa_cons pe_int pa_nil))) (fun _ _ => rfl))
      case b3 =>
        exact ps_set (i := 5) nd rfl (.inr rfl) (pe_dget2 (hu_of hr) (pe_disp (pps_cons pe_str pe_str (pps_cons pe_str pe_str (pps_cons pe_str pe_str (pps_cons pe_str pe_str pps_nil)))) (by rfl) (by rfl) (fun z => by cases z) (by decide)) (pe_item_str (pv 5) pe_int (fun _ _ => rfl)) (pv 5) ⟨rfl, rfl, rfl, rfl⟩)
      case b4 =>
        exact ps_set (i := 6) nd rfl (.inl rfl) (pe_op op_cat (pe_lst (pa_cons (pv 5) pa_nil)) (pe_lc (own := [("_law_sign", 8)]) (g := gName 8) rfl nd (pi_str pe_str)
          (blkOk_by (own := [("_law_sign", 8)]) (N := nNamesP) (sc := defScope sNamesP) (by decide +kernel)) (fun _ _ _ _ _ => pg_name (i := 8) nd rfl (Or.inl rfl)) (fun _ _ _ _ _ => pts_nil)
          (fun _ _ _ _ _ => pe_op op_add_str (pv 8) (pe_slice sl_str (pv 5) po_none (po_some pe_int)))))
      case b5 =>
        exact ps_expr (pe_bm PySem.F.plainAttrs_list PySem.F.slot_list_append PySem.F.type_list_append mt_append (pv 2) (pa_cons (pe_ix ix_list (pe_lc (own := [("_law_one", 9)]) (g := gName 9) rfl nd (pi_list (pv 6))
          (blkOk_by (own := [("_law_one", 9)]) (N := nNamesP) (sc := defScope sNamesP) (by decide +kernel)) (fun _ _ _ _ _ => pg_name (i := 9) nd rfl (Or.inl rfl)) (fun _ _ _ _ _ => pts_one (pt_cmpR (r := rIn K true) op_notIn_seq (pv 9) (pv 2) rfl))
          (fun _ _ _ _ _ => pv 9)) pe_int (fun _ _ => rfl)) pa_nil))
    case s3 => exact ps_ret (pv 2)
    case rd =>
    refine ⟨Nat.zero_le _, fun fl nfl => ?_⟩
    have nfp : fl ≠ p := dr.ne nfl
    refine ⟨_, rfl, _, rfl, by omega, by omega, ?_⟩
    refine for_it (walk_range (lo := 0) (n := m)) (fun i σ H1 => ∃ (ys : List Str) (y3 y4 y5 y6 : Option V), σ = [some (.ref p), some (.int m), some (.ref fl), y3, y4, y5, y6, none, none, none] ∧
      H1 fl = some (.lst (ys.map V.str)) ∧ Gp p H H1 ∧ Drw H1 p (B + 10 * (i : Nat)) ∧ ys.Nodup ∧ (∀ z ∈ ys, isN z = true) ∧ ys.length = i)
      ⟨[], none, none, none, none, rfl, upd_same, Gp.gr (Gr.new nfl), (dr.new nfl).mono (by omega), List.nodup_nil, by simp, rfl⟩ (fun _ _ _ _ _ => trivial) ?h2 ?h3
    case h3 =>
      rintro σ H1 ⟨ys, y3, y4, y5, y6, rfl, hf, gp, dr1, ndy, hn, hm⟩
      exact ⟨_, rfl, q H1 fl ys gp dr1 nfl hf hm ndy hn⟩
    case h2 =>
      rintro i x σ H1 H1' hi ⟨ys, y3, y4, y5, y6, rfl, hf, gp, dr1, ndy, hn, hm⟩ ⟨rfl, rfl⟩
      -- signs
      refine ⟨_, rfl, p, 7, _, rfl, dr1, by omega, by decide, by decide, fun H2 d b2 dr2 d0 d8 => ?_⟩
      refine ⟨1, d, rfl, rfl, _, rfl, by omega, by omega, fun D nD => ?_⟩
      have gp2 : Gp p H H2 := gp.trans (Gp.but b2)
      have hf2 : H2 fl = some (.lst (ys.map V.str)) := (b2 fl nfp).trans hf
      have nDp : D ≠ p := dr2.ne nD
      refine lc_it (walk_range (lo := 0) (n := (1 + d).toNat)) (fun j H5 => ∃ acc : List Str, H5 D = some (.lst (acc.map V.str)) ∧ acc.length = j ∧ (∀ y ∈ acc, one y) ∧ Gp p H2 H5 ∧ Drw H5 p (B + 10 * (i : Nat) + 1 + (j : Nat))) ?w0 (fun _ _ _ _ => trivial) ?w1 ?w2
      case w0 => exact ⟨[], upd_same, rfl, by simp, Gp.gr (Gr.new nD), (dr2.new nD).mono (by omega)⟩
      case w1 =>
        rintro j x H5 H5' hj ⟨acc, hD5, hl5, hacc, gp5, dr5⟩ ⟨rfl, rfl⟩
        refine ⟨rfl, ?_⟩
        unfold tYes
        refine iteT ?_
        refine ⟨_, rfl, p, 26, _, rfl, dr5, by omega, by decide, by decide, fun H6 d6 b6 dr6 e0 e26 => ?_⟩
        obtain ⟨c, ec6, ac6⟩ := letter_at e0 e26
        refine ⟨letters, d6, c, rfl, rfl, e0, by omega, ?_, ec6, acc.map V.str, (b6 D nDp).trans hD5, ?_, acc ++ [⟨#[c]⟩], ?_, ?_, ?_, ?_, ?_⟩
        · have : letters.length = 26 := by decide +kernel
          rw [this]
          exact e26
        · rw [List.length_map]
          exact small1000 (by omega)
        · rw [upd_same, List.map_append]
          rfl
        · rw [List.length_append, hl5]
          rfl
        · intro y hy
          rcases List.mem_append.mp hy with h | h
          · exact hacc y h
          · exact ⟨c, by simpa using h, ac6⟩
        · exact Gp.upd_new (gp5.trans (Gp.but b6)) nD
        · exact (dr6.upd nDp).mono (by omega)
      case w2 =>
      rintro H5 ⟨acc, hD5, hl5, hacc, gp5, dr5⟩
      have hf5 : H5 fl = some (.lst (ys.map V.str)) := gp5.lst nfp hf2
      have gpa : Gp p H H5 := gp2.trans gp5
      -- word
      refine ⟨⟨_, rfl⟩, _, rfl, nought, D, acc, rfl, rfl, .inl (.inl (.inl hD5)), ?_, ?_⟩
      · rw [sum_ones fun y hy => by obtain ⟨c, rfl, _⟩ := hacc y hy; rfl]
        show acc.length + acc.length * 0 ≤ 16777216
        omega
      have hW := join_name hacc (by omega) (by omega)
      generalize Txt.join nought acc = W at hW ⊢
      refine ⟨by show 8 ≤ sizeLine; decide, fun wl nwl => ?_⟩
      have g6 : Gr H5 (upd H5 wl (.lst [.str W, .str "a", .str "ab", .str "use", .str "say", .str "hidden", .str "inputs", .str "b"])) := Gr.new nwl
      have hwl : upd H5 wl (.lst [.str W, .str "a", .str "ab", .str "use", .str "say", .str "hidden", .str "inputs", .str "b"]) wl = some (.lst [.str W, .str "a", .str "ab", .str "use", .str "say", .str "hidden", .str "inputs", .str "b"]) := upd_same
      have nwp : wl ≠ p := dr5.ne nwl
      generalize upd H5 wl (.lst [.str W, .str "a", .str "ab", .str "use", .str "say", .str "hidden", .str "inputs", .str "b"]) = H6 at g6 hwl ⊢
      refine ⟨_, rfl, p, 8, _, rfl, dr5.gr g6, by omega, by decide, by decide, fun H7 d7 b7 dr7 z0 z7 => ?_⟩
      obtain ⟨z, ez, gz⟩ := eight hW z0 z7
      refine ⟨wl, _, d7, .str z, rfl, rfl, .inl (.inl ((b7 wl nwp).trans hwl)), ez, ?_⟩
      have gp7 : Gp p H H7 := (gpa.trans (Gp.gr g6)).trans (Gp.but b7)
      have hf7 : H7 fl = some (.lst (ys.map V.str)) := (b7 fl nfp).trans (g6.lst hf5)
      have dr7' : Drw H7 p (B + 10 * ((i + 1 : Nat) : Int)) := dr7.mono (by omega)
      -- some words are put otherwise
      intro sz nsz
      refine ⟨upd_same, kvN, rfl, by decide, ?_⟩
      have k8 : Gr H7 (upd (upd H7 sz (.dK [])) sz (.dK (mergeK [] kvN))) := gr_new2 nsz
      have hsz : upd (upd H7 sz (.dK [])) sz (.dK (mergeK [] kvN)) sz = some (.dK kvN) := upd_same
      generalize upd (upd H7 sz (.dK [])) sz (.dK (mergeK [] kvN)) = H8 at k8 hsz ⊢
      obtain ⟨h8, h1, _⟩ := isN_txt gz
      obtain ⟨c, hc⟩ : ∃ c, z.cps[0]? = some c := ⟨z.cps[0], Array.getElem?_eq_getElem (by show 0 < z.length; omega)⟩
      have zl : z.length ≤ sizeLine := by
        rw [sizeLine_eq]
        omega
      refine ⟨sz, rfl, .inl ⟨_, .inl hsz⟩, _, rfl, z, 0, c, rfl, rfl, by decide, by decide, (by omega), hc, _, rfl, _, DGet.k (k := Sum.inr ⟨#[c]⟩) hsz, ?_⟩
      obtain ⟨z', ez', gz'⟩ := val_N (y := ⟨#[c]⟩) gz
      rw [ez']
      refine ⟨_, rfl, by show 1 ≤ sizeLine; decide, fun l1 n1 => ?_⟩
      have k9 : Gr H8 (upd H8 l1 (.lst [.str z'])) := Gr.new n1
      have e9 : upd H8 l1 (.lst [.str z']) l1 = some (.lst [.str z']) := upd_same
      generalize upd H8 l1 (.lst [.str z']) = H9 at k9 e9 ⊢
      have l14 : ("zyxwvutsrqponm" : Str).cps.toList.length = 14 := by decide +kernel
      refine ⟨_, rfl, fun D2 nD2 => lc_it walk_str (fun i H1 => H1 = upd H9 D2 (.lst ((("zyxwvutsrqponm" : Str).cps.toList.take i).map fun c => V.str ((⟨#[c]⟩ : Str) ++ cutS z' none (some 6))))) rfl (fun _ _ _ _ => trivial) ?u1 ?u2⟩
      case u1 =>
        rintro j y H3 H3' hj rfl ⟨rfl, c, hc, rfl⟩
        have hc' : ("zyxwvutsrqponm" : Str).cps.toList[j]? = some c := by rw [Array.getElem?_toList]; exact hc
        have c6 : z'.length ≤ 8 := (isN_txt gz').1
        refine ⟨rfl, ?_⟩
        unfold tYes
        refine iteT ⟨_, rfl, _, rfl, 6, rfl, z', rfl, (by rw [sizeLine_eq]; omega), _, _, rfl, rfl, ?_, ?_⟩
        · have a := sgn_len z' c
          have e : (sgn z' c).length = (⟨#[c]⟩ : Str).length + (cutS z' none (some 6)).length := app_len _ _
          rw [← e, sizeLine_eq]
          omega
        · refine ⟨_, upd_same, ?_, ?_⟩
          · rw [List.length_map, List.length_take]
            exact small1000 (by omega)
          · rw [upd_upd, List.take_add_one, hc', List.map_append]
            rfl
      case u2 =>
        rintro H3 rfl
        have eL : [V.str z'] ++ ((zys.take ("zyxwvutsrqponm" : Str).cps.size).map fun c => V.str ((⟨#[c]⟩ : Str) ++ cutS z' none (some 6))) = (z' :: zys.map (sgn z')).map V.str := by
          rw [List.take_of_length_le (by simp), List.map_cons, List.map_map]
          rfl
        have lz := zys_ok.1
        have k10 : Gr H9 (upd H9 D2 (.lst ((zys.take ("zyxwvutsrqponm" : Str).cps.size).map fun c => V.str ((⟨#[c]⟩ : Str) ++ cutS z' none (some 6))))) := Gr.new nD2
        refine ⟨l1, D2, _, _, rfl, rfl, k10.lst e9, upd_same, ?_, fun l2 n2 => ?_⟩
        · rw [List.length_map, List.length_take, List.length_singleton]
          exact Nat.le_of_lt (small1000 (by omega))
        rw [eL]
        have k11 : Gr H8 (upd (upd H9 D2 (.lst ((zys.take ("zyxwvutsrqponm" : Str).cps.size).map fun c => V.str ((⟨#[c]⟩ : Str) ++ cutS z' none (some 6))))) l2 (.lst ((z' :: zys.map (sgn z')).map V.str))) := k9.trans (k10.trans (Gr.new n2))
        have e11 : upd (upd H9 D2 (.lst ((zys.take ("zyxwvutsrqponm" : Str).cps.size).map fun c => V.str ((⟨#[c]⟩ : Str) ++ cutS z' none (some 6))))) l2 (.lst ((z' :: zys.map (sgn z')).map V.str)) l2 = some (.lst ((z' :: zys.map (sgn z')).map V.str)) := upd_same
        generalize upd (upd H9 D2 (.lst ((zys.take ("zyxwvutsrqponm" : Str).cps.size).map fun c => V.str ((⟨#[c]⟩ : Str) ++ cutS z' none (some 6))))) l2 (.lst ((z' :: zys.map (sgn z')).map V.str)) = H11 at k11 e11 ⊢
        have k711 := k8.trans k11
        have hf11 := k711.lst hf7
        have gn : ∀ y ∈ z' :: zys.map (sgn z'), isN y = true := by
          intro y hy
          rcases List.mem_cons.mp hy with rfl | hy
          · exact gz'
          · obtain ⟨c, hc, rfl⟩ := List.mem_map.mp hy
            exact sgn_name gz' (zys_ok.2.2 c hc)
        have lw : (z' :: zys.map (sgn z')).length = 15 := by
          rw [List.length_cons, List.length_map, lz]
        obtain ⟨yn, yn1, yn2⟩ := some_new (z := z') (f := ys) (by omega)
        generalize z' :: zys.map (sgn z') = wsN at e11 gn lw yn1
        refine ⟨_, rfl, .inl ⟨rfl, _, .inl (.inl hf11)⟩, _, rfl, l2, rfl, ⟨_, .inl (.inl e11)⟩, fun D3 nD3 => ?_⟩
        have gD3 : ∀ o, Gr H11 (upd H11 D3 o) := fun o => Gr.new nD3
        refine lc_it (walk_list (xs := wsN.map V.str)) (fun i H2 => H2 = upd H11 D3 (.lst ((((wsN.take i).filter fun y => decide (y ∉ ys))).map V.str))) rfl ?x0 ?x1 ?x2
        case x0 =>
          rintro j H2 hj rfl
          exact .inl (.inl ((gD3 _).lst e11))
        case x1 =>
          rintro j y H2 H2' hj rfl ⟨rfl, hy⟩
          have hy2 : (wsN.map V.str)[j]? = some y := hy
          rw [List.getElem?_map] at hy2
          obtain ⟨y0, hy0, rfl⟩ := Option.map_eq_some_iff.mp hy2
          refine ⟨rfl, _, rfl, _, rfl, fl, _, rfl, .inl (.inl (.inl ((gD3 _).lst hf11))), rfl, flat_strs ys, _, rfl, ?_⟩
          rw [inV_not]
          by_cases hz : y0 ∈ ys
          · rw [decide_eq_true hz]
            refine iteF ?_
            have e : (wsN.take (j + 1)).filter (fun y => decide (y ∉ ys)) = (wsN.take j).filter (fun y => decide (y ∉ ys)) := by
              rw [List.take_add_one, hy0, List.filter_append]
              simp [hz]
            rw [e]
          · rw [decide_eq_false hz]
            refine iteT ⟨_, rfl, _, upd_same, ?_, ?_⟩
            · have a := List.length_filter_le (fun y => decide (y ∉ ys)) (wsN.take j)
              rw [List.length_take] at a
              rw [List.length_map]
              exact small1000 (by omega)
            · have e : (wsN.take (j + 1)).filter (fun y => decide (y ∉ ys)) = (wsN.take j).filter (fun y => decide (y ∉ ys)) ++ [y0] := by
                rw [List.take_add_one, hy0, List.filter_append]
                simp [hz]
              rw [upd_upd, e, List.map_append]
              rfl
        case x2 =>
          rintro H2 rfl
          rw [List.length_map, List.take_length]
          obtain ⟨y9, r9, e9'⟩ : ∃ y r, wsN.filter (fun y => decide (y ∉ ys)) = y :: r := by
            cases hf : wsN.filter (fun y => decide (y ∉ ys)) with
            | nil =>
              have : yn ∈ wsN.filter (fun y => decide (y ∉ ys)) := List.mem_filter.mpr ⟨yn1, decide_eq_true yn2⟩
              rw [hf] at this
              cases this
            | cons a r => exact ⟨a, r, rfl⟩
          have m9 := List.mem_filter.mp (show y9 ∈ wsN.filter (fun y => decide (y ∉ ys)) by rw [e9']; exact List.mem_cons_self)
          have n9 := of_decide_eq_true m9.2
          rw [e9']
          have g12 := gD3 (.lst ((y9 :: r9).map V.str))
          refine ⟨D3, _, 0, .str y9, rfl, rfl, .inl (.inl upd_same), at_0 (V.str y9) (r9.map V.str), fl, _, _, rfl, rfl, g12.lst hf11, ?_, ?_⟩
          · rw [List.length_map]
            exact small1000 (by omega)
          have gF : Gp p H (upd H11 D3 (.lst ((y9 :: r9).map V.str))) := gp7.trans (Gp.gr (k711.trans g12))
          have drF : Drw (upd H11 D3 (.lst ((y9 :: r9).map V.str))) p (B + 10 * ((i + 1 : Nat) : Int)) := dr7'.gr (k711.trans g12)
          refine ⟨ys ++ [y9], _, _, _, _, rfl, ?_, gF.upd_new nfl, drF.upd nfp, ?_, ?_, ?_⟩
          · rw [upd_same, List.map_append]
            rfl
          · rw [List.nodup_append]
            refine ⟨ndy, by simp, ?_⟩
            intro a ha b hb
            have : b = y9 := by simpa using hb
            rw [this]
            exact fun e => n9 (e ▸ ha)
          · intro y hy
            rcases List.mem_append.mp hy with h | h
            · exact hn y h
            · have : y = y9 := by simpa using h
              rw [this]
              exact gn y9 m9.1
          · rw [List.length_append, hm]
            rfl
end
end SfC
/-! sorted of a list of tuples, whose first things are texts that are unlike -/
namespace SfG
open PySem PySem.Spec PyProof.Rows L2
abbrev ltS (a b : Str) : Prop := a.cps.toList < b.cps.toList
/-- a tuple that begins with a text -/
def TupHd (h : Heap) (v : Value) (z : Str) : Prop := ∃ a o xs n t, v = .ref a ∧ h.get? a = some o ∧ o.cls = .type "tuple" ∧ o.data = .seq xs n ∧ xs[0]? = some (.str z t)
theorem TupHd.keeps {h h' : Heap} {v : Value} {z : Str} (x : TupHd h v z) (k : ∀ b o, h.get? b = some o → o.cls = .type "tuple" → h'.get? b = some o) : TupHd h' v z := by
  obtain ⟨a, o, xs, n, t, e, ho, hc, hd, h0⟩ := x
  exact ⟨a, o, xs, n, t, e, k a o ho hc, hc, hd, h0⟩
theorem heads_of {h : Heap} {f : Value → Str} (vs : List Value) (x : ∀ v ∈ vs, TupHd h v (f v)) : ∃ gs, PySem.W.KatTups h vs gs ∧ gs.length = vs.length ∧ ∀ g, g ∈ gs → ∃ z t, g = Value.str z t := by
  induction vs with
  | nil => exact ⟨[], PySem.W.KatTups.nil, rfl, fun g hg => nomatch hg⟩
  | cons v vs ih =>
    obtain ⟨gs, k, hl, hi⟩ := ih fun u hu => x u (.tail _ hu)
    obtain ⟨a, o, xs, n, t, e, ho, hc, hd, h0⟩ := x v (.head _)
    subst e
    refine ⟨.str (f (.ref a)) t :: gs, .cons ho hc hd h0 k, congrArg Nat.succ hl, fun g hg => ?_⟩
    cases hg with
    | head => exact ⟨_, _, rfl⟩
    | tail _ hg => exact hi g hg
section
variable {prog : Program} {w : World} {s : Shared} {A : Around} {E : Value → Shared → Prop}
theorem eqBool_self {p : Value} {Q : Bool → Shared → Prop} (h : Q true s) : wpAny (model prog w) A (eqBool p p) Q E s := by
  unfold eqBool
  show wpAny _ _ (holding [p, p] (if (p == p) = true then _ else _)) Q E s
  rw [if_pos (beq_self_eq_true p)]
  exact wpAny_holding (wpAny_bind (wpAny_rule (wpAny_pure h)))
theorem lex_self {b fin : Bool} {Q : Bool → Shared → Prop} (h : Q fin s) : ∀ (l : List Value) (i : Nat), PySem.W.KatLex prog w A b fin Q (l.zip l) i s
  | [], _ => PySem.W.kat_nil h
  | p :: l, i => PySem.W.kat_cons (eqBool_self (PySem.W.kat_yes (lex_self h l (i + 1))))
theorem swoS (f : Value → Str) : SrtO.Swo (fun u v => decide (ltS (f u) (f v))) := by
  refine ⟨fun x y h => decide_eq_false fun h2 => ?_, fun x y z h1 h2 => decide_eq_false fun h3 => ?_⟩
  · exact List.lt_irrefl _ (List.lt_trans (of_decide_eq_true h) h2)
  · have a := List.not_lt.mp (of_decide_eq_false h1)
    have b := List.not_lt.mp (of_decide_eq_false h2)
    exact List.not_lt.mpr (List.le_trans a b) h3
theorem first_of {xs : Array Value} {v : Value} (h : xs[0]? = some v) : ∃ r, xs.toList = v :: r := by
  rw [← Array.getElem?_toList] at h
  match q : xs.toList with
  | [] => rw [q] at h; cases h
  | y :: l => rw [q] at h; exact ⟨l, by rw [Option.some.inj h]⟩
theorem heads_lt {vs : List Value} {f : Value → Str} (x : ∀ v ∈ vs, TupHd s.heap v (f v)) (inj : ∀ u ∈ vs, ∀ v ∈ vs, f u = f v → u = v) {p q : Value} (hp : p ∈ vs) (hq : q ∈ vs) :
    wpAny (model prog w) A (keyLt' (tuples' true) p q) (fun r s' => s' = s ∧ r = decide (ltS (f p) (f q))) (fun _ _ => False) s := by
  obtain ⟨a, o, xs, n, t, ea, ho, _, ho2, h0⟩ := x p hp
  by_cases e : f p = f q
  · rw [← inj p hp q hq e, ea]
    refine PySem.W.kat_lt ho ho2 ho ho2 (lex_self ⟨rfl, ?_⟩ _ 0)
    rw [decide_eq_false (Nat.lt_irrefl _), decide_eq_false (List.lt_irrefl _)]
  · obtain ⟨b, u, ys, m, t2, eb, hu, _, hu2, k0⟩ := x q hq
    obtain ⟨xr, ex⟩ := first_of h0
    obtain ⟨yr, ey⟩ := first_of k0
    have no : decide (f p = f q) = false := decide_eq_false e
    rw [show keyLt' (tuples' true) p q = keyLt' (tuples' true) (.ref a) (.ref b) by rw [ea, eb]]
    refine PySem.W.kat_lt ho ho2 hu hu2 ?_
    rw [ex, ey]
    refine PySem.W.kat_cons (wpAny_eqBool_str ?_)
    rw [no]
    exact PySem.W.kat_no (oneLt_str ⟨rfl, rfl⟩)
end
/-- sorted(xs), xs a list of tuples that begin with unlike texts -/
def rSortedH (K : PySem.W.Frag) : List V → Hp → VK → Prop := fun vs H Q => ∃ (a : Addr) (xs : List V) (hd : V → Str), vs = [V.ref a] ∧ SqL K H a xs ∧ (∀ x ∈ xs, ∃ t rest, x = V.ref t ∧ SqT K H t (.str (hd x) :: rest)) ∧ (∀ x ∈ xs, ∀ y ∈ xs, hd x = hd y → x = y) ∧
  ∀ (ys : List V) (p : Addr), ys.Perm xs → ys.Pairwise (fun x y => ¬ ltS (hd y) (hd x)) → H p = none → Q (.ref p) (upd H p (.lst ys))
theorem cr_sortedH {X : Cx} : CallR X (.builtin "sorted") (rSortedH X.K) := by
  rintro pins s σ H vs us Q I r ⟨a, xs, hd, rfl, hs, hx, inj, q⟩
  have lst := I.list hs
  obtain ⟨its, rv, hl, hz⟩ := lst
  rw [Vals.ref1 r]
  have all : xs = its.map bkV ∧ ∀ u ∈ its, ∃ a, u = Value.ref a := bkV_refs rv fun x m => (hx x m).imp fun t z => z.choose_spec.1
  have mem : ∀ {v}, v ∈ its → bkV v ∈ xs := fun {v} hv => all.1 ▸ List.mem_map_of_mem hv
  have heads : ∀ v ∈ its, TupHd s.heap v (hd (bkV v)) := fun v hv => by
    obtain ⟨t, rfl⟩ := all.2 v hv
    obtain ⟨t', rest, e, ht⟩ := hx _ (mem hv)
    obtain rfl : t = t' := V.ref.inj e
    obtain ⟨fs, rf, ⟨o, ho, hc, n, ho2⟩, _⟩ := I.tuple ht
    cases rf with
    | cons r0 rr =>
      obtain ⟨tk, rfl⟩ := r0
      exact ⟨t, o, _, n, tk, rfl, ho, hc, ho2, by simp⟩
  have same : ∀ u ∈ its, ∀ v ∈ its, hd (bkV u) = hd (bkV v) → u = v := fun u hu v hv e => by
    obtain ⟨t, rfl⟩ := all.2 u hu
    obtain ⟨t', rfl⟩ := all.2 v hv
    exact congrArg Value.ref (V.ref.inj (inj _ (mem hu) _ (mem hv) e))
  refine SrtO.sorted_ord (swoS fun v => hd (bkV v)) hl.isList (rv.length ▸ hz) (fun h2 h1 b hb old h' keep => ?_) fun out so st => ?_
  · have there : ∀ v ∈ its, TupHd h' v (hd (bkV v)) := fun v hv => (heads v hv).keeps fun c o e _ => keep c o (old c o e).1 (old c o e).2
    obtain ⟨fs, k1, k2, k3⟩ := heads_of (f := fun v => hd (bkV v)) its there
    refine ⟨tuples' true, fun Q' E' hq => ?_, fun p q hp hq => heads_lt (f := fun v => hd (bkV v)) there same hp hq⟩
    have looks : ∀ g ∈ fs, PySem.W.Looks (model X.prog X.w) h' (typeOf g) (Value.type "str") := fun g hg => by
      obtain ⟨n, t, rfl⟩ := k3 g hg
      exact PySem.W.Looks.now
    exact PySem.W.kat_kind k1 (by omega) looks rfl hq
  · obtain ⟨ep, he⟩ := PyProof.Rows.sortedAll_at s.heap its out.toArray
    have perm : (out.map bkV).Perm xs := all.1 ▸ st.perm.map bkV
    refine ⟨.ref _, upd H (s.heap.objs.size + 1) (.lst (out.map bkV)), ?_, rfl, q _ _ perm ?_ (I.hok.fresh (Nat.le_succ _))⟩
    · have refs : ∀ u ∈ out, ∃ a, u = Value.ref a := fun u hu => all.2 u (st.perm.mem_iff.mp hu)
      exact I.laid (t' := s.toks) (fun _ _ z => PyProof.Rows.sortedAll_old z) (Nat.le_succ _) ⟨perm.length_eq ▸ hz, out, ep, bkV_vals refs, he⟩
    · exact List.pairwise_map.mpr (List.Pairwise.imp (fun z => of_decide_eq_false z) so)
end SfG
/-! what stands behind a statement, said once for all the ways to it -/
namespace SfG
open PySem PySem.Spec PyProof.Rows L2
theorem seq_end {t u : TS} {D : Ends} {σ : L2.St} {H : Hp} (Fa : L2.St → Hp → Prop) (hE : ∀ σ S, Fa σ S → u D σ S) (h : (∀ σ S, Fa σ S → u D σ S) → tSeq t u D σ H) : tSeq t u D σ H := h hE
theorem seq_go {t u : TS} {D : Ends} {σ : L2.St} {H : Hp} (h : t { D with nx := u D } σ H) : tSeq t u D σ H := h
theorem gname_go {i : Nat} {v : V} {σ : L2.St} {H : Hp} {Q : L2.St → Hp → Prop} (h : Q (σ.set i (some v)) H) : gName i v σ H Q := h
theorem if_else {tc : TT} {t u : TS} {D : Ends} {σ : L2.St} {H : Hp} (Fa : Hp → Prop) (hE : ∀ S, Fa S → u D σ S) (h : (∀ S, Fa S → u D σ S) → tIfS tc t u D σ H) : tIfS tc t u D σ H := h hE
end SfG
/-! tuples that begin with names, in order -/
namespace SfC
open PySem PySem.Spec PyProof.Rows L2 SfG
theorem rises {l : List Str} (s : l.Pairwise (fun x y => ¬ lt y x)) (n : l.Nodup) : l.Pairwise lt := by
  refine List.Pairwise.imp₂ (R := fun x y : Str => ¬ lt y x) (S := fun x y : Str => x ≠ y) (fun {a b} h1 h2 => ?_) s n
  rcases Classical.em (lt a b) with h | h
  · exact h
  · have e : a.cps.toList = b.cps.toList := List.le_antisymm (List.not_lt.mp h1) (List.not_lt.mp h)
    exact absurd (str_ext e) h2
theorem nodup_map {α : Type} {f : α → Str} : ∀ {l : List α}, (∀ a ∈ l, ∀ b ∈ l, f a = f b → a = b) → l.Nodup → (l.map f).Nodup
  | [], _, _ => List.nodup_nil
  | a :: r, h, n => by
    obtain ⟨n1, n2⟩ := List.nodup_cons.mp n
    rw [List.map_cons]
    refine List.nodup_cons.mpr ⟨fun m => ?_, nodup_map (fun x hx y hy => h x (.tail _ hx) y (.tail _ hy)) n2⟩
    obtain ⟨b, hb, e⟩ := List.mem_map.mp m
    exact n1 (h b (.tail _ hb) a (.head _) e ▸ hb)
/-- what a list of data, put in another order, holds -/
theorem dpA_perm {K : PySem.W.Frag} {H : Hp} {hd : V → Str} {xs ys : List V} (p : ys.Perm xs) : ∀ {es : List De}, DpAll K H xs (es.map De.d) → xs.map hd = es.map De.nm → ∃ es' : List De, es'.Perm es ∧ DpAll K H ys (es'.map De.d) ∧ ys.map hd = es'.map De.nm := by
  induction p with
  | nil =>
    intro es h n
    exact ⟨es, .refl _, h, n⟩
  | cons x _ ih =>
    intro es h n
    cases es with
    | nil => cases h
    | cons e es =>
      rw [List.map_cons, List.map_cons] at n
      obtain ⟨n1, n2⟩ := List.cons.inj n
      cases h with
      | cons h1 h2 =>
        obtain ⟨es', p', h', n'⟩ := ih h2 n2
        exact ⟨e :: es', p'.cons e, .cons h1 h', by rw [List.map_cons, List.map_cons, n1, n']⟩
  | swap x y l =>
    intro es h n
    match es, h, n with
    | [], h, _ => cases h
    | [_], h, _ => cases h with | cons _ h2 => cases h2
    | a :: b :: r, h, n =>
      simp only [List.map_cons] at n
      obtain ⟨n1, n2⟩ := List.cons.inj n
      obtain ⟨n3, n4⟩ := List.cons.inj n2
      cases h with
      | cons h1 h2 =>
        cases h2 with
        | cons h3 h4 => exact ⟨b :: a :: r, .swap a b r, .cons h3 (.cons h1 h4), by simp only [List.map_cons, n1, n3, n4]⟩
  | trans _ _ ih1 ih2 =>
    intro es h n
    obtain ⟨e1, p1, h1, n1⟩ := ih2 h n
    obtain ⟨e2, p2, h2, n2⟩ := ih1 h1 n1
    exact ⟨e2, p2.trans p1, h2, n2⟩
theorem inj_nodup {α : Type} {f : α → Str} : ∀ {l : List α}, (l.map f).Nodup → ∀ a ∈ l, ∀ b ∈ l, f a = f b → a = b
  | [], _, a, ha, _, _, _ => by cases ha
  | x :: r, n, a, ha, b, hb, e => by
    rw [List.map_cons] at n
    obtain ⟨n1, n2⟩ := List.nodup_cons.mp n
    rcases List.mem_cons.mp ha with ea | ha
    · rcases List.mem_cons.mp hb with eb | hb
      · rw [ea, eb]
      · exact absurd (List.mem_map.mpr ⟨b, hb, by rw [← e, ea]⟩) n1
    · rcases List.mem_cons.mp hb with eb | hb
      · exact absurd (List.mem_map.mpr ⟨a, ha, by rw [e, eb]⟩) n1
      · exact inj_nodup n2 a ha b hb e
theorem nodup_lt {l : List Str} (h : l.Pairwise lt) : l.Nodup := List.Pairwise.imp (fun {a b} z e => by rw [e] at z; exact List.lt_irrefl _ z) h
/-- the text with which a new tuple begins -/
def hdH (H : Hp) : V → Str
  | .ref t => match H t with
    | some (.tup (.str z :: _)) => z
    | _ => ""
  | _ => ""
theorem hdH_tup {H : Hp} {t : Addr} {z : Str} {r : List V} (h : H t = some (.tup (.str z :: r))) : hdH H (.ref t) = z := by
  show (match H t with | some (.tup (.str z :: _)) => z | _ => "") = z
  rw [h]
/-- tuples of the heap that begin with texts -/
def Begin (H : Hp) (xs : List V) (zs : List Str) : Prop := xs.length = zs.length ∧ ∀ (i : Nat) (t : V), xs[i]? = some t → ∃ (p : Addr) (z : Str) (r : List V), t = V.ref p ∧ zs[i]? = some z ∧ H p = some (.tup (.str z :: r))
theorem Begin.gr {H H' : Hp} {xs : List V} {zs : List Str} (b : Begin H xs zs) (g : Gr H H') : Begin H' xs zs :=
  ⟨b.1, fun i t h => by
    obtain ⟨p, z, r, e1, e2, e3⟩ := b.2 i t h
    exact ⟨p, z, r, e1, e2, g.tup e3⟩⟩
theorem Begin.lst {H : Hp} {xs : List V} {zs : List Str} {D : Addr} {ys ys' : List V} (b : Begin H xs zs) (hD : H D = some (.lst ys)) : Begin (upd H D (.lst ys')) xs zs :=
  ⟨b.1, fun i t h => by
    obtain ⟨p, z, r, e1, e2, e3⟩ := b.2 i t h
    refine ⟨p, z, r, e1, e2, ?_⟩
    rw [upd_ne (by intro z; rw [z, hD] at e3; cases e3)]
    exact e3⟩
theorem Begin.snoc {H : Hp} {xs : List V} {zs : List Str} {p : Addr} {z : Str} {r : List V} (b : Begin H xs zs) (h : H p = some (.tup (.str z :: r))) : Begin H (xs ++ [.ref p]) (zs ++ [z]) := by
  refine ⟨by rw [List.length_append, List.length_append, b.1]; rfl, fun i t hi => ?_⟩
  rcases Nat.lt_or_ge i xs.length with l | l
  · rw [List.getElem?_append_left l] at hi
    obtain ⟨p, z, r, e1, e2, e3⟩ := b.2 i t hi
    exact ⟨p, z, r, e1, by rw [List.getElem?_append_left (by rw [← b.1]; exact l)]; exact e2, e3⟩
  · rw [List.getElem?_append_right l] at hi
    have e : i - xs.length = 0 := by
      rcases Nat.eq_zero_or_pos (i - xs.length) with z | z
      · exact z
      · rw [List.getElem?_eq_none (by show 1 ≤ _; omega)] at hi
        cases hi
    rw [e] at hi
    cases hi
    exact ⟨p, z, r, rfl, by rw [List.getElem?_append_right (by rw [← b.1]; exact l), ← b.1, e]; rfl, h⟩
/-- heads are those texts -/
theorem Begin.map {H : Hp} {xs : List V} {zs : List Str} (b : Begin H xs zs) : xs.map (hdH H) = zs := by
  refine List.ext_getElem? fun i => ?_
  rw [List.getElem?_map]
  rcases h : xs[i]? with _ | t
  · have l := List.getElem?_eq_none_iff.mp h
    rw [List.getElem?_eq_none (by rw [← b.1]; exact l)]
    rfl
  · obtain ⟨p, z, r, e1, e2, e3⟩ := b.2 i t h
    rw [e2, e1]
    show some (hdH H (.ref p)) = some z
    rw [hdH_tup e3]
theorem Begin.gp {H H' : Hp} {xs : List V} {zs : List Str} {p : Addr} {B : Int} (b : Begin H xs zs) (d : Drw H p B) (g : Gp p H H') : Begin H' xs zs :=
  ⟨b.1, fun i t h => by
    obtain ⟨q, z, r, e1, e2, e3⟩ := b.2 i t h
    refine ⟨q, z, r, e1, e2, g.keep q _ (fun z => ?_) e3 (fun _ z => by cases z)⟩
    obtain ⟨_, _, _, e, _⟩ := d
    rw [z, e] at e3
    cases e3⟩
theorem Drw.at_ne {H : Hp} {p q : Addr} {B : Int} {xs : List V} (d : Drw H p B) (h : H q = some (.tup xs)) : q ≠ p := by
  obtain ⟨_, _, _, e, _⟩ := d
  intro z
  rw [z, e] at h
  cases h
theorem Drw.l_ne {H : Hp} {p q : Addr} {B : Int} {xs : List V} (d : Drw H p B) (h : H q = some (.lst xs)) : q ≠ p := by
  obtain ⟨_, _, _, e, _⟩ := d
  intro z
  rw [z, e] at h
  cases h
theorem viaV {t : TE} {σ : L2.St} {H : Hp} {Q : VK} (φ : V → Hp → Prop) (h : ∀ Q' : VK, (∀ v H', φ v H' → Q' v H') → t σ H Q') (q : ∀ v H', φ v H' → Q v H') : t σ H Q := h Q q
theorem viaT {t : TS} {U : Ends} {σ : L2.St} {H : Hp} (φ : L2.St → Hp → Prop) (h : ∀ U' : Ends, U'.rt = U.rt → (∀ σ' H', φ σ' H' → U'.nx σ' H') → t U' σ H) (q : ∀ σ' H', φ σ' H' → U.nx σ' H') : t U σ H := h U rfl q
theorem tYes_i {σ : L2.St} {H : Hp} {Q : Bool → Hp → Prop} (h : Q true H) : tYes σ H Q := h
/-- the first of a list that is like a thing -/
theorem first_in {x : V} : ∀ {xs : List V}, inV x xs = true → ∃ (j : Nat) (z : V), xs[j]? = some z ∧ eqV z x = true ∧ ∀ (m : Nat) (z' : V), m < j → xs[m]? = some z' → eqV z' x = false
  | [], h => by cases h
  | y :: r, h => by
    cases c : eqV y x with
    | true => exact ⟨0, y, rfl, c, fun m _ hm => absurd hm (Nat.not_lt_zero m)⟩
    | false =>
      have h' : inV x r = true := by
        unfold inV at h ⊢
        rw [List.any_cons, c, Bool.false_or] at h
        exact h
      obtain ⟨j, z, e1, e2, e3⟩ := first_in h'
      refine ⟨j + 1, z, e1, e2, fun m z' hm hz => ?_⟩
      cases m with
      | zero =>
        cases hz
        exact c
      | succ m => exact e3 m z' (by omega) hz
end SfC
/-! the law's faces -/
namespace SfC
open PySem PySem.Spec PyProof.Rows L2 SfG
def rLenC (K : PySem.W.Frag) : List V → Hp → VK → Prop := fun xs H Q => ∃ p ys, xs = [V.ref p] ∧ (SqL K H p ys ∨ SqT K H p ys) ∧ Q (.int ys.length) H
abbrev nFaceP : List Str := ["_law_state", "_law_hidden", "_law_deeds", "_law_j", "_law_name", "_law_takes", "_law_menu", "_law_gives", "_law_k", "_law_one"]
theorem scFaceP : FnScope nFaceP ["_law_state"] (defScope sFaceP) := ⟨rfl, rfl, rfl, by decide +kernel, rfl, by decide +kernel, by decide +kernel⟩
theorem five_at {H : Hp} {a0 a1 a2 a3 a4 : Addr} (h0 : H a0 = some (.tup [])) (h1 : H a1 = some (.tup [.int 2])) (h2 : H a2 = some (.tup [.int 3, .int 2])) (h3 : H a3 = some (.tup [.int 9])) (h4 : H a4 = some (.tup [.int 5, .int 4, .int 7])) {d : Int} (d0 : 0 ≤ d) (d5 : d < 5) :
    ∃ (a : Addr) (ks : List Kn), atI [V.ref a0, .ref a1, .ref a2, .ref a3, .ref a4] d = some (.ref a) ∧ H a = some (.tup (ks.map Kn.v)) ∧ ks.length ≤ 3 ∧ (∀ hd, ∀ k ∈ ks, goK hd k) ∧ hidN ks = 0 := by
  have c : d = 0 ∨ d = 1 ∨ d = 2 ∨ d = 3 ∨ d = 4 := by omega
  have gp : ∀ (ns : List Int), (∀ n ∈ ns, 2 ≤ n ∧ n ≤ 9) → ∀ hd, ∀ k ∈ ns.map Kn.p, goK hd k := by
    intro ns h hd k hk
    obtain ⟨n, hn, rfl⟩ := List.mem_map.mp hk
    exact h n hn
  rcases c with rfl | rfl | rfl | rfl | rfl
  · exact ⟨a0, [], rfl, h0, by decide, gp [] (by decide), rfl⟩
  · exact ⟨a1, [.p 2], rfl, h1, by decide, gp [2] (by decide), rfl⟩
  · exact ⟨a2, [.p 3, .p 2], rfl, h2, by decide, gp [3, 2] (by decide), rfl⟩
  · exact ⟨a3, [.p 9], rfl, h3, by decide, gp [9] (by decide), rfl⟩
  · exact ⟨a4, [.p 5, .p 4, .p 7], rfl, h4, by decide, gp [5, 4, 7] (by decide), rfl⟩
theorem menu_at {hd : List Str} {own : Int} (h2 : 2 ≤ own) (h9 : own ≤ 9) {v : V} (hv : v ∈ (hd.map V.str ++ hd.map V.str) ++ [V.int 2, .int 3, .int own]) : ∃ k : Kn, goK hd k ∧ v = k.v := by
  rcases List.mem_append.mp hv with h | h
  · have h' : v ∈ hd.map V.str := by
      rcases List.mem_append.mp h with h | h <;> exact h
    obtain ⟨z, hz, rfl⟩ := List.mem_map.mp h'
    exact ⟨.h z, hz, rfl⟩
  · have h' : v = .int 2 ∨ v = .int 3 ∨ v = .int own := by simpa using h
    rcases h' with rfl | rfl | rfl
    · exact ⟨.p 2, ⟨by decide, by decide⟩, rfl⟩
    · exact ⟨.p 3, ⟨by decide, by decide⟩, rfl⟩
    · exact ⟨.p own, ⟨h2, h9⟩, rfl⟩
theorem gives_in {hd : List Str} {v : V} (hv : v ∈ hd.map V.str ++ [V.int 2, .int 3, .int 4, .int 9]) : ∃ k : Kn, goK hd k ∧ v = k.v := by
  rcases List.mem_append.mp hv with h | h
  · obtain ⟨z, hz, rfl⟩ := List.mem_map.mp h
    exact ⟨.h z, hz, rfl⟩
  · have h' : v = .int 2 ∨ v = .int 3 ∨ v = .int 4 ∨ v = .int 9 := by simpa using h
    rcases h' with rfl | rfl | rfl | rfl
    · exact ⟨.p 2, ⟨by decide, by decide⟩, rfl⟩
    · exact ⟨.p 3, ⟨by decide, by decide⟩, rfl⟩
    · exact ⟨.p 4, ⟨by decide, by decide⟩, rfl⟩
    · exact ⟨.p 9, ⟨by decide, by decide⟩, rfl⟩
/-- the thing at a drawn place -/
theorem at_mem {xs : List V} {d : Int} (d0 : 0 ≤ d) (dl : d < (xs.length : Int)) : ∃ v ∈ xs, atI xs d = some v := by
  have hi : d.toNat < xs.length := by omega
  refine ⟨xs[d.toNat], List.getElem_mem hi, ?_⟩
  have := atI_nat (xs := xs) (j := d.toNat) (List.getElem?_eq_getElem hi)
  rw [Int.toNat_of_nonneg d0] at this
  exact this
/-- a hidden one less -/
theorem hid_set {ks : List Kn} {j : Nat} {k : Kn} (hk : ks[j]? = some k) (h : k.isH = true) : hidN (ks.set j (.p 3)) + 1 = hidN ks := by
  induction ks generalizing j with
  | nil => cases hk
  | cons a r ih =>
    cases j with
    | zero =>
      cases hk
      unfold hidN
      rw [List.set_cons_zero, List.filter_cons_of_pos h, List.filter_cons_of_neg (by simp [Kn.isH])]
      rfl
    | succ j =>
      have := ih (j := j) hk
      unfold hidN at this ⊢
      rw [List.set_cons_succ, List.filter_cons, List.filter_cons]
      cases a.isH <;> simp <;> omega
theorem hid_all {ks : List Kn} (h3 : ks.length ≤ 3) (h : 2 < hidN ks) : ∃ k, ks[0]? = some k ∧ k.isH = true := by
  cases ks with
  | nil => exact absurd h (by decide)
  | cons a r =>
    refine ⟨a, rfl, ?_⟩
    cases c : a.isH with
    | true => rfl
    | false =>
      unfold hidN at h
      rw [List.filter_cons_of_neg (by simp [c])] at h
      have := List.length_filter_le Kn.isH r
      rw [List.length_cons] at h3
      omega
theorem hid_len (ks : List Kn) : hidN ks ≤ ks.length := List.length_filter_le _ _
theorem insK {ks : List Kn} {k : Kn} (i : Nat) : ((ks.map Kn.v).take i ++ [k.v] ++ (ks.map Kn.v).drop i) = (ks.take i ++ [k] ++ ks.drop i).map Kn.v := by
  rw [List.map_append, List.map_append, List.map_take, List.map_drop]
  rfl
section
variable {P : Program} {w : World} {K : PySem.W.Frag} {mg : Str → Option Value} {base : Heap}
def spFaceP (K : PySem.W.Frag) : Sp := fun vs H Q _ => ∃ (p : Addr) (B : Int), vs = [.ref p] ∧ Drw H p B ∧ 0 ≤ B ∧ B ≤ 80000 ∧
  ∀ H' v f, Gp p H H' → Drw H' p (B + 300) → Dp K H' v (Fc.d f) → goF f → Q v H'
set_option maxHeartbeats 8000000 in
theorem ok_faceP {f fG fN : Addr} {fd fdG fdN : FuncData} {k : Nat} (F : Fun K "_law_face" "_law_face" sFaceP f fd) (DG : Has P w K mg base (k + 3) "_law_digit" ["_law_state", "_law_many"] spDigit fG fdG)
    (HN : Has P w K mg base (k + 3) "_law_names" ["_law_state", "_law_many"] spNamesP fN fdN)
    (mr : mg "range" = none) (ml : mg "len" = none) (mt : mg "tuple" = none) (ms : mg "sorted" = none) (me : mg "enumerate" = none) : FnOk P w K mg base CX0 (k + 4) f fd ["_law_state"] (spFaceP K) := by
  refine F.ok scFaceP (fun vs H Q E h => ?_) (fun cdv A outer s H vs Q E hr h => ?_)
  · obtain ⟨p, B, rfl, _⟩ := h
    rfl
  · obtain ⟨p, B, rfl, dr, B0, B9, q⟩ := h
    have nd := scFaceP.nd
    refine' ⟨_, pss_cons ?s1 (pss_cons ?s2 (pss_cons ?s3 (pss_one ?s4))), ?rd⟩
    case s1 => exact ps_set (i := 1) nd rfl (.inr rfl) (pe_callB cr_sortedS (by rfl) ms (by decide +kernel) (pa_cons (hcall HN hr (pa_cons (pv 0) (pa_cons (pe_op op_add pe_int (hcall DG hr (pa_cons (pv 0) (pa_cons pe_int pa_nil)))) pa_nil))) pa_nil))
    case s2 => exact ps_set (i := 2) nd rfl (.inl rfl) (pe_lst pa_nil)
    case s3 =>
      refine' ps_for PassesOwn.never rfl (pi_enum (by rfl) me (pa_cons (hcall HN hr (pa_cons (pv 0) (pa_cons (pe_op op_add (pe_op op_add (pe_callB call_len_seq (by rfl) ml PySem.boot_len (pa_cons (pv 1) pa_nil)) pe_int) (hcall DG hr (pa_cons (pv 0) (pa_cons pe_int pa_nil)))) pa_nil))) pa_nil))
        (pg_tup rfl (pgs_cons (pg_name (i := 3) nd rfl (.inl rfl)) (pgs_cons (pg_name (i := 4) nd rfl (.inl rfl)) pgs_nil))) (pss_one ?b1)
      case b1 =>
        refine' ps_if (pt_cmpR op_lt (pv 3) (pe_callB call_len_seq (by rfl) ml PySem.boot_len (pa_cons (pv 1) pa_nil)) (nomark _)) (pss_cons ?c1 (pss_one ?c2)) (pss_cons ?d1 (pss_cons ?d2 (pss_cons ?d3 (pss_cons ?d4 (pss_cons ?d5 (pss_one ?d6))))))
        case c1 =>
          exact ps_set (i := 5) nd rfl (.inl rfl) (pe_ix ix_list (pe_lst (pa_cons (pe_tup pa_nil) (pa_cons (pe_tup (pa_cons pe_int pa_nil)) (pa_cons (pe_tup (pa_cons pe_int (pa_cons pe_int pa_nil))) (pa_cons (pe_tup (pa_cons pe_int pa_nil)) (pa_cons (pe_tup (pa_cons pe_int (pa_cons pe_int (pa_cons pe_int pa_nil)))) pa_nil)))))) (hcall DG hr (pa_cons (pv 0) (pa_cons pe_int pa_nil))) (fun _ _ => rfl))
        case c2 =>
          exact ps_expr (pe_bm PySem.F.plainAttrs_list PySem.F.slot_list_append PySem.F.type_list_append mt_append (pv 2) (pa_cons (pe_tup (pa_cons (pv 4) (pa_cons (pv 5) (pa_cons (pe_ix ix_list (pv 1) (pv 3) (fun _ _ => rfl)) pa_nil)))) pa_nil))
        case d1 =>
          exact ps_set (i := 6) nd rfl (.inr rfl) (pe_op op_cat (pe_op op_cat (pv 1) (pv 1)) (pe_lst (pa_cons pe_int (pa_cons pe_int (pa_cons (pe_op op_add pe_int (hcall DG hr (pa_cons (pv 0) (pa_cons pe_int pa_nil)))) pa_nil)))))
        case d2 =>
          exact ps_setLc (i := 5) (own := [("_law_k", 8)]) (g := gName 8) rfl nd rfl rfl (sw_true rfl rfl rfl (by decide +kernel)) (pi_range1 (by rfl) mr (pa_cons (hcall DG hr (pa_cons (pv 0) (pa_cons pe_int pa_nil))) pa_nil))
            (blkOk_by (own := [("_law_k", 8)]) (N := nFaceP) (sc := defScope sFaceP) (by decide +kernel)) (fun _ _ _ _ _ => pg_name (i := 8) nd rfl (Or.inl rfl)) (fun _ _ _ _ _ => pts_nil)
            (fun _ _ _ _ _ => pe_ix (r := rIxL K) ix_list (pv 6) (hcall DG hr (pa_cons (pv 0) (pa_cons (pe_callB (r := rLenC K) call_len_seq (by rfl) ml PySem.boot_len (pa_cons (pv 6) pa_nil)) pa_nil))) (fun _ _ => rfl))
        case d3 =>
          exact ps_expr (pe_bm PySem.F.plainAttrs_list PySem.F.slot_list_insert PySem.F.type_list_insert mt_insert (pv 5) (pa_cons (hcall DG hr (pa_cons (pv 0) (pa_cons pe_int pa_nil))) (pa_cons (pe_ix ix_list (pe_lst (pa_cons (pe_ix ix_list (pv 1) pe_int (fun _ _ => rfl)) (pa_cons (pe_ix ix_list (pv 1) (pe_un un_neg pe_int) (fun _ _ => rfl)) (pa_cons pe_int pa_nil))))
            (hcall DG hr (pa_cons (pv 0) (pa_cons pe_int pa_nil))) (fun _ _ => rfl)) pa_nil)))
        case d4 =>
          exact ps_while PassesOwn.never (pt_cmpR op_gt (pe_callB call_len_seq (by rfl) ml PySem.boot_len (pa_cons
              (pe_lc (own := [("_law_one", 9)]) (g := gName 9) rfl nd (pi_list (pv 5)) (blkOk_by (own := [("_law_one", 9)]) (N := nFaceP) (sc := defScope sFaceP) (by decide +kernel)) (fun _ _ _ _ _ => pg_name (i := 9) nd rfl (Or.inl rfl))
                (fun _ _ _ _ _ => pts_one (pt_cmpR (r := rIn K false) op_in_seq (pv 9) (pv 1) rfl)) (fun _ _ _ _ _ => pv 9)) pa_nil)) pe_int (nomark _))
            (pss_one (ps_asg pe_int (pg_sub (pv 5) (pe_ifExp (pt_cmpR (r := rIn K false) op_in_seq (pe_ix ix_list (pv 1) pe_int (fun _ _ => rfl)) (pv 5) rfl)
              (pe_bm PySem.F.plainAttrs_list PySem.F.slot_list_index PySem.F.type_list_index mt_index (pv 5) (pa_cons (pe_ix ix_list (pv 1) pe_int (fun _ _ => rfl)) pa_nil)) pe_int) set_list)))
        case d5 =>
          exact ps_set (i := 7) nd rfl (.inl rfl) (pe_ix ix_list (pe_op op_cat (pv 1) (pe_lst (pa_cons pe_int (pa_cons pe_int (pa_cons pe_int (pa_cons pe_int pa_nil)))))) (hcall DG hr (pa_cons (pv 0) (pa_cons (pe_op op_add (pe_callB call_len_seq (by rfl) ml PySem.boot_len (pa_cons (pv 1) pa_nil)) pe_int) pa_nil))) (fun _ _ => rfl))
        case d6 =>
          exact ps_expr (pe_bm PySem.F.plainAttrs_list PySem.F.slot_list_append PySem.F.type_list_append mt_append (pv 2) (pa_cons (pe_tup (pa_cons (pv 4) (pa_cons (pe_callTy call_tuple_of (by rfl) mt (by decide +kernel) (pa_cons (pv 5) pa_nil)) (pa_cons (pv 7) pa_nil)))) pa_nil))
    case s4 =>
      exact ps_ret (pe_tup (pa_cons (pe_callTy call_tuple_of (by rfl) mt (by decide +kernel) (pa_cons (pv 1) pa_nil)) (pa_cons (pe_callTy call_tuple_of (by rfl) mt (by decide +kernel) (pa_cons (pe_callB cr_sortedH (by rfl) ms (by decide +kernel) (pa_cons (pv 2) pa_nil)) pa_nil)) pa_nil)))
    case rd =>
    -- hidden
    refine ⟨_, rfl, _, rfl, p, 2, _, rfl, dr, by omega, by decide, by decide, fun H1 d b1 dr1 d0 d2 => ?_⟩
    refine ⟨1, d, rfl, rfl, ?_⟩
    have c1 : (1 : Int) + d = (((1 + d).toNat : Nat) : Int) := by omega
    refine ⟨p, (1 + d).toNat, _, (by show [V.ref p, V.int (1 + d)] = [V.ref p, V.int (((1 + d).toNat : Nat) : Int)]; rw [← c1]), by omega, dr1, by omega, by omega, fun H2 l zs g2 dr2 nl hl lz ndz hn => ?_⟩
    refine ⟨l, zs, rfl, .inl (.inl hl), by omega, fun hd hh perm so nhh => ?_⟩
    have up := sorted_up so perm ndz
    have lhd : hd.length = (1 + d).toNat := perm.length_eq.trans lz
    have gh : goH hd := ⟨by omega, by omega, fun z hz => hn z (perm.mem_iff.mp hz), up⟩
    have g3 : Gr H2 (upd H2 hh (.lst (hd.map V.str))) := Gr.new nhh
    have gp3 : Gp p H (upd H2 hh (.lst (hd.map V.str))) := ((Gp.but b1).trans g2).trans (Gp.gr g3)
    have dr3 : Drw (upd H2 hh (.lst (hd.map V.str))) p (B + 21) := (dr2.gr g3).mono (by omega)
    have hhh : upd H2 hh (.lst (hd.map V.str)) hh = some (.lst (hd.map V.str)) := upd_same
    generalize upd H2 hh (.lst (hd.map V.str)) = H3 at g3 gp3 dr3 hhh ⊢
    have hhp : hh ≠ p := dr3.l_ne hhh
    clear nhh g3 perm so hn hl nl g2 dr2 b1 dr1 c1
    have hd1 := gh.lo
    have hd2 := gh.hi
    -- deeds
    refine ⟨Nat.zero_le _, fun dl ndl => ?_⟩
    have ndp : dl ≠ p := dr3.ne ndl
    have ndlH : H dl = none := gp3.back dl ndp ndl
    have k4 : Gr H3 (upd H3 dl (.lst [])) := Gr.new ndl
    have e4 : upd H3 dl (.lst []) dl = some (.lst []) := upd_same
    have hne : hh ≠ dl := ne_of_none hhh ndl
    generalize upd H3 dl (.lst []) = H4 at k4 e4 ⊢
    have hh4 := k4.lst hhh
    have dr4 := dr3.gr k4
    have gp4 := gp3.trans (Gp.gr k4)
    clear k4 gp3 dr3 hhh ndl
    refine ⟨_, rfl, _, rfl, hh, _, rfl, .inl (.inl (.inl hh4)), _, 1, rfl, rfl, _, rfl, p, 6, _, rfl, dr4, by omega, by decide, by decide, fun H5 d5 b5 dr5 e0 e6 => ?_⟩
    rw [List.length_map]
    refine ⟨_, d5, rfl, rfl, ?_⟩
    obtain ⟨m, em⟩ : ∃ m : Nat, ((hd.length : Nat) : Int) + 1 + d5 = (m : Int) := ⟨(((hd.length : Nat) : Int) + 1 + d5).toNat, by omega⟩
    have m8 : m ≤ 8 := by omega
    have m2 : 2 ≤ m := by omega
    refine ⟨p, m, _, (by show [V.ref p, V.int (((hd.length : Nat) : Int) + 1 + d5)] = [V.ref p, V.int (m : Int)]; rw [em]), by omega, dr5, by omega, by omega, fun H6 nl ns g6 dr6 nnl hnl lns ndn hnn => ?_⟩
    have nlp : nl ≠ p := dr5.ne nnl
    have g46 : Gp p H4 H6 := (Gp.but b5).trans g6
    have hh6 := g46.lst hhp hh4
    have e6' := g46.lst ndp e4
    have hnd : nl ≠ dl := by
      intro z
      rw [z, b5 dl ndp, e4] at nnl
      cases nnl
    have gpF := gp4.trans g46
    have drF : Drw H6 p (B + 110) := dr6.mono (by omega)
    clear b5 g6 dr5 dr6 g46 hh4 e4 dr4 gp4 nnl em
    refine ⟨nl, ns.map V.str, rfl, .inl (.inl hnl), ?_⟩
    refine for_it (walk_enum (xs := ns.map V.str)) (fun i σ S => ∃ (es : List De) (xs : List V) (y3 y4 y5 y6 y7 : Option V), σ = [some (.ref p), some (.ref hh), some (.ref dl), y3, y4, y5, y6, y7, none, none] ∧
      S dl = some (.lst xs) ∧ DpAll K S xs (es.map De.d) ∧ Begin S xs (es.map De.nm) ∧ es.map De.nm = ns.take i ∧ (∀ e ∈ es, goD hd e) ∧ S nl = some (.lst (ns.map V.str)) ∧ S hh = some (.lst (hd.map V.str)) ∧ Gp p H S ∧ Drw S p (B + 110 + 10 * (i : Nat)))
      ⟨[], [], none, none, none, none, none, rfl, e6', .nil, ⟨rfl, fun i t h => by cases h⟩, rfl, by simp, hnl, hh6, gpF, drF.mono (by omega)⟩ ?h1 ?h2 ?h3
    case h1 =>
      rintro i σ S hi ⟨es, xs, y3, y4, y5, y6, y7, rfl, _, _, _, _, _, en, _⟩
      exact .inl (.inl en)
    case h3 =>
      rintro σ S ⟨es, xs, y3, y4, y5, y6, y7, rfl, ed, da, bg, nme, ok, en, eh, g, d⟩
      rw [List.length_map, List.take_length] at nme
      rw [List.length_map] at d
      refine ⟨_, rfl, hh, _, rfl, .inl ⟨.inl (.inl eh), fun th nth => ?_⟩⟩
      have k1 : Gr S (upd S th (.tup (hd.map V.str))) := Gr.new nth
      have e1 : upd S th (.tup (hd.map V.str)) th = some (.tup (hd.map V.str)) := upd_same
      generalize upd S th (.tup (hd.map V.str)) = S1 at k1 e1 ⊢
      have b5 := bg.gr k1
      have m5 := b5.map
      refine ⟨_, rfl, dl, xs, hdH S1, rfl, .inl (.inl (k1.lst ed)), ?_, inj_nodup (by rw [m5, nme]; exact ndn), fun us p6 perm6 so6 n6 => ?_⟩
      · intro x hx
        obtain ⟨i, hi⟩ := List.getElem?_of_mem hx
        obtain ⟨t, z, r, rfl, _, ht⟩ := b5.2 i x hi
        exact ⟨t, r, rfl, .inl (.inl (by rw [hdH_tup ht]; exact ht))⟩
      obtain ⟨es', pe, de, ne⟩ := dpA_perm (hd := hdH S1) perm6 (k1.kd.dpA da) m5
      have k2 : Gr S1 (upd S1 p6 (.lst us)) := Gr.new n6
      have e2 : upd S1 p6 (.lst us) p6 = some (.lst us) := upd_same
      have rise : (es'.map De.nm).Pairwise lt := by
        refine rises ?_ ((pe.map De.nm).nodup_iff.mpr (by rw [nme]; exact ndn))
        rw [← ne]
        exact List.pairwise_map.mpr so6
      generalize upd S1 p6 (.lst us) = S2 at k2 e2 ⊢
      refine ⟨p6, _, rfl, .inl ⟨.inl (.inl e2), fun td ntd => ?_⟩⟩
      have k3 : Gr S2 (upd S2 td (.tup us)) := Gr.new ntd
      have e3 : upd S2 td (.tup us) td = some (.tup us) := upd_same
      generalize upd S2 td (.tup us) = S3 at k3 e3 ⊢
      refine ⟨by show 2 ≤ sizeLine; decide, fun tf ntf => ?_⟩
      have k4 : Gr S3 (upd S3 tf (.tup [.ref th, .ref td])) := Gr.new ntf
      have kA := k1.trans (k2.trans (k3.trans k4))
      have les : es'.length = m := by
        rw [pe.length_eq, ← List.length_map (f := De.nm), nme, lns]
      refine q _ (.ref tf) ⟨hd, es'⟩ (g.trans (Gp.gr kA)) ((d.gr kA).mono (by omega)) ?_ ⟨gh, by show 1 ≤ es'.length; omega, by show es'.length ≤ 8; omega, rise, fun e he => ok e (pe.mem_iff.mp he)⟩
      exact .tup (.inl (.inl upd_same)) (.cons (.tup (.inl (.inl ((k2.trans (k3.trans k4)).tup e1))) (dpA_sv hd)) (.cons (.tup (.inl (.inl (k4.tup e3))) ((k2.trans (k3.trans k4)).kd.dpA de)) .nil))
    case h2 =>
      rintro i v σ S S' hi ⟨es, xs, y3, y4, y5, y6, y7, rfl, ed, da, bg, nme, ok, en, eh, g, d⟩ ⟨T, kx, cx, rfl, nT, rfl, ek, ec⟩
      cases ek
      have iy : i < ns.length := by
        rw [List.length_map] at hi
        exact hi
      replace ec : (ns.map V.str)[i]? = some cx := ec
      rw [List.getElem?_map] at ec
      obtain ⟨nm, hnm, rfl⟩ := Option.map_eq_some_iff.mp ec
      have inm := hnn nm (List.mem_of_getElem? hnm)
      have lxs : xs.length ≤ 8 := by
        have a1 := dpA_len da
        have a2 := congrArg List.length nme
        rw [List.length_map] at a1
        rw [List.length_map, List.length_take] at a2
        omega
      refine ⟨T, [.int (i : Nat), .str nm], rfl, .inl (.inl upd_same), rfl, .int (i : Nat), [.str nm], rfl, .str nm, [], rfl, rfl, ?_⟩
      have k1 : Gr S (upd S T (.tup [.int (i : Nat), .str nm])) := Gr.new nT
      generalize upd S T (.tup [.int (i : Nat), .str nm]) = S1 at k1 ⊢
      have eh1 := k1.lst eh
      have d1 := d.gr k1
      -- what is said of a turn's end
      have fin : ∀ (S9 : Hp) (tt t' : Addr) (e : De), e.nm = nm → goD hd e → S9 tt = some (.tup [.str nm, .ref t', e.gv.v]) → S9 t' = some (.tup (e.tk.map Kn.v)) → Gp p S S9 → Drw S9 p (B + 110 + 10 * (i : Nat) + 10) → ∀ (y5' y6' y7' : Option V),
          ∃ (es' : List De) (xs' : List V) (y3 y4 y5 y6 y7 : Option V), [some (V.ref p), some (.ref hh), some (.ref dl), some (.int (i : Nat)), some (.str nm), y5', y6', y7', none, none] = [some (.ref p), some (.ref hh), some (.ref dl), y3, y4, y5, y6, y7, none, none] ∧
            upd S9 dl (.lst (xs ++ [.ref tt])) dl = some (.lst xs') ∧ DpAll K (upd S9 dl (.lst (xs ++ [.ref tt]))) xs' (es'.map De.d) ∧ Begin (upd S9 dl (.lst (xs ++ [.ref tt]))) xs' (es'.map De.nm) ∧ es'.map De.nm = ns.take (i + 1) ∧ (∀ e ∈ es', goD hd e) ∧ upd S9 dl (.lst (xs ++ [.ref tt])) nl = some (.lst (ns.map V.str)) ∧ upd S9 dl (.lst (xs ++ [.ref tt])) hh = some (.lst (hd.map V.str)) ∧ Gp p H (upd S9 dl (.lst (xs ++ [.ref tt]))) ∧ Drw (upd S9 dl (.lst (xs ++ [.ref tt]))) p (B + 110 + 10 * ((i + 1 : Nat) : Int)) := by
        intro S9 tt t' e ne gd ett et g9 d9 y5' y6' y7'
        have ed9 := g9.lst ndp ed
        have new : Dp K S9 (.ref tt) e.d := .tup (.inl (.inl ett)) (.cons (by rw [ne]; exact .str nm) (.cons (.tup (.inl (.inl et)) (dpA_kv e.tk)) (.cons (dp_kv e.gv) .nil)))
        refine ⟨es ++ [e], xs ++ [.ref tt], _, _, _, _, _, rfl, upd_same, ?_, ?_, ?_, ?_, ?_, ?_, (g.trans g9).upd_new ndlH, (d9.upd ndp).mono (by omega)⟩
        · rw [List.map_append]
          exact dpA_app (des_lst ed9 ((d.kd (K := K) g9).dpA da)) (.cons (de_lst ed9 new) .nil)
        · rw [List.map_append]
          refine Begin.lst ?_ ed9
          have := (bg.gp d g9).snoc ett
          rw [← ne] at this
          exact this
        · rw [List.map_append, nme, List.take_add_one, hnm, ← ne]
          rfl
        · intro e' he
          rcases List.mem_append.mp he with h | h
          · exact ok e' h
          · rw [List.mem_singleton.mp h]
            exact gd
        · rw [upd_ne hnd]
          exact g9.lst nlp en
        · rw [upd_ne hne]
          exact g9.lst hhp eh
      refine ⟨_, rfl, _, rfl, hh, _, rfl, .inl (.inl (.inl eh1)), _, _, rfl, rfl, _, rfl, ?_⟩
      rw [List.length_map]
      rcases Nat.lt_or_ge i hd.length with c | c
      · rw [decide_eq_true (show ((i : Nat) : Int) < ((hd.length : Nat) : Int) by omega)]
        obtain ⟨z, hz⟩ : ∃ z, hd[i]? = some z := ⟨hd[i], List.getElem?_eq_getElem c⟩
        refine iteT ⟨Nat.zero_le _, fun a0 n0 => ?_⟩
        have u0 : Gr S1 (upd S1 a0 (.tup [])) := Gr.new n0
        have f0 : upd S1 a0 (.tup []) a0 = some (.tup []) := upd_same
        generalize upd S1 a0 (.tup []) = T0 at u0 f0 ⊢
        refine ⟨by show 1 ≤ sizeLine; decide, fun a1 n1 => ?_⟩
        have u1 : Gr T0 (upd T0 a1 (.tup [.int 2])) := Gr.new n1
        have f1 : upd T0 a1 (.tup [.int 2]) a1 = some (.tup [.int 2]) := upd_same
        generalize upd T0 a1 (.tup [.int 2]) = T1 at u1 f1 ⊢
        refine ⟨by show 2 ≤ sizeLine; decide, fun a2 n2 => ?_⟩
        have u2 : Gr T1 (upd T1 a2 (.tup [.int 3, .int 2])) := Gr.new n2
        have f2 : upd T1 a2 (.tup [.int 3, .int 2]) a2 = some (.tup [.int 3, .int 2]) := upd_same
        generalize upd T1 a2 (.tup [.int 3, .int 2]) = T2 at u2 f2 ⊢
        refine ⟨by show 1 ≤ sizeLine; decide, fun a3 n3 => ?_⟩
        have u3 : Gr T2 (upd T2 a3 (.tup [.int 9])) := Gr.new n3
        have f3 : upd T2 a3 (.tup [.int 9]) a3 = some (.tup [.int 9]) := upd_same
        generalize upd T2 a3 (.tup [.int 9]) = T3 at u3 f3 ⊢
        refine ⟨by show 3 ≤ sizeLine; decide, fun a4 n4 => ?_⟩
        have u4 : Gr T3 (upd T3 a4 (.tup [.int 5, .int 4, .int 7])) := Gr.new n4
        have f4 : upd T3 a4 (.tup [.int 5, .int 4, .int 7]) a4 = some (.tup [.int 5, .int 4, .int 7]) := upd_same
        generalize upd T3 a4 (.tup [.int 5, .int 4, .int 7]) = T4 at u4 f4 ⊢
        refine ⟨by show 5 ≤ sizeLine; decide, fun al nal => ?_⟩
        have u5 : Gr T4 (upd T4 al (.lst [.ref a0, .ref a1, .ref a2, .ref a3, .ref a4])) := Gr.new nal
        have f5 : upd T4 al (.lst [.ref a0, .ref a1, .ref a2, .ref a3, .ref a4]) al = some (.lst [.ref a0, .ref a1, .ref a2, .ref a3, .ref a4]) := upd_same
        generalize upd T4 al (.lst [.ref a0, .ref a1, .ref a2, .ref a3, .ref a4]) = T5 at u5 f5 ⊢
        have u45 := u4.trans u5
        have u35 := u3.trans u45
        have u25 := u2.trans u35
        have u15 := u1.trans u25
        have g5 := k1.trans (u0.trans u15)
        have d5 := d.gr g5
        refine ⟨_, rfl, p, 5, _, rfl, d5, by omega, by decide, by decide, fun S7 d7 b7 d7' z0 z5 => ?_⟩
        have alp : al ≠ p := d5.l_ne f5
        have tk : ∀ {a : Addr} {ys : List V}, T5 a = some (.tup ys) → S7 a = some (.tup ys) := fun {a ys} h => (b7 a (d5.at_ne h)).trans h
        obtain ⟨ta, ks, ea, eta, k3, gk, h0⟩ := five_at (tk (u15.tup f0)) (tk (u25.tup f1)) (tk (u35.tup f2)) (tk (u45.tup f3)) (tk (u5.tup f4)) z0 z5
        refine ⟨al, _, d7, .ref ta, rfl, rfl, .inl (.inl ((b7 al alp).trans f5)), ea, ?_⟩
        have g7 : Gp p S S7 := (Gp.gr g5).trans (Gp.but b7)
        have eh7 := g7.lst hhp eh
        have ed7 := g7.lst ndp ed
        refine ⟨_, rfl, .inl ⟨rfl, _, .inl (.inl ed7)⟩, _, rfl, _, rfl, _, rfl, _, rfl, hh, _, (i : Nat), .str z, rfl, rfl, .inl (.inl eh7), atI_nat (by rw [List.getElem?_map, hz]; rfl), ?_⟩
        refine ⟨by show 3 ≤ sizeLine; decide, fun tt ntt => ?_⟩
        have k8 : Gr S7 (upd S7 tt (.tup [.str nm, .ref ta, .str z])) := Gr.new ntt
        refine ⟨dl, _, _, rfl, rfl, k8.lst ed7, small1000 (by omega), ?_⟩
        exact fin _ tt ta ⟨nm, ks, .h z⟩ rfl ⟨inm, k3, gk hd, by show hidN ks ≤ 2; omega, List.mem_of_getElem? hz⟩ upd_same (k8.tup eta) (g7.trans (Gp.gr k8)) ((d7'.gr k8).mono (by omega)) _ _ _
      · rw [decide_eq_false (show ¬ ((i : Nat) : Int) < ((hd.length : Nat) : Int) by omega)]
        -- what may be taken
        refine iteF ⟨_, rfl, _, rfl, hh, hh, _, _, rfl, rfl, eh1, eh1, by simp only [List.length_map]; exact Nat.le_of_lt (small1000 (by omega)), fun m1 nm1 => ?_⟩
        have u1 : Gr S1 (upd S1 m1 (.lst (hd.map V.str ++ hd.map V.str))) := Gr.new nm1
        have f1 : upd S1 m1 (.lst (hd.map V.str ++ hd.map V.str)) m1 = some (.lst (hd.map V.str ++ hd.map V.str)) := upd_same
        generalize upd S1 m1 (.lst (hd.map V.str ++ hd.map V.str)) = T1 at u1 f1 ⊢
        have d1' := d1.gr u1
        refine ⟨_, rfl, p, 6, _, rfl, d1', by omega, by decide, by decide, fun S2 x2 b2 d2 z0 z6 => ⟨4, x2, rfl, rfl, by show 3 ≤ sizeLine; decide, fun m2 nm2 => ?_⟩⟩
        have u2 : Gr S2 (upd S2 m2 (.lst [.int 2, .int 3, .int (4 + x2)])) := Gr.new nm2
        have f2 : upd S2 m2 (.lst [.int 2, .int 3, .int (4 + x2)]) m2 = some (.lst [.int 2, .int 3, .int (4 + x2)]) := upd_same
        have f12 := u2.lst ((b2 m1 (d1'.l_ne f1)).trans f1)
        have d2' := d2.gr u2
        have gm : Gp p S (upd S2 m2 (.lst [.int 2, .int 3, .int (4 + x2)])) := ((Gp.gr (k1.trans u1)).trans (Gp.but b2)).trans (Gp.gr u2)
        generalize upd S2 m2 (.lst [.int 2, .int 3, .int (4 + x2)]) = T2 at u2 f2 f12 d2' gm ⊢
        refine ⟨m1, m2, _, _, rfl, rfl, f12, f2, by simp only [List.length_append, List.length_map]; exact Nat.le_of_lt (small1000 (by show hd.length + hd.length + 3 ≤ 1000; omega)), fun ml' nml => ?_⟩
        have hmem := fun (v : V) (hv : v ∈ (hd.map V.str ++ hd.map V.str) ++ [V.int 2, .int 3, .int (4 + x2)]) => menu_at (hd := hd) (show 2 ≤ 4 + x2 by omega) (show 4 + x2 ≤ 9 by omega) hv
        have hlen : 3 ≤ ((hd.map V.str ++ hd.map V.str) ++ [V.int 2, .int 3, .int (4 + x2)]).length ∧ ((hd.map V.str ++ hd.map V.str) ++ [V.int 2, .int 3, .int (4 + x2)]).length ≤ 7 := by
          rw [List.length_append, List.length_append, List.length_map]
          show 3 ≤ _ + 3 ∧ _ + 3 ≤ 7
          omega
        generalize (hd.map V.str ++ hd.map V.str) ++ [V.int 2, .int 3, .int (4 + x2)] = its at hmem hlen ⊢
        have u3 : Gr T2 (upd T2 ml' (.lst its)) := Gr.new nml
        have f3 : upd T2 ml' (.lst its) ml' = some (.lst its) := upd_same
        have d3 := d2'.gr u3
        have g3 : Gp p S (upd T2 ml' (.lst its)) := gm.trans (Gp.gr u3)
        generalize upd T2 ml' (.lst its) = T3 at f3 d3 g3 ⊢
        have mlp : ml' ≠ p := d3.l_ne f3
        clear u1 f1 d1' b2 d2 u2 f2 f12 d2' gm u3 nm1 nm2 nml
        -- what is taken
        refine ⟨_, rfl, p, 3, _, rfl, d3, by omega, by decide, by decide, fun S4 x4 b4 d4 y0 y3' => ⟨_, rfl, by omega, by omega, fun D nD => ?_⟩⟩
        have g4 : Gp p S S4 := g3.trans (Gp.but b4)
        have f4 : S4 ml' = some (.lst its) := (b4 ml' mlp).trans f3
        have nDp : D ≠ p := d4.ne nD
        have nDS : S D = none := g4.back D nDp nD
        refine lc_it (walk_range (lo := 0) (n := x4.toNat)) (fun j S5 => ∃ ks : List Kn, S5 D = some (.lst (ks.map Kn.v)) ∧ ks.length = j ∧ (∀ k ∈ ks, goK hd k) ∧ S5 ml' = some (.lst its) ∧ Gp p S S5 ∧ Drw S5 p (B + 110 + 10 * (i : Nat) + 2 + (j : Nat))) ?l0 (fun _ _ _ _ => trivial) ?l1 ?l2
        case l0 => exact ⟨[], upd_same, rfl, by simp, (Gr.new nD).lst f4, g4.trans (Gp.gr (Gr.new nD)), (d4.new nD).mono (by omega)⟩
        case l1 =>
          rintro j x S5 S5' hj ⟨ks, eD, lk, gk, f5, g5, d5⟩ ⟨rfl, rfl⟩
          refine ⟨rfl, tYes_i (iteT ?_)⟩
          have mD : ml' ≠ D := ne_of_none f4 nD
          refine ⟨_, rfl, _, rfl, _, rfl, ml', _, rfl, .inl (.inl (.inl f5)), p, _, _, rfl, d5, by omega, by omega, by omega, fun S6 x6 b6 d6 w0 w1 => ?_⟩
          obtain ⟨v, hv, ev⟩ := at_mem w0 w1
          obtain ⟨kn, gkn, rfl⟩ := hmem v hv
          refine ⟨ml', its, x6, kn.v, rfl, rfl, .inl (.inl ((b6 ml' mlp).trans f5)), ev, _, (b6 D nDp).trans eD, ?_, ks ++ [kn], ?_, ?_, ?_, ?_, (g5.trans (Gp.but b6)).upd_new nDS, (d6.upd nDp).mono (by omega)⟩
          · rw [List.length_map]
            exact small1000 (by omega)
          · rw [upd_same, List.map_append]
            rfl
          · rw [List.length_append, lk]
            rfl
          · intro k hk
            rcases List.mem_append.mp hk with h | h
            · exact gk k h
            · rw [List.mem_singleton.mp h]
              exact gkn
          · rw [upd_ne mD]
            exact (b6 ml' mlp).trans f5
        case l2 =>
          rintro S5 ⟨ks, eD, lk, gk, f5, g5, d5⟩
          have l2 : ks.length ≤ 2 := by omega
          have d5 : Drw S5 p (B + 110 + 10 * (i : Nat) + 4) := d5.mono (by omega)
          clear f5 f4 b4 d4 g4 f3 d3 g3 hmem hlen lk mlp
          have eh5 := g5.lst hhp eh
          obtain ⟨h0, eh0⟩ : ∃ h0, hd[0]? = some h0 := ⟨hd[0], List.getElem?_eq_getElem (by omega)⟩
          have at0 : atI (hd.map V.str) 0 = some (.str h0) := atI_nat (j := 0) (by rw [List.getElem?_map, eh0]; rfl)
          have gh0 : goK hd (.h h0) := List.mem_of_getElem? eh0
          obtain ⟨h9, atm, gh9⟩ : ∃ h9, atI (hd.map V.str) (-1) = some (.str h9) ∧ goK hd (.h h9) := by
            obtain ⟨h9, e9⟩ : ∃ h9, hd[hd.length - 1]? = some h9 := ⟨hd[hd.length - 1], List.getElem?_eq_getElem (by omega)⟩
            refine ⟨h9, ?_, List.mem_of_getElem? e9⟩
            unfold atI ixN
            rw [if_neg (by decide), if_pos (by rw [List.length_map]; omega)]
            show (hd.map V.str)[((-1 : Int) + ((hd.map V.str).length : Nat)).toNat]? = _
            rw [List.length_map, show ((-1 : Int) + ((hd.length : Nat) : Int)).toNat = hd.length - 1 by omega, List.getElem?_map, e9]
            rfl
          -- one more is put in
          refine ⟨_, rfl, .inl ⟨rfl, _, .inl (.inl eD)⟩, _, rfl, p, 3, _, rfl, d5, by omega, by decide, by decide, fun S6 x6 b6 d6 z0' z3 => ?_⟩
          have eh6 := (b6 hh hhp).trans eh5
          refine ⟨_, rfl, hh, _, 0, .str h0, rfl, rfl, .inl (.inl eh6), at0, ?_⟩
          refine ⟨_, rfl, _, rfl, hh, _, _, .str h9, rfl, rfl, .inl (.inl eh6), atm, by show 3 ≤ sizeLine; decide, fun l3 nl3 => ?_⟩
          have u7 : Gr S6 (upd S6 l3 (.lst [.str h0, .str h9, .int 2])) := Gr.new nl3
          have f7 : upd S6 l3 (.lst [.str h0, .str h9, .int 2]) l3 = some (.lst [.str h0, .str h9, .int 2]) := upd_same
          have eD7 := u7.lst ((b6 D nDp).trans eD)
          have d7 := d6.gr u7
          have g7 : Gp p S (upd S6 l3 (.lst [.str h0, .str h9, .int 2])) := (g5.trans (Gp.but b6)).trans (Gp.gr u7)
          generalize upd S6 l3 (.lst [.str h0, .str h9, .int 2]) = S7 at f7 eD7 d7 g7 ⊢
          refine ⟨_, rfl, p, 3, _, rfl, d7, by omega, by decide, by decide, fun S8 x8 b8 d8 w0 w3 => ?_⟩
          obtain ⟨v, hv, ev⟩ := at_mem (xs := [V.str h0, .str h9, .int 2]) w0 w3
          obtain ⟨kn, gkn, rfl⟩ : ∃ kn : Kn, goK hd kn ∧ v = kn.v := by
            have hv' : v = .str h0 ∨ v = .str h9 ∨ v = .int 2 := by simpa using hv
            rcases hv' with rfl | rfl | rfl
            · exact ⟨.h h0, gh0, rfl⟩
            · exact ⟨.h h9, gh9, rfl⟩
            · exact ⟨.p 2, ⟨by decide, by decide⟩, rfl⟩
          refine ⟨l3, _, x8, kn.v, rfl, rfl, .inl (.inl ((b8 l3 (d7.l_ne f7)).trans f7)), ev, ?_⟩
          have eD8 := (b8 D nDp).trans eD7
          refine ⟨D, _, x6, kn.v, rfl, rfl, eD8, by rw [List.length_map]; exact small1000 (by omega), z0', by omega, ?_⟩
          rw [insK]
          have g9 : Gp p S (upd S8 D (.lst ((ks.take x6.toNat ++ [kn] ++ ks.drop x6.toNat).map Kn.v))) := (g7.trans (Gp.but b8)).upd_new nDS
          have d9 : Drw (upd S8 D (.lst ((ks.take x6.toNat ++ [kn] ++ ks.drop x6.toNat).map Kn.v))) p (B + 110 + 10 * (i : Nat) + 6) := (d8.upd nDp).mono (by omega)
          have e9 : upd S8 D (.lst ((ks.take x6.toNat ++ [kn] ++ ks.drop x6.toNat).map Kn.v)) D = some (.lst ((ks.take x6.toNat ++ [kn] ++ ks.drop x6.toNat).map Kn.v)) := upd_same
          have gk2 : ∀ k ∈ ks.take x6.toNat ++ [kn] ++ ks.drop x6.toNat, goK hd k := by
            intro k hk
            rcases List.mem_append.mp hk with h | h
            · rcases List.mem_append.mp h with h | h
              · exact gk k (List.mem_of_mem_take h)
              · rw [List.mem_singleton.mp h]
                exact gkn
            · exact gk k (List.mem_of_mem_drop h)
          have l9 : (ks.take x6.toNat ++ [kn] ++ ks.drop x6.toNat).length ≤ 3 := by
            simp only [List.length_append, List.length_take, List.length_drop, List.length_singleton]
            omega
          generalize ks.take x6.toNat ++ [kn] ++ ks.drop x6.toNat = kz at g9 d9 e9 gk2 l9 ⊢
          generalize upd S8 D (.lst (kz.map Kn.v)) = S9 at g9 d9 e9 ⊢
          clear eD8 eD7 f7 b8 d8 g7 d7 u7 eh6 b6 d6 eD g5 d5 eh5 gk l2 hv ev
          -- no more than two hidden ones
          refine ⟨fun m σ T => ∃ ks : List Kn, hidN ks = m ∧ σ = [some (.ref p), some (.ref hh), some (.ref dl), some (.int (i : Nat)), some (.str nm), some (.ref D), some (.ref ml'), y7, none, none] ∧ T D = some (.lst (ks.map Kn.v)) ∧ ks.length ≤ 3 ∧ (∀ k ∈ ks, goK hd k) ∧ Gp p S T ∧ Drw T p (B + 110 + 10 * (i : Nat) + 6),
            ⟨_, kz, rfl, rfl, e9, l9, gk2, g9, d9⟩, ?_⟩
          clear e9 l9 gk2 g9 d9 kz
          rintro m σ T ⟨ks, rfl, rfl, eD, l3', gk, g9, d9⟩
          refine ⟨_, rfl, D, rfl, ⟨_, .inl (.inl eD)⟩, fun C nC => ?_⟩
          have gC : ∀ o, Gr T (upd T C o) := fun o => Gr.new nC
          have eh9 := g9.lst hhp eh
          refine lc_it (walk_list (xs := ks.map Kn.v)) (fun a U => U = upd T C (.lst (((ks.take a).filter Kn.isH).map Kn.v))) rfl ?v0 ?v1 ?v2
          case v0 =>
            rintro a U ha rfl
            exact .inl (.inl ((gC _).lst eD))
          case v1 =>
            rintro a v U U' ha rfl ⟨rfl, hv⟩
            rw [List.getElem?_map] at hv
            obtain ⟨ka, hka, rfl⟩ := Option.map_eq_some_iff.mp hv
            refine ⟨rfl, _, rfl, _, rfl, hh, _, rfl, .inl (.inl (.inl ((gC _).lst eh9))), flat_kn ka, flat_strs hd, _, rfl, ?_⟩
            show if inV ka.v (hd.map V.str) = true then _ else _
            rw [in_kn (gk ka (List.mem_of_getElem? hka))]
            have ek : (ks.take (a + 1)).filter Kn.isH = (ks.take a).filter Kn.isH ++ (if ka.isH = true then [ka] else []) := by
              rw [List.take_add_one, hka, List.filter_append]
              cases h : ka.isH <;> simp [h]
            cases h : ka.isH with
            | true =>
              rw [h] at ek
              refine iteT ⟨_, rfl, _, upd_same, ?_, ?_⟩
              · rw [List.length_map]
                have a1 := List.length_filter_le Kn.isH (ks.take a)
                rw [List.length_take] at a1
                exact small1000 (by omega)
              · rw [upd_upd, ek, List.map_append]
                rfl
            | false =>
              rw [h] at ek
              refine iteF ?_
              show _ = _
              rw [ek, if_neg (by decide), List.append_nil]
          case v2 =>
          rintro U rfl
          rw [List.length_map, List.take_length]
          have uC : Gr T (upd T C (.lst ((ks.filter Kn.isH).map Kn.v))) := gC _
          refine ⟨C, _, rfl, .inl (.inl (.inl upd_same)), _, _, rfl, rfl, _, rfl, ?_⟩
          rw [List.length_map, show (ks.filter Kn.isH).length = hidN ks from rfl]
          have eD1 := uC.lst eD
          have g1 := g9.trans (Gp.gr uC)
          have d1 := d9.gr uC
          have eh1 := uC.lst eh9
          generalize upd T C (.lst ((ks.filter Kn.isH).map Kn.v)) = T1 at eD1 g1 d1 eh1 ⊢
          by_cases c2 : 2 < hidN ks
          · rw [decide_eq_true (show (2 : Int) < ((hidN ks : Nat) : Int) by omega)]
            refine iteT ⟨fun σ' T' => ∃ ks' : List Kn, hidN ks' < hidN ks ∧ σ' = [some (.ref p), some (.ref hh), some (.ref dl), some (.int (i : Nat)), some (.str nm), some (.ref D), some (.ref ml'), y7, none, none] ∧ T' D = some (.lst (ks'.map Kn.v)) ∧ ks'.length ≤ 3 ∧ (∀ k ∈ ks', goK hd k) ∧ Gp p S T' ∧ Drw T' p (B + 110 + 10 * (i : Nat) + 6), ?_, ?_⟩
            · rintro σ' T' ⟨ks', hl', r⟩
              exact ⟨_, hl', ks', rfl, r⟩
            have put : ∀ (j : Nat) (k' : Kn), ks[j]? = some k' → k'.isH = true → ∃ ks' : List Kn, hidN ks' < hidN ks ∧ ([some (V.ref p), some (.ref hh), some (.ref dl), some (.int (i : Nat)), some (.str nm), some (.ref D), some (.ref ml'), y7, none, none] : List (Option V)) = [some (.ref p), some (.ref hh), some (.ref dl), some (.int (i : Nat)), some (.str nm), some (.ref D), some (.ref ml'), y7, none, none] ∧
                upd T1 D (.lst ((ks.map Kn.v).set j (.int 3))) D = some (.lst (ks'.map Kn.v)) ∧ ks'.length ≤ 3 ∧ (∀ k ∈ ks', goK hd k) ∧ Gp p S (upd T1 D (.lst ((ks.map Kn.v).set j (.int 3)))) ∧ Drw (upd T1 D (.lst ((ks.map Kn.v).set j (.int 3)))) p (B + 110 + 10 * (i : Nat) + 6) := by
              intro j k' hk' hh'
              have := hid_set hk' hh'
              refine ⟨ks.set j (.p 3), by omega, rfl, ?_, by rw [List.length_set]; exact l3', fun k hk => ?_, g1.upd_new nDS, d1.upd nDp⟩
              · rw [upd_same, List.map_set]
                rfl
              · rcases List.mem_or_eq_of_mem_set hk with h | rfl
                · exact gk k h
                · exact ⟨by decide, by decide⟩
            have fl : (ks.map Kn.v).all flatV = true := by
              rw [List.all_map]
              exact List.all_eq_true.mpr fun k _ => flat_kn k
            refine ⟨_, rfl, _, rfl, hh, _, 0, .str h0, rfl, rfl, .inl (.inl eh1), at0, _, rfl, D, _, rfl, .inl (.inl (.inl eD1)), rfl, fl, _, rfl, ?_⟩
            show if inV (.str h0) (ks.map Kn.v) = true then _ else _
            cases hin : inV (.str h0) (ks.map Kn.v) with
            | true =>
              obtain ⟨j, z, hz, ez, no⟩ := first_in hin
              refine iteT ⟨_, rfl, .inl ⟨rfl, _, .inl (.inl eD1)⟩, _, rfl, hh, _, 0, .str h0, rfl, rfl, .inl (.inl eh1), at0, ?_⟩
              refine ⟨D, _, .str h0, j, z, rfl, rfl, .inl (.inl eD1), rfl, fl, hz, ez, no, ?_⟩
              have hz' := hz
              rw [List.getElem?_map] at hz
              obtain ⟨k', hk', rfl⟩ := Option.map_eq_some_iff.mp hz
              refine ⟨D, _, (j : Nat), j, rfl, rfl, eD1, ?_, put j k' hk' ?_⟩
              · have := lt_of_at hz'
                unfold ixN
                rw [if_pos (by omega), if_pos (by omega)]
                rfl
              · cases k' with
                | h _ => rfl
                | p n => cases ez
            | false =>
              obtain ⟨k', hk', hh'⟩ := hid_all l3' c2
              refine iteF ⟨D, _, 0, 0, rfl, rfl, eD1, ?_, put 0 k' hk' hh'⟩
              have := lt_of_at hk'
              unfold ixN
              rw [if_pos (by decide), if_pos (by rw [List.length_map]; omega)]
              rfl
          · rw [decide_eq_false (show ¬ (2 : Int) < ((hidN ks : Nat) : Int) by omega)]
            refine iteF ?_
            -- what is given
            clear eD eh9 g9 d9 uC gC nC
            refine ⟨_, rfl, by show 4 ≤ sizeLine; decide, fun l4 nl4 => ?_⟩
            have u2 : Gr T1 (upd T1 l4 (.lst [.int 2, .int 3, .int 4, .int 9])) := Gr.new nl4
            have f2 : upd T1 l4 (.lst [.int 2, .int 3, .int 4, .int 9]) l4 = some (.lst [.int 2, .int 3, .int 4, .int 9]) := upd_same
            generalize upd T1 l4 (.lst [.int 2, .int 3, .int 4, .int 9]) = T2 at u2 f2 ⊢
            refine ⟨hh, l4, _, _, rfl, rfl, u2.lst eh1, f2, by rw [List.length_map]; exact Nat.le_of_lt (small1000 (by show _ + 4 ≤ 1000; omega)), fun l5 nl5 => ?_⟩
            have hm : ∀ v ∈ hd.map V.str ++ [V.int 2, .int 3, .int 4, .int 9], ∃ k : Kn, goK hd k ∧ v = k.v := fun v hv => gives_in hv
            have hl : (hd.map V.str ++ [V.int 2, .int 3, .int 4, .int 9]).length = hd.length + 4 := by
              rw [List.length_append, List.length_map]
              rfl
            generalize hd.map V.str ++ [V.int 2, .int 3, .int 4, .int 9] = gvs at hm hl ⊢
            have u3 : Gr T2 (upd T2 l5 (.lst gvs)) := Gr.new nl5
            have f3 : upd T2 l5 (.lst gvs) l5 = some (.lst gvs) := upd_same
            generalize upd T2 l5 (.lst gvs) = T3 at u3 f3 ⊢
            have u23 := u2.trans u3
            have d3 := d1.gr u23
            refine ⟨_, rfl, _, rfl, hh, _, rfl, .inl (.inl (.inl (u23.lst eh1))), _, 4, rfl, rfl, ?_⟩
            rw [List.length_map]
            refine ⟨p, _, _, rfl, d3, by omega, by omega, by omega, fun T4 x4 b4 d4 w0 w1 => ?_⟩
            obtain ⟨v, hv, ev⟩ := at_mem (xs := gvs) w0 (by omega)
            obtain ⟨gv, ggv, rfl⟩ := hm v hv
            refine ⟨l5, gvs, x4, gv.v, rfl, rfl, .inl (.inl ((b4 l5 (d3.l_ne f3)).trans f3)), ev, ?_⟩
            have g4 : Gp p S T4 := (g1.trans (Gp.gr u23)).trans (Gp.but b4)
            have ed4 := g4.lst ndp ed
            have eD4 := (b4 D nDp).trans (u23.lst eD1)
            refine ⟨_, rfl, .inl ⟨rfl, _, .inl (.inl ed4)⟩, _, rfl, _, rfl, D, _, rfl, .inl ⟨.inl (.inl eD4), fun ta nta => ?_⟩⟩
            have u5 : Gr T4 (upd T4 ta (.tup (ks.map Kn.v))) := Gr.new nta
            have f5 : upd T4 ta (.tup (ks.map Kn.v)) ta = some (.tup (ks.map Kn.v)) := upd_same
            generalize upd T4 ta (.tup (ks.map Kn.v)) = T5 at u5 f5 ⊢
            refine ⟨_, rfl, by show 3 ≤ sizeLine; decide, fun tt ntt => ?_⟩
            have u6 : Gr T5 (upd T5 tt (.tup [.str nm, .ref ta, gv.v])) := Gr.new ntt
            refine ⟨dl, _, _, rfl, rfl, (u5.trans u6).lst ed4, small1000 (by omega), ?_⟩
            exact fin _ tt ta ⟨nm, ks, gv⟩ rfl ⟨inm, l3', gk, by show hidN ks ≤ 2; omega, ggv⟩ upd_same (u6.tup f5) (g4.trans (Gp.gr (u5.trans u6))) ((d4.gr (u5.trans u6)).mono (by omega)) _ _ _
end
end SfC
/-! all that may be handed where a kind is wanted -/
namespace SfC
open PySem PySem.Spec PyProof.Rows L2 SfG
abbrev nArgsOf : List Str := ["_law_known", "_law_inputs", "_law_wanted", "_law_found", "_law_name", "_law_kind", "_law_k", "_law_number"]
theorem scArgsOf : FnScope nArgsOf ["_law_known", "_law_inputs", "_law_wanted"] (defScope sArgsOf) := ⟨rfl, rfl, rfl, by decide +kernel, rfl, by decide +kernel, by decide +kernel⟩
def goKi : Ki → Prop
  | .w n => 2 ≤ n ∧ n ≤ 9
  | .h lb z => isN lb = true ∧ isN z = true
def kpD (p : Str × Ki) : PyData := .tuple [.str p.1, p.2.d]
def KnOk (e : En) : Prop := ∀ p ∈ e, isN p.1 = true ∧ goKi p.2
theorem cm_ki {k : Ki} (h : goKi k) : Cm k.d 2 := by
  cases k with
  | w n => exact ⟨rfl, by simp [Ki.d, PyData.depth]⟩
  | h lb z =>
    refine cm_tup (D := 1) fun d hd => ?_
    have hd' : d = .str lb ∨ d = .str z := by simpa using hd
    rcases hd' with rfl | rfl
    · exact cm_name h.1
    · exact cm_name h.2
def sameK (k l : Ki) : Bool := PyData.eqv k.d l.d
theorem sameK_w {n : Int} {lb z : Str} : sameK (.w n) (.h lb z) = false := rfl
theorem sameK_self {k : Ki} (h : goKi k) : sameK k k = true := SeqAt.eqv_refl _ (cm_ki h).lay
theorem sameK_h {k : Ki} {lb z : Str} (h : sameK k (.h lb z) = true) : k = .h lb z := by
  cases k with
  | w n => cases h
  | h a b =>
    have h' : (PyData.eqv (.str a) (.str lb) && (PyData.eqv (.str b) (.str z) && true)) = true := h
    rw [Bool.and_eq_true, Bool.and_eq_true] at h'
    have e1 : (a == lb) = true := h'.1
    have e2 : (b == z) = true := h'.2.1
    rw [eq_of_beq e1, eq_of_beq e2]
def fitW (n : Int) : Ki → Bool
  | .w m => decide (m ≤ n)
  | .h _ _ => false
def argH (e : En) (wt : Ki) : List Ag := (e.filter fun p => sameK p.2 wt).map fun p => .n p.1
def argN (e : En) (n : Int) : List Ag := (e.filter fun p => fitW n p.2).map fun p => .n p.1
def argI (is : List Int) (n : Int) (m : Nat) : List Ag := ((List.range m).filter fun j => decide (is.getD j 0 ≤ n)).map fun j => .i (j : Nat)
def argU (n : Nat) : List Ag := (List.range n).map fun j => .u (j : Nat)
def argsOf (e : En) (is : List Int) : Ki → List Ag
  | .h lb z => argH e (.h lb z)
  | .w n => ((argN e n ++ argI is n is.length) ++ (argN e n ++ argI is n is.length)) ++ argU n.toNat
theorem noL_ki (k : Ki) : noL k.d = true := by cases k <;> rfl
theorem noL_kp (p : Str × Ki) : noL (kpD p) = true := by
  show (noL (PyData.str p.1) && (noL p.2.d && true)) = true
  rw [noL_ki]
  rfl
/-- a thing of data is put to a list -/
theorem put_dp {α : Type} {g : α → PyData} (hn : ∀ a, noL (g a) = true) {K : PySem.W.Frag} {S : Hp} {D : Addr} {ys ys' : List V} {as : List α} {x : V} {a : α} (hD : S D = some (.lst ys')) (d : DpAll K S ys (as.map g)) (dx : Dp K S x (g a)) :
    DpAll K (upd S D (.lst (ys' ++ [x]))) (ys ++ [x]) ((as ++ [a]).map g) := by
  have kt : Kt K S (upd S D (.lst (ys' ++ [x]))) := kt_lst hD
  rw [List.map_append]
  exact dpA_app (kt.dpA d (noLA_map _ hn _)) (.cons (kt.dp dx (hn a)) .nil)
theorem filt_snoc {α : Type} (f : α → Bool) {l : List α} {j : Nat} {a : α} (h : l[j]? = some a) : (l.take (j + 1)).filter f = (l.take j).filter f ++ (if f a then [a] else []) := by
  rw [List.take_add_one, h, List.filter_append]
  cases c : f a <;> simp [c]
theorem dp_pair {K : PySem.W.Frag} {H : Hp} {T : Addr} {a b : V} {c d : PyData} (h : H T = some (.tup [a, b])) (ha : Dp K H a c) (hb : Dp K H b d) : Dp K H (.ref T) (.tuple [c, d]) := .tup (.inl (.inl h)) (.cons ha (.cons hb .nil))
theorem argN_go {e : En} (h : KnOk e) (n : Int) : ∀ a ∈ argN e n, goA a := by
  intro a ha
  obtain ⟨p, hp, rfl⟩ := List.mem_map.mp ha
  exact (h p (List.mem_filter.mp hp).1).1
theorem argH_go {e : En} (h : KnOk e) (k : Ki) : ∀ a ∈ argH e k, goA a := by
  intro a ha
  obtain ⟨p, hp, rfl⟩ := List.mem_map.mp ha
  exact (h p (List.mem_filter.mp hp).1).1
theorem argI_go {is : List Int} (n : Int) {m : Nat} (h : m ≤ 3) : ∀ a ∈ argI is n m, goA a := by
  intro a ha
  obtain ⟨j, hj, rfl⟩ := List.mem_map.mp ha
  have := List.mem_range.mp (List.mem_filter.mp hj).1
  exact ⟨by omega, by omega⟩
theorem argU_go {m : Nat} (h : m ≤ 9) : ∀ a ∈ argU m, goA a := by
  intro a ha
  obtain ⟨j, hj, rfl⟩ := List.mem_map.mp ha
  have := List.mem_range.mp hj
  exact ⟨by omega, by omega⟩
theorem argsOf_go {e : En} {is : List Int} {k : Ki} (h : KnOk e) (hi : is.length ≤ 3) (hk : goKi k) : ∀ a ∈ argsOf e is k, goA a := by
  cases k with
  | h lb z => exact argH_go h _
  | w n =>
    intro a ha
    obtain ⟨_, h9⟩ := hk
    rcases List.mem_append.mp ha with ha | ha
    · rcases List.mem_append.mp ha with ha | ha <;> rcases List.mem_append.mp ha with ha | ha
      · exact argN_go h _ a ha
      · exact argI_go _ hi a ha
      · exact argN_go h _ a ha
      · exact argI_go _ hi a ha
    · exact argU_go (by omega) a ha
theorem argN_len (e : En) (n : Int) : (argN e n).length ≤ e.length := by
  unfold argN
  rw [List.length_map]
  exact List.length_filter_le _ _
theorem argH_len (e : En) (k : Ki) : (argH e k).length ≤ e.length := by
  unfold argH
  rw [List.length_map]
  exact List.length_filter_le _ _
theorem argI_len (is : List Int) (n : Int) (m : Nat) : (argI is n m).length ≤ m := by
  unfold argI
  rw [List.length_map]
  exact Nat.le_trans (List.length_filter_le _ _) (by rw [List.length_range]; exact Nat.le_refl _)
theorem argU_len (m : Nat) : (argU m).length = m := by
  unfold argU
  rw [List.length_map, List.length_range]
theorem argsOf_len {e : En} {is : List Int} {k : Ki} (he : e.length ≤ 30) (hi : is.length ≤ 3) (hk : goKi k) : (argsOf e is k).length ≤ 100 := by
  cases k with
  | h lb z => exact Nat.le_trans (argH_len e _) (by omega)
  | w n =>
    obtain ⟨_, h9⟩ := hk
    have a := argN_len e n
    have b := argI_len is n is.length
    have c := argU_len n.toNat
    simp only [argsOf, List.length_append]
    omega
section
variable {P : Program} {w : World} {K : PySem.W.Frag} {mg : Str → Option Value} {base : Heap}
def spArgs (K : PySem.W.Frag) : Sp := fun vs H Q _ => ∃ (kl qi : Addr) (xs : List V) (e : En) (is : List Int) (k : Ki) (v : V), vs = [.ref kl, .ref qi, v] ∧ H kl = some (.lst xs) ∧ DpAll K H xs (e.map kpD) ∧ KnOk e ∧ e.length ≤ 30 ∧ SqT K H qi (is.map V.int) ∧ is.length ≤ 3 ∧ Dp K H v k.d ∧ goKi k ∧
  ∀ H' l ys, Gr H H' → H l = none → H' l = some (.lst ys) → DpAll K H' ys ((argsOf e is k).map Ag.d) → Q (.ref l) H'
set_option maxHeartbeats 4000000 in
theorem ok_argsOf {f : Addr} {fd : FuncData} {k : Nat} (F : Fun K "_law_args_of" "_law_args_of" sArgsOf f fd) (mi : mg "isinstance" = none) (m1 : mg "tuple" = none) (me : mg "enumerate" = none) (mr : mg "range" = none) : FnOk P w K mg base CX0 (k + 1) f fd ["_law_known", "_law_inputs", "_law_wanted"] (spArgs K) := by
  refine F.ok scArgsOf (fun vs H Q E h => ?_) (fun cdv A outer s H vs Q E hr h => ?_)
  · obtain ⟨kl, qi, xs, e, is, k, v, rfl, _⟩ := h
    rfl
  · obtain ⟨kl, qi, xs, e, is, ki, v, rfl, hk, dk, ke, e30, hqi, i3, dv, gk, q⟩ := h
    have nd := scArgsOf.nd
    refine' ⟨_, pss_cons ?s1 (pss_cons ?s2 (pss_cons ?s3 (pss_one ?s4))), ?rd⟩
    case s1 =>
      exact ps_if (pt_val (pe_isi "tuple" 2 mi m1 (by decide +kernel))) (pss_one (ps_ret (pe_lc (own := [("_law_name", 4), ("_law_kind", 5)]) (g := gTup K 2 (gCons (gName 4) (gCons (gName 5) gNil))) rfl nd (pi_list (pv 0))
        (blkOk_by (own := [("_law_name", 4), ("_law_kind", 5)]) (N := nArgsOf) (sc := defScope sArgsOf) (by decide +kernel)) (fun _ _ _ _ _ => pg_tup rfl (pgs_cons (pg_name (i := 4) nd rfl (.inl rfl)) (pgs_cons (pg_name (i := 5) nd rfl (.inl rfl)) pgs_nil)))
        (fun _ _ _ _ _ => pts_one (pt_cmpR (r := rEqD K) (op_eqD hr.units) (pv 5) (pv 2) (nomark _))) (fun _ _ _ _ _ => pe_tup (pa_cons pe_str (pa_cons (pv 4) pa_nil)))))) pss_nil
    case s2 =>
      exact ps_setLc (i := 3) (own := [("_law_name", 4), ("_law_kind", 5)]) (tt := tAnd (tNot (tB (tIsi "tuple" K 5))) (tTest (tOp (rI0 fun i j => .bl (decide (i ≤ j))) (tVar 5) (tVar 2)))) (g := gTup K 2 (gCons (gName 4) (gCons (gName 5) gNil))) rfl nd rfl rfl (sw_true rfl rfl rfl (by decide +kernel)) (pi_list (pv 0))
        (blkOk_by (own := [("_law_name", 4), ("_law_kind", 5)]) (N := nArgsOf) (sc := defScope sArgsOf) (by decide +kernel)) (fun _ _ _ _ _ => pg_tup rfl (pgs_cons (pg_name (i := 4) nd rfl (.inl rfl)) (pgs_cons (pg_name (i := 5) nd rfl (.inl rfl)) pgs_nil)))
        (fun _ _ _ _ _ => pts_one (PW.pt (pw_and (pt_not (pt_val (pe_isi "tuple" 5 mi m1 (by decide +kernel)))) (pw_and1 (pt_cmpR (r := rI0 fun i j => .bl (decide (i ≤ j))) op_le (pv 5) (pv 2) (nomark _)))))) (fun _ _ _ _ _ => pe_tup (pa_cons pe_str (pa_cons (pv 4) pa_nil)))
    case s3 =>
      exact ps_set (i := 3) nd rfl (.inl rfl) (pe_op op_cat (pv 3) (pe_lc (own := [("_law_k", 6), ("_law_kind", 5)]) (g := gTup K 2 (gCons (gName 6) (gCons (gName 5) gNil))) rfl nd (pi_enumT (by rfl) me (pa_cons (pv 1) pa_nil))
        (blkOk_by (own := [("_law_k", 6), ("_law_kind", 5)]) (N := nArgsOf) (sc := defScope sArgsOf) (by decide +kernel)) (fun _ _ _ _ _ => pg_tup rfl (pgs_cons (pg_name (i := 6) nd rfl (.inl rfl)) (pgs_cons (pg_name (i := 5) nd rfl (.inl rfl)) pgs_nil)))
        (fun _ _ _ _ _ => pts_one (pt_cmpR (r := rI0 fun i j => .bl (decide (i ≤ j))) op_le (pv 5) (pv 2) (nomark _))) (fun _ _ _ _ _ => pe_tup (pa_cons pe_str (pa_cons (pv 6) pa_nil)))))
    case s4 =>
      exact ps_ret (pe_op op_cat (pe_op op_cat (pv 3) (pv 3)) (pe_lc (own := [("_law_number", 7)]) (g := gName 7) rfl nd (pi_range1 (by rfl) mr (pa_cons (pv 2) pa_nil))
        (blkOk_by (own := [("_law_number", 7)]) (N := nArgsOf) (sc := defScope sArgsOf) (by decide +kernel)) (fun _ _ _ _ _ => pg_name (i := 7) nd rfl (.inl rfl)) (fun _ _ _ _ _ => pts_nil) (fun _ _ _ _ _ => pe_tup (pa_cons pe_str (pa_cons (pv 7) pa_nil)))))
    case rd =>
    have lx : xs.length = e.length := by
      have := dpA_len dk
      rw [List.length_map] at this
      exact this
    have at_x : ∀ {j : Nat} {x : V}, xs[j]? = some x → ∃ p, e[j]? = some p ∧ Dp K H x (kpD p) := by
      intro j x hx
      have hj := lt_of_at hx
      obtain ⟨x', hx', dx⟩ := dpA_get dk (i := j) (d := kpD (e[j]'(by omega))) (by rw [List.getElem?_map, List.getElem?_eq_getElem (by omega)]; rfl)
      rw [hx] at hx'
      cases hx'
      exact ⟨_, List.getElem?_eq_getElem (by omega), dx⟩
    have lenA : ∀ {S : Hp} {ys : List V} {as : List Ag}, DpAll K S ys (as.map Ag.d) → ys.length = as.length := by
      intro S ys as h
      have := dpA_len h
      rw [List.length_map] at this
      exact this
    -- one more, as a name
    have one : ∀ (S : Hp) (D : Addr) (ys : List V) (as : List Ag) (a : Ag) (x y : V) (c d : PyData), H D = none → Gr H S → S D = some (.lst ys) → DpAll K S ys (as.map Ag.d) → as.length ≤ 100 → a.d = .tuple [c, d] → (∀ S, Dp K S x c) → (∀ S, Dp K S y d) → ∀ T, S T = none →
        ∃ acc, upd S T (.tup [x, y]) D = some (.lst acc) ∧ acc.length < sizeLine ∧ ∃ ys', upd (upd S T (.tup [x, y])) D (.lst (acc ++ [.ref T])) D = some (.lst ys') ∧ DpAll K (upd (upd S T (.tup [x, y])) D (.lst (acc ++ [.ref T]))) ys' ((as ++ [a]).map Ag.d) ∧ Gr H (upd (upd S T (.tup [x, y])) D (.lst (acc ++ [.ref T]))) := by
      intro S D ys as a x y c d nD g eD dy la ea hx hy T nT
      have k1 : Gr S (upd S T (.tup [x, y])) := Gr.new nT
      have e1 : upd S T (.tup [x, y]) T = some (.tup [x, y]) := upd_same
      generalize upd S T (.tup [x, y]) = S1 at k1 e1 ⊢
      refine ⟨ys, k1.lst eD, by rw [lenA dy]; exact small1000 (by omega), _, upd_same, ?_, (g.trans k1).upd_new nD⟩
      exact put_dp noL_ag (k1.lst eD) (k1.kd.dpA dy) (by rw [ea]; exact dp_pair e1 (hx _) (hy _))
    cases ki with
    | h lb z =>
      obtain ⟨tp, a, b, rfl, htp, ha, hb⟩ := dp_2 (id dv)
      refine ⟨_, rfl, "tuple", true, tyx_tup htp, by decide +kernel, _, rfl, iteT ?_⟩
      refine ⟨_, rfl, kl, rfl, ⟨_, .inl (.inl hk)⟩, fun D nD => lc_it (walk_list (xs := xs)) (fun j S => ∃ ys, S D = some (.lst ys) ∧ DpAll K S ys ((argH (e.take j) (.h lb z)).map Ag.d) ∧ Gr H S) ⟨[], upd_same, .nil, Gr.new nD⟩ ?h0 ?h1 ?h2⟩
      case h0 =>
        rintro j S hj ⟨ys, eD, dy, g⟩
        exact .inl (.inl (g.lst hk))
      case h1 =>
        rintro j x S S' hj ⟨ys, eD, dy, g⟩ ⟨rfl, hx⟩
        obtain ⟨p, hp, dx⟩ := at_x hx
        obtain ⟨p1, p2⟩ := p
        have gp := ke _ (List.mem_of_getElem? hp)
        obtain ⟨t, y0, y1, rfl, ht, d0, d1⟩ := dp_2 (g.kd.dp dx)
        cases dp_str d0
        refine ⟨t, _, rfl, ht, rfl, _, _, rfl, _, [], rfl, rfl, rfl, ?_⟩
        refine ⟨_, rfl, _, rfl, p2.d, (Ki.h lb z).d, d1, g.kd.dp dv, (cm_ki gp.2).shaped (by decide), (cm_ki gk).shaped (by decide), _, rfl, ?_⟩
        show if sameK p2 (.h lb z) = true then _ else _
        have fs := filt_snoc (fun p : Str × Ki => sameK p.2 (.h lb z)) hp
        have la : (argH (e.take j) (.h lb z)).length ≤ 100 := Nat.le_trans (argH_len _ _) (by rw [List.length_take]; omega)
        cases c : sameK p2 (.h lb z) with
        | true =>
          refine iteT ⟨_, rfl, by show 2 ≤ sizeLine; decide, fun T nT => ?_⟩
          have := one _ D ys _ (.n p1) (.str "name") (.str p1) _ _ nD g eD dy la rfl (fun _ => .str _) (fun _ => .str _) T nT
          have ef : argH (e.take (j + 1)) (.h lb z) = argH (e.take j) (.h lb z) ++ [.n p1] := by
            unfold argH
            rw [fs, c, List.map_append]
            rfl
          rw [ef]
          exact this
        | false =>
          refine iteF ⟨ys, eD, ?_, g⟩
          have ef : argH (e.take (j + 1)) (.h lb z) = argH (e.take j) (.h lb z) := by
            unfold argH
            rw [fs, c, List.map_append]
            simp
          rw [ef]
          exact dy
      case h2 =>
        rintro S ⟨ys, eD, dy, g⟩
        rw [lx, List.take_length] at dy
        exact q S D ys g nD eD dy
    | w n =>
      cases dp_int dv
      obtain ⟨n2, n9⟩ := gk
      refine ⟨_, rfl, "int", false, (is_int n).1, by decide +kernel, _, rfl, iteF ?_⟩
      -- names
      refine ⟨_, rfl, kl, rfl, ⟨_, .inl (.inl hk)⟩, fun D nD => lc_it (walk_list (xs := xs)) (fun j S => ∃ ys, S D = some (.lst ys) ∧ DpAll K S ys ((argN (e.take j) n).map Ag.d) ∧ Gr H S) ⟨[], upd_same, .nil, Gr.new nD⟩ ?i0 ?i1 ?i2⟩
      case i0 =>
        rintro j S hj ⟨ys, eD, dy, g⟩
        exact .inl (.inl (g.lst hk))
      case i1 =>
        rintro j x S S' hj ⟨ys, eD, dy, g⟩ ⟨rfl, hx⟩
        obtain ⟨p, hp, dx⟩ := at_x hx
        obtain ⟨p1, p2⟩ := p
        obtain ⟨t, y0, y1, rfl, ht, d0, d1⟩ := dp_2 (g.kd.dp dx)
        cases dp_str d0
        refine ⟨t, _, rfl, ht, rfl, _, _, rfl, _, [], rfl, rfl, rfl, ?_⟩
        have fs := filt_snoc (fun p : Str × Ki => fitW n p.2) hp
        have la : (argN (e.take j) n).length ≤ 100 := Nat.le_trans (argN_len _ _) (by rw [List.length_take]; omega)
        have no : fitW n p2 = false → argN (e.take (j + 1)) n = argN (e.take j) n := by
          intro c
          unfold argN
          rw [fs]
          simp [c]
        cases p2 with
        | w m =>
          cases dp_int d1
          refine ⟨_, rfl, "int", false, (is_int m).1, by decide +kernel, _, rfl, iteT ⟨_, rfl, _, rfl, m, n, rfl, rfl, _, rfl, ?_⟩⟩
          by_cases c : m ≤ n
          · rw [decide_eq_true c]
            refine iteT ⟨_, rfl, by show 2 ≤ sizeLine; decide, fun T nT => ?_⟩
            have := one _ D ys _ (.n p1) (.str "name") (.str p1) _ _ nD g eD dy la rfl (fun _ => .str _) (fun _ => .str _) T nT
            have ef : argN (e.take (j + 1)) n = argN (e.take j) n ++ [.n p1] := by
              unfold argN
              rw [fs]
              simp [fitW, c]
            rw [ef]
            exact this
          · rw [decide_eq_false c]
            refine iteF ⟨ys, eD, ?_, g⟩
            rw [no (decide_eq_false c)]
            exact dy
        | h lb z =>
          obtain ⟨tp, a, b, rfl, htp, ha, hb⟩ := dp_2 d1
          refine ⟨_, rfl, "tuple", true, tyx_tup htp, by decide +kernel, _, rfl, iteF (iteF ⟨ys, eD, ?_, g⟩)⟩
          rw [no rfl]
          exact dy
      case i2 =>
      rintro S ⟨ys, eD, dy, g⟩
      rw [lx, List.take_length] at dy
      -- inputs
      refine ⟨_, rfl, _, rfl, qi, _, rfl, g.sqt hqi, fun D2 nD2 => lc_it (walk_enumT (xs := is.map V.int)) (fun j S2 => ∃ ys, S2 D2 = some (.lst ys) ∧ DpAll K S2 ys ((argI is n j).map Ag.d) ∧ Gr S S2) ⟨[], upd_same, .nil, Gr.new nD2⟩ ?j0 ?j1 ?j2⟩
      case j0 =>
        rintro j S2 hj ⟨ys, eD, dy, g2⟩
        exact (g.trans g2).sqt hqi
      case j1 =>
        rintro j v S2 S3 hj ⟨ys, eD, dy, g2⟩ ⟨T, a, b, rfl, nT, rfl, ha, hb⟩
        cases ha
        have hb2 : (is.map V.int)[j]? = some b := hb
        rw [List.getElem?_map] at hb2
        obtain ⟨m, hm, rfl⟩ := Option.map_eq_some_iff.mp hb2
        have k3 : Gr S2 (upd S2 T (.tup [.int (j : Nat), .int m])) := Gr.new nT
        refine ⟨T, _, rfl, .inl (.inl upd_same), rfl, _, _, rfl, _, [], rfl, rfl, rfl, ?_⟩
        generalize upd S2 T (.tup [.int (j : Nat), .int m]) = S3 at k3 ⊢
        have ef : argI is n (j + 1) = argI is n j ++ (if m ≤ n then [.i (j : Nat)] else []) := by
          unfold argI
          rw [List.range_succ, List.filter_append, List.map_append, List.filter_cons, List.filter_nil, show is.getD j 0 = m by rw [List.getD_eq_getElem?_getD, hm]; rfl]
          by_cases c : m ≤ n <;> simp [c]
        refine ⟨_, rfl, _, rfl, m, n, rfl, rfl, _, rfl, ?_⟩
        have la : (argI is n j).length ≤ 100 := Nat.le_trans (argI_len _ _ _) (by rw [List.length_map] at hj; omega)
        by_cases c : m ≤ n
        · rw [decide_eq_true c]
          refine iteT ⟨_, rfl, by show 2 ≤ sizeLine; decide, fun T2 nT2 => ?_⟩
          have k4 : Gr S3 (upd S3 T2 (.tup [.str "input", .int (j : Nat)])) := Gr.new nT2
          have e4 : upd S3 T2 (.tup [.str "input", .int (j : Nat)]) T2 = some (.tup [.str "input", .int (j : Nat)]) := upd_same
          have eD4 := (k3.trans k4).lst eD
          have dy4 := (k3.trans k4).kd.dpA dy
          refine ⟨ys, eD4, by rw [lenA dy]; exact small1000 (by omega), _, upd_same, ?_, (g2.trans (k3.trans k4)).upd_new nD2⟩
          rw [ef, if_pos c]
          exact put_dp noL_ag eD4 dy4 (dp_pair e4 (.str _) (.int _))
        · rw [decide_eq_false c]
          refine iteF ⟨ys, k3.lst eD, ?_, g2.trans k3⟩
          rw [ef, if_neg c, List.append_nil]
          exact k3.kd.dpA dy
      case j2 =>
      rintro S2 ⟨ys2, eD2, dy2, g2⟩
      rw [List.length_map] at dy2
      have l1 := lenA dy
      have l2 := lenA dy2
      have a1 := argN_len e n
      have a2 := argI_len is n is.length
      refine ⟨D, D2, ys, ys2, rfl, rfl, g2.lst eD, eD2, Nat.le_of_lt (small1000 (by omega)), fun L nL => ?_⟩
      have dA : DpAll K S2 (ys ++ ys2) ((argN e n ++ argI is n is.length).map Ag.d) := by
        rw [List.map_append]
        exact dpA_app (g2.kd.dpA dy) dy2
      have lA : (ys ++ ys2).length ≤ 33 := by
        rw [List.length_append]
        omega
      generalize ys ++ ys2 = zs at dA lA ⊢
      have k3 : Gr S2 (upd S2 L (.lst zs)) := Gr.new nL
      have e3 : upd S2 L (.lst zs) L = some (.lst zs) := upd_same
      have dA3 := k3.kd.dpA dA
      have g3 := g.trans (g2.trans k3)
      generalize upd S2 L (.lst zs) = S3 at k3 e3 dA3 g3 ⊢
      clear k3 dA nL eD2 dy2 l1 l2 dy eD nD nD2
      refine ⟨_, rfl, _, rfl, L, L, zs, zs, rfl, rfl, e3, e3, Nat.le_of_lt (small1000 (by omega)), fun L2 nL2 => ?_⟩
      have dA4 : DpAll K S3 (zs ++ zs) (((argN e n ++ argI is n is.length) ++ (argN e n ++ argI is n is.length)).map Ag.d) := by
        rw [List.map_append]
        exact dpA_app dA3 dA3
      have k4 : Gr S3 (upd S3 L2 (.lst (zs ++ zs))) := Gr.new nL2
      have e4 : upd S3 L2 (.lst (zs ++ zs)) L2 = some (.lst (zs ++ zs)) := upd_same
      have dA4 := k4.kd.dpA dA4
      have g4 := g3.trans k4
      have l66 : (zs ++ zs).length ≤ 66 := by
        rw [List.length_append]
        omega
      generalize zs ++ zs = ws at e4 dA4 l66 k4 g4 ⊢
      generalize upd S3 L2 (.lst ws) = S4 at k4 e4 dA4 g4 ⊢
      clear k4 dA3 e3 nL2
      -- numbers
      refine ⟨_, rfl, _, rfl, by omega, by omega, fun D3 nD3 => lc_it (walk_range (lo := 0) (n := n.toNat)) (fun j S5 => ∃ ys, S5 D3 = some (.lst ys) ∧ DpAll K S5 ys ((argU j).map Ag.d) ∧ Gr S4 S5) ⟨[], upd_same, .nil, Gr.new nD3⟩ (fun _ _ _ _ => trivial) ?u1 ?u2⟩
      case u1 =>
        rintro j x S5 S5' hj ⟨ys, eD, dy, g5⟩ ⟨rfl, rfl⟩
        refine ⟨rfl, tYes_i (iteT ⟨_, rfl, by show 2 ≤ sizeLine; decide, fun T nT => ?_⟩)⟩
        have ef : argU (j + 1) = argU j ++ [.u (j : Nat)] := by
          unfold argU
          rw [List.range_succ, List.map_append]
          rfl
        have k6 : Gr S5' (upd S5' T (.tup [.str "number", .int (0 + (j : Nat))])) := Gr.new nT
        have e6 : upd S5' T (.tup [.str "number", .int (0 + (j : Nat))]) T = some (.tup [.str "number", .int (0 + (j : Nat))]) := upd_same
        refine ⟨ys, k6.lst eD, by rw [lenA dy, argU_len]; exact small1000 (by omega), _, upd_same, ?_, (g5.trans k6).upd_new nD3⟩
        rw [ef]
        refine put_dp noL_ag (k6.lst eD) (k6.kd.dpA dy) (dp_pair e6 (.str _) ?_)
        rw [Int.zero_add]
        exact .int _
      case u2 =>
        rintro S5 ⟨ys, eD, dy, g5⟩
        have lu := lenA dy
        rw [argU_len] at lu
        refine ⟨L2, D3, ws, ys, rfl, rfl, g5.lst e4, eD, Nat.le_of_lt (small1000 (by omega)), fun L5 nL5 => ?_⟩
        have k6 : Gr S5 (upd S5 L5 (.lst (ws ++ ys))) := Gr.new nL5
        refine q _ L5 _ (g4.trans (g5.trans k6)) (g4.back _ (g5.back _ nL5)) upd_same (k6.kd.dpA ?_)
        show DpAll K S5 (ws ++ ys) (((_ ++ argU n.toNat) : List Ag).map Ag.d)
        rw [List.map_append]
        exact dpA_app (g5.kd.dpA dA4) dy
end
end SfC
/-! a row that does a deed, drawn -/
namespace SfC
open PySem PySem.Spec PyProof.Rows L2 SfG
abbrev nLet : List Str := ["_law_state", "_law_name", "_law_use", "_law_known", "_law_inputs", "_law_label", "_law_face_here", "_law_deed", "_law_takes", "_law_gives", "_law_args", "_law_kind", "_law_some"]
theorem scLet : FnScope nLet ["_law_state", "_law_name", "_law_use", "_law_known", "_law_inputs"] (defScope sLet) := ⟨rfl, rfl, rfl, by decide +kernel, rfl, by decide +kernel, by decide +kernel⟩
theorem lkp_mem : ∀ {e : En} {z : Str} {k : Ki}, (e.map Prod.fst).Nodup → (z, k) ∈ e → lkp e z = some k
  | [], _, _, _, h => by cases h
  | p :: r, z, k, n, h => by
    rw [List.map_cons] at n
    obtain ⟨n1, n2⟩ := List.nodup_cons.mp n
    unfold lkp
    rcases List.mem_cons.mp h with e | h
    · rw [← e, if_pos rfl]
    · rw [if_neg (fun c => n1 (by rw [c]; exact List.mem_map.mpr ⟨_, h, rfl⟩)), lkp_mem n2 h]
theorem lkp_none : ∀ {e : En} {z : Str}, z ∉ e.map Prod.fst → lkp e z = none
  | [], _, _ => rfl
  | p :: r, z, h => by
    rw [List.map_cons] at h
    unfold lkp
    rw [if_neg (fun c => h (by rw [← c]; exact .head _)), lkp_none (fun c => h (.tail _ c))]
theorem cm_ag {a : Ag} (h : goA a) : Cm a.d 2 := by
  have lit : ∀ z : Str, z = "name" ∨ z = "number" ∨ z = "input" → Cm (.str z) 1 := by
    rintro z (rfl | rfl | rfl) <;> exact cm_name (by decide +kernel)
  have num : ∀ i : Int, Cm (.int i) 1 := fun i => ⟨rfl, by simp [PyData.depth]⟩
  cases a with
  | n z =>
    refine cm_tup (D := 1) fun d hd => ?_
    have hd' : d = .str "name" ∨ d = .str z := by simpa using hd
    rcases hd' with rfl | rfl
    · exact lit _ (.inl rfl)
    · exact cm_name h
  | u j =>
    refine cm_tup (D := 1) fun d hd => ?_
    have hd' : d = .str "number" ∨ d = .int j := by simpa using hd
    rcases hd' with rfl | rfl
    · exact lit _ (.inr (.inl rfl))
    · exact num j
  | i j =>
    refine cm_tup (D := 1) fun d hd => ?_
    have hd' : d = .str "input" ∨ d = .int j := by simpa using hd
    rcases hd' with rfl | rfl
    · exact lit _ (.inr (.inr rfl))
    · exact num j
theorem fit_w {e : En} {is : List Int} {n : Int} (nd : (e.map Prod.fst).Nodup) : ∀ a ∈ argsOf e is (.w n), ∃ m, kiA is e a = some (.w m) ∧ m ≤ n := by
  have fN : ∀ a ∈ argN e n, ∃ m, kiA is e a = some (.w m) ∧ m ≤ n := by
    intro a ha
    obtain ⟨⟨p1, p2⟩, hp, rfl⟩ := List.mem_map.mp ha
    obtain ⟨m1, m2⟩ := List.mem_filter.mp hp
    cases p2 with
    | w m => exact ⟨m, lkp_mem nd m1, of_decide_eq_true m2⟩
    | h _ _ => cases m2
  have fI : ∀ a ∈ argI is n is.length, ∃ m, kiA is e a = some (.w m) ∧ m ≤ n := by
    intro a ha
    obtain ⟨j, hj, rfl⟩ := List.mem_map.mp ha
    obtain ⟨m1, m2⟩ := List.mem_filter.mp hj
    have lj := List.mem_range.mp m1
    have ej : is[j]? = some is[j] := List.getElem?_eq_getElem lj
    refine ⟨is[j], ?_, ?_⟩
    · show (is[((j : Nat) : Int).toNat]?).map Ki.w = _
      rw [show ((j : Nat) : Int).toNat = j by omega, ej]
      rfl
    · have := of_decide_eq_true m2
      rw [List.getD_eq_getElem?_getD, ej] at this
      exact this
  intro a ha
  rcases List.mem_append.mp ha with ha | ha
  · rcases List.mem_append.mp ha with ha | ha <;> rcases List.mem_append.mp ha with ha | ha
    · exact fN a ha
    · exact fI a ha
    · exact fN a ha
    · exact fI a ha
  · obtain ⟨j, hj, rfl⟩ := List.mem_map.mp ha
    have := List.mem_range.mp hj
    exact ⟨(j : Nat) + 1, rfl, by omega⟩
theorem fit_h {e : En} {is : List Int} {lb z : Str} (nd : (e.map Prod.fst).Nodup) : ∀ a ∈ argsOf e is (.h lb z), kiA is e a = some (.h lb z) := by
  intro a ha
  obtain ⟨⟨p1, p2⟩, hp, rfl⟩ := List.mem_map.mp ha
  obtain ⟨m1, m2⟩ := List.mem_filter.mp hp
  have : p2 = .h lb z := sameK_h m2
  rw [this] at m1
  exact lkp_mem nd m1
theorem fit_st {e : En} {is : List Int} {lb : Str} {kn : Kn} (nd : (e.map Prod.fst).Nodup) : ∀ a ∈ argsOf e is (kiOf lb kn), stands (kiA is e a) lb kn := by
  intro a ha
  cases kn with
  | p n =>
    obtain ⟨m, h1, h2⟩ := fit_w nd a ha
    rw [h1]
    exact h2
  | h z =>
    rw [fit_h nd a ha]
    exact ⟨rfl, rfl⟩
theorem go_kiOf {hd : List Str} {lb : Str} {kn : Kn} (hl : isN lb = true) (hn : ∀ z ∈ hd, isN z = true) (h : goK hd kn) : goKi (kiOf lb kn) := by
  cases kn with
  | p n => exact h
  | h z => exact ⟨hl, hn z h⟩
section
variable {P : Program} {w : World} {K : PySem.W.Frag} {mg : Str → Option Value} {base : Heap}
def spLet (K : PySem.W.Frag) : Sp := fun vs H Q _ => ∃ (p kl qi : Addr) (nm : Str) (uv : V) (xs : List V) (u : Us) (e : En) (is : List Int) (B : Int), vs = [.ref p, .str nm, uv, .ref kl, .ref qi] ∧ Drw H p B ∧ 0 ≤ B ∧ B ≤ 90000 ∧ isN nm = true ∧ Dp K H uv u.d ∧ isN u.lb = true ∧ goF u.fc ∧
  H kl = some (.lst xs) ∧ DpAll K H xs (e.map kpD) ∧ KnOk e ∧ e.length ≤ 30 ∧ (e.map Prod.fst).Nodup ∧ SqT K H qi (is.map V.int) ∧ is.length ≤ 3 ∧ (∀ H', Gp p H H' → Drw H' p (B + 10) → Q .non H') ∧
  ∀ (H' : Hp) (t : Addr) (r : Ro) (k : Ki) (v1 v2 : V), Gp p H H' → Drw H' p (B + 10) → H' t = some (.tup [v1, v2]) → Dp K H' v1 r.d → Dp K H' v2 k.d → goR r → goKi k → (lkp e nm = none → ∀ us, u ∈ us → StepOk us is e r (e ++ [(nm, k)])) → Q (.ref t) H'
set_option maxHeartbeats 4000000 in
theorem ok_let {f fG fA : Addr} {fd fdG fdA : FuncData} {k : Nat} (F : Fun K "_law_let" "_law_let" sLet f fd) (DG : Has P w K mg base k "_law_digit" ["_law_state", "_law_many"] spDigit fG fdG)
    (HA : Has P w K mg base k "_law_args_of" ["_law_known", "_law_inputs", "_law_wanted"] (spArgs K) fA fdA) (mi : mg "isinstance" = none) (m1 : mg "str" = none) (mt : mg "tuple" = none) (ml : mg "len" = none) :
    FnOk P w K mg base CX0 (k + 1) f fd ["_law_state", "_law_name", "_law_use", "_law_known", "_law_inputs"] (spLet K) := by
  refine F.ok scLet (fun vs H Q E h => ?_) (fun cdv A outer s H vs Q E hr h => ?_)
  · obtain ⟨p, kl, qi, nm, uv, xs, u, e, is, B, rfl, _⟩ := h
    rfl
  · obtain ⟨p, kl, qi, nm, uv, xs, u, e, is, B, rfl, dr, B0, B9, inm, hu, ul, uf, hk, dk, ke, e30, nde, hqi, i3, q0, q⟩ := h
    have nd := scLet.nd
    refine' ⟨_, pss_cons ?s1 (pss_cons ?s2 (pss_cons ?s3 (pss_cons ?s4 (pss_one ?s5)))), ?rd⟩
    case s1 => exact ps_asg (pv 2) (pg_tup rfl (pgs_cons (pg_name (i := 5) nd rfl (.inl rfl)) (pgs_cons (pg_name (i := 6) nd rfl (.inl rfl)) pgs_nil)))
    case s2 =>
      exact ps_asg (pe_ix ix_tup (pe_ix ix_tup (pv 6) pe_int (fun _ _ => rfl)) (hcall DG hr (pa_cons (pv 0) (pa_cons (pe_callB call_len_seq (by rfl) ml PySem.boot_len (pa_cons (pe_ix ix_tup (pv 6) pe_int (fun _ _ => rfl)) pa_nil)) pa_nil))) (fun _ _ => rfl))
        (pg_tup rfl (pgs_cons (pg_name (i := 7) nd rfl (.inl rfl)) (pgs_cons (pg_name (i := 8) nd rfl (.inl rfl)) (pgs_cons (pg_name (i := 9) nd rfl (.inl rfl)) pgs_nil))))
    case s3 => exact ps_set (i := 10) nd rfl (.inl rfl) (pe_lst pa_nil)
    case s4 =>
      refine' ps_for PassesOwn.never rfl (pi_tup (pv 8)) (pg_name (i := 11) nd rfl (.inl rfl)) (pss_cons ?b1 (pss_cons ?b2 (pss_one ?b3)))
      case b1 =>
        exact ps_set (i := 12) nd rfl (.inl rfl) (hcall HA hr (pa_cons (pv 3) (pa_cons (pv 4) (pa_cons (pe_ifExp (pt_val (pe_isi "str" 11 mi m1 (by decide +kernel))) (pe_tup (pa_cons (pv 5) (pa_cons (pv 11) pa_nil))) (pv 11)) pa_nil))))
      case b2 => exact ps_if (pt_cmpR (op_eqD hr.units) (pv 12) (pe_lst pa_nil) (nomark _)) (pss_one (ps_ret pe_non)) pss_nil
      case b3 =>
        exact ps_expr (pe_bm PySem.F.plainAttrs_list PySem.F.slot_list_append PySem.F.type_list_append mt_append (pv 10) (pa_cons (pe_ix ix_list (pv 12) (hcall DG hr (pa_cons (pv 0) (pa_cons (pe_callB call_len_seq (by rfl) ml PySem.boot_len (pa_cons (pv 12) pa_nil)) pa_nil))) (fun _ _ => rfl)) pa_nil))
    case s5 =>
      exact ps_ret (pe_tup (pa_cons (pe_tup (pa_cons pe_str (pa_cons (pv 1) (pa_cons (pv 5) (pa_cons (pv 7) (pa_cons (pe_callTy call_tuple_of (by rfl) mt (by decide +kernel) (pa_cons (pv 10) pa_nil)) pa_nil))))))
        (pa_cons (pe_ifExp (pt_val (pe_isi "str" 9 mi m1 (by decide +kernel))) (pe_tup (pa_cons (pv 5) (pa_cons (pv 9) pa_nil))) (pv 9)) pa_nil)))
    case rd =>
    obtain ⟨tu, y0, fv, rfl, htu, d0, dfv⟩ := dp_2 hu
    cases dp_str d0
    refine ⟨_, rfl, tu, _, rfl, htu, rfl, _, _, rfl, _, [], rfl, rfl, ?_⟩
    obtain ⟨pf, ph, pd, ys, rfl, hpf, hph, hpd, dys⟩ := dp_face dfv
    have ly : ys.length = u.fc.ds.length := by
      have := dpA_len dys
      rw [List.length_map] at this
      exact this
    have lo := uf.lo
    have hi := uf.hi
    refine ⟨_, rfl, pf, _, 1, _, rfl, rfl, hpf, rfl, _, rfl, _, rfl, pf, _, 1, _, rfl, rfl, hpf, rfl, pd, _, rfl, .inr hpd, p, _, B, rfl, dr, by omega, by omega, by omega, fun H1 d b1 dr1 z0 z1 => ?_⟩
    have g1 : Gp p H H1 := Gp.but b1
    have kd1 : Kd K H H1 := dr.kd g1
    have hj : d.toNat < u.fc.ds.length := by omega
    have hde : u.fc.ds[d.toNat]? = some (u.fc.ds[d.toNat]) := List.getElem?_eq_getElem hj
    generalize u.fc.ds[d.toNat] = de at hde
    have mde := List.mem_of_getElem? hde
    have gd := uf.ok de mde
    obtain ⟨y, hy, dy⟩ := dpA_get dys (i := d.toNat) (d := de.d) (by rw [List.getElem?_map, hde]; rfl)
    obtain ⟨pe, n1, t1, v1, rfl, hpe, dn, dt, dv⟩ := dp_3 (kd1.dp dy)
    cases dp_str dn
    cases dp_kn dv
    obtain ⟨tp, ts, rfl, htp, hts⟩ := dp_tup dt
    cases dpA_kns hts
    refine ⟨pd, _, d, .ref pe, rfl, rfl, kd1.t hpd, by rw [← Int.toNat_of_nonneg z0]; exact atI_nat hy, ?_⟩
    refine ⟨pe, _, rfl, hpe, rfl, _, _, rfl, _, _, rfl, _, [], rfl, rfl, ?_⟩
    refine ⟨Nat.zero_le _, fun al nal => ?_⟩
    have k2 : Gr H1 (upd H1 al (.lst [])) := Gr.new nal
    have e2 : upd H1 al (.lst []) al = some (.lst []) := upd_same
    have nap : al ≠ p := dr1.ne nal
    have naH : H al = none := g1.back al nap nal
    have g2 := g1.trans (Gp.gr k2)
    have dr2 := dr1.gr k2
    have htp2 := k2.sqt htp
    generalize upd H1 al (.lst []) = H2 at e2 g2 dr2 htp2 ⊢
    clear k2 nal
    have klp := dr.l_ne hk
    have tk3 := gd.len
    refine ⟨_, rfl, tp, rfl, ⟨_, htp2⟩, ?_⟩
    refine for_it (walk_tup (xs := de.tk.map Kn.v)) (fun j σ S => ∃ (as : List Ag) (zs : List V) (y11 y12 : Option V), σ = [some (.ref p), some (.str nm), some (.ref tu), some (.ref kl), some (.ref qi), some (.str u.lb), some (.ref pf), some (.str de.nm), some (.ref tp), some de.gv.v, some (.ref al), y11, y12] ∧
      S al = some (.lst zs) ∧ DpAll K S zs (as.map Ag.d) ∧ as.length = j ∧ (∀ a ∈ as, goA a) ∧ (∀ (i : Nat) (a : Ag) (kn : Kn), as[i]? = some a → de.tk[i]? = some kn → stands (kiA is e a) u.lb kn) ∧ SqT K S tp (de.tk.map Kn.v) ∧ Gp p H S ∧ Drw S p (B + 1 + (j : Nat)))
      ⟨[], [], none, none, rfl, e2, .nil, rfl, by simp, (by intro i a kn h; simp at h), htp2, g2, dr2.mono (by omega)⟩ ?w1 ?w2 ?w3
    case w1 =>
      rintro j σ S hj ⟨as, zs, y11, y12, rfl, _, _, _, _, _, ht, _⟩
      exact ht
    case w2 =>
      rintro j x σ S S' hj ⟨as, zs, y11, y12, rfl, ea, da, la, ga, st, ht, g, d⟩ ⟨rfl, hx⟩
      have hj' : j < de.tk.length := by
        rw [List.length_map] at hj
        exact hj
      have hx2 : (de.tk.map Kn.v)[j]? = some x := hx
      rw [List.getElem?_map] at hx2
      obtain ⟨kn, hkn, rfl⟩ := Option.map_eq_some_iff.mp hx2
      have gk := gd.tk kn (List.mem_of_getElem? hkn)
      have gki : goKi (kiOf u.lb kn) := go_kiOf ul uf.hid.nm gk
      have hkS := g.lst klp hk
      have kdS : Kd K H S' := dr.kd g
      have lz : zs.length = as.length := by
        have := dpA_len da
        rw [List.length_map] at this
        exact this
      -- behind the kind that is wanted
      refine ⟨_, rfl, _, rfl, ?_⟩
      refine viaV (t := tIf _ _ _) (fun v S1 => Gr S' S1 ∧ Dp K S1 v (kiOf u.lb kn).d) ?va ?vb
      case va =>
        intro Q' q'
        cases kn with
        | p n => exact ⟨_, rfl, "int", false, (is_int n).1, by decide +kernel, _, rfl, iteF ⟨_, rfl, q' _ _ ⟨Gr.refl _, .int n⟩⟩⟩
        | h z =>
          refine ⟨_, rfl, "str", true, (is_str z).1, by decide +kernel, _, rfl, iteT ⟨_, rfl, _, rfl, by show 2 ≤ sizeLine; decide, fun T nT => q' _ _ ⟨Gr.new nT, ?_⟩⟩⟩
          exact dp_pair upd_same (.str _) (.str _)
      case vb =>
      rintro v S1 ⟨k1, dv1⟩
      refine ⟨kl, qi, xs, e, is, kiOf u.lb kn, v, rfl, k1.lst hkS, k1.kd.dpA (kdS.dpA dk), ke, e30, k1.sqt (kdS.t hqi), i3, dv1, gki, fun S2 l ls g2 nl el dl => ?_⟩
      have gA := argsOf_go (e := e) (is := is) ke i3 gki
      have sA := fit_st (is := is) (lb := u.lb) (kn := kn) nde
      have lA := argsOf_len (is := is) e30 i3 gki
      generalize argsOf e is (kiOf u.lb kn) = A at gA sA lA dl
      have g12 := k1.trans g2
      have lls : ls.length = A.length := by
        have := dpA_len dl
        rw [List.length_map] at this
        exact this
      refine ⟨_, rfl, Nat.zero_le _, fun l0 nl0 => ?_⟩
      have k3 : Gr S2 (upd S2 l0 (.lst [])) := Gr.new nl0
      have e0 : upd S2 l0 (.lst []) l0 = some (.lst []) := upd_same
      generalize upd S2 l0 (.lst []) = S3 at k3 e0 ⊢
      have el3 := k3.lst el
      have dl3 := k3.kd.dpA dl
      have g13 := g12.trans k3
      have gS := g.trans (Gp.gr g13)
      have dS := d.gr g13
      have cA : ∀ d ∈ A.map Ag.d, Cm d 2 := by
        intro d hd
        obtain ⟨a, ha, rfl⟩ := List.mem_map.mp hd
        exact cm_ag (gA a ha)
      refine ⟨.list (A.map Ag.d), .list [], .lst (.inl (.inl el3)) dl3, .lst (.inl (.inl e0)) .nil, (cm_lst cA).shaped (by decide), (cm_lst (D := 1) (ds := []) (by simp)).shaped (by decide), _, rfl, ?_⟩
      cases A with
      | nil =>
        show if true = true then _ else _
        exact iteT (q0 _ gS (dS.mono (by omega)))
      | cons a0 r =>
        show if false = true then _ else _
        have lp : 0 < ls.length := by
          rw [lls]
          simp
        refine iteF ?_
        have ea3 := g13.lst ea
        refine ⟨_, rfl, .inl ⟨rfl, _, .inl (.inl ea3)⟩, _, rfl, _, rfl, _, rfl, l, _, rfl, .inl (.inl (.inl el3)), p, _, _, rfl, dS, by omega, by omega, by omega, fun S4 d4 b4 dr4 w0 w1 => ?_⟩
        have hj4 : d4.toNat < (a0 :: r).length := by omega
        have ha4 : (a0 :: r)[d4.toNat]? = some (a0 :: r)[d4.toNat] := List.getElem?_eq_getElem hj4
        generalize (a0 :: r)[d4.toNat] = a4 at ha4
        have ma4 := List.mem_of_getElem? ha4
        obtain ⟨x4, hx4, dx4⟩ := dpA_get dl3 (i := d4.toNat) (d := a4.d) (by rw [List.getElem?_map, ha4]; rfl)
        have lp' := dS.l_ne el3
        have ea4 := (b4 al nap).trans ea3
        have kd4 : Kd K S3 S4 := dS.kd (Gp.but b4)
        refine ⟨l, ls, d4, x4, rfl, rfl, .inl (.inl ((b4 l lp').trans el3)), by rw [← Int.toNat_of_nonneg w0]; exact atI_nat hx4, ?_⟩
        refine ⟨al, _, _, rfl, rfl, ea4, small1000 (by omega), ?_⟩
        have kt : Kt K S4 (upd S4 al (.lst (zs ++ [x4]))) := kt_lst ea4
        refine ⟨as ++ [a4], zs ++ [x4], _, _, rfl, upd_same, put_dp noL_ag ea4 (kd4.dpA (g13.kd.dpA da)) (kd4.dp dx4), ?_, ?_, ?_, kt (kd4.t (g13.sqt ht)), (gS.trans (Gp.but b4)).upd_new naH, (dr4.upd nap).mono (by omega)⟩
        · rw [List.length_append, la]
          rfl
        · intro a ha
          rcases List.mem_append.mp ha with h | h
          · exact ga a h
          · rw [List.mem_singleton.mp h]
            exact gA a4 ma4
        · intro i a k' ha hk'
          rcases Nat.lt_or_ge i as.length with c | c
          · rw [List.getElem?_append_left c] at ha
            exact st i a k' ha hk'
          · rw [List.getElem?_append_right c] at ha
            have e0 : i - as.length = 0 := by
              have := lt_of_at ha
              rw [List.length_singleton] at this
              omega
            rw [e0] at ha
            cases ha
            have : i = j := by omega
            rw [this, hkn] at hk'
            cases hk'
            exact sA a4 ma4
    case w3 =>
      rintro σ S ⟨as, zs, y11, y12, rfl, ea, da, la, ga, st, ht, g, d⟩
      rw [List.length_map] at la
      rw [List.length_map] at d
      refine ⟨_, rfl, _, rfl, _, rfl, _, rfl, al, _, rfl, .inl ⟨.inl (.inl ea), fun ta nta => ?_⟩⟩
      have k1 : Gr S (upd S ta (.tup zs)) := Gr.new nta
      have e1 : upd S ta (.tup zs) ta = some (.tup zs) := upd_same
      generalize upd S ta (.tup zs) = S1 at k1 e1 ⊢
      refine ⟨by show 5 ≤ sizeLine; decide, fun tr ntr => ?_⟩
      have k2 : Gr S1 (upd S1 tr (.tup [.str "let", .str nm, .str u.lb, .str de.nm, .ref ta])) := Gr.new ntr
      have e2 : upd S1 tr (.tup [.str "let", .str nm, .str u.lb, .str de.nm, .ref ta]) tr = some (.tup [.str "let", .str nm, .str u.lb, .str de.nm, .ref ta]) := upd_same
      generalize upd S1 tr (.tup [.str "let", .str nm, .str u.lb, .str de.nm, .ref ta]) = S2 at k2 e2 ⊢
      have k12 := k1.trans k2
      have dRow : Dp K S2 (.ref tr) (Ro.l nm u.lb de.nm as).d := .tup (.inl (.inl e2)) (.cons (.str _) (.cons (.str _) (.cons (.str _) (.cons (.str _) (.cons (.tup (.inl (.inl (k2.tup e1))) (k12.kd.dpA da)) .nil)))))
      refine viaV (t := tIf _ _ _) (fun v S3 => Gr S2 S3 ∧ Dp K S3 v (kiOf u.lb de.gv).d) ?xa ?xb
      case xa =>
        intro Q' q'
        cases hgv : de.gv with
        | p n => exact ⟨_, rfl, "int", false, (is_int n).1, by decide +kernel, _, rfl, iteF ⟨_, rfl, q' _ _ ⟨Gr.refl _, by rw [hgv]; exact .int n⟩⟩⟩
        | h z =>
          refine ⟨_, rfl, "str", true, (is_str z).1, by decide +kernel, _, rfl, iteT ⟨_, rfl, _, rfl, by show 2 ≤ sizeLine; decide, fun T nT => q' _ _ ⟨Gr.new nT, ?_⟩⟩⟩
          rw [hgv]
          exact dp_pair upd_same (.str _) (.str _)
      case xb =>
      rintro v S3 ⟨k3, dv3⟩
      refine ⟨by show 2 ≤ sizeLine; decide, fun tt ntt => ?_⟩
      have k4 : Gr S3 (upd S3 tt (.tup [.ref tr, v])) := Gr.new ntt
      have kA := k12.trans (k3.trans k4)
      refine q _ tt (.l nm u.lb de.nm as) (kiOf u.lb de.gv) _ _ (g.trans (Gp.gr kA)) ((d.gr kA).mono (by omega)) upd_same ((k3.trans k4).kd.dp dRow) (k4.kd.dp dv3) ⟨inm, ul, gd.nm, by omega, ga⟩ (go_kiOf ul uf.hid.nm gd.gv) fun hn us hus => ⟨hn, u, hus, rfl, de, mde, rfl, la, st, rfl⟩
end
end SfC
/-! a row that picks, drawn -/
namespace SfC
open PySem PySem.Spec PyProof.Rows L2 SfG
abbrev nPick : List Str := ["_law_state", "_law_name", "_law_known", "_law_inputs", "_law_first", "_law_one", "_law_kind", "_law_some", "_law_other"]
theorem scPick : FnScope nPick ["_law_state", "_law_name", "_law_known", "_law_inputs"] (defScope sPick) := ⟨rfl, rfl, rfl, by decide +kernel, rfl, by decide +kernel, by decide +kernel⟩
theorem lkp_in : ∀ {e : En} {z : Str} {k : Ki}, lkp e z = some k → (z, k) ∈ e
  | [], _, _, h => by cases h
  | p :: r, z, k, h => by
    unfold lkp at h
    by_cases c : p.1 = z
    · rw [if_pos c] at h
      cases h
      rw [← c]
      exact .head _
    · rw [if_neg c] at h
      exact .tail _ (lkp_in h)
theorem argsOf_ne {e : En} {is : List Int} {a : Ag} {k : Ki} (h : kiA is e a = some k) (g : goKi k) : argsOf e is k ≠ [] := by
  cases k with
  | w n =>
    intro c
    have := congrArg List.length c
    have hu := argU_len n.toNat
    have := g.1
    simp only [argsOf, List.length_append, List.length_nil] at *
    omega
  | h lb z =>
    cases a with
    | n y =>
      have m : (y, Ki.h lb z) ∈ e := lkp_in h
      intro c
      have : Ag.n y ∈ argsOf e is (.h lb z) := List.mem_map.mpr ⟨(y, .h lb z), List.mem_filter.mpr ⟨m, sameK_self g⟩, rfl⟩
      rw [c] at this
      cases this
    | u j => cases h
    | i j =>
      have h' : (is[j.toNat]?).map Ki.w = some (.h lb z) := h
      cases c : is[j.toNat]? with
      | none =>
        rw [c] at h'
        cases h'
      | some m =>
        rw [c] at h'
        cases h'
/-- what is picked from, and of which kind it is -/
def PickOk (e : En) (is : List Int) (b c : Ag) (k : Ki) : Prop :=
  (∃ m n, kiA is e b = some (.w m) ∧ kiA is e c = some (.w n) ∧ k = .w (max m n)) ∨ ∃ lb z, isN lb = true ∧ isN z = true ∧ kiA is e b = some (.h lb z) ∧ kiA is e c = some (.h lb z) ∧ k = .h lb z
theorem cm_kp {p : Str × Ki} (h : isN p.1 = true ∧ goKi p.2) : Cm (kpD p) 3 := by
  refine cm_tup (D := 2) fun d hd => ?_
  have hd' : d = .str p.1 ∨ d = p.2.d := by simpa using hd
  rcases hd' with rfl | rfl
  · exact (cm_name h.1).mono (by decide)
  · exact cm_ki h.2
section
variable {P : Program} {w : World} {K : PySem.W.Frag} {mg : Str → Option Value} {base : Heap}
def spPick (K : PySem.W.Frag) : Sp := fun vs H Q _ => ∃ (p kl qi : Addr) (nm : Str) (xs : List V) (e : En) (is : List Int) (B : Int), vs = [.ref p, .str nm, .ref kl, .ref qi] ∧ Drw H p B ∧ 0 ≤ B ∧ B ≤ 90000 ∧ isN nm = true ∧
  H kl = some (.lst xs) ∧ DpAll K H xs (e.map kpD) ∧ KnOk e ∧ e.length ≤ 30 ∧ (e.map Prod.fst).Nodup ∧ SqT K H qi (is.map V.int) ∧ is.length ≤ 3 ∧
  ∀ (H' : Hp) (t : Addr) (r : Ro) (k : Ki) (v1 v2 : V), Gp p H H' → Drw H' p (B + 10) → H' t = some (.tup [v1, v2]) → Dp K H' v1 r.d → Dp K H' v2 k.d → goR r → goKi k → (lkp e nm = none → ∀ us, StepOk us is e r (e ++ [(nm, k)])) → Q (.ref t) H'
set_option maxHeartbeats 4000000 in
theorem ok_pick {f fG fA : Addr} {fd fdG fdA : FuncData} {k : Nat} (F : Fun K "_law_pick" "_law_pick" sPick f fd) (DG : Has P w K mg base k "_law_digit" ["_law_state", "_law_many"] spDigit fG fdG)
    (HA : Has P w K mg base k "_law_args_of" ["_law_known", "_law_inputs", "_law_wanted"] (spArgs K) fA fdA) (mi : mg "isinstance" = none) (mt : mg "tuple" = none) (ml : mg "len" = none) :
    FnOk P w K mg base CX0 (k + 1) f fd ["_law_state", "_law_name", "_law_known", "_law_inputs"] (spPick K) := by
  refine F.ok scPick (fun vs H Q E h => ?_) (fun cdv A outer s H vs Q E hr h => ?_)
  · obtain ⟨p, kl, qi, nm, xs, e, is, B, rfl, _⟩ := h
    rfl
  · obtain ⟨p, kl, qi, nm, xs, e, is, B, rfl, dr, B0, B9, inm, hk, dk, ke, e30, nde, hqi, i3, q⟩ := h
    have nd := scPick.nd
    refine' ⟨_, pss_cons ?s1 (pss_cons ?s2 (pss_cons ?s3 (pss_cons ?s4 (pss_cons ?s5 (pss_cons ?s6 (pss_one ?s7)))))), ?rd⟩
    case s1 => exact ps_set (i := 4) nd rfl (.inl rfl) (hcall HA hr (pa_cons (pv 2) (pa_cons (pv 3) (pa_cons pe_int pa_nil))))
    case s2 => exact ps_asg (pe_tup (pa_cons (pe_tup (pa_cons pe_str (pa_cons pe_int pa_nil))) (pa_cons pe_int pa_nil))) (pg_tup rfl (pgs_cons (pg_name (i := 5) nd rfl (.inl rfl)) (pgs_cons (pg_name (i := 6) nd rfl (.inl rfl)) pgs_nil)))
    case s3 =>
      exact ps_if (PW.pt (pw_and (pt_cmpR (op_neD hr.units) (pv 2) (pe_lst pa_nil) (nomark _)) (pw_and1 (pt_cmpR op_gt (hcall DG hr (pa_cons (pv 0) (pa_cons pe_int pa_nil))) pe_int (nomark _)))))
        (pss_cons (ps_asg (pe_ix ix_list (pv 2) (hcall DG hr (pa_cons (pv 0) (pa_cons (pe_callB call_len_seq (by rfl) ml PySem.boot_len (pa_cons (pv 2) pa_nil)) pa_nil))) (fun _ _ => rfl)) (pg_tup rfl (pgs_cons (pg_name (i := 5) nd rfl (.inl rfl)) (pgs_cons (pg_name (i := 6) nd rfl (.inl rfl)) pgs_nil))))
        (pss_one (ps_set (i := 5) nd rfl (.inl rfl) (pe_tup (pa_cons pe_str (pa_cons (pv 5) pa_nil)))))) pss_nil
    case s4 => exact ps_set (i := 7) nd rfl (.inl rfl) (hcall HA hr (pa_cons (pv 2) (pa_cons (pv 3) (pa_cons (pv 6) pa_nil))))
    case s5 => exact ps_set (i := 8) nd rfl (.inl rfl) (pe_ix ix_list (pv 7) (hcall DG hr (pa_cons (pv 0) (pa_cons (pe_callB call_len_seq (by rfl) ml PySem.boot_len (pa_cons (pv 7) pa_nil)) pa_nil))) (fun _ _ => rfl))
    case s6 =>
      exact ps_if (pt_not (pt_val (pe_isi "tuple" 6 mi mt (by decide +kernel)))) (pss_one (ps_asg (pe_ix ix_list (pe_lst (pa_cons (pe_tup (pa_cons (pv 5) (pa_cons (pv 8) pa_nil))) (pa_cons (pe_tup (pa_cons (pv 8) (pa_cons (pv 5) pa_nil))) pa_nil))) (hcall DG hr (pa_cons (pv 0) (pa_cons pe_int pa_nil))) (fun _ _ => rfl))
        (pg_tup rfl (pgs_cons (pg_name (i := 5) nd rfl (.inl rfl)) (pgs_cons (pg_name (i := 8) nd rfl (.inl rfl)) pgs_nil))))) pss_nil
    case s7 =>
      exact ps_ret (pe_tup (pa_cons (pe_tup (pa_cons pe_str (pa_cons (pv 1) (pa_cons (pe_ix ix_list (pv 4) (hcall DG hr (pa_cons (pv 0) (pa_cons (pe_callB call_len_seq (by rfl) ml PySem.boot_len (pa_cons (pv 4) pa_nil)) pa_nil))) (fun _ _ => rfl)) (pa_cons (pv 5) (pa_cons (pv 8) pa_nil)))))) (pa_cons (pv 6) pa_nil)))
    case rd =>
    have klp := dr.l_ne hk
    have lx : xs.length = e.length := by
      have := dpA_len dk
      rw [List.length_map] at this
      exact this
    refine ⟨_, rfl, _, rfl, kl, qi, xs, e, is, .w 9, .int 9, rfl, hk, dk, ke, e30, hqi, i3, .int 9, ⟨by decide, by decide⟩, fun H1 l1 ls1 g1 nl1 el1 dl1 => ?_⟩
    have gA1 := argsOf_go (e := e) (is := is) (k := .w 9) ke i3 ⟨by decide, by decide⟩
    have fA1 := fit_w (e := e) (is := is) (n := 9) nde
    have lA1 := argsOf_len (e := e) (is := is) (k := .w 9) e30 i3 ⟨by decide, by decide⟩
    have nA1 := argsOf_ne (e := e) (is := is) (a := .u 8) (k := .w 9) rfl ⟨by decide, by decide⟩
    generalize argsOf e is (.w 9) = A1 at gA1 fA1 lA1 dl1 nA1
    have l1p := dr.ne nl1
    have dr1 := dr.gr g1
    refine ⟨by show 2 ≤ sizeLine; decide, fun ta nta => ?_⟩
    have k2 : Gr H1 (upd H1 ta (.tup [.str "number", .int 3])) := Gr.new nta
    have e2 : upd H1 ta (.tup [.str "number", .int 3]) ta = some (.tup [.str "number", .int 3]) := upd_same
    generalize upd H1 ta (.tup [.str "number", .int 3]) = H2 at k2 e2 ⊢
    refine ⟨by show 2 ≤ sizeLine; decide, fun tb ntb => ?_⟩
    have k3 : Gr H2 (upd H2 tb (.tup [.ref ta, .int 4])) := Gr.new ntb
    have e3 : upd H2 tb (.tup [.ref ta, .int 4]) tb = some (.tup [.ref ta, .int 4]) := upd_same
    have e23 := k3.tup e2
    generalize upd H2 tb (.tup [.ref ta, .int 4]) = H3 at k3 e3 e23 ⊢
    refine ⟨tb, _, rfl, .inl (.inl e3), rfl, _, _, rfl, _, [], rfl, rfl, ?_⟩
    have g3 := g1.trans (k2.trans k3)
    have el3 := (k2.trans k3).lst el1
    have dl3 := (k2.trans k3).kd.dpA dl1
    have dr3 := dr.gr g3
    clear k2 k3 e2 e3 nta ntb el1 dl1 dr1
    have cE : ∀ d ∈ e.map kpD, Cm d 3 := by
      intro d hd
      obtain ⟨a, ha, rfl⟩ := List.mem_map.mp hd
      exact cm_kp (ke a ha)
    dsimp only
    refine viaT (t := tIfS _ _ _) (fun σ S => ∃ (one kv : V) (a1 : Ag) (ki : Ki), σ = [some (.ref p), some (.str nm), some (.ref kl), some (.ref qi), some (.ref l1), some one, some kv, none, none] ∧ Gp p H3 S ∧ Drw S p (B + 2) ∧ Dp K S one a1.d ∧ Dp K S kv ki.d ∧ goA a1 ∧ goKi ki ∧ kiA is e a1 = some ki) ?va ?vb
    case va =>
      intro U' ur un
      refine ⟨_, rfl, Nat.zero_le _, fun l0 nl0 => ?_⟩
      have k4 : Gr H3 (upd H3 l0 (.lst [])) := Gr.new nl0
      have e4 : upd H3 l0 (.lst []) l0 = some (.lst []) := upd_same
      generalize upd H3 l0 (.lst []) = H4 at k4 e4 ⊢
      have g4 := g3.trans k4
      have hk4 := g4.lst hk
      refine ⟨.list (e.map kpD), .list [], .lst (.inl (.inl hk4)) (g4.kd.dpA dk), .lst (.inl (.inl e4)) .nil, (cm_lst cE).shaped (by decide), (cm_lst (D := 1) (ds := []) (by simp)).shaped (by decide), _, rfl, ?_⟩
      have dr4 := dr3.gr k4
      have plain : ∀ S, Gp p H3 S → Drw S p (B + 2) → ∃ (one kv : V) (a1 : Ag) (ki : Ki), ([some (.ref p), some (.str nm), some (.ref kl), some (.ref qi), some (.ref l1), some (.ref ta), some (.int 4), none, none] : List (Option V)) = [some (.ref p), some (.str nm), some (.ref kl), some (.ref qi), some (.ref l1), some one, some kv, none, none] ∧ Gp p H3 S ∧ Drw S p (B + 2) ∧ Dp K S one a1.d ∧ Dp K S kv ki.d ∧ goA a1 ∧ goKi ki ∧ kiA is e a1 = some ki := by
        intro S g d
        exact ⟨_, _, .u 3, .w 4, rfl, g, d, dp_pair (g.keep ta _ (dr3.at_ne e23) e23 (fun _ z => by cases z)) (.str _) (.int _), .int _, ⟨by decide, by decide⟩, ⟨by decide, by decide⟩, rfl⟩
      cases e with
      | nil =>
        show if false = true then _ else _
        exact iteF (iteF (un _ _ (plain H4 (Gp.gr k4) (dr4.mono (by omega)))))
      | cons p0 r0 =>
        show if true = true then _ else _
        refine iteT ⟨_, rfl, p, 4, _, rfl, dr4, by omega, by decide, by decide, fun H5 d b5 dr5 z0 z4 => ⟨d, 0, rfl, rfl, _, rfl, ?_⟩⟩
        have g5 : Gp p H3 H5 := (Gp.gr k4).trans (Gp.but b5)
        by_cases c : 0 < d
        · rw [decide_eq_true c]
          have hk5 := (b5 kl klp).trans hk4
          have lp : 0 < xs.length := by
            rw [lx]
            simp
          refine iteT ⟨_, rfl, _, rfl, _, rfl, kl, _, rfl, .inl (.inl (.inl hk5)), p, _, _, rfl, dr5, by omega, by omega, by omega, fun H6 d6 b6 dr6 w0 w1 => ?_⟩
          have hj : d6.toNat < (p0 :: r0).length := by omega
          have hp6 : (p0 :: r0)[d6.toNat]? = some (p0 :: r0)[d6.toNat] := List.getElem?_eq_getElem hj
          generalize (p0 :: r0)[d6.toNat] = p6 at hp6
          have m6 := List.mem_of_getElem? hp6
          have g6 : Gp p H3 H6 := g5.trans (Gp.but b6)
          have kd6 : Kd K H H6 := dr.kd ((Gp.gr g3).trans g6)
          obtain ⟨x6, hx6, dx6⟩ := dpA_get (kd6.dpA dk) (i := d6.toNat) (d := kpD p6) (by rw [List.getElem?_map, hp6]; rfl)
          refine ⟨kl, xs, d6, x6, rfl, rfl, .inl (.inl ((b6 kl klp).trans hk5)), by rw [← Int.toNat_of_nonneg w0]; exact atI_nat hx6, ?_⟩
          obtain ⟨z6, k6⟩ := p6
          obtain ⟨t6, y0, y1, rfl, ht6, d60, d61⟩ := dp_2 dx6
          cases dp_str d60
          refine ⟨t6, _, rfl, ht6, rfl, _, _, rfl, _, [], rfl, rfl, ?_⟩
          refine ⟨_, rfl, by show 2 ≤ sizeLine; decide, fun t7 nt7 => ?_⟩
          have k7 : Gr H6 (upd H6 t7 (.tup [.str "name", .str z6])) := Gr.new nt7
          exact un _ _ ⟨_, _, .n z6, k6, rfl, g6.trans (Gp.gr k7), (dr6.gr k7).mono (by omega), dp_pair upd_same (.str _) (.str _), k7.kd.dp d61, (ke _ m6).1, (ke _ m6).2, lkp_mem nde m6⟩
        · rw [decide_eq_false c]
          exact iteF (un _ _ (plain H5 g5 (dr5.mono (by omega))))
    case vb =>
    rintro σ S ⟨one, kv, a1, ki, rfl, g, d, d1, dkv, ga1, gki, hk1⟩
    have gS := (Gp.gr g3).trans g
    have kdS : Kd K H S := dr.kd gS
    refine ⟨_, rfl, _, rfl, _, rfl, kl, qi, xs, e, is, ki, kv, rfl, gS.lst klp hk, kdS.dpA dk, ke, e30, kdS.t hqi, i3, dkv, gki, fun S1 l2 ls2 u1 nl2 el2 dl2 => ?_⟩
    have gA2 := argsOf_go (e := e) (is := is) ke i3 gki
    have lA2 := argsOf_len (is := is) e30 i3 gki
    have nA2 := argsOf_ne hk1 gki
    have fA2 : ∀ a ∈ argsOf e is ki, PickOk e is a1 a ki ∧ PickOk e is a a1 ki ∨ (PickOk e is a1 a ki ∧ ∃ lb z, ki = .h lb z) := by
      intro a ha
      cases ki with
      | w n =>
        obtain ⟨m, h1, h2⟩ := fit_w nde a ha
        exact .inl ⟨.inl ⟨n, m, hk1, h1, by rw [Int.max_eq_left h2]⟩, .inl ⟨m, n, h1, hk1, by rw [Int.max_eq_right h2]⟩⟩
      | h lb z => exact .inr ⟨.inr ⟨lb, z, gki.1, gki.2, hk1, fit_h nde a ha, rfl⟩, lb, z, rfl⟩
    generalize argsOf e is ki = A2 at gA2 lA2 nA2 fA2 dl2
    have l2s : ls2.length = A2.length := by
      have := dpA_len dl2
      rw [List.length_map] at this
      exact this
    have p2 : 0 < A2.length := List.length_pos_iff.mpr nA2
    have dS1 := d.gr u1
    refine ⟨_, rfl, _, rfl, _, rfl, l2, _, rfl, .inl (.inl (.inl el2)), p, _, _, rfl, dS1, by omega, by omega, by omega, fun S2 x2 b2 d2 w0 w1 => ?_⟩
    have hj : x2.toNat < A2.length := by omega
    have ha2 : A2[x2.toNat]? = some A2[x2.toNat] := List.getElem?_eq_getElem hj
    generalize A2[x2.toNat] = a2 at ha2
    have m2 := List.mem_of_getElem? ha2
    have u2 : Gp p S S2 := (Gp.gr u1).trans (Gp.but b2)
    have kd12 : Kd K S1 S2 := dS1.kd (Gp.but b2)
    obtain ⟨v2, hv2, dv2⟩ := dpA_get (kd12.dpA dl2) (i := x2.toNat) (d := a2.d) (by rw [List.getElem?_map, ha2]; rfl)
    refine ⟨l2, ls2, x2, v2, rfl, rfl, .inl (.inl ((b2 l2 (dS1.l_ne el2)).trans el2)), by rw [← Int.toNat_of_nonneg w0]; exact atI_nat hv2, ?_⟩
    have kd2 : Kd K S S2 := d.kd u2
    have d1' := kd2.dp d1
    have dkv' := kd2.dp dkv
    have gS2 := gS.trans u2
    have d2 : Drw S2 p (B + 3) := d2.mono (by omega)
    have po := fA2 a2 m2
    have ga2 := gA2 a2 m2
    have l1S : S2 l1 = some (.lst ls1) := (g.trans u2).lst l1p el3
    have dl1S : DpAll K S2 ls1 (A1.map Ag.d) := (dr3.kd (g.trans u2)).dpA dl3
    clear fA2 gA2 lA2 nA2 dl2 l2s p2 dS1 b2 ha2 m2 u2 kd12 hv2 kd2 d1 dkv hk1 el2 u1
    dsimp only
    refine viaT (t := tIfS _ _ _) (fun σ T => ∃ (y5 y8 : V) (b c : Ag), σ = [some (.ref p), some (.str nm), some (.ref kl), some (.ref qi), some (.ref l1), some y5, some kv, some (.ref l2), some y8] ∧ Gp p S2 T ∧ Drw T p (B + 4) ∧ Dp K T y5 b.d ∧ Dp K T y8 c.d ∧ goA b ∧ goA c ∧ PickOk e is b c ki) ?xa ?xb
    case xa =>
      intro U' ur un
      cases ki with
      | h lb z =>
        obtain ⟨tk, y0, y1, rfl, htk, _, _⟩ := dp_2 dkv'
        refine ⟨_, rfl, "tuple", true, tyx_tup htk, by decide +kernel, _, rfl, iteF (un _ _ ⟨_, _, a1, a2, rfl, Gp.refl _ _, d2.mono (by omega), d1', dv2, ga1, ga2, ?_⟩)⟩
        rcases po with po | po
        · exact po.1
        · exact po.1
      | w n =>
        cases dp_int dkv'
        refine ⟨_, rfl, "int", false, (is_int n).1, by decide +kernel, _, rfl, iteT ⟨_, rfl, _, rfl, by show 2 ≤ sizeLine; decide, fun t1 nt1 => ?_⟩⟩
        have k1 : Gr S2 (upd S2 t1 (.tup [one, v2])) := Gr.new nt1
        have f1 : upd S2 t1 (.tup [one, v2]) t1 = some (.tup [one, v2]) := upd_same
        generalize upd S2 t1 (.tup [one, v2]) = T1 at k1 f1 ⊢
        refine ⟨_, rfl, _, rfl, by show 2 ≤ sizeLine; decide, fun t2 nt2 => ?_⟩
        have k2 : Gr T1 (upd T1 t2 (.tup [v2, one])) := Gr.new nt2
        have f2 : upd T1 t2 (.tup [v2, one]) t2 = some (.tup [v2, one]) := upd_same
        have f12 := k2.tup f1
        generalize upd T1 t2 (.tup [v2, one]) = T2 at k2 f2 f12 ⊢
        refine ⟨by show 2 ≤ sizeLine; decide, fun t3 nt3 => ?_⟩
        have k3 : Gr T2 (upd T2 t3 (.lst [.ref t1, .ref t2])) := Gr.new nt3
        have f3 : upd T2 t3 (.lst [.ref t1, .ref t2]) t3 = some (.lst [.ref t1, .ref t2]) := upd_same
        have h1 := k3.tup f12
        have h2 := k3.tup f2
        generalize upd T2 t3 (.lst [.ref t1, .ref t2]) = T3 at k3 f3 h1 h2 ⊢
        have k123 := k1.trans (k2.trans k3)
        have d3 := d2.gr k123
        refine ⟨_, rfl, p, 2, _, rfl, d3, by omega, by decide, by decide, fun T4 x4 b4 d4 q0 q2 => ?_⟩
        have pp : PickOk e is a1 a2 (.w n) ∧ PickOk e is a2 a1 (.w n) := by
          rcases po with po | ⟨_, _, _, c⟩
          · exact po
          · cases c
        have g4 : Gp p S2 T4 := (Gp.gr k123).trans (Gp.but b4)
        have kd4 : Kd K S2 T4 := d2.kd g4
        have e3 := (b4 t3 (d3.l_ne f3)).trans f3
        have e1 := (b4 t1 (d3.at_ne h1)).trans h1
        have e2 := (b4 t2 (d3.at_ne h2)).trans h2
        have cc : x4 = 0 ∨ x4 = 1 := by omega
        rcases cc with rfl | rfl
        · refine ⟨t3, _, 0, .ref t1, rfl, rfl, .inl (.inl e3), rfl, ?_⟩
          refine ⟨t1, _, rfl, .inl (.inl e1), rfl, _, _, rfl, _, [], rfl, rfl, ?_⟩
          exact un _ _ ⟨_, _, a1, a2, rfl, g4, d4.mono (by omega), kd4.dp d1', kd4.dp dv2, ga1, ga2, pp.1⟩
        · refine ⟨t3, _, 1, .ref t2, rfl, rfl, .inl (.inl e3), rfl, ?_⟩
          refine ⟨t2, _, rfl, .inl (.inl e2), rfl, _, _, rfl, _, [], rfl, rfl, ?_⟩
          exact un _ _ ⟨_, _, a2, a1, rfl, g4, d4.mono (by omega), kd4.dp dv2, kd4.dp d1', ga2, ga1, pp.2⟩
    case xb =>
    rintro σ T ⟨y5, y8, b, c, rfl, gT, dT, dy5, dy8, gb, gc, pk⟩
    have lsl : ls1.length = A1.length := by
      have := dpA_len dl1S
      rw [List.length_map] at this
      exact this
    have p1 : 0 < A1.length := List.length_pos_iff.mpr nA1
    have l1T := gT.lst l1p l1S
    refine ⟨_, rfl, _, rfl, _, rfl, _, rfl, l1, _, rfl, .inl (.inl (.inl l1T)), p, _, _, rfl, dT, by omega, by omega, by omega, fun T5 x5 b5 d5 w0' w1' => ?_⟩
    have hj5 : x5.toNat < A1.length := by omega
    have ha5 : A1[x5.toNat]? = some A1[x5.toNat] := List.getElem?_eq_getElem hj5
    generalize A1[x5.toNat] = a5 at ha5
    have m5 := List.mem_of_getElem? ha5
    have kd5 : Kd K S2 T5 := d2.kd (gT.trans (Gp.but b5))
    have kdT : Kd K T T5 := dT.kd (Gp.but b5)
    obtain ⟨v5, hv5, dv5⟩ := dpA_get (kd5.dpA dl1S) (i := x5.toNat) (d := a5.d) (by rw [List.getElem?_map, ha5]; rfl)
    refine ⟨l1, ls1, x5, v5, rfl, rfl, .inl (.inl ((b5 l1 l1p).trans l1T)), by rw [← Int.toNat_of_nonneg w0']; exact atI_nat hv5, ?_⟩
    refine ⟨_, rfl, _, rfl, by show 5 ≤ sizeLine; decide, fun tr ntr => ?_⟩
    have k6 : Gr T5 (upd T5 tr (.tup [.str "pick", .str nm, v5, y5, y8])) := Gr.new ntr
    have e6 : upd T5 tr (.tup [.str "pick", .str nm, v5, y5, y8]) tr = some (.tup [.str "pick", .str nm, v5, y5, y8]) := upd_same
    generalize upd T5 tr (.tup [.str "pick", .str nm, v5, y5, y8]) = T6 at k6 e6 ⊢
    refine ⟨_, rfl, by show 2 ≤ sizeLine; decide, fun tt ntt => ?_⟩
    have k7 : Gr T6 (upd T6 tt (.tup [.ref tr, kv])) := Gr.new ntt
    have kA := k6.trans k7
    have dRow : Dp K T6 (.ref tr) (Ro.p nm a5 b c).d := .tup (.inl (.inl e6)) (.cons (.str _) (.cons (.str _) (.cons (k6.kd.dp dv5) (.cons (k6.kd.dp (kdT.dp dy5)) (.cons (k6.kd.dp (kdT.dp dy8)) .nil)))))
    obtain ⟨n5, f5, _⟩ := fA1 a5 m5
    refine q _ tt (.p nm a5 b c) ki _ _ (gS2.trans (gT.trans ((Gp.but b5).trans (Gp.gr kA)))) ((d5.gr kA).mono (by omega)) upd_same (k7.kd.dp dRow) (kA.kd.dp (kd5.dp dkv')) ⟨inm, gA1 a5 m5, gb, gc⟩ gki fun hn us => ⟨hn, ⟨n5, f5⟩, ?_⟩
    rcases pk with ⟨m, n, h1, h2, rfl⟩ | ⟨lb, z, h1, h2, h3, h4, rfl⟩
    · exact .inl ⟨m, n, h1, h2, rfl⟩
    · exact .inr ⟨lb, z, h1, h2, h3, h4, rfl⟩
end
end SfC
/-! a program, drawn -/
namespace SfC
open PySem PySem.Spec PyProof.Rows L2 SfG
abbrev nProg : List Str := ["_law_state", "_law_most", "_law_labels", "_law_faces", "_law_uses", "_law_inputs", "_law_known", "_law_rows", "_law_name", "_law_way", "_law_use", "_law_found", "_law_some", "_law_k", "_law_label"]
theorem scProg : FnScope nProg ["_law_state", "_law_most"] (defScope sProg) := ⟨rfl, rfl, rfl, by decide +kernel, rfl, by decide +kernel, by decide +kernel⟩
/-- rows that stand one after the other -/
inductive Run (us : List Us) (is : List Int) : List Ro → En → Prop
  | nil : Run us is [] []
  | snoc {rs : List Ro} {e e' : En} {r : Ro} : Run us is rs e → StepOk us is e r e' → e'.length ≤ e.length + 1 → Run us is (rs ++ [r]) e'
theorem Run.es {us : List Us} {is : List Int} {rs : List Ro} {e : En} (h : Run us is rs e) : ∃ es : Nat → En, es 0 = [] ∧ (∀ i, (es i).length ≤ i) ∧ (∀ i r, rs[i]? = some r → StepOk us is (es i) r (es (i + 1))) ∧ es rs.length = e := by
  induction h with
  | nil => exact ⟨fun _ => [], rfl, fun _ => Nat.zero_le _, fun i r h => by simp at h, rfl⟩
  | @snoc rs e e' r _ st le ih =>
    obtain ⟨es, h0, h1, h2, h3⟩ := ih
    refine ⟨fun i => if i ≤ rs.length then es i else e', ?_, ?_, ?_, ?_⟩
    · show (if 0 ≤ rs.length then es 0 else e') = []
      rw [if_pos (Nat.zero_le _), h0]
    · intro i
      show (if i ≤ rs.length then es i else e').length ≤ i
      by_cases c : i ≤ rs.length
      · rw [if_pos c]
        exact h1 i
      · rw [if_neg c]
        have := h1 rs.length
        rw [h3] at this
        omega
    · intro i r' hr
      show StepOk us is (if i ≤ rs.length then es i else e') r' (if i + 1 ≤ rs.length then es (i + 1) else e')
      rcases Nat.lt_or_ge i rs.length with c | c
      · rw [if_pos (Nat.le_of_lt c), if_pos (show i + 1 ≤ rs.length from c)]
        rw [List.getElem?_append_left c] at hr
        exact h2 i r' hr
      · rw [List.getElem?_append_right c] at hr
        have e0 : i - rs.length = 0 := by
          have := lt_of_at hr
          rw [List.length_singleton] at this
          omega
        rw [e0] at hr
        cases hr
        have ei : i = rs.length := by omega
        subst ei
        rw [if_pos (Nat.le_refl _), if_neg (by omega), h3]
        exact st
    · show (if (rs ++ [r]).length ≤ rs.length then es _ else e') = e'
      rw [if_neg (by rw [List.length_append, List.length_singleton]; omega)]
theorem PgV.gp {K : PySem.W.Frag} {H H' : Hp} {v : V} {pg : Pg} {p : Addr} {B : Int} (h : PgV K H v pg) (d : Drw H p B) (g : Gp p H H') : PgV K H' v pg := by
  obtain ⟨q, qu, qi, qr, ps, rs, rfl, h1, h2, h3, h4, h5, h6⟩ := h
  have kd : Kd K H H' := d.kd g
  refine ⟨q, qu, qi, qr, ps, rs, rfl, kd.t h1, h2.gp g ?_, kd.dpA h3, kd.t h4, kd.t h5, kd.dpA h6⟩
  obtain ⟨o, h, _⟩ := h2
  obtain ⟨_, _, _, e, _⟩ := d
  intro z
  rw [z, e] at h
  cases h
theorem cutV_at (xs : List V) (n : Nat) : cutV xs none (some (n : Int)) = xs.take n := by
  unfold cutV
  rw [HT.sIx_none, HT.sIx_nat, List.drop_zero, Nat.sub_zero]
  rcases Nat.le_total n xs.length with h | h
  · rw [Nat.min_eq_left h]
  · rw [Nat.min_eq_right h, List.take_of_length_le (Nat.le_refl _), List.take_of_length_le h]
section
variable {P : Program} {w : World} {K : PySem.W.Frag} {mg : Str → Option Value} {base : Heap}
def spProg (K : PySem.W.Frag) : Sp := fun vs H Q _ => ∃ (p : Addr) (m : Nat) (B : Int), vs = [.ref p, .int m] ∧ m ≤ 12 ∧ Drw H p B ∧ 0 ≤ B ∧ B ≤ 60000 ∧
  ∀ H' v pg, Gp p H H' → Drw H' p (B + 1100) → PgV K H' v pg → goK' pg → pg.us.length ≤ 3 → pg.rs.length ≤ 24 → Q v H'
set_option maxHeartbeats 4000000 in
theorem ok_prog {f fG fN fF fA fP fL : Addr} {fd fdG fdN fdF fdA fdP fdL : FuncData} {k : Nat} (F : Fun K "_law_program" "_law_program" sProg f fd) (DG : Has P w K mg base k "_law_digit" ["_law_state", "_law_many"] spDigit fG fdG)
    (HN : Has P w K mg base k "_law_names" ["_law_state", "_law_many"] spNamesP fN fdN) (HF : Has P w K mg base k "_law_face" ["_law_state"] (spFaceP K) fF fdF)
    (HA : Has P w K mg base k "_law_args_of" ["_law_known", "_law_inputs", "_law_wanted"] (spArgs K) fA fdA)
    (HP : Has P w K mg base k "_law_pick" ["_law_state", "_law_name", "_law_known", "_law_inputs"] (spPick K) fP fdP) (HL : Has P w K mg base k "_law_let" ["_law_state", "_law_name", "_law_use", "_law_known", "_law_inputs"] (spLet K) fL fdL)
    (mi : mg "isinstance" = none) (mt : mg "tuple" = none) (ml : mg "len" = none) (mr : mg "range" = none) :
    FnOk P w K mg base CX0 (k + 1) f fd ["_law_state", "_law_most"] (spProg K) := by
  refine F.ok scProg (fun vs H Q E h => ?_) (fun cdv A outer s H vs Q E hr h => ?_)
  · obtain ⟨p, m, B, rfl, _⟩ := h
    rfl
  · obtain ⟨p, m, B, rfl, m12, dr, B0, B9, q⟩ := h
    have nd := scProg.nd
    refine' ⟨_, pss_cons ?s1 (pss_cons ?s2 (pss_cons ?s3 (pss_cons ?s4 (pss_cons ?s5 (pss_cons ?s6 (pss_one ?s7)))))), ?rd⟩
    case s1 => exact ps_set (i := 2) nd rfl (.inl rfl) (hcall HN hr (pa_cons (pv 0) (pa_cons (pe_op op_add pe_int (hcall DG hr (pa_cons (pv 0) (pa_cons pe_int pa_nil)))) pa_nil)))
    case s2 =>
      exact ps_set (i := 3) nd rfl (.inr rfl) (pe_lc (own := [("_law_k", 13)]) (g := gName 13) rfl nd (pi_range1 (by rfl) mr (pa_cons pe_int pa_nil))
        (blkOk_by (own := [("_law_k", 13)]) (N := nProg) (sc := defScope sProg) (by decide +kernel)) (fun _ _ _ _ _ => pg_name (i := 13) nd rfl (.inl rfl)) (fun _ _ _ _ _ => pts_nil) (fun _ _ _ _ _ => hcall HF hr (pa_cons (pv 0) pa_nil)))
    case s3 =>
      exact ps_setLc (i := 4) (own := [("_law_label", 14)]) (g := gName 14) rfl nd rfl rfl (sw_true rfl rfl rfl (by decide +kernel)) (pi_list (pv 2))
        (blkOk_by (own := [("_law_label", 14)]) (N := nProg) (sc := defScope sProg) (by decide +kernel)) (fun _ _ _ _ _ => pg_name (i := 14) nd rfl (.inl rfl)) (fun _ _ _ _ _ => pts_nil)
        (fun _ _ _ _ _ => pe_tup (pa_cons (pv 14) (pa_cons (pe_ix (r := rIxL K) ix_list (pv 3) (hcall DG hr (pa_cons (pv 0) (pa_cons pe_int pa_nil))) (fun _ _ => rfl)) pa_nil)))
    case s4 =>
      exact ps_set (i := 5) nd rfl (.inl rfl) (pe_callTy call_tuple_of (by rfl) mt (by decide +kernel) (pa_cons (pe_lc (own := [("_law_k", 13)]) (g := gName 13) rfl nd (pi_range1 (by rfl) mr (pa_cons (hcall DG hr (pa_cons (pv 0) (pa_cons pe_int pa_nil))) pa_nil))
        (blkOk_by (own := [("_law_k", 13)]) (N := nProg) (sc := defScope sProg) (by decide +kernel)) (fun _ _ _ _ _ => pg_name (i := 13) nd rfl (.inl rfl)) (fun _ _ _ _ _ => pts_nil) (fun _ _ _ _ _ => pe_op op_add pe_int (hcall DG hr (pa_cons (pv 0) (pa_cons pe_int pa_nil))))) pa_nil))
    case s5 => exact ps_par (i := 6) (j := 7) rfl nd rfl rfl (by decide) rfl rfl (pa_cons (pe_lst pa_nil) (pa_cons (pe_lst pa_nil) pa_nil)) (by rfl)
    case s6 =>
      refine' ps_for PassesOwn.never rfl (pi_list (hcall HN hr (pa_cons (pv 0) (pa_cons (pv 1) pa_nil)))) (pg_name (i := 8) nd rfl (.inl rfl)) (pss_cons ?b1 (pss_cons ?b2 (pss_cons ?b3 (pss_one ?b4))))
      case b1 => exact ps_par (i := 9) (j := 10) rfl nd rfl rfl (by decide) rfl rfl (pa_cons (hcall DG hr (pa_cons (pv 0) (pa_cons pe_int pa_nil))) (pa_cons (pe_ix ix_list (pv 4) (hcall DG hr (pa_cons (pv 0) (pa_cons (pe_callB call_len_seq (by rfl) ml PySem.boot_len (pa_cons (pv 4) pa_nil)) pa_nil))) (fun _ _ => rfl)) pa_nil)) (by rfl)
      case b2 => exact ps_set (i := 11) nd rfl (.inl rfl) pe_non
      case b3 =>
        exact ps_if (pt_cmpR op_eq (pv 9) pe_int (nomark _))
          (pss_cons (ps_set (i := 12) nd rfl (.inl rfl) (hcall HA hr (pa_cons (pv 6) (pa_cons (pv 5) (pa_cons pe_int pa_nil)))))
            (pss_one (ps_expr (pe_bm PySem.F.plainAttrs_list PySem.F.slot_list_append PySem.F.type_list_append mt_append (pv 7) (pa_cons (pe_tup (pa_cons pe_str (pa_cons (pe_ix ix_list (pv 12) (hcall DG hr (pa_cons (pv 0) (pa_cons (pe_callB call_len_seq (by rfl) ml PySem.boot_len (pa_cons (pv 12) pa_nil)) pa_nil))) (fun _ _ => rfl)) pa_nil))) pa_nil)))))
          (pss_one (ps_if (pt_cmpR op_eq (pv 9) pe_int (nomark _))
            (pss_one (ps_set (i := 11) nd rfl (.inl rfl) (hcall HP hr (pa_cons (pv 0) (pa_cons (pv 8) (pa_cons (pv 6) (pa_cons (pv 5) pa_nil)))))))
            (pss_one (ps_set (i := 11) nd rfl (.inl rfl) (hcall HL hr (pa_cons (pv 0) (pa_cons (pv 8) (pa_cons (pv 10) (pa_cons (pv 6) (pa_cons (pv 5) pa_nil))))))))))
      case b4 =>
        exact ps_if (pt_cmpR op_notN (pv 11) pe_non (nomark _))
          (pss_cons (ps_expr (pe_bm PySem.F.plainAttrs_list PySem.F.slot_list_append PySem.F.type_list_append mt_append (pv 7) (pa_cons (pe_ix ix_tup (pv 11) pe_int (fun _ _ => rfl)) pa_nil)))
          (pss_cons (ps_expr (pe_bm PySem.F.plainAttrs_list PySem.F.slot_list_append PySem.F.type_list_append mt_append (pv 6) (pa_cons (pe_tup (pa_cons (pv 8) (pa_cons (pe_ix ix_tup (pv 11) pe_int (fun _ _ => rfl)) pa_nil))) pa_nil)))
          (pss_one (ps_if (PW.pt (pw_and (pt_not (pt_val (pe_callB call_isi (by rfl) mi (by decide +kernel) (pa_cons (pe_ix ix_tup (pv 11) pe_int (fun _ _ => rfl)) (pa_cons (pe_bltn (v := .ty "tuple") (by rfl) mt (by decide +kernel) rfl (by decide) (by decide)) pa_nil))))) (pw_and1 (pt_cmpR op_eq (hcall DG hr (pa_cons (pv 0) (pa_cons pe_int pa_nil))) pe_int (nomark _)))))
            (pss_one (ps_expr (pe_bm PySem.F.plainAttrs_list PySem.F.slot_list_append PySem.F.type_list_append mt_append (pv 7) (pa_cons (pe_tup (pa_cons pe_str (pa_cons (pe_tup (pa_cons pe_str (pa_cons (pv 8) pa_nil))) pa_nil))) pa_nil)))) pss_nil)))) pss_nil
    case s7 =>
      exact ps_ret (pe_tup (pa_cons (pe_callTy call_tuple_frz (by rfl) mt (by decide +kernel) (pa_cons (pv 4) pa_nil)) (pa_cons (pv 5) (pa_cons (pe_callTy call_tuple_of (by rfl) mt (by decide +kernel) (pa_cons (pe_slice sl_list (pv 7) po_none (po_some pe_int)) pa_nil)) pa_nil))))
    case rd =>
    have gH : ∀ {H' : Hp} {q : Addr}, Gp p H H' → q ≠ p → H' q = none → H q = none := fun g n h => g.back _ n h
    -- labels
    refine ⟨_, rfl, _, rfl, p, 3, _, rfl, dr, by omega, by decide, by decide, fun H1 d b1 dr1 z0 z3 => ⟨1, d, rfl, rfl, ?_⟩⟩
    have c1 : (1 : Int) + d = (((1 + d).toNat : Nat) : Int) := by omega
    refine ⟨p, (1 + d).toNat, _, (by show [V.ref p, V.int (1 + d)] = [V.ref p, V.int (((1 + d).toNat : Nat) : Int)]; rw [← c1]), by omega, dr1, by omega, by omega, fun H2 ll lbs g2 dr2 nll ell lll ndl nml => ?_⟩
    have llp := dr1.ne nll
    have gp2 : Gp p H H2 := (Gp.but b1).trans g2
    have dr2 : Drw H2 p (B + 31) := dr2.mono (by omega)
    have lb1 : 1 ≤ lbs.length := by omega
    have lb3 : lbs.length ≤ 3 := by omega
    clear g2 b1 dr1 nll lll c1
    -- faces
    refine ⟨_, rfl, by decide, by decide, fun D nD => lc_it (walk_range (lo := 0) (n := (2 : Int).toNat)) (fun j S => ∃ (fs : List Fc) (xs : List V), S D = some (.lst xs) ∧ DpAll K S xs (fs.map Fc.d) ∧ fs.length = j ∧ (∀ f ∈ fs, goF f) ∧ Gp p H2 S ∧ Drw S p (B + 31 + 300 * (j : Nat)))
      ⟨[], [], upd_same, .nil, rfl, by simp, Gp.gr (Gr.new nD), (dr2.new nD).mono (by omega)⟩ (fun _ _ _ _ => trivial) ?f1 ?f2⟩
    case f1 =>
      rintro j x S S' hj ⟨fs, xs, eD, da, lf, gf, g, d⟩ ⟨rfl, rfl⟩
      have hj2 : j < 2 := hj
      have nDp : D ≠ p := dr2.ne nD
      refine ⟨rfl, tYes_i (iteT ⟨_, rfl, p, _, rfl, d, by omega, by omega, fun S2 v f g2 d2 dv gof => ?_⟩)⟩
      have lx : xs.length = fs.length := by
        have := dpA_len da
        rw [List.length_map] at this
        exact this
      refine ⟨xs, g2.lst nDp eD, small1000 (by omega), fs ++ [f], xs ++ [v], upd_same, put_dp noL_fc (g2.lst nDp eD) ((d.kd (K := K) g2).dpA da) dv, ?_, ?_, (g.trans g2).upd_new nD, (d2.upd nDp).mono (by omega)⟩
      · rw [List.length_append, lf]
        rfl
      · intro f' hf
        rcases List.mem_append.mp hf with h | h
        · exact gf f' h
        · rw [List.mem_singleton.mp h]
          exact gof
    case f2 =>
    rintro H3 ⟨fs, xf, ef, df, lf, gf, g3, dr3⟩
    have lf2 : fs.length = 2 := lf
    have lxf : xf.length = 2 := by
      have := dpA_len df
      rw [List.length_map] at this
      omega
    have flp : D ≠ p := dr2.ne nD
    have dr3 : Drw H3 p (B + 631) := dr3.mono (by show B + 31 + 300 * (2 : Int) ≤ B + 631; omega)
    have el3 := g3.lst llp ell
    have gp3 := gp2.trans g3
    clear g3 gp2 dr2 ell lf nD
    -- uses
    refine ⟨_, rfl, ll, rfl, ⟨_, .inl (.inl el3)⟩, fun ul nul => lc_it (walk_list (xs := lbs.map V.str)) (fun j S => ∃ (us : List Us) (ps : List Addr), S ul = some (.lst (ps.map V.ref)) ∧ DpAll K S (ps.map V.ref) (us.map Us.d) ∧ us.map Us.lb = lbs.take j ∧ (∀ u ∈ us, goF u.fc) ∧ Gp p H3 S ∧ Drw S p (B + 631 + (j : Nat)))
      ⟨[], [], upd_same, .nil, rfl, by simp, Gp.gr (Gr.new nul), (dr3.new nul).mono (by omega)⟩ ?u0 ?u1 ?u2⟩
    case u0 =>
      rintro j S hj ⟨us, ps, eu, du, nu, gu, g, d⟩
      exact .inl (.inl (g.lst llp el3))
    case u1 =>
      rintro j x S S' hj ⟨us, ps, eu, du, nu, gu, g, d⟩ ⟨rfl, hx⟩
      have ulp : ul ≠ p := dr3.ne nul
      rw [List.length_map] at hj
      rw [List.getElem?_map] at hx
      obtain ⟨lb, hlb, rfl⟩ := Option.map_eq_some_iff.mp hx
      refine ⟨rfl, tYes_i (iteT ⟨_, rfl, _, rfl, _, rfl, p, 2, _, rfl, d, by omega, by decide, by decide, fun S2 x2 b2 d2 w0 w2 => ?_⟩)⟩
      have g2 : Gp p H3 S2 := g.trans (Gp.but b2)
      have kd2 : Kd K H3 S2 := dr3.kd g2
      have hj2 : x2.toNat < fs.length := by omega
      have hf2 : fs[x2.toNat]? = some fs[x2.toNat] := List.getElem?_eq_getElem hj2
      generalize fs[x2.toNat] = f2 at hf2
      obtain ⟨v2, hv2, dv2⟩ := dpA_get (kd2.dpA df) (i := x2.toNat) (d := f2.d) (by rw [List.getElem?_map, hf2]; rfl)
      refine ⟨D, xf, x2, v2, rfl, rfl, .inl (.inl (g2.lst flp ef)), by rw [← Int.toNat_of_nonneg w0]; exact atI_nat hv2, by show 2 ≤ sizeLine; decide, fun T nT => ?_⟩
      have k3 : Gr S2 (upd S2 T (.tup [.str lb, v2])) := Gr.new nT
      have e3 : upd S2 T (.tup [.str lb, v2]) T = some (.tup [.str lb, v2]) := upd_same
      have lp : ps.length = us.length := by
        have := dpA_len du
        rw [List.length_map, List.length_map] at this
        exact this
      have lu := congrArg List.length nu
      rw [List.length_map, List.length_take] at lu
      have eu3 := k3.lst ((b2 ul ulp).trans eu)
      refine ⟨ps.map V.ref, eu3, by rw [List.length_map]; exact small1000 (by omega), us ++ [⟨lb, f2⟩], ps ++ [T], ?_, ?_, ?_, ?_, (g2.trans (Gp.gr k3)).upd_new nul, ((d2.gr k3).upd ulp).mono (by omega)⟩
      · rw [upd_same, List.map_append]
        rfl
      · rw [List.map_append (f := V.ref)]
        exact put_dp noL_use eu3 (k3.kd.dpA ((d.kd (K := K) (Gp.but b2)).dpA du)) (dp_pair e3 (.str _) (k3.kd.dp dv2))
      · rw [List.map_append, nu, List.take_add_one, hlb]
        rfl
      · intro u hu
        rcases List.mem_append.mp hu with h | h
        · exact gu u h
        · rw [List.mem_singleton.mp h]
          exact gf f2 (List.mem_of_getElem? hf2)
    case u2 =>
    rintro H4 ⟨us, ps, eu, du, nu, gu, g4, dr4⟩
    rw [List.length_map, List.take_length] at nu
    have ulp : ul ≠ p := dr3.ne nul
    have lus : us.length = lbs.length := by rw [← nu, List.length_map]
    have lps : ps.length = us.length := by
      have := dpA_len du
      rw [List.length_map, List.length_map] at this
      exact this
    have dr4 : Drw H4 p (B + 640) := dr4.mono (by rw [List.length_map]; omega)
    have gp4 := gp3.trans g4
    clear g4 gp3 dr3 ef df gf lxf el3 nul lf2
    -- inputs
    refine ⟨_, rfl, p, 3, _, rfl, dr4, by omega, by decide, by decide, fun H5 x5 b5 dr5 w0 w3 => ⟨_, rfl, by omega, by omega, fun D5 nD5 => lc_it (walk_range (lo := 0) (n := x5.toNat)) (fun j S => ∃ is : List Int, S D5 = some (.lst (is.map V.int)) ∧ is.length = j ∧ (∀ i ∈ is, 2 ≤ i ∧ i ≤ 9) ∧ Gp p H5 S ∧ Drw S p (B + 641 + (j : Nat)))
      ⟨[], upd_same, rfl, by simp, Gp.gr (Gr.new nD5), (dr5.new nD5).mono (by omega)⟩ (fun _ _ _ _ => trivial) ?i1 ?i2⟩⟩
    case i1 =>
      rintro j x S S' hj ⟨is, eD, li, gi, g, d⟩ ⟨rfl, rfl⟩
      have nDp : D5 ≠ p := dr5.ne nD5
      refine ⟨rfl, tYes_i (iteT ⟨_, rfl, p, 2, _, rfl, d, by omega, by decide, by decide, fun S2 x2 b2 d2 v0 v2 => ⟨2, x2, rfl, rfl, is.map V.int, (b2 D5 nDp).trans eD, by rw [List.length_map]; exact small1000 (by omega), is ++ [2 + x2], ?_, ?_, ?_, (g.trans (Gp.but b2)).upd_new nD5, (d2.upd nDp).mono (by omega)⟩⟩)⟩
      · rw [upd_same, List.map_append]
        rfl
      · rw [List.length_append, li]
        rfl
      · intro i hi
        rcases List.mem_append.mp hi with h | h
        · exact gi i h
        · rw [List.mem_singleton.mp h]
          omega
    case i2 =>
    rintro S5 ⟨is, eD, li, gi, g5, d5⟩
    refine ⟨D5, _, rfl, .inl ⟨.inl (.inl eD), fun qi nqi => ?_⟩⟩
    have k6 : Gr S5 (upd S5 qi (.tup (is.map V.int))) := Gr.new nqi
    have eqi : upd S5 qi (.tup (is.map V.int)) qi = some (.tup (is.map V.int)) := upd_same
    have g46 : Gp p H4 (upd S5 qi (.tup (is.map V.int))) := ((Gp.but b5).trans g5).trans (Gp.gr k6)
    have dr6 : Drw (upd S5 qi (.tup (is.map V.int))) p (B + 650) := (d5.gr k6).mono (by omega)
    generalize upd S5 qi (.tup (is.map V.int)) = H6 at k6 eqi g46 dr6 ⊢
    have i3 : is.length ≤ 3 := by omega
    have kd46 : Kd K H4 H6 := dr4.kd g46
    have eu6 := g46.lst ulp eu
    have du6 := kd46.dpA du
    have gp6 := gp4.trans g46
    clear k6 g5 d5 b5 dr5 kd46 g46 gp4 dr4 eD nqi nD5 eu du li
    -- what is known, rows
    refine ⟨Nat.zero_le _, fun kl nkl => ?_⟩
    have k7 : Gr H6 (upd H6 kl (.lst [])) := Gr.new nkl
    have e7 : upd H6 kl (.lst []) kl = some (.lst []) := upd_same
    have ukl : ul ≠ kl := ne_of_none eu6 nkl
    have klp : kl ≠ p := dr6.ne nkl
    have nklH := gH gp6 klp nkl
    generalize upd H6 kl (.lst []) = H7 at k7 e7 ⊢
    refine ⟨Nat.zero_le _, fun rl nrl => ⟨_, _, rfl, ?_⟩⟩
    have k8 : Gr H7 (upd H7 rl (.lst [])) := Gr.new nrl
    have e8 : upd H7 rl (.lst []) rl = some (.lst []) := upd_same
    have krl : kl ≠ rl := ne_of_none e7 nrl
    have k78 := k7.trans k8
    have url : ul ≠ rl := ne_of_none (k7.lst eu6) nrl
    have rlp : rl ≠ p := (dr6.gr k7).ne nrl
    have nrlH := gH (gp6.trans (Gp.gr k7)) rlp nrl
    have e78 := k8.lst e7
    generalize upd H7 rl (.lst []) = H8 at k8 e8 k78 e78 ⊢
    have gp8 := gp6.trans (Gp.gr k78)
    have dr8 := dr6.gr k78
    have eu8 := k78.lst eu6
    have du8 := k78.kd.dpA du6
    have eqi8 : SqT K H8 qi (is.map V.int) := .inl (.inl (k78.tup eqi))
    clear k7 k8 k78 gp6 dr6 eu6 du6 eqi e7 nkl nrl
    -- names
    refine ⟨_, rfl, _, rfl, p, m, _, rfl, by omega, dr8, by omega, by omega, fun H9 nl ns g9 dr9 nnl enl lns ndn nmn => ?_⟩
    have nlp := dr8.ne nnl
    have nkn : kl ≠ nl := ne_of_none e78 nnl
    have nrn : rl ≠ nl := ne_of_none e8 nnl
    have kd9 : Kd K H8 H9 := dr8.kd g9
    refine ⟨nl, rfl, ⟨_, .inl (.inl enl)⟩, for_it (walk_list (xs := ns.map V.str)) (fun i σ S => ∃ (e : En) (rs : List Ro) (xk xr : List V) (y8 y9 y10 y11 y12 : Option V), σ = [some (.ref p), some (.int m), some (.ref ll), some (.ref D), some (.ref ul), some (.ref qi), some (.ref kl), some (.ref rl), y8, y9, y10, y11, y12, none, none] ∧
      S kl = some (.lst xk) ∧ DpAll K S xk (e.map kpD) ∧ S rl = some (.lst xr) ∧ DpAll K S xr (rs.map Ro.d) ∧ Run us is rs e ∧ KnOk e ∧ (∀ r ∈ rs, goR r) ∧ rs.length ≤ 2 * i ∧ e.length ≤ i ∧ (∀ z ∈ e.map Prod.fst, z ∈ ns.take i) ∧ (e.map Prod.fst).Nodup ∧ Gp p H S ∧ S nl = some (.lst (ns.map V.str)) ∧ S ul = some (.lst (ps.map V.ref)) ∧
      DpAll K S (ps.map V.ref) (us.map Us.d) ∧ SqT K S qi (is.map V.int) ∧ Drw S p (B + 800 + 20 * (i : Nat)))
      ⟨[], [], [], [], none, none, none, none, none, rfl, g9.lst klp e78, .nil, g9.lst rlp e8, .nil, .nil, (by intro p h; cases h), (by intro r h; cases h), Nat.zero_le _, Nat.zero_le _, (by intro z h; cases h), List.nodup_nil, gp8.trans g9, enl, g9.lst ulp eu8, kd9.dpA du8, kd9.t eqi8, dr9.mono (by omega)⟩ ?w1 ?w2 ?w3⟩
    case w1 =>
      rintro i σ S hi ⟨e, rs, xk, xr, y8, y9, y10, y11, y12, rfl, _, _, _, _, _, _, _, _, _, _, _, _, en, _⟩
      exact .inl (.inl en)
    case w3 =>
      rintro σ S ⟨e, rs, xk, xr, y8, y9, y10, y11, y12, rfl, ek, dk, er, dR, run, ke, gr, lr, le, sub, nde, g, en, euS, duS, qiS, d⟩
      rw [List.length_map] at lr d
      have lxr : xr.length = rs.length := by
        have := dpA_len dR
        rw [List.length_map] at this
        exact this
      refine ⟨_, rfl, ul, _, rfl, .inl (.inl euS), fun tu S1 k1 ntu bu => ?_⟩
      refine ⟨_, rfl, _, rfl, 30, rfl, rl, _, rfl, .inl (.inl (k1.lst er)), fun pl npl => ?_⟩
      have ex : cutV xr none (some 30) = xr := by
        rw [show (30 : Int) = ((30 : Nat) : Int) from rfl, cutV_at, List.take_of_length_le (by omega)]
      rw [ex]
      have k2 : Gr S1 (upd S1 pl (.lst xr)) := Gr.new npl
      have e2 : upd S1 pl (.lst xr) pl = some (.lst xr) := upd_same
      generalize upd S1 pl (.lst xr) = S2 at k2 e2 ⊢
      refine ⟨pl, _, rfl, .inl ⟨.inl (.inl e2), fun tr ntr => ?_⟩⟩
      have k3 : Gr S2 (upd S2 tr (.tup xr)) := Gr.new ntr
      have e3 : upd S2 tr (.tup xr) tr = some (.tup xr) := upd_same
      generalize upd S2 tr (.tup xr) = S3 at k3 e3 ⊢
      refine ⟨by show 3 ≤ sizeLine; decide, fun tt ntt => ?_⟩
      have k4 : Gr S3 (upd S3 tt (.tup [.ref tu, .ref qi, .ref tr])) := Gr.new ntt
      have kA := k1.trans (k2.trans (k3.trans k4))
      have kB := k2.trans (k3.trans k4)
      obtain ⟨es, h0, h1, h2, _⟩ := run.es
      refine q _ (.ref tt) ⟨us, is, rs⟩ (g.trans (Gp.gr kA)) ((d.gr kA).mono (by omega)) ⟨tt, tu, qi, tr, ps, xr, rfl, SqT.of upd_same, bu.gr kB, kA.kd.dpA duS, kA.sqt qiS, SqT.of (k4.tup e3), kA.kd.dpA dR⟩ ?_ (by show us.length ≤ 3; omega) (by show rs.length ≤ 24; omega)
      refine ⟨⟨by show 1 ≤ us.length; omega, by show us.length ≤ 4; omega, fun u hu => ⟨nml _ (by rw [← nu]; exact List.mem_map_of_mem hu), gu u hu⟩, i3, gi, by show rs.length ≤ 30; omega, gr⟩, by show (us.map Us.lb).Nodup; rw [nu]; exact ndl, es, h0, h1, h2⟩
    case w2 =>
      rintro i x σ S S' hi ⟨e, rs, xk, xr, y8, y9, y10, y11, y12, rfl, ek, dk, er, dR, run, ke, gr, lr, le, sub, nde, g, en, euS, duS, qiS, d⟩ ⟨rfl, hx⟩
      rw [List.length_map] at hi
      have hx2 : (ns.map V.str)[i]? = some x := hx
      rw [List.getElem?_map] at hx2
      obtain ⟨nm, hnm, rfl⟩ := Option.map_eq_some_iff.mp hx2
      have inm := nmn nm (List.mem_of_getElem? hnm)
      have fresh : nm ∉ e.map Prod.fst := by
        intro c
        obtain ⟨i', hi'⟩ := List.getElem?_of_mem (sub nm c)
        have lt' : i' < i := by
          have := lt_of_at hi'
          rw [List.length_take] at this
          omega
        rw [List.getElem?_take_of_lt lt'] at hi'
        obtain ⟨l1, q1⟩ := List.getElem?_eq_some_iff.mp hi'
        obtain ⟨l2, q2⟩ := List.getElem?_eq_some_iff.mp hnm
        exact List.pairwise_iff_getElem.mp ndn i' i l1 l2 lt' (q1.trans q2.symm)
      have hnone := lkp_none fresh
      have i12 : i < 12 := by omega
      -- way, use
      refine ⟨_, rfl, p, 7, _, rfl, d, by omega, by decide, by decide, fun S1 x1 b1 d1 v0 v7 => ?_⟩
      have eu1 := (b1 ul ulp).trans euS
      have lp1 : (ps.map V.ref).length = us.length := by rw [List.length_map, lps]
      refine ⟨_, rfl, _, rfl, _, rfl, ul, _, rfl, .inl (.inl (.inl eu1)), p, _, _, rfl, d1, by omega, by omega, by omega, fun S2 x2 b2 d2 w0 w1 => ?_⟩
      have gS2 : Gp p S' S2 := (Gp.but b1).trans (Gp.but b2)
      have kd2 : Kd K S' S2 := d.kd gS2
      have hj2 : x2.toNat < us.length := by omega
      have hu2 : us[x2.toNat]? = some us[x2.toNat] := List.getElem?_eq_getElem hj2
      generalize us[x2.toNat] = u2 at hu2
      have mu2 := List.mem_of_getElem? hu2
      have du2 := kd2.dpA duS
      obtain ⟨v2, hv2, dv2⟩ := dpA_get du2 (i := x2.toNat) (d := u2.d) (by rw [List.getElem?_map, hu2]; rfl)
      have eu2 := (b2 ul ulp).trans eu1
      refine ⟨ul, _, x2, v2, rfl, rfl, .inl (.inl eu2), by rw [← Int.toNat_of_nonneg w0]; exact atI_nat hv2, _, _, rfl, ?_⟩
      have ek2 := gS2.lst klp ek
      have er2 := gS2.lst rlp er
      have en2 := gS2.lst nlp en
      have dk2 := kd2.dpA dk
      have dR2 := kd2.dpA dR
      have qi2 := kd2.t qiS
      have g2 := g.trans gS2
      have d2 : Drw S2 p (B + 800 + 20 * (i : Nat) + 2) := d2.mono (by omega)
      have lR : xr.length = rs.length := by
        have := dpA_len dR
        rw [List.length_map] at this
        exact this
      have lK : xk.length = e.length := by
        have := dpA_len dk
        rw [List.length_map] at this
        exact this
      clear dk dR qiS duS eu1 b1 b2 d1 hv2 hu2 gS2 kd2 ek er en euS d g
      dsimp only
      refine seq_go ?_
      show gName 11 V.non _ _ _
      refine gname_go ?_
      dsimp only
      refine seq_go ?_
      refine viaT (t := tIfS _ _ _) (fun σ T => ∃ (rs' : List Ro) (xr' : List V) (fv : V) (y12 : Option V), σ = [some (.ref p), some (.int m), some (.ref ll), some (.ref D), some (.ref ul), some (.ref qi), some (.ref kl), some (.ref rl), some (.str nm), some (.int x1), some v2, some fv, y12, none, none] ∧
        T kl = some (.lst xk) ∧ T rl = some (.lst xr') ∧ DpAll K T xr' (rs'.map Ro.d) ∧ Run us is rs' e ∧ (∀ r ∈ rs', goR r) ∧ rs'.length ≤ 2 * i + 1 ∧ Gp p H T ∧ Kt K S2 T ∧ T nl = some (.lst (ns.map V.str)) ∧ T ul = some (.lst (ps.map V.ref)) ∧ Drw T p (B + 800 + 20 * (i : Nat) + 15) ∧
        (fv = .non ∨ ∃ (t : Addr) (r : Ro) (k : Ki) (z1 z2 : V), fv = .ref t ∧ rs' = rs ∧ T t = some (.tup [z1, z2]) ∧ Dp K T z1 r.d ∧ Dp K T z2 k.d ∧ goR r ∧ goKi k ∧ StepOk us is e r (e ++ [(nm, k)]))) ?va ?vb
      case va =>
        intro U' ur un
        have keep : ∀ {T : Hp}, Gp p S2 T → T kl = some (.lst xk) ∧ T rl = some (.lst xr) ∧ DpAll K T xr (rs.map Ro.d) ∧ Gp p H T ∧ Kt K S2 T ∧ T nl = some (.lst (ns.map V.str)) ∧ T ul = some (.lst (ps.map V.ref)) := fun gT =>
          ⟨gT.lst klp ek2, gT.lst rlp er2, (d2.kd gT).dpA dR2, g2.trans gT, (d2.kd gT).kt, gT.lst nlp en2, gT.lst ulp eu2⟩
        have e30 : e.length ≤ 30 := by omega
        by_cases c0 : x1 = 0
        · subst c0
          refine ⟨_, rfl, rfl, _, rfl, ?_⟩
          rw [decide_eq_true rfl]
          refine iteT ⟨_, rfl, _, rfl, kl, qi, xk, e, is, .w 9, .int 9, rfl, ek2, dk2, ke, e30, qi2, i3, .int 9, ⟨by decide, by decide⟩, fun T1 l1 ls1 g1 nl1 el1 dl1 => ?_⟩
          have gA1 := argsOf_go (e := e) (is := is) (k := .w 9) ke i3 ⟨by decide, by decide⟩
          have fA1 := fit_w (e := e) (is := is) (n := 9) nde
          have nA1 := argsOf_ne (e := e) (is := is) (a := .u 8) (k := .w 9) rfl ⟨by decide, by decide⟩
          have lA1 := argsOf_len (e := e) (is := is) (k := .w 9) e30 i3 ⟨by decide, by decide⟩
          generalize argsOf e is (.w 9) = A1 at gA1 fA1 dl1 nA1 lA1
          have p1 : 0 < A1.length := List.length_pos_iff.mpr nA1
          have lsl : ls1.length = A1.length := by
            have := dpA_len dl1
            rw [List.length_map] at this
            exact this
          have d3 := d2.gr g1
          refine ⟨_, rfl, .inl ⟨rfl, _, .inl (.inl (g1.lst er2))⟩, _, rfl, _, rfl, _, rfl, l1, _, rfl, .inl (.inl (.inl el1)), p, _, _, rfl, d3, by omega, by omega, by omega, fun T2 x5 b5 d5 w0' w1' => ?_⟩
          have hj5 : x5.toNat < A1.length := by omega
          have ha5 : A1[x5.toNat]? = some A1[x5.toNat] := List.getElem?_eq_getElem hj5
          generalize A1[x5.toNat] = a5 at ha5
          have m5 := List.mem_of_getElem? ha5
          have g5 : Gp p S2 T2 := (Gp.gr g1).trans (Gp.but b5)
          have kd5 : Kd K T1 T2 := d3.kd (Gp.but b5)
          obtain ⟨v5, hv5, dv5⟩ := dpA_get (kd5.dpA dl1) (i := x5.toNat) (d := a5.d) (by rw [List.getElem?_map, ha5]; rfl)
          refine ⟨l1, ls1, x5, v5, rfl, rfl, .inl (.inl ((b5 l1 (d3.l_ne el1)).trans el1)), by rw [← Int.toNat_of_nonneg w0']; exact atI_nat hv5, ?_⟩
          refine ⟨by show 2 ≤ sizeLine; decide, fun tr ntr => ?_⟩
          have k6 : Gr T2 (upd T2 tr (.tup [.str "say", v5])) := Gr.new ntr
          have e6 : upd T2 tr (.tup [.str "say", v5]) tr = some (.tup [.str "say", v5]) := upd_same
          generalize upd T2 tr (.tup [.str "say", v5]) = T3 at k6 e6 ⊢
          have g6 := g5.trans (Gp.gr k6)
          obtain ⟨a1, a2, a3, a4, a5', a6, a7⟩ := keep g6
          refine ⟨rl, _, _, rfl, rfl, a2, by rw [lR]; exact small1000 (by omega), ?_⟩
          obtain ⟨n5, f5, _⟩ := fA1 a5 m5
          have kt : Kt K T3 (upd T3 rl (.lst (xr ++ [.ref tr]))) := kt_lst a2
          refine un _ _ ⟨rs ++ [.s a5], xr ++ [.ref tr], .non, _, rfl, ?_, upd_same, put_dp noL_ro a2 a3 (dp_pair e6 (.str _) (k6.kd.dp dv5)), Run.snoc (r := .s a5) run ⟨⟨n5, f5⟩, rfl⟩ (by omega), ?_, ?_, a4.upd_new nrlH, a5'.trans kt, ?_, ?_, ((d5.gr k6).upd rlp).mono (by omega), .inl rfl⟩
          · rw [upd_ne krl]
            exact a1
          · intro r hr
            rcases List.mem_append.mp hr with h | h
            · exact gr r h
            · rw [List.mem_singleton.mp h]
              exact gA1 a5 m5
          · rw [List.length_append, List.length_singleton]
            omega
          · rw [upd_ne (Ne.symm nrn)]
            exact a6
          · rw [upd_ne url]
            exact a7
        · refine ⟨_, rfl, rfl, _, rfl, ?_⟩
          rw [decide_eq_false (fun z => c0 (V.int.inj z))]
          refine iteF ⟨_, rfl, rfl, _, rfl, ?_⟩
          by_cases c1 : x1 = 1
          · subst c1
            rw [decide_eq_true rfl]
            refine iteT ⟨_, rfl, _, rfl, _, rfl, _, rfl, p, kl, qi, nm, xk, e, is, _, rfl, d2, by omega, by omega, inm, ek2, dk2, ke, e30, nde, qi2, i3, fun T t r k z1 z2 gT dT eT h1 h2 gor gok st => ?_⟩
            obtain ⟨a1, a2, a3, a4, a5, a6, a7⟩ := keep gT
            exact un _ _ ⟨rs, xr, .ref t, _, rfl, a1, a2, a3, run, gr, by omega, a4, a5, a6, a7, dT.mono (by omega), .inr ⟨t, r, k, z1, z2, rfl, rfl, eT, h1, h2, gor, gok, st hnone us⟩⟩
          · rw [decide_eq_false (fun z => c1 (V.int.inj z))]
            refine iteF ⟨_, rfl, _, rfl, _, rfl, _, rfl, _, rfl, p, kl, qi, nm, v2, xk, u2, e, is, _, rfl, d2, by omega, by omega, inm, dv2, nml _ ?_, gu u2 mu2, ek2, dk2, ke, e30, nde, qi2, i3, fun T gT dT => ?_, fun T t r k z1 z2 gT dT eT h1 h2 gor gok st => ?_⟩
            · rw [← nu]
              exact List.mem_map_of_mem mu2
            · obtain ⟨a1, a2, a3, a4, a5, a6, a7⟩ := keep gT
              exact un _ _ ⟨rs, xr, .non, _, rfl, a1, a2, a3, run, gr, by omega, a4, a5, a6, a7, dT.mono (by omega), .inl rfl⟩
            · obtain ⟨a1, a2, a3, a4, a5, a6, a7⟩ := keep gT
              exact un _ _ ⟨rs, xr, .ref t, _, rfl, a1, a2, a3, run, gr, by omega, a4, a5, a6, a7, dT.mono (by omega), .inr ⟨t, r, k, z1, z2, rfl, rfl, eT, h1, h2, gor, gok, st hnone us mu2⟩⟩
      case vb =>
      rintro σ T ⟨rs', xr', fv, y12', rfl, ek3, er3, dR3, run3, gr3, lr3, g3, kt3, en3, eu3, d3, hor⟩
      have sub' : ∀ z ∈ e.map Prod.fst, z ∈ ns.take (i + 1) := fun z hz => by
        rw [List.take_add_one]
        exact List.mem_append_left _ (sub z hz)
      have dk3 : DpAll K T xk (e.map kpD) := kt3.dpA dk2 (noLA_map _ noL_kp _)
      have du3 : DpAll K T (ps.map V.ref) (us.map Us.d) := kt3.dpA du2 (noLA_map _ noL_use _)
      have qi3 := kt3 qi2
      rcases hor with rfl | ⟨t, r, k, z1, z2, rfl, rfl, eT, h1, h2, gor, gok, st⟩
      · exact ⟨_, rfl, rfl, _, rfl, iteF ⟨e, rs', xk, xr', _, _, _, _, _, rfl, ek3, dk3, er3, dR3, run3, ke, gr3, by omega, by omega, sub', nde, g3, en3, eu3, du3, qi3, d3.mono (by omega)⟩⟩
      · have at0 : atI [z1, z2] 0 = some z1 := rfl
        have at1 : atI [z1, z2] 1 = some z2 := rfl
        have lR3 : xr'.length = rs'.length := by
          have := dpA_len dR3
          rw [List.length_map] at this
          exact this
        have gp3 : isN nm = true ∧ goKi k := ⟨inm, gok⟩
        refine ⟨_, rfl, rfl, _, rfl, iteT ⟨_, rfl, .inl ⟨rfl, _, .inl (.inl er3)⟩, _, rfl, t, _, 0, z1, rfl, rfl, .inl (.inl eT), at0, rl, _, _, rfl, rfl, er3, small1000 (by omega), ?_⟩⟩
        have kt4 : Kt K T (upd T rl (.lst (xr' ++ [z1]))) := kt_lst er3
        have dR4 : DpAll K (upd T rl (.lst (xr' ++ [z1]))) (xr' ++ [z1]) ((rs' ++ [r]).map Ro.d) := put_dp noL_ro er3 dR3 h1
        have er4 : upd T rl (.lst (xr' ++ [z1])) rl = some (.lst (xr' ++ [z1])) := upd_same
        have ek4 : upd T rl (.lst (xr' ++ [z1])) kl = some (.lst xk) := (upd_ne krl).trans ek3
        have en4 : upd T rl (.lst (xr' ++ [z1])) nl = some (.lst (ns.map V.str)) := (upd_ne (Ne.symm nrn)).trans en3
        have eu4 : upd T rl (.lst (xr' ++ [z1])) ul = some (.lst (ps.map V.ref)) := (upd_ne url).trans eu3
        have g4 := g3.upd_new (o := .lst (xr' ++ [z1])) nrlH
        have d4 := d3.upd (o := .lst (xr' ++ [z1])) rlp
        generalize upd T rl (.lst (xr' ++ [z1])) = T4 at kt4 dR4 er4 ek4 en4 eu4 g4 d4 ⊢
        have qT4 : SqT K T4 t [z1, z2] := kt4 (.inl (.inl eT))
        refine ⟨_, rfl, .inl ⟨rfl, _, .inl (.inl ek4)⟩, _, rfl, _, rfl, t, _, 1, z2, rfl, rfl, qT4, at1, by show 2 ≤ sizeLine; decide, fun tk ntk => ?_⟩
        have k5 : Gr T4 (upd T4 tk (.tup [.str nm, z2])) := Gr.new ntk
        have e5 : upd T4 tk (.tup [.str nm, z2]) tk = some (.tup [.str nm, z2]) := upd_same
        generalize upd T4 tk (.tup [.str nm, z2]) = T5 at k5 e5 ⊢
        have ek5 := k5.lst ek4
        refine ⟨kl, _, _, rfl, rfl, ek5, by rw [lK]; exact small1000 (by omega), ?_⟩
        have kt6 : Kt K T5 (upd T5 kl (.lst (xk ++ [.ref tk]))) := kt_lst ek5
        have kt46 : Kt K T (upd T5 kl (.lst (xk ++ [.ref tk]))) := Kt.trans (Kt.trans kt4 k5.kd.kt) kt6
        have hz2 : Dp K T5 z2 k.d := k5.kd.dp (kt4.dp h2 (noL_ki k))
        have dk6 : DpAll K (upd T5 kl (.lst (xk ++ [.ref tk]))) (xk ++ [.ref tk]) ((e ++ [(nm, k)]).map kpD) := put_dp noL_kp ek5 (k5.kd.dpA (kt4.dpA dk3 (noLA_map _ noL_kp _))) (dp_pair e5 (.str _) hz2)
        have dz6 : Dp K (upd T5 kl (.lst (xk ++ [.ref tk]))) z2 k.d := kt6.dp hz2 (noL_ki k)
        have dR6 : DpAll K (upd T5 kl (.lst (xk ++ [.ref tk]))) (xr' ++ [z1]) ((rs' ++ [r]).map Ro.d) := kt6.dpA (k5.kd.dpA dR4) (noLA_map _ noL_ro _)
        have du6 := kt46.dpA du3 (noLA_map _ noL_use _)
        have qi6 := kt46 qi3
        have qT6 := kt6 (k5.sqt qT4)
        have ek6 : upd T5 kl (.lst (xk ++ [.ref tk])) kl = some (.lst (xk ++ [.ref tk])) := upd_same
        have er6 : upd T5 kl (.lst (xk ++ [.ref tk])) rl = some (.lst (xr' ++ [z1])) := (upd_ne (Ne.symm krl)).trans (k5.lst er4)
        have en6 : upd T5 kl (.lst (xk ++ [.ref tk])) nl = some (.lst (ns.map V.str)) := (upd_ne (Ne.symm nkn)).trans (k5.lst en4)
        have eu6 : upd T5 kl (.lst (xk ++ [.ref tk])) ul = some (.lst (ps.map V.ref)) := (upd_ne ukl).trans (k5.lst eu4)
        have g6 := (g4.trans (Gp.gr k5)).upd_new (o := .lst (xk ++ [.ref tk])) nklH
        have d6 := (d4.gr k5).upd (o := .lst (xk ++ [.ref tk])) klp
        generalize upd T5 kl (.lst (xk ++ [.ref tk])) = T6 at dk6 dz6 dR6 du6 qi6 qT6 ek6 er6 en6 eu6 g6 d6 ⊢
        clear kt6 kt46 hz2 k5 e5 ek5 kt4 dR4 er4 ek4 en4 eu4 g4 d4 qT4 ntk dk3 du3 qi3 ek3 er3 dR3 en3 eu3 eT h1 h2 g3 d3 kt3
        have run6 := run3.snoc st (by rw [List.length_append]; exact Nat.le_refl _)
        have ke6 : KnOk (e ++ [(nm, k)]) := by
          intro q hq
          rcases List.mem_append.mp hq with h | h
          · exact ke q h
          · rw [List.mem_singleton.mp h]
            exact gp3
        have nde6 : ((e ++ [(nm, k)]).map Prod.fst).Nodup := by
          rw [List.map_append, List.nodup_append]
          refine ⟨nde, by simp, ?_⟩
          intro a ha b hb
          have : b = nm := by simpa using hb
          rw [this]
          exact fun z => fresh (z ▸ ha)
        have sub6 : ∀ z ∈ (e ++ [(nm, k)]).map Prod.fst, z ∈ ns.take (i + 1) := by
          intro z hz
          rw [List.map_append] at hz
          rcases List.mem_append.mp hz with h | h
          · exact sub' z h
          · have : z = nm := by simpa using h
            rw [this, List.take_add_one, hnm]
            exact List.mem_append_right _ (by simp)
        have gr6 : ∀ r' ∈ rs' ++ [r], goR r' := by
          intro r' hr'
          rcases List.mem_append.mp hr' with h | h
          · exact gr3 r' h
          · rw [List.mem_singleton.mp h]
            exact gor
        have le6 : (e ++ [(nm, k)]).length ≤ i + 1 := by
          rw [List.length_append, List.length_singleton]
          omega
        have lr6 : (rs' ++ [r]).length ≤ 2 * i + 1 := by
          rw [List.length_append, List.length_singleton]
          omega
        have lR6 : (xr' ++ [z1]).length = (rs' ++ [r]).length := by
          rw [List.length_append, List.length_append, lR3]
          rfl
        generalize xr' ++ [z1] = xr6 at dR6 er6 lR6
        generalize rs' ++ [r] = rs6 at run6 gr6 lr6 dR6 lR6
        cases k with
        | h lb z =>
          obtain ⟨tz, y0, y1, rfl, htz, _, _⟩ := dp_2 dz6
          refine ⟨_, rfl, t, _, 1, _, rfl, rfl, qT6, at1, _, .ty "tuple", .type "tuple", .type "tuple", true, rfl, .ty "tuple", tyx_tup htz, kit_ty (by decide +kernel), _, rfl, iteF (iteF ?_)⟩
          exact ⟨e ++ [(nm, .h lb z)], rs6, _, xr6, _, _, _, _, _, rfl, ek6, dk6, er6, dR6, run6, ke6, gr6, by omega, le6, sub6, nde6, g6, en6, eu6, du6, qi6, d6.mono (by omega)⟩
        | w n =>
          cases dp_int dz6
          refine ⟨_, rfl, t, _, 1, _, rfl, rfl, qT6, at1, _, .ty "tuple", .type "int", .type "tuple", false, rfl, .ty "tuple", (is_int n).1, kit_ty (by decide +kernel), _, rfl, iteT ?_⟩
          refine ⟨_, rfl, p, 2, _, rfl, d6, by omega, by decide, by decide, fun T7 x7 b7 d7 o0 o2 => ⟨rfl, _, rfl, ?_⟩⟩
          have gT7 : Gp p T6 T7 := Gp.but b7
          have kd7 : Kd K T6 T7 := d6.kd gT7
          have er7 := gT7.lst rlp er6
          have ek7 := gT7.lst klp ek6
          have en7 := gT7.lst nlp en6
          have eu7 := gT7.lst ulp eu6
          by_cases c7 : x7 = 1
          · subst c7
            rw [decide_eq_true rfl]
            refine iteT ⟨_, rfl, .inl ⟨rfl, _, .inl (.inl er7)⟩, _, rfl, by show 2 ≤ sizeLine; decide, fun t8 nt8 => ?_⟩
            have k8 : Gr T7 (upd T7 t8 (.tup [.str "name", .str nm])) := Gr.new nt8
            have e8' : upd T7 t8 (.tup [.str "name", .str nm]) t8 = some (.tup [.str "name", .str nm]) := upd_same
            generalize upd T7 t8 (.tup [.str "name", .str nm]) = T8 at k8 e8' ⊢
            refine ⟨by show 2 ≤ sizeLine; decide, fun t9 nt9 => ?_⟩
            have k9 : Gr T8 (upd T8 t9 (.tup [.str "say", .ref t8])) := Gr.new nt9
            have e9' : upd T8 t9 (.tup [.str "say", .ref t8]) t9 = some (.tup [.str "say", .ref t8]) := upd_same
            have e89 := k9.tup e8'
            generalize upd T8 t9 (.tup [.str "say", .ref t8]) = T9 at k9 e9' e89 ⊢
            have k79 := k8.trans k9
            have er9 := k79.lst er7
            refine ⟨rl, _, _, rfl, rfl, er9, small1000 (by omega), ?_⟩
            have kt9 : Kt K T9 (upd T9 rl (.lst (xr6 ++ [.ref t9]))) := kt_lst er9
            have kt69 : Kt K T6 (upd T9 rl (.lst (xr6 ++ [.ref t9]))) := Kt.trans (Kt.trans kd7.kt k79.kd.kt) kt9
            have hk : lkp (e ++ [(nm, .w n)]) nm = some (.w n) := lkp_mem nde6 (List.mem_append_right _ (by simp))
            refine ⟨e ++ [(nm, .w n)], rs6 ++ [.s (.n nm)], _, xr6 ++ [.ref t9], _, _, _, _, _, rfl, (upd_ne krl).trans (k79.lst ek7), kt69.dpA dk6 (noLA_map _ noL_kp _), upd_same, put_dp noL_ro er9 (k79.kd.dpA (kd7.dpA dR6)) (dp_pair e9' (.str _) (dp_pair e89 (.str _) (.str _))), Run.snoc (r := .s (.n nm)) run6 ⟨⟨n, hk⟩, rfl⟩ (by omega), ke6, ?_, ?_, le6, sub6, nde6, (g6.trans (gT7.trans (Gp.gr k79))).upd_new nrlH, (upd_ne (Ne.symm nrn)).trans (k79.lst en7), (upd_ne url).trans (k79.lst eu7), kt69.dpA du6 (noLA_map _ noL_use _), kt69 qi6, ((d7.gr k79).upd rlp).mono (by omega)⟩
            · intro r' hr'
              rcases List.mem_append.mp hr' with h | h
              · exact gr6 r' h
              · rw [List.mem_singleton.mp h]
                exact inm
            · rw [List.length_append, List.length_singleton]
              omega
          · rw [decide_eq_false (fun z => c7 (V.int.inj z))]
            exact iteF ⟨e ++ [(nm, .w n)], rs6, _, xr6, _, _, _, _, _, rfl, ek7, kd7.dpA dk6, er7, kd7.dpA dR6, run6, ke6, gr6, by omega, le6, sub6, nde6, g6.trans gT7, en7, eu7, kd7.dpA du6, kd7.t qi6, d7.mono (by omega)⟩
end
end SfC
/-! data beside a thing that is changed: the heap without it -/
namespace SfG
open PySem PySem.Spec PyProof.Rows L2
def hide (S : List Addr) (H : Hp) : Hp := fun b => if b ∈ S then none else H b
/-- all these are there -/
def There (S : List Addr) (H : Hp) : Prop := ∀ f ∈ S, H f ≠ none
section
variable {K : PySem.W.Frag} {S : List Addr} {p r f : Addr} {H H' : Hp} {o : HO}
theorem hide_ne {b : Addr} (n : b ∉ S) : hide S H b = H b := if_neg n
theorem hide_of {b : Addr} (h : hide S H b = some o) : b ∉ S ∧ H b = some o := by
  by_cases c : b ∈ S
  · unfold hide at h
    rw [if_pos c] at h
    cases h
  · rw [hide_ne c] at h
    exact ⟨c, h⟩
theorem hide_upd (h : f ∈ S) : hide S (upd H f o) = hide S H := by
  funext b
  by_cases c : b ∈ S
  · unfold hide
    rw [if_pos c, if_pos c]
  · have n : b ≠ f := fun z => c (by rw [z]; exact h)
    rw [hide_ne c, hide_ne c, upd_ne n]
theorem hide_nil : hide [] H = H := by
  funext b
  exact hide_ne (by simp)
theorem kx_of (h : ∀ b o, H b = some o → (∀ ps, o ≠ .tbl ps) → (∀ k kv, o ≠ .dK (k :: kv)) → H' b = some o) : Kx K H H' := by
  refine ⟨⟨?_, ?_⟩, ?_⟩
  · intro a xs e
    rcases e with (e | ⟨o, e⟩) | e
    · exact .inl (.inl (h _ _ e (fun _ z => by cases z) (fun _ _ z => by cases z)))
    · exact .inl (.inr ⟨o, h _ _ e (fun _ z => by cases z) (fun _ _ z => by cases z)⟩)
    · exact .inr e
  · intro a xs e
    rcases e with (e | ⟨o, e⟩) | e
    · exact .inl (.inl (h _ _ e (fun _ z => by cases z) (fun _ _ z => by cases z)))
    · exact .inl (.inr ⟨o, h _ _ e (fun _ z => by cases z) (fun _ _ z => by cases z)⟩)
    · exact .inr e
  · intro q e
    exact h _ _ e (fun _ z => by cases z) (fun _ _ z => by cases z)
theorem hide_kx : Kx K (hide S H) H := kx_of fun b o h _ _ => (hide_of h).2
/-- fewer hidden -/
theorem hide_less {T : List Addr} (h : ∀ b ∈ T, b ∈ S) : Kx K (hide S H) (hide T H) := kx_of fun b o e _ _ => by
  obtain ⟨n, e1⟩ := hide_of e
  rw [hide_ne fun z => n (h b z)]
  exact e1
theorem hide_tail : Kx K (hide (f :: S) H) (hide S H) := hide_less fun b h => List.mem_cons_of_mem _ h
/-- a new one hidden: all that was stays -/
theorem hide_cons (n : H f = none) : Kx K (hide S H) (hide (f :: S) (upd H f o)) := kx_of fun b u e _ _ => by
  obtain ⟨n1, e1⟩ := hide_of e
  have nb : b ≠ f := ne_of_none e1 n
  rw [hide_ne (by simp [nb, n1]), upd_ne nb]
  exact e1
theorem Gr.hkx (g : Gr H H') : Kx K (hide S H) (hide S H') := kx_of fun b o h n _ => by
  obtain ⟨n1, h1⟩ := hide_of h
  rw [hide_ne n1]
  exact g.keep b o h1 n
theorem Gp.hkx {k : Key × V} {kv : List (Key × V)} (g : Gp p H H') (hp : H p = some (.dK (k :: kv))) : Kx K (hide S H) (hide S H') := kx_of fun b o h n nk => by
  obtain ⟨n1, h1⟩ := hide_of h
  rw [hide_ne n1]
  refine g.keep b o (fun z => ?_) h1 n
  rw [z, hp] at h1
  exact nk _ _ (Option.some.inj h1).symm
/-- with some hidden, one that is new -/
theorem hide_new (np : H r = none) (hf : There S H) : hide S (upd H r o) r = some o := by
  have n : r ∉ S := fun z => hf r z np
  rw [hide_ne n, upd_same]
theorem dx_newT {xs : List V} {ds : List PyData} (np : H r = none) (hf : There S H) (h : DxA K (hide S H) xs ds) : Dx K (hide S (upd H r (.tup xs))) (.ref r) (.tuple ds) :=
  .tup (.inl (.inl (hide_new np hf))) ((Gr.new np).hkx.dxA h)
theorem dx_newL {xs : List V} {ds : List PyData} (np : H r = none) (hf : There S H) (h : DxA K (hide S H) xs ds) : Dx K (hide S (upd H r (.lst xs))) (.ref r) (.list ds) :=
  .lst (.inl (.inl (hide_new np hf))) ((Gr.new np).hkx.dxA h)
theorem dx_newE (np : H r = none) (hf : There S H) : Dx K (hide S (upd H r (.dK []))) (.ref r) (.dict []) := .emp (hide_new np hf)
theorem There.gr (h : There S H) (g : Gr H H') : There S H' := fun f m z => h f m (g.back f z)
theorem There.upd (h : There S H) : There S (upd H r o) := fun f m z => by
  by_cases c : f = r
  · rw [c, upd_same] at z
    cases z
  · rw [upd_ne c] at z
    exact h f m z
theorem There.cons (h : There S H) (hf : H f ≠ none) : There (f :: S) H := fun b m => by
  rcases List.mem_cons.mp m with rfl | m
  · exact hf
  · exact h b m
theorem There.tail (h : There (f :: S) H) : There S H := fun b m => h b (List.mem_cons_of_mem _ m)
theorem There.nil : There [] H := fun b m => by cases m
end
/-! ### t + u, t[:n], t[n:]: whatever tuple comes -/
def rCatX (K : PySem.W.Frag) : R2 := fun x y H Q => ∃ (S : List Addr) (ds es : List PyData), Dx K (hide S H) x (.tuple ds) ∧ Dx K (hide S H) y (.tuple es) ∧ There S H ∧ ds.length + es.length ≤ sizeLine ∧
  ∀ v H', Gr H H' → Dx K (hide S H') v (.tuple (ds ++ es)) → Q v H'
section
variable {X : Cx}
theorem op_catX : OpR X (binaryOp .Add) (rCatX X.K) := by
  intro pins s σ H x y v u Q I rx ry h
  obtain ⟨f, ds, es, hx, hy, hf, hl, q⟩ := h
  obtain ⟨a, xs, rfl, ha, hxs⟩ := dx_tup hx
  obtain ⟨b, ys, rfl, hb, hys⟩ := dx_tup hy
  have l1 := dxA_len hxs
  have l2 := dxA_len hys
  refine op_catA pins s σ H _ _ v u Q I rx ry ⟨a, b, xs, ys, rfl, rfl, hide_kx.kd.t ha, hide_kx.kd.t hb, by omega, ?_, ?_, ?_⟩
  · rintro rfl
    have e : ds = [] := List.length_eq_zero_iff.mp (by rw [← l1]; rfl)
    subst e
    exact q _ H (Gr.refl H) hy
  · rintro _ rfl
    have e : es = [] := List.length_eq_zero_iff.mp (by rw [← l2]; rfl)
    subst e
    refine q _ H (Gr.refl H) ?_
    rw [List.append_nil]
    exact hx
  · intro _ _ r nr
    exact q _ _ (Gr.new nr) (dx_newT nr hf (dxA_app hxs hys))
/-- [lo:hi], both within it -/
def cutD (ds : List PyData) (lo hi : Option Int) : List PyData := (ds.drop (HT.sIx ds.length 0 lo)).take (HT.sIx ds.length ds.length hi - HT.sIx ds.length 0 lo)
theorem cut_to (ds : List PyData) {n : Nat} (h : n ≤ ds.length) : cutD ds none (some (n : Int)) = ds.take n := by
  unfold cutD
  rw [HT.sIx_none, HT.sIx_nat, Nat.min_eq_left h, List.drop_zero, Nat.sub_zero]
theorem cut_from (ds : List PyData) {n : Nat} (h : n ≤ ds.length) : cutD ds (some (n : Int)) none = ds.drop n := by
  unfold cutD
  rw [HT.sIx_none, HT.sIx_nat, Nat.min_eq_left h]
  refine List.take_of_length_le ?_
  rw [List.length_drop]
  exact Nat.le_refl _
def rSlX (K : PySem.W.Frag) : V → Option Int → Option Int → Hp → VK → Prop := fun x lo hi H Q => ∃ (S : List Addr) (ds : List PyData), Dx K (hide S H) x (.tuple ds) ∧ There S H ∧
  ∀ v H', Gr H H' → Dx K (hide S H') v (.tuple (cutD ds lo hi)) → Q v H'
theorem sl_tupX : SlR X (rSlX X.K) := by
  intro pins s σ H x v vl vu lo hi sl Q I rx hs pl pu h
  obtain ⟨f, ds, hx, hf, q⟩ := h
  obtain ⟨a, xs, rfl, ha, hxs⟩ := dx_tup hx
  have l1 := dxA_len hxs
  refine sl_tupA pins s σ H _ v vl vu lo hi sl Q I rx hs pl pu ⟨a, xs, rfl, hide_kx.kd.t ha, ?_, ?_⟩
  · intro hw
    refine q _ H (Gr.refl H) ?_
    rw [l1] at hw
    have e : cutD ds lo hi = ds := by
      unfold cutD
      rw [hw.1, hw.2, List.drop_zero, Nat.sub_zero, List.take_length]
    rw [e]
    exact hx
  · intro _ r nr
    refine q _ _ (Gr.new nr) (dx_newT nr hf ?_)
    unfold cutV cutD
    rw [l1]
    exact dxA_take _ (dxA_drop _ hxs)
end
end SfG
/-! t[::-1], t * n of tuples -/
namespace SfG
open PySem PySem.Spec PyProof.Rows L2
section
variable {prog : Program} {w : World} {A : Around} {E : Value → Shared → Prop} {s : Shared}
theorem adjust_rev (n : Nat) : Builtin.Slice.sliceAdjust none none (-1) (n : Int) = ((n : Int) - 1, -1) := by
  unfold Builtin.Slice.sliceAdjust
  have h1 : ((-1 : Int) < 0) := by omega
  simp only [h1, if_true]
theorem places_rev (n : Nat) : Builtin.Slice.slicePlaces ((n : Int) - 1) (-1) (-1) = n := by
  unfold Builtin.Slice.slicePlaces
  have h1 : ¬ ((-1 : Int) > 0) := by omega
  simp only [h1, if_false]
  have e1 : (- -1 : Int) = 1 := by decide
  rw [e1, Int.ediv_one]
  split <;> omega
theorem fm_congr {α β : Type} {f g : α → Option β} : ∀ {l : List α}, (∀ x ∈ l, f x = g x) → l.filterMap f = l.filterMap g
  | [], _ => rfl
  | a :: r, h => by
    rw [List.filterMap_cons, List.filterMap_cons, h a List.mem_cons_self, fm_congr fun x hx => h x (List.mem_cons_of_mem _ hx)]
theorem applied_rev {sl : Addr} {vl vu vs : Value} {n : Nat} {Q : Int × Int × Nat → Shared → Prop} (hs : s.heap.IsSliceOf sl vl vu vs) (pl : IsPart vl none) (pu : IsPart vu none) (pk : IsPart vs (some (-1)))
    (h : Q ((n : Int) - 1, -1, n) s) : wpAny (model prog w) A (Builtin.Slice.sliceApplied (.ref sl) (pure (n : Int))) Q E s := by
  obtain ⟨os, hos, hcs, hds⟩ := id hs
  unfold Builtin.Slice.sliceApplied Builtin.Slice.sliceFields
  refine wpAny_bind (wpAny_bind (wpAny_field hos hds (x := vl) rfl (wpAny_bind (wpAny_field hos hds (x := vu) rfl (wpAny_bind (wpAny_field hos hds (x := vs) rfl (wpAny_pure ?_)))))))
  refine wpAny_bind (HT.slicePart_ pk ?_)
  show wpAny _ _ (if ((-1 : Int) == 0) = true then _ else _) _ _ s
  rw [if_neg (by decide)]
  refine wpAny_bind (HT.slicePart_ pl (wpAny_bind (HT.slicePart_ pu (wpAny_bind (wpAny_pure ?_)))))
  show wpAny _ _ (match Builtin.Slice.sliceAdjust none none (-1) (n : Int) with | (lo, hi) => pure (lo, (-1 : Int), Builtin.Slice.slicePlaces lo hi (-1))) _ _ s
  rw [adjust_rev n]
  show wpAny _ _ (pure ((n : Int) - 1, (-1 : Int), Builtin.Slice.slicePlaces ((n : Int) - 1) (-1) (-1))) _ _ s
  rw [places_rev]
  exact wpAny_pure h
theorem pick_rev (xs : Array Value) : ((List.range xs.size).filterMap fun (m : Nat) => xs[(((xs.size : Int) - 1) + (m : Int) * (-1)).toNat]?).toArray = xs.toList.reverse.toArray := by
  have e : ∀ m ∈ List.range xs.size, (xs[(((xs.size : Int) - 1) + (m : Int) * (-1)).toNat]?) = xs[xs.size - 1 - m]? := by
    intro m hm
    have hm' := List.mem_range.mp hm
    have : (((xs.size : Int) - 1) + (m : Int) * (-1)).toNat = xs.size - 1 - m := by omega
    rw [this]
  rw [fm_congr e]
  have := PySem.W.krv_pick xs
  have e2 : (List.range xs.size).filterMap (fun m => xs[xs.size - 1 - m]?) = xs.toList.reverse := by
    have h1 : (List.range xs.size).filterMap (fun m => xs[xs.size - 1 - m]?) = ((List.range xs.size).map (fun k => xs.size - 1 - k)).filterMap (xs[·]?) := by
      rw [List.filterMap_map]
      rfl
    rw [h1, PySem.W.krv_range, List.filterMap_reverse, PySem.W.krv_all]
  rw [e2]
theorem getItem_tuple_rev {t sl : Addr} {items : Array Value} {vl vu vs : Value} {Q : Value → Shared → Prop} (ht : IsTup s.heap t items) (hs : s.heap.IsSliceOf sl vl vu vs) (pl : IsPart vl none) (pu : IsPart vu none) (pk : IsPart vs (some (-1)))
    (h : Q (.ref s.heap.objs.size) { s with heap := s.heap.push { cls := .type "tuple", data := .seq items.toList.reverse.toArray } })
    (hsz : items.size ≤ sizeLine) : wpAny (model prog w) A (getItem (.ref t) (.ref sl)) Q E s := by
  have htake : sizeOk (.seq items.toList.reverse.toArray) := by
    show items.toList.reverse.toArray.size ≤ sizeLine
    rw [List.size_toArray, List.length_reverse, Array.length_toList]
    exact hsz
  obtain ⟨os, hos, hcs, hds⟩ := id hs
  have hTs : s.TypeIs (.ref sl) "slice" := ⟨os, hos, hcs⟩
  unfold getItem
  try with_reducible refine wpAny_holding ?_
  first | refine wpAny_bind (wpAny_pure ?_) | skip
  refine wpAny_bind (wpAny_sequenceKey ht.typeIs (by decide) ?_)
  refine wpAny_bind (wpAny_callSpecial?_slot (name := Str.ofString "__getitem__") ht.typeIs PyProof.Rows.slot_tuple_getitem
    (wpAny_call_entry PyProof.Rows.slot_tuple_getitem ht.typeIs entry_tuple_getitem ?_ (args_tuple_getitem _ _)))
  show wpAny _ _ (Builtin.Tuple.tupleItemsOf (.ref t) >>= _) _ _ s
  refine wpAny_bind (tupleItemsOf_ ht ?_)
  refine wpAny_bind (wpAny_typeOf hTs ?_)
  rw [if_pos (by decide)]
  refine wpAny_bind (applied_rev hs pl pu pk ?_)
  have hno : ¬ ((((items.size : Int) - 1) == 0 && (-1 : Int) == 1 && items.size == items.size) = true) := by simp
  show wpAny _ _ (if (((items.size : Int) - 1) == 0 && (-1 : Int) == 1 && items.size == items.size) = true then _ else _) _ _ s
  rw [if_neg hno, pick_rev]
  first
    | exact wpAny_bind (m := Builtin.Tuple.tupleExact _) (wpAny_newObj_type (wpAny_pure ⟨_, rfl, wpAny_pure h⟩) htake)
    | exact wpAny_bind (m := Builtin.Tuple.tupleExact _) (wpAny_newObj_type (wpAny_bind (wpAny_pure (wpAny_pure ⟨_, rfl, wpAny_pure h⟩))) htake)
    | exact wpAny_bind (wpAny_bind (m := Builtin.Tuple.tupleExact _) (wpAny_newObj_type (wpAny_pure (wpAny_pure ⟨_, rfl, wpAny_pure h⟩)) htake))
    | exact wpAny_bind (wpAny_bind (m := Builtin.Tuple.tupleExact _) (wpAny_newObj_type (wpAny_pure ⟨_, rfl, wpAny_pure h⟩) htake))
end
section
variable {X : Cx}
/-- t[::-1] -/
def tRevT (K : PySem.W.Frag) (te : TE) : TE := fun σ H Q => te σ H fun x H1 => ∃ a xs, x = .ref a ∧ SqT K H1 a xs ∧ ∀ p, H1 p = none → Q (.ref p) (upd H1 p (.tup xs.reverse))
theorem pe_revT {e : Expr} {te : TE} {k : Nat} {p1 p2 p3 pos : Pos} (he : PE X e te) : PE X (.Subscript e (.Slice none none (some (.UnaryOp .USub (.Constant (.int 1) k p1) p2)) p3) pos) (tRevT X.K te) := by
  refine ⟨fun pins s σ H Q I h => ?_⟩
  refine Subscript_ (thn (he.run pins s σ H _ I h) fun v s1 ⟨x, H1, I1, r1, q1⟩ => ?_)
  obtain ⟨a, xs, ex, hx, q⟩ := q1
  subst ex
  cases r1
  have hst : PO X (some (.UnaryOp .USub (.Constant (.int 1) k p1) p2)) (tPart (tUn (rU fun i => .int (-i)) (tC (.int 1)))) := po_some (pe_un un_neg pe_int)
  refine wpAny_Slice (thn (po_none.run pins s1 σ H1 (fun o H2 => o = none ∧ H2 = H1) I1 ⟨rfl, rfl⟩) fun vl s2 ⟨l, H2, I2, pl, el, e2⟩ => ?_)
  subst el e2
  refine thn (po_none.run pins s2 σ H2 (fun o H3 => o = none ∧ H3 = H2) I2 ⟨rfl, rfl⟩) fun vu s3 ⟨u, H3, I3, pu, eu, e3⟩ => ?_
  subst eu e3
  refine thn (hst.run pins s3 σ H3 (fun o H4 => o = some (-1) ∧ H4 = H3) I3 ⟨1, rfl, -1, rfl, rfl, rfl⟩) fun vs s4 ⟨o, H4, I4, ps, eo, e4⟩ => ?_
  subst eo e4
  have I5 : Inv X pins σ H4 { s4 with heap := s4.heap.push { cls := .type "slice", data := .fields #[vl, vu, vs] } } := I4.kept (t' := s4.toks) fun b ob q => Heap.get?_push_of_some _ q
  obtain ⟨its, r, ht, hz⟩ := I5.tuple hx
  have hlen := r.length
  show wpAny (model X.prog X.w) X.A (subscriptTail e (.Slice none none (some (.UnaryOp .USub (.Constant (.int 1) k p1) p2)) p3) (.ref a) (.ref s4.heap.objs.size)) (EP X pins σ Q) X.xe { s4 with heap := s4.heap.push { cls := .type "slice", data := .fields #[vl, vu, vs] } }
  refine tail_any (ops := [.ref a, .ref s4.heap.objs.size]) ht.typeIs (PyProof.Rows.slot_tuple_getitem.lookup) ?_ (by with_unfolding_all rfl)
  refine getItem_tuple_rev ht (Heap.IsSliceOf.new _ vl vu vs) pl pu ps ?_ (by rw [List.size_toArray]; omega)
  refine ⟨.ref _, _, I5.laid (t' := s4.toks) (o := .tup xs.reverse) (fun b ob q => Heap.get?_push_of_some _ q) (Nat.le_refl _) ?_, rfl, q _ (I5.hok.fresh (Nat.le_refl _))⟩
  exact ⟨by rw [List.length_reverse]; exact hz, _, r.reverse, IsTup.new _ _⟩
end
end SfG
namespace SfG
open PySem PySem.Spec PyProof.Rows L2
/-! ### the same of data, whatever tuple comes -/
section
variable {K : PySem.W.Frag} {H : Hp} {r : Addr}
theorem new_T {xs : List V} {ds : List PyData} (np : H r = none) (h : DxA K H xs ds) : Dx K (upd H r (.tup xs)) (.ref r) (.tuple ds) := .tup (.inl (.inl upd_same)) ((Gr.new np).kx.dxA h)
theorem new_L {xs : List V} {ds : List PyData} (np : H r = none) (h : DxA K H xs ds) : Dx K (upd H r (.lst xs)) (.ref r) (.list ds) := .lst (.inl (.inl upd_same)) ((Gr.new np).kx.dxA h)
theorem new_E (np : H r = none) : Dx K (upd H r (.dK [])) (.ref r) (.dict []) := .emp upd_same
end
def rCat0 (K : PySem.W.Frag) : R2 := fun x y H Q => ∃ (ds es : List PyData), Dx K H x (.tuple ds) ∧ Dx K H y (.tuple es) ∧ ds.length + es.length ≤ sizeLine ∧ ∀ v H', Gr H H' → Dx K H' v (.tuple (ds ++ es)) → Q v H'
def rSl0 (K : PySem.W.Frag) : V → Option Int → Option Int → Hp → VK → Prop := fun x lo hi H Q => ∃ (ds : List PyData), Dx K H x (.tuple ds) ∧ ∀ v H', Gr H H' → Dx K H' v (.tuple (cutD ds lo hi)) → Q v H'
def rRep0 (K : PySem.W.Frag) : R2 := fun x y H Q => ∃ (ds : List PyData) (n : Nat), Dx K H x (.tuple ds) ∧ y = .int (n : Int) ∧ ds ≠ [] ∧ 2 ≤ n ∧ n ≤ 1000 ∧ ds.length ≤ 1000 ∧ ∀ v H', Gr H H' → Dx K H' v (.tuple (List.replicate n ds).flatten) → Q v H'
theorem dxA_rep {K : PySem.W.Frag} {H : Hp} {xs : List V} {ds : List PyData} (h : DxA K H xs ds) : ∀ n : Nat, DxA K H (List.replicate n xs).flatten (List.replicate n ds).flatten
  | 0 => .nil
  | n + 1 => by
    rw [List.replicate_succ, List.replicate_succ, List.flatten_cons, List.flatten_cons]
    exact dxA_app h (dxA_rep h n)
section
variable {X : Cx}
theorem op_cat0 : OpR X (binaryOp .Add) (rCat0 X.K) := by
  intro pins s σ H x y v u Q I rx ry h
  obtain ⟨ds, es, hx, hy, hl, q⟩ := h
  refine op_catX pins s σ H x y v u Q I rx ry ⟨[], ds, es, ?_, ?_, There.nil, hl, fun v' H' g h' => ?_⟩
  · rw [hide_nil]
    exact hx
  · rw [hide_nil]
    exact hy
  · rw [hide_nil] at h'
    exact q v' H' g h'
theorem sl_tup0 : SlR X (rSl0 X.K) := by
  intro pins s σ H x v vl vu lo hi sl Q I rx hs pl pu h
  obtain ⟨ds, hx, q⟩ := h
  refine sl_tupX pins s σ H x v vl vu lo hi sl Q I rx hs pl pu ⟨[], ds, ?_, There.nil, fun v' H' g h' => ?_⟩
  · rw [hide_nil]
    exact hx
  · rw [hide_nil] at h'
    exact q v' H' g h'
theorem op_rep0 : OpR X (binaryOp .Mult) (rRep0 X.K) := by
  intro pins s σ H x y v u Q I rx ry h
  obtain ⟨ds, n, hx, rfl, hne, h2, h3, hl, q⟩ := h
  obtain ⟨a, xs, rfl, ha, hxs⟩ := dx_tup hx
  have l1 := dxA_len hxs
  refine op_repT pins s σ H _ _ v u Q I rx ry ⟨a, n, xs, rfl, rfl, ha, ?_, by omega, by omega, by omega, fun p np => ?_⟩
  · rintro rfl
    exact hne (List.length_eq_zero_iff.mp (by rw [← l1]; rfl))
  · rw [Int.toNat_natCast]
    exact q _ _ (Gr.new np) (new_T np (dxA_rep hxs n))
end
end SfG
namespace SfC
open PySem PySem.Spec PyProof.Rows L2 SfG
/-! ### slices and sums of tuples of any data -/
theorem dpA_drop {K : PySem.W.Frag} {H : Hp} : ∀ {n : Nat} {ds : List PyData} {xs : List V}, DpAll K H xs ds → DpAll K H (xs.drop n) (ds.drop n)
  | 0, _, _, h => h
  | n + 1, [], _, h => by
    cases dpA_nil h
    exact .nil
  | n + 1, d :: r, _, h => by
    obtain ⟨x, xr, rfl, _, hr⟩ := dpA_cons h
    exact dpA_drop (n := n) hr
theorem dpA_take {K : PySem.W.Frag} {H : Hp} : ∀ {n : Nat} {ds : List PyData} {xs : List V}, DpAll K H xs ds → DpAll K H (xs.take n) (ds.take n)
  | 0, _, _, _ => .nil
  | n + 1, [], _, h => by
    cases dpA_nil h
    exact .nil
  | n + 1, d :: r, _, h => by
    obtain ⟨x, xr, rfl, hx, hr⟩ := dpA_cons h
    exact .cons hx (dpA_take (n := n) hr)
theorem dpA_cut {K : PySem.W.Frag} {H : Hp} {ds : List PyData} {xs : List V} (h : DpAll K H xs ds) (lo hi : Option Int) : DpAll K H (cutV xs lo hi) (SfG.cutD ds lo hi) := by
  unfold cutV SfG.cutD
  rw [dpA_len h]
  exact dpA_take (dpA_drop h)
theorem dpA_rev {K : PySem.W.Frag} {H : Hp} : ∀ {ds : List PyData} {xs : List V}, DpAll K H xs ds → DpAll K H xs.reverse ds.reverse
  | [], _, h => by
    cases dpA_nil h
    exact .nil
  | d :: r, _, h => by
    obtain ⟨x, xr, rfl, hx, hr⟩ := dpA_cons h
    rw [List.reverse_cons, List.reverse_cons]
    exact dpA_app (dpA_rev hr) (.cons hx .nil)
def rCatD (K : PySem.W.Frag) : R2 := fun x y H Q => ∃ (ds es : List PyData), Dp K H x (.tuple ds) ∧ Dp K H y (.tuple es) ∧ ds.length + es.length ≤ sizeLine ∧ ∀ v H', Gr H H' → Dp K H' v (.tuple (ds ++ es)) → Q v H'
def rSlD (K : PySem.W.Frag) : V → Option Int → Option Int → Hp → VK → Prop := fun x lo hi H Q => ∃ (ds : List PyData), Dp K H x (.tuple ds) ∧ ∀ v H', Gr H H' → Dp K H' v (.tuple (SfG.cutD ds lo hi)) → Q v H'
theorem new_TD {K : PySem.W.Frag} {H : Hp} {p : Addr} {xs : List V} {ds : List PyData} (np : H p = none) (h : DpAll K H xs ds) : Dp K (upd H p (.tup xs)) (.ref p) (.tuple ds) := .tup (.inl (.inl upd_same)) ((Gr.new np).kd.dpA h)
theorem new_LD {K : PySem.W.Frag} {H : Hp} {p : Addr} {xs : List V} {ds : List PyData} (np : H p = none) (h : DpAll K H xs ds) : Dp K (upd H p (.lst xs)) (.ref p) (.list ds) := .lst (.inl (.inl upd_same)) ((Gr.new np).kd.dpA h)
section
variable {X : Cx}
theorem op_catD : OpR X (binaryOp .Add) (rCatD X.K) := by
  intro pins s σ H x y v u Q I rx ry h
  obtain ⟨ds, es, hx, hy, hl, q⟩ := h
  obtain ⟨a, xs, rfl, ha, hxs⟩ := dp_tup hx
  obtain ⟨b, ys, rfl, hb, hys⟩ := dp_tup hy
  have l1 := dpA_len hxs
  have l2 := dpA_len hys
  refine op_catA pins s σ H _ _ v u Q I rx ry ⟨a, b, xs, ys, rfl, rfl, ha, hb, by omega, ?_, ?_, ?_⟩
  · rintro rfl
    have e : ds = [] := List.length_eq_zero_iff.mp (by rw [← l1]; rfl)
    subst e
    exact q _ H (Gr.refl H) hy
  · rintro _ rfl
    have e : es = [] := List.length_eq_zero_iff.mp (by rw [← l2]; rfl)
    subst e
    refine q _ H (Gr.refl H) ?_
    rw [List.append_nil]
    exact hx
  · intro _ _ r nr
    exact q _ _ (Gr.new nr) (new_TD nr (dpA_app hxs hys))
theorem sl_tupD : SlR X (rSlD X.K) := by
  intro pins s σ H x v vl vu lo hi sl Q I rx hs pl pu h
  obtain ⟨ds, hx, q⟩ := h
  obtain ⟨a, xs, rfl, ha, hxs⟩ := dp_tup hx
  have l1 := dpA_len hxs
  refine sl_tupA pins s σ H _ v vl vu lo hi sl Q I rx hs pl pu ⟨a, xs, rfl, ha, fun hw => ?_, fun _ p np => q _ _ (Gr.new np) (new_TD np (dpA_cut hxs lo hi))⟩
  have e : SfG.cutD ds lo hi = ds := by
    unfold SfG.cutD
    rw [← l1, hw.1, hw.2, List.drop_zero, Nat.sub_zero, l1, List.take_length]
  refine q _ H (Gr.refl H) ?_
  rw [e]
  exact hx
end
/-! ### how long programs are shown -/
theorem isN_low {z : Str} (h : isN z = true) : ∀ c ∈ z.cps.toList, c < 128 := fun c hc => let_range (List.all_eq_true.mp (isN_txt h).2.2.2.2.2 c hc)
theorem sh_name {z : Str} {D : Nat} (h : isN z = true) : Sh (.str z) 82 (D + 1) := by
  refine ⟨rfl, rfl, by simp [PyData.depth], ?_⟩
  have h1 := PySem.StrLaws.reprText_len z fun c hc => Nat.lt_of_lt_of_le (isN_low h c hc) (by decide)
  have h2 := (isN_txt h).1
  show (reprText z).length ≤ 82
  omega
theorem shA_names {D : Nat} : ∀ {l : List Str}, (∀ z ∈ l, isN z = true) → ShA (l.map PyData.str) (l.length * 84) (D + 1)
  | [], _ => ShA.nil.mono (by omega) (Nat.le_refl _)
  | a :: r, h => by
    refine (ShA.cons (sh_name (h a List.mem_cons_self)) (shA_names (D := D) fun z hz => h z (List.mem_cons_of_mem _ hz))).mono ?_ (Nat.le_refl _)
    rw [List.length_cons, Nat.succ_mul]
    omega
theorem sh_kn {hd : List Str} {k : Kn} {D : Nat} (hn : ∀ z ∈ hd, isN z = true) (h : goK hd k) : Sh k.d 82 (D + 1) := by
  cases k with
  | h s => exact sh_name (hn s h)
  | p n =>
    refine (Sh.int (k := 4) ?_ (by decide) (by decide)).mono (by decide) (Nat.le_refl _)
    obtain ⟨h1, h2⟩ := h
    show n.natAbs < 2 ^ 4
    have e : (2 : Nat) ^ 4 = 16 := by decide
    omega
theorem shA_kns {hd : List Str} {D : Nat} (hn : ∀ z ∈ hd, isN z = true) : ∀ {l : List Kn}, (∀ k ∈ l, goK hd k) → ShA (l.map Kn.d) (l.length * 84) (D + 1)
  | [], _ => ShA.nil.mono (by omega) (Nat.le_refl _)
  | a :: r, h => by
    refine (ShA.cons (sh_kn hn (h a List.mem_cons_self)) (shA_kns (D := D) hn fun z hz => h z (List.mem_cons_of_mem _ hz))).mono ?_ (Nat.le_refl _)
    rw [List.length_cons, Nat.succ_mul]
    omega
theorem sh_de {hd : List Str} {e : De} (hn : ∀ z ∈ hd, isN z = true) (gd : goD hd e) : Sh e.d 430 3 := by
  have h1 := Sh.tup (shA_kns (D := 0) hn gd.tk)
  refine (Sh.tup (ShA.cons (sh_name (D := 1) gd.nm) (ShA.cons h1 (ShA.cons (sh_kn (D := 1) hn gd.gv) ShA.nil)))).mono ?_ (by decide)
  have a1 := gd.len
  omega
theorem shA_de {hd : List Str} (hn : ∀ z ∈ hd, isN z = true) : ∀ {l : List De}, (∀ e ∈ l, goD hd e) → ShA (l.map De.d) (l.length * 432) 3
  | [], _ => ShA.nil.mono (by omega) (Nat.le_refl _)
  | a :: r, h => by
    refine (ShA.cons (sh_de hn (h a List.mem_cons_self)) (shA_de hn fun z hz => h z (List.mem_cons_of_mem _ hz))).mono ?_ (Nat.le_refl _)
    rw [List.length_cons, Nat.succ_mul]
    omega
theorem sh_face {f : Fc} (go : goF f) : Sh f.d 10000 5 := by
  have h1 := Sh.tup (shA_names (D := 2) go.hid.nm)
  have h2 := Sh.tup (shA_de go.hid.nm go.ok)
  refine (Sh.tup (ShA.cons h1 (ShA.cons h2 ShA.nil))).mono ?_ (by decide)
  have a1 := go.hid.hi
  have a2 := go.hi
  omega
theorem iteE {p : Prop} [Decidable p] (h : p) {A B : Prop} (a : A) : if decide p = true then A else B := by
  rw [decide_eq_true h]
  exact iteT a
theorem sh_lit {z : Str} {D : Nat} (h : isN z = true) : Sh (.str z) 82 (D + 1) := sh_name h
theorem sh_fig {i : Int} {D : Nat} (h0 : 0 ≤ i) (h9 : i ≤ 9) : Sh (.int i) 82 (D + 1) := by
  refine (Sh.int (k := 4) ?_ (by decide) (by decide)).mono (by decide) (Nat.le_refl _)
  have e : (2 : Nat) ^ 4 = 16 := by decide
  omega
theorem sh_ag {a : Ag} {D : Nat} (h : goA a) : Sh a.d 200 (D + 2) := by
  cases a with
  | n z => exact (Sh.tup (ShA.cons (sh_lit (D := D) (z := "name") (by decide +kernel)) (ShA.cons (sh_lit (D := D) h) ShA.nil))).mono (by omega) (by omega)
  | u j => exact (Sh.tup (ShA.cons (sh_lit (D := D) (z := "number") (by decide +kernel)) (ShA.cons (sh_fig (D := D) h.1 (by have := h.2; omega)) ShA.nil))).mono (by omega) (by omega)
  | i j => exact (Sh.tup (ShA.cons (sh_lit (D := D) (z := "input") (by decide +kernel)) (ShA.cons (sh_fig (D := D) h.1 (by have := h.2; omega)) ShA.nil))).mono (by omega) (by omega)
theorem shA_all {α : Type} {g : α → PyData} {L D : Nat} : ∀ {l : List α}, (∀ a ∈ l, Sh (g a) L D) → ShA (l.map g) (l.length * (L + 2)) D
  | [], _ => ShA.nil.mono (by omega) (Nat.le_refl _)
  | a :: r, h => by
    refine (ShA.cons (h a List.mem_cons_self) (shA_all fun z hz => h z (List.mem_cons_of_mem _ hz))).mono ?_ (Nat.le_refl _)
    rw [List.length_cons, Nat.succ_mul]
    omega
theorem sh_ro {r : Ro} (h : goR r) : Sh r.d 1100 4 := by
  cases r with
  | l nm lb dd as =>
    obtain ⟨h1, h2, h3, h4, h5⟩ := h
    have ha := Sh.tup (shA_all (g := Ag.d) (L := 200) (D := 2) (l := as) fun a ha => sh_ag (D := 0) (h5 a ha))
    refine (Sh.tup (ShA.cons (sh_lit (D := 2) (z := "let") (by decide +kernel)) (ShA.cons (sh_lit (D := 2) h1) (ShA.cons (sh_lit (D := 2) h2) (ShA.cons (sh_lit (D := 2) h3) (ShA.cons ha ShA.nil)))))).mono ?_ (by decide)
    omega
  | p nm a b c =>
    obtain ⟨h1, h2, h3, h4⟩ := h
    exact (Sh.tup (ShA.cons (sh_lit (D := 2) (z := "pick") (by decide +kernel)) (ShA.cons (sh_lit (D := 2) h1) (ShA.cons (sh_ag (D := 1) h2) (ShA.cons (sh_ag (D := 1) h3) (ShA.cons (sh_ag (D := 1) h4) ShA.nil)))))).mono (by decide) (by decide)
  | s a => exact (Sh.tup (ShA.cons (sh_lit (D := 2) (z := "say") (by decide +kernel)) (ShA.cons (sh_ag (D := 1) h) ShA.nil))).mono (by decide) (by decide)
theorem sh_us {u : Us} (h : isN u.lb = true ∧ goF u.fc) : Sh u.d 10100 6 :=
  (Sh.tup (ShA.cons (sh_lit (D := 4) h.1) (ShA.cons (sh_face h.2) ShA.nil))).mono (by decide) (by decide)
theorem sh_pg {p : Pg} (h : goP p) : Sh p.d 100000 8 := by
  have h1 := Sh.tup (shA_all (g := Us.d) (l := p.us) fun u hu => sh_us (h.uN u hu))
  have h2 := Sh.tup (shA_all (g := PyData.int) (L := 82) (D := 6) (l := p.is) fun j hj => sh_fig (D := 5) (by have := h.iN j hj; omega) (h.iN j hj).2)
  have h3 := (Sh.tup (shA_all (g := Ro.d) (l := p.rs) fun r hr => sh_ro (h.rN r hr))).mono (Nat.le_refl _) (show 4 + 1 ≤ 7 by decide)
  refine (Sh.tup (ShA.cons h1 (ShA.cons h2 (ShA.cons h3 ShA.nil)))).mono ?_ (by decide)
  have a1 := h.u4
  have a2 := h.i3
  have a3 := h.r30
  omega
/-- a part of a list of data -/
theorem cutD_map {α : Type} (g : α → PyData) (l : List α) (lo hi : Option Int) : ∃ l' : List α, SfG.cutD (l.map g) lo hi = l'.map g ∧ (∀ a ∈ l', a ∈ l) ∧ l'.length ≤ l.length := by
  unfold SfG.cutD
  rw [List.length_map]
  refine ⟨(l.drop (HT.sIx l.length 0 lo)).take (HT.sIx l.length l.length hi - HT.sIx l.length 0 lo), ?_, fun a ha => List.mem_of_mem_drop (List.mem_of_mem_take ha), ?_⟩
  · rw [List.map_take, List.map_drop]
  · rw [List.length_take, List.length_drop]
    omega
theorem cutD_til {α : Type} (g : α → PyData) (l : List α) (n : Nat) : SfG.cutD (l.map g) none (some (n : Int)) = (l.take n).map g := by
  unfold SfG.cutD
  rw [HT.sIx_none, HT.sIx_nat, List.drop_zero, Nat.sub_zero, List.length_map, List.map_take]
  rcases Nat.le_total n l.length with h | h
  · rw [Nat.min_eq_left h]
  · rw [Nat.min_eq_right h, List.take_of_length_le (by rw [List.length_map]; exact Nat.le_refl _), List.take_of_length_le (by rw [List.length_map]; exact h)]
end SfC
/-! a program by its form alone -/
namespace SfC
open PySem PySem.Spec PyProof.Rows L2 SfG
abbrev nForm : List Str := ["_law_state", "_law_program_here", "_law_uses", "_law_inputs", "_law_rows", "_law_at", "_law_other", "_law_args", "_law_word"]
theorem scForm : FnScope nForm ["_law_state", "_law_program_here"] (defScope sByForm) := ⟨rfl, rfl, rfl, by decide +kernel, rfl, by decide +kernel, by decide +kernel⟩
section
variable {P : Program} {w : World} {K : PySem.W.Frag} {mg : Str → Option Value} {base : Heap}
def spForm (K : PySem.W.Frag) : Sp := fun vs H Q _ => ∃ (p : Addr) (v : V) (pg : Pg) (B : Int), vs = [.ref p, v] ∧ Drw H p B ∧ 0 ≤ B ∧ B ≤ 80000 ∧ PgV K H v pg ∧ goP pg ∧ pg.us.length ≤ 3 ∧ pg.rs.length ≤ 24 ∧
  ∀ H' v' pg', Gp p H H' → Drw H' p (B + 100) → Dp K H' v' pg'.d → goP pg' → Q v' H'
set_option maxHeartbeats 4000000 in
theorem ok_form {f fG fN : Addr} {fd fdG fdN : FuncData} {k : Nat} (F : Fun K "_law_by_form" "_law_by_form" sByForm f fd) (DG : Has P w K mg base k "_law_digit" ["_law_state", "_law_many"] spDigit fG fdG)
    (HN : Has P w K mg base k "_law_names" ["_law_state", "_law_many"] spNamesP fN fdN) (mt : mg "tuple" = none) (ml : mg "len" = none) : FnOk P w K mg base CX0 (k + 1) f fd ["_law_state", "_law_program_here"] (spForm K) := by
  refine F.ok scForm (fun vs H Q E h => ?_) (fun cdv A outer s H vs Q E hr h => ?_)
  · obtain ⟨p, v, pg, B, rfl, _⟩ := h
    rfl
  · obtain ⟨p, v, pg, B, rfl, dr, B0, B9, hv, go, us3, rs24, q⟩ := h
    have nd := scForm.nd
    refine' ⟨_, pss_cons ?s1 (pss_cons ?s2 (pss_cons ?s3 (pss_cons ?s4 (pss_cons ?s5 (pss_one ?s6))))), ?rd⟩
    case s1 => exact ps_asg (pv 1) (pg_tup rfl (pgs_cons (pg_name (i := 2) nd rfl (.inl rfl)) (pgs_cons (pg_name (i := 3) nd rfl (.inl rfl)) (pgs_cons (pg_name (i := 4) nd rfl (.inl rfl)) pgs_nil))))
    case s2 =>
      exact ps_par (i := 5) (j := 6) rfl nd rfl rfl (by decide) rfl rfl (pa_cons (hcall DG hr (pa_cons (pv 0) (pa_cons (pe_op op_add (pe_callB call_len_seq (by rfl) ml PySem.boot_len (pa_cons (pv 4) pa_nil)) pe_int) pa_nil)))
        (pa_cons (hcall DG hr (pa_cons (pv 0) (pa_cons (pe_op op_add (pe_callB call_len_seq (by rfl) ml PySem.boot_len (pa_cons (pv 4) pa_nil)) pe_int) pa_nil))) pa_nil)) (by rfl)
    case s3 =>
      exact ps_set (i := 4) nd rfl (.inl rfl) (pe_op op_catD (pe_op op_catD (pe_slice sl_tupD (pv 4) (po_some (pv 5)) po_none) (pe_slice sl_tupD (pv 4) po_none (po_some (pv 5)))) (pe_slice sl_tupD (pv 4) (po_some (pv 6)) (po_some (pe_op op_add (pv 6) pe_int))))
    case s4 =>
      refine' ps_if (pt_cmpR op_eq (hcall DG hr (pa_cons (pv 0) (pa_cons pe_int pa_nil))) pe_int (nomark _)) (pss_cons ?c1 (pss_cons ?c2 (pss_one ?c3))) pss_nil
      case c1 =>
        exact ps_set (i := 7) nd rfl (.inl rfl) (pe_callTy call_tuple_of (by rfl) mt (by decide +kernel) (pa_cons (pe_slice sl_list (pe_lc (own := [("_law_word", 8)]) (g := gName 8) rfl nd (pi_list (hcall HN hr (pa_cons (pv 0) (pa_cons pe_int pa_nil))))
          (blkOk_by (own := [("_law_word", 8)]) (N := nForm) (sc := defScope sByForm) (by decide +kernel)) (fun _ _ _ _ _ => pg_name (i := 8) nd rfl (.inl rfl)) (fun _ _ _ _ _ => pts_nil) (fun _ _ _ _ _ => pe_tup (pa_cons pe_str (pa_cons (pv 8) pa_nil)))) po_none (po_some (hcall DG hr (pa_cons (pv 0) (pa_cons pe_int pa_nil))))) pa_nil))
      case c2 =>
        exact ps_set (i := 4) nd rfl (.inl rfl) (pe_op op_catD (pv 4) (pe_tup (pa_cons (pe_tup (pa_cons pe_str (pa_cons pe_str (pa_cons pe_str (pa_cons pe_str (pa_cons (pv 7) pa_nil)))))) (pa_cons (pe_tup (pa_cons pe_str (pa_cons (pe_tup (pa_cons pe_str (pa_cons pe_int pa_nil))) pa_nil))) pa_nil))))
      case c3 =>
        exact ps_set (i := 4) nd rfl (.inl rfl) (pe_op op_catD (pv 4) (pe_tup (pa_cons (pe_tup (pa_cons pe_str (pa_cons pe_str (pa_cons (pe_tup (pa_cons pe_str (pa_cons pe_str pa_nil))) (pa_cons (pe_tup (pa_cons pe_str (pa_cons pe_int pa_nil))) (pa_cons (pe_tup (pa_cons pe_str (pa_cons pe_int pa_nil))) pa_nil)))))) pa_nil)))
    case s5 =>
      exact ps_if (pt_cmpR op_eq (hcall DG hr (pa_cons (pv 0) (pa_cons pe_int pa_nil))) pe_int (nomark _)) (pss_one (ps_set (i := 2) nd rfl (.inl rfl) (pe_slice sl_tupD (pe_op op_catD (pv 2) (pe_slice sl_tupD (pv 2) po_none (po_some pe_int))) po_none (po_some pe_int)))) pss_nil
    case s6 => exact ps_ret (pe_tup (pa_cons (pv 2) (pa_cons (pv 3) (pa_cons (pe_slice sl_tupD (pv 4) po_none (po_some pe_int)) pa_nil))))
    case rd =>
    obtain ⟨q0, qu, qi, qr, ps, rs, rfl, h1, h2, h3, h4, h5, h6⟩ := hv
    have dU : Dp K H (.ref qu) (.tuple (pg.us.map Us.d)) := .tup h2.sqt h3
    have dI : Dp K H (.ref qi) (.tuple (pg.is.map .int)) := .tup h4 (dpA_ints _)
    have dR : Dp K H (.ref qr) (.tuple (pg.rs.map Ro.d)) := .tup h5 h6
    have lr : rs.length = pg.rs.length := by
      have := dpA_len h6
      rw [List.length_map] at this
      exact this
    refine ⟨_, rfl, q0, _, rfl, h1, rfl, _, _, rfl, _, _, rfl, _, [], rfl, rfl, ?_⟩
    refine ⟨_, rfl, _, rfl, qr, _, rfl, .inr h5, _, 1, rfl, rfl, p, _, _, rfl, dr, by omega, by omega, by omega, fun H1 x1 b1 d1 z0 z1 => ?_⟩
    have g1 : Gp p H H1 := Gp.but b1
    have kd1 : Kd K H H1 := dr.kd g1
    refine ⟨_, rfl, _, rfl, qr, _, rfl, .inr (kd1.t h5), _, 1, rfl, rfl, p, _, _, rfl, d1, by omega, by omega, by omega, fun H2 x2 b2 d2 w0 w1 => ⟨_, _, rfl, ?_⟩⟩
    have g2 : Gp p H H2 := g1.trans (Gp.but b2)
    have kd2 : Kd K H H2 := dr.kd g2
    have dU2 := kd2.dp dU
    have dI2 := kd2.dp dI
    have dR2 := kd2.dp dR
    clear dU dI dR h1 h2 h3 h4 h5 h6 g1 kd1 b1 d1 b2
    -- rows in another order
    obtain ⟨ra, ea, ma, la⟩ := cutD_map Ro.d pg.rs (some x1) none
    obtain ⟨rb, eb, mb, lb⟩ := cutD_map Ro.d pg.rs none (some x1)
    obtain ⟨rc, ec, mc, lc⟩ := cutD_map Ro.d pg.rs (some x2) (some (x2 + 1))
    refine ⟨_, rfl, _, rfl, x1, rfl, _, dR2, fun va Ha ga da => ?_⟩
    refine ⟨_, rfl, _, rfl, x1, rfl, _, ga.kd.dp dR2, fun vb Hb gb db => ?_⟩
    rw [ea] at da
    rw [eb] at db
    refine ⟨_, _, gb.kd.dp da, db, by simp only [List.length_map]; exact Nat.le_of_lt (small1000 (by omega)), fun vab Hab gab dab => ?_⟩
    have g2ab := ga.trans (gb.trans gab)
    refine ⟨_, rfl, _, rfl, x2, rfl, _, rfl, x2, 1, rfl, rfl, _, rfl, _, g2ab.kd.dp dR2, fun vc Hc gc dc => ?_⟩
    rw [ec] at dc
    rw [← List.map_append] at dab
    refine ⟨_, _, gc.kd.dp dab, dc, by simp only [List.length_map, List.length_append]; exact Nat.le_of_lt (small1000 (by omega)), fun v4 H4 g4 d4 => ?_⟩
    rw [← List.map_append] at d4
    have gA := g2ab.trans (gc.trans g4)
    have g24 := g2.trans (Gp.gr gA)
    have dr4 := d2.gr gA
    have dU4 := gA.kd.dp dU2
    have dI4 := gA.kd.dp dI2
    have gr4 : ∀ r ∈ (ra ++ rb) ++ rc, goR r := by
      intro r hr
      rcases List.mem_append.mp hr with h | h
      · rcases List.mem_append.mp h with h | h
        · exact go.rN r (ma r h)
        · exact go.rN r (mb r h)
      · exact go.rN r (mc r h)
    have l4 : ((ra ++ rb) ++ rc).length ≤ 72 := by
      rw [List.length_append, List.length_append]
      omega
    generalize (ra ++ rb) ++ rc = r4 at d4 gr4 l4
    clear ea ma la eb mb lb ec mc lc da db dab dc ga gb gab g2ab gc g4 gA dU2 dI2 dR2 kd2 g2 d2
    -- some more rows
    dsimp only
    refine viaT (t := tIfS _ _ _) (fun σ T => ∃ (r5 : List Ro) (v5 : V) (y7 : Option V), σ = [some (.ref p), some (.ref q0), some (.ref qu), some (.ref qi), some v5, some (.int x1), some (.int x2), y7, none] ∧ Gp p H4 T ∧ Drw T p (B + 50) ∧ Dp K T v5 (.tuple (r5.map Ro.d)) ∧ (∀ r ∈ r5, goR r) ∧ r5.length ≤ 80) ?va ?vb
    case va =>
      intro U' ur un
      refine ⟨_, rfl, p, 2, _, rfl, dr4, by omega, by decide, by decide, fun T1 y1 b1 e1 o0 o2 => ⟨rfl, _, rfl, ?_⟩⟩
      have t1 : Gp p H4 T1 := Gp.but b1
      have kt1 : Kd K H4 T1 := dr4.kd t1
      by_cases c : y1 = 1
      · subst c
        rw [decide_eq_true rfl]
        refine iteT ⟨_, rfl, p, 3, _, rfl, by omega, e1, by omega, by omega, fun T2 nl ns g2 e2 nnl enl lns ndn nmn => ⟨nl, rfl, ⟨_, .inl (.inl enl)⟩, fun D nD => ?_⟩⟩
        have t2 := t1.trans g2
        refine lc_it (walk_list (xs := ns.map V.str)) (fun j S => ∃ ys, S D = some (.lst ys) ∧ DpAll K S ys (((ns.take j).map Ag.n).map Ag.d) ∧ Gr T2 S) ⟨[], upd_same, .nil, Gr.new nD⟩ ?l0 ?l1 ?l2
        case l0 =>
          rintro j S hj ⟨ys, eD, dy, g⟩
          exact .inl (.inl (g.lst enl))
        case l1 =>
          rintro j x S S' hj ⟨ys, eD, dy, g⟩ ⟨rfl, hx⟩
          rw [List.length_map] at hj
          rw [List.getElem?_map] at hx
          obtain ⟨z, hz, rfl⟩ := Option.map_eq_some_iff.mp hx
          refine ⟨rfl, tYes_i (iteT ⟨_, rfl, by show 2 ≤ sizeLine; decide, fun T nT => ?_⟩)⟩
          have k1 : Gr S' (upd S' T (.tup [.str "name", .str z])) := Gr.new nT
          have f1 : upd S' T (.tup [.str "name", .str z]) T = some (.tup [.str "name", .str z]) := upd_same
          have ly := dpA_len dy
          rw [List.length_map, List.length_map, List.length_take] at ly
          refine ⟨ys, k1.lst eD, small1000 (by omega), _, upd_same, ?_, (g.trans k1).upd_new nD⟩
          rw [List.take_add_one, hz, List.map_append]
          exact put_dp noL_ag (k1.lst eD) (k1.kd.dpA dy) (dp_pair f1 (.str _) (.str _))
        case l2 =>
        rintro S ⟨ys, eD, dy, g⟩
        rw [List.length_map, List.take_length] at dy
        have e3 := e2.gr g
        have t3 := t2.trans (Gp.gr g)
        refine ⟨_, rfl, p, 4, _, rfl, e3, by omega, by decide, by decide, fun S1 y4 b4 e4 w0' w4 => ?_⟩
        have nDp : D ≠ p := e2.ne nD
        have eD4 := (b4 D nDp).trans eD
        have dy4 := (e3.kd (K := K) (Gp.but b4)).dpA dy
        obtain ⟨n4, rfl⟩ : ∃ n : Nat, y4 = (n : Int) := ⟨y4.toNat, by omega⟩
        refine ⟨_, rfl, D, _, rfl, .inl (.inl eD4), fun pl npl => ?_⟩
        rw [cutV_at]
        have k5 : Gr S1 (upd S1 pl (.lst (ys.take n4))) := Gr.new npl
        have f5 : upd S1 pl (.lst (ys.take n4)) pl = some (.lst (ys.take n4)) := upd_same
        have dA : DpAll K S1 (ys.take n4) (((ns.take n4).map Ag.n).map Ag.d) := by
          rw [List.map_take, List.map_take]
          exact dpA_take dy4
        generalize upd S1 pl (.lst (ys.take n4)) = S2 at k5 f5 ⊢
        refine ⟨pl, _, rfl, .inl ⟨.inl (.inl f5), fun ta nta => ?_⟩⟩
        have k6 : Gr S2 (upd S2 ta (.tup (ys.take n4))) := Gr.new nta
        have f6 : upd S2 ta (.tup (ys.take n4)) ta = some (.tup (ys.take n4)) := upd_same
        generalize upd S2 ta (.tup (ys.take n4)) = S3 at k6 f6 ⊢
        have k56 := k5.trans k6
        have dTa : Dp K S3 (.ref ta) (.tuple (((ns.take n4).map Ag.n).map Ag.d)) := .tup (.inl (.inl f6)) (k56.kd.dpA dA)
        have t6 := t3.trans ((Gp.but b4).trans (Gp.gr k56))
        have d46 := (dr4.kd t6).dp d4
        -- two rows
        refine ⟨_, rfl, _, rfl, by show 5 ≤ sizeLine; decide, fun a1 na1 => ?_⟩
        have k7 : Gr S3 (upd S3 a1 (.tup [.str "let", .str "a", .str "b", .str "ab", .ref ta])) := Gr.new na1
        have f7 : upd S3 a1 (.tup [.str "let", .str "a", .str "b", .str "ab", .ref ta]) a1 = some (.tup [.str "let", .str "a", .str "b", .str "ab", .ref ta]) := upd_same
        generalize upd S3 a1 (.tup [.str "let", .str "a", .str "b", .str "ab", .ref ta]) = S4 at k7 f7 ⊢
        refine ⟨by show 2 ≤ sizeLine; decide, fun a2 na2 => ?_⟩
        have k8 : Gr S4 (upd S4 a2 (.tup [.str "input", .int 2])) := Gr.new na2
        have f8 : upd S4 a2 (.tup [.str "input", .int 2]) a2 = some (.tup [.str "input", .int 2]) := upd_same
        generalize upd S4 a2 (.tup [.str "input", .int 2]) = S5 at k8 f8 ⊢
        refine ⟨by show 2 ≤ sizeLine; decide, fun a3 na3 => ?_⟩
        have k9 : Gr S5 (upd S5 a3 (.tup [.str "say", .ref a2])) := Gr.new na3
        have f9 : upd S5 a3 (.tup [.str "say", .ref a2]) a3 = some (.tup [.str "say", .ref a2]) := upd_same
        generalize upd S5 a3 (.tup [.str "say", .ref a2]) = S6 at k9 f9 ⊢
        refine ⟨by show 2 ≤ sizeLine; decide, fun a4 na4 => ?_⟩
        have k10 : Gr S6 (upd S6 a4 (.tup [.ref a1, .ref a3])) := Gr.new na4
        have f10 : upd S6 a4 (.tup [.ref a1, .ref a3]) a4 = some (.tup [.ref a1, .ref a3]) := upd_same
        generalize upd S6 a4 (.tup [.ref a1, .ref a3]) = S7 at k10 f10 ⊢
        have k910 := k9.trans k10
        have k810 := k8.trans k910
        have k710 := k7.trans k810
        have n1 : isN "a" = true := by decide +kernel
        have n2 : isN "b" = true := by decide +kernel
        have n3 : isN "ab" = true := by decide +kernel
        have n5 : isN "zz" = true := by decide +kernel
        have dN : Dp K S7 (.ref a4) (.tuple (([.l "a" "b" "ab" ((ns.take n4).map Ag.n), .s (.i 2)] : List Ro).map Ro.d)) := by
          refine .tup (.inl (.inl f10)) (.cons (.tup (.inl (.inl (k810.tup f7))) (.cons (.str _) (.cons (.str _) (.cons (.str _) (.cons (.str _) (.cons (k710.kd.dp dTa) .nil)))))) (.cons (dp_pair (k10.tup f9) (.str _) (dp_pair (k910.tup f8) (.str _) (.int _))) .nil))
        refine ⟨_, _, k710.kd.dp d46, dN, by simp only [List.length_map, List.length_cons, List.length_nil]; exact Nat.le_of_lt (small1000 (by omega)), fun v7 H7 g7 d7 => ?_⟩
        -- and one
        refine ⟨_, rfl, by show 2 ≤ sizeLine; decide, fun c1 nc1 => ?_⟩
        have j1 : Gr H7 (upd H7 c1 (.tup [.str "name", .str "zz"])) := Gr.new nc1
        have i1 : upd H7 c1 (.tup [.str "name", .str "zz"]) c1 = some (.tup [.str "name", .str "zz"]) := upd_same
        generalize upd H7 c1 (.tup [.str "name", .str "zz"]) = H8 at j1 i1 ⊢
        refine ⟨by show 2 ≤ sizeLine; decide, fun c2 nc2 => ?_⟩
        have j2 : Gr H8 (upd H8 c2 (.tup [.str "input", .int 1])) := Gr.new nc2
        have i2 : upd H8 c2 (.tup [.str "input", .int 1]) c2 = some (.tup [.str "input", .int 1]) := upd_same
        generalize upd H8 c2 (.tup [.str "input", .int 1]) = H9 at j2 i2 ⊢
        refine ⟨by show 2 ≤ sizeLine; decide, fun c3 nc3 => ?_⟩
        have j3 : Gr H9 (upd H9 c3 (.tup [.str "number", .int 8])) := Gr.new nc3
        have i3 : upd H9 c3 (.tup [.str "number", .int 8]) c3 = some (.tup [.str "number", .int 8]) := upd_same
        generalize upd H9 c3 (.tup [.str "number", .int 8]) = H10 at j3 i3 ⊢
        refine ⟨by show 5 ≤ sizeLine; decide, fun c4 nc4 => ?_⟩
        have j4 : Gr H10 (upd H10 c4 (.tup [.str "pick", .str "a", .ref c1, .ref c2, .ref c3])) := Gr.new nc4
        have i4 : upd H10 c4 (.tup [.str "pick", .str "a", .ref c1, .ref c2, .ref c3]) c4 = some (.tup [.str "pick", .str "a", .ref c1, .ref c2, .ref c3]) := upd_same
        generalize upd H10 c4 (.tup [.str "pick", .str "a", .ref c1, .ref c2, .ref c3]) = H11 at j4 i4 ⊢
        refine ⟨by show 1 ≤ sizeLine; decide, fun c5 nc5 => ?_⟩
        have j5 : Gr H11 (upd H11 c5 (.tup [.ref c4])) := Gr.new nc5
        have i5 : upd H11 c5 (.tup [.ref c4]) c5 = some (.tup [.ref c4]) := upd_same
        generalize upd H11 c5 (.tup [.ref c4]) = H12 at j5 i5 ⊢
        have j45 := j4.trans j5
        have j35 := j3.trans j45
        have j25 := j2.trans j35
        have j15 := j1.trans j25
        have dN2 : Dp K H12 (.ref c5) (.tuple (([.p "a" (.n "zz") (.i 1) (.u 8)] : List Ro).map Ro.d)) :=
          .tup (.inl (.inl i5)) (.cons (.tup (.inl (.inl (j5.tup i4))) (.cons (.str _) (.cons (.str _) (.cons (dp_pair (j25.tup i1) (.str _) (.str _)) (.cons (dp_pair (j35.tup i2) (.str _) (.int _)) (.cons (dp_pair (j45.tup i3) (.str _) (.int _)) .nil)))))) .nil)
        rw [← List.map_append] at d7
        refine ⟨_, _, j15.kd.dp d7, dN2, by simp only [List.length_map, List.length_append, List.length_cons, List.length_nil]; exact Nat.le_of_lt (small1000 (by omega)), fun v13 H13 g13 d13 => ?_⟩
        rw [← List.map_append] at d13
        have kE := k710.trans (g7.trans (j15.trans g13))
        refine un _ _ ⟨(r4 ++ [Ro.l "a" "b" "ab" ((ns.take n4).map Ag.n), Ro.s (.i 2)]) ++ [Ro.p "a" (.n "zz") (.i 1) (.u 8)], v13, _, rfl, t6.trans (Gp.gr kE), ((e4.gr k56).gr kE).mono (by omega), d13, ?_, ?_⟩
        · intro r hr
          rcases List.mem_append.mp hr with h | h
          · rcases List.mem_append.mp h with h | h
            · exact gr4 r h
            · simp only [List.mem_cons, List.not_mem_nil, or_false] at h
              rcases h with rfl | rfl
              · refine ⟨n1, n2, n3, ?_, fun a ha => ?_⟩
                · rw [List.length_map, List.length_take]
                  omega
                · obtain ⟨z, hz, rfl⟩ := List.mem_map.mp ha
                  exact nmn z (List.mem_of_mem_take hz)
              · exact ⟨by decide, by decide⟩
          · rw [List.mem_singleton.mp h]
            exact ⟨n1, n5, ⟨by decide, by decide⟩, ⟨by decide, by decide⟩⟩
        · simp only [List.length_append, List.length_cons, List.length_nil]
          omega
      · rw [decide_eq_false (fun z => c (V.int.inj z))]
        exact iteF (un _ _ ⟨r4, v4, _, rfl, t1, e1.mono (by omega), kt1.dp d4, gr4, by omega⟩)
    case vb =>
    rintro σ T ⟨r5, v5, y7, rfl, t5, e5, d5, gr5, l5⟩
    have kd5 : Kd K H4 T := dr4.kd t5
    have dU5 := kd5.dp dU4
    have dI5 := kd5.dp dI4
    have g5 := g24.trans t5
    clear d4 gr4 l4 kd5 dU4 dI4 g24 t5 dr4
    have us1 := go.u1
    dsimp only
    refine viaT (t := tIfS _ _ _) (fun σ S => ∃ (u6 : List Us) (v6 : V), σ = [some (.ref p), some (.ref q0), some v6, some (.ref qi), some v5, some (.int x1), some (.int x2), y7, none] ∧ Gp p T S ∧ Drw S p (B + 60) ∧ Dp K S v6 (.tuple (u6.map Us.d)) ∧ (∀ u ∈ u6, u ∈ pg.us) ∧ 1 ≤ u6.length ∧ u6.length ≤ 4) ?xa ?xb
    case xa =>
      intro U' ur un
      refine ⟨_, rfl, p, 2, _, rfl, e5, by omega, by decide, by decide, fun T1 y1 b1 e1 o0 o2 => ⟨rfl, _, rfl, ?_⟩⟩
      have t1 : Gp p T T1 := Gp.but b1
      have kt1 : Kd K T T1 := e5.kd t1
      by_cases c : y1 = 1
      · subst c
        rw [decide_eq_true rfl]
        have dU6 := kt1.dp dU5
        refine iteT ⟨_, rfl, _, rfl, 1, rfl, _, dU6, fun v1 S1 k1 d1 => ?_⟩
        rw [show (1 : Int) = ((1 : Nat) : Int) from rfl, cutD_til] at d1
        refine ⟨_, _, k1.kd.dp dU6, d1, by simp only [List.length_map, List.length_take]; exact Nat.le_of_lt (small1000 (by omega)), fun v2 S2 k2 d2 => ?_⟩
        rw [← List.map_append] at d2
        refine ⟨4, rfl, _, d2, fun v3 S3 k3 d3 => ?_⟩
        rw [show (4 : Int) = ((4 : Nat) : Int) from rfl, cutD_til] at d3
        have k13 := k1.trans (k2.trans k3)
        refine un _ _ ⟨(pg.us ++ pg.us.take 1).take 4, v3, rfl, t1.trans (Gp.gr k13), (e1.gr k13).mono (by omega), d3, ?_, ?_, ?_⟩
        · intro u hu
          rcases List.mem_append.mp (List.mem_of_mem_take hu) with h | h
          · exact h
          · exact List.mem_of_mem_take h
        · simp only [List.length_append, List.length_take]
          omega
        · simp only [List.length_append, List.length_take]
          omega
      · rw [decide_eq_false (fun z => c (V.int.inj z))]
        exact iteF (un _ _ ⟨pg.us, _, rfl, t1, e1.mono (by omega), kt1.dp dU5, fun u h => h, us1, by omega⟩)
    case xb =>
    rintro σ S ⟨u6, v6, rfl, t6, e6, d6, mu6, l61, l64⟩
    have kd6 : Kd K T S := e5.kd t6
    refine ⟨_, rfl, _, rfl, _, rfl, 30, rfl, _, kd6.dp d5, fun v7 S7 k7 d7 => ?_⟩
    rw [show (30 : Int) = ((30 : Nat) : Int) from rfl, cutD_til] at d7
    refine ⟨by show 3 ≤ sizeLine; decide, fun tt ntt => ?_⟩
    have k8 : Gr S7 (upd S7 tt (.tup [v6, .ref qi, v7])) := Gr.new ntt
    have k78 := k7.trans k8
    refine q _ (.ref tt) ⟨u6, pg.is, r5.take 30⟩ (g5.trans (t6.trans (Gp.gr k78))) ((e6.gr k78).mono (by omega)) (.tup (.inl (.inl upd_same)) (.cons (k78.kd.dp d6) (.cons (k78.kd.dp (kd6.dp dI5)) (.cons (k8.kd.dp d7) .nil)))) ?_
    exact ⟨l61, l64, fun u hu => go.uN u (mu6 u hu), go.i3, go.iN, by show (r5.take 30).length ≤ 30; rw [List.length_take]; omega, fun r hr => gr5 r (List.mem_of_mem_take hr)⟩
end
end SfC
/-! the law -/
namespace SfC
open PySem PySem.Spec PyProof.Rows L2 SfG
theorem orL {K : PySem.W.Frag} {σ : L2.St} {H : Hp} {Q : VK} {a : Addr} {ns : List Int} (hσ : σ[0]? = some (some (.ref a))) (hS : SqL K H a (ns.map V.int)) (hl : ns.length ≤ 63)
    (h : ∀ (b : Addr) (ms : List Int) (H1 : Hp), SqL K H1 b (ms.map V.int) → ms.length ≤ 63 → Q (.ref b) H1) : tOrT K (tVar 0) (tLst (tCons (tC (.int 7)) tNil)) σ H Q := by
  refine ⟨_, hσ, _, .inl ⟨_, hS, rfl⟩, ?_⟩
  cases ns with
  | nil => exact iteF ⟨by show 1 ≤ sizeLine; decide, fun p np => h p [7] _ (.inl (.inl upd_same)) (by decide)⟩
  | cons i r => exact iteT (h a (i :: r) H hS hl)
abbrev nLaw : List Str := ["_law_script", "_law_k", "_law_cell", "_law_state", "_law_program_here", "_law_other", "_law_bare", "_law_ahead", "_law_turn", "_law_one", "_law_found"]
theorem scLaw : FnScope nLaw ["_law_script"] (defScope sLaw) := ⟨rfl, rfl, rfl, by decide +kernel, rfl, by decide +kernel, by decide +kernel⟩
theorem go_bare {p : Pg} (h : goK' p) : goK' ⟨p.us, p.is, []⟩ :=
  ⟨⟨h.f.u1, h.f.u4, h.f.uN, h.f.i3, h.f.iN, Nat.zero_le _, fun r hr => by cases hr⟩, h.nd, fun _ => [], rfl, fun _ => Nat.zero_le _, fun i r hr => by simp at hr⟩
theorem sh_two {p p' : Pg} (h : goP p) (h' : goP p') : Sh (.list [p.d, p'.d]) 300000 9 := (Sh.lst (ShA.cons (sh_pg h) (ShA.cons (sh_pg h') ShA.nil))).mono (by decide) (by decide)
theorem dp_pg {K : PySem.W.Frag} {H : Hp} {v : V} {p : Pg} (h : Dp K H v p.d) : ∃ a, v = .ref a := by
  obtain ⟨a, _, e, _⟩ := dp_tup h
  exact ⟨a, e⟩
theorem sl2 : ¬ (HT.sIx 3 0 none = 0 ∧ HT.sIx 3 3 (some 2) = 3) := by
  have : HT.sIx 3 3 (some ((2 : Nat) : Int)) = min 2 3 := HT.sIx_nat 3 3 2
  intro h
  have h2 : HT.sIx 3 3 (some ((2 : Nat) : Int)) = 3 := h.2
  rw [this] at h2
  cases h2
section
variable {P : Program} {w : World} {K : PySem.W.Frag} {mg : Str → Option Value} {base : Heap}
def spLaw (K : PySem.W.Frag) : Sp := fun vs H Q _ => ∃ (a : Addr) (ns : List Int), vs = [.ref a] ∧ SqL K H a (ns.map V.int) ∧ ns.length ≤ 63 ∧ ∀ H', Q (.bl true) H'
structure Calls (P : Program) (w : World) (K : PySem.W.Frag) (mg : Str → Option Value) (base : Heap) (k : Nat) (fD fG fP fO fT fL fR : Addr) (dD dG dP dO dT dL dR : FuncData) : Prop where
  DR : Has P w K mg base k "_law_draw" ["_law_cell", "_law_k"] spDraw fD dD
  DG : Has P w K mg base k "_law_digit" ["_law_state", "_law_many"] spDigit fG dG
  PR : Has P w K mg base k "_law_program" ["_law_state", "_law_most"] (spProg K) fP dP
  FO : Has P w K mg base k "_law_by_form" ["_law_state", "_law_program_here"] (spForm K) fO dO
  PT : Has P w K mg base k "program_text" ["program"] (spProgT K) fT dT
  LT : Has P w K mg base k "_law_text" ["_law_program_here"] (spLText K) fL dL
  RP : Has P w K mg base k "read_program" ["text"] (spReadP K) fR dR
  me : mg "enumerate" = none
  mr : mg "range" = none
  mp : mg "repr" = none
set_option maxHeartbeats 8000000 in
theorem ok_law {f fD fG fP fO fT fL fR : Addr} {fd dD dG dP dO dT dL dR : FuncData} {k : Nat} (F : Fun K "law" "law" sLaw f fd) (C : Calls P w K mg base k fD fG fP fO fT fL fR dD dG dP dO dT dL dR) :
    FnG P w K mg base CX0 (k + 1) f fd ["_law_script"] (spLaw K) := by
  refine fng_of F scLaw (fun vs H Q E h => ?_) (fun cdv A outer s H vs Q E hr hgd h => ?_)
  · obtain ⟨a, ns, rfl, _⟩ := h
    rfl
  · obtain ⟨a, ns, rfl, hS, hlen, q⟩ := h
    have nd := scLaw.nd
    refine' ⟨_, pss_cons ?s1 (pss_one ?s2), ?rd⟩
    case s2 => exact ps_ret pe_bl
    case s1 =>
      refine' ps_for PassesOwn.never rfl (pi_enum (by rfl) C.me (pa_cons (pe_slice sl_list (pe_orT (pv 0) (pe_one (pe_lst (pa_cons pe_int pa_nil)))) po_none (po_some pe_int)) pa_nil))
        (pg_tup rfl (pgs_cons (pg_name (i := 1) nd rfl (.inl rfl)) (pgs_cons (pg_name (i := 2) nd rfl (.inl rfl)) pgs_nil)))
        (pss_cons ?b1 (pss_cons ?b2 (pss_cons ?b3 (pss_cons ?b4 (pss_cons ?b5 (pss_cons ?b6 (pss_one ?b7)))))))
      case b1 => exact ps_set (i := 3) nd rfl (.inl rfl) (hcall C.DR hr (pa_cons (pv 2) (pa_cons (pe_op op_add (pv 1) pe_int) pa_nil)))
      case b2 => exact ps_set (i := 4) nd rfl (.inl rfl) (hcall C.PR hr (pa_cons (pv 3) (pa_cons (pe_op op_add pe_int (hcall C.DG hr (pa_cons (pv 3) (pa_cons pe_int pa_nil)))) pa_nil)))
      case b3 => exact ps_set (i := 5) nd rfl (.inl rfl) (hcall C.FO hr (pa_cons (pv 3) (pa_cons (pv 4) pa_nil)))
      case b4 => exact ps_set (i := 6) nd rfl (.inl rfl) (pe_op op_catT (pe_slice sl_tup (pv 4) po_none (po_some pe_int)) (pe_tup (pa_cons (pe_tup pa_nil) pa_nil)))
      case b5 => exact ps_set (i := 7) nd rfl (.inl rfl) (pe_callB (call_reprA hr hgd) (by rfl) C.mp (by decide +kernel) (pa_cons (pe_lst (pa_cons (pv 4) (pa_cons (pv 5) pa_nil))) pa_nil))
      case b6 =>
        refine' ps_for PassesOwn.never rfl (pi_range1 (by rfl) C.mr (pa_cons pe_int pa_nil)) (pg_name (i := 8) nd rfl (.inl rfl)) (pss_cons ?c1 (pss_one ?c2))
        case c1 =>
          exact ps_if (PW.pt (pw_or (pt_cmpR op_ne (hcall C.PT hr (pa_cons (pv 4) pa_nil)) (hcall C.LT hr (pa_cons (pv 4) pa_nil)) (nomark _)) (pw_or1 (pt_cmpR op_ne (hcall C.PT hr (pa_cons (pv 6) pa_nil)) (hcall C.LT hr (pa_cons (pv 6) pa_nil)) (nomark _))))) pss_never pss_nil
        case c2 =>
          exact ps_for PassesOwn.never rfl (pi_tup (pe_tup (pa_cons (pv 5) (pa_cons (pv 4) (pa_cons (pv 6) pa_nil))))) (pg_name (i := 9) nd rfl (.inl rfl)) (pss_cons (ps_set (i := 10) nd rfl (.inl rfl) (hcall C.RP hr (pa_cons (hcall C.LT hr (pa_cons (pv 9) pa_nil)) pa_nil)))
            (pss_one (ps_if (pt_cmpR op_ne (pe_callB (call_reprA hr hgd) (by rfl) C.mp (by decide +kernel) (pa_cons (pv 10) pa_nil)) (pe_callB (call_reprA hr hgd) (by rfl) C.mp (by decide +kernel) (pa_cons (pv 9) pa_nil)) (nomark _)) pss_never pss_nil)))
      case b7 => exact ps_if (pt_cmpR op_ne (pe_callB (call_reprA hr hgd) (by rfl) C.mp (by decide +kernel) (pa_cons (pe_lst (pa_cons (pv 4) (pa_cons (pv 5) pa_nil))) pa_nil)) (pv 7) (nomark _)) pss_never pss_nil
    case rd =>
    -- the list that is walked
    show tOrT K (tVar 0) (tLst (tCons (tC (.int 7)) tNil)) _ H _
    refine orL (a := a) (ns := ns) rfl hS hlen ?_
    intro b ms H0 hb hm
    refine ⟨6, rfl, b, ms.map V.int, rfl, hb, fun el nel => ?_⟩
    have hints : ∀ x ∈ cutV (ms.map V.int) none (some 6), ∃ i, x = V.int i := by
      intro x hx
      unfold cutV at hx
      obtain ⟨i, _, e⟩ := List.mem_map.mp (List.mem_of_mem_drop (List.mem_of_mem_take hx))
      exact ⟨i, e.symm⟩
    have lxs : (cutV (ms.map V.int) none (some 6)).length ≤ 63 := by
      refine Nat.le_trans (cutV_length _ _ _) ?_
      rw [List.length_map]
      exact hm
    have hel : upd H0 el (.lst (cutV (ms.map V.int) none (some 6))) el = some (.lst (cutV (ms.map V.int) none (some 6))) := upd_same
    generalize upd H0 el (.lst (cutV (ms.map V.int) none (some 6))) = Hs at hel ⊢
    generalize cutV (ms.map V.int) none (some 6) = xs at hints lxs hel
    refine ⟨el, xs, rfl, .inl (.inl hel), for_it (walk_enum (xs := xs)) (fun i σ H1 => ∃ y1 y2 y3 y4 y5 y6 y7 y8 y9 y10 : Option V,
      σ = [some (.ref a), y1, y2, y3, y4, y5, y6, y7, y8, y9, y10] ∧ Gr Hs H1) ⟨none, none, none, none, none, none, none, none, none, none, rfl, Gr.refl _⟩ ?stays ?turn ?after⟩
    case stays =>
      rintro i σ H1 hi ⟨y1, y2, y3, y4, y5, y6, y7, y8, y9, y10, rfl, g⟩
      exact .inl (.inl (g.lst hel))
    case after =>
      rintro σ H1 ⟨y1, y2, y3, y4, y5, y6, y7, y8, y9, y10, rfl, g⟩
      exact q H1
    case turn =>
      rintro i x σ H1 H' hi ⟨y1, y2, y3, y4, y5, y6, y7, y8, y9, y10, rfl, g⟩ ⟨T, kx, cx, rfl, nT, rfl, ek, ec⟩
      cases ek
      obtain ⟨cell, rfl⟩ := hints _ (List.mem_of_getElem? ec)
      refine ⟨T, [.int (i : Nat), .int cell], rfl, .inl (.inl upd_same), rfl, .int (i : Nat), [.int cell], rfl, .int cell, [], rfl, rfl, ?_⟩
      have gT : Gr Hs (upd H1 T (.tup [.int (i : Nat), .int cell])) := g.trans (Gr.new nT)
      generalize upd H1 T (.tup [.int (i : Nat), .int cell]) = HT at gT ⊢
      -- the state, a program
      refine ⟨_, rfl, _, rfl, (i : Nat), 59, rfl, rfl, cell, _, rfl, by omega, by omega, fun H2 p np g2 dr => ?_⟩
      have nps : Hs p = none := gT.back p np
      have g02 : Gr Hs H2 := gT.trans g2
      replace dr : Drw H2 p 200 := dr.mono (by omega)
      clear np g2 gT nT
      refine ⟨_, rfl, _, rfl, p, 9, _, rfl, dr, by omega, by decide, by decide, fun H3 x3 b3 d3 z0 z9 => ⟨4, x3, rfl, rfl, ?_⟩⟩
      obtain ⟨m, em⟩ : ∃ m : Nat, 4 + x3 = (m : Int) := ⟨(4 + x3).toNat, by omega⟩
      refine ⟨p, m, _, (by show [V.ref p, V.int (4 + x3)] = [V.ref p, V.int (m : Int)]; rw [em]), by omega, d3, by omega, by omega, fun H4 v4 pg g4 d4 hv4 gk4 us3 rs24 => ?_⟩
      refine ⟨_, rfl, _, rfl, p, v4, pg, _, rfl, d4, by omega, by omega, hv4, gk4.f, us3, rs24, fun H5 v5 pg5 g5 d5 dv5 go5 => ?_⟩
      have hv5 := hv4.gp d4 g5
      have gp5 : Gp p H2 H5 := (Gp.but b3).trans (g4.trans g5)
      have gr5 : Gr Hs H5 := Gp.out g02 nps gp5
      clear b3 d3 g4 d4 hv4 g5 gp5 dr g02 nps d5
      obtain ⟨q0, qu, qi, qr, ps, rs, rfl, h1, h2, h3, h4, h5, h6⟩ := id hv5
      -- without rows
      refine ⟨_, rfl, 2, rfl, q0, _, rfl, h1, sl2, fun t1 nt1 => ?_⟩
      have ec2 : cutV [V.ref qu, .ref qi, .ref qr] none (some 2) = [.ref qu, .ref qi] := by
        rw [show (2 : Int) = ((2 : Nat) : Int) from rfl, cutV_at]
        rfl
      rw [ec2]
      have k1 : Gr H5 (upd H5 t1 (.tup [.ref qu, .ref qi])) := Gr.new nt1
      have e1 : upd H5 t1 (.tup [.ref qu, .ref qi]) t1 = some (.tup [.ref qu, .ref qi]) := upd_same
      generalize upd H5 t1 (.tup [.ref qu, .ref qi]) = H6 at k1 e1 ⊢
      refine ⟨Nat.zero_le _, fun t2 nt2 => ?_⟩
      have k2 : Gr H6 (upd H6 t2 (.tup [])) := Gr.new nt2
      have e2 : upd H6 t2 (.tup []) t2 = some (.tup []) := upd_same
      generalize upd H6 t2 (.tup []) = H7 at k2 e2 ⊢
      refine ⟨by show 1 ≤ sizeLine; decide, fun t3 nt3 => ?_⟩
      have k3 : Gr H7 (upd H7 t3 (.tup [.ref t2])) := Gr.new nt3
      have e3 : upd H7 t3 (.tup [.ref t2]) t3 = some (.tup [.ref t2]) := upd_same
      generalize upd H7 t3 (.tup [.ref t2]) = H8 at k3 e3 ⊢
      refine ⟨t1, t3, _, _, rfl, rfl, SqT.of ((k2.trans k3).tup e1), SqT.of e3, by simp, by show 2 + 1 ≤ sizeLine; decide, fun e => (by cases e), fun _ t4 nt4 => ?_⟩
      have k4 : Gr H8 (upd H8 t4 (.tup ([V.ref qu, .ref qi] ++ [.ref t2]))) := Gr.new nt4
      have e4 : upd H8 t4 (.tup ([V.ref qu, .ref qi] ++ [.ref t2])) t4 = some (.tup [.ref qu, .ref qi, .ref t2]) := upd_same
      generalize upd H8 t4 (.tup ([V.ref qu, .ref qi] ++ [.ref t2])) = H9 at k4 e4 ⊢
      have kA := k1.trans (k2.trans (k3.trans k4))
      have hb9 : PgV K H9 (.ref t4) ⟨pg.us, pg.is, []⟩ := ⟨t4, qu, qi, t2, ps, [], rfl, SqT.of e4, h2.gr kA, kA.kd.dpA h3, kA.sqt h4, SqT.of ((k3.trans k4).tup e2), .nil⟩
      have hv9 := hv5.gr kA
      have dv9 := kA.kd.dp dv5
      have gr9 := gr5.trans kA
      have gb := go_bare gk4
      obtain ⟨a5, rfl⟩ := dp_pg dv9
      clear hv5 dv5 gr5 kA k1 k2 k3 k4 e1 e2 e3 e4 h1 h2 h3 h4 h5 h6 nt1 nt2 nt3 nt4 ec2
      have s2 := sh_two gk4.f go5
      -- shown ahead
      refine ⟨_, rfl, _, rfl, by show 2 ≤ sizeLine; decide, fun l9 nl9 => ?_⟩
      have k10 : Gr H9 (upd H9 l9 (.lst [.ref q0, .ref a5])) := Gr.new nl9
      have e10 : upd H9 l9 (.lst [.ref q0, .ref a5]) l9 = some (.lst [.ref q0, .ref a5]) := upd_same
      generalize upd H9 l9 (.lst [.ref q0, .ref a5]) = H10 at k10 e10 ⊢
      have hv := hv9.gr k10
      have hb := hb9.gr k10
      have dv := k10.kd.dp dv9
      have gr10 := gr9.trans k10
      refine ⟨.ref l9, .list [pg.d, pg5.d], _, rfl, .lst (.inl (.inl e10)) (.cons hv.dp (.cons dv .nil)), .inr (.inr ⟨_, rfl⟩), s2.able, s2.nod, Nat.le_trans s2.dep (by decide), rfl, s2.fits (by decide), ?_⟩
      clear hv9 hb9 dv9 gr9 k10 e10 nl9
      -- two turns
      refine ⟨_, rfl, by decide, by decide, for_it (walk_range (lo := 0) (n := (2 : Int).toNat)) (fun j σ S => ∃ y8 y9 y10 : Option V, σ = [some (.ref a), some (.int (i : Nat)), some (.int cell), some (.ref p), some (.ref q0), some (.ref a5), some (.ref t4), some (.str (PyData.list [pg.d, pg5.d]).shown), y8, y9, y10] ∧ Gr H10 S)
        ⟨_, _, _, rfl, Gr.refl _⟩ (fun _ _ _ _ _ => trivial) ?w2 ?w3⟩
      case w2 =>
        rintro j x σ S S' hj ⟨y8, y9, y10, rfl, g⟩ ⟨rfl, rfl⟩
        have hvS := hv.gr g
        have hbS := hb.gr g
        have dvS := g.kd.dp dv
        refine ⟨_, rfl, .ref q0, pg, rfl, hvS, gk4, fun S1 g1 => ⟨_, rfl, .ref q0, pg, rfl, (hvS.gr g1).dp, gk4.f, fun S2 g2 => ?_⟩⟩
        have ne : ∀ (z : Str) (R S : Prop), S → (if (!decide (V.str z = V.str z)) = true then R else S) := by
          intro z R S h
          rw [decide_eq_true rfl]
          exact iteF h
        refine ⟨rfl, _, rfl, ne _ _ _ ?_⟩
        have g12 := g1.trans g2
        refine ⟨_, rfl, .ref t4, _, rfl, hbS.gr g12, gb, fun S3 g3 => ⟨_, rfl, .ref t4, _, rfl, ((hbS.gr g12).gr g3).dp, gb.f, fun S4 g4 => ?_⟩⟩
        refine ⟨rfl, _, rfl, ne _ _ _ ?_⟩
        have g14 := g12.trans (g3.trans g4)
        -- each is read
        refine ⟨_, rfl, _, rfl, _, rfl, by show 3 ≤ sizeLine; decide, fun t5 nt5 => ?_⟩
        have k5 : Gr S4 (upd S4 t5 (.tup [.ref a5, .ref q0, .ref t4])) := Gr.new nt5
        have e5 : upd S4 t5 (.tup [.ref a5, .ref q0, .ref t4]) t5 = some (.tup [.ref a5, .ref q0, .ref t4]) := upd_same
        generalize upd S4 t5 (.tup [.ref a5, .ref q0, .ref t4]) = S5 at k5 e5 ⊢
        have g5 := g.trans (g14.trans k5)
        refine ⟨t5, rfl, ⟨_, SqT.of e5⟩, for_it (walk_tup (xs := [V.ref a5, .ref q0, .ref t4])) (fun l σ S6 => ∃ y9 y10 : Option V, σ = [some (.ref a), some (.int (i : Nat)), some (.int cell), some (.ref p), some (.ref q0), some (.ref a5), some (.ref t4), some (.str (PyData.list [pg.d, pg5.d]).shown), some (.int (0 + (j : Nat))), y9, y10] ∧ Gr S5 S6)
          ⟨_, _, rfl, Gr.refl _⟩ ?x1 ?x2 ?x3⟩
        case x1 =>
          rintro l σ S6 hl ⟨y9, y10, rfl, g6⟩
          exact g6.sqt (SqT.of e5)
        case x3 =>
          rintro σ S6 ⟨y9, y10, rfl, g6⟩
          exact ⟨_, _, _, rfl, g5.trans g6⟩
        case x2 =>
          rintro l v σ S6 S6' hl ⟨y9, y10, rfl, g6⟩ ⟨rfl, hx⟩
          have g06 := g5.trans g6
          obtain ⟨pz, goz, a', rfl, dz⟩ : ∃ pz : Pg, goP pz ∧ ∃ a', v = .ref a' ∧ Dp K S6' (.ref a') pz.d := by
            have hx' : ([V.ref a5, .ref q0, .ref t4] : List V)[l]? = some v := hx
            have c : l = 0 ∨ l = 1 ∨ l = 2 := by
              have : l < 3 := hl
              omega
            rcases c with rfl | rfl | rfl
            · cases hx'
              exact ⟨pg5, go5, a5, rfl, g06.kd.dp dv⟩
            · cases hx'
              exact ⟨pg, gk4.f, q0, rfl, (hv.gr g06).dp⟩
            · cases hx'
              exact ⟨_, gb.f, t4, rfl, (hb.gr g06).dp⟩
          refine ⟨_, rfl, .ref a', pz, rfl, dz, goz, fun S7 g7 => ⟨pz, rfl, goz, fun S8 v8 g8 d8 => ?_⟩⟩
          have sp := sh_pg goz
          obtain ⟨a8, rfl⟩ := dp_pg d8
          refine ⟨_, rfl, .ref a8, pz.d, _, rfl, d8, .inr (.inr ⟨_, rfl⟩), sp.able, sp.nod, Nat.le_trans sp.dep (by decide), rfl, sp.fits (by decide), ?_⟩
          refine ⟨_, rfl, .ref a', pz.d, _, rfl, (g7.trans g8).kd.dp dz, .inr (.inr ⟨_, rfl⟩), sp.able, sp.nod, Nat.le_trans sp.dep (by decide), rfl, sp.fits (by decide), ?_⟩
          refine ⟨rfl, _, rfl, ne _ _ _ ?_⟩
          exact ⟨_, _, rfl, g6.trans (g7.trans g8)⟩
      case w3 =>
        rintro σ S ⟨y8, y9, y10, rfl, g⟩
        refine ⟨_, rfl, _, rfl, by show 2 ≤ sizeLine; decide, fun l9 nl9 => ?_⟩
        have k10 : Gr S (upd S l9 (.lst [.ref q0, .ref a5])) := Gr.new nl9
        have e10 : upd S l9 (.lst [.ref q0, .ref a5]) l9 = some (.lst [.ref q0, .ref a5]) := upd_same
        generalize upd S l9 (.lst [.ref q0, .ref a5]) = S2 at k10 e10 ⊢
        have gA := g.trans k10
        refine ⟨.ref l9, .list [pg.d, pg5.d], _, rfl, .lst (.inl (.inl e10)) (.cons (hv.gr gA).dp (.cons (gA.kd.dp dv) .nil)), .inr (.inr ⟨_, rfl⟩), s2.able, s2.nod, Nat.le_trans s2.dep (by decide), rfl, s2.fits (by decide), ?_⟩
        refine ⟨_, rfl, rfl, _, rfl, ?_⟩
        have ne : ∀ (z : Str) (R S : Prop), S → (if (!decide (V.str z = V.str z)) = true then R else S) := by
          intro z R S h
          rw [decide_eq_true rfl]
          exact iteF h
        refine ne _ _ _ ?_
        exact ⟨_, _, _, _, _, _, _, _, _, _, rfl, gr10.trans gA⟩
end
end SfC
namespace SfC
open PySem PySem.Spec PyProof.Rows L2 SfG
theorem sizes_of {e1 e2 e3 : DictEntry} {t1 t2 t3 t4 t5 t6 : Tok} (k1 : e1.key = .str "let" t1) (k2 : e2.key = .str "pick" t2) (k3 : e3.key = .str "say" t3)
    (v1 : e1.val = .int 4 t4) (v2 : e2.val = .int 4 t5) (v3 : e3.val = .int 1 t6) : ∀ z, RelO (rsz z) (findBy Value.isStrOf #[e1, e2, e3] z) := by
  intro z
  have p1 : Value.isStrOf z e1.key = (("let" : Str) == z) := by rw [k1]; rfl
  have p2 : Value.isStrOf z e2.key = (("pick" : Str) == z) := by rw [k2]; rfl
  have p3 : Value.isStrOf z e3.key = (("say" : Str) == z) := by rw [k3]; rfl
  have ne : ∀ {y : Str}, ¬ z = y → (y == z) = false := fun h => beq_eq_false_iff_ne.mpr fun e => h e.symm
  have eq : ∀ {y : Str}, z = y → (y == z) = true := fun h => by rw [h]; exact beq_self_eq_true _
  unfold rsz findBy
  rw [List.find?_toArray, List.find?_cons, p1]
  by_cases c1 : z = "let"
  · rw [if_pos c1, eq c1]
    show RelO _ (some e1.val)
    rw [v1]
    exact ⟨_, rfl⟩
  rw [if_neg c1, ne c1, List.find?_cons, p2]
  by_cases c2 : z = "pick"
  · rw [if_pos c2, eq c2]
    show RelO _ (some e2.val)
    rw [v2]
    exact ⟨_, rfl⟩
  rw [if_neg c2, ne c2, List.find?_cons, p3]
  by_cases c3 : z = "say"
  · rw [if_pos c3, eq c3]
    show RelO _ (some e3.val)
    rw [v3]
    exact ⟨_, rfl⟩
  rw [if_neg c3, ne c3]
  exact trivial
set_option maxHeartbeats 4000000 in
theorem all_mk {l : PySem.W.OpenLaw} {w : World} {K : PySem.W.Frag} {h : Heap} {mg : Str → Option Value} {fa : Addr} (X : K.In h) (G : h.Ns mainGlobals mg) (hfa : mg "law" = some (.ref fa))
    {fWh : Addr} {odWh anWh : Option Addr} {slWh : Array (Option Value)} {ocWh kVWh dcWh pmWh ctWh cdWh : Value}
    (aWh : PySem.W.nsIn K mainGlobals "is_whole" = some (some (.ref fWh))) (lWh : K.lookup fWh = some ⟨ocWh, odWh, .func (PySem.W.fnOf "is_whole" "is_whole" (defArgs sWhole) (defBody sWhole) (defScope sWhole) .none kVWh dcWh pmWh anWh cdWh ctWh), slWh⟩) (hWh : PySem.W.codeIn K cdWh "is_whole" = true) (kWh : PySem.W.keepIn K (.ref fWh) = true)
    {fAm : Addr} {odAm anAm : Option Addr} {slAm : Array (Option Value)} {ocAm kVAm dcAm pmAm ctAm cdAm : Value}
    (aAm : PySem.W.nsIn K mainGlobals "is_among" = some (some (.ref fAm))) (lAm : K.lookup fAm = some ⟨ocAm, odAm, .func (PySem.W.fnOf "is_among" "is_among" (defArgs sAmong) (defBody sAmong) (defScope sAmong) .none kVAm dcAm pmAm anAm cdAm ctAm), slAm⟩) (hAm : PySem.W.codeIn K cdAm "is_among" = true) (kAm : PySem.W.keepIn K (.ref fAm) = true)
    {fTu : Addr} {odTu anTu : Option Addr} {slTu : Array (Option Value)} {ocTu kVTu dcTu pmTu ctTu cdTu : Value}
    (aTu : PySem.W.nsIn K mainGlobals "is_tuple_of" = some (some (.ref fTu))) (lTu : K.lookup fTu = some ⟨ocTu, odTu, .func (PySem.W.fnOf "is_tuple_of" "is_tuple_of" (defArgs sTupOf) (defBody sTupOf) (defScope sTupOf) .none kVTu dcTu pmTu anTu cdTu ctTu), slTu⟩) (hTu : PySem.W.codeIn K cdTu "is_tuple_of" = true) (kTu : PySem.W.keepIn K (.ref fTu) = true)
    {fA : Addr} {odA anA : Option Addr} {slA : Array (Option Value)} {ocA kVA dcA pmA ctA cdA : Value}
    (aA : PySem.W.nsIn K mainGlobals "is_name" = some (some (.ref fA))) (lA : K.lookup fA = some ⟨ocA, odA, .func (PySem.W.fnOf "is_name" "is_name" (defArgs sName) (defBody sName) (defScope sName) .none kVA dcA pmA anA cdA ctA), slA⟩) (hA : PySem.W.codeIn K cdA "is_name" = true) (kA : PySem.W.keepIn K (.ref fA) = true)
    {fNx : Addr} {odNx anNx : Option Addr} {slNx : Array (Option Value)} {ocNx kVNx dcNx pmNx ctNx cdNx : Value}
    (aNx : PySem.W.nsIn K mainGlobals "is_next_name" = some (some (.ref fNx))) (lNx : K.lookup fNx = some ⟨ocNx, odNx, .func (PySem.W.fnOf "is_next_name" "is_next_name" (defArgs sNextN) (defBody sNextN) (defScope sNextN) .none kVNx dcNx pmNx anNx cdNx ctNx), slNx⟩) (hNx : PySem.W.codeIn K cdNx "is_next_name" = true) (kNx : PySem.W.keepIn K (.ref fNx) = true)
    {fFg : Addr} {odFg anFg : Option Addr} {slFg : Array (Option Value)} {ocFg kVFg dcFg pmFg ctFg cdFg : Value}
    (aFg : PySem.W.nsIn K mainGlobals "number_by_figures" = some (some (.ref fFg))) (lFg : K.lookup fFg = some ⟨ocFg, odFg, .func (PySem.W.fnOf "number_by_figures" "number_by_figures" (defArgs sFigs) (defBody sFigs) (defScope sFigs) .none kVFg dcFg pmFg anFg cdFg ctFg), slFg⟩) (hFg : PySem.W.codeIn K cdFg "number_by_figures" = true) (kFg : PySem.W.keepIn K (.ref fFg) = true)
    {fNu : Addr} {odNu anNu : Option Addr} {slNu : Array (Option Value)} {ocNu kVNu dcNu pmNu ctNu cdNu : Value}
    (aNu : PySem.W.nsIn K mainGlobals "number_of" = some (some (.ref fNu))) (lNu : K.lookup fNu = some ⟨ocNu, odNu, .func (PySem.W.fnOf "number_of" "number_of" (defArgs sNum) (defBody sNum) (defScope sNum) .none kVNu dcNu pmNu anNu cdNu ctNu), slNu⟩) (hNu : PySem.W.codeIn K cdNu "number_of" = true) (kNu : PySem.W.keepIn K (.ref fNu) = true)
    {fWo : Addr} {odWo anWo : Option Addr} {slWo : Array (Option Value)} {ocWo kVWo dcWo pmWo ctWo cdWo : Value}
    (aWo : PySem.W.nsIn K mainGlobals "words_of" = some (some (.ref fWo))) (lWo : K.lookup fWo = some ⟨ocWo, odWo, .func (PySem.W.fnOf "words_of" "words_of" (defArgs sWords) (defBody sWords) (defScope sWords) .none kVWo dcWo pmWo anWo cdWo ctWo), slWo⟩) (hWo : PySem.W.codeIn K cdWo "words_of" = true) (kWo : PySem.W.keepIn K (.ref fWo) = true)
    {fB : Addr} {odB anB : Option Addr} {slB : Array (Option Value)} {ocB kVB dcB pmB ctB cdB : Value}
    (aB : PySem.W.nsIn K mainGlobals "is_kind" = some (some (.ref fB))) (lB : K.lookup fB = some ⟨ocB, odB, .func (PySem.W.fnOf "is_kind" "is_kind" (defArgs sKind) (defBody sKind) (defScope sKind) .none kVB dcB pmB anB cdB ctB), slB⟩) (hB : PySem.W.codeIn K cdB "is_kind" = true) (kB : PySem.W.keepIn K (.ref fB) = true)
    {fC : Addr} {odC anC : Option Addr} {slC : Array (Option Value)} {ocC kVC dcC pmC ctC cdC : Value}
    (aC : PySem.W.nsIn K mainGlobals "first_bad_deed" = some (some (.ref fC))) (lC : K.lookup fC = some ⟨ocC, odC, .func (PySem.W.fnOf "first_bad_deed" "first_bad_deed" (defArgs sBadD) (defBody sBadD) (defScope sBadD) .none kVC dcC pmC anC cdC ctC), slC⟩) (hC : PySem.W.codeIn K cdC "first_bad_deed" = true) (kC : PySem.W.keepIn K (.ref fC) = true)
    {fAt : Addr} {odAt anAt : Option Addr} {slAt : Array (Option Value)} {ocAt kVAt dcAt pmAt ctAt cdAt : Value}
    (aAt : PySem.W.nsIn K mainGlobals "are_takes" = some (some (.ref fAt))) (lAt : K.lookup fAt = some ⟨ocAt, odAt, .func (PySem.W.fnOf "are_takes" "are_takes" (defArgs sAreT) (defBody sAreT) (defScope sAreT) .none kVAt dcAt pmAt anAt cdAt ctAt), slAt⟩) (hAt : PySem.W.codeIn K cdAt "are_takes" = true) (kAt : PySem.W.keepIn K (.ref fAt) = true)
    {fD : Addr} {odD anD : Option Addr} {slD : Array (Option Value)} {ocD kVD dcD pmD ctD cdD : Value}
    (aD : PySem.W.nsIn K mainGlobals "first_bad_hidden" = some (some (.ref fD))) (lD : K.lookup fD = some ⟨ocD, odD, .func (PySem.W.fnOf "first_bad_hidden" "first_bad_hidden" (defArgs sBadH) (defBody sBadH) (defScope sBadH) .none kVD dcD pmD anD cdD ctD), slD⟩) (hD : PySem.W.codeIn K cdD "first_bad_hidden" = true) (kD : PySem.W.keepIn K (.ref fD) = true)
    {fE : Addr} {odE anE : Option Addr} {slE : Array (Option Value)} {ocE kVE dcE pmE ctE cdE : Value}
    (aE : PySem.W.nsIn K mainGlobals "face_fault" = some (some (.ref fE))) (lE : K.lookup fE = some ⟨ocE, odE, .func (PySem.W.fnOf "face_fault" "face_fault" (defArgs sFault) (defBody sFault) (defScope sFault) .none kVE dcE pmE anE cdE ctE), slE⟩) (hE : PySem.W.codeIn K cdE "face_fault" = true) (kE : PySem.W.keepIn K (.ref fE) = true)
    {fIf : Addr} {odIf anIf : Option Addr} {slIf : Array (Option Value)} {ocIf kVIf dcIf pmIf ctIf cdIf : Value}
    (aIf : PySem.W.nsIn K mainGlobals "is_face" = some (some (.ref fIf))) (lIf : K.lookup fIf = some ⟨ocIf, odIf, .func (PySem.W.fnOf "is_face" "is_face" (defArgs sIsF) (defBody sIsF) (defScope sIsF) .none kVIf dcIf pmIf anIf cdIf ctIf), slIf⟩) (hIf : PySem.W.codeIn K cdIf "is_face" = true) (kIf : PySem.W.keepIn K (.ref fIf) = true)
    {fFd : Addr} {odFd anFd : Option Addr} {slFd : Array (Option Value)} {ocFd kVFd dcFd pmFd ctFd cdFd : Value}
    (aFd : PySem.W.nsIn K mainGlobals "find_deed" = some (some (.ref fFd))) (lFd : K.lookup fFd = some ⟨ocFd, odFd, .func (PySem.W.fnOf "find_deed" "find_deed" (defArgs sFind) (defBody sFind) (defScope sFind) .none kVFd dcFd pmFd anFd cdFd ctFd), slFd⟩) (hFd : PySem.W.codeIn K cdFd "find_deed" = true) (kFd : PySem.W.keepIn K (.ref fFd) = true)
    {fRo : Addr} {odRo anRo : Option Addr} {slRo : Array (Option Value)} {ocRo kVRo dcRo pmRo ctRo cdRo : Value}
    (aRo : PySem.W.nsIn K mainGlobals "rows_of" = some (some (.ref fRo))) (lRo : K.lookup fRo = some ⟨ocRo, odRo, .func (PySem.W.fnOf "rows_of" "rows_of" (defArgs sRowsOf) (defBody sRowsOf) (defScope sRowsOf) .none kVRo dcRo pmRo anRo cdRo ctRo), slRo⟩) (hRo : PySem.W.codeIn K cdRo "rows_of" = true) (kRo : PySem.W.keepIn K (.ref fRo) = true)
    {fRa : Addr} {odRa anRa : Option Addr} {slRa : Array (Option Value)} {ocRa kVRa dcRa pmRa ctRa cdRa : Value}
    (aRa : PySem.W.nsIn K mainGlobals "row_at" = some (some (.ref fRa))) (lRa : K.lookup fRa = some ⟨ocRa, odRa, .func (PySem.W.fnOf "row_at" "row_at" (defArgs sRowAt) (defBody sRowAt) (defScope sRowAt) .none kVRa dcRa pmRa anRa cdRa ctRa), slRa⟩) (hRa : PySem.W.codeIn K cdRa "row_at" = true) (kRa : PySem.W.keepIn K (.ref fRa) = true)
    {fNm : Addr} {odNm anNm : Option Addr} {slNm : Array (Option Value)} {ocNm kVNm dcNm pmNm ctNm cdNm : Value}
    (aNm : PySem.W.nsIn K mainGlobals "need_no_more" = some (some (.ref fNm))) (lNm : K.lookup fNm = some ⟨ocNm, odNm, .func (PySem.W.fnOf "need_no_more" "need_no_more" (defArgs sNoMore) (defBody sNoMore) (defScope sNoMore) .none kVNm dcNm pmNm anNm cdNm ctNm), slNm⟩) (hNm : PySem.W.codeIn K cdNm "need_no_more" = true) (kNm : PySem.W.keepIn K (.ref fNm) = true)
    {fDr : Addr} {odDr anDr : Option Addr} {slDr : Array (Option Value)} {ocDr kVDr dcDr pmDr ctDr cdDr : Value}
    (aDr : PySem.W.nsIn K mainGlobals "deed_row" = some (some (.ref fDr))) (lDr : K.lookup fDr = some ⟨ocDr, odDr, .func (PySem.W.fnOf "deed_row" "deed_row" (defArgs sDeedRow) (defBody sDeedRow) (defScope sDeedRow) .none kVDr dcDr pmDr anDr cdDr ctDr), slDr⟩) (hDr : PySem.W.codeIn K cdDr "deed_row" = true) (kDr : PySem.W.keepIn K (.ref fDr) = true)
    {fFr : Addr} {odFr anFr : Option Addr} {slFr : Array (Option Value)} {ocFr kVFr dcFr pmFr ctFr cdFr : Value}
    (aFr : PySem.W.nsIn K mainGlobals "face_rows" = some (some (.ref fFr))) (lFr : K.lookup fFr = some ⟨ocFr, odFr, .func (PySem.W.fnOf "face_rows" "face_rows" (defArgs sFaceRows) (defBody sFaceRows) (defScope sFaceRows) .none kVFr dcFr pmFr anFr cdFr ctFr), slFr⟩) (hFr : PySem.W.codeIn K cdFr "face_rows" = true) (kFr : PySem.W.keepIn K (.ref fFr) = true)
    {fRh : Addr} {odRh anRh : Option Addr} {slRh : Array (Option Value)} {ocRh kVRh dcRh pmRh ctRh cdRh : Value}
    (aRh : PySem.W.nsIn K mainGlobals "read_hidden" = some (some (.ref fRh))) (lRh : K.lookup fRh = some ⟨ocRh, odRh, .func (PySem.W.fnOf "read_hidden" "read_hidden" (defArgs sReadH) (defBody sReadH) (defScope sReadH) .none kVRh dcRh pmRh anRh cdRh ctRh), slRh⟩) (hRh : PySem.W.codeIn K cdRh "read_hidden" = true) (kRh : PySem.W.keepIn K (.ref fRh) = true)
    {fKb : Addr} {odKb anKb : Option Addr} {slKb : Array (Option Value)} {ocKb kVKb dcKb pmKb ctKb cdKb : Value}
    (aKb : PySem.W.nsIn K mainGlobals "kind_by" = some (some (.ref fKb))) (lKb : K.lookup fKb = some ⟨ocKb, odKb, .func (PySem.W.fnOf "kind_by" "kind_by" (defArgs sKindBy) (defBody sKindBy) (defScope sKindBy) .none kVKb dcKb pmKb anKb cdKb ctKb), slKb⟩) (hKb : PySem.W.codeIn K cdKb "kind_by" = true) (kKb : PySem.W.keepIn K (.ref fKb) = true)
    {fRt : Addr} {odRt anRt : Option Addr} {slRt : Array (Option Value)} {ocRt kVRt dcRt pmRt ctRt cdRt : Value}
    (aRt : PySem.W.nsIn K mainGlobals "read_takes" = some (some (.ref fRt))) (lRt : K.lookup fRt = some ⟨ocRt, odRt, .func (PySem.W.fnOf "read_takes" "read_takes" (defArgs sReadT) (defBody sReadT) (defScope sReadT) .none kVRt dcRt pmRt anRt cdRt ctRt), slRt⟩) (hRt : PySem.W.codeIn K cdRt "read_takes" = true) (kRt : PySem.W.keepIn K (.ref fRt) = true)
    {fRd : Addr} {odRd anRd : Option Addr} {slRd : Array (Option Value)} {ocRd kVRd dcRd pmRd ctRd cdRd : Value}
    (aRd : PySem.W.nsIn K mainGlobals "read_deed" = some (some (.ref fRd))) (lRd : K.lookup fRd = some ⟨ocRd, odRd, .func (PySem.W.fnOf "read_deed" "read_deed" (defArgs sReadD) (defBody sReadD) (defScope sReadD) .none kVRd dcRd pmRd anRd cdRd ctRd), slRd⟩) (hRd : PySem.W.codeIn K cdRd "read_deed" = true) (kRd : PySem.W.keepIn K (.ref fRd) = true)
    {fRf : Addr} {odRf anRf : Option Addr} {slRf : Array (Option Value)} {ocRf kVRf dcRf pmRf ctRf cdRf : Value}
    (aRf : PySem.W.nsIn K mainGlobals "read_face_behind" = some (some (.ref fRf))) (lRf : K.lookup fRf = some ⟨ocRf, odRf, .func (PySem.W.fnOf "read_face_behind" "read_face_behind" (defArgs sReadFB) (defBody sReadFB) (defScope sReadFB) .none kVRf dcRf pmRf anRf cdRf ctRf), slRf⟩) (hRf : PySem.W.codeIn K cdRf "read_face_behind" = true) (kRf : PySem.W.keepIn K (.ref fRf) = true)
    {fIa : Addr} {odIa anIa : Option Addr} {slIa : Array (Option Value)} {ocIa kVIa dcIa pmIa ctIa cdIa : Value}
    (aIa : PySem.W.nsIn K mainGlobals "is_arg" = some (some (.ref fIa))) (lIa : K.lookup fIa = some ⟨ocIa, odIa, .func (PySem.W.fnOf "is_arg" "is_arg" (defArgs sIsArg) (defBody sIsArg) (defScope sIsArg) .none kVIa dcIa pmIa anIa cdIa ctIa), slIa⟩) (hIa : PySem.W.codeIn K cdIa "is_arg" = true) (kIa : PySem.W.keepIn K (.ref fIa) = true)
    {fRg : Addr} {odRg anRg : Option Addr} {slRg : Array (Option Value)} {ocRg kVRg dcRg pmRg ctRg cdRg : Value}
    (aRg : PySem.W.nsIn K mainGlobals "is_row_of_things" = some (some (.ref fRg))) (lRg : K.lookup fRg = some ⟨ocRg, odRg, .func (PySem.W.fnOf "is_row_of_things" "is_row_of_things" (defArgs sRowOf) (defBody sRowOf) (defScope sRowOf) .none kVRg dcRg pmRg anRg cdRg ctRg), slRg⟩) (hRg : PySem.W.codeIn K cdRg "is_row_of_things" = true) (kRg : PySem.W.keepIn K (.ref fRg) = true)
    {fBu : Addr} {odBu anBu : Option Addr} {slBu : Array (Option Value)} {ocBu kVBu dcBu pmBu ctBu cdBu : Value}
    (aBu : PySem.W.nsIn K mainGlobals "first_bad_use" = some (some (.ref fBu))) (lBu : K.lookup fBu = some ⟨ocBu, odBu, .func (PySem.W.fnOf "first_bad_use" "first_bad_use" (defArgs sBadUse) (defBody sBadUse) (defScope sBadUse) .none kVBu dcBu pmBu anBu cdBu ctBu), slBu⟩) (hBu : PySem.W.codeIn K cdBu "first_bad_use" = true) (kBu : PySem.W.keepIn K (.ref fBu) = true)
    {fBi : Addr} {odBi anBi : Option Addr} {slBi : Array (Option Value)} {ocBi kVBi dcBi pmBi ctBi cdBi : Value}
    (aBi : PySem.W.nsIn K mainGlobals "first_bad_input" = some (some (.ref fBi))) (lBi : K.lookup fBi = some ⟨ocBi, odBi, .func (PySem.W.fnOf "first_bad_input" "first_bad_input" (defArgs sBadInp) (defBody sBadInp) (defScope sBadInp) .none kVBi dcBi pmBi anBi cdBi ctBi), slBi⟩) (hBi : PySem.W.codeIn K cdBi "first_bad_input" = true) (kBi : PySem.W.keepIn K (.ref fBi) = true)
    {fNp : Addr} {odNp anNp : Option Addr} {slNp : Array (Option Value)} {ocNp kVNp dcNp pmNp ctNp cdNp : Value}
    (aNp : PySem.W.nsIn K mainGlobals "need_parts" = some (some (.ref fNp))) (lNp : K.lookup fNp = some ⟨ocNp, odNp, .func (PySem.W.fnOf "need_parts" "need_parts" (defArgs sParts) (defBody sParts) (defScope sParts) .none kVNp dcNp pmNp anNp cdNp ctNp), slNp⟩) (hNp : PySem.W.codeIn K cdNp "need_parts" = true) (kNp : PySem.W.keepIn K (.ref fNp) = true)
    {fKn : Addr} {odKn anKn : Option Addr} {slKn : Array (Option Value)} {ocKn kVKn dcKn pmKn ctKn cdKn : Value}
    (aKn : PySem.W.nsIn K mainGlobals "kinds_by_name" = some (some (.ref fKn))) (lKn : K.lookup fKn = some ⟨ocKn, odKn, .func (PySem.W.fnOf "kinds_by_name" "kinds_by_name" (defArgs sKindsBN) (defBody sKindsBN) (defScope sKindsBN) .none kVKn dcKn pmKn anKn cdKn ctKn), slKn⟩) (hKn : PySem.W.codeIn K cdKn "kinds_by_name" = true) (kKn : PySem.W.keepIn K (.ref fKn) = true)
    {fNe : Addr} {odNe anNe : Option Addr} {slNe : Array (Option Value)} {ocNe kVNe dcNe pmNe ctNe cdNe : Value}
    (aNe : PySem.W.nsIn K mainGlobals "need_program" = some (some (.ref fNe))) (lNe : K.lookup fNe = some ⟨ocNe, odNe, .func (PySem.W.fnOf "need_program" "need_program" (defArgs sNeedP) (defBody sNeedP) (defScope sNeedP) .none kVNe dcNe pmNe anNe cdNe ctNe), slNe⟩) (hNe : PySem.W.codeIn K cdNe "need_program" = true) (kNe : PySem.W.keepIn K (.ref fNe) = true)
    {fAx : Addr} {odAx anAx : Option Addr} {slAx : Array (Option Value)} {ocAx kVAx dcAx pmAx ctAx cdAx : Value}
    (aAx : PySem.W.nsIn K mainGlobals "arg_text" = some (some (.ref fAx))) (lAx : K.lookup fAx = some ⟨ocAx, odAx, .func (PySem.W.fnOf "arg_text" "arg_text" (defArgs sArgText) (defBody sArgText) (defScope sArgText) .none kVAx dcAx pmAx anAx cdAx ctAx), slAx⟩) (hAx : PySem.W.codeIn K cdAx "arg_text" = true) (kAx : PySem.W.keepIn K (.ref fAx) = true)
    {fRx : Addr} {odRx anRx : Option Addr} {slRx : Array (Option Value)} {ocRx kVRx dcRx pmRx ctRx cdRx : Value}
    (aRx : PySem.W.nsIn K mainGlobals "row_text" = some (some (.ref fRx))) (lRx : K.lookup fRx = some ⟨ocRx, odRx, .func (PySem.W.fnOf "row_text" "row_text" (defArgs sRowText) (defBody sRowText) (defScope sRowText) .none kVRx dcRx pmRx anRx cdRx ctRx), slRx⟩) (hRx : PySem.W.codeIn K cdRx "row_text" = true) (kRx : PySem.W.keepIn K (.ref fRx) = true)
    {fPx : Addr} {odPx anPx : Option Addr} {slPx : Array (Option Value)} {ocPx kVPx dcPx pmPx ctPx cdPx : Value}
    (aPx : PySem.W.nsIn K mainGlobals "program_text" = some (some (.ref fPx))) (lPx : K.lookup fPx = some ⟨ocPx, odPx, .func (PySem.W.fnOf "program_text" "program_text" (defArgs sProgText) (defBody sProgText) (defScope sProgText) .none kVPx dcPx pmPx anPx cdPx ctPx), slPx⟩) (hPx : PySem.W.codeIn K cdPx "program_text" = true) (kPx : PySem.W.keepIn K (.ref fPx) = true)
    {fEf : Addr} {odEf anEf : Option Addr} {slEf : Array (Option Value)} {ocEf kVEf dcEf pmEf ctEf cdEf : Value}
    (aEf : PySem.W.nsIn K mainGlobals "end_of_face" = some (some (.ref fEf))) (lEf : K.lookup fEf = some ⟨ocEf, odEf, .func (PySem.W.fnOf "end_of_face" "end_of_face" (defArgs sEndF) (defBody sEndF) (defScope sEndF) .none kVEf dcEf pmEf anEf cdEf ctEf), slEf⟩) (hEf : PySem.W.codeIn K cdEf "end_of_face" = true) (kEf : PySem.W.keepIn K (.ref fEf) = true)
    {fRu : Addr} {odRu anRu : Option Addr} {slRu : Array (Option Value)} {ocRu kVRu dcRu pmRu ctRu cdRu : Value}
    (aRu : PySem.W.nsIn K mainGlobals "read_use" = some (some (.ref fRu))) (lRu : K.lookup fRu = some ⟨ocRu, odRu, .func (PySem.W.fnOf "read_use" "read_use" (defArgs sReadU) (defBody sReadU) (defScope sReadU) .none kVRu dcRu pmRu anRu cdRu ctRu), slRu⟩) (hRu : PySem.W.codeIn K cdRu "read_use" = true) (kRu : PySem.W.keepIn K (.ref fRu) = true)
    {fRs : Addr} {odRs anRs : Option Addr} {slRs : Array (Option Value)} {ocRs kVRs dcRs pmRs ctRs cdRs : Value}
    (aRs : PySem.W.nsIn K mainGlobals "read_uses" = some (some (.ref fRs))) (lRs : K.lookup fRs = some ⟨ocRs, odRs, .func (PySem.W.fnOf "read_uses" "read_uses" (defArgs sReadUs) (defBody sReadUs) (defScope sReadUs) .none kVRs dcRs pmRs anRs cdRs ctRs), slRs⟩) (hRs : PySem.W.codeIn K cdRs "read_uses" = true) (kRs : PySem.W.keepIn K (.ref fRs) = true)
    {fRi : Addr} {odRi anRi : Option Addr} {slRi : Array (Option Value)} {ocRi kVRi dcRi pmRi ctRi cdRi : Value}
    (aRi : PySem.W.nsIn K mainGlobals "read_inputs" = some (some (.ref fRi))) (lRi : K.lookup fRi = some ⟨ocRi, odRi, .func (PySem.W.fnOf "read_inputs" "read_inputs" (defArgs sReadI) (defBody sReadI) (defScope sReadI) .none kVRi dcRi pmRi anRi cdRi ctRi), slRi⟩) (hRi : PySem.W.codeIn K cdRi "read_inputs" = true) (kRi : PySem.W.keepIn K (.ref fRi) = true)
    {fAb : Addr} {odAb anAb : Option Addr} {slAb : Array (Option Value)} {ocAb kVAb dcAb pmAb ctAb cdAb : Value}
    (aAb : PySem.W.nsIn K mainGlobals "arg_by" = some (some (.ref fAb))) (lAb : K.lookup fAb = some ⟨ocAb, odAb, .func (PySem.W.fnOf "arg_by" "arg_by" (defArgs sArgBy) (defBody sArgBy) (defScope sArgBy) .none kVAb dcAb pmAb anAb cdAb ctAb), slAb⟩) (hAb : PySem.W.codeIn K cdAb "arg_by" = true) (kAb : PySem.W.keepIn K (.ref fAb) = true)
    {fRe : Addr} {odRe anRe : Option Addr} {slRe : Array (Option Value)} {ocRe kVRe dcRe pmRe ctRe cdRe : Value}
    (aRe : PySem.W.nsIn K mainGlobals "read_arg" = some (some (.ref fRe))) (lRe : K.lookup fRe = some ⟨ocRe, odRe, .func (PySem.W.fnOf "read_arg" "read_arg" (defArgs sReadA) (defBody sReadA) (defScope sReadA) .none kVRe dcRe pmRe anRe cdRe ctRe), slRe⟩) (hRe : PySem.W.codeIn K cdRe "read_arg" = true) (kRe : PySem.W.keepIn K (.ref fRe) = true)
    {fRk : Addr} {odRk anRk : Option Addr} {slRk : Array (Option Value)} {ocRk kVRk dcRk pmRk ctRk cdRk : Value}
    (aRk : PySem.W.nsIn K mainGlobals "read_args" = some (some (.ref fRk))) (lRk : K.lookup fRk = some ⟨ocRk, odRk, .func (PySem.W.fnOf "read_args" "read_args" (defArgs sReadAs) (defBody sReadAs) (defScope sReadAs) .none kVRk dcRk pmRk anRk cdRk ctRk), slRk⟩) (hRk : PySem.W.codeIn K cdRk "read_args" = true) (kRk : PySem.W.keepIn K (.ref fRk) = true)
    {fRn : Addr} {odRn anRn : Option Addr} {slRn : Array (Option Value)} {ocRn kVRn dcRn pmRn ctRn cdRn : Value}
    (aRn : PySem.W.nsIn K mainGlobals "read_names" = some (some (.ref fRn))) (lRn : K.lookup fRn = some ⟨ocRn, odRn, .func (PySem.W.fnOf "read_names" "read_names" (defArgs sReadNs) (defBody sReadNs) (defScope sReadNs) .none kVRn dcRn pmRn anRn cdRn ctRn), slRn⟩) (hRn : PySem.W.codeIn K cdRn "read_names" = true) (kRn : PySem.W.keepIn K (.ref fRn) = true)
    {fRr : Addr} {odRr anRr : Option Addr} {slRr : Array (Option Value)} {ocRr kVRr dcRr pmRr ctRr cdRr : Value}
    (aRr : PySem.W.nsIn K mainGlobals "read_row" = some (some (.ref fRr))) (lRr : K.lookup fRr = some ⟨ocRr, odRr, .func (PySem.W.fnOf "read_row" "read_row" (defArgs sReadR) (defBody sReadR) (defScope sReadR) .none kVRr dcRr pmRr anRr cdRr ctRr), slRr⟩) (hRr : PySem.W.codeIn K cdRr "read_row" = true) (kRr : PySem.W.keepIn K (.ref fRr) = true)
    {fRp : Addr} {odRp anRp : Option Addr} {slRp : Array (Option Value)} {ocRp kVRp dcRp pmRp ctRp cdRp : Value}
    (aRp : PySem.W.nsIn K mainGlobals "read_program" = some (some (.ref fRp))) (lRp : K.lookup fRp = some ⟨ocRp, odRp, .func (PySem.W.fnOf "read_program" "read_program" (defArgs sReadP) (defBody sReadP) (defScope sReadP) .none kVRp dcRp pmRp anRp cdRp ctRp), slRp⟩) (hRp : PySem.W.codeIn K cdRp "read_program" = true) (kRp : PySem.W.keepIn K (.ref fRp) = true)
    {fX : Addr} {odX anX : Option Addr} {slX : Array (Option Value)} {ocX kVX dcX pmX ctX cdX : Value}
    (aX : PySem.W.nsIn K mainGlobals "_law_mixed" = some (some (.ref fX))) (lX : K.lookup fX = some ⟨ocX, odX, .func (PySem.W.fnOf "_law_mixed" "_law_mixed" (defArgs sMixed) (defBody sMixed) (defScope sMixed) .none kVX dcX pmX anX cdX ctX), slX⟩) (hX : PySem.W.codeIn K cdX "_law_mixed" = true) (kX : PySem.W.keepIn K (.ref fX) = true)
    {fQ : Addr} {odQ anQ : Option Addr} {slQ : Array (Option Value)} {ocQ kVQ dcQ pmQ ctQ cdQ : Value}
    (aQ : PySem.W.nsIn K mainGlobals "_law_draw" = some (some (.ref fQ))) (lQ : K.lookup fQ = some ⟨ocQ, odQ, .func (PySem.W.fnOf "_law_draw" "_law_draw" (defArgs sDraw) (defBody sDraw) (defScope sDraw) .none kVQ dcQ pmQ anQ cdQ ctQ), slQ⟩) (hQ : PySem.W.codeIn K cdQ "_law_draw" = true) (kQ : PySem.W.keepIn K (.ref fQ) = true)
    {fJ : Addr} {odJ anJ : Option Addr} {slJ : Array (Option Value)} {ocJ kVJ dcJ pmJ ctJ cdJ : Value}
    (aJ : PySem.W.nsIn K mainGlobals "_law_digit" = some (some (.ref fJ))) (lJ : K.lookup fJ = some ⟨ocJ, odJ, .func (PySem.W.fnOf "_law_digit" "_law_digit" (defArgs sDigit) (defBody sDigit) (defScope sDigit) .none kVJ dcJ pmJ anJ cdJ ctJ), slJ⟩) (hJ : PySem.W.codeIn K cdJ "_law_digit" = true) (kJ : PySem.W.keepIn K (.ref fJ) = true)
    {fLn : Addr} {odLn anLn : Option Addr} {slLn : Array (Option Value)} {ocLn kVLn dcLn pmLn ctLn cdLn : Value}
    (aLn : PySem.W.nsIn K mainGlobals "_law_names" = some (some (.ref fLn))) (lLn : K.lookup fLn = some ⟨ocLn, odLn, .func (PySem.W.fnOf "_law_names" "_law_names" (defArgs sNamesP) (defBody sNamesP) (defScope sNamesP) .none kVLn dcLn pmLn anLn cdLn ctLn), slLn⟩) (hLn : PySem.W.codeIn K cdLn "_law_names" = true) (kLn : PySem.W.keepIn K (.ref fLn) = true)
    {fLf : Addr} {odLf anLf : Option Addr} {slLf : Array (Option Value)} {ocLf kVLf dcLf pmLf ctLf cdLf : Value}
    (aLf : PySem.W.nsIn K mainGlobals "_law_face" = some (some (.ref fLf))) (lLf : K.lookup fLf = some ⟨ocLf, odLf, .func (PySem.W.fnOf "_law_face" "_law_face" (defArgs sFaceP) (defBody sFaceP) (defScope sFaceP) .none kVLf dcLf pmLf anLf cdLf ctLf), slLf⟩) (hLf : PySem.W.codeIn K cdLf "_law_face" = true) (kLf : PySem.W.keepIn K (.ref fLf) = true)
    {fLa : Addr} {odLa anLa : Option Addr} {slLa : Array (Option Value)} {ocLa kVLa dcLa pmLa ctLa cdLa : Value}
    (aLa : PySem.W.nsIn K mainGlobals "_law_args_of" = some (some (.ref fLa))) (lLa : K.lookup fLa = some ⟨ocLa, odLa, .func (PySem.W.fnOf "_law_args_of" "_law_args_of" (defArgs sArgsOf) (defBody sArgsOf) (defScope sArgsOf) .none kVLa dcLa pmLa anLa cdLa ctLa), slLa⟩) (hLa : PySem.W.codeIn K cdLa "_law_args_of" = true) (kLa : PySem.W.keepIn K (.ref fLa) = true)
    {fLl : Addr} {odLl anLl : Option Addr} {slLl : Array (Option Value)} {ocLl kVLl dcLl pmLl ctLl cdLl : Value}
    (aLl : PySem.W.nsIn K mainGlobals "_law_let" = some (some (.ref fLl))) (lLl : K.lookup fLl = some ⟨ocLl, odLl, .func (PySem.W.fnOf "_law_let" "_law_let" (defArgs sLet) (defBody sLet) (defScope sLet) .none kVLl dcLl pmLl anLl cdLl ctLl), slLl⟩) (hLl : PySem.W.codeIn K cdLl "_law_let" = true) (kLl : PySem.W.keepIn K (.ref fLl) = true)
    {fLp : Addr} {odLp anLp : Option Addr} {slLp : Array (Option Value)} {ocLp kVLp dcLp pmLp ctLp cdLp : Value}
    (aLp : PySem.W.nsIn K mainGlobals "_law_pick" = some (some (.ref fLp))) (lLp : K.lookup fLp = some ⟨ocLp, odLp, .func (PySem.W.fnOf "_law_pick" "_law_pick" (defArgs sPick) (defBody sPick) (defScope sPick) .none kVLp dcLp pmLp anLp cdLp ctLp), slLp⟩) (hLp : PySem.W.codeIn K cdLp "_law_pick" = true) (kLp : PySem.W.keepIn K (.ref fLp) = true)
    {fLg : Addr} {odLg anLg : Option Addr} {slLg : Array (Option Value)} {ocLg kVLg dcLg pmLg ctLg cdLg : Value}
    (aLg : PySem.W.nsIn K mainGlobals "_law_program" = some (some (.ref fLg))) (lLg : K.lookup fLg = some ⟨ocLg, odLg, .func (PySem.W.fnOf "_law_program" "_law_program" (defArgs sProg) (defBody sProg) (defScope sProg) .none kVLg dcLg pmLg anLg cdLg ctLg), slLg⟩) (hLg : PySem.W.codeIn K cdLg "_law_program" = true) (kLg : PySem.W.keepIn K (.ref fLg) = true)
    {fLr : Addr} {odLr anLr : Option Addr} {slLr : Array (Option Value)} {ocLr kVLr dcLr pmLr ctLr cdLr : Value}
    (aLr : PySem.W.nsIn K mainGlobals "_law_face_rows" = some (some (.ref fLr))) (lLr : K.lookup fLr = some ⟨ocLr, odLr, .func (PySem.W.fnOf "_law_face_rows" "_law_face_rows" (defArgs sLFRows) (defBody sLFRows) (defScope sLFRows) .none kVLr dcLr pmLr anLr cdLr ctLr), slLr⟩) (hLr : PySem.W.codeIn K cdLr "_law_face_rows" = true) (kLr : PySem.W.keepIn K (.ref fLr) = true)
    {fLw : Addr} {odLw anLw : Option Addr} {slLw : Array (Option Value)} {ocLw kVLw dcLw pmLw ctLw cdLw : Value}
    (aLw : PySem.W.nsIn K mainGlobals "_law_arg_word" = some (some (.ref fLw))) (lLw : K.lookup fLw = some ⟨ocLw, odLw, .func (PySem.W.fnOf "_law_arg_word" "_law_arg_word" (defArgs sArgWord) (defBody sArgWord) (defScope sArgWord) .none kVLw dcLw pmLw anLw cdLw ctLw), slLw⟩) (hLw : PySem.W.codeIn K cdLw "_law_arg_word" = true) (kLw : PySem.W.keepIn K (.ref fLw) = true)
    {fLt : Addr} {odLt anLt : Option Addr} {slLt : Array (Option Value)} {ocLt kVLt dcLt pmLt ctLt cdLt : Value}
    (aLt : PySem.W.nsIn K mainGlobals "_law_text" = some (some (.ref fLt))) (lLt : K.lookup fLt = some ⟨ocLt, odLt, .func (PySem.W.fnOf "_law_text" "_law_text" (defArgs sTextP) (defBody sTextP) (defScope sTextP) .none kVLt dcLt pmLt anLt cdLt ctLt), slLt⟩) (hLt : PySem.W.codeIn K cdLt "_law_text" = true) (kLt : PySem.W.keepIn K (.ref fLt) = true)
    {fLb : Addr} {odLb anLb : Option Addr} {slLb : Array (Option Value)} {ocLb kVLb dcLb pmLb ctLb cdLb : Value}
    (aLb : PySem.W.nsIn K mainGlobals "_law_by_form" = some (some (.ref fLb))) (lLb : K.lookup fLb = some ⟨ocLb, odLb, .func (PySem.W.fnOf "_law_by_form" "_law_by_form" (defArgs sByForm) (defBody sByForm) (defScope sByForm) .none kVLb dcLb pmLb anLb cdLb ctLb), slLb⟩) (hLb : PySem.W.codeIn K cdLb "_law_by_form" = true) (kLb : PySem.W.keepIn K (.ref fLb) = true)
    {fL : Addr} {odL anL : Option Addr} {slL : Array (Option Value)} {ocL kVL dcL pmL ctL cdL : Value}
    (aL : PySem.W.nsIn K mainGlobals "law" = some (some (.ref fL))) (lL : K.lookup fL = some ⟨ocL, odL, .func (PySem.W.fnOf "law" "law" (defArgs sLaw) (defBody sLaw) (defScope sLaw) .none kVL dcL pmL anL cdL ctL), slL⟩) (hL : PySem.W.codeIn K cdL "law" = true) (kL : PySem.W.keepIn K (.ref fL) = true)
    {tmd : Tok} (cmd : PySem.W.nsIn K mainGlobals "MOST_DEEDS" = some (some (.int 8 tmd)))
    {tmi : Tok} (cmi : PySem.W.nsIn K mainGlobals "MOST_INPUTS" = some (some (.int 3 tmi)))
    {tma : Tok} (cma : PySem.W.nsIn K mainGlobals "MOST_ARGS" = some (some (.int 3 tma)))
    {tmn : Tok} (cmn : PySem.W.nsIn K mainGlobals "MOST_NUMBER" = some (some (.int 8 tmn)))
    {tmu : Tok} (cmu : PySem.W.nsIn K mainGlobals "MOST_USES" = some (some (.int 4 tmu)))
    {tmr : Tok} (cmr : PySem.W.nsIn K mainGlobals "MOST_ROWS" = some (some (.int 30 tmr)))
    {CR CK : Addr} (aZ : PySem.W.nsIn K mainGlobals "Row" = some (some (.ref CR))) (aY : PySem.W.nsIn K mainGlobals "Looked" = some (some (.ref CK)))
    {fm1 : Addr} {odm1 anm1 : Option Addr} {slm1 : Array (Option Value)} {ocm1 kdm1 dcm1 pmm1 ctm1 cdm1 : Value}
    (am1 : PySem.W.findIn K (.ref CR) "__init__" = some (some (.ref fm1))) (im1 : PySem.W.isFn K (.ref fm1) = true) (lm1 : K.lookup fm1 = some ⟨ocm1, odm1, .func (PySem.W.fnOf "__init__" "Row.__init__" (defArgs sInit) (defBody sInit) (defScope sInit) .none kdm1 dcm1 pmm1 anm1 cdm1 ctm1), slm1⟩) (hm1 : PySem.W.codeIn K cdm1 "Row.__init__" = true) (km1 : PySem.W.keepIn K (.ref fm1) = true)
    {fm2 : Addr} {odm2 anm2 : Option Addr} {slm2 : Array (Option Value)} {ocm2 kdm2 dcm2 pmm2 ctm2 cdm2 : Value}
    (am2 : PySem.W.findIn K (.ref CR) "seen" = some (some (.ref fm2))) (im2 : PySem.W.isFn K (.ref fm2) = true) (lm2 : K.lookup fm2 = some ⟨ocm2, odm2, .func (PySem.W.fnOf "seen" "Row.seen" (defArgs sSeen) (defBody sSeen) (defScope sSeen) .none kdm2 dcm2 pmm2 anm2 cdm2 ctm2), slm2⟩) (hm2 : PySem.W.codeIn K cdm2 "Row.seen" = true) (km2 : PySem.W.keepIn K (.ref fm2) = true)
    {fm3 : Addr} {odm3 anm3 : Option Addr} {slm3 : Array (Option Value)} {ocm3 kdm3 dcm3 pmm3 ctm3 cdm3 : Value}
    (am3 : PySem.W.findIn K (.ref CR) "take" = some (some (.ref fm3))) (im3 : PySem.W.isFn K (.ref fm3) = true) (lm3 : K.lookup fm3 = some ⟨ocm3, odm3, .func (PySem.W.fnOf "take" "Row.take" (defArgs sTake) (defBody sTake) (defScope sTake) .none kdm3 dcm3 pmm3 anm3 cdm3 ctm3), slm3⟩) (hm3 : PySem.W.codeIn K cdm3 "Row.take" = true) (km3 : PySem.W.keepIn K (.ref fm3) = true)
    {fm4 : Addr} {odm4 anm4 : Option Addr} {slm4 : Array (Option Value)} {ocm4 kdm4 dcm4 pmm4 ctm4 cdm4 : Value}
    (am4 : PySem.W.findIn K (.ref CR) "take_word" = some (some (.ref fm4))) (im4 : PySem.W.isFn K (.ref fm4) = true) (lm4 : K.lookup fm4 = some ⟨ocm4, odm4, .func (PySem.W.fnOf "take_word" "Row.take_word" (defArgs sTakeW) (defBody sTakeW) (defScope sTakeW) .none kdm4 dcm4 pmm4 anm4 cdm4 ctm4), slm4⟩) (hm4 : PySem.W.codeIn K cdm4 "Row.take_word" = true) (km4 : PySem.W.keepIn K (.ref fm4) = true)
    {fm5 : Addr} {odm5 anm5 : Option Addr} {slm5 : Array (Option Value)} {ocm5 kdm5 dcm5 pmm5 ctm5 cdm5 : Value}
    (am5 : PySem.W.findIn K (.ref CR) "close" = some (some (.ref fm5))) (im5 : PySem.W.isFn K (.ref fm5) = true) (lm5 : K.lookup fm5 = some ⟨ocm5, odm5, .func (PySem.W.fnOf "close" "Row.close" (defArgs sClose) (defBody sClose) (defScope sClose) .none kdm5 dcm5 pmm5 anm5 cdm5 ctm5), slm5⟩) (hm5 : PySem.W.codeIn K cdm5 "Row.close" = true) (km5 : PySem.W.keepIn K (.ref fm5) = true)
    {fm6 : Addr} {odm6 anm6 : Option Addr} {slm6 : Array (Option Value)} {ocm6 kdm6 dcm6 pmm6 ctm6 cdm6 : Value}
    (am6 : PySem.W.findIn K (.ref CR) "take_number" = some (some (.ref fm6))) (im6 : PySem.W.isFn K (.ref fm6) = true) (lm6 : K.lookup fm6 = some ⟨ocm6, odm6, .func (PySem.W.fnOf "take_number" "Row.take_number" (defArgs sTakeN) (defBody sTakeN) (defScope sTakeN) .none kdm6 dcm6 pmm6 anm6 cdm6 ctm6), slm6⟩) (hm6 : PySem.W.codeIn K cdm6 "Row.take_number" = true) (km6 : PySem.W.keepIn K (.ref fm6) = true)
    {fb0 : Addr} {odb0 anb0 : Option Addr} {slb0 : Array (Option Value)} {ocb0 kdb0 dcb0 pmb0 ctb0 cdb0 : Value}
    (ab0 : PySem.W.findIn K (.ref CK) "__init__" = some (some (.ref fb0))) (ib0 : PySem.W.isFn K (.ref fb0) = true) (lb0 : K.lookup fb0 = some ⟨ocb0, odb0, .func (PySem.W.fnOf "__init__" "Looked.__init__" (defArgs sLkI) (defBody sLkI) (defScope sLkI) .none kdb0 dcb0 pmb0 anb0 cdb0 ctb0), slb0⟩) (hb0 : PySem.W.codeIn K cdb0 "Looked.__init__" = true) (kb0 : PySem.W.keepIn K (.ref fb0) = true)
    {fb1 : Addr} {odb1 anb1 : Option Addr} {slb1 : Array (Option Value)} {ocb1 kdb1 dcb1 pmb1 ctb1 cdb1 : Value}
    (ab1 : PySem.W.findIn K (.ref CK) "kind_of_arg" = some (some (.ref fb1))) (ib1 : PySem.W.isFn K (.ref fb1) = true) (lb1 : K.lookup fb1 = some ⟨ocb1, odb1, .func (PySem.W.fnOf "kind_of_arg" "Looked.kind_of_arg" (defArgs sKoA) (defBody sKoA) (defScope sKoA) .none kdb1 dcb1 pmb1 anb1 cdb1 ctb1), slb1⟩) (hb1 : PySem.W.codeIn K cdb1 "Looked.kind_of_arg" = true) (kb1 : PySem.W.keepIn K (.ref fb1) = true)
    {fb2 : Addr} {odb2 anb2 : Option Addr} {slb2 : Array (Option Value)} {ocb2 kdb2 dcb2 pmb2 ctb2 cdb2 : Value}
    (ab2 : PySem.W.findIn K (.ref CK) "is_plain" = some (some (.ref fb2))) (ib2 : PySem.W.isFn K (.ref fb2) = true) (lb2 : K.lookup fb2 = some ⟨ocb2, odb2, .func (PySem.W.fnOf "is_plain" "Looked.is_plain" (defArgs sPlain) (defBody sPlain) (defScope sPlain) .none kdb2 dcb2 pmb2 anb2 cdb2 ctb2), slb2⟩) (hb2 : PySem.W.codeIn K cdb2 "Looked.is_plain" = true) (kb2 : PySem.W.keepIn K (.ref fb2) = true)
    {fb3 : Addr} {odb3 anb3 : Option Addr} {slb3 : Array (Option Value)} {ocb3 kdb3 dcb3 pmb3 ctb3 cdb3 : Value}
    (ab3 : PySem.W.findIn K (.ref CK) "may_stand_for" = some (some (.ref fb3))) (ib3 : PySem.W.isFn K (.ref fb3) = true) (lb3 : K.lookup fb3 = some ⟨ocb3, odb3, .func (PySem.W.fnOf "may_stand_for" "Looked.may_stand_for" (defArgs sMay) (defBody sMay) (defScope sMay) .none kdb3 dcb3 pmb3 anb3 cdb3 ctb3), slb3⟩) (hb3 : PySem.W.codeIn K cdb3 "Looked.may_stand_for" = true) (kb3 : PySem.W.keepIn K (.ref fb3) = true)
    {fb4 : Addr} {odb4 anb4 : Option Addr} {slb4 : Array (Option Value)} {ocb4 kdb4 dcb4 pmb4 ctb4 cdb4 : Value}
    (ab4 : PySem.W.findIn K (.ref CK) "is_new_name" = some (some (.ref fb4))) (ib4 : PySem.W.isFn K (.ref fb4) = true) (lb4 : K.lookup fb4 = some ⟨ocb4, odb4, .func (PySem.W.fnOf "is_new_name" "Looked.is_new_name" (defArgs sNewN) (defBody sNewN) (defScope sNewN) .none kdb4 dcb4 pmb4 anb4 cdb4 ctb4), slb4⟩) (hb4 : PySem.W.codeIn K cdb4 "Looked.is_new_name" = true) (kb4 : PySem.W.keepIn K (.ref fb4) = true)
    {fb5 : Addr} {odb5 anb5 : Option Addr} {slb5 : Array (Option Value)} {ocb5 kdb5 dcb5 pmb5 ctb5 cdb5 : Value}
    (ab5 : PySem.W.findIn K (.ref CK) "place_in_let" = some (some (.ref fb5))) (ib5 : PySem.W.isFn K (.ref fb5) = true) (lb5 : K.lookup fb5 = some ⟨ocb5, odb5, .func (PySem.W.fnOf "place_in_let" "Looked.place_in_let" (defArgs sPLet) (defBody sPLet) (defScope sPLet) .none kdb5 dcb5 pmb5 anb5 cdb5 ctb5), slb5⟩) (hb5 : PySem.W.codeIn K cdb5 "Looked.place_in_let" = true) (kb5 : PySem.W.keepIn K (.ref fb5) = true)
    {fb6 : Addr} {odb6 anb6 : Option Addr} {slb6 : Array (Option Value)} {ocb6 kdb6 dcb6 pmb6 ctb6 cdb6 : Value}
    (ab6 : PySem.W.findIn K (.ref CK) "place_in_pick" = some (some (.ref fb6))) (ib6 : PySem.W.isFn K (.ref fb6) = true) (lb6 : K.lookup fb6 = some ⟨ocb6, odb6, .func (PySem.W.fnOf "place_in_pick" "Looked.place_in_pick" (defArgs sPPick) (defBody sPPick) (defScope sPPick) .none kdb6 dcb6 pmb6 anb6 cdb6 ctb6), slb6⟩) (hb6 : PySem.W.codeIn K cdb6 "Looked.place_in_pick" = true) (kb6 : PySem.W.keepIn K (.ref fb6) = true)
    {fb7 : Addr} {odb7 anb7 : Option Addr} {slb7 : Array (Option Value)} {ocb7 kdb7 dcb7 pmb7 ctb7 cdb7 : Value}
    (ab7 : PySem.W.findIn K (.ref CK) "place_in" = some (some (.ref fb7))) (ib7 : PySem.W.isFn K (.ref fb7) = true) (lb7 : K.lookup fb7 = some ⟨ocb7, odb7, .func (PySem.W.fnOf "place_in" "Looked.place_in" (defArgs sPIn) (defBody sPIn) (defScope sPIn) .none kdb7 dcb7 pmb7 anb7 cdb7 ctb7), slb7⟩) (hb7 : PySem.W.codeIn K cdb7 "Looked.place_in" = true) (kb7 : PySem.W.keepIn K (.ref fb7) = true)
    (pgR : PySem.W.plainGet K CR Str.empty = true)
    (hdR : PySem.W.hasDictIn K CR = true)
    (poR : PySem.W.plainOver K CR = true)
    (saR : PySem.W.findIn K (.ref CR) "__setattr__" = some (some (.builtin "object.__setattr__")))
    (mkR : PySem.W.makesIn K CR = true)
    (kcR : PySem.W.keepIn K (.ref CR) = true)
    (nN : PySem.W.findIn K (.ref CR) "number" = some none)
    (nW : PySem.W.findIn K (.ref CR) "words" = some none)
    (nA : PySem.W.findIn K (.ref CR) "at" = some none)
    (pgK : PySem.W.plainGet K CK Str.empty = true)
    (hdK : PySem.W.hasDictIn K CK = true)
    (poK : PySem.W.plainOver K CK = true)
    (saK : PySem.W.findIn K (.ref CK) "__setattr__" = some (some (.builtin "object.__setattr__")))
    (mkK : PySem.W.makesIn K CK = true)
    (kcK : PySem.W.keepIn K (.ref CK) = true)
    (nF : PySem.W.findIn K (.ref CK) "faces" = some none)
    (nI : PySem.W.findIn K (.ref CK) "inputs" = some none)
    (nK : PySem.W.findIn K (.ref CK) "kinds" = some none)
    {pS : Addr} {esS : Array DictEntry} {nS : Nat} (aS : PySem.W.nsIn K mainGlobals "ROW_SIZES" = some (some (.ref pS))) (lS : K.lookup pS = some ⟨.type "dict", none, .dict esS nS, #[]⟩) (sS : (pS == sysModules) = false) (kS : PySem.W.KeysLit w.params esS.toList) (fS : ∀ z, RelO (rsz z) (findBy Value.isStrOf esS z))
    (z_isinstance : PySem.W.nsIn K mainGlobals "isinstance" = some none)
    (z_str : PySem.W.nsIn K mainGlobals "str" = some none)
    (z_int : PySem.W.nsIn K mainGlobals "int" = some none)
    (z_tuple : PySem.W.nsIn K mainGlobals "tuple" = some none)
    (z_len : PySem.W.nsIn K mainGlobals "len" = some none)
    (z_enumerate : PySem.W.nsIn K mainGlobals "enumerate" = some none)
    (z_range : PySem.W.nsIn K mainGlobals "range" = some none)
    (z_sorted : PySem.W.nsIn K mainGlobals "sorted" = some none)
    (z_repr : PySem.W.nsIn K mainGlobals "repr" = some none)
    (z_list : PySem.W.nsIn K mainGlobals "list" = some none)
    (z_dict : PySem.W.nsIn K mainGlobals "dict" = some none)
    (z_max : PySem.W.nsIn K mainGlobals "max" = some none)
    (z_min : PySem.W.nsIn K mainGlobals "min" = some none) :
    LawG l w K CX0 12 63 "_law_script" mg fa h := by
  have e := hfa.symm.trans (PySem.W.mg_of X G aL)
  cases e
  have FWh := fun_mk (st := sWhole) lWh hWh kWh
  have bWh := (FWh).binds (ps := ["thing"]) fun _ _ _ _ _ _ us hl => match us, hl with | [_], _ => rfl
  have gWh := PySem.W.mg_of X G aWh
  have FAm := fun_mk (st := sAmong) lAm hAm kAm
  have bAm := (FAm).binds (ps := ["thing", "least", "most"]) fun _ _ _ _ _ _ us hl => match us, hl with | [_, _, _], _ => rfl
  have gAm := PySem.W.mg_of X G aAm
  have FTu := fun_mk (st := sTupOf) lTu hTu kTu
  have bTu := (FTu).binds (ps := ["thing", "least", "most"]) fun _ _ _ _ _ _ us hl => match us, hl with | [_, _, _], _ => rfl
  have gTu := PySem.W.mg_of X G aTu
  have FA := fun_mk (st := sName) lA hA kA
  have bA := (FA).binds (ps := ["thing"]) fun _ _ _ _ _ _ us hl => match us, hl with | [_], _ => rfl
  have gA := PySem.W.mg_of X G aA
  have FNx := fun_mk (st := sNextN) lNx hNx kNx
  have bNx := (FNx).binds (ps := ["thing", "ahead"]) fun _ _ _ _ _ _ us hl => match us, hl with | [_, _], _ => rfl
  have gNx := PySem.W.mg_of X G aNx
  have FFg := fun_mk (st := sFigs) lFg hFg kFg
  have bFg := (FFg).binds (ps := ["word", "most"]) fun _ _ _ _ _ _ us hl => match us, hl with | [_, _], _ => rfl
  have gFg := PySem.W.mg_of X G aFg
  have FNu := fun_mk (st := sNum) lNu hNu kNu
  have bNu := (FNu).binds (ps := ["word"]) fun _ _ _ _ _ _ us hl => match us, hl with | [_], _ => rfl
  have gNu := PySem.W.mg_of X G aNu
  have FWo := fun_mk (st := sWords) lWo hWo kWo
  have bWo := (FWo).binds (ps := ["row"]) fun _ _ _ _ _ _ us hl => match us, hl with | [_], _ => rfl
  have gWo := PySem.W.mg_of X G aWo
  have FB := fun_mk (st := sKind) lB hB kB
  have bB := (FB).binds (ps := ["thing", "hidden"]) fun _ _ _ _ _ _ us hl => match us, hl with | [_, _], _ => rfl
  have gB := PySem.W.mg_of X G aB
  have FC := fun_mk (st := sBadD) lC hC kC
  have bC := (FC).binds (ps := ["deeds", "hidden"]) fun _ _ _ _ _ _ us hl => match us, hl with | [_, _], _ => rfl
  have gC := PySem.W.mg_of X G aC
  have FAt := fun_mk (st := sAreT) lAt hAt kAt
  have bAt := (FAt).binds (ps := ["thing", "hidden"]) fun _ _ _ _ _ _ us hl => match us, hl with | [_, _], _ => rfl
  have gAt := PySem.W.mg_of X G aAt
  have FD := fun_mk (st := sBadH) lD hD kD
  have bD := (FD).binds (ps := ["hidden"]) fun _ _ _ _ _ _ us hl => match us, hl with | [_], _ => rfl
  have gD := PySem.W.mg_of X G aD
  have FE := fun_mk (st := sFault) lE hE kE
  have bE := (FE).binds (ps := ["thing"]) fun _ _ _ _ _ _ us hl => match us, hl with | [_], _ => rfl
  have gE := PySem.W.mg_of X G aE
  have FIf := fun_mk (st := sIsF) lIf hIf kIf
  have bIf := (FIf).binds (ps := ["thing"]) fun _ _ _ _ _ _ us hl => match us, hl with | [_], _ => rfl
  have gIf := PySem.W.mg_of X G aIf
  have FFd := fun_mk (st := sFind) lFd hFd kFd
  have bFd := (FFd).binds (ps := ["face", "name"]) fun _ _ _ _ _ _ us hl => match us, hl with | [_, _], _ => rfl
  have gFd := PySem.W.mg_of X G aFd
  have FRo := fun_mk (st := sRowsOf) lRo hRo kRo
  have bRo := (FRo).binds (ps := ["text"]) fun _ _ _ _ _ _ us hl => match us, hl with | [_], _ => rfl
  have gRo := PySem.W.mg_of X G aRo
  have FRa := fun_mk (st := sRowAt) lRa hRa kRa
  have bRa := (FRa).binds (ps := ["rows", "number"]) fun _ _ _ _ _ _ us hl => match us, hl with | [_, _], _ => rfl
  have gRa := PySem.W.mg_of X G aRa
  have FNm := fun_mk (st := sNoMore) lNm hNm kNm
  have bNm := (FNm).binds (ps := ["rows", "most"]) fun _ _ _ _ _ _ us hl => match us, hl with | [_, _], _ => rfl
  have gNm := PySem.W.mg_of X G aNm
  have FDr := fun_mk (st := sDeedRow) lDr hDr kDr
  have bDr := (FDr).binds (ps := ["deed"]) fun _ _ _ _ _ _ us hl => match us, hl with | [_], _ => rfl
  have gDr := PySem.W.mg_of X G aDr
  have FFr := fun_mk (st := sFaceRows) lFr hFr kFr
  have bFr := (FFr).binds (ps := ["face"]) fun _ _ _ _ _ _ us hl => match us, hl with | [_], _ => rfl
  have gFr := PySem.W.mg_of X G aFr
  have FRh := fun_mk (st := sReadH) lRh hRh kRh
  have bRh := (FRh).binds (ps := ["row"]) fun _ _ _ _ _ _ us hl => match us, hl with | [_], _ => rfl
  have gRh := PySem.W.mg_of X G aRh
  have FKb := fun_mk (st := sKindBy) lKb hKb kKb
  have bKb := (FKb).binds (ps := ["word"]) fun _ _ _ _ _ _ us hl => match us, hl with | [_], _ => rfl
  have gKb := PySem.W.mg_of X G aKb
  have FRt := fun_mk (st := sReadT) lRt hRt kRt
  have bRt := (FRt).binds (ps := ["row", "hidden"]) fun _ _ _ _ _ _ us hl => match us, hl with | [_, _], _ => rfl
  have gRt := PySem.W.mg_of X G aRt
  have FRd := fun_mk (st := sReadD) lRd hRd kRd
  have bRd := (FRd).binds (ps := ["row", "hidden", "ahead"]) fun _ _ _ _ _ _ us hl => match us, hl with | [_, _, _], _ => rfl
  have gRd := PySem.W.mg_of X G aRd
  have FRf := fun_mk (st := sReadFB) lRf hRf kRf
  have bRf := (FRf).binds (ps := ["rows", "ahead"]) fun _ _ _ _ _ _ us hl => match us, hl with | [_, _], _ => rfl
  have gRf := PySem.W.mg_of X G aRf
  have FIa := fun_mk (st := sIsArg) lIa hIa kIa
  have bIa := (FIa).binds (ps := ["thing"]) fun _ _ _ _ _ _ us hl => match us, hl with | [_], _ => rfl
  have gIa := PySem.W.mg_of X G aIa
  have FRg := fun_mk (st := sRowOf) lRg hRg kRg
  have bRg := (FRg).binds (ps := ["thing"]) fun _ _ _ _ _ _ us hl => match us, hl with | [_], _ => rfl
  have gRg := PySem.W.mg_of X G aRg
  have FBu := fun_mk (st := sBadUse) lBu hBu kBu
  have bBu := (FBu).binds (ps := ["uses"]) fun _ _ _ _ _ _ us hl => match us, hl with | [_], _ => rfl
  have gBu := PySem.W.mg_of X G aBu
  have FBi := fun_mk (st := sBadInp) lBi hBi kBi
  have bBi := (FBi).binds (ps := ["inputs"]) fun _ _ _ _ _ _ us hl => match us, hl with | [_], _ => rfl
  have gBi := PySem.W.mg_of X G aBi
  have FNp := fun_mk (st := sParts) lNp hNp kNp
  have bNp := (FNp).binds (ps := ["program"]) fun _ _ _ _ _ _ us hl => match us, hl with | [_], _ => rfl
  have gNp := PySem.W.mg_of X G aNp
  have FKn := fun_mk (st := sKindsBN) lKn hKn kKn
  have bKn := (FKn).binds (ps := ["program"]) fun _ _ _ _ _ _ us hl => match us, hl with | [_], _ => rfl
  have gKn := PySem.W.mg_of X G aKn
  have FNe := fun_mk (st := sNeedP) lNe hNe kNe
  have bNe := (FNe).binds (ps := ["program"]) fun _ _ _ _ _ _ us hl => match us, hl with | [_], _ => rfl
  have gNe := PySem.W.mg_of X G aNe
  have FAx := fun_mk (st := sArgText) lAx hAx kAx
  have bAx := (FAx).binds (ps := ["arg"]) fun _ _ _ _ _ _ us hl => match us, hl with | [_], _ => rfl
  have gAx := PySem.W.mg_of X G aAx
  have FRx := fun_mk (st := sRowText) lRx hRx kRx
  have bRx := (FRx).binds (ps := ["row"]) fun _ _ _ _ _ _ us hl => match us, hl with | [_], _ => rfl
  have gRx := PySem.W.mg_of X G aRx
  have FPx := fun_mk (st := sProgText) lPx hPx kPx
  have bPx := (FPx).binds (ps := ["program"]) fun _ _ _ _ _ _ us hl => match us, hl with | [_], _ => rfl
  have gPx := PySem.W.mg_of X G aPx
  have FEf := fun_mk (st := sEndF) lEf hEf kEf
  have bEf := (FEf).binds (ps := ["rows", "start"]) fun _ _ _ _ _ _ us hl => match us, hl with | [_, _], _ => rfl
  have gEf := PySem.W.mg_of X G aEf
  have FRu := fun_mk (st := sReadU) lRu hRu kRu
  have bRu := (FRu).binds (ps := ["rows", "ahead"]) fun _ _ _ _ _ _ us hl => match us, hl with | [_, _], _ => rfl
  have gRu := PySem.W.mg_of X G aRu
  have FRs := fun_mk (st := sReadUs) lRs hRs kRs
  have bRs := (FRs).binds (ps := ["rows"]) fun _ _ _ _ _ _ us hl => match us, hl with | [_], _ => rfl
  have gRs := PySem.W.mg_of X G aRs
  have FRi := fun_mk (st := sReadI) lRi hRi kRi
  have bRi := (FRi).binds (ps := ["row"]) fun _ _ _ _ _ _ us hl => match us, hl with | [_], _ => rfl
  have gRi := PySem.W.mg_of X G aRi
  have FAb := fun_mk (st := sArgBy) lAb hAb kAb
  have bAb := (FAb).binds (ps := ["word"]) fun _ _ _ _ _ _ us hl => match us, hl with | [_], _ => rfl
  have gAb := PySem.W.mg_of X G aAb
  have FRe := fun_mk (st := sReadA) lRe hRe kRe
  have bRe := (FRe).binds (ps := ["row"]) fun _ _ _ _ _ _ us hl => match us, hl with | [_], _ => rfl
  have gRe := PySem.W.mg_of X G aRe
  have FRk := fun_mk (st := sReadAs) lRk hRk kRk
  have bRk := (FRk).binds (ps := ["row", "least", "most"]) fun _ _ _ _ _ _ us hl => match us, hl with | [_, _, _], _ => rfl
  have gRk := PySem.W.mg_of X G aRk
  have FRn := fun_mk (st := sReadNs) lRn hRn kRn
  have bRn := (FRn).binds (ps := ["row", "many"]) fun _ _ _ _ _ _ us hl => match us, hl with | [_, _], _ => rfl
  have gRn := PySem.W.mg_of X G aRn
  have FRr := fun_mk (st := sReadR) lRr hRr kRr
  have bRr := (FRr).binds (ps := ["row"]) fun _ _ _ _ _ _ us hl => match us, hl with | [_], _ => rfl
  have gRr := PySem.W.mg_of X G aRr
  have FRp := fun_mk (st := sReadP) lRp hRp kRp
  have bRp := (FRp).binds (ps := ["text"]) fun _ _ _ _ _ _ us hl => match us, hl with | [_], _ => rfl
  have gRp := PySem.W.mg_of X G aRp
  have FX := fun_mk (st := sMixed) lX hX kX
  have bX := (FX).binds (ps := ["_law_cell", "_law_k"]) fun _ _ _ _ _ _ us hl => match us, hl with | [_, _], _ => rfl
  have gX := PySem.W.mg_of X G aX
  have FQ := fun_mk (st := sDraw) lQ hQ kQ
  have bQ := (FQ).binds (ps := ["_law_cell", "_law_k"]) fun _ _ _ _ _ _ us hl => match us, hl with | [_, _], _ => rfl
  have gQ := PySem.W.mg_of X G aQ
  have FJ := fun_mk (st := sDigit) lJ hJ kJ
  have bJ := (FJ).binds (ps := ["_law_state", "_law_many"]) fun _ _ _ _ _ _ us hl => match us, hl with | [_, _], _ => rfl
  have gJ := PySem.W.mg_of X G aJ
  have FLn := fun_mk (st := sNamesP) lLn hLn kLn
  have bLn := (FLn).binds (ps := ["_law_state", "_law_many"]) fun _ _ _ _ _ _ us hl => match us, hl with | [_, _], _ => rfl
  have gLn := PySem.W.mg_of X G aLn
  have FLf := fun_mk (st := sFaceP) lLf hLf kLf
  have bLf := (FLf).binds (ps := ["_law_state"]) fun _ _ _ _ _ _ us hl => match us, hl with | [_], _ => rfl
  have gLf := PySem.W.mg_of X G aLf
  have FLa := fun_mk (st := sArgsOf) lLa hLa kLa
  have bLa := (FLa).binds (ps := ["_law_known", "_law_inputs", "_law_wanted"]) fun _ _ _ _ _ _ us hl => match us, hl with | [_, _, _], _ => rfl
  have gLa := PySem.W.mg_of X G aLa
  have FLl := fun_mk (st := sLet) lLl hLl kLl
  have bLl := (FLl).binds (ps := ["_law_state", "_law_name", "_law_use", "_law_known", "_law_inputs"]) fun _ _ _ _ _ _ us hl => match us, hl with | [_, _, _, _, _], _ => rfl
  have gLl := PySem.W.mg_of X G aLl
  have FLp := fun_mk (st := sPick) lLp hLp kLp
  have bLp := (FLp).binds (ps := ["_law_state", "_law_name", "_law_known", "_law_inputs"]) fun _ _ _ _ _ _ us hl => match us, hl with | [_, _, _, _], _ => rfl
  have gLp := PySem.W.mg_of X G aLp
  have FLg := fun_mk (st := sProg) lLg hLg kLg
  have bLg := (FLg).binds (ps := ["_law_state", "_law_most"]) fun _ _ _ _ _ _ us hl => match us, hl with | [_, _], _ => rfl
  have gLg := PySem.W.mg_of X G aLg
  have FLr := fun_mk (st := sLFRows) lLr hLr kLr
  have bLr := (FLr).binds (ps := ["_law_face_here"]) fun _ _ _ _ _ _ us hl => match us, hl with | [_], _ => rfl
  have gLr := PySem.W.mg_of X G aLr
  have FLw := fun_mk (st := sArgWord) lLw hLw kLw
  have bLw := (FLw).binds (ps := ["_law_arg"]) fun _ _ _ _ _ _ us hl => match us, hl with | [_], _ => rfl
  have gLw := PySem.W.mg_of X G aLw
  have FLt := fun_mk (st := sTextP) lLt hLt kLt
  have bLt := (FLt).binds (ps := ["_law_program_here"]) fun _ _ _ _ _ _ us hl => match us, hl with | [_], _ => rfl
  have gLt := PySem.W.mg_of X G aLt
  have FLb := fun_mk (st := sByForm) lLb hLb kLb
  have bLb := (FLb).binds (ps := ["_law_state", "_law_program_here"]) fun _ _ _ _ _ _ us hl => match us, hl with | [_, _], _ => rfl
  have gLb := PySem.W.mg_of X G aLb
  have FL := fun_mk (st := sLaw) lL hL kL
  have bL := (FL).binds (ps := ["_law_script"]) fun _ _ _ _ _ _ us hl => match us, hl with | [_], _ => rfl
  have gL := PySem.W.mg_of X G aL
  have m_isinstance := PySem.W.mg_none_of X G z_isinstance
  have m_str := PySem.W.mg_none_of X G z_str
  have m_int := PySem.W.mg_none_of X G z_int
  have m_tuple := PySem.W.mg_none_of X G z_tuple
  have m_len := PySem.W.mg_none_of X G z_len
  have m_enumerate := PySem.W.mg_none_of X G z_enumerate
  have m_range := PySem.W.mg_none_of X G z_range
  have m_sorted := PySem.W.mg_none_of X G z_sorted
  have m_repr := PySem.W.mg_none_of X G z_repr
  have m_list := PySem.W.mg_none_of X G z_list
  have m_dict := PySem.W.mg_none_of X G z_dict
  have m_max := PySem.W.mg_none_of X G z_max
  have m_min := PySem.W.mg_none_of X G z_min
  have mmd := PySem.W.mg_of X G cmd
  have mmi := PySem.W.mg_of X G cmi
  have mma := PySem.W.mg_of X G cma
  have mmn := PySem.W.mg_of X G cmn
  have mmu := PySem.W.mg_of X G cmu
  have mmr := PySem.W.mg_of X G cmr
  have Fm1 := fun_mk (st := sInit) lm1 hm1 km1
  have bm1 := (Fm1).binds (ps := ["self", "number", "text"]) fun _ _ _ _ _ _ us hl => match us, hl with | [_, _, _], _ => rfl
  have Fm2 := fun_mk (st := sSeen) lm2 hm2 km2
  have bm2 := (Fm2).binds (ps := ["self"]) fun _ _ _ _ _ _ us hl => match us, hl with | [_], _ => rfl
  have Fm3 := fun_mk (st := sTake) lm3 hm3 km3
  have bm3 := (Fm3).binds (ps := ["self", "stands"]) fun _ _ _ _ _ _ us hl => match us, hl with | [_, _], _ => rfl
  have Fm4 := fun_mk (st := sTakeW) lm4 hm4 km4
  have bm4 := (Fm4).binds (ps := ["self", "word"]) fun _ _ _ _ _ _ us hl => match us, hl with | [_, _], _ => rfl
  have Fm5 := fun_mk (st := sClose) lm5 hm5 km5
  have bm5 := (Fm5).binds (ps := ["self"]) fun _ _ _ _ _ _ us hl => match us, hl with | [_], _ => rfl
  have Fm6 := fun_mk (st := sTakeN) lm6 hm6 km6
  have bm6 := (Fm6).binds (ps := ["self", "least", "most"]) fun _ _ _ _ _ _ us hl => match us, hl with | [_, _, _], _ => rfl
  have Fb0 := fun_mk (st := sLkI) lb0 hb0 kb0
  have bb0 := (Fb0).binds (ps := ["self", "uses", "inputs"]) fun _ _ _ _ _ _ us hl => match us, hl with | [_, _, _], _ => rfl
  have Fb1 := fun_mk (st := sKoA) lb1 hb1 kb1
  have bb1 := (Fb1).binds (ps := ["self", "thing"]) fun _ _ _ _ _ _ us hl => match us, hl with | [_, _], _ => rfl
  have Fb2 := fun_mk (st := sPlain) lb2 hb2 kb2
  have bb2 := (Fb2).binds (ps := ["self", "thing"]) fun _ _ _ _ _ _ us hl => match us, hl with | [_, _], _ => rfl
  have Fb3 := fun_mk (st := sMay) lb3 hb3 kb3
  have bb3 := (Fb3).binds (ps := ["self", "thing", "label", "kind"]) fun _ _ _ _ _ _ us hl => match us, hl with | [_, _, _, _], _ => rfl
  have Fb4 := fun_mk (st := sNewN) lb4 hb4 kb4
  have bb4 := (Fb4).binds (ps := ["self", "thing"]) fun _ _ _ _ _ _ us hl => match us, hl with | [_, _], _ => rfl
  have Fb5 := fun_mk (st := sPLet) lb5 hb5 kb5
  have bb5 := (Fb5).binds (ps := ["self", "row"]) fun _ _ _ _ _ _ us hl => match us, hl with | [_, _], _ => rfl
  have Fb6 := fun_mk (st := sPPick) lb6 hb6 kb6
  have bb6 := (Fb6).binds (ps := ["self", "row"]) fun _ _ _ _ _ _ us hl => match us, hl with | [_, _], _ => rfl
  have Fb7 := fun_mk (st := sPIn) lb7 hb7 kb7
  have bb7 := (Fb7).binds (ps := ["self", "row"]) fun _ _ _ _ _ _ us hl => match us, hl with | [_, _], _ => rfl
  have RC : RowC K mg CR := ⟨⟨pgR, hdR, poR, saR⟩, nN, nW, nA, PySem.W.mg_of X G aZ⟩
  have LC : LkC K mg CK := ⟨⟨pgK, hdK, poK, saK⟩, nF, nI, nK, PySem.W.mg_of X G aY⟩
  have mS := PySem.W.mg_of X G aS
  have KS : KDo K w pS rsz := ⟨esS, nS, lS, kS, sS, fS⟩
  refine ⟨PySem.W.fnOf "law" "law" (defArgs sLaw) (defBody sLaw) (defScope sLaw) .none kVL dcL pmL anL cdL ctL, [], spLaw K, ?_, ?_, ?_, fun s v => .of_eq rfl, ?_, ?_⟩
  · intro p hp
    cases hp
  · intro p hp
    cases hp
  · intro p hp
    cases hp
  · intro H a ns hl hH hS
    exact ⟨a, ns, rfl, hS, hl, fun _ => rfl⟩
  · intro base KB NB TB
    have OWh := ok_whole (P := l.prog) (w := w) (base := base) (k := 0) (K := K) FWh m_isinstance m_int
    have OAm := ok_among (P := l.prog) (w := w) (base := base) (k := 0) FAm ⟨OWh.mono (by decide), gWh, kWh, bWh⟩
    have OTu := ok_tupOf (P := l.prog) (w := w) (base := base) (k := 0) (K := K) FTu m_isinstance m_tuple m_len
    have OA := ok_name (P := l.prog) (w := w) (base := base) (k := 0) FA m_isinstance m_str m_len
    have OAX := ok_nameX (P := l.prog) (w := w) (base := base) (k := 0) (K := K) FA m_isinstance m_str m_len
    have ONx := ok_nextN (P := l.prog) (w := w) (base := base) (k := 0) FNx ⟨OA.mono (by decide), gA, kA, bA⟩
    have OFg := ok_figs (P := l.prog) (w := w) (base := base) (k := 0) FFg m_isinstance m_str m_len m_int
    have OFgX := ok_figs2 (P := l.prog) (w := w) (base := base) (k := 0) FFg m_isinstance m_str m_len m_int
    have ONu := ok_num (P := l.prog) (w := w) (base := base) (k := 0) FNu ⟨OFg.mono (by decide), gFg, kFg, bFg⟩
    have ONuX := ok_num2 (P := l.prog) (w := w) (base := base) (k := 0) FNu ⟨OFgX.mono (by decide), gFg, kFg, bFg⟩
    have OWo := ok_words (P := l.prog) (w := w) (base := base) (k := 0) FWo m_isinstance m_str
    have OB := ok_kind (P := l.prog) (w := w) (base := base) (k := 0) (K := K) FB m_isinstance m_str m_int
    have OD := ok_badH (P := l.prog) (w := w) (base := base) (k := 0) FD ⟨OA.mono (by decide), gA, kA, bA⟩ m_enumerate
    have OC := ok_badD (P := l.prog) (w := w) (base := base) (k := 0) FC ⟨OB.mono (by decide), gB, kB, bB⟩ m_enumerate m_isinstance m_str m_int m_tuple m_len
    have OAt := ok_areT (P := l.prog) (w := w) (base := base) (k := 0) FAt ⟨OC.mono (by decide), gC, kC, bC⟩
    have OE := ok_fault (P := l.prog) (w := w) (base := base) (k := 0) FE ⟨OD.mono (by decide), gD, kD, bD⟩ ⟨OC.mono (by decide), gC, kC, bC⟩ m_isinstance m_tuple m_len mmd
    have OIf := ok_isF (P := l.prog) (w := w) (base := base) (k := 0) FIf ⟨OE.mono (by decide), gE, kE, bE⟩
    have OFd := ok_find (P := l.prog) (w := w) (base := base) (k := 0) (K := K) FFd m_isinstance m_str m_enumerate
    have ORo := ok_rowsOf (P := l.prog) (w := w) (base := base) (k := 0) FRo m_isinstance m_str
    have ONm := ok_noMore (P := l.prog) (w := w) (base := base) (k := 0) (K := K) FNm m_len
    have Om1 := ok_init (P := l.prog) (w := w) (base := base) (k := 0) Fm1 RC ⟨OWo.mono (by decide), gWo, kWo, bWo⟩
    have Om2 := ok_seen (P := l.prog) (w := w) (base := base) (k := 0) Fm2 RC
    have Om3 := ok_take (P := l.prog) (w := w) (base := base) (k := 0) Fm3 RC
    have Om4 := ok_takeW (P := l.prog) (w := w) (base := base) (k := 0) Fm4 RC ⟨Om2.mono (by decide), ⟨am2, im2, km2⟩, bm2⟩ ⟨Om3.mono (by decide), ⟨am3, im3, km3⟩, bm3⟩
    have Om5 := ok_close (P := l.prog) (w := w) (base := base) (k := 0) Fm5 RC ⟨Om2.mono (by decide), ⟨am2, im2, km2⟩, bm2⟩
    have Om6 := ok_takeN (P := l.prog) (w := w) (base := base) (k := 2) Fm6 RC ⟨Om2.mono (by decide), ⟨am2, im2, km2⟩, bm2⟩ ⟨Om3.mono (by decide), ⟨am3, im3, km3⟩, bm3⟩ ⟨ONuX.mono (by decide), gNu, kNu, bNu⟩
    have ORa := ok_rowAt (P := l.prog) (w := w) (base := base) (k := 0) FRa RC ⟨mkR, am1, im1, kcR⟩ Om1 bm1 m_len
    have ODr := ok_deedRow (P := l.prog) (w := w) (base := base) (k := 0) (K := K) FDr m_str
    have OFr := ok_faceRows (P := l.prog) (w := w) (base := base) (k := 1) FFr ⟨ODr.mono (by decide), gDr, kDr, bDr⟩
    have ORh := ok_readH (P := l.prog) (w := w) (base := base) (k := 4) FRh (⟨RC, ⟨Om2.mono (by decide), ⟨am2, im2, km2⟩, bm2⟩, ⟨Om3.mono (by decide), ⟨am3, im3, km3⟩, bm3⟩, ⟨Om4.mono (by decide), ⟨am4, im4, km4⟩, bm4⟩, ⟨Om5.mono (by decide), ⟨am5, im5, km5⟩, bm5⟩⟩ : Rws l.prog w K mg base CR 4 _ _ _ _ _ _ _ _) ⟨ONx.mono (by decide), gNx, kNx, bNx⟩ m_tuple
    have OKb := ok_kindBy (P := l.prog) (w := w) (base := base) (k := 0) FKb ⟨ONu.mono (by decide), gNu, kNu, bNu⟩
    have ORt := ok_readT (P := l.prog) (w := w) (base := base) (k := 4) FRt (⟨RC, ⟨Om2.mono (by decide), ⟨am2, im2, km2⟩, bm2⟩, ⟨Om3.mono (by decide), ⟨am3, im3, km3⟩, bm3⟩, ⟨Om4.mono (by decide), ⟨am4, im4, km4⟩, bm4⟩, ⟨Om5.mono (by decide), ⟨am5, im5, km5⟩, bm5⟩⟩ : Rws l.prog w K mg base CR 4 _ _ _ _ _ _ _ _) ⟨OKb.mono (by decide), gKb, kKb, bKb⟩ ⟨OAt.mono (by decide), gAt, kAt, bAt⟩
    have ORd := ok_readD (P := l.prog) (w := w) (base := base) (k := 5) FRd (⟨RC, ⟨Om2.mono (by decide), ⟨am2, im2, km2⟩, bm2⟩, ⟨Om3.mono (by decide), ⟨am3, im3, km3⟩, bm3⟩, ⟨Om4.mono (by decide), ⟨am4, im4, km4⟩, bm4⟩, ⟨Om5.mono (by decide), ⟨am5, im5, km5⟩, bm5⟩⟩ : Rws l.prog w K mg base CR 5 _ _ _ _ _ _ _ _) ⟨ONx.mono (by decide), gNx, kNx, bNx⟩ ⟨ORt.mono (by decide), gRt, kRt, bRt⟩ ⟨OKb.mono (by decide), gKb, kKb, bKb⟩ ⟨OB.mono (by decide), gB, kB, bB⟩
    have ORf := ok_readFB (P := l.prog) (w := w) (base := base) (k := 6) FRf ⟨ORa.mono (by decide), gRa, kRa, bRa⟩ ⟨ORh.mono (by decide), gRh, kRh, bRh⟩ ⟨ORd.mono (by decide), gRd, kRd, bRd⟩ ⟨ONm.mono (by decide), gNm, kNm, bNm⟩ m_range m_min m_len m_tuple mmd
    have OIa := ok_isArg (P := l.prog) (w := w) (base := base) (k := 0) FIa ⟨OTu.mono (by decide), gTu, kTu, bTu⟩ ⟨OAX.mono (by decide), gA, kA, bA⟩ ⟨OAm.mono (by decide), gAm, kAm, bAm⟩ mmn mmi
    have ORg := ok_rowOf (P := l.prog) (w := w) (base := base) (k := 0) FRg ⟨OTu.mono (by decide), gTu, kTu, bTu⟩ mS KS m_isinstance m_str m_len
    have OBu := ok_badUse (P := l.prog) (w := w) (base := base) (k := 4) FBu ⟨OTu.mono (by decide), gTu, kTu, bTu⟩ ⟨OA.mono (by decide), gA, kA, bA⟩ ⟨OIf.mono (by decide), gIf, kIf, bIf⟩ m_enumerate
    have OBi := ok_badInp (P := l.prog) (w := w) (base := base) (k := 2) FBi ⟨OAm.mono (by decide), gAm, kAm, bAm⟩ m_enumerate
    have ONp := ok_parts (P := l.prog) (w := w) (base := base) (k := 5) FNp ⟨OTu.mono (by decide), gTu, kTu, bTu⟩ ⟨OBu.mono (by decide), gBu, kBu, bBu⟩ ⟨OBi.mono (by decide), gBi, kBi, bBi⟩ mmu mmi mmr
    have Ob0 := ok_lkI (P := l.prog) (w := w) (base := base) (k := 0) Fb0 LC m_dict
    have Ob1 := ok_koA (P := l.prog) (w := w) (base := base) (k := 3) Fb1 LC ⟨OIa.mono (by decide), gIa, kIa, bIa⟩ m_len
    have Ob2 := ok_plain (P := l.prog) (w := w) (base := base) (k := 4) Fb2 LC ⟨Ob1.mono (by decide), ⟨ab1, ib1, kb1⟩, bb1⟩ ⟨OWh.mono (by decide), gWh, kWh, bWh⟩
    have Ob3 := ok_may (P := l.prog) (w := w) (base := base) (k := 4) Fb3 LC ⟨Ob1.mono (by decide), ⟨ab1, ib1, kb1⟩, bb1⟩ ⟨OWh.mono (by decide), gWh, kWh, bWh⟩
    have Ob4 := ok_newN (P := l.prog) (w := w) (base := base) (k := 1) Fb4 LC ⟨OA.mono (by decide), gA, kA, bA⟩
    have Ob5 := ok_pLet (P := l.prog) (w := w) (base := base) (k := 5) Fb5 LC ⟨Ob4.mono (by decide), ⟨ab4, ib4, kb4⟩, bb4⟩ ⟨OA.mono (by decide), gA, kA, bA⟩ ⟨OFd.mono (by decide), gFd, kFd, bFd⟩ ⟨OTu.mono (by decide), gTu, kTu, bTu⟩ ⟨Ob3.mono (by decide), ⟨ab3, ib3, kb3⟩, bb3⟩ ⟨OWh.mono (by decide), gWh, kWh, bWh⟩ m_len m_enumerate
    have Ob6 := ok_pPick (P := l.prog) (w := w) (base := base) (k := 5) Fb6 LC ⟨Ob4.mono (by decide), ⟨ab4, ib4, kb4⟩, bb4⟩ ⟨Ob2.mono (by decide), ⟨ab2, ib2, kb2⟩, bb2⟩ ⟨Ob1.mono (by decide), ⟨ab1, ib1, kb1⟩, bb1⟩ ⟨OWh.mono (by decide), gWh, kWh, bWh⟩ m_max
    have Ob7 := ok_pIn (P := l.prog) (w := w) (base := base) (k := 6) Fb7 LC ⟨Ob5.mono (by decide), ⟨ab5, ib5, kb5⟩, bb5⟩ ⟨Ob6.mono (by decide), ⟨ab6, ib6, kb6⟩, bb6⟩ ⟨Ob2.mono (by decide), ⟨ab2, ib2, kb2⟩, bb2⟩
    have OKn := ok_kBN (P := l.prog) (w := w) (base := base) (k := 7) (k0 := 0) FKn ⟨ONp.mono (by decide), gNp, kNp, bNp⟩ ⟨ORg.mono (by decide), gRg, kRg, bRg⟩ LC ⟨mkK, ab0, ib0, kcK⟩ (Ob0.mono (by decide)) bb0 ⟨Ob7.mono (by decide), ⟨ab7, ib7, kb7⟩, bb7⟩ m_enumerate
    have ONe := ok_needP (P := l.prog) (w := w) (base := base) (k := 9) FNe ⟨OKn.mono (by decide), gKn, kKn, bKn⟩
    have OAx := ok_argT (P := l.prog) (w := w) (base := base) (k := 0) (K := K) FAx m_str
    have ORx := ok_rowT (P := l.prog) (w := w) (base := base) (k := 1) FRx ⟨OAx.mono (by decide), gAx, kAx, bAx⟩
    have OPx := ok_progT (P := l.prog) (w := w) (base := base) (k := 10) FPx ⟨ONe.mono (by decide), gNe, kNe, bNe⟩ ⟨OFr.mono (by decide), gFr, kFr, bFr⟩ ⟨ORx.mono (by decide), gRx, kRx, bRx⟩ m_str
    have OEf := ok_endF (P := l.prog) (w := w) (base := base) (k := 1) (K := K) FEf ⟨OWo.mono (by decide), gWo, kWo, bWo⟩ m_range m_len
    have ORu := ok_readU (P := l.prog) (w := w) (base := base) (k := 7) FRu (⟨RC, ⟨Om2.mono (by decide), ⟨am2, im2, km2⟩, bm2⟩, ⟨Om3.mono (by decide), ⟨am3, im3, km3⟩, bm3⟩, ⟨Om4.mono (by decide), ⟨am4, im4, km4⟩, bm4⟩, ⟨Om5.mono (by decide), ⟨am5, im5, km5⟩, bm5⟩⟩ : Rws l.prog w K mg base CR 7 _ _ _ _ _ _ _ _) ⟨ORa.mono (by decide), gRa, kRa, bRa⟩ ⟨OA.mono (by decide), gA, kA, bA⟩ ⟨OEf.mono (by decide), gEf, kEf, bEf⟩ ⟨ORf.mono (by decide), gRf, kRf, bRf⟩
    have ORs := ok_readUs (P := l.prog) (w := w) (base := base) (k := 8) FRs (⟨RC, ⟨Om2.mono (by decide), ⟨am2, im2, km2⟩, bm2⟩, ⟨Om3.mono (by decide), ⟨am3, im3, km3⟩, bm3⟩, ⟨Om4.mono (by decide), ⟨am4, im4, km4⟩, bm4⟩, ⟨Om5.mono (by decide), ⟨am5, im5, km5⟩, bm5⟩⟩ : Rws l.prog w K mg base CR 8 _ _ _ _ _ _ _ _) ⟨ORa.mono (by decide), gRa, kRa, bRa⟩ ⟨ORu.mono (by decide), gRu, kRu, bRu⟩ m_len m_tuple mmu
    have ORi := ok_readI (P := l.prog) (w := w) (base := base) (k := 4) FRi (⟨RC, ⟨Om2.mono (by decide), ⟨am2, im2, km2⟩, bm2⟩, ⟨Om3.mono (by decide), ⟨am3, im3, km3⟩, bm3⟩, ⟨Om4.mono (by decide), ⟨am4, im4, km4⟩, bm4⟩, ⟨Om5.mono (by decide), ⟨am5, im5, km5⟩, bm5⟩⟩ : Rws l.prog w K mg base CR 4 _ _ _ _ _ _ _ _) ⟨Om6.mono (by decide), ⟨am6, im6, km6⟩, bm6⟩ m_len m_tuple mmi
    have OAb := ok_argBy (P := l.prog) (w := w) (base := base) (k := 2) (K := K) FAb ⟨ONuX.mono (by decide), gNu, kNu, bNu⟩
    have ORe := ok_readA (P := l.prog) (w := w) (base := base) (k := 4) FRe (⟨RC, ⟨Om2.mono (by decide), ⟨am2, im2, km2⟩, bm2⟩, ⟨Om3.mono (by decide), ⟨am3, im3, km3⟩, bm3⟩, ⟨Om4.mono (by decide), ⟨am4, im4, km4⟩, bm4⟩, ⟨Om5.mono (by decide), ⟨am5, im5, km5⟩, bm5⟩⟩ : Rws l.prog w K mg base CR 4 _ _ _ _ _ _ _ _) ⟨OAb.mono (by decide), gAb, kAb, bAb⟩ ⟨OIa.mono (by decide), gIa, kIa, bIa⟩
    have ORk := ok_readAs (P := l.prog) (w := w) (base := base) (k := 5) FRk (⟨RC, ⟨Om2.mono (by decide), ⟨am2, im2, km2⟩, bm2⟩, ⟨Om3.mono (by decide), ⟨am3, im3, km3⟩, bm3⟩, ⟨Om4.mono (by decide), ⟨am4, im4, km4⟩, bm4⟩, ⟨Om5.mono (by decide), ⟨am5, im5, km5⟩, bm5⟩⟩ : Rws l.prog w K mg base CR 5 _ _ _ _ _ _ _ _) ⟨ORe.mono (by decide), gRe, kRe, bRe⟩ m_len m_tuple
    have ORn := ok_readNs (P := l.prog) (w := w) (base := base) (k := 4) FRn (⟨RC, ⟨Om2.mono (by decide), ⟨am2, im2, km2⟩, bm2⟩, ⟨Om3.mono (by decide), ⟨am3, im3, km3⟩, bm3⟩, ⟨Om4.mono (by decide), ⟨am4, im4, km4⟩, bm4⟩, ⟨Om5.mono (by decide), ⟨am5, im5, km5⟩, bm5⟩⟩ : Rws l.prog w K mg base CR 4 _ _ _ _ _ _ _ _) ⟨OA.mono (by decide), gA, kA, bA⟩ m_range m_tuple
    have ORr := ok_readR (P := l.prog) (w := w) (base := base) (k := 6) FRr (⟨RC, ⟨Om2.mono (by decide), ⟨am2, im2, km2⟩, bm2⟩, ⟨Om3.mono (by decide), ⟨am3, im3, km3⟩, bm3⟩, ⟨Om4.mono (by decide), ⟨am4, im4, km4⟩, bm4⟩, ⟨Om5.mono (by decide), ⟨am5, im5, km5⟩, bm5⟩⟩ : Rws l.prog w K mg base CR 6 _ _ _ _ _ _ _ _) ⟨ORn.mono (by decide), gRn, kRn, bRn⟩ ⟨ORk.mono (by decide), gRk, kRk, bRk⟩ mma
    have ORp := ok_readP (P := l.prog) (w := w) (base := base) (k := 9) FRp (⟨RC, ⟨Om2.mono (by decide), ⟨am2, im2, km2⟩, bm2⟩, ⟨Om3.mono (by decide), ⟨am3, im3, km3⟩, bm3⟩, ⟨Om4.mono (by decide), ⟨am4, im4, km4⟩, bm4⟩, ⟨Om5.mono (by decide), ⟨am5, im5, km5⟩, bm5⟩⟩ : Rws l.prog w K mg base CR 9 _ _ _ _ _ _ _ _) ⟨ORo.mono (by decide), gRo, kRo, bRo⟩ ⟨ORa.mono (by decide), gRa, kRa, bRa⟩ ⟨ORs.mono (by decide), gRs, kRs, bRs⟩ ⟨ORi.mono (by decide), gRi, kRi, bRi⟩ ⟨ORr.mono (by decide), gRr, kRr, bRr⟩ m_range m_len m_tuple mmr
    have OQ := ok_draw (P := l.prog) (w := w) (base := base) FQ FX bX gX
    have OJ := ok_digit (P := l.prog) (w := w) (base := base) FJ FX bX gX m_range
    have OLn := ok_namesP (P := l.prog) (w := w) (base := base) (k := 0) FLn ⟨OJ.mono (by decide), gJ, kJ, bJ⟩ m_range
    have OLf := ok_faceP (P := l.prog) (w := w) (base := base) (k := 0) (K := K) FLf ⟨OJ.mono (by decide), gJ, kJ, bJ⟩ ⟨OLn.mono (by decide), gLn, kLn, bLn⟩ m_range m_len m_tuple m_sorted m_enumerate
    have OLa := ok_argsOf (P := l.prog) (w := w) (base := base) (k := 0) (K := K) FLa m_isinstance m_tuple m_enumerate m_range
    have OLl := ok_let (P := l.prog) (w := w) (base := base) (k := 2) FLl ⟨OJ.mono (by decide), gJ, kJ, bJ⟩ ⟨OLa.mono (by decide), gLa, kLa, bLa⟩ m_isinstance m_str m_tuple m_len
    have OLp := ok_pick (P := l.prog) (w := w) (base := base) (k := 2) FLp ⟨OJ.mono (by decide), gJ, kJ, bJ⟩ ⟨OLa.mono (by decide), gLa, kLa, bLa⟩ m_isinstance m_tuple m_len
    have OLg := ok_prog (P := l.prog) (w := w) (base := base) (k := 4) FLg ⟨OJ.mono (by decide), gJ, kJ, bJ⟩ ⟨OLn.mono (by decide), gLn, kLn, bLn⟩ ⟨OLf.mono (by decide), gLf, kLf, bLf⟩ ⟨OLa.mono (by decide), gLa, kLa, bLa⟩ ⟨OLp.mono (by decide), gLp, kLp, bLp⟩ ⟨OLl.mono (by decide), gLl, kLl, bLl⟩ m_isinstance m_tuple m_len m_range
    have OLb := ok_form (P := l.prog) (w := w) (base := base) (k := 3) (K := K) FLb ⟨OJ.mono (by decide), gJ, kJ, bJ⟩ ⟨OLn.mono (by decide), gLn, kLn, bLn⟩ m_tuple m_len
    have OLr := ok_lfr (P := l.prog) (w := w) (base := base) (k := 0) (K := K) FLr m_str
    have OLw := ok_argW (P := l.prog) (w := w) (base := base) (k := 0) (K := K) FLw m_int m_str
    have OLt := ok_lText (P := l.prog) (w := w) (base := base) (k := 1) FLt ⟨OLr.mono (by decide), gLr, kLr, bLr⟩ ⟨OLw.mono (by decide), gLw, kLw, bLw⟩ m_str m_list
    exact ok_law (k := 11) FL ⟨⟨OQ.mono (by decide), gQ, kQ, bQ⟩, ⟨OJ.mono (by decide), gJ, kJ, bJ⟩, ⟨OLg.mono (by decide), gLg, kLg, bLg⟩, ⟨OLb.mono (by decide), gLb, kLb, bLb⟩, ⟨OPx.mono (by decide), gPx, kPx, bPx⟩, ⟨OLt.mono (by decide), gLt, kLt, bLt⟩, ⟨ORp.mono (by decide), gRp, kRp, bRp⟩, m_enumerate, m_range, m_repr⟩
end SfC
open PySem PySem.W PyProof.Rows
set_option maxRecDepth 100000 in
set_option maxHeartbeats 0 in
theorem PySem.Challenge.cw_sameface_k59_programs_as_texts_holds : PySem.Challenge.rw_sameface_k59_programs_as_texts.Holds := by
  w_on; o_law; k_head; (case hw => w_witness2)
  k_fill
  refine SfG.walk_G (l := PySem.Challenge.rw_sameface_k59_programs_as_texts) (n := 63) (k := 12) (x := "_law_script") (CX := fun _ => L2.CX0) rfl (by decide) rfl ⟨rfl, by decide, by decide⟩ (fun w h Y => PySem.W.kIn_of Y) ?F (fun _ _ _ _ _ h => h)
  case F =>
    intro w mg fa h KX G hmg T
    refine' SfC.all_mk KX G hmg ?aWh ?lWh ?hWh ?kWh ?aAm ?lAm ?hAm ?kAm ?aTu ?lTu ?hTu ?kTu ?aA ?lA ?hA ?kA ?aNx ?lNx ?hNx ?kNx ?aFg ?lFg ?hFg ?kFg ?aNu ?lNu ?hNu ?kNu ?aWo ?lWo ?hWo ?kWo ?aB ?lB ?hB ?kB ?aC ?lC ?hC ?kC ?aAt ?lAt ?hAt ?kAt ?aD ?lD ?hD ?kD ?aE ?lE ?hE ?kE ?aIf ?lIf ?hIf ?kIf ?aFd ?lFd ?hFd ?kFd ?aRo ?lRo ?hRo ?kRo ?aRa ?lRa ?hRa ?kRa ?aNm ?lNm ?hNm ?kNm ?aDr ?lDr ?hDr ?kDr ?aFr ?lFr ?hFr ?kFr ?aRh ?lRh ?hRh ?kRh ?aKb ?lKb ?hKb ?kKb ?aRt ?lRt ?hRt ?kRt ?aRd ?lRd ?hRd ?kRd ?aRf ?lRf ?hRf ?kRf ?aIa ?lIa ?hIa ?kIa ?aRg ?lRg ?hRg ?kRg ?aBu ?lBu ?hBu ?kBu ?aBi ?lBi ?hBi ?kBi ?aNp ?lNp ?hNp ?kNp ?aKn ?lKn ?hKn ?kKn ?aNe ?lNe ?hNe ?kNe ?aAx ?lAx ?hAx ?kAx ?aRx ?lRx ?hRx ?kRx ?aPx ?lPx ?hPx ?kPx ?aEf ?lEf ?hEf ?kEf ?aRu ?lRu ?hRu ?kRu ?aRs ?lRs ?hRs ?kRs ?aRi ?lRi ?hRi ?kRi ?aAb ?lAb ?hAb ?kAb ?aRe ?lRe ?hRe ?kRe ?aRk ?lRk ?hRk ?kRk ?aRn ?lRn ?hRn ?kRn ?aRr ?lRr ?hRr ?kRr ?aRp ?lRp ?hRp ?kRp ?aX ?lX ?hX ?kX ?aQ ?lQ ?hQ ?kQ ?aJ ?lJ ?hJ ?kJ ?aLn ?lLn ?hLn ?kLn ?aLf ?lLf ?hLf ?kLf ?aLa ?lLa ?hLa ?kLa ?aLl ?lLl ?hLl ?kLl ?aLp ?lLp ?hLp ?kLp ?aLg ?lLg ?hLg ?kLg ?aLr ?lLr ?hLr ?kLr ?aLw ?lLw ?hLw ?kLw ?aLt ?lLt ?hLt ?kLt ?aLb ?lLb ?hLb ?kLb ?aL ?lL ?hL ?kL ?cmd ?cmi ?cma ?cmn ?cmu ?cmr ?aZ ?aY ?am1 ?im1 ?lm1 ?hm1 ?km1 ?am2 ?im2 ?lm2 ?hm2 ?km2 ?am3 ?im3 ?lm3 ?hm3 ?km3 ?am4 ?im4 ?lm4 ?hm4 ?km4 ?am5 ?im5 ?lm5 ?hm5 ?km5 ?am6 ?im6 ?lm6 ?hm6 ?km6 ?ab0 ?ib0 ?lb0 ?hb0 ?kb0 ?ab1 ?ib1 ?lb1 ?hb1 ?kb1 ?ab2 ?ib2 ?lb2 ?hb2 ?kb2 ?ab3 ?ib3 ?lb3 ?hb3 ?kb3 ?ab4 ?ib4 ?lb4 ?hb4 ?kb4 ?ab5 ?ib5 ?lb5 ?hb5 ?kb5 ?ab6 ?ib6 ?lb6 ?hb6 ?kb6 ?ab7 ?ib7 ?lb7 ?hb7 ?kb7 ?pgR ?hdR ?poR ?saR ?mkR ?kcR ?nN ?nW ?nA ?pgK ?hdK ?poK ?saK ?mkK ?kcK ?nF ?nI ?nK ?aS ?lS ?sS ?kS ?fS ?z_isinstance ?z_str ?z_int ?z_tuple ?z_len ?z_enumerate ?z_range ?z_sorted ?z_repr ?z_list ?z_dict ?z_max ?z_min
    (case aWh => k_is)
    (case lWh => k_is)
    (case hWh => k_is)
    (case kWh => k_is)
    (case aAm => k_is)
    (case lAm => k_is)
    (case hAm => k_is)
    (case kAm => k_is)
    (case aTu => k_is)
    (case lTu => k_is)
    (case hTu => k_is)
    (case kTu => k_is)
    (case aA => k_is)
    (case lA => k_is)
    (case hA => k_is)
    (case kA => k_is)
    (case aNx => k_is)
    (case lNx => k_is)
    (case hNx => k_is)
    (case kNx => k_is)
    (case aFg => k_is)
    (case lFg => k_is)
    (case hFg => k_is)
    (case kFg => k_is)
    (case aNu => k_is)
    (case lNu => k_is)
    (case hNu => k_is)
    (case kNu => k_is)
    (case aWo => k_is)
    (case lWo => k_is)
    (case hWo => k_is)
    (case kWo => k_is)
    (case aB => k_is)
    (case lB => k_is)
    (case hB => k_is)
    (case kB => k_is)
    (case aC => k_is)
    (case lC => k_is)
    (case hC => k_is)
    (case kC => k_is)
    (case aAt => k_is)
    (case lAt => k_is)
    (case hAt => k_is)
    (case kAt => k_is)
    (case aD => k_is)
    (case lD => k_is)
    (case hD => k_is)
    (case kD => k_is)
    (case aE => k_is)
    (case lE => k_is)
    (case hE => k_is)
    (case kE => k_is)
    (case aIf => k_is)
    (case lIf => k_is)
    (case hIf => k_is)
    (case kIf => k_is)
    (case aFd => k_is)
    (case lFd => k_is)
    (case hFd => k_is)
    (case kFd => k_is)
    (case aRo => k_is)
    (case lRo => k_is)
    (case hRo => k_is)
    (case kRo => k_is)
    (case aRa => k_is)
    (case lRa => k_is)
    (case hRa => k_is)
    (case kRa => k_is)
    (case aNm => k_is)
    (case lNm => k_is)
    (case hNm => k_is)
    (case kNm => k_is)
    (case aDr => k_is)
    (case lDr => k_is)
    (case hDr => k_is)
    (case kDr => k_is)
    (case aFr => k_is)
    (case lFr => k_is)
    (case hFr => k_is)
    (case kFr => k_is)
    (case aRh => k_is)
    (case lRh => k_is)
    (case hRh => k_is)
    (case kRh => k_is)
    (case aKb => k_is)
    (case lKb => k_is)
    (case hKb => k_is)
    (case kKb => k_is)
    (case aRt => k_is)
    (case lRt => k_is)
    (case hRt => k_is)
    (case kRt => k_is)
    (case aRd => k_is)
    (case lRd => k_is)
    (case hRd => k_is)
    (case kRd => k_is)
    (case aRf => k_is)
    (case lRf => k_is)
    (case hRf => k_is)
    (case kRf => k_is)
    (case aIa => k_is)
    (case lIa => k_is)
    (case hIa => k_is)
    (case kIa => k_is)
    (case aRg => k_is)
    (case lRg => k_is)
    (case hRg => k_is)
    (case kRg => k_is)
    (case aBu => k_is)
    (case lBu => k_is)
    (case hBu => k_is)
    (case kBu => k_is)
    (case aBi => k_is)
    (case lBi => k_is)
    (case hBi => k_is)
    (case kBi => k_is)
    (case aNp => k_is)
    (case lNp => k_is)
    (case hNp => k_is)
    (case kNp => k_is)
    (case aKn => k_is)
    (case lKn => k_is)
    (case hKn => k_is)
    (case kKn => k_is)
    (case aNe => k_is)
    (case lNe => k_is)
    (case hNe => k_is)
    (case kNe => k_is)
    (case aAx => k_is)
    (case lAx => k_is)
    (case hAx => k_is)
    (case kAx => k_is)
    (case aRx => k_is)
    (case lRx => k_is)
    (case hRx => k_is)
    (case kRx => k_is)
    (case aPx => k_is)
    (case lPx => k_is)
    (case hPx => k_is)
    (case kPx => k_is)
    (case aEf => k_is)
    (case lEf => k_is)
    (case hEf => k_is)
    (case kEf => k_is)
    (case aRu => k_is)
    (case lRu => k_is)
    (case hRu => k_is)
    (case kRu => k_is)
    (case aRs => k_is)
    (case lRs => k_is)
    (case hRs => k_is)
    (case kRs => k_is)
    (case aRi => k_is)
    (case lRi => k_is)
    (case hRi => k_is)
    (case kRi => k_is)
    (case aAb => k_is)
    (case lAb => k_is)
    (case hAb => k_is)
    (case kAb => k_is)
    (case aRe => k_is)
    (case lRe => k_is)
    (case hRe => k_is)
    (case kRe => k_is)
    (case aRk => k_is)
    (case lRk => k_is)
    (case hRk => k_is)
    (case kRk => k_is)
    (case aRn => k_is)
    (case lRn => k_is)
    (case hRn => k_is)
    (case kRn => k_is)
    (case aRr => k_is)
    (case lRr => k_is)
    (case hRr => k_is)
    (case kRr => k_is)
    (case aRp => k_is)
    (case lRp => k_is)
    (case hRp => k_is)
    (case kRp => k_is)
    (case aX => k_is)
    (case lX => k_is)
    (case hX => k_is)
    (case kX => k_is)
    (case aQ => k_is)
    (case lQ => k_is)
    (case hQ => k_is)
    (case kQ => k_is)
    (case aJ => k_is)
    (case lJ => k_is)
    (case hJ => k_is)
    (case kJ => k_is)
    (case aLn => k_is)
    (case lLn => k_is)
    (case hLn => k_is)
    (case kLn => k_is)
    (case aLf => k_is)
    (case lLf => k_is)
    (case hLf => k_is)
    (case kLf => k_is)
    (case aLa => k_is)
    (case lLa => k_is)
    (case hLa => k_is)
    (case kLa => k_is)
    (case aLl => k_is)
    (case lLl => k_is)
    (case hLl => k_is)
    (case kLl => k_is)
    (case aLp => k_is)
    (case lLp => k_is)
    (case hLp => k_is)
    (case kLp => k_is)
    (case aLg => k_is)
    (case lLg => k_is)
    (case hLg => k_is)
    (case kLg => k_is)
    (case aLr => k_is)
    (case lLr => k_is)
    (case hLr => k_is)
    (case kLr => k_is)
    (case aLw => k_is)
    (case lLw => k_is)
    (case hLw => k_is)
    (case kLw => k_is)
    (case aLt => k_is)
    (case lLt => k_is)
    (case hLt => k_is)
    (case kLt => k_is)
    (case aLb => k_is)
    (case lLb => k_is)
    (case hLb => k_is)
    (case kLb => k_is)
    (case aL => k_is)
    (case lL => k_is)
    (case hL => k_is)
    (case kL => k_is)
    (case cmd => k_is)
    (case cmi => k_is)
    (case cma => k_is)
    (case cmn => k_is)
    (case cmu => k_is)
    (case cmr => k_is)
    (case aZ => k_is)
    (case aY => k_is)
    (case am1 => k_is)
    (case im1 => k_is)
    (case lm1 => k_is)
    (case hm1 => k_is)
    (case km1 => k_is)
    (case am2 => k_is)
    (case im2 => k_is)
    (case lm2 => k_is)
    (case hm2 => k_is)
    (case km2 => k_is)
    (case am3 => k_is)
    (case im3 => k_is)
    (case lm3 => k_is)
    (case hm3 => k_is)
    (case km3 => k_is)
    (case am4 => k_is)
    (case im4 => k_is)
    (case lm4 => k_is)
    (case hm4 => k_is)
    (case km4 => k_is)
    (case am5 => k_is)
    (case im5 => k_is)
    (case lm5 => k_is)
    (case hm5 => k_is)
    (case km5 => k_is)
    (case am6 => k_is)
    (case im6 => k_is)
    (case lm6 => k_is)
    (case hm6 => k_is)
    (case km6 => k_is)
    (case ab0 => k_is)
    (case ib0 => k_is)
    (case lb0 => k_is)
    (case hb0 => k_is)
    (case kb0 => k_is)
    (case ab1 => k_is)
    (case ib1 => k_is)
    (case lb1 => k_is)
    (case hb1 => k_is)
    (case kb1 => k_is)
    (case ab2 => k_is)
    (case ib2 => k_is)
    (case lb2 => k_is)
    (case hb2 => k_is)
    (case kb2 => k_is)
    (case ab3 => k_is)
    (case ib3 => k_is)
    (case lb3 => k_is)
    (case hb3 => k_is)
    (case kb3 => k_is)
    (case ab4 => k_is)
    (case ib4 => k_is)
    (case lb4 => k_is)
    (case hb4 => k_is)
    (case kb4 => k_is)
    (case ab5 => k_is)
    (case ib5 => k_is)
    (case lb5 => k_is)
    (case hb5 => k_is)
    (case kb5 => k_is)
    (case ab6 => k_is)
    (case ib6 => k_is)
    (case lb6 => k_is)
    (case hb6 => k_is)
    (case kb6 => k_is)
    (case ab7 => k_is)
    (case ib7 => k_is)
    (case lb7 => k_is)
    (case hb7 => k_is)
    (case kb7 => k_is)
    (case pgR => k_is)
    (case hdR => k_is)
    (case poR => k_is)
    (case saR => k_is)
    (case mkR => k_is)
    (case kcR => k_is)
    (case nN => k_is)
    (case nW => k_is)
    (case nA => k_is)
    (case pgK => k_is)
    (case hdK => k_is)
    (case poK => k_is)
    (case saK => k_is)
    (case mkK => k_is)
    (case kcK => k_is)
    (case nF => k_is)
    (case nI => k_is)
    (case nK => k_is)
    (case aS => k_is)
    (case lS => k_is)
    (case sS => first | k_is | decide +kernel | exact rfl)
    (case kS => exact ⟨⟨_, _, rfl, rfl⟩, ⟨_, _, rfl, rfl⟩, ⟨_, _, rfl, rfl⟩, trivial⟩)
    (case fS => exact SfC.sizes_of rfl rfl rfl rfl rfl rfl)
    (case z_isinstance => k_is)
    (case z_str => k_is)
    (case z_int => k_is)
    (case z_tuple => k_is)
    (case z_len => k_is)
    (case z_enumerate => k_is)
    (case z_range => k_is)
    (case z_sorted => k_is)
    (case z_repr => k_is)
    (case z_list => k_is)
    (case z_dict => k_is)
    (case z_max => k_is)
    (case z_min => k_is)
