import PyProof.Rows.All
import Wide.All
import OpenK.AllK
import Wide.FinOn
import HandS.ForMost
import HandS.Walk
import HandS.Wide
import HandS.IsInst
import HandS.AnyAll
import HandS.Replace
import HandS.EndTab
import HandS.RaiseMore
import HandS.TupLe
import PyProof.ReprRoads
import PyProof.StrOps2
import HandS.TupAny
import HandS.StrMore
import HandS.Style
import HandS.ForExc
import HandS.ExcIs
import HandS.ExcValue
import KE.GoesEnum
import KE.GoesMore
import PyProof.DictUpdate
import PyProof.ListIndex
import PyProof.FactsAll.bool_1
import HandS.TupSets
import HandS.SortOrd
import PyProof.Rows.SortKeyStr
import HandS.Star
import PyProof.EqLayable
import KE.LtData
import PySem.Challenge.RW_sameface_k07_whole_called_otherwise
set_option Elab.async false
set_option linter.all false
set_option maxRecDepth 100000
/-! calls made where no repr is under way; repr of lists; all(..) over a text with a module's name in its test; the law's end -/
namespace SfG
open PySem PySem.Spec PyProof.Rows L2
/-! ### a def's promise where no repr is under way -/
structure FnG (P : Program) (w : World) (K : PySem.W.Frag) (mg : Str → Option Value) (base : Heap)
    (CX : CXT) (k : Nat) (f : Addr) (fd : FuncData) (ps : List Str) (sp : Sp) : Prop where
  size : ∀ vs H Q E, sp vs H Q E → vs.length = ps.length
  goes : ∀ (A : Around) (outer : List Env) (s : Shared) (H : Hp) (args : Args) (us : List Value)
    (vs : List V) (Q : VK) (E : XK), Room k A → A.guards = some [] → Env0 P w K mg base A outer s H →
    BindsTo s fd args (ps.zip us) → Vals vs us → sp vs H Q E →
    codeAny (model P w) A (.call (.ref f) args) (CR CX outer P w H s Q E) s
section
variable {P : Program} {w : World} {K : PySem.W.Frag} {mg : Str → Option Value} {base : Heap}
/-- a def by its body, where no repr is under way -/
theorem fng_of {x qual : Str} {st : Stmt} {f : Addr} {fd : FuncData} {N ps : List Str} {k : Nat} {sp : Sp}
    (F : Fun K x qual st f fd) (S : FnScope N ps (defScope st)) (len : ∀ vs H Q E, sp vs H Q E → vs.length = ps.length)
    (hbody : ∀ (cdv : Value) (A : Around) (outer : List Env) (s : Shared) (H : Hp) (vs : List V) (Q : VK) (E : XK),
      Room k (A.deeper (envOfC qual (defScope st) s.heap.objs.size f cdv)) → A.guards = some [] → sp vs H Q E →
      ∃ t, PSs (cxOf CX0 P w K mg base N qual (defScope st) f cdv A outer s H E).nox (defBody st) t ∧
        t { nx := fun _ H' => Q .non H', rt := Q } (start N vs) H) :
    FnG P w K mg base CX0 (k + 1) f fd ps sp := by
  obtain ⟨oc, od, kV, doc, pm, an, cdv, ct, osl, rfl, lk, hcd⟩ := F.ex
  refine ⟨len, ?_⟩
  intro A outer s H args us vs Q E hr hgd e0 hb r hsp
  refine LamX.run_ofS lk hcd S hr e0 hb r (len _ _ _ _ hsp) ?_
  intro hr'
  obtain ⟨t, h, q⟩ := hbody cdv A outer s H vs Q E hr' hgd hsp
  exact ⟨t, h.nox, q⟩
end
section
variable {X : Cx} {CX : CXT} {k : Nat} {f : Addr} {fd : FuncData} {ps : List Str} {sp : Sp} {dvs : List V}
  {ds : List Value} {E : XK} {x : Str} {p pos : Pos} {e : Expr} {es : List Expr} {t : TA}
theorem run_fng {pins : List (Addr × Obj)} {σ : L2.St} {H : Hp} {s : Shared} {Q : VK} {us : List Value} {vs : List V}
    (F : FnG X.prog X.w X.K X.mg X.base CX k f fd ps sp) (hr : Room k X.A) (hgd : X.A.guards = some [])
    (hb : Binds X.K fd ps ds) (hd : Vals dvs ds) (hx : Passes CX X E) (I : L2.Inv X pins σ H s) (r : Vals vs us)
    (h : sp (vs ++ dvs) H Q E) : wpAny (model X.prog X.w) X.A (call (.ref f) us) (EP X pins σ Q) X.xe s := by
  have r2 := r.append hd
  have hl : (us ++ ds).length = ps.length := r2.length.symm.trans (F.size _ _ _ _ h)
  have go := F.goes X.A X.stack s H ⟨us, []⟩ _ _ Q E hr hgd I.env0 (hb s us I.kIn hl) r2 h
  refine wpAny_call (codeAny_mono go ?_)
  intro res s' hq
  match res, hq with
  | .error e, hq => exact hx pins σ H s e s' I hq
  | .ok (.ret u), hq => exact I.after hq
  | .ok .next, hq => exact False.elim hq
  | .ok .brk, hq => exact False.elim hq
  | .ok .cont, hq => exact False.elim hq
theorem pe_callG (F : FnG X.prog X.w X.K X.mg X.base CX k f fd ps sp) (hr : Room k X.A) (hgd : X.A.guards = some [])
    (hg : Gl X x) (hm : X.mg x = some (.ref f)) (hk : PySem.W.keepIn X.K (.ref f) = true)
    (hb : Binds X.K fd ps ds) (hd : Vals dvs ds) (hx : Passes CX X E) (ha : PA X (e :: es) t)
    (hdb : (x == ("__debug__" : Str)) = false := by decide)
    (he : starEach (e :: es) X.env = (false, eval e X.env) :: starEach es X.env := by rfl)
    (hpl : (backTo pos (starEach es X.env)).any (·.1) = false := by rfl) :
    PE X (.Call (.Name x p) (e :: es) [] pos) (tCall sp dvs E t) := by
  constructor
  intro pins s σ H Q I h
  refine wpAny_Call_Name_kw (ld_glob I hg hm ?_ hdb)
  refine PySem.W.callWith_K (h₀ := X.base) I.ok.mod.kin hk ?_ he hpl
  refine thn (ha.run pos pins s σ H _ I h) ?_
  rintro us s1 ⟨vs, H1, I1, r, q⟩
  exact ⟨I1.kIn, run_fng F hr hgd hb hd hx I1 r q⟩
end
/-! ### repr of a list or a tuple of plain data -/
def rRepr (K : PySem.W.Frag) : List V → Hp → VK → Prop := fun xs H Q =>
  ∃ (a : Addr) (d : PyData) (S : Str), xs = [.ref a] ∧ Dp K H (.ref a) d ∧ d.showable = true ∧ d.hasDict = false ∧
    d.depth ≤ 30 ∧ d.shown = S ∧ S.length ≤ sizeLine ∧ Q (.str S) H
theorem call_repr {X : Cx} {k : Nat} (hr : Room k X.A) (hgd : X.A.guards = some []) :
    CallR X (.builtin "repr") (rRepr X.K) := by
  intro pins s σ H xs us Q I r h
  obtain ⟨a, d, S, rfl, hd, hs, hn, hdep, rfl, hz, q⟩ := h
  obtain ⟨u, rfl, ru⟩ := vals1 r
  cases (show u = Value.ref a from ru)
  obtain ⟨as, rd⟩ := Dp.reads I d _ _ hd (show RelV (.ref a) (.ref a) from rfl)
  have hun := hr.un
  refine repr_of_reads' rd hs (fun z => ?_) hgd (by omega) (fun _ _ z => z) (fun h' u' tk hk => ?_) hz
  · rw [hn] at z
    cases z
  · exact ⟨.str d.shown, H, I.kept hk, ⟨_, rfl⟩, q⟩
/-! ### all(test for x in e), e a text, the test may name what the module holds -/
/-- the test of one sign, run in the expression's own frame; the module's names are to be had -/
def EltG (X : Cx) (scope : Scope) (x : Str) (elt : Expr) (pb : Nat → Bool) : Prop :=
  ∀ (cenv : Env) (A' : Around) (E' : Value → Shared → Prop) (c : Nat) (t : Tok) (s2 : Shared) (m2 : Str → Option Value),
    cenv.scope = scope → cenv.globals = mainGlobals → s2.heap.Ns mainGlobals X.mg → s2.heap.Ns cenv.locals m2 →
    m2 x = some (.str ⟨#[c]⟩ t) →
    wpAny (model X.prog X.w) A' (eval elt cenv) (fun y s3 => y = .bool (pb c) ∧ Keeps s2 s3) E' s2
/-- x in NAME, NAME a text of the module -/
theorem elt_in {X : Cx} {scope : Scope} {x g : Str} {z : Str} {tz : Tok} {p1 p2 p3 : Pos} (hk : scope.kind = .function)
    (hl : scope.names.lookup x = some .local) (hgl : scope.names.lookup g = some .globalImplicit) (hz : X.mg g = some (.str z tz))
    (hd : (x == ("__debug__" : Str)) = false := by decide) (hd2 : (g == ("__debug__" : Str)) = false := by decide) :
    EltG X scope x (.Compare (.Name x p1) [.In] [.Name g p2] p3) (fun c => decide (c ∈ z.cps.toList)) := by
  intro cenv A' E' c t s2 m2 hs hgb hmn hn hm
  have kd : cenv.scope.kind = .function := by rw [hs]; exact hk
  refine wpAny_Compare1 ?_
  refine wpAny_Name (wpAny_loadName_local kd (show cenv.scope.names.lookup x = some .local by rw [hs]; exact hl) hn hm ?_) hd
  refine Calls.Name_function_global kd (show cenv.scope.names.lookup g = some .globalImplicit by rw [hs]; exact hgl) ?_ hd2
  refine Calls.loadGlobal_global (by rw [hgb]; exact hmn) hz ?_
  refine PyProof.Rows.in_str ?_
  exact ⟨congrArg Value.bool (PySem.StrLaws.found_one z c), GxR.keeps_refl _⟩
/-- the expression's code object: found in the def's table, or laid there -/
theorem gen_code {prog : Program} {w : World} {A : Around} {E : Value → Shared → Prop} {env : Env} {gpos : Pos} {q : Str} {scope : Scope}
    {c P : Addr} {ps : Array Value} {s2 : Shared} {Q : Value → Shared → Prop} (hcode : env.code = .ref c) (cd : PySem.W.CodeHd s2.heap c P)
    (hP : s2.heap.get? P = some { cls := .none, data := .fields ps }) (ht : TriplesOk ps.toList)
    (h : ∀ (code : Value) (h3 : Heap) (tk : Nat) (ps' : Array Value), Heap.ExtBut P s2.heap h3 → s2.heap.objs.size ≤ h3.objs.size →
      h3.get? P = some { cls := .none, data := .fields ps' } → (∃ more, ps' = ps ++ more) → TriplesOk ps'.toList →
      Q code { s2 with heap := h3, toks := tk }) : wpAny (model prog w) A (genexprCode env gpos q scope) Q E s2 := by
  cases hf : codeAmong gpos ps.toList with
  | some cv =>
    exact wpAny_genexprCode_hit hcode (cd.code hP ht) hf (h cv s2.heap s2.toks ps (Heap.ExtBut.refl _ _) (Nat.le_refl _) hP ⟨#[], by simp⟩ ht)
  | none =>
    refine wpAny_genexprCodeX hcode (cd.code hP ht) (cd.tab hP) hf ?_
    intro c' h' tk hx hge hlt hco' _ htab' _
    obtain ⟨o1, vs, f1, tf, fl, tg, inF, tx, tt, op, _, _, _, _, _, _, _, _, _, htr, _⟩ := hco'
    exact h _ h' tk _ hx (Nat.le_trans hge (Nat.le_of_lt hlt)) htab'.2 ⟨_, rfl⟩ htr
section
variable {X : Cx} {pins : List (Addr × Obj)} {σ : L2.St} {H : Hp} {s : Shared}
theorem gen_made {c P : Addr} {elt iter : Expr} {x : Str} {px gpos : Pos} {scope : Scope} {pb : Nat → Bool} {te : TE} {k : Nat}
    {Q' : Value → Shared → Prop} {R : Str → Hp → Prop} (hr : Room k X.A) (TB : GxR.TabB X.base X.mg c P) (hcode : X.env.code = .ref c)
    (S : GxR.GenS X.env scope x) (hi : PE X iter te) (hel : EltG X scope x elt pb) (hs : ∀ v, genFold iter X.env v = pure v)
    (I : L2.Inv X pins σ H s) (h : te σ H fun v H1 => ∃ a : Str, v = .str a ∧ GxR.TabG H1 P ∧ R a H1)
    (hQ : ∀ a H1 g s5, R a H1 → GxR.Ready X pins σ H1 P a pb g s5 → Q' (.ref g) s5) :
    wpAny (model X.prog X.w) X.A (eval (.GeneratorExp elt [⟨.Name x px, iter, [], 0⟩] scope gpos) X.env) Q' X.xe s := by
  have hdp := hr.dp
  refine wpAny_GeneratorExp_walksQ hr.hd S.co (closure_ok S.free) S.cell S.dot S.loc S.kind (by omega) ?_ hs
  refine thn (hi.run pins s σ H _ I h) ?_
  rintro xv s1 ⟨v, H1, I1, r1, a, rfl, ⟨ps, hP, ht⟩, q1⟩
  obtain ⟨t, rfl⟩ := _root_.id r1
  refine wpAny_pyIter_str ?_
  intro o St W hst
  have hPs : s1.heap.get? P = some { cls := .none, data := .fields ps } := I1.hok P _ hP
  have hPlt := Heap.lt_size hPs
  have lim2 : (s1.heap.push o).NoLimit := I1.nolimit.push o
  refine ⟨lim2, ?_⟩
  refine gen_code (s2 := { s1 with heap := s1.heap.push o }) hcode (TB.code.keeps fun b u e => Heap.get?_push_of_some _ (I1.bk b u e)) (Heap.get?_push_of_some _ hPs) ht ?_
  intro code h3 tk ps' hx hsz hP3 hmore ht3
  have hcl : cStatics < s1.heap.objs.size := by
    obtain ⟨_, hns, _⟩ := I1.nolimit
    exact hns.lt
  have hcP : cStatics ≠ P := by
    intro e
    obtain ⟨_, ⟨o', es, ep, ho, hd, _⟩, _⟩ := I1.nolimit
    rw [e, hPs] at ho
    cases ho
    cases hd
  have sz2 : (s1.heap.push o).objs.size = s1.heap.objs.size + 1 := Heap.size_push ..
  have keep3 : ∀ b u, b ≠ P → s1.heap.get? b = some u → h3.get? b = some u :=
    fun b u hb e => hx b u hb (Heap.get?_push_of_some _ e)
  have hsz' : s1.heap.objs.size + 1 ≤ h3.objs.size := by
    rw [← sz2]
    exact hsz
  have ns3 : h3.Ns mainGlobals X.mg := ((I1.mod.glob.keeps I1.bk).push o).extBut hx TB.gP
  obtain ⟨bm, ob, e1, e2, e3, e4, e5, e6, e7, e8⟩ := TB.bm
  refine wpAny_builtinsFor (m := X.mg) (by rw [I1.ok.glob]; exact ns3) e1 e2 (keep3 _ _ e4 (I1.bk _ _ e5)) e6 e7 e8 ?_
  refine ⟨s1.heap.objs.size, [s1.heap.objs.size], [s1.heap.objs.size], a.cps.size, SignAt a, St, fun _ => true,
    fun i y => ∃ cc, a.cps[i]? = some cc ∧ y = .bool (pb cc), rfl, W, ?_, ?_, lim2.extBut hx hcP, ?_, ?_, ?_⟩
  · refine (W X.A hr.hd).frame _ _ _ hst ?_
    intro b hb u e
    have eb : b = s1.heap.objs.size := by simpa using hb
    refine hx b u ?_ e
    intro z
    rw [← z, eb] at hPlt
    exact Nat.lt_irrefl _ hPlt
  · intro b hb
    have eb : b = s1.heap.objs.size := by simpa using hb
    rw [eb]
    show s1.heap.objs.size < h3.objs.size
    omega
  · intro z
    have eb : cStatics = s1.heap.objs.size := by simpa using z
    rw [eb] at hcl
    exact Nat.lt_irrefl _ hcl
  · intro href hhref
    constructor
    · intro A' E' i v s2 m2 hA hPv hn hm hk
      simp only [List.forIn_nil]
      exact wpAny_pure ⟨rfl, GxR.keeps_refl _⟩
    · intro A' E' i v s2 m2 hA hPv hp hn hm hk
      obtain ⟨cc, u, hcc, rfl⟩ := hPv
      have nsM : s2.heap.Ns mainGlobals X.mg := by
        obtain ⟨om, es, ep, g1, g2⟩ := ns3
        have glt : mainGlobals < s1.heap.objs.size := by
          obtain ⟨o9, _, _, g9, _⟩ := I1.mod.glob.keeps I1.bk
          exact Heap.lt_size g9
        refine ⟨om, es, ep, hk mainGlobals ?_ ?_ om (hhref _ _ g1), g2⟩
        · refine List.mem_range.mpr ?_
          show mainGlobals < h3.objs.size
          exact Heap.lt_size g1
        · intro z
          have eb : mainGlobals = s1.heap.objs.size := by simpa using z
          rw [eb] at glt
          exact Nat.lt_irrefl _ glt
      exact wpAny_mono (hel _ A' E' cc u s2 m2 rfl I1.ok.glob nsM hn hm) (fun y s3 r => ⟨⟨cc, hcc, r.1⟩, r.2⟩) (fun _ _ e => e)
  · intro g h5 tk5 gs hgb hag hsz5 hk5 W5 hat
    simp only [GxR.passing_true, List.length_range] at W5
    refine hQ a H1 g _ q1 ⟨_, _, _, _, _, W5.in4_1, hat, ?_, ?_⟩
    · intro j y sj Qj Ej hy hQj
      obtain ⟨i, hij, cc, hcc, rfl⟩ := hy
      obtain ⟨hj, ej⟩ := List.getElem?_eq_some_iff.mp hij
      rw [List.getElem_range] at ej
      subst ej
      have e9 : a.cps.toList[j]? = some cc := by rw [Array.getElem?_toList]; exact hcc
      have hQ2 : Qj (GxR.trF pb a.cps.toList j) sj := hQj
      rw [GxR.trF_some e9] at hQ2
      exact wpAny_truthy_bool hQ2
    · intro s' hmv
      obtain ⟨more, em⟩ := hmore
      have nwr : ∀ b u, s1.heap.get? b = some u → b ∉ h3.objs.size :: [s1.heap.objs.size] := by
        intro b u e hb
        have hl := Heap.lt_size e
        rcases List.mem_cons.mp hb with z | z
        · rw [z] at hl
          have h9 : (h3.objs.size : Nat) < s1.heap.objs.size := hl
          omega
        · have eb : b = s1.heap.objs.size := by simpa using z
          rw [eb] at hl
          exact Nat.lt_irrefl _ hl
      have J := GxR.inv_tab (more := more) (h' := s'.heap) (g' := s'.gens) (d' := s'.drawn) (t' := s'.toks) I1 hP
        (fun b u hb e => hmv.heap b u (nwr b u e) (hk5 b u (keep3 b u hb e)))
        (by rw [← em]; exact hmv.heap P _ (nwr P _ hPs) (hk5 P _ hP3)) (AllBare.movedS (I1.bare.push hgb) hmv)
      rw [GxR.sh_eta s1 s' hmv.os] at J
      exact ⟨upd H1 P (.tbl (ps ++ more)), ⟨⟨ps ++ more, upd_same, by rw [← em]; exact ht3⟩, fun b hb => upd_ne hb⟩, J⟩
theorem pe_allG {c P : Addr} {elt iter : Expr} {x : Str} {px p pos gpos : Pos} {scope : Scope} {pb : Nat → Bool} {te : TE} {k : Nat}
    (hr : Room k X.A) (hg : Gl X "all") (hm : X.mg "all" = none) (TB : GxR.TabB X.base X.mg c P) (hcode : X.env.code = .ref c)
    (S : GxR.GenS X.env scope x) (hi : PE X iter te) (hel : EltG X scope x elt pb) (hs : ∀ v, genFold iter X.env v = pure v)
    (he : starEach [.GeneratorExp elt [⟨.Name x px, iter, [], 0⟩] scope gpos] X.env =
      (false, eval (.GeneratorExp elt [⟨.Name x px, iter, [], 0⟩] scope gpos) X.env) :: starEach [] X.env := by rfl) :
    PE X (.Call (.Name "all" p) [.GeneratorExp elt [⟨.Name x px, iter, [], 0⟩] scope gpos] [] pos) (GxR.tAllS P pb te) := by
  constructor
  intro pins s σ H Q I h
  refine wpAny_Call_Name_kw (ld_blt I hg hm (show bootBuiltins "all" = some (.builtin "all") by decide +kernel) ?_)
  refine PyProof.Rows.callWith_builtin1 ?_ he (by rfl)
  rw [he]
  refine Calls.spliced_cons (gen_made (R := fun a H1 => ∀ H2, GxR.Tabbed P H1 H2 → Q (.bl (a.cps.toList.all pb)) H2) hr TB hcode S hi hel hs I h ?_)
  intro a H1 g s5 hR hG
  obtain ⟨fp, wr, G, F, St, W, hst, htr, hI⟩ := hG
  refine Calls.spliced_nil (call_all_walkS (W.self 0 _ _ _ hst ⟨g, fp, wr, G, _, F, St, _, rfl, W, hst, htr, ?_⟩))
  intro s' hmv
  obtain ⟨H2, hT, J⟩ := hI s' hmv
  refine ⟨.bl _, H2, J, rfl, ?_⟩
  rw [GxR.all_signs a pb]
  exact hR H2 hT
end
end SfG
namespace SfG
open PySem PySem.Spec PyProof.Rows L2
/-! ### the law's end: tables of code objects, no repr under way -/
theorem noneIn (b : Addr) (l : List Addr) (h : l = []) : ¬ b ∈ l := by
  rw [h]
  simp
section
variable {P : Program} {w : World} {K : PySem.W.Frag} {mg mb : Str → Option Value} {CX : CXT} {k : Nat} {fa a : Addr}
  {cs : List (Addr × Addr)} {fd : FuncData} {x : Str} {sp : Sp} {s1 : Shared} {vs : List Value} {ns : List Int}
/-- what stands at s1: the module, its tables, the script -/
structure Stands (K : PySem.W.Frag) (mg mb : Str → Option Value) (cs : List (Addr × Addr)) (s1 : Shared) (a : Addr) (vs : List Value) : Prop where
  kin : K.In s1.heap
  glob : s1.heap.Ns mainGlobals mg
  blt : s1.heap.Ns builtinsNs mb
  bltv : ∀ y : Str, y ≠ "__name__" → mb y = bootBuiltins y
  lim : s1.heap.NoLimit
  gens : s1.gens = #[]
  tab : ∀ p ∈ cs, s1.heap.get? p.2 = some { cls := .none, data := .fields #[] }
  ntab : ∀ p ∈ cs, K.lookup p.2 = none
  code : ∀ p ∈ cs, PySem.W.CodeHd s1.heap p.1 p.2
  bmain : ∃ (bm : Addr) (ob : Obj), mg "__builtins__" = some (.ref bm) ∧ bm ≠ builtinsNs ∧ s1.heap.get? bm = some ob ∧
    ob.cls = .type "module" ∧ ob.dict = some builtinsNs ∧ ob.data = .plain
  scr : s1.heap.get? a = some { cls := .type "list", data := .seq vs.toArray }
/-- what is tracked there: the tables, and the script where the written part doesn't hold it -/
def Tracks (K : PySem.W.Frag) (cs : List (Addr × Addr)) (a : Addr) (H : Hp) : Prop :=
  ∀ b u, H b = some u → (b ∈ cs.map (·.2) ∧ u = .tbl #[]) ∨ (b = a ∧ K.lookup a = none ∧ ∃ o xs, u = .frz o (.lst xs))
theorem Stands.untracked {H : Hp} (S : Stands K mg mb cs s1 a vs) (T : Tracks K cs a H) {b : Addr} {o : Obj} (e : s1.heap.get? b = some o)
    (h1 : ∀ us n, o.data ≠ .seq us n) (h2 : o.data ≠ .fields #[]) : H b = none := by
  cases q : H b with
  | none => rfl
  | some u =>
    exfalso
    rcases T b u q with ⟨hb, _⟩ | ⟨hb, _⟩
    · obtain ⟨p, hp, ep⟩ := List.mem_map.mp hb
      have z := S.tab p hp
      rw [ep, e] at z
      cases z
      exact h2 rfl
    · have z := S.scr
      rw [← hb, e] at z
      cases z
      exact h1 _ _ rfl
theorem end_core {H : Hp} (S : Stands K mg mb cs s1 a vs) (T : Tracks K cs a H) (hH : ∀ p ∈ cs, H p.2 = some (.tbl #[]))
    (hok : HOk P w H s1.heap) (hr : Room k callerA)
    (F : ∀ base : Heap, K.In base → base.Ns mainGlobals mg → (∀ p ∈ cs, GxR.TabB base mg p.1 p.2) → FnG P w K mg base CX k fa fd [x] sp)
    (hbind : ∀ (s : Shared) (u : Value), BindsTo s fd ⟨[u], []⟩ [(x, u)])
    (hsp : sp [.ref a] H (fun v _ => v = .bl true) fun _ _ _ => False)
    (hCX : ∀ H e s', CX [] H s1 (fun _ _ _ => False) e s' → False) :
    codeAny (model P w) callerA (.call (.ref fa) ⟨[.ref a], []⟩)
      (fun r s' => r = .ok (.ret (.bool true)) ∧ OldK s1.heap s'.heap ∧ s'.os = s1.os ∧ AllBare s'.gens) s1 := by
  have low : ∀ {b : Addr} {o : Obj}, s1.heap.get? b = some o → H b = none → (hidT s1.heap H).get? b = some o := fun e n => hidT_get e n
  have lowNs : ∀ {b : Addr} {m : Str → Option Value}, s1.heap.Ns b m → (hidT s1.heap H).Ns b m := by
    rintro b m ⟨o, es, ep, e, d, r⟩
    refine ⟨o, es, ep, low e (S.untracked T e ?_ ?_), d, r⟩
    · intro us n z
      rw [d] at z
      cases z
    · intro z
      rw [d] at z
      cases z
  have lowK : K.In (hidT s1.heap H) := by
    intro b o e
    refine low (S.kin b o e) ?_
    cases q : H b with
    | none => rfl
    | some u =>
      exfalso
      rcases T b u q with ⟨hb, _⟩ | ⟨hb, hk, _⟩
      · obtain ⟨p, hp, ep⟩ := List.mem_map.mp hb
        rw [← ep, S.ntab p hp] at e
        cases e
      · rw [hb, hk] at e
        cases e
  have lowT : ∀ p ∈ cs, GxR.TabB (hidT s1.heap H) mg p.1 p.2 := by
    intro p hp
    have tp := S.tab p hp
    constructor
    · obtain ⟨o, us, file, tf, flags, tg, inF, text, tt, e1, r1, r2, r3, rest⟩ := S.code p hp
      refine ⟨o, us, file, tf, flags, tg, inF, text, tt, low e1 (S.untracked T e1 ?_ ?_), r1, r2, r3, rest⟩
      · intro us n z
        rw [r2] at z
        cases z
      · intro z
        rw [r2] at z
        cases z
        simp at r3
    · obtain ⟨bm, ob, b1, b2, b3, b4, b5, b6⟩ := S.bmain
      refine ⟨bm, ob, b1, b2, ?_, ?_, low b3 (S.untracked T b3 ?_ ?_), b4, b5, b6⟩
      · intro q
        obtain ⟨o, es, ep, e, hd, _⟩ := S.glob
        rw [q, e] at b3
        cases b3
        rw [hd] at b6
        cases b6
      · intro q
        rw [q, tp] at b3
        cases b3
        cases b6
      · intro us n z
        rw [b6] at z
        cases z
      · intro z
        rw [b6] at z
        cases z
    · intro z
      obtain ⟨o, es, ep, e, hd, _⟩ := S.glob
      rw [z, tp] at e
      cases e
      cases hd
  have md : L2.Mod K mg (hidT s1.heap H) := by
    refine ⟨lowK, lowNs S.glob, ⟨mb, lowNs S.blt, S.bltv⟩, ?_⟩
    obtain ⟨mc, h1, h2⟩ := S.lim
    exact ⟨mc, lowNs h1, h2⟩
  have e0 : Env0 P w K mg (hidT s1.heap H) callerA [] s1 H :=
    ⟨rfl, md, fun b o e => of_hidT e, Nat.le_of_eq (hidT_size _ _), trivial, fun b hb => absurd hb (noneIn b _ rfl), hok, .of_eq S.gens⟩
  have go := (F _ lowK (lowNs S.glob) lowT).goes callerA [] s1 H ⟨[.ref a], []⟩ [.ref a] [.ref a] _ _ hr rfl e0 (hbind s1 (.ref a)) (.cons rfl .nil) hsp
  refine codeAny_mono go ?_
  intro res s' h
  match res, h with
  | .error e, h => exact (hCX H e s' h).elim
  | .ok .next, h => exact False.elim h
  | .ok .brk, h => exact False.elim h
  | .ok .cont, h => exact False.elim h
  | .ok (.ret u), h =>
    obtain ⟨v, H', os, bare, un, hok', r', q⟩ := h
    cases (show v = .bl true from q)
    cases (show u = Value.bool true from r')
    have stay : ∀ b o, b ∉ cs.map (·.2) → s1.heap.get? b = some o → s'.heap.get? b = some o := by
      intro b o nb e
      cases q : H b with
      | none => exact un.keep b o e q (noneIn b _ rfl) (by simp)
      | some u =>
        rcases T b u q with ⟨hb, _⟩ | ⟨_, _, ob, xs, z⟩
        · exact absurd hb nb
        · rw [z] at q
          obtain ⟨g1, _⟩ := hok b _ q
          obtain ⟨g2, _⟩ := hok' b _ (un.frzs b ob _ q)
          rw [e] at g1
          cases g1
          exact g2
    have tabs : ∀ p ∈ cs, ∃ more : Array Value, s'.heap.get? p.2 = some { cls := .none, data := .fields more } := by
      intro p hp
      obtain ⟨more, z⟩ := un.tbls p.2 #[] (hH p hp)
      exact ⟨_, hok' p.2 _ z⟩
    refine ⟨rfl, ⟨fun b o e => ?_, fun b o e => ?_⟩, os, bare⟩
    · by_cases hb : b ∈ cs.map (·.2)
      · obtain ⟨p, hp, ep⟩ := List.mem_map.mp hb
        subst ep
        obtain ⟨more, hm⟩ := tabs p hp
        rw [S.tab p hp] at e
        cases e
        refine .inr (.inl ⟨((S.code p hp).tab (S.tab p hp)).isCodeTable, rfl, #[], more, rfl, ?_⟩)
        rw [Array.empty_append]
        exact hm
      · exact .inl (stay b o hb e)
    · by_cases hb : b ∈ cs.map (·.2)
      · obtain ⟨p, hp, ep⟩ := List.mem_map.mp hb
        subst ep
        obtain ⟨more, hm⟩ := tabs p hp
        exact ⟨_, hm⟩
      · exact ⟨o, stay b o hb e⟩
/-- the abstract heap at the start -/
def hp0 (cs : List (Addr × Addr)) (sc : Option HO) (a : Addr) : Hp := fun b => if b ∈ cs.map (·.2) then some (.tbl #[]) else if b = a then sc else none
theorem end_call (S : Stands K mg mb cs s1 a vs) (hi : IntsAre vs ns) (hl : ns.length ≤ sizeLine) (hr : Room k callerA)
    (F : ∀ base : Heap, K.In base → base.Ns mainGlobals mg → (∀ p ∈ cs, GxR.TabB base mg p.1 p.2) → FnG P w K mg base CX k fa fd [x] sp)
    (hbind : ∀ (s : Shared) (u : Value), BindsTo s fd ⟨[u], []⟩ [(x, u)])
    (hsp : ∀ H : Hp, (∀ p ∈ cs, H p.2 = some (.tbl #[])) → SqL K H a (ns.map V.int) → sp [.ref a] H (fun v _ => v = .bl true) fun _ _ _ => False)
    (hCX : ∀ H e s', CX [] H s1 (fun _ _ _ => False) e s' → False) :
    codeAny (model P w) callerA (.call (.ref fa) ⟨[.ref a], []⟩)
      (fun r s' => r = .ok (.ret (.bool true)) ∧ OldK s1.heap s'.heap ∧ s'.os = s1.os ∧ AllBare s'.gens) s1 := by
  have rv := vals_ints hi
  have hH : ∀ sc, ∀ p ∈ cs, hp0 cs sc a p.2 = some (.tbl #[]) := fun sc p hp => if_pos (List.mem_map.mpr ⟨p, hp, rfl⟩)
  have na : a ∉ cs.map (·.2) := by
    intro z
    obtain ⟨p, hp, ep⟩ := List.mem_map.mp z
    have q := S.tab p hp
    rw [ep, S.scr] at q
    cases congrArg Obj.data (Option.some.inj q)
  have at_a : ∀ sc, hp0 cs sc a a = sc := fun sc => by
    unfold hp0
    rw [if_neg na, if_pos rfl]
  have cases_of : ∀ sc b u, hp0 cs sc a b = some u → (b ∈ cs.map (·.2) ∧ u = .tbl #[]) ∨ (b = a ∧ sc = some u) := by
    intro sc b u h
    unfold hp0 at h
    by_cases h1 : b ∈ cs.map (·.2)
    · rw [if_pos h1] at h
      exact .inl ⟨h1, (Option.some.inj h).symm⟩
    · rw [if_neg h1] at h
      by_cases h2 : b = a
      · rw [if_pos h2] at h
        exact .inr ⟨h2, h⟩
      · rw [if_neg h2] at h
        cases h
  have tabOk : ∀ (H : Hp) b, b ∈ cs.map (·.2) → ObjOk P w H s1.heap b (.tbl #[]) := by
    intro H b hb
    obtain ⟨p, hp, ep⟩ := List.mem_map.mp hb
    rw [← ep]
    exact S.tab p hp
  cases hk : K.lookup a with
  | some o =>
    have e := S.kin a o hk
    rw [S.scr] at e
    cases e
    refine end_core (H := hp0 cs none a) S ?_ (hH none) ?_ hr F hbind (hsp _ (hH none) (.inr ⟨_, vs.toArray, _, hk, rfl, rfl, rfl, ?_, ?_⟩)) hCX
    · intro b u h
      rcases cases_of none b u h with h | ⟨_, h⟩
      · exact .inl h
      · cases h
    · intro b u h
      rcases cases_of none b u h with ⟨h1, rfl⟩ | ⟨_, h⟩
      · exact tabOk _ b h1
      · cases h
    · rw [List.size_toArray, hi.length]
      exact hl
    · simpa using rv
  | none =>
    refine end_core (H := hp0 cs (some (.frz { cls := .type "list", data := .seq vs.toArray } (.lst (ns.map V.int)))) a) S ?_ (hH _) ?_ hr F hbind
      (hsp _ (hH _) (.inl (.inr ⟨{ cls := .type "list", data := .seq vs.toArray }, at_a _⟩))) hCX
    · intro b u h
      rcases cases_of _ b u h with h | ⟨h1, h2⟩
      · exact .inl h
      · exact .inr ⟨h1, hk, _, _, (Option.some.inj h2).symm⟩
    · intro b u h
      rcases cases_of _ b u h with ⟨h1, rfl⟩ | ⟨rfl, h2⟩
      · exact tabOk _ b h1
      · cases h2
        refine ⟨S.scr, ?_, vs, _, rv, S.scr⟩
        rw [List.length_map]
        exact hl
end
end SfG
namespace SfG
open PySem PySem.Spec PyProof.Rows L2
/-! ### a def whose code object is known -/
structure FunC (K : PySem.W.Frag) (x qual : Str) (st : Stmt) (f : Addr) (fd : FuncData) (c : Addr) : Prop where
  ex : ∃ (oc : Value) (od : Option Addr) (kV doc pm : Value) (an : Option Addr) (ct : Value) (osl : Array (Option Value)),
    fd = PySem.W.fnOf x qual (defArgs st) (defBody st) (defScope st) .none kV doc pm an (.ref c) ct ∧
      K.lookup f = some ⟨oc, od, .func fd, osl⟩ ∧ PySem.W.codeIn K (.ref c) qual = true
  kp : PySem.W.keepIn K (.ref f) = true
theorem FunC.fn {K : PySem.W.Frag} {x qual : Str} {st : Stmt} {f c : Addr} {fd : FuncData} (F : FunC K x qual st f fd c) : Fun K x qual st f fd := by
  obtain ⟨oc, od, kV, doc, pm, an, ct, osl, h1, h2, h3⟩ := F.ex
  exact ⟨⟨oc, od, kV, doc, pm, an, .ref c, ct, osl, h1, h2, h3⟩, F.kp⟩
section
variable {P : Program} {w : World} {K : PySem.W.Frag} {mg : Str → Option Value} {base : Heap}
theorem FunC.ok {x qual : Str} {st : Stmt} {f c : Addr} {fd : FuncData} {N ps : List Str} {k : Nat} {sp : Sp}
    (F : FunC K x qual st f fd c) (S : FnScope N ps (defScope st)) (len : ∀ vs H Q E, sp vs H Q E → vs.length = ps.length)
    (hbody : ∀ (A : Around) (outer : List Env) (s : Shared) (H : Hp) (vs : List V) (Q : VK) (E : XK),
      Room k (A.deeper (envOfC qual (defScope st) s.heap.objs.size f (.ref c))) → sp vs H Q E →
      ∃ t, PSs (cxOf CX0 P w K mg base N qual (defScope st) f (.ref c) A outer s H E).nox (defBody st) t ∧
        t { nx := fun _ H' => Q .non H', rt := Q } (start N vs) H) : FnOk P w K mg base CX0 (k + 1) f fd ps sp := by
  obtain ⟨oc, od, kV, doc, pm, an, ct, osl, rfl, lk, hcd⟩ := F.ex
  refine fn_of lk hcd S len ?_
  intro A outer s H vs Q E hr hsp
  obtain ⟨t, h, q⟩ := hbody A outer s H vs Q E hr hsp
  exact ⟨t, h.nox, q⟩
end
/-! ### heaps that grow: what stood stands, tables of code objects may be longer -/
structure Gr (H H' : Hp) : Prop where
  keep : ∀ b o, H b = some o → (∀ ps, o ≠ .tbl ps) → H' b = some o
  tab : ∀ P, GxR.TabG H P → GxR.TabG H' P
  back : ∀ l, H' l = none → H l = none
theorem Gr.refl (H : Hp) : Gr H H := ⟨fun _ _ h _ => h, fun _ h => h, fun _ h => h⟩
theorem Gr.trans {H H1 H2 : Hp} (a : Gr H H1) (b : Gr H1 H2) : Gr H H2 :=
  ⟨fun c o h n => b.keep c o (a.keep c o h n) n, fun P h => b.tab P (a.tab P h), fun l h => a.back l (b.back l h)⟩
theorem Gr.same {H H' : Hp} (e : Same H H') : Gr H H' := by
  refine ⟨fun b o h _ => e b o h, ?_, fun l h => e.free h⟩
  rintro P ⟨ps, h1, h2⟩
  exact ⟨ps, e P _ h1, h2⟩
theorem Gr.new {H : Hp} {p : Addr} {o : HO} (h : H p = none) : Gr H (upd H p o) := by
  refine Gr.same ?_
  intro b x e
  rw [upd_ne (ne_of_none e h)]
  exact e
theorem Gr.tabbed {P : Addr} {H H' : Hp} (t : GxR.TabG H P) (e : GxR.Tabbed P H H') : Gr H H' := by
  refine ⟨?_, ?_, ?_⟩
  · intro b o h n
    refine (e.2 b ?_).trans h
    intro z
    obtain ⟨ps, h1, _⟩ := t
    rw [z, h1] at h
    exact n ps (Option.some.inj h).symm
  · intro P' t'
    by_cases z : P' = P
    · rw [z]
      exact e.1
    · obtain ⟨ps, h1, h2⟩ := t'
      exact ⟨ps, (e.2 P' z).trans h1, h2⟩
  · intro l h
    by_cases z : l = P
    · obtain ⟨ps, h1, _⟩ := e.1
      rw [z, h1] at h
      cases h
    · rw [← e.2 l z]
      exact h
/-- a list that is changed in the heap: all else stays -/
theorem Gr.lst {H H' : Hp} (g : Gr H H') {b : Addr} {xs : List V} (h : H b = some (.lst xs)) : H' b = some (.lst xs) := g.keep b _ h (fun _ z => (by cases z))
theorem Gr.tup {H H' : Hp} (g : Gr H H') {b : Addr} {xs : List V} (h : H b = some (.tup xs)) : H' b = some (.tup xs) := g.keep b _ h (fun _ z => (by cases z))
theorem Gr.dic {H H' : Hp} (g : Gr H H') {b : Addr} {kvs : List (Key × V)} (h : H b = some (.dK kvs)) : H' b = some (.dK kvs) := g.keep b _ h (fun _ z => (by cases z))
theorem Gr.seq {K : PySem.W.Frag} {H H' : Hp} {a : Addr} {xs : List V} (e : Gr H H') (h : SqL K H a xs) : SqL K H' a xs := by
  rcases h with (h | ⟨o, h⟩) | h
  · exact .inl (.inl (e.lst h))
  · exact .inl (.inr ⟨o, e.keep _ _ h (fun _ z => (by cases z))⟩)
  · exact .inr h
/-! ### kinds of things -/
def kinds : List String := ["NoneType", "bool", "int", "str", "list", "tuple", "dict"]
theorem kit_int : ∀ T ∈ kinds, kitB T "int" = some (T == "int" || T == "bool") := by decide +kernel
theorem kit_bool : ∀ T ∈ kinds, kitB T "bool" = some (T == "bool") := by decide +kernel
theorem kit_str : ∀ T ∈ kinds, kitB T "str" = some (T == "str") := by decide +kernel
/-- x is a thing of the built-in type T -/
def Is (K : PySem.W.Frag) (H : Hp) (x : V) (T : String) : Prop := TyX K H x (.type T) ∧ T ∈ kinds
theorem tyx_is {K : PySem.W.Frag} {H : Hp} {x : V} {t : Value} {T : String} (h : TyX K H x t) (e : t = .type T) :
    (T = "int" → ∃ i, x = .int i) ∧ (T = "str" → ∃ z, x = .str z) ∧ (∀ i, x = .int i → T = "int") ∧ (∀ z, x = .str z → T = "str") := by
  cases h with
  | base b =>
    cases b with
    | int i => cases e; exact ⟨fun _ => ⟨i, rfl⟩, fun z => absurd z (by decide), fun _ _ => rfl, fun _ z => (by cases z)⟩
    | str i => cases e; exact ⟨fun z => absurd z (by decide), fun _ => ⟨i, rfl⟩, fun _ z => (by cases z), fun _ _ => rfl⟩
    | ins => cases e
    | _ => cases e; exact ⟨fun z => absurd z (by decide), fun z => absurd z (by decide), fun _ z => (by cases z), fun _ z => (by cases z)⟩
  | _ => cases e; exact ⟨fun z => absurd z (by decide), fun z => absurd z (by decide), fun _ z => (by cases z), fun _ z => (by cases z)⟩
section
variable {K : PySem.W.Frag} {H : Hp} {x : V} {T : String}
theorem Is.whole (h : Is K H x T) (e : T = "int") : ∃ i, x = .int i := (tyx_is h.1 rfl).1 e
theorem Is.text (h : Is K H x T) (e : T = "str") : ∃ z, x = .str z := (tyx_is h.1 rfl).2.1 e
theorem Is.nint (h : Is K H x T) (e : T ≠ "int") : ∀ i, x ≠ .int i := fun i z => e ((tyx_is h.1 rfl).2.2.1 i z)
theorem Is.ntext (h : Is K H x T) (e : T ≠ "str") : ∀ z, x ≠ .str z := fun i z => e ((tyx_is h.1 rfl).2.2.2 i z)
end
theorem is_int {K : PySem.W.Frag} {H : Hp} (i : Int) : Is K H (.int i) "int" := ⟨.base (.int i), by decide⟩
theorem is_str {K : PySem.W.Frag} {H : Hp} (z : Str) : Is K H (.str z) "str" := ⟨.base (.str z), by decide⟩
theorem is_bl {K : PySem.W.Frag} {H : Hp} (b : Bool) : Is K H (.bl b) "bool" := ⟨.base (.bl b), by decide⟩
theorem is_non {K : PySem.W.Frag} {H : Hp} : Is K H .non "NoneType" := ⟨.base .non, by decide⟩
/-! ### isinstance(x, T), x a name, T a built-in class -/
def tIsi (T : String) (K : PySem.W.Frag) (i : Nat) : TE := fun σ H Q => ∃ v, σ[i]? = some (some v) ∧ ∃ (T' : String) (b : Bool), TyX K H v (.type T') ∧ kitB T' T = some b ∧ Q (.bl b) H
theorem pe_isi {X : Cx} {x nm : Str} {p p1 p2 pos : Pos} (T : String) (i : Nat) (mi : X.mg "isinstance" = none) (mT : X.mg nm = none)
    (hv : bootBuiltins nm = some (.type T)) (hN : X.N[i]? = some x := by rfl) (hvis : Vis X.env.scope x := by first | exact Or.inl rfl | exact Or.inr (Or.inl rfl) | exact Or.inr (Or.inr rfl))
    (hg : Gl X "isinstance" := by rfl) (hgT : Gl X nm := by rfl) (hxd : (x == ("__debug__" : Str)) = false := by decide) (hxc : (x == ("__classdict__" : Str)) = false := by decide)
    (hn : nm ≠ "__name__" := by decide) (hd : (nm == ("__debug__" : Str)) = false := by decide) :
    PE X (.Call (.Name "isinstance" p) [.Name x p1, .Name nm p2] [] pos) (tIsi T X.K i) := by
  have h := pe_callB (p := p) (pos := pos) call_isi hg mi (show bootBuiltins "isinstance" = some (.builtin "isinstance") by decide +kernel)
    (pa_cons (pe_var (pos := p1) hN hvis hxd hxc) (pa_cons (pe_bltn (v := .ty T) (pos := p2) hgT mT hv rfl hn hd) pa_nil))
  constructor
  intro pins s σ H Q I hq
  refine h.run pins s σ H Q I ?_
  obtain ⟨v, hs, T', b, h1, h2, h3⟩ := hq
  exact ⟨v, hs, v, .ty T, .type T', .type T, b, rfl, .ty T, h1, kit_ty h2, h3⟩
end SfG
namespace SfG
open PySem PySem.Spec PyProof.Rows L2
/-! ### the end of a law whose defs have tables -/
/-- the top's defs and their tables, still empty -/
def TabsOf (q : Program) (mg : Str → Option Value) (h : Heap) : Prop := ∀ d ∈ recsOf q, ∃ a o fd c P,
  mg d.name = some (.ref a) ∧ h.get? a = some o ∧ o.data = .func fd ∧ fd.code = .ref c ∧ h.IsCode c P #[] ∧ h.TableAt c P #[]
theorem tab_of {q : Program} {mg : Str → Option Value} {h : Heap} {K : PySem.W.Frag} {nm x qual : Str} {st : Stmt} {f c P : Addr} {fd : FuncData}
    {e : Value} {dd : Option Addr} {vs : Array Value} {sl : Array (Option Value)} (T : TabsOf q mg h) (hrec : ((recsOf q).any fun d => d.name == nm) = true)
    (g : mg nm = some (.ref f)) (KX : K.In h) (F : FunC K x qual st f fd c) (kc : K.lookup c = some ⟨e, dd, .fields vs, sl⟩) (kp : vs[11]? = some (.ref P)) :
    h.get? P = some { cls := .none, data := .fields #[] } ∧ PySem.W.CodeHd h c P := by
  obtain ⟨d, hm, hn⟩ := List.any_eq_true.mp hrec
  have hn2 : d.name = nm := beq_iff_eq.mp hn
  obtain ⟨a, o, fd', c', P', h1, h2, h3, h4, h5, h6⟩ := T d hm
  rw [hn2, g] at h1
  cases h1
  obtain ⟨oc, od, kV, doc, pm, an, ct, osl, rfl, lk, hcd⟩ := F.ex
  rw [KX _ _ lk] at h2
  cases h2
  cases h3
  have ec : c = c' := by
    have z : Value.ref c = Value.ref c' := h4
    cases z
    rfl
  subst ec
  obtain ⟨⟨o1, v1, a1, a2, a3, a4⟩, hP⟩ := h6
  have ek := KX _ _ kc
  rw [ek] at a1
  cases a1
  cases a3
  rw [kp] at a4
  cases a4
  obtain ⟨o2, v2, file, tf, flags, tg, inF, text, tt, op, b1, b2, b3, b4, b5, b6, b7, b8, b9, b10, b11⟩ := h5
  rw [ek] at b1
  cases b1
  cases b2
  exact ⟨hP, _, _, file, tf, flags, tg, inF, text, tt, ek, a2, rfl, kp, b3, b4, b5, b6, b7, b11⟩
/-- what is known of the law's promise at the head's heap h -/
def LawG (l : PySem.W.OpenLaw) (w : World) (K : PySem.W.Frag) (CX : CXT) (k n : Nat) (x : Str) (mg : Str → Option Value) (fa : Addr) (h : Heap) : Prop :=
  ∃ (fd : FuncData) (cs : List (Addr × Addr)) (sp : Sp), (∀ p ∈ cs, h.get? p.2 = some { cls := .none, data := .fields #[] }) ∧ (∀ p ∈ cs, K.lookup p.2 = none) ∧
    (∀ p ∈ cs, PySem.W.CodeHd h p.1 p.2) ∧ (∀ (s : Shared) (u : Value), BindsTo s fd ⟨[u], []⟩ [(x, u)]) ∧
    (∀ (H : Hp) (a : Addr) (ns : List Int), ns.length ≤ n → (∀ p ∈ cs, H p.2 = some (.tbl #[])) → SqL K H a (ns.map V.int) → sp [.ref a] H (fun v _ => v = .bl true) fun _ _ _ => False) ∧
    ∀ base : Heap, K.In base → base.Ns mainGlobals mg → (∀ p ∈ cs, GxR.TabB base mg p.1 p.2) → FnG l.prog w K mg base CX k fa fd [x] sp
theorem walk_G {l : PySem.W.OpenLaw} {n k : Nat} {q : Program} {loose : List Str} {XP : (Str → Option Value) → Heap → Prop} {YP : World → Heap → Prop} {d : DefRec}
    {K : Params → PySem.W.Frag} {CX : World → CXT} {x : Str} (hn : l.most = some n) (hn2 : n ≤ sizeLine) (hdf : d.params.defaults = []) (hr : Room k callerA)
    (hY : ∀ (w : World) (h : Heap), YP w h → (K w.params).In h)
    (F : ∀ (w : World) (mg : Str → Option Value) (fa : Addr) (h : Heap), (K w.params).In h → h.Ns mainGlobals mg → mg d.name = some (.ref fa) → TabsOf q mg h →
      LawG l w (K w.params) (CX w) k n x mg fa h)
    (hCX : ∀ (w : World) (H : Hp) (s : Shared) (e : Value) (s' : Shared), CX w [] H s (fun _ _ _ => False) e s' → False) :
    PySem.W.WalkO q loose XP YP l.row.toRowW d [] (fun f vs => PySem.call f vs) := by
  refine Att.attach_callB hn hdf ?_
  intro w s0 s1 mg mb fa o pm cd doc a vs ns G Y ho hd hcd hmg hobj hints hlen hbits hg
  have KX := hY w _ Y
  obtain ⟨fd, cs, sp, hT, nT, C, hb, hsp, hF⟩ := F w mg fa _ KX G.T.g hmg G.T.tab
  have S : Stands (K w.params) mg mb cs s1 a vs := ⟨KX, G.T.g, G.T.b, G.T.builtins, G.T.nolimit, hg, hT, nT, C, G.T.bmain, hobj⟩
  exact end_call S hints (Nat.le_trans hlen hn2) hr hF hb (fun H hH hS => hsp H a ns hlen hH hS) fun H e s' => hCX w H s1 e s'
end SfG
namespace SfG
open PySem PySem.Spec PyProof.Rows L2
/-- all but p as it was -/
def But (p : Addr) (H H' : Hp) : Prop := ∀ b, b ≠ p → H' b = H b
theorem But.upd {p : Addr} {H H' : Hp} {o : HO} (h : But p H H') : But p H (upd H' p o) := fun b n => (upd_ne n).trans (h b n)
theorem Gr.upd_new {H0 H : Hp} {p : Addr} {o : HO} (g : Gr H0 H) (h : H0 p = none) : Gr H0 (upd H p o) := by
  refine ⟨?_, ?_, ?_⟩
  · intro b u e n
    rw [upd_ne (ne_of_none e h)]
    exact g.keep b u e n
  · intro P t
    have np : P ≠ p := by
      obtain ⟨ps, h1, _⟩ := t
      exact ne_of_none h1 h
    obtain ⟨ps, h1, h2⟩ := g.tab P t
    exact ⟨ps, (upd_ne np).trans h1, h2⟩
  · intro l e
    by_cases z : l = p
    · rw [z]
      exact h
    · rw [upd_ne z] at e
      exact g.back l e
/-! ### heaps in a turn: the draw's state at p is changed, all else grows -/
structure Gp (p : Addr) (H H' : Hp) : Prop where
  keep : ∀ b o, b ≠ p → H b = some o → (∀ ps, o ≠ .tbl ps) → H' b = some o
  tab : ∀ P, P ≠ p → GxR.TabG H P → GxR.TabG H' P
  back : ∀ l, l ≠ p → H' l = none → H l = none
theorem Gp.refl (p : Addr) (H : Hp) : Gp p H H := ⟨fun _ _ _ h _ => h, fun _ _ h => h, fun _ _ h => h⟩
theorem Gp.gr {p : Addr} {H H' : Hp} (g : Gr H H') : Gp p H H' := ⟨fun b o _ => g.keep b o, fun P _ => g.tab P, fun l _ => g.back l⟩
theorem Gp.but {p : Addr} {H H' : Hp} (g : But p H H') : Gp p H H' := by
  refine ⟨fun b o n h _ => (g b n).trans h, ?_, fun l n h => (g l n).symm.trans h⟩
  rintro P n ⟨ps, h1, h2⟩
  exact ⟨ps, (g P n).trans h1, h2⟩
theorem Gp.trans {p : Addr} {H H1 H2 : Hp} (a : Gp p H H1) (b : Gp p H1 H2) : Gp p H H2 :=
  ⟨fun c o n h t => b.keep c o n (a.keep c o n h t) t, fun P n h => b.tab P n (a.tab P n h), fun l n h => a.back l n (b.back l n h)⟩
/-- what was there ahead of p grows -/
theorem Gp.out {p : Addr} {H0 H H' : Hp} (g : Gr H0 H) (h : H0 p = none) (a : Gp p H H') : Gr H0 H' := by
  refine ⟨?_, ?_, ?_⟩
  · intro b o e t
    exact a.keep b o (ne_of_none e h) (g.keep b o e t) t
  · intro P t
    have n : P ≠ p := by
      obtain ⟨ps, h1, _⟩ := t
      exact ne_of_none h1 h
    exact a.tab P n (g.tab P t)
  · intro l e
    by_cases z : l = p
    · rw [z]
      exact h
    · exact g.back l (a.back l z e)
theorem Gp.lst {p : Addr} {H H' : Hp} (g : Gp p H H') {b : Addr} {xs : List V} (n : b ≠ p) (h : H b = some (.lst xs)) : H' b = some (.lst xs) := g.keep b _ n h (fun _ z => by cases z)
theorem Gp.upd_new {p q : Addr} {H0 H : Hp} {o : HO} (g : Gp p H0 H) (h : H0 q = none) : Gp p H0 (upd H q o) := by
  refine ⟨?_, ?_, ?_⟩
  · intro b u nb e n
    rw [upd_ne (ne_of_none e h)]
    exact g.keep b u nb e n
  · intro P nP t
    have np : P ≠ q := by
      obtain ⟨ps, h1, _⟩ := t
      exact ne_of_none h1 h
    obtain ⟨ps, h1, h2⟩ := g.tab P nP t
    exact ⟨ps, (upd_ne np).trans h1, h2⟩
  · intro l nl e
    by_cases z : l = q
    · rw [z]
      exact h
    · rw [upd_ne z] at e
      exact g.back l nl e
/-- a def that is called: where it stands, how it is bound, what it promises -/
structure Has (P : Program) (w : World) (K : PySem.W.Frag) (mg : Str → Option Value) (base : Heap) (k : Nat) (x : Str) (ps : List Str) (sp : Sp) (f : Addr) (fd : FuncData) : Prop where
  ok : FnOk P w K mg base CX0 k f fd ps sp
  at_ : mg x = some (.ref f)
  kp : PySem.W.keepIn K (.ref f) = true
  bd : Binds K fd ps []
theorem hcall {X : Cx} {k : Nat} {x : Str} {ps : List Str} {sp : Sp} {f : Addr} {fd : FuncData} {e : Expr} {es : List Expr} {t : TA} {p pos : Pos} (h : Has X.prog X.w X.K X.mg X.base k x ps sp f fd) (hr : Room k X.A) (ha : PA X (e :: es) t)
    (hg : Gl X x := by rfl) (hdb : (x == ("__debug__" : Str)) = false := by decide) (he : starEach (e :: es) X.env = (false, eval e X.env) :: starEach es X.env := by rfl)
    (hpl : (backTo pos (starEach es X.env)).any (·.1) = false := by rfl) : PE X (.Call (.Name x p) (e :: es) [] pos) (tCall sp [] E0 t) :=
  pe_call h.ok hr hg h.at_ h.kp h.bd .nil pass0 ha hdb he hpl
/-! ### data that stays -/
theorem Gr.sqt {K : PySem.W.Frag} {H H' : Hp} {a : Addr} {xs : List V} (e : Gr H H') (h : SqT K H a xs) : SqT K H' a xs := by
  rcases h with (h | ⟨o, h⟩) | h
  · exact .inl (.inl (e.tup h))
  · exact .inl (.inr ⟨o, e.keep _ _ h (fun _ z => by cases z)⟩)
  · exact .inr h
theorem Gp.sqt {K : PySem.W.Frag} {p : Addr} {H H' : Hp} {a : Addr} {xs : List V} {kv : List (Key × V)} (e : Gp p H H') (hp : H p = some (.dK kv)) (h : SqT K H a xs) : SqT K H' a xs := by
  rcases h with (h | ⟨o, h⟩) | h
  · refine .inl (.inl (e.keep a _ (fun z => ?_) h (fun _ z => by cases z)))
    rw [z, hp] at h
    cases h
  · refine .inl (.inr ⟨o, e.keep a _ (fun z => ?_) h (fun _ z => by cases z)⟩)
    rw [z, hp] at h
    cases h
  · exact .inr h
theorem Gp.sql {K : PySem.W.Frag} {p : Addr} {H H' : Hp} {a : Addr} {xs : List V} {kv : List (Key × V)} (e : Gp p H H') (hp : H p = some (.dK kv)) (h : SqL K H a xs) : SqL K H' a xs := by
  rcases h with (h | ⟨o, h⟩) | h
  · refine .inl (.inl (e.keep a _ (fun z => ?_) h (fun _ z => by cases z)))
    rw [z, hp] at h
    cases h
  · refine .inl (.inr ⟨o, e.keep a _ (fun z => ?_) h (fun _ z => by cases z)⟩)
    rw [z, hp] at h
    cases h
  · exact .inr h
/-- what keeps all lists and tuples keeps data -/
structure Kd (K : PySem.W.Frag) (H H' : Hp) : Prop where
  l : ∀ {a xs}, SqL K H a xs → SqL K H' a xs
  t : ∀ {a xs}, SqT K H a xs → SqT K H' a xs
theorem Gr.kd {K : PySem.W.Frag} {H H' : Hp} (g : Gr H H') : Kd K H H' := ⟨fun h => g.seq h, fun h => g.sqt h⟩
theorem Gp.kd {K : PySem.W.Frag} {p : Addr} {H H' : Hp} {kv : List (Key × V)} (g : Gp p H H') (hp : H p = some (.dK kv)) : Kd K H H' := ⟨fun h => g.sql hp h, fun h => g.sqt hp h⟩
mutual
theorem Kd.dp {K : PySem.W.Frag} {H H' : Hp} (g : Kd K H H') : ∀ {d : PyData} {v : V}, Dp K H v d → Dp K H' v d
  | _, _, .non => .non
  | _, _, .bl b => .bl b
  | _, _, .int i => .int i
  | _, _, .str x => .str x
  | _, _, .lst h hs => .lst (g.l h) (g.dpA hs)
  | _, _, .tup h hs => .tup (g.t h) (g.dpA hs)
theorem Kd.dpA {K : PySem.W.Frag} {H H' : Hp} (g : Kd K H H') : ∀ {ds : List PyData} {vs : List V}, DpAll K H vs ds → DpAll K H' vs ds
  | _, _, .nil => .nil
  | _, _, .cons h hs => .cons (g.dp h) (g.dpA hs)
end
section
variable {K : PySem.W.Frag} {H : Hp} {v : V}
theorem dp_str {z : Str} (h : Dp K H v (.str z)) : v = .str z := by cases h; rfl
theorem dp_int {n : Int} (h : Dp K H v (.int n)) : v = .int n := by cases h; rfl
theorem dp_tup {ds : List PyData} (h : Dp K H v (.tuple ds)) : ∃ p xs, v = .ref p ∧ SqT K H p xs ∧ DpAll K H xs ds := by
  cases h with
  | tup h hs => exact ⟨_, _, rfl, h, hs⟩
theorem dpA_nil {xs : List V} (h : DpAll K H xs []) : xs = [] := by cases h; rfl
theorem dpA_cons {xs : List V} {d : PyData} {ds : List PyData} (h : DpAll K H xs (d :: ds)) : ∃ x r, xs = x :: r ∧ Dp K H x d ∧ DpAll K H r ds := by
  cases h with
  | cons a b => exact ⟨_, _, rfl, a, b⟩
theorem dp_1 {a : PyData} (h : Dp K H v (.tuple [a])) : ∃ p x, v = .ref p ∧ SqT K H p [x] ∧ Dp K H x a := by
  obtain ⟨p, xs, rfl, hp, hs⟩ := dp_tup h
  obtain ⟨x, r, rfl, hx, hs⟩ := dpA_cons hs
  cases dpA_nil hs
  exact ⟨p, x, rfl, hp, hx⟩
theorem dp_2 {a b : PyData} (h : Dp K H v (.tuple [a, b])) : ∃ p x y, v = .ref p ∧ SqT K H p [x, y] ∧ Dp K H x a ∧ Dp K H y b := by
  obtain ⟨p, xs, rfl, hp, hs⟩ := dp_tup h
  obtain ⟨x, r, rfl, hx, hs⟩ := dpA_cons hs
  obtain ⟨y, r, rfl, hy, hs⟩ := dpA_cons hs
  cases dpA_nil hs
  exact ⟨p, x, y, rfl, hp, hx, hy⟩
theorem dp_3 {a b c : PyData} (h : Dp K H v (.tuple [a, b, c])) : ∃ p x y z, v = .ref p ∧ SqT K H p [x, y, z] ∧ Dp K H x a ∧ Dp K H y b ∧ Dp K H z c := by
  obtain ⟨p, xs, rfl, hp, hs⟩ := dp_tup h
  obtain ⟨x, r, rfl, hx, hs⟩ := dpA_cons hs
  obtain ⟨y, r, rfl, hy, hs⟩ := dpA_cons hs
  obtain ⟨z, r, rfl, hz, hs⟩ := dpA_cons hs
  cases dpA_nil hs
  exact ⟨p, x, y, z, rfl, hp, hx, hy, hz⟩
theorem dp_4 {a b c d : PyData} (h : Dp K H v (.tuple [a, b, c, d])) : ∃ p x y z w, v = .ref p ∧ SqT K H p [x, y, z, w] ∧ Dp K H x a ∧ Dp K H y b ∧ Dp K H z c ∧ Dp K H w d := by
  obtain ⟨p, xs, rfl, hp, hs⟩ := dp_tup h
  obtain ⟨x, r, rfl, hx, hs⟩ := dpA_cons hs
  obtain ⟨y, r, rfl, hy, hs⟩ := dpA_cons hs
  obtain ⟨z, r, rfl, hz, hs⟩ := dpA_cons hs
  obtain ⟨u, r, rfl, hu, hs⟩ := dpA_cons hs
  cases dpA_nil hs
  exact ⟨p, x, y, z, u, rfl, hp, hx, hy, hz, hu⟩
/-- the i-th of a tuple of data -/
theorem dpA_get : ∀ {ds : List PyData} {xs : List V} {i : Nat} {d : PyData}, DpAll K H xs ds → ds[i]? = some d → ∃ x, xs[i]? = some x ∧ Dp K H x d
  | [], _, i, d, _, h => by simp at h
  | a :: r, xs, 0, d, hs, h => by
    obtain ⟨x, r', rfl, hx, _⟩ := dpA_cons hs
    have e : a = d := Option.some.inj h
    exact ⟨x, rfl, e ▸ hx⟩
  | a :: r, xs, i + 1, d, hs, h => by
    obtain ⟨x, r', rfl, _, hr⟩ := dpA_cons hs
    obtain ⟨y, hy, hd⟩ := dpA_get hr (show r[i]? = some d from h)
    exact ⟨y, hy, hd⟩
theorem dpA_len : ∀ {ds : List PyData} {xs : List V}, DpAll K H xs ds → xs.length = ds.length
  | [], _, h => by
    rw [dpA_nil h]
    rfl
  | _ :: _, _, h => by
    obtain ⟨x, r, rfl, _, hr⟩ := dpA_cons h
    rw [List.length_cons, List.length_cons, dpA_len hr]
end
end SfG
namespace SfG
open PySem PySem.Spec PyProof.Rows L2
/-! ### x is not True, x is not False, x a whole number or a truth -/
def rNotBx : R2 := fun x y H Q => ∃ b : Bool, y = .bl b ∧ ((∃ a : Bool, x = .bl a ∧ Q (.bl (!decide (a = b))) H) ∨ ∃ i : Int, x = .int i ∧ Q (.bl true) H)
theorem op_notBx {X : Cx} : OpR X (compareOp .IsNot) rNotBx := by
  intro pins s σ H x y v u Q I rx ry h
  obtain ⟨b, rfl, ⟨a, rfl, q⟩ | ⟨i, rfl, q⟩⟩ := h
  · exact op_notBl pins s σ H _ _ v u Q I rx ry ⟨a, b, rfl, rfl, q⟩
  · cases (show u = Value.bool b from ry)
    obtain ⟨t, rfl⟩ := _root_.id rx
    exact wpAny_isNot_other rfl (fun z => by cases z) ⟨.bl true, H, I, rfl, q⟩
theorem tyx_bool {K : PySem.W.Frag} {H : Hp} {x : V} {t : Value} (h : TyX K H x t) (e : t = .type "bool") : ∃ b, x = .bl b := by
  cases h with
  | base b =>
    cases b with
    | bl b => exact ⟨b, rfl⟩
    | ins => cases e
    | _ => exact absurd (Value.type.inj e) (by decide)
  | _ => exact absurd (Value.type.inj e) (by decide)
theorem is_truth {K : PySem.W.Frag} {H : Hp} {x : V} {T : String} (h : Is K H x T) (e : T = "bool") : ∃ b, x = .bl b := tyx_bool h.1 (by rw [e])
end SfG
namespace SfG
open PySem PySem.Spec PyProof.Rows L2
/-! ### an exception that is held behind its try -/
/-- an exception of the class cls, caught, at a -/
def EkO (cls : Value) (d : Option Addr) (a : Addr) : HO := .ext fun h => ∃ oe : Obj, h.get? a = some oe ∧ Zc cls d oe ∧ ∃ vs, oe.data = .fields vs
section
variable {X : Cx} {pins : List (Addr × Obj)} {σ : L2.St} {H : Hp} {s : Shared}
theorem inv_track {a : Addr} {oe : Obj} {vs : Array Value} {φ : Heap → Prop} (I : L2.Inv X pins σ H s) (ha : s.heap.get? a = some oe) (hd : oe.data = .fields vs) (na : H a = none) (nL : a ≠ X.env.locals)
    (n0 : X.s_0.heap.get? a = none) (np : ∀ p ∈ X.pn ++ pins, p.1 ≠ a) (new : ObjOk X.prog X.w (upd H a (.ext φ)) s.heap a (.ext φ)) : L2.Inv X pins σ (upd H a (.ext φ)) s where
  ok := I.ok
  os := I.os
  bare := I.bare
  base := {
    keep := I.base.keep
    slot := I.base.slot
    free := by
      intro b o e n hx
      rw [upd_ne (by intro z; rw [z, n0] at e; cases e)]
      exact I.base.free b o e n hx
    there := I.base.there
    tups := by
      intro b xs e
      have q := I.base.tups b xs e
      rw [upd_ne (ne_of_none q na)]
      exact q
    frzs := by
      intro b o u e
      have q := I.base.frzs b o u e
      rw [upd_ne (ne_of_none q na)]
      exact q
    tbls := by
      intro b ps e
      obtain ⟨more, q⟩ := I.base.tbls b ps e
      exact ⟨more, by rw [upd_ne (ne_of_none q na)]; exact q⟩ }
  loc := I.loc
  cell := I.cell
  free := by
    rw [upd_ne (Ne.symm nL)]
    exact I.free
  freeC := by
    intro x c e
    rw [upd_ne ?_]
    · exact I.freeC x c e
    · intro z
      obtain ⟨v, o, ho, hc⟩ := I.cell x c e
      rw [z, ha] at ho
      cases ho
      rw [hd] at hc
      cases hc
  pin := by
    intro p hp
    obtain ⟨e, n, rest⟩ := I.pin p hp
    exact ⟨e, by rw [upd_ne (np p hp)]; exact n, rest⟩
  hok := I.hok.laidN (fun _ _ e => e) na new
  len := I.len
end
/-- what the clause wishes: the exception is held behind the suite -/
def wKeep (K : PySem.W.Frag) (c : Value) (i : Nat) (ts : Addr → Value → Option Addr → TS) (Wout : WX) (D : Ends) : WX := fun cls d σ H =>
  ∃ b, PySem.W.exmOne K cls c = some b ∧
    (b = true → ∀ a, H a = none → ts a cls d { nx := fun σ' H' => D.nx (σ'.set i none) (upd H' a (EkO cls d a)), rt := fun _ _ => False, bk := fun _ _ => False, ct := fun _ _ => False } (σ.set i (some (.ref a))) H) ∧
    (b = false → Wout cls d σ H)
section
variable {X : Cx} {x n : Str} {c : Value} {i : Nat} {body more : List Stmt} {st0 : Stmt} {p1 p2 p3 : Pos} {tb : WX → TS} {ts : Addr → Value → Option Addr → TS} {Wout : WX}
theorem ps_try_keep (stk : X.stack = X.env :: X.outer) (frm : X.env.frame = some X.env.locals) (hex : X.ex = []) (hN : X.N.Nodup) (hi : X.N[i]? = some n) (hn : X.env.kindOf n = some .local) (hc : Names X x c) (tk : Takes X Wout)
    (bd : ∀ (W : WX) (pn : List (Addr × Obj)) (xe : Value → Shared → Prop), Takes (X.tr pn xe) W → PassesOwn (model X.prog X.w) X.A X.env xe → PSs (X.tr pn xe) body (tb W))
    (su : ∀ (a : Addr) (oe : Obj) (cls : Value) (d : Option Addr) (pn : List (Addr × Obj)), Zc cls d oe → (∃ vs, oe.data = .fields vs) → PSs (X.suite a ((a, oe) :: pn)) (st0 :: more) (ts a cls d))
    (yes : ∀ D cls d σ H, wKeep X.K c i ts Wout D cls d σ H → PySem.W.exmOne X.K cls c = some true) :
    PS X (.Try body [.ExceptHandler (some (.Name x p1)) (some n) (st0 :: more) p2] [] [] p3) (fun D σ H => tb (wKeep X.K c i ts Wout D) D σ H) := by
  constructor
  intro pins s σ H D I h
  have okX := I.ok
  have frames : X.A.frames = some (X.env :: X.outer) := by
    rw [okX.frames, stk]
  refine wpAny_Try_except ?_
  have B1 := bd (wKeep X.K c i ts Wout D) (X.pn ++ pins)
    (fun e s₁ => wpAny (model X.prog X.w) X.A (noteFrame e X.env)
      (fun _ s₂ => wpAny (model X.prog X.w) X.A (setFlight e none)
        (fun _ s₃ => wpAny (model X.prog X.w) X.A
          (handleBy e X.env [.ExceptHandler (some (.Name x p1)) (some n) (st0 :: more) p2]) (SP X pins D) X.xe s₃) X.xe s₂) X.xe s₁)
    ?caught PassesOwn.looking
  · refine wpAny_mono (B1.run [] s σ H D (I.toTry _) h) ?_ (fun _ _ z => z)
    intro f s1 hs1
    cases f with
    | next =>
      obtain ⟨σ', H', J, q⟩ := hs1
      exact wpAny_execs_nil ⟨σ', H', J.ofTry okX, q⟩
    | ret u =>
      obtain ⟨v, σ', H', J, r, q⟩ := hs1
      exact ⟨v, σ', H', J.ofTry okX, r, q⟩
    | brk =>
      obtain ⟨σ', H', J, q⟩ := hs1
      exact ⟨σ', H', J.ofTry okX, q⟩
    | cont =>
      obtain ⟨σ', H', J, q⟩ := hs1
      exact ⟨σ', H', J.ofTry okX, q⟩
  case caught =>
    intro u s' air
    obtain ⟨a, B, sI, pins', σ', H', cls, d, rfl, J', ground, up, sky, na, os, ag, wish⟩ := air
    have hyes := yes D cls d σ' H' wish
    obtain ⟨b, hb1, hgo, _⟩ := wish
    rw [hyes] at hb1
    cases hb1
    have J : L2.Inv X pins σ' H' sI := J'.ofTry okX
    have skyX : Sky B (X.env :: X.outer) a (Zc cls d) X.env.locals s'.heap := by
      rw [← stk]
      exact sky
    show wpAny (model X.prog X.w) X.A (noteFrame (.ref a) X.env) _ _ _
    refine Sky.land Zc.steady frames frm skyX ?_
    intro h3 fl3 up3
    obtain ⟨oe3, vs3, get3, z3, dat3⟩ := fl3.there
    have noFrame : a ∉ frs (X.env :: X.outer) := by
      intro hm
      obtain ⟨_, o', e', nof⟩ := fl3.2.2.1.mem hm
      rw [get3] at e'
      cases e'
      exact nof _ dat3
    have notL : a ≠ X.env.locals := by
      intro z
      refine noFrame (List.mem_filterMap.mpr ⟨X.env, List.mem_cons_self, ?_⟩)
      rw [frm, z]
    have notF : a ∉ X.fs := by
      intro hm
      obtain ⟨e, he, q⟩ := List.mem_filterMap.mp hm
      exact noFrame (List.mem_filterMap.mpr ⟨e, List.mem_cons_of_mem _ he, q⟩)
    have newI : sI.heap.get? a = none := by
      cases e : sI.heap.get? a with
      | none => rfl
      | some o =>
        have z := ground a o e (by rw [stk]; exact noFrame)
        rw [fl3.2.1] at z
        cases z
    have new0 : X.s_0.heap.get? a = none := by
      cases e : X.s_0.heap.get? a with
      | none => rfl
      | some o =>
        obtain ⟨o', z⟩ := J.base.there a o e (by rw [hex]; exact fun q => nomatch q)
        rw [newI] at z
        cases z
    have notP : ∀ p ∈ X.pn ++ pins, p.1 ≠ a := by
      intro p hp z
      have q := (J.pin p hp).1
      rw [z, newI] at q
      cases q
    have J3 : L2.Inv X pins σ' H' { s' with heap := h3 } := J.landed ground fl3.1 (up.trans up3) os ag
    have S3 := J3.suite get3 dat3 na notL notF
    refine wpAny_handleBy_cons (codeAny_handlers_test ?_) (by intro q; cases q)
    have kindly : PySem.W.Looks (model X.prog X.w) h3 (typeOf (.ref a)) cls := by
      intro A2 Q2 E2 s2 k2 q2
      refine wpAny_typeOf_ref (k2 _ _ get3) ?_
      rw [z3.1]
      exact q2
    have match_ := PySem.W.exm_one (M := model X.prog X.w) J3.kIn kindly hyes
    have named : ∀ {Q2 : Value → Shared → Prop} {E2 : Value → Shared → Prop}, Q2 c { s' with heap := h3 } →
        wpAny (model X.prog X.w) (X.A.mark (some (.ref a))) (eval (.Name x p1) X.env) Q2 E2 { s' with heap := h3 } := by
      intro Q2 E2 q2
      obtain ⟨g1, g2, g3 | ⟨g3, g4, g5⟩⟩ := hc
      · exact ld_glob (X := X.suite a ((a, oe3) :: (X.pn ++ pins))) S3 g1 g3 q2 g2
      · exact ld_blt (X := X.suite a ((a, oe3) :: (X.pn ++ pins))) S3 g1 g3 g4 q2 g5 g2
    refine named (match_.here ?_)
    refine codeAny_handlers_suite_as ?_
    refine HandSPX.lands_againZ fl3 ?_
    intro h4 fl4 up4
    obtain ⟨oe4, vs4, get4, z4, dat4⟩ := fl4.there
    have J4 : L2.Inv X pins σ' H' { s' with heap := h4 } := J.landed ground fl4.1 ((up.trans up3).trans up4) os ag
    have S4 := J4.suite get4 dat4 na notL notF
    refine store_ok (X := X.suite a ((a, oe4) :: (X.pn ++ pins))) (v := .ref a) S4 hN hi (.inl hn) rfl ?_ (.inr hn)
    intro s5 S5
    refine wpAny_mono ((su a oe4 cls d (X.pn ++ pins) z4 ⟨_, dat4⟩).run [] s5 _ H' _ S5 (hgo rfl a na)) ?_ (fun _ _ z => False.elim z)
    intro f s6 hs6
    cases f with
    | next =>
      obtain ⟨σ6, H6, S6, q6⟩ := hs6
      obtain ⟨get6, na6, _⟩ := S6.pin (a, oe4) (List.mem_append_left _ List.mem_cons_self)
      have J6 : L2.Inv X pins σ6 H6 s6 := S6.unsuite okX
      have T6 := inv_track (φ := fun h => ∃ oe : Obj, h.get? a = some oe ∧ Zc cls d oe ∧ ∃ vs, oe.data = .fields vs) J6 get6 dat4 na6 notL new0 notP
        ⟨⟨oe4, get6, z4, _, dat4⟩, ⟨oe4, get6⟩, fun h1 h2 ⟨o, e, r⟩ k => ⟨o, k o e, r⟩⟩
      refine gone_ok T6 hN hi hn ?_
      intro s7 J7
      exact ⟨_, _, J7, q6⟩
    | brk =>
      obtain ⟨σ6, H6, S6, q6⟩ := hs6
      exact q6.elim
    | cont =>
      obtain ⟨σ6, H6, S6, q6⟩ := hs6
      exact q6.elim
    | ret u =>
      obtain ⟨v6, σ6, H6, S6, r6, q6⟩ := hs6
      exact q6.elim
end
/-! ### isinstance of such an exception -/
def rIsK (K : PySem.W.Frag) (D : Addr) : List V → Hp → VK → Prop := fun xs H Q =>
  ∃ (a : Addr) (c : V) (cv : Value) (b : Bool), xs = [.ref a, c] ∧ H a = some (EkO (.ref D) none a) ∧ (∀ u, RelV c u → u = cv) ∧ PySem.W.kitOne K (.ref D) cv = some b ∧ Q (.bl b) H
theorem call_isK {X : Cx} {D : Addr} (C : ExcC X.K D) : CallR X (.builtin "isinstance") (rIsK X.K D) := by
  intro pins s σ H xs us Q I r h
  obtain ⟨a, c, cv, b, rfl, hH, hcv, e, q⟩ := h
  obtain ⟨⟨oe, get, z, vs, dat⟩, _⟩ := I.hok a _ hH
  cases r with
  | cons rx rr =>
    cases rr with
    | cons rt rr =>
      cases rr
      cases rx
      have ec := hcv _ rt
      subst ec
      have J : PySem.W.InstAt s.heap a oe D none := by
        obtain ⟨oc, od, oda, osl⟩ := oe
        obtain ⟨h1, h2⟩ := z
        dsimp only at h1 h2 dat
        subst h1 h2 dat
        exact ⟨get, rfl, rfl, trivial⟩
      refine PySem.W.kia_one (PySem.W.handS_kitx_exc C.hg C.hk C.hs C.hd C.ha C.hn C.ht C.hm) I.kIn J e (fun z => nomatch z) ?_
      intro tk
      exact ⟨.bl b, H, I.kept (t' := tk) fun _ _ z => z, rfl, q⟩
end SfG
namespace SfG
open PySem PySem.Spec PyProof.Rows L2
/-! ### enumerate(t), t a tuple -/
set_option maxHeartbeats 1000000 in
theorem meets_enum1 {v : Value} {o : Obj} {H : Heap → Prop} (B : Begins v o H) :
    Meets (Builtin.«enumerate.__new__» ⟨[.type "enumerate", v], []⟩) (fun _ R s => H s.heap ∧
      R (.ok (.ret (.ref (s.heap.push o).objs.size)))
        { s with heap := (s.heap.push o).push { cls := .type "enumerate", data := .fields #[.none, .bool false, .ref s.heap.objs.size, rawInt 0, .none, .none] } }) :=
  .of_wp fun prog w A R s hh => by
    obtain ⟨hp, g, d, tk, os⟩ := s
    obtain ⟨h1, fin⟩ := hh
    have hsub := sub_enumerate
    have it1 : ∀ {A' : Around} {E : Value → Shared → Prop} {Q : Value → Shared → Prop}, Q (.ref hp.objs.size) ⟨hp.push o, g, d, tk, os⟩ →
        wpAny (model prog w) A' (pyIter v) Q E ⟨hp, g, d, tk, os⟩ := fun q => B.iter prog w _ _ ⟨hp, g, d, tk, os⟩ _ h1 q
    wp_walk using it1
    refine wpAny_stack_any fun st => wpAny_pure ?_
    split
    · rename_i c _ _ _ _ _
      cases (c == Value.type "enumerate") <;> (wp_walk using it1; exact ⟨_, rfl, fin⟩)
    · wp_walk using it1
      exact ⟨_, rfl, fin⟩
section
variable {prog : Program} {w : World} {A : Around} {E : Value → Shared → Prop} {s : Shared}
theorem enum1 {v : Value} {o : Obj} {H : Heap → Prop} {Q : Value → Shared → Prop} (B : Begins v o H) (h1 : H s.heap)
    (h : ∀ h', IsEnum h' (s.heap.objs.size + 1) s.heap.objs.size 0 .none → h'.get? s.heap.objs.size = some o →
      (∀ b u, s.heap.get? b = some u → h'.get? b = some u) → Q (.ref (s.heap.objs.size + 1)) { s with heap := h' }) :
    wpAny (model prog w) A (call (.type "enumerate") [v]) Q E s := by
  refine callType_new F.called_enumerate (by decide) (F.typeCall_enumerate_1 _) (F.newCall_enumerate_1 _) (fun obj => F.args_object_init_2 obj _)
    F.entry_enumerate_new (meets_enum1 B) ⟨h1, ?_⟩
  have sz : (s.heap.push o).objs.size = s.heap.objs.size + 1 := Heap.size_push ..
  show _ ∧ _
  rw [sz]
  have made : IsEnum ((s.heap.push o).push { cls := .type "enumerate", data := .fields #[.none, .bool false, .ref s.heap.objs.size, rawInt 0, .none, .none] })
      (s.heap.objs.size + 1) s.heap.objs.size 0 .none := by
    have z := Heap.get?_push_size (s.heap.push o) (o := { cls := .type "enumerate", data := .fields #[.none, .bool false, .ref s.heap.objs.size, rawInt 0, .none, .none] }) rfl
    rw [sz] at z
    exact z
  refine ⟨⟨_, made, rfl⟩, h _ made (Heap.get?_push_of_some _ (Heap.get?_push_size _ B.free)) ?_⟩
  intro b u x
  exact Heap.get?_push_of_some _ (Heap.get?_push_of_some _ x)
end
/-- the tuple at a as it stands at each turn, each item in a new pair -/
def IteT (K : PySem.W.Frag) (a : Addr) : It :=
  ⟨fun i H => ∃ (xs : List V) (x : V), SqT K H a xs ∧ xs[i]? = some x,
   fun i H v H' => ∃ T x, v = .ref T ∧ H T = none ∧ H' = upd H T (.tup [.int (i : Nat), x]) ∧ ∀ xs, SqT K H a xs → xs[i]? = some x,
   fun i H => ∃ xs : List V, SqT K H a xs ∧ xs.length = i⟩
theorem turn_enumT {P : Program} {w : World} {K : PySem.W.Frag} {elts : List Expr} {kk : Nat} {tpos : Pos} (a e it : Addr) :
    Turn P w K (.Tuple elts kk tpos) (IteT K a) [e, it] e (fun i h => (∃ old, IsEnum h e it ((i : Nat) : Int) old) ∧ h.IsTupleIter it a i ∧ e ≠ it) where
  mem := by simp
  obj := by
    rintro i h ⟨⟨old, he⟩, ⟨o, ho, hc, hd⟩, _⟩ b hb
    have two : b = e ∨ b = it := by simpa using hb
    rcases two with rfl | rfl
    · exact ⟨_, he, fun v q => nomatch q⟩
    · exact ⟨o, ho, fun v q => by rw [hd] at q; cases q⟩
  keep := by
    rintro i h h' ⟨⟨old, he⟩, hi, hne⟩ k
    exact ⟨⟨old, k e (by simp) _ he⟩, hi.at fun o q => k it (by simp) o q, hne⟩
  item := by
    intro X hP hw hK hc i pins s σ H E I hf st hg
    subst hP hw hK
    obtain ⟨⟨old, he⟩, hit, hne⟩ := st
    obtain ⟨xs, x, hq, hx⟩ := hg
    obtain ⟨its, rv, p, hz⟩ := I.tuple hq
    obtain ⟨u, hu, ru⟩ := rv.get hx
    have ea : e ≠ a := by
      intro z
      obtain ⟨o, ho, hcl, _⟩ := p
      rw [← z] at ho
      have q := he
      unfold IsEnum at q
      rw [ho] at q
      have q1 := Option.some.inj q
      rw [q1] at hcl
      exact absurd (Value.type.inj hcl) (by decide)
    have ia : a ≠ it := by
      intro z
      obtain ⟨o, ho, hcl, _⟩ := p
      obtain ⟨o', ho', hcl', _⟩ := hit
      rw [z, ho'] at ho
      cases ho
      rw [hcl'] at hcl
      exact absurd (Value.type.inj hcl) (by decide)
    have D : Draws X.prog X.w X.A.in1 it [it, a] its.toArray.size (fun i v => its.toArray[i]? = some v) (fun i h => h.IsTupleIter it a i ∧ h.IsTuple a its.toArray) :=
      Draws.tuple (show X.A.in1.handled = none from I.ok.hd hc) it a ia its.toArray
    have hlt : i < its.toArray.size := by
      have hl := rv.length
      have hi : i < xs.length := by
        rcases Nat.lt_or_ge i xs.length with h1 | h1
        · exact h1
        · rw [List.getElem?_eq_none h1] at hx
          cases hx
      simp
      omega
    have hel : e < s.heap.objs.size := Heap.lt_size he
    have hil : it < s.heap.objs.size := by
      obtain ⟨_, q, _⟩ := hit
      exact Heap.lt_size q
    refine wpAny_pyNext_enum_itemD D he ⟨hit, p⟩ hlt hne (by simp [hne, ea]) ?_
    intro y h' tk hy ho hst hT hsz hk
    have ey : y = u := by
      have h1 : its.toArray[i]? = some u := by simpa using hu
      have h2 : its.toArray[i]? = some y := hy
      rw [h1] at h2
      exact (Option.some.inj h2).symm
    subst ey
    refine ⟨_, rfl, wpAny_letOwnedTupleGo_enum (s := { s with heap := h', toks := tk + 1 }) ho ?_⟩
    intro h'' he' sb
    have hT2 : h''.get? s.heap.objs.size = some { cls := .type "tuple", data := .seq #[.int i tk, y] } := (sb.2 _ (Nat.ne_of_gt hel)).trans hT
    have new : ObjOk X.prog X.w (upd H s.heap.objs.size (.tup [.int (i : Nat), x])) h'' s.heap.objs.size (.tup [.int (i : Nat), x]) :=
      ⟨by show 2 ≤ sizeLine; decide, [.int i tk, y], .cons ⟨_, rfl⟩ (.cons ru .nil), ⟨_, hT2, rfl, _, rfl⟩⟩
    have I1 : L2.Inv X pins σ (upd H s.heap.objs.size (.tup [.int (i : Nat), x])) { s with heap := h'', toks := tk + 1 } := by
      refine I.turnedNew (ch := [e, it]) ?_ hf (Nat.le_refl _) new
      intro b ob hb q
      exact (sb.2 b (fun z => hb (by simp [z]))).trans (hk b ob (fun z => hb (by simp [z])) (fun z => hb (by simp [z])) q)
    refine ⟨.ref s.heap.objs.size, _, I1, rfl, ⟨_, x, rfl, I.hok.fresh (Nat.le_refl _), rfl, ?_⟩, ⟨⟨y, ?_⟩, hst.1.at fun o q => (sb.2 it (Ne.symm hne)).trans q, hne⟩, ?_⟩
    · intro ys hy'
      rw [I.tuple_inj hy' hq]
      exact hx
    · have e1 : ((i + 1 : Nat) : Int) = (i : Int) + 1 := by omega
      rw [e1]
      exact he'
    · intro b hb
      have hb' : b < s.heap.objs.size := by
        have two : b = e ∨ b = it := by simpa using hb
        rcases two with rfl | rfl
        · exact hel
        · exact hil
      rw [upd_ne (Nat.ne_of_lt hb')]
      exact (hf b hb).1
  done := by
    intro X hP hw hK hc i pins s σ H E I hf st hg
    subst hP hw hK
    obtain ⟨⟨old, he⟩, hit, hne⟩ := st
    obtain ⟨xs, hq, hx⟩ := hg
    obtain ⟨its, rv, p, hz⟩ := I.tuple hq
    have ia : a ≠ it := by
      intro z
      obtain ⟨o, ho, hcl, _⟩ := p
      obtain ⟨o', ho', hcl', _⟩ := hit
      rw [z, ho'] at ho
      cases ho
      rw [hcl'] at hcl
      exact absurd (Value.type.inj hcl) (by decide)
    obtain ⟨f0, f1, f2, f3, f4, f5⟩ := hf it (by simp)
    have hl := rv.length
    have D : Draws X.prog X.w X.A.in1 it [it, a] its.toArray.size (fun i v => its.toArray[i]? = some v) (fun i h => h.IsTupleIter it a i ∧ h.IsTuple a its.toArray) :=
      Draws.tuple (show X.A.in1.handled = none from I.ok.hd hc) it a ia its.toArray
    have ei : its.toArray.size = i := by
      simp
      omega
    rw [← ei] at hit
    exact wpAny_pyNext_enum_endD D he ⟨hit, p⟩ fun h' eb => ⟨rfl, I.turned (t' := s.toks) (fun b o hb q => eb b o hb q) f0 f1 f3 f4 f5⟩
  self := by
    rintro A i s Q E ⟨⟨_, he⟩, _⟩ h
    exact wpAny_pyIter_enum he h
def iEnumT (K : PySem.W.Frag) (ta : TA) : TI := fun σ H R => ta σ H fun vs H1 => ∃ a xs, vs = [.ref a] ∧ SqT K H1 a xs ∧ R (IteT K a) H1
theorem pi_enumT {X : Cx} {e : Expr} {ta : TA} {p pos tpos : Pos} {elts : List Expr} {kk : Nat} (hg : Gl X "enumerate") (hm : X.mg "enumerate" = none) (ha : PA X [e] ta)
    (hs : starEach [e] X.env = [(false, eval e X.env)] := by rfl) : PI X (.Tuple elts kk tpos) (.Call (.Name "enumerate" p) [e] [] pos) (iEnumT X.K ta) := by
  constructor
  intro pins s σ H R I h
  refine Call_ (ld_blt I hg hm boot_enumerate (PyProof.Rows.callWith_type1 (thn (ha.run pos pins s σ H _ I h) ?_) hs rfl))
  rintro us s1 ⟨vs, H1, I1, r1, a, xs, rfl, hq, q⟩
  obtain ⟨u, rfl, ru⟩ := vals1 r1
  cases (show u = Value.ref a from ru)
  obtain ⟨its, rv, p', hz⟩ := I1.tuple hq
  refine enum1 (begins_tuple a its.toArray) p' ?_
  intro h' he hit hk
  refine wpAny_pyIter_enum he ?_
  have I2 : L2.Inv X pins σ H1 { s1 with heap := h' } := I1.kept (t' := s1.toks) hk
  refine ⟨s1.heap.objs.size + 1, [s1.heap.objs.size + 1, s1.heap.objs.size], _, _, H1, rfl, I2, turn_enumT a (s1.heap.objs.size + 1) s1.heap.objs.size,
    ⟨⟨.none, he⟩, ⟨_, hit, rfl, rfl⟩, Nat.succ_ne_self _⟩, ?_, q⟩
  intro b hb
  have two : b = s1.heap.objs.size + 1 ∨ b = s1.heap.objs.size := by simpa using hb
  have hle : s1.heap.objs.size ≤ b := by
    rcases two with z | z
    · rw [z]
      exact Nat.le_succ _
    · rw [z]
      exact Nat.le_refl _
  exact I1.fpOk hle (I1.hok.fresh hle)
theorem walk_enumT {K : PySem.W.Frag} {a : Addr} {xs : List V} : Walk (IteT K a) xs.length (fun H => SqT K H a xs) (YPair (fun i => some (.int (i : Nat))) (fun i => xs[i]?)) := by
  refine ⟨?_, ?_, ?_⟩
  · intro i _ hi q
    exact ⟨xs, xs[i], q, by simp [hi]⟩
  · intro _ q
    exact ⟨xs, q, rfl⟩
  · rintro i H v H' _ q ⟨T, x, h1, h2, h3, h4⟩
    exact ⟨T, .int (i : Nat), x, h1, h2, h3, rfl, h4 xs q⟩
end SfG
namespace SfG
open PySem PySem.Spec PyProof.Rows L2
/-! ### d.update(e), two dicts -/
def rDUpd : V → List V → Hp → VK → Prop := fun x vs H Q => ∃ (a b : Addr) (kvs more : List (Key × V)), x = .ref a ∧ vs = [.ref b] ∧ H a = some (.dK kvs) ∧ H b = some (.dK more) ∧ a ≠ b ∧ kvs.length + more.length ≤ 1000 ∧ Q .non (upd H a (.dK (mergeK kvs more)))
theorem mt_dupd {X : Cx} : MtR X "dict.update" rDUpd := by
  intro pins s σ H x vs v us Q I rx rv h
  obtain ⟨a, b, kvs, more, rfl, rfl, ea, eb, ne, hz, q⟩ := h
  cases (show v = Value.ref a from rx)
  obtain ⟨u, rfl, ru⟩ := vals1 rv
  cases (show u = Value.ref b from ru)
  obtain ⟨za, ha, va, ra, da⟩ := dk_of I.hok ea
  obtain ⟨zb, hb, vb, rb, db⟩ := dk_of I.hok eb
  have sz : va.length + vb.length ≤ sizeLine := by
    rw [← ra.length, ← rb.length]
    exact Nat.le_of_lt (small1000 hz)
  refine call_meetsIn PySem.F.slot_dict_update da.typeIs PySem.F.entry_dict_update (PySem.F.args_dict_update_2 _ _) (meets_dict_update (mixKind X.prog X.w) a b ne hb) ⟨va, vb, da, db, sz, fun h' dd' _ hs => ?_⟩
  have he : ∃ o, h'.get? a = some o := by
    obtain ⟨o, _, _, ho, _⟩ := dd'
    exact ⟨o, ho⟩
  have hm : (mergeK kvs more).length ≤ sizeLine := by
    have := length_mergeK more kvs
    exact Nat.le_of_lt (small1000 (by omega))
  exact ⟨.non, _, d_write (t' := s.toks) I (by rw [ea]; exact True.intro) hs he (dk_new hm ha (rb.merge ra) dd'), rfl, q⟩
/-! ### xs[b], b a truth -/
section
variable {prog : Program} {w : World} {A : Around} {E : Value → Shared → Prop} {s : Shared}
theorem sub_bool {M : Model} {b : Bool} {Q : Option Int → Shared → Prop} (h : Q (some (if b then 1 else 0)) s) : wpAny M A (Builtin.List.listSubscript? (.bool b)) Q E s := by
  unfold Builtin.List.listSubscript?
  refine wpAny_bind (wpAny_specialOf (T := "bool") (show s.TypeIs (.bool b) "bool" from rfl) PySem.F.slot_bool_index.lookup ?_)
  cases b with
  | true =>
    refine wpAny_bind (wpAny_of_eq (a := (1 : Int)) rfl ?_)
    exact wpAny_pure h
  | false =>
    refine wpAny_bind (wpAny_of_eq (a := (0 : Int)) rfl ?_)
    exact wpAny_pure h
theorem get_bool {l : Addr} {items : Array Value} {b : Bool} {x : Value} {Q : Value → Shared → Prop} (hl : s.heap.IsList l items) (hx : items[(if b then 1 else 0)]? = some x) (h : Q x s) :
    wpAny (model prog w) A (getItem (.ref l) (.bool b)) Q E s := by
  obtain ⟨o, ho, hc, ne, hd⟩ := id hl
  unfold getItem
  try with_reducible refine wpAny_holding ?_
  first | refine wpAny_bind (wpAny_pure ?_) | skip
  refine wpAny_bind (wpAny_sequenceKey hl.typeIs (by decide) ?_)
  refine wpAny_bind (wpAny_callSpecial?_slot (name := Str.ofString "__getitem__") hl.typeIs slot_list_getitem (wpAny_call_entry slot_list_getitem hl.typeIs entry_list_getitem ?_ (args_list_getitem _ _)))
  refine wpAny_bind (m := Builtin.List.listSubscript? (.bool b)) (sub_bool ?_)
  cases b with
  | true =>
    show wpAny _ _ ((seqItemAt l 1 >>= fun r => pure (r.map (1, ·))) >>= _) _ _ s
    refine wpAny_bind (wpAny_bind (wpAny_seqItemAt ho hd (wpAny_pure ?_)))
    rw [show items[1]? = some x from hx]
    first
      | exact wpAny_bind (wpAny_pure (wpAny_pure ⟨x, rfl, wpAny_pure h⟩))
      | exact wpAny_pure ⟨x, rfl, wpAny_pure h⟩
  | false =>
    show wpAny _ _ ((seqItemAt l 0 >>= fun r => pure (r.map (0, ·))) >>= _) _ _ s
    refine wpAny_bind (wpAny_bind (wpAny_seqItemAt ho hd (wpAny_pure ?_)))
    rw [show items[0]? = some x from hx]
    first
      | exact wpAny_bind (wpAny_pure (wpAny_pure ⟨x, rfl, wpAny_pure h⟩))
      | exact wpAny_pure ⟨x, rfl, wpAny_pure h⟩
end
def rIxB (K : PySem.W.Frag) : R2 := fun x y H Q => ∃ (p : Addr) (xs : List V) (b : Bool) (v : V), x = .ref p ∧ y = .bl b ∧ SqL K H p xs ∧ xs[(if b then 1 else 0)]? = some v ∧ Q v H
theorem ix_bool {X : Cx} : IxR X (rIxB X.K) := by
  intro value slice pins s σ H x y v u Q I rx ry h hs
  obtain ⟨p, xs, b, z, rfl, rfl, hq, he, q⟩ := h
  cases (show v = Value.ref p from rx)
  cases (show u = Value.bool b from ry)
  obtain ⟨its, r, pl, hz⟩ := I.list hq
  obtain ⟨t, et, rt⟩ := r.get he
  exact subscriptTail_builtinR pl.isList.typeIs PySem.slot_list_getitem.lookup (get_bool (Q := fun r' s' => r' = t ∧ EP X pins σ Q r' s') pl.isList (by simpa using et) ⟨rfl, z, H, I, rt, q⟩) hs
end SfG
namespace SfG
open PySem PySem.Spec PyProof.Rows L2
/-! ### repr of None, of a number, of a list or a tuple -/
def rReprA (K : PySem.W.Frag) : List V → Hp → VK → Prop := fun xs H Q =>
  ∃ (v : V) (d : PyData) (S : Str), xs = [v] ∧ Dp K H v d ∧ (v = .non ∨ (∃ i, v = .int i) ∨ ∃ a, v = .ref a) ∧ d.showable = true ∧ d.hasDict = false ∧
    d.depth ≤ 30 ∧ d.shown = S ∧ S.length ≤ sizeLine ∧ Q (.str S) H
theorem call_reprA {X : Cx} {k : Nat} (hr : Room k X.A) (hgd : X.A.guards = some []) :
    CallR X (.builtin "repr") (rReprA X.K) := by
  intro pins s σ H xs us Q I r h
  obtain ⟨v, d, S, rfl, hd, hv, hs, hn, hdep, rfl, hz, q⟩ := h
  rcases hv with rfl | ⟨i, rfl⟩ | ⟨a, rfl⟩
  · cases hd
    obtain ⟨u, rfl, ru⟩ := vals1 r
    cases ru
    exact PySem.P.repr_of_none ⟨.str _, H, I.tok _, ⟨_, rfl⟩, q⟩
  · cases hd
    obtain ⟨u, rfl, t, rfl⟩ := vals1 r
    exact PySem.P.repr_of_int (by simpa [PyData.showable] using hs) ⟨.str _, H, I.tok _, ⟨_, rfl⟩, q⟩
  · exact call_repr hr hgd pins s σ H _ us Q I r ⟨a, d, _, rfl, hd, hs, hn, hdep, rfl, hz, q⟩
/-! ### what can be shown, and how long that is -/
structure Sh (d : PyData) (L D : Nat) : Prop where
  able : d.showable = true
  nod : d.hasDict = false
  dep : d.depth ≤ D
  len : d.shown.length ≤ L
structure ShA (ds : List PyData) (L D : Nat) : Prop where
  able : PyData.showableAll ds = true
  nod : PyData.hasDictAll ds = false
  dep : PyData.depthAll ds ≤ D
  len : ((PyData.shownAll ds).map (·.length)).sum + 2 * ds.length ≤ L
theorem Sh.mono {d : PyData} {L D L' D' : Nat} (h : Sh d L D) (hL : L ≤ L') (hD : D ≤ D') : Sh d L' D' := ⟨h.able, h.nod, Nat.le_trans h.dep hD, Nat.le_trans h.len hL⟩
theorem ShA.mono {d : List PyData} {L D L' D' : Nat} (h : ShA d L D) (hL : L ≤ L') (hD : D ≤ D') : ShA d L' D' := ⟨h.able, h.nod, Nat.le_trans h.dep hD, Nat.le_trans h.len hL⟩
theorem ShA.nil {D : Nat} : ShA [] 0 D := ⟨rfl, rfl, by simp [PyData.depthAll], by simp [PyData.shownAll]⟩
theorem ShA.cons {d : PyData} {ds : List PyData} {L1 L2 D : Nat} (h : Sh d L1 D) (t : ShA ds L2 D) : ShA (d :: ds) (L1 + 2 + L2) D := by
  refine ⟨?_, ?_, ?_, ?_⟩
  · rw [PyData.showableAll, h.able, t.able]
    rfl
  · rw [PyData.hasDictAll, h.nod, t.nod]
    rfl
  · have h1 := h.dep
    have h2 := t.dep
    simp only [PyData.depthAll]
    omega
  · have h1 := h.len
    have h2 := t.len
    simp only [PyData.shownAll, List.map_cons, List.sum_cons, List.length_cons]
    omega
theorem Sh.tup {ds : List PyData} {L D : Nat} (h : ShA ds L D) : Sh (.tuple ds) (L + 3) (D + 1) := by
  refine ⟨h.able, h.nod, ?_, ?_⟩
  · have h1 := h.dep
    simp only [PyData.depth]
    omega
  · have h1 := h.len
    have h2 := tupleText_len_le (PyData.shownAll ds)
    have h3 := PyData.shownAll_length ds
    simp only [PyData.shown]
    omega
theorem Sh.lst {ds : List PyData} {L D : Nat} (h : ShA ds L D) : Sh (.list ds) (L + 3) (D + 1) := by
  refine ⟨h.able, h.nod, ?_, ?_⟩
  · have h1 := h.dep
    simp only [PyData.depth]
    omega
  · have h1 := h.len
    have h2 := listText_len_le (PyData.shownAll ds)
    have h3 := PyData.shownAll_length ds
    simp only [PyData.shown]
    omega
theorem Sh.non {D : Nat} : Sh .none 4 (D + 1) := ⟨rfl, rfl, by simp [PyData.depth], by decide⟩
theorem Sh.int {i : Int} {k D : Nat} (h : i.natAbs < 2 ^ k) (h0 : 0 < k) (hk : k ≤ 1920) : Sh (.int i) (k + 1) (D + 1) := by
  have hl : i.natAbs.log2 < k := by
    by_cases z : i.natAbs = 0
    · rw [z]
      exact h0
    · exact (Nat.log2_lt z).mpr h
  refine ⟨by simp only [PyData.showable]; exact decide_eq_true (by omega), rfl, by simp [PyData.depth], ?_⟩
  have e := int_text_length_le h0 hl
  show (Str.ofString (toString i)).length ≤ k + 1
  rw [PySem.ofString_length]
  exact e
theorem ShA.ints {k D : Nat} (h0 : 0 < k) (hk : k ≤ 1920) : ∀ {l : List Int}, (∀ x ∈ l, x.natAbs < 2 ^ k) → ShA (l.map PyData.int) (l.length * (k + 3)) (D + 1)
  | [], _ => ShA.nil.mono (by omega) (Nat.le_refl _)
  | a :: r, h => by
    have h1 := ShA.cons (Sh.int (h a List.mem_cons_self) h0 hk) (ShA.ints (D := D) h0 hk (l := r) fun x hx => h x (List.mem_cons_of_mem _ hx))
    refine h1.mono ?_ (Nat.le_refl _)
    rw [List.length_cons, Nat.succ_mul]
    omega
theorem Sh.fits {d : PyData} {L D : Nat} (h : Sh d L D) (hL : L ≤ 10000000) : d.shown.length ≤ sizeLine := by
  rw [sizeLine_eq]
  have := h.len
  omega
end SfG
namespace SfG
open PySem PySem.Spec PyProof.Rows L2
/-! ### the kind of plain data -/
def tyD : PyData → String
  | .none => "NoneType"
  | .bool _ => "bool"
  | .int _ => "int"
  | .str _ => "str"
  | .list _ => "list"
  | .tuple _ => "tuple"
  | .dict _ => "dict"
theorem tyx_tup {K : PySem.W.Frag} {H : Hp} {p : Addr} {xs : List V} (h : SqT K H p xs) : TyX K H (.ref p) (.type "tuple") := by
  rcases h with (h | ⟨o, h⟩) | ⟨o, its, n, h1, h2, _⟩
  · exact .base (.tup h)
  · exact .fTuple h
  · exact .kTuple h1 h2
theorem tyx_lst {K : PySem.W.Frag} {H : Hp} {p : Addr} {xs : List V} (h : SqL K H p xs) : TyX K H (.ref p) (.type "list") := by
  rcases h with (h | ⟨o, h⟩) | ⟨o, its, n, h1, h2, _⟩
  · exact .base (.lst h)
  · exact .base (.frz h)
  · exact .kList h1 h2
theorem dp_is {K : PySem.W.Frag} {H : Hp} {v : V} {d : PyData} (h : Dp K H v d) : Is K H v (tyD d) := by
  cases h with
  | non => exact ⟨.base .non, by decide +kernel⟩
  | bl b => exact ⟨.base (.bl b), by show "bool" ∈ kinds; decide +kernel⟩
  | int i => exact ⟨.base (.int i), by show "int" ∈ kinds; decide +kernel⟩
  | str x => exact ⟨.base (.str x), by show "str" ∈ kinds; decide +kernel⟩
  | lst h _ => exact ⟨tyx_lst h, by show "list" ∈ kinds; decide +kernel⟩
  | tup h _ => exact ⟨tyx_tup h, by show "tuple" ∈ kinds; decide +kernel⟩
theorem kit_tuple : ∀ T ∈ kinds, kitB T "tuple" = some (T == "tuple") := by decide +kernel
def whD : PyData → Bool
  | .int _ => true
  | _ => false
def amD (d : PyData) (lo hi : Int) : Bool := match d with
  | .int i => decide (lo ≤ i) && decide (i ≤ hi)
  | _ => false
def tupD (d : PyData) (lo hi : Int) : Bool := match d with
  | .tuple ds => decide (lo ≤ (ds.length : Int)) && decide ((ds.length : Int) ≤ hi)
  | _ => false
end SfG
/-! sorted of a list of tuples, whose first things are texts that are unlike -/
namespace SfG
open PySem PySem.Spec PyProof.Rows L2
abbrev ltS (a b : Str) : Prop := a.cps.toList < b.cps.toList
/-- a tuple that begins with a text -/
def TupHd (h : Heap) (v : Value) (z : Str) : Prop := ∃ a o xs n t, v = .ref a ∧ h.get? a = some o ∧ o.cls = .type "tuple" ∧ o.data = .seq xs n ∧ xs[0]? = some (.str z t)
theorem TupHd.keeps {h h' : Heap} {v : Value} {z : Str} (x : TupHd h v z) (k : ∀ b o, h.get? b = some o → o.cls = .type "tuple" → h'.get? b = some o) : TupHd h' v z := by
  obtain ⟨a, o, xs, n, t, e, ho, hc, hd, h0⟩ := x
  exact ⟨a, o, xs, n, t, e, k a o ho hc, hc, hd, h0⟩
theorem heads_of {h : Heap} {f : Value → Str} (vs : List Value) (x : ∀ v ∈ vs, TupHd h v (f v)) : ∃ gs, PySem.W.KatTups h vs gs ∧ gs.length = vs.length ∧ ∀ g, g ∈ gs → ∃ z t, g = Value.str z t := by
  induction vs with
  | nil => exact ⟨[], PySem.W.KatTups.nil, rfl, fun g hg => nomatch hg⟩
  | cons v vs ih =>
    obtain ⟨gs, k, hl, hi⟩ := ih fun u hu => x u (.tail _ hu)
    obtain ⟨a, o, xs, n, t, e, ho, hc, hd, h0⟩ := x v (.head _)
    subst e
    refine ⟨.str (f (.ref a)) t :: gs, .cons ho hc hd h0 k, congrArg Nat.succ hl, fun g hg => ?_⟩
    cases hg with
    | head => exact ⟨_, _, rfl⟩
    | tail _ hg => exact hi g hg
section
variable {prog : Program} {w : World} {s : Shared} {A : Around} {E : Value → Shared → Prop}
theorem eqBool_self {p : Value} {Q : Bool → Shared → Prop} (h : Q true s) : wpAny (model prog w) A (eqBool p p) Q E s := by
  unfold eqBool
  show wpAny _ _ (holding [p, p] (if (p == p) = true then _ else _)) Q E s
  rw [if_pos (beq_self_eq_true p)]
  exact wpAny_holding (wpAny_bind (wpAny_rule (wpAny_pure h)))
theorem lex_self {b fin : Bool} {Q : Bool → Shared → Prop} (h : Q fin s) : ∀ (l : List Value) (i : Nat), PySem.W.KatLex prog w A b fin Q (l.zip l) i s
  | [], _ => PySem.W.kat_nil h
  | p :: l, i => PySem.W.kat_cons (eqBool_self (PySem.W.kat_yes (lex_self h l (i + 1))))
theorem swoS (f : Value → Str) : SrtO.Swo (fun u v => decide (ltS (f u) (f v))) := by
  refine ⟨fun x y h => decide_eq_false fun h2 => ?_, fun x y z h1 h2 => decide_eq_false fun h3 => ?_⟩
  · exact List.lt_irrefl _ (List.lt_trans (of_decide_eq_true h) h2)
  · have a := List.not_lt.mp (of_decide_eq_false h1)
    have b := List.not_lt.mp (of_decide_eq_false h2)
    exact List.not_lt.mpr (List.le_trans a b) h3
theorem first_of {xs : Array Value} {v : Value} (h : xs[0]? = some v) : ∃ r, xs.toList = v :: r := by
  rw [← Array.getElem?_toList] at h
  match q : xs.toList with
  | [] => rw [q] at h; cases h
  | y :: l => rw [q] at h; exact ⟨l, by rw [Option.some.inj h]⟩
theorem heads_lt {vs : List Value} {f : Value → Str} (x : ∀ v ∈ vs, TupHd s.heap v (f v)) (inj : ∀ u ∈ vs, ∀ v ∈ vs, f u = f v → u = v) {p q : Value} (hp : p ∈ vs) (hq : q ∈ vs) :
    wpAny (model prog w) A (keyLt' (tuples' true) p q) (fun r s' => s' = s ∧ r = decide (ltS (f p) (f q))) (fun _ _ => False) s := by
  obtain ⟨a, o, xs, n, t, ea, ho, _, ho2, h0⟩ := x p hp
  by_cases e : f p = f q
  · rw [← inj p hp q hq e, ea]
    refine PySem.W.kat_lt ho ho2 ho ho2 (lex_self ⟨rfl, ?_⟩ _ 0)
    rw [decide_eq_false (Nat.lt_irrefl _), decide_eq_false (List.lt_irrefl _)]
  · obtain ⟨b, u, ys, m, t2, eb, hu, _, hu2, k0⟩ := x q hq
    obtain ⟨xr, ex⟩ := first_of h0
    obtain ⟨yr, ey⟩ := first_of k0
    have no : decide (f p = f q) = false := decide_eq_false e
    rw [show keyLt' (tuples' true) p q = keyLt' (tuples' true) (.ref a) (.ref b) by rw [ea, eb]]
    refine PySem.W.kat_lt ho ho2 hu hu2 ?_
    rw [ex, ey]
    refine PySem.W.kat_cons (wpAny_eqBool_str ?_)
    rw [no]
    exact PySem.W.kat_no (oneLt_str ⟨rfl, rfl⟩)
end
/-- sorted(xs), xs a list of tuples that begin with unlike texts -/
def rSortedH (K : PySem.W.Frag) : List V → Hp → VK → Prop := fun vs H Q => ∃ (a : Addr) (xs : List V) (hd : V → Str), vs = [V.ref a] ∧ SqL K H a xs ∧ (∀ x ∈ xs, ∃ t rest, x = V.ref t ∧ SqT K H t (.str (hd x) :: rest)) ∧ (∀ x ∈ xs, ∀ y ∈ xs, hd x = hd y → x = y) ∧
  ∀ (ys : List V) (p : Addr), ys.Perm xs → ys.Pairwise (fun x y => ¬ ltS (hd y) (hd x)) → H p = none → Q (.ref p) (upd H p (.lst ys))
theorem cr_sortedH {X : Cx} : CallR X (.builtin "sorted") (rSortedH X.K) := by
  rintro pins s σ H vs us Q I r ⟨a, xs, hd, rfl, hs, hx, inj, q⟩
  have lst := I.list hs
  obtain ⟨its, rv, hl, hz⟩ := lst
  rw [Vals.ref1 r]
  have all : xs = its.map bkV ∧ ∀ u ∈ its, ∃ a, u = Value.ref a := bkV_refs rv fun x m => (hx x m).imp fun t z => z.choose_spec.1
  have mem : ∀ {v}, v ∈ its → bkV v ∈ xs := fun {v} hv => all.1 ▸ List.mem_map_of_mem hv
  have heads : ∀ v ∈ its, TupHd s.heap v (hd (bkV v)) := fun v hv => by
    obtain ⟨t, rfl⟩ := all.2 v hv
    obtain ⟨t', rest, e, ht⟩ := hx _ (mem hv)
    obtain rfl : t = t' := V.ref.inj e
    obtain ⟨fs, rf, ⟨o, ho, hc, n, ho2⟩, _⟩ := I.tuple ht
    cases rf with
    | cons r0 rr =>
      obtain ⟨tk, rfl⟩ := r0
      exact ⟨t, o, _, n, tk, rfl, ho, hc, ho2, by simp⟩
  have same : ∀ u ∈ its, ∀ v ∈ its, hd (bkV u) = hd (bkV v) → u = v := fun u hu v hv e => by
    obtain ⟨t, rfl⟩ := all.2 u hu
    obtain ⟨t', rfl⟩ := all.2 v hv
    exact congrArg Value.ref (V.ref.inj (inj _ (mem hu) _ (mem hv) e))
  refine SrtO.sorted_ord (swoS fun v => hd (bkV v)) hl.isList (rv.length ▸ hz) (fun h2 h1 b hb old h' keep => ?_) fun out so st => ?_
  · have there : ∀ v ∈ its, TupHd h' v (hd (bkV v)) := fun v hv => (heads v hv).keeps fun c o e _ => keep c o (old c o e).1 (old c o e).2
    obtain ⟨fs, k1, k2, k3⟩ := heads_of (f := fun v => hd (bkV v)) its there
    refine ⟨tuples' true, fun Q' E' hq => ?_, fun p q hp hq => heads_lt (f := fun v => hd (bkV v)) there same hp hq⟩
    have looks : ∀ g ∈ fs, PySem.W.Looks (model X.prog X.w) h' (typeOf g) (Value.type "str") := fun g hg => by
      obtain ⟨n, t, rfl⟩ := k3 g hg
      exact PySem.W.Looks.now
    exact PySem.W.kat_kind k1 (by omega) looks rfl hq
  · obtain ⟨ep, he⟩ := PyProof.Rows.sortedAll_at s.heap its out.toArray
    have perm : (out.map bkV).Perm xs := all.1 ▸ st.perm.map bkV
    refine ⟨.ref _, upd H (s.heap.objs.size + 1) (.lst (out.map bkV)), ?_, rfl, q _ _ perm ?_ (I.hok.fresh (Nat.le_succ _))⟩
    · have refs : ∀ u ∈ out, ∃ a, u = Value.ref a := fun u hu => all.2 u (st.perm.mem_iff.mp hu)
      exact I.laid (t' := s.toks) (fun _ _ z => PyProof.Rows.sortedAll_old z) (Nat.le_succ _) ⟨perm.length_eq ▸ hz, out, ep, bkV_vals refs, he⟩
    · exact List.pairwise_map.mpr (List.Pairwise.imp (fun z => of_decide_eq_false z) so)
end SfG
namespace SfC
open PySem PySem.Spec PyProof.Rows L2 SfG
def topS (i : Nat) : Stmt := PySem.Challenge.pw_sameface_k07_whole_called_otherwise.main.body.getD i (.Pass ⟨0, 0, 0, 0⟩)
abbrev sName : Stmt := topS 8
abbrev sNextN : Stmt := topS 9
abbrev sFigs : Stmt := topS 10
abbrev sNum : Stmt := topS 11
abbrev sWords : Stmt := topS 12
abbrev sKind : Stmt := topS 15
abbrev sBadD : Stmt := topS 16
abbrev sAreT : Stmt := topS 17
abbrev sBadH : Stmt := topS 18
abbrev sFault : Stmt := topS 19
abbrev sIsF : Stmt := topS 20
abbrev sNeed : Stmt := topS 21
abbrev sHidOf : Stmt := topS 22
abbrev sNamOf : Stmt := topS 23
abbrev sFind : Stmt := topS 24
abbrev sDeedN : Stmt := topS 25
abbrev sTakes : Stmt := topS 26
abbrev sGives : Stmt := topS 27
abbrev sRowsOf : Stmt := topS 29
abbrev sRowAt : Stmt := topS 30
abbrev sNoMore : Stmt := topS 31
abbrev sRow : Stmt := topS 32
abbrev sDeedRow : Stmt := topS 34
abbrev sFaceRows : Stmt := topS 35
abbrev sFaceText : Stmt := topS 36
abbrev sReadH : Stmt := topS 37
abbrev sKindBy : Stmt := topS 38
abbrev sReadT : Stmt := topS 39
abbrev sReadD : Stmt := topS 40
abbrev sReadFB : Stmt := topS 41
abbrev sReadF : Stmt := topS 42
abbrev sMixed : Stmt := topS 44
abbrev sDraw : Stmt := topS 45
abbrev sDigit : Stmt := topS 46
abbrev sNames : Stmt := topS 47
abbrev sLKind : Stmt := topS 48
abbrev sFace : Stmt := topS 49
abbrev sCalled : Stmt := topS 50
abbrev sSame : Stmt := topS 51
abbrev sLaw : Stmt := topS 52
end SfC
namespace SfC
open PySem PySem.Spec PyProof.Rows L2 SfG
/-! ### names -/
abbrev letters : Str := "abcdefghijklmnopqrstuvwxyz"
def isLet (c : Nat) : Bool := decide (c ∈ letters.cps.toList)
/-- one to eight small letters -/
def isN (z : Str) : Bool := decide (z.length ≤ 8) && (decide (1 ≤ z.length) && z.cps.toList.all isLet)
theorem let_alpha : ∀ c, c < 128 → Unicode.isAlpha c = (isLet c || (Unicode.isUpper c || Unicode.isTitle c)) := by decide +kernel
theorem let_lower : ∀ c, c < 128 → Unicode.isLower c = isLet c := by decide +kernel
theorem let_upper : ∀ c, c < 128 → isLet c = true → (Unicode.isUpper c || Unicode.isTitle c) = false := by decide +kernel
theorem let_range {c : Nat} (h : isLet c = true) : c < 128 := by
  have h' : c ∈ letters.cps.toList := of_decide_eq_true h
  have e : ∀ d ∈ letters.cps.toList, d < 128 := by decide +kernel
  exact e c h'
theorem name_list : ∀ l : List Nat, (∀ c ∈ l, c < 128) → (l.all Unicode.isAlpha && !(l.any fun c => Unicode.isUpper c || Unicode.isTitle c)) = l.all isLet
  | [], _ => rfl
  | a :: r, h => by
    have ih := name_list r fun c hc => h c (.tail _ hc)
    have ha := h a (.head _)
    rw [List.all_cons, List.any_cons, List.all_cons, ← ih, let_alpha a ha]
    cases hl : isLet a with
    | true =>
      rw [let_upper a ha hl]
      simp
    | false =>
      cases (Unicode.isUpper a || Unicode.isTitle a) <;> simp
theorem name_txt (z : Str) : (Txt.isalpha z && (Txt.islower z && Txt.isascii z)) = (decide (1 ≤ z.length) && z.cps.toList.all isLet) := by
  have hl : z.length = z.cps.toList.length := by simp [Str.length]
  unfold Txt.isalpha Txt.islower Txt.isascii
  rw [← Array.all_toList, ← Array.any_toList, ← Array.any_toList, ← Array.all_toList, hl]
  generalize z.cps.toList = l
  by_cases hc : ∀ c ∈ l, c < 128
  · have h1 : (l.all fun x => decide (x < 128)) = true := List.all_eq_true.mpr fun c h => decide_eq_true (hc c h)
    have e := name_list l hc
    rw [h1, ← e]
    cases l with
    | nil => rfl
    | cons a r =>
      have h2 : (decide ((a :: r).length > 0)) = true := decide_eq_true (by simp)
      have h3 : (decide (1 ≤ (a :: r).length)) = true := decide_eq_true (by simp)
      rw [h2, h3]
      cases hA : (a :: r).all isLet with
      | true =>
        rw [hA] at e
        have hla : isLet a = true := by
          rw [List.all_cons] at hA
          exact (Bool.and_eq_true_iff.mp hA).1
        have hlow : (a :: r).any Unicode.isLower = true := by
          rw [List.any_cons, let_lower a (hc a (.head _)), hla]
          rfl
        rw [hlow]
        simp
      | false =>
        rw [hA] at e
        rw [e]
        cases h4 : (a :: r).all Unicode.isAlpha with
        | false => rfl
        | true =>
          rw [h4] at e
          cases h5 : (a :: r).any fun c => Unicode.isUpper c || Unicode.isTitle c with
          | true => simp
          | false =>
            rw [h5] at e
            cases e
  · have h1 : (l.all fun x => decide (x < 128)) = false := by
      cases h : (l.all fun x => decide (x < 128)) with
      | false => rfl
      | true => exact absurd (fun c hc' => of_decide_eq_true (List.all_eq_true.mp h c hc')) hc
    have h2 : l.all isLet = false := by
      cases h : l.all isLet with
      | false => rfl
      | true => exact absurd (fun c hc' => let_range (List.all_eq_true.mp h c hc')) hc
    rw [h1, h2]
    simp
theorem isN_txt {z : Str} (h : isN z = true) : z.length ≤ 8 ∧ 1 ≤ z.length ∧ Txt.isalpha z = true ∧ Txt.islower z = true ∧ Txt.isascii z = true ∧ z.cps.toList.all isLet = true := by
  unfold isN at h
  rw [← name_txt, Bool.and_eq_true, Bool.and_eq_true, Bool.and_eq_true, decide_eq_true_eq] at h
  have e := name_txt z
  rw [h.2.1, h.2.2.1, h.2.2.2] at e
  have e' := e.symm
  rw [Bool.and_true, Bool.and_true, Bool.and_eq_true, decide_eq_true_eq] at e'
  exact ⟨h.1, e'.1, h.2.1, h.2.2.1, h.2.2.2, e'.2⟩
theorem isN_small {z : Str} (h : isN z = true) : z.length ≤ sizeLine := by
  have h1 := (isN_txt h).1
  rw [sizeLine_eq]
  omega
/-! ### faces -/
abbrev lt (a b : Str) : Prop := a.cps.toList < b.cps.toList
inductive Kn where
  | h (s : Str)
  | p (n : Int)
def Kn.d : Kn → PyData
  | .h s => .str s
  | .p n => .int n
def Kn.v : Kn → V
  | .h s => .str s
  | .p n => .int n
def Kn.isH : Kn → Bool
  | .h _ => true
  | .p _ => false
structure De where
  nm : Str
  tk : List Kn
  gv : Kn
structure Fc where
  hd : List Str
  ds : List De
def De.d (e : De) : PyData := .tuple [.str e.nm, .tuple (e.tk.map Kn.d), e.gv.d]
def Fc.d (f : Fc) : PyData := .tuple [.tuple (f.hd.map .str), .tuple (f.ds.map De.d)]
def goK (hd : List Str) : Kn → Prop
  | .h s => s ∈ hd
  | .p n => 2 ≤ n ∧ n ≤ 9
def hidN (tk : List Kn) : Nat := (tk.filter Kn.isH).length
structure goD (hd : List Str) (e : De) : Prop where
  nm : isN e.nm = true
  len : e.tk.length ≤ 3
  tk : ∀ k ∈ e.tk, goK hd k
  two : hidN e.tk ≤ 2
  gv : goK hd e.gv
structure goH (hd : List Str) : Prop where
  lo : 1 ≤ hd.length
  hi : hd.length ≤ 2
  nm : ∀ z ∈ hd, isN z = true
  up : hd.Pairwise lt
structure goF (f : Fc) : Prop where
  hid : goH f.hd
  lo : 1 ≤ f.ds.length
  hi : f.ds.length ≤ 8
  up : (f.ds.map De.nm).Pairwise lt
  ok : ∀ e ∈ f.ds, goD f.hd e
/-- the name ahead of the i-th -/
def ahd (l : List Str) (i : Nat) : Str := if i = 0 then "" else l.getD (i - 1) ""
theorem ahd_lt {l : List Str} (up : l.Pairwise lt) (hn : ∀ z ∈ l, isN z = true) {i : Nat} {z : Str} (hz : l[i]? = some z) : lt (ahd l i) z := by
  unfold ahd
  by_cases h0 : i = 0
  · rw [if_pos h0]
    have h1 := (isN_txt (hn z (List.mem_of_getElem? hz))).2.1
    have hl : z.length = z.cps.toList.length := by simp [Str.length]
    show (([] : List Nat) < z.cps.toList)
    cases hc : z.cps.toList with
    | nil =>
      rw [hl, hc] at h1
      exact absurd h1 (by simp)
    | cons a r => exact List.nil_lt_cons a r
  · rw [if_neg h0]
    have hi : i < l.length := by
      rcases Nat.lt_or_ge i l.length with h | h
      · exact h
      · rw [List.getElem?_eq_none h] at hz
        cases hz
    have e1 : l.getD (i - 1) "" = l[i - 1] := by
      rw [List.getD_eq_getElem?_getD, List.getElem?_eq_getElem (by omega)]
      rfl
    have e2 : z = l[i] := by
      rw [List.getElem?_eq_getElem hi] at hz
      exact (Option.some.inj hz).symm
    rw [e1, e2]
    exact List.pairwise_iff_getElem.mp up (i - 1) i (by omega) hi (by omega)
theorem ahd_succ {l : List Str} {i : Nat} {z : Str} (hz : l[i]? = some z) : ahd l (i + 1) = z := by
  unfold ahd
  rw [if_neg (by omega), List.getD_eq_getElem?_getD, Nat.add_sub_cancel, hz]
  rfl
theorem inV_mem {s : Str} {l : List Str} (h : s ∈ l) : inV (.str s) (l.map V.str) = true := by
  unfold inV
  rw [List.any_map]
  exact List.any_eq_true.mpr ⟨s, h, by simp [eqV]⟩
theorem flat_strs (l : List Str) : (l.map V.str).all flatV = true := by
  rw [List.all_map]
  exact List.all_eq_true.mpr fun _ _ => rfl
section
variable {P : Program} {w : World} {K : PySem.W.Frag} {mg : Str → Option Value} {base : Heap}
theorem is_kn {H : Hp} (k : Kn) : Is K H k.v (match k with | .h _ => "str" | .p _ => "int") := by
  cases k with
  | h s => exact is_str s
  | p n => exact is_int n
theorem dp_kn {H : Hp} {v : V} {k : Kn} (h : Dp K H v k.d) : v = k.v := by
  cases k with
  | h s => exact dp_str h
  | p n => exact dp_int h
theorem dpA_strs {H : Hp} : ∀ {l : List Str} {xs : List V}, DpAll K H xs (l.map PyData.str) → xs = l.map V.str
  | [], _, h => dpA_nil h
  | a :: r, _, h => by
    obtain ⟨x, t, rfl, hx, ht⟩ := dpA_cons h
    rw [dp_str hx, dpA_strs ht]
    rfl
theorem dpA_kns {H : Hp} : ∀ {l : List Kn} {xs : List V}, DpAll K H xs (l.map Kn.d) → xs = l.map Kn.v
  | [], _, h => dpA_nil h
  | a :: r, _, h => by
    obtain ⟨x, t, rfl, hx, ht⟩ := dpA_cons h
    rw [dp_kn hx, dpA_kns ht]
    rfl
/-! ### is_name, is_kind, first_bad_hidden -/
theorem scName : FnScope ["thing"] ["thing"] (defScope sName) := ⟨rfl, rfl, rfl, by decide +kernel, rfl, by decide +kernel, by decide +kernel⟩
theorem scKind : FnScope ["thing", "hidden"] ["thing", "hidden"] (defScope sKind) := ⟨rfl, rfl, rfl, by decide +kernel, rfl, by decide +kernel, by decide +kernel⟩
abbrev nBadH : List Str := ["hidden", "ahead", "number", "name"]
theorem scBadH : FnScope nBadH ["hidden"] (defScope sBadH) := ⟨rfl, rfl, rfl, by decide +kernel, rfl, by decide +kernel, by decide +kernel⟩
def spName : Sp := fun vs H Q _ => ∃ z : Str, vs = [.str z] ∧ isN z = true ∧ Q (.bl true) H
theorem ok_name {f : Addr} {fd : FuncData} {k : Nat} (F : Fun K "is_name" "is_name" sName f fd) (mi : mg "isinstance" = none) (m1 : mg "str" = none) (ml : mg "len" = none) :
    FnOk P w K mg base CX0 (k + 1) f fd ["thing"] spName := by
  refine F.ok scName (fun vs H Q E h => ?_) (fun cdv A outer s H vs Q E hr h => ?_)
  · obtain ⟨z, rfl, _⟩ := h
    rfl
  · obtain ⟨z, rfl, hz, q⟩ := h
    obtain ⟨h8, h1, ha, hlo, has, _⟩ := isN_txt hz
    refine ⟨_, pss_one (ps_ret (pe_and (pe_isi "str" 0 mi m1 (by decide +kernel))
      (pe_and (pe_cmpR op_le (pe_callB call_len_str (by rfl) ml PySem.boot_len (pa_cons (pv 0) pa_nil)) pe_int (nomark _))
      (pe_and (pe_m0 PySem.F.slot_str_isalpha PySem.F.type_str_isalpha mt_isalpha (pv 0))
      (pe_and (pe_m0 PySem.F.slot_str_islower PySem.F.type_str_islower mt_islower (pv 0))
      (pe_one (pe_m0 PySem.F.slot_str_isascii PySem.F.type_str_isascii mt_isascii (pv 0)))))))), ?_⟩
    refine ⟨_, rfl, "str", _, (is_str z).1, by decide +kernel, _, rfl, iteT ⟨_, rfl, z, rfl, isN_small hz, _, 8, rfl, rfl, _, rfl, ?_⟩⟩
    rw [decide_eq_true (show (z.length : Int) ≤ 8 by omega)]
    refine iteT ⟨_, rfl, ⟨z, rfl⟩, z, rfl, rfl, trivial, _, rfl, ?_⟩
    rw [ha]
    refine iteT ⟨_, rfl, ⟨z, rfl⟩, z, rfl, rfl, trivial, _, rfl, ?_⟩
    rw [hlo]
    refine iteT ⟨_, rfl, ⟨z, rfl⟩, z, rfl, rfl, trivial, ?_⟩
    rw [has]
    exact q
def spKind (K : PySem.W.Frag) : Sp := fun vs H Q _ => ∃ (k : Kn) (hd : List Str) (p : Addr), vs = [k.v, .ref p] ∧ SqT K H p (hd.map V.str) ∧ goK hd k ∧ Q (.bl true) H
theorem ok_kind {f : Addr} {fd : FuncData} {k : Nat} (F : Fun K "is_kind" "is_kind" sKind f fd) (mi : mg "isinstance" = none) (m1 : mg "str" = none) (m2 : mg "int" = none) :
    FnOk P w K mg base CX0 (k + 1) f fd ["thing", "hidden"] (spKind K) := by
  refine F.ok scKind (fun vs H Q E h => ?_) (fun cdv A outer s H vs Q E hr h => ?_)
  · obtain ⟨k, hd, p, rfl, _⟩ := h
    rfl
  · obtain ⟨k, hd, p, rfl, hp, hk, q⟩ := h
    refine ⟨_, pss_cons (ps_if (pt_val (pe_isi "str" 0 mi m1 (by decide +kernel))) (pss_one (ps_ret (pe_cmpR op_in_seq (pv 0) (pv 1) rfl))) pss_nil)
      (pss_one (ps_ret (pe_and (pe_isi "int" 0 mi m2 (by decide +kernel)) (pe_one (pe_chain op_le op_le pe_int (pv 0) pe_int))))), ?_⟩
    cases k with
    | h s =>
      refine ⟨_, rfl, "str", _, (is_str s).1, by decide +kernel, _, rfl, iteT ⟨_, rfl, _, rfl, p, _, rfl, .inr hp, rfl, flat_strs hd, ?_⟩⟩
      rw [show inV (Kn.v (.h s)) (hd.map V.str) = true from inV_mem hk]
      exact q
    | p n =>
      obtain ⟨h2, h9⟩ := hk
      refine ⟨_, rfl, "int", false, (is_int n).1, by decide +kernel, _, rfl, iteF ⟨_, rfl, "int", true, (is_int n).1, by decide +kernel, _, rfl, iteT ⟨_, rfl, 2, n, rfl, rfl, _, rfl, ?_⟩⟩⟩
      rw [decide_eq_true h2]
      refine iteT ⟨n, 9, rfl, rfl, ?_⟩
      show Q (.bl (decide (n ≤ 9))) H
      rw [decide_eq_true h9]
      exact q
def spBadH (K : PySem.W.Frag) : Sp := fun vs H Q _ => ∃ (hd : List Str) (p : Addr), vs = [.ref p] ∧ SqT K H p (hd.map V.str) ∧ (∀ z ∈ hd, isN z = true) ∧ hd.Pairwise lt ∧ ∀ H', Gr H H' → Q .non H'
theorem ok_badH {f fN : Addr} {fd fdN : FuncData} {k : Nat} (F : Fun K "first_bad_hidden" "first_bad_hidden" sBadH f fd) (HN : Has P w K mg base (k + 1) "is_name" ["thing"] spName fN fdN) (me : mg "enumerate" = none) :
    FnOk P w K mg base CX0 (k + 2) f fd ["hidden"] (spBadH K) := by
  refine F.ok scBadH (fun vs H Q E h => ?_) (fun cdv A outer s H vs Q E hr h => ?_)
  · obtain ⟨hd, p, rfl, _⟩ := h
    rfl
  · obtain ⟨hd, p, rfl, hp, hn, up, q⟩ := h
    have nd := scBadH.nd
    refine' ⟨_, pss_cons (ps_set (i := 1) nd rfl (.inl rfl) pe_str) (pss_cons (ps_for PassesOwn.never rfl (pi_enumT (by rfl) me (pa_cons (pv 0) pa_nil))
        (pg_tup rfl (pgs_cons (pg_name (i := 2) nd rfl (.inl rfl)) (pgs_cons (pg_name (i := 3) nd rfl (.inl rfl)) pgs_nil)))
        (pss_cons (ps_if (PW.pt (pw_or (pt_not (pt_val (hcall HN hr (pa_cons (pv 3) pa_nil)))) (pw_or1 (pt_cmpR op_le_str (pv 3) (pv 1) (nomark _))))) (pss_one (ps_ret (pv 2))) pss_nil)
        (pss_one (ps_set (i := 1) nd rfl (.inl rfl) (pv 3))))) (pss_one (ps_ret pe_non))), ?rd⟩
    case rd =>
    refine ⟨_, rfl, p, _, rfl, hp, for_it (walk_enumT (xs := hd.map V.str)) (fun i σ H1 => ∃ y2 y3 : Option V, σ = [some (.ref p), some (.str (ahd hd i)), y2, y3] ∧ Gr H H1) ⟨none, none, rfl, Gr.refl H⟩ ?h1 ?h2 ?h3⟩
    case h1 =>
      rintro i σ H1 hi ⟨y2, y3, rfl, g⟩
      exact g.sqt hp
    case h2 =>
      rintro i x σ H1 H2 hi ⟨y2, y3, rfl, g⟩ ⟨T, a, b, rfl, nT, rfl, ha, hb⟩
      cases ha
      rw [show (fun i : Nat => (hd.map V.str)[i]?) i = (hd.map V.str)[i]? from rfl, List.getElem?_map] at hb
      obtain ⟨z, hz, rfl⟩ := Option.map_eq_some_iff.mp hb
      have gz := hn z (List.mem_of_getElem? hz)
      have lz := ahd_lt up hn hz
      refine ⟨T, [.int (i : Nat), .str z], rfl, .inl (.inl upd_same), rfl, .int (i : Nat), [.str z], rfl, .str z, [], rfl, rfl, ?_⟩
      refine ⟨_, rfl, z, rfl, gz, _, rfl, iteF ⟨_, rfl, _, rfl, z, _, rfl, rfl, _, rfl, ?_⟩⟩
      rw [decide_eq_true lz]
      refine iteF ⟨_, rfl, ?_⟩
      show ∃ y2 y3 : Option V, _ = [some (.ref p), some (.str (ahd hd (i + 1))), y2, y3] ∧ _
      rw [ahd_succ hz]
      exact ⟨_, _, rfl, g.trans (Gr.new nT)⟩
    case h3 =>
      rintro σ H1 ⟨y2, y3, rfl, g⟩
      exact q H1 g
end
end SfC
namespace SfC
open PySem PySem.Spec PyProof.Rows L2 SfG
abbrev nBadD : List Str := ["deeds", "hidden", "ahead", "number", "deed", "name", "takes", "gives", "many", "kind"]
theorem scBadD : FnScope nBadD ["deeds", "hidden"] (defScope sBadD) := ⟨rfl, rfl, rfl, by decide +kernel, rfl, by decide +kernel, by decide +kernel⟩
theorem dpA_de {K : PySem.W.Frag} {H : Hp} {xs : List V} {es : List De} (h : DpAll K H xs (es.map De.d)) {i : Nat} {x : V} (hx : xs[i]? = some x) : ∃ e, es[i]? = some e ∧ Dp K H x e.d := by
  have hl := dpA_len h
  rw [List.length_map] at hl
  have hi : i < xs.length := by
    rcases Nat.lt_or_ge i xs.length with h1 | h1
    · exact h1
    · rw [List.getElem?_eq_none h1] at hx
      cases hx
  have hi' : i < es.length := by omega
  obtain ⟨y, hy, hd⟩ := dpA_get (i := i) (d := (es[i]).d) h (by simp [hi'])
  rw [hx] at hy
  cases hy
  exact ⟨es[i], by simp [hi'], hd⟩
theorem hidN_snoc (tk : List Kn) (k : Kn) : hidN (tk ++ [k]) = hidN tk + (if k.isH then 1 else 0) := by
  unfold hidN
  rw [List.filter_append, List.length_append]
  cases h : k.isH <;> simp [h]
theorem hidN_take {tk : List Kn} {i : Nat} {k : Kn} (h : tk[i]? = some k) : hidN (tk.take (i + 1)) = hidN (tk.take i) + (if k.isH then 1 else 0) := by
  rw [List.take_add_one, h]
  exact hidN_snoc _ k
section
variable {P : Program} {w : World} {K : PySem.W.Frag} {mg : Str → Option Value} {base : Heap}
def spBadD (K : PySem.W.Frag) : Sp := fun vs H Q _ => ∃ (es : List De) (hd : List Str) (x : V) (p : Addr), vs = [x, .ref p] ∧ Dp K H x (.tuple (es.map De.d)) ∧ SqT K H p (hd.map V.str) ∧ (es.map De.nm).Pairwise lt ∧ (∀ e ∈ es, goD hd e) ∧ ∀ H', Gr H H' → Q .non H'
set_option maxHeartbeats 1000000 in
theorem ok_badD {f fK : Addr} {fd fdK : FuncData} {k : Nat} (F : Fun K "first_bad_deed" "first_bad_deed" sBadD f fd) (HK : Has P w K mg base (k + 1) "is_kind" ["thing", "hidden"] (spKind K) fK fdK)
    (me : mg "enumerate" = none) (mi : mg "isinstance" = none) (m1 : mg "str" = none) (m2 : mg "int" = none) (m3 : mg "tuple" = none) (ml : mg "len" = none) :
    FnOk P w K mg base CX0 (k + 2) f fd ["deeds", "hidden"] (spBadD K) := by
  refine F.ok scBadD (fun vs H Q E h => ?_) (fun cdv A outer s H vs Q E hr h => ?_)
  · obtain ⟨es, hd, x, p, rfl, _⟩ := h
    rfl
  · obtain ⟨es, hd, x, p, rfl, hx, hp, up, ok, q⟩ := h
    have nd := scBadD.nd
    refine' ⟨_, pss_cons (ps_set (i := 2) nd rfl (.inl rfl) pe_str) (pss_cons (ps_for PassesOwn.never rfl (pi_enumT (by rfl) me (pa_cons (pv 0) pa_nil))
        (pg_tup rfl (pgs_cons (pg_name (i := 3) nd rfl (.inl rfl)) (pgs_cons (pg_name (i := 4) nd rfl (.inl rfl)) pgs_nil)))
        (pss_cons ?b1 (pss_cons ?b2 (pss_cons ?b3 (pss_cons ?b4 (pss_cons ?b5 (pss_cons ?b6 (pss_cons ?b7 (pss_cons ?b8 (pss_one ?b9)))))))))) (pss_one (ps_ret pe_non))), ?rd⟩
    case b1 =>
      exact ps_if (PW.pt (pw_or (pt_not (pt_val (pe_isi "tuple" 4 mi m3 (by decide +kernel)))) (pw_or1 (pt_cmpR op_ne (pe_callB call_len_seq (by rfl) ml PySem.boot_len (pa_cons (pv 4) pa_nil)) pe_int (nomark _))))) (pss_one (ps_ret (pv 3))) pss_nil
    case b2 =>
      exact ps_asg (pv 4) (pg_tup rfl (pgs_cons (pg_name (i := 5) nd rfl (.inl rfl)) (pgs_cons (pg_name (i := 6) nd rfl (.inl rfl)) (pgs_cons (pg_name (i := 7) nd rfl (.inl rfl)) pgs_nil))))
    case b3 =>
      exact ps_if (PW.pt (pw_or (pt_not (pt_val (pe_isi "str" 5 mi m1 (by decide +kernel)))) (pw_or (pt_cmpR op_gt (pe_callB call_len_str (by rfl) ml PySem.boot_len (pa_cons (pv 5) pa_nil)) pe_int (nomark _)) (pw_or1 (pt_cmpR op_le_str (pv 5) (pv 2) (nomark _)))))) (pss_one (ps_ret (pv 3))) pss_nil
    case b4 =>
      exact ps_if (PW.pt (pw_or (pt_not (pt_val (pe_m0 PySem.F.slot_str_isalpha PySem.F.type_str_isalpha mt_isalpha (pv 5)))) (pw_or (pt_not (pt_val (pe_m0 PySem.F.slot_str_islower PySem.F.type_str_islower mt_islower (pv 5)))) (pw_or1 (pt_not (pt_val (pe_m0 PySem.F.slot_str_isascii PySem.F.type_str_isascii mt_isascii (pv 5)))))))) (pss_one (ps_ret (pv 3))) pss_nil
    case b5 =>
      exact ps_if (PW.pt (pw_or (pt_not (pt_val (pe_isi "tuple" 6 mi m3 (by decide +kernel)))) (pw_or (pt_cmpR op_gt (pe_callB call_len_seq (by rfl) ml PySem.boot_len (pa_cons (pv 6) pa_nil)) pe_int (nomark _)) (pw_or1 (pt_not (pt_val (hcall HK hr (pa_cons (pv 7) (pa_cons (pv 1) pa_nil))))))))) (pss_one (ps_ret (pv 3))) pss_nil
    case b6 =>
      exact ps_set (i := 8) nd rfl (.inl rfl) pe_int
    case b7 =>
      refine' ps_for PassesOwn.never rfl (pi_tup (pv 6)) (pg_name (i := 9) nd rfl (.inl rfl)) (pss_one (ps_if (pt_val (pe_isi "str" 9 mi m1 (by decide +kernel))) (pss_cons ?c1 (pss_one ?c2)) (pss_one ?c3)))
      case c1 => exact ps_if (pt_cmpR op_notIn_seq (pv 9) (pv 1) rfl) (pss_one (ps_ret (pv 3))) pss_nil
      case c2 => exact ps_aug (i := 8) nd rfl (.inl rfl) pe_int ip_add
      case c3 => exact ps_if (PW.pt (pw_or (pt_not (pt_val (pe_isi "int" 9 mi m2 (by decide +kernel)))) (pw_or1 (pt_not (pt_chain op_le op_le pe_int (pv 9) pe_int))))) (pss_one (ps_ret (pv 3))) pss_nil
    case b8 =>
      exact ps_if (pt_cmpR op_gt (pv 8) pe_int (nomark _)) (pss_one (ps_ret (pv 3))) pss_nil
    case b9 =>
      exact ps_set (i := 2) nd rfl (.inl rfl) (pv 5)
    case rd =>
    obtain ⟨pd, xs, rfl, hpd, hxs⟩ := dp_tup hx
    refine ⟨_, rfl, pd, xs, rfl, hpd, for_it (walk_enumT (xs := xs)) (fun i σ H1 => ∃ y3 y4 y5 y6 y7 y8 y9 : Option V, σ = [some (.ref pd), some (.ref p), some (.str (ahd (es.map De.nm) i)), y3, y4, y5, y6, y7, y8, y9] ∧ Gr H H1) ⟨none, none, none, none, none, none, none, rfl, Gr.refl H⟩ ?h1 ?h2 ?h3⟩
    case h1 =>
      rintro i σ H1 hi ⟨y3, y4, y5, y6, y7, y8, y9, rfl, g⟩
      exact g.sqt hpd
    case h3 =>
      rintro σ H1 ⟨y3, y4, y5, y6, y7, y8, y9, rfl, g⟩
      exact q H1 g
    case h2 =>
      rintro i x σ H1 H2 hi ⟨y3, y4, y5, y6, y7, y8, y9, rfl, g⟩ ⟨T, a, b, rfl, nT, rfl, ha, hb⟩
      cases ha
      obtain ⟨e, he, de⟩ := dpA_de hxs hb
      have gd := ok e (List.mem_of_getElem? he)
      have hne : (es.map De.nm)[i]? = some e.nm := by rw [List.getElem?_map, he]; rfl
      have lz := ahd_lt up (fun z hz => by obtain ⟨e', h1, rfl⟩ := List.mem_map.mp hz; exact (ok e' h1).nm) hne
      have g2 : Gr H (upd H1 T (.tup [.int (i : Nat), b])) := g.trans (Gr.new nT)
      have hT : upd H1 T (.tup [.int (i : Nat), b]) T = some (.tup [.int (i : Nat), b]) := upd_same
      generalize upd H1 T (.tup [.int (i : Nat), b]) = H2 at g2 hT ⊢
      have de2 := g2.kd.dp de
      obtain ⟨pe, n1, t1, v1, rfl, hpe, dn, dt, dv⟩ := dp_3 de2
      cases dp_str dn
      cases dp_kn dv
      obtain ⟨pt, ts, rfl, hpt, hts⟩ := dp_tup dt
      cases dpA_kns hts
      have hp2 := g2.sqt hp
      obtain ⟨h8, h1, hal, hlo, has, _⟩ := isN_txt gd.nm
      refine ⟨T, _, rfl, .inl (.inl hT), rfl, .int (i : Nat), [.ref pe], rfl, .ref pe, [], rfl, rfl, ?_⟩
      -- a tuple of three
      refine ⟨_, rfl, "tuple", true, tyx_tup hpe, by decide +kernel, _, rfl, iteF ⟨_, rfl, pe, _, rfl, .inr hpe, rfl, _, rfl, iteF ?_⟩⟩
      refine ⟨_, rfl, pe, _, rfl, hpe, rfl, _, _, rfl, _, _, rfl, _, _, rfl, rfl, ?_⟩
      -- its name
      refine ⟨_, rfl, "str", true, (is_str e.nm).1, by decide +kernel, _, rfl, iteF ⟨_, rfl, _, rfl, isN_small gd.nm, _, 8, rfl, rfl, _, rfl, ?_⟩⟩
      rw [decide_eq_false (show ¬ (e.nm.length : Int) > 8 by omega)]
      refine iteF ⟨_, rfl, _, rfl, e.nm, _, rfl, rfl, _, rfl, ?_⟩
      rw [decide_eq_true lz]
      refine iteF ⟨_, rfl, ⟨_, rfl⟩, e.nm, rfl, rfl, trivial, _, rfl, ?_⟩
      rw [hal]
      refine iteF ⟨_, rfl, ⟨_, rfl⟩, e.nm, rfl, rfl, trivial, _, rfl, ?_⟩
      rw [hlo]
      refine iteF ⟨_, rfl, ⟨_, rfl⟩, e.nm, rfl, rfl, trivial, _, rfl, ?_⟩
      rw [has]
      refine iteF ?_
      -- what it takes and gives
      refine ⟨_, rfl, "tuple", true, tyx_tup hpt, by decide +kernel, _, rfl, iteF ⟨_, rfl, pt, _, rfl, .inr hpt, _, 3, rfl, rfl, _, rfl, ?_⟩⟩
      rw [List.length_map, decide_eq_false (show ¬ ((e.tk.length : Nat) : Int) > 3 by have := gd.len; omega)]
      refine iteF ⟨_, rfl, _, rfl, e.gv, hd, p, rfl, hp2, gd.gv, _, rfl, iteF ?_⟩
      refine ⟨_, rfl, pt, rfl, ⟨_, hpt⟩, for_it (walk_tup (xs := e.tk.map Kn.v)) (fun j σ H3 => ∃ y9 : Option V, σ = [some (.ref pd), some (.ref p), some (.str (ahd (es.map De.nm) i)), some (.int (i : Nat)), some (.ref pe), some (.str e.nm), some (.ref pt), some e.gv.v, some (.int (hidN (e.tk.take j))), y9] ∧ H3 = H2) ⟨_, rfl, rfl⟩ ?i1 ?i2 ?i3⟩
      case i1 =>
        rintro j σ H3 hj ⟨y, rfl, rfl⟩
        exact hpt
      case i2 =>
        rintro j x σ H3 H4 hj ⟨y, rfl, rfl⟩ ⟨rfl, hx⟩
        rw [List.getElem?_map] at hx
        obtain ⟨kn, hkn, rfl⟩ := Option.map_eq_some_iff.mp hx
        have gk := gd.tk kn (List.mem_of_getElem? hkn)
        have ht := hidN_take hkn
        cases kn with
        | h z =>
          refine ⟨_, rfl, "str", true, (is_str z).1, by decide +kernel, _, rfl, iteT ⟨_, rfl, _, rfl, p, _, rfl, .inr hp2, rfl, flat_strs hd, _, rfl, ?_⟩⟩
          rw [show inV (Kn.v (.h z)) (hd.map V.str) = true from inV_mem gk]
          refine iteF ⟨_, rfl, _, 1, rfl, rfl, ?_⟩
          show ∃ y9 : Option V, _ = [some (.ref pd), some (.ref p), some (.str (ahd (es.map De.nm) i)), some (.int (i : Nat)), some (.ref pe), some (.str e.nm), some (.ref pt), some e.gv.v, some (.int (hidN (e.tk.take (j + 1)))), y9] ∧ _
          rw [ht]
          exact ⟨_, rfl, rfl⟩
        | p n =>
          obtain ⟨k2, k9⟩ := gk
          refine ⟨_, rfl, "int", false, (is_int n).1, by decide +kernel, _, rfl, iteF ⟨_, rfl, "int", true, (is_int n).1, by decide +kernel, _, rfl, iteF ⟨_, rfl, 2, n, rfl, rfl, _, rfl, ?_⟩⟩⟩
          rw [decide_eq_true k2]
          refine iteT ⟨n, 9, rfl, rfl, _, rfl, ?_⟩
          rw [decide_eq_true k9]
          refine iteF ?_
          show ∃ y9 : Option V, _ = [some (.ref pd), some (.ref p), some (.str (ahd (es.map De.nm) i)), some (.int (i : Nat)), some (.ref pe), some (.str e.nm), some (.ref pt), some e.gv.v, some (.int (hidN (e.tk.take (j + 1)))), y9] ∧ _
          rw [ht]
          exact ⟨_, rfl, rfl⟩
      case i3 =>
        rintro σ H3 ⟨y, rfl, rfl⟩
        rw [List.length_map, List.take_length]
        refine ⟨_, rfl, _, 2, rfl, rfl, _, rfl, ?_⟩
        rw [decide_eq_false (show ¬ ((hidN e.tk : Nat) : Int) > 2 by have := gd.two; omega)]
        refine iteF ⟨_, rfl, ?_⟩
        show ∃ y3 y4 y5 y6 y7 y8 y9 : Option V, _ = [some (.ref pd), some (.ref p), some (.str (ahd (es.map De.nm) (i + 1))), y3, y4, y5, y6, y7, y8, y9] ∧ _
        rw [ahd_succ hne]
        exact ⟨_, _, _, _, _, _, _, rfl, g2⟩
end
end SfC
namespace SfC
open PySem PySem.Spec PyProof.Rows L2 SfG
theorem scFault : FnScope ["thing", "hidden", "deeds", "number"] ["thing"] (defScope sFault) := ⟨rfl, rfl, rfl, by decide +kernel, rfl, by decide +kernel, by decide +kernel⟩
theorem scNeed : FnScope ["face", "fault", "part", "number"] ["face"] (defScope sNeed) := ⟨rfl, rfl, rfl, by decide +kernel, rfl, by decide +kernel, by decide +kernel⟩
/-- a face in the heap, opened -/
theorem dp_face {K : PySem.W.Frag} {H : Hp} {x : V} {f : Fc} (h : Dp K H x f.d) : ∃ p ph pd xs, x = .ref p ∧ SqT K H p [.ref ph, .ref pd] ∧ SqT K H ph (f.hd.map V.str) ∧ SqT K H pd xs ∧ DpAll K H xs (f.ds.map De.d) := by
  obtain ⟨p, a, b, rfl, hp, ha, hb⟩ := dp_2 h
  obtain ⟨ph, hs, rfl, hph, dh⟩ := dp_tup ha
  obtain ⟨pd, xs, rfl, hpd, dd⟩ := dp_tup hb
  cases dpA_strs dh
  exact ⟨p, ph, pd, xs, rfl, hp, hph, hpd, dd⟩
section
variable {P : Program} {w : World} {K : PySem.W.Frag} {mg : Str → Option Value} {base : Heap}
def spGood (K : PySem.W.Frag) (r : V) : Sp := fun vs H Q _ => ∃ (x : V) (f : Fc), vs = [x] ∧ Dp K H x f.d ∧ goF f ∧ ∀ H', Gr H H' → Q r H'
theorem ok_fault {f fH fD : Addr} {fd fdH fdD : FuncData} {k : Nat} {t8 : Tok} (F : Fun K "face_fault" "face_fault" sFault f fd) (HH : Has P w K mg base (k + 2) "first_bad_hidden" ["hidden"] (spBadH K) fH fdH)
    (HD : Has P w K mg base (k + 2) "first_bad_deed" ["deeds", "hidden"] (spBadD K) fD fdD) (mi : mg "isinstance" = none) (m3 : mg "tuple" = none) (ml : mg "len" = none) (m8 : mg "MOST_DEEDS" = some (.int 8 t8)) :
    FnOk P w K mg base CX0 (k + 3) f fd ["thing"] (spGood K .non) := by
  refine F.ok scFault (fun vs H Q E h => ?_) (fun cdv A outer s H vs Q E hr h => ?_)
  · obtain ⟨x, f, rfl, _⟩ := h
    rfl
  · obtain ⟨x, f, rfl, hx, go, q⟩ := h
    have nd := scFault.nd
    refine' ⟨_, pss_cons ?s1 (pss_cons ?s2 (pss_cons ?s3 (pss_cons ?s4 (pss_cons ?s5 (pss_cons ?s6 (pss_cons ?s7 (pss_cons ?s8 (pss_one ?s9)))))))), ?rd⟩
    case s1 => exact ps_if (PW.pt (pw_or (pt_not (pt_val (pe_isi "tuple" 0 mi m3 (by decide +kernel)))) (pw_or1 (pt_cmpR op_ne (pe_callB call_len_seq (by rfl) ml PySem.boot_len (pa_cons (pv 0) pa_nil)) pe_int (nomark _))))) pss_never pss_nil
    case s2 => exact ps_asg (pv 0) (pg_tup rfl (pgs_cons (pg_name (i := 1) nd rfl (.inl rfl)) (pgs_cons (pg_name (i := 2) nd rfl (.inl rfl)) pgs_nil)))
    case s3 => exact ps_if (PW.pt (pw_or (pt_not (pt_val (pe_isi "tuple" 1 mi m3 (by decide +kernel)))) (pw_or1 (pt_not (pt_chain op_le op_le pe_int (pe_callB call_len_seq (by rfl) ml PySem.boot_len (pa_cons (pv 1) pa_nil)) pe_int))))) pss_never pss_nil
    case s4 => exact ps_if (PW.pt (pw_or (pt_not (pt_val (pe_isi "tuple" 2 mi m3 (by decide +kernel)))) (pw_or1 (pt_not (pt_chain op_le op_le pe_int (pe_callB call_len_seq (by rfl) ml PySem.boot_len (pa_cons (pv 2) pa_nil)) (pe_glob (v := .int 8) rfl m8 ⟨_, rfl⟩)))))) pss_never pss_nil
    case s5 => exact ps_set (i := 3) nd rfl (.inl rfl) (hcall HH hr (pa_cons (pv 1) pa_nil))
    case s6 => exact ps_if (pt_cmpR op_notN (pv 3) pe_non (nomark _)) pss_never pss_nil
    case s7 => exact ps_set (i := 3) nd rfl (.inl rfl) (hcall HD hr (pa_cons (pv 2) (pa_cons (pv 1) pa_nil)))
    case s8 => exact ps_if (pt_cmpR op_notN (pv 3) pe_non (nomark _)) pss_never pss_nil
    case s9 => exact ps_ret pe_non
    case rd =>
    obtain ⟨p, ph, pd, xs, rfl, hp, hph, hpd, dd⟩ := dp_face hx
    have hl : xs.length = f.ds.length := by
      have := dpA_len dd
      rw [List.length_map] at this
      exact this
    refine ⟨_, rfl, "tuple", true, tyx_tup hp, by decide +kernel, _, rfl, iteF ⟨_, rfl, p, _, rfl, .inr hp, rfl, _, rfl, iteF ?_⟩⟩
    refine ⟨_, rfl, p, _, rfl, hp, rfl, _, _, rfl, _, _, rfl, rfl, ?_⟩
    refine ⟨_, rfl, "tuple", true, tyx_tup hph, by decide +kernel, _, rfl, iteF ⟨_, rfl, ph, _, rfl, .inr hph, 1, _, rfl, rfl, _, rfl, ?_⟩⟩
    have a1 := go.hid.lo
    have a2 := go.hid.hi
    have a3 := go.lo
    have a4 := go.hi
    rw [List.length_map, decide_eq_true (show (1 : Int) ≤ ((f.hd.length : Nat) : Int) by omega)]
    refine iteT ⟨_, 2, rfl, rfl, _, rfl, ?_⟩
    rw [decide_eq_true (show ((f.hd.length : Nat) : Int) ≤ 2 by omega)]
    refine iteF ⟨_, rfl, "tuple", true, tyx_tup hpd, by decide +kernel, _, rfl, iteF ⟨_, rfl, pd, _, rfl, .inr hpd, 1, _, rfl, rfl, _, rfl, ?_⟩⟩
    rw [hl, decide_eq_true (show (1 : Int) ≤ ((f.ds.length : Nat) : Int) by omega)]
    refine iteT ⟨_, 8, rfl, rfl, _, rfl, ?_⟩
    rw [decide_eq_true (show ((f.ds.length : Nat) : Int) ≤ 8 by omega)]
    refine iteF ⟨_, rfl, f.hd, ph, rfl, hph, go.hid.nm, go.hid.up, fun H1 g1 => ?_⟩
    refine ⟨_, rfl, rfl, _, rfl, iteF ?_⟩
    refine ⟨_, rfl, _, rfl, f.ds, f.hd, .ref pd, ph, rfl, .tup (g1.sqt hpd) (g1.kd.dpA dd), g1.sqt hph, go.up, go.ok, fun H2 g2 => ?_⟩
    exact ⟨_, rfl, rfl, _, rfl, iteF (q H2 (g1.trans g2))⟩
theorem ok_need {f fF : Addr} {fd fdF : FuncData} {k : Nat} (F : Fun K "need_face" "need_face" sNeed f fd) (HF : Has P w K mg base (k + 3) "face_fault" ["thing"] (spGood K .non) fF fdF) :
    FnOk P w K mg base CX0 (k + 4) f fd ["face"] (spGood K .non) := by
  refine F.ok scNeed (fun vs H Q E h => ?_) (fun cdv A outer s H vs Q E hr h => ?_)
  · obtain ⟨x, f, rfl, _⟩ := h
    rfl
  · obtain ⟨x, f, rfl, hx, go, q⟩ := h
    refine ⟨_, pss_cons (ps_set (i := 1) scNeed.nd rfl (.inl rfl) (hcall HF hr (pa_cons (pv 0) pa_nil))) (pss_one (ps_if (pt_cmpR op_notN (pv 1) pe_non (nomark _)) pss_never pss_nil)), ?_⟩
    exact ⟨_, rfl, x, f, rfl, hx, go, fun H1 g1 => ⟨_, rfl, rfl, _, rfl, iteF (q H1 g1)⟩⟩
end
end SfC
namespace SfC
open PySem PySem.Spec PyProof.Rows L2 SfG
theorem scIsF : FnScope ["thing"] ["thing"] (defScope sIsF) := ⟨rfl, rfl, rfl, by decide +kernel, rfl, by decide +kernel, by decide +kernel⟩
theorem scHidOf : FnScope ["face"] ["face"] (defScope sHidOf) := ⟨rfl, rfl, rfl, by decide +kernel, rfl, by decide +kernel, by decide +kernel⟩
abbrev nNamOf : List Str := ["face", "deed"]
theorem scNamOf : FnScope nNamOf ["face"] (defScope sNamOf) := ⟨rfl, rfl, rfl, by decide +kernel, rfl, by decide +kernel, by decide +kernel⟩
theorem scFind : FnScope ["face", "name", "number", "deed"] ["face", "name"] (defScope sFind) := ⟨rfl, rfl, rfl, by decide +kernel, rfl, by decide +kernel, by decide +kernel⟩
section
variable {P : Program} {w : World} {K : PySem.W.Frag} {mg : Str → Option Value} {base : Heap}
theorem ok_isF {f fF : Addr} {fd fdF : FuncData} {k : Nat} (F : Fun K "is_face" "is_face" sIsF f fd) (HF : Has P w K mg base (k + 3) "face_fault" ["thing"] (spGood K .non) fF fdF) :
    FnOk P w K mg base CX0 (k + 4) f fd ["thing"] (spGood K (.bl true)) := by
  refine F.ok scIsF (fun vs H Q E h => ?_) (fun cdv A outer s H vs Q E hr h => ?_)
  · obtain ⟨x, f, rfl, _⟩ := h
    rfl
  · obtain ⟨x, f, rfl, hx, go, q⟩ := h
    refine ⟨_, pss_one (ps_ret (pe_cmpR op_isN (hcall HF hr (pa_cons (pv 0) pa_nil)) pe_non (nomark _))), ?_⟩
    exact ⟨_, rfl, x, f, rfl, hx, go, fun H1 g1 => ⟨rfl, q H1 g1⟩⟩
/-- a new list of texts is told -/
def spTold (K : PySem.W.Frag) (l : Fc → List Str) : Sp := fun vs H Q _ => ∃ (x : V) (f : Fc), vs = [x] ∧ Dp K H x f.d ∧ goF f ∧ ∀ H' p, Gr H H' → H p = none → H' p = some (.lst ((l f).map V.str)) → Q (.ref p) H'
theorem ok_hidOf {f fF : Addr} {fd fdF : FuncData} {k : Nat} (F : Fun K "hidden_of" "hidden_of" sHidOf f fd) (HF : Has P w K mg base (k + 4) "need_face" ["face"] (spGood K .non) fF fdF) (ml : mg "list" = none) :
    FnOk P w K mg base CX0 (k + 5) f fd ["face"] (spTold K Fc.hd) := by
  refine F.ok scHidOf (fun vs H Q E h => ?_) (fun cdv A outer s H vs Q E hr h => ?_)
  · obtain ⟨x, f, rfl, _⟩ := h
    rfl
  · obtain ⟨x, f, rfl, hx, go, q⟩ := h
    refine ⟨_, pss_cons (ps_expr (hcall HF hr (pa_cons (pv 0) pa_nil))) (pss_one (ps_ret (pe_callTy call_list_of (by rfl) ml (by decide +kernel) (pa_cons (pe_ix ix_tup (pv 0) pe_int (fun _ _ => rfl)) pa_nil)))), ?_⟩
    refine ⟨_, rfl, x, f, rfl, hx, go, fun H1 g1 => ?_⟩
    obtain ⟨p, ph, pd, xs, rfl, hp, hph, hpd, dd⟩ := dp_face hx
    refine ⟨_, rfl, p, _, 0, _, rfl, rfl, g1.sqt hp, rfl, ph, _, rfl, .inr (g1.sqt hph), fun l nl => ?_⟩
    exact q _ l (g1.trans (Gr.new nl)) (g1.back l nl) upd_same
theorem ok_namOf {f fF : Addr} {fd fdF : FuncData} {k : Nat} (F : Fun K "names_of" "names_of" sNamOf f fd) (HF : Has P w K mg base (k + 4) "need_face" ["face"] (spGood K .non) fF fdF) :
    FnOk P w K mg base CX0 (k + 5) f fd ["face"] (spTold K fun f => f.ds.map De.nm) := by
  refine F.ok scNamOf (fun vs H Q E h => ?_) (fun cdv A outer s H vs Q E hr h => ?_)
  · obtain ⟨x, f, rfl, _⟩ := h
    rfl
  · obtain ⟨x, f, rfl, hx, go, q⟩ := h
    have nd := scNamOf.nd
    refine ⟨_, pss_cons (ps_expr (hcall HF hr (pa_cons (pv 0) pa_nil))) (pss_one (ps_ret (pe_lc (own := [("deed", 1)]) (g := gName 1) rfl nd (pi_tup (pe_ix ix_tup (pv 0) pe_int (fun _ _ => rfl)))
      (blkOk_by (own := [("deed", 1)]) (N := nNamOf) (sc := defScope sNamOf) (by decide +kernel)) (fun _ _ _ _ _ => pg_name (i := 1) nd rfl (Or.inl rfl)) (fun _ _ _ _ _ => pts_nil)
      (fun _ _ _ _ _ => pe_ix (r := rIxT K) ix_tup (pv 1) pe_int (fun _ _ => rfl))))), ?_⟩
    refine ⟨_, rfl, x, f, rfl, hx, go, fun H1 g1 => ?_⟩
    obtain ⟨p, ph, pd, xs, rfl, hp, hph, hpd, dd⟩ := dp_face (g1.kd.dp hx)
    have hl : xs.length = f.ds.length := by
      have := dpA_len dd
      rw [List.length_map] at this
      exact this
    refine ⟨_, rfl, p, _, 1, _, rfl, rfl, hp, rfl, pd, rfl, ⟨_, hpd⟩, fun D nD => ?_⟩
    have gD : ∀ o, Gr H1 (upd H1 D o) := fun o => Gr.new nD
    refine lc_it (walk_tup (xs := xs)) (fun i H2 => H2 = upd H1 D (.lst (((f.ds.take i).map De.nm).map V.str))) rfl ?c0 ?c1 ?c2
    case c0 =>
      rintro i H2 hi rfl
      exact (gD _).sqt hpd
    case c1 =>
      rintro i y H2 H2' hi rfl ⟨rfl, hy⟩
      refine ⟨rfl, ?_⟩
      unfold tYes
      refine iteT ?_
      obtain ⟨e, he, de⟩ := dpA_de dd hy
      obtain ⟨pe, n1, t1, v1, rfl, hpe, dn, dt, dv⟩ := dp_3 ((gD _).kd.dp de)
      cases dp_str dn
      refine ⟨_, rfl, pe, _, 0, _, rfl, rfl, hpe, rfl, _, upd_same, ?_, ?_⟩
      · rw [List.length_map, List.length_map, List.length_take, sizeLine_eq]
        have := go.hi
        omega
      · rw [upd_upd, List.take_add_one, he, List.map_append, List.map_append]
        rfl
    case c2 =>
      rintro H2 rfl
      rw [hl, List.take_length]
      exact q _ D (g1.trans (gD _)) (g1.back D nD) upd_same
/-- the deed so called, or none -/
def spFind (K : PySem.W.Frag) : Sp := fun vs H Q _ => ∃ (x y : V) (f : Fc) (T : String), vs = [x, y] ∧ Dp K H x f.d ∧ Is K H y T ∧
  ((∃ (z : Str) (e : De) (i : Nat), y = .str z ∧ f.ds[i]? = some e ∧ e.nm = z ∧ (f.ds.map De.nm).Pairwise lt ∧ ∀ H', Gr H H' → Q (.int (i : Nat)) H') ∨
    ((∀ z, y = .str z → z ∉ f.ds.map De.nm) ∧ ∀ H', Gr H H' → Q .non H'))
theorem lt_irrefl (a : Str) : ¬ lt a a := List.lt_irrefl _
theorem ok_find {f : Addr} {fd : FuncData} {k : Nat} (F : Fun K "find_deed" "find_deed" sFind f fd) (mi : mg "isinstance" = none) (m1 : mg "str" = none) (me : mg "enumerate" = none) :
    FnOk P w K mg base CX0 (k + 1) f fd ["face", "name"] (spFind K) := by
  refine F.ok scFind (fun vs H Q E h => ?_) (fun cdv A outer s H vs Q E hr h => ?_)
  · obtain ⟨x, y, f, T, rfl, _⟩ := h
    rfl
  · obtain ⟨x, y, f, T, rfl, hx, hy, q⟩ := h
    have nd := scFind.nd
    refine ⟨_, pss_cons (ps_if (pt_val (pe_isi "str" 1 mi m1 (by decide +kernel))) (pss_one (ps_for PassesOwn.never rfl (pi_enumT (by rfl) me (pa_cons (pe_ix ix_tup (pv 0) pe_int (fun _ _ => rfl)) pa_nil))
        (pg_tup rfl (pgs_cons (pg_name (i := 2) nd rfl (.inl rfl)) (pgs_cons (pg_name (i := 3) nd rfl (.inl rfl)) pgs_nil)))
        (pss_one (ps_if (pt_cmpR op_eq (pe_ix ix_tup (pv 3) pe_int (fun _ _ => rfl)) (pv 1) (nomark _)) (pss_one (ps_ret (pv 2))) pss_nil)))) pss_nil) (pss_one (ps_ret pe_non)), ?_⟩
    refine ⟨_, rfl, T, _, hy.1, kit_str T hy.2, _, rfl, ?_⟩
    by_cases e : T = "str"
    · obtain ⟨z, rfl⟩ := hy.text e
      subst e
      obtain ⟨p, ph, pd, xs, rfl, hp, hph, hpd, dd⟩ := dp_face hx
      have hl : xs.length = f.ds.length := by
        have := dpA_len dd
        rw [List.length_map] at this
        exact this
      refine iteT ⟨_, rfl, p, _, 1, _, rfl, rfl, hp, rfl, pd, _, rfl, hpd, for_it (walk_enumT (xs := xs)) (fun i σ H1 => ∃ y2 y3 : Option V, σ = [some (.ref p), some (.str z), y2, y3] ∧ Gr H H1 ∧ ∀ j e, j < i → f.ds[j]? = some e → e.nm ≠ z) ⟨none, none, rfl, Gr.refl H, fun j e h => absurd h (Nat.not_lt_zero j)⟩ ?h1 ?h2 ?h3⟩
      case h1 =>
        rintro i σ H1 hi ⟨y2, y3, rfl, g, _⟩
        exact g.sqt hpd
      case h2 =>
        rintro i v σ H1 H2 hi ⟨y2, y3, rfl, g, no⟩ ⟨T, a, b, rfl, nT, rfl, ha, hb⟩
        cases ha
        obtain ⟨e, he, de⟩ := dpA_de dd hb
        have g2 : Gr H (upd H1 T (.tup [.int (i : Nat), b])) := g.trans (Gr.new nT)
        have hT : upd H1 T (.tup [.int (i : Nat), b]) T = some (.tup [.int (i : Nat), b]) := upd_same
        generalize upd H1 T (.tup [.int (i : Nat), b]) = H2 at g2 hT ⊢
        obtain ⟨pe, n1, t1, v1, rfl, hpe, dn, dt, dv⟩ := dp_3 (g2.kd.dp de)
        cases dp_str dn
        refine ⟨T, _, rfl, .inl (.inl hT), rfl, .int (i : Nat), [.ref pe], rfl, .ref pe, [], rfl, rfl, ?_⟩
        refine ⟨_, rfl, pe, _, 0, _, rfl, rfl, hpe, rfl, _, rfl, rfl, _, rfl, ?_⟩
        by_cases ez : e.nm = z
        · rw [decide_eq_true (congrArg V.str ez)]
          refine iteT ⟨_, rfl, ?_⟩
          rcases q with ⟨z', e', i', hz', he', en', up, q⟩ | ⟨q, _⟩
          · cases hz'
            have same : i' = i := by
              have c1 : (f.ds.map De.nm)[i]? = some z := by rw [List.getElem?_map, he]; exact congrArg some ez
              have c2 : (f.ds.map De.nm)[i']? = some z := by rw [List.getElem?_map, he']; exact congrArg some en'
              obtain ⟨l1, q1⟩ := List.getElem?_eq_some_iff.mp c1
              obtain ⟨l2, q2⟩ := List.getElem?_eq_some_iff.mp c2
              have pw := List.pairwise_iff_getElem.mp up
              rcases Nat.lt_trichotomy i i' with h | h | h
              · have := pw i i' l1 l2 h
                rw [q1, q2] at this
                exact absurd this (lt_irrefl z)
              · exact h.symm
              · have := pw i' i l2 l1 h
                rw [q1, q2] at this
                exact absurd this (lt_irrefl z)
            rw [← same]
            exact q _ g2
          · exact absurd (List.mem_map.mpr ⟨e, List.mem_of_getElem? he, ez⟩) (q z rfl)
        · rw [decide_eq_false (fun h => ez (V.str.inj h))]
          refine iteF ⟨_, _, rfl, g2, fun j e' hj he' => ?_⟩
          rcases Nat.lt_or_eq_of_le (Nat.le_of_lt_succ hj) with h | h
          · exact no j e' h he'
          · rw [h, he] at he'
            cases he'
            exact ez
      case h3 =>
        rintro σ H1 ⟨y2, y3, rfl, g, no⟩
        rcases q with ⟨z', e', i', hz', he', en', up, q⟩ | ⟨_, q⟩
        · cases hz'
          have hi' : i' < xs.length := by
            rw [hl]
            rcases Nat.lt_or_ge i' f.ds.length with h1 | h1
            · exact h1
            · rw [List.getElem?_eq_none h1] at he'
              cases he'
          exact absurd en' (no i' e' hi' he')
        · exact q H1 g
    · have e1 : (T == "str") = false := by simpa using e
      rw [e1]
      refine iteF ?_
      rcases q with ⟨z', e', i', hz', _⟩ | ⟨_, q⟩
      · exact absurd hz' (hy.ntext e z')
      · exact q H (Gr.refl H)
end
end SfC
namespace SfC
open PySem PySem.Spec PyProof.Rows L2 SfG
theorem scDeedN : FnScope ["face", "name", "number"] ["face", "name"] (defScope sDeedN) := ⟨rfl, rfl, rfl, by decide +kernel, rfl, by decide +kernel, by decide +kernel⟩
theorem scTakes : FnScope ["face", "name"] ["face", "name"] (defScope sTakes) := ⟨rfl, rfl, rfl, by decide +kernel, rfl, by decide +kernel, by decide +kernel⟩
theorem scGives : FnScope ["face", "name"] ["face", "name"] (defScope sGives) := ⟨rfl, rfl, rfl, by decide +kernel, rfl, by decide +kernel, by decide +kernel⟩
/-- what the written part says of the class that refuses what is out of place -/
structure Oop (K : PySem.W.Frag) (mg : Str → Option Value) (C : Addr) : Prop where
  g : mg "OutOfPlace" = some (.ref C)
  x : PySem.W.excIn K C [.type "ValueError", .type "Exception", .type "BaseException", .type "object"] "ValueError.__new__" = true
  k : PySem.W.keepIn K (.ref C) = true
  b : PySem.W.subIn K (.ref C) (.type "BaseException") = some true
  t : PySem.W.typeIn K (.ref C) = some (.type "type")
section
variable {P : Program} {w : World} {K : PySem.W.Frag} {mg : Str → Option Value} {base : Heap}
/-! ### deed_number, takes_of, gives_of -/
def spDeedN (K : PySem.W.Frag) (C : Addr) : Sp := fun vs H Q E => ∃ (x y : V) (f : Fc) (T : String), vs = [x, y] ∧ Dp K H x f.d ∧ Is K H y T ∧
  ((∃ (z : Str) (e : De) (i : Nat), y = .str z ∧ f.ds[i]? = some e ∧ e.nm = z ∧ (f.ds.map De.nm).Pairwise lt ∧ ∀ H', Gr H H' → Q (.int (i : Nat)) H') ∨
    ((∀ z, y = .str z → z ∉ f.ds.map De.nm) ∧ ∀ H', Gr H H' → E (.ref C) none H'))
theorem ok_deedN {f fF C : Addr} {fd fdF : FuncData} {k : Nat} (F : Fun K "deed_number" "deed_number" sDeedN f fd) (HF : Has P w K mg base (k + 1) "find_deed" ["face", "name"] (spFind K) fF fdF) (O : Oop K mg C) :
    FnOk P w K mg base (L2.CX P w) (k + 2) f fd ["face", "name"] (spDeedN K C) := by
  refine F.okX scDeedN (fun vs H Q E h => ?_) (fun cdv A outer s H vs Q E hr h => ?_)
  · obtain ⟨x, y, f, T, rfl, _⟩ := h
    rfl
  · obtain ⟨x, y, f, T, rfl, hx, hy, q⟩ := h
    have nd := scDeedN.nd
    refine ⟨_, pss_cons (ps_set (i := 2) nd rfl (.inl rfl) (hcall HF hr (pa_cons (pv 0) (pa_cons (pv 1) pa_nil))))
      (pss_cons (ps_if (pt_cmpR op_isN (pv 2) pe_non (nomark _)) (pss_one (ps_raise rfl (takes_of (E := E) rfl rfl rfl rfl) (pmk_own PySem.F.excBase_ValueError O.x O.g O.k (raises_own O.b O.t) rfl))) pss_nil)
      (pss_one (ps_ret (pv 2)))), ?_⟩
    refine ⟨_, rfl, _, rfl, x, y, f, T, rfl, hx, hy, ?_⟩
    rcases q with ⟨z, e, i, h1, h2, h3, h4, q⟩ | ⟨h1, q⟩
    · exact .inl ⟨z, e, i, h1, h2, h3, h4, fun H' g => ⟨_, rfl, rfl, _, rfl, iteF ⟨_, rfl, q H' g⟩⟩⟩
    · exact .inr ⟨h1, fun H' g => ⟨_, rfl, rfl, _, rfl, iteT (q H' g)⟩⟩
def spTG (K : PySem.W.Frag) (C : Addr) (pick : De → PyData) : Sp := fun vs H Q E => ∃ (x y : V) (f : Fc) (T : String), vs = [x, y] ∧ Dp K H x f.d ∧ goF f ∧ Is K H y T ∧
  ((∃ (z : Str) (e : De) (i : Nat), y = .str z ∧ f.ds[i]? = some e ∧ e.nm = z ∧ ∀ H' v, Gr H H' → Dp K H' v (pick e) → Q v H') ∨
    ((∀ z, y = .str z → z ∉ f.ds.map De.nm) ∧ ∀ H', Gr H H' → E (.ref C) none H'))
theorem tyx_gr {H H' : Hp} {y : V} {t : Value} (g : Gr H H') (h : TyX K H y t) : TyX K H' y t := by
  cases h with
  | base b =>
    cases b with
    | non => exact .base .non
    | bl x => exact .base (.bl x)
    | int x => exact .base (.int x)
    | str x => exact .base (.str x)
    | flt x => exact .base (.flt x)
    | lst e => exact .base (.lst (g.keep _ _ e (fun _ z => by cases z)))
    | frz e => exact .base (.frz (g.keep _ _ e (fun _ z => by cases z)))
    | tup e => exact .base (.tup (g.keep _ _ e (fun _ z => by cases z)))
    | dK e => exact .base (.dK (g.keep _ _ e (fun _ z => by cases z)))
    | dT e => exact .base (.dT (g.keep _ _ e (fun _ z => by cases z)))
    | ins e c1 c2 c3 c4 c5 => exact .base (.ins (g.keep _ _ e (fun _ z => by cases z)) c1 c2 c3 c4 c5)
  | byt x => exact .byt x
  | set e => exact .set (g.keep _ _ e (fun _ z => by cases z))
  | kList e c => exact .kList e c
  | kTuple e c => exact .kTuple e c
  | kDict e c => exact .kDict e c
  | fTuple e => exact .fTuple (g.keep _ _ e (fun _ z => by cases z))
  | fDict e => exact .fDict (g.keep _ _ e (fun _ z => by cases z))
theorem is_gr {H H' : Hp} {y : V} {T : String} (g : Gr H H') (h : Is K H y T) : Is K H' y T := ⟨tyx_gr g h.1, h.2⟩
theorem ok_takes {f fF fD C : Addr} {fd fdF fdD : FuncData} {k : Nat} (F : Fun K "takes_of" "takes_of" sTakes f fd) (HF : Has P w K mg base (k + 4) "need_face" ["face"] (spGood K .non) fF fdF)
    (G : FnOk P w K mg base (L2.CX P w) (k + 4) fD fdD ["face", "name"] (spDeedN K C)) (gD : mg "deed_number" = some (.ref fD)) (kD : PySem.W.keepIn K (.ref fD) = true) (bD : Binds K fdD ["face", "name"] []) :
    FnOk P w K mg base (L2.CX P w) (k + 5) f fd ["face", "name"] (spTG K C fun e => .tuple (e.tk.map Kn.d)) := by
  refine F.okX scTakes (fun vs H Q E h => ?_) (fun cdv A outer s H vs Q E hr h => ?_)
  · obtain ⟨x, y, f, T, rfl, _⟩ := h
    rfl
  · obtain ⟨x, y, f, T, rfl, hx, go, hy, q⟩ := h
    refine ⟨_, pss_cons (ps_expr (hcall HF hr (pa_cons (pv 0) pa_nil))) (pss_one (ps_ret (pe_ix ix_tup (pe_ix ix_tup (pe_ix ix_tup (pv 0) pe_int (fun _ _ => rfl))
      (pe_call G hr (by rfl) gD kD bD .nil (passes_call (takes_of (E := E) rfl rfl rfl rfl) (fun _ _ _ _ h => h)) (pa_cons (pv 0) (pa_cons (pv 1) pa_nil))) (fun _ _ => rfl)) pe_int (fun _ _ => rfl)))), ?_⟩
    refine ⟨_, rfl, x, f, rfl, hx, go, fun H1 g1 => ?_⟩
    have hx1 := g1.kd.dp hx
    obtain ⟨p, ph, pd, xs, rfl, hp, hph, hpd, dd⟩ := dp_face hx1
    refine ⟨_, rfl, p, _, 1, _, rfl, rfl, hp, rfl, _, rfl, _, rfl, .ref p, y, f, T, rfl, hx1, is_gr g1 hy, ?_⟩
    rcases q with ⟨z, e, i, h1, h2, h3, q⟩ | ⟨h1, q⟩
    · refine .inl ⟨z, e, i, h1, h2, h3, go.up, fun H2 g2 => ?_⟩
      obtain ⟨v, hv, dv⟩ := dpA_get (i := i) (d := e.d) (g2.kd.dpA dd) (by rw [List.getElem?_map, h2]; rfl)
      obtain ⟨pe, n1, t1, v1, rfl, hpe, dn, dt, dv⟩ := dp_3 dv
      exact ⟨pd, _, i, _, rfl, rfl, g2.sqt hpd, atI_nat hv, pe, _, 1, _, rfl, rfl, hpe, rfl, q H2 t1 (g1.trans g2) dt⟩
    · exact .inr ⟨h1, fun H2 g2 => q H2 (g1.trans g2)⟩
theorem ok_gives {f fF fD C : Addr} {fd fdF fdD : FuncData} {k : Nat} (F : Fun K "gives_of" "gives_of" sGives f fd) (HF : Has P w K mg base (k + 4) "need_face" ["face"] (spGood K .non) fF fdF)
    (G : FnOk P w K mg base (L2.CX P w) (k + 4) fD fdD ["face", "name"] (spDeedN K C)) (gD : mg "deed_number" = some (.ref fD)) (kD : PySem.W.keepIn K (.ref fD) = true) (bD : Binds K fdD ["face", "name"] []) :
    FnOk P w K mg base (L2.CX P w) (k + 5) f fd ["face", "name"] (spTG K C fun e => e.gv.d) := by
  refine F.okX scGives (fun vs H Q E h => ?_) (fun cdv A outer s H vs Q E hr h => ?_)
  · obtain ⟨x, y, f, T, rfl, _⟩ := h
    rfl
  · obtain ⟨x, y, f, T, rfl, hx, go, hy, q⟩ := h
    refine ⟨_, pss_cons (ps_expr (hcall HF hr (pa_cons (pv 0) pa_nil))) (pss_one (ps_ret (pe_ix ix_tup (pe_ix ix_tup (pe_ix ix_tup (pv 0) pe_int (fun _ _ => rfl))
      (pe_call G hr (by rfl) gD kD bD .nil (passes_call (takes_of (E := E) rfl rfl rfl rfl) (fun _ _ _ _ h => h)) (pa_cons (pv 0) (pa_cons (pv 1) pa_nil))) (fun _ _ => rfl)) pe_int (fun _ _ => rfl)))), ?_⟩
    refine ⟨_, rfl, x, f, rfl, hx, go, fun H1 g1 => ?_⟩
    have hx1 := g1.kd.dp hx
    obtain ⟨p, ph, pd, xs, rfl, hp, hph, hpd, dd⟩ := dp_face hx1
    refine ⟨_, rfl, p, _, 1, _, rfl, rfl, hp, rfl, _, rfl, _, rfl, .ref p, y, f, T, rfl, hx1, is_gr g1 hy, ?_⟩
    rcases q with ⟨z, e, i, h1, h2, h3, q⟩ | ⟨h1, q⟩
    · refine .inl ⟨z, e, i, h1, h2, h3, go.up, fun H2 g2 => ?_⟩
      obtain ⟨v, hv, dv⟩ := dpA_get (i := i) (d := e.d) (g2.kd.dpA dd) (by rw [List.getElem?_map, h2]; rfl)
      obtain ⟨pe, n1, t1, v1, rfl, hpe, dn, dt, dv⟩ := dp_3 dv
      exact ⟨pd, _, i, _, rfl, rfl, g2.sqt hpd, atI_nat hv, pe, _, 2, _, rfl, rfl, hpe, rfl, q H2 v1 (g1.trans g2) dv⟩
    · exact .inr ⟨h1, fun H2 g2 => q H2 (g1.trans g2)⟩
end
end SfC
namespace SfC
open PySem PySem.Spec PyProof.Rows L2 SfG
theorem scMixed : FnScope ["_law_cell", "_law_k"] ["_law_cell", "_law_k"] (defScope sMixed) := ⟨rfl, rfl, rfl, by decide +kernel, rfl, by decide +kernel, by decide +kernel⟩
theorem scDraw : FnScope ["_law_cell", "_law_k"] ["_law_cell", "_law_k"] (defScope sDraw) := ⟨rfl, rfl, rfl, by decide +kernel, rfl, by decide +kernel, by decide +kernel⟩
theorem scDigit : FnScope ["_law_state", "_law_many", "_law_j", "_law_found"] ["_law_state", "_law_many"] (defScope sDigit) := ⟨rfl, rfl, rfl, by decide +kernel, rfl, by decide +kernel, by decide +kernel⟩
section
variable {P : Program} {w : World} {K : PySem.W.Frag} {mg : Str → Option Value} {base : Heap}
/-! ### the draws -/
def spMixed : Sp := fun vs H Q _ => ∃ a b : Int, vs = [.int a, .int b] ∧ 0 ≤ b ∧ b ≤ 1000000000 ∧ ∀ r, 0 ≤ r → r < 2147483647 → Q (.int r) H
theorem ok_mixed {f : Addr} {fd : FuncData} {k : Nat} (F : Fun K "_law_mixed" "_law_mixed" sMixed f fd) : FnOk P w K mg base CX0 (k + 1) f fd ["_law_cell", "_law_k"] spMixed := by
  refine F.ok scMixed (fun vs H Q E h => ?_) (fun cdv A outer s H vs Q E hr h => ?_)
  · obtain ⟨a, b, rfl, _⟩ := h
    rfl
  · obtain ⟨a, b, rfl, hb0, hb1, q⟩ := h
    refine ⟨_, pss_cons (ps_set (i := 0) scMixed.nd rfl (.inl rfl) (pe_op op_add (pe_op op_add (pe_op op_mod (pv 0) pe_int) (pe_op op_mul pe_int (pv 1))) pe_int))
      (pss_one (ps_ret (pe_op op_mod (pe_op op_mul (pe_op op_mod (pe_op op_mul (pv 0) (pv 0)) pe_int) pe_int) pe_int))), ?_⟩
    refine ⟨_, rfl, a, 1000000007, rfl, rfl, (by show (0 : Int) < 1000000007; decide), _, rfl, 7919, b, rfl, rfl, .inl ⟨by decide, by decide⟩, _, _, rfl, rfl, _, _, rfl, rfl, ?_⟩
    refine ⟨_, rfl, _, rfl, _, _, rfl, rfl, .inl ⟨?_, ?_⟩, _, 1000000007, rfl, rfl, (by show (0 : Int) < 1000000007; decide), _, 48271, rfl, rfl, .inr ⟨by decide, by decide⟩, _, 2147483647, rfl, rfl, (by show (0 : Int) < 2147483647; decide), q _ ?_ ?_⟩
    · have : (-(2 ^ 64) : Int) = -18446744073709551616 := by decide
      rw [this]
      omega
    · have : ((2 ^ 64) : Int) = 18446744073709551616 := by decide
      rw [this]
      omega
    · exact Int.emod_nonneg _ (by decide)
    · exact Int.emod_lt_of_pos _ (by decide)
/-- the state of a draw -/
abbrev kLeft : Key := Sum.inr ("left" : Str)
abbrev kSeed : Key := Sum.inr ("seed" : Str)
abbrev kTurns : Key := Sum.inr ("turns" : Str)
def kv3 (l s t : Int) : List (Key × V) := [(kLeft, .int l), (kSeed, .int s), (kTurns, .int t)]
def Drw (H : Hp) (p : Addr) (B : Int) : Prop := ∃ l s t, H p = some (.dK (kv3 l s t)) ∧ 0 ≤ l ∧ 0 ≤ t ∧ t ≤ B
theorem kv_left (l s t : Int) : valV (kv3 l s t) kLeft = some (.int l) := rfl
theorem kv_seed (l s t : Int) : valV (kv3 l s t) kSeed = some (.int s) := rfl
theorem kv_turns (l s t : Int) : valV (kv3 l s t) kTurns = some (.int t) := rfl
theorem put_left (l s t l' : Int) : putK (kv3 l s t) kLeft (.int l') = kv3 l' s t := rfl
theorem put_turns (l s t t' : Int) : putK (kv3 l s t) kTurns (.int t') = kv3 l s t' := rfl
theorem get_left {H : Hp} {p : Addr} {l s t : Int} (h : H p = some (.dK (kv3 l s t))) : DGet H p (.str "left") (some (.int l)) := DGet.k (k := kLeft) h
theorem get_seed {H : Hp} {p : Addr} {l s t : Int} (h : H p = some (.dK (kv3 l s t))) : DGet H p (.str "seed") (some (.int s)) := DGet.k (k := kSeed) h
theorem get_turns {H : Hp} {p : Addr} {l s t : Int} (h : H p = some (.dK (kv3 l s t))) : DGet H p (.str "turns") (some (.int t)) := DGet.k (k := kTurns) h
theorem set_left {H : Hp} {p : Addr} {l s t l' : Int} (h : H p = some (.dK (kv3 l s t))) : DPut H p (.str "left") (.int l') (upd H p (.dK (kv3 l' s t))) := DPut.k (k := kLeft) h (by show 3 < sizeLine; decide)
theorem set_turns {H : Hp} {p : Addr} {l s t t' : Int} (h : H p = some (.dK (kv3 l s t))) : DPut H p (.str "turns") (.int t') (upd H p (.dK (kv3 l s t'))) := DPut.k (k := kTurns) h (by show 3 < sizeLine; decide)
theorem gr_new2 {H : Hp} {p : Addr} {o o' : HO} (h : H p = none) : Gr H (upd (upd H p o) p o') := by
  refine Gr.same ?_
  intro b x e
  have n : b ≠ p := ne_of_none e h
  rw [upd_ne n, upd_ne n]
  exact e
def spDraw : Sp := fun vs H Q _ => ∃ a b : Int, vs = [.int a, .int b] ∧ 0 ≤ b ∧ b ≤ 1000 ∧ ∀ H' p, H p = none → Gr H H' → Drw H' p b → Q (.ref p) H'
theorem ok_draw {f fM : Addr} {fd fdM : FuncData} (F : Fun K "_law_draw" "_law_draw" sDraw f fd) (FM : Fun K "_law_mixed" "_law_mixed" sMixed fM fdM) (bM : Binds K fdM ["_law_cell", "_law_k"] []) (gM : mg "_law_mixed" = some (.ref fM)) :
    FnOk P w K mg base CX0 2 f fd ["_law_cell", "_law_k"] spDraw := by
  have GM : FnOk P w K mg base CX0 1 fM fdM ["_law_cell", "_law_k"] spMixed := ok_mixed FM
  refine F.ok scDraw (fun vs H Q E h => ?_) (fun cdv A outer s H vs Q E hr h => ?_)
  · obtain ⟨a, b, rfl, _⟩ := h
    rfl
  · obtain ⟨a, b, rfl, hb0, hb1, q⟩ := h
    refine ⟨_, pss_one (ps_ret (pe_disp (pps_cons pe_str (pe_ifExp (pt_cmpR op_ge (pv 0) (pe_op op_pow pe_int pe_int) (nomark _)) (pv 0) pe_int)
      (pps_cons pe_str (pe_call GM hr (by rfl) gM FM.kp bM .nil pass0 (pa_cons (pv 0) (pa_cons (pv 1) pa_nil)))
      (pps_cons pe_str (pv 1) pps_nil))) (by rfl) (by rfl) (fun z => by cases z) (by decide))), ?_⟩
    intro p np
    have key : ∀ l : Int, 0 ≤ l → tPairs [(tC (V.str "seed"), tCall spMixed [] E0 (tCons (tVar 0) (tCons (tVar 1) tNil))), (tC (V.str "turns"), tVar 1)] (L2.start ["_law_cell", "_law_k"] [V.int a, V.int b]) (upd H p (.dK []))
        (fun ps H3 => H3 p = some (.dK []) ∧ ∃ kvs : List (Key × V), (V.str "left", V.int l) :: ps = kvs.map (fun kv => (kV kv.1, kv.2)) ∧ kvs.length ≤ 15 ∧ Q (.ref p) (upd H3 p (.dK (mergeK [] kvs)))) := by
      intro l hl
      refine ⟨_, rfl, _, rfl, a, b, rfl, hb0, by omega, ?_⟩
      intro r h0 h1
      refine ⟨_, rfl, upd_same, kv3 l r b, rfl, by show 3 ≤ 15; decide, ?_⟩
      refine q _ p np ?_ ⟨l, r, b, ?_, hl, hb0, Int.le_refl b⟩
      · exact gr_new2 np
      · rw [upd_same]
        rfl
    refine ⟨_, rfl, 10, 18, rfl, rfl, ⟨by decide, by decide, by decide⟩, _, _, rfl, rfl, _, rfl, ite2 (fun e => ?_) (fun e => ?_)⟩
    · have e' : a ≥ 10 ^ 18 := of_decide_eq_true e
      refine ⟨_, rfl, key a ?_⟩
      have : (0 : Int) ≤ 10 ^ 18 := by decide
      omega
    · exact key 0 (by decide)
def spDigit : Sp := fun vs H Q _ => ∃ (p : Addr) (m B : Int), vs = [.ref p, .int m] ∧ Drw H p B ∧ B ≤ 100000 ∧ 0 < m ∧ m ≤ 1000000000 ∧
  ∀ H' d, But p H H' → Drw H' p (B + 1) → 0 ≤ d → d < m → Q (.int d) H'
theorem ok_digit {f fM : Addr} {fd fdM : FuncData} (F : Fun K "_law_digit" "_law_digit" sDigit f fd) (FM : Fun K "_law_mixed" "_law_mixed" sMixed fM fdM) (bM : Binds K fdM ["_law_cell", "_law_k"] []) (gM : mg "_law_mixed" = some (.ref fM)) (mr : mg "range" = none) :
    FnOk P w K mg base CX0 2 f fd ["_law_state", "_law_many"] spDigit := by
  have GM : FnOk P w K mg base CX0 1 fM fdM ["_law_cell", "_law_k"] spMixed := ok_mixed FM
  refine F.ok scDigit (fun vs H Q E h => ?_) (fun cdv A outer s H vs Q E hr h => ?_)
  · obtain ⟨p, m, B, rfl, _⟩ := h
    rfl
  · obtain ⟨p, m, B, rfl, ⟨l, sd, t, hp, hl, ht, htB⟩, hB, hm0, hm1, q⟩ := h
    refine ⟨_, pss_cons (ps_if (pt_cmpR op_eq (pe_dget (hu_of hr) (pv 0) pe_str (fun _ _ => rfl)) pe_int (nomark _))
        (pss_cons (ps_dput (hu_of hr) (pv 0) pe_str (pe_op op_add (pe_dget (hu_of hr) (pv 0) pe_str (fun _ _ => rfl)) pe_int) rfl)
        (pss_one (ps_for PassesOwn.never rfl (pi_range1 rfl mr (pa_cons pe_int pa_nil)) (pg_name (i := 2) scDigit.nd rfl (Or.inl rfl))
          (pss_one (ps_dput (hu_of hr) (pv 0) pe_str (pe_op op_add (pe_op op_mul (pe_dget (hu_of hr) (pv 0) pe_str (fun _ _ => rfl)) pe_int)
            (pe_call GM hr (by rfl) gM FM.kp bM .nil pass0 (pa_cons (pe_dget (hu_of hr) (pv 0) pe_str (fun _ _ => rfl)) (pa_cons (pe_op op_add (pe_op op_mul pe_int (pe_dget (hu_of hr) (pv 0) pe_str (fun _ _ => rfl))) (pv 2)) pa_nil)))) rfl))))) pss_nil)
      (pss_cons (ps_set (i := 3) scDigit.nd rfl (.inl rfl) (pe_op op_mod (pe_dget (hu_of hr) (pv 0) pe_str (fun _ _ => rfl)) (pv 1)))
      (pss_cons (ps_dput (hu_of hr) (pv 0) pe_str (pe_op op_fdivW (pe_dget (hu_of hr) (pv 0) pe_str (fun _ _ => rfl)) (pv 1)) rfl)
      (pss_one (ps_ret (pv 3))))), ?_⟩
    -- what follows the if
    have tail : ∀ (H1 : Hp) (l1 s1 t1 : Int) (y2 y3 : Option V), But p H H1 → H1 p = some (.dK (kv3 l1 s1 t1)) → 0 ≤ l1 → 0 ≤ t1 → t1 ≤ B + 1 →
        tSeq (tAsg (tOp (rI (fun _ j => 0 < j) fun i j => .int (i % j)) (tDGet (tVar 0) (tC (.str "left"))) (tVar 1)) (gName 3))
          (tSeq (sDPut (tVar 0) (tC (.str "left")) (tOp (rI CDivW fun i j => .int (i / j)) (tDGet (tVar 0) (tC (.str "left"))) (tVar 1))) (tRet (tVar 3)))
          { nx := fun _ H' => Q .non H', rt := Q } [some (.ref p), some (.int m), y2, y3] H1 := by
      intro H1 l1 s1 t1 y2 y3 hb h1 hl1 ht1 htb
      refine ⟨_, rfl, p, _, rfl, get_left h1, _, rfl, l1, m, rfl, rfl, hm0, ?_⟩
      refine ⟨_, rfl, p, _, rfl, get_left h1, _, rfl, l1, m, rfl, rfl, wide_div (b := 40) hm0 ?_ (by decide) (by decide), _, rfl, p, _, rfl, set_left h1, _, rfl, q _ _ hb.upd ⟨l1 / m, s1, t1, upd_same, ?_, ht1, htb⟩ ?_ ?_⟩
      · have : (2 : Nat) ^ 40 = 1099511627776 := by decide
        rw [this]
        omega
      · exact Int.ediv_nonneg hl1 (by omega)
      · exact Int.emod_nonneg _ (by omega)
      · exact Int.emod_lt_of_pos _ hm0
    refine ⟨_, rfl, p, _, rfl, get_left hp, rfl, _, rfl, ite2 (fun e => ?_) (fun e => ?_)⟩
    · -- state['turns'] = state['turns'] + 1
      refine ⟨_, rfl, p, _, rfl, get_turns hp, t, 1, rfl, rfl, _, rfl, p, _, rfl, set_turns hp, ?_⟩
      refine ⟨4, rfl, by decide, by decide, for_range (n := 4) (fun i σ H1 => ∃ (l1 : Int) (y2 : Option V), σ = [some (.ref p), some (.int m), y2, none] ∧ But p H H1 ∧ H1 p = some (.dK (kv3 l1 sd (t + 1))) ∧ 0 ≤ l1) ?_ ?_ ?_⟩
      · exact ⟨l, none, rfl, But.upd (fun _ _ => rfl), upd_same, hl⟩
      · rintro i σ H1 hi ⟨l1, y2, rfl, hb, h1, hl1⟩
        refine ⟨_, rfl, p, _, rfl, get_left h1, l1, 2147483647, rfl, rfl, .inr ⟨by decide, by decide⟩, ?_⟩
        refine ⟨_, rfl, p, _, rfl, get_seed h1, _, rfl, p, _, rfl, get_turns h1, 4, t + 1, rfl, rfl, .inl ⟨by decide, by decide⟩, _, rfl, _, _, rfl, rfl, sd, _, rfl, by omega, by omega, ?_⟩
        intro r h0 hr1
        refine ⟨_, _, rfl, rfl, _, rfl, p, _, rfl, set_left h1, _, _, rfl, hb.upd, upd_same, ?_⟩
        have : 0 ≤ l1 * 2147483647 := Int.mul_nonneg hl1 (by decide)
        omega
      · rintro σ H1 ⟨l1, y2, rfl, hb, h1, hl1⟩
        exact tail H1 l1 sd (t + 1) y2 none hb h1 hl1 (by omega) (by omega)
    · exact tail H l sd t none none (fun _ _ => rfl) hp hl ht (by omega)
end
end SfC
namespace SfC
open PySem PySem.Spec PyProof.Rows L2 SfG
theorem Drw.gr {H H' : Hp} {p : Addr} {B : Int} (d : Drw H p B) (g : Gr H H') : Drw H' p B := by
  obtain ⟨l, s, t, h, r⟩ := d
  exact ⟨l, s, t, g.dic h, r⟩
theorem Drw.ne {H : Hp} {p q : Addr} {B : Int} (d : Drw H p B) (h : H q = none) : q ≠ p := by
  obtain ⟨l, s, t, e, _⟩ := d
  intro z
  rw [z, e] at h
  cases h
theorem Drw.new {H : Hp} {p q : Addr} {B : Int} {o : HO} (d : Drw H p B) (h : H q = none) : Drw (upd H q o) p B := d.gr (Gr.new h)
theorem Drw.mono {H : Hp} {p : Addr} {B B' : Int} (d : Drw H p B) (h : B ≤ B') : Drw H p B' := by
  obtain ⟨l, s, t, e, h1, h2, h3⟩ := d
  exact ⟨l, s, t, e, h1, h2, Int.le_trans h3 h⟩
theorem Drw.upd {H : Hp} {p q : Addr} {B : Int} {o : HO} (d : Drw H p B) (h : q ≠ p) : Drw (upd H q o) p B := by
  obtain ⟨l, s, t, e, r⟩ := d
  exact ⟨l, s, t, (upd_ne (Ne.symm h)).trans e, r⟩
theorem small1000 {n : Nat} (h : n ≤ 1000) : n < sizeLine := by
  rw [sizeLine_eq]
  omega
/-! ### order -/
theorem lt_tri : ∀ a b : List Nat, a < b ∨ a = b ∨ b < a
  | [], [] => .inr (.inl rfl)
  | [], b :: t => .inl (List.nil_lt_cons b t)
  | a :: r, [] => .inr (.inr (List.nil_lt_cons a r))
  | a :: r, b :: t => by
    rcases Nat.lt_trichotomy a b with h | h | h
    · exact .inl (List.cons_lt_cons_iff.mpr (.inl h))
    · subst h
      rcases lt_tri r t with h | h | h
      · exact .inl (List.cons_lt_cons_iff.mpr (.inr ⟨rfl, h⟩))
      · exact .inr (.inl (by rw [h]))
      · exact .inr (.inr (List.cons_lt_cons_iff.mpr (.inr ⟨rfl, h⟩)))
    · exact .inr (.inr (List.cons_lt_cons_iff.mpr (.inl h)))
theorem lt_trans' {a b c : Str} (h1 : lt a b) (h2 : lt b c) : lt a c := List.lt_trans h1 h2
theorem str_ext {a b : Str} (h : a.cps.toList = b.cps.toList) : a = b := by
  cases a
  cases b
  simp at h
  rw [h]
theorem rise : ∀ (r : List Str) (p : Str), risingS p r = true → (p :: r).Nodup → (p :: r).Pairwise lt
  | [], p, _, _ => by simp
  | x :: t, p, h, nd => by
    unfold risingS at h
    rw [Bool.and_eq_true, Bool.not_eq_true', ltCps_eq] at h
    have ih := rise t x h.2 (List.nodup_cons.mp nd).2
    have np : p ≠ x := fun e => (List.nodup_cons.mp nd).1 (by rw [e]; exact List.mem_cons_self)
    have l1 : lt p x := by
      rcases lt_tri p.cps.toList x.cps.toList with h1 | h1 | h1
      · exact h1
      · exact absurd (str_ext h1) np
      · have z := h.1
        rw [decide_eq_true h1] at z
        cases z
    refine List.pairwise_cons.mpr ⟨fun y hy => ?_, ih⟩
    rcases List.mem_cons.mp hy with rfl | hy
    · exact l1
    · exact lt_trans' l1 ((List.pairwise_cons.mp ih).1 y hy)
theorem sorted_up {ys xs : List Str} (h : sortedS ys = true) (p : ys.Perm xs) (nd : xs.Nodup) : ys.Pairwise lt := by
  have ndy : ys.Nodup := p.nodup_iff.mpr nd
  cases ys with
  | nil => exact List.Pairwise.nil
  | cons a r => exact rise r a h ndy
/-! ### texts of letters -/
theorem joinL_mem {ls : List (List Nat)} {c : Nat} (h : c ∈ TL.joinL [] ls) : ∃ l ∈ ls, c ∈ l := by
  induction ls with
  | nil => cases h
  | cons p r ih =>
    cases r with
    | nil => exact ⟨p, List.mem_cons_self, h⟩
    | cons q r =>
      have h' : c ∈ p ++ ([] ++ TL.joinL [] (q :: r)) := h
      rcases List.mem_append.mp h' with h1 | h1
      · exact ⟨p, List.mem_cons_self, h1⟩
      · obtain ⟨l, hl, hc⟩ := ih (by simpa using h1)
        exact ⟨l, List.mem_cons_of_mem _ hl, hc⟩
theorem joinL_len {ls : List (List Nat)} (h : ∀ l ∈ ls, l.length = 1) : (TL.joinL [] ls).length = ls.length := by
  induction ls with
  | nil => rfl
  | cons p r ih =>
    have hp := h p List.mem_cons_self
    have hr := ih fun l hl => h l (List.mem_cons_of_mem _ hl)
    cases r with
    | nil => exact hp
    | cons q r =>
      show (p ++ ([] ++ TL.joinL [] (q :: r))).length = _
      rw [List.length_append, List.nil_append, hr, hp]
      simp
      omega
abbrev nought : Str := ""
theorem len_list (z : Str) : z.length = z.cps.toList.length := by simp [Str.length]
/-- one letter -/
def one (y : Str) : Prop := ∃ c, y = ⟨#[c]⟩ ∧ isLet c = true
theorem join_name {acc : List Str} (h : ∀ y ∈ acc, one y) (h1 : 1 ≤ acc.length) (h8 : acc.length ≤ 8) : isN (Txt.join nought acc) = true := by
  have hl : (Txt.join nought acc).length = acc.length := by
    have e : (TL.tl (Txt.join nought acc)).length = acc.length := by
      rw [TL.join_eq, TL.tl_join]
      rw [show TL.tl nought = [] from rfl, joinL_len, List.length_map]
      intro l hl
      obtain ⟨y, hy, rfl⟩ := List.mem_map.mp hl
      obtain ⟨c, rfl, _⟩ := h y hy
      rfl
    rw [len_list]
    exact e
  unfold isN
  rw [hl, decide_eq_true h8, decide_eq_true h1]
  refine List.all_eq_true.mpr fun c hc => ?_
  have hc' : c ∈ TL.tl (Str.join nought acc) := by
    rw [← TL.join_eq]
    exact hc
  rw [TL.tl_join] at hc'
  obtain ⟨l, hl', hcl⟩ := joinL_mem hc'
  obtain ⟨y, hy, rfl⟩ := List.mem_map.mp hl'
  obtain ⟨d, rfl, hd⟩ := h y hy
  have e : c = d := by simpa [TL.tl] using hcl
  rw [e]
  exact hd
theorem sum_ones : ∀ {acc : List Str}, (∀ y ∈ acc, y.length = 1) → (acc.map (·.length)).sum = acc.length
  | [], _ => rfl
  | a :: r, h => by
    rw [List.map_cons, List.sum_cons, h a List.mem_cons_self, sum_ones fun y hy => h y (List.mem_cons_of_mem _ hy), List.length_cons]
    omega
theorem letter_at {d : Int} (h0 : 0 ≤ d) (h1 : d < 26) : ∃ c, letters.cps[d.toNat]? = some c ∧ isLet c = true := by
  have e : ∀ n : Nat, n < 26 → ∃ c, letters.cps[n]? = some c ∧ isLet c = true := by
    intro n hn
    have hs : letters.cps.size = 26 := by decide +kernel
    refine ⟨letters.cps[n]'(by omega), by simp [show n < letters.cps.size by omega], ?_⟩
    unfold isLet
    exact decide_eq_true (by simp)
  exact e d.toNat (by omega)
theorem inV_not {s : Str} {l : List Str} : inV (.str s) (l.map V.str) = decide (s ∈ l) := by
  by_cases h : s ∈ l
  · rw [decide_eq_true h]
    exact inV_mem h
  · rw [decide_eq_false h]
    unfold inV
    rw [List.any_map]
    refine List.any_eq_false.mpr fun y hy => ?_
    simp [eqV]
    intro e
    exact h (e ▸ hy)
/-! ### _law_names -/
abbrev nNames : List Str := ["_law_state", "_law_many", "_law_found", "_law_k", "_law_signs", "_law_word", "_law_j"]
theorem scNames : FnScope nNames ["_law_state", "_law_many"] (defScope sNames) := ⟨rfl, rfl, rfl, by decide +kernel, rfl, by decide +kernel, by decide +kernel⟩
theorem seven {W : Str} {d : Int} (hW : isN W = true) (h0 : 0 ≤ d) (h7 : d < 7) : ∃ z, atI [V.str W, .str "a", .str "b", .str "ab", .str "ba", .str "abc", .str "hidden"] d = some (.str z) ∧ isN z = true := by
  have c : d = 0 ∨ d = 1 ∨ d = 2 ∨ d = 3 ∨ d = 4 ∨ d = 5 ∨ d = 6 := by omega
  rcases c with rfl | rfl | rfl | rfl | rfl | rfl | rfl
  · exact ⟨W, rfl, hW⟩
  all_goals exact ⟨_, rfl, by decide +kernel⟩
section
variable {P : Program} {w : World} {K : PySem.W.Frag} {mg : Str → Option Value} {base : Heap}
def spNames : Sp := fun vs H Q _ => ∃ (p : Addr) (m : Nat) (B : Int), vs = [.ref p, .int m] ∧ 1 ≤ m ∧ m ≤ 8 ∧ Drw H p B ∧ 0 ≤ B ∧ B ≤ 90000 ∧
  ∀ H' l (ys : List Str), Gp p H H' → Drw H' p (B + 160) → H l = none → H' l = some (.lst (ys.map V.str)) → ys.Pairwise lt → (∀ z ∈ ys, isN z = true) → 1 ≤ ys.length → ys.length ≤ m → Q (.ref l) H'
set_option maxHeartbeats 1000000 in
theorem ok_names {f fG : Addr} {fd fdG : FuncData} {k : Nat} (F : Fun K "_law_names" "_law_names" sNames f fd) (DG : Has P w K mg base (k + 2) "_law_digit" ["_law_state", "_law_many"] spDigit fG fdG)
    (mr : mg "range" = none) (ml : mg "len" = none) (ms : mg "sorted" = none) : FnOk P w K mg base CX0 (k + 3) f fd ["_law_state", "_law_many"] spNames := by
  refine F.ok scNames (fun vs H Q E h => ?_) (fun cdv A outer s H vs Q E hr h => ?_)
  · obtain ⟨p, m, B, rfl, _⟩ := h
    rfl
  · obtain ⟨p, m, B, rfl, m1, m8, dr, B0, B9, q⟩ := h
    have nd := scNames.nd
    refine' ⟨_, pss_cons ?s1 (pss_cons ?s2 (pss_one ?s3)), ?rd⟩
    case s1 => exact ps_set (i := 2) nd rfl (.inl rfl) (pe_lst pa_nil)
    case s2 =>
      refine' ps_for PassesOwn.never rfl (pi_range1 (by rfl) mr (pa_cons (pe_op op_mul pe_int (pv 1)) pa_nil)) (pg_name (i := 3) nd rfl (.inl rfl)) (pss_cons ?b1 (pss_cons ?b2 (pss_one ?b3)))
      case b1 =>
        exact ps_setLc (i := 4) (own := [("_law_j", 6)]) (g := gName 6) rfl nd rfl rfl (sw_true rfl rfl rfl (by decide +kernel)) (pi_range1 (by rfl) mr (pa_cons (pe_op op_add pe_int (hcall DG hr (pa_cons (pv 0) (pa_cons pe_int pa_nil)))) pa_nil))
          (blkOk_by (own := [("_law_j", 6)]) (N := nNames) (sc := defScope sNames) (by decide +kernel)) (fun _ _ _ _ _ => pg_name (i := 6) nd rfl (Or.inl rfl)) (fun _ _ _ _ _ => pts_nil)
          (fun _ _ _ _ _ => pe_item_str pe_str (hcall DG hr (pa_cons (pv 0) (pa_cons pe_int pa_nil))) (fun _ _ => rfl))
      case b2 =>
        exact ps_set (i := 5) nd rfl (.inl rfl) (pe_ix ix_list (pe_lst (pa_cons (pe_join pe_str (pv 4)) (pa_cons pe_str (pa_cons pe_str (pa_cons pe_str (pa_cons pe_str (pa_cons pe_str (pa_cons pe_str pa_nil)))))))) (hcall DG hr (pa_cons (pv 0) (pa_cons pe_int pa_nil))) (fun _ _ => rfl))
      case b3 =>
        exact ps_if (PW.pt (pw_and (pt_cmpR op_notIn_seq (pv 5) (pv 2) rfl) (pw_and1 (pt_cmpR op_lt (pe_callB call_len_seq (by rfl) ml PySem.boot_len (pa_cons (pv 2) pa_nil)) (pv 1) (nomark _)))))
          (pss_one (ps_expr (pe_bm PySem.F.plainAttrs_list PySem.F.slot_list_append PySem.F.type_list_append mt_append (pv 2) (pa_cons (pv 5) pa_nil)))) pss_nil
    case s3 => exact ps_ret (pe_callB cr_sortedS (by rfl) ms (by decide +kernel) (pa_cons (pv 2) pa_nil))
    case rd =>
    refine ⟨Nat.zero_le _, fun fl nfl => ?_⟩
    have nfp : fl ≠ p := dr.ne nfl
    refine ⟨_, rfl, 2, m, rfl, rfl, .inl ⟨by decide, by decide⟩, _, rfl, by omega, by omega, ?_⟩
    refine for_it (walk_range (lo := 0) (n := ((2 : Int) * (m : Int)).toNat)) (fun i σ H1 => ∃ (ys : List Str) (y3 y4 y5 : Option V), σ = [some (.ref p), some (.int m), some (.ref fl), y3, y4, y5, none] ∧
      H1 fl = some (.lst (ys.map V.str)) ∧ Gp p H H1 ∧ Drw H1 p (B + 10 * (i : Nat)) ∧ ys.Nodup ∧ (∀ z ∈ ys, isN z = true) ∧ ys.length ≤ m ∧ (1 ≤ i → 1 ≤ ys.length))
      ⟨[], none, none, none, rfl, upd_same, Gp.gr (Gr.new nfl), (dr.new nfl).mono (by omega), List.nodup_nil, by simp, by simp, fun h => by omega⟩ (fun _ _ _ _ _ => trivial) ?h2 ?h3
    case h3 =>
      rintro σ H1 ⟨ys, y3, y4, y5, rfl, hf, gp, dr1, ndy, hn, hm, h1⟩
      refine ⟨_, rfl, fl, ys, rfl, .inl (.inl hf), by omega, fun zs r pm so nr => ?_⟩
      have len : zs.length = ys.length := pm.length_eq
      have nr' : H r = none := gp.back r (dr1.ne nr) nr
      refine q _ r zs (gp.trans (Gp.gr (Gr.new nr))) ((dr1.new nr).mono (by omega)) nr' upd_same (sorted_up so pm ndy) (fun z hz => hn z (pm.mem_iff.mp hz)) ?_ (by omega)
      rw [len]
      exact h1 (by omega)
    case h2 =>
      rintro i x σ H1 H1' hi ⟨ys, y3, y4, y5, rfl, hf, gp, dr1, ndy, hn, hm, h1⟩ ⟨rfl, rfl⟩
      -- signs
      refine ⟨_, rfl, p, 8, _, rfl, dr1, by omega, by decide, by decide, fun H2 d b2 dr2 d0 d8 => ?_⟩
      refine ⟨1, d, rfl, rfl, _, rfl, by omega, by omega, fun D nD => ?_⟩
      have gp2 : Gp p H H2 := gp.trans (Gp.but b2)
      have hf2 : H2 fl = some (.lst (ys.map V.str)) := (b2 fl nfp).trans hf
      have nDp : D ≠ p := dr2.ne nD
      refine lc_it (walk_range (lo := 0) (n := (1 + d).toNat)) (fun j H5 => ∃ acc : List Str, H5 D = some (.lst (acc.map V.str)) ∧ acc.length = j ∧ (∀ y ∈ acc, one y) ∧ Gp p H2 H5 ∧ Drw H5 p (B + 10 * (i : Nat) + 1 + (j : Nat))) ?w0 (fun _ _ _ _ => trivial) ?w1 ?w2
      case w0 => exact ⟨[], upd_same, rfl, by simp, Gp.gr (Gr.new nD), (dr2.new nD).mono (by omega)⟩
      case w1 =>
        rintro j x H5 H5' hj ⟨acc, hD5, hl5, hacc, gp5, dr5⟩ ⟨rfl, rfl⟩
        refine ⟨rfl, ?_⟩
        unfold tYes
        refine iteT ?_
        refine ⟨_, rfl, p, 26, _, rfl, dr5, by omega, by decide, by decide, fun H6 d6 b6 dr6 e0 e26 => ?_⟩
        obtain ⟨c, ec6, ac6⟩ := letter_at e0 e26
        refine ⟨letters, d6, c, rfl, rfl, e0, by omega, ?_, ec6, acc.map V.str, (b6 D nDp).trans hD5, ?_, acc ++ [⟨#[c]⟩], ?_, ?_, ?_, ?_, ?_⟩
        · have : letters.length = 26 := by decide +kernel
          rw [this]
          exact e26
        · rw [List.length_map]
          exact small1000 (by omega)
        · rw [upd_same, List.map_append]
          rfl
        · rw [List.length_append, hl5]
          rfl
        · intro y hy
          rcases List.mem_append.mp hy with h | h
          · exact hacc y h
          · exact ⟨c, by simpa using h, ac6⟩
        · exact Gp.upd_new (gp5.trans (Gp.but b6)) nD
        · exact (dr6.upd nDp).mono (by omega)
      case w2 =>
      rintro H5 ⟨acc, hD5, hl5, hacc, gp5, dr5⟩
      have hf5 : H5 fl = some (.lst (ys.map V.str)) := gp5.lst nfp hf2
      have gpa : Gp p H H5 := gp2.trans gp5
      -- word
      refine ⟨⟨_, rfl⟩, _, rfl, nought, D, acc, rfl, rfl, .inl (.inl (.inl hD5)), ?_, ?_⟩
      · rw [sum_ones fun y hy => by obtain ⟨c, rfl, _⟩ := hacc y hy; rfl]
        show acc.length + acc.length * 0 ≤ 16777216
        omega
      have hW := join_name hacc (by omega) (by omega)
      generalize Txt.join nought acc = W at hW ⊢
      refine ⟨by show 7 ≤ sizeLine; decide, fun wl nwl => ?_⟩
      have g6 : Gr H5 (upd H5 wl (.lst [.str W, .str "a", .str "b", .str "ab", .str "ba", .str "abc", .str "hidden"])) := Gr.new nwl
      have hwl : upd H5 wl (.lst [.str W, .str "a", .str "b", .str "ab", .str "ba", .str "abc", .str "hidden"]) wl = some (.lst [.str W, .str "a", .str "b", .str "ab", .str "ba", .str "abc", .str "hidden"]) := upd_same
      have nwp : wl ≠ p := dr5.ne nwl
      generalize upd H5 wl (.lst [.str W, .str "a", .str "b", .str "ab", .str "ba", .str "abc", .str "hidden"]) = H6 at g6 hwl ⊢
      refine ⟨_, rfl, p, 7, _, rfl, dr5.gr g6, by omega, by decide, by decide, fun H7 d7 b7 dr7 z0 z7 => ?_⟩
      obtain ⟨z, ez, gz⟩ := seven hW z0 z7
      refine ⟨wl, _, d7, .str z, rfl, rfl, .inl (.inl ((b7 wl nwp).trans hwl)), ez, ?_⟩
      have gp7 : Gp p H H7 := (gpa.trans (Gp.gr g6)).trans (Gp.but b7)
      have hf7 : H7 fl = some (.lst (ys.map V.str)) := (b7 fl nfp).trans (g6.lst hf5)
      have dr7' : Drw H7 p (B + 10 * ((i + 1 : Nat) : Int)) := dr7.mono (by omega)
      -- found
      refine ⟨_, rfl, _, rfl, fl, _, rfl, .inl (.inl (.inl hf7)), rfl, flat_strs ys, _, rfl, ?_⟩
      show if (!inV (.str z) (ys.map V.str)) = true then _ else _
      rw [inV_not]
      by_cases hz : z ∈ ys
      · rw [decide_eq_true hz]
        refine iteF (iteF ⟨ys, _, _, _, rfl, hf7, gp7, dr7', ndy, hn, hm, fun _ => List.length_pos_of_mem hz⟩)
      · rw [decide_eq_false hz]
        refine iteT ⟨_, rfl, fl, _, rfl, .inl (.inl (.inl hf7)), _, rfl, _, _, rfl, rfl, _, rfl, ?_⟩
        rw [List.length_map]
        by_cases hl : (ys.length : Int) < (m : Int)
        · rw [decide_eq_true hl]
          refine iteT ⟨_, rfl, .inl ⟨rfl, _, .inl (.inl hf7)⟩, _, rfl, fl, _, _, rfl, rfl, hf7, ?_, ?_⟩
          · rw [List.length_map]
            exact small1000 (by omega)
          · refine ⟨ys ++ [z], _, _, _, rfl, ?_, gp7.upd_new nfl, dr7'.upd nfp, ?_, ?_, ?_, fun _ => by simp⟩
            · rw [upd_same, List.map_append]
              rfl
            · rw [List.nodup_append]
              refine ⟨ndy, by simp, ?_⟩
              intro a ha b hb
              have : b = z := by simpa using hb
              rw [this]
              exact fun e => hz (e ▸ ha)
            · intro y hy
              rcases List.mem_append.mp hy with h | h
              · exact hn y h
              · have : y = z := by simpa using h
                rw [this]
                exact gz
            · rw [List.length_append]
              show ys.length + 1 ≤ m
              omega
        · rw [decide_eq_false hl]
          refine iteF ⟨ys, _, _, _, rfl, hf7, gp7, dr7', ndy, hn, hm, fun _ => by omega⟩
end
end SfC
namespace SfC
open PySem PySem.Spec PyProof.Rows L2 SfG
theorem dpA_app {K : PySem.W.Frag} {H : Hp} : ∀ {xs ys : List V} {ds es : List PyData}, DpAll K H xs ds → DpAll K H ys es → DpAll K H (xs ++ ys) (ds ++ es)
  | [], _, _, _, h, h2 => by cases h; exact h2
  | _ :: _, _, _, _, h, h2 => by
    cases h with
    | cons a b => exact .cons a (dpA_app b h2)
theorem sqt_lst {K : PySem.W.Frag} {H : Hp} {l a : Addr} {xs ys zs : List V} (hl : H l = some (.lst xs)) (h : SqT K H a ys) : SqT K (upd H l (.lst zs)) a ys := by
  rcases h with (h | ⟨o, h⟩) | h
  · refine .inl (.inl ?_)
    rw [upd_ne (by intro z; rw [z, hl] at h; cases h)]
    exact h
  · refine .inl (.inr ⟨o, ?_⟩)
    rw [upd_ne (by intro z; rw [z, hl] at h; cases h)]
    exact h
  · exact .inr h
end SfC
namespace SfC
open PySem PySem.Spec PyProof.Rows L2 SfG
abbrev nLKind : List Str := ["_law_state", "_law_hidden", "_law_own"]
theorem scLKind : FnScope nLKind ["_law_state", "_law_hidden"] (defScope sLKind) := ⟨rfl, rfl, rfl, by decide +kernel, rfl, by decide +kernel, by decide +kernel⟩
theorem kind_at {hd : List Str} {own : Int} (h2 : 2 ≤ own) (h9 : own ≤ 9) {v : V} (hv : v ∈ (hd.map V.str ++ hd.map V.str) ++ [V.int 2, .int 9, .int own]) : ∃ k : Kn, goK hd k ∧ v = k.v := by
  rcases List.mem_append.mp hv with h | h
  · have h' : v ∈ hd.map V.str := by
      rcases List.mem_append.mp h with h | h <;> exact h
    obtain ⟨z, hz, rfl⟩ := List.mem_map.mp h'
    exact ⟨.h z, hz, rfl⟩
  · have h' : v = .int 2 ∨ v = .int 9 ∨ v = .int own := by simpa using h
    rcases h' with rfl | rfl | rfl
    · exact ⟨.p 2, ⟨by decide, by decide⟩, rfl⟩
    · exact ⟨.p 9, ⟨by decide, by decide⟩, rfl⟩
    · exact ⟨.p own, ⟨h2, h9⟩, rfl⟩
section
variable {P : Program} {w : World} {K : PySem.W.Frag} {mg : Str → Option Value} {base : Heap}
theorem Drw.kd {H H' : Hp} {p : Addr} {B : Int} (d : Drw H p B) (g : Gp p H H') : Kd K H H' := by
  obtain ⟨l, s, t, e, _⟩ := d
  exact g.kd e
def spLKind (K : PySem.W.Frag) : Sp := fun vs H Q _ => ∃ (p ph : Addr) (hd : List Str) (B : Int), vs = [.ref p, .ref ph] ∧ SqT K H ph (hd.map V.str) ∧ hd.length ≤ 2 ∧ Drw H p B ∧ 0 ≤ B ∧ B ≤ 90000 ∧
  ∀ H' (k : Kn), Gp p H H' → Drw H' p (B + 2) → goK hd k → Q k.v H'
theorem ok_lkind {f fG : Addr} {fd fdG : FuncData} {k : Nat} (F : Fun K "_law_kind" "_law_kind" sLKind f fd) (DG : Has P w K mg base (k + 2) "_law_digit" ["_law_state", "_law_many"] spDigit fG fdG)
    (ml : mg "len" = none) (mt : mg "list" = none) : FnOk P w K mg base CX0 (k + 3) f fd ["_law_state", "_law_hidden"] (spLKind K) := by
  refine F.ok scLKind (fun vs H Q E h => ?_) (fun cdv A outer s H vs Q E hr h => ?_)
  · obtain ⟨p, ph, hd, B, rfl, _⟩ := h
    rfl
  · obtain ⟨p, ph, hd, B, rfl, hph, h2, dr, B0, B9, q⟩ := h
    have nd := scLKind.nd
    refine ⟨_, pss_cons (ps_set (i := 2) nd rfl (.inl rfl) (pe_op op_add pe_int (hcall DG hr (pa_cons (pv 0) (pa_cons pe_int pa_nil)))))
      (pss_one (ps_ret (pe_ix ix_list (pe_op op_cat (pe_op op_cat (pe_callTy call_list_of (by rfl) mt (by decide +kernel) (pa_cons (pv 1) pa_nil)) (pe_callTy call_list_of (by rfl) mt (by decide +kernel) (pa_cons (pv 1) pa_nil))) (pe_lst (pa_cons pe_int (pa_cons pe_int (pa_cons (pv 2) pa_nil)))))
        (hcall DG hr (pa_cons (pv 0) (pa_cons (pe_op op_add (pe_op op_mul pe_int (pe_callB call_len_seq (by rfl) ml PySem.boot_len (pa_cons (pv 1) pa_nil))) pe_int) pa_nil))) (fun _ _ => rfl)))), ?_⟩
    refine ⟨_, rfl, p, 8, _, rfl, dr, by omega, by decide, by decide, fun H1 d b1 dr1 d0 d8 => ?_⟩
    refine ⟨2, d, rfl, rfl, ?_⟩
    have gp1 : Gp p H H1 := Gp.but b1
    have hph1 := (dr.kd (K := K) gp1).t hph
    refine ⟨_, rfl, ph, _, rfl, .inr hph1, fun l1 n1 => ?_⟩
    have g2 : Gr H1 (upd H1 l1 (.lst (hd.map V.str))) := Gr.new n1
    have e1 : upd H1 l1 (.lst (hd.map V.str)) l1 = some (.lst (hd.map V.str)) := upd_same
    generalize upd H1 l1 (.lst (hd.map V.str)) = H2 at g2 e1 ⊢
    refine ⟨_, rfl, ph, _, rfl, .inr (g2.sqt hph1), fun l2 n2 => ?_⟩
    have g3 : Gr H2 (upd H2 l2 (.lst (hd.map V.str))) := Gr.new n2
    have e2 : upd H2 l2 (.lst (hd.map V.str)) l2 = some (.lst (hd.map V.str)) := upd_same
    generalize upd H2 l2 (.lst (hd.map V.str)) = H3 at g3 e2 ⊢
    refine ⟨l1, l2, _, _, rfl, rfl, g3.lst e1, e2, by rw [List.length_map, sizeLine_eq]; omega, fun l3 n3 => ?_⟩
    have g4 : Gr H3 (upd H3 l3 (.lst (hd.map V.str ++ hd.map V.str))) := Gr.new n3
    have e3 : upd H3 l3 (.lst (hd.map V.str ++ hd.map V.str)) l3 = some (.lst (hd.map V.str ++ hd.map V.str)) := upd_same
    generalize upd H3 l3 (.lst (hd.map V.str ++ hd.map V.str)) = H4 at g4 e3 ⊢
    refine ⟨_, rfl, by show 3 ≤ sizeLine; decide, fun l4 n4 => ?_⟩
    have g5 : Gr H4 (upd H4 l4 (.lst [.int 2, .int 9, .int (2 + d)])) := Gr.new n4
    have e4 : upd H4 l4 (.lst [.int 2, .int 9, .int (2 + d)]) l4 = some (.lst [.int 2, .int 9, .int (2 + d)]) := upd_same
    generalize upd H4 l4 (.lst [.int 2, .int 9, .int (2 + d)]) = H5 at g5 e4 ⊢
    refine ⟨l3, l4, _, _, rfl, rfl, g5.lst e3, e4, ?_, fun l5 n5 => ?_⟩
    · rw [List.length_append, List.length_map, sizeLine_eq]
      show _ + 3 ≤ _
      omega
    have hlen : ((hd.map V.str ++ hd.map V.str) ++ [V.int 2, .int 9, .int (2 + d)]).length = 2 * hd.length + 3 := by
      rw [List.length_append, List.length_append, List.length_map]
      show _ + 3 = _
      omega
    have hmem := fun (v : V) (hv : v ∈ (hd.map V.str ++ hd.map V.str) ++ [V.int 2, .int 9, .int (2 + d)]) => kind_at (hd := hd) (show 2 ≤ 2 + d by omega) (show 2 + d ≤ 9 by omega) hv
    generalize (hd.map V.str ++ hd.map V.str) ++ [V.int 2, .int 9, .int (2 + d)] = its at hlen hmem ⊢
    have g6 : Gr H5 (upd H5 l5 (.lst its)) := Gr.new n5
    have e5 : upd H5 l5 (.lst its) l5 = some (.lst its) := upd_same
    generalize upd H5 l5 (.lst its) = H6 at g6 e5 ⊢
    have g16 : Gr H1 H6 := g2.trans (g3.trans (g4.trans (g5.trans g6)))
    have dr6 := dr1.gr g16
    have n5p : l5 ≠ p := by
      intro z
      obtain ⟨l, s, t, e, _⟩ := dr6
      rw [← z, e5] at e
      cases e
    refine ⟨_, rfl, _, rfl, ph, _, rfl, .inr (g16.sqt hph1), 2, _, rfl, rfl, .inl ⟨by decide, by decide⟩, _, 3, rfl, rfl, ?_⟩
    rw [List.length_map]
    refine ⟨p, _, _, rfl, dr6, by omega, by omega, by omega, fun H7 d7 b7 dr7 z0 z7 => ?_⟩
    have hi : d7.toNat < its.length := by omega
    obtain ⟨kn, gk, ek⟩ := hmem its[d7.toNat] (List.getElem_mem hi)
    refine ⟨l5, its, d7, kn.v, rfl, rfl, .inl (.inl ((b7 l5 n5p).trans e5)), ?_, ?_⟩
    · have := atI_nat (xs := its) (j := d7.toNat) (by rw [List.getElem?_eq_getElem hi, ek])
      rw [Int.toNat_of_nonneg z0] at this
      exact this
    · exact q H7 kn ((gp1.trans (Gp.gr g16)).trans (Gp.but b7)) (dr7.mono (by omega)) gk
end
/-! ### a list that is changed: what deeds are stays -/
theorem de_lst {K : PySem.W.Frag} {H : Hp} {l : Addr} {xs zs : List V} {x : V} {e : De} (hl : H l = some (.lst xs)) (h : Dp K H x e.d) : Dp K (upd H l (.lst zs)) x e.d := by
  obtain ⟨p, a, b, c, rfl, hp, ha, hb, hc⟩ := dp_3 h
  cases dp_str ha
  cases dp_kn hc
  obtain ⟨pt, ts, rfl, hpt, hts⟩ := dp_tup hb
  cases dpA_kns hts
  refine .tup (sqt_lst hl hp) (.cons (.str _) (.cons (.tup (sqt_lst hl hpt) ?_) (.cons ?_ .nil)))
  · generalize e.tk = l'
    induction l' with
    | nil => exact .nil
    | cons k r ih =>
      refine .cons ?_ ih
      cases k with
      | h s => exact .str s
      | p n => exact .int n
  · generalize e.gv = k
    cases k with
    | h s => exact .str s
    | p n => exact .int n
theorem des_lst {K : PySem.W.Frag} {H : Hp} {l : Addr} {xs zs : List V} (hl : H l = some (.lst xs)) : ∀ {es : List De} {ys : List V}, DpAll K H ys (es.map De.d) → DpAll K (upd H l (.lst zs)) ys (es.map De.d)
  | [], _, h => by
    cases h
    exact .nil
  | e :: r, _, h => by
    obtain ⟨x, t, rfl, hx, ht⟩ := dpA_cons h
    exact .cons (de_lst hl hx) (des_lst hl ht)
theorem dp_kv {K : PySem.W.Frag} {H : Hp} (k : Kn) : Dp K H k.v k.d := by
  cases k with
  | h s => exact .str s
  | p n => exact .int n
theorem dpA_kv {K : PySem.W.Frag} {H : Hp} : ∀ l : List Kn, DpAll K H (l.map Kn.v) (l.map Kn.d)
  | [] => .nil
  | k :: r => .cons (dp_kv k) (dpA_kv r)
theorem dpA_sv {K : PySem.W.Frag} {H : Hp} : ∀ l : List Str, DpAll K H (l.map V.str) (l.map PyData.str)
  | [] => .nil
  | k :: r => .cons (.str k) (dpA_sv r)
theorem flat_kn (k : Kn) : flatV k.v = true := by
  cases k <;> rfl
theorem in_kn {hd : List Str} {k : Kn} (h : goK hd k) : inV k.v (hd.map V.str) = k.isH := by
  cases k with
  | h s => exact inV_mem h
  | p n =>
    show inV (.int n) (hd.map V.str) = false
    unfold inV
    rw [List.any_map]
    exact List.any_eq_false.mpr fun y hy => by simp [eqV]
end SfC
namespace SfC
open PySem PySem.Spec PyProof.Rows L2 SfG
abbrev nFace : List Str := ["_law_state", "_law_most", "_law_hidden", "_law_deeds", "_law_name", "_law_takes", "_law_k", "_law_kind_here", "_law_own", "_law_one"]
theorem scFace : FnScope nFace ["_law_state", "_law_most"] (defScope sFace) := ⟨rfl, rfl, rfl, by decide +kernel, rfl, by decide +kernel, by decide +kernel⟩
section
variable {P : Program} {w : World} {K : PySem.W.Frag} {mg : Str → Option Value} {base : Heap}
def spFace (K : PySem.W.Frag) : Sp := fun vs H Q _ => ∃ (p : Addr) (m : Nat) (B : Int), vs = [.ref p, .int m] ∧ 1 ≤ m ∧ m ≤ 8 ∧ Drw H p B ∧ 0 ≤ B ∧ B ≤ 80000 ∧
  ∀ H' v f, Gp p H H' → Drw H' p (B + 500) → Dp K H' v (Fc.d f) → goF f → Q v H'
set_option maxHeartbeats 2000000 in
theorem ok_face {f fG fN fK : Addr} {fd fdG fdN fdK : FuncData} {k : Nat} (F : Fun K "_law_face" "_law_face" sFace f fd) (DG : Has P w K mg base (k + 3) "_law_digit" ["_law_state", "_law_many"] spDigit fG fdG)
    (HN : Has P w K mg base (k + 3) "_law_names" ["_law_state", "_law_many"] spNames fN fdN) (HK : Has P w K mg base (k + 3) "_law_kind" ["_law_state", "_law_hidden"] (spLKind K) fK fdK)
    (mr : mg "range" = none) (ml : mg "len" = none) (mt : mg "tuple" = none) : FnOk P w K mg base CX0 (k + 4) f fd ["_law_state", "_law_most"] (spFace K) := by
  refine F.ok scFace (fun vs H Q E h => ?_) (fun cdv A outer s H vs Q E hr h => ?_)
  · obtain ⟨p, m, B, rfl, _⟩ := h
    rfl
  · obtain ⟨p, m, B, rfl, m1, m8, dr, B0, B9, q⟩ := h
    have nd := scFace.nd
    refine' ⟨_, pss_cons ?s1 (pss_cons ?s2 (pss_cons ?s3 (pss_one ?s4))), ?rd⟩
    case s1 => exact ps_set (i := 2) nd rfl (.inr rfl) (pe_callTy call_tuple_of (by rfl) mt (by decide +kernel) (pa_cons (hcall HN hr (pa_cons (pv 0) (pa_cons (pe_op op_add pe_int (hcall DG hr (pa_cons (pv 0) (pa_cons pe_int pa_nil)))) pa_nil))) pa_nil))
    case s2 => exact ps_set (i := 3) nd rfl (.inl rfl) (pe_lst pa_nil)
    case s3 =>
      refine' ps_for PassesOwn.never rfl (pi_list (hcall HN hr (pa_cons (pv 0) (pa_cons (pe_op op_add pe_int (hcall DG hr (pa_cons (pv 0) (pa_cons (pv 1) pa_nil)))) pa_nil)))) (pg_name (i := 4) nd rfl (.inl rfl)) (pss_cons ?b1 (pss_cons ?b2 (pss_one ?b3)))
      case b1 => exact ps_set (i := 5) nd rfl (.inl rfl) (pe_lst pa_nil)
      case b2 =>
        refine' ps_for PassesOwn.never rfl (pi_range1 (by rfl) mr (pa_cons (hcall DG hr (pa_cons (pv 0) (pa_cons pe_int pa_nil))) pa_nil)) (pg_name (i := 6) nd rfl (.inl rfl)) (pss_cons ?c1 (pss_one ?c2))
        case c1 => exact ps_par (i := 7) (j := 8) rfl nd rfl rfl (by decide) rfl rfl (pa_cons (hcall HK hr (pa_cons (pv 0) (pa_cons (pv 2) pa_nil))) (pa_cons (pe_op op_add pe_int (hcall DG hr (pa_cons (pv 0) (pa_cons pe_int pa_nil)))) pa_nil)) (by rfl)
        case c2 =>
          exact ps_expr (pe_bm PySem.F.plainAttrs_list PySem.F.slot_list_append PySem.F.type_list_append mt_append (pv 5) (pa_cons (pe_ifExp (pt_cmpR op_eq (pe_callB call_len_seq (by rfl) ml PySem.boot_len (pa_cons
            (pe_lc (own := [("_law_one", 9)]) (g := gName 9) rfl nd (pi_list (pv 5)) (blkOk_by (own := [("_law_one", 9)]) (N := nFace) (sc := defScope sFace) (by decide +kernel)) (fun _ _ _ _ _ => pg_name (i := 9) nd rfl (Or.inl rfl))
              (fun _ _ _ _ _ => pts_one (pt_cmpR (r := rIn K false) op_in_seq (pv 9) (pv 2) rfl)) (fun _ _ _ _ _ => pv 9)) pa_nil)) pe_int (nomark _)) (pv 8) (pv 7)) pa_nil))
      case b3 =>
        exact ps_expr (pe_bm PySem.F.plainAttrs_list PySem.F.slot_list_append PySem.F.type_list_append mt_append (pv 3) (pa_cons (pe_tup (pa_cons (pv 4) (pa_cons (pe_callTy call_tuple_of (by rfl) mt (by decide +kernel) (pa_cons (pv 5) pa_nil)) (pa_cons (hcall HK hr (pa_cons (pv 0) (pa_cons (pv 2) pa_nil))) pa_nil)))) pa_nil))
    case s4 => exact ps_ret (pe_tup (pa_cons (pv 2) (pa_cons (pe_callTy call_tuple_of (by rfl) mt (by decide +kernel) (pa_cons (pv 3) pa_nil)) pa_nil)))
    case rd =>
    -- hidden
    refine ⟨_, rfl, _, rfl, p, 2, _, rfl, dr, by omega, by decide, by decide, fun H1 d b1 dr1 d0 d2 => ?_⟩
    refine ⟨1, d, rfl, rfl, ?_⟩
    have c1 : (1 : Int) + d = (((1 + d).toNat : Nat) : Int) := by omega
    refine ⟨p, (1 + d).toNat, _, (by show [V.ref p, V.int (1 + d)] = [V.ref p, V.int (((1 + d).toNat : Nat) : Int)]; rw [← c1]), by omega, by omega, dr1, by omega, by omega, fun H2 l hd g2 dr2 nl hl up hn h1 h2 => ?_⟩
    refine ⟨l, _, rfl, .inl ⟨.inl (.inl hl), fun ph nph => ?_⟩⟩
    have gp3 : Gp p H (upd H2 ph (.tup (hd.map V.str))) := ((Gp.but b1).trans g2).trans (Gp.gr (Gr.new nph))
    have dr3 : Drw (upd H2 ph (.tup (hd.map V.str))) p (B + 161) := (dr2.new nph).mono (by omega)
    have hph : upd H2 ph (.tup (hd.map V.str)) ph = some (.tup (hd.map V.str)) := upd_same
    have gh : goH hd := ⟨h1, by omega, hn, up⟩
    generalize upd H2 ph (.tup (hd.map V.str)) = H3 at gp3 dr3 hph ⊢
    clear hl nl nph g2 dr2 b1 dr1
    refine ⟨Nat.zero_le _, fun dl ndl => ?_⟩
    have ndp : dl ≠ p := dr3.ne ndl
    -- names of deeds
    refine ⟨_, rfl, _, rfl, _, rfl, p, m, _, rfl, dr3.new ndl, by omega, by omega, by omega, fun H4 d4 b4 dr4 e0 e1 => ?_⟩
    refine ⟨1, d4, rfl, rfl, ?_⟩
    have c4 : (1 : Int) + d4 = (((1 + d4).toNat : Nat) : Int) := by omega
    refine ⟨p, (1 + d4).toNat, _, (by show [V.ref p, V.int (1 + d4)] = [V.ref p, V.int (((1 + d4).toNat : Nat) : Int)]; rw [← c4]), by omega, by omega, dr4, by omega, by omega, fun H5 nl ns g5 dr5 nnl hnl upn hnn n1 n2 => ?_⟩
    have nlp : nl ≠ p := dr4.ne nnl
    have gp5 : Gp p H3 H5 := ((Gp.gr (Gr.new ndl)).trans (Gp.but b4)).trans g5
    have hdl5 : H5 dl = some (.lst []) := g5.lst ndp ((b4 dl ndp).trans upd_same)
    have hph5 : H5 ph = some (.tup (hd.map V.str)) := by
      have z := (dr3.kd (K := K) gp5).t (.inl (.inl hph))
      exact gp5.keep ph _ (by intro z; obtain ⟨_, _, _, e, _⟩ := dr3; rw [← z, hph] at e; cases e) hph (fun _ z => by cases z)
    have hne : nl ≠ dl := by
      intro z
      rw [z] at nnl
      have z2 := (b4 dl ndp).trans (upd_same (H := H3) (a := dl) (o := .lst []))
      rw [nnl] at z2
      cases z2
    have php : ph ≠ p := by
      intro z
      obtain ⟨_, _, _, e, _⟩ := dr3
      rw [← z, hph] at e
      cases e
    have drF : Drw H5 p (B + 322) := dr5.mono (by omega)
    have gpF : Gp p H H5 := gp3.trans gp5
    have ndlH : H dl = none := gp3.back dl ndp ndl
    clear b4 dr4 g5 dr5 gp5
    have n8 : ns.length ≤ 8 := by omega
    refine ⟨nl, rfl, ⟨_, .inl (.inl hnl)⟩, ?_⟩
    refine for_it (walk_list (xs := ns.map V.str)) (fun i σ H6 => ∃ (es : List De) (xs : List V) (y4 y5 y6 y7 y8 : Option V), σ = [some (.ref p), some (.int m), some (.ref ph), some (.ref dl), y4, y5, y6, y7, y8, none] ∧
      H6 dl = some (.lst xs) ∧ DpAll K H6 xs (es.map De.d) ∧ es.map De.nm = ns.take i ∧ (∀ e ∈ es, goD hd e) ∧ H6 nl = some (.lst (ns.map V.str)) ∧ H6 ph = some (.tup (hd.map V.str)) ∧ Gp p H H6 ∧ Drw H6 p (B + 322 + 13 * (i : Nat)))
      ⟨[], [], none, none, none, none, none, rfl, hdl5, .nil, rfl, by simp, hnl, hph5, gpF, drF.mono (by omega)⟩ ?h1 ?h2 ?h3
    case h1 =>
      rintro i σ H6 hi ⟨es, xs, y4, y5, y6, y7, y8, rfl, _, _, _, _, hn6, _⟩
      exact .inl (.inl hn6)
    case h3 =>
      rintro σ H6 ⟨es, xs, y4, y5, y6, y7, y8, rfl, hd6, da6, nm6, ok6, hn6, hp6, g6, dr6⟩
      rw [List.length_map, List.take_length] at nm6
      have lxs : xs.length = ns.length := by
        have := dpA_len da6
        rw [List.length_map] at this
        rw [this, ← nm6, List.length_map]
      have les : es.length = ns.length := by rw [← nm6, List.length_map]
      refine ⟨_, rfl, _, rfl, dl, _, rfl, .inl ⟨.inl (.inl hd6), fun td ntd => ?_⟩⟩
      have g7 : Gr H6 (upd H6 td (.tup xs)) := Gr.new ntd
      have e7 : upd H6 td (.tup xs) td = some (.tup xs) := upd_same
      generalize upd H6 td (.tup xs) = H7 at g7 e7 ⊢
      refine ⟨by show 2 ≤ sizeLine; decide, fun tf ntf => ?_⟩
      have g8 : Gr H7 (upd H7 tf (.tup [.ref ph, .ref td])) := Gr.new ntf
      refine q _ (.ref tf) ⟨hd, es⟩ (g6.trans (Gp.gr (g7.trans g8))) (((dr6.gr g7).gr g8).mono ?_) ?_ ?_
      · rw [List.length_map]
        omega
      · exact .tup (.inl (.inl upd_same)) (.cons (.tup (.inl (.inl (g8.tup (g7.tup hp6)))) (dpA_sv hd)) (.cons (.tup (.inl (.inl (g8.tup e7))) ((g7.trans g8).kd.dpA da6)) .nil))
      · exact ⟨gh, by show 1 ≤ es.length; omega, by show es.length ≤ 8; omega, by show (es.map De.nm).Pairwise lt; rw [nm6]; exact upn, ok6⟩
    case h2 =>
      rintro i x σ H6' H6 hi ⟨es, xs, y4, y5, y6, y7, y8, rfl, hd6, da6, nm6, ok6, hn6, hp6, g6, dr6⟩ ⟨rfl, hx⟩
      rw [List.length_map] at hi
      rw [List.getElem?_map] at hx
      obtain ⟨nm, hnm, rfl⟩ := Option.map_eq_some_iff.mp hx
      have gnm := hnn nm (List.mem_of_getElem? hnm)
      have lxs : xs.length ≤ 8 := by
        have a1 := dpA_len da6
        rw [List.length_map] at a1
        have a2 : es.length = (ns.take i).length := by rw [← nm6, List.length_map]
        rw [List.length_take] at a2
        omega
      -- takes
      refine ⟨Nat.zero_le _, fun tl ntl => ?_⟩
      have ntp : tl ≠ p := dr6.ne ntl
      refine ⟨_, rfl, p, 4, _, rfl, dr6.new ntl, by omega, by decide, by decide, fun H7 d7 b7 dr7 f0 f4 => ?_⟩
      have gp7 : Gp p H6 H7 := (Gp.gr (Gr.new ntl)).trans (Gp.but b7)
      have htl7 : H7 tl = some (.lst []) := (b7 tl ntp).trans upd_same
      refine ⟨_, rfl, by omega, by omega, ?_⟩
      refine for_it (walk_range (lo := 0) (n := d7.toNat)) (fun j σ H8 => ∃ (ks : List Kn) (y6 y7 y8 : Option V), σ = [some (.ref p), some (.int m), some (.ref ph), some (.ref dl), some (.str nm), some (.ref tl), y6, y7, y8, none] ∧
        H8 tl = some (.lst (ks.map Kn.v)) ∧ ks.length = j ∧ (∀ k ∈ ks, goK hd k) ∧ hidN ks ≤ 2 ∧ Gp p H6 H8 ∧ Drw H8 p (B + 322 + 13 * (i : Nat) + 1 + 3 * (j : Nat)))
        ⟨[], _, _, _, rfl, htl7, rfl, by simp, by decide, gp7, dr7.mono (by omega)⟩ (fun _ _ _ _ _ => trivial) ?i2 ?i3
      case i2 =>
        rintro j x σ H8' H8 hj ⟨ks, z6, z7, z8, rfl, ht8, lk, gk8, hk8, g8, dr8⟩ ⟨rfl, rfl⟩
        have hp8 : H8 ph = some (.tup (hd.map V.str)) := g8.keep ph _ php hp6 (fun _ z => by cases z)
        refine ⟨_, rfl, _, rfl, p, ph, hd, _, rfl, .inl (.inl hp8), gh.hi, dr8, by omega, by omega, fun H9 kn g9 dr9 gkn => ?_⟩
        refine ⟨_, rfl, p, 8, _, rfl, dr9, by omega, by decide, by decide, fun H10 d10 b10 dr10 o0 o8 => ?_⟩
        refine ⟨2, d10, rfl, rfl, _, _, rfl, ?_⟩
        have g10 : Gp p H8 H10 := g9.trans (Gp.but b10)
        have ht10 : H10 tl = some (.lst (ks.map Kn.v)) := g10.lst ntp ht8
        have hp10 : H10 ph = some (.tup (hd.map V.str)) := g10.keep ph _ php hp8 (fun _ z => by cases z)
        -- how many are hidden so far
        refine ⟨_, rfl, .inl ⟨rfl, _, .inl (.inl ht10)⟩, _, rfl, tl, rfl, ⟨_, .inl (.inl ht10)⟩, fun D nD => ?_⟩
        have nDt : tl ≠ D := ne_of_none ht10 nD
        have gD : ∀ o, Gr H10 (upd H10 D o) := fun o => Gr.new nD
        refine lc_it (walk_list (xs := ks.map Kn.v)) (fun a H11 => H11 = upd H10 D (.lst (((ks.take a).filter Kn.isH).map Kn.v))) rfl ?l0 ?l1 ?l2
        case l0 =>
          rintro a H11 ha rfl
          exact .inl (.inl ((gD _).lst ht10))
        case l1 =>
          rintro a v H11 H11' ha rfl ⟨rfl, hv⟩
          rw [List.getElem?_map] at hv
          obtain ⟨ka, hka, rfl⟩ := Option.map_eq_some_iff.mp hv
          refine ⟨rfl, _, rfl, _, rfl, ph, _, rfl, .inr (.inl (.inl ((gD _).tup hp10))), flat_kn ka, flat_strs hd, _, rfl, ?_⟩
          show if inV ka.v (hd.map V.str) = true then _ else _
          rw [in_kn (gk8 ka (List.mem_of_getElem? hka))]
          have ek : (ks.take (a + 1)).filter Kn.isH = (ks.take a).filter Kn.isH ++ (if ka.isH = true then [ka] else []) := by
            rw [List.take_add_one, hka, List.filter_append]
            cases h : ka.isH <;> simp [h]
          cases h : ka.isH with
          | true =>
            rw [h] at ek
            refine iteT ⟨_, rfl, _, upd_same, ?_, ?_⟩
            · rw [List.length_map]
              have a1 := List.length_filter_le Kn.isH (ks.take a)
              rw [List.length_take] at a1
              exact small1000 (by omega)
            · rw [upd_upd, ek, List.map_append]
              rfl
          | false =>
            rw [h] at ek
            refine iteF ?_
            show _ = _
            rw [ek, if_neg (by decide), List.append_nil]
        case l2 =>
        rintro H11 rfl
        rw [List.length_map, List.take_length]
        refine ⟨D, _, rfl, .inl (.inl (.inl upd_same)), rfl, _, rfl, ?_⟩
        rw [List.length_map, show (ks.filter Kn.isH).length = hidN ks from rfl]
        have g11 : Gp p H8 (upd H10 D (.lst ((ks.filter Kn.isH).map Kn.v))) := g10.trans (Gp.gr (gD _))
        have ht11 := (gD (.lst ((ks.filter Kn.isH).map Kn.v))).lst ht10
        have dr11 : Drw (upd H10 D (.lst ((ks.filter Kn.isH).map Kn.v))) p (B + 322 + 13 * (i : Nat) + 1 + 3 * ((j + 1 : Nat) : Int)) := (dr10.new nD).mono (by omega)
        generalize upd H10 D (.lst ((ks.filter Kn.isH).map Kn.v)) = H11 at g11 ht11 dr11 ⊢
        have fin : ∀ kz : Kn, goK hd kz → hidN (ks ++ [kz]) ≤ 2 → ∃ (ks' : List Kn) (y6 y7 y8 : Option V), [some (V.ref p), some (V.int m), some (.ref ph), some (.ref dl), some (.str nm), some (.ref tl), some (.int (0 + (j : Nat))), some kn.v, some (.int (2 + d10)), none] = [some (.ref p), some (.int m), some (.ref ph), some (.ref dl), some (.str nm), some (.ref tl), y6, y7, y8, none] ∧
            upd H11 tl (.lst (ks.map Kn.v ++ [kz.v])) tl = some (.lst (ks'.map Kn.v)) ∧ ks'.length = j + 1 ∧ (∀ k ∈ ks', goK hd k) ∧ hidN ks' ≤ 2 ∧ Gp p H6 (upd H11 tl (.lst (ks.map Kn.v ++ [kz.v]))) ∧ Drw (upd H11 tl (.lst (ks.map Kn.v ++ [kz.v]))) p (B + 322 + 13 * (i : Nat) + 1 + 3 * ((j + 1 : Nat) : Int)) := by
          intro kz gz hz
          refine ⟨ks ++ [kz], _, _, _, rfl, ?_, ?_, ?_, hz, (g8.trans g11).upd_new ntl, dr11.upd ntp⟩
          · rw [upd_same, List.map_append]
            rfl
          · rw [List.length_append, lk]
            rfl
          · intro k hk
            rcases List.mem_append.mp hk with h | h
            · exact gk8 k h
            · have : k = kz := by simpa using h
              rw [this]
              exact gz
        have szt : (ks.map Kn.v).length < sizeLine := by
          rw [List.length_map]
          exact small1000 (by omega)
        by_cases h2 : hidN ks = 2
        · rw [h2]
          refine iteT ⟨_, rfl, tl, _, _, rfl, rfl, ht11, szt, ?_⟩
          refine fin (.p (2 + d10)) ⟨by omega, by omega⟩ ?_
          rw [hidN_snoc]
          show hidN ks + 0 ≤ 2
          omega
        · rw [decide_eq_false (show ¬ V.int ((hidN ks : Nat) : Int) = V.int 2 from fun e => h2 (by have := V.int.inj e; omega))]
          refine iteF ⟨_, rfl, tl, _, _, rfl, rfl, ht11, szt, ?_⟩
          refine fin kn gkn ?_
          rw [hidN_snoc]
          split <;> omega
      case i3 =>
        rintro σ H8 ⟨ks, z6, z7, z8, rfl, ht8, lk, gk8, hk8, g8, dr8⟩
        have hd8 : H8 dl = some (.lst xs) := g8.lst ndp hd6
        have hp8 : H8 ph = some (.tup (hd.map V.str)) := g8.keep ph _ php hp6 (fun _ z => by cases z)
        have hn8 : H8 nl = some (.lst (ns.map V.str)) := g8.lst nlp hn6
        refine ⟨_, rfl, .inl ⟨rfl, _, .inl (.inl hd8)⟩, _, rfl, _, rfl, tl, _, rfl, .inl ⟨.inl (.inl ht8), fun tt ntt => ?_⟩⟩
        have g9 : Gr H8 (upd H8 tt (.tup (ks.map Kn.v))) := Gr.new ntt
        have e9 : upd H8 tt (.tup (ks.map Kn.v)) tt = some (.tup (ks.map Kn.v)) := upd_same
        generalize upd H8 tt (.tup (ks.map Kn.v)) = H9 at g9 e9 ⊢
        have dr9 := dr8.gr g9
        refine ⟨_, rfl, _, rfl, p, ph, hd, _, rfl, .inl (.inl (g9.tup hp8)), gh.hi, dr9, by omega, by omega, fun H10 kn g10 dr10 gkn => ?_⟩
        have ttp : tt ≠ p := by
          intro z
          obtain ⟨_, _, _, e, _⟩ := dr9
          rw [← z, e9] at e
          cases e
        have e10 : H10 tt = some (.tup (ks.map Kn.v)) := g10.keep tt _ ttp e9 (fun _ z => by cases z)
        refine ⟨by show 3 ≤ sizeLine; decide, fun te nte => ?_⟩
        have g11 : Gr H10 (upd H10 te (.tup [.str nm, .ref tt, kn.v])) := Gr.new nte
        have e11 : upd H10 te (.tup [.str nm, .ref tt, kn.v]) te = some (.tup [.str nm, .ref tt, kn.v]) := upd_same
        generalize upd H10 te (.tup [.str nm, .ref tt, kn.v]) = H11 at g11 e11 ⊢
        have gA : Gp p H6 H11 := (g8.trans (Gp.gr g9)).trans (g10.trans (Gp.gr g11))
        have hd11 : H11 dl = some (.lst xs) := gA.lst ndp hd6
        have hn11 : H11 nl = some (.lst (ns.map V.str)) := gA.lst nlp hn6
        have hp11 : H11 ph = some (.tup (hd.map V.str)) := gA.keep ph _ php hp6 (fun _ z => by cases z)
        have dr11 : Drw H11 p (B + 322 + 13 * ((i + 1 : Nat) : Int)) := (dr10.gr g11).mono (by omega)
        have new : Dp K H11 (.ref te) (De.d ⟨nm, ks, kn⟩) := .tup (.inl (.inl e11)) (.cons (.str nm) (.cons (.tup (.inl (.inl (g11.tup e10))) (dpA_kv ks)) (.cons (dp_kv kn) .nil)))
        refine ⟨dl, _, _, rfl, rfl, hd11, small1000 (by omega), ?_⟩
        refine ⟨es ++ [⟨nm, ks, kn⟩], xs ++ [.ref te], _, _, _, _, _, rfl, upd_same, ?_, ?_, ?_, ?_, ?_, (g6.trans gA).upd_new ndlH, dr11.upd ndp⟩
        · rw [List.map_append]
          exact dpA_app (des_lst hd11 ((dr6.kd (K := K) gA).dpA da6)) (.cons (de_lst hd11 new) .nil)
        · rw [List.map_append, nm6, List.take_add_one, hnm]
          rfl
        · intro e he
          rcases List.mem_append.mp he with h | h
          · exact ok6 e h
          · have : e = ⟨nm, ks, kn⟩ := by simpa using h
            rw [this]
            exact ⟨gnm, by show ks.length ≤ 3; omega, gk8, hk8, gkn⟩
        · rw [upd_ne hne]
          exact hn11
        · rw [upd_ne (by intro z; rw [z, hd11] at hp11; cases hp11)]
          exact hp11
end
end SfC
namespace SfC
open PySem PySem.Spec PyProof.Rows L2 SfG
/-! ### words and rows of a face's text -/
abbrev blank : Str := " "
abbrev feed : Str := "\n"
abbrev colon : Str := ":"
def kS : Kn → Str
  | .h s => s
  | .p n => ⟨#[48 + n.toNat]⟩
/-- a word: not empty, neither blanks nor line feeds -/
def clean (z : Str) : Prop := 1 ≤ z.length ∧ z.length ≤ 8 ∧ ∀ c ∈ z.cps.toList, c ≠ 32 ∧ c ≠ 10
theorem let_not : ∀ c, c < 128 → isLet c = true → c ≠ 32 ∧ c ≠ 10 := by decide +kernel
theorem clean_name {z : Str} (h : isN z = true) : clean z := by
  obtain ⟨h8, h1, _, _, _, hl⟩ := isN_txt h
  refine ⟨h1, h8, fun c hc => ?_⟩
  have hlc := List.all_eq_true.mp hl c hc
  exact let_not c (let_range hlc) hlc
theorem digit_str : ∀ n : Nat, n < 10 → ((toString (n : Int) : String) : Str) = ⟨#[48 + n]⟩ := by decide +kernel
theorem str_kind {n : Int} (h2 : 2 ≤ n) (h9 : n ≤ 9) : ((toString n : String) : Str) = kS (.p n) := by
  have e := digit_str n.toNat (by omega)
  rw [Int.toNat_of_nonneg (by omega)] at e
  exact e
theorem clean_kind {hd : List Str} (hn : ∀ z ∈ hd, isN z = true) {k : Kn} (h : goK hd k) : clean (kS k) := by
  cases k with
  | h s => exact clean_name (hn s h)
  | p n =>
    obtain ⟨h2, h9⟩ := h
    refine ⟨Nat.le_refl 1, (by show 1 ≤ 8; decide), fun c hc => ?_⟩
    have e : c = 48 + n.toNat := by simpa [kS] using hc
    omega
theorem clean_colon : clean colon := by unfold clean; decide +kernel
def wsD (e : De) : List Str := e.nm :: (e.tk.map kS ++ [colon, kS e.gv])
def wsH (hd : List Str) : List Str := ("hidden" : Str) :: hd
def rowD (e : De) : Str := Txt.join blank (wsD e)
def rowH (hd : List Str) : Str := Txt.join blank (wsH hd)
def rowsF (f : Fc) : List Str := rowH f.hd :: f.ds.map rowD
def textF (f : Fc) : Str := Txt.join feed (rowsF f)
theorem clean_wsD {hd : List Str} (hn : ∀ z ∈ hd, isN z = true) {e : De} (g : goD hd e) : ∀ z ∈ wsD e, clean z := by
  intro z hz
  rcases List.mem_cons.mp hz with rfl | hz
  · exact clean_name g.nm
  · rcases List.mem_append.mp hz with h | h
    · obtain ⟨k, hk, rfl⟩ := List.mem_map.mp h
      exact clean_kind hn (g.tk k hk)
    · have h' : z = colon ∨ z = kS e.gv := by simpa using h
      rcases h' with rfl | rfl
      · exact clean_colon
      · exact clean_kind hn g.gv
theorem clean_wsH {hd : List Str} (hn : ∀ z ∈ hd, isN z = true) : ∀ z ∈ wsH hd, clean z := by
  intro z hz
  rcases List.mem_cons.mp hz with rfl | hz
  · unfold clean
    decide +kernel
  · exact clean_name (hn z hz)
theorem tl_blank : TL.tl blank = [32] := by decide +kernel
theorem tl_feed : TL.tl feed = [10] := by decide +kernel
theorem split_words {ws : List Str} (hne : ws ≠ []) (h : ∀ z ∈ ws, clean z) : Txt.split (Txt.join blank ws) blank = ws :=
  TL.split_join (s := 32) (S := []) tl_blank (by decide +kernel) hne fun p hp e => ((h p hp).2.2 32 e).1 rfl
theorem joinL_in {S : List Nat} {c : Nat} : ∀ {ls : List (List Nat)}, c ∈ TL.joinL S ls → c ∈ S ∨ ∃ l ∈ ls, c ∈ l
  | [], h => by cases h
  | [p], h => .inr ⟨p, List.mem_cons_self, h⟩
  | p :: q :: r, h => by
    have h' : c ∈ p ++ (S ++ TL.joinL S (q :: r)) := h
    rcases List.mem_append.mp h' with h1 | h1
    · exact .inr ⟨p, List.mem_cons_self, h1⟩
    · rcases List.mem_append.mp h1 with h2 | h2
      · exact .inl h2
      · rcases joinL_in h2 with h3 | ⟨l, hl, hc⟩
        · exact .inl h3
        · exact .inr ⟨l, List.mem_cons_of_mem _ hl, hc⟩
theorem row_feed {ws : List Str} (h : ∀ z ∈ ws, clean z) : 10 ∉ TL.tl (Txt.join blank ws) := by
  intro hc
  rw [TL.join_eq, TL.tl_join, tl_blank] at hc
  rcases joinL_in hc with h1 | ⟨l, hl, hc⟩
  · simp at h1
  · obtain ⟨z, hz, rfl⟩ := List.mem_map.mp hl
    exact ((h z hz).2.2 10 hc).2 rfl
theorem split_rows {rws : List Str} (hne : rws ≠ []) (h : ∀ z ∈ rws, 10 ∉ TL.tl z) : Txt.split (Txt.join feed rws) feed = rws :=
  TL.split_join (s := 10) (S := []) tl_feed (by decide +kernel) hne h
theorem joinL_length {S : List Nat} {m : Nat} (hS : S.length = 1) : ∀ {ls : List (List Nat)}, (∀ l ∈ ls, l.length ≤ m) → (TL.joinL S ls).length ≤ ls.length * (m + 1)
  | [], _ => by simp [TL.joinL]
  | [p], h => by
    have := h p List.mem_cons_self
    show p.length ≤ 1 * (m + 1)
    omega
  | p :: q :: r, h => by
    have h1 := h p List.mem_cons_self
    have h2 := joinL_length hS (ls := q :: r) fun l hl => h l (List.mem_cons_of_mem _ hl)
    show (p ++ (S ++ TL.joinL S (q :: r))).length ≤ _
    rw [List.length_append, List.length_append, hS]
    rw [List.length_cons, Nat.succ_mul]
    omega
theorem join_len (y : Str) (hy : y.length = 1) {m : Nat} {ws : List Str} (h : ∀ z ∈ ws, z.length ≤ m) : (Txt.join y ws).length ≤ ws.length * (m + 1) := by
  have hS : (TL.tl y).length = 1 := by
    rw [← hy, len_list]
  have := joinL_length (m := m) hS (ls := ws.map TL.tl) fun l hl => by
    obtain ⟨z, hz, rfl⟩ := List.mem_map.mp hl
    have := h z hz
    rw [len_list] at this
    exact this
  rw [List.length_map, ← TL.tl_join, ← TL.join_eq] at this
  rw [len_list]
  exact this
theorem row_len {ws : List Str} (h : ∀ z ∈ ws, clean z) : (Txt.join blank ws).length ≤ ws.length * 9 := join_len blank (by decide +kernel) fun z hz => (h z hz).2.1
theorem wsD_len {hd : List Str} {e : De} (g : goD hd e) : (wsD e).length ≤ 6 := by
  unfold wsD
  rw [List.length_cons, List.length_append, List.length_map]
  have := g.len
  show e.tk.length + 2 + 1 ≤ 6
  omega
theorem wsH_len {hd : List Str} (g : goH hd) : (wsH hd).length ≤ 3 := by
  have := g.hi
  show hd.length + 1 ≤ 3
  omega
/-! ### texts put together -/
theorem tl_inj {a b : Str} (h : TL.tl a = TL.tl b) : a = b := str_ext h
theorem tl_app (a b : Str) : TL.tl (a ++ b) = TL.tl a ++ TL.tl b := TL.tl_append a b
theorem joinL_snoc (S : List Nat) (x : List Nat) : ∀ (ls : List (List Nat)), ls ≠ [] → TL.joinL S (ls ++ [x]) = TL.joinL S ls ++ (S ++ x)
  | [], h => absurd rfl h
  | [p], _ => rfl
  | p :: q :: r, _ => by
    show p ++ (S ++ TL.joinL S ((q :: r) ++ [x])) = (p ++ (S ++ TL.joinL S (q :: r))) ++ (S ++ x)
    rw [joinL_snoc S x (q :: r) (by simp)]
    simp [List.append_assoc]
theorem join_snoc (y x : Str) {ws : List Str} (h : ws ≠ []) : Txt.join y (ws ++ [x]) = (Txt.join y ws ++ y) ++ x := by
  refine tl_inj ?_
  rw [tl_app, tl_app, TL.join_eq, TL.join_eq, TL.tl_join, TL.tl_join, List.map_append]
  show TL.joinL (TL.tl y) (ws.map TL.tl ++ [TL.tl x]) = _
  rw [joinL_snoc _ _ _ (by simpa using h), List.append_assoc]
theorem join_one (y x : Str) : Txt.join y [x] = x := by
  refine tl_inj ?_
  rw [TL.join_eq, TL.tl_join]
  rfl
theorem three : ((blank ++ colon) ++ blank : Str) = " : " := by decide +kernel
theorem app_assoc (a b c : Str) : (a ++ b) ++ c = a ++ (b ++ c) := by
  refine tl_inj ?_
  simp [tl_app, List.append_assoc]
/-- a row of a deed, as the law writes it -/
theorem rowD_eq (e : De) : rowD e = (Txt.join blank (e.nm :: e.tk.map kS) ++ (" : " : Str)) ++ kS e.gv := by
  unfold rowD wsD
  rw [show e.nm :: (e.tk.map kS ++ [colon, kS e.gv]) = ((e.nm :: e.tk.map kS) ++ [colon]) ++ [kS e.gv] by simp]
  rw [join_snoc _ _ (by simp), join_snoc _ _ (by simp), ← three]
  simp [app_assoc]
end SfC
namespace SfC
open PySem PySem.Spec PyProof.Rows L2 SfG
/-! ### the small defs that readers call -/
theorem scNextN : FnScope ["thing", "ahead"] ["thing", "ahead"] (defScope sNextN) := ⟨rfl, rfl, rfl, by decide +kernel, rfl, by decide +kernel, by decide +kernel⟩
theorem scFigs : FnScope ["word", "most"] ["word", "most"] (defScope sFigs) := ⟨rfl, rfl, rfl, by decide +kernel, rfl, by decide +kernel, by decide +kernel⟩
theorem scNum : FnScope ["word"] ["word"] (defScope sNum) := ⟨rfl, rfl, rfl, by decide +kernel, rfl, by decide +kernel, by decide +kernel⟩
theorem scWords : FnScope ["row", "words"] ["row"] (defScope sWords) := ⟨rfl, rfl, rfl, by decide +kernel, rfl, by decide +kernel, by decide +kernel⟩
theorem scAreT : FnScope ["thing", "hidden"] ["thing", "hidden"] (defScope sAreT) := ⟨rfl, rfl, rfl, by decide +kernel, rfl, by decide +kernel, by decide +kernel⟩
theorem scKindBy : FnScope ["word", "number"] ["word"] (defScope sKindBy) := ⟨rfl, rfl, rfl, by decide +kernel, rfl, by decide +kernel, by decide +kernel⟩
theorem scRowsOf : FnScope ["text"] ["text"] (defScope sRowsOf) := ⟨rfl, rfl, rfl, by decide +kernel, rfl, by decide +kernel, by decide +kernel⟩
theorem scNoMore : FnScope ["rows", "most"] ["rows", "most"] (defScope sNoMore) := ⟨rfl, rfl, rfl, by decide +kernel, rfl, by decide +kernel, by decide +kernel⟩
theorem let_digit : ∀ c, c < 128 → isLet c = true → Unicode.isDigit c = false := by decide +kernel
theorem name_digit {z : Str} (h : isN z = true) : Txt.isdigit z = false := by
  obtain ⟨_, h1, _, _, _, hl⟩ := isN_txt h
  unfold Txt.isdigit
  rw [← Array.all_toList]
  cases hc : z.cps.toList with
  | nil =>
    rw [len_list, hc] at h1
    exact absurd h1 (by simp)
  | cons a r =>
    rw [hc] at hl
    have ha := List.all_eq_true.mp hl a List.mem_cons_self
    rw [List.all_cons, let_digit a (let_range ha) ha]
    simp
theorem fig_txt : ∀ n : Nat, n < 10 → Txt.isdigit ⟨#[48 + n]⟩ = true ∧ Txt.isascii ⟨#[48 + n]⟩ = true ∧ PySem.intText? ⟨#[48 + n]⟩ = some (n : Int) := by decide +kernel
section
variable {P : Program} {w : World} {K : PySem.W.Frag} {mg : Str → Option Value} {base : Heap}
def spNextN : Sp := fun vs H Q _ => ∃ z a : Str, vs = [.str z, .str a] ∧ isN z = true ∧ lt a z ∧ Q (.bl true) H
theorem ok_nextN {f fN : Addr} {fd fdN : FuncData} {k : Nat} (F : Fun K "is_next_name" "is_next_name" sNextN f fd) (HN : Has P w K mg base (k + 1) "is_name" ["thing"] spName fN fdN) : FnOk P w K mg base CX0 (k + 2) f fd ["thing", "ahead"] spNextN := by
  refine F.ok scNextN (fun vs H Q E h => ?_) (fun cdv A outer s H vs Q E hr h => ?_)
  · obtain ⟨z, a, rfl, _⟩ := h
    rfl
  · obtain ⟨z, a, rfl, hz, hl, q⟩ := h
    refine ⟨_, pss_one (ps_ret (pe_and (hcall HN hr (pa_cons (pv 0) pa_nil)) (pe_one (pe_cmpR op_lt_str (pv 1) (pv 0) (nomark _))))), ?_⟩
    refine ⟨_, rfl, z, rfl, hz, _, rfl, iteT ⟨_, rfl, _, rfl, a, z, rfl, rfl, ?_⟩⟩
    rw [decide_eq_true hl]
    exact q
def numK : Kn → V
  | .h _ => .non
  | .p n => .int n
def spFigs : Sp := fun vs H Q _ => ∃ (k : Kn) (hd : List Str), vs = [.str (kS k), .int 2] ∧ goK hd k ∧ (∀ z ∈ hd, isN z = true) ∧ Q (numK k) H
theorem ok_figs {f : Addr} {fd : FuncData} {k : Nat} (F : Fun K "number_by_figures" "number_by_figures" sFigs f fd) (mi : mg "isinstance" = none) (m1 : mg "str" = none) (ml : mg "len" = none) (mn : mg "int" = none) :
    FnOk P w K mg base CX0 (k + 1) f fd ["word", "most"] spFigs := by
  refine F.ok scFigs (fun vs H Q E h => ?_) (fun cdv A outer s H vs Q E hr h => ?_)
  · obtain ⟨k, hd, rfl, _⟩ := h
    rfl
  · obtain ⟨k, hd, rfl, hk, hn, q⟩ := h
    refine ⟨_, pss_cons (ps_if (PW.pt (pw_or (pt_not (pt_val (pe_isi "str" 0 mi m1 (by decide +kernel))))
        (pw_or (pt_cmpR op_gt (pe_callB call_len_str (by rfl) ml PySem.boot_len (pa_cons (pv 0) pa_nil)) (pv 1) (nomark _))
        (pw_or (pt_not (pt_val (pe_m0 PySem.F.slot_str_isdigit PySem.F.type_str_isdigit mt_isdigit (pv 0))))
        (pw_or1 (pt_not (pt_val (pe_m0 PySem.F.slot_str_isascii PySem.F.type_str_isascii mt_isascii (pv 0)))))))))
        (pss_one (ps_ret pe_non)) pss_nil)
      (pss_cons (ps_if (PW.pt (pw_and (pt_cmpR op_eq (pe_item_str (pv 0) pe_int (fun _ _ => rfl)) pe_str (nomark _)) (pw_and1 (pt_cmpR op_ne (pv 0) pe_str (nomark _)))))
        (pss_one (ps_ret pe_non)) pss_nil)
      (pss_one (ps_ret (pe_callTy call_int_str (by rfl) mn (by decide +kernel) (pa_cons (pv 0) pa_nil))))), ?_⟩
    have cl := clean_kind hn hk
    have hz : (kS k).length ≤ sizeLine := by
      have := cl.2.1
      rw [sizeLine_eq]
      omega
    refine ⟨_, rfl, "str", true, (is_str _).1, by decide +kernel, _, rfl, iteF ⟨_, rfl, _, rfl, hz, _, rfl, _, 2, rfl, rfl, _, rfl, ?_⟩⟩
    cases k with
    | h s =>
      have hs := hn s hk
      have q' : Q .non H := q
      by_cases h2 : ((kS (.h s)).length : Int) > 2
      · rw [decide_eq_true h2]
        exact iteT (iteT q')
      · rw [decide_eq_false h2]
        refine iteF ⟨_, rfl, ⟨_, rfl⟩, _, rfl, rfl, trivial, _, rfl, ?_⟩
        rw [show Txt.isdigit (kS (.h s)) = false from name_digit hs]
        exact iteT (iteT q')
    | p n =>
      obtain ⟨h2, h9⟩ := hk
      obtain ⟨f1, f2, f3⟩ := fig_txt n.toNat (by omega)
      have hl : (kS (.p n)).length = 1 := rfl
      rw [hl, decide_eq_false (show ¬ ((1 : Nat) : Int) > 2 by decide)]
      refine iteF ⟨_, rfl, ⟨_, rfl⟩, _, rfl, rfl, trivial, _, rfl, ?_⟩
      rw [show Txt.isdigit (kS (.p n)) = true from f1]
      refine iteF ⟨_, rfl, ⟨_, rfl⟩, _, rfl, rfl, trivial, _, rfl, ?_⟩
      rw [show Txt.isascii (kS (.p n)) = true from f2]
      refine iteF ⟨_, rfl, kS (.p n), 0, 48 + n.toNat, rfl, rfl, by decide, by decide, (by rw [hl]; decide), rfl, rfl, _, rfl, ?_⟩
      have ne : ¬ V.str ⟨#[48 + n.toNat]⟩ = V.str "0" := by
        intro e
        have e1 := congrArg (fun z : Str => z.cps.toList) (V.str.inj e)
        have e2 : ("0" : Str).cps.toList = [48] := by decide +kernel
        simp only [e2] at e1
        have e3 : 48 + n.toNat = 48 := by simpa using e1
        omega
      rw [decide_eq_false ne]
      refine iteF (iteF ⟨_, rfl, kS (.p n), n, rfl, ?_, (by rw [hl]; decide), q⟩)
      rw [show PySem.intText? (kS (.p n)) = some ((n.toNat : Nat) : Int) from f3, Int.toNat_of_nonneg (by omega)]
def spNum : Sp := fun vs H Q _ => ∃ (k : Kn) (hd : List Str), vs = [.str (kS k)] ∧ goK hd k ∧ (∀ z ∈ hd, isN z = true) ∧ Q (numK k) H
theorem ok_num {f fF : Addr} {fd fdF : FuncData} {k : Nat} (F : Fun K "number_of" "number_of" sNum f fd) (HF : Has P w K mg base (k + 1) "number_by_figures" ["word", "most"] spFigs fF fdF) : FnOk P w K mg base CX0 (k + 2) f fd ["word"] spNum := by
  refine F.ok scNum (fun vs H Q E h => ?_) (fun cdv A outer s H vs Q E hr h => ?_)
  · obtain ⟨k, hd, rfl, _⟩ := h
    rfl
  · obtain ⟨k, hd, rfl, hk, hn, q⟩ := h
    refine ⟨_, pss_one (ps_ret (hcall HF hr (pa_cons (pv 0) (pa_cons pe_int pa_nil)))), ?_⟩
    exact ⟨_, rfl, k, hd, rfl, hk, hn, q⟩
def spKindBy : Sp := fun vs H Q _ => ∃ (k : Kn) (hd : List Str), vs = [.str (kS k)] ∧ goK hd k ∧ (∀ z ∈ hd, isN z = true) ∧ Q k.v H
theorem ok_kindBy {f fN : Addr} {fd fdN : FuncData} {k : Nat} (F : Fun K "kind_by" "kind_by" sKindBy f fd) (HN : Has P w K mg base (k + 2) "number_of" ["word"] spNum fN fdN) : FnOk P w K mg base CX0 (k + 3) f fd ["word"] spKindBy := by
  refine F.ok scKindBy (fun vs H Q E h => ?_) (fun cdv A outer s H vs Q E hr h => ?_)
  · obtain ⟨k, hd, rfl, _⟩ := h
    rfl
  · obtain ⟨k, hd, rfl, hk, hn, q⟩ := h
    refine ⟨_, pss_cons (ps_set (i := 1) scKindBy.nd rfl (.inl rfl) (hcall HN hr (pa_cons (pv 0) pa_nil))) (pss_cons (ps_if (pt_cmpR op_isN (pv 1) pe_non (nomark _)) (pss_one (ps_ret (pv 0))) pss_nil) (pss_one (ps_ret (pv 1)))), ?_⟩
    refine ⟨_, rfl, k, hd, rfl, hk, hn, _, rfl, rfl, _, rfl, ?_⟩
    cases k with
    | h s => exact iteT ⟨_, rfl, q⟩
    | p n => exact iteF ⟨_, rfl, q⟩
def spAreT (K : PySem.W.Frag) : Sp := fun vs H Q _ => ∃ (x : V) (tk : List Kn) (hd : List Str) (p : Addr), vs = [x, .ref p] ∧ Dp K H x (.tuple (tk.map Kn.d)) ∧ SqT K H p (hd.map V.str) ∧ tk.length ≤ 3 ∧ (∀ k ∈ tk, goK hd k) ∧ hidN tk ≤ 2 ∧ ∀ H', Gr H H' → Q (.bl true) H'
theorem ok_areT {f fD : Addr} {fd fdD : FuncData} {k : Nat} (F : Fun K "are_takes" "are_takes" sAreT f fd) (HD : Has P w K mg base (k + 2) "first_bad_deed" ["deeds", "hidden"] (spBadD K) fD fdD) : FnOk P w K mg base CX0 (k + 3) f fd ["thing", "hidden"] (spAreT K) := by
  refine F.ok scAreT (fun vs H Q E h => ?_) (fun cdv A outer s H vs Q E hr h => ?_)
  · obtain ⟨x, tk, hd, p, rfl, _⟩ := h
    rfl
  · obtain ⟨x, tk, hd, p, rfl, hx, hp, h3, hk, h2, q⟩ := h
    refine ⟨_, pss_one (ps_ret (pe_cmpR op_isN (hcall HD hr (pa_cons (pe_tup (pa_cons (pe_tup (pa_cons pe_str (pa_cons (pv 0) (pa_cons pe_int pa_nil)))) pa_nil)) (pa_cons (pv 1) pa_nil))) pe_non (nomark _))), ?_⟩
    refine ⟨_, rfl, by show 3 ≤ sizeLine; decide, fun t1 n1 => ?_⟩
    have g1 : Gr H (upd H t1 (.tup [.str "a", x, .int 2])) := Gr.new n1
    have e1 : upd H t1 (.tup [.str "a", x, .int 2]) t1 = some (.tup [.str "a", x, .int 2]) := upd_same
    generalize upd H t1 (.tup [.str "a", x, .int 2]) = H1 at g1 e1 ⊢
    refine ⟨by show 1 ≤ sizeLine; decide, fun t2 n2 => ?_⟩
    have g2 : Gr H1 (upd H1 t2 (.tup [.ref t1])) := Gr.new n2
    have e2 : upd H1 t2 (.tup [.ref t1]) t2 = some (.tup [.ref t1]) := upd_same
    generalize upd H1 t2 (.tup [.ref t1]) = H2 at g2 e2 ⊢
    have g := g1.trans g2
    refine ⟨_, rfl, [⟨"a", tk, .p 2⟩], hd, .ref t2, p, rfl, .tup (.inl (.inl e2)) (.cons (.tup (.inl (.inl (g2.tup e1))) (.cons (.str _) (.cons (g.kd.dp hx) (.cons (.int 2) .nil)))) .nil), g.sqt hp, List.pairwise_singleton _ _, ?_, fun H3 g3 => ⟨rfl, q H3 (g.trans g3)⟩⟩
    intro e he
    have : e = ⟨"a", tk, .p 2⟩ := by simpa using he
    rw [this]
    exact ⟨by show isN "a" = true; decide +kernel, h3, hk, h2, ⟨by decide, by decide⟩⟩
/-! ### words_of, rows_of, need_no_more -/
def spWords : Sp := fun vs H Q _ => ∃ ws : List Str, vs = [.str (Txt.join blank ws)] ∧ ws ≠ [] ∧ (∀ z ∈ ws, clean z) ∧ ws.length ≤ 100 ∧ ∀ H' p, Gr H H' → H p = none → H' p = some (.lst (ws.map V.str)) → Q (.ref p) H'
theorem ok_words {f : Addr} {fd : FuncData} {k : Nat} (F : Fun K "words_of" "words_of" sWords f fd) (mi : mg "isinstance" = none) (m1 : mg "str" = none) : FnOk P w K mg base CX0 (k + 1) f fd ["row"] spWords := by
  refine F.ok scWords (fun vs H Q E h => ?_) (fun cdv A outer s H vs Q E hr h => ?_)
  · obtain ⟨ws, rfl, _⟩ := h
    rfl
  · obtain ⟨ws, rfl, hne, hc, hl, q⟩ := h
    refine ⟨_, pss_cons (ps_if (pt_not (pt_val (pe_isi "str" 0 mi m1 (by decide +kernel)))) pss_never pss_nil)
      (pss_cons (ps_set (i := 1) scWords.nd rfl (.inl rfl) (pe_split (pv 0) pe_str))
      (pss_cons (ps_if (pt_cmpR op_in_seq pe_str (pv 1) rfl) pss_never pss_nil)
      (pss_one (ps_ret (pv 1))))), ?_⟩
    have hlen := row_len hc
    refine ⟨_, rfl, "str", true, (is_str _).1, by decide +kernel, _, rfl, iteF ⟨_, rfl, ⟨_, rfl⟩, _, blank, rfl, rfl, by decide +kernel, by rw [sizeLine_eq]; omega, ?_⟩⟩
    intro p np
    rw [split_words hne hc]
    refine ⟨_, rfl, p, ws.map V.str, rfl, .inl (.inl (.inl upd_same)), rfl, flat_strs ws, _, rfl, ?_⟩
    have no : inV (.str nought) (ws.map V.str) = false := by
      rw [inV_not]
      refine decide_eq_false fun h => ?_
      exact absurd (hc _ h).1 (by decide +kernel)
    show if inV (.str nought) (ws.map V.str) = true then _ else _
    rw [no]
    exact iteF ⟨_, rfl, q _ p (Gr.new np) np upd_same⟩
def spRowsOf : Sp := fun vs H Q _ => ∃ rws : List Str, vs = [.str (Txt.join feed rws)] ∧ rws ≠ [] ∧ (∀ z ∈ rws, 10 ∉ TL.tl z) ∧ (Txt.join feed rws).length ≤ 100000 ∧ ∀ H' p, Gr H H' → H p = none → H' p = some (.lst (rws.map V.str)) → Q (.ref p) H'
theorem ok_rowsOf {f : Addr} {fd : FuncData} {k : Nat} (F : Fun K "rows_of" "rows_of" sRowsOf f fd) (mi : mg "isinstance" = none) (m1 : mg "str" = none) : FnOk P w K mg base CX0 (k + 1) f fd ["text"] spRowsOf := by
  refine F.ok scRowsOf (fun vs H Q E h => ?_) (fun cdv A outer s H vs Q E hr h => ?_)
  · obtain ⟨ws, rfl, _⟩ := h
    rfl
  · obtain ⟨ws, rfl, hne, hc, hl, q⟩ := h
    refine ⟨_, pss_cons (ps_if (pt_not (pt_val (pe_isi "str" 0 mi m1 (by decide +kernel)))) pss_never pss_nil) (pss_one (ps_ret (pe_split (pv 0) pe_str))), ?_⟩
    refine ⟨_, rfl, "str", true, (is_str _).1, by decide +kernel, _, rfl, iteF ⟨_, rfl, ⟨_, rfl⟩, _, feed, rfl, rfl, by decide +kernel, by rw [sizeLine_eq]; omega, ?_⟩⟩
    intro p np
    rw [split_rows hne hc]
    exact q _ p (Gr.new np) np upd_same
def spNoMore (K : PySem.W.Frag) : Sp := fun vs H Q _ => ∃ (p : Addr) (xs : List V) (m : Int), vs = [.ref p, .int m] ∧ SqL K H p xs ∧ (xs.length : Int) ≤ m ∧ Q .non H
theorem ok_noMore {f : Addr} {fd : FuncData} {k : Nat} (F : Fun K "need_no_more" "need_no_more" sNoMore f fd) (ml : mg "len" = none) : FnOk P w K mg base CX0 (k + 1) f fd ["rows", "most"] (spNoMore K) := by
  refine F.ok scNoMore (fun vs H Q E h => ?_) (fun cdv A outer s H vs Q E hr h => ?_)
  · obtain ⟨p, xs, m, rfl, _⟩ := h
    rfl
  · obtain ⟨p, xs, m, rfl, hp, hm, q⟩ := h
    refine ⟨_, pss_one (ps_if (pt_cmpR op_gt (pe_callB call_len_seq (by rfl) ml PySem.boot_len (pa_cons (pv 0) pa_nil)) (pv 1) (nomark _)) pss_never pss_nil), ?_⟩
    refine ⟨_, rfl, p, xs, rfl, .inl hp, _, rfl, _, m, rfl, rfl, _, rfl, ?_⟩
    rw [decide_eq_false (show ¬ (xs.length : Int) > m by omega)]
    exact iteF q
end
end SfC
namespace SfC
open PySem PySem.Spec PyProof.Rows L2 SfG
/-! ### rows that are read -/
abbrev sInit : Stmt := inClass sRow 0
abbrev sSeen : Stmt := inClass sRow 1
abbrev sTake : Stmt := inClass sRow 2
abbrev sTakeW : Stmt := inClass sRow 3
abbrev sClose : Stmt := inClass sRow 5
theorem scInit : FnScope ["self", "number", "text", "words"] ["self", "number", "text"] (defScope sInit) := ⟨rfl, rfl, rfl, by decide +kernel, rfl, by decide +kernel, by decide +kernel⟩
theorem scSeen : FnScope ["self"] ["self"] (defScope sSeen) := ⟨rfl, rfl, rfl, by decide +kernel, rfl, by decide +kernel, by decide +kernel⟩
theorem scTake : FnScope ["self", "stands"] ["self", "stands"] (defScope sTake) := ⟨rfl, rfl, rfl, by decide +kernel, rfl, by decide +kernel, by decide +kernel⟩
theorem scTakeW : FnScope ["self", "word"] ["self", "word"] (defScope sTakeW) := ⟨rfl, rfl, rfl, by decide +kernel, rfl, by decide +kernel, by decide +kernel⟩
theorem scClose : FnScope ["self"] ["self"] (defScope sClose) := ⟨rfl, rfl, rfl, by decide +kernel, rfl, by decide +kernel, by decide +kernel⟩
theorem scRowAt : FnScope ["rows", "number"] ["rows", "number"] (defScope sRowAt) := ⟨rfl, rfl, rfl, by decide +kernel, rfl, by decide +kernel, by decide +kernel⟩
def rf (n : Int) (wl : Addr) (a : Int) : List (Str × V) := [("number", .int n), ("words", .ref wl), ("at", .int a)]
theorem nw : ¬ (("number" : Str) = "words") := by decide +kernel
theorem na : ¬ (("number" : Str) = "at") := by decide +kernel
theorem wa : ¬ (("words" : Str) = "at") := by decide +kernel
theorem rf_number (n : Int) (wl : Addr) (a : Int) : (rf n wl a).lookup ("number" : Str) = some (.int n) := by simp [rf, List.lookup]
theorem rf_words (n : Int) (wl : Addr) (a : Int) : (rf n wl a).lookup ("words" : Str) = some (.ref wl) := by
  have h : (("words" : Str) == ("number" : Str)) = false := by decide +kernel
  simp [rf, List.lookup, h]
theorem rf_at (n : Int) (wl : Addr) (a : Int) : (rf n wl a).lookup ("at" : Str) = some (.int a) := by
  have h : (("at" : Str) == ("number" : Str)) = false := by decide +kernel
  have h2 : (("at" : Str) == ("words" : Str)) = false := by decide +kernel
  simp [rf, List.lookup, h, h2]
theorem rf_no (n : Int) (wl : Addr) (a : Int) {m : Str} (h1 : (m == ("number" : Str)) = false) (h2 : (m == ("words" : Str)) = false) (h3 : (m == ("at" : Str)) = false) : (rf n wl a).lookup m = none := by
  simp [rf, List.lookup, h1, h2, h3]
theorem rf_put (n : Int) (wl : Addr) (a b : Int) : putF "at" (.int b) (rf n wl a) = rf n wl b := by
  show (if ("number" : Str) = "at" then _ else (("number" : Str), V.int n) :: (if ("words" : Str) = "at" then _ else (("words" : Str), V.ref wl) :: (if ("at" : Str) = "at" then [(("at" : Str), V.int b)] else _))) = rf n wl b
  rw [if_neg na, if_neg wa, if_pos rfl]
  rfl
theorem rf_made (n : Int) (wl : Addr) : putF "at" (.int 0) (putF "words" (.ref wl) (putF "number" (.int n) [])) = rf n wl 0 := by
  show putF "at" (.int 0) (if ("number" : Str) = "words" then _ else (("number" : Str), V.int n) :: putF "words" (.ref wl) []) = rf n wl 0
  rw [if_neg nw]
  show (if ("number" : Str) = "at" then _ else (("number" : Str), V.int n) :: (if ("words" : Str) = "at" then _ else (("words" : Str), V.ref wl) :: putF "at" (.int 0) [])) = rf n wl 0
  rw [if_neg na, if_neg wa]
  rfl
/-- a row at x: its number, its words, and how many are taken -/
def RowAt (C : Addr) (H : Hp) (x : Addr) (n : Int) (ws : List Str) (a : Nat) : Prop := ∃ dx wl, H x = some (.ins C dx (rf n wl (a : Nat))) ∧ H wl = some (.lst (ws.map V.str ++ [.non]))
theorem RowAt.gr {C : Addr} {H H' : Hp} {x : Addr} {n : Int} {ws : List Str} {a : Nat} (h : RowAt C H x n ws a) (g : Gr H H') : RowAt C H' x n ws a := by
  obtain ⟨dx, wl, h1, h2⟩ := h
  exact ⟨dx, wl, g.keep _ _ h1 (fun _ z => by cases z), g.lst h2⟩
/-- what is seen there -/
def seenV (ws : List Str) (a : Nat) : V := match ws[a]? with
  | some z => .str z
  | none => .non
theorem seen_at {ws : List Str} {a : Nat} (h : a ≤ ws.length) : (ws.map V.str ++ [V.non])[a]? = some (seenV ws a) := by
  unfold seenV
  rcases Nat.lt_or_ge a ws.length with h1 | h1
  · rw [List.getElem?_append_left (by rw [List.length_map]; exact h1), List.getElem?_map, List.getElem?_eq_getElem h1]
    rfl
  · have e : a = ws.length := by omega
    rw [List.getElem?_append_right (by rw [List.length_map]; omega), List.length_map, e, Nat.sub_self, List.getElem?_eq_none (Nat.le_refl _)]
    rfl
structure RowC (K : PySem.W.Frag) (mg : Str → Option Value) (C : Addr) : Prop where
  cl : Cls K C
  nN : NoAttr K C "number"
  nW : NoAttr K C "words"
  nA : NoAttr K C "at"
  g : mg "Row" = some (.ref C)
/-- a method: where it stands, how it is bound, what it promises -/
structure HasM (P : Program) (w : World) (K : PySem.W.Frag) (mg : Str → Option Value) (base : Heap) (C : Addr) (k : Nat) (m : Str) (ps : List Str) (sp : Sp) (f : Addr) (fd : FuncData) : Prop where
  ok : FnOk P w K mg base CX0 k f fd ps sp
  me : Meth K C m f
  bd : Binds K fd ps []
section
variable {P : Program} {w : World} {K : PySem.W.Frag} {mg : Str → Option Value} {base : Heap}
def spInit (C : Addr) : Sp := fun vs H Q _ => ∃ (x dx : Addr) (n : Int) (ws : List Str), vs = [.ref x, .int n, .str (Txt.join blank ws)] ∧ H x = some (.ins C dx []) ∧ ws ≠ [] ∧ (∀ z ∈ ws, clean z) ∧ ws.length ≤ 100 ∧ ∀ H', Gp x H H' → RowAt C H' x n ws 0 → Q .non H'
theorem ok_init {f fW C : Addr} {fd fdW : FuncData} {k : Nat} (F : Fun K "__init__" "Row.__init__" sInit f fd) (R : RowC K mg C) (HW : Has P w K mg base (k + 1) "words_of" ["row"] spWords fW fdW) : FnOk P w K mg base CX0 (k + 2) f fd ["self", "number", "text"] (spInit C) := by
  refine F.ok scInit (fun vs H Q E h => ?_) (fun cdv A outer s H vs Q E hr h => ?_)
  · obtain ⟨x, dx, n, ws, rfl, _⟩ := h
    rfl
  · obtain ⟨x, dx, n, ws, rfl, hx, hne, hc, hl, q⟩ := h
    have nd := scInit.nd
    refine ⟨_, pss_cons (ps_set (i := 3) nd rfl (.inl rfl) (hcall HW hr (pa_cons (pv 2) pa_nil))) (pss_cons (ps_if (pt_cmpR op_isN (pv 3) pe_non (nomark _)) pss_never pss_nil)
      (pss_cons (ps_fld (pv 0) (pv 1) rfl) (pss_cons (ps_fld (pv 0) (pe_lst (StX.pa_star (pv 3) (pa_cons pe_non pa_nil))) rfl) (pss_one (ps_fld (pv 0) pe_int rfl))))), ?_⟩
    refine ⟨_, rfl, ws, rfl, hne, hc, hl, fun H1 p g1 np hp => ⟨_, rfl, rfl, _, rfl, iteF ?_⟩⟩
    have hx1 : H1 x = some (.ins C dx []) := g1.keep _ _ hx (fun _ z => by cases z)
    refine ⟨_, rfl, _, rfl, x, C, dx, _, rfl, hx1, R.cl, R.nN, (by show 0 < 1000; decide), ?_⟩
    have px : p ≠ x := by
      intro z
      rw [z, hx1] at hp
      cases hp
    have hp2 : upd H1 x (.ins C dx (putF "number" (.int n) [])) p = some (.lst (ws.map V.str)) := (upd_ne px).trans hp
    have hx2 : upd H1 x (.ins C dx (putF "number" (.int n) [])) x = some (.ins C dx (putF "number" (.int n) [])) := upd_same
    have g2 : Gp x H (upd H1 x (.ins C dx (putF "number" (.int n) []))) := (Gp.gr g1).trans (Gp.but (But.upd (fun _ _ => rfl)))
    generalize upd H1 x (.ins C dx (putF "number" (.int n) [])) = H2 at hp2 hx2 g2 ⊢
    refine ⟨_, rfl, p, _, rfl, .inr (.inl (.inl hp2)), ?_, fun wl nwl => ?_⟩
    · rw [List.length_append, List.length_map]
      exact Nat.le_of_lt (small1000 (by show ws.length + 1 ≤ 1000; omega))
    have wx : x ≠ wl := ne_of_none hx2 nwl
    have hw3 : upd H2 wl (.lst (ws.map V.str ++ [.non])) wl = some (.lst (ws.map V.str ++ [.non])) := upd_same
    have hx3 : upd H2 wl (.lst (ws.map V.str ++ [.non])) x = some (.ins C dx (putF "number" (.int n) [])) := (upd_ne wx).trans hx2
    have g3 : Gp x H (upd H2 wl (.lst (ws.map V.str ++ [.non]))) := g2.trans (Gp.gr (Gr.new nwl))
    generalize upd H2 wl (.lst (ws.map V.str ++ [.non])) = H3 at hw3 hx3 g3 ⊢
    refine ⟨_, rfl, x, C, dx, _, rfl, hx3, R.cl, R.nW, (by show 1 < 1000; decide), ?_⟩
    refine ⟨_, rfl, x, C, dx, _, rfl, upd_same, R.cl, R.nA, ?_, ?_⟩
    · show (putF "words" (.ref wl) (putF "number" (.int n) [])).length < 1000
      show (if ("number" : Str) = "words" then [(("number" : Str), V.ref wl)] else (("number" : Str), V.int n) :: putF "words" (.ref wl) []).length < 1000
      rw [if_neg nw]
      show 2 < 1000
      decide
    refine q _ ((g3.trans (Gp.but (But.upd (fun _ _ => rfl)))).trans (Gp.but (But.upd (fun _ _ => rfl)))) ⟨dx, wl, ?_, ?_⟩
    · rw [upd_same, rf_made]
      rfl
    · rw [upd_ne (Ne.symm wx), upd_ne (Ne.symm wx)]
      exact hw3
def spSeen (C : Addr) : Sp := fun vs H Q _ => ∃ (x : Addr) (n : Int) (ws : List Str) (a : Nat), vs = [.ref x] ∧ RowAt C H x n ws a ∧ a ≤ ws.length ∧ Q (seenV ws a) H
theorem ok_seen {f C : Addr} {fd : FuncData} {k : Nat} (F : Fun K "seen" "Row.seen" sSeen f fd) (R : RowC K mg C) : FnOk P w K mg base CX0 (k + 1) f fd ["self"] (spSeen C) := by
  refine F.ok scSeen (fun vs H Q E h => ?_) (fun cdv A outer s H vs Q E hr h => ?_)
  · obtain ⟨x, n, ws, a, rfl, _⟩ := h
    rfl
  · obtain ⟨x, n, ws, a, rfl, ⟨dx, wl, hx, hw⟩, ha, q⟩ := h
    refine ⟨_, pss_one (ps_ret (pe_ix ix_list (pe_fld (pv 0) rfl) (pe_fld (pv 0) rfl) (fun _ _ => rfl))), ?_⟩
    exact ⟨_, rfl, x, C, dx, _, _, rfl, hx, R.cl, R.nW, rf_words _ _ _, _, rfl, x, C, dx, _, _, rfl, hx, R.cl, R.nA, rf_at _ _ _, wl, _, (a : Nat), _, rfl, rfl, .inl (.inl hw), atI_nat (seen_at ha), q⟩
def spTake (C : Addr) : Sp := fun vs H Q _ => ∃ (x : Addr) (n : Int) (ws : List Str) (a : Nat), vs = [.ref x, .bl true] ∧ RowAt C H x n ws a ∧ a ≤ ws.length ∧ ∀ H', Gp x H H' → RowAt C H' x n ws (a + 1) → Q (seenV ws a) H'
theorem ok_take {f C : Addr} {fd : FuncData} {k : Nat} (F : Fun K "take" "Row.take" sTake f fd) (R : RowC K mg C) : FnOk P w K mg base CX0 (k + 1) f fd ["self", "stands"] (spTake C) := by
  refine F.ok scTake (fun vs H Q E h => ?_) (fun cdv A outer s H vs Q E hr h => ?_)
  · obtain ⟨x, n, ws, a, rfl, _⟩ := h
    rfl
  · obtain ⟨x, n, ws, a, rfl, ⟨dx, wl, hx, hw⟩, ha, q⟩ := h
    refine ⟨_, pss_cons (ps_if (pt_not (pt_val (pv 1))) pss_never pss_nil) (pss_cons (ps_fldaug (pv 0) pe_int in_add)
      (pss_one (ps_ret (pe_ix ix_list (pe_fld (pv 0) rfl) (pe_op op_sub (pe_fld (pv 0) rfl) pe_int) (fun _ _ => rfl))))), ?_⟩
    refine ⟨_, rfl, _, rfl, iteF ?_⟩
    refine ⟨_, rfl, x, C, dx, _, _, rfl, hx, R.cl, R.nA, rf_at _ _ _, _, 1, rfl, rfl, _, _, hx, (by show 3 < 1000; decide), ?_⟩
    rw [rf_put]
    have wx : wl ≠ x := by
      intro z
      rw [z, hx] at hw
      cases hw
    have e1 : ((a : Nat) : Int) + 1 = ((a + 1 : Nat) : Int) := by omega
    rw [e1]
    have hx2 : upd H x (.ins C dx (rf n wl ((a + 1 : Nat) : Int))) x = some (.ins C dx (rf n wl ((a + 1 : Nat) : Int))) := upd_same
    have hw2 : upd H x (.ins C dx (rf n wl ((a + 1 : Nat) : Int))) wl = some (.lst (ws.map V.str ++ [.non])) := (upd_ne wx).trans hw
    have g2 : Gp x H (upd H x (.ins C dx (rf n wl ((a + 1 : Nat) : Int)))) := Gp.but (But.upd (fun _ _ => rfl))
    generalize upd H x (.ins C dx (rf n wl ((a + 1 : Nat) : Int))) = H2 at hx2 hw2 g2 ⊢
    refine ⟨_, rfl, x, C, dx, _, _, rfl, hx2, R.cl, R.nW, rf_words _ _ _, _, rfl, x, C, dx, _, _, rfl, hx2, R.cl, R.nA, rf_at _ _ _, _, 1, rfl, rfl, wl, _, _, _, rfl, rfl, .inl (.inl hw2), ?_, q H2 g2 ⟨dx, wl, hx2, hw2⟩⟩
    have e2 : ((a + 1 : Nat) : Int) - 1 = ((a : Nat) : Int) := by omega
    rw [e2]
    exact atI_nat (seen_at ha)
def spTakeW (C : Addr) : Sp := fun vs H Q _ => ∃ (x : Addr) (n : Int) (ws : List Str) (a : Nat) (z : Str), vs = [.ref x, .str z] ∧ RowAt C H x n ws a ∧ ws[a]? = some z ∧ ∀ H', Gp x H H' → RowAt C H' x n ws (a + 1) → Q .non H'
theorem lt_of_at {α : Type} {l : List α} {i : Nat} {x : α} (h : l[i]? = some x) : i < l.length := (List.getElem?_eq_some_iff.mp h).1
theorem seen_is {ws : List Str} {a : Nat} {z : Str} (h : ws[a]? = some z) : seenV ws a = .str z := by
  unfold seenV
  rw [h]
theorem ok_takeW {f fS fT C : Addr} {fd fdS fdT : FuncData} {k : Nat} (F : Fun K "take_word" "Row.take_word" sTakeW f fd) (R : RowC K mg C) (HS : HasM P w K mg base C (k + 1) "seen" ["self"] (spSeen C) fS fdS)
    (HT : HasM P w K mg base C (k + 1) "take" ["self", "stands"] (spTake C) fT fdT) : FnOk P w K mg base CX0 (k + 2) f fd ["self", "word"] (spTakeW C) := by
  refine F.ok scTakeW (fun vs H Q E h => ?_) (fun cdv A outer s H vs Q E hr h => ?_)
  · obtain ⟨x, n, ws, a, z, rfl, _⟩ := h
    rfl
  · obtain ⟨x, n, ws, a, z, rfl, hR, hz, q⟩ := h
    have ha := lt_of_at hz
    refine ⟨_, pss_one (ps_expr (pe_meth (pv 0) R.cl HT.me HT.ok hr HT.bd .nil pass0 (pa_cons (pe_cmpR op_eq (pe_meth0 (pv 0) R.cl HS.me HS.ok hr HS.bd .nil pass0) (pv 1) (nomark _)) pa_nil))), ?_⟩
    obtain ⟨dx, wl, hx, hw⟩ := id hR
    refine ⟨_, rfl, x, dx, _, rfl, hx, rf_no _ _ _ (by decide +kernel) (by decide +kernel) (by decide +kernel), _, rfl, x, dx, _, rfl, hx, rf_no _ _ _ (by decide +kernel) (by decide +kernel) (by decide +kernel), x, n, ws, a, rfl, hR, Nat.le_of_lt ha, ?_⟩
    rw [seen_is hz]
    refine ⟨_, rfl, rfl, ?_⟩
    rw [decide_eq_true rfl]
    exact ⟨x, n, ws, a, rfl, hR, Nat.le_of_lt ha, fun H' g R' => q H' g R'⟩
def spClose (C : Addr) : Sp := fun vs H Q _ => ∃ (x : Addr) (n : Int) (ws : List Str), vs = [.ref x] ∧ RowAt C H x n ws ws.length ∧ Q .non H
theorem ok_close {f fS C : Addr} {fd fdS : FuncData} {k : Nat} (F : Fun K "close" "Row.close" sClose f fd) (R : RowC K mg C) (HS : HasM P w K mg base C (k + 1) "seen" ["self"] (spSeen C) fS fdS) : FnOk P w K mg base CX0 (k + 2) f fd ["self"] (spClose C) := by
  refine F.ok scClose (fun vs H Q E h => ?_) (fun cdv A outer s H vs Q E hr h => ?_)
  · obtain ⟨x, n, ws, rfl, _⟩ := h
    rfl
  · obtain ⟨x, n, ws, rfl, hR, q⟩ := h
    refine ⟨_, pss_one (ps_if (pt_cmpR op_notN (pe_meth0 (pv 0) R.cl HS.me HS.ok hr HS.bd .nil pass0) pe_non (nomark _)) pss_never pss_nil), ?_⟩
    obtain ⟨dx, wl, hx, hw⟩ := id hR
    refine ⟨_, rfl, x, dx, _, rfl, hx, rf_no _ _ _ (by decide +kernel) (by decide +kernel) (by decide +kernel), x, n, ws, ws.length, rfl, hR, Nat.le_refl _, rfl, _, rfl, ?_⟩
    have e : seenV ws ws.length = .non := by
      unfold seenV
      rw [List.getElem?_eq_none (Nat.le_refl _)]
    rw [e]
    exact iteF q
def spRowAt (K : PySem.W.Frag) (C : Addr) : Sp := fun vs H Q _ => ∃ (rl : Addr) (rws : List Str) (i : Nat) (ws : List Str), vs = [.ref rl, .int ((i + 1 : Nat) : Int)] ∧ SqL K H rl (rws.map V.str) ∧ rws[i]? = some (Txt.join blank ws) ∧ ws ≠ [] ∧ (∀ z ∈ ws, clean z) ∧ ws.length ≤ 100 ∧
  ∀ H' x, Gr H H' → H x = none → RowAt C H' x ((i + 1 : Nat) : Int) ws 0 → Q (.ref x) H'
theorem ok_rowAt {f fI C : Addr} {fd fdI : FuncData} {k : Nat} (F : Fun K "row_at" "row_at" sRowAt f fd) (R : RowC K mg C) (M : Mk K C fI) (GI : FnOk P w K mg base CX0 (k + 2) fI fdI ["self", "number", "text"] (spInit C)) (bI : Binds K fdI ["self", "number", "text"] []) (ml : mg "len" = none) :
    FnOk P w K mg base CX0 (k + 4) f fd ["rows", "number"] (spRowAt K C) := by
  refine F.ok scRowAt (fun vs H Q E h => ?_) (fun cdv A outer s H vs Q E hr h => ?_)
  · obtain ⟨rl, rws, i, ws, rfl, _⟩ := h
    rfl
  · obtain ⟨rl, rws, i, ws, rfl, hrl, hz, hne, hc, hl, q⟩ := h
    have hi := lt_of_at hz
    refine ⟨_, pss_cons (ps_if (pt_cmpR op_gt (pv 1) (pe_callB call_len_seq (by rfl) ml PySem.boot_len (pa_cons (pv 0) pa_nil)) (nomark _)) pss_never pss_nil)
      (pss_one (ps_ret (pe_make M GI hr (by rfl) R.g bI .nil pass0 (pa_cons (pv 1) (pa_cons (pe_ix ix_list (pv 0) (pe_op op_sub (pv 1) pe_int) (fun _ _ => rfl)) pa_nil))))), ?_⟩
    refine ⟨_, rfl, _, rfl, rl, _, rfl, .inl hrl, _, _, rfl, rfl, _, rfl, ?_⟩
    rw [List.length_map, decide_eq_false (show ¬ ((i + 1 : Nat) : Int) > ((rws.length : Nat) : Int) by omega)]
    refine iteF ⟨_, rfl, _, rfl, _, rfl, _, 1, rfl, rfl, rl, _, _, .str (Txt.join blank ws), rfl, rfl, hrl, ?_, ?_⟩
    · have e2 : ((i + 1 : Nat) : Int) - 1 = ((i : Nat) : Int) := by omega
      rw [e2]
      exact atI_nat (by rw [List.getElem?_map, hz]; rfl)
    intro x dx nx ndx nex
    have g1 : Gr H (upd (upd H dx (.own x)) x (.ins C dx [])) := by
      refine (Gr.new ndx).trans (Gr.new ?_)
      rw [upd_ne (Ne.symm nex)]
      exact nx
    refine ⟨x, dx, _, ws, rfl, upd_same, hne, hc, hl, fun H' g R' => ⟨rfl, ?_⟩⟩
    exact q H' x (Gp.out g1 nx g) nx R'
end
end SfC
namespace SfC
open PySem PySem.Spec PyProof.Rows L2 SfG
theorem scReadH : FnScope ["row", "names"] ["row"] (defScope sReadH) := ⟨rfl, rfl, rfl, by decide +kernel, rfl, by decide +kernel, by decide +kernel⟩
theorem scReadT : FnScope ["row", "hidden", "takes", "more"] ["row", "hidden"] (defScope sReadT) := ⟨rfl, rfl, rfl, by decide +kernel, rfl, by decide +kernel, by decide +kernel⟩
theorem scReadD : FnScope ["row", "hidden", "ahead", "name", "takes", "gives"] ["row", "hidden", "ahead"] (defScope sReadD) := ⟨rfl, rfl, rfl, by decide +kernel, rfl, by decide +kernel, by decide +kernel⟩
/-- the methods of rows -/
structure Rws (P : Program) (w : World) (K : PySem.W.Frag) (mg : Str → Option Value) (base : Heap) (C : Addr) (k : Nat) (fS fT fW fC : Addr) (dS dT dW dC : FuncData) : Prop where
  R : RowC K mg C
  HS : HasM P w K mg base C k "seen" ["self"] (spSeen C) fS dS
  HT : HasM P w K mg base C k "take" ["self", "stands"] (spTake C) fT dT
  HW : HasM P w K mg base C k "take_word" ["self", "word"] (spTakeW C) fW dW
  HC : HasM P w K mg base C k "close" ["self"] (spClose C) fC dC
/-- a row's field of no name of ours -/
theorem RowAt.has {C : Addr} {H : Hp} {x : Addr} {n : Int} {ws : List Str} {a : Nat} (h : RowAt C H x n ws a) : ∃ dx fs, H x = some (.ins C dx fs) ∧ fs.lookup ("seen" : Str) = none ∧ fs.lookup ("take" : Str) = none ∧ fs.lookup ("take_word" : Str) = none ∧ fs.lookup ("close" : Str) = none := by
  obtain ⟨dx, wl, h1, _⟩ := h
  refine ⟨dx, _, h1, ?_, ?_, ?_, ?_⟩ <;> exact rf_no _ _ _ (by decide +kernel) (by decide +kernel) (by decide +kernel)
theorem gp_sqtI {K : PySem.W.Frag} {x : Addr} {H H' : Hp} {a : Addr} {xs : List V} {C dx : Addr} {fs : List (Str × V)} (g : Gp x H H') (hx : H x = some (.ins C dx fs)) (h : SqT K H a xs) : SqT K H' a xs := by
  rcases h with (h | ⟨o, h⟩) | h
  · refine .inl (.inl (g.keep a _ (fun z => ?_) h (fun _ z => by cases z)))
    rw [z, hx] at h
    cases h
  · refine .inl (.inr ⟨o, g.keep a _ (fun z => ?_) h (fun _ z => by cases z)⟩)
    rw [z, hx] at h
    cases h
  · exact .inr h
theorem RowAt.sqt {K : PySem.W.Frag} {C x : Addr} {H H' : Hp} {n : Int} {ws : List Str} {i : Nat} {a : Addr} {xs : List V} (r : RowAt C H x n ws i) (g : Gp x H H') (h : SqT K H a xs) : SqT K H' a xs := by
  obtain ⟨dx, wl, hx, _⟩ := r
  exact gp_sqtI g hx h
theorem nought_lt {z : Str} (h : isN z = true) : lt "" z := by
  refine ahd_lt (l := [z]) (List.pairwise_singleton _ _) (fun y hy => ?_) (i := 0) rfl
  have e : y = z := by simpa using hy
  rw [e]
  exact h
section
variable {P : Program} {w : World} {K : PySem.W.Frag} {mg : Str → Option Value} {base : Heap}
def spReadH (C : Addr) : Sp := fun vs H Q _ => ∃ (x : Addr) (n : Int) (hd : List Str), vs = [.ref x] ∧ RowAt C H x n (wsH hd) 0 ∧ goH hd ∧ ∀ H' p, Gp x H H' → H' p = some (.tup (hd.map V.str)) → Q (.ref p) H'
set_option maxHeartbeats 1000000 in
theorem ok_readH {f fS fT fW fC fN C : Addr} {fd dS dT dW dC dN : FuncData} {k : Nat} (F : Fun K "read_hidden" "read_hidden" sReadH f fd) (Z : Rws P w K mg base C k fS fT fW fC dS dT dW dC) (HN : Has P w K mg base k "is_next_name" ["thing", "ahead"] spNextN fN dN) (mt : mg "tuple" = none) :
    FnOk P w K mg base CX0 (k + 1) f fd ["row"] (spReadH C) := by
  refine F.ok scReadH (fun vs H Q E h => ?_) (fun cdv A outer s H vs Q E hr h => ?_)
  · obtain ⟨x, n, hd, rfl, _⟩ := h
    rfl
  · obtain ⟨x, n, hd, rfl, r0, gh, q⟩ := h
    have nd := scReadH.nd
    refine' ⟨_, pss_cons ?s1 (pss_cons ?s2 (pss_cons ?s3 (pss_cons ?s4 (pss_one ?s5)))), ?rd⟩
    case s1 => exact ps_expr (pe_meth (pv 0) Z.R.cl Z.HW.me Z.HW.ok hr Z.HW.bd .nil pass0 (pa_cons pe_str pa_nil))
    case s2 => exact ps_set (i := 1) nd rfl (.inl rfl) (pe_lst (pa_cons (pe_meth (pv 0) Z.R.cl Z.HT.me Z.HT.ok hr Z.HT.bd .nil pass0 (pa_cons (hcall HN hr (pa_cons (pe_meth0 (pv 0) Z.R.cl Z.HS.me Z.HS.ok hr Z.HS.bd .nil pass0) (pa_cons pe_str pa_nil))) pa_nil)) pa_nil))
    case s3 =>
      exact ps_if (pt_cmpR op_notN (pe_meth0 (pv 0) Z.R.cl Z.HS.me Z.HS.ok hr Z.HS.bd .nil pass0) pe_non (nomark _))
        (pss_one (ps_expr (pe_bm PySem.F.plainAttrs_list PySem.F.slot_list_append PySem.F.type_list_append mt_append (pv 1) (pa_cons (pe_meth (pv 0) Z.R.cl Z.HT.me Z.HT.ok hr Z.HT.bd .nil pass0 (pa_cons (hcall HN hr (pa_cons (pe_meth0 (pv 0) Z.R.cl Z.HS.me Z.HS.ok hr Z.HS.bd .nil pass0) (pa_cons (pe_ix ix_list (pv 1) pe_int (fun _ _ => rfl)) pa_nil))) pa_nil)) pa_nil)))) pss_nil
    case s4 => exact ps_expr (pe_meth0 (pv 0) Z.R.cl Z.HC.me Z.HC.ok hr Z.HC.bd .nil pass0)
    case s5 => exact ps_ret (pe_callTy call_tuple_of (by rfl) mt (by decide +kernel) (pa_cons (pv 1) pa_nil))
    case rd =>
    obtain ⟨h1, h2, hn, up⟩ := gh
    -- hidden
    obtain ⟨dx, fs, e0, a1, a2, a3, a4⟩ := r0.has
    refine ⟨_, rfl, x, dx, fs, rfl, e0, a3, x, n, wsH hd, 0, "hidden", rfl, r0, rfl, fun H1 g1 r1 => ?_⟩
    -- the first name
    obtain ⟨n1, rest, ehd⟩ : ∃ n1 rest, hd = n1 :: rest := by
      cases hd with
      | nil => exact absurd h1 (by simp)
      | cons a r => exact ⟨a, r, rfl⟩
    have w1 : (wsH hd)[1]? = some n1 := by rw [ehd]; rfl
    have gn1 : isN n1 = true := hn n1 (by rw [ehd]; exact List.mem_cons_self)
    have l1 : 1 ≤ (wsH hd).length := Nat.le_of_lt (lt_of_at w1)
    obtain ⟨dx1, fs1, f0, b1, b2, b3, b4⟩ := r1.has
    refine ⟨_, rfl, x, dx1, fs1, rfl, f0, b2, _, rfl, x, dx1, fs1, rfl, f0, b1, x, n, wsH hd, 1, rfl, r1, l1, ?_⟩
    rw [seen_is w1]
    refine ⟨n1, "", rfl, gn1, ?_, x, n, wsH hd, 1, rfl, r1, l1, fun H2 g2 r2 => ?_⟩
    · exact nought_lt gn1
    rw [seen_is w1]
    refine ⟨by show 1 ≤ sizeLine; decide, fun nl nnl => ?_⟩
    have xl : x ≠ nl := by
      obtain ⟨dx2, fs2, c0, _⟩ := r2.has
      exact ne_of_none c0 nnl
    have r3 : RowAt C (upd H2 nl (.lst [.str n1])) x n (wsH hd) 2 := r2.gr (Gr.new nnl)
    have e3 : upd H2 nl (.lst [.str n1]) nl = some (.lst [.str n1]) := upd_same
    have g3 : Gp x H (upd H2 nl (.lst [.str n1])) := (g1.trans g2).trans (Gp.gr (Gr.new nnl))
    generalize upd H2 nl (.lst [.str n1]) = H3 at r3 e3 g3 ⊢
    obtain ⟨dx3, fs3, c0, c1, c2, c3, c4⟩ := r3.has
    refine ⟨_, rfl, x, dx3, fs3, rfl, c0, c1, x, n, wsH hd, 2, rfl, r3, ?_, ?_⟩
    · rw [ehd]
      show 2 ≤ (n1 :: rest).length + 1
      simp
    cases rest with
    | nil =>
      have e : seenV (wsH hd) 2 = .non := by rw [ehd]; rfl
      rw [e]
      refine ⟨rfl, _, rfl, iteF ?_⟩
      have r4 : RowAt C H3 x n (wsH hd) (wsH hd).length := by
        rw [show (wsH hd).length = 2 by rw [ehd]; rfl]
        exact r3
      refine ⟨_, rfl, x, dx3, fs3, rfl, c0, c4, x, n, wsH hd, rfl, r4, ?_⟩
      refine ⟨_, rfl, nl, _, rfl, .inl ⟨.inl (.inl e3), fun p np => q _ p (g3.trans (Gp.gr (Gr.new np))) ?_⟩⟩
      rw [upd_same, ehd]
      rfl
    | cons n2 rest2 =>
      have e2 : rest2 = [] := by
        rw [ehd] at h2
        cases rest2 with
        | nil => rfl
        | cons a r => exact absurd h2 (by simp)
      subst e2
      have w2 : (wsH hd)[2]? = some n2 := by rw [ehd]; rfl
      have gn2 : isN n2 = true := hn n2 (by rw [ehd]; simp)
      have l2 : 2 ≤ (wsH hd).length := Nat.le_of_lt (lt_of_at w2)
      rw [seen_is w2]
      refine ⟨rfl, _, rfl, iteT ?_⟩
      refine ⟨_, rfl, .inl ⟨rfl, _, .inl (.inl e3)⟩, _, rfl, x, dx3, fs3, rfl, c0, c2, _, rfl, x, dx3, fs3, rfl, c0, c1, x, n, wsH hd, 2, rfl, r3, l2, ?_⟩
      rw [seen_is w2]
      refine ⟨_, rfl, nl, _, 0, _, rfl, rfl, .inl (.inl e3), rfl, n2, n1, rfl, gn2, ?_, x, n, wsH hd, 2, rfl, r3, l2, fun H4 g4 r4 => ?_⟩
      · rw [ehd] at up
        exact (List.pairwise_cons.mp up).1 n2 List.mem_cons_self
      rw [seen_is w2]
      have e4 : H4 nl = some (.lst [.str n1]) := g4.lst (Ne.symm xl) e3
      refine ⟨nl, _, _, rfl, rfl, e4, small1000 (by show 1 ≤ 1000; decide), ?_⟩
      have g5 : Gp x H (upd H4 nl (.lst ([.str n1] ++ [.str n2]))) := (g3.trans g4).upd_new ((g1.trans g2).back nl (Ne.symm xl) nnl)
      have e5 : upd H4 nl (.lst ([.str n1] ++ [.str n2])) nl = some (.lst ([.str n1] ++ [.str n2])) := upd_same
      have r5 : RowAt C (upd H4 nl (.lst ([.str n1] ++ [.str n2]))) x n (wsH hd) (wsH hd).length := by
        obtain ⟨dx4, wl4, d1, d2⟩ := r4
        have wn : wl4 ≠ nl := by
          intro z
          rw [z, e4] at d2
          have := HO.lst.inj (Option.some.inj d2)
          have hl := congrArg List.length this
          rw [List.length_append, List.length_map, ehd] at hl
          exact absurd hl (by show ¬ (1 = 3 + 1); decide)
        rw [show (wsH hd).length = 3 by rw [ehd]; rfl]
        exact ⟨dx4, wl4, (upd_ne xl).trans d1, (upd_ne wn).trans d2⟩
      generalize upd H4 nl (.lst ([.str n1] ++ [.str n2])) = H5 at g5 e5 r5 ⊢
      obtain ⟨dx5, fs5, d0, d1, d2, d3, d4⟩ := r5.has
      refine ⟨_, rfl, x, dx5, fs5, rfl, d0, d4, x, n, wsH hd, rfl, r5, ?_⟩
      refine ⟨_, rfl, nl, _, rfl, .inl ⟨.inl (.inl e5), fun p np => q _ p (g5.trans (Gp.gr (Gr.new np))) ?_⟩⟩
      rw [upd_same, ehd]
      rfl
end
end SfC
namespace SfC
open PySem PySem.Spec PyProof.Rows L2 SfG
theorem RowAt.kd {K : PySem.W.Frag} {C x : Addr} {H H' : Hp} {n : Int} {ws : List Str} {i : Nat} (r : RowAt C H x n ws i) (g : Gp x H H') : Kd K H H' := by
  obtain ⟨dx, wl, hx, _⟩ := r
  refine ⟨fun {a xs} h => ?_, fun {a xs} h => gp_sqtI g hx h⟩
  rcases h with (h | ⟨o, h⟩) | h
  · refine .inl (.inl (g.keep a _ (fun z => ?_) h (fun _ z => by cases z)))
    rw [z, hx] at h
    cases h
  · refine .inl (.inr ⟨o, g.keep a _ (fun z => ?_) h (fun _ z => by cases z)⟩)
    rw [z, hx] at h
    cases h
  · exact .inr h
theorem kS_colon {hd : List Str} (hn : ∀ z ∈ hd, isN z = true) {k : Kn} (h : goK hd k) : V.str (kS k) ≠ V.str colon := by
  intro e
  have e1 := V.str.inj e
  cases k with
  | h s =>
    have := hn s h
    rw [show s = colon from e1] at this
    exact absurd this (by decide +kernel)
  | p n =>
    obtain ⟨h2, h9⟩ := h
    have e2 := congrArg (fun z : Str => z.cps.toList) e1
    have e3 : colon.cps.toList = [58] := by decide +kernel
    simp only [e3] at e2
    have e4 : 48 + n.toNat = 58 := by simpa [kS] using e2
    omega
theorem wsD_tk {e : De} {j : Nat} {k : Kn} (h : e.tk[j]? = some k) : (wsD e)[1 + j]? = some (kS k) := by
  unfold wsD
  rw [Nat.add_comm, List.getElem?_cons_succ, List.getElem?_append_left (by rw [List.length_map]; exact lt_of_at h), List.getElem?_map, h]
  rfl
theorem wsD_colon (e : De) : (wsD e)[1 + e.tk.length]? = some colon := by
  unfold wsD
  rw [Nat.add_comm, List.getElem?_cons_succ, List.getElem?_append_right (by rw [List.length_map]; exact Nat.le_refl _), List.length_map, Nat.sub_self]
  rfl
theorem wsD_gv (e : De) : (wsD e)[1 + e.tk.length + 1]? = some (kS e.gv) := by
  unfold wsD
  rw [show 1 + e.tk.length + 1 = (e.tk.length + 1) + 1 by omega, List.getElem?_cons_succ, List.getElem?_append_right (by rw [List.length_map]; omega), List.length_map, Nat.add_sub_cancel_left]
  rfl
theorem wsD_all (e : De) : (wsD e).length = 1 + e.tk.length + 1 + 1 := by
  unfold wsD
  rw [List.length_cons, List.length_append, List.length_map]
  show e.tk.length + 2 + 1 = _
  omega
section
variable {P : Program} {w : World} {K : PySem.W.Frag} {mg : Str → Option Value} {base : Heap}
def spReadT (K : PySem.W.Frag) (C : Addr) : Sp := fun vs H Q _ => ∃ (x ph : Addr) (n : Int) (e : De) (hd : List Str), vs = [.ref x, .ref ph] ∧ RowAt C H x n (wsD e) 1 ∧ goD hd e ∧ (∀ z ∈ hd, isN z = true) ∧ SqT K H ph (hd.map V.str) ∧
  ∀ H' v, Gp x H H' → RowAt C H' x n (wsD e) (1 + e.tk.length + 1) → Dp K H' v (.tuple (e.tk.map Kn.d)) → Q v H'
set_option maxHeartbeats 1000000 in
theorem ok_readT {f fS fT fW fC fB fA C : Addr} {fd dS dT dW dC dB dA : FuncData} {k : Nat} (F : Fun K "read_takes" "read_takes" sReadT f fd) (Z : Rws P w K mg base C k fS fT fW fC dS dT dW dC) (HB : Has P w K mg base k "kind_by" ["word"] spKindBy fB dB)
    (HA : Has P w K mg base k "are_takes" ["thing", "hidden"] (spAreT K) fA dA) : FnOk P w K mg base CX0 (k + 1) f fd ["row", "hidden"] (spReadT K C) := by
  refine F.ok scReadT (fun vs H Q E h => ?_) (fun cdv A outer s H vs Q E hr h => ?_)
  · obtain ⟨x, ph, n, e, hd, rfl, _⟩ := h
    rfl
  · obtain ⟨x, ph, n, e, hd, rfl, r0, gd, hn, hph, q⟩ := h
    have nd := scReadT.nd
    refine' ⟨_, pss_cons ?s1 (pss_cons ?s2 (pss_cons ?s3 (pss_one ?s4))), ?rd⟩
    case s1 => exact ps_set (i := 2) nd rfl (.inl rfl) (pe_tup pa_nil)
    case s2 =>
      exact ps_while PassesOwn.never (pt_cmpR op_ne (pe_meth0 (pv 0) Z.R.cl Z.HS.me Z.HS.ok hr Z.HS.bd .nil pass0) pe_str (nomark _))
        (pss_cons (ps_set (i := 3) nd rfl (.inl rfl) (pe_tup (StX.pa_star (pv 2) (pa_cons (hcall HB hr (pa_cons (pe_meth0 (pv 0) Z.R.cl Z.HS.me Z.HS.ok hr Z.HS.bd .nil pass0) pa_nil)) pa_nil))))
        (pss_cons (ps_expr (pe_meth (pv 0) Z.R.cl Z.HT.me Z.HT.ok hr Z.HT.bd .nil pass0 (pa_cons (hcall HA hr (pa_cons (pv 3) (pa_cons (pv 1) pa_nil))) pa_nil)))
        (pss_one (ps_set (i := 2) nd rfl (.inl rfl) (pv 3)))))
    case s3 => exact ps_expr (pe_meth (pv 0) Z.R.cl Z.HW.me Z.HW.ok hr Z.HW.bd .nil pass0 (pa_cons pe_str pa_nil))
    case s4 => exact ps_ret (pv 2)
    case rd =>
    refine ⟨Nat.zero_le _, fun t0 nt0 => ?_⟩
    have all := wsD_all e
    have h3 := gd.len
    refine ⟨fun d σ H1 => ∃ (j : Nat) (tp : Addr) (y3 : Option V), σ = [some (.ref x), some (.ref ph), some (.ref tp), y3] ∧ j ≤ e.tk.length ∧ Gp x H H1 ∧ RowAt C H1 x n (wsD e) (1 + j) ∧ H1 tp = some (.tup ((e.tk.take j).map Kn.v)) ∧ SqT K H1 ph (hd.map V.str) ∧ d = e.tk.length - j,
      ⟨_, 0, t0, none, rfl, Nat.zero_le _, Gp.gr (Gr.new nt0), r0.gr (Gr.new nt0), upd_same, (Gr.new nt0).sqt hph, rfl⟩, ?_⟩
    rintro d σ H1 ⟨j, tp, y3, rfl, hj, g1, r1, htp, hph1, rfl⟩
    obtain ⟨dx, fs, e0, a1, a2, a3, a4⟩ := r1.has
    refine ⟨_, rfl, x, dx, fs, rfl, e0, a1, x, n, wsD e, 1 + j, rfl, r1, by omega, ?_⟩
    rcases Nat.lt_or_ge j e.tk.length with hlt | hge
    · have hk : e.tk[j]? = some e.tk[j] := List.getElem?_eq_getElem hlt
      generalize e.tk[j] = kn at hk
      have gk := gd.tk kn (List.mem_of_getElem? hk)
      have hw := wsD_tk hk
      rw [seen_is hw]
      refine ⟨rfl, _, rfl, ?_⟩
      rw [decide_eq_false (kS_colon hn gk)]
      refine iteT ⟨fun σ' H' => ∃ (tp : Addr) (y3 : Option V), σ' = [some (.ref x), some (.ref ph), some (.ref tp), y3] ∧ Gp x H H' ∧ RowAt C H' x n (wsD e) (1 + (j + 1)) ∧ H' tp = some (.tup ((e.tk.take (j + 1)).map Kn.v)) ∧ SqT K H' ph (hd.map V.str), ?_, ?_⟩
      · rintro σ' H' ⟨tp', y', b1, b2, b3, b4, b5⟩
        exact ⟨e.tk.length - (j + 1), by omega, j + 1, tp', y', b1, hlt, b2, b3, b4, b5, rfl⟩
      · refine ⟨_, rfl, tp, _, rfl, .inl (.inl (.inl htp)), _, rfl, x, dx, fs, rfl, e0, a1, x, n, wsD e, 1 + j, rfl, r1, by omega, ?_⟩
        rw [seen_is hw]
        refine ⟨kn, hd, rfl, gk, hn, ?_, fun t1 nt1 => ?_⟩
        · rw [List.length_append, List.length_map, List.length_take]
          exact Nat.le_of_lt (small1000 (by show _ + 1 ≤ 1000; omega))
        have eV : (e.tk.take j).map Kn.v ++ [kn.v] = (e.tk.take (j + 1)).map Kn.v := by
          rw [List.take_add_one, hk, List.map_append]
          rfl
        rw [eV]
        have g2 : Gr H1 (upd H1 t1 (.tup ((e.tk.take (j + 1)).map Kn.v))) := Gr.new nt1
        have e2 : upd H1 t1 (.tup ((e.tk.take (j + 1)).map Kn.v)) t1 = some (.tup ((e.tk.take (j + 1)).map Kn.v)) := upd_same
        generalize upd H1 t1 (.tup ((e.tk.take (j + 1)).map Kn.v)) = H2 at g2 e2 ⊢
        have r2 := r1.gr g2
        obtain ⟨dx2, fs2, c0, c1, c2, c3, c4⟩ := r2.has
        refine ⟨_, rfl, x, dx2, fs2, rfl, c0, c2, _, rfl, _, rfl, .ref t1, e.tk.take (j + 1), hd, ph, rfl, .tup (.inl (.inl e2)) (dpA_kv _), g2.sqt hph1, ?_, ?_, ?_, fun H3 g3 => ?_⟩
        · rw [List.length_take]
          omega
        · exact fun k hk => gd.tk k (List.mem_of_mem_take hk)
        · refine Nat.le_trans ?_ gd.two
          unfold hidN
          exact (List.Sublist.filter _ (List.take_sublist _ _)).length_le
        refine ⟨x, n, wsD e, 1 + j, rfl, r2.gr g3, by omega, fun H4 g4 r4 => ?_⟩
        have r3 := r2.gr g3
        have e4 : H4 t1 = some (.tup ((e.tk.take (j + 1)).map Kn.v)) := by
          refine g4.keep t1 _ ?_ (g3.tup e2) (fun _ z => by cases z)
          intro z
          rw [z, c0] at e2
          cases e2
        refine ⟨_, rfl, t1, _, rfl, ((g1.trans (Gp.gr g2)).trans (Gp.gr g3)).trans g4, ?_, e4, r3.sqt g4 ((g2.trans g3).sqt hph1)⟩
        rw [show 1 + (j + 1) = 1 + j + 1 by omega]
        exact r4
    · have ej : j = e.tk.length := by omega
      subst ej
      rw [seen_is (wsD_colon e)]
      refine ⟨rfl, _, rfl, ?_⟩
      rw [decide_eq_true rfl]
      refine iteF ?_
      refine ⟨_, rfl, x, dx, fs, rfl, e0, a3, x, n, wsD e, 1 + e.tk.length, colon, rfl, r1, wsD_colon e, fun H2 g2 r2 => ?_⟩
      rw [List.take_length] at htp
      refine ⟨_, rfl, q H2 _ (g1.trans g2) r2 (.tup (r1.sqt g2 (.inl (.inl htp))) (dpA_kv _))⟩
def spReadD (K : PySem.W.Frag) (C : Addr) : Sp := fun vs H Q _ => ∃ (x ph : Addr) (n : Int) (e : De) (hd : List Str) (a : Str), vs = [.ref x, .ref ph, .str a] ∧ RowAt C H x n (wsD e) 0 ∧ goD hd e ∧ (∀ z ∈ hd, isN z = true) ∧ lt a e.nm ∧ SqT K H ph (hd.map V.str) ∧
  ∀ H' v, Gp x H H' → Dp K H' v e.d → Q v H'
set_option maxHeartbeats 1000000 in
theorem ok_readD {f fS fT fW fC fN fR fB fK C : Addr} {fd dS dT dW dC dN dR dB dK : FuncData} {k : Nat} (F : Fun K "read_deed" "read_deed" sReadD f fd) (Z : Rws P w K mg base C k fS fT fW fC dS dT dW dC) (HN : Has P w K mg base k "is_next_name" ["thing", "ahead"] spNextN fN dN)
    (HR : Has P w K mg base k "read_takes" ["row", "hidden"] (spReadT K C) fR dR) (HB : Has P w K mg base k "kind_by" ["word"] spKindBy fB dB) (HK : Has P w K mg base k "is_kind" ["thing", "hidden"] (spKind K) fK dK) :
    FnOk P w K mg base CX0 (k + 1) f fd ["row", "hidden", "ahead"] (spReadD K C) := by
  refine F.ok scReadD (fun vs H Q E h => ?_) (fun cdv A outer s H vs Q E hr h => ?_)
  · obtain ⟨x, ph, n, e, hd, a, rfl, _⟩ := h
    rfl
  · obtain ⟨x, ph, n, e, hd, a, rfl, r0, gd, hn, hlt, hph, q⟩ := h
    have nd := scReadD.nd
    refine' ⟨_, pss_cons ?s1 (pss_cons ?s2 (pss_cons ?s3 (pss_cons ?s4 (pss_cons ?s5 (pss_one ?s6))))), ?rd⟩
    case s1 => exact ps_set (i := 3) nd rfl (.inl rfl) (pe_meth (pv 0) Z.R.cl Z.HT.me Z.HT.ok hr Z.HT.bd .nil pass0 (pa_cons (hcall HN hr (pa_cons (pe_meth0 (pv 0) Z.R.cl Z.HS.me Z.HS.ok hr Z.HS.bd .nil pass0) (pa_cons (pv 2) pa_nil))) pa_nil))
    case s2 => exact ps_set (i := 4) nd rfl (.inl rfl) (hcall HR hr (pa_cons (pv 0) (pa_cons (pv 1) pa_nil)))
    case s3 => exact ps_set (i := 5) nd rfl (.inl rfl) (hcall HB hr (pa_cons (pe_meth0 (pv 0) Z.R.cl Z.HS.me Z.HS.ok hr Z.HS.bd .nil pass0) pa_nil))
    case s4 => exact ps_expr (pe_meth (pv 0) Z.R.cl Z.HT.me Z.HT.ok hr Z.HT.bd .nil pass0 (pa_cons (hcall HK hr (pa_cons (pv 5) (pa_cons (pv 1) pa_nil))) pa_nil))
    case s5 => exact ps_expr (pe_meth0 (pv 0) Z.R.cl Z.HC.me Z.HC.ok hr Z.HC.bd .nil pass0)
    case s6 => exact ps_ret (pe_tup (pa_cons (pv 3) (pa_cons (pv 4) (pa_cons (pv 5) pa_nil))))
    case rd =>
    have all := wsD_all e
    have w0 : (wsD e)[0]? = some e.nm := rfl
    obtain ⟨dx, fs, e0, a1, a2, a3, a4⟩ := r0.has
    refine ⟨_, rfl, x, dx, fs, rfl, e0, a2, _, rfl, x, dx, fs, rfl, e0, a1, x, n, wsD e, 0, rfl, r0, Nat.zero_le _, ?_⟩
    rw [seen_is w0]
    refine ⟨_, rfl, e.nm, a, rfl, gd.nm, hlt, x, n, wsD e, 0, rfl, r0, Nat.zero_le _, fun H1 g1 r1 => ?_⟩
    rw [seen_is w0]
    -- takes
    refine ⟨_, rfl, _, rfl, x, ph, n, e, hd, rfl, r1, gd, hn, r0.sqt g1 hph, fun H2 v g2 r2 dv => ?_⟩
    have g12 := g1.trans g2
    -- gives
    have w2 := wsD_gv e
    have l2 : 1 + e.tk.length + 1 ≤ (wsD e).length := by omega
    obtain ⟨dx2, fs2, c0, c1, c2, c3, c4⟩ := r2.has
    refine ⟨_, rfl, x, dx2, fs2, rfl, c0, c1, x, n, wsD e, 1 + e.tk.length + 1, rfl, r2, l2, ?_⟩
    rw [seen_is w2]
    refine ⟨e.gv, hd, rfl, gd.gv, hn, ?_⟩
    refine ⟨_, rfl, x, dx2, fs2, rfl, c0, c2, _, rfl, _, rfl, e.gv, hd, ph, rfl, r0.sqt g12 hph, gd.gv, x, n, wsD e, 1 + e.tk.length + 1, rfl, r2, l2, fun H3 g3 r3 => ?_⟩
    -- the end
    have r3' : RowAt C H3 x n (wsD e) (wsD e).length := by
      rw [all]
      exact r3
    obtain ⟨dx3, fs3, d0, d1, d2, d3, d4⟩ := r3.has
    refine ⟨_, rfl, x, dx3, fs3, rfl, d0, d4, x, n, wsD e, rfl, r3', ?_⟩
    refine ⟨_, rfl, _, rfl, _, rfl, by show 3 ≤ sizeLine; decide, fun t nt => ?_⟩
    have g4 : Gr H3 (upd H3 t (.tup [.str e.nm, v, e.gv.v])) := Gr.new nt
    exact q _ _ ((g12.trans g3).trans (Gp.gr g4)) (.tup (.inl (.inl upd_same)) (.cons (.str _) (.cons (g4.kd.dp ((r2.kd g3).dp dv)) (.cons (dp_kv e.gv) .nil))))
end
end SfC
namespace SfC
open PySem PySem.Spec PyProof.Rows L2 SfG
theorem scReadF : FnScope ["text"] ["text"] (defScope sReadF) := ⟨rfl, rfl, rfl, by decide +kernel, rfl, by decide +kernel, by decide +kernel⟩
theorem scReadFB : FnScope ["rows", "ahead", "hidden", "deeds", "most", "number"] ["rows", "ahead"] (defScope sReadFB) := ⟨rfl, rfl, rfl, by decide +kernel, rfl, by decide +kernel, by decide +kernel⟩
theorem at_neg {α : Type} {xs : List α} {i : Nat} {v : α} (hl : xs.length = i + 1) (h : xs[i]? = some v) : atI xs (-1) = some v := by
  rcases List.eq_nil_or_concat xs with e | ⟨L, b, e⟩
  · rw [e] at hl
    cases hl
  · have e' : xs = L ++ [b] := by simpa using e
    have hL : L.length = i := by
      rw [e', List.length_append] at hl
      have : L.length + 1 = i + 1 := hl
      omega
    rw [e', ← hL, List.getElem?_append_right (Nat.le_refl _), Nat.sub_self] at h
    have hb : b = v := Option.some.inj h
    rw [e', ← hb]
    exact atI_last L b
theorem rows_ok {f : Fc} (go : goF f) : ∀ z ∈ rowsF f, 10 ∉ TL.tl z := by
  intro z hz
  rcases List.mem_cons.mp hz with rfl | hz
  · exact row_feed (clean_wsH go.hid.nm)
  · obtain ⟨e, he, rfl⟩ := List.mem_map.mp hz
    exact row_feed (clean_wsD go.hid.nm (go.ok e he))
theorem rows_len {f : Fc} (go : goF f) : ∀ z ∈ rowsF f, z.length ≤ 60 := by
  intro z hz
  rcases List.mem_cons.mp hz with rfl | hz
  · have a := row_len (clean_wsH go.hid.nm)
    have b := wsH_len go.hid
    unfold rowH
    omega
  · obtain ⟨e, he, rfl⟩ := List.mem_map.mp hz
    have a := row_len (clean_wsD go.hid.nm (go.ok e he))
    have b := wsD_len (go.ok e he)
    unfold rowD
    omega
theorem text_len {f : Fc} (go : goF f) : (textF f).length ≤ 1000 := by
  have a := join_len feed (by decide +kernel) (rows_len go)
  have b : (rowsF f).length ≤ 9 := by
    show (f.ds.map rowD).length + 1 ≤ 9
    rw [List.length_map]
    have := go.hi
    omega
  unfold textF
  have : (rowsF f).length * (60 + 1) ≤ 9 * 61 := Nat.mul_le_mul_right _ b
  omega
section
variable {P : Program} {w : World} {K : PySem.W.Frag} {mg : Str → Option Value} {base : Heap}
def spReadF (K : PySem.W.Frag) : Sp := fun vs H Q _ => ∃ f : Fc, vs = [.str (textF f)] ∧ goF f ∧ ∀ H' v, Gr H H' → Dp K H' v f.d → Q v H'
/-- the face of all rows behind the first so many -/
def spReadFB (K : PySem.W.Frag) : Sp := fun vs H Q _ => ∃ (rl : Addr) (pre : List Str) (f : Fc), vs = [.ref rl, .int (pre.length : Int)] ∧ H rl = some (.lst ((pre ++ rowsF f).map V.str)) ∧ pre.length ≤ 100000 ∧ goF f ∧ ∀ H' v, Gr H H' → Dp K H' v f.d → Q v H'
set_option maxHeartbeats 2000000 in
theorem ok_readFB {f fA fH fD fM C : Addr} {fd dA dH dD dM : FuncData} {k : Nat} {t8 : Tok} (F : Fun K "read_face_behind" "read_face_behind" sReadFB f fd) (HA : Has P w K mg base k "row_at" ["rows", "number"] (spRowAt K C) fA dA)
    (HH : Has P w K mg base k "read_hidden" ["row"] (spReadH C) fH dH) (HD : Has P w K mg base k "read_deed" ["row", "hidden", "ahead"] (spReadD K C) fD dD) (HM : Has P w K mg base k "need_no_more" ["rows", "most"] (spNoMore K) fM dM)
    (mr : mg "range" = none) (mm : mg "min" = none) (ml : mg "len" = none) (mt : mg "tuple" = none) (m8 : mg "MOST_DEEDS" = some (.int 8 t8)) : FnOk P w K mg base CX0 (k + 1) f fd ["rows", "ahead"] (spReadFB K) := by
  refine F.ok scReadFB (fun vs H Q E h => ?_) (fun cdv A outer s H vs Q E hr h => ?_)
  · obtain ⟨rl, pre, f, rfl, _⟩ := h
    rfl
  · obtain ⟨rl, pre, f, rfl, hrl, hp, go, q⟩ := h
    have nd := scReadFB.nd
    refine' ⟨_, pss_cons ?s1 (pss_cons ?s2 (pss_cons ?s3 (pss_cons ?s4 (pss_cons ?s5 (pss_one ?s6))))), ?rd⟩
    case s1 => exact ps_set (i := 2) nd rfl (.inl rfl) (hcall HH hr (pa_cons (hcall HA hr (pa_cons (pv 0) (pa_cons (pe_op op_add (pv 1) pe_int) pa_nil))) pa_nil))
    case s2 => exact ps_set (i := 3) nd rfl (.inl rfl) (pe_lst (pa_cons (hcall HD hr (pa_cons (hcall HA hr (pa_cons (pv 0) (pa_cons (pe_op op_add (pv 1) pe_int) pa_nil))) (pa_cons (pv 2) (pa_cons pe_str pa_nil)))) pa_nil))
    case s3 => exact ps_set (i := 4) nd rfl (.inl rfl) (pe_op op_add (pe_op op_add (pv 1) pe_int) (pe_glob (v := .int 8) rfl m8 ⟨_, rfl⟩))
    case s4 =>
      exact ps_for PassesOwn.never rfl (pi_range2 (by rfl) mr (pa_cons (pe_op op_add (pv 1) pe_int) (pa_cons (pe_op op_add (pe_callB (call_min2 rfl) (by rfl) mm (by decide +kernel) (pa_cons (pe_callB call_len_seq (by rfl) ml PySem.boot_len (pa_cons (pv 0) pa_nil)) (pa_cons (pv 4) pa_nil))) pe_int) pa_nil)))
        (pg_name (i := 5) nd rfl (.inl rfl))
        (pss_one (ps_expr (pe_bm PySem.F.plainAttrs_list PySem.F.slot_list_append PySem.F.type_list_append mt_append (pv 3) (pa_cons (hcall HD hr (pa_cons (hcall HA hr (pa_cons (pv 0) (pa_cons (pv 5) pa_nil))) (pa_cons (pv 2) (pa_cons (pe_ix ix_tup (pe_ix ix_list (pv 3) (pe_un un_neg pe_int) (fun _ _ => rfl)) pe_int (fun _ _ => rfl)) pa_nil)))) pa_nil))))
    case s5 => exact ps_expr (hcall HM hr (pa_cons (pv 0) (pa_cons (pv 4) pa_nil)))
    case s6 => exact ps_ret (pe_tup (pa_cons (pv 2) (pa_cons (pe_callTy call_tuple_of (by rfl) mt (by decide +kernel) (pa_cons (pv 3) pa_nil)) pa_nil)))
    case rd =>
    have hi8 := go.hi
    have hlo := go.lo
    have hn := go.hid.nm
    have rl_len : (rowsF f).length = f.ds.length + 1 := by
      show (f.ds.map rowD).length + 1 = _
      rw [List.length_map]
    have rowE : ∀ (i : Nat) (e : De), f.ds[i]? = some e → (rowsF f)[i + 1]? = some (Txt.join blank (wsD e)) := by
      intro i e he
      show (f.ds.map rowD)[i]? = _
      rw [List.getElem?_map, he]
      rfl
    have rowF : ∀ (i : Nat) (z : Str), (rowsF f)[i]? = some z → (pre ++ rowsF f)[pre.length + i]? = some z := by
      intro i z hz
      rw [List.getElem?_append_right (by omega), Nat.add_sub_cancel_left]
      exact hz
    have g1 := Gr.refl H
    -- hidden
    refine ⟨_, rfl, _, rfl, _, 1, rfl, rfl, rl, pre ++ rowsF f, pre.length, wsH f.hd, rfl, .inl (.inl hrl), rowF 0 _ rfl, by simp [wsH], clean_wsH hn, by have := wsH_len go.hid; omega, fun H2 x g2 nx r2 => ?_⟩
    refine ⟨x, _, f.hd, rfl, r2, go.hid, fun H3 ph g3 hph => ?_⟩
    have g13 : Gr H H3 := Gp.out g2 nx g3
    have hrl3 := g13.lst hrl
    -- the first deed
    obtain ⟨e0, rest, eds⟩ : ∃ e0 rest, f.ds = e0 :: rest := by
      cases hd : f.ds with
      | nil =>
        rw [hd] at hlo
        exact absurd hlo (by simp)
      | cons a r => exact ⟨a, r, rfl⟩
    have at0 : f.ds[0]? = some e0 := by rw [eds]; rfl
    have gd0 := go.ok e0 (List.mem_of_getElem? at0)
    refine ⟨_, rfl, _, rfl, _, 2, rfl, rfl, rl, pre ++ rowsF f, pre.length + 1, wsD e0, rfl, .inl (.inl hrl3), rowF 1 _ (rowE 0 e0 at0), by simp [wsD], clean_wsD hn gd0, by have := wsD_len gd0; omega, fun H4 x4 g4 nx4 r4 => ?_⟩
    refine ⟨_, rfl, x4, ph, _, e0, f.hd, "", rfl, r4, gd0, hn, nought_lt gd0.nm, g4.sqt (.inl (.inl hph)), fun H5 v5 g5 d5 => ?_⟩
    have g35 : Gr H3 H5 := Gp.out g4 nx4 g5
    refine ⟨by show 1 ≤ sizeLine; decide, fun dl ndl => ?_⟩
    have g6 : Gr H5 (upd H5 dl (.lst [v5])) := Gr.new ndl
    have e6 : upd H5 dl (.lst [v5]) dl = some (.lst [v5]) := upd_same
    have n5 : H3 dl = none := g35.back dl ndl
    generalize upd H5 dl (.lst [v5]) = H6 at g6 e6 ⊢
    have g36 : Gr H3 H6 := g35.trans g6
    have hrl6 := g36.lst hrl3
    -- the others
    refine ⟨_, rfl, _, 1, rfl, rfl, _, 8, rfl, rfl, ?_⟩
    have al_len : (pre ++ rowsF f).length = pre.length + (f.ds.length + 1) := by rw [List.length_append, rl_len]
    refine ⟨_, rfl, _, 3, rfl, rfl, _, rfl, rl, _, rfl, .inl (.inl (.inl hrl6)), _, rfl, _, _, rfl, _, 1, rfl, rfl, ?_⟩
    rw [List.length_map, al_len, if_neg (show ¬ (pre.length : Int) + 1 + 8 < ((pre.length + (f.ds.length + 1) : Nat) : Int) by omega)]
    refine ⟨(pre.length : Int) + 3, ((pre.length + (f.ds.length + 1) : Nat) : Int) + 1, rfl, ⟨by omega, by omega, by omega, by omega⟩, ?_⟩
    have cnt : (((pre.length + (f.ds.length + 1) : Nat) : Int) + 1 - ((pre.length : Int) + 3)).toNat = f.ds.length - 1 := by omega
    rw [cnt]
    refine for_it (walk_range (lo := (pre.length : Int) + 3) (n := f.ds.length - 1)) (fun i σ H7 => ∃ (xs : List V) (y4 : Option V), σ = [some (.ref rl), some (.int (pre.length : Int)), some (.ref ph), some (.ref dl), some (.int ((pre.length : Int) + 1 + 8)), y4] ∧ H7 dl = some (.lst xs) ∧ DpAll K H7 xs ((f.ds.take (i + 1)).map De.d) ∧ Gr H3 H7)
      ⟨[v5], none, rfl, e6, by rw [eds]; exact .cons (g6.kd.dp d5) .nil, g36⟩ (fun _ _ _ _ _ => trivial) ?h2 ?h3
    case h2 =>
      rintro i y σ H7' H7 hi ⟨xs, y4, rfl, e7, da7, g7⟩ ⟨rfl, rfl⟩
      have ai : f.ds[i]? = some f.ds[i] := List.getElem?_eq_getElem (by omega)
      have ai1 : f.ds[i + 1]? = some f.ds[i + 1] := List.getElem?_eq_getElem (by omega)
      have up := List.pairwise_iff_getElem.mp go.up i (i + 1) (by rw [List.length_map]; omega) (by rw [List.length_map]; omega) (by omega)
      rw [List.getElem_map, List.getElem_map] at up
      generalize f.ds[i] = ea at ai up
      generalize f.ds[i + 1] = eb at ai1 up
      have gdb := go.ok eb (List.mem_of_getElem? ai1)
      have lx : xs.length = i + 1 := by
        have a := dpA_len da7
        rw [List.length_map, List.length_take] at a
        omega
      obtain ⟨va, hva, dva⟩ := dpA_get (i := i) (d := ea.d) da7 (by rw [List.getElem?_map, List.getElem?_take_of_lt (by omega), ai]; rfl)
      refine ⟨_, rfl, .inl ⟨rfl, _, .inl (.inl e7)⟩, _, rfl, _, rfl, rl, pre ++ rowsF f, pre.length + (i + 2), wsD eb, ?_, .inl (.inl (g7.lst hrl3)), rowF (i + 2) _ (rowE (i + 1) eb ai1), by simp [wsD], clean_wsD hn gdb, by have := wsD_len gdb; omega, fun H8 x8 g8 nx8 r8 => ?_⟩
      · show [V.ref rl, V.int ((pre.length : Int) + 3 + (i : Int))] = [V.ref rl, V.int ((pre.length + (i + 2) + 1 : Nat) : Int)]
        rw [show (pre.length : Int) + 3 + (i : Int) = ((pre.length + (i + 2) + 1 : Nat) : Int) by omega]
      have e8 := g8.lst e7
      obtain ⟨pe, n1, t1, v1, rfl, hpe, dn, dt, dv⟩ := dp_3 (g8.kd.dp dva)
      cases dp_str dn
      refine ⟨_, rfl, _, rfl, 1, rfl, dl, _, -1, _, rfl, rfl, .inl (.inl e8), at_neg lx hva, pe, _, 0, _, rfl, rfl, hpe, rfl, x8, ph, _, eb, f.hd, ea.nm, rfl, r8, gdb, hn, up, (g7.trans g8).sqt (.inl (.inl hph)), fun H9 v9 g9 d9 => ?_⟩
      have g79 : Gr H7 H9 := Gp.out g8 nx8 g9
      have e9 := g79.lst e7
      refine ⟨dl, _, _, rfl, rfl, e9, small1000 (by omega), ?_⟩
      refine ⟨xs ++ [v9], _, rfl, upd_same, ?_, (g7.trans g79).upd_new n5⟩
      rw [List.take_add_one (i := i + 1), ai1, List.map_append]
      exact dpA_app (des_lst e9 (g79.kd.dpA da7)) (.cons (de_lst e9 d9) .nil)
    case h3 =>
      rintro σ H7 ⟨xs, y4, rfl, e7, da7, g7⟩
      rw [show f.ds.length - 1 + 1 = f.ds.length by omega, List.take_length] at da7
      refine ⟨_, rfl, _, rfl, rl, _, _, rfl, .inl (.inl (g7.lst hrl3)), ?_, ?_⟩
      · rw [List.length_map, al_len]
        show ((pre.length + (f.ds.length + 1) : Nat) : Int) ≤ (pre.length : Int) + 1 + 8
        omega
      refine ⟨_, rfl, _, rfl, dl, _, rfl, .inl ⟨.inl (.inl e7), fun td ntd => ?_⟩⟩
      have k1 : Gr H7 (upd H7 td (.tup xs)) := Gr.new ntd
      have w1 : upd H7 td (.tup xs) td = some (.tup xs) := upd_same
      generalize upd H7 td (.tup xs) = H8 at k1 w1 ⊢
      refine ⟨by show 2 ≤ sizeLine; decide, fun tf ntf => ?_⟩
      have k2 : Gr H8 (upd H8 tf (.tup [.ref ph, .ref td])) := Gr.new ntf
      refine q _ (.ref tf) (g1.trans (g13.trans (g7.trans (k1.trans k2)))) ?_
      exact .tup (.inl (.inl upd_same)) (.cons (.tup (.inl (.inl (k2.tup (k1.tup (g7.tup hph))))) (dpA_sv f.hd)) (.cons (.tup (.inl (.inl (k2.tup w1))) ((k1.trans k2).kd.dpA da7)) .nil))
/-- the face of a text -/
theorem ok_readF {f fO fB : Addr} {fd dO dB : FuncData} {k : Nat} (F : Fun K "read_face" "read_face" sReadF f fd) (HO_ : Has P w K mg base k "rows_of" ["text"] spRowsOf fO dO) (HB : Has P w K mg base k "read_face_behind" ["rows", "ahead"] (spReadFB K) fB dB) :
    FnOk P w K mg base CX0 (k + 1) f fd ["text"] (spReadF K) := by
  refine F.ok scReadF (fun vs H Q E h => ?_) (fun cdv A outer s H vs Q E hr h => ?_)
  · obtain ⟨f, rfl, _⟩ := h
    rfl
  · obtain ⟨f, rfl, go, q⟩ := h
    refine ⟨_, pss_one (ps_ret (hcall HB hr (pa_cons (hcall HO_ hr (pa_cons (pv 0) pa_nil)) (pa_cons pe_int pa_nil)))), ?_⟩
    refine ⟨_, rfl, rowsF f, rfl, by simp [rowsF], rows_ok go, Nat.le_trans (text_len go) (by decide), fun H1 rl g1 nrl hrl => ?_⟩
    exact ⟨rl, [], f, rfl, hrl, Nat.zero_le _, go, fun H2 v g2 hv => q H2 v (g1.trans g2) hv⟩
end
end SfC
namespace SfC
open PySem PySem.Spec PyProof.Rows L2 SfG
abbrev nDeedRow : List Str := ["deed", "name", "takes", "gives", "words", "word"]
theorem scDeedRow : FnScope nDeedRow ["deed"] (defScope sDeedRow) := ⟨rfl, rfl, rfl, by decide +kernel, rfl, by decide +kernel, by decide +kernel⟩
theorem scFaceRows : FnScope ["face", "hidden", "deeds", "rows", "deed"] ["face"] (defScope sFaceRows) := ⟨rfl, rfl, rfl, by decide +kernel, rfl, by decide +kernel, by decide +kernel⟩
theorem scFaceText : FnScope ["face"] ["face"] (defScope sFaceText) := ⟨rfl, rfl, rfl, by decide +kernel, rfl, by decide +kernel, by decide +kernel⟩
/-- str of a text or a number -/
def rStrX : List V → Hp → VK → Prop := fun xs H Q => (∃ a, xs = [.str a] ∧ Q (.str a) H) ∨ ∃ i : Int, xs = [.int i] ∧ i.natAbs.log2 < 1920 ∧ Q (.str (toString i)) H
theorem call_strX {X : Cx} : CallR X (.type "str") rStrX := by
  intro pins s σ H xs us Q I r h
  rcases h with h | h
  · exact SkE.call_str_str pins s σ H xs us Q I r h
  · exact call_str_int pins s σ H xs us Q I r h
theorem app_len (a b : Str) : (a ++ b).length = a.length + b.length := by
  show (a.cps ++ b.cps).size = _
  exact Array.size_append
theorem str_kn {hd : List Str} {k : Kn} (h : goK hd k) {H : Hp} {Q : VK} (q : Q (.str (kS k)) H) : rStrX [k.v] H Q := by
  cases k with
  | h s => exact .inl ⟨s, rfl, q⟩
  | p n =>
    obtain ⟨h2, h9⟩ := h
    refine .inr ⟨n, rfl, ?_, ?_⟩
    · have e : n.natAbs ≠ 0 := by omega
      refine Nat.lt_of_lt_of_le ((Nat.log2_lt (k := 10) e).mpr ?_) (by decide)
      have : (2 : Nat) ^ 10 = 1024 := by decide
      omega
    · rw [str_kind h2 h9]
      exact q
/-- the words of a row, ahead of str -/
def wkD (e : De) : List Kn := .h e.nm :: (e.tk ++ [.h colon, e.gv])
theorem wkD_S (e : De) : (wkD e).map kS = wsD e := by
  unfold wkD wsD
  rw [List.map_cons, List.map_append]
  rfl
theorem wkD_V (e : De) : (wkD e).map Kn.v = .str e.nm :: (e.tk.map Kn.v ++ [.str colon, e.gv.v]) := by
  unfold wkD
  rw [List.map_cons, List.map_append]
  rfl
theorem sum_len : ∀ {ws : List Str}, (∀ z ∈ ws, z.length ≤ 1000) → (ws.map (·.length)).sum ≤ ws.length * 1000
  | [], _ => by simp
  | a :: r, h => by
    rw [List.map_cons, List.sum_cons, List.length_cons, Nat.succ_mul]
    have h1 := h a List.mem_cons_self
    have h2 := sum_len fun z hz => h z (List.mem_cons_of_mem _ hz)
    omega
theorem rows_lenX {f : Fc} (go : goF f) : ∀ z ∈ rowsF f, z.length ≤ 60 := by
  intro z hz
  rcases List.mem_cons.mp hz with rfl | hz
  · have a := row_len (clean_wsH go.hid.nm)
    have b := wsH_len go.hid
    unfold rowH
    omega
  · obtain ⟨e, he, rfl⟩ := List.mem_map.mp hz
    have a := row_len (clean_wsD go.hid.nm (go.ok e he))
    have b := wsD_len (go.ok e he)
    unfold rowD
    omega
section
variable {P : Program} {w : World} {K : PySem.W.Frag} {mg : Str → Option Value} {base : Heap}
def spDeedRow (K : PySem.W.Frag) : Sp := fun vs H Q _ => ∃ (x : V) (e : De) (hd : List Str), vs = [x] ∧ Dp K H x e.d ∧ goD hd e ∧ (∀ z ∈ hd, isN z = true) ∧ ∀ H', Gr H H' → Q (.str (rowD e)) H'
theorem ok_deedRow {f : Addr} {fd : FuncData} {k : Nat} (F : Fun K "deed_row" "deed_row" sDeedRow f fd) (m1 : mg "str" = none) : FnOk P w K mg base CX0 (k + 1) f fd ["deed"] (spDeedRow K) := by
  refine F.ok scDeedRow (fun vs H Q E h => ?_) (fun cdv A outer s H vs Q E hr h => ?_)
  · obtain ⟨x, e, hd, rfl, _⟩ := h
    rfl
  · obtain ⟨x, e, hd, rfl, hx, gd, hn, q⟩ := h
    have nd := scDeedRow.nd
    refine' ⟨_, pss_cons ?s1 (pss_cons ?s2 (pss_one ?s3)), ?rd⟩
    case s1 => exact ps_asg (pv 0) (pg_tup rfl (pgs_cons (pg_name (i := 1) nd rfl (.inl rfl)) (pgs_cons (pg_name (i := 2) nd rfl (.inl rfl)) (pgs_cons (pg_name (i := 3) nd rfl (.inl rfl)) pgs_nil))))
    case s2 => exact ps_set (i := 4) nd rfl (.inl rfl) (pe_lst (pa_cons (pv 1) (StX.pa_star (pv 2) (pa_cons pe_str (pa_cons (pv 3) pa_nil)))))
    case s3 =>
      exact ps_ret (pe_join pe_str (pe_lc (own := [("word", 5)]) (g := gName 5) rfl nd (pi_list (pv 4)) (blkOk_by (own := [("word", 5)]) (N := nDeedRow) (sc := defScope sDeedRow) (by decide +kernel)) (fun _ _ _ _ _ => pg_name (i := 5) nd rfl (Or.inl rfl)) (fun _ _ _ _ _ => pts_nil)
        (fun _ _ _ _ _ => pe_callTy call_strX (by rfl) m1 (by decide +kernel) (pa_cons (pv 5) pa_nil))))
    case rd =>
    obtain ⟨pe, n1, t1, v1, rfl, hpe, dn, dt, dv⟩ := dp_3 hx
    cases dp_str dn
    cases dp_kn dv
    obtain ⟨pt, ts, rfl, hpt, hts⟩ := dp_tup dt
    cases dpA_kns hts
    have h3 := gd.len
    have lw : (wkD e).length ≤ 6 := by
      have := wsD_len gd
      rw [← wkD_S, List.length_map] at this
      exact this
    refine ⟨_, rfl, pe, _, rfl, hpe, rfl, _, _, rfl, _, _, rfl, _, _, rfl, rfl, ?_⟩
    refine ⟨_, rfl, _, rfl, pt, _, rfl, .inl hpt, _, rfl, ?_, fun wl nwl => ?_⟩
    · show (V.str e.nm :: (e.tk.map Kn.v ++ [.str colon, e.gv.v])).length ≤ sizeLine
      rw [← wkD_V, List.length_map]
      exact Nat.le_of_lt (small1000 (by omega))
    have eW : upd H wl (.lst (V.str e.nm :: (e.tk.map Kn.v ++ [.str colon, e.gv.v]))) = upd H wl (.lst ((wkD e).map Kn.v)) := by rw [wkD_V]
    have g1 : Gr H (upd H wl (.lst (V.str e.nm :: (e.tk.map Kn.v ++ [.str colon, e.gv.v])))) := Gr.new nwl
    have e1 : upd H wl (.lst (V.str e.nm :: (e.tk.map Kn.v ++ [.str colon, e.gv.v]))) wl = some (.lst ((wkD e).map Kn.v)) := by rw [eW]; exact upd_same
    clear eW
    generalize upd H wl (.lst (V.str e.nm :: (e.tk.map Kn.v ++ [.str colon, e.gv.v]))) = H1 at g1 e1 ⊢
    refine ⟨⟨_, rfl⟩, _, rfl, wl, rfl, ⟨_, .inl (.inl e1)⟩, fun D nD => ?_⟩
    have gD : ∀ o, Gr H1 (upd H1 D o) := fun o => Gr.new nD
    refine lc_it (walk_list (xs := (wkD e).map Kn.v)) (fun i H2 => H2 = upd H1 D (.lst ((((wkD e).take i).map kS).map V.str))) rfl ?c0 ?c1 ?c2
    case c0 =>
      rintro i H2 hi rfl
      exact .inl (.inl ((gD _).lst e1))
    case c1 =>
      rintro i y H2 H2' hi rfl ⟨rfl, hy⟩
      rw [List.getElem?_map] at hy
      obtain ⟨kn, hkn, rfl⟩ := Option.map_eq_some_iff.mp hy
      refine ⟨rfl, ?_⟩
      unfold tYes
      refine iteT ⟨_, rfl, ?_⟩
      have fin : ∃ acc, upd H1 D (.lst ((((wkD e).take i).map kS).map V.str)) D = some (.lst acc) ∧ acc.length < sizeLine ∧ upd (upd H1 D (.lst ((((wkD e).take i).map kS).map V.str))) D (.lst (acc ++ [.str (kS kn)])) = upd H1 D (.lst ((((wkD e).take (i + 1)).map kS).map V.str)) := by
        refine ⟨_, upd_same, ?_, ?_⟩
        · rw [List.length_map, List.length_map, List.length_take]
          exact small1000 (by omega)
        · rw [upd_upd, List.take_add_one, hkn, List.map_append, List.map_append]
          rfl
      rcases List.mem_cons.mp (List.mem_of_getElem? hkn) with rfl | hm
      · exact .inl ⟨_, rfl, fin⟩
      · rcases List.mem_append.mp hm with h | h
        · have T : ∀ (H : Hp) (Q : VK), Q (.str (kS kn)) H → rStrX [kn.v] H Q := fun H Q q => str_kn (gd.tk kn h) q
          delta tNil
          refine T _ _ ?_
          exact fin
        · have h' : kn = .h colon ∨ kn = e.gv := by simpa using h
          rcases h' with rfl | rfl
          · exact .inl ⟨_, rfl, fin⟩
          · have T : ∀ (H : Hp) (Q : VK), Q (.str (kS e.gv)) H → rStrX [e.gv.v] H Q := fun H Q q => str_kn gd.gv q
            delta tNil
            refine T _ _ ?_
            exact fin
    case c2 =>
    rintro H2 rfl
    rw [List.length_map, List.take_length, wkD_S]
    have cl := clean_wsD hn gd
    refine ⟨blank, D, wsD e, rfl, rfl, .inl (.inl (.inl upd_same)), ?_, ?_⟩
    · have a := sum_len (ws := wsD e) fun z hz => Nat.le_trans (cl z hz).2.1 (by decide)
      have b := wsD_len gd
      have c : blank.length = 1 := by decide +kernel
      rw [c]
      omega
    · exact q _ (g1.trans (gD _))
def spFText (K : PySem.W.Frag) : Sp := fun vs H Q _ => ∃ (x : V) (f : Fc), vs = [x] ∧ Dp K H x f.d ∧ goF f ∧ ∀ H', Gr H H' → Q (.str (textF f)) H'
theorem rows_sum {f : Fc} (go : goF f) : ((rowsF f).map (·.length)).sum + (rowsF f).length * 1 ≤ 16777216 := by
  have a := sum_len (ws := rowsF f) fun z hz => Nat.le_trans (rows_lenX go z hz) (by decide)
  have b : (rowsF f).length ≤ 9 := by
    show (f.ds.map rowD).length + 1 ≤ 9
    rw [List.length_map]
    have := go.hi
    omega
  omega
def spFRows (K : PySem.W.Frag) : Sp := fun vs H Q _ => ∃ (x : V) (f : Fc), vs = [x] ∧ Dp K H x f.d ∧ goF f ∧ ∀ H' p, Gr H H' → H p = none → H' p = some (.lst ((rowsF f).map V.str)) → Q (.ref p) H'
theorem ok_faceRows {f fD : Addr} {fd dD : FuncData} {k : Nat} (F : Fun K "face_rows" "face_rows" sFaceRows f fd) (HD : Has P w K mg base k "deed_row" ["deed"] (spDeedRow K) fD dD) :
    FnOk P w K mg base CX0 (k + 1) f fd ["face"] (spFRows K) := by
  refine F.ok scFaceRows (fun vs H Q E h => ?_) (fun cdv A outer s H vs Q E hr h => ?_)
  · obtain ⟨x, f, rfl, _⟩ := h
    rfl
  · obtain ⟨x, f, rfl, hx, go, q⟩ := h
    have nd := scFaceRows.nd
    refine' ⟨_, pss_cons ?s2 (pss_cons ?s3 (pss_cons ?s4 (pss_one ?s5))), ?rd⟩
    case s2 => exact ps_asg (pv 0) (pg_tup rfl (pgs_cons (pg_name (i := 1) nd rfl (.inl rfl)) (pgs_cons (pg_name (i := 2) nd rfl (.inl rfl)) pgs_nil)))
    case s3 => exact ps_set (i := 3) nd rfl (.inl rfl) (pe_lst (pa_cons (pe_join pe_str (pe_lst (pa_cons pe_str (StX.pa_star (pv 1) pa_nil)))) pa_nil))
    case s4 =>
      exact ps_for PassesOwn.never rfl (pi_tup (pv 2)) (pg_name (i := 4) nd rfl (.inl rfl)) (pss_one (ps_expr (pe_bm PySem.F.plainAttrs_list PySem.F.slot_list_append PySem.F.type_list_append mt_append (pv 3) (pa_cons (hcall HD hr (pa_cons (pv 4) pa_nil)) pa_nil))))
    case s5 => exact ps_ret (pv 3)
    case rd =>
    have hi8 := go.hi
    have hn := go.hid.nm
    have g1 : Gr H H := Gr.refl H
    have hx1 : Dp K H x f.d := hx
    generalize hH1 : H = H1 at hx1 ⊢
    obtain ⟨p, ph, pd, xs, rfl, hp, hph, hpd, dd⟩ := dp_face hx1
    have hl : xs.length = f.ds.length := by
      have := dpA_len dd
      rw [List.length_map] at this
      exact this
    refine ⟨_, rfl, p, _, rfl, hp, rfl, _, _, rfl, _, _, rfl, rfl, ?_⟩
    refine ⟨⟨_, rfl⟩, _, rfl, ph, _, rfl, .inl hph, ?_, fun wl nwl => ?_⟩
    · show (V.str "hidden" :: (f.hd.map V.str ++ [])).length ≤ sizeLine
      rw [List.append_nil, List.length_cons, List.length_map]
      have := go.hid.hi
      exact Nat.le_of_lt (small1000 (by omega))
    have g2 : Gr H1 (upd H1 wl (.lst (V.str "hidden" :: (f.hd.map V.str ++ [])))) := Gr.new nwl
    have e2 : upd H1 wl (.lst (V.str "hidden" :: (f.hd.map V.str ++ []))) wl = some (.lst ((wsH f.hd).map V.str)) := by
      rw [upd_same, List.append_nil]
      rfl
    generalize upd H1 wl (.lst (V.str "hidden" :: (f.hd.map V.str ++ []))) = H2 at g2 e2 ⊢
    refine ⟨blank, wl, wsH f.hd, rfl, rfl, .inl (.inl (.inl e2)), ?_, by show 1 ≤ sizeLine; decide, fun rl nrl => ?_⟩
    · have a := sum_len (ws := wsH f.hd) fun z hz => Nat.le_trans (clean_wsH hn z hz).2.1 (by decide)
      have b := wsH_len go.hid
      have c : blank.length = 1 := by decide +kernel
      rw [c]
      omega
    have g3 : Gr H2 (upd H2 rl (.lst [.str (rowH f.hd)])) := Gr.new nrl
    have e3 : upd H2 rl (.lst [.str (Txt.join blank (wsH f.hd))]) rl = some (.lst [.str (rowH f.hd)]) := upd_same
    have n3 : H1 rl = none := g2.back rl nrl
    change Gr H2 (upd H2 rl (.lst [.str (Txt.join blank (wsH f.hd))])) at g3
    generalize upd H2 rl (.lst [.str (Txt.join blank (wsH f.hd))]) = H3 at g3 e3 ⊢
    have g13 := g2.trans g3
    refine ⟨_, rfl, pd, rfl, ⟨_, g13.sqt hpd⟩, ?_⟩
    refine for_it (walk_tup (xs := xs)) (fun i σ H4 => ∃ y4 : Option V, σ = [some (.ref p), some (.ref ph), some (.ref pd), some (.ref rl), y4] ∧ H4 rl = some (.lst ((rowH f.hd :: (f.ds.take i).map rowD).map V.str)) ∧ Gr H1 H4) ⟨none, rfl, e3, g13⟩ ?h1 ?h2 ?h3
    case h1 =>
      rintro i σ H4 hi ⟨y4, rfl, e4, g4⟩
      exact g4.sqt hpd
    case h2 =>
      rintro i v σ H4' H4 hi ⟨y4, rfl, e4, g4⟩ ⟨rfl, hv⟩
      obtain ⟨e, he, de⟩ := dpA_de (g4.kd.dpA dd) hv
      refine ⟨_, rfl, .inl ⟨rfl, _, .inl (.inl e4)⟩, _, rfl, v, e, f.hd, rfl, de, go.ok e (List.mem_of_getElem? he), hn, fun H5 g5 => ?_⟩
      refine ⟨rl, _, _, rfl, rfl, g5.lst e4, ?_, ?_⟩
      · rw [List.length_map, List.length_cons, List.length_map, List.length_take]
        exact small1000 (by omega)
      · refine ⟨_, rfl, ?_, (g4.trans g5).upd_new n3⟩
        rw [upd_same, List.take_add_one, he, List.map_append]
        simp
    case h3 =>
      rintro σ H4 ⟨y4, rfl, e4, g4⟩
      rw [hl, List.take_length] at e4
      subst hH1
      exact ⟨_, rfl, q H4 rl (g1.trans g4) n3 e4⟩
theorem ok_faceText {f fN fR : Addr} {fd dN dR : FuncData} {k : Nat} (F : Fun K "face_text" "face_text" sFaceText f fd) (HN : Has P w K mg base k "need_face" ["face"] (spGood K .non) fN dN) (HR : Has P w K mg base k "face_rows" ["face"] (spFRows K) fR dR) :
    FnOk P w K mg base CX0 (k + 1) f fd ["face"] (spFText K) := by
  refine F.ok scFaceText (fun vs H Q E h => ?_) (fun cdv A outer s H vs Q E hr h => ?_)
  · obtain ⟨x, f, rfl, _⟩ := h
    rfl
  · obtain ⟨x, f, rfl, hx, go, q⟩ := h
    refine ⟨_, pss_cons (ps_expr (hcall HN hr (pa_cons (pv 0) pa_nil))) (pss_one (ps_ret (pe_join pe_str (hcall HR hr (pa_cons (pv 0) pa_nil))))), ?_⟩
    refine ⟨_, rfl, x, f, rfl, hx, go, fun H1 g1 => ?_⟩
    refine ⟨⟨_, rfl⟩, _, rfl, x, f, rfl, g1.kd.dp hx, go, fun H2 p g2 _ hp => ?_⟩
    refine ⟨feed, p, rowsF f, rfl, rfl, .inl (.inl (.inl hp)), ?_, q H2 (g1.trans g2)⟩
    have c : feed.length = 1 := by decide +kernel
    rw [c]
    exact rows_sum go
end
end SfC
/-! unlike faces have unlike texts -/
namespace SfC
open PySem PySem.Spec PyProof.Rows L2 SfG
theorem fig_no : ∀ n : Nat, n < 10 → isN (⟨#[48 + n]⟩ : Str) = false := by decide +kernel
theorem kS_p {n : Int} : kS (.p n) = ⟨#[48 + n.toNat]⟩ := rfl
theorem kS_inj {hd hd' : List Str} {k k' : Kn} (hn : ∀ z ∈ hd, isN z = true) (hn' : ∀ z ∈ hd', isN z = true) (h : goK hd k) (h' : goK hd' k') (e : kS k = kS k') : k = k' := by
  cases k with
  | h s =>
    cases k' with
    | h s' => exact congrArg Kn.h e
    | p n =>
      obtain ⟨a, b⟩ := h'
      have z := hn s h
      rw [show s = kS (.p n) from e, kS_p, fig_no _ (by omega)] at z
      cases z
  | p n =>
    obtain ⟨a, b⟩ := h
    cases k' with
    | h s' =>
      have z := hn' s' h'
      rw [show s' = kS (.p n) from e.symm, kS_p, fig_no _ (by omega)] at z
      cases z
    | p m =>
      obtain ⟨a', b'⟩ := h'
      rw [kS_p, kS_p] at e
      have z : (#[48 + n.toNat] : Array Nat) = #[48 + m.toNat] := congrArg Str.cps e
      have z2 : 48 + n.toNat = 48 + m.toNat := by simpa using z
      exact congrArg Kn.p (by omega)
theorem kSs_inj {hd hd' : List Str} (hn : ∀ z ∈ hd, isN z = true) (hn' : ∀ z ∈ hd', isN z = true) : ∀ {l l' : List Kn}, (∀ k ∈ l, goK hd k) → (∀ k ∈ l', goK hd' k) → l.map kS = l'.map kS → l = l'
  | [], [], _, _, _ => rfl
  | [], _ :: _, _, _, e => by cases e
  | _ :: _, [], _, _, e => by cases e
  | a :: r, b :: t, h, h', e => by
    rw [List.map_cons, List.map_cons] at e
    obtain ⟨e1, e2⟩ := List.cons.inj e
    rw [kS_inj hn hn' (h a (.head _)) (h' b (.head _)) e1, kSs_inj hn hn' (fun k hk => h k (.tail _ hk)) (fun k hk => h' k (.tail _ hk)) e2]
theorem wsD_inj {hd hd' : List Str} {e e' : De} (hn : ∀ z ∈ hd, isN z = true) (hn' : ∀ z ∈ hd', isN z = true) (g : goD hd e) (g' : goD hd' e') (h : wsD e = wsD e') : e = e' := by
  unfold wsD at h
  obtain ⟨h1, h2⟩ := List.cons.inj h
  have l : (e.tk.map kS).length = (e'.tk.map kS).length := by
    have z := congrArg List.length h2
    rw [List.length_append, List.length_append] at z
    exact Nat.add_right_cancel z
  obtain ⟨h3, h4⟩ := List.append_inj h2 l
  have h5 : kS e.gv = kS e'.gv := (List.cons.inj (List.cons.inj h4).2).1
  have t := kSs_inj hn hn' g.tk g'.tk h3
  have v := kS_inj hn hn' g.gv g'.gv h5
  obtain ⟨n1, t1, v1⟩ := e
  obtain ⟨n2, t2, v2⟩ := e'
  cases (show n1 = n2 from h1)
  cases (show t1 = t2 from t)
  cases (show v1 = v2 from v)
  rfl
theorem rowD_inj {hd hd' : List Str} {e e' : De} (hn : ∀ z ∈ hd, isN z = true) (hn' : ∀ z ∈ hd', isN z = true) (g : goD hd e) (g' : goD hd' e') (h : rowD e = rowD e') : e = e' := by
  refine wsD_inj hn hn' g g' ?_
  rw [← split_words (by unfold wsD; simp) (clean_wsD hn g), ← split_words (by unfold wsD; simp) (clean_wsD hn' g')]
  exact congrArg (Txt.split · blank) h
theorem rowDs_inj {hd hd' : List Str} (hn : ∀ z ∈ hd, isN z = true) (hn' : ∀ z ∈ hd', isN z = true) : ∀ {l l' : List De}, (∀ e ∈ l, goD hd e) → (∀ e ∈ l', goD hd' e) → l.map rowD = l'.map rowD → l = l'
  | [], [], _, _, _ => rfl
  | [], _ :: _, _, _, e => by cases e
  | _ :: _, [], _, _, e => by cases e
  | a :: r, b :: t, h, h', e => by
    rw [List.map_cons, List.map_cons] at e
    obtain ⟨e1, e2⟩ := List.cons.inj e
    rw [rowD_inj hn hn' (h a (.head _)) (h' b (.head _)) e1, rowDs_inj hn hn' (fun k hk => h k (.tail _ hk)) (fun k hk => h' k (.tail _ hk)) e2]
theorem rows_feed {f : Fc} (go : goF f) : ∀ z ∈ rowsF f, 10 ∉ TL.tl z := by
  intro z hz
  rcases List.mem_cons.mp hz with rfl | hz
  · exact row_feed (clean_wsH go.hid.nm)
  · obtain ⟨e, he, rfl⟩ := List.mem_map.mp hz
    exact row_feed (clean_wsD go.hid.nm (go.ok e he))
/-- faces whose texts are alike are alike -/
theorem textF_inj {f g : Fc} (go : goF f) (go' : goF g) (h : textF f = textF g) : f = g := by
  have rows : rowsF f = rowsF g := by
    rw [← split_rows (by unfold rowsF; simp) (rows_feed go), ← split_rows (by unfold rowsF; simp) (rows_feed go')]
    exact congrArg (Txt.split · feed) h
  obtain ⟨h1, h2⟩ := List.cons.inj rows
  have hh : wsH f.hd = wsH g.hd := by
    rw [← split_words (by unfold wsH; simp) (clean_wsH go.hid.nm), ← split_words (by unfold wsH; simp) (clean_wsH go'.hid.nm)]
    exact congrArg (Txt.split · blank) h1
  have d := rowDs_inj go.hid.nm go'.hid.nm go.ok go'.ok h2
  obtain ⟨a, b⟩ := f
  obtain ⟨a', b'⟩ := g
  cases (show a = a' from (List.cons.inj hh).2)
  cases (show b = b' from d)
  rfl
end SfC
/-! faces called otherwise -/
namespace SfC
open PySem PySem.Spec PyProof.Rows L2 SfG
def renK (km : Str → Str) : Kn → Kn
  | .h s => .h (km s)
  | .p n => .p n
def renD (wm km : Str → Str) (e : De) : De := ⟨wm e.nm, e.tk.map (renK km), renK km e.gv⟩
/-- names for names and for hidden kinds: each a name, unlike ones for unlike ones -/
structure Ren (f : Fc) (wm km : Str → Str) : Prop where
  wn : ∀ e ∈ f.ds, isN (wm e.nm) = true
  kn : ∀ z ∈ f.hd, isN (km z) = true
  wi : ∀ a ∈ f.ds.map De.nm, ∀ b ∈ f.ds.map De.nm, wm a = wm b → a = b
  ki : ∀ a ∈ f.hd, ∀ b ∈ f.hd, km a = km b → a = b
/-- g is f called so -/
structure Called (f g : Fc) (wm km : Str → Str) : Prop where
  hp : g.hd.Perm (f.hd.map km)
  hs : g.hd.Pairwise lt
  dp : g.ds.Perm (f.ds.map (renD wm km))
  ds : (g.ds.map De.nm).Pairwise lt
theorem hidN_ren (km : Str → Str) : ∀ l : List Kn, hidN (l.map (renK km)) = hidN l
  | [] => rfl
  | .h s :: r => by
    have := hidN_ren km r
    unfold hidN at this ⊢
    simp only [List.map_cons, renK, List.filter_cons, Kn.isH, if_true, List.length_cons, this]
  | .p n :: r => by
    have := hidN_ren km r
    unfold hidN at this ⊢
    simp only [List.map_cons, renK, List.filter_cons, Kn.isH, this]
    simp [this]
theorem goK_ren {hd hd' : List Str} {km : Str → Str} (hp : hd'.Perm (hd.map km)) {k : Kn} (h : goK hd k) : goK hd' (renK km k) := by
  cases k with
  | h s => exact hp.mem_iff.mpr (List.mem_map_of_mem (f := km) (show s ∈ hd from h))
  | p n => exact h
theorem Called.go {f g : Fc} {wm km : Str → Str} (C : Called f g wm km) (go : goF f) (R : Ren f wm km) : goF g := by
  have lh := C.hp.length_eq
  have ld := C.dp.length_eq
  rw [List.length_map] at lh ld
  refine ⟨⟨by rw [lh]; exact go.hid.lo, by rw [lh]; exact go.hid.hi, fun z hz => ?_, C.hs⟩, by rw [ld]; exact go.lo, by rw [ld]; exact go.hi, C.ds, fun e he => ?_⟩
  · obtain ⟨y, hy, rfl⟩ := List.mem_map.mp (C.hp.mem_iff.mp hz)
    exact R.kn y hy
  · obtain ⟨d, hd, rfl⟩ := List.mem_map.mp (C.dp.mem_iff.mp he)
    have gd := go.ok d hd
    refine ⟨R.wn d hd, ?_, fun k hk => ?_, ?_, goK_ren C.hp gd.gv⟩
    · show (d.tk.map (renK km)).length ≤ 3
      rw [List.length_map]
      exact gd.len
    · obtain ⟨k0, hk0, rfl⟩ := List.mem_map.mp hk
      exact goK_ren C.hp (gd.tk k0 hk0)
    · show hidN (d.tk.map (renK km)) ≤ 2
      rw [hidN_ren]
      exact gd.two
/-- a list that is sorted, its things unlike, rises -/
theorem rises {l : List Str} (s : l.Pairwise (fun x y => ¬ lt y x)) (n : l.Nodup) : l.Pairwise lt := by
  refine List.Pairwise.imp₂ (R := fun x y : Str => ¬ lt y x) (S := fun x y : Str => x ≠ y) (fun {a b} h1 h2 => ?_) s n
  rcases Classical.em (lt a b) with h | h
  · exact h
  · have e : a.cps.toList = b.cps.toList := List.le_antisymm (List.not_lt.mp h1) (List.not_lt.mp h)
    exact absurd (str_ext e) h2
theorem nodup_map {α : Type} {f : α → Str} : ∀ {l : List α}, (∀ a ∈ l, ∀ b ∈ l, f a = f b → a = b) → l.Nodup → (l.map f).Nodup
  | [], _, _ => List.nodup_nil
  | a :: r, h, n => by
    obtain ⟨n1, n2⟩ := List.nodup_cons.mp n
    rw [List.map_cons]
    refine List.nodup_cons.mpr ⟨fun m => ?_, nodup_map (fun x hx y hy => h x (.tail _ hx) y (.tail _ hy)) n2⟩
    obtain ⟨b, hb, e⟩ := List.mem_map.mp m
    exact n1 (h b (.tail _ hb) a (.head _) e ▸ hb)
end SfC
/-! _law_called -/
namespace SfC
open PySem PySem.Spec PyProof.Rows L2 SfG
abbrev nCalled : List Str := ["_law_face_here", "_law_words", "_law_kinds", "_law_deeds", "_law_name", "_law_takes", "_law_gives", "_law_kind_here"]
theorem scCalled : FnScope nCalled ["_law_face_here", "_law_words", "_law_kinds"] (defScope sCalled) := ⟨rfl, rfl, rfl, by decide +kernel, rfl, by decide +kernel, by decide +kernel⟩
/-- two dicts: words for names, kinds for kinds -/
structure Dct (f : Fc) (wds kds : List (Key × V)) (wm km : Str → Str) : Prop where
  w : ∀ z ∈ f.ds.map De.nm, valV wds (.inr z) = some (.str (wm z))
  k : ∀ z ∈ f.hd, valV kds (.inr z) = some (.str (km z))
  n : ∀ i, valV kds (.inl i) = none
/-- the key of a kind -/
def Kn.key : Kn → Key
  | .h s => .inr s
  | .p n => .inl n
theorem Kn.kV (k : Kn) : k.v = kV k.key := by cases k <;> rfl
theorem Dct.get {f : Fc} {wds kds : List (Key × V)} {wm km : Str → Str} (D : Dct f wds kds wm km) {k : Kn} (h : goK f.hd k) : (valV kds k.key).getD k.v = (renK km k).v := by
  cases k with
  | h s => rw [show valV kds (Kn.key (.h s)) = some (.str (km s)) from D.k s h]; rfl
  | p n => rw [show valV kds (Kn.key (.p n)) = none from D.n n]; rfl
/-- what a list of data, put in another order, holds -/
theorem dpA_perm {K : PySem.W.Frag} {H : Hp} {hd : V → Str} {xs ys : List V} (p : ys.Perm xs) : ∀ {es : List De}, DpAll K H xs (es.map De.d) → xs.map hd = es.map De.nm → ∃ es' : List De, es'.Perm es ∧ DpAll K H ys (es'.map De.d) ∧ ys.map hd = es'.map De.nm := by
  induction p with
  | nil =>
    intro es h n
    exact ⟨es, .refl _, h, n⟩
  | cons x _ ih =>
    intro es h n
    cases es with
    | nil => cases h
    | cons e es =>
      rw [List.map_cons, List.map_cons] at n
      obtain ⟨n1, n2⟩ := List.cons.inj n
      cases h with
      | cons h1 h2 =>
        obtain ⟨es', p', h', n'⟩ := ih h2 n2
        exact ⟨e :: es', p'.cons e, .cons h1 h', by rw [List.map_cons, List.map_cons, n1, n']⟩
  | swap x y l =>
    intro es h n
    match es, h, n with
    | [], h, _ => cases h
    | [_], h, _ => cases h with | cons _ h2 => cases h2
    | a :: b :: r, h, n =>
      simp only [List.map_cons] at n
      obtain ⟨n1, n2⟩ := List.cons.inj n
      obtain ⟨n3, n4⟩ := List.cons.inj n2
      cases h with
      | cons h1 h2 =>
        cases h2 with
        | cons h3 h4 => exact ⟨b :: a :: r, .swap a b r, .cons h3 (.cons h1 h4), by simp only [List.map_cons, n1, n3, n4]⟩
  | trans _ _ ih1 ih2 =>
    intro es h n
    obtain ⟨e1, p1, h1, n1⟩ := ih2 h n
    obtain ⟨e2, p2, h2, n2⟩ := ih1 h1 n1
    exact ⟨e2, p2.trans p1, h2, n2⟩
theorem inj_nodup {α : Type} {f : α → Str} : ∀ {l : List α}, (l.map f).Nodup → ∀ a ∈ l, ∀ b ∈ l, f a = f b → a = b
  | [], _, a, ha, _, _, _ => by cases ha
  | x :: r, n, a, ha, b, hb, e => by
    rw [List.map_cons] at n
    obtain ⟨n1, n2⟩ := List.nodup_cons.mp n
    rcases List.mem_cons.mp ha with ea | ha
    · rcases List.mem_cons.mp hb with eb | hb
      · rw [ea, eb]
      · exact absurd (List.mem_map.mpr ⟨b, hb, by rw [← e, ea]⟩) n1
    · rcases List.mem_cons.mp hb with eb | hb
      · exact absurd (List.mem_map.mpr ⟨a, ha, by rw [e, eb]⟩) n1
      · exact inj_nodup n2 a ha b hb e
theorem nodup_lt {l : List Str} (h : l.Pairwise lt) : l.Nodup := List.Pairwise.imp (fun {a b} z e => by rw [e] at z; exact List.lt_irrefl _ z) h
/-- the text with which a new tuple begins -/
def hdH (H : Hp) : V → Str
  | .ref t => match H t with
    | some (.tup (.str z :: _)) => z
    | _ => ""
  | _ => ""
theorem hdH_tup {H : Hp} {t : Addr} {z : Str} {r : List V} (h : H t = some (.tup (.str z :: r))) : hdH H (.ref t) = z := by
  show (match H t with | some (.tup (.str z :: _)) => z | _ => "") = z
  rw [h]
/-- tuples of the heap that begin with texts -/
def Begin (H : Hp) (xs : List V) (zs : List Str) : Prop := xs.length = zs.length ∧ ∀ (i : Nat) (t : V), xs[i]? = some t → ∃ (p : Addr) (z : Str) (r : List V), t = V.ref p ∧ zs[i]? = some z ∧ H p = some (.tup (.str z :: r))
theorem Begin.gr {H H' : Hp} {xs : List V} {zs : List Str} (b : Begin H xs zs) (g : Gr H H') : Begin H' xs zs :=
  ⟨b.1, fun i t h => by
    obtain ⟨p, z, r, e1, e2, e3⟩ := b.2 i t h
    exact ⟨p, z, r, e1, e2, g.tup e3⟩⟩
theorem Begin.lst {H : Hp} {xs : List V} {zs : List Str} {D : Addr} {ys ys' : List V} (b : Begin H xs zs) (hD : H D = some (.lst ys)) : Begin (upd H D (.lst ys')) xs zs :=
  ⟨b.1, fun i t h => by
    obtain ⟨p, z, r, e1, e2, e3⟩ := b.2 i t h
    refine ⟨p, z, r, e1, e2, ?_⟩
    rw [upd_ne (by intro z; rw [z, hD] at e3; cases e3)]
    exact e3⟩
theorem Begin.snoc {H : Hp} {xs : List V} {zs : List Str} {p : Addr} {z : Str} {r : List V} (b : Begin H xs zs) (h : H p = some (.tup (.str z :: r))) : Begin H (xs ++ [.ref p]) (zs ++ [z]) := by
  refine ⟨by rw [List.length_append, List.length_append, b.1]; rfl, fun i t hi => ?_⟩
  rcases Nat.lt_or_ge i xs.length with l | l
  · rw [List.getElem?_append_left l] at hi
    obtain ⟨p, z, r, e1, e2, e3⟩ := b.2 i t hi
    exact ⟨p, z, r, e1, by rw [List.getElem?_append_left (by rw [← b.1]; exact l)]; exact e2, e3⟩
  · rw [List.getElem?_append_right l] at hi
    have e : i - xs.length = 0 := by
      rcases Nat.eq_zero_or_pos (i - xs.length) with z | z
      · exact z
      · rw [List.getElem?_eq_none (by show 1 ≤ _; omega)] at hi
        cases hi
    rw [e] at hi
    cases hi
    exact ⟨p, z, r, rfl, by rw [List.getElem?_append_right (by rw [← b.1]; exact l), ← b.1, e]; rfl, h⟩
/-- heads are those texts -/
theorem Begin.map {H : Hp} {xs : List V} {zs : List Str} (b : Begin H xs zs) : xs.map (hdH H) = zs := by
  refine List.ext_getElem? fun i => ?_
  rw [List.getElem?_map]
  rcases h : xs[i]? with _ | t
  · have l := List.getElem?_eq_none_iff.mp h
    rw [List.getElem?_eq_none (by rw [← b.1]; exact l)]
    rfl
  · obtain ⟨p, z, r, e1, e2, e3⟩ := b.2 i t h
    rw [e2, e1]
    show some (hdH H (.ref p)) = some z
    rw [hdH_tup e3]
section
variable {P : Program} {w : World} {K : PySem.W.Frag} {mg : Str → Option Value} {base : Heap}
def spCalled (K : PySem.W.Frag) : Sp := fun vs H Q _ => ∃ (x : V) (wd kd : Addr) (f : Fc) (wds kds : List (Key × V)) (wm km : Str → Str), vs = [x, .ref wd, .ref kd] ∧ Dp K H x f.d ∧ goF f ∧ Ren f wm km ∧ H wd = some (.dK wds) ∧ H kd = some (.dK kds) ∧ Dct f wds kds wm km ∧
  ∀ H' v g, Gr H H' → Dp K H' v (Fc.d g) → Called f g wm km → Q v H'
set_option maxHeartbeats 2000000 in
theorem ok_called {f : Addr} {fd : FuncData} {k : Nat} (F : Fun K "_law_called" "_law_called" sCalled f fd) (mt : mg "tuple" = none) (ms : mg "sorted" = none) : FnOk P w K mg base CX0 (k + 1) f fd ["_law_face_here", "_law_words", "_law_kinds"] (spCalled K) := by
  refine F.ok scCalled (fun vs H Q E h => ?_) (fun cdv A outer s H vs Q E hr h => ?_)
  · obtain ⟨x, wd, kd, f, wds, kds, wm, km, rfl, _⟩ := h
    rfl
  · obtain ⟨x, wd, kd, f, wds, kds, wm, km, rfl, hx, go, R, hw, hk, D, q⟩ := h
    have nd := scCalled.nd
    refine' ⟨_, pss_cons ?s1 (pss_cons ?s2 (pss_one ?s3)), ?rd⟩
    case s1 => exact ps_set (i := 3) nd rfl (.inl rfl) (pe_lst pa_nil)
    case s2 =>
      refine' ps_for PassesOwn.never rfl (pi_tup (pe_ix ix_tup (pv 0) pe_int (fun _ _ => rfl))) (pg_tup rfl (pgs_cons (pg_name (i := 4) nd rfl (.inl rfl)) (pgs_cons (pg_name (i := 5) nd rfl (.inl rfl)) (pgs_cons (pg_name (i := 6) nd rfl (.inl rfl)) pgs_nil)))) (pss_one ?b1)
      case b1 =>
        exact ps_expr (pe_bm PySem.F.plainAttrs_list PySem.F.slot_list_append PySem.F.type_list_append mt_append (pv 3) (pa_cons (pe_tup (pa_cons (pe_dget (hu_of hr) (pv 1) (pv 4) (fun _ _ => rfl)) (pa_cons (pe_callTy call_tuple_of (by rfl) mt (by decide +kernel) (pa_cons
          (pe_lc (own := [("_law_kind_here", 7)]) (g := gName 7) rfl nd (pi_tup (pv 5)) (blkOk_by (own := [("_law_kind_here", 7)]) (N := nCalled) (sc := defScope sCalled) (by decide +kernel)) (fun _ _ _ _ _ => pg_name (i := 7) nd rfl (Or.inl rfl)) (fun _ _ _ _ _ => pts_nil)
            (fun _ _ _ _ _ => pe_dget2 (hu_of hr) (pv 2) (pv 7) (pv 7) ⟨rfl, rfl, rfl, rfl⟩)) pa_nil)) (pa_cons (pe_dget2 (hu_of hr) (pv 2) (pv 6) (pv 6) ⟨rfl, rfl, rfl, rfl⟩) pa_nil)))) pa_nil))
    case s3 =>
      exact ps_ret (pe_tup (pa_cons (pe_callTy call_tuple_of (by rfl) mt (by decide +kernel) (pa_cons (pe_callB cr_sortedS (by rfl) ms (by decide +kernel) (pa_cons
          (pe_lc (own := [("_law_kind_here", 7)]) (g := gName 7) rfl nd (pi_tup (pe_ix ix_tup (pv 0) pe_int (fun _ _ => rfl))) (blkOk_by (own := [("_law_kind_here", 7)]) (N := nCalled) (sc := defScope sCalled) (by decide +kernel)) (fun _ _ _ _ _ => pg_name (i := 7) nd rfl (Or.inl rfl)) (fun _ _ _ _ _ => pts_nil)
            (fun _ _ _ _ _ => pe_dget (hu_of hr) (pv 2) (pv 7) (fun _ _ => rfl))) pa_nil)) pa_nil))
        (pa_cons (pe_callTy call_tuple_of (by rfl) mt (by decide +kernel) (pa_cons (pe_callB cr_sortedH (by rfl) ms (by decide +kernel) (pa_cons (pv 3) pa_nil)) pa_nil)) pa_nil)))
    case rd =>
    obtain ⟨p, ph, pd, xs, rfl, hp, hph, hpd, dd⟩ := dp_face hx
    have hl : xs.length = f.ds.length := by
      have := dpA_len dd
      rw [List.length_map] at this
      exact this
    have hi8 := go.hi
    refine ⟨Nat.zero_le _, fun dl ndl => ?_⟩
    have g1 : Gr H (upd H dl (.lst [])) := Gr.new ndl
    have e1 : upd H dl (.lst []) dl = some (.lst []) := upd_same
    generalize upd H dl (.lst []) = H1 at g1 e1 ⊢
    refine ⟨_, rfl, p, _, 1, _, rfl, rfl, g1.sqt hp, rfl, pd, rfl, ⟨_, g1.sqt hpd⟩, ?_⟩
    refine for_it (walk_tup (xs := xs)) (fun i σ H2 => ∃ (ys : List V) (y4 y5 y6 : Option V), σ = [some (.ref p), some (.ref wd), some (.ref kd), some (.ref dl), y4, y5, y6, none] ∧ H2 dl = some (.lst ys) ∧
      DpAll K H2 ys (((f.ds.take i).map (renD wm km)).map De.d) ∧ Begin H2 ys (((f.ds.take i).map (renD wm km)).map De.nm) ∧ Gr H H2) ⟨[], none, none, none, rfl, e1, .nil, ⟨rfl, fun i t h => by cases h⟩, g1⟩ ?h1 ?h2 ?h3
    case h1 =>
      rintro i σ H2 hi ⟨ys, y4, y5, y6, rfl, e2, d2, b2, g2⟩
      exact g2.sqt hpd
    case h2 =>
      rintro i v σ H2' H2 hi ⟨ys, y4, y5, y6, rfl, e2, d2, b2, g2⟩ ⟨rfl, hv⟩
      obtain ⟨e, he, de⟩ := dpA_de (g2.kd.dpA dd) hv
      have me := List.mem_of_getElem? he
      have gd := go.ok e me
      have h3 := gd.len
      obtain ⟨pe, n1, t1, v1, rfl, hpe, dn, dt, dv⟩ := dp_3 de
      cases dp_str dn
      cases dp_kn dv
      obtain ⟨pt, ts, rfl, hpt, hts⟩ := dp_tup dt
      cases dpA_kns hts
      have ly : ys.length ≤ 8 := by
        have a1 := dpA_len d2
        rw [List.length_map, List.length_map, List.length_take] at a1
        omega
      refine ⟨pe, _, rfl, hpe, rfl, _, _, rfl, _, _, rfl, _, _, rfl, rfl, ?_⟩
      refine ⟨_, rfl, .inl ⟨rfl, _, .inl (.inl e2)⟩, _, rfl, _, rfl, wd, .str (wm e.nm), rfl, ?_, ?_⟩
      · have z := DGet.k (k := .inr e.nm) (g2.dic hw)
        rw [D.w e.nm (List.mem_map_of_mem me)] at z
        exact z
      refine ⟨_, rfl, pt, rfl, ⟨_, hpt⟩, fun C nC => ?_⟩
      have gC : ∀ o, Gr H2 (upd H2 C o) := fun o => Gr.new nC
      refine lc_it (walk_tup (xs := e.tk.map Kn.v)) (fun j H3 => H3 = upd H2 C (.lst (((e.tk.take j).map (renK km)).map Kn.v))) rfl ?c0 ?c1 ?c2
      case c0 =>
        rintro j H3 hj rfl
        exact (gC _).sqt hpt
      case c1 =>
        rintro j y H3 H3' hj rfl ⟨rfl, hy⟩
        rw [List.getElem?_map] at hy
        obtain ⟨kn, hkn, rfl⟩ := Option.map_eq_some_iff.mp hy
        have gk := gd.tk kn (List.mem_of_getElem? hkn)
        refine ⟨rfl, ?_⟩
        unfold tYes
        refine iteT ⟨_, rfl, kd, rfl, .inl ⟨kds, .inl ((g2.trans (gC _)).dic hk)⟩, _, rfl, _, rfl, valV kds kn.key, ?_, ?_⟩
        · rw [kn.kV]
          exact DGet.k ((g2.trans (gC _)).dic hk)
        rw [D.get gk]
        refine ⟨_, upd_same, ?_, ?_⟩
        · rw [List.length_map, List.length_map, List.length_take]
          exact small1000 (by omega)
        · rw [upd_upd, List.take_add_one, hkn, List.map_append, List.map_append]
          rfl
      case c2 =>
      rintro H3 rfl
      rw [List.length_map, List.take_length]
      have g3 : Gr H2 (upd H2 C (.lst ((e.tk.map (renK km)).map Kn.v))) := gC _
      have e3 : upd H2 C (.lst ((e.tk.map (renK km)).map Kn.v)) C = some (.lst ((e.tk.map (renK km)).map Kn.v)) := upd_same
      generalize upd H2 C (.lst ((e.tk.map (renK km)).map Kn.v)) = H3 at g3 e3 ⊢
      refine ⟨C, _, rfl, .inl ⟨.inl (.inl e3), fun tt ntt => ?_⟩⟩
      have g4 : Gr H3 (upd H3 tt (.tup ((e.tk.map (renK km)).map Kn.v))) := Gr.new ntt
      have e4 : upd H3 tt (.tup ((e.tk.map (renK km)).map Kn.v)) tt = some (.tup ((e.tk.map (renK km)).map Kn.v)) := upd_same
      generalize upd H3 tt (.tup ((e.tk.map (renK km)).map Kn.v)) = H4 at g4 e4 ⊢
      have g24 := g3.trans g4
      refine ⟨_, rfl, kd, rfl, .inl ⟨kds, .inl ((g2.trans g24).dic hk)⟩, _, rfl, _, rfl, valV kds e.gv.key, ?_, ?_⟩
      · rw [e.gv.kV]
        exact DGet.k ((g2.trans g24).dic hk)
      rw [D.get gd.gv]
      refine ⟨by show 3 ≤ sizeLine; decide, fun te nte => ?_⟩
      have g5 : Gr H4 (upd H4 te (.tup [.str (wm e.nm), .ref tt, (renK km e.gv).v])) := Gr.new nte
      have e5 : upd H4 te (.tup [.str (wm e.nm), .ref tt, (renK km e.gv).v]) te = some (.tup [.str (wm e.nm), .ref tt, (renK km e.gv).v]) := upd_same
      generalize upd H4 te (.tup [.str (wm e.nm), .ref tt, (renK km e.gv).v]) = H5 at g5 e5 ⊢
      have gA := g24.trans g5
      have hd5 := gA.lst e2
      have new : Dp K H5 (.ref te) (renD wm km e).d := .tup (.inl (.inl e5)) (.cons (.str _) (.cons (.tup (.inl (.inl (g5.tup e4))) (dpA_kv _)) (.cons (dp_kv _) .nil)))
      refine ⟨dl, _, _, rfl, rfl, hd5, small1000 (by omega), ?_⟩
      refine ⟨ys ++ [.ref te], _, _, _, rfl, upd_same, ?_, ?_, (g2.trans gA).upd_new ndl⟩
      · rw [List.take_add_one, he, List.map_append, List.map_append]
        exact dpA_app (des_lst hd5 (gA.kd.dpA d2)) (.cons (de_lst hd5 new) .nil)
      · rw [List.take_add_one, he, List.map_append, List.map_append]
        exact ((b2.gr gA).snoc e5).lst hd5
    case h3 =>
    rintro σ H2 ⟨ys, y4, y5, y6, rfl, e2, d2, b2, g2⟩
    rw [hl, List.take_length] at d2 b2
    have nK : (f.hd.map km).Nodup := nodup_map R.ki (nodup_lt go.hid.up)
    have eN : (f.ds.map (renD wm km)).map De.nm = (f.ds.map De.nm).map wm := by
      rw [List.map_map, List.map_map]
      rfl
    have nN : ((f.ds.map (renD wm km)).map De.nm).Nodup := by
      rw [eN]
      exact nodup_map R.wi (nodup_lt go.up)
    -- hidden
    refine ⟨_, rfl, p, _, 0, _, rfl, rfl, g2.sqt hp, rfl, ph, rfl, ⟨_, g2.sqt hph⟩, fun C nC => ?_⟩
    have gC : ∀ o, Gr H2 (upd H2 C o) := fun o => Gr.new nC
    have hi2 := go.hid.hi
    refine lc_it (walk_tup (xs := f.hd.map V.str)) (fun j H3 => H3 = upd H2 C (.lst (((f.hd.take j).map km).map V.str))) rfl ?d0 ?d1 ?d2
    case d0 =>
      rintro j H3 hj rfl
      exact (gC _).sqt (g2.sqt hph)
    case d1 =>
      rintro j y H3 H3' hj rfl ⟨rfl, hy⟩
      rw [List.getElem?_map] at hy
      obtain ⟨z, hz, rfl⟩ := Option.map_eq_some_iff.mp hy
      refine ⟨rfl, ?_⟩
      unfold tYes
      refine iteT ⟨_, rfl, _, rfl, kd, .str (km z), rfl, ?_, ?_⟩
      · have t := DGet.k (k := .inr z) ((g2.trans (gC (.lst (((f.hd.take j).map km).map V.str)))).dic hk)
        rw [D.k z (List.mem_of_getElem? hz)] at t
        exact t
      refine ⟨_, upd_same, ?_, ?_⟩
      · rw [List.length_map, List.length_map, List.length_take]
        exact small1000 (by omega)
      · rw [upd_upd, List.take_add_one, hz, List.map_append, List.map_append]
        rfl
    case d2 =>
    rintro H3 rfl
    rw [List.length_map, List.take_length]
    have g3 : Gr H2 (upd H2 C (.lst ((f.hd.map km).map V.str))) := gC _
    have e3 : upd H2 C (.lst ((f.hd.map km).map V.str)) C = some (.lst ((f.hd.map km).map V.str)) := upd_same
    generalize upd H2 C (.lst ((f.hd.map km).map V.str)) = H3 at g3 e3 ⊢
    refine ⟨C, f.hd.map km, rfl, .inl (.inl e3), by rw [List.length_map]; omega, fun zs p4 perm so n4 => ?_⟩
    have g4 : Gr H3 (upd H3 p4 (.lst (zs.map V.str))) := Gr.new n4
    have e4 : upd H3 p4 (.lst (zs.map V.str)) p4 = some (.lst (zs.map V.str)) := upd_same
    generalize upd H3 p4 (.lst (zs.map V.str)) = H4 at g4 e4 ⊢
    refine ⟨p4, _, rfl, .inl ⟨.inl (.inl e4), fun th nth => ?_⟩⟩
    have g5 : Gr H4 (upd H4 th (.tup (zs.map V.str))) := Gr.new nth
    have e5 : upd H4 th (.tup (zs.map V.str)) th = some (.tup (zs.map V.str)) := upd_same
    generalize upd H4 th (.tup (zs.map V.str)) = H5 at g5 e5 ⊢
    have g25 := g3.trans (g4.trans g5)
    -- deeds
    have b5 := b2.gr g25
    have m5 := b5.map
    refine ⟨_, rfl, dl, ys, hdH H5, rfl, .inl (.inl (g25.lst e2)), ?_, inj_nodup (by rw [m5]; exact nN), fun us p6 perm6 so6 n6 => ?_⟩
    · intro x hx
      obtain ⟨i, hi⟩ := List.getElem?_of_mem hx
      obtain ⟨t, z, r, rfl, _, ht⟩ := b5.2 i x hi
      exact ⟨t, r, rfl, .inl (.inl (by rw [hdH_tup ht]; exact ht))⟩
    obtain ⟨es, pe, de, ne⟩ := dpA_perm (hd := hdH H5) perm6 (g25.kd.dpA d2) m5
    have g6 : Gr H5 (upd H5 p6 (.lst us)) := Gr.new n6
    have e6 : upd H5 p6 (.lst us) p6 = some (.lst us) := upd_same
    have rise : (es.map De.nm).Pairwise lt := by
      refine rises ?_ ((pe.map De.nm).nodup_iff.mpr nN)
      rw [← ne]
      exact List.pairwise_map.mpr so6
    generalize upd H5 p6 (.lst us) = H6 at g6 e6 ⊢
    refine ⟨p6, _, rfl, .inl ⟨.inl (.inl e6), fun td ntd => ?_⟩⟩
    have g7 : Gr H6 (upd H6 td (.tup us)) := Gr.new ntd
    have e7 : upd H6 td (.tup us) td = some (.tup us) := upd_same
    generalize upd H6 td (.tup us) = H7 at g7 e7 ⊢
    refine ⟨by show 2 ≤ sizeLine; decide, fun tf ntf => ?_⟩
    have g8 : Gr H7 (upd H7 tf (.tup [.ref th, .ref td])) := Gr.new ntf
    have g58 := g6.trans (g7.trans g8)
    refine q _ (.ref tf) ⟨zs, es⟩ (g2.trans (g25.trans g58)) ?_ ⟨perm, sorted_up so perm nK, pe, rise⟩
    exact .tup (.inl (.inl upd_same)) (.cons (.tup (.inl (.inl (g58.tup e5))) (dpA_sv zs)) (.cons (.tup (.inl (.inl (g8.tup e7))) (g58.kd.dpA de)) .nil))
end
end SfC
/-! faces that are compared -/
namespace SfC
open PySem PySem.Spec PyProof.Rows L2 SfG
/-- can be compared, so deep -/
structure Cm (d : PyData) (D : Nat) : Prop where
  lay : d.canLay0 = true
  dep : d.depth ≤ D
theorem Cm.shaped {d : PyData} {D : Nat} (h : Cm d D) (hD : D ≤ 64) : SeqAt.shaped d = true := by
  unfold SeqAt.shaped
  rw [h.lay, decide_eq_true (Nat.le_trans h.dep hD)]
  rfl
theorem Cm.mono {d : PyData} {D D' : Nat} (h : Cm d D) (hD : D ≤ D') : Cm d D' := ⟨h.lay, Nat.le_trans h.dep hD⟩
theorem cm_all {D : Nat} : ∀ {ds : List PyData}, (∀ d ∈ ds, Cm d D) → PyData.canLayAll0 ds = true ∧ PyData.depthAll ds ≤ D
  | [], _ => ⟨rfl, by simp [PyData.depthAll]⟩
  | d :: r, h => by
    obtain ⟨a, b⟩ := cm_all (D := D) (ds := r) fun x hx => h x (.tail _ hx)
    have hd := h d (.head _)
    refine ⟨by rw [PyData.canLayAll0, hd.lay, a]; rfl, ?_⟩
    rw [PyData.depthAll]
    exact Nat.max_le.mpr ⟨hd.dep, b⟩
theorem cm_tup {D : Nat} {ds : List PyData} (h : ∀ d ∈ ds, Cm d D) : Cm (.tuple ds) (D + 1) := by
  obtain ⟨a, b⟩ := cm_all h
  refine ⟨by rw [PyData.canLay0]; exact a, ?_⟩
  rw [PyData.depth]
  omega
theorem cm_lst {D : Nat} {ds : List PyData} (h : ∀ d ∈ ds, Cm d D) : Cm (.list ds) (D + 1) := by
  obtain ⟨a, b⟩ := cm_all h
  refine ⟨by rw [PyData.canLay0]; exact a, ?_⟩
  rw [PyData.depth]
  omega
theorem cm_name {z : Str} (h : isN z = true) : Cm (.str z) 1 := by
  refine ⟨?_, by simp [PyData.depth]⟩
  rw [PyData.canLay0]
  have lo : ∀ c ∈ z.cps.toList, c < 128 := fun c hc => let_range (List.all_eq_true.mp (isN_txt h).2.2.2.2.2 c hc)
  show z.cps.all (fun c => decide (c < 0x110000)) = true
  rw [← Array.all_toList]
  exact List.all_eq_true.mpr fun c hc => decide_eq_true (Nat.lt_of_lt_of_le (lo c hc) (by decide))
theorem cm_kn {hd : List Str} {k : Kn} (hn : ∀ z ∈ hd, isN z = true) (h : goK hd k) : Cm k.d 1 := by
  cases k with
  | h s => exact cm_name (hn s h)
  | p n => exact ⟨by rw [Kn.d, PyData.canLay0], by simp [Kn.d, PyData.depth]⟩
theorem cm_kns {hd : List Str} {l : List Kn} (hn : ∀ z ∈ hd, isN z = true) (h : ∀ k ∈ l, goK hd k) : Cm (.tuple (l.map Kn.d)) 2 := cm_tup fun d hd => by
  obtain ⟨k, hk, rfl⟩ := List.mem_map.mp hd
  exact cm_kn hn (h k hk)
theorem cm_names {l : List Str} (h : ∀ z ∈ l, isN z = true) : Cm (.list (l.map .str)) 2 := cm_lst fun d hd => by
  obtain ⟨k, hk, rfl⟩ := List.mem_map.mp hd
  exact cm_name (h k hk)
theorem cm_face {f : Fc} (go : goF f) : Cm f.d 5 := by
  have h1 : Cm (.tuple (f.hd.map .str)) 4 := (cm_tup (D := 1) fun d hd => by
    obtain ⟨k, hk, rfl⟩ := List.mem_map.mp hd
    exact cm_name (go.hid.nm k hk)).mono (by decide)
  have h2 : Cm (.tuple (f.ds.map De.d)) 4 := cm_tup (D := 3) fun d hd => by
    obtain ⟨e, he, rfl⟩ := List.mem_map.mp hd
    have gd := go.ok e he
    refine cm_tup (D := 2) fun x hx => ?_
    have hx' : x = .str e.nm ∨ x = .tuple (e.tk.map Kn.d) ∨ x = e.gv.d := by simpa using hx
    rcases hx' with rfl | rfl | rfl
    · exact (cm_name gd.nm).mono (by decide)
    · exact cm_kns go.hid.nm gd.tk
    · exact (cm_kn go.hid.nm gd.gv).mono (by decide)
  refine cm_tup (D := 4) fun x hx => ?_
  have hx' : x = .tuple (f.hd.map .str) ∨ x = .tuple (f.ds.map De.d) := by simpa using hx
  rcases hx' with rfl | rfl
  · exact h1
  · exact h2
/-! ### alike data -/
theorem eqvAll_iff {α : Type} {f : α → PyData} (h : ∀ a b, PyData.eqv (f a) (f b) = true → a = b) : ∀ xs ys : List α, PyData.eqvAll (xs.map f) (ys.map f) = true → xs = ys
  | [], [], _ => rfl
  | [], y :: ys, e => by rw [List.map_nil, List.map_cons, PyData.eqvAll] at e; cases e
  | x :: xs, [], e => by rw [List.map_nil, List.map_cons, PyData.eqvAll] at e; cases e
  | x :: xs, y :: ys, e => by
    rw [List.map_cons, List.map_cons, PyData.eqvAll] at e
    obtain ⟨e1, e2⟩ := Bool.and_eq_true_iff.mp e
    rw [h x y e1, eqvAll_iff h xs ys e2]
theorem eqv_str {a b : Str} (h : PyData.eqv (.str a) (.str b) = true) : a = b := by
  rw [PyData.eqv] at h
  exact eq_of_beq h
theorem eqv_kn {a b : Kn} (h : PyData.eqv a.d b.d = true) : a = b := by
  cases a with
  | h s =>
    cases b with
    | h t => exact congrArg Kn.h (eqv_str h)
    | p n => rw [Kn.d, Kn.d, PyData.eqv] at h; cases h
  | p n =>
    cases b with
    | h t => rw [Kn.d, Kn.d, PyData.eqv] at h; cases h
    | p m =>
      rw [Kn.d, Kn.d, PyData.eqv] at h
      exact congrArg Kn.p (eq_of_beq h)
theorem eqv_de {a b : De} (h : PyData.eqv a.d b.d = true) : a = b := by
  unfold De.d at h
  simp only [PyData.eqv, PyData.eqvAll, Bool.and_eq_true] at h
  obtain ⟨h1, h2, h3, _⟩ := h
  have e1 : a.nm = b.nm := eq_of_beq h1
  have e2 := eqvAll_iff (f := Kn.d) (fun a b z => eqv_kn z) _ _ h2
  have e3 := eqv_kn h3
  obtain ⟨n1, t1, v1⟩ := a
  obtain ⟨n2, t2, v2⟩ := b
  cases (show n1 = n2 from e1)
  cases (show t1 = t2 from e2)
  cases (show v1 = v2 from e3)
  rfl
theorem eqv_fc {a b : Fc} (h : PyData.eqv a.d b.d = true) : a = b := by
  unfold Fc.d at h
  simp only [PyData.eqv, PyData.eqvAll, Bool.and_eq_true] at h
  obtain ⟨h1, h2, _⟩ := h
  have e1 := eqvAll_iff (f := PyData.str) (fun a b z => eqv_str z) _ _ h1
  have e2 := eqvAll_iff (f := De.d) (fun a b z => eqv_de z) _ _ h2
  obtain ⟨n1, t1⟩ := a
  obtain ⟨n2, t2⟩ := b
  cases (show n1 = n2 from e1)
  cases (show t1 = t2 from e2)
  rfl
/-- one rearrangement rises -/
theorem up_uniq : ∀ {l m : List Str}, l.Pairwise lt → m.Pairwise lt → l.Perm m → l = m
  | [], m, _, _, p => (p.symm.eq_nil).symm
  | a :: r, [], _, _, p => absurd p.length_eq (by simp)
  | a :: r, b :: t, hl, hm, p => by
    obtain ⟨l1, l2⟩ := List.pairwise_cons.mp hl
    obtain ⟨m1, m2⟩ := List.pairwise_cons.mp hm
    have e : a = b := by
      rcases List.mem_cons.mp (p.mem_iff.mp List.mem_cons_self) with z | z
      · exact z
      · rcases List.mem_cons.mp (p.mem_iff.mpr (List.mem_cons_self (a := b) (l := t))) with y | y
        · exact y.symm
        · exact absurd (List.lt_trans (m1 a z) (l1 b y)) (List.lt_irrefl _)
    subst e
    rw [up_uniq l2 m2 p.cons_inv]
end SfC
/-! _law_same -/
namespace SfC
open PySem PySem.Spec PyProof.Rows L2 SfG
abbrev nSame : List Str := ["_law_face_here", "_law_other", "_law_words", "_law_kinds", "_law_name", "_law_takes", "_law_own", "_law_kind_here"]
theorem scSame : FnScope nSame ["_law_face_here", "_law_other", "_law_words", "_law_kinds"] (defScope sSame) := ⟨rfl, rfl, rfl, by decide +kernel, rfl, by decide +kernel, by decide +kernel⟩
structure HasX (P : Program) (w : World) (K : PySem.W.Frag) (mg : Str → Option Value) (base : Heap) (k : Nat) (x : Str) (ps : List Str) (sp : Sp) (f : Addr) (fd : FuncData) : Prop where
  ok : FnOk P w K mg base (L2.CX P w) k f fd ps sp
  at_ : mg x = some (.ref f)
  kp : PySem.W.keepIn K (.ref f) = true
  bd : Binds K fd ps []
section
variable {P : Program} {w : World} {K : PySem.W.Frag} {mg : Str → Option Value} {base : Heap}
def spSame (K : PySem.W.Frag) : Sp := fun vs H Q _ => ∃ (x y : V) (wd kd : Addr) (f g : Fc) (wds kds : List (Key × V)) (wm km : Str → Str), vs = [x, y, .ref wd, .ref kd] ∧ Dp K H x f.d ∧ goF f ∧ Dp K H y g.d ∧ goF g ∧ Called f g wm km ∧ Ren f wm km ∧ H wd = some (.dK wds) ∧ H kd = some (.dK kds) ∧ Dct f wds kds wm km ∧
  ∀ H', Gr H H' → Q (.bl true) H'
set_option maxHeartbeats 4000000 in
theorem ok_same {f fH fN fT fG C : Addr} {fd dH dN dT dG : FuncData} {k : Nat} (F : Fun K "_law_same" "_law_same" sSame f fd) (HH : Has P w K mg base k "hidden_of" ["face"] (spTold K Fc.hd) fH dH)
    (HN : Has P w K mg base k "names_of" ["face"] (spTold K fun f => f.ds.map De.nm) fN dN) (HT : HasX P w K mg base k "takes_of" ["face", "name"] (spTG K C fun e => .tuple (e.tk.map Kn.d)) fT dT) (HG : HasX P w K mg base k "gives_of" ["face", "name"] (spTG K C fun e => e.gv.d) fG dG)
    (mt : mg "tuple" = none) (ms : mg "sorted" = none) : FnOk P w K mg base CX0 (k + 1) f fd ["_law_face_here", "_law_other", "_law_words", "_law_kinds"] (spSame K) := by
  refine F.ok scSame (fun vs H Q E h => ?_) (fun cdv A outer s H vs Q E hr h => ?_)
  · obtain ⟨x, y, wd, kd, f, g, wds, kds, wm, km, rfl, _⟩ := h
    rfl
  · obtain ⟨x, y, wd, kd, f, g, wds, kds, wm, km, rfl, hx, go, hy, go', Cd, R, hw, hk, D, q⟩ := h
    have nd := scSame.nd
    refine' ⟨_, pss_cons ?s1 (pss_cons ?s2 (pss_cons ?s3 (pss_one ?s4))), ?rd⟩
    case s1 =>
      exact ps_if (pt_cmpR (op_neD hr.units) (hcall HH hr (pa_cons (pv 1) pa_nil)) (pe_callB cr_sortedS (by rfl) ms (by decide +kernel) (pa_cons
        (pe_lc (own := [("_law_kind_here", 7)]) (g := gName 7) rfl nd (pi_list (hcall HH hr (pa_cons (pv 0) pa_nil))) (blkOk_by (own := [("_law_kind_here", 7)]) (N := nSame) (sc := defScope sSame) (by decide +kernel)) (fun _ _ _ _ _ => pg_name (i := 7) nd rfl (Or.inl rfl)) (fun _ _ _ _ _ => pts_nil)
          (fun _ _ _ _ _ => pe_dget (hu_of hr) (pv 3) (pv 7) (fun _ _ => rfl))) pa_nil)) (nomark _)) pss_never pss_nil
    case s2 =>
      exact ps_if (pt_cmpR (op_neD hr.units) (hcall HN hr (pa_cons (pv 1) pa_nil)) (pe_callB cr_sortedS (by rfl) ms (by decide +kernel) (pa_cons
        (pe_lc (own := [("_law_name", 4)]) (g := gName 4) rfl nd (pi_list (hcall HN hr (pa_cons (pv 0) pa_nil))) (blkOk_by (own := [("_law_name", 4)]) (N := nSame) (sc := defScope sSame) (by decide +kernel)) (fun _ _ _ _ _ => pg_name (i := 4) nd rfl (Or.inl rfl)) (fun _ _ _ _ _ => pts_nil)
          (fun _ _ _ _ _ => pe_dget (hu_of hr) (pv 2) (pv 4) (fun _ _ => rfl))) pa_nil)) (nomark _)) pss_never pss_nil
    case s3 =>
      refine' ps_for PassesOwn.never rfl (pi_list (hcall HN hr (pa_cons (pv 0) pa_nil))) (pg_name (i := 4) nd rfl (.inl rfl)) (pss_cons ?b1 (pss_cons ?b2 (pss_one ?b3)))
      case b1 =>
        exact ps_set (i := 5) nd rfl (.inl rfl) (pe_callTy call_tuple_of (by rfl) mt (by decide +kernel) (pa_cons
          (pe_lc (own := [("_law_kind_here", 7)]) (g := gName 7) rfl nd (pi_tup (pe_call HT.ok hr (by rfl) HT.at_ HT.kp HT.bd .nil passL (pa_cons (pv 0) (pa_cons (pv 4) pa_nil)))) (blkOk_by (own := [("_law_kind_here", 7)]) (N := nSame) (sc := defScope sSame) (by decide +kernel)) (fun _ _ _ _ _ => pg_name (i := 7) nd rfl (Or.inl rfl)) (fun _ _ _ _ _ => pts_nil)
            (fun _ _ _ _ _ => pe_dget2 (hu_of hr) (pv 3) (pv 7) (pv 7) ⟨rfl, rfl, rfl, rfl⟩)) pa_nil))
      case b2 => exact ps_set (i := 6) nd rfl (.inl rfl) (pe_call HG.ok hr (by rfl) HG.at_ HG.kp HG.bd .nil passL (pa_cons (pv 0) (pa_cons (pv 4) pa_nil)))
      case b3 =>
        exact ps_if (PW.pt (pw_or (pt_cmpR (op_neD hr.units) (pe_call HT.ok hr (by rfl) HT.at_ HT.kp HT.bd .nil passL (pa_cons (pv 1) (pa_cons (pe_dget (hu_of hr) (pv 2) (pv 4) (fun _ _ => rfl)) pa_nil))) (pv 5) (nomark _))
          (pw_or1 (pt_cmpR (op_neD hr.units) (pe_call HG.ok hr (by rfl) HG.at_ HG.kp HG.bd .nil passL (pa_cons (pv 1) (pa_cons (pe_dget (hu_of hr) (pv 2) (pv 4) (fun _ _ => rfl)) pa_nil))) (pe_dget2 (hu_of hr) (pv 3) (pv 6) (pv 6) ⟨rfl, rfl, rfl, rfl⟩) (nomark _))))) pss_never pss_nil
    case s4 => exact ps_ret pe_bl
    case rd =>
    have hi8 := go.hi
    have hi2 := go.hid.hi
    have nK : (f.hd.map km).Nodup := nodup_map R.ki (nodup_lt go.hid.up)
    have nN : ((f.ds.map De.nm).map wm).Nodup := nodup_map R.wi (nodup_lt go.up)
    have pN : (g.ds.map De.nm).Perm ((f.ds.map De.nm).map wm) := by
      have z := Cd.dp.map De.nm
      rw [List.map_map] at z
      rw [List.map_map]
      exact z
    -- hidden kinds
    refine ⟨_, rfl, y, g, rfl, hy, go', fun H1 l1 g1 n1 e1 => ?_⟩
    refine ⟨_, rfl, x, f, rfl, g1.kd.dp hx, go, fun H2 l2 g2 n2 e2 => ⟨l2, rfl, ⟨_, .inl (.inl e2)⟩, fun C1 nC => ?_⟩⟩
    have g02 := g1.trans g2
    have gC : ∀ o, Gr H2 (upd H2 C1 o) := fun o => Gr.new nC
    refine lc_it (walk_list (xs := f.hd.map V.str)) (fun j H3 => H3 = upd H2 C1 (.lst (((f.hd.take j).map km).map V.str))) rfl ?d0 ?d1 ?d2
    case d0 =>
      rintro j H3 hj rfl
      exact .inl (.inl ((gC _).lst e2))
    case d1 =>
      rintro j v H3 H3' hj rfl ⟨rfl, hv⟩
      rw [List.getElem?_map] at hv
      obtain ⟨z, hz, rfl⟩ := Option.map_eq_some_iff.mp hv
      refine ⟨rfl, ?_⟩
      unfold tYes
      refine iteT ⟨_, rfl, _, rfl, kd, .str (km z), rfl, ?_, ?_⟩
      · have t := DGet.k (k := .inr z) ((g02.trans (gC (.lst (((f.hd.take j).map km).map V.str)))).dic hk)
        rw [D.k z (List.mem_of_getElem? hz)] at t
        exact t
      refine ⟨_, upd_same, ?_, ?_⟩
      · rw [List.length_map, List.length_map, List.length_take]
        exact small1000 (by omega)
      · rw [upd_upd, List.take_add_one, hz, List.map_append, List.map_append]
        rfl
    case d2 =>
    rintro H3' rfl
    rw [List.length_map, List.take_length]
    have g3 : Gr H2 (upd H2 C1 (.lst ((f.hd.map km).map V.str))) := gC _
    have e3 : upd H2 C1 (.lst ((f.hd.map km).map V.str)) C1 = some (.lst ((f.hd.map km).map V.str)) := upd_same
    generalize upd H2 C1 (.lst ((f.hd.map km).map V.str)) = H3 at g3 e3 ⊢
    refine ⟨C1, f.hd.map km, rfl, .inl (.inl e3), by rw [List.length_map]; omega, fun zs p4 perm so n4 => ?_⟩
    have ez : zs = g.hd := up_uniq (sorted_up so perm nK) Cd.hs (perm.trans Cd.hp.symm)
    have g4 : Gr H3 (upd H3 p4 (.lst (zs.map V.str))) := Gr.new n4
    have e4 : upd H3 p4 (.lst (zs.map V.str)) p4 = some (.lst (zs.map V.str)) := upd_same
    generalize upd H3 p4 (.lst (zs.map V.str)) = H4 at g4 e4 ⊢
    have g14 := g2.trans (g3.trans g4)
    have cN := cm_names go'.hid.nm
    subst ez
    refine ⟨_, _, .lst (.inl (.inl (g14.lst e1))) (dpA_sv g.hd), .lst (.inl (.inl e4)) (dpA_sv g.hd), cN.shaped (by decide), cN.shaped (by decide), _, rfl, ?_⟩
    rw [SeqAt.eqv_refl _ cN.lay]
    refine iteF ?_
    have g04 := g1.trans g14
    clear g3 e3 e4 e1 e2 gC nC n4 so perm cN nK
    -- names of deeds
    refine ⟨_, rfl, y, g, rfl, g04.kd.dp hy, go', fun H5 l5 g5 n5 e5 => ?_⟩
    refine ⟨_, rfl, x, f, rfl, (g04.trans g5).kd.dp hx, go, fun H6 l6 g6 n6 e6 => ⟨l6, rfl, ⟨_, .inl (.inl e6)⟩, fun C2 nC => ?_⟩⟩
    have g06 := (g04.trans g5).trans g6
    have gC : ∀ o, Gr H6 (upd H6 C2 o) := fun o => Gr.new nC
    refine lc_it (walk_list (xs := (f.ds.map De.nm).map V.str)) (fun j H7 => H7 = upd H6 C2 (.lst ((((f.ds.map De.nm).take j).map wm).map V.str))) rfl ?m0 ?m1 ?m2
    case m0 =>
      rintro j H7 hj rfl
      exact .inl (.inl ((gC _).lst e6))
    case m1 =>
      rintro j v H7 H7' hj rfl ⟨rfl, hv⟩
      rw [List.getElem?_map] at hv
      obtain ⟨z, hz, rfl⟩ := Option.map_eq_some_iff.mp hv
      refine ⟨rfl, ?_⟩
      unfold tYes
      refine iteT ⟨_, rfl, _, rfl, wd, .str (wm z), rfl, ?_, ?_⟩
      · have t := DGet.k (k := .inr z) ((g06.trans (gC (.lst ((((f.ds.map De.nm).take j).map wm).map V.str)))).dic hw)
        rw [D.w z (List.mem_of_getElem? hz)] at t
        exact t
      refine ⟨_, upd_same, ?_, ?_⟩
      · rw [List.length_map, List.length_map, List.length_take, List.length_map]
        exact small1000 (by omega)
      · rw [upd_upd, List.take_add_one, hz, List.map_append, List.map_append]
        rfl
    case m2 =>
    rintro H7' rfl
    rw [List.length_map, List.take_length]
    have g7 : Gr H6 (upd H6 C2 (.lst (((f.ds.map De.nm).map wm).map V.str))) := gC _
    have e7 : upd H6 C2 (.lst (((f.ds.map De.nm).map wm).map V.str)) C2 = some (.lst (((f.ds.map De.nm).map wm).map V.str)) := upd_same
    generalize upd H6 C2 (.lst (((f.ds.map De.nm).map wm).map V.str)) = H7 at g7 e7 ⊢
    refine ⟨C2, (f.ds.map De.nm).map wm, rfl, .inl (.inl e7), by rw [List.length_map, List.length_map]; omega, fun zs p8 perm so n8 => ?_⟩
    have ez : zs = g.ds.map De.nm := up_uniq (sorted_up so perm nN) Cd.ds (perm.trans pN.symm)
    have g8 : Gr H7 (upd H7 p8 (.lst (zs.map V.str))) := Gr.new n8
    have e8 : upd H7 p8 (.lst (zs.map V.str)) p8 = some (.lst (zs.map V.str)) := upd_same
    generalize upd H7 p8 (.lst (zs.map V.str)) = H8 at g8 e8 ⊢
    have g58 := g6.trans (g7.trans g8)
    have cN := cm_names (l := g.ds.map De.nm) fun z hz => by
      obtain ⟨e, he, rfl⟩ := List.mem_map.mp hz
      exact (go'.ok e he).nm
    rw [ez] at e8
    refine ⟨_, _, .lst (.inl (.inl (g58.lst e5))) (dpA_sv (g.ds.map De.nm)), .lst (.inl (.inl e8)) (dpA_sv (g.ds.map De.nm)), cN.shaped (by decide), cN.shaped (by decide), _, rfl, ?_⟩
    rw [SeqAt.eqv_refl _ cN.lay]
    refine iteF ?_
    have g08 := (g04.trans g5).trans g58
    clear g7 e7 e8 e5 e6 gC nC n8 so perm cN nN pN
    -- each deed
    refine ⟨_, rfl, x, f, rfl, g08.kd.dp hx, go, fun H9 l9 g9 n9 e9 => ⟨l9, rfl, ⟨_, .inl (.inl e9)⟩, ?_⟩⟩
    have g09 := g08.trans g9
    refine for_it (walk_list (xs := (f.ds.map De.nm).map V.str)) (fun i σ K1 => ∃ y4 y5 y6 : Option V, σ = [some x, some y, some (.ref wd), some (.ref kd), y4, y5, y6, none] ∧ Gr H9 K1) ⟨none, none, none, rfl, Gr.refl _⟩ ?h1 ?h2 ?h3
    case h1 =>
      rintro i σ K1 hi ⟨y4, y5, y6, rfl, k1⟩
      exact .inl (.inl (k1.lst e9))
    case h3 =>
      rintro σ K1 ⟨y4, y5, y6, rfl, k1⟩
      exact q K1 (g09.trans k1)
    case h2 =>
      rintro i v σ K1' K1 hi ⟨y4, y5, y6, rfl, k1⟩ ⟨rfl, hv⟩
      rw [List.getElem?_map, List.getElem?_map] at hv
      obtain ⟨z, hz, rfl⟩ := Option.map_eq_some_iff.mp hv
      obtain ⟨e, he, rfl⟩ := Option.map_eq_some_iff.mp hz
      have me := List.mem_of_getElem? he
      have gd := go.ok e me
      have h3 := gd.len
      have mg_ : renD wm km e ∈ g.ds := Cd.dp.mem_iff.mpr (List.mem_map_of_mem me)
      have gd' := go'.ok _ mg_
      obtain ⟨j, hj⟩ := List.getElem?_of_mem mg_
      have g0 := g09.trans k1
      have wget : ∀ {Hz : Hp}, Gr H Hz → DGet Hz wd (.str e.nm) (some (.str (wm e.nm))) := fun {Hz} gz => by
        have t := DGet.k (k := .inr e.nm) (gz.dic hw)
        rw [D.w e.nm (List.mem_map_of_mem me)] at t
        exact t
      -- takes
      refine ⟨_, rfl, _, rfl, x, .str e.nm, f, "str", rfl, g0.kd.dp hx, go, is_str _, .inl ⟨e.nm, e, i, rfl, he, rfl, fun K2 w1 k2 d2 => ?_⟩⟩
      obtain ⟨pt, ts, rfl, hpt, hts⟩ := dp_tup d2
      cases dpA_kns hts
      refine ⟨pt, rfl, ⟨_, hpt⟩, fun C3 nC => ?_⟩
      have g02' := g0.trans k2
      have gC : ∀ o, Gr K2 (upd K2 C3 o) := fun o => Gr.new nC
      refine lc_it (walk_tup (xs := e.tk.map Kn.v)) (fun j H3 => H3 = upd K2 C3 (.lst (((e.tk.take j).map (renK km)).map Kn.v))) rfl ?c0 ?c1 ?c2
      case c0 =>
        rintro j H3 hj rfl
        exact (gC _).sqt hpt
      case c1 =>
        rintro j u H3 H3' hj rfl ⟨rfl, hu⟩
        rw [List.getElem?_map] at hu
        obtain ⟨kn, hkn, rfl⟩ := Option.map_eq_some_iff.mp hu
        have gk := gd.tk kn (List.mem_of_getElem? hkn)
        refine ⟨rfl, ?_⟩
        unfold tYes
        refine iteT ⟨_, rfl, kd, rfl, .inl ⟨kds, .inl ((g02'.trans (gC _)).dic hk)⟩, _, rfl, _, rfl, valV kds kn.key, ?_, ?_⟩
        · rw [kn.kV]
          exact DGet.k ((g02'.trans (gC _)).dic hk)
        rw [D.get gk]
        refine ⟨_, upd_same, ?_, ?_⟩
        · rw [List.length_map, List.length_map, List.length_take]
          exact small1000 (by omega)
        · rw [upd_upd, List.take_add_one, hkn, List.map_append, List.map_append]
          rfl
      case c2 =>
      rintro H3' rfl
      rw [List.length_map, List.take_length]
      have k3 : Gr K2 (upd K2 C3 (.lst ((e.tk.map (renK km)).map Kn.v))) := gC _
      have e3 : upd K2 C3 (.lst ((e.tk.map (renK km)).map Kn.v)) C3 = some (.lst ((e.tk.map (renK km)).map Kn.v)) := upd_same
      generalize upd K2 C3 (.lst ((e.tk.map (renK km)).map Kn.v)) = K3 at k3 e3 ⊢
      refine ⟨C3, _, rfl, .inl ⟨.inl (.inl e3), fun tt ntt => ?_⟩⟩
      have k4 : Gr K3 (upd K3 tt (.tup ((e.tk.map (renK km)).map Kn.v))) := Gr.new ntt
      have e4 : upd K3 tt (.tup ((e.tk.map (renK km)).map Kn.v)) tt = some (.tup ((e.tk.map (renK km)).map Kn.v)) := upd_same
      generalize upd K3 tt (.tup ((e.tk.map (renK km)).map Kn.v)) = K4 at k4 e4 ⊢
      have g04' := g02'.trans (k3.trans k4)
      -- gives
      refine ⟨_, rfl, _, rfl, x, .str e.nm, f, "str", rfl, g04'.kd.dp hx, go, is_str _, .inl ⟨e.nm, e, i, rfl, he, rfl, fun K5 w2 k5 d5 => ?_⟩⟩
      cases dp_kn d5
      have g05' := g04'.trans k5
      -- those of the other one
      refine ⟨_, rfl, _, rfl, _, rfl, wd, .str (wm e.nm), rfl, wget g05', y, .str (wm e.nm), g, "str", rfl, g05'.kd.dp hy, go', is_str _, .inl ⟨wm e.nm, renD wm km e, j, rfl, hj, rfl, fun K6 w3 k6 d6 => ?_⟩⟩
      have cT := cm_kns go'.hid.nm gd'.tk
      refine ⟨_, rfl, _, _, d6, .tup (.inl (.inl ((k5.trans k6).tup e4))) (dpA_kv (e.tk.map (renK km))), cT.shaped (by decide), cT.shaped (by decide), _, rfl, ?_⟩
      rw [show PyData.eqv (.tuple ((renD wm km e).tk.map Kn.d)) (.tuple ((e.tk.map (renK km)).map Kn.d)) = true from SeqAt.eqv_refl _ cT.lay]
      refine iteF ?_
      have g06' := g05'.trans k6
      refine ⟨_, rfl, _, rfl, _, rfl, wd, .str (wm e.nm), rfl, wget g06', y, .str (wm e.nm), g, "str", rfl, g06'.kd.dp hy, go', is_str _, .inl ⟨wm e.nm, renD wm km e, j, rfl, hj, rfl, fun K7 w4 k7 d7 => ?_⟩⟩
      have g07' := g06'.trans k7
      refine ⟨_, rfl, kd, rfl, .inl ⟨kds, .inl (g07'.dic hk)⟩, _, rfl, _, rfl, valV kds e.gv.key, ?_, ?_⟩
      · rw [e.gv.kV]
        exact DGet.k (g07'.dic hk)
      rw [D.get gd.gv]
      have cV := cm_kn go'.hid.nm gd'.gv
      refine ⟨_, _, d7, dp_kv (renK km e.gv), cV.shaped (by decide), cV.shaped (by decide), _, rfl, ?_⟩
      rw [show PyData.eqv (renD wm km e).gv.d (renK km e.gv).d = true from SeqAt.eqv_refl _ cV.lay]
      refine iteF ?_
      exact ⟨_, _, _, rfl, k1.trans (k2.trans (k3.trans (k4.trans (k5.trans (k6.trans k7)))))⟩
end
end SfC
namespace SfC
open PySem PySem.Spec PyProof.Rows L2 SfG
/-! ### a text some times -/
def repS (z : Str) (n : Nat) : Str := ⟨(List.replicate n z.cps).foldl (· ++ ·) #[]⟩
theorem foldl_len : ∀ (n : Nat) (x acc : Array Nat), ((List.replicate n x).foldl (· ++ ·) acc).size = acc.size + n * x.size
  | 0, x, acc => by simp
  | n + 1, x, acc => by
    rw [List.replicate_succ, List.foldl_cons, foldl_len n x, Array.size_append, Nat.succ_mul]
    omega
theorem rep_len (z : Str) (n : Nat) : (repS z n).length = n * z.length := by
  show ((List.replicate n z.cps).foldl (· ++ ·) #[]).size = n * z.cps.size
  rw [foldl_len]
  simp
theorem rep_one (z : Str) : repS z 1 = z := by
  unfold repS
  simp
theorem op_mulZ {X : Cx} : OpR X (binaryOp .Mult) (fun x y H Q => ∃ (z : Str) (n : Nat), x = .str z ∧ y = .int (n : Int) ∧ 1 ≤ n ∧ z.length * n ≤ 1000000 ∧ z.length ≠ 0 ∧ Q (.str (repS z n)) H) := by
  intro pins s σ H x y v u Q I rx ry h
  obtain ⟨z, n, rfl, rfl, hn, hl, h0, q⟩ := h
  obtain ⟨t, rfl⟩ := rx
  obtain ⟨t', rfl⟩ := ry
  have e63 : (2 : Int) ^ 63 = 9223372036854775808 := by decide
  have hnn : n ≤ 1000000 := by
    refine Nat.le_trans ?_ hl
    exact Nat.le_mul_of_pos_left n (Nat.pos_of_ne_zero h0)
  refine PySem.P.mul_str ?_ ?_ ?_ ?_
  · rw [e63]
    simp
    omega
  · intro _ _ h
    have e : (z.length : Int) ≤ (2 ^ 63 - 1) / (n : Int) := by
      refine Int.le_ediv_of_mul_le (by omega) ?_
      have hl' : ((z.length * n : Nat) : Int) ≤ 1000000 := by omega
      rw [Int.natCast_mul] at hl'
      rw [e63]
      omega
    omega
  · intro _ _
    rw [Int.toNat_natCast]
    unfold Builtin.Str.tooLong
    refine decide_eq_false ?_
    rw [sizeLine_eq]
    omega
  · have c1 : ¬ (n : Int) < 1 := by omega
    rw [if_neg c1]
    by_cases e1 : n = 1
    · subst e1
      have c2 : (((1 : Nat) : Int) == 1 || z.length == 0) = true := by simp
      rw [if_pos c2]
      rw [rep_one] at q
      exact ⟨.str z, H, I, ⟨_, rfl⟩, q⟩
    · have c2 : ¬ (((n : Int) == 1 || z.length == 0) = true) := by
        simp
        omega
      rw [if_neg c2]
      refine ⟨?_, .str (repS z n), H, I.tok _, ⟨_, rfl⟩, q⟩
      have hs := rep_len z n
      have hz : (repS z n).length ≤ sizeLine := by
        rw [hs, sizeLine_eq, Nat.mul_comm]
        omega
      exact hz
end SfC
/-! the other names that the law gives, and dicts of them -/
namespace SfC
open PySem PySem.Spec PyProof.Rows L2 SfG
theorem merge_no : ∀ (more acc : List (Key × V)) (j : Key), (∀ kv ∈ more, kv.1 ≠ j) → valV (mergeK acc more) j = valV acc j
  | [], _, _, _ => rfl
  | kv :: r, acc, j, h => by
    show valV (mergeK (putK acc kv.1 kv.2) r) j = _
    rw [merge_no r _ j fun x hx => h x (.tail _ hx), valV_put, if_neg (Ne.symm (h kv (.head _)))]
theorem merge_in : ∀ (more acc : List (Key × V)) (j : Key) (v : V), (more.map (·.1)).Nodup → (j, v) ∈ more → valV (mergeK acc more) j = some v
  | [], _, _, _, _, h => by cases h
  | kv :: r, acc, j, v, n, h => by
    rw [List.map_cons] at n
    obtain ⟨n1, n2⟩ := List.nodup_cons.mp n
    show valV (mergeK (putK acc kv.1 kv.2) r) j = _
    rcases List.mem_cons.mp h with e | h
    · subst e
      rw [merge_no r _ j fun x hx z => n1 (List.mem_map.mpr ⟨x, hx, z⟩), valV_put, if_pos rfl]
    · exact merge_in r _ j v n2 h
/-- letters, the last one first -/
def zya : Str := "zyxwvutsrqponmlkjihgfedcba"
/-- the i-th word, and the i-th kind -/
def wrd (s i : Nat) : Str := repS ⟨#[zya.cps.toList.getD (s + i) 0]⟩ (1 + i % 8)
def knd (t i : Nat) : Str := repS (if i = 0 then "p" else "o") (1 + t + 6 * i)
theorem wrd_name : ∀ s, s < 16 → ∀ i, i < 8 → isN (wrd s i) = true := by decide +kernel
theorem knd_name : ∀ t, t < 2 → ∀ i, i < 2 → isN (knd t i) = true := by decide +kernel
theorem wrd_len {s i : Nat} (h : i < 8) : (wrd s i).length = 1 + i := by
  unfold wrd
  rw [rep_len, Nat.mod_eq_of_lt h]
  show (1 + i) * 1 = 1 + i
  omega
theorem knd_inj : ∀ t, t < 2 → ∀ i, i < 2 → ∀ j, j < 2 → knd t i = knd t j → i = j := by decide +kernel
/-- the place of a text -/
def plc (l : List Str) (z : Str) : Nat := l.findIdx (fun y => decide (y = z))
theorem plc_lt {l : List Str} {z : Str} (h : z ∈ l) : plc l z < l.length := List.findIdx_lt_length_of_exists ⟨z, h, decide_eq_true rfl⟩
theorem plc_at {l : List Str} {z : Str} (h : z ∈ l) : l[plc l z]? = some z := by
  have l1 := plc_lt h
  have e := List.findIdx_getElem (w := l1)
  rw [List.getElem?_eq_getElem l1]
  exact congrArg some (of_decide_eq_true e)
theorem plc_inj {l : List Str} {a b : Str} (ha : a ∈ l) (hb : b ∈ l) (e : plc l a = plc l b) : a = b := by
  have z := plc_at ha
  rw [e, plc_at hb] at z
  exact (Option.some.inj z).symm
theorem plc_of {l : List Str} (n : l.Nodup) {i : Nat} {z : Str} (h : l[i]? = some z) : plc l z = i := by
  have m := List.mem_of_getElem? h
  have l1 := plc_lt m
  have e1 := plc_at m
  obtain ⟨l2, e2⟩ := List.getElem?_eq_some_iff.mp h
  rw [List.getElem?_eq_getElem l1] at e1
  exact (List.getElem_inj n).mp ((Option.some.inj e1).trans e2.symm)
def wmF (f : Fc) (s : Nat) (z : Str) : Str := wrd s (plc (f.ds.map De.nm) z)
def kmF (f : Fc) (t : Nat) (z : Str) : Str := knd t (plc f.hd z)
theorem ren_of {f : Fc} (go : goF f) {s t : Nat} (hs : s < 16) (ht : t < 2) : Ren f (wmF f s) (kmF f t) := by
  have hi := go.hi
  have hi2 := go.hid.hi
  have lw : ∀ {z}, z ∈ f.ds.map De.nm → plc (f.ds.map De.nm) z < 8 := fun {z} hz => by
    have := plc_lt hz
    rw [List.length_map] at this
    omega
  have lk : ∀ {z}, z ∈ f.hd → plc f.hd z < 2 := fun {z} hz => Nat.lt_of_lt_of_le (plc_lt hz) hi2
  refine ⟨fun e he => wrd_name s hs _ (lw (List.mem_map_of_mem he)), fun z hz => knd_name t ht _ (lk hz), fun a ha b hb e => plc_inj ha hb ?_, fun a ha b hb e => plc_inj ha hb (knd_inj t ht _ (lk ha) _ (lk hb) e)⟩
  have z := congrArg Str.length e
  unfold wmF at z
  rw [wrd_len (lw ha), wrd_len (lw hb)] at z
  omega
/-- what the law's dicts are made of -/
def wkv (f : Fc) (s : Nat) : List (Key × V) := (f.ds.map De.nm).map fun z => (.inr z, .str (wmF f s z))
def kkv (f : Fc) (t : Nat) : List (Key × V) := f.hd.map fun z => (.inr z, .str (kmF f t z))
theorem keys_nodup {l : List Str} {g : Str → V} (h : l.Nodup) : ((l.map fun z => ((.inr z : Key), g z)).map (·.1)).Nodup := by
  rw [List.map_map]
  induction l with
  | nil => exact List.nodup_nil
  | cons a r ih =>
    obtain ⟨h1, h2⟩ := List.nodup_cons.mp h
    refine List.nodup_cons.mpr ⟨fun m => ?_, ih h2⟩
    obtain ⟨b, hb, e⟩ := List.mem_map.mp m
    have e' : (Sum.inr b : Key) = .inr a := e
    cases e'
    exact h1 hb
theorem dct_of {f : Fc} (go : goF f) (s t : Nat) : Dct f (mergeK [] (wkv f s)) (mergeK [] (kkv f t)) (wmF f s) (kmF f t) := by
  refine ⟨fun z hz => merge_in _ _ _ _ (keys_nodup (nodup_lt go.up)) (List.mem_map.mpr ⟨z, hz, rfl⟩), fun z hz => merge_in _ _ _ _ (keys_nodup (nodup_lt go.hid.up)) (List.mem_map.mpr ⟨z, hz, rfl⟩), fun i => ?_⟩
  rw [merge_no _ _ _ fun kv hkv e => ?_]
  · rfl
  · obtain ⟨z, _, rfl⟩ := List.mem_map.mp hkv
    cases e
end SfC
namespace SfC
open PySem PySem.Spec PyProof.Rows L2 SfG
abbrev nLaw : List Str := ["_law_script", "_law_k", "_law_cell", "_law_state", "_law_start", "_law_turn", "_law_face_here", "_law_signs", "_law_words", "_law_kinds", "_law_other", "_law_at", "_law_deed", "_law_kind_here"]
theorem scLaw : FnScope nLaw ["_law_script"] (defScope sLaw) := ⟨rfl, rfl, rfl, by decide +kernel, rfl, by decide +kernel, by decide +kernel⟩
theorem sign_at : ∀ s, s < 16 → ∀ i, i < 8 → atI (cutS zya (some ((s : Nat) : Int)) none).cps.toList ((i : Nat) : Int) = some (zya.cps.toList.getD (s + i) 0) := by decide +kernel
theorem paired_mono {α β : Type} {F G : α → β → Prop} (h : ∀ a b, F a b → G a b) {l : List α} {m : List β} (p : Paired F l m) : Paired G l m := by
  induction p with
  | nil => exact .nil
  | cons a _ ih => exact .cons (h _ _ a) ih
section
variable {P : Program} {w : World} {K : PySem.W.Frag} {mg : Str → Option Value} {base : Heap}
def spLaw (K : PySem.W.Frag) : Sp := fun vs H Q _ => ∃ (a : Addr) (ns : List Int), vs = [.ref a] ∧ SqL K H a (ns.map V.int) ∧ ns.length ≤ 63 ∧ ∀ H', Q (.bl true) H'
structure Calls (P : Program) (w : World) (K : PySem.W.Frag) (mg : Str → Option Value) (base : Heap) (fD fG fF fC fI fS fT fR : Addr) (dD dG dF dC dI dS dT dR : FuncData) : Prop where
  DR : Has P w K mg base 7 "_law_draw" ["_law_cell", "_law_k"] spDraw fD dD
  DG : Has P w K mg base 7 "_law_digit" ["_law_state", "_law_many"] spDigit fG dG
  FC : Has P w K mg base 7 "_law_face" ["_law_state", "_law_most"] (spFace K) fF dF
  CL : Has P w K mg base 7 "_law_called" ["_law_face_here", "_law_words", "_law_kinds"] (spCalled K) fC dC
  IF : Has P w K mg base 7 "is_face" ["thing"] (spGood K (.bl true)) fI dI
  SM : Has P w K mg base 7 "_law_same" ["_law_face_here", "_law_other", "_law_words", "_law_kinds"] (spSame K) fS dS
  FT : Has P w K mg base 7 "face_text" ["face"] (spFText K) fT dT
  RF : Has P w K mg base 7 "read_face" ["text"] (spReadF K) fR dR
  me : mg "enumerate" = none
  msum : mg "sum" = none
  md : mg "dict" = none
set_option maxHeartbeats 8000000 in
theorem ok_law {f fD fG fF fC fI fS fT fR : Addr} {fd dD dG dF dC dI dS dT dR : FuncData} (F : Fun K "law" "law" sLaw f fd) (C : Calls P w K mg base fD fG fF fC fI fS fT fR dD dG dF dC dI dS dT dR) : FnG P w K mg base CX0 8 f fd ["_law_script"] (spLaw K) := by
  refine fng_of F scLaw (fun vs H Q E h => ?_) (fun cdv A outer s H vs Q E hr hgd h => ?_)
  · obtain ⟨a, ns, rfl, _⟩ := h
    rfl
  · obtain ⟨a, ns, rfl, hS, hlen, q⟩ := h
    have nd := scLaw.nd
    refine' ⟨_, pss_cons ?s1 (pss_one ?s2), ?rd⟩
    case s2 => exact ps_ret pe_bl
    case s1 =>
      refine' ps_for PassesOwn.never rfl (pi_enum (by rfl) C.me (pa_cons (pe_op op_cat (pe_slice sl_list (pv 0) po_none (po_some pe_int))
          (pe_lst (pa_cons (pe_callB (cr_sum rfl) (by rfl) C.msum (by decide +kernel) (pa_cons (pv 0) pa_nil)) pa_nil))) pa_nil))
        (pg_tup rfl (pgs_cons (pg_name (i := 1) nd rfl (.inl rfl)) (pgs_cons (pg_name (i := 2) nd rfl (.inl rfl)) pgs_nil)))
        (pss_cons ?b1 (pss_cons ?b2 (pss_cons ?b3 (pss_cons ?b4 (pss_cons ?b5 (pss_cons ?b6 (pss_cons ?b7 (pss_cons ?b8 (pss_one ?b9)))))))))
      case b1 => exact ps_set (i := 3) nd rfl (.inl rfl) (hcall C.DR hr (pa_cons (pv 2) (pa_cons (pv 1) pa_nil)))
      case b2 =>
        exact ps_asg (pe_tup (pa_cons (hcall C.DG hr (pa_cons (pv 3) (pa_cons pe_int pa_nil))) (pa_cons (hcall C.DG hr (pa_cons (pv 3) (pa_cons pe_int pa_nil))) pa_nil)))
          (pg_tup rfl (pgs_cons (pg_name (i := 4) nd rfl (.inl rfl)) (pgs_cons (pg_name (i := 5) nd rfl (.inr rfl)) pgs_nil)))
      case b3 => exact ps_set (i := 6) nd rfl (.inl rfl) (hcall C.FC hr (pa_cons (pv 3) (pa_cons pe_int pa_nil)))
      case b4 => exact ps_set (i := 7) nd rfl (.inr rfl) (pe_slice sl_str pe_str (po_some (pv 4)) po_none)
      case b5 =>
        exact ps_set (i := 8) nd rfl (.inl rfl) (pe_callTy (call_dictP rfl) (by rfl) C.md (by decide +kernel) (pa_cons (pe_lc (own := [("_law_at", 11), ("_law_deed", 12)]) (g := gTup K 2 (gCons (gName 11) (gCons (gName 12) gNil))) rfl nd (pi_enumT (by rfl) C.me (pa_cons (pe_ix ix_tup (pv 6) pe_int (fun _ _ => rfl)) pa_nil))
          (blkOk_by (own := [("_law_at", 11), ("_law_deed", 12)]) (N := nLaw) (sc := defScope sLaw) (by decide +kernel)) (fun _ _ _ _ _ => pg_tup rfl (pgs_cons (pg_name (i := 11) nd rfl (Or.inl rfl)) (pgs_cons (pg_name (i := 12) nd rfl (Or.inl rfl)) pgs_nil))) (fun _ _ _ _ _ => pts_nil)
          (fun _ _ _ _ _ => pe_tup (pa_cons (pe_ix (r := rIxT K) ix_tup (pv 12) pe_int (fun _ _ => rfl)) (pa_cons (pe_op op_mulZ (pe_ix (r := rIxS) ix_str (pv 7) (pv 11) (fun _ _ => rfl)) (pe_op op_add pe_int (pe_op op_mod (pv 11) pe_int))) pa_nil)))) pa_nil))
      case b6 =>
        exact ps_set (i := 9) nd rfl (.inl rfl) (pe_callTy (call_dictP rfl) (by rfl) C.md (by decide +kernel) (pa_cons (pe_lc (own := [("_law_at", 11), ("_law_kind_here", 13)]) (g := gTup K 2 (gCons (gName 11) (gCons (gName 13) gNil))) rfl nd (pi_enumT (by rfl) C.me (pa_cons (pe_ix ix_tup (pv 6) pe_int (fun _ _ => rfl)) pa_nil))
          (blkOk_by (own := [("_law_at", 11), ("_law_kind_here", 13)]) (N := nLaw) (sc := defScope sLaw) (by decide +kernel)) (fun _ _ _ _ _ => pg_tup rfl (pgs_cons (pg_name (i := 11) nd rfl (Or.inl rfl)) (pgs_cons (pg_name (i := 13) nd rfl (Or.inl rfl)) pgs_nil))) (fun _ _ _ _ _ => pts_nil)
          (fun _ _ _ _ _ => pe_tup (pa_cons (pv 13) (pa_cons (pe_op op_mulZ (pe_ix (r := rIxL K) ix_list (pe_lst (pa_cons pe_str (pa_cons pe_str pa_nil))) (pv 11) (fun _ _ => rfl)) (pe_op op_add (pe_op op_add pe_int (pv 5)) (pe_op op_mul pe_int (pv 11)))) pa_nil)))) pa_nil))
      case b7 => exact ps_set (i := 10) nd rfl (.inl rfl) (hcall C.CL hr (pa_cons (pv 6) (pa_cons (pv 8) (pa_cons (pv 9) pa_nil))))
      case b8 =>
        exact ps_if (PW.pt (pw_or (pt_not (pt_val (hcall C.IF hr (pa_cons (pv 10) pa_nil)))) (pw_or1 (pt_not (pt_val (hcall C.SM hr (pa_cons (pv 6) (pa_cons (pv 10) (pa_cons (pv 8) (pa_cons (pv 9) pa_nil)))))))))) pss_never pss_nil
      case b9 =>
        exact ps_if (PW.pt (pw_or (pt_cmpR (op_neD hr.units) (hcall C.RF hr (pa_cons (hcall C.FT hr (pa_cons (pv 10) pa_nil)) pa_nil)) (pv 10) (nomark _))
          (pw_or1 (pt_cmpR op_ne (pe_cmpR op_eq (hcall C.FT hr (pa_cons (pv 10) pa_nil)) (hcall C.FT hr (pa_cons (pv 6) pa_nil)) (nomark _)) (pe_cmpR (op_eqD hr.units) (pv 10) (pv 6) (nomark _)) (nomark _))))) pss_never pss_nil
    case rd =>
    -- the list that is walked
    refine ⟨_, rfl, 8, rfl, a, ns.map V.int, rfl, hS, fun q1 n1 => ?_⟩
    have g1 : Gr H (upd H q1 (.lst (cutV (ns.map V.int) none (some 8)))) := Gr.new n1
    refine ⟨_, rfl, a, ns, rfl, g1.seq hS, by show 1 ≤ sizeLine; decide, fun q2 n2 => ?_⟩
    have hq12 : q1 ≠ q2 := ne_of_none upd_same n2
    have cl : (cutV (ns.map V.int) none (some 8)).length ≤ 63 := by
      refine Nat.le_trans (cutV_length _ _ _) ?_
      rw [List.length_map]
      exact hlen
    refine ⟨q1, q2, _, _, rfl, rfl, (upd_ne hq12).trans upd_same, upd_same, ?_, fun el nel => ?_⟩
    · refine Nat.le_of_lt (small1000 ?_)
      show _ + 1 ≤ 1000
      omega
    have hel : upd (upd (upd H q1 (.lst (cutV (ns.map V.int) none (some 8)))) q2 (.lst [.int ns.sum])) el (.lst (cutV (ns.map V.int) none (some 8) ++ [.int ns.sum])) el = some (.lst (cutV (ns.map V.int) none (some 8) ++ [.int ns.sum])) := upd_same
    have hints : ∀ x ∈ cutV (ns.map V.int) none (some 8) ++ [V.int ns.sum], ∃ i, x = .int i := by
      intro x hx
      rcases List.mem_append.mp hx with h | h
      · unfold cutV at h
        obtain ⟨i, _, e⟩ := List.mem_map.mp (List.mem_of_mem_drop (List.mem_of_mem_take h))
        exact ⟨i, e.symm⟩
      · exact ⟨ns.sum, by simpa using h⟩
    have lxs : (cutV (ns.map V.int) none (some 8) ++ [V.int ns.sum]).length ≤ 64 := by
      rw [List.length_append]
      show _ + 1 ≤ 64
      omega
    generalize upd (upd (upd H q1 (.lst (cutV (ns.map V.int) none (some 8)))) q2 (.lst [.int ns.sum])) el (.lst (cutV (ns.map V.int) none (some 8) ++ [.int ns.sum])) = Hs at hel ⊢
    generalize cutV (ns.map V.int) none (some 8) ++ [V.int ns.sum] = xs at hints lxs hel
    refine ⟨el, xs, rfl, .inl (.inl hel), for_it (walk_enum (xs := xs)) (fun i σ H1 => ∃ y1 y2 y3 y4 y5 y6 y7 y8 y9 y10 : Option V,
      σ = [some (.ref a), y1, y2, y3, y4, y5, y6, y7, y8, y9, y10, none, none, none] ∧ Gr Hs H1) ⟨none, none, none, none, none, none, none, none, none, none, rfl, Gr.refl _⟩ ?stays ?turn ?after⟩
    case stays =>
      rintro i σ H1 hi ⟨y1, y2, y3, y4, y5, y6, y7, y8, y9, y10, rfl, g⟩
      exact .inl (.inl (g.lst hel))
    case after =>
      rintro σ H1 ⟨y1, y2, y3, y4, y5, y6, y7, y8, y9, y10, rfl, g⟩
      exact q H1
    case turn =>
      rintro i x σ H1 H' hi ⟨y1, y2, y3, y4, y5, y6, y7, y8, y9, y10, rfl, g⟩ ⟨T, kx, cx, rfl, nT, rfl, ek, ec⟩
      cases ek
      obtain ⟨cell, rfl⟩ := hints _ (List.mem_of_getElem? ec)
      refine ⟨T, [.int (i : Nat), .int cell], rfl, .inl (.inl upd_same), rfl, .int (i : Nat), [.int cell], rfl, .int cell, [], rfl, rfl, ?_⟩
      have gT : Gr Hs (upd H1 T (.tup [.int (i : Nat), .int cell])) := g.trans (Gr.new nT)
      generalize upd H1 T (.tup [.int (i : Nat), .int cell]) = HT at gT ⊢
      refine ⟨_, rfl, _, rfl, cell, (i : Nat), rfl, by omega, by omega, fun H2 p np g2 dr => ?_⟩
      have nps : Hs p = none := gT.back p np
      have g02 : Gr Hs H2 := gT.trans g2
      refine ⟨_, rfl, p, 16, _, rfl, dr, by omega, by decide, by decide, fun H3 d1 b3 dr3 d10 d16 => ?_⟩
      refine ⟨_, rfl, p, 2, _, rfl, dr3, by omega, by decide, by decide, fun H4 d2 b4 dr4 d20 d22 => ?_⟩
      refine ⟨by show 2 ≤ sizeLine; decide, fun tp ntp => ?_⟩
      have dr5 := dr4.new (o := .tup [.int d1, .int d2]) ntp
      have gp5 : Gp p H2 (upd H4 tp (.tup [.int d1, .int d2])) := ((Gp.but b3).trans (Gp.but b4)).trans (Gp.gr (Gr.new ntp))
      have e5 : upd H4 tp (.tup [.int d1, .int d2]) tp = some (.tup [.int d1, .int d2]) := upd_same
      generalize upd H4 tp (.tup [.int d1, .int d2]) = H5 at dr5 gp5 e5 ⊢
      refine ⟨tp, _, rfl, .inl (.inl e5), rfl, _, _, rfl, _, _, rfl, rfl, ?_⟩
      refine ⟨_, rfl, p, 6, _, rfl, by decide, by decide, dr5, by omega, by omega, fun H6 v1 f1 g6 dr6 df go => ?_⟩
      have gr6 : Gr Hs H6 := Gp.out g02 nps (gp5.trans g6)
      obtain ⟨s0, rfl⟩ : ∃ s0 : Nat, d1 = (s0 : Int) := ⟨d1.toNat, by omega⟩
      obtain ⟨t0, rfl⟩ : ∃ t0 : Nat, d2 = (t0 : Int) := ⟨d2.toNat, by omega⟩
      have hs : s0 < 16 := by omega
      have ht : t0 < 2 := by omega
      clear b3 b4 dr3 dr4 dr5 dr6 gp5 g6 e5 ntp dr g2 np
      have nmN := nodup_lt go.up
      have hdN := nodup_lt go.hid.up
      have R := ren_of go hs ht
      have Dd := dct_of go s0 t0
      have hi8 := go.hi
      have hi2 := go.hid.hi
      refine ⟨_, rfl, (s0 : Int), rfl, zya, rfl, by show 26 ≤ sizeLine; decide, ?_⟩
      have slen : (cutS zya (some (s0 : Int)) none).length ≤ sizeLine := by
        have a1 : (cutS zya (some (s0 : Int)) none).length ≤ 26 := by
          have z : ∀ n, n < 16 → (cutS zya (some ((n : Nat) : Int)) none).length ≤ 26 := by decide +kernel
          exact z s0 hs
        rw [sizeLine_eq]
        omega
      obtain ⟨pf, ph, pd, fs, rfl, hpf, hph, hpd, dd⟩ := dp_face df
      have hl : fs.length = f1.ds.length := by
        have := dpA_len dd
        rw [List.length_map] at this
        exact this
      -- words
      refine ⟨_, rfl, pf, _, 1, _, rfl, rfl, hpf, rfl, pd, _, rfl, hpd, fun D nD => ?_⟩
      refine lc_it (walk_enumT (xs := fs)) (fun j H7 => ∃ ps : List Addr, H7 D = some (.lst (ps.map V.ref)) ∧ ps.length = j ∧ Paired (fun p kv => SqT K H7 p [kV kv.1, kv.2]) ps ((wkv f1 s0).take j) ∧ Gr H6 H7) ⟨[], upd_same, rfl, .nil, Gr.new nD⟩ ?c0 ?c1 ?c2
      case c0 =>
        rintro j H7 hj ⟨ps, e7, l7, p7, g7⟩
        exact g7.sqt hpd
      case c1 =>
        rintro j v H7 H7' hj ⟨ps, e7, l7, p7, g7⟩ ⟨T2, a2, b2, rfl, nT2, rfl, ha, hb⟩
        cases ha
        obtain ⟨e, he, de⟩ := dpA_de dd hb
        have g8 : Gr H7 (upd H7 T2 (.tup [.int (j : Nat), b2])) := Gr.new nT2
        have e8 : upd H7 T2 (.tup [.int (j : Nat), b2]) T2 = some (.tup [.int (j : Nat), b2]) := upd_same
        generalize upd H7 T2 (.tup [.int (j : Nat), b2]) = H8 at g8 e8 ⊢
        obtain ⟨pe, n1, t1, v1, rfl, hpe, dn, dt, dv⟩ := dp_3 ((g7.trans g8).kd.dp de)
        cases dp_str dn
        have j8 : j < 8 := by omega
        refine ⟨T2, _, rfl, .inl (.inl e8), rfl, .int (j : Nat), [.ref pe], rfl, .ref pe, [], rfl, rfl, rfl, ?_⟩
        unfold tYes
        refine iteT ⟨_, rfl, pe, _, 0, _, rfl, rfl, hpe, rfl, ?_⟩
        refine ⟨_, rfl, _, rfl, cutS zya (some (s0 : Int)) none, (j : Nat), _, rfl, rfl, slen, sign_at s0 hs j j8, ?_⟩
        refine ⟨_, rfl, (j : Nat), 8, rfl, rfl, by show (0 : Int) < 8; decide, 1, _, rfl, rfl, ⟨#[zya.cps.toList.getD (s0 + j) 0]⟩, 1 + j % 8, rfl, ?_, by omega, ?_, by show 1 ≠ 0; decide, ?_⟩
        · exact congrArg V.int (show (1 : Int) + (j : Int) % 8 = ((1 + j % 8 : Nat) : Int) by omega)
        · show 1 * (1 + j % 8) ≤ 1000000
          omega
        generalize hW : repS (⟨#[zya.cps.toList.getD (s0 + j) 0]⟩ : Str) (1 + j % 8) = W
        have eW : wrd s0 j = W := hW
        refine ⟨by show 2 ≤ sizeLine; decide, fun te nte => ?_⟩
        have g9 : Gr H8 (upd H8 te (.tup [.str e.nm, .str W])) := Gr.new nte
        have e9 : upd H8 te (.tup [.str e.nm, .str W]) te = some (.tup [.str e.nm, .str W]) := upd_same
        generalize upd H8 te (.tup [.str e.nm, .str W]) = H9 at g9 e9 ⊢
        have gA := g8.trans g9
        have hD9 := gA.lst e7
        have hn : (f1.ds.map De.nm)[j]? = some e.nm := by rw [List.getElem?_map, he]; rfl
        have hw : (wkv f1 s0)[j]? = some (.inr e.nm, .str W) := by
          unfold wkv wmF
          rw [List.getElem?_map, hn, Option.map_some, plc_of nmN hn, eW]
        refine ⟨_, hD9, ?_, ps ++ [te], ?_, ?_, ?_, (g7.trans gA).upd_new nD⟩
        · rw [List.length_map]
          exact small1000 (by omega)
        · rw [upd_same, List.map_append]
          rfl
        · rw [List.length_append, l7]
          rfl
        · rw [List.take_add_one, hw]
          exact (paired_mono (fun p kv z => sqt_lst hD9 (gA.sqt z)) p7).snoc (sqt_lst hD9 (show SqT K H9 te [kV (.inr e.nm), .str W] from .inl (.inl e9)))
      case c2 =>
      rintro H7 ⟨ps, e7, l7, p7, g7⟩
      rw [hl, show f1.ds.length = (wkv f1 s0).length by unfold wkv; rw [List.length_map, List.length_map], List.take_length] at p7
      refine ⟨D, ps, _, rfl, .inl (.inl e7), p7, fun wd nwd => ?_⟩
      have g8 : Gr H7 (upd H7 wd (.dK (mergeK [] (wkv f1 s0)))) := Gr.new nwd
      have e8 : upd H7 wd (.dK (mergeK [] (wkv f1 s0))) wd = some (.dK (mergeK [] (wkv f1 s0))) := upd_same
      generalize upd H7 wd (.dK (mergeK [] (wkv f1 s0))) = H8 at g8 e8 ⊢
      have g68 := g7.trans g8
      clear e7 p7 nD nwd
      -- kinds
      refine ⟨_, rfl, pf, _, 0, _, rfl, rfl, g68.sqt hpf, rfl, ph, _, rfl, g68.sqt hph, fun D2 nD => ?_⟩
      refine lc_it (walk_enumT (xs := f1.hd.map V.str)) (fun j H9 => ∃ ps : List Addr, H9 D2 = some (.lst (ps.map V.ref)) ∧ ps.length = j ∧ Paired (fun p kv => SqT K H9 p [kV kv.1, kv.2]) ps ((kkv f1 t0).take j) ∧ Gr H8 H9) ⟨[], upd_same, rfl, .nil, Gr.new nD⟩ ?m0 ?m1 ?m2
      case m0 =>
        rintro j H9 hj ⟨ps, e9, l9, p9, g9⟩
        exact g9.sqt (g68.sqt hph)
      case m1 =>
        rintro j v H9 H9' hj ⟨ps, e9, l9, p9, g9⟩ ⟨T2, a2, b2, rfl, nT2, rfl, ha, hb⟩
        cases ha
        have hb' : (f1.hd.map V.str)[j]? = some b2 := hb
        rw [List.getElem?_map] at hb'
        obtain ⟨z, hz, rfl⟩ := Option.map_eq_some_iff.mp hb'
        rw [List.length_map] at hj
        have g10 : Gr H9 (upd H9 T2 (.tup [.int (j : Nat), .str z])) := Gr.new nT2
        have e10 : upd H9 T2 (.tup [.int (j : Nat), .str z]) T2 = some (.tup [.int (j : Nat), .str z]) := upd_same
        generalize upd H9 T2 (.tup [.int (j : Nat), .str z]) = H10 at g10 e10 ⊢
        have j2 : j < 2 := by omega
        refine ⟨T2, _, rfl, .inl (.inl e10), rfl, .int (j : Nat), [.str z], rfl, .str z, [], rfl, rfl, rfl, ?_⟩
        unfold tYes
        refine iteT ⟨_, rfl, by show 2 ≤ sizeLine; decide, fun l11 n11 => ?_⟩
        have g11 : Gr H10 (upd H10 l11 (.lst [.str "p", .str "o"])) := Gr.new n11
        have e11 : upd H10 l11 (.lst [.str "p", .str "o"]) l11 = some (.lst [.str "p", .str "o"]) := upd_same
        generalize upd H10 l11 (.lst [.str "p", .str "o"]) = H11 at g11 e11 ⊢
        refine ⟨_, rfl, l11, _, (j : Nat), .str (if j = 0 then "p" else "o"), rfl, rfl, .inl (.inl e11), ?_, ?_⟩
        · have z2 : ∀ n, n < 2 → ([("p" : Str), "o"][n]? = some (if n = 0 then ("p" : Str) else ("o" : Str))) := by decide +kernel
          refine atI_nat ?_
          have z3 := z2 j j2
          rw [show [V.str "p", V.str "o"] = [("p" : Str), "o"].map V.str from rfl, List.getElem?_map, z3]
          rfl
        refine ⟨_, rfl, 1, (t0 : Int), rfl, rfl, _, rfl, 6, (j : Nat), rfl, rfl, .inl (by decide), _, _, rfl, rfl, (if j = 0 then "p" else "o"), 1 + t0 + 6 * j, rfl, ?_, by omega, ?_, ?_, ?_⟩
        · exact congrArg V.int (show (1 : Int) + (t0 : Int) + 6 * (j : Int) = ((1 + t0 + 6 * j : Nat) : Int) by omega)
        · have z2 : ∀ n, n < 2 → ((if n = 0 then "p" else "o" : Str).length = 1) := by decide +kernel
          rw [z2 j j2]
          omega
        · have z2 : ∀ n, n < 2 → ((if n = 0 then "p" else "o" : Str).length ≠ 0) := by decide +kernel
          exact z2 j j2
        generalize hW : repS (if j = 0 then "p" else "o") (1 + t0 + 6 * j) = W
        have eW : knd t0 j = W := hW
        refine ⟨by show 2 ≤ sizeLine; decide, fun te nte => ?_⟩
        have g12 : Gr H11 (upd H11 te (.tup [.str z, .str W])) := Gr.new nte
        have e12 : upd H11 te (.tup [.str z, .str W]) te = some (.tup [.str z, .str W]) := upd_same
        generalize upd H11 te (.tup [.str z, .str W]) = H12 at g12 e12 ⊢
        have gA := g10.trans (g11.trans g12)
        have hD9 := gA.lst e9
        have hw : (kkv f1 t0)[j]? = some (.inr z, .str W) := by
          unfold kkv kmF
          rw [List.getElem?_map, hz, Option.map_some, plc_of hdN hz, eW]
        refine ⟨_, hD9, ?_, ps ++ [te], ?_, ?_, ?_, (g9.trans gA).upd_new nD⟩
        · rw [List.length_map]
          exact small1000 (by omega)
        · rw [upd_same, List.map_append]
          rfl
        · rw [List.length_append, l9]
          rfl
        · rw [List.take_add_one, hw]
          exact (paired_mono (fun p kv z => sqt_lst hD9 (gA.sqt z)) p9).snoc (sqt_lst hD9 (show SqT K H12 te [kV (.inr z), .str W] from .inl (.inl e12)))
      case m2 =>
      rintro H9 ⟨ps2, e9, l9, p9, g9⟩
      rw [List.length_map, show f1.hd.length = (kkv f1 t0).length by unfold kkv; rw [List.length_map], List.take_length] at p9
      refine ⟨D2, ps2, _, rfl, .inl (.inl e9), p9, fun kd nkd => ?_⟩
      have g10 : Gr H9 (upd H9 kd (.dK (mergeK [] (kkv f1 t0)))) := Gr.new nkd
      have e10 : upd H9 kd (.dK (mergeK [] (kkv f1 t0))) kd = some (.dK (mergeK [] (kkv f1 t0))) := upd_same
      generalize upd H9 kd (.dK (mergeK [] (kkv f1 t0))) = G0 at g10 e10 ⊢
      have g610 := g68.trans (g9.trans g10)
      have dfG := g610.kd.dp df
      have hwG := (g9.trans g10).dic e8
      clear e9 p9 nD nkd
      -- the other one
      refine ⟨_, rfl, _, rfl, _, rfl, .ref pf, wd, kd, f1, _, _, _, _, rfl, dfG, go, R, hwG, e10, Dd, fun G1 v2 f2 k1 d2 Cd => ?_⟩
      have go2 := Cd.go go R
      refine ⟨_, rfl, v2, f2, rfl, d2, go2, fun G2 k2 => ⟨_, rfl, iteF ?_⟩⟩
      have k02 := k1.trans k2
      refine ⟨_, rfl, _, rfl, _, rfl, _, rfl, .ref pf, v2, wd, kd, f1, f2, _, _, _, _, rfl, k02.kd.dp dfG, go, k2.kd.dp d2, go2, Cd, R, k02.dic hwG, k02.dic e10, Dd, fun G3 k3 => ⟨_, rfl, iteF ?_⟩⟩
      have k13 := k2.trans k3
      have d23 := k13.kd.dp d2
      -- its text
      refine ⟨_, rfl, v2, f2, rfl, d23, go2, fun G4 k4 => ?_⟩
      refine ⟨f2, rfl, go2, fun G5 v5 k5 d5 => ?_⟩
      have cF := cm_face go2
      have cG := cm_face go
      have k35 := k4.trans k5
      refine ⟨_, rfl, _, _, d5, k35.kd.dp d23, cF.shaped (by decide), cF.shaped (by decide), _, rfl, ?_⟩
      rw [SeqAt.eqv_refl _ cF.lay]
      refine iteF ?_
      refine ⟨_, rfl, v2, f2, rfl, k35.kd.dp d23, go2, fun G6 k6 => ?_⟩
      have k0 := (k02.trans k3).trans (k35.trans k6)
      refine ⟨_, rfl, .ref pf, f1, rfl, k0.kd.dp dfG, go, fun G7 k7 => ⟨rfl, ?_⟩⟩
      refine ⟨_, rfl, _, rfl, _, _, (k35.trans (k6.trans k7)).kd.dp d23, (k0.trans k7).kd.dp dfG, cF.shaped (by decide), cG.shaped (by decide), rfl, _, rfl, ?_⟩
      have same : V.bl (decide (V.str (textF f2) = V.str (textF f1))) = V.bl (PyData.eqv f2.d f1.d) := by
        by_cases e : f2 = f1
        · rw [e, SeqAt.eqv_refl _ cG.lay, decide_eq_true rfl]
        · rw [decide_eq_false (fun z => e (textF_inj go2 go (V.str.inj z)))]
          cases h : PyData.eqv f2.d f1.d with
          | true => exact absurd (eqv_fc h) e
          | false => rfl
      rw [decide_eq_true same]
      refine iteF ?_
      exact ⟨_, _, _, _, _, _, _, _, _, _, rfl, gr6.trans (g610.trans (k0.trans k7))⟩
end
end SfC
namespace SfC
open PySem PySem.Spec PyProof.Rows L2 SfG
set_option maxHeartbeats 4000000 in
theorem all_mk {l : PySem.W.OpenLaw} {w : World} {K : PySem.W.Frag} {h : Heap} {mg : Str → Option Value} {fa : Addr} (X : K.In h) (G : h.Ns mainGlobals mg) (hfa : mg "law" = some (.ref fa))
    {fA : Addr} {odA anA : Option Addr} {slA : Array (Option Value)} {ocA kVA dcA pmA ctA cdA : Value}
    (aA : PySem.W.nsIn K mainGlobals "is_name" = some (some (.ref fA))) (lA : K.lookup fA = some ⟨ocA, odA, .func (PySem.W.fnOf "is_name" "is_name" (defArgs sName) (defBody sName) (defScope sName) .none kVA dcA pmA anA cdA ctA), slA⟩) (hA : PySem.W.codeIn K cdA "is_name" = true) (kA : PySem.W.keepIn K (.ref fA) = true)
    {fB : Addr} {odB anB : Option Addr} {slB : Array (Option Value)} {ocB kVB dcB pmB ctB cdB : Value}
    (aB : PySem.W.nsIn K mainGlobals "is_kind" = some (some (.ref fB))) (lB : K.lookup fB = some ⟨ocB, odB, .func (PySem.W.fnOf "is_kind" "is_kind" (defArgs sKind) (defBody sKind) (defScope sKind) .none kVB dcB pmB anB cdB ctB), slB⟩) (hB : PySem.W.codeIn K cdB "is_kind" = true) (kB : PySem.W.keepIn K (.ref fB) = true)
    {fC : Addr} {odC anC : Option Addr} {slC : Array (Option Value)} {ocC kVC dcC pmC ctC cdC : Value}
    (aC : PySem.W.nsIn K mainGlobals "first_bad_deed" = some (some (.ref fC))) (lC : K.lookup fC = some ⟨ocC, odC, .func (PySem.W.fnOf "first_bad_deed" "first_bad_deed" (defArgs sBadD) (defBody sBadD) (defScope sBadD) .none kVC dcC pmC anC cdC ctC), slC⟩) (hC : PySem.W.codeIn K cdC "first_bad_deed" = true) (kC : PySem.W.keepIn K (.ref fC) = true)
    {fD : Addr} {odD anD : Option Addr} {slD : Array (Option Value)} {ocD kVD dcD pmD ctD cdD : Value}
    (aD : PySem.W.nsIn K mainGlobals "first_bad_hidden" = some (some (.ref fD))) (lD : K.lookup fD = some ⟨ocD, odD, .func (PySem.W.fnOf "first_bad_hidden" "first_bad_hidden" (defArgs sBadH) (defBody sBadH) (defScope sBadH) .none kVD dcD pmD anD cdD ctD), slD⟩) (hD : PySem.W.codeIn K cdD "first_bad_hidden" = true) (kD : PySem.W.keepIn K (.ref fD) = true)
    {fE : Addr} {odE anE : Option Addr} {slE : Array (Option Value)} {ocE kVE dcE pmE ctE cdE : Value}
    (aE : PySem.W.nsIn K mainGlobals "face_fault" = some (some (.ref fE))) (lE : K.lookup fE = some ⟨ocE, odE, .func (PySem.W.fnOf "face_fault" "face_fault" (defArgs sFault) (defBody sFault) (defScope sFault) .none kVE dcE pmE anE cdE ctE), slE⟩) (hE : PySem.W.codeIn K cdE "face_fault" = true) (kE : PySem.W.keepIn K (.ref fE) = true)
    {fN : Addr} {odN anN : Option Addr} {slN : Array (Option Value)} {ocN kVN dcN pmN ctN cdN : Value}
    (aN : PySem.W.nsIn K mainGlobals "need_face" = some (some (.ref fN))) (lN : K.lookup fN = some ⟨ocN, odN, .func (PySem.W.fnOf "need_face" "need_face" (defArgs sNeed) (defBody sNeed) (defScope sNeed) .none kVN dcN pmN anN cdN ctN), slN⟩) (hN : PySem.W.codeIn K cdN "need_face" = true) (kN : PySem.W.keepIn K (.ref fN) = true)
    {fa1 : Addr} {oda1 ana1 : Option Addr} {sla1 : Array (Option Value)} {oca1 kVa1 dca1 pma1 cta1 cda1 : Value}
    (aa1 : PySem.W.nsIn K mainGlobals "is_face" = some (some (.ref fa1))) (la1 : K.lookup fa1 = some ⟨oca1, oda1, .func (PySem.W.fnOf "is_face" "is_face" (defArgs sIsF) (defBody sIsF) (defScope sIsF) .none kVa1 dca1 pma1 ana1 cda1 cta1), sla1⟩) (ha1 : PySem.W.codeIn K cda1 "is_face" = true) (ka1 : PySem.W.keepIn K (.ref fa1) = true)
    {fa2 : Addr} {oda2 ana2 : Option Addr} {sla2 : Array (Option Value)} {oca2 kVa2 dca2 pma2 cta2 cda2 : Value}
    (aa2 : PySem.W.nsIn K mainGlobals "hidden_of" = some (some (.ref fa2))) (la2 : K.lookup fa2 = some ⟨oca2, oda2, .func (PySem.W.fnOf "hidden_of" "hidden_of" (defArgs sHidOf) (defBody sHidOf) (defScope sHidOf) .none kVa2 dca2 pma2 ana2 cda2 cta2), sla2⟩) (ha2 : PySem.W.codeIn K cda2 "hidden_of" = true) (ka2 : PySem.W.keepIn K (.ref fa2) = true)
    {fa3 : Addr} {oda3 ana3 : Option Addr} {sla3 : Array (Option Value)} {oca3 kVa3 dca3 pma3 cta3 cda3 : Value}
    (aa3 : PySem.W.nsIn K mainGlobals "names_of" = some (some (.ref fa3))) (la3 : K.lookup fa3 = some ⟨oca3, oda3, .func (PySem.W.fnOf "names_of" "names_of" (defArgs sNamOf) (defBody sNamOf) (defScope sNamOf) .none kVa3 dca3 pma3 ana3 cda3 cta3), sla3⟩) (ha3 : PySem.W.codeIn K cda3 "names_of" = true) (ka3 : PySem.W.keepIn K (.ref fa3) = true)
    {fa4 : Addr} {oda4 ana4 : Option Addr} {sla4 : Array (Option Value)} {oca4 kVa4 dca4 pma4 cta4 cda4 : Value}
    (aa4 : PySem.W.nsIn K mainGlobals "find_deed" = some (some (.ref fa4))) (la4 : K.lookup fa4 = some ⟨oca4, oda4, .func (PySem.W.fnOf "find_deed" "find_deed" (defArgs sFind) (defBody sFind) (defScope sFind) .none kVa4 dca4 pma4 ana4 cda4 cta4), sla4⟩) (ha4 : PySem.W.codeIn K cda4 "find_deed" = true) (ka4 : PySem.W.keepIn K (.ref fa4) = true)
    {fa5 : Addr} {oda5 ana5 : Option Addr} {sla5 : Array (Option Value)} {oca5 kVa5 dca5 pma5 cta5 cda5 : Value}
    (aa5 : PySem.W.nsIn K mainGlobals "deed_number" = some (some (.ref fa5))) (la5 : K.lookup fa5 = some ⟨oca5, oda5, .func (PySem.W.fnOf "deed_number" "deed_number" (defArgs sDeedN) (defBody sDeedN) (defScope sDeedN) .none kVa5 dca5 pma5 ana5 cda5 cta5), sla5⟩) (ha5 : PySem.W.codeIn K cda5 "deed_number" = true) (ka5 : PySem.W.keepIn K (.ref fa5) = true)
    {fa6 : Addr} {oda6 ana6 : Option Addr} {sla6 : Array (Option Value)} {oca6 kVa6 dca6 pma6 cta6 cda6 : Value}
    (aa6 : PySem.W.nsIn K mainGlobals "takes_of" = some (some (.ref fa6))) (la6 : K.lookup fa6 = some ⟨oca6, oda6, .func (PySem.W.fnOf "takes_of" "takes_of" (defArgs sTakes) (defBody sTakes) (defScope sTakes) .none kVa6 dca6 pma6 ana6 cda6 cta6), sla6⟩) (ha6 : PySem.W.codeIn K cda6 "takes_of" = true) (ka6 : PySem.W.keepIn K (.ref fa6) = true)
    {fa7 : Addr} {oda7 ana7 : Option Addr} {sla7 : Array (Option Value)} {oca7 kVa7 dca7 pma7 cta7 cda7 : Value}
    (aa7 : PySem.W.nsIn K mainGlobals "gives_of" = some (some (.ref fa7))) (la7 : K.lookup fa7 = some ⟨oca7, oda7, .func (PySem.W.fnOf "gives_of" "gives_of" (defArgs sGives) (defBody sGives) (defScope sGives) .none kVa7 dca7 pma7 ana7 cda7 cta7), sla7⟩) (ha7 : PySem.W.codeIn K cda7 "gives_of" = true) (ka7 : PySem.W.keepIn K (.ref fa7) = true)
    {f1 : Addr} {od1 an1 : Option Addr} {sl1 : Array (Option Value)} {oc1 kV1 dc1 pm1 ct1 cd1 : Value}
    (a1 : PySem.W.nsIn K mainGlobals "is_next_name" = some (some (.ref f1))) (l1 : K.lookup f1 = some ⟨oc1, od1, .func (PySem.W.fnOf "is_next_name" "is_next_name" (defArgs sNextN) (defBody sNextN) (defScope sNextN) .none kV1 dc1 pm1 an1 cd1 ct1), sl1⟩) (h1 : PySem.W.codeIn K cd1 "is_next_name" = true) (k1 : PySem.W.keepIn K (.ref f1) = true)
    {f2 : Addr} {od2 an2 : Option Addr} {sl2 : Array (Option Value)} {oc2 kV2 dc2 pm2 ct2 cd2 : Value}
    (a2 : PySem.W.nsIn K mainGlobals "number_by_figures" = some (some (.ref f2))) (l2 : K.lookup f2 = some ⟨oc2, od2, .func (PySem.W.fnOf "number_by_figures" "number_by_figures" (defArgs sFigs) (defBody sFigs) (defScope sFigs) .none kV2 dc2 pm2 an2 cd2 ct2), sl2⟩) (h2 : PySem.W.codeIn K cd2 "number_by_figures" = true) (k2 : PySem.W.keepIn K (.ref f2) = true)
    {f3 : Addr} {od3 an3 : Option Addr} {sl3 : Array (Option Value)} {oc3 kV3 dc3 pm3 ct3 cd3 : Value}
    (a3 : PySem.W.nsIn K mainGlobals "number_of" = some (some (.ref f3))) (l3 : K.lookup f3 = some ⟨oc3, od3, .func (PySem.W.fnOf "number_of" "number_of" (defArgs sNum) (defBody sNum) (defScope sNum) .none kV3 dc3 pm3 an3 cd3 ct3), sl3⟩) (h3 : PySem.W.codeIn K cd3 "number_of" = true) (k3 : PySem.W.keepIn K (.ref f3) = true)
    {f4 : Addr} {od4 an4 : Option Addr} {sl4 : Array (Option Value)} {oc4 kV4 dc4 pm4 ct4 cd4 : Value}
    (a4 : PySem.W.nsIn K mainGlobals "kind_by" = some (some (.ref f4))) (l4 : K.lookup f4 = some ⟨oc4, od4, .func (PySem.W.fnOf "kind_by" "kind_by" (defArgs sKindBy) (defBody sKindBy) (defScope sKindBy) .none kV4 dc4 pm4 an4 cd4 ct4), sl4⟩) (h4 : PySem.W.codeIn K cd4 "kind_by" = true) (k4 : PySem.W.keepIn K (.ref f4) = true)
    {f5 : Addr} {od5 an5 : Option Addr} {sl5 : Array (Option Value)} {oc5 kV5 dc5 pm5 ct5 cd5 : Value}
    (a5 : PySem.W.nsIn K mainGlobals "are_takes" = some (some (.ref f5))) (l5 : K.lookup f5 = some ⟨oc5, od5, .func (PySem.W.fnOf "are_takes" "are_takes" (defArgs sAreT) (defBody sAreT) (defScope sAreT) .none kV5 dc5 pm5 an5 cd5 ct5), sl5⟩) (h5 : PySem.W.codeIn K cd5 "are_takes" = true) (k5 : PySem.W.keepIn K (.ref f5) = true)
    {f6 : Addr} {od6 an6 : Option Addr} {sl6 : Array (Option Value)} {oc6 kV6 dc6 pm6 ct6 cd6 : Value}
    (a6 : PySem.W.nsIn K mainGlobals "words_of" = some (some (.ref f6))) (l6 : K.lookup f6 = some ⟨oc6, od6, .func (PySem.W.fnOf "words_of" "words_of" (defArgs sWords) (defBody sWords) (defScope sWords) .none kV6 dc6 pm6 an6 cd6 ct6), sl6⟩) (h6 : PySem.W.codeIn K cd6 "words_of" = true) (k6 : PySem.W.keepIn K (.ref f6) = true)
    {f7 : Addr} {od7 an7 : Option Addr} {sl7 : Array (Option Value)} {oc7 kV7 dc7 pm7 ct7 cd7 : Value}
    (a7 : PySem.W.nsIn K mainGlobals "rows_of" = some (some (.ref f7))) (l7 : K.lookup f7 = some ⟨oc7, od7, .func (PySem.W.fnOf "rows_of" "rows_of" (defArgs sRowsOf) (defBody sRowsOf) (defScope sRowsOf) .none kV7 dc7 pm7 an7 cd7 ct7), sl7⟩) (h7 : PySem.W.codeIn K cd7 "rows_of" = true) (k7 : PySem.W.keepIn K (.ref f7) = true)
    {f8 : Addr} {od8 an8 : Option Addr} {sl8 : Array (Option Value)} {oc8 kV8 dc8 pm8 ct8 cd8 : Value}
    (a8 : PySem.W.nsIn K mainGlobals "need_no_more" = some (some (.ref f8))) (l8 : K.lookup f8 = some ⟨oc8, od8, .func (PySem.W.fnOf "need_no_more" "need_no_more" (defArgs sNoMore) (defBody sNoMore) (defScope sNoMore) .none kV8 dc8 pm8 an8 cd8 ct8), sl8⟩) (h8 : PySem.W.codeIn K cd8 "need_no_more" = true) (k8 : PySem.W.keepIn K (.ref f8) = true)
    {f9 : Addr} {od9 an9 : Option Addr} {sl9 : Array (Option Value)} {oc9 kV9 dc9 pm9 ct9 cd9 : Value}
    (a9 : PySem.W.nsIn K mainGlobals "row_at" = some (some (.ref f9))) (l9 : K.lookup f9 = some ⟨oc9, od9, .func (PySem.W.fnOf "row_at" "row_at" (defArgs sRowAt) (defBody sRowAt) (defScope sRowAt) .none kV9 dc9 pm9 an9 cd9 ct9), sl9⟩) (h9 : PySem.W.codeIn K cd9 "row_at" = true) (k9 : PySem.W.keepIn K (.ref f9) = true)
    {fG : Addr} {odG anG : Option Addr} {slG : Array (Option Value)} {ocG kVG dcG pmG ctG cdG : Value}
    (aG : PySem.W.nsIn K mainGlobals "read_hidden" = some (some (.ref fG))) (lG : K.lookup fG = some ⟨ocG, odG, .func (PySem.W.fnOf "read_hidden" "read_hidden" (defArgs sReadH) (defBody sReadH) (defScope sReadH) .none kVG dcG pmG anG cdG ctG), slG⟩) (hG : PySem.W.codeIn K cdG "read_hidden" = true) (kG : PySem.W.keepIn K (.ref fG) = true)
    {fH : Addr} {odH anH : Option Addr} {slH : Array (Option Value)} {ocH kVH dcH pmH ctH cdH : Value}
    (aH : PySem.W.nsIn K mainGlobals "read_takes" = some (some (.ref fH))) (lH : K.lookup fH = some ⟨ocH, odH, .func (PySem.W.fnOf "read_takes" "read_takes" (defArgs sReadT) (defBody sReadT) (defScope sReadT) .none kVH dcH pmH anH cdH ctH), slH⟩) (hH : PySem.W.codeIn K cdH "read_takes" = true) (kH : PySem.W.keepIn K (.ref fH) = true)
    {fI : Addr} {odI anI : Option Addr} {slI : Array (Option Value)} {ocI kVI dcI pmI ctI cdI : Value}
    (aI : PySem.W.nsIn K mainGlobals "read_deed" = some (some (.ref fI))) (lI : K.lookup fI = some ⟨ocI, odI, .func (PySem.W.fnOf "read_deed" "read_deed" (defArgs sReadD) (defBody sReadD) (defScope sReadD) .none kVI dcI pmI anI cdI ctI), slI⟩) (hI : PySem.W.codeIn K cdI "read_deed" = true) (kI : PySem.W.keepIn K (.ref fI) = true)
    {fRB : Addr} {odRB anRB : Option Addr} {slRB : Array (Option Value)} {ocRB kVRB dcRB pmRB ctRB cdRB : Value}
    (aRB : PySem.W.nsIn K mainGlobals "read_face_behind" = some (some (.ref fRB))) (lRB : K.lookup fRB = some ⟨ocRB, odRB, .func (PySem.W.fnOf "read_face_behind" "read_face_behind" (defArgs sReadFB) (defBody sReadFB) (defScope sReadFB) .none kVRB dcRB pmRB anRB cdRB ctRB), slRB⟩) (hRB : PySem.W.codeIn K cdRB "read_face_behind" = true) (kRB : PySem.W.keepIn K (.ref fRB) = true)
    {fRW : Addr} {odRW anRW : Option Addr} {slRW : Array (Option Value)} {ocRW kVRW dcRW pmRW ctRW cdRW : Value}
    (aRW : PySem.W.nsIn K mainGlobals "face_rows" = some (some (.ref fRW))) (lRW : K.lookup fRW = some ⟨ocRW, odRW, .func (PySem.W.fnOf "face_rows" "face_rows" (defArgs sFaceRows) (defBody sFaceRows) (defScope sFaceRows) .none kVRW dcRW pmRW anRW cdRW ctRW), slRW⟩) (hRW : PySem.W.codeIn K cdRW "face_rows" = true) (kRW : PySem.W.keepIn K (.ref fRW) = true)
    {fJ : Addr} {odJ anJ : Option Addr} {slJ : Array (Option Value)} {ocJ kVJ dcJ pmJ ctJ cdJ : Value}
    (aJ : PySem.W.nsIn K mainGlobals "read_face" = some (some (.ref fJ))) (lJ : K.lookup fJ = some ⟨ocJ, odJ, .func (PySem.W.fnOf "read_face" "read_face" (defArgs sReadF) (defBody sReadF) (defScope sReadF) .none kVJ dcJ pmJ anJ cdJ ctJ), slJ⟩) (hJ : PySem.W.codeIn K cdJ "read_face" = true) (kJ : PySem.W.keepIn K (.ref fJ) = true)
    {fK : Addr} {odK anK : Option Addr} {slK : Array (Option Value)} {ocK kVK dcK pmK ctK cdK : Value}
    (aK : PySem.W.nsIn K mainGlobals "deed_row" = some (some (.ref fK))) (lK : K.lookup fK = some ⟨ocK, odK, .func (PySem.W.fnOf "deed_row" "deed_row" (defArgs sDeedRow) (defBody sDeedRow) (defScope sDeedRow) .none kVK dcK pmK anK cdK ctK), slK⟩) (hK : PySem.W.codeIn K cdK "deed_row" = true) (kK : PySem.W.keepIn K (.ref fK) = true)
    {fM : Addr} {odM anM : Option Addr} {slM : Array (Option Value)} {ocM kVM dcM pmM ctM cdM : Value}
    (aM : PySem.W.nsIn K mainGlobals "face_text" = some (some (.ref fM))) (lM : K.lookup fM = some ⟨ocM, odM, .func (PySem.W.fnOf "face_text" "face_text" (defArgs sFaceText) (defBody sFaceText) (defScope sFaceText) .none kVM dcM pmM anM cdM ctM), slM⟩) (hM : PySem.W.codeIn K cdM "face_text" = true) (kM : PySem.W.keepIn K (.ref fM) = true)
    {fX : Addr} {odX anX : Option Addr} {slX : Array (Option Value)} {ocX kVX dcX pmX ctX cdX : Value}
    (aX : PySem.W.nsIn K mainGlobals "_law_mixed" = some (some (.ref fX))) (lX : K.lookup fX = some ⟨ocX, odX, .func (PySem.W.fnOf "_law_mixed" "_law_mixed" (defArgs sMixed) (defBody sMixed) (defScope sMixed) .none kVX dcX pmX anX cdX ctX), slX⟩) (hX : PySem.W.codeIn K cdX "_law_mixed" = true) (kX : PySem.W.keepIn K (.ref fX) = true)
    {fR : Addr} {odR anR : Option Addr} {slR : Array (Option Value)} {ocR kVR dcR pmR ctR cdR : Value}
    (aR : PySem.W.nsIn K mainGlobals "_law_draw" = some (some (.ref fR))) (lR : K.lookup fR = some ⟨ocR, odR, .func (PySem.W.fnOf "_law_draw" "_law_draw" (defArgs sDraw) (defBody sDraw) (defScope sDraw) .none kVR dcR pmR anR cdR ctR), slR⟩) (hR : PySem.W.codeIn K cdR "_law_draw" = true) (kR : PySem.W.keepIn K (.ref fR) = true)
    {fS : Addr} {odS anS : Option Addr} {slS : Array (Option Value)} {ocS kVS dcS pmS ctS cdS : Value}
    (aS : PySem.W.nsIn K mainGlobals "_law_digit" = some (some (.ref fS))) (lS : K.lookup fS = some ⟨ocS, odS, .func (PySem.W.fnOf "_law_digit" "_law_digit" (defArgs sDigit) (defBody sDigit) (defScope sDigit) .none kVS dcS pmS anS cdS ctS), slS⟩) (hS : PySem.W.codeIn K cdS "_law_digit" = true) (kS_ : PySem.W.keepIn K (.ref fS) = true)
    {fU : Addr} {odU anU : Option Addr} {slU : Array (Option Value)} {ocU kVU dcU pmU ctU cdU : Value}
    (aU : PySem.W.nsIn K mainGlobals "_law_names" = some (some (.ref fU))) (lU : K.lookup fU = some ⟨ocU, odU, .func (PySem.W.fnOf "_law_names" "_law_names" (defArgs sNames) (defBody sNames) (defScope sNames) .none kVU dcU pmU anU cdU ctU), slU⟩) (hU : PySem.W.codeIn K cdU "_law_names" = true) (kU : PySem.W.keepIn K (.ref fU) = true)
    {fW : Addr} {odW anW : Option Addr} {slW : Array (Option Value)} {ocW kVW dcW pmW ctW cdW : Value}
    (aW : PySem.W.nsIn K mainGlobals "_law_kind" = some (some (.ref fW))) (lW : K.lookup fW = some ⟨ocW, odW, .func (PySem.W.fnOf "_law_kind" "_law_kind" (defArgs sLKind) (defBody sLKind) (defScope sLKind) .none kVW dcW pmW anW cdW ctW), slW⟩) (hW : PySem.W.codeIn K cdW "_law_kind" = true) (kW : PySem.W.keepIn K (.ref fW) = true)
    {fY : Addr} {odY anY : Option Addr} {slY : Array (Option Value)} {ocY kVY dcY pmY ctY cdY : Value}
    (aY : PySem.W.nsIn K mainGlobals "_law_face" = some (some (.ref fY))) (lY : K.lookup fY = some ⟨ocY, odY, .func (PySem.W.fnOf "_law_face" "_law_face" (defArgs sFace) (defBody sFace) (defScope sFace) .none kVY dcY pmY anY cdY ctY), slY⟩) (hY : PySem.W.codeIn K cdY "_law_face" = true) (kY : PySem.W.keepIn K (.ref fY) = true)
    {fa8 : Addr} {oda8 ana8 : Option Addr} {sla8 : Array (Option Value)} {oca8 kVa8 dca8 pma8 cta8 cda8 : Value}
    (aa8 : PySem.W.nsIn K mainGlobals "_law_called" = some (some (.ref fa8))) (la8 : K.lookup fa8 = some ⟨oca8, oda8, .func (PySem.W.fnOf "_law_called" "_law_called" (defArgs sCalled) (defBody sCalled) (defScope sCalled) .none kVa8 dca8 pma8 ana8 cda8 cta8), sla8⟩) (ha8 : PySem.W.codeIn K cda8 "_law_called" = true) (ka8 : PySem.W.keepIn K (.ref fa8) = true)
    {fa9 : Addr} {oda9 ana9 : Option Addr} {sla9 : Array (Option Value)} {oca9 kVa9 dca9 pma9 cta9 cda9 : Value}
    (aa9 : PySem.W.nsIn K mainGlobals "_law_same" = some (some (.ref fa9))) (la9 : K.lookup fa9 = some ⟨oca9, oda9, .func (PySem.W.fnOf "_law_same" "_law_same" (defArgs sSame) (defBody sSame) (defScope sSame) .none kVa9 dca9 pma9 ana9 cda9 cta9), sla9⟩) (ha9 : PySem.W.codeIn K cda9 "_law_same" = true) (ka9 : PySem.W.keepIn K (.ref fa9) = true)
    {fL : Addr} {odL anL : Option Addr} {slL : Array (Option Value)} {ocL kVL dcL pmL ctL cdL : Value}
    (aL : PySem.W.nsIn K mainGlobals "law" = some (some (.ref fL))) (lL : K.lookup fL = some ⟨ocL, odL, .func (PySem.W.fnOf "law" "law" (defArgs sLaw) (defBody sLaw) (defScope sLaw) .none kVL dcL pmL anL cdL ctL), slL⟩) (hL : PySem.W.codeIn K cdL "law" = true) (kL : PySem.W.keepIn K (.ref fL) = true)
    {C : Addr} (aZ : PySem.W.nsIn K mainGlobals "Row" = some (some (.ref C)))
    {fv1 : Addr} {odv1 anv1 : Option Addr} {slv1 : Array (Option Value)} {ocv1 kVv1 dcv1 pmv1 ctv1 cdv1 : Value}
    (av1 : PySem.W.findIn K (.ref C) "__init__" = some (some (.ref fv1))) (iv1 : PySem.W.isFn K (.ref fv1) = true) (lv1 : K.lookup fv1 = some ⟨ocv1, odv1, .func (PySem.W.fnOf "__init__" "Row.__init__" (defArgs sInit) (defBody sInit) (defScope sInit) .none kVv1 dcv1 pmv1 anv1 cdv1 ctv1), slv1⟩) (hv1 : PySem.W.codeIn K cdv1 "Row.__init__" = true) (kv1 : PySem.W.keepIn K (.ref fv1) = true)
    {fv2 : Addr} {odv2 anv2 : Option Addr} {slv2 : Array (Option Value)} {ocv2 kVv2 dcv2 pmv2 ctv2 cdv2 : Value}
    (av2 : PySem.W.findIn K (.ref C) "seen" = some (some (.ref fv2))) (iv2 : PySem.W.isFn K (.ref fv2) = true) (lv2 : K.lookup fv2 = some ⟨ocv2, odv2, .func (PySem.W.fnOf "seen" "Row.seen" (defArgs sSeen) (defBody sSeen) (defScope sSeen) .none kVv2 dcv2 pmv2 anv2 cdv2 ctv2), slv2⟩) (hv2 : PySem.W.codeIn K cdv2 "Row.seen" = true) (kv2 : PySem.W.keepIn K (.ref fv2) = true)
    {fv3 : Addr} {odv3 anv3 : Option Addr} {slv3 : Array (Option Value)} {ocv3 kVv3 dcv3 pmv3 ctv3 cdv3 : Value}
    (av3 : PySem.W.findIn K (.ref C) "take" = some (some (.ref fv3))) (iv3 : PySem.W.isFn K (.ref fv3) = true) (lv3 : K.lookup fv3 = some ⟨ocv3, odv3, .func (PySem.W.fnOf "take" "Row.take" (defArgs sTake) (defBody sTake) (defScope sTake) .none kVv3 dcv3 pmv3 anv3 cdv3 ctv3), slv3⟩) (hv3 : PySem.W.codeIn K cdv3 "Row.take" = true) (kv3 : PySem.W.keepIn K (.ref fv3) = true)
    {fv4 : Addr} {odv4 anv4 : Option Addr} {slv4 : Array (Option Value)} {ocv4 kVv4 dcv4 pmv4 ctv4 cdv4 : Value}
    (av4 : PySem.W.findIn K (.ref C) "take_word" = some (some (.ref fv4))) (iv4 : PySem.W.isFn K (.ref fv4) = true) (lv4 : K.lookup fv4 = some ⟨ocv4, odv4, .func (PySem.W.fnOf "take_word" "Row.take_word" (defArgs sTakeW) (defBody sTakeW) (defScope sTakeW) .none kVv4 dcv4 pmv4 anv4 cdv4 ctv4), slv4⟩) (hv4 : PySem.W.codeIn K cdv4 "Row.take_word" = true) (kv4 : PySem.W.keepIn K (.ref fv4) = true)
    {fv5 : Addr} {odv5 anv5 : Option Addr} {slv5 : Array (Option Value)} {ocv5 kVv5 dcv5 pmv5 ctv5 cdv5 : Value}
    (av5 : PySem.W.findIn K (.ref C) "close" = some (some (.ref fv5))) (iv5 : PySem.W.isFn K (.ref fv5) = true) (lv5 : K.lookup fv5 = some ⟨ocv5, odv5, .func (PySem.W.fnOf "close" "Row.close" (defArgs sClose) (defBody sClose) (defScope sClose) .none kVv5 dcv5 pmv5 anv5 cdv5 ctv5), slv5⟩) (hv5 : PySem.W.codeIn K cdv5 "Row.close" = true) (kv5 : PySem.W.keepIn K (.ref fv5) = true)
    (pg : PySem.W.plainGet K C Str.empty = true)
    (hdC : PySem.W.hasDictIn K C = true)
    (po : PySem.W.plainOver K C = true)
    (sa : PySem.W.findIn K (.ref C) "__setattr__" = some (some (.builtin "object.__setattr__")))
    (mk : PySem.W.makesIn K C = true)
    (kc : PySem.W.keepIn K (.ref C) = true)
    (nN : PySem.W.findIn K (.ref C) "number" = some none)
    (nW : PySem.W.findIn K (.ref C) "words" = some none)
    (nA : PySem.W.findIn K (.ref C) "at" = some none)
    {cO : Addr} (nO : PySem.W.nsIn K mainGlobals "OutOfPlace" = some (some (.ref cO)))
    (ox : PySem.W.excIn K cO [.type "ValueError", .type "Exception", .type "BaseException", .type "object"] "ValueError.__new__" = true)
    (okO : PySem.W.keepIn K (.ref cO) = true)
    (es : PySem.W.subIn K (.ref cO) (.type "BaseException") = some true)
    (ot : PySem.W.typeIn K (.ref cO) = some (.type "type"))
    {t8 : Tok} (v8 : PySem.W.nsIn K mainGlobals "MOST_DEEDS" = some (some (.int 8 t8)))
    (z_isinstance : PySem.W.nsIn K mainGlobals "isinstance" = some none)
    (z_str : PySem.W.nsIn K mainGlobals "str" = some none)
    (z_int : PySem.W.nsIn K mainGlobals "int" = some none)
    (z_tuple : PySem.W.nsIn K mainGlobals "tuple" = some none)
    (z_len : PySem.W.nsIn K mainGlobals "len" = some none)
    (z_list : PySem.W.nsIn K mainGlobals "list" = some none)
    (z_enumerate : PySem.W.nsIn K mainGlobals "enumerate" = some none)
    (z_range : PySem.W.nsIn K mainGlobals "range" = some none)
    (z_sorted : PySem.W.nsIn K mainGlobals "sorted" = some none)
    (z_sum : PySem.W.nsIn K mainGlobals "sum" = some none)
    (z_min : PySem.W.nsIn K mainGlobals "min" = some none)
    (z_dict : PySem.W.nsIn K mainGlobals "dict" = some none) :
    LawG l w K CX0 8 63 "_law_script" mg fa h := by
  have e := hfa.symm.trans (PySem.W.mg_of X G aL)
  cases e
  have FA := fun_mk (st := sName) lA hA kA
  have bA := (FA).binds (ps := ["thing"]) fun _ _ _ _ _ _ us hl => match us, hl with | [_], _ => rfl
  have gA := PySem.W.mg_of X G aA
  have FB := fun_mk (st := sKind) lB hB kB
  have bB := (FB).binds (ps := ["thing", "hidden"]) fun _ _ _ _ _ _ us hl => match us, hl with | [_, _], _ => rfl
  have gB := PySem.W.mg_of X G aB
  have FC := fun_mk (st := sBadD) lC hC kC
  have bC := (FC).binds (ps := ["deeds", "hidden"]) fun _ _ _ _ _ _ us hl => match us, hl with | [_, _], _ => rfl
  have gC := PySem.W.mg_of X G aC
  have FD := fun_mk (st := sBadH) lD hD kD
  have bD := (FD).binds (ps := ["hidden"]) fun _ _ _ _ _ _ us hl => match us, hl with | [_], _ => rfl
  have gD := PySem.W.mg_of X G aD
  have FE := fun_mk (st := sFault) lE hE kE
  have bE := (FE).binds (ps := ["thing"]) fun _ _ _ _ _ _ us hl => match us, hl with | [_], _ => rfl
  have gE := PySem.W.mg_of X G aE
  have FN := fun_mk (st := sNeed) lN hN kN
  have bN := (FN).binds (ps := ["face"]) fun _ _ _ _ _ _ us hl => match us, hl with | [_], _ => rfl
  have gN := PySem.W.mg_of X G aN
  have Fa1 := fun_mk (st := sIsF) la1 ha1 ka1
  have ba1 := (Fa1).binds (ps := ["thing"]) fun _ _ _ _ _ _ us hl => match us, hl with | [_], _ => rfl
  have ga1 := PySem.W.mg_of X G aa1
  have Fa2 := fun_mk (st := sHidOf) la2 ha2 ka2
  have ba2 := (Fa2).binds (ps := ["face"]) fun _ _ _ _ _ _ us hl => match us, hl with | [_], _ => rfl
  have ga2 := PySem.W.mg_of X G aa2
  have Fa3 := fun_mk (st := sNamOf) la3 ha3 ka3
  have ba3 := (Fa3).binds (ps := ["face"]) fun _ _ _ _ _ _ us hl => match us, hl with | [_], _ => rfl
  have ga3 := PySem.W.mg_of X G aa3
  have Fa4 := fun_mk (st := sFind) la4 ha4 ka4
  have ba4 := (Fa4).binds (ps := ["face", "name"]) fun _ _ _ _ _ _ us hl => match us, hl with | [_, _], _ => rfl
  have ga4 := PySem.W.mg_of X G aa4
  have Fa5 := fun_mk (st := sDeedN) la5 ha5 ka5
  have ba5 := (Fa5).binds (ps := ["face", "name"]) fun _ _ _ _ _ _ us hl => match us, hl with | [_, _], _ => rfl
  have ga5 := PySem.W.mg_of X G aa5
  have Fa6 := fun_mk (st := sTakes) la6 ha6 ka6
  have ba6 := (Fa6).binds (ps := ["face", "name"]) fun _ _ _ _ _ _ us hl => match us, hl with | [_, _], _ => rfl
  have ga6 := PySem.W.mg_of X G aa6
  have Fa7 := fun_mk (st := sGives) la7 ha7 ka7
  have ba7 := (Fa7).binds (ps := ["face", "name"]) fun _ _ _ _ _ _ us hl => match us, hl with | [_, _], _ => rfl
  have ga7 := PySem.W.mg_of X G aa7
  have F1 := fun_mk (st := sNextN) l1 h1 k1
  have b1 := (F1).binds (ps := ["thing", "ahead"]) fun _ _ _ _ _ _ us hl => match us, hl with | [_, _], _ => rfl
  have g1 := PySem.W.mg_of X G a1
  have F2 := fun_mk (st := sFigs) l2 h2 k2
  have b2 := (F2).binds (ps := ["word", "most"]) fun _ _ _ _ _ _ us hl => match us, hl with | [_, _], _ => rfl
  have g2 := PySem.W.mg_of X G a2
  have F3 := fun_mk (st := sNum) l3 h3 k3
  have b3 := (F3).binds (ps := ["word"]) fun _ _ _ _ _ _ us hl => match us, hl with | [_], _ => rfl
  have g3 := PySem.W.mg_of X G a3
  have F4 := fun_mk (st := sKindBy) l4 h4 k4
  have b4 := (F4).binds (ps := ["word"]) fun _ _ _ _ _ _ us hl => match us, hl with | [_], _ => rfl
  have g4 := PySem.W.mg_of X G a4
  have F5 := fun_mk (st := sAreT) l5 h5 k5
  have b5 := (F5).binds (ps := ["thing", "hidden"]) fun _ _ _ _ _ _ us hl => match us, hl with | [_, _], _ => rfl
  have g5 := PySem.W.mg_of X G a5
  have F6 := fun_mk (st := sWords) l6 h6 k6
  have b6 := (F6).binds (ps := ["row"]) fun _ _ _ _ _ _ us hl => match us, hl with | [_], _ => rfl
  have g6 := PySem.W.mg_of X G a6
  have F7 := fun_mk (st := sRowsOf) l7 h7 k7
  have b7 := (F7).binds (ps := ["text"]) fun _ _ _ _ _ _ us hl => match us, hl with | [_], _ => rfl
  have g7 := PySem.W.mg_of X G a7
  have F8 := fun_mk (st := sNoMore) l8 h8 k8
  have b8 := (F8).binds (ps := ["rows", "most"]) fun _ _ _ _ _ _ us hl => match us, hl with | [_, _], _ => rfl
  have g8 := PySem.W.mg_of X G a8
  have F9 := fun_mk (st := sRowAt) l9 h9 k9
  have b9 := (F9).binds (ps := ["rows", "number"]) fun _ _ _ _ _ _ us hl => match us, hl with | [_, _], _ => rfl
  have g9 := PySem.W.mg_of X G a9
  have FG := fun_mk (st := sReadH) lG hG kG
  have bG := (FG).binds (ps := ["row"]) fun _ _ _ _ _ _ us hl => match us, hl with | [_], _ => rfl
  have gG := PySem.W.mg_of X G aG
  have FH := fun_mk (st := sReadT) lH hH kH
  have bH := (FH).binds (ps := ["row", "hidden"]) fun _ _ _ _ _ _ us hl => match us, hl with | [_, _], _ => rfl
  have gH := PySem.W.mg_of X G aH
  have FI := fun_mk (st := sReadD) lI hI kI
  have bI := (FI).binds (ps := ["row", "hidden", "ahead"]) fun _ _ _ _ _ _ us hl => match us, hl with | [_, _, _], _ => rfl
  have gI := PySem.W.mg_of X G aI
  have FRB := fun_mk (st := sReadFB) lRB hRB kRB
  have bRB := (FRB).binds (ps := ["rows", "ahead"]) fun _ _ _ _ _ _ us hl => match us, hl with | [_, _], _ => rfl
  have gRB := PySem.W.mg_of X G aRB
  have FRW := fun_mk (st := sFaceRows) lRW hRW kRW
  have bRW := (FRW).binds (ps := ["face"]) fun _ _ _ _ _ _ us hl => match us, hl with | [_], _ => rfl
  have gRW := PySem.W.mg_of X G aRW
  have FJ := fun_mk (st := sReadF) lJ hJ kJ
  have bJ := (FJ).binds (ps := ["text"]) fun _ _ _ _ _ _ us hl => match us, hl with | [_], _ => rfl
  have gJ := PySem.W.mg_of X G aJ
  have FK := fun_mk (st := sDeedRow) lK hK kK
  have bK := (FK).binds (ps := ["deed"]) fun _ _ _ _ _ _ us hl => match us, hl with | [_], _ => rfl
  have gK := PySem.W.mg_of X G aK
  have FM := fun_mk (st := sFaceText) lM hM kM
  have bM := (FM).binds (ps := ["face"]) fun _ _ _ _ _ _ us hl => match us, hl with | [_], _ => rfl
  have gM := PySem.W.mg_of X G aM
  have FX := fun_mk (st := sMixed) lX hX kX
  have bX := (FX).binds (ps := ["_law_cell", "_law_k"]) fun _ _ _ _ _ _ us hl => match us, hl with | [_, _], _ => rfl
  have gX := PySem.W.mg_of X G aX
  have FR := fun_mk (st := sDraw) lR hR kR
  have bR := (FR).binds (ps := ["_law_cell", "_law_k"]) fun _ _ _ _ _ _ us hl => match us, hl with | [_, _], _ => rfl
  have gR := PySem.W.mg_of X G aR
  have FS := fun_mk (st := sDigit) lS hS kS_
  have bS := (FS).binds (ps := ["_law_state", "_law_many"]) fun _ _ _ _ _ _ us hl => match us, hl with | [_, _], _ => rfl
  have gS := PySem.W.mg_of X G aS
  have FU := fun_mk (st := sNames) lU hU kU
  have bU := (FU).binds (ps := ["_law_state", "_law_many"]) fun _ _ _ _ _ _ us hl => match us, hl with | [_, _], _ => rfl
  have gU := PySem.W.mg_of X G aU
  have FW := fun_mk (st := sLKind) lW hW kW
  have bW := (FW).binds (ps := ["_law_state", "_law_hidden"]) fun _ _ _ _ _ _ us hl => match us, hl with | [_, _], _ => rfl
  have gW := PySem.W.mg_of X G aW
  have FY := fun_mk (st := sFace) lY hY kY
  have bY := (FY).binds (ps := ["_law_state", "_law_most"]) fun _ _ _ _ _ _ us hl => match us, hl with | [_, _], _ => rfl
  have gY := PySem.W.mg_of X G aY
  have Fa8 := fun_mk (st := sCalled) la8 ha8 ka8
  have ba8 := (Fa8).binds (ps := ["_law_face_here", "_law_words", "_law_kinds"]) fun _ _ _ _ _ _ us hl => match us, hl with | [_, _, _], _ => rfl
  have ga8 := PySem.W.mg_of X G aa8
  have Fa9 := fun_mk (st := sSame) la9 ha9 ka9
  have ba9 := (Fa9).binds (ps := ["_law_face_here", "_law_other", "_law_words", "_law_kinds"]) fun _ _ _ _ _ _ us hl => match us, hl with | [_, _, _, _], _ => rfl
  have ga9 := PySem.W.mg_of X G aa9
  have FL := fun_mk (st := sLaw) lL hL kL
  have bL := (FL).binds (ps := ["_law_script"]) fun _ _ _ _ _ _ us hl => match us, hl with | [_], _ => rfl
  have gL := PySem.W.mg_of X G aL
  have Fv1 := fun_mk (st := sInit) lv1 hv1 kv1
  have bv1 := (Fv1).binds (ps := ["self", "number", "text"]) fun _ _ _ _ _ _ us hl => match us, hl with | [_, _, _], _ => rfl
  have Fv2 := fun_mk (st := sSeen) lv2 hv2 kv2
  have bv2 := (Fv2).binds (ps := ["self"]) fun _ _ _ _ _ _ us hl => match us, hl with | [_], _ => rfl
  have Fv3 := fun_mk (st := sTake) lv3 hv3 kv3
  have bv3 := (Fv3).binds (ps := ["self", "stands"]) fun _ _ _ _ _ _ us hl => match us, hl with | [_, _], _ => rfl
  have Fv4 := fun_mk (st := sTakeW) lv4 hv4 kv4
  have bv4 := (Fv4).binds (ps := ["self", "word"]) fun _ _ _ _ _ _ us hl => match us, hl with | [_, _], _ => rfl
  have Fv5 := fun_mk (st := sClose) lv5 hv5 kv5
  have bv5 := (Fv5).binds (ps := ["self"]) fun _ _ _ _ _ _ us hl => match us, hl with | [_], _ => rfl
  have m_isinstance := PySem.W.mg_none_of X G z_isinstance
  have m_str := PySem.W.mg_none_of X G z_str
  have m_int := PySem.W.mg_none_of X G z_int
  have m_tuple := PySem.W.mg_none_of X G z_tuple
  have m_len := PySem.W.mg_none_of X G z_len
  have m_list := PySem.W.mg_none_of X G z_list
  have m_enumerate := PySem.W.mg_none_of X G z_enumerate
  have m_range := PySem.W.mg_none_of X G z_range
  have m_sorted := PySem.W.mg_none_of X G z_sorted
  have m_sum := PySem.W.mg_none_of X G z_sum
  have m_min := PySem.W.mg_none_of X G z_min
  have m_dict := PySem.W.mg_none_of X G z_dict
  have m8 := PySem.W.mg_of X G v8
  have OP : Oop K mg cO := ⟨PySem.W.mg_of X G nO, ox, okO, es, ot⟩
  have RC : RowC K mg C := ⟨⟨pg, hdC, po, sa⟩, nN, nW, nA, PySem.W.mg_of X G aZ⟩
  refine ⟨PySem.W.fnOf "law" "law" (defArgs sLaw) (defBody sLaw) (defScope sLaw) .none kVL dcL pmL anL cdL ctL, [], spLaw K, ?_, ?_, ?_, fun s v => .of_eq rfl, ?_, ?_⟩
  · intro p hp
    cases hp
  · intro p hp
    cases hp
  · intro p hp
    cases hp
  · intro H a ns hl hH hS
    exact ⟨a, ns, rfl, hS, hl, fun _ => rfl⟩
  · intro base KB NB TB
    have OA : FnOk l.prog w K mg base CX0 1 fA _ ["thing"] spName := ok_name FA m_isinstance m_str m_len
    have OB : FnOk l.prog w K mg base CX0 1 fB _ ["thing", "hidden"] (spKind K) := ok_kind FB m_isinstance m_str m_int
    have OD := ok_badH (P := l.prog) (w := w) (base := base) (k := 0) FD ⟨OA, gA, kA, bA⟩ m_enumerate
    have OC := ok_badD (P := l.prog) (w := w) (base := base) (k := 0) FC ⟨OB, gB, kB, bB⟩ m_enumerate m_isinstance m_str m_int m_tuple m_len
    have OE := ok_fault (P := l.prog) (w := w) (base := base) (k := 0) FE ⟨OD, gD, kD, bD⟩ ⟨OC, gC, kC, bC⟩ m_isinstance m_tuple m_len m8
    have ON := ok_need (P := l.prog) (w := w) (base := base) (k := 0) FN ⟨OE, gE, kE, bE⟩
    have O1 := ok_nextN (P := l.prog) (w := w) (base := base) (k := 0) F1 ⟨OA, gA, kA, bA⟩
    have O2 := ok_figs (P := l.prog) (w := w) (base := base) (k := 0) F2 m_isinstance m_str m_len m_int
    have O3 := ok_num (P := l.prog) (w := w) (base := base) (k := 0) F3 ⟨O2, g2, k2, b2⟩
    have O4 := ok_kindBy (P := l.prog) (w := w) (base := base) (k := 0) F4 ⟨O3, g3, k3, b3⟩
    have O5 := ok_areT (P := l.prog) (w := w) (base := base) (k := 0) F5 ⟨OC, gC, kC, bC⟩
    have O6 := ok_words (P := l.prog) (w := w) (base := base) (k := 0) F6 m_isinstance m_str
    have O7 := ok_rowsOf (P := l.prog) (w := w) (base := base) (k := 0) F7 m_isinstance m_str
    have O8 := ok_noMore (P := l.prog) (w := w) (base := base) (k := 0) F8 m_len
    have Ov1 := ok_init (P := l.prog) (w := w) (base := base) (k := 0) Fv1 RC ⟨O6, g6, k6, b6⟩
    have Ov2 := ok_seen (P := l.prog) (w := w) (base := base) (k := 0) Fv2 RC
    have Ov3 := ok_take (P := l.prog) (w := w) (base := base) (k := 0) Fv3 RC
    have Ov4 := ok_takeW (P := l.prog) (w := w) (base := base) (k := 0) Fv4 RC ⟨Ov2, ⟨av2, iv2, kv2⟩, bv2⟩ ⟨Ov3, ⟨av3, iv3, kv3⟩, bv3⟩
    have Ov5 := ok_close (P := l.prog) (w := w) (base := base) (k := 0) Fv5 RC ⟨Ov2, ⟨av2, iv2, kv2⟩, bv2⟩
    have O9 := ok_rowAt (P := l.prog) (w := w) (base := base) (k := 0) F9 RC ⟨mk, av1, iv1, kc⟩ Ov1 bv1 m_len
    have ZR : ∀ k, 2 ≤ k → Rws l.prog w K mg base C k fv2 fv3 fv4 fv5 _ _ _ _ := fun k hk => ⟨RC, ⟨Ov2.mono (by omega), ⟨av2, iv2, kv2⟩, bv2⟩, ⟨Ov3.mono (by omega), ⟨av3, iv3, kv3⟩, bv3⟩, ⟨Ov4.mono hk, ⟨av4, iv4, kv4⟩, bv4⟩, ⟨Ov5.mono hk, ⟨av5, iv5, kv5⟩, bv5⟩⟩
    have OG := ok_readH (P := l.prog) (w := w) (base := base) (k := 2) FG (ZR 2 (by decide)) ⟨O1, g1, k1, b1⟩ m_tuple
    have OH := ok_readT (P := l.prog) (w := w) (base := base) (k := 3) FH (ZR 3 (by decide)) ⟨O4, g4, k4, b4⟩ ⟨O5, g5, k5, b5⟩
    have OI := ok_readD (P := l.prog) (w := w) (base := base) (k := 4) FI (ZR 4 (by decide)) ⟨O1.mono (by decide), g1, k1, b1⟩ ⟨OH, gH, kH, bH⟩ ⟨O4.mono (by decide), g4, k4, b4⟩ ⟨OB.mono (by decide), gB, kB, bB⟩
    have ORB := ok_readFB (P := l.prog) (w := w) (base := base) (k := 5) FRB ⟨O9.mono (by decide), g9, k9, b9⟩ ⟨OG.mono (by decide), gG, kG, bG⟩ ⟨OI, gI, kI, bI⟩ ⟨O8.mono (by decide), g8, k8, b8⟩ m_range m_min m_len m_tuple m8
    have OJ := ok_readF (P := l.prog) (w := w) (base := base) (k := 6) FJ ⟨O7.mono (by decide), g7, k7, b7⟩ ⟨ORB, gRB, kRB, bRB⟩
    have OK := ok_deedRow (P := l.prog) (w := w) (base := base) (k := 0) FK m_str
    have ORW := ok_faceRows (P := l.prog) (w := w) (base := base) (k := 3) FRW ⟨OK.mono (by decide), gK, kK, bK⟩
    have OM := ok_faceText (P := l.prog) (w := w) (base := base) (k := 4) FM ⟨ON, gN, kN, bN⟩ ⟨ORW, gRW, kRW, bRW⟩
    have OR := ok_draw (P := l.prog) (w := w) (base := base) FR FX bX gX
    have OS := ok_digit (P := l.prog) (w := w) (base := base) FS FX bX gX m_range
    have OU := ok_names (P := l.prog) (w := w) (base := base) (k := 0) FU ⟨OS, gS, kS_, bS⟩ m_range m_len m_sorted
    have OW := ok_lkind (P := l.prog) (w := w) (base := base) (k := 0) FW ⟨OS, gS, kS_, bS⟩ m_len m_list
    have OY := ok_face (P := l.prog) (w := w) (base := base) (k := 0) FY ⟨OS.mono (by decide), gS, kS_, bS⟩ ⟨OU, gU, kU, bU⟩ ⟨OW, gW, kW, bW⟩ m_range m_len m_tuple
    have Oa1 := ok_isF (P := l.prog) (w := w) (base := base) (k := 0) Fa1 ⟨OE, gE, kE, bE⟩
    have Oa2 := ok_hidOf (P := l.prog) (w := w) (base := base) (k := 0) Fa2 ⟨ON, gN, kN, bN⟩ m_list
    have Oa3 := ok_namOf (P := l.prog) (w := w) (base := base) (k := 0) Fa3 ⟨ON, gN, kN, bN⟩
    have Oa4 : FnOk l.prog w K mg base CX0 1 fa4 _ ["face", "name"] (spFind K) := ok_find Fa4 m_isinstance m_str m_enumerate
    have Oa5 := ok_deedN (P := l.prog) (w := w) (base := base) (k := 0) Fa5 ⟨Oa4, ga4, ka4, ba4⟩ OP
    have Oa6 := ok_takes (P := l.prog) (w := w) (base := base) (k := 0) Fa6 ⟨ON, gN, kN, bN⟩ (Oa5.mono (by decide)) ga5 ka5 ba5
    have Oa7 := ok_gives (P := l.prog) (w := w) (base := base) (k := 0) Fa7 ⟨ON, gN, kN, bN⟩ (Oa5.mono (by decide)) ga5 ka5 ba5
    have Oa8 := ok_called (P := l.prog) (w := w) (base := base) (k := 0) Fa8 m_tuple m_sorted
    have Oa9 := ok_same (P := l.prog) (w := w) (base := base) (k := 6) Fa9 ⟨Oa2.mono (by decide), ga2, ka2, ba2⟩ ⟨Oa3.mono (by decide), ga3, ka3, ba3⟩ ⟨Oa6.mono (by decide), ga6, ka6, ba6⟩ ⟨Oa7.mono (by decide), ga7, ka7, ba7⟩ m_tuple m_sorted
    exact ok_law FL ⟨⟨OR.mono (by decide), gR, kR, bR⟩, ⟨OS.mono (by decide), gS, kS_, bS⟩, ⟨OY.mono (by decide), gY, kY, bY⟩, ⟨Oa8.mono (by decide), ga8, ka8, ba8⟩, ⟨Oa1.mono (by decide), ga1, ka1, ba1⟩, ⟨Oa9, ga9, ka9, ba9⟩, ⟨OM.mono (by decide), gM, kM, bM⟩, ⟨OJ.mono (by decide), gJ, kJ, bJ⟩, m_enumerate, m_sum, m_dict⟩
end SfC
open PySem PySem.W PyProof.Rows
set_option maxRecDepth 100000 in
set_option maxHeartbeats 0 in
theorem PySem.Challenge.cw_sameface_k07_whole_called_otherwise_holds : PySem.Challenge.rw_sameface_k07_whole_called_otherwise.Holds := by
  w_on; o_law; k_head; (case hw => w_witness2)
  k_fill
  refine SfG.walk_G (l := PySem.Challenge.rw_sameface_k07_whole_called_otherwise) (n := 63) (k := 8) (x := "_law_script") (CX := fun _ => L2.CX0) rfl (by decide) rfl ⟨rfl, by decide, by decide⟩ (fun w h Y => PySem.W.kIn_of Y) ?F (fun _ _ _ _ _ h => h)
  case F =>
    intro w mg fa h KX G hmg T
    refine' SfC.all_mk KX G hmg ?aA ?lA ?hA ?kA ?aB ?lB ?hB ?kB ?aC ?lC ?hC ?kC ?aD ?lD ?hD ?kD ?aE ?lE ?hE ?kE ?aN ?lN ?hN ?kN ?aa1 ?la1 ?ha1 ?ka1 ?aa2 ?la2 ?ha2 ?ka2 ?aa3 ?la3 ?ha3 ?ka3 ?aa4 ?la4 ?ha4 ?ka4 ?aa5 ?la5 ?ha5 ?ka5 ?aa6 ?la6 ?ha6 ?ka6 ?aa7 ?la7 ?ha7 ?ka7 ?a1 ?l1 ?h1 ?k1 ?a2 ?l2 ?h2 ?k2 ?a3 ?l3 ?h3 ?k3 ?a4 ?l4 ?h4 ?k4 ?a5 ?l5 ?h5 ?k5 ?a6 ?l6 ?h6 ?k6 ?a7 ?l7 ?h7 ?k7 ?a8 ?l8 ?h8 ?k8 ?a9 ?l9 ?h9 ?k9 ?aG ?lG ?hG ?kG ?aH ?lH ?hH ?kH ?aI ?lI ?hI ?kI ?aRB ?lRB ?hRB ?kRB ?aRW ?lRW ?hRW ?kRW ?aJ ?lJ ?hJ ?kJ ?aK ?lK ?hK ?kK ?aM ?lM ?hM ?kM ?aX ?lX ?hX ?kX ?aR ?lR ?hR ?kR ?aS ?lS ?hS ?kS_ ?aU ?lU ?hU ?kU ?aW ?lW ?hW ?kW ?aY ?lY ?hY ?kY ?aa8 ?la8 ?ha8 ?ka8 ?aa9 ?la9 ?ha9 ?ka9 ?aL ?lL ?hL ?kL ?aZ ?av1 ?iv1 ?lv1 ?hv1 ?kv1 ?av2 ?iv2 ?lv2 ?hv2 ?kv2 ?av3 ?iv3 ?lv3 ?hv3 ?kv3 ?av4 ?iv4 ?lv4 ?hv4 ?kv4 ?av5 ?iv5 ?lv5 ?hv5 ?kv5 ?pg ?hdC ?po ?sa ?mk ?kc ?nN ?nW ?nA ?nO ?ox ?okO ?es ?ot ?v8 ?z_isinstance ?z_str ?z_int ?z_tuple ?z_len ?z_list ?z_enumerate ?z_range ?z_sorted ?z_sum ?z_min ?z_dict
    (case aA => k_is)
    (case lA => k_is)
    (case hA => k_is)
    (case kA => k_is)
    (case aB => k_is)
    (case lB => k_is)
    (case hB => k_is)
    (case kB => k_is)
    (case aC => k_is)
    (case lC => k_is)
    (case hC => k_is)
    (case kC => k_is)
    (case aD => k_is)
    (case lD => k_is)
    (case hD => k_is)
    (case kD => k_is)
    (case aE => k_is)
    (case lE => k_is)
    (case hE => k_is)
    (case kE => k_is)
    (case aN => k_is)
    (case lN => k_is)
    (case hN => k_is)
    (case kN => k_is)
    (case aa1 => k_is)
    (case la1 => k_is)
    (case ha1 => k_is)
    (case ka1 => k_is)
    (case aa2 => k_is)
    (case la2 => k_is)
    (case ha2 => k_is)
    (case ka2 => k_is)
    (case aa3 => k_is)
    (case la3 => k_is)
    (case ha3 => k_is)
    (case ka3 => k_is)
    (case aa4 => k_is)
    (case la4 => k_is)
    (case ha4 => k_is)
    (case ka4 => k_is)
    (case aa5 => k_is)
    (case la5 => k_is)
    (case ha5 => k_is)
    (case ka5 => k_is)
    (case aa6 => k_is)
    (case la6 => k_is)
    (case ha6 => k_is)
    (case ka6 => k_is)
    (case aa7 => k_is)
    (case la7 => k_is)
    (case ha7 => k_is)
    (case ka7 => k_is)
    (case a1 => k_is)
    (case l1 => k_is)
    (case h1 => k_is)
    (case k1 => k_is)
    (case a2 => k_is)
    (case l2 => k_is)
    (case h2 => k_is)
    (case k2 => k_is)
    (case a3 => k_is)
    (case l3 => k_is)
    (case h3 => k_is)
    (case k3 => k_is)
    (case a4 => k_is)
    (case l4 => k_is)
    (case h4 => k_is)
    (case k4 => k_is)
    (case a5 => k_is)
    (case l5 => k_is)
    (case h5 => k_is)
    (case k5 => k_is)
    (case a6 => k_is)
    (case l6 => k_is)
    (case h6 => k_is)
    (case k6 => k_is)
    (case a7 => k_is)
    (case l7 => k_is)
    (case h7 => k_is)
    (case k7 => k_is)
    (case a8 => k_is)
    (case l8 => k_is)
    (case h8 => k_is)
    (case k8 => k_is)
    (case a9 => k_is)
    (case l9 => k_is)
    (case h9 => k_is)
    (case k9 => k_is)
    (case aG => k_is)
    (case lG => k_is)
    (case hG => k_is)
    (case kG => k_is)
    (case aH => k_is)
    (case lH => k_is)
    (case hH => k_is)
    (case kH => k_is)
    (case aI => k_is)
    (case lI => k_is)
    (case hI => k_is)
    (case kI => k_is)
    (case aRB => k_is)
    (case lRB => k_is)
    (case hRB => k_is)
    (case kRB => k_is)
    (case aRW => k_is)
    (case lRW => k_is)
    (case hRW => k_is)
    (case kRW => k_is)
    (case aJ => k_is)
    (case lJ => k_is)
    (case hJ => k_is)
    (case kJ => k_is)
    (case aK => k_is)
    (case lK => k_is)
    (case hK => k_is)
    (case kK => k_is)
    (case aM => k_is)
    (case lM => k_is)
    (case hM => k_is)
    (case kM => k_is)
    (case aX => k_is)
    (case lX => k_is)
    (case hX => k_is)
    (case kX => k_is)
    (case aR => k_is)
    (case lR => k_is)
    (case hR => k_is)
    (case kR => k_is)
    (case aS => k_is)
    (case lS => k_is)
    (case hS => k_is)
    (case kS_ => k_is)
    (case aU => k_is)
    (case lU => k_is)
    (case hU => k_is)
    (case kU => k_is)
    (case aW => k_is)
    (case lW => k_is)
    (case hW => k_is)
    (case kW => k_is)
    (case aY => k_is)
    (case lY => k_is)
    (case hY => k_is)
    (case kY => k_is)
    (case aa8 => k_is)
    (case la8 => k_is)
    (case ha8 => k_is)
    (case ka8 => k_is)
    (case aa9 => k_is)
    (case la9 => k_is)
    (case ha9 => k_is)
    (case ka9 => k_is)
    (case aL => k_is)
    (case lL => k_is)
    (case hL => k_is)
    (case kL => k_is)
    (case aZ => k_is)
    (case av1 => k_is)
    (case iv1 => k_is)
    (case lv1 => k_is)
    (case hv1 => k_is)
    (case kv1 => k_is)
    (case av2 => k_is)
    (case iv2 => k_is)
    (case lv2 => k_is)
    (case hv2 => k_is)
    (case kv2 => k_is)
    (case av3 => k_is)
    (case iv3 => k_is)
    (case lv3 => k_is)
    (case hv3 => k_is)
    (case kv3 => k_is)
    (case av4 => k_is)
    (case iv4 => k_is)
    (case lv4 => k_is)
    (case hv4 => k_is)
    (case kv4 => k_is)
    (case av5 => k_is)
    (case iv5 => k_is)
    (case lv5 => k_is)
    (case hv5 => k_is)
    (case kv5 => k_is)
    (case pg => k_is)
    (case hdC => k_is)
    (case po => k_is)
    (case sa => k_is)
    (case mk => k_is)
    (case kc => k_is)
    (case nN => k_is)
    (case nW => k_is)
    (case nA => k_is)
    (case nO => k_is)
    (case ox => k_exc)
    (case okO => first | k_is | decide +kernel | exact rfl)
    (case es => first | k_is | decide +kernel | exact rfl)
    (case ot => first | k_is | decide +kernel | exact rfl)
    (case v8 => k_is)
    (case z_isinstance => k_is)
    (case z_str => k_is)
    (case z_int => k_is)
    (case z_tuple => k_is)
    (case z_len => k_is)
    (case z_list => k_is)
    (case z_enumerate => k_is)
    (case z_range => k_is)
    (case z_sorted => k_is)
    (case z_sum => k_is)
    (case z_min => k_is)
    (case z_dict => k_is)
