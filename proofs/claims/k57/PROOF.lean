import PyProof.Rows.All
import Wide.All
import OpenK.AllK
import Wide.FinOn
import HandS.ForMost
import HandS.Walk
import HandS.Wide
import HandS.IsInst
import HandS.AnyAll
import HandS.Replace
import HandS.EndTab
import HandS.RaiseMore
import HandS.TupLe
import PyProof.ReprRoads
import PyProof.StrOps2
import HandS.TupAny
import HandS.StrMore
import HandS.Style
import HandS.ForExc
import HandS.ExcIs
import HandS.ExcValue
import KE.GoesEnum
import KE.GoesMore
import PyProof.DictUpdate
import PyProof.ListIndex
import PyProof.FactsAll.bool_1
import PyProof.StrLawsRepr
import HandS.Flow
import PySem.Challenge.RW_sameface_k57_rows_by_their_form
set_option Elab.async false
set_option linter.all false
set_option maxRecDepth 100000
/-! calls made where no repr is under way; repr of lists; all(..) over a text with a module's name in its test; the law's end -/
namespace SfG
open PySem PySem.Spec PyProof.Rows L2
/-! ### a def's promise where no repr is under way -/
structure FnG (P : Program) (w : World) (K : PySem.W.Frag) (mg : Str → Option Value) (base : Heap)
    (CX : CXT) (k : Nat) (f : Addr) (fd : FuncData) (ps : List Str) (sp : Sp) : Prop where
  size : ∀ vs H Q E, sp vs H Q E → vs.length = ps.length
  goes : ∀ (A : Around) (outer : List Env) (s : Shared) (H : Hp) (args : Args) (us : List Value)
    (vs : List V) (Q : VK) (E : XK), Room k A → A.guards = some [] → Env0 P w K mg base A outer s H →
    BindsTo s fd args (ps.zip us) → Vals vs us → sp vs H Q E →
    codeAny (model P w) A (.call (.ref f) args) (CR CX outer P w H s Q E) s
section
variable {P : Program} {w : World} {K : PySem.W.Frag} {mg : Str → Option Value} {base : Heap}
/-- a def by its body, where no repr is under way -/
theorem fng_of {x qual : Str} {st : Stmt} {f : Addr} {fd : FuncData} {N ps : List Str} {k : Nat} {sp : Sp}
    (F : Fun K x qual st f fd) (S : FnScope N ps (defScope st)) (len : ∀ vs H Q E, sp vs H Q E → vs.length = ps.length)
    (hbody : ∀ (cdv : Value) (A : Around) (outer : List Env) (s : Shared) (H : Hp) (vs : List V) (Q : VK) (E : XK),
      Room k (A.deeper (envOfC qual (defScope st) s.heap.objs.size f cdv)) → A.guards = some [] → sp vs H Q E →
      ∃ t, PSs (cxOf CX0 P w K mg base N qual (defScope st) f cdv A outer s H E).nox (defBody st) t ∧
        t { nx := fun _ H' => Q .non H', rt := Q } (start N vs) H) :
    FnG P w K mg base CX0 (k + 1) f fd ps sp := by
  obtain ⟨oc, od, kV, doc, pm, an, cdv, ct, osl, rfl, lk, hcd⟩ := F.ex
  refine ⟨len, ?_⟩
  intro A outer s H args us vs Q E hr hgd e0 hb r hsp
  refine LamX.run_ofS lk hcd S hr e0 hb r (len _ _ _ _ hsp) ?_
  intro hr'
  obtain ⟨t, h, q⟩ := hbody cdv A outer s H vs Q E hr' hgd hsp
  exact ⟨t, h.nox, q⟩
end
section
variable {X : Cx} {CX : CXT} {k : Nat} {f : Addr} {fd : FuncData} {ps : List Str} {sp : Sp} {dvs : List V}
  {ds : List Value} {E : XK} {x : Str} {p pos : Pos} {e : Expr} {es : List Expr} {t : TA}
theorem run_fng {pins : List (Addr × Obj)} {σ : L2.St} {H : Hp} {s : Shared} {Q : VK} {us : List Value} {vs : List V}
    (F : FnG X.prog X.w X.K X.mg X.base CX k f fd ps sp) (hr : Room k X.A) (hgd : X.A.guards = some [])
    (hb : Binds X.K fd ps ds) (hd : Vals dvs ds) (hx : Passes CX X E) (I : L2.Inv X pins σ H s) (r : Vals vs us)
    (h : sp (vs ++ dvs) H Q E) : wpAny (model X.prog X.w) X.A (call (.ref f) us) (EP X pins σ Q) X.xe s := by
  have r2 := r.append hd
  have hl : (us ++ ds).length = ps.length := r2.length.symm.trans (F.size _ _ _ _ h)
  have go := F.goes X.A X.stack s H ⟨us, []⟩ _ _ Q E hr hgd I.env0 (hb s us I.kIn hl) r2 h
  refine wpAny_call (codeAny_mono go ?_)
  intro res s' hq
  match res, hq with
  | .error e, hq => exact hx pins σ H s e s' I hq
  | .ok (.ret u), hq => exact I.after hq
  | .ok .next, hq => exact False.elim hq
  | .ok .brk, hq => exact False.elim hq
  | .ok .cont, hq => exact False.elim hq
theorem pe_callG (F : FnG X.prog X.w X.K X.mg X.base CX k f fd ps sp) (hr : Room k X.A) (hgd : X.A.guards = some [])
    (hg : Gl X x) (hm : X.mg x = some (.ref f)) (hk : PySem.W.keepIn X.K (.ref f) = true)
    (hb : Binds X.K fd ps ds) (hd : Vals dvs ds) (hx : Passes CX X E) (ha : PA X (e :: es) t)
    (hdb : (x == ("__debug__" : Str)) = false := by decide)
    (he : starEach (e :: es) X.env = (false, eval e X.env) :: starEach es X.env := by rfl)
    (hpl : (backTo pos (starEach es X.env)).any (·.1) = false := by rfl) :
    PE X (.Call (.Name x p) (e :: es) [] pos) (tCall sp dvs E t) := by
  constructor
  intro pins s σ H Q I h
  refine wpAny_Call_Name_kw (ld_glob I hg hm ?_ hdb)
  refine PySem.W.callWith_K (h₀ := X.base) I.ok.mod.kin hk ?_ he hpl
  refine thn (ha.run pos pins s σ H _ I h) ?_
  rintro us s1 ⟨vs, H1, I1, r, q⟩
  exact ⟨I1.kIn, run_fng F hr hgd hb hd hx I1 r q⟩
end
/-! ### repr of a list or a tuple of plain data -/
def rRepr (K : PySem.W.Frag) : List V → Hp → VK → Prop := fun xs H Q =>
  ∃ (a : Addr) (d : PyData) (S : Str), xs = [.ref a] ∧ Dp K H (.ref a) d ∧ d.showable = true ∧ d.hasDict = false ∧
    d.depth ≤ 30 ∧ d.shown = S ∧ S.length ≤ sizeLine ∧ Q (.str S) H
theorem call_repr {X : Cx} {k : Nat} (hr : Room k X.A) (hgd : X.A.guards = some []) :
    CallR X (.builtin "repr") (rRepr X.K) := by
  intro pins s σ H xs us Q I r h
  obtain ⟨a, d, S, rfl, hd, hs, hn, hdep, rfl, hz, q⟩ := h
  obtain ⟨u, rfl, ru⟩ := vals1 r
  cases (show u = Value.ref a from ru)
  obtain ⟨as, rd⟩ := Dp.reads I d _ _ hd (show RelV (.ref a) (.ref a) from rfl)
  have hun := hr.un
  refine repr_of_reads' rd hs (fun z => ?_) hgd (by omega) (fun _ _ z => z) (fun h' u' tk hk => ?_) hz
  · rw [hn] at z
    cases z
  · exact ⟨.str d.shown, H, I.kept hk, ⟨_, rfl⟩, q⟩
/-! ### all(test for x in e), e a text, the test may name what the module holds -/
/-- the test of one sign, run in the expression's own frame; the module's names are to be had -/
def EltG (X : Cx) (scope : Scope) (x : Str) (elt : Expr) (pb : Nat → Bool) : Prop :=
  ∀ (cenv : Env) (A' : Around) (E' : Value → Shared → Prop) (c : Nat) (t : Tok) (s2 : Shared) (m2 : Str → Option Value),
    cenv.scope = scope → cenv.globals = mainGlobals → s2.heap.Ns mainGlobals X.mg → s2.heap.Ns cenv.locals m2 →
    m2 x = some (.str ⟨#[c]⟩ t) →
    wpAny (model X.prog X.w) A' (eval elt cenv) (fun y s3 => y = .bool (pb c) ∧ Keeps s2 s3) E' s2
/-- x in NAME, NAME a text of the module -/
theorem elt_in {X : Cx} {scope : Scope} {x g : Str} {z : Str} {tz : Tok} {p1 p2 p3 : Pos} (hk : scope.kind = .function)
    (hl : scope.names.lookup x = some .local) (hgl : scope.names.lookup g = some .globalImplicit) (hz : X.mg g = some (.str z tz))
    (hd : (x == ("__debug__" : Str)) = false := by decide) (hd2 : (g == ("__debug__" : Str)) = false := by decide) :
    EltG X scope x (.Compare (.Name x p1) [.In] [.Name g p2] p3) (fun c => decide (c ∈ z.cps.toList)) := by
  intro cenv A' E' c t s2 m2 hs hgb hmn hn hm
  have kd : cenv.scope.kind = .function := by rw [hs]; exact hk
  refine wpAny_Compare1 ?_
  refine wpAny_Name (wpAny_loadName_local kd (show cenv.scope.names.lookup x = some .local by rw [hs]; exact hl) hn hm ?_) hd
  refine Calls.Name_function_global kd (show cenv.scope.names.lookup g = some .globalImplicit by rw [hs]; exact hgl) ?_ hd2
  refine Calls.loadGlobal_global (by rw [hgb]; exact hmn) hz ?_
  refine PyProof.Rows.in_str ?_
  exact ⟨congrArg Value.bool (PySem.StrLaws.found_one z c), GxR.keeps_refl _⟩
/-- the expression's code object: found in the def's table, or laid there -/
theorem gen_code {prog : Program} {w : World} {A : Around} {E : Value → Shared → Prop} {env : Env} {gpos : Pos} {q : Str} {scope : Scope}
    {c P : Addr} {ps : Array Value} {s2 : Shared} {Q : Value → Shared → Prop} (hcode : env.code = .ref c) (cd : PySem.W.CodeHd s2.heap c P)
    (hP : s2.heap.get? P = some { cls := .none, data := .fields ps }) (ht : TriplesOk ps.toList)
    (h : ∀ (code : Value) (h3 : Heap) (tk : Nat) (ps' : Array Value), Heap.ExtBut P s2.heap h3 → s2.heap.objs.size ≤ h3.objs.size →
      h3.get? P = some { cls := .none, data := .fields ps' } → (∃ more, ps' = ps ++ more) → TriplesOk ps'.toList →
      Q code { s2 with heap := h3, toks := tk }) : wpAny (model prog w) A (genexprCode env gpos q scope) Q E s2 := by
  cases hf : codeAmong gpos ps.toList with
  | some cv =>
    exact wpAny_genexprCode_hit hcode (cd.code hP ht) hf (h cv s2.heap s2.toks ps (Heap.ExtBut.refl _ _) (Nat.le_refl _) hP ⟨#[], by simp⟩ ht)
  | none =>
    refine wpAny_genexprCodeX hcode (cd.code hP ht) (cd.tab hP) hf ?_
    intro c' h' tk hx hge hlt hco' _ htab' _
    obtain ⟨o1, vs, f1, tf, fl, tg, inF, tx, tt, op, _, _, _, _, _, _, _, _, _, htr, _⟩ := hco'
    exact h _ h' tk _ hx (Nat.le_trans hge (Nat.le_of_lt hlt)) htab'.2 ⟨_, rfl⟩ htr
section
variable {X : Cx} {pins : List (Addr × Obj)} {σ : L2.St} {H : Hp} {s : Shared}
theorem gen_made {c P : Addr} {elt iter : Expr} {x : Str} {px gpos : Pos} {scope : Scope} {pb : Nat → Bool} {te : TE} {k : Nat}
    {Q' : Value → Shared → Prop} {R : Str → Hp → Prop} (hr : Room k X.A) (TB : GxR.TabB X.base X.mg c P) (hcode : X.env.code = .ref c)
    (S : GxR.GenS X.env scope x) (hi : PE X iter te) (hel : EltG X scope x elt pb) (hs : ∀ v, genFold iter X.env v = pure v)
    (I : L2.Inv X pins σ H s) (h : te σ H fun v H1 => ∃ a : Str, v = .str a ∧ GxR.TabG H1 P ∧ R a H1)
    (hQ : ∀ a H1 g s5, R a H1 → GxR.Ready X pins σ H1 P a pb g s5 → Q' (.ref g) s5) :
    wpAny (model X.prog X.w) X.A (eval (.GeneratorExp elt [⟨.Name x px, iter, [], 0⟩] scope gpos) X.env) Q' X.xe s := by
  have hdp := hr.dp
  refine wpAny_GeneratorExp_walksQ hr.hd S.co (closure_ok S.free) S.cell S.dot S.loc S.kind (by omega) ?_ hs
  refine thn (hi.run pins s σ H _ I h) ?_
  rintro xv s1 ⟨v, H1, I1, r1, a, rfl, ⟨ps, hP, ht⟩, q1⟩
  obtain ⟨t, rfl⟩ := _root_.id r1
  refine wpAny_pyIter_str ?_
  intro o St W hst
  have hPs : s1.heap.get? P = some { cls := .none, data := .fields ps } := I1.hok P _ hP
  have hPlt := Heap.lt_size hPs
  have lim2 : (s1.heap.push o).NoLimit := I1.nolimit.push o
  refine ⟨lim2, ?_⟩
  refine gen_code (s2 := { s1 with heap := s1.heap.push o }) hcode (TB.code.keeps fun b u e => Heap.get?_push_of_some _ (I1.bk b u e)) (Heap.get?_push_of_some _ hPs) ht ?_
  intro code h3 tk ps' hx hsz hP3 hmore ht3
  have hcl : cStatics < s1.heap.objs.size := by
    obtain ⟨_, hns, _⟩ := I1.nolimit
    exact hns.lt
  have hcP : cStatics ≠ P := by
    intro e
    obtain ⟨_, ⟨o', es, ep, ho, hd, _⟩, _⟩ := I1.nolimit
    rw [e, hPs] at ho
    cases ho
    cases hd
  have sz2 : (s1.heap.push o).objs.size = s1.heap.objs.size + 1 := Heap.size_push ..
  have keep3 : ∀ b u, b ≠ P → s1.heap.get? b = some u → h3.get? b = some u :=
    fun b u hb e => hx b u hb (Heap.get?_push_of_some _ e)
  have hsz' : s1.heap.objs.size + 1 ≤ h3.objs.size := by
    rw [← sz2]
    exact hsz
  have ns3 : h3.Ns mainGlobals X.mg := ((I1.mod.glob.keeps I1.bk).push o).extBut hx TB.gP
  obtain ⟨bm, ob, e1, e2, e3, e4, e5, e6, e7, e8⟩ := TB.bm
  refine wpAny_builtinsFor (m := X.mg) (by rw [I1.ok.glob]; exact ns3) e1 e2 (keep3 _ _ e4 (I1.bk _ _ e5)) e6 e7 e8 ?_
  refine ⟨s1.heap.objs.size, [s1.heap.objs.size], [s1.heap.objs.size], a.cps.size, SignAt a, St, fun _ => true,
    fun i y => ∃ cc, a.cps[i]? = some cc ∧ y = .bool (pb cc), rfl, W, ?_, ?_, lim2.extBut hx hcP, ?_, ?_, ?_⟩
  · refine (W X.A hr.hd).frame _ _ _ hst ?_
    intro b hb u e
    have eb : b = s1.heap.objs.size := by simpa using hb
    refine hx b u ?_ e
    intro z
    rw [← z, eb] at hPlt
    exact Nat.lt_irrefl _ hPlt
  · intro b hb
    have eb : b = s1.heap.objs.size := by simpa using hb
    rw [eb]
    show s1.heap.objs.size < h3.objs.size
    omega
  · intro z
    have eb : cStatics = s1.heap.objs.size := by simpa using z
    rw [eb] at hcl
    exact Nat.lt_irrefl _ hcl
  · intro href hhref
    constructor
    · intro A' E' i v s2 m2 hA hPv hn hm hk
      simp only [List.forIn_nil]
      exact wpAny_pure ⟨rfl, GxR.keeps_refl _⟩
    · intro A' E' i v s2 m2 hA hPv hp hn hm hk
      obtain ⟨cc, u, hcc, rfl⟩ := hPv
      have nsM : s2.heap.Ns mainGlobals X.mg := by
        obtain ⟨om, es, ep, g1, g2⟩ := ns3
        have glt : mainGlobals < s1.heap.objs.size := by
          obtain ⟨o9, _, _, g9, _⟩ := I1.mod.glob.keeps I1.bk
          exact Heap.lt_size g9
        refine ⟨om, es, ep, hk mainGlobals ?_ ?_ om (hhref _ _ g1), g2⟩
        · refine List.mem_range.mpr ?_
          show mainGlobals < h3.objs.size
          exact Heap.lt_size g1
        · intro z
          have eb : mainGlobals = s1.heap.objs.size := by simpa using z
          rw [eb] at glt
          exact Nat.lt_irrefl _ glt
      exact wpAny_mono (hel _ A' E' cc u s2 m2 rfl I1.ok.glob nsM hn hm) (fun y s3 r => ⟨⟨cc, hcc, r.1⟩, r.2⟩) (fun _ _ e => e)
  · intro g h5 tk5 gs hgb hag hsz5 hk5 W5 hat
    simp only [GxR.passing_true, List.length_range] at W5
    refine hQ a H1 g _ q1 ⟨_, _, _, _, _, W5.in4_1, hat, ?_, ?_⟩
    · intro j y sj Qj Ej hy hQj
      obtain ⟨i, hij, cc, hcc, rfl⟩ := hy
      obtain ⟨hj, ej⟩ := List.getElem?_eq_some_iff.mp hij
      rw [List.getElem_range] at ej
      subst ej
      have e9 : a.cps.toList[j]? = some cc := by rw [Array.getElem?_toList]; exact hcc
      have hQ2 : Qj (GxR.trF pb a.cps.toList j) sj := hQj
      rw [GxR.trF_some e9] at hQ2
      exact wpAny_truthy_bool hQ2
    · intro s' hmv
      obtain ⟨more, em⟩ := hmore
      have nwr : ∀ b u, s1.heap.get? b = some u → b ∉ h3.objs.size :: [s1.heap.objs.size] := by
        intro b u e hb
        have hl := Heap.lt_size e
        rcases List.mem_cons.mp hb with z | z
        · rw [z] at hl
          have h9 : (h3.objs.size : Nat) < s1.heap.objs.size := hl
          omega
        · have eb : b = s1.heap.objs.size := by simpa using z
          rw [eb] at hl
          exact Nat.lt_irrefl _ hl
      have J := GxR.inv_tab (more := more) (h' := s'.heap) (g' := s'.gens) (d' := s'.drawn) (t' := s'.toks) I1 hP
        (fun b u hb e => hmv.heap b u (nwr b u e) (hk5 b u (keep3 b u hb e)))
        (by rw [← em]; exact hmv.heap P _ (nwr P _ hPs) (hk5 P _ hP3)) (AllBare.movedS (I1.bare.push hgb) hmv)
      rw [GxR.sh_eta s1 s' hmv.os] at J
      exact ⟨upd H1 P (.tbl (ps ++ more)), ⟨⟨ps ++ more, upd_same, by rw [← em]; exact ht3⟩, fun b hb => upd_ne hb⟩, J⟩
theorem pe_allG {c P : Addr} {elt iter : Expr} {x : Str} {px p pos gpos : Pos} {scope : Scope} {pb : Nat → Bool} {te : TE} {k : Nat}
    (hr : Room k X.A) (hg : Gl X "all") (hm : X.mg "all" = none) (TB : GxR.TabB X.base X.mg c P) (hcode : X.env.code = .ref c)
    (S : GxR.GenS X.env scope x) (hi : PE X iter te) (hel : EltG X scope x elt pb) (hs : ∀ v, genFold iter X.env v = pure v)
    (he : starEach [.GeneratorExp elt [⟨.Name x px, iter, [], 0⟩] scope gpos] X.env =
      (false, eval (.GeneratorExp elt [⟨.Name x px, iter, [], 0⟩] scope gpos) X.env) :: starEach [] X.env := by rfl) :
    PE X (.Call (.Name "all" p) [.GeneratorExp elt [⟨.Name x px, iter, [], 0⟩] scope gpos] [] pos) (GxR.tAllS P pb te) := by
  constructor
  intro pins s σ H Q I h
  refine wpAny_Call_Name_kw (ld_blt I hg hm (show bootBuiltins "all" = some (.builtin "all") by decide +kernel) ?_)
  refine PyProof.Rows.callWith_builtin1 ?_ he (by rfl)
  rw [he]
  refine Calls.spliced_cons (gen_made (R := fun a H1 => ∀ H2, GxR.Tabbed P H1 H2 → Q (.bl (a.cps.toList.all pb)) H2) hr TB hcode S hi hel hs I h ?_)
  intro a H1 g s5 hR hG
  obtain ⟨fp, wr, G, F, St, W, hst, htr, hI⟩ := hG
  refine Calls.spliced_nil (call_all_walkS (W.self 0 _ _ _ hst ⟨g, fp, wr, G, _, F, St, _, rfl, W, hst, htr, ?_⟩))
  intro s' hmv
  obtain ⟨H2, hT, J⟩ := hI s' hmv
  refine ⟨.bl _, H2, J, rfl, ?_⟩
  rw [GxR.all_signs a pb]
  exact hR H2 hT
end
end SfG
namespace SfG
open PySem PySem.Spec PyProof.Rows L2
/-! ### the law's end: tables of code objects, no repr under way -/
theorem noneIn (b : Addr) (l : List Addr) (h : l = []) : ¬ b ∈ l := by
  rw [h]
  simp
section
variable {P : Program} {w : World} {K : PySem.W.Frag} {mg mb : Str → Option Value} {CX : CXT} {k : Nat} {fa a : Addr}
  {cs : List (Addr × Addr)} {fd : FuncData} {x : Str} {sp : Sp} {s1 : Shared} {vs : List Value} {ns : List Int}
/-- what stands at s1: the module, its tables, the script -/
structure Stands (K : PySem.W.Frag) (mg mb : Str → Option Value) (cs : List (Addr × Addr)) (s1 : Shared) (a : Addr) (vs : List Value) : Prop where
  kin : K.In s1.heap
  glob : s1.heap.Ns mainGlobals mg
  blt : s1.heap.Ns builtinsNs mb
  bltv : ∀ y : Str, y ≠ "__name__" → mb y = bootBuiltins y
  lim : s1.heap.NoLimit
  gens : s1.gens = #[]
  tab : ∀ p ∈ cs, s1.heap.get? p.2 = some { cls := .none, data := .fields #[] }
  ntab : ∀ p ∈ cs, K.lookup p.2 = none
  code : ∀ p ∈ cs, PySem.W.CodeHd s1.heap p.1 p.2
  bmain : ∃ (bm : Addr) (ob : Obj), mg "__builtins__" = some (.ref bm) ∧ bm ≠ builtinsNs ∧ s1.heap.get? bm = some ob ∧
    ob.cls = .type "module" ∧ ob.dict = some builtinsNs ∧ ob.data = .plain
  scr : s1.heap.get? a = some { cls := .type "list", data := .seq vs.toArray }
/-- what is tracked there: the tables, and the script where the written part doesn't hold it -/
def Tracks (K : PySem.W.Frag) (cs : List (Addr × Addr)) (a : Addr) (H : Hp) : Prop :=
  ∀ b u, H b = some u → (b ∈ cs.map (·.2) ∧ u = .tbl #[]) ∨ (b = a ∧ K.lookup a = none ∧ ∃ o xs, u = .frz o (.lst xs))
theorem Stands.untracked {H : Hp} (S : Stands K mg mb cs s1 a vs) (T : Tracks K cs a H) {b : Addr} {o : Obj} (e : s1.heap.get? b = some o)
    (h1 : ∀ us n, o.data ≠ .seq us n) (h2 : o.data ≠ .fields #[]) : H b = none := by
  cases q : H b with
  | none => rfl
  | some u =>
    exfalso
    rcases T b u q with ⟨hb, _⟩ | ⟨hb, _⟩
    · obtain ⟨p, hp, ep⟩ := List.mem_map.mp hb
      have z := S.tab p hp
      rw [ep, e] at z
      cases z
      exact h2 rfl
    · have z := S.scr
      rw [← hb, e] at z
      cases z
      exact h1 _ _ rfl
theorem end_core {H : Hp} (S : Stands K mg mb cs s1 a vs) (T : Tracks K cs a H) (hH : ∀ p ∈ cs, H p.2 = some (.tbl #[]))
    (hok : HOk P w H s1.heap) (hr : Room k callerA)
    (F : ∀ base : Heap, K.In base → base.Ns mainGlobals mg → (∀ p ∈ cs, GxR.TabB base mg p.1 p.2) → FnG P w K mg base CX k fa fd [x] sp)
    (hbind : ∀ (s : Shared) (u : Value), BindsTo s fd ⟨[u], []⟩ [(x, u)])
    (hsp : sp [.ref a] H (fun v _ => v = .bl true) fun _ _ _ => False)
    (hCX : ∀ H e s', CX [] H s1 (fun _ _ _ => False) e s' → False) :
    codeAny (model P w) callerA (.call (.ref fa) ⟨[.ref a], []⟩)
      (fun r s' => r = .ok (.ret (.bool true)) ∧ OldK s1.heap s'.heap ∧ s'.os = s1.os ∧ AllBare s'.gens) s1 := by
  have low : ∀ {b : Addr} {o : Obj}, s1.heap.get? b = some o → H b = none → (hidT s1.heap H).get? b = some o := fun e n => hidT_get e n
  have lowNs : ∀ {b : Addr} {m : Str → Option Value}, s1.heap.Ns b m → (hidT s1.heap H).Ns b m := by
    rintro b m ⟨o, es, ep, e, d, r⟩
    refine ⟨o, es, ep, low e (S.untracked T e ?_ ?_), d, r⟩
    · intro us n z
      rw [d] at z
      cases z
    · intro z
      rw [d] at z
      cases z
  have lowK : K.In (hidT s1.heap H) := by
    intro b o e
    refine low (S.kin b o e) ?_
    cases q : H b with
    | none => rfl
    | some u =>
      exfalso
      rcases T b u q with ⟨hb, _⟩ | ⟨hb, hk, _⟩
      · obtain ⟨p, hp, ep⟩ := List.mem_map.mp hb
        rw [← ep, S.ntab p hp] at e
        cases e
      · rw [hb, hk] at e
        cases e
  have lowT : ∀ p ∈ cs, GxR.TabB (hidT s1.heap H) mg p.1 p.2 := by
    intro p hp
    have tp := S.tab p hp
    constructor
    · obtain ⟨o, us, file, tf, flags, tg, inF, text, tt, e1, r1, r2, r3, rest⟩ := S.code p hp
      refine ⟨o, us, file, tf, flags, tg, inF, text, tt, low e1 (S.untracked T e1 ?_ ?_), r1, r2, r3, rest⟩
      · intro us n z
        rw [r2] at z
        cases z
      · intro z
        rw [r2] at z
        cases z
        simp at r3
    · obtain ⟨bm, ob, b1, b2, b3, b4, b5, b6⟩ := S.bmain
      refine ⟨bm, ob, b1, b2, ?_, ?_, low b3 (S.untracked T b3 ?_ ?_), b4, b5, b6⟩
      · intro q
        obtain ⟨o, es, ep, e, hd, _⟩ := S.glob
        rw [q, e] at b3
        cases b3
        rw [hd] at b6
        cases b6
      · intro q
        rw [q, tp] at b3
        cases b3
        cases b6
      · intro us n z
        rw [b6] at z
        cases z
      · intro z
        rw [b6] at z
        cases z
    · intro z
      obtain ⟨o, es, ep, e, hd, _⟩ := S.glob
      rw [z, tp] at e
      cases e
      cases hd
  have md : L2.Mod K mg (hidT s1.heap H) := by
    refine ⟨lowK, lowNs S.glob, ⟨mb, lowNs S.blt, S.bltv⟩, ?_⟩
    obtain ⟨mc, h1, h2⟩ := S.lim
    exact ⟨mc, lowNs h1, h2⟩
  have e0 : Env0 P w K mg (hidT s1.heap H) callerA [] s1 H :=
    ⟨rfl, md, fun b o e => of_hidT e, Nat.le_of_eq (hidT_size _ _), trivial, fun b hb => absurd hb (noneIn b _ rfl), hok, .of_eq S.gens⟩
  have go := (F _ lowK (lowNs S.glob) lowT).goes callerA [] s1 H ⟨[.ref a], []⟩ [.ref a] [.ref a] _ _ hr rfl e0 (hbind s1 (.ref a)) (.cons rfl .nil) hsp
  refine codeAny_mono go ?_
  intro res s' h
  match res, h with
  | .error e, h => exact (hCX H e s' h).elim
  | .ok .next, h => exact False.elim h
  | .ok .brk, h => exact False.elim h
  | .ok .cont, h => exact False.elim h
  | .ok (.ret u), h =>
    obtain ⟨v, H', os, bare, un, hok', r', q⟩ := h
    cases (show v = .bl true from q)
    cases (show u = Value.bool true from r')
    have stay : ∀ b o, b ∉ cs.map (·.2) → s1.heap.get? b = some o → s'.heap.get? b = some o := by
      intro b o nb e
      cases q : H b with
      | none => exact un.keep b o e q (noneIn b _ rfl) (by simp)
      | some u =>
        rcases T b u q with ⟨hb, _⟩ | ⟨_, _, ob, xs, z⟩
        · exact absurd hb nb
        · rw [z] at q
          obtain ⟨g1, _⟩ := hok b _ q
          obtain ⟨g2, _⟩ := hok' b _ (un.frzs b ob _ q)
          rw [e] at g1
          cases g1
          exact g2
    have tabs : ∀ p ∈ cs, ∃ more : Array Value, s'.heap.get? p.2 = some { cls := .none, data := .fields more } := by
      intro p hp
      obtain ⟨more, z⟩ := un.tbls p.2 #[] (hH p hp)
      exact ⟨_, hok' p.2 _ z⟩
    refine ⟨rfl, ⟨fun b o e => ?_, fun b o e => ?_⟩, os, bare⟩
    · by_cases hb : b ∈ cs.map (·.2)
      · obtain ⟨p, hp, ep⟩ := List.mem_map.mp hb
        subst ep
        obtain ⟨more, hm⟩ := tabs p hp
        rw [S.tab p hp] at e
        cases e
        refine .inr (.inl ⟨((S.code p hp).tab (S.tab p hp)).isCodeTable, rfl, #[], more, rfl, ?_⟩)
        rw [Array.empty_append]
        exact hm
      · exact .inl (stay b o hb e)
    · by_cases hb : b ∈ cs.map (·.2)
      · obtain ⟨p, hp, ep⟩ := List.mem_map.mp hb
        subst ep
        obtain ⟨more, hm⟩ := tabs p hp
        exact ⟨_, hm⟩
      · exact ⟨o, stay b o hb e⟩
/-- the abstract heap at the start -/
def hp0 (cs : List (Addr × Addr)) (sc : Option HO) (a : Addr) : Hp := fun b => if b ∈ cs.map (·.2) then some (.tbl #[]) else if b = a then sc else none
theorem end_call (S : Stands K mg mb cs s1 a vs) (hi : IntsAre vs ns) (hl : ns.length ≤ sizeLine) (hr : Room k callerA)
    (F : ∀ base : Heap, K.In base → base.Ns mainGlobals mg → (∀ p ∈ cs, GxR.TabB base mg p.1 p.2) → FnG P w K mg base CX k fa fd [x] sp)
    (hbind : ∀ (s : Shared) (u : Value), BindsTo s fd ⟨[u], []⟩ [(x, u)])
    (hsp : ∀ H : Hp, (∀ p ∈ cs, H p.2 = some (.tbl #[])) → SqL K H a (ns.map V.int) → sp [.ref a] H (fun v _ => v = .bl true) fun _ _ _ => False)
    (hCX : ∀ H e s', CX [] H s1 (fun _ _ _ => False) e s' → False) :
    codeAny (model P w) callerA (.call (.ref fa) ⟨[.ref a], []⟩)
      (fun r s' => r = .ok (.ret (.bool true)) ∧ OldK s1.heap s'.heap ∧ s'.os = s1.os ∧ AllBare s'.gens) s1 := by
  have rv := vals_ints hi
  have hH : ∀ sc, ∀ p ∈ cs, hp0 cs sc a p.2 = some (.tbl #[]) := fun sc p hp => if_pos (List.mem_map.mpr ⟨p, hp, rfl⟩)
  have na : a ∉ cs.map (·.2) := by
    intro z
    obtain ⟨p, hp, ep⟩ := List.mem_map.mp z
    have q := S.tab p hp
    rw [ep, S.scr] at q
    cases congrArg Obj.data (Option.some.inj q)
  have at_a : ∀ sc, hp0 cs sc a a = sc := fun sc => by
    unfold hp0
    rw [if_neg na, if_pos rfl]
  have cases_of : ∀ sc b u, hp0 cs sc a b = some u → (b ∈ cs.map (·.2) ∧ u = .tbl #[]) ∨ (b = a ∧ sc = some u) := by
    intro sc b u h
    unfold hp0 at h
    by_cases h1 : b ∈ cs.map (·.2)
    · rw [if_pos h1] at h
      exact .inl ⟨h1, (Option.some.inj h).symm⟩
    · rw [if_neg h1] at h
      by_cases h2 : b = a
      · rw [if_pos h2] at h
        exact .inr ⟨h2, h⟩
      · rw [if_neg h2] at h
        cases h
  have tabOk : ∀ (H : Hp) b, b ∈ cs.map (·.2) → ObjOk P w H s1.heap b (.tbl #[]) := by
    intro H b hb
    obtain ⟨p, hp, ep⟩ := List.mem_map.mp hb
    rw [← ep]
    exact S.tab p hp
  cases hk : K.lookup a with
  | some o =>
    have e := S.kin a o hk
    rw [S.scr] at e
    cases e
    refine end_core (H := hp0 cs none a) S ?_ (hH none) ?_ hr F hbind (hsp _ (hH none) (.inr ⟨_, vs.toArray, _, hk, rfl, rfl, rfl, ?_, ?_⟩)) hCX
    · intro b u h
      rcases cases_of none b u h with h | ⟨_, h⟩
      · exact .inl h
      · cases h
    · intro b u h
      rcases cases_of none b u h with ⟨h1, rfl⟩ | ⟨_, h⟩
      · exact tabOk _ b h1
      · cases h
    · rw [List.size_toArray, hi.length]
      exact hl
    · simpa using rv
  | none =>
    refine end_core (H := hp0 cs (some (.frz { cls := .type "list", data := .seq vs.toArray } (.lst (ns.map V.int)))) a) S ?_ (hH _) ?_ hr F hbind
      (hsp _ (hH _) (.inl (.inr ⟨{ cls := .type "list", data := .seq vs.toArray }, at_a _⟩))) hCX
    · intro b u h
      rcases cases_of _ b u h with h | ⟨h1, h2⟩
      · exact .inl h
      · exact .inr ⟨h1, hk, _, _, (Option.some.inj h2).symm⟩
    · intro b u h
      rcases cases_of _ b u h with ⟨h1, rfl⟩ | ⟨rfl, h2⟩
      · exact tabOk _ b h1
      · cases h2
        refine ⟨S.scr, ?_, vs, _, rv, S.scr⟩
        rw [List.length_map]
        exact hl
end
end SfG
namespace SfG
open PySem PySem.Spec PyProof.Rows L2
/-! ### a def whose code object is known -/
structure FunC (K : PySem.W.Frag) (x qual : Str) (st : Stmt) (f : Addr) (fd : FuncData) (c : Addr) : Prop where
  ex : ∃ (oc : Value) (od : Option Addr) (kV doc pm : Value) (an : Option Addr) (ct : Value) (osl : Array (Option Value)),
    fd = PySem.W.fnOf x qual (defArgs st) (defBody st) (defScope st) .none kV doc pm an (.ref c) ct ∧
      K.lookup f = some ⟨oc, od, .func fd, osl⟩ ∧ PySem.W.codeIn K (.ref c) qual = true
  kp : PySem.W.keepIn K (.ref f) = true
theorem FunC.fn {K : PySem.W.Frag} {x qual : Str} {st : Stmt} {f c : Addr} {fd : FuncData} (F : FunC K x qual st f fd c) : Fun K x qual st f fd := by
  obtain ⟨oc, od, kV, doc, pm, an, ct, osl, h1, h2, h3⟩ := F.ex
  exact ⟨⟨oc, od, kV, doc, pm, an, .ref c, ct, osl, h1, h2, h3⟩, F.kp⟩
section
variable {P : Program} {w : World} {K : PySem.W.Frag} {mg : Str → Option Value} {base : Heap}
theorem FunC.ok {x qual : Str} {st : Stmt} {f c : Addr} {fd : FuncData} {N ps : List Str} {k : Nat} {sp : Sp}
    (F : FunC K x qual st f fd c) (S : FnScope N ps (defScope st)) (len : ∀ vs H Q E, sp vs H Q E → vs.length = ps.length)
    (hbody : ∀ (A : Around) (outer : List Env) (s : Shared) (H : Hp) (vs : List V) (Q : VK) (E : XK),
      Room k (A.deeper (envOfC qual (defScope st) s.heap.objs.size f (.ref c))) → sp vs H Q E →
      ∃ t, PSs (cxOf CX0 P w K mg base N qual (defScope st) f (.ref c) A outer s H E).nox (defBody st) t ∧
        t { nx := fun _ H' => Q .non H', rt := Q } (start N vs) H) : FnOk P w K mg base CX0 (k + 1) f fd ps sp := by
  obtain ⟨oc, od, kV, doc, pm, an, ct, osl, rfl, lk, hcd⟩ := F.ex
  refine fn_of lk hcd S len ?_
  intro A outer s H vs Q E hr hsp
  obtain ⟨t, h, q⟩ := hbody A outer s H vs Q E hr hsp
  exact ⟨t, h.nox, q⟩
end
/-! ### heaps that grow: what stood stands, tables of code objects may be longer -/
structure Gr (H H' : Hp) : Prop where
  keep : ∀ b o, H b = some o → (∀ ps, o ≠ .tbl ps) → H' b = some o
  tab : ∀ P, GxR.TabG H P → GxR.TabG H' P
  back : ∀ l, H' l = none → H l = none
theorem Gr.refl (H : Hp) : Gr H H := ⟨fun _ _ h _ => h, fun _ h => h, fun _ h => h⟩
theorem Gr.trans {H H1 H2 : Hp} (a : Gr H H1) (b : Gr H1 H2) : Gr H H2 :=
  ⟨fun c o h n => b.keep c o (a.keep c o h n) n, fun P h => b.tab P (a.tab P h), fun l h => a.back l (b.back l h)⟩
theorem Gr.same {H H' : Hp} (e : Same H H') : Gr H H' := by
  refine ⟨fun b o h _ => e b o h, ?_, fun l h => e.free h⟩
  rintro P ⟨ps, h1, h2⟩
  exact ⟨ps, e P _ h1, h2⟩
theorem Gr.new {H : Hp} {p : Addr} {o : HO} (h : H p = none) : Gr H (upd H p o) := by
  refine Gr.same ?_
  intro b x e
  rw [upd_ne (ne_of_none e h)]
  exact e
theorem Gr.tabbed {P : Addr} {H H' : Hp} (t : GxR.TabG H P) (e : GxR.Tabbed P H H') : Gr H H' := by
  refine ⟨?_, ?_, ?_⟩
  · intro b o h n
    refine (e.2 b ?_).trans h
    intro z
    obtain ⟨ps, h1, _⟩ := t
    rw [z, h1] at h
    exact n ps (Option.some.inj h).symm
  · intro P' t'
    by_cases z : P' = P
    · rw [z]
      exact e.1
    · obtain ⟨ps, h1, h2⟩ := t'
      exact ⟨ps, (e.2 P' z).trans h1, h2⟩
  · intro l h
    by_cases z : l = P
    · obtain ⟨ps, h1, _⟩ := e.1
      rw [z, h1] at h
      cases h
    · rw [← e.2 l z]
      exact h
/-- a list that is changed in the heap: all else stays -/
theorem Gr.lst {H H' : Hp} (g : Gr H H') {b : Addr} {xs : List V} (h : H b = some (.lst xs)) : H' b = some (.lst xs) := g.keep b _ h (fun _ z => (by cases z))
theorem Gr.tup {H H' : Hp} (g : Gr H H') {b : Addr} {xs : List V} (h : H b = some (.tup xs)) : H' b = some (.tup xs) := g.keep b _ h (fun _ z => (by cases z))
theorem Gr.dic {H H' : Hp} (g : Gr H H') {b : Addr} {kvs : List (Key × V)} (h : H b = some (.dK kvs)) : H' b = some (.dK kvs) := g.keep b _ h (fun _ z => (by cases z))
theorem Gr.seq {K : PySem.W.Frag} {H H' : Hp} {a : Addr} {xs : List V} (e : Gr H H') (h : SqL K H a xs) : SqL K H' a xs := by
  rcases h with (h | ⟨o, h⟩) | h
  · exact .inl (.inl (e.lst h))
  · exact .inl (.inr ⟨o, e.keep _ _ h (fun _ z => (by cases z))⟩)
  · exact .inr h
/-! ### kinds of things -/
def kinds : List String := ["NoneType", "bool", "int", "str", "list", "tuple", "dict"]
theorem kit_int : ∀ T ∈ kinds, kitB T "int" = some (T == "int" || T == "bool") := by decide +kernel
theorem kit_bool : ∀ T ∈ kinds, kitB T "bool" = some (T == "bool") := by decide +kernel
theorem kit_str : ∀ T ∈ kinds, kitB T "str" = some (T == "str") := by decide +kernel
/-- x is a thing of the built-in type T -/
def Is (K : PySem.W.Frag) (H : Hp) (x : V) (T : String) : Prop := TyX K H x (.type T) ∧ T ∈ kinds
theorem tyx_is {K : PySem.W.Frag} {H : Hp} {x : V} {t : Value} {T : String} (h : TyX K H x t) (e : t = .type T) :
    (T = "int" → ∃ i, x = .int i) ∧ (T = "str" → ∃ z, x = .str z) ∧ (∀ i, x = .int i → T = "int") ∧ (∀ z, x = .str z → T = "str") := by
  cases h with
  | base b =>
    cases b with
    | int i => cases e; exact ⟨fun _ => ⟨i, rfl⟩, fun z => absurd z (by decide), fun _ _ => rfl, fun _ z => (by cases z)⟩
    | str i => cases e; exact ⟨fun z => absurd z (by decide), fun _ => ⟨i, rfl⟩, fun _ z => (by cases z), fun _ _ => rfl⟩
    | ins => cases e
    | _ => cases e; exact ⟨fun z => absurd z (by decide), fun z => absurd z (by decide), fun _ z => (by cases z), fun _ z => (by cases z)⟩
  | _ => cases e; exact ⟨fun z => absurd z (by decide), fun z => absurd z (by decide), fun _ z => (by cases z), fun _ z => (by cases z)⟩
section
variable {K : PySem.W.Frag} {H : Hp} {x : V} {T : String}
theorem Is.whole (h : Is K H x T) (e : T = "int") : ∃ i, x = .int i := (tyx_is h.1 rfl).1 e
theorem Is.text (h : Is K H x T) (e : T = "str") : ∃ z, x = .str z := (tyx_is h.1 rfl).2.1 e
theorem Is.nint (h : Is K H x T) (e : T ≠ "int") : ∀ i, x ≠ .int i := fun i z => e ((tyx_is h.1 rfl).2.2.1 i z)
theorem Is.ntext (h : Is K H x T) (e : T ≠ "str") : ∀ z, x ≠ .str z := fun i z => e ((tyx_is h.1 rfl).2.2.2 i z)
end
theorem is_int {K : PySem.W.Frag} {H : Hp} (i : Int) : Is K H (.int i) "int" := ⟨.base (.int i), by decide⟩
theorem is_str {K : PySem.W.Frag} {H : Hp} (z : Str) : Is K H (.str z) "str" := ⟨.base (.str z), by decide⟩
theorem is_bl {K : PySem.W.Frag} {H : Hp} (b : Bool) : Is K H (.bl b) "bool" := ⟨.base (.bl b), by decide⟩
theorem is_non {K : PySem.W.Frag} {H : Hp} : Is K H .non "NoneType" := ⟨.base .non, by decide⟩
/-! ### isinstance(x, T), x a name, T a built-in class -/
def tIsi (T : String) (K : PySem.W.Frag) (i : Nat) : TE := fun σ H Q => ∃ v, σ[i]? = some (some v) ∧ ∃ (T' : String) (b : Bool), TyX K H v (.type T') ∧ kitB T' T = some b ∧ Q (.bl b) H
theorem pe_isi {X : Cx} {x nm : Str} {p p1 p2 pos : Pos} (T : String) (i : Nat) (mi : X.mg "isinstance" = none) (mT : X.mg nm = none)
    (hv : bootBuiltins nm = some (.type T)) (hN : X.N[i]? = some x := by rfl) (hvis : Vis X.env.scope x := by first | exact Or.inl rfl | exact Or.inr (Or.inl rfl) | exact Or.inr (Or.inr rfl))
    (hg : Gl X "isinstance" := by rfl) (hgT : Gl X nm := by rfl) (hxd : (x == ("__debug__" : Str)) = false := by decide) (hxc : (x == ("__classdict__" : Str)) = false := by decide)
    (hn : nm ≠ "__name__" := by decide) (hd : (nm == ("__debug__" : Str)) = false := by decide) :
    PE X (.Call (.Name "isinstance" p) [.Name x p1, .Name nm p2] [] pos) (tIsi T X.K i) := by
  have h := pe_callB (p := p) (pos := pos) call_isi hg mi (show bootBuiltins "isinstance" = some (.builtin "isinstance") by decide +kernel)
    (pa_cons (pe_var (pos := p1) hN hvis hxd hxc) (pa_cons (pe_bltn (v := .ty T) (pos := p2) hgT mT hv rfl hn hd) pa_nil))
  constructor
  intro pins s σ H Q I hq
  refine h.run pins s σ H Q I ?_
  obtain ⟨v, hs, T', b, h1, h2, h3⟩ := hq
  exact ⟨v, hs, v, .ty T, .type T', .type T, b, rfl, .ty T, h1, kit_ty h2, h3⟩
end SfG
namespace SfG
open PySem PySem.Spec PyProof.Rows L2
/-! ### the end of a law whose defs have tables -/
/-- the top's defs and their tables, still empty -/
def TabsOf (q : Program) (mg : Str → Option Value) (h : Heap) : Prop := ∀ d ∈ recsOf q, ∃ a o fd c P,
  mg d.name = some (.ref a) ∧ h.get? a = some o ∧ o.data = .func fd ∧ fd.code = .ref c ∧ h.IsCode c P #[] ∧ h.TableAt c P #[]
theorem tab_of {q : Program} {mg : Str → Option Value} {h : Heap} {K : PySem.W.Frag} {nm x qual : Str} {st : Stmt} {f c P : Addr} {fd : FuncData}
    {e : Value} {dd : Option Addr} {vs : Array Value} {sl : Array (Option Value)} (T : TabsOf q mg h) (hrec : ((recsOf q).any fun d => d.name == nm) = true)
    (g : mg nm = some (.ref f)) (KX : K.In h) (F : FunC K x qual st f fd c) (kc : K.lookup c = some ⟨e, dd, .fields vs, sl⟩) (kp : vs[11]? = some (.ref P)) :
    h.get? P = some { cls := .none, data := .fields #[] } ∧ PySem.W.CodeHd h c P := by
  obtain ⟨d, hm, hn⟩ := List.any_eq_true.mp hrec
  have hn2 : d.name = nm := beq_iff_eq.mp hn
  obtain ⟨a, o, fd', c', P', h1, h2, h3, h4, h5, h6⟩ := T d hm
  rw [hn2, g] at h1
  cases h1
  obtain ⟨oc, od, kV, doc, pm, an, ct, osl, rfl, lk, hcd⟩ := F.ex
  rw [KX _ _ lk] at h2
  cases h2
  cases h3
  have ec : c = c' := by
    have z : Value.ref c = Value.ref c' := h4
    cases z
    rfl
  subst ec
  obtain ⟨⟨o1, v1, a1, a2, a3, a4⟩, hP⟩ := h6
  have ek := KX _ _ kc
  rw [ek] at a1
  cases a1
  cases a3
  rw [kp] at a4
  cases a4
  obtain ⟨o2, v2, file, tf, flags, tg, inF, text, tt, op, b1, b2, b3, b4, b5, b6, b7, b8, b9, b10, b11⟩ := h5
  rw [ek] at b1
  cases b1
  cases b2
  exact ⟨hP, _, _, file, tf, flags, tg, inF, text, tt, ek, a2, rfl, kp, b3, b4, b5, b6, b7, b11⟩
/-- what is known of the law's promise at the head's heap h -/
def LawG (l : PySem.W.OpenLaw) (w : World) (K : PySem.W.Frag) (CX : CXT) (k n : Nat) (x : Str) (mg : Str → Option Value) (fa : Addr) (h : Heap) : Prop :=
  ∃ (fd : FuncData) (cs : List (Addr × Addr)) (sp : Sp), (∀ p ∈ cs, h.get? p.2 = some { cls := .none, data := .fields #[] }) ∧ (∀ p ∈ cs, K.lookup p.2 = none) ∧
    (∀ p ∈ cs, PySem.W.CodeHd h p.1 p.2) ∧ (∀ (s : Shared) (u : Value), BindsTo s fd ⟨[u], []⟩ [(x, u)]) ∧
    (∀ (H : Hp) (a : Addr) (ns : List Int), ns.length ≤ n → (∀ p ∈ cs, H p.2 = some (.tbl #[])) → SqL K H a (ns.map V.int) → sp [.ref a] H (fun v _ => v = .bl true) fun _ _ _ => False) ∧
    ∀ base : Heap, K.In base → base.Ns mainGlobals mg → (∀ p ∈ cs, GxR.TabB base mg p.1 p.2) → FnG l.prog w K mg base CX k fa fd [x] sp
theorem walk_G {l : PySem.W.OpenLaw} {n k : Nat} {q : Program} {loose : List Str} {XP : (Str → Option Value) → Heap → Prop} {YP : World → Heap → Prop} {d : DefRec}
    {K : Params → PySem.W.Frag} {CX : World → CXT} {x : Str} (hn : l.most = some n) (hn2 : n ≤ sizeLine) (hdf : d.params.defaults = []) (hr : Room k callerA)
    (hY : ∀ (w : World) (h : Heap), YP w h → (K w.params).In h)
    (F : ∀ (w : World) (mg : Str → Option Value) (fa : Addr) (h : Heap), (K w.params).In h → h.Ns mainGlobals mg → mg d.name = some (.ref fa) → TabsOf q mg h →
      LawG l w (K w.params) (CX w) k n x mg fa h)
    (hCX : ∀ (w : World) (H : Hp) (s : Shared) (e : Value) (s' : Shared), CX w [] H s (fun _ _ _ => False) e s' → False) :
    PySem.W.WalkO q loose XP YP l.row.toRowW d [] (fun f vs => PySem.call f vs) := by
  refine Att.attach_callB hn hdf ?_
  intro w s0 s1 mg mb fa o pm cd doc a vs ns G Y ho hd hcd hmg hobj hints hlen hbits hg
  have KX := hY w _ Y
  obtain ⟨fd, cs, sp, hT, nT, C, hb, hsp, hF⟩ := F w mg fa _ KX G.T.g hmg G.T.tab
  have S : Stands (K w.params) mg mb cs s1 a vs := ⟨KX, G.T.g, G.T.b, G.T.builtins, G.T.nolimit, hg, hT, nT, C, G.T.bmain, hobj⟩
  exact end_call S hints (Nat.le_trans hlen hn2) hr hF hb (fun H hH hS => hsp H a ns hlen hH hS) fun H e s' => hCX w H s1 e s'
end SfG
namespace SfG
open PySem PySem.Spec PyProof.Rows L2
/-- all but p as it was -/
def But (p : Addr) (H H' : Hp) : Prop := ∀ b, b ≠ p → H' b = H b
theorem But.upd {p : Addr} {H H' : Hp} {o : HO} (h : But p H H') : But p H (upd H' p o) := fun b n => (upd_ne n).trans (h b n)
theorem Gr.upd_new {H0 H : Hp} {p : Addr} {o : HO} (g : Gr H0 H) (h : H0 p = none) : Gr H0 (upd H p o) := by
  refine ⟨?_, ?_, ?_⟩
  · intro b u e n
    rw [upd_ne (ne_of_none e h)]
    exact g.keep b u e n
  · intro P t
    have np : P ≠ p := by
      obtain ⟨ps, h1, _⟩ := t
      exact ne_of_none h1 h
    obtain ⟨ps, h1, h2⟩ := g.tab P t
    exact ⟨ps, (upd_ne np).trans h1, h2⟩
  · intro l e
    by_cases z : l = p
    · rw [z]
      exact h
    · rw [upd_ne z] at e
      exact g.back l e
/-! ### heaps in a turn: the draw's state at p is changed, all else grows -/
structure Gp (p : Addr) (H H' : Hp) : Prop where
  keep : ∀ b o, b ≠ p → H b = some o → (∀ ps, o ≠ .tbl ps) → H' b = some o
  tab : ∀ P, P ≠ p → GxR.TabG H P → GxR.TabG H' P
  back : ∀ l, l ≠ p → H' l = none → H l = none
theorem Gp.refl (p : Addr) (H : Hp) : Gp p H H := ⟨fun _ _ _ h _ => h, fun _ _ h => h, fun _ _ h => h⟩
theorem Gp.gr {p : Addr} {H H' : Hp} (g : Gr H H') : Gp p H H' := ⟨fun b o _ => g.keep b o, fun P _ => g.tab P, fun l _ => g.back l⟩
theorem Gp.but {p : Addr} {H H' : Hp} (g : But p H H') : Gp p H H' := by
  refine ⟨fun b o n h _ => (g b n).trans h, ?_, fun l n h => (g l n).symm.trans h⟩
  rintro P n ⟨ps, h1, h2⟩
  exact ⟨ps, (g P n).trans h1, h2⟩
theorem Gp.trans {p : Addr} {H H1 H2 : Hp} (a : Gp p H H1) (b : Gp p H1 H2) : Gp p H H2 :=
  ⟨fun c o n h t => b.keep c o n (a.keep c o n h t) t, fun P n h => b.tab P n (a.tab P n h), fun l n h => a.back l n (b.back l n h)⟩
/-- what was there ahead of p grows -/
theorem Gp.out {p : Addr} {H0 H H' : Hp} (g : Gr H0 H) (h : H0 p = none) (a : Gp p H H') : Gr H0 H' := by
  refine ⟨?_, ?_, ?_⟩
  · intro b o e t
    exact a.keep b o (ne_of_none e h) (g.keep b o e t) t
  · intro P t
    have n : P ≠ p := by
      obtain ⟨ps, h1, _⟩ := t
      exact ne_of_none h1 h
    exact a.tab P n (g.tab P t)
  · intro l e
    by_cases z : l = p
    · rw [z]
      exact h
    · exact g.back l (a.back l z e)
theorem Gp.lst {p : Addr} {H H' : Hp} (g : Gp p H H') {b : Addr} {xs : List V} (n : b ≠ p) (h : H b = some (.lst xs)) : H' b = some (.lst xs) := g.keep b _ n h (fun _ z => by cases z)
theorem Gp.upd_new {p q : Addr} {H0 H : Hp} {o : HO} (g : Gp p H0 H) (h : H0 q = none) : Gp p H0 (upd H q o) := by
  refine ⟨?_, ?_, ?_⟩
  · intro b u nb e n
    rw [upd_ne (ne_of_none e h)]
    exact g.keep b u nb e n
  · intro P nP t
    have np : P ≠ q := by
      obtain ⟨ps, h1, _⟩ := t
      exact ne_of_none h1 h
    obtain ⟨ps, h1, h2⟩ := g.tab P nP t
    exact ⟨ps, (upd_ne np).trans h1, h2⟩
  · intro l nl e
    by_cases z : l = q
    · rw [z]
      exact h
    · rw [upd_ne z] at e
      exact g.back l nl e
/-- a def that is called: where it stands, how it is bound, what it promises -/
structure Has (P : Program) (w : World) (K : PySem.W.Frag) (mg : Str → Option Value) (base : Heap) (k : Nat) (x : Str) (ps : List Str) (sp : Sp) (f : Addr) (fd : FuncData) : Prop where
  ok : FnOk P w K mg base CX0 k f fd ps sp
  at_ : mg x = some (.ref f)
  kp : PySem.W.keepIn K (.ref f) = true
  bd : Binds K fd ps []
theorem hcall {X : Cx} {k : Nat} {x : Str} {ps : List Str} {sp : Sp} {f : Addr} {fd : FuncData} {e : Expr} {es : List Expr} {t : TA} {p pos : Pos} (h : Has X.prog X.w X.K X.mg X.base k x ps sp f fd) (hr : Room k X.A) (ha : PA X (e :: es) t)
    (hg : Gl X x := by rfl) (hdb : (x == ("__debug__" : Str)) = false := by decide) (he : starEach (e :: es) X.env = (false, eval e X.env) :: starEach es X.env := by rfl)
    (hpl : (backTo pos (starEach es X.env)).any (·.1) = false := by rfl) : PE X (.Call (.Name x p) (e :: es) [] pos) (tCall sp [] E0 t) :=
  pe_call h.ok hr hg h.at_ h.kp h.bd .nil pass0 ha hdb he hpl
/-! ### data that stays -/
theorem Gr.sqt {K : PySem.W.Frag} {H H' : Hp} {a : Addr} {xs : List V} (e : Gr H H') (h : SqT K H a xs) : SqT K H' a xs := by
  rcases h with (h | ⟨o, h⟩) | h
  · exact .inl (.inl (e.tup h))
  · exact .inl (.inr ⟨o, e.keep _ _ h (fun _ z => by cases z)⟩)
  · exact .inr h
theorem Gp.sqt {K : PySem.W.Frag} {p : Addr} {H H' : Hp} {a : Addr} {xs : List V} {kv : List (Key × V)} (e : Gp p H H') (hp : H p = some (.dK kv)) (h : SqT K H a xs) : SqT K H' a xs := by
  rcases h with (h | ⟨o, h⟩) | h
  · refine .inl (.inl (e.keep a _ (fun z => ?_) h (fun _ z => by cases z)))
    rw [z, hp] at h
    cases h
  · refine .inl (.inr ⟨o, e.keep a _ (fun z => ?_) h (fun _ z => by cases z)⟩)
    rw [z, hp] at h
    cases h
  · exact .inr h
theorem Gp.sql {K : PySem.W.Frag} {p : Addr} {H H' : Hp} {a : Addr} {xs : List V} {kv : List (Key × V)} (e : Gp p H H') (hp : H p = some (.dK kv)) (h : SqL K H a xs) : SqL K H' a xs := by
  rcases h with (h | ⟨o, h⟩) | h
  · refine .inl (.inl (e.keep a _ (fun z => ?_) h (fun _ z => by cases z)))
    rw [z, hp] at h
    cases h
  · refine .inl (.inr ⟨o, e.keep a _ (fun z => ?_) h (fun _ z => by cases z)⟩)
    rw [z, hp] at h
    cases h
  · exact .inr h
/-- what keeps all lists and tuples keeps data -/
structure Kd (K : PySem.W.Frag) (H H' : Hp) : Prop where
  l : ∀ {a xs}, SqL K H a xs → SqL K H' a xs
  t : ∀ {a xs}, SqT K H a xs → SqT K H' a xs
theorem Gr.kd {K : PySem.W.Frag} {H H' : Hp} (g : Gr H H') : Kd K H H' := ⟨fun h => g.seq h, fun h => g.sqt h⟩
theorem Gp.kd {K : PySem.W.Frag} {p : Addr} {H H' : Hp} {kv : List (Key × V)} (g : Gp p H H') (hp : H p = some (.dK kv)) : Kd K H H' := ⟨fun h => g.sql hp h, fun h => g.sqt hp h⟩
mutual
theorem Kd.dp {K : PySem.W.Frag} {H H' : Hp} (g : Kd K H H') : ∀ {d : PyData} {v : V}, Dp K H v d → Dp K H' v d
  | _, _, .non => .non
  | _, _, .bl b => .bl b
  | _, _, .int i => .int i
  | _, _, .str x => .str x
  | _, _, .lst h hs => .lst (g.l h) (g.dpA hs)
  | _, _, .tup h hs => .tup (g.t h) (g.dpA hs)
theorem Kd.dpA {K : PySem.W.Frag} {H H' : Hp} (g : Kd K H H') : ∀ {ds : List PyData} {vs : List V}, DpAll K H vs ds → DpAll K H' vs ds
  | _, _, .nil => .nil
  | _, _, .cons h hs => .cons (g.dp h) (g.dpA hs)
end
section
variable {K : PySem.W.Frag} {H : Hp} {v : V}
theorem dp_str {z : Str} (h : Dp K H v (.str z)) : v = .str z := by cases h; rfl
theorem dp_int {n : Int} (h : Dp K H v (.int n)) : v = .int n := by cases h; rfl
theorem dp_tup {ds : List PyData} (h : Dp K H v (.tuple ds)) : ∃ p xs, v = .ref p ∧ SqT K H p xs ∧ DpAll K H xs ds := by
  cases h with
  | tup h hs => exact ⟨_, _, rfl, h, hs⟩
theorem dpA_nil {xs : List V} (h : DpAll K H xs []) : xs = [] := by cases h; rfl
theorem dpA_cons {xs : List V} {d : PyData} {ds : List PyData} (h : DpAll K H xs (d :: ds)) : ∃ x r, xs = x :: r ∧ Dp K H x d ∧ DpAll K H r ds := by
  cases h with
  | cons a b => exact ⟨_, _, rfl, a, b⟩
theorem dp_1 {a : PyData} (h : Dp K H v (.tuple [a])) : ∃ p x, v = .ref p ∧ SqT K H p [x] ∧ Dp K H x a := by
  obtain ⟨p, xs, rfl, hp, hs⟩ := dp_tup h
  obtain ⟨x, r, rfl, hx, hs⟩ := dpA_cons hs
  cases dpA_nil hs
  exact ⟨p, x, rfl, hp, hx⟩
theorem dp_2 {a b : PyData} (h : Dp K H v (.tuple [a, b])) : ∃ p x y, v = .ref p ∧ SqT K H p [x, y] ∧ Dp K H x a ∧ Dp K H y b := by
  obtain ⟨p, xs, rfl, hp, hs⟩ := dp_tup h
  obtain ⟨x, r, rfl, hx, hs⟩ := dpA_cons hs
  obtain ⟨y, r, rfl, hy, hs⟩ := dpA_cons hs
  cases dpA_nil hs
  exact ⟨p, x, y, rfl, hp, hx, hy⟩
theorem dp_3 {a b c : PyData} (h : Dp K H v (.tuple [a, b, c])) : ∃ p x y z, v = .ref p ∧ SqT K H p [x, y, z] ∧ Dp K H x a ∧ Dp K H y b ∧ Dp K H z c := by
  obtain ⟨p, xs, rfl, hp, hs⟩ := dp_tup h
  obtain ⟨x, r, rfl, hx, hs⟩ := dpA_cons hs
  obtain ⟨y, r, rfl, hy, hs⟩ := dpA_cons hs
  obtain ⟨z, r, rfl, hz, hs⟩ := dpA_cons hs
  cases dpA_nil hs
  exact ⟨p, x, y, z, rfl, hp, hx, hy, hz⟩
theorem dp_4 {a b c d : PyData} (h : Dp K H v (.tuple [a, b, c, d])) : ∃ p x y z w, v = .ref p ∧ SqT K H p [x, y, z, w] ∧ Dp K H x a ∧ Dp K H y b ∧ Dp K H z c ∧ Dp K H w d := by
  obtain ⟨p, xs, rfl, hp, hs⟩ := dp_tup h
  obtain ⟨x, r, rfl, hx, hs⟩ := dpA_cons hs
  obtain ⟨y, r, rfl, hy, hs⟩ := dpA_cons hs
  obtain ⟨z, r, rfl, hz, hs⟩ := dpA_cons hs
  obtain ⟨u, r, rfl, hu, hs⟩ := dpA_cons hs
  cases dpA_nil hs
  exact ⟨p, x, y, z, u, rfl, hp, hx, hy, hz, hu⟩
/-- the i-th of a tuple of data -/
theorem dpA_get : ∀ {ds : List PyData} {xs : List V} {i : Nat} {d : PyData}, DpAll K H xs ds → ds[i]? = some d → ∃ x, xs[i]? = some x ∧ Dp K H x d
  | [], _, i, d, _, h => by simp at h
  | a :: r, xs, 0, d, hs, h => by
    obtain ⟨x, r', rfl, hx, _⟩ := dpA_cons hs
    have e : a = d := Option.some.inj h
    exact ⟨x, rfl, e ▸ hx⟩
  | a :: r, xs, i + 1, d, hs, h => by
    obtain ⟨x, r', rfl, _, hr⟩ := dpA_cons hs
    obtain ⟨y, hy, hd⟩ := dpA_get hr (show r[i]? = some d from h)
    exact ⟨y, hy, hd⟩
theorem dpA_len : ∀ {ds : List PyData} {xs : List V}, DpAll K H xs ds → xs.length = ds.length
  | [], _, h => by
    rw [dpA_nil h]
    rfl
  | _ :: _, _, h => by
    obtain ⟨x, r, rfl, _, hr⟩ := dpA_cons h
    rw [List.length_cons, List.length_cons, dpA_len hr]
end
end SfG
namespace SfG
open PySem PySem.Spec PyProof.Rows L2
/-! ### x is not True, x is not False, x a whole number or a truth -/
def rNotBx : R2 := fun x y H Q => ∃ b : Bool, y = .bl b ∧ ((∃ a : Bool, x = .bl a ∧ Q (.bl (!decide (a = b))) H) ∨ ∃ i : Int, x = .int i ∧ Q (.bl true) H)
theorem op_notBx {X : Cx} : OpR X (compareOp .IsNot) rNotBx := by
  intro pins s σ H x y v u Q I rx ry h
  obtain ⟨b, rfl, ⟨a, rfl, q⟩ | ⟨i, rfl, q⟩⟩ := h
  · exact op_notBl pins s σ H _ _ v u Q I rx ry ⟨a, b, rfl, rfl, q⟩
  · cases (show u = Value.bool b from ry)
    obtain ⟨t, rfl⟩ := _root_.id rx
    exact wpAny_isNot_other rfl (fun z => by cases z) ⟨.bl true, H, I, rfl, q⟩
theorem tyx_bool {K : PySem.W.Frag} {H : Hp} {x : V} {t : Value} (h : TyX K H x t) (e : t = .type "bool") : ∃ b, x = .bl b := by
  cases h with
  | base b =>
    cases b with
    | bl b => exact ⟨b, rfl⟩
    | ins => cases e
    | _ => exact absurd (Value.type.inj e) (by decide)
  | _ => exact absurd (Value.type.inj e) (by decide)
theorem is_truth {K : PySem.W.Frag} {H : Hp} {x : V} {T : String} (h : Is K H x T) (e : T = "bool") : ∃ b, x = .bl b := tyx_bool h.1 (by rw [e])
end SfG
namespace SfG
open PySem PySem.Spec PyProof.Rows L2
/-! ### an exception that is held behind its try -/
/-- an exception of the class cls, caught, at a -/
def EkO (cls : Value) (d : Option Addr) (a : Addr) : HO := .ext fun h => ∃ oe : Obj, h.get? a = some oe ∧ Zc cls d oe ∧ ∃ vs, oe.data = .fields vs
section
variable {X : Cx} {pins : List (Addr × Obj)} {σ : L2.St} {H : Hp} {s : Shared}
theorem inv_track {a : Addr} {oe : Obj} {vs : Array Value} {φ : Heap → Prop} (I : L2.Inv X pins σ H s) (ha : s.heap.get? a = some oe) (hd : oe.data = .fields vs) (na : H a = none) (nL : a ≠ X.env.locals)
    (n0 : X.s_0.heap.get? a = none) (np : ∀ p ∈ X.pn ++ pins, p.1 ≠ a) (new : ObjOk X.prog X.w (upd H a (.ext φ)) s.heap a (.ext φ)) : L2.Inv X pins σ (upd H a (.ext φ)) s where
  ok := I.ok
  os := I.os
  bare := I.bare
  base := {
    keep := I.base.keep
    slot := I.base.slot
    free := by
      intro b o e n hx
      rw [upd_ne (by intro z; rw [z, n0] at e; cases e)]
      exact I.base.free b o e n hx
    there := I.base.there
    tups := by
      intro b xs e
      have q := I.base.tups b xs e
      rw [upd_ne (ne_of_none q na)]
      exact q
    frzs := by
      intro b o u e
      have q := I.base.frzs b o u e
      rw [upd_ne (ne_of_none q na)]
      exact q
    tbls := by
      intro b ps e
      obtain ⟨more, q⟩ := I.base.tbls b ps e
      exact ⟨more, by rw [upd_ne (ne_of_none q na)]; exact q⟩ }
  loc := I.loc
  cell := I.cell
  free := by
    rw [upd_ne (Ne.symm nL)]
    exact I.free
  freeC := by
    intro x c e
    rw [upd_ne ?_]
    · exact I.freeC x c e
    · intro z
      obtain ⟨v, o, ho, hc⟩ := I.cell x c e
      rw [z, ha] at ho
      cases ho
      rw [hd] at hc
      cases hc
  pin := by
    intro p hp
    obtain ⟨e, n, rest⟩ := I.pin p hp
    exact ⟨e, by rw [upd_ne (np p hp)]; exact n, rest⟩
  hok := I.hok.laidN (fun _ _ e => e) na new
  len := I.len
end
/-- what the clause wishes: the exception is held behind the suite -/
def wKeep (K : PySem.W.Frag) (c : Value) (i : Nat) (ts : Addr → Value → Option Addr → TS) (Wout : WX) (D : Ends) : WX := fun cls d σ H =>
  ∃ b, PySem.W.exmOne K cls c = some b ∧
    (b = true → ∀ a, H a = none → ts a cls d { nx := fun σ' H' => D.nx (σ'.set i none) (upd H' a (EkO cls d a)), rt := fun _ _ => False, bk := fun _ _ => False, ct := fun _ _ => False } (σ.set i (some (.ref a))) H) ∧
    (b = false → Wout cls d σ H)
section
variable {X : Cx} {x n : Str} {c : Value} {i : Nat} {body more : List Stmt} {st0 : Stmt} {p1 p2 p3 : Pos} {tb : WX → TS} {ts : Addr → Value → Option Addr → TS} {Wout : WX}
theorem ps_try_keep (stk : X.stack = X.env :: X.outer) (frm : X.env.frame = some X.env.locals) (hex : X.ex = []) (hN : X.N.Nodup) (hi : X.N[i]? = some n) (hn : X.env.kindOf n = some .local) (hc : Names X x c) (tk : Takes X Wout)
    (bd : ∀ (W : WX) (pn : List (Addr × Obj)) (xe : Value → Shared → Prop), Takes (X.tr pn xe) W → PassesOwn (model X.prog X.w) X.A X.env xe → PSs (X.tr pn xe) body (tb W))
    (su : ∀ (a : Addr) (oe : Obj) (cls : Value) (d : Option Addr) (pn : List (Addr × Obj)), Zc cls d oe → (∃ vs, oe.data = .fields vs) → PSs (X.suite a ((a, oe) :: pn)) (st0 :: more) (ts a cls d))
    (yes : ∀ D cls d σ H, wKeep X.K c i ts Wout D cls d σ H → PySem.W.exmOne X.K cls c = some true) :
    PS X (.Try body [.ExceptHandler (some (.Name x p1)) (some n) (st0 :: more) p2] [] [] p3) (fun D σ H => tb (wKeep X.K c i ts Wout D) D σ H) := by
  constructor
  intro pins s σ H D I h
  have okX := I.ok
  have frames : X.A.frames = some (X.env :: X.outer) := by
    rw [okX.frames, stk]
  refine wpAny_Try_except ?_
  have B1 := bd (wKeep X.K c i ts Wout D) (X.pn ++ pins)
    (fun e s₁ => wpAny (model X.prog X.w) X.A (noteFrame e X.env)
      (fun _ s₂ => wpAny (model X.prog X.w) X.A (setFlight e none)
        (fun _ s₃ => wpAny (model X.prog X.w) X.A
          (handleBy e X.env [.ExceptHandler (some (.Name x p1)) (some n) (st0 :: more) p2]) (SP X pins D) X.xe s₃) X.xe s₂) X.xe s₁)
    ?caught PassesOwn.looking
  · refine wpAny_mono (B1.run [] s σ H D (I.toTry _) h) ?_ (fun _ _ z => z)
    intro f s1 hs1
    cases f with
    | next =>
      obtain ⟨σ', H', J, q⟩ := hs1
      exact wpAny_execs_nil ⟨σ', H', J.ofTry okX, q⟩
    | ret u =>
      obtain ⟨v, σ', H', J, r, q⟩ := hs1
      exact ⟨v, σ', H', J.ofTry okX, r, q⟩
    | brk =>
      obtain ⟨σ', H', J, q⟩ := hs1
      exact ⟨σ', H', J.ofTry okX, q⟩
    | cont =>
      obtain ⟨σ', H', J, q⟩ := hs1
      exact ⟨σ', H', J.ofTry okX, q⟩
  case caught =>
    intro u s' air
    obtain ⟨a, B, sI, pins', σ', H', cls, d, rfl, J', ground, up, sky, na, os, ag, wish⟩ := air
    have hyes := yes D cls d σ' H' wish
    obtain ⟨b, hb1, hgo, _⟩ := wish
    rw [hyes] at hb1
    cases hb1
    have J : L2.Inv X pins σ' H' sI := J'.ofTry okX
    have skyX : Sky B (X.env :: X.outer) a (Zc cls d) X.env.locals s'.heap := by
      rw [← stk]
      exact sky
    show wpAny (model X.prog X.w) X.A (noteFrame (.ref a) X.env) _ _ _
    refine Sky.land Zc.steady frames frm skyX ?_
    intro h3 fl3 up3
    obtain ⟨oe3, vs3, get3, z3, dat3⟩ := fl3.there
    have noFrame : a ∉ frs (X.env :: X.outer) := by
      intro hm
      obtain ⟨_, o', e', nof⟩ := fl3.2.2.1.mem hm
      rw [get3] at e'
      cases e'
      exact nof _ dat3
    have notL : a ≠ X.env.locals := by
      intro z
      refine noFrame (List.mem_filterMap.mpr ⟨X.env, List.mem_cons_self, ?_⟩)
      rw [frm, z]
    have notF : a ∉ X.fs := by
      intro hm
      obtain ⟨e, he, q⟩ := List.mem_filterMap.mp hm
      exact noFrame (List.mem_filterMap.mpr ⟨e, List.mem_cons_of_mem _ he, q⟩)
    have newI : sI.heap.get? a = none := by
      cases e : sI.heap.get? a with
      | none => rfl
      | some o =>
        have z := ground a o e (by rw [stk]; exact noFrame)
        rw [fl3.2.1] at z
        cases z
    have new0 : X.s_0.heap.get? a = none := by
      cases e : X.s_0.heap.get? a with
      | none => rfl
      | some o =>
        obtain ⟨o', z⟩ := J.base.there a o e (by rw [hex]; exact fun q => nomatch q)
        rw [newI] at z
        cases z
    have notP : ∀ p ∈ X.pn ++ pins, p.1 ≠ a := by
      intro p hp z
      have q := (J.pin p hp).1
      rw [z, newI] at q
      cases q
    have J3 : L2.Inv X pins σ' H' { s' with heap := h3 } := J.landed ground fl3.1 (up.trans up3) os ag
    have S3 := J3.suite get3 dat3 na notL notF
    refine wpAny_handleBy_cons (codeAny_handlers_test ?_) (by intro q; cases q)
    have kindly : PySem.W.Looks (model X.prog X.w) h3 (typeOf (.ref a)) cls := by
      intro A2 Q2 E2 s2 k2 q2
      refine wpAny_typeOf_ref (k2 _ _ get3) ?_
      rw [z3.1]
      exact q2
    have match_ := PySem.W.exm_one (M := model X.prog X.w) J3.kIn kindly hyes
    have named : ∀ {Q2 : Value → Shared → Prop} {E2 : Value → Shared → Prop}, Q2 c { s' with heap := h3 } →
        wpAny (model X.prog X.w) (X.A.mark (some (.ref a))) (eval (.Name x p1) X.env) Q2 E2 { s' with heap := h3 } := by
      intro Q2 E2 q2
      obtain ⟨g1, g2, g3 | ⟨g3, g4, g5⟩⟩ := hc
      · exact ld_glob (X := X.suite a ((a, oe3) :: (X.pn ++ pins))) S3 g1 g3 q2 g2
      · exact ld_blt (X := X.suite a ((a, oe3) :: (X.pn ++ pins))) S3 g1 g3 g4 q2 g5 g2
    refine named (match_.here ?_)
    refine codeAny_handlers_suite_as ?_
    refine HandSPX.lands_againZ fl3 ?_
    intro h4 fl4 up4
    obtain ⟨oe4, vs4, get4, z4, dat4⟩ := fl4.there
    have J4 : L2.Inv X pins σ' H' { s' with heap := h4 } := J.landed ground fl4.1 ((up.trans up3).trans up4) os ag
    have S4 := J4.suite get4 dat4 na notL notF
    refine store_ok (X := X.suite a ((a, oe4) :: (X.pn ++ pins))) (v := .ref a) S4 hN hi (.inl hn) rfl ?_ (.inr hn)
    intro s5 S5
    refine wpAny_mono ((su a oe4 cls d (X.pn ++ pins) z4 ⟨_, dat4⟩).run [] s5 _ H' _ S5 (hgo rfl a na)) ?_ (fun _ _ z => False.elim z)
    intro f s6 hs6
    cases f with
    | next =>
      obtain ⟨σ6, H6, S6, q6⟩ := hs6
      obtain ⟨get6, na6, _⟩ := S6.pin (a, oe4) (List.mem_append_left _ List.mem_cons_self)
      have J6 : L2.Inv X pins σ6 H6 s6 := S6.unsuite okX
      have T6 := inv_track (φ := fun h => ∃ oe : Obj, h.get? a = some oe ∧ Zc cls d oe ∧ ∃ vs, oe.data = .fields vs) J6 get6 dat4 na6 notL new0 notP
        ⟨⟨oe4, get6, z4, _, dat4⟩, ⟨oe4, get6⟩, fun h1 h2 ⟨o, e, r⟩ k => ⟨o, k o e, r⟩⟩
      refine gone_ok T6 hN hi hn ?_
      intro s7 J7
      exact ⟨_, _, J7, q6⟩
    | brk =>
      obtain ⟨σ6, H6, S6, q6⟩ := hs6
      exact q6.elim
    | cont =>
      obtain ⟨σ6, H6, S6, q6⟩ := hs6
      exact q6.elim
    | ret u =>
      obtain ⟨v6, σ6, H6, S6, r6, q6⟩ := hs6
      exact q6.elim
end
/-! ### isinstance of such an exception -/
def rIsK (K : PySem.W.Frag) (D : Addr) : List V → Hp → VK → Prop := fun xs H Q =>
  ∃ (a : Addr) (c : V) (cv : Value) (b : Bool), xs = [.ref a, c] ∧ H a = some (EkO (.ref D) none a) ∧ (∀ u, RelV c u → u = cv) ∧ PySem.W.kitOne K (.ref D) cv = some b ∧ Q (.bl b) H
theorem call_isK {X : Cx} {D : Addr} (C : ExcC X.K D) : CallR X (.builtin "isinstance") (rIsK X.K D) := by
  intro pins s σ H xs us Q I r h
  obtain ⟨a, c, cv, b, rfl, hH, hcv, e, q⟩ := h
  obtain ⟨⟨oe, get, z, vs, dat⟩, _⟩ := I.hok a _ hH
  cases r with
  | cons rx rr =>
    cases rr with
    | cons rt rr =>
      cases rr
      cases rx
      have ec := hcv _ rt
      subst ec
      have J : PySem.W.InstAt s.heap a oe D none := by
        obtain ⟨oc, od, oda, osl⟩ := oe
        obtain ⟨h1, h2⟩ := z
        dsimp only at h1 h2 dat
        subst h1 h2 dat
        exact ⟨get, rfl, rfl, trivial⟩
      refine PySem.W.kia_one (PySem.W.handS_kitx_exc C.hg C.hk C.hs C.hd C.ha C.hn C.ht C.hm) I.kIn J e (fun z => nomatch z) ?_
      intro tk
      exact ⟨.bl b, H, I.kept (t' := tk) fun _ _ z => z, rfl, q⟩
end SfG
namespace SfG
open PySem PySem.Spec PyProof.Rows L2
/-! ### enumerate(t), t a tuple -/
set_option maxHeartbeats 1000000 in
theorem meets_enum1 {v : Value} {o : Obj} {H : Heap → Prop} (B : Begins v o H) :
    Meets (Builtin.«enumerate.__new__» ⟨[.type "enumerate", v], []⟩) (fun _ R s => H s.heap ∧
      R (.ok (.ret (.ref (s.heap.push o).objs.size)))
        { s with heap := (s.heap.push o).push { cls := .type "enumerate", data := .fields #[.none, .bool false, .ref s.heap.objs.size, rawInt 0, .none, .none] } }) :=
  .of_wp fun prog w A R s hh => by
    obtain ⟨hp, g, d, tk, os⟩ := s
    obtain ⟨h1, fin⟩ := hh
    have hsub := sub_enumerate
    have it1 : ∀ {A' : Around} {E : Value → Shared → Prop} {Q : Value → Shared → Prop}, Q (.ref hp.objs.size) ⟨hp.push o, g, d, tk, os⟩ →
        wpAny (model prog w) A' (pyIter v) Q E ⟨hp, g, d, tk, os⟩ := fun q => B.iter prog w _ _ ⟨hp, g, d, tk, os⟩ _ h1 q
    wp_walk using it1
    refine wpAny_stack_any fun st => wpAny_pure ?_
    split
    · rename_i c _ _ _ _ _
      cases (c == Value.type "enumerate") <;> (wp_walk using it1; exact ⟨_, rfl, fin⟩)
    · wp_walk using it1
      exact ⟨_, rfl, fin⟩
section
variable {prog : Program} {w : World} {A : Around} {E : Value → Shared → Prop} {s : Shared}
theorem enum1 {v : Value} {o : Obj} {H : Heap → Prop} {Q : Value → Shared → Prop} (B : Begins v o H) (h1 : H s.heap)
    (h : ∀ h', IsEnum h' (s.heap.objs.size + 1) s.heap.objs.size 0 .none → h'.get? s.heap.objs.size = some o →
      (∀ b u, s.heap.get? b = some u → h'.get? b = some u) → Q (.ref (s.heap.objs.size + 1)) { s with heap := h' }) :
    wpAny (model prog w) A (call (.type "enumerate") [v]) Q E s := by
  refine callType_new F.called_enumerate (by decide) (F.typeCall_enumerate_1 _) (F.newCall_enumerate_1 _) (fun obj => F.args_object_init_2 obj _)
    F.entry_enumerate_new (meets_enum1 B) ⟨h1, ?_⟩
  have sz : (s.heap.push o).objs.size = s.heap.objs.size + 1 := Heap.size_push ..
  show _ ∧ _
  rw [sz]
  have made : IsEnum ((s.heap.push o).push { cls := .type "enumerate", data := .fields #[.none, .bool false, .ref s.heap.objs.size, rawInt 0, .none, .none] })
      (s.heap.objs.size + 1) s.heap.objs.size 0 .none := by
    have z := Heap.get?_push_size (s.heap.push o) (o := { cls := .type "enumerate", data := .fields #[.none, .bool false, .ref s.heap.objs.size, rawInt 0, .none, .none] }) rfl
    rw [sz] at z
    exact z
  refine ⟨⟨_, made, rfl⟩, h _ made (Heap.get?_push_of_some _ (Heap.get?_push_size _ B.free)) ?_⟩
  intro b u x
  exact Heap.get?_push_of_some _ (Heap.get?_push_of_some _ x)
end
/-- the tuple at a as it stands at each turn, each item in a new pair -/
def IteT (K : PySem.W.Frag) (a : Addr) : It :=
  ⟨fun i H => ∃ (xs : List V) (x : V), SqT K H a xs ∧ xs[i]? = some x,
   fun i H v H' => ∃ T x, v = .ref T ∧ H T = none ∧ H' = upd H T (.tup [.int (i : Nat), x]) ∧ ∀ xs, SqT K H a xs → xs[i]? = some x,
   fun i H => ∃ xs : List V, SqT K H a xs ∧ xs.length = i⟩
theorem turn_enumT {P : Program} {w : World} {K : PySem.W.Frag} {elts : List Expr} {kk : Nat} {tpos : Pos} (a e it : Addr) :
    Turn P w K (.Tuple elts kk tpos) (IteT K a) [e, it] e (fun i h => (∃ old, IsEnum h e it ((i : Nat) : Int) old) ∧ h.IsTupleIter it a i ∧ e ≠ it) where
  mem := by simp
  obj := by
    rintro i h ⟨⟨old, he⟩, ⟨o, ho, hc, hd⟩, _⟩ b hb
    have two : b = e ∨ b = it := by simpa using hb
    rcases two with rfl | rfl
    · exact ⟨_, he, fun v q => nomatch q⟩
    · exact ⟨o, ho, fun v q => by rw [hd] at q; cases q⟩
  keep := by
    rintro i h h' ⟨⟨old, he⟩, hi, hne⟩ k
    exact ⟨⟨old, k e (by simp) _ he⟩, hi.at fun o q => k it (by simp) o q, hne⟩
  item := by
    intro X hP hw hK hc i pins s σ H E I hf st hg
    subst hP hw hK
    obtain ⟨⟨old, he⟩, hit, hne⟩ := st
    obtain ⟨xs, x, hq, hx⟩ := hg
    obtain ⟨its, rv, p, hz⟩ := I.tuple hq
    obtain ⟨u, hu, ru⟩ := rv.get hx
    have ea : e ≠ a := by
      intro z
      obtain ⟨o, ho, hcl, _⟩ := p
      rw [← z] at ho
      have q := he
      unfold IsEnum at q
      rw [ho] at q
      have q1 := Option.some.inj q
      rw [q1] at hcl
      exact absurd (Value.type.inj hcl) (by decide)
    have ia : a ≠ it := by
      intro z
      obtain ⟨o, ho, hcl, _⟩ := p
      obtain ⟨o', ho', hcl', _⟩ := hit
      rw [z, ho'] at ho
      cases ho
      rw [hcl'] at hcl
      exact absurd (Value.type.inj hcl) (by decide)
    have D : Draws X.prog X.w X.A.in1 it [it, a] its.toArray.size (fun i v => its.toArray[i]? = some v) (fun i h => h.IsTupleIter it a i ∧ h.IsTuple a its.toArray) :=
      Draws.tuple (show X.A.in1.handled = none from I.ok.hd hc) it a ia its.toArray
    have hlt : i < its.toArray.size := by
      have hl := rv.length
      have hi : i < xs.length := by
        rcases Nat.lt_or_ge i xs.length with h1 | h1
        · exact h1
        · rw [List.getElem?_eq_none h1] at hx
          cases hx
      simp
      omega
    have hel : e < s.heap.objs.size := Heap.lt_size he
    have hil : it < s.heap.objs.size := by
      obtain ⟨_, q, _⟩ := hit
      exact Heap.lt_size q
    refine wpAny_pyNext_enum_itemD D he ⟨hit, p⟩ hlt hne (by simp [hne, ea]) ?_
    intro y h' tk hy ho hst hT hsz hk
    have ey : y = u := by
      have h1 : its.toArray[i]? = some u := by simpa using hu
      have h2 : its.toArray[i]? = some y := hy
      rw [h1] at h2
      exact (Option.some.inj h2).symm
    subst ey
    refine ⟨_, rfl, wpAny_letOwnedTupleGo_enum (s := { s with heap := h', toks := tk + 1 }) ho ?_⟩
    intro h'' he' sb
    have hT2 : h''.get? s.heap.objs.size = some { cls := .type "tuple", data := .seq #[.int i tk, y] } := (sb.2 _ (Nat.ne_of_gt hel)).trans hT
    have new : ObjOk X.prog X.w (upd H s.heap.objs.size (.tup [.int (i : Nat), x])) h'' s.heap.objs.size (.tup [.int (i : Nat), x]) :=
      ⟨by show 2 ≤ sizeLine; decide, [.int i tk, y], .cons ⟨_, rfl⟩ (.cons ru .nil), ⟨_, hT2, rfl, _, rfl⟩⟩
    have I1 : L2.Inv X pins σ (upd H s.heap.objs.size (.tup [.int (i : Nat), x])) { s with heap := h'', toks := tk + 1 } := by
      refine I.turnedNew (ch := [e, it]) ?_ hf (Nat.le_refl _) new
      intro b ob hb q
      exact (sb.2 b (fun z => hb (by simp [z]))).trans (hk b ob (fun z => hb (by simp [z])) (fun z => hb (by simp [z])) q)
    refine ⟨.ref s.heap.objs.size, _, I1, rfl, ⟨_, x, rfl, I.hok.fresh (Nat.le_refl _), rfl, ?_⟩, ⟨⟨y, ?_⟩, hst.1.at fun o q => (sb.2 it (Ne.symm hne)).trans q, hne⟩, ?_⟩
    · intro ys hy'
      rw [I.tuple_inj hy' hq]
      exact hx
    · have e1 : ((i + 1 : Nat) : Int) = (i : Int) + 1 := by omega
      rw [e1]
      exact he'
    · intro b hb
      have hb' : b < s.heap.objs.size := by
        have two : b = e ∨ b = it := by simpa using hb
        rcases two with rfl | rfl
        · exact hel
        · exact hil
      rw [upd_ne (Nat.ne_of_lt hb')]
      exact (hf b hb).1
  done := by
    intro X hP hw hK hc i pins s σ H E I hf st hg
    subst hP hw hK
    obtain ⟨⟨old, he⟩, hit, hne⟩ := st
    obtain ⟨xs, hq, hx⟩ := hg
    obtain ⟨its, rv, p, hz⟩ := I.tuple hq
    have ia : a ≠ it := by
      intro z
      obtain ⟨o, ho, hcl, _⟩ := p
      obtain ⟨o', ho', hcl', _⟩ := hit
      rw [z, ho'] at ho
      cases ho
      rw [hcl'] at hcl
      exact absurd (Value.type.inj hcl) (by decide)
    obtain ⟨f0, f1, f2, f3, f4, f5⟩ := hf it (by simp)
    have hl := rv.length
    have D : Draws X.prog X.w X.A.in1 it [it, a] its.toArray.size (fun i v => its.toArray[i]? = some v) (fun i h => h.IsTupleIter it a i ∧ h.IsTuple a its.toArray) :=
      Draws.tuple (show X.A.in1.handled = none from I.ok.hd hc) it a ia its.toArray
    have ei : its.toArray.size = i := by
      simp
      omega
    rw [← ei] at hit
    exact wpAny_pyNext_enum_endD D he ⟨hit, p⟩ fun h' eb => ⟨rfl, I.turned (t' := s.toks) (fun b o hb q => eb b o hb q) f0 f1 f3 f4 f5⟩
  self := by
    rintro A i s Q E ⟨⟨_, he⟩, _⟩ h
    exact wpAny_pyIter_enum he h
def iEnumT (K : PySem.W.Frag) (ta : TA) : TI := fun σ H R => ta σ H fun vs H1 => ∃ a xs, vs = [.ref a] ∧ SqT K H1 a xs ∧ R (IteT K a) H1
theorem pi_enumT {X : Cx} {e : Expr} {ta : TA} {p pos tpos : Pos} {elts : List Expr} {kk : Nat} (hg : Gl X "enumerate") (hm : X.mg "enumerate" = none) (ha : PA X [e] ta)
    (hs : starEach [e] X.env = [(false, eval e X.env)] := by rfl) : PI X (.Tuple elts kk tpos) (.Call (.Name "enumerate" p) [e] [] pos) (iEnumT X.K ta) := by
  constructor
  intro pins s σ H R I h
  refine Call_ (ld_blt I hg hm boot_enumerate (PyProof.Rows.callWith_type1 (thn (ha.run pos pins s σ H _ I h) ?_) hs rfl))
  rintro us s1 ⟨vs, H1, I1, r1, a, xs, rfl, hq, q⟩
  obtain ⟨u, rfl, ru⟩ := vals1 r1
  cases (show u = Value.ref a from ru)
  obtain ⟨its, rv, p', hz⟩ := I1.tuple hq
  refine enum1 (begins_tuple a its.toArray) p' ?_
  intro h' he hit hk
  refine wpAny_pyIter_enum he ?_
  have I2 : L2.Inv X pins σ H1 { s1 with heap := h' } := I1.kept (t' := s1.toks) hk
  refine ⟨s1.heap.objs.size + 1, [s1.heap.objs.size + 1, s1.heap.objs.size], _, _, H1, rfl, I2, turn_enumT a (s1.heap.objs.size + 1) s1.heap.objs.size,
    ⟨⟨.none, he⟩, ⟨_, hit, rfl, rfl⟩, Nat.succ_ne_self _⟩, ?_, q⟩
  intro b hb
  have two : b = s1.heap.objs.size + 1 ∨ b = s1.heap.objs.size := by simpa using hb
  have hle : s1.heap.objs.size ≤ b := by
    rcases two with z | z
    · rw [z]
      exact Nat.le_succ _
    · rw [z]
      exact Nat.le_refl _
  exact I1.fpOk hle (I1.hok.fresh hle)
theorem walk_enumT {K : PySem.W.Frag} {a : Addr} {xs : List V} : Walk (IteT K a) xs.length (fun H => SqT K H a xs) (YPair (fun i => some (.int (i : Nat))) (fun i => xs[i]?)) := by
  refine ⟨?_, ?_, ?_⟩
  · intro i _ hi q
    exact ⟨xs, xs[i], q, by simp [hi]⟩
  · intro _ q
    exact ⟨xs, q, rfl⟩
  · rintro i H v H' _ q ⟨T, x, h1, h2, h3, h4⟩
    exact ⟨T, .int (i : Nat), x, h1, h2, h3, rfl, h4 xs q⟩
end SfG
namespace SfG
open PySem PySem.Spec PyProof.Rows L2
/-! ### d.update(e), two dicts -/
def rDUpd : V → List V → Hp → VK → Prop := fun x vs H Q => ∃ (a b : Addr) (kvs more : List (Key × V)), x = .ref a ∧ vs = [.ref b] ∧ H a = some (.dK kvs) ∧ H b = some (.dK more) ∧ a ≠ b ∧ kvs.length + more.length ≤ 1000 ∧ Q .non (upd H a (.dK (mergeK kvs more)))
theorem mt_dupd {X : Cx} : MtR X "dict.update" rDUpd := by
  intro pins s σ H x vs v us Q I rx rv h
  obtain ⟨a, b, kvs, more, rfl, rfl, ea, eb, ne, hz, q⟩ := h
  cases (show v = Value.ref a from rx)
  obtain ⟨u, rfl, ru⟩ := vals1 rv
  cases (show u = Value.ref b from ru)
  obtain ⟨za, ha, va, ra, da⟩ := dk_of I.hok ea
  obtain ⟨zb, hb, vb, rb, db⟩ := dk_of I.hok eb
  have sz : va.length + vb.length ≤ sizeLine := by
    rw [← ra.length, ← rb.length]
    exact Nat.le_of_lt (small1000 hz)
  refine call_meetsIn PySem.F.slot_dict_update da.typeIs PySem.F.entry_dict_update (PySem.F.args_dict_update_2 _ _) (meets_dict_update (mixKind X.prog X.w) a b ne hb) ⟨va, vb, da, db, sz, fun h' dd' _ hs => ?_⟩
  have he : ∃ o, h'.get? a = some o := by
    obtain ⟨o, _, _, ho, _⟩ := dd'
    exact ⟨o, ho⟩
  have hm : (mergeK kvs more).length ≤ sizeLine := by
    have := length_mergeK more kvs
    exact Nat.le_of_lt (small1000 (by omega))
  exact ⟨.non, _, d_write (t' := s.toks) I (by rw [ea]; exact True.intro) hs he (dk_new hm ha (rb.merge ra) dd'), rfl, q⟩
/-! ### xs[b], b a truth -/
section
variable {prog : Program} {w : World} {A : Around} {E : Value → Shared → Prop} {s : Shared}
theorem sub_bool {M : Model} {b : Bool} {Q : Option Int → Shared → Prop} (h : Q (some (if b then 1 else 0)) s) : wpAny M A (Builtin.List.listSubscript? (.bool b)) Q E s := by
  unfold Builtin.List.listSubscript?
  refine wpAny_bind (wpAny_specialOf (T := "bool") (show s.TypeIs (.bool b) "bool" from rfl) PySem.F.slot_bool_index.lookup ?_)
  cases b with
  | true =>
    refine wpAny_bind (wpAny_of_eq (a := (1 : Int)) rfl ?_)
    exact wpAny_pure h
  | false =>
    refine wpAny_bind (wpAny_of_eq (a := (0 : Int)) rfl ?_)
    exact wpAny_pure h
theorem get_bool {l : Addr} {items : Array Value} {b : Bool} {x : Value} {Q : Value → Shared → Prop} (hl : s.heap.IsList l items) (hx : items[(if b then 1 else 0)]? = some x) (h : Q x s) :
    wpAny (model prog w) A (getItem (.ref l) (.bool b)) Q E s := by
  obtain ⟨o, ho, hc, ne, hd⟩ := id hl
  unfold getItem
  try with_reducible refine wpAny_holding ?_
  first | refine wpAny_bind (wpAny_pure ?_) | skip
  refine wpAny_bind (wpAny_sequenceKey hl.typeIs (by decide) ?_)
  refine wpAny_bind (wpAny_callSpecial?_slot (name := Str.ofString "__getitem__") hl.typeIs slot_list_getitem (wpAny_call_entry slot_list_getitem hl.typeIs entry_list_getitem ?_ (args_list_getitem _ _)))
  refine wpAny_bind (m := Builtin.List.listSubscript? (.bool b)) (sub_bool ?_)
  cases b with
  | true =>
    show wpAny _ _ ((seqItemAt l 1 >>= fun r => pure (r.map (1, ·))) >>= _) _ _ s
    refine wpAny_bind (wpAny_bind (wpAny_seqItemAt ho hd (wpAny_pure ?_)))
    rw [show items[1]? = some x from hx]
    first
      | exact wpAny_bind (wpAny_pure (wpAny_pure ⟨x, rfl, wpAny_pure h⟩))
      | exact wpAny_pure ⟨x, rfl, wpAny_pure h⟩
  | false =>
    show wpAny _ _ ((seqItemAt l 0 >>= fun r => pure (r.map (0, ·))) >>= _) _ _ s
    refine wpAny_bind (wpAny_bind (wpAny_seqItemAt ho hd (wpAny_pure ?_)))
    rw [show items[0]? = some x from hx]
    first
      | exact wpAny_bind (wpAny_pure (wpAny_pure ⟨x, rfl, wpAny_pure h⟩))
      | exact wpAny_pure ⟨x, rfl, wpAny_pure h⟩
end
def rIxB (K : PySem.W.Frag) : R2 := fun x y H Q => ∃ (p : Addr) (xs : List V) (b : Bool) (v : V), x = .ref p ∧ y = .bl b ∧ SqL K H p xs ∧ xs[(if b then 1 else 0)]? = some v ∧ Q v H
theorem ix_bool {X : Cx} : IxR X (rIxB X.K) := by
  intro value slice pins s σ H x y v u Q I rx ry h hs
  obtain ⟨p, xs, b, z, rfl, rfl, hq, he, q⟩ := h
  cases (show v = Value.ref p from rx)
  cases (show u = Value.bool b from ry)
  obtain ⟨its, r, pl, hz⟩ := I.list hq
  obtain ⟨t, et, rt⟩ := r.get he
  exact subscriptTail_builtinR pl.isList.typeIs PySem.slot_list_getitem.lookup (get_bool (Q := fun r' s' => r' = t ∧ EP X pins σ Q r' s') pl.isList (by simpa using et) ⟨rfl, z, H, I, rt, q⟩) hs
end SfG
namespace SfG
open PySem PySem.Spec PyProof.Rows L2
/-! ### repr of None, of a number, of a list or a tuple -/
def rReprA (K : PySem.W.Frag) : List V → Hp → VK → Prop := fun xs H Q =>
  ∃ (v : V) (d : PyData) (S : Str), xs = [v] ∧ Dp K H v d ∧ (v = .non ∨ (∃ i, v = .int i) ∨ ∃ a, v = .ref a) ∧ d.showable = true ∧ d.hasDict = false ∧
    d.depth ≤ 30 ∧ d.shown = S ∧ S.length ≤ sizeLine ∧ Q (.str S) H
theorem call_reprA {X : Cx} {k : Nat} (hr : Room k X.A) (hgd : X.A.guards = some []) :
    CallR X (.builtin "repr") (rReprA X.K) := by
  intro pins s σ H xs us Q I r h
  obtain ⟨v, d, S, rfl, hd, hv, hs, hn, hdep, rfl, hz, q⟩ := h
  rcases hv with rfl | ⟨i, rfl⟩ | ⟨a, rfl⟩
  · cases hd
    obtain ⟨u, rfl, ru⟩ := vals1 r
    cases ru
    exact PySem.P.repr_of_none ⟨.str _, H, I.tok _, ⟨_, rfl⟩, q⟩
  · cases hd
    obtain ⟨u, rfl, t, rfl⟩ := vals1 r
    exact PySem.P.repr_of_int (by simpa [PyData.showable] using hs) ⟨.str _, H, I.tok _, ⟨_, rfl⟩, q⟩
  · exact call_repr hr hgd pins s σ H _ us Q I r ⟨a, d, _, rfl, hd, hs, hn, hdep, rfl, hz, q⟩
/-! ### what can be shown, and how long that is -/
structure Sh (d : PyData) (L D : Nat) : Prop where
  able : d.showable = true
  nod : d.hasDict = false
  dep : d.depth ≤ D
  len : d.shown.length ≤ L
structure ShA (ds : List PyData) (L D : Nat) : Prop where
  able : PyData.showableAll ds = true
  nod : PyData.hasDictAll ds = false
  dep : PyData.depthAll ds ≤ D
  len : ((PyData.shownAll ds).map (·.length)).sum + 2 * ds.length ≤ L
theorem Sh.mono {d : PyData} {L D L' D' : Nat} (h : Sh d L D) (hL : L ≤ L') (hD : D ≤ D') : Sh d L' D' := ⟨h.able, h.nod, Nat.le_trans h.dep hD, Nat.le_trans h.len hL⟩
theorem ShA.mono {d : List PyData} {L D L' D' : Nat} (h : ShA d L D) (hL : L ≤ L') (hD : D ≤ D') : ShA d L' D' := ⟨h.able, h.nod, Nat.le_trans h.dep hD, Nat.le_trans h.len hL⟩
theorem ShA.nil {D : Nat} : ShA [] 0 D := ⟨rfl, rfl, by simp [PyData.depthAll], by simp [PyData.shownAll]⟩
theorem ShA.cons {d : PyData} {ds : List PyData} {L1 L2 D : Nat} (h : Sh d L1 D) (t : ShA ds L2 D) : ShA (d :: ds) (L1 + 2 + L2) D := by
  refine ⟨?_, ?_, ?_, ?_⟩
  · rw [PyData.showableAll, h.able, t.able]
    rfl
  · rw [PyData.hasDictAll, h.nod, t.nod]
    rfl
  · have h1 := h.dep
    have h2 := t.dep
    simp only [PyData.depthAll]
    omega
  · have h1 := h.len
    have h2 := t.len
    simp only [PyData.shownAll, List.map_cons, List.sum_cons, List.length_cons]
    omega
theorem Sh.tup {ds : List PyData} {L D : Nat} (h : ShA ds L D) : Sh (.tuple ds) (L + 3) (D + 1) := by
  refine ⟨h.able, h.nod, ?_, ?_⟩
  · have h1 := h.dep
    simp only [PyData.depth]
    omega
  · have h1 := h.len
    have h2 := tupleText_len_le (PyData.shownAll ds)
    have h3 := PyData.shownAll_length ds
    simp only [PyData.shown]
    omega
theorem Sh.lst {ds : List PyData} {L D : Nat} (h : ShA ds L D) : Sh (.list ds) (L + 3) (D + 1) := by
  refine ⟨h.able, h.nod, ?_, ?_⟩
  · have h1 := h.dep
    simp only [PyData.depth]
    omega
  · have h1 := h.len
    have h2 := listText_len_le (PyData.shownAll ds)
    have h3 := PyData.shownAll_length ds
    simp only [PyData.shown]
    omega
theorem Sh.non {D : Nat} : Sh .none 4 (D + 1) := ⟨rfl, rfl, by simp [PyData.depth], by decide⟩
theorem Sh.int {i : Int} {k D : Nat} (h : i.natAbs < 2 ^ k) (h0 : 0 < k) (hk : k ≤ 1920) : Sh (.int i) (k + 1) (D + 1) := by
  have hl : i.natAbs.log2 < k := by
    by_cases z : i.natAbs = 0
    · rw [z]
      exact h0
    · exact (Nat.log2_lt z).mpr h
  refine ⟨by simp only [PyData.showable]; exact decide_eq_true (by omega), rfl, by simp [PyData.depth], ?_⟩
  have e := int_text_length_le h0 hl
  show (Str.ofString (toString i)).length ≤ k + 1
  rw [PySem.ofString_length]
  exact e
theorem ShA.ints {k D : Nat} (h0 : 0 < k) (hk : k ≤ 1920) : ∀ {l : List Int}, (∀ x ∈ l, x.natAbs < 2 ^ k) → ShA (l.map PyData.int) (l.length * (k + 3)) (D + 1)
  | [], _ => ShA.nil.mono (by omega) (Nat.le_refl _)
  | a :: r, h => by
    have h1 := ShA.cons (Sh.int (h a List.mem_cons_self) h0 hk) (ShA.ints (D := D) h0 hk (l := r) fun x hx => h x (List.mem_cons_of_mem _ hx))
    refine h1.mono ?_ (Nat.le_refl _)
    rw [List.length_cons, Nat.succ_mul]
    omega
theorem Sh.fits {d : PyData} {L D : Nat} (h : Sh d L D) (hL : L ≤ 10000000) : d.shown.length ≤ sizeLine := by
  rw [sizeLine_eq]
  have := h.len
  omega
end SfG
namespace SfG
open PySem PySem.Spec PyProof.Rows L2
/-! ### the kind of plain data -/
def tyD : PyData → String
  | .none => "NoneType"
  | .bool _ => "bool"
  | .int _ => "int"
  | .str _ => "str"
  | .list _ => "list"
  | .tuple _ => "tuple"
  | .dict _ => "dict"
theorem tyx_tup {K : PySem.W.Frag} {H : Hp} {p : Addr} {xs : List V} (h : SqT K H p xs) : TyX K H (.ref p) (.type "tuple") := by
  rcases h with (h | ⟨o, h⟩) | ⟨o, its, n, h1, h2, _⟩
  · exact .base (.tup h)
  · exact .fTuple h
  · exact .kTuple h1 h2
theorem tyx_lst {K : PySem.W.Frag} {H : Hp} {p : Addr} {xs : List V} (h : SqL K H p xs) : TyX K H (.ref p) (.type "list") := by
  rcases h with (h | ⟨o, h⟩) | ⟨o, its, n, h1, h2, _⟩
  · exact .base (.lst h)
  · exact .base (.frz h)
  · exact .kList h1 h2
theorem dp_is {K : PySem.W.Frag} {H : Hp} {v : V} {d : PyData} (h : Dp K H v d) : Is K H v (tyD d) := by
  cases h with
  | non => exact ⟨.base .non, by decide +kernel⟩
  | bl b => exact ⟨.base (.bl b), by show "bool" ∈ kinds; decide +kernel⟩
  | int i => exact ⟨.base (.int i), by show "int" ∈ kinds; decide +kernel⟩
  | str x => exact ⟨.base (.str x), by show "str" ∈ kinds; decide +kernel⟩
  | lst h _ => exact ⟨tyx_lst h, by show "list" ∈ kinds; decide +kernel⟩
  | tup h _ => exact ⟨tyx_tup h, by show "tuple" ∈ kinds; decide +kernel⟩
theorem kit_tuple : ∀ T ∈ kinds, kitB T "tuple" = some (T == "tuple") := by decide +kernel
def whD : PyData → Bool
  | .int _ => true
  | _ => false
def amD (d : PyData) (lo hi : Int) : Bool := match d with
  | .int i => decide (lo ≤ i) && decide (i ≤ hi)
  | _ => false
def tupD (d : PyData) (lo hi : Int) : Bool := match d with
  | .tuple ds => decide (lo ≤ (ds.length : Int)) && decide ((ds.length : Int) ≤ hi)
  | _ => false
end SfG
/-! data with empty dicts: what is read, shown, compared -/
namespace SfG
open PySem PySem.Spec PyProof.Rows L2
mutual
inductive Dx (K : PySem.W.Frag) (H : Hp) : V → PyData → Prop
  | non : Dx K H .non .none
  | bl (b : Bool) : Dx K H (.bl b) (.bool b)
  | int (i : Int) : Dx K H (.int i) (.int i)
  | str (z : Str) : Dx K H (.str z) (.str z)
  | lst {p : Addr} {l : List V} {ds : List PyData} : SqL K H p l → DxA K H l ds → Dx K H (.ref p) (.list ds)
  | tup {p : Addr} {l : List V} {ds : List PyData} : SqT K H p l → DxA K H l ds → Dx K H (.ref p) (.tuple ds)
  | emp {p : Addr} : H p = some (.dK []) → Dx K H (.ref p) (.dict [])
inductive DxA (K : PySem.W.Frag) (H : Hp) : List V → List PyData → Prop
  | nil : DxA K H [] []
  | cons {v : V} {l : List V} {d : PyData} {ds : List PyData} : Dx K H v d → DxA K H l ds → DxA K H (v :: l) (d :: ds)
end
section
variable {X : Cx} {pins : List (Addr × Obj)} {σ : L2.St} {H : Hp} {s : Shared}
theorem emp_at (I : L2.Inv X pins σ H s) {p : Addr} (h : H p = some (.dK [])) : ∃ o n, s.heap.get? p = some o ∧ o.cls = .type "dict" ∧ o.data = .dict #[] n ∧ (p == sysModules) = false := by
  obtain ⟨_, hsm, vs, r, o, es, ep, e1, e2, e3, e4, e5, _⟩ := dk_of I.hok h
  cases r
  obtain ⟨l⟩ := es
  have e5' : Pairs (mixKind X.prog X.w) l [] := e5
  have e : l = [] := by
    cases l with
    | nil => rfl
    | cons a b => cases e5'
  subst e
  exact ⟨o, ep, e1, e2.1, e3, hsm⟩
mutual
theorem Dx.reads (I : L2.Inv X pins σ H s) : ∀ (d : PyData) (v : V) (u : Value), Dx X.K H v d → RelV v u → ∃ q, Reads s.heap u d q
  | .none, _, _, h, r => by
    cases h
    cases r
    exact ⟨_, .none⟩
  | .bool b, _, _, h, r => by
    cases h
    cases r
    exact ⟨_, .bool b⟩
  | .int i, _, _, h, r => by
    cases h
    obtain ⟨t, rfl⟩ := r
    exact ⟨_, .int i t⟩
  | .str x, _, _, h, r => by
    cases h
    obtain ⟨t, rfl⟩ := r
    exact ⟨_, .str x t⟩
  | .list ds, _, _, h, r => by
    cases h with
    | lst hp hl =>
      cases r
      obtain ⟨us, rv, ⟨o, n, g1, g2, _, g3⟩, _⟩ := I.list hp
      obtain ⟨q, hq⟩ := DxA.reads I ds _ us hl rv
      exact ⟨_, .list g1 g2 g3 hq⟩
  | .tuple ds, _, _, h, r => by
    cases h with
    | tup hp hl =>
      cases r
      obtain ⟨us, rv, ⟨o, g1, g2, n, g3⟩, _⟩ := I.tuple hp
      obtain ⟨q, hq⟩ := DxA.reads I ds _ us hl rv
      exact ⟨_, .tuple g1 g2 g3 hq⟩
  | .dict _, _, _, h, r => by
    cases h with
    | emp hp =>
      cases r
      obtain ⟨o, n, g1, g2, g3, _⟩ := emp_at I hp
      exact ⟨_, .dict g1 g2 g3 ReadsAll.nil ReadsAll.nil⟩
theorem DxA.reads (I : L2.Inv X pins σ H s) : ∀ (ds : List PyData) (l : List V) (us : List Value), DxA X.K H l ds → Vals l us → ∃ q, ReadsAll s.heap us ds q
  | [], _, _, h, r => by
    cases h
    cases r
    exact ⟨_, .nil⟩
  | d :: ds, _, _, h, r => by
    cases h with
    | cons h1 h2 =>
      cases r with
      | cons r1 r2 =>
        obtain ⟨q1, g1⟩ := Dx.reads I d _ _ h1 r1
        obtain ⟨q2, g2⟩ := DxA.reads I ds _ _ h2 r2
        exact ⟨_, .cons g1 g2⟩
end
theorem noRead (h : Heap) (n : Nat) : ReadAtMost h n [] := by
  intro b z
  cases z
theorem text_empty_dict : PyData.shown (.dict []) = dictText [] := rfl
mutual
/-- what is shown of it, at any depth -/
theorem Dx.look (I : L2.Inv X pins σ H s) : ∀ (d : PyData) (v : V) (u : Value), Dx X.K H v d → RelV v u → d.showable = true → d.shown.length ≤ sizeLine →
    ∃ q, ReadAtMost s.heap d.depth q ∧ ReprK X.prog X.w q s.heap d.depth u d.shown
  | .none, _, _, h, r, _, _ => by
    cases h
    cases r
    exact ⟨[], noRead _ _, .of_is ReprIs.none _ _ _⟩
  | .bool b, _, _, h, r, _, _ => by
    cases h
    cases r
    exact ⟨[], noRead _ _, .of_is (ReprIs.bool b) _ _ _⟩
  | .int i, _, _, h, r, hs, _ => by
    cases h
    obtain ⟨t, rfl⟩ := r
    exact ⟨[], noRead _ _, .of_is (ReprIs.int t (of_decide_eq_true hs)) _ _ _⟩
  | .str x, _, _, h, r, _, hz => by
    cases h
    obtain ⟨t, rfl⟩ := r
    exact ⟨[], noRead _ _, .of_is (ReprIs.str x t hz) _ _ _⟩
  | .list ds, v, u, h, r, hs, hz => by
    obtain ⟨q0, rd⟩ := Dx.reads I _ v u h r
    cases h with
    | lst hp hl =>
      cases r
      obtain ⟨us, rv, ⟨o, n, g1, g2, _, g3⟩, _⟩ := I.list hp
      have hz1 : (listText (PyData.shownAll ds)).length ≤ sizeLine := hz
      obtain ⟨q, hq, hk⟩ := DxA.look I ds _ us hl rv hs fun t ht => Nat.le_trans (listText_mem_le ht) hz1
      have hd : (PyData.list ds).depth = PyData.depthAll ds + 1 := by rw [PyData.depth]
      have hn := not_mem_of_deeper rd (by omega) hq
      refine ⟨_ :: q, .cons rd (by omega) hq, ?_⟩
      rw [hd]
      show ReprK _ _ _ _ _ _ (listText (PyData.shownAll ds))
      cases us with
      | nil =>
        have e : PyData.shownAll ds = [] := List.length_eq_zero_iff.mp hk.length_eq
        rw [e]
        exact .listEmpty g1 g2 g3
      | cons a b => exact .list g1 g2 g3 hn (by simpa using hk.length_eq) fun i y e => hk.item i y (by simpa using e)
  | .tuple ds, v, u, h, r, hs, hz => by
    obtain ⟨q0, rd⟩ := Dx.reads I _ v u h r
    cases h with
    | tup hp hl =>
      cases r
      obtain ⟨us, rv, ⟨o, g1, g2, n, g3⟩, _⟩ := I.tuple hp
      have hz1 : (tupleText (PyData.shownAll ds)).length ≤ sizeLine := hz
      obtain ⟨q, hq, hk⟩ := DxA.look I ds _ us hl rv hs fun t ht => Nat.le_trans (tupleText_mem_le ht) hz1
      have hd : (PyData.tuple ds).depth = PyData.depthAll ds + 1 := by rw [PyData.depth]
      have hn := not_mem_of_deeper rd (by omega) hq
      refine ⟨_ :: q, .cons rd (by omega) hq, ?_⟩
      rw [hd]
      exact .tuple g1 g2 g3 hn hk
  | .dict _, v, u, h, r, _, _ => by
    obtain ⟨q0, rd⟩ := Dx.reads I _ v u h r
    cases h with
    | emp hp =>
      cases r
      obtain ⟨o, n, g1, g2, g3, g4⟩ := emp_at I hp
      have hd : (PyData.dict []).depth = 0 + 1 := by decide
      refine ⟨[_], .cons rd (n := 0) (by omega) (noRead _ _), ?_⟩
      rw [hd, text_empty_dict]
      exact .dict g1 g2 g3 g4 (by simp) ReprEntriesK.nil
theorem DxA.look (I : L2.Inv X pins σ H s) : ∀ (ds : List PyData) (l : List V) (us : List Value), DxA X.K H l ds → Vals l us → PyData.showableAll ds = true → (∀ t ∈ PyData.shownAll ds, t.length ≤ sizeLine) →
    ∃ q, ReadAtMost s.heap (PyData.depthAll ds) q ∧ ReprAllK X.prog X.w q s.heap (PyData.depthAll ds) us (PyData.shownAll ds)
  | [], _, _, h, r, _, _ => by
    cases h
    cases r
    exact ⟨[], noRead _ _, ReprAllK.nil⟩
  | d :: ds, _, _, h, r, hs, hz => by
    cases h with
    | cons h1 h2 =>
      cases r with
      | cons r1 r2 =>
        rw [PyData.showableAll, Bool.and_eq_true] at hs
        have hm : d.shown ∈ PyData.shownAll (d :: ds) := by
          rw [PyData.shownAll]
          exact List.mem_cons_self
        obtain ⟨q1, a1, k1⟩ := Dx.look I d _ _ h1 r1 hs.1 (hz _ hm)
        obtain ⟨q2, a2, k2⟩ := DxA.look I ds _ _ h2 r2 hs.2 fun t ht => hz t (by rw [PyData.shownAll]; exact List.mem_cons_of_mem _ ht)
        have m1 : d.depth ≤ PyData.depthAll (d :: ds) := by
          rw [PyData.depthAll]
          omega
        have m2 : PyData.depthAll ds ≤ PyData.depthAll (d :: ds) := by
          rw [PyData.depthAll]
          omega
        refine ⟨q1 ++ q2, (a1.mono m1).append (a2.mono m2), ?_⟩
        rw [PyData.shownAll]
        exact .cons ((k1.more fun b z => List.mem_append_left _ z).level_le m1) (k2.more_le (fun b z => List.mem_append_right _ z) m2)
end
end
/-! ### repr of a list of such data -/
def rReprX (K : PySem.W.Frag) : List V → Hp → VK → Prop := fun xs H Q =>
  ∃ (v : V) (ds : List PyData) (S : Str), xs = [v] ∧ Dx K H v (.list ds) ∧ PyData.showableAll ds = true ∧
    (PyData.list ds).depth ≤ 40 ∧ (PyData.list ds).shown = S ∧ S.length ≤ sizeLine ∧ Q (.str S) H
theorem call_reprX {X : Cx} {k : Nat} (hr : Room k X.A) (hgd : X.A.guards = some []) :
    CallR X (.builtin "repr") (rReprX X.K) := by
  intro pins s σ H xs us Q I r h
  obtain ⟨v, ds, S, rfl, hd, hs, hdep, rfl, hz, q⟩ := h
  obtain ⟨u, rfl, ru⟩ := vals1 r
  obtain ⟨q0, rd⟩ := Dx.reads I _ v u hd ru
  cases hd with
  | lst hp hl =>
    cases ru
    obtain ⟨vs, rv, ⟨o, n, g1, g2, _, g3⟩, _⟩ := I.list hp
    have hz1 : (listText (PyData.shownAll ds)).length ≤ sizeLine := hz
    obtain ⟨q1, hq, hk⟩ := DxA.look I ds _ vs hl rv hs fun t ht => Nat.le_trans (listText_mem_le ht) hz1
    have hde : (PyData.list ds).depth = PyData.depthAll ds + 1 := by rw [PyData.depth]
    have hn := not_mem_of_deeper rd (by omega) hq
    have hun := hr.un
    refine call_repr_slot (by omega) ⟨o, g1, g2⟩ F.slot_list_repr.toG ?_
    cases vs with
    | nil =>
      have e0 : PyData.shownAll ds = [] := List.length_eq_zero_iff.mp hk.length_eq
      have e : (PyData.list ds).shown = "[]" := by
        rw [PyData.shown, e0]
        rfl
      rw [e] at q
      exact call_list_repr_empty ⟨o, g1, g2⟩ g1 g3 ⟨_, _, rfl, .str "[]", H, I.tok _, ⟨_, rfl⟩, q⟩
    | cons a b =>
      refine call_list_reprK g1 g2 g3 hn (by simpa using hk.length_eq) (fun i y e => hk.item i y (by simpa using e)) (show X.A.in1.guards = some [] from hgd) (fun b _ => Clear.nil b) ?_ (fun _ _ z => z) (fun h' u' tk hk' => ?_) hz1
      · show X.A.units + 1 + _ < cLine
        omega
      · exact ⟨_, _, rfl, .str _, H, I.kept hk', ⟨_, rfl⟩, q⟩
end SfG
/-! such data: its parts, how it stays, == with a text, with () and [] -/
namespace SfG
open PySem PySem.Spec PyProof.Rows L2
section
variable {K : PySem.W.Frag} {H : Hp} {v : V}
theorem dx_str {z : Str} (h : Dx K H v (.str z)) : v = .str z := by cases h; rfl
theorem dx_int {n : Int} (h : Dx K H v (.int n)) : v = .int n := by cases h; rfl
theorem dx_bool {b : Bool} (h : Dx K H v (.bool b)) : v = .bl b := by cases h; rfl
theorem dx_tup {ds : List PyData} (h : Dx K H v (.tuple ds)) : ∃ p xs, v = .ref p ∧ SqT K H p xs ∧ DxA K H xs ds := by
  cases h with
  | tup h hs => exact ⟨_, _, rfl, h, hs⟩
theorem dx_lst {ds : List PyData} (h : Dx K H v (.list ds)) : ∃ p xs, v = .ref p ∧ SqL K H p xs ∧ DxA K H xs ds := by
  cases h with
  | lst h hs => exact ⟨_, _, rfl, h, hs⟩
theorem dxA_nil {xs : List V} (h : DxA K H xs []) : xs = [] := by cases h; rfl
theorem dxA_cons {xs : List V} {d : PyData} {ds : List PyData} (h : DxA K H xs (d :: ds)) : ∃ x r, xs = x :: r ∧ Dx K H x d ∧ DxA K H r ds := by
  cases h with
  | cons a b => exact ⟨_, _, rfl, a, b⟩
theorem dxA_len : ∀ {ds : List PyData} {xs : List V}, DxA K H xs ds → xs.length = ds.length
  | [], _, h => by
    rw [dxA_nil h]
    rfl
  | _ :: _, _, h => by
    obtain ⟨x, r, rfl, _, hr⟩ := dxA_cons h
    rw [List.length_cons, List.length_cons, dxA_len hr]
theorem dxA_get : ∀ {ds : List PyData} {xs : List V} {i : Nat} {d : PyData}, DxA K H xs ds → ds[i]? = some d → ∃ x, xs[i]? = some x ∧ Dx K H x d
  | [], _, i, d, _, h => by simp at h
  | a :: r, xs, 0, d, hs, h => by
    obtain ⟨x, r', rfl, hx, _⟩ := dxA_cons hs
    have e : a = d := Option.some.inj h
    exact ⟨x, rfl, e ▸ hx⟩
  | a :: r, xs, i + 1, d, hs, h => by
    obtain ⟨x, r', rfl, _, hr⟩ := dxA_cons hs
    obtain ⟨y, hy, hd⟩ := dxA_get hr (show r[i]? = some d from h)
    exact ⟨y, hy, hd⟩
/-- by the item -/
theorem dxA_at : ∀ {ds : List PyData} {xs : List V} {i : Nat} {x : V}, DxA K H xs ds → xs[i]? = some x → ∃ d, ds[i]? = some d ∧ Dx K H x d
  | [], _, i, d, hs, h => by
    rw [dxA_nil hs] at h
    simp at h
  | a :: r, xs, 0, d, hs, h => by
    obtain ⟨x, r', rfl, hx, _⟩ := dxA_cons hs
    have e : x = d := Option.some.inj h
    exact ⟨a, rfl, e ▸ hx⟩
  | a :: r, xs, i + 1, d, hs, h => by
    obtain ⟨x, r', rfl, _, hr⟩ := dxA_cons hs
    obtain ⟨y, hy, hd⟩ := dxA_at hr (show r'[i]? = some d from h)
    exact ⟨y, hy, hd⟩
theorem dxA_take : ∀ {ds : List PyData} {xs : List V} (n : Nat), DxA K H xs ds → DxA K H (xs.take n) (ds.take n)
  | [], _, n, h => by
    rw [dxA_nil h]
    simpa using DxA.nil
  | _ :: _, _, 0, _ => by simpa using DxA.nil
  | _ :: _, _, n + 1, h => by
    obtain ⟨x, r, rfl, hx, hr⟩ := dxA_cons h
    exact .cons hx (dxA_take n hr)
theorem dxA_drop : ∀ {ds : List PyData} {xs : List V} (n : Nat), DxA K H xs ds → DxA K H (xs.drop n) (ds.drop n)
  | [], _, n, h => by
    rw [dxA_nil h]
    simpa using DxA.nil
  | _ :: _, _, 0, h => h
  | _ :: _, _, n + 1, h => by
    obtain ⟨x, r, rfl, hx, hr⟩ := dxA_cons h
    exact dxA_drop n hr
theorem dxA_app : ∀ {ds es : List PyData} {xs ys : List V}, DxA K H xs ds → DxA K H ys es → DxA K H (xs ++ ys) (ds ++ es)
  | [], _, _, _, h, g => by
    rw [dxA_nil h]
    exact g
  | _ :: _, _, _, _, h, g => by
    obtain ⟨x, r, rfl, hx, hr⟩ := dxA_cons h
    exact .cons hx (dxA_app hr g)
theorem dxA_rev : ∀ {ds : List PyData} {xs : List V}, DxA K H xs ds → DxA K H xs.reverse ds.reverse
  | [], _, h => by
    rw [dxA_nil h]
    exact .nil
  | _ :: _, _, h => by
    obtain ⟨x, r, rfl, hx, hr⟩ := dxA_cons h
    rw [List.reverse_cons, List.reverse_cons]
    exact dxA_app (dxA_rev hr) (.cons hx .nil)
mutual
theorem Dp.dx : ∀ {d : PyData} {v : V}, Dp K H v d → Dx K H v d
  | _, _, .non => .non
  | _, _, .bl b => .bl b
  | _, _, .int i => .int i
  | _, _, .str x => .str x
  | _, _, .lst h hs => .lst h (Dp.dxA hs)
  | _, _, .tup h hs => .tup h (Dp.dxA hs)
theorem Dp.dxA : ∀ {ds : List PyData} {vs : List V}, DpAll K H vs ds → DxA K H vs ds
  | _, _, .nil => .nil
  | _, _, .cons h hs => .cons (Dp.dx h) (Dp.dxA hs)
end
end
/-- what keeps lists, tuples and empty dicts keeps such data -/
structure Kx (K : PySem.W.Frag) (H H' : Hp) : Prop where
  kd : Kd K H H'
  e : ∀ {p}, H p = some (.dK []) → H' p = some (.dK [])
theorem Gr.kx {K : PySem.W.Frag} {H H' : Hp} (g : Gr H H') : Kx K H H' := ⟨g.kd, fun h => g.dic h⟩
theorem Gp.kx {K : PySem.W.Frag} {p : Addr} {H H' : Hp} {k : Key × V} {kv : List (Key × V)} (g : Gp p H H') (hp : H p = some (.dK (k :: kv))) : Kx K H H' := by
  refine ⟨g.kd hp, ?_⟩
  intro b h
  refine g.keep b _ ?_ h (fun _ z => by cases z)
  intro z
  rw [z, hp] at h
  cases h
theorem Kx.trans {K : PySem.W.Frag} {H H1 H2 : Hp} (a : Kx K H H1) (b : Kx K H1 H2) : Kx K H H2 := ⟨⟨fun h => b.kd.l (a.kd.l h), fun h => b.kd.t (a.kd.t h)⟩, fun h => b.e (a.e h)⟩
mutual
theorem Kx.dx {K : PySem.W.Frag} {H H' : Hp} (g : Kx K H H') : ∀ {d : PyData} {v : V}, Dx K H v d → Dx K H' v d
  | _, _, .non => .non
  | _, _, .bl b => .bl b
  | _, _, .int i => .int i
  | _, _, .str x => .str x
  | _, _, .lst h hs => .lst (g.kd.l h) (g.dxA hs)
  | _, _, .tup h hs => .tup (g.kd.t h) (g.dxA hs)
  | _, _, .emp h => .emp (g.e h)
theorem Kx.dxA {K : PySem.W.Frag} {H H' : Hp} (g : Kx K H H') : ∀ {ds : List PyData} {vs : List V}, DxA K H vs ds → DxA K H' vs ds
  | _, _, .nil => .nil
  | _, _, .cons h hs => .cons (g.dx h) (g.dxA hs)
end
theorem dx_is {K : PySem.W.Frag} {H : Hp} {v : V} {d : PyData} (h : Dx K H v d) : Is K H v (tyD d) := by
  cases h with
  | non => exact ⟨.base .non, by decide +kernel⟩
  | bl b => exact ⟨.base (.bl b), by show "bool" ∈ kinds; decide +kernel⟩
  | int i => exact ⟨.base (.int i), by show "int" ∈ kinds; decide +kernel⟩
  | str x => exact ⟨.base (.str x), by show "str" ∈ kinds; decide +kernel⟩
  | lst h _ => exact ⟨tyx_lst h, by show "list" ∈ kinds; decide +kernel⟩
  | tup h _ => exact ⟨tyx_tup h, by show "tuple" ∈ kinds; decide +kernel⟩
  | emp h => exact ⟨.base (.dK h), by show "dict" ∈ kinds; decide +kernel⟩
/-! ### == -/
theorem dict_eq_str (l : Addr) (es : Array DictEntry) (n : Nat) (dd : Option Addr) (sl : Array (Option Value)) (b : Str) (u : Tok) :
    Meets (Builtin.«dict.__eq__» ⟨[.ref l, .str b u], []⟩) (fun _ R s => s.heap.get? l = some { cls := .type "dict", dict := dd, data := .dict es n, slots := sl } ∧ R (.ok (.ret .notImplemented)) s) := by
  refine .of_wp fun prog w A R s h => ?_
  obtain ⟨hp, g, d, tk, os⟩ := s
  obtain ⟨hl, h⟩ := h
  have f1 := F.sub_str_dict
  wp_walk using wpAny_loadPart' hl
  exact ⟨_, rfl, h⟩
theorem str_eq_dict (b : Str) (u : Tok) (l : Addr) (es : Array DictEntry) (n : Nat) (dd : Option Addr) (sl : Array (Option Value)) :
    Meets (Builtin.«str.__eq__» ⟨[.str b u, .ref l], []⟩) (fun _ R s => s.heap.get? l = some { cls := .type "dict", dict := dd, data := .dict es n, slots := sl } ∧ R (.ok (.ret .notImplemented)) s) := by
  refine .of_wp fun prog w A R s h => ?_
  obtain ⟨hp, g, d, tk, os⟩ := s
  obtain ⟨hl, h⟩ := h
  wp_walk using wpAny_loadPart' hl, wpAny_load hl
  exact ⟨_, rfl, h⟩
end SfG
namespace SfG
open PySem PySem.Spec PyProof.Rows L2
section
variable {A : Around} {s : Shared}
theorem rc_dict_str {l : Addr} {o : Obj} {es : Array DictEntry} {n : Nat} (b : Str) (u : Tok) (ho : s.heap.get? l = some o) (hc : o.cls = .type "dict") (hd : o.data = .dict es n) (hu : A.units < cLine) :
    SeqAt.RcAt A s (.ref l) (.str b u) false := fun prog w E Q h => by
  obtain ⟨cls, dd, data, sl⟩ := o
  simp only at hc hd
  subst hc hd
  refine SeqAt.rc_eq_decline_or (k := false) ⟨_, ho, rfl⟩ (typeIs_str s b u) (by decide) F.sub_str_dict F.slot_dict_eq F.slot_str_eq_refl ?_ ?_ ?_ (.inr hu) h
  · intro Q' hq
    exact call_meets F.slot_dict_eq ⟨_, ho, rfl⟩ F.entry_dict_eq (F.args_dict_eq_2 _ _) (dict_eq_str l es n dd sl b u) ⟨ho, hq⟩
  · intro Q' hq
    exact call_meets F.slot_str_eq_refl (typeIs_str s b u) F.entry_str_eq (F.args_str_eq_2 _ _) (str_eq_dict b u l es n dd sl) ⟨ho, hq⟩
  · intro Q' hq
    exact wpAny_of_eq (show isSame (.ref l) (.str b u) = pure false from rfl) hq
end
/-- a thing is this text -/
def eqS : PyData → Str → Bool
  | .str a, z => decide (a = z)
  | _, _ => false
def rEqXS (K : PySem.W.Frag) : R2 := fun x y H Q => ∃ (d : PyData) (z : Str), Dx K H x d ∧ y = .str z ∧ Q (.bl (eqS d z)) H
section
variable {X : Cx}
theorem op_eqXS {k : Nat} (hr : Room k X.A) : OpR X (compareOp .Eq) (rEqXS X.K) := by
  intro pins s σ H x y v u Q I rx ry h
  obtain ⟨d, z, hx, rfl, q⟩ := h
  obtain ⟨t, rfl⟩ := ry
  have hu : X.A.units < cLine := by
    have := hr.un
    omega
  have fin : Q (.bl (eqS d z)) H → EP X pins σ Q (.bool (eqS d z)) s := fun q => ⟨.bl _, H, I, rfl, q⟩
  cases hx with
  | non =>
    cases rx
    exact SeqAt.RcAt.none_str z t _ _ _ _ (fin q)
  | bl b =>
    cases rx
    exact SeqAt.RcAt.bool_str b z t _ _ _ _ (fin q)
  | int i =>
    obtain ⟨t', rfl⟩ := rx
    exact SeqAt.RcAt.int_str i t' z t _ _ _ _ (fin q)
  | str a =>
    obtain ⟨t', rfl⟩ := rx
    have e : (a == z) = decide (a = z) := by
      by_cases c : a = z
      · rw [decide_eq_true c, c]
        exact beq_self_eq_true z
      · rw [decide_eq_false c]
        exact beq_eq_false_iff_ne.mpr c
    refine SeqAt.RcAt.str_str a t' z t _ _ _ _ ?_
    rw [e]
    exact fin q
  | lst hp hl =>
    cases rx
    obtain ⟨us, rv, ⟨o, n, g1, g2, _, g3⟩, _⟩ := I.list hp
    exact SeqAt.RcAt.list_str z t ⟨o, g1, g2, n, g3⟩ hu _ _ _ _ (fin q)
  | tup hp hl =>
    cases rx
    obtain ⟨us, rv, ⟨o, g1, g2, n, g3⟩, _⟩ := I.tuple hp
    exact SeqAt.RcAt.tuple_str z t ⟨o, g1, g2, n, g3⟩ hu _ _ _ _ (fin q)
  | emp hp =>
    cases rx
    obtain ⟨o, n, g1, g2, g3, _⟩ := emp_at I hp
    exact rc_dict_str z t g1 g2 g3 hu _ _ _ _ (fin q)
def rEqT0 (K : PySem.W.Frag) : R2 := fun x y H Q => ∃ (p q : Addr) (l : List V), x = .ref p ∧ y = .ref q ∧ SqT K H p l ∧ SqT K H q [] ∧ Q (.bl l.isEmpty) H
theorem op_eqT0 {k : Nat} (hr : Room k X.A) : OpR X (compareOp .Eq) (rEqT0 X.K) := by
  intro pins s σ H x y v u Q I rx ry h
  obtain ⟨p, q, l, rfl, rfl, hp, hq, g⟩ := h
  cases rx
  cases ry
  have hu : X.A.units < cLine := by
    have := hr.un
    omega
  obtain ⟨us, rv, tp, _⟩ := I.tuple hp
  obtain ⟨ws, rw', tq, _⟩ := I.tuple hq
  cases rw'
  refine SeqAt.eq_tupleAt (e := fun _ => true) tp tq hu (fun j h1 h2 => absurd h2 (by simp)) ?_
  have e : ((List.range (min us.toArray.size ([] : List Value).toArray.size)).all (fun _ => true) && us.toArray.size == ([] : List Value).toArray.size) = l.isEmpty := by
    cases rv with
    | nil => rfl
    | cons a b => simp
  rw [e]
  exact ⟨.bl _, H, I, rfl, g⟩
def rEqL0 (K : PySem.W.Frag) : R2 := fun x y H Q => ∃ (p q : Addr) (l : List V), x = .ref p ∧ y = .ref q ∧ SqL K H p l ∧ SqL K H q [] ∧ Q (.bl l.isEmpty) H
theorem op_eqL0 {k : Nat} (hr : Room k X.A) : OpR X (compareOp .Eq) (rEqL0 X.K) := by
  intro pins s σ H x y v u Q I rx ry h
  obtain ⟨p, q, l, rfl, rfl, hp, hq, g⟩ := h
  cases rx
  cases ry
  have hu : X.A.units < cLine := by
    have := hr.un
    omega
  obtain ⟨us, rv, ⟨o, n, a1, a2, _, a3⟩, _⟩ := I.list hp
  obtain ⟨ws, rw', ⟨o2, n2, b1, b2, _, b3⟩, _⟩ := I.list hq
  cases rw'
  cases rv with
  | nil => exact SeqAt.eq_listAt (e := fun _ => true) ⟨o, a1, a2, n, a3⟩ ⟨o2, b1, b2, n2, b3⟩ rfl hu (fun j h1 h2 => absurd h2 (by simp)) ⟨.bl true, H, I, rfl, g⟩
  | cons a b => exact SeqAt.eq_list_lengthsAt ⟨o, a1, a2, n, a3⟩ ⟨o2, b1, b2, n2, b3⟩ (by simp) hu ⟨.bl false, H, I, rfl, g⟩
end
end SfG
/-! how great data is -/
namespace SfG
open PySem PySem.Spec PyProof.Rows L2
mutual
/-- how long it is when shown, at most -/
def wt : PyData → Nat
  | .none => 5
  | .bool _ => 5
  | .int i => i.natAbs.log2 + 3
  | .str z => 10 * z.length + 2
  | .list ds => wtA ds + 3
  | .tuple ds => wtA ds + 3
  | .dict _ => 2
def wtA : List PyData → Nat
  | [] => 0
  | d :: ds => wt d + 2 + wtA ds
end
mutual
/-- of plain texts, of numbers that can be shown, of empty dicts -/
def okd : PyData → Bool
  | .none => true
  | .bool _ => true
  | .int i => decide (i.natAbs.log2 < 1900)
  | .str z => z.cps.toList.all fun c => decide (c < 128)
  | .list ds => okdA ds
  | .tuple ds => okdA ds
  | .dict kvs => kvs.isEmpty
def okdA : List PyData → Bool
  | [] => true
  | d :: ds => okd d && okdA ds
end
theorem okd_str {z : Str} (h : okd (.str z) = true) : ∀ c ∈ z.cps.toList, c < 128 := by
  rw [okd] at h
  exact fun c hc => of_decide_eq_true (List.all_eq_true.mp h c hc)
mutual
theorem okd_able : ∀ {d : PyData}, okd d = true → d.showable = true
  | .none, _ => rfl
  | .bool _, _ => rfl
  | .int i, h => by
    rw [okd, decide_eq_true_eq] at h
    rw [PyData.showable]
    exact decide_eq_true (by omega)
  | .str z, _ => rfl
  | .list ds, h => by
    rw [okd] at h
    rw [PyData.showable]
    exact okdA_able h
  | .tuple ds, h => by
    rw [okd] at h
    rw [PyData.showable]
    exact okdA_able h
  | .dict [], _ => rfl
  | .dict (_ :: _), h => by
    rw [okd] at h
    cases h
theorem okdA_able : ∀ {ds : List PyData}, okdA ds = true → PyData.showableAll ds = true
  | [], _ => rfl
  | d :: ds, h => by
    rw [okdA, Bool.and_eq_true] at h
    rw [PyData.showableAll, okd_able h.1, okdA_able h.2]
    rfl
end
mutual
theorem okd_len : ∀ {d : PyData}, okd d = true → d.shown.length ≤ wt d
  | .none, _ => by decide
  | .bool true, _ => by decide
  | .bool false, _ => by decide
  | .int i, h => by
    have hl : i.natAbs.log2 < i.natAbs.log2 + 1 := by omega
    have e := int_text_length_le (k := i.natAbs.log2 + 1) (a := i) (by omega) hl
    show (Str.ofString (toString i)).length ≤ _
    rw [PySem.ofString_length, wt]
    omega
  | .str z, h => by
    have h1 := PySem.StrLaws.reprText_len z fun c hc => Nat.lt_of_lt_of_le (okd_str h c hc) (by decide)
    show (reprText z).length ≤ _
    rw [wt]
    omega
  | .list ds, h => by
    rw [okd] at h
    have h1 := okdA_len h
    have h2 := listText_len_le (PyData.shownAll ds)
    have h3 := PyData.shownAll_length ds
    rw [PyData.shown, wt]
    omega
  | .tuple ds, h => by
    rw [okd] at h
    have h1 := okdA_len h
    have h2 := tupleText_len_le (PyData.shownAll ds)
    have h3 := PyData.shownAll_length ds
    rw [PyData.shown, wt]
    omega
  | .dict [], _ => by decide
  | .dict (_ :: _), h => by
    rw [okd] at h
    cases h
theorem okdA_len : ∀ {ds : List PyData}, okdA ds = true → ((PyData.shownAll ds).map (·.length)).sum + 2 * ds.length ≤ wtA ds
  | [], _ => by decide
  | d :: ds, h => by
    rw [okdA, Bool.and_eq_true] at h
    have h1 := okd_len h.1
    have h2 := okdA_len h.2
    rw [PyData.shownAll, List.map_cons, List.sum_cons, List.length_cons, wtA]
    omega
end
/-! ### parts -/
theorem okdA_app : ∀ {a b : List PyData}, okdA (a ++ b) = (okdA a && okdA b)
  | [], b => by
    rw [okdA]
    simp
  | d :: a, b => by
    rw [List.cons_append, okdA, okdA, okdA_app, Bool.and_assoc]
theorem wtA_app : ∀ {a b : List PyData}, wtA (a ++ b) = wtA a + wtA b
  | [], b => by
    rw [wtA]
    simp
  | d :: a, b => by
    rw [List.cons_append, wtA, wtA, wtA_app]
    omega
theorem depA_app : ∀ {a b : List PyData}, PyData.depthAll (a ++ b) = max (PyData.depthAll a) (PyData.depthAll b)
  | [], b => by
    rw [PyData.depthAll]
    simp
  | d :: a, b => by
    rw [List.cons_append, PyData.depthAll, PyData.depthAll, depA_app]
    omega
structure Wt (d : PyData) (L D : Nat) : Prop where
  ok : okd d = true
  le : wt d ≤ L
  dep : d.depth ≤ D
structure WtA (ds : List PyData) (L D : Nat) : Prop where
  ok : okdA ds = true
  le : wtA ds ≤ L
  dep : PyData.depthAll ds ≤ D
theorem Wt.mono {d : PyData} {L D L' D' : Nat} (h : Wt d L D) (hL : L ≤ L') (hD : D ≤ D') : Wt d L' D' := ⟨h.ok, Nat.le_trans h.le hL, Nat.le_trans h.dep hD⟩
theorem WtA.mono {d : List PyData} {L D L' D' : Nat} (h : WtA d L D) (hL : L ≤ L') (hD : D ≤ D') : WtA d L' D' := ⟨h.ok, Nat.le_trans h.le hL, Nat.le_trans h.dep hD⟩
theorem WtA.nil {L D : Nat} : WtA [] L D := ⟨rfl, by rw [wtA]; omega, by rw [PyData.depthAll]; omega⟩
theorem WtA.cons {d : PyData} {ds : List PyData} {L1 L2 D : Nat} (h : Wt d L1 D) (t : WtA ds L2 D) : WtA (d :: ds) (L1 + 2 + L2) D := by
  refine ⟨?_, ?_, ?_⟩
  · rw [okdA, h.ok, t.ok]
    rfl
  · have := h.le
    have := t.le
    rw [wtA]
    omega
  · have := h.dep
    have := t.dep
    rw [PyData.depthAll]
    omega
theorem WtA.app {a b : List PyData} {L1 L2 D : Nat} (h : WtA a L1 D) (t : WtA b L2 D) : WtA (a ++ b) (L1 + L2) D := by
  refine ⟨?_, ?_, ?_⟩
  · rw [okdA_app, h.ok, t.ok]
    rfl
  · have := h.le
    have := t.le
    rw [wtA_app]
    omega
  · have := h.dep
    have := t.dep
    rw [depA_app]
    omega
theorem WtA.take {a : List PyData} {L D : Nat} (h : WtA a L D) (n : Nat) : WtA (a.take n) L D := by
  obtain ⟨h1, h2, h3⟩ := h
  rw [← List.take_append_drop n a] at h1 h2 h3
  rw [okdA_app, Bool.and_eq_true] at h1
  rw [wtA_app] at h2
  rw [depA_app] at h3
  exact ⟨h1.1, by omega, by omega⟩
theorem WtA.drop {a : List PyData} {L D : Nat} (h : WtA a L D) (n : Nat) : WtA (a.drop n) L D := by
  obtain ⟨h1, h2, h3⟩ := h
  rw [← List.take_append_drop n a] at h1 h2 h3
  rw [okdA_app, Bool.and_eq_true] at h1
  rw [wtA_app] at h2
  rw [depA_app] at h3
  exact ⟨h1.2, by omega, by omega⟩
/-- both ends of it weigh no more than it -/
theorem wtA_ends (a : List PyData) {m n : Nat} (h : m ≤ n) : wtA (a.take m) + wtA (a.drop n) ≤ wtA a := by
  have e : a.drop m = (a.drop m).take (n - m) ++ a.drop n := by
    have := (List.take_append_drop (n - m) (a.drop m)).symm
    rw [List.drop_drop, show m + (n - m) = n by omega] at this
    exact this
  have e1 : wtA a = wtA (a.take m) + wtA (a.drop m) := by rw [← wtA_app, List.take_append_drop]
  rw [e1, e, wtA_app]
  omega
theorem WtA.get {a : List PyData} {L D i : Nat} {d : PyData} (h : WtA a L D) (e : a[i]? = some d) : Wt d L D := by
  have hd : a.drop i = d :: a.drop (i + 1) := by
    obtain ⟨hi, e'⟩ := List.getElem?_eq_some_iff.mp e
    rw [List.drop_eq_getElem_cons hi, e']
  obtain ⟨h1, h2, h3⟩ := h.drop i
  rw [hd, okdA, Bool.and_eq_true] at h1
  rw [hd, wtA] at h2
  rw [hd, PyData.depthAll] at h3
  exact ⟨h1.1, by omega, by omega⟩
theorem WtA.rev : ∀ {a : List PyData} {L D : Nat}, WtA a L D → WtA a.reverse L D
  | [], _, _, _ => WtA.nil
  | d :: ds, L, D, h => by
    obtain ⟨h1, h2, h3⟩ := h
    rw [okdA, Bool.and_eq_true] at h1
    rw [wtA] at h2
    rw [PyData.depthAll] at h3
    have r : WtA ds.reverse (wtA ds) D := WtA.rev ⟨h1.2, Nat.le_refl _, by omega⟩
    rw [List.reverse_cons]
    exact (r.app (WtA.cons (L1 := wt d) ⟨h1.1, Nat.le_refl _, by omega⟩ (WtA.nil (L := 0)))).mono (by omega) (Nat.le_refl _)
theorem Wt.tup {ds : List PyData} {L D : Nat} (h : WtA ds L D) : Wt (.tuple ds) (L + 3) (D + 1) := by
  refine ⟨h.ok, ?_, ?_⟩
  · have := h.le
    rw [wt]
    omega
  · have := h.dep
    rw [PyData.depth]
    omega
theorem Wt.lst {ds : List PyData} {L D : Nat} (h : WtA ds L D) : Wt (.list ds) (L + 3) (D + 1) := by
  refine ⟨h.ok, ?_, ?_⟩
  · have := h.le
    rw [wt]
    omega
  · have := h.dep
    rw [PyData.depth]
    omega
theorem Wt.un {ds : List PyData} {L D : Nat} (h : Wt (.tuple ds) L D) : WtA ds L D ∧ PyData.depthAll ds + 1 ≤ D ∧ wtA ds + 3 ≤ L := by
  obtain ⟨h1, h2, h3⟩ := h
  rw [wt] at h2
  rw [PyData.depth] at h3
  exact ⟨⟨h1, by omega, by omega⟩, h3, h2⟩
theorem Wt.text {z : Str} {L D : Nat} (h : Wt (.str z) L D) : 10 * z.length + 2 ≤ L := by
  have := h.le
  rw [wt] at this
  exact this
theorem Wt.lit {d : PyData} {L D : Nat} (h : (okd d && decide (wt d ≤ L) && decide (d.depth ≤ D)) = true) : Wt d L D := by
  rw [Bool.and_eq_true, Bool.and_eq_true, decide_eq_true_eq, decide_eq_true_eq] at h
  exact ⟨h.1.1, h.1.2, h.2⟩
end SfG
/-! d.get(k) of a written dict by texts -/
namespace SfG
open PySem PySem.Spec PyProof.Rows L2
/-- a dict of the module, all its keys texts: what is there by each -/
def KDo (K : PySem.W.Frag) (w : World) (p : Addr) (f : Str → Option V) : Prop :=
  ∃ es n, K.lookup p = some ⟨.type "dict", none, .dict es n, #[]⟩ ∧ PySem.W.KeysLit w.params es.toList ∧ (p == sysModules) = false ∧ ∀ z, RelO (f z) (findBy Value.isStrOf es z)
def tKGet (K : PySem.W.Frag) (w : World) (td ty : TE) : TE := fun σ H Q => td σ H fun x H1 => ∃ (p : Addr) (f : Str → Option V), x = .ref p ∧ KDo K w p f ∧ ty σ H1 fun y H2 => ∃ z : Str, y = .str z ∧ Q ((f z).getD .non) H2
theorem relO_getD {a : Option V} {b : Option Value} (h : RelO a b) : RelV (a.getD .non) (b.getD .none) := by
  cases a with
  | none =>
    cases b with
    | none => exact rfl
    | some u => exact absurd h id
  | some v =>
    cases b with
    | none => exact absurd h id
    | some u => exact h
theorem pe_kget {X : Cx} {o e : Expr} {apos cpos : Pos} {td ty : TE} (ho : PE X o td) (he : PE X e ty) (m : M1 X o "get" apos e cpos) : PE X (.Call (.Attribute o "get" apos) [e] [] cpos) (tKGet X.K X.w td ty) := by
  constructor
  intro pins s σ H Q I h
  refine wpAny_Call_method m.base m.few m.line PySem.F.plainAttrs_dict PySem.F.slot_dict_get PySem.F.type_dict_get ?_
  refine thn (ho.run pins s σ H _ I h) ?_
  rintro u s1 ⟨x, H1, I1, rx, p, f, rfl, ⟨es, n, hl, hk, hs, hf⟩, q1⟩
  cases (show u = Value.ref p from rx)
  have hm := fun (I : L2.Inv X pins σ H1 s1) => PySem.W.mapOf_K (prog := X.prog) (w := X.w) I.kIn hl hk
  refine ⟨(hm I1).typeIs, ?_, ?_⟩
  · intro b z
    cases z
    exact ⟨_, I1.kIn _ _ hl, rfl⟩
  rw [m.trees]
  refine Calls.callWith_builtin rfl (Calls.evalArgs_plain (Calls.spliced_cons (thn (he.run pins s1 σ H1 _ I1 q1) ?_)))
  rintro v s2 ⟨y, H2, I2, ry, z, rfl, q2⟩
  obtain ⟨t, rfl⟩ := (show ∃ t, v = Value.str z t from ry)
  refine Calls.spliced_nil ?_
  have hm2 := PySem.W.mapOf_K (prog := X.prog) (w := X.w) I2.kIn hl hk
  exact call_meetsIn PySem.F.slot_dict_get hm2.typeIs PySem.F.entry_dict_get (PySem.F.args_dict_get_2 _ _) (meets_dict_get (strKind X.prog X.w) p (strKind_is X.prog X.w z t) hs) ⟨_, hm2, _, H2, I2.tok _, relO_getD (hf z), q2⟩
end SfG
/-! data beside a thing that is changed: the heap without it -/
namespace SfG
open PySem PySem.Spec PyProof.Rows L2
def hide (S : List Addr) (H : Hp) : Hp := fun b => if b ∈ S then none else H b
/-- all these are there -/
def There (S : List Addr) (H : Hp) : Prop := ∀ f ∈ S, H f ≠ none
section
variable {K : PySem.W.Frag} {S : List Addr} {p r f : Addr} {H H' : Hp} {o : HO}
theorem hide_ne {b : Addr} (n : b ∉ S) : hide S H b = H b := if_neg n
theorem hide_of {b : Addr} (h : hide S H b = some o) : b ∉ S ∧ H b = some o := by
  by_cases c : b ∈ S
  · unfold hide at h
    rw [if_pos c] at h
    cases h
  · rw [hide_ne c] at h
    exact ⟨c, h⟩
theorem hide_upd (h : f ∈ S) : hide S (upd H f o) = hide S H := by
  funext b
  by_cases c : b ∈ S
  · unfold hide
    rw [if_pos c, if_pos c]
  · have n : b ≠ f := fun z => c (by rw [z]; exact h)
    rw [hide_ne c, hide_ne c, upd_ne n]
theorem hide_nil : hide [] H = H := by
  funext b
  exact hide_ne (by simp)
theorem kx_of (h : ∀ b o, H b = some o → (∀ ps, o ≠ .tbl ps) → (∀ k kv, o ≠ .dK (k :: kv)) → H' b = some o) : Kx K H H' := by
  refine ⟨⟨?_, ?_⟩, ?_⟩
  · intro a xs e
    rcases e with (e | ⟨o, e⟩) | e
    · exact .inl (.inl (h _ _ e (fun _ z => by cases z) (fun _ _ z => by cases z)))
    · exact .inl (.inr ⟨o, h _ _ e (fun _ z => by cases z) (fun _ _ z => by cases z)⟩)
    · exact .inr e
  · intro a xs e
    rcases e with (e | ⟨o, e⟩) | e
    · exact .inl (.inl (h _ _ e (fun _ z => by cases z) (fun _ _ z => by cases z)))
    · exact .inl (.inr ⟨o, h _ _ e (fun _ z => by cases z) (fun _ _ z => by cases z)⟩)
    · exact .inr e
  · intro q e
    exact h _ _ e (fun _ z => by cases z) (fun _ _ z => by cases z)
theorem hide_kx : Kx K (hide S H) H := kx_of fun b o h _ _ => (hide_of h).2
/-- fewer hidden -/
theorem hide_less {T : List Addr} (h : ∀ b ∈ T, b ∈ S) : Kx K (hide S H) (hide T H) := kx_of fun b o e _ _ => by
  obtain ⟨n, e1⟩ := hide_of e
  rw [hide_ne fun z => n (h b z)]
  exact e1
theorem hide_tail : Kx K (hide (f :: S) H) (hide S H) := hide_less fun b h => List.mem_cons_of_mem _ h
/-- a new one hidden: all that was stays -/
theorem hide_cons (n : H f = none) : Kx K (hide S H) (hide (f :: S) (upd H f o)) := kx_of fun b u e _ _ => by
  obtain ⟨n1, e1⟩ := hide_of e
  have nb : b ≠ f := ne_of_none e1 n
  rw [hide_ne (by simp [nb, n1]), upd_ne nb]
  exact e1
theorem Gr.hkx (g : Gr H H') : Kx K (hide S H) (hide S H') := kx_of fun b o h n _ => by
  obtain ⟨n1, h1⟩ := hide_of h
  rw [hide_ne n1]
  exact g.keep b o h1 n
theorem Gp.hkx {k : Key × V} {kv : List (Key × V)} (g : Gp p H H') (hp : H p = some (.dK (k :: kv))) : Kx K (hide S H) (hide S H') := kx_of fun b o h n nk => by
  obtain ⟨n1, h1⟩ := hide_of h
  rw [hide_ne n1]
  refine g.keep b o (fun z => ?_) h1 n
  rw [z, hp] at h1
  exact nk _ _ (Option.some.inj h1).symm
/-- with some hidden, one that is new -/
theorem hide_new (np : H r = none) (hf : There S H) : hide S (upd H r o) r = some o := by
  have n : r ∉ S := fun z => hf r z np
  rw [hide_ne n, upd_same]
theorem dx_newT {xs : List V} {ds : List PyData} (np : H r = none) (hf : There S H) (h : DxA K (hide S H) xs ds) : Dx K (hide S (upd H r (.tup xs))) (.ref r) (.tuple ds) :=
  .tup (.inl (.inl (hide_new np hf))) ((Gr.new np).hkx.dxA h)
theorem dx_newL {xs : List V} {ds : List PyData} (np : H r = none) (hf : There S H) (h : DxA K (hide S H) xs ds) : Dx K (hide S (upd H r (.lst xs))) (.ref r) (.list ds) :=
  .lst (.inl (.inl (hide_new np hf))) ((Gr.new np).hkx.dxA h)
theorem dx_newE (np : H r = none) (hf : There S H) : Dx K (hide S (upd H r (.dK []))) (.ref r) (.dict []) := .emp (hide_new np hf)
theorem There.gr (h : There S H) (g : Gr H H') : There S H' := fun f m z => h f m (g.back f z)
theorem There.upd (h : There S H) : There S (upd H r o) := fun f m z => by
  by_cases c : f = r
  · rw [c, upd_same] at z
    cases z
  · rw [upd_ne c] at z
    exact h f m z
theorem There.cons (h : There S H) (hf : H f ≠ none) : There (f :: S) H := fun b m => by
  rcases List.mem_cons.mp m with rfl | m
  · exact hf
  · exact h b m
theorem There.tail (h : There (f :: S) H) : There S H := fun b m => h b (List.mem_cons_of_mem _ m)
theorem There.nil : There [] H := fun b m => by cases m
end
/-! ### t + u, t[:n], t[n:]: whatever tuple comes -/
def rCatX (K : PySem.W.Frag) : R2 := fun x y H Q => ∃ (S : List Addr) (ds es : List PyData), Dx K (hide S H) x (.tuple ds) ∧ Dx K (hide S H) y (.tuple es) ∧ There S H ∧ ds.length + es.length ≤ sizeLine ∧
  ∀ v H', Gr H H' → Dx K (hide S H') v (.tuple (ds ++ es)) → Q v H'
section
variable {X : Cx}
theorem op_catX : OpR X (binaryOp .Add) (rCatX X.K) := by
  intro pins s σ H x y v u Q I rx ry h
  obtain ⟨f, ds, es, hx, hy, hf, hl, q⟩ := h
  obtain ⟨a, xs, rfl, ha, hxs⟩ := dx_tup hx
  obtain ⟨b, ys, rfl, hb, hys⟩ := dx_tup hy
  have l1 := dxA_len hxs
  have l2 := dxA_len hys
  refine op_catA pins s σ H _ _ v u Q I rx ry ⟨a, b, xs, ys, rfl, rfl, hide_kx.kd.t ha, hide_kx.kd.t hb, by omega, ?_, ?_, ?_⟩
  · rintro rfl
    have e : ds = [] := List.length_eq_zero_iff.mp (by rw [← l1]; rfl)
    subst e
    exact q _ H (Gr.refl H) hy
  · rintro _ rfl
    have e : es = [] := List.length_eq_zero_iff.mp (by rw [← l2]; rfl)
    subst e
    refine q _ H (Gr.refl H) ?_
    rw [List.append_nil]
    exact hx
  · intro _ _ r nr
    exact q _ _ (Gr.new nr) (dx_newT nr hf (dxA_app hxs hys))
/-- [lo:hi], both within it -/
def cutD (ds : List PyData) (lo hi : Option Int) : List PyData := (ds.drop (HT.sIx ds.length 0 lo)).take (HT.sIx ds.length ds.length hi - HT.sIx ds.length 0 lo)
theorem cut_to (ds : List PyData) {n : Nat} (h : n ≤ ds.length) : cutD ds none (some (n : Int)) = ds.take n := by
  unfold cutD
  rw [HT.sIx_none, HT.sIx_nat, Nat.min_eq_left h, List.drop_zero, Nat.sub_zero]
theorem cut_from (ds : List PyData) {n : Nat} (h : n ≤ ds.length) : cutD ds (some (n : Int)) none = ds.drop n := by
  unfold cutD
  rw [HT.sIx_none, HT.sIx_nat, Nat.min_eq_left h]
  refine List.take_of_length_le ?_
  rw [List.length_drop]
  exact Nat.le_refl _
def rSlX (K : PySem.W.Frag) : V → Option Int → Option Int → Hp → VK → Prop := fun x lo hi H Q => ∃ (S : List Addr) (ds : List PyData), Dx K (hide S H) x (.tuple ds) ∧ There S H ∧
  ∀ v H', Gr H H' → Dx K (hide S H') v (.tuple (cutD ds lo hi)) → Q v H'
theorem sl_tupX : SlR X (rSlX X.K) := by
  intro pins s σ H x v vl vu lo hi sl Q I rx hs pl pu h
  obtain ⟨f, ds, hx, hf, q⟩ := h
  obtain ⟨a, xs, rfl, ha, hxs⟩ := dx_tup hx
  have l1 := dxA_len hxs
  refine sl_tupA pins s σ H _ v vl vu lo hi sl Q I rx hs pl pu ⟨a, xs, rfl, hide_kx.kd.t ha, ?_, ?_⟩
  · intro hw
    refine q _ H (Gr.refl H) ?_
    rw [l1] at hw
    have e : cutD ds lo hi = ds := by
      unfold cutD
      rw [hw.1, hw.2, List.drop_zero, Nat.sub_zero, List.take_length]
    rw [e]
    exact hx
  · intro _ r nr
    refine q _ _ (Gr.new nr) (dx_newT nr hf ?_)
    unfold cutV cutD
    rw [l1]
    exact dxA_take _ (dxA_drop _ hxs)
end
end SfG
namespace SfC
open PySem PySem.Spec PyProof.Rows L2 SfG
def topS (i : Nat) : Stmt := PySem.Challenge.pw_sameface_k57_rows_by_their_form.main.body.getD i (.Pass ⟨0, 0, 0, 0⟩)
abbrev sWhole : Stmt := topS 1
abbrev sAmong : Stmt := topS 2
abbrev sTupOf : Stmt := topS 3
abbrev sName : Stmt := topS 4
abbrev sIsArg : Stmt := topS 10
abbrev sRowOf : Stmt := topS 11
abbrev sArgs : Stmt := topS 12
abbrev sIsRow : Stmt := topS 13
abbrev sMixed : Stmt := topS 15
abbrev sDraw : Stmt := topS 16
abbrev sDigit : Stmt := topS 17
abbrev sLName : Stmt := topS 18
abbrev sLArg : Stmt := topS 19
abbrev sLRow : Stmt := topS 20
abbrev sOdd : Stmt := topS 21
abbrev sBent : Stmt := topS 22
abbrev sLIsName : Stmt := topS 23
abbrev sLIsArg : Stmt := topS 24
abbrev sLIsRow : Stmt := topS 25
abbrev sLaw : Stmt := topS 26
end SfC
namespace SfC
open PySem PySem.Spec PyProof.Rows L2 SfG
/-! ### names -/
abbrev letters : Str := "abcdefghijklmnopqrstuvwxyz"
def isLet (c : Nat) : Bool := decide (c ∈ letters.cps.toList)
/-- one to eight small letters -/
def isN (z : Str) : Bool := decide (z.length ≤ 8) && (decide (1 ≤ z.length) && z.cps.toList.all isLet)
theorem let_alpha : ∀ c, c < 128 → Unicode.isAlpha c = (isLet c || (Unicode.isUpper c || Unicode.isTitle c)) := by decide +kernel
theorem let_lower : ∀ c, c < 128 → Unicode.isLower c = isLet c := by decide +kernel
theorem let_upper : ∀ c, c < 128 → isLet c = true → (Unicode.isUpper c || Unicode.isTitle c) = false := by decide +kernel
theorem let_range {c : Nat} (h : isLet c = true) : c < 128 := by
  have h' : c ∈ letters.cps.toList := of_decide_eq_true h
  have e : ∀ d ∈ letters.cps.toList, d < 128 := by decide +kernel
  exact e c h'
theorem name_list : ∀ l : List Nat, (∀ c ∈ l, c < 128) → (l.all Unicode.isAlpha && !(l.any fun c => Unicode.isUpper c || Unicode.isTitle c)) = l.all isLet
  | [], _ => rfl
  | a :: r, h => by
    have ih := name_list r fun c hc => h c (.tail _ hc)
    have ha := h a (.head _)
    rw [List.all_cons, List.any_cons, List.all_cons, ← ih, let_alpha a ha]
    cases hl : isLet a with
    | true =>
      rw [let_upper a ha hl]
      simp
    | false =>
      cases (Unicode.isUpper a || Unicode.isTitle a) <;> simp
theorem name_txt (z : Str) : (Txt.isalpha z && (Txt.islower z && Txt.isascii z)) = (decide (1 ≤ z.length) && z.cps.toList.all isLet) := by
  have hl : z.length = z.cps.toList.length := by simp [Str.length]
  unfold Txt.isalpha Txt.islower Txt.isascii
  rw [← Array.all_toList, ← Array.any_toList, ← Array.any_toList, ← Array.all_toList, hl]
  generalize z.cps.toList = l
  by_cases hc : ∀ c ∈ l, c < 128
  · have h1 : (l.all fun x => decide (x < 128)) = true := List.all_eq_true.mpr fun c h => decide_eq_true (hc c h)
    have e := name_list l hc
    rw [h1, ← e]
    cases l with
    | nil => rfl
    | cons a r =>
      have h2 : (decide ((a :: r).length > 0)) = true := decide_eq_true (by simp)
      have h3 : (decide (1 ≤ (a :: r).length)) = true := decide_eq_true (by simp)
      rw [h2, h3]
      cases hA : (a :: r).all isLet with
      | true =>
        rw [hA] at e
        have hla : isLet a = true := by
          rw [List.all_cons] at hA
          exact (Bool.and_eq_true_iff.mp hA).1
        have hlow : (a :: r).any Unicode.isLower = true := by
          rw [List.any_cons, let_lower a (hc a (.head _)), hla]
          rfl
        rw [hlow]
        simp
      | false =>
        rw [hA] at e
        rw [e]
        cases h4 : (a :: r).all Unicode.isAlpha with
        | false => rfl
        | true =>
          rw [h4] at e
          cases h5 : (a :: r).any fun c => Unicode.isUpper c || Unicode.isTitle c with
          | true => simp
          | false =>
            rw [h5] at e
            cases e
  · have h1 : (l.all fun x => decide (x < 128)) = false := by
      cases h : (l.all fun x => decide (x < 128)) with
      | false => rfl
      | true => exact absurd (fun c hc' => of_decide_eq_true (List.all_eq_true.mp h c hc')) hc
    have h2 : l.all isLet = false := by
      cases h : l.all isLet with
      | false => rfl
      | true => exact absurd (fun c hc' => let_range (List.all_eq_true.mp h c hc')) hc
    rw [h1, h2]
    simp
theorem isN_txt {z : Str} (h : isN z = true) : z.length ≤ 8 ∧ 1 ≤ z.length ∧ Txt.isalpha z = true ∧ Txt.islower z = true ∧ Txt.isascii z = true ∧ z.cps.toList.all isLet = true := by
  unfold isN at h
  rw [← name_txt, Bool.and_eq_true, Bool.and_eq_true, Bool.and_eq_true, decide_eq_true_eq] at h
  have e := name_txt z
  rw [h.2.1, h.2.2.1, h.2.2.2] at e
  have e' := e.symm
  rw [Bool.and_true, Bool.and_true, Bool.and_eq_true, decide_eq_true_eq] at e'
  exact ⟨h.1, e'.1, h.2.1, h.2.2.1, h.2.2.2, e'.2⟩
theorem isN_small {z : Str} (h : isN z = true) : z.length ≤ sizeLine := by
  have h1 := (isN_txt h).1
  rw [sizeLine_eq]
  omega
end SfC
namespace SfC
open PySem PySem.Spec PyProof.Rows L2 SfG
theorem scMixed : FnScope ["_law_cell", "_law_k"] ["_law_cell", "_law_k"] (defScope sMixed) := ⟨rfl, rfl, rfl, by decide +kernel, rfl, by decide +kernel, by decide +kernel⟩
theorem scDraw : FnScope ["_law_cell", "_law_k"] ["_law_cell", "_law_k"] (defScope sDraw) := ⟨rfl, rfl, rfl, by decide +kernel, rfl, by decide +kernel, by decide +kernel⟩
theorem scDigit : FnScope ["_law_state", "_law_many", "_law_j", "_law_found"] ["_law_state", "_law_many"] (defScope sDigit) := ⟨rfl, rfl, rfl, by decide +kernel, rfl, by decide +kernel, by decide +kernel⟩
section
variable {P : Program} {w : World} {K : PySem.W.Frag} {mg : Str → Option Value} {base : Heap}
/-! ### the draws -/
def spMixed : Sp := fun vs H Q _ => ∃ a b : Int, vs = [.int a, .int b] ∧ 0 ≤ b ∧ b ≤ 1000000000 ∧ ∀ r, 0 ≤ r → r < 2147483647 → Q (.int r) H
theorem ok_mixed {f : Addr} {fd : FuncData} {k : Nat} (F : Fun K "_law_mixed" "_law_mixed" sMixed f fd) : FnOk P w K mg base CX0 (k + 1) f fd ["_law_cell", "_law_k"] spMixed := by
  refine F.ok scMixed (fun vs H Q E h => ?_) (fun cdv A outer s H vs Q E hr h => ?_)
  · obtain ⟨a, b, rfl, _⟩ := h
    rfl
  · obtain ⟨a, b, rfl, hb0, hb1, q⟩ := h
    refine ⟨_, pss_cons (ps_set (i := 0) scMixed.nd rfl (.inl rfl) (pe_op op_add (pe_op op_add (pe_op op_mod (pv 0) pe_int) (pe_op op_mul pe_int (pv 1))) pe_int))
      (pss_one (ps_ret (pe_op op_mod (pe_op op_mul (pe_op op_mod (pe_op op_mul (pv 0) (pv 0)) pe_int) pe_int) pe_int))), ?_⟩
    refine ⟨_, rfl, a, 1000000007, rfl, rfl, (by show (0 : Int) < 1000000007; decide), _, rfl, 7919, b, rfl, rfl, .inl ⟨by decide, by decide⟩, _, _, rfl, rfl, _, _, rfl, rfl, ?_⟩
    refine ⟨_, rfl, _, rfl, _, _, rfl, rfl, .inl ⟨?_, ?_⟩, _, 1000000007, rfl, rfl, (by show (0 : Int) < 1000000007; decide), _, 48271, rfl, rfl, .inr ⟨by decide, by decide⟩, _, 2147483647, rfl, rfl, (by show (0 : Int) < 2147483647; decide), q _ ?_ ?_⟩
    · have : (-(2 ^ 64) : Int) = -18446744073709551616 := by decide
      rw [this]
      omega
    · have : ((2 ^ 64) : Int) = 18446744073709551616 := by decide
      rw [this]
      omega
    · exact Int.emod_nonneg _ (by decide)
    · exact Int.emod_lt_of_pos _ (by decide)
/-- the state of a draw -/
abbrev kLeft : Key := Sum.inr ("left" : Str)
abbrev kSeed : Key := Sum.inr ("seed" : Str)
abbrev kTurns : Key := Sum.inr ("turns" : Str)
def kv3 (l s t : Int) : List (Key × V) := [(kLeft, .int l), (kSeed, .int s), (kTurns, .int t)]
def Drw (H : Hp) (p : Addr) (B : Int) : Prop := ∃ l s t, H p = some (.dK (kv3 l s t)) ∧ 0 ≤ l ∧ 0 ≤ t ∧ t ≤ B
theorem kv_left (l s t : Int) : valV (kv3 l s t) kLeft = some (.int l) := rfl
theorem kv_seed (l s t : Int) : valV (kv3 l s t) kSeed = some (.int s) := rfl
theorem kv_turns (l s t : Int) : valV (kv3 l s t) kTurns = some (.int t) := rfl
theorem put_left (l s t l' : Int) : putK (kv3 l s t) kLeft (.int l') = kv3 l' s t := rfl
theorem put_turns (l s t t' : Int) : putK (kv3 l s t) kTurns (.int t') = kv3 l s t' := rfl
theorem get_left {H : Hp} {p : Addr} {l s t : Int} (h : H p = some (.dK (kv3 l s t))) : DGet H p (.str "left") (some (.int l)) := DGet.k (k := kLeft) h
theorem get_seed {H : Hp} {p : Addr} {l s t : Int} (h : H p = some (.dK (kv3 l s t))) : DGet H p (.str "seed") (some (.int s)) := DGet.k (k := kSeed) h
theorem get_turns {H : Hp} {p : Addr} {l s t : Int} (h : H p = some (.dK (kv3 l s t))) : DGet H p (.str "turns") (some (.int t)) := DGet.k (k := kTurns) h
theorem set_left {H : Hp} {p : Addr} {l s t l' : Int} (h : H p = some (.dK (kv3 l s t))) : DPut H p (.str "left") (.int l') (upd H p (.dK (kv3 l' s t))) := DPut.k (k := kLeft) h (by show 3 < sizeLine; decide)
theorem set_turns {H : Hp} {p : Addr} {l s t t' : Int} (h : H p = some (.dK (kv3 l s t))) : DPut H p (.str "turns") (.int t') (upd H p (.dK (kv3 l s t'))) := DPut.k (k := kTurns) h (by show 3 < sizeLine; decide)
theorem gr_new2 {H : Hp} {p : Addr} {o o' : HO} (h : H p = none) : Gr H (upd (upd H p o) p o') := by
  refine Gr.same ?_
  intro b x e
  have n : b ≠ p := ne_of_none e h
  rw [upd_ne n, upd_ne n]
  exact e
def spDraw : Sp := fun vs H Q _ => ∃ a b : Int, vs = [.int a, .int b] ∧ 0 ≤ b ∧ b ≤ 1000 ∧ ∀ H' p, H p = none → Gr H H' → Drw H' p b → Q (.ref p) H'
theorem ok_draw {f fM : Addr} {fd fdM : FuncData} (F : Fun K "_law_draw" "_law_draw" sDraw f fd) (FM : Fun K "_law_mixed" "_law_mixed" sMixed fM fdM) (bM : Binds K fdM ["_law_cell", "_law_k"] []) (gM : mg "_law_mixed" = some (.ref fM)) :
    FnOk P w K mg base CX0 2 f fd ["_law_cell", "_law_k"] spDraw := by
  have GM : FnOk P w K mg base CX0 1 fM fdM ["_law_cell", "_law_k"] spMixed := ok_mixed FM
  refine F.ok scDraw (fun vs H Q E h => ?_) (fun cdv A outer s H vs Q E hr h => ?_)
  · obtain ⟨a, b, rfl, _⟩ := h
    rfl
  · obtain ⟨a, b, rfl, hb0, hb1, q⟩ := h
    refine ⟨_, pss_one (ps_ret (pe_disp (pps_cons pe_str (pe_ifExp (pt_cmpR op_ge (pv 0) (pe_op op_pow pe_int pe_int) (nomark _)) (pv 0) pe_int)
      (pps_cons pe_str (pe_call GM hr (by rfl) gM FM.kp bM .nil pass0 (pa_cons (pv 0) (pa_cons (pv 1) pa_nil)))
      (pps_cons pe_str (pv 1) pps_nil))) (by rfl) (by rfl) (fun z => by cases z) (by decide))), ?_⟩
    intro p np
    have key : ∀ l : Int, 0 ≤ l → tPairs [(tC (V.str "seed"), tCall spMixed [] E0 (tCons (tVar 0) (tCons (tVar 1) tNil))), (tC (V.str "turns"), tVar 1)] (L2.start ["_law_cell", "_law_k"] [V.int a, V.int b]) (upd H p (.dK []))
        (fun ps H3 => H3 p = some (.dK []) ∧ ∃ kvs : List (Key × V), (V.str "left", V.int l) :: ps = kvs.map (fun kv => (kV kv.1, kv.2)) ∧ kvs.length ≤ 15 ∧ Q (.ref p) (upd H3 p (.dK (mergeK [] kvs)))) := by
      intro l hl
      refine ⟨_, rfl, _, rfl, a, b, rfl, hb0, by omega, ?_⟩
      intro r h0 h1
      refine ⟨_, rfl, upd_same, kv3 l r b, rfl, by show 3 ≤ 15; decide, ?_⟩
      refine q _ p np ?_ ⟨l, r, b, ?_, hl, hb0, Int.le_refl b⟩
      · exact gr_new2 np
      · rw [upd_same]
        rfl
    refine ⟨_, rfl, 10, 18, rfl, rfl, ⟨by decide, by decide, by decide⟩, _, _, rfl, rfl, _, rfl, ite2 (fun e => ?_) (fun e => ?_)⟩
    · have e' : a ≥ 10 ^ 18 := of_decide_eq_true e
      refine ⟨_, rfl, key a ?_⟩
      have : (0 : Int) ≤ 10 ^ 18 := by decide
      omega
    · exact key 0 (by decide)
def spDigit : Sp := fun vs H Q _ => ∃ (p : Addr) (m B : Int), vs = [.ref p, .int m] ∧ Drw H p B ∧ B ≤ 100000 ∧ 0 < m ∧ m ≤ 1000000000 ∧
  ∀ H' d, But p H H' → Drw H' p (B + 1) → 0 ≤ d → d < m → Q (.int d) H'
theorem ok_digit {f fM : Addr} {fd fdM : FuncData} (F : Fun K "_law_digit" "_law_digit" sDigit f fd) (FM : Fun K "_law_mixed" "_law_mixed" sMixed fM fdM) (bM : Binds K fdM ["_law_cell", "_law_k"] []) (gM : mg "_law_mixed" = some (.ref fM)) (mr : mg "range" = none) :
    FnOk P w K mg base CX0 2 f fd ["_law_state", "_law_many"] spDigit := by
  have GM : FnOk P w K mg base CX0 1 fM fdM ["_law_cell", "_law_k"] spMixed := ok_mixed FM
  refine F.ok scDigit (fun vs H Q E h => ?_) (fun cdv A outer s H vs Q E hr h => ?_)
  · obtain ⟨p, m, B, rfl, _⟩ := h
    rfl
  · obtain ⟨p, m, B, rfl, ⟨l, sd, t, hp, hl, ht, htB⟩, hB, hm0, hm1, q⟩ := h
    refine ⟨_, pss_cons (ps_if (pt_cmpR op_eq (pe_dget (hu_of hr) (pv 0) pe_str (fun _ _ => rfl)) pe_int (nomark _))
        (pss_cons (ps_dput (hu_of hr) (pv 0) pe_str (pe_op op_add (pe_dget (hu_of hr) (pv 0) pe_str (fun _ _ => rfl)) pe_int) rfl)
        (pss_one (ps_for PassesOwn.never rfl (pi_range1 rfl mr (pa_cons pe_int pa_nil)) (pg_name (i := 2) scDigit.nd rfl (Or.inl rfl))
          (pss_one (ps_dput (hu_of hr) (pv 0) pe_str (pe_op op_add (pe_op op_mul (pe_dget (hu_of hr) (pv 0) pe_str (fun _ _ => rfl)) pe_int)
            (pe_call GM hr (by rfl) gM FM.kp bM .nil pass0 (pa_cons (pe_dget (hu_of hr) (pv 0) pe_str (fun _ _ => rfl)) (pa_cons (pe_op op_add (pe_op op_mul pe_int (pe_dget (hu_of hr) (pv 0) pe_str (fun _ _ => rfl))) (pv 2)) pa_nil)))) rfl))))) pss_nil)
      (pss_cons (ps_set (i := 3) scDigit.nd rfl (.inl rfl) (pe_op op_mod (pe_dget (hu_of hr) (pv 0) pe_str (fun _ _ => rfl)) (pv 1)))
      (pss_cons (ps_dput (hu_of hr) (pv 0) pe_str (pe_op op_fdivW (pe_dget (hu_of hr) (pv 0) pe_str (fun _ _ => rfl)) (pv 1)) rfl)
      (pss_one (ps_ret (pv 3))))), ?_⟩
    -- what follows the if
    have tail : ∀ (H1 : Hp) (l1 s1 t1 : Int) (y2 y3 : Option V), But p H H1 → H1 p = some (.dK (kv3 l1 s1 t1)) → 0 ≤ l1 → 0 ≤ t1 → t1 ≤ B + 1 →
        tSeq (tAsg (tOp (rI (fun _ j => 0 < j) fun i j => .int (i % j)) (tDGet (tVar 0) (tC (.str "left"))) (tVar 1)) (gName 3))
          (tSeq (sDPut (tVar 0) (tC (.str "left")) (tOp (rI CDivW fun i j => .int (i / j)) (tDGet (tVar 0) (tC (.str "left"))) (tVar 1))) (tRet (tVar 3)))
          { nx := fun _ H' => Q .non H', rt := Q } [some (.ref p), some (.int m), y2, y3] H1 := by
      intro H1 l1 s1 t1 y2 y3 hb h1 hl1 ht1 htb
      refine ⟨_, rfl, p, _, rfl, get_left h1, _, rfl, l1, m, rfl, rfl, hm0, ?_⟩
      refine ⟨_, rfl, p, _, rfl, get_left h1, _, rfl, l1, m, rfl, rfl, wide_div (b := 40) hm0 ?_ (by decide) (by decide), _, rfl, p, _, rfl, set_left h1, _, rfl, q _ _ hb.upd ⟨l1 / m, s1, t1, upd_same, ?_, ht1, htb⟩ ?_ ?_⟩
      · have : (2 : Nat) ^ 40 = 1099511627776 := by decide
        rw [this]
        omega
      · exact Int.ediv_nonneg hl1 (by omega)
      · exact Int.emod_nonneg _ (by omega)
      · exact Int.emod_lt_of_pos _ hm0
    refine ⟨_, rfl, p, _, rfl, get_left hp, rfl, _, rfl, ite2 (fun e => ?_) (fun e => ?_)⟩
    · -- state['turns'] = state['turns'] + 1
      refine ⟨_, rfl, p, _, rfl, get_turns hp, t, 1, rfl, rfl, _, rfl, p, _, rfl, set_turns hp, ?_⟩
      refine ⟨4, rfl, by decide, by decide, for_range (n := 4) (fun i σ H1 => ∃ (l1 : Int) (y2 : Option V), σ = [some (.ref p), some (.int m), y2, none] ∧ But p H H1 ∧ H1 p = some (.dK (kv3 l1 sd (t + 1))) ∧ 0 ≤ l1) ?_ ?_ ?_⟩
      · exact ⟨l, none, rfl, But.upd (fun _ _ => rfl), upd_same, hl⟩
      · rintro i σ H1 hi ⟨l1, y2, rfl, hb, h1, hl1⟩
        refine ⟨_, rfl, p, _, rfl, get_left h1, l1, 2147483647, rfl, rfl, .inr ⟨by decide, by decide⟩, ?_⟩
        refine ⟨_, rfl, p, _, rfl, get_seed h1, _, rfl, p, _, rfl, get_turns h1, 4, t + 1, rfl, rfl, .inl ⟨by decide, by decide⟩, _, rfl, _, _, rfl, rfl, sd, _, rfl, by omega, by omega, ?_⟩
        intro r h0 hr1
        refine ⟨_, _, rfl, rfl, _, rfl, p, _, rfl, set_left h1, _, _, rfl, hb.upd, upd_same, ?_⟩
        have : 0 ≤ l1 * 2147483647 := Int.mul_nonneg hl1 (by decide)
        omega
      · rintro σ H1 ⟨l1, y2, rfl, hb, h1, hl1⟩
        exact tail H1 l1 sd (t + 1) y2 none hb h1 hl1 (by omega) (by omega)
    · exact tail H l sd t none none (fun _ _ => rfl) hp hl ht (by omega)
end
end SfC
namespace SfC
open PySem PySem.Spec PyProof.Rows L2 SfG
theorem Drw.gr {H H' : Hp} {p : Addr} {B : Int} (d : Drw H p B) (g : Gr H H') : Drw H' p B := by
  obtain ⟨l, s, t, h, r⟩ := d
  exact ⟨l, s, t, g.dic h, r⟩
theorem Drw.ne {H : Hp} {p q : Addr} {B : Int} (d : Drw H p B) (h : H q = none) : q ≠ p := by
  obtain ⟨l, s, t, e, _⟩ := d
  intro z
  rw [z, e] at h
  cases h
theorem Drw.new {H : Hp} {p q : Addr} {B : Int} {o : HO} (d : Drw H p B) (h : H q = none) : Drw (upd H q o) p B := d.gr (Gr.new h)
theorem Drw.mono {H : Hp} {p : Addr} {B B' : Int} (d : Drw H p B) (h : B ≤ B') : Drw H p B' := by
  obtain ⟨l, s, t, e, h1, h2, h3⟩ := d
  exact ⟨l, s, t, e, h1, h2, Int.le_trans h3 h⟩
theorem Drw.upd {H : Hp} {p q : Addr} {B : Int} {o : HO} (d : Drw H p B) (h : q ≠ p) : Drw (upd H q o) p B := by
  obtain ⟨l, s, t, e, r⟩ := d
  exact ⟨l, s, t, (upd_ne (Ne.symm h)).trans e, r⟩
theorem small1000 {n : Nat} (h : n ≤ 1000) : n < sizeLine := by
  rw [sizeLine_eq]
  omega
/-! ### texts of letters -/
theorem joinL_mem {ls : List (List Nat)} {c : Nat} (h : c ∈ TL.joinL [] ls) : ∃ l ∈ ls, c ∈ l := by
  induction ls with
  | nil => cases h
  | cons p r ih =>
    cases r with
    | nil => exact ⟨p, List.mem_cons_self, h⟩
    | cons q r =>
      have h' : c ∈ p ++ ([] ++ TL.joinL [] (q :: r)) := h
      rcases List.mem_append.mp h' with h1 | h1
      · exact ⟨p, List.mem_cons_self, h1⟩
      · obtain ⟨l, hl, hc⟩ := ih (by simpa using h1)
        exact ⟨l, List.mem_cons_of_mem _ hl, hc⟩
theorem joinL_len {ls : List (List Nat)} (h : ∀ l ∈ ls, l.length = 1) : (TL.joinL [] ls).length = ls.length := by
  induction ls with
  | nil => rfl
  | cons p r ih =>
    have hp := h p List.mem_cons_self
    have hr := ih fun l hl => h l (List.mem_cons_of_mem _ hl)
    cases r with
    | nil => exact hp
    | cons q r =>
      show (p ++ ([] ++ TL.joinL [] (q :: r))).length = _
      rw [List.length_append, List.nil_append, hr, hp]
      simp
      omega
abbrev nought : Str := ""
theorem len_list (z : Str) : z.length = z.cps.toList.length := by simp [Str.length]
/-- one letter -/
def one (y : Str) : Prop := ∃ c, y = ⟨#[c]⟩ ∧ isLet c = true
theorem join_name {acc : List Str} (h : ∀ y ∈ acc, one y) (h1 : 1 ≤ acc.length) (h8 : acc.length ≤ 8) : isN (Txt.join nought acc) = true := by
  have hl : (Txt.join nought acc).length = acc.length := by
    have e : (TL.tl (Txt.join nought acc)).length = acc.length := by
      rw [TL.join_eq, TL.tl_join]
      rw [show TL.tl nought = [] from rfl, joinL_len, List.length_map]
      intro l hl
      obtain ⟨y, hy, rfl⟩ := List.mem_map.mp hl
      obtain ⟨c, rfl, _⟩ := h y hy
      rfl
    rw [len_list]
    exact e
  unfold isN
  rw [hl, decide_eq_true h8, decide_eq_true h1]
  refine List.all_eq_true.mpr fun c hc => ?_
  have hc' : c ∈ TL.tl (Str.join nought acc) := by
    rw [← TL.join_eq]
    exact hc
  rw [TL.tl_join] at hc'
  obtain ⟨l, hl', hcl⟩ := joinL_mem hc'
  obtain ⟨y, hy, rfl⟩ := List.mem_map.mp hl'
  obtain ⟨d, rfl, hd⟩ := h y hy
  have e : c = d := by simpa [TL.tl] using hcl
  rw [e]
  exact hd
theorem sum_ones : ∀ {acc : List Str}, (∀ y ∈ acc, y.length = 1) → (acc.map (·.length)).sum = acc.length
  | [], _ => rfl
  | a :: r, h => by
    rw [List.map_cons, List.sum_cons, h a List.mem_cons_self, sum_ones fun y hy => h y (List.mem_cons_of_mem _ hy), List.length_cons]
    omega
theorem letter_at {d : Int} (h0 : 0 ≤ d) (h1 : d < 26) : ∃ c, letters.cps[d.toNat]? = some c ∧ isLet c = true := by
  have e : ∀ n : Nat, n < 26 → ∃ c, letters.cps[n]? = some c ∧ isLet c = true := by
    intro n hn
    have hs : letters.cps.size = 26 := by decide +kernel
    refine ⟨letters.cps[n]'(by omega), by simp [show n < letters.cps.size by omega], ?_⟩
    unfold isLet
    exact decide_eq_true (by simp)
  exact e d.toNat (by omega)
end SfC
namespace SfC
open PySem PySem.Spec PyProof.Rows L2 SfG
/-! ### what is a name, an argument, a row -/
def nmD : PyData → Bool
  | .str z => isN z
  | _ => false
def argD : PyData → Bool
  | .tuple [a, b] => if eqS a "name" = true then nmD b else if eqS a "number" = true then amD b 0 8 else (eqS a "input" && amD b 0 2)
  | _ => false
def argsD : PyData → Bool
  | .tuple ds => decide ((ds.length : Int) ≤ 3) && ds.all argD
  | _ => false
/-- how many things stand behind a row's word -/
def rsz (z : Str) : Option V := if z = "let" then some (.int 4) else if z = "pick" then some (.int 4) else if z = "say" then some (.int 1) else none
def rofD : PyData → Bool
  | .tuple (.str z :: r) => decide (r.length ≤ 4) && decide ((rsz z).getD .non = .int (r.length : Int))
  | _ => false
def rowD (d : PyData) : Bool := rofD d && (match d with
  | .tuple (a :: r) => if eqS a "say" = true then argD (r.getD 0 .none)
      else if eqS a "pick" = true then nmD (r.getD 0 .none) && argsD (.tuple (r.drop 1))
      else ((r.take 3).all nmD && argsD (r.getD 3 .none))
  | _ => false)
theorem scWhole : FnScope ["thing"] ["thing"] (defScope sWhole) := ⟨rfl, rfl, rfl, by decide +kernel, rfl, by decide +kernel, by decide +kernel⟩
theorem scAmong : FnScope ["thing", "least", "most"] ["thing", "least", "most"] (defScope sAmong) := ⟨rfl, rfl, rfl, by decide +kernel, rfl, by decide +kernel, by decide +kernel⟩
theorem scTupOf : FnScope ["thing", "least", "most"] ["thing", "least", "most"] (defScope sTupOf) := ⟨rfl, rfl, rfl, by decide +kernel, rfl, by decide +kernel, by decide +kernel⟩
theorem scName : FnScope ["thing"] ["thing"] (defScope sName) := ⟨rfl, rfl, rfl, by decide +kernel, rfl, by decide +kernel, by decide +kernel⟩
theorem scIsArg : FnScope ["thing", "word", "told"] ["thing"] (defScope sIsArg) := ⟨rfl, rfl, rfl, by decide +kernel, rfl, by decide +kernel, by decide +kernel⟩
section
variable {P : Program} {w : World} {K : PySem.W.Frag} {mg : Str → Option Value} {base : Heap}
def spWhole (K : PySem.W.Frag) : Sp := fun vs H Q _ => ∃ (x : V) (d : PyData), vs = [x] ∧ Dx K H x d ∧ Q (.bl (whD d)) H
theorem ok_whole {f : Addr} {fd : FuncData} {k : Nat} (F : Fun K "is_whole" "is_whole" sWhole f fd) (mi : mg "isinstance" = none) (m1 : mg "int" = none) :
    FnOk P w K mg base CX0 (k + 1) f fd ["thing"] (spWhole K) := by
  refine F.ok scWhole (fun vs H Q E h => ?_) (fun cdv A outer s H vs Q E hr h => ?_)
  · obtain ⟨x, d, rfl, _⟩ := h
    rfl
  · obtain ⟨x, d, rfl, hx, q⟩ := h
    have hi := dx_is hx
    refine ⟨_, pss_one (ps_ret (pe_and (pe_isi "int" 0 mi m1 (by decide +kernel)) (pe_and (pe_cmpR op_notBx (pv 0) pe_bl (nomark _)) (pe_one (pe_cmpR op_notBx (pv 0) pe_bl (nomark _)))))), ?_⟩
    refine ⟨x, rfl, _, _, hi.1, kit_int _ hi.2, _, rfl, ?_⟩
    cases d with
    | int i =>
      cases dx_int hx
      exact iteT ⟨_, rfl, true, rfl, .inr ⟨i, rfl, _, rfl, iteT ⟨_, rfl, false, rfl, .inr ⟨i, rfl, q⟩⟩⟩⟩
    | bool b =>
      cases dx_bool hx
      cases b with
      | true => exact iteT ⟨_, rfl, true, rfl, .inl ⟨true, rfl, _, rfl, iteF q⟩⟩
      | false => exact iteT ⟨_, rfl, true, rfl, .inl ⟨false, rfl, _, rfl, iteT ⟨_, rfl, false, rfl, .inl ⟨false, rfl, q⟩⟩⟩⟩
    | _ => exact iteF q
def spAmong (K : PySem.W.Frag) : Sp := fun vs H Q _ => ∃ (x : V) (d : PyData) (lo hi : Int), vs = [x, .int lo, .int hi] ∧ Dx K H x d ∧ Q (.bl (amD d lo hi)) H
theorem ok_among {f fW : Addr} {fd fdW : FuncData} {k : Nat} (F : Fun K "is_among" "is_among" sAmong f fd) (HW : Has P w K mg base (k + 1) "is_whole" ["thing"] (spWhole K) fW fdW) :
    FnOk P w K mg base CX0 (k + 2) f fd ["thing", "least", "most"] (spAmong K) := by
  refine F.ok scAmong (fun vs H Q E h => ?_) (fun cdv A outer s H vs Q E hr h => ?_)
  · obtain ⟨x, d, lo, hi, rfl, _⟩ := h
    rfl
  · obtain ⟨x, d, lo, hi, rfl, hx, q⟩ := h
    refine ⟨_, pss_one (ps_ret (pe_and (hcall HW hr (pa_cons (pv 0) pa_nil)) (pe_and (hcall HW hr (pa_cons (pv 1) pa_nil)) (pe_and (hcall HW hr (pa_cons (pv 2) pa_nil)) (pe_one (pe_chain op_le op_le (pv 1) (pv 0) (pv 2))))))), ?_⟩
    refine ⟨_, rfl, x, d, rfl, hx, _, rfl, ?_⟩
    cases d with
    | int i =>
      cases dx_int hx
      refine iteT ⟨_, rfl, _, .int lo, rfl, .int lo, _, rfl, iteT ⟨_, rfl, _, .int hi, rfl, .int hi, _, rfl, iteT ?_⟩⟩
      refine ⟨_, rfl, _, rfl, lo, i, rfl, rfl, _, rfl, ?_⟩
      simp only [amD] at q
      cases h1 : decide (lo ≤ i) with
      | true =>
        rw [h1] at q
        exact iteT ⟨_, rfl, i, hi, rfl, rfl, q⟩
      | false =>
        rw [h1] at q
        exact iteF q
    | _ => exact iteF q
def spTupOf (K : PySem.W.Frag) : Sp := fun vs H Q _ => ∃ (x : V) (d : PyData) (lo hi : Int), vs = [x, .int lo, .int hi] ∧ Dx K H x d ∧ Q (.bl (tupD d lo hi)) H
theorem ok_tupOf {f : Addr} {fd : FuncData} {k : Nat} (F : Fun K "is_tuple_of" "is_tuple_of" sTupOf f fd) (mi : mg "isinstance" = none) (mt : mg "tuple" = none) (ml : mg "len" = none) :
    FnOk P w K mg base CX0 (k + 1) f fd ["thing", "least", "most"] (spTupOf K) := by
  refine F.ok scTupOf (fun vs H Q E h => ?_) (fun cdv A outer s H vs Q E hr h => ?_)
  · obtain ⟨x, d, lo, hi, rfl, _⟩ := h
    rfl
  · obtain ⟨x, d, lo, hi, rfl, hx, q⟩ := h
    have hI := dx_is hx
    refine ⟨_, pss_one (ps_ret (pe_and (pe_isi "tuple" 0 mi mt (by decide +kernel)) (pe_one (pe_chain op_le op_le (pv 1) (pe_callB call_len_seq (by rfl) ml PySem.boot_len (pa_cons (pv 0) pa_nil)) (pv 2))))), ?_⟩
    refine ⟨x, rfl, _, _, hI.1, kit_tuple _ hI.2, _, rfl, ?_⟩
    cases d with
    | tuple ds =>
      obtain ⟨p, xs, rfl, hp, hxs⟩ := dx_tup hx
      have hl : xs.length = ds.length := dxA_len hxs
      refine iteT ⟨_, rfl, _, rfl, p, xs, rfl, .inr hp, lo, _, rfl, rfl, _, rfl, ?_⟩
      rw [hl]
      simp only [tupD] at q
      cases h1 : decide (lo ≤ (ds.length : Int)) with
      | true =>
        rw [h1] at q
        exact iteT ⟨_, rfl, _, hi, rfl, rfl, q⟩
      | false =>
        rw [h1] at q
        exact iteF q
    | _ => exact iteF q
/-- texts that are not too long -/
def fitS (d : PyData) : Prop := ∀ z, d = .str z → z.length ≤ sizeLine
def spName (K : PySem.W.Frag) : Sp := fun vs H Q _ => ∃ (x : V) (d : PyData), vs = [x] ∧ Dx K H x d ∧ fitS d ∧ Q (.bl (nmD d)) H
theorem isN_by (z : Str) : isN z = (decide ((z.length : Int) ≤ 8) && (Txt.isalpha z && (Txt.islower z && Txt.isascii z))) := by
  unfold isN
  rw [name_txt]
  have e : decide (z.length ≤ 8) = decide ((z.length : Int) ≤ 8) := by
    by_cases c : z.length ≤ 8
    · rw [decide_eq_true c, decide_eq_true (by omega)]
    · rw [decide_eq_false c, decide_eq_false (by omega)]
  rw [e]
theorem ok_name {f : Addr} {fd : FuncData} {k : Nat} (F : Fun K "is_name" "is_name" sName f fd) (mi : mg "isinstance" = none) (m1 : mg "str" = none) (ml : mg "len" = none) :
    FnOk P w K mg base CX0 (k + 1) f fd ["thing"] (spName K) := by
  refine F.ok scName (fun vs H Q E h => ?_) (fun cdv A outer s H vs Q E hr h => ?_)
  · obtain ⟨x, d, rfl, _⟩ := h
    rfl
  · obtain ⟨x, d, rfl, hx, hz, q⟩ := h
    have hI := dx_is hx
    refine ⟨_, pss_one (ps_ret (pe_and (pe_isi "str" 0 mi m1 (by decide +kernel))
      (pe_and (pe_cmpR op_le (pe_callB call_len_str (by rfl) ml PySem.boot_len (pa_cons (pv 0) pa_nil)) pe_int (nomark _))
      (pe_and (pe_m0 PySem.F.slot_str_isalpha PySem.F.type_str_isalpha mt_isalpha (pv 0))
      (pe_and (pe_m0 PySem.F.slot_str_islower PySem.F.type_str_islower mt_islower (pv 0))
      (pe_one (pe_m0 PySem.F.slot_str_isascii PySem.F.type_str_isascii mt_isascii (pv 0)))))))), ?_⟩
    refine ⟨x, rfl, _, _, hI.1, kit_str _ hI.2, _, rfl, ?_⟩
    cases d with
    | str z =>
      cases dx_str hx
      have q' : Q (.bl (isN z)) H := q
      rw [isN_by] at q'
      refine iteT ⟨_, rfl, z, rfl, hz z rfl, _, 8, rfl, rfl, _, rfl, ?_⟩
      cases h1 : decide ((z.length : Int) ≤ 8) with
      | false =>
        rw [h1] at q'
        exact iteF q'
      | true =>
        rw [h1, Bool.true_and] at q'
        refine iteT ⟨_, rfl, ⟨z, rfl⟩, z, rfl, rfl, trivial, _, rfl, ?_⟩
        cases h2 : Txt.isalpha z with
        | false =>
          rw [h2] at q'
          exact iteF q'
        | true =>
          rw [h2, Bool.true_and] at q'
          refine iteT ⟨_, rfl, ⟨z, rfl⟩, z, rfl, rfl, trivial, _, rfl, ?_⟩
          cases h3 : Txt.islower z with
          | false =>
            rw [h3] at q'
            exact iteF q'
          | true =>
            rw [h3, Bool.true_and] at q'
            exact iteT ⟨_, rfl, ⟨z, rfl⟩, z, rfl, rfl, trivial, q'⟩
    | _ => exact iteF q
end
end SfC
namespace SfC
open PySem PySem.Spec PyProof.Rows L2 SfG
/-- data that is not too great -/
abbrev Go (d : PyData) : Prop := Wt d 1000000 60
theorem Go.fit {d : PyData} (h : Go d) : fitS d := by
  rintro z rfl
  have := h.text
  rw [sizeLine_eq]
  omega
theorem Go.at {ds : List PyData} {i : Nat} {d : PyData} (h : Go (.tuple ds)) (e : ds[i]? = some d) : Go d := h.un.1.get e
abbrev nRowOf : List Str := ["thing"]
abbrev nArgs : List Str := ["thing", "arg"]
abbrev nIsRow : List Str := ["thing", "name"]
theorem scRowOf : FnScope nRowOf ["thing"] (defScope sRowOf) := ⟨rfl, rfl, rfl, by decide +kernel, rfl, by decide +kernel, by decide +kernel⟩
theorem scArgs : FnScope nArgs ["thing"] (defScope sArgs) := ⟨rfl, rfl, rfl, by decide +kernel, rfl, by decide +kernel, by decide +kernel⟩
theorem scIsRow : FnScope nIsRow ["thing"] (defScope sIsRow) := ⟨rfl, rfl, rfl, by decide +kernel, rfl, by decide +kernel, by decide +kernel⟩
theorem boot_isi : bootBuiltins "isinstance" = some (.builtin "isinstance") := by decide +kernel
theorem boot_all : bootBuiltins "all" = some (.builtin "all") := by decide +kernel
theorem two_or : ∀ d : PyData, (tupD d 2 2 = false ∧ argD d = false) ∨ ∃ a b, d = .tuple [a, b]
  | .tuple [a, b] => .inr ⟨a, b, rfl⟩
  | .tuple [] => .inl ⟨rfl, rfl⟩
  | .tuple [_] => .inl ⟨rfl, rfl⟩
  | .tuple (_ :: _ :: _ :: r) => by
    refine .inl ⟨?_, rfl⟩
    simp only [tupD, List.length_cons]
    rw [Bool.and_eq_false_iff]
    exact .inr (decide_eq_false (by omega))
  | .none => .inl ⟨rfl, rfl⟩
  | .bool _ => .inl ⟨rfl, rfl⟩
  | .int _ => .inl ⟨rfl, rfl⟩
  | .str _ => .inl ⟨rfl, rfl⟩
  | .list _ => .inl ⟨rfl, rfl⟩
  | .dict _ => .inl ⟨rfl, rfl⟩
section
variable {P : Program} {w : World} {K : PySem.W.Frag} {mg : Str → Option Value} {base : Heap}
def spIsArg (K : PySem.W.Frag) : Sp := fun vs H Q _ => ∃ (x : V) (d : PyData), vs = [x] ∧ Dx K H x d ∧ Go d ∧ Q (.bl (argD d)) H
theorem ok_isArg {f fT fN fA : Addr} {fd fdT fdN fdA : FuncData} {k : Nat} {t3 t8 : Tok} (F : Fun K "is_arg" "is_arg" sIsArg f fd) (HT : Has P w K mg base (k + 2) "is_tuple_of" ["thing", "least", "most"] (spTupOf K) fT fdT)
    (HN : Has P w K mg base (k + 2) "is_name" ["thing"] (spName K) fN fdN) (HA : Has P w K mg base (k + 2) "is_among" ["thing", "least", "most"] (spAmong K) fA fdA)
    (m8 : mg "MOST_NUMBER" = some (.int 8 t8)) (m3 : mg "MOST_INPUTS" = some (.int 3 t3)) : FnOk P w K mg base CX0 (k + 3) f fd ["thing"] (spIsArg K) := by
  refine F.ok scIsArg (fun vs H Q E h => ?_) (fun cdv A outer s H vs Q E hr h => ?_)
  · obtain ⟨x, d, rfl, _⟩ := h
    rfl
  · obtain ⟨x, d, rfl, hx, go, q⟩ := h
    have nd := scIsArg.nd
    refine' ⟨_, pss_cons ?s1 (pss_cons ?s2 (pss_cons ?s3 (pss_cons ?s4 (pss_one ?s5)))), ?rd⟩
    case s1 => exact ps_if (pt_not (pt_val (hcall HT hr (pa_cons (pv 0) (pa_cons pe_int (pa_cons pe_int pa_nil)))))) (pss_one (ps_ret pe_bl)) pss_nil
    case s2 => exact ps_asg (pv 0) (pg_tup rfl (pgs_cons (pg_name (i := 1) nd rfl (.inl rfl)) (pgs_cons (pg_name (i := 2) nd rfl (.inl rfl)) pgs_nil)))
    case s3 => exact ps_if (pt_cmpR (op_eqXS hr) (pv 1) pe_str (nomark _)) (pss_one (ps_ret (hcall HN hr (pa_cons (pv 2) pa_nil)))) pss_nil
    case s4 => exact ps_if (pt_cmpR (op_eqXS hr) (pv 1) pe_str (nomark _)) (pss_one (ps_ret (hcall HA hr (pa_cons (pv 2) (pa_cons pe_int (pa_cons (pe_glob (v := .int 8) rfl m8 ⟨_, rfl⟩) pa_nil)))))) pss_nil
    case s5 => exact ps_ret (pe_and (pe_cmpR (op_eqXS hr) (pv 1) pe_str (nomark _)) (pe_one (hcall HA hr (pa_cons (pv 2) (pa_cons pe_int (pa_cons (pe_op op_sub (pe_glob (v := .int 3) rfl m3 ⟨_, rfl⟩) pe_int) pa_nil))))))
    case rd =>
    refine ⟨_, rfl, x, d, 2, 2, rfl, hx, _, rfl, ?_⟩
    rcases two_or d with ⟨h1, h2⟩ | ⟨a, b, rfl⟩
    · rw [h2] at q
      rw [h1]
      exact iteT q
    obtain ⟨p, xs, rfl, hp, hxs⟩ := dx_tup hx
    obtain ⟨u, r, rfl, hu, hr1⟩ := dxA_cons hxs
    obtain ⟨v, r, rfl, hv, hr2⟩ := dxA_cons hr1
    cases dxA_nil hr2
    have gb : Go b := go.at (i := 1) rfl
    refine iteF ⟨_, rfl, p, [u, v], rfl, hp, rfl, u, [v], rfl, v, [], rfl, rfl, ?_⟩
    refine ⟨_, rfl, a, "name", hu, rfl, _, rfl, ?_⟩
    have q' : Q (.bl (if eqS a "name" = true then nmD b else if eqS a "number" = true then amD b 0 8 else (eqS a "input" && amD b 0 2))) H := q
    cases c1 : eqS a "name" with
    | true =>
      rw [c1] at q'
      exact iteT ⟨_, rfl, v, b, rfl, hv, gb.fit, q'⟩
    | false =>
    rw [c1, if_neg (by decide)] at q'
    refine iteF ⟨_, rfl, a, "number", hu, rfl, _, rfl, ?_⟩
    cases c2 : eqS a "number" with
    | true =>
      rw [c2] at q'
      exact iteT ⟨_, rfl, v, b, 0, 8, rfl, hv, q'⟩
    | false =>
    rw [c2, if_neg (by decide)] at q'
    refine iteF ⟨_, rfl, a, "input", hu, rfl, _, rfl, ?_⟩
    cases c3 : eqS a "input" with
    | false =>
      rw [c3] at q'
      exact iteF q'
    | true =>
      rw [c3] at q'
      exact iteT ⟨_, rfl, 3, 1, rfl, rfl, v, b, 0, 2, rfl, hv, q'⟩
end
end SfC
namespace SfC
open PySem PySem.Spec PyProof.Rows L2 SfG
section
variable {P : Program} {w : World} {K : PySem.W.Frag} {mg : Str → Option Value} {base : Heap}
theorem at_0 (u : V) (r : List V) : atI (u :: r) 0 = some u := atI_nat (xs := u :: r) (j := 0) rfl
theorem bls (f : PyData → Bool) (ds : List PyData) : (ds.map fun d => V.bl (f d)) = (ds.map f).map V.bl := by rw [List.map_map]; rfl
theorem all_id (f : PyData → Bool) (ds : List PyData) : (ds.map f).all id = ds.all f := by rw [List.all_map]; rfl
theorem tup_few {ds : List PyData} {n : Int} (h : tupD (.tuple ds) 0 n = true) : (ds.length : Int) ≤ n := by
  simp only [tupD] at h
  rw [Bool.and_eq_true] at h
  exact of_decide_eq_true h.2
theorem argsD_tup (ds : List PyData) : argsD (.tuple ds) = (tupD (.tuple ds) 0 3 && ds.all argD) := by
  simp only [tupD, argsD]
  rw [decide_eq_true (show (0 : Int) ≤ (ds.length : Int) by omega), Bool.true_and]
def spArgs (K : PySem.W.Frag) : Sp := fun vs H Q _ => ∃ (x : V) (d : PyData), vs = [x] ∧ Dx K H x d ∧ Go d ∧ ∀ H', Gr H H' → Q (.bl (argsD d)) H'
theorem ok_args {f fT fA : Addr} {fd fdT fdA : FuncData} {k : Nat} {t3 : Tok} (F : Fun K "are_args" "are_args" sArgs f fd) (HT : Has P w K mg base (k + 3) "is_tuple_of" ["thing", "least", "most"] (spTupOf K) fT fdT)
    (HA : Has P w K mg base (k + 3) "is_arg" ["thing"] (spIsArg K) fA fdA) (m3 : mg "MOST_ARGS" = some (.int 3 t3)) (ma : mg "all" = none) : FnOk P w K mg base CX0 (k + 4) f fd ["thing"] (spArgs K) := by
  refine F.ok scArgs (fun vs H Q E h => ?_) (fun cdv A outer s H vs Q E hr h => ?_)
  · obtain ⟨x, d, rfl, _⟩ := h
    rfl
  · obtain ⟨x, d, rfl, hx, go, q⟩ := h
    have nd := scArgs.nd
    refine ⟨_, pss_one (ps_ret (pe_and (hcall HT hr (pa_cons (pv 0) (pa_cons pe_int (pa_cons (pe_glob (v := .int 3) rfl m3 ⟨_, rfl⟩) pa_nil)))) (pe_one (pe_callB (cr_all rfl) (by rfl) ma boot_all (pa_cons
      (pe_lc (own := [("arg", 1)]) (g := gName 1) rfl nd (pi_tup (pv 0)) (blkOk_by (own := [("arg", 1)]) (N := nArgs) (sc := defScope sArgs) (by decide +kernel)) (fun _ _ _ _ _ => pg_name (i := 1) nd rfl (Or.inl rfl)) (fun _ _ _ _ _ => pts_nil)
        (fun _ _ _ _ _ => hcall HA hr (pa_cons (pv 1) pa_nil))) pa_nil))))), ?_⟩
    refine ⟨_, rfl, x, d, 0, 3, rfl, hx, _, rfl, ?_⟩
    cases d with
    | tuple ds =>
      cases ht : tupD (.tuple ds) 0 3 with
      | false =>
        refine iteF ?_
        have := q H (Gr.refl H)
        rw [argsD_tup, ht] at this
        exact this
      | true =>
        have h3 := tup_few ht
        obtain ⟨p, xs, rfl, hp, hxs⟩ := dx_tup hx
        have hl := dxA_len hxs
        refine iteT ⟨_, rfl, p, rfl, ⟨_, hp⟩, fun D nD => ?_⟩
        have gD : ∀ o, Gr H (upd H D o) := fun o => Gr.new nD
        refine lc_it (walk_tup (xs := xs)) (fun i H2 => H2 = upd H D (.lst ((ds.take i).map fun d => V.bl (argD d)))) rfl ?c0 ?c1 ?c2
        case c0 =>
          rintro i H2 hi rfl
          exact (gD _).sqt hp
        case c1 =>
          rintro i y H2 H2' hi rfl ⟨rfl, hy⟩
          refine ⟨rfl, ?_⟩
          unfold tYes
          refine iteT ?_
          obtain ⟨d, hd, dy⟩ := dxA_at hxs hy
          refine ⟨_, rfl, y, d, rfl, (gD _).kx.dx dy, go.at hd, _, upd_same, ?_, ?_⟩
          · rw [List.length_map, List.length_take, sizeLine_eq]
            omega
          · rw [upd_upd, List.take_add_one, hd, List.map_append]
            rfl
        case c2 =>
          rintro H2 rfl
          rw [hl, List.take_length]
          refine ⟨D, ds.map argD, rfl, .inl (.inl (by rw [upd_same, bls])), ?_⟩
          have := q _ (gD (.lst (ds.map fun d => V.bl (argD d))))
          rw [argsD_tup, ht] at this
          rw [all_id]
          exact this
    | _ => exact iteF (q H (Gr.refl H))
/-- a tuple of one to five, its first a text -/
theorem first_or : ∀ d : PyData, ((tupD d 1 5 = false ∨ (∃ a r, d = .tuple (a :: r) ∧ (tyD a == "str") = false)) ∧ rofD d = false) ∨ ∃ z r, d = .tuple (.str z :: r) ∧ r.length ≤ 4
  | .tuple [] => .inl ⟨.inl rfl, rfl⟩
  | .tuple (.str z :: r) => by
    by_cases c : r.length ≤ 4
    · exact .inr ⟨z, r, rfl, c⟩
    · refine .inl ⟨.inl ?_, ?_⟩
      · simp only [tupD, List.length_cons]
        rw [Bool.and_eq_false_iff]
        exact .inr (decide_eq_false (by omega))
      · simp only [rofD]
        rw [decide_eq_false c]
        rfl
  | .tuple (.none :: r) => .inl ⟨.inr ⟨_, _, rfl, by decide⟩, rfl⟩
  | .tuple (.bool _ :: r) => .inl ⟨.inr ⟨_, _, rfl, by show ("bool" == "str") = false; decide⟩, rfl⟩
  | .tuple (.int _ :: r) => .inl ⟨.inr ⟨_, _, rfl, by show ("int" == "str") = false; decide⟩, rfl⟩
  | .tuple (.list _ :: r) => .inl ⟨.inr ⟨_, _, rfl, by show ("list" == "str") = false; decide⟩, rfl⟩
  | .tuple (.tuple _ :: r) => .inl ⟨.inr ⟨_, _, rfl, by show ("tuple" == "str") = false; decide⟩, rfl⟩
  | .tuple (.dict _ :: r) => .inl ⟨.inr ⟨_, _, rfl, by show ("dict" == "str") = false; decide⟩, rfl⟩
  | .none => .inl ⟨.inl rfl, rfl⟩
  | .bool _ => .inl ⟨.inl rfl, rfl⟩
  | .int _ => .inl ⟨.inl rfl, rfl⟩
  | .str _ => .inl ⟨.inl rfl, rfl⟩
  | .list _ => .inl ⟨.inl rfl, rfl⟩
  | .dict _ => .inl ⟨.inl rfl, rfl⟩
theorem rsz_scal (z : Str) (n : Int) : scal ((rsz z).getD .non) (.int n) = true := by
  unfold rsz
  split
  · rfl
  split
  · rfl
  split <;> rfl
def spRowOf (K : PySem.W.Frag) : Sp := fun vs H Q _ => ∃ (x : V) (d : PyData), vs = [x] ∧ Dx K H x d ∧ Q (.bl (rofD d)) H
theorem ok_rowOf {f fT pS : Addr} {fd fdT : FuncData} {k : Nat} (F : Fun K "is_row_of_things" "is_row_of_things" sRowOf f fd) (HT : Has P w K mg base (k + 1) "is_tuple_of" ["thing", "least", "most"] (spTupOf K) fT fdT)
    (mS : mg "ROW_SIZES" = some (.ref pS)) (kS : KDo K w pS rsz) (mi : mg "isinstance" = none) (m1 : mg "str" = none) (ml : mg "len" = none) : FnOk P w K mg base CX0 (k + 2) f fd ["thing"] (spRowOf K) := by
  refine F.ok scRowOf (fun vs H Q E h => ?_) (fun cdv A outer s H vs Q E hr h => ?_)
  · obtain ⟨x, d, rfl, _⟩ := h
    rfl
  · obtain ⟨x, d, rfl, hx, q⟩ := h
    have nd := scRowOf.nd
    refine' ⟨_, pss_cons ?s1 (pss_one ?s2), ?rd⟩
    case s1 =>
      exact ps_if (PW.pt (pw_or (pt_not (pt_val (hcall HT hr (pa_cons (pv 0) (pa_cons pe_int (pa_cons pe_int pa_nil))))))
        (pw_or1 (pt_not (pt_val (pe_callB call_isi (by rfl) mi boot_isi (pa_cons (pe_ix ix_tup (pv 0) pe_int (fun _ _ => rfl)) (pa_cons (pe_bltn (v := .ty "str") (by rfl) m1 (by decide +kernel) rfl) pa_nil)))))))) (pss_one (ps_ret pe_bl)) pss_nil
    case s2 =>
      exact ps_ret (pe_cmpR op_eq (pe_kget (pe_glob (v := .ref pS) rfl mS rfl) (pe_ix ix_tup (pv 0) pe_int (fun _ _ => rfl)) ⟨rfl, rfl, rfl, rfl⟩) (pe_op op_sub (pe_callB call_len_seq (by rfl) ml PySem.boot_len (pa_cons (pv 0) pa_nil)) pe_int) (nomark _))
    case rd =>
    refine ⟨_, rfl, x, d, 1, 5, rfl, hx, _, rfl, ?_⟩
    rcases first_or d with ⟨h1, h2⟩ | ⟨z, r, rfl, hr4⟩
    · rw [h2] at q
      cases ht : tupD d 1 5 with
      | false => exact iteT q
      | true =>
        rcases h1 with h1 | ⟨a, r, rfl, ha⟩
        · rw [h1] at ht
          cases ht
        · obtain ⟨p, xs, rfl, hp, hxs⟩ := dx_tup hx
          obtain ⟨u, r', rfl, hu, _⟩ := dxA_cons hxs
          have hI := dx_is hu
          refine iteF ⟨_, rfl, p, _, 0, u, rfl, rfl, hp, at_0 _ _, u, .ty "str", .type (tyD a), .type "str", (tyD a == "str"), rfl, .ty "str", hI.1, kit_ty (kit_str _ hI.2), _, rfl, ?_⟩
          rw [ha]
          exact iteT q
    · obtain ⟨p, xs, rfl, hp, hxs⟩ := dx_tup hx
      obtain ⟨u, r', rfl, hu, hr'⟩ := dxA_cons hxs
      cases dx_str hu
      have hl := dxA_len hr'
      have ht : tupD (.tuple (.str z :: r)) 1 5 = true := by
        simp only [tupD, List.length_cons]
        rw [Bool.and_eq_true]
        exact ⟨decide_eq_true (by omega), decide_eq_true (by omega)⟩
      rw [ht]
      refine iteF ⟨_, rfl, p, _, 0, _, rfl, rfl, hp, at_0 _ _, .str z, .ty "str", .type "str", .type "str", true, rfl, .ty "str", (is_str z).1, kit_ty (by decide +kernel), _, rfl, iteF ?_⟩
      refine ⟨pS, rsz, rfl, kS, _, rfl, p, _, 0, _, rfl, rfl, hp, at_0 _ _, z, rfl, ?_⟩
      refine ⟨_, rfl, p, _, rfl, .inr hp, _, 1, rfl, rfl, rsz_scal z _, ?_⟩
      have q' : Q (.bl (decide (r.length ≤ 4) && decide ((rsz z).getD .non = .int (r.length : Int)))) H := q
      rw [decide_eq_true hr4, Bool.true_and] at q'
      have e1 : (((V.str z :: r').length : Int) - 1) = (r.length : Int) := by
        rw [List.length_cons, hl]
        omega
      show Q (.bl (decide ((rsz z).getD .non = .int (((V.str z :: r').length : Int) - 1)))) H
      rw [e1]
      exact q'
end
end SfC
namespace SfC
open PySem PySem.Spec PyProof.Rows L2 SfG
theorem Go.drop {ds : List PyData} (h : Go (.tuple ds)) (n : Nat) : Go (.tuple (ds.drop n)) := by
  obtain ⟨h1, h2, h3⟩ := h.un
  exact (Wt.tup (WtA.drop ⟨h1.ok, Nat.le_refl _, Nat.le_refl _⟩ n)).mono h3 h2
theorem Go.take {ds : List PyData} (h : Go (.tuple ds)) (n : Nat) : Go (.tuple (ds.take n)) := by
  obtain ⟨h1, h2, h3⟩ := h.un
  exact (Wt.tup (WtA.take ⟨h1.ok, Nat.le_refl _, Nat.le_refl _⟩ n)).mono h3 h2
theorem rof_or (d : PyData) : rofD d = false ∨ (∃ b, d = .tuple [.str "say", b]) ∨ (∃ b c e g, d = .tuple [.str "pick", b, c, e, g]) ∨ ∃ b c e g, d = .tuple [.str "let", b, c, e, g] := by
  rcases first_or d with ⟨_, h⟩ | ⟨z, r, rfl, h4⟩
  · exact .inl h
  · simp only [rofD]
    rw [decide_eq_true h4, Bool.true_and]
    unfold rsz
    by_cases c1 : z = "let"
    · rw [if_pos c1]
      match r, h4 with
      | [b, c, e, g], _ => exact .inr (.inr (.inr ⟨b, c, e, g, by rw [c1]⟩))
      | [], _ => exact .inl (decide_eq_false (by intro z; cases z))
      | [_], _ => exact .inl (decide_eq_false (by intro z; cases z))
      | [_, _], _ => exact .inl (decide_eq_false (by intro z; cases z))
      | [_, _, _], _ => exact .inl (decide_eq_false (by intro z; cases z))
      | _ :: _ :: _ :: _ :: _ :: t, h => exact absurd h (by simp)
    rw [if_neg c1]
    by_cases c2 : z = "pick"
    · rw [if_pos c2]
      match r, h4 with
      | [b, c, e, g], _ => exact .inr (.inr (.inl ⟨b, c, e, g, by rw [c2]⟩))
      | [], _ => exact .inl (decide_eq_false (by intro z; cases z))
      | [_], _ => exact .inl (decide_eq_false (by intro z; cases z))
      | [_, _], _ => exact .inl (decide_eq_false (by intro z; cases z))
      | [_, _, _], _ => exact .inl (decide_eq_false (by intro z; cases z))
      | _ :: _ :: _ :: _ :: _ :: t, h => exact absurd h (by simp)
    rw [if_neg c2]
    by_cases c3 : z = "say"
    · rw [if_pos c3]
      match r, h4 with
      | [b], _ => exact .inr (.inl ⟨b, by rw [c3]⟩)
      | [], _ => exact .inl (decide_eq_false (by intro z; cases z))
      | _ :: _ :: t, _ =>
        refine .inl (decide_eq_false ?_)
        intro e
        have e' : (1 : Int) = ((t.length + 1 + 1 : Nat) : Int) := V.int.inj e
        omega
    rw [if_neg c3]
    exact .inl (decide_eq_false (by intro z; cases z))
section
variable {P : Program} {w : World} {K : PySem.W.Frag} {mg : Str → Option Value} {base : Heap}
def spIsRow (K : PySem.W.Frag) : Sp := fun vs H Q _ => ∃ (x : V) (d : PyData), vs = [x] ∧ Dx K H x d ∧ Go d ∧ ∀ H', Gr H H' → Q (.bl (rowD d)) H'
theorem ok_isRow {f fR fA fN fG : Addr} {fd fdR fdA fdN fdG : FuncData} {k : Nat} (F : Fun K "is_row" "is_row" sIsRow f fd) (HR : Has P w K mg base (k + 4) "is_row_of_things" ["thing"] (spRowOf K) fR fdR)
    (HA : Has P w K mg base (k + 4) "is_arg" ["thing"] (spIsArg K) fA fdA) (HN : Has P w K mg base (k + 4) "is_name" ["thing"] (spName K) fN fdN) (HG : Has P w K mg base (k + 4) "are_args" ["thing"] (spArgs K) fG fdG)
    (ma : mg "all" = none) : FnOk P w K mg base CX0 (k + 5) f fd ["thing"] (spIsRow K) := by
  refine F.ok scIsRow (fun vs H Q E h => ?_) (fun cdv A outer s H vs Q E hr h => ?_)
  · obtain ⟨x, d, rfl, _⟩ := h
    rfl
  · obtain ⟨x, d, rfl, hx, go, q⟩ := h
    have nd := scIsRow.nd
    refine' ⟨_, pss_cons ?s1 (pss_cons ?s2 (pss_cons ?s3 (pss_one ?s4))), ?rd⟩
    case s1 => exact ps_if (pt_not (pt_val (hcall HR hr (pa_cons (pv 0) pa_nil)))) (pss_one (ps_ret pe_bl)) pss_nil
    case s2 => exact ps_if (pt_cmpR op_eq (pe_ix ix_tup (pv 0) pe_int (fun _ _ => rfl)) pe_str (nomark _)) (pss_one (ps_ret (hcall HA hr (pa_cons (pe_ix ix_tup (pv 0) pe_int (fun _ _ => rfl)) pa_nil)))) pss_nil
    case s3 =>
      exact ps_if (pt_cmpR op_eq (pe_ix ix_tup (pv 0) pe_int (fun _ _ => rfl)) pe_str (nomark _)) (pss_one (ps_ret (pe_and (hcall HN hr (pa_cons (pe_ix ix_tup (pv 0) pe_int (fun _ _ => rfl)) pa_nil))
        (pe_one (hcall HG hr (pa_cons (pe_slice sl_tup (pv 0) (po_some pe_int) po_none) pa_nil)))))) pss_nil
    case s4 =>
      exact ps_ret (pe_and (pe_callB (cr_all rfl) (by rfl) ma boot_all (pa_cons
        (pe_lc (own := [("name", 1)]) (g := gName 1) rfl nd (pi_tup (pe_slice sl_tup (pv 0) (po_some pe_int) (po_some pe_int))) (blkOk_by (own := [("name", 1)]) (N := nIsRow) (sc := defScope sIsRow) (by decide +kernel)) (fun _ _ _ _ _ => pg_name (i := 1) nd rfl (Or.inl rfl)) (fun _ _ _ _ _ => pts_nil)
          (fun _ _ _ _ _ => hcall HN hr (pa_cons (pv 1) pa_nil))) pa_nil))
        (pe_one (hcall HG hr (pa_cons (pe_ix ix_tup (pv 0) pe_int (fun _ _ => rfl)) pa_nil))))
    case rd =>
    refine ⟨_, rfl, x, d, rfl, hx, _, rfl, ?_⟩
    rcases rof_or d with h | ⟨b, rfl⟩ | ⟨b, c, e, g, rfl⟩ | ⟨b, c, e, g, rfl⟩
    · rw [h]
      refine iteT ?_
      have := q H (Gr.refl H)
      unfold rowD at this
      rw [h] at this
      exact this
    · obtain ⟨p, xs, rfl, hp, hxs⟩ := dx_tup hx
      obtain ⟨u, r, rfl, hu, hr1⟩ := dxA_cons hxs
      obtain ⟨v, r, rfl, hv, hr2⟩ := dxA_cons hr1
      cases dxA_nil hr2
      cases dx_str hu
      refine iteF ⟨_, rfl, p, _, 0, _, rfl, rfl, hp, rfl, rfl, _, rfl, iteT ?_⟩
      exact ⟨_, rfl, p, _, 1, _, rfl, rfl, hp, rfl, v, b, rfl, hv, go.at (i := 1) rfl, q H (Gr.refl H)⟩
    · obtain ⟨p, xs, rfl, hp, hxs⟩ := dx_tup hx
      obtain ⟨u, r, rfl, hu, hr1⟩ := dxA_cons hxs
      obtain ⟨v1, r, rfl, hv1, hr2⟩ := dxA_cons hr1
      have hr2' := hr2
      obtain ⟨v2, r, rfl, hv2, hr3⟩ := dxA_cons hr2
      obtain ⟨v3, r, rfl, hv3, hr4⟩ := dxA_cons hr3
      obtain ⟨v4, r, rfl, hv4, hr5⟩ := dxA_cons hr4
      cases dxA_nil hr5
      cases dx_str hu
      refine iteF ⟨_, rfl, p, _, 0, _, rfl, rfl, hp, rfl, rfl, _, rfl, iteF ?_⟩
      refine ⟨_, rfl, p, _, 0, _, rfl, rfl, hp, rfl, rfl, _, rfl, iteT ?_⟩
      refine ⟨_, rfl, p, _, 1, _, rfl, rfl, hp, rfl, v1, b, rfl, hv1, (go.at (i := 1) rfl).fit, _, rfl, ?_⟩
      have q' : ∀ H', Gr H H' → Q (.bl (nmD b && argsD (.tuple [c, e, g]))) H' := q
      cases hb : nmD b with
      | false =>
        rw [hb] at q'
        exact iteF (q' H (Gr.refl H))
      | true =>
        rw [hb, Bool.true_and] at q'
        refine iteT ⟨_, rfl, 2, rfl, p, _, rfl, hp, (by show ¬ (HT.sIx 5 0 (some 2) = 0 ∧ HT.sIx 5 5 none = 5); decide), fun t nt => ?_⟩
        refine ⟨_, .tuple [c, e, g], rfl, .tup (.inl (.inl upd_same)) ((Gr.new nt).kx.dxA hr2'), go.drop 2, fun H' g' => q' H' ((Gr.new nt).trans g')⟩
    · obtain ⟨p, xs, rfl, hp, hxs⟩ := dx_tup hx
      obtain ⟨u, r, rfl, hu, hr1⟩ := dxA_cons hxs
      obtain ⟨v1, r, rfl, hv1, hr2⟩ := dxA_cons hr1
      obtain ⟨v2, r, rfl, hv2, hr3⟩ := dxA_cons hr2
      obtain ⟨v3, r, rfl, hv3, hr4⟩ := dxA_cons hr3
      obtain ⟨v4, r, rfl, hv4, hr5⟩ := dxA_cons hr4
      cases dxA_nil hr5
      cases dx_str hu
      refine iteF ⟨_, rfl, p, _, 0, _, rfl, rfl, hp, rfl, rfl, _, rfl, iteF ?_⟩
      refine ⟨_, rfl, p, _, 0, _, rfl, rfl, hp, rfl, rfl, _, rfl, iteF ?_⟩
      have q' : ∀ H', Gr H H' → Q (.bl ([b, c, e].all nmD && argsD g)) H' := q
      refine ⟨_, rfl, 1, rfl, 4, rfl, p, _, rfl, hp, (by show ¬ (HT.sIx 5 0 (some 1) = 0 ∧ HT.sIx 5 5 (some 4) = 5); decide), fun t nt => ?_⟩
      have g1 : Gr H (upd H t (.tup [v1, v2, v3])) := Gr.new nt
      have ht : SqT K (upd H t (.tup [v1, v2, v3])) t [v1, v2, v3] := .inl (.inl upd_same)
      rw [show cutV [V.str "let", v1, v2, v3, v4] (some 1) (some 4) = [v1, v2, v3] from rfl]
      generalize upd H t (.tup [v1, v2, v3]) = H1 at g1 ht ⊢
      refine ⟨t, rfl, ⟨_, ht⟩, fun D nD => ?_⟩
      have gD : ∀ o, Gr H1 (upd H1 D o) := fun o => Gr.new nD
      have h3 : DxA K H1 [v1, v2, v3] [b, c, e] := g1.kx.dxA (.cons hv1 (.cons hv2 (.cons hv3 .nil)))
      have go3 : Go (.tuple [b, c, e]) := (go.drop 1).take 3
      refine lc_it (walk_tup (xs := [v1, v2, v3])) (fun i H2 => H2 = upd H1 D (.lst (([b, c, e].take i).map fun d => V.bl (nmD d)))) rfl ?c0 ?c1 ?c2
      case c0 =>
        rintro i H2 hi rfl
        exact (gD _).sqt ht
      case c1 =>
        rintro i y H2 H2' hi rfl ⟨rfl, hy⟩
        refine ⟨rfl, ?_⟩
        unfold tYes
        refine iteT ?_
        obtain ⟨d, hd, dy⟩ := dxA_at h3 hy
        refine ⟨_, rfl, y, d, rfl, (gD _).kx.dx dy, (go3.at hd).fit, _, upd_same, ?_, ?_⟩
        · rw [List.length_map, List.length_take, sizeLine_eq]
          have : [b, c, e].length = 3 := rfl
          omega
        · rw [upd_upd, List.take_add_one, hd, List.map_append]
          rfl
      case c2 =>
        rintro H2 rfl
        have e3 : ([b, c, e].take [v1, v2, v3].length) = [b, c, e] := rfl
        rw [e3]
        refine ⟨D, [b, c, e].map nmD, rfl, .inl (.inl upd_same), _, rfl, ?_⟩
        rw [all_id]
        have g2 : Gr H (upd H1 D (.lst ([b, c, e].map fun d => V.bl (nmD d)))) := g1.trans (gD _)
        cases hb : [b, c, e].all nmD with
        | false =>
          have := q' _ g2
          rw [hb] at this
          exact iteF this
        | true =>
          rw [hb] at q'
          refine iteT ⟨_, rfl, p, _, 4, _, rfl, rfl, g2.sqt hp, rfl, v4, g, rfl, g2.kx.dx hv4, go.at (i := 4) rfl, fun H' g' => q' H' (g2.trans g')⟩
end
end SfC
namespace SfC
open PySem PySem.Spec PyProof.Rows L2 SfG
theorem Drw.some {H : Hp} {p : Addr} {B : Int} (d : Drw H p B) : H p ≠ none := by
  obtain ⟨l, s, t, e, _⟩ := d
  rw [e]
  intro z
  cases z
theorem Drw.hkx {K : PySem.W.Frag} {H H' : Hp} {p : Addr} {S : List Addr} {B : Int} (d : Drw H p B) (g : Gp p H H') : Kx K (hide S H) (hide S H') := by
  obtain ⟨l, s, t, e, _⟩ := d
  exact g.hkx e
theorem Drw.kx {K : PySem.W.Frag} {H H' : Hp} {p : Addr} {B : Int} (d : Drw H p B) (g : Gp p H H') : Kx K H H' := by
  obtain ⟨l, s, t, e, _⟩ := d
  exact g.kx e
/-- what is there stays there -/
theorem _root_.SfG.Gp.there {H H' : Hp} {p : Addr} {S : List Addr} {B : Int} (g : Gp p H H') (d : Drw H' p B) (h : There S H) : There S H' := by
  intro f m
  by_cases c : f = p
  · rw [c]
    exact d.some
  · exact fun z => h f m (g.back f c z)
theorem isN_ok {z : Str} (h : isN z = true) : Wt (.str z) 82 0 := by
  obtain ⟨h8, _, _, _, _, hl⟩ := isN_txt h
  refine ⟨?_, ?_, ?_⟩
  · rw [okd]
    exact List.all_eq_true.mpr fun c hc => decide_eq_true (let_range (List.all_eq_true.mp hl c hc))
  · rw [wt]
    omega
  · exact Nat.le_refl 0
/-! ### _law_name -/
abbrev nLName : List Str := ["_law_state", "_law_signs", "_law_j"]
theorem scLName : FnScope nLName ["_law_state"] (defScope sLName) := ⟨rfl, rfl, rfl, by decide +kernel, rfl, by decide +kernel, by decide +kernel⟩
theorem five {W : Str} {d : Int} (hW : isN W = true) (h0 : 0 ≤ d) (h5 : d < 5) : ∃ z, atI [V.str W, .str "let", .str "name", .str "z", .str "abcdefgh"] d = some (.str z) ∧ isN z = true := by
  have c : d = 0 ∨ d = 1 ∨ d = 2 ∨ d = 3 ∨ d = 4 := by omega
  rcases c with rfl | rfl | rfl | rfl | rfl
  · exact ⟨W, rfl, hW⟩
  all_goals exact ⟨_, rfl, by decide +kernel⟩
section
variable {P : Program} {w : World} {K : PySem.W.Frag} {mg : Str → Option Value} {base : Heap}
def spLName : Sp := fun vs H Q _ => ∃ (p : Addr) (B : Int), vs = [.ref p] ∧ Drw H p B ∧ 0 ≤ B ∧ B ≤ 90000 ∧ ∀ H' z, Gp p H H' → Drw H' p (B + 10) → isN z = true → Q (.str z) H'
theorem ok_lname {f fG : Addr} {fd fdG : FuncData} {k : Nat} (F : Fun K "_law_name" "_law_name" sLName f fd) (DG : Has P w K mg base (k + 2) "_law_digit" ["_law_state", "_law_many"] spDigit fG fdG)
    (mr : mg "range" = none) : FnOk P w K mg base CX0 (k + 3) f fd ["_law_state"] spLName := by
  refine F.ok scLName (fun vs H Q E h => ?_) (fun cdv A outer s H vs Q E hr h => ?_)
  · obtain ⟨p, B, rfl, _⟩ := h
    rfl
  · obtain ⟨p, B, rfl, dr, B0, B9, q⟩ := h
    have nd := scLName.nd
    refine' ⟨_, pss_cons ?s1 (pss_one ?s2), ?rd⟩
    case s1 =>
      exact ps_setLc (i := 1) (own := [("_law_j", 2)]) (g := gName 2) rfl nd rfl rfl (sw_true rfl rfl rfl (by decide +kernel)) (pi_range1 (by rfl) mr (pa_cons (pe_op op_add pe_int (hcall DG hr (pa_cons (pv 0) (pa_cons pe_int pa_nil)))) pa_nil))
        (blkOk_by (own := [("_law_j", 2)]) (N := nLName) (sc := defScope sLName) (by decide +kernel)) (fun _ _ _ _ _ => pg_name (i := 2) nd rfl (Or.inl rfl)) (fun _ _ _ _ _ => pts_nil)
        (fun _ _ _ _ _ => pe_item_str pe_str (hcall DG hr (pa_cons (pv 0) (pa_cons pe_int pa_nil))) (fun _ _ => rfl))
    case s2 =>
      exact ps_ret (pe_ix ix_list (pe_lst (pa_cons (pe_join pe_str (pv 1)) (pa_cons pe_str (pa_cons pe_str (pa_cons pe_str (pa_cons pe_str pa_nil)))))) (hcall DG hr (pa_cons (pv 0) (pa_cons pe_int pa_nil))) (fun _ _ => rfl))
    case rd =>
      refine ⟨_, rfl, p, 8, _, rfl, dr, by omega, by decide, by decide, fun H2 d b2 dr2 d0 d8 => ?_⟩
      refine ⟨1, d, rfl, rfl, _, rfl, by omega, by omega, fun D nD => ?_⟩
      have gp2 : Gp p H H2 := Gp.but b2
      have nDp : D ≠ p := dr2.ne nD
      refine lc_it (walk_range (lo := 0) (n := (1 + d).toNat)) (fun j H5 => ∃ acc : List Str, H5 D = some (.lst (acc.map V.str)) ∧ acc.length = j ∧ (∀ y ∈ acc, one y) ∧ Gp p H2 H5 ∧ Drw H5 p (B + 1 + (j : Nat))) ?w0 (fun _ _ _ _ => trivial) ?w1 ?w2
      case w0 => exact ⟨[], upd_same, rfl, by simp, Gp.gr (Gr.new nD), (dr2.new nD).mono (by omega)⟩
      case w1 =>
        rintro j x H5 H5' hj ⟨acc, hD5, hl5, hacc, gp5, dr5⟩ ⟨rfl, rfl⟩
        refine ⟨rfl, ?_⟩
        unfold tYes
        refine iteT ?_
        refine ⟨_, rfl, p, 26, _, rfl, dr5, by omega, by decide, by decide, fun H6 d6 b6 dr6 e0 e26 => ?_⟩
        obtain ⟨c, ec6, ac6⟩ := letter_at e0 e26
        refine ⟨letters, d6, c, rfl, rfl, e0, by omega, ?_, ec6, acc.map V.str, (b6 D nDp).trans hD5, ?_, acc ++ [⟨#[c]⟩], ?_, ?_, ?_, ?_, ?_⟩
        · have : letters.length = 26 := by decide +kernel
          rw [this]
          exact e26
        · rw [List.length_map]
          exact small1000 (by omega)
        · rw [upd_same, List.map_append]
          rfl
        · rw [List.length_append, hl5]
          rfl
        · intro y hy
          rcases List.mem_append.mp hy with h | h
          · exact hacc y h
          · exact ⟨c, by simpa using h, ac6⟩
        · exact Gp.upd_new (gp5.trans (Gp.but b6)) nD
        · exact (dr6.upd nDp).mono (by omega)
      case w2 =>
      rintro H5 ⟨acc, hD5, hl5, hacc, gp5, dr5⟩
      have gpa : Gp p H H5 := gp2.trans gp5
      refine ⟨⟨_, rfl⟩, _, rfl, nought, D, acc, rfl, rfl, .inl (.inl (.inl hD5)), ?_, ?_⟩
      · rw [sum_ones fun y hy => by obtain ⟨c, rfl, _⟩ := hacc y hy; rfl]
        show acc.length + acc.length * 0 ≤ 16777216
        omega
      have hW := join_name hacc (by omega) (by omega)
      generalize Txt.join nought acc = W at hW ⊢
      refine ⟨by show 5 ≤ sizeLine; decide, fun wl nwl => ?_⟩
      have g6 : Gr H5 (upd H5 wl (.lst [.str W, .str "let", .str "name", .str "z", .str "abcdefgh"])) := Gr.new nwl
      have hwl : upd H5 wl (.lst [.str W, .str "let", .str "name", .str "z", .str "abcdefgh"]) wl = some (.lst [.str W, .str "let", .str "name", .str "z", .str "abcdefgh"]) := upd_same
      have nwp : wl ≠ p := dr5.ne nwl
      generalize upd H5 wl (.lst [.str W, .str "let", .str "name", .str "z", .str "abcdefgh"]) = H6 at g6 hwl ⊢
      refine ⟨_, rfl, p, 5, _, rfl, dr5.gr g6, by omega, by decide, by decide, fun H7 d7 b7 dr7 z0 z7 => ?_⟩
      obtain ⟨z, ez, gz⟩ := five hW z0 z7
      refine ⟨wl, _, d7, .str z, rfl, rfl, .inl (.inl ((b7 wl nwp).trans hwl)), ez, ?_⟩
      exact q H7 z ((gpa.trans (Gp.gr g6)).trans (Gp.but b7)) (dr7.mono (by omega)) gz
/-! ### _law_arg -/
abbrev nLArg : List Str := ["_law_state", "_law_way"]
theorem scLArg : FnScope nLArg ["_law_state"] (defScope sLArg) := ⟨rfl, rfl, rfl, by decide +kernel, rfl, by decide +kernel, by decide +kernel⟩
def spLArg (K : PySem.W.Frag) : Sp := fun vs H Q _ => ∃ (p : Addr) (S : List Addr) (B : Int), vs = [.ref p] ∧ Drw H p B ∧ 0 ≤ B ∧ B ≤ 80000 ∧ There S H ∧
  ∀ H' v d, Gp p H H' → Drw H' p (B + 12) → Dx K (hide S H') v d → argD d = true → Wt d 160 2 → Q v H'
theorem am_in {n lo hi : Int} (h1 : lo ≤ n) (h2 : n ≤ hi) : amD (.int n) lo hi = true := by
  simp only [amD]
  rw [decide_eq_true h1, decide_eq_true h2]
  rfl
theorem wt_small {n : Int} (h0 : 0 ≤ n) (h9 : n ≤ 9) : Wt (.int n) 20 0 := by
  have c : n = 0 ∨ n = 1 ∨ n = 2 ∨ n = 3 ∨ n = 4 ∨ n = 5 ∨ n = 6 ∨ n = 7 ∨ n = 8 ∨ n = 9 := by omega
  rcases c with rfl | rfl | rfl | rfl | rfl | rfl | rfl | rfl | rfl | rfl <;> exact Wt.lit (by decide +kernel)
theorem wt_2 {z : Str} {d : PyData} (hz : Wt (.str z) 62 0) (hd : Wt d 82 0) : Wt (.tuple [.str z, d]) 151 1 := by
  exact Wt.tup (WtA.cons hz (WtA.cons hd (WtA.nil (L := 0))))
theorem ok_larg {f fG fN : Addr} {fd fdG fdN : FuncData} {k : Nat} (F : Fun K "_law_arg" "_law_arg" sLArg f fd) (DG : Has P w K mg base (k + 3) "_law_digit" ["_law_state", "_law_many"] spDigit fG fdG)
    (HN : Has P w K mg base (k + 3) "_law_name" ["_law_state"] spLName fN fdN) : FnOk P w K mg base CX0 (k + 4) f fd ["_law_state"] (spLArg K) := by
  refine F.ok scLArg (fun vs H Q E h => ?_) (fun cdv A outer s H vs Q E hr h => ?_)
  · obtain ⟨p, S, B, rfl, _⟩ := h
    rfl
  · obtain ⟨p, S, B, rfl, dr, B0, B9, hf, q⟩ := h
    have nd := scLArg.nd
    refine' ⟨_, pss_cons ?s1 (pss_cons ?s2 (pss_one ?s3)), ?rd⟩
    case s1 => exact ps_set (i := 1) nd rfl (.inl rfl) (hcall DG hr (pa_cons (pv 0) (pa_cons pe_int pa_nil)))
    case s2 => exact ps_if (pt_cmpR op_eq (pv 1) pe_int (nomark _)) (pss_one (ps_ret (pe_tup (pa_cons pe_str (pa_cons (hcall HN hr (pa_cons (pv 0) pa_nil)) pa_nil))))) pss_nil
    case s3 =>
      exact ps_ret (pe_ifExp (pt_cmpR op_eq (pv 1) pe_int (nomark _)) (pe_tup (pa_cons pe_str (pa_cons (hcall DG hr (pa_cons (pv 0) (pa_cons pe_int pa_nil))) pa_nil))) (pe_tup (pa_cons pe_str (pa_cons (hcall DG hr (pa_cons (pv 0) (pa_cons pe_int pa_nil))) pa_nil))))
    case rd =>
    refine ⟨_, rfl, p, 3, _, rfl, dr, by omega, by decide, by decide, fun H1 d b1 dr1 d0 d3 => ?_⟩
    have gp1 : Gp p H H1 := Gp.but b1
    have hf1 := gp1.there dr1 hf
    refine ⟨_, rfl, rfl, _, rfl, ite2 (fun e => ?_) (fun e => ?_)⟩
    · refine ⟨_, rfl, p, _, rfl, dr1, by omega, by omega, fun H2 z gp2 dr2 hz => ?_⟩
      have hf2 := gp2.there dr2 hf1
      refine ⟨by show 2 ≤ sizeLine; decide, fun t nt => ?_⟩
      refine q _ _ (.tuple [.str "name", .str z]) ((gp1.trans gp2).trans (Gp.gr (Gr.new nt))) ((dr2.new nt).mono (by omega)) (dx_newT nt hf2 (.cons (.str _) (.cons (.str _) .nil))) ?_ ?_
      · exact hz
      · exact (wt_2 (Wt.lit (by decide +kernel)) (isN_ok hz)).mono (by omega) (by omega)
    · refine ⟨_, rfl, rfl, _, rfl, ite2 (fun e1 => ?_) (fun e1 => ?_)⟩
      · refine ⟨_, rfl, p, 9, _, rfl, dr1, by omega, by decide, by decide, fun H2 d2 b2 dr2 z0 z9 => ?_⟩
        have gp2 : Gp p H1 H2 := Gp.but b2
        have hf2 := gp2.there dr2 hf1
        refine ⟨by show 2 ≤ sizeLine; decide, fun t nt => ?_⟩
        refine q _ _ (.tuple [.str "number", .int d2]) ((gp1.trans gp2).trans (Gp.gr (Gr.new nt))) ((dr2.new nt).mono (by omega)) (dx_newT nt hf2 (.cons (.str _) (.cons (.int _) .nil))) ?_ ?_
        · exact am_in z0 (by omega)
        · exact (wt_2 (Wt.lit (by decide +kernel)) ((wt_small z0 (by omega)).mono (by omega) (by omega))).mono (by omega) (by omega)
      · refine ⟨_, rfl, p, 3, _, rfl, dr1, by omega, by decide, by decide, fun H2 d2 b2 dr2 z0 z9 => ?_⟩
        have gp2 : Gp p H1 H2 := Gp.but b2
        have hf2 := gp2.there dr2 hf1
        refine ⟨by show 2 ≤ sizeLine; decide, fun t nt => ?_⟩
        refine q _ _ (.tuple [.str "input", .int d2]) ((gp1.trans gp2).trans (Gp.gr (Gr.new nt))) ((dr2.new nt).mono (by omega)) (dx_newT nt hf2 (.cons (.str _) (.cons (.int _) .nil))) ?_ ?_
        · exact am_in z0 (by omega)
        · exact (wt_2 (Wt.lit (by decide +kernel)) ((wt_small z0 (by omega)).mono (by omega) (by omega))).mono (by omega) (by omega)
end
end SfC
namespace SfC
open PySem PySem.Spec PyProof.Rows L2 SfG
theorem row_say (a : PyData) : rowD (.tuple [.str "say", a]) = argD a := rfl
theorem row_pick (b c e g : PyData) : rowD (.tuple [.str "pick", b, c, e, g]) = (nmD b && argsD (.tuple [c, e, g])) := rfl
theorem row_let (b c e g : PyData) : rowD (.tuple [.str "let", b, c, e, g]) = ([b, c, e].all nmD && argsD g) := rfl
abbrev nLRow : List Str := ["_law_state", "_law_way", "_law_names", "_law_k"]
theorem scLRow : FnScope nLRow ["_law_state"] (defScope sLRow) := ⟨rfl, rfl, rfl, by decide +kernel, rfl, by decide +kernel, by decide +kernel⟩
section
variable {P : Program} {w : World} {K : PySem.W.Frag} {mg : Str → Option Value} {base : Heap}
def spLRow (K : PySem.W.Frag) : Sp := fun vs H Q _ => ∃ (p : Addr) (S : List Addr) (B : Int), vs = [.ref p] ∧ Drw H p B ∧ 0 ≤ B ∧ B ≤ 70000 ∧ There S H ∧
  ∀ H' v d, Gp p H H' → Drw H' p (B + 100) → Dx K (hide S H') v d → rowD d = true → Wt d 1000 4 → Q v H'
theorem wtA_args : ∀ {ds : List PyData}, (∀ d ∈ ds, Wt d 160 2) → ds.length ≤ 3 → WtA ds 486 2
  | [], _, _ => WtA.nil
  | [a], h, _ => (WtA.cons (h a (by simp)) (WtA.nil (L := 0))).mono (by omega) (by omega)
  | [a, b], h, _ => (WtA.cons (h a (by simp)) (WtA.cons (h b (by simp)) (WtA.nil (L := 0)))).mono (by omega) (by omega)
  | [a, b, c], h, _ => (WtA.cons (h a (by simp)) (WtA.cons (h b (by simp)) (WtA.cons (h c (by simp)) (WtA.nil (L := 0))))).mono (by omega) (by omega)
  | _ :: _ :: _ :: _ :: _, _, h => absurd h (by simp)
set_option maxHeartbeats 1000000 in
theorem ok_lrow {f fG fN fA : Addr} {fd fdG fdN fdA : FuncData} {k : Nat} (F : Fun K "_law_row" "_law_row" sLRow f fd) (DG : Has P w K mg base (k + 4) "_law_digit" ["_law_state", "_law_many"] spDigit fG fdG)
    (HN : Has P w K mg base (k + 4) "_law_name" ["_law_state"] spLName fN fdN) (HA : Has P w K mg base (k + 4) "_law_arg" ["_law_state"] (spLArg K) fA fdA) (mr : mg "range" = none) (mt : mg "tuple" = none) :
    FnOk P w K mg base CX0 (k + 5) f fd ["_law_state"] (spLRow K) := by
  refine F.ok scLRow (fun vs H Q E h => ?_) (fun cdv A outer s H vs Q E hr h => ?_)
  · obtain ⟨p, S, B, rfl, _⟩ := h
    rfl
  · obtain ⟨p, S, B, rfl, dr, B0, B9, hf, q⟩ := h
    have nd := scLRow.nd
    refine' ⟨_, pss_cons ?s1 (pss_cons ?s2 (pss_cons ?s3 (pss_cons ?s4 (pss_one ?s5)))), ?rd⟩
    case s1 => exact ps_set (i := 1) nd rfl (.inl rfl) (hcall DG hr (pa_cons (pv 0) (pa_cons pe_int pa_nil)))
    case s2 => exact ps_if (pt_cmpR op_eq (pv 1) pe_int (nomark _)) (pss_one (ps_ret (pe_tup (pa_cons pe_str (pa_cons (hcall HA hr (pa_cons (pv 0) pa_nil)) pa_nil))))) pss_nil
    case s3 => exact ps_if (pt_cmpR op_eq (pv 1) pe_int (nomark _)) (pss_one (ps_ret (pe_tup (pa_cons pe_str (pa_cons (hcall HN hr (pa_cons (pv 0) pa_nil)) (pa_cons (hcall HA hr (pa_cons (pv 0) pa_nil)) (pa_cons (hcall HA hr (pa_cons (pv 0) pa_nil)) (pa_cons (hcall HA hr (pa_cons (pv 0) pa_nil)) pa_nil)))))))) pss_nil
    case s4 => exact ps_set (i := 2) nd rfl (.inl rfl) (pe_tup (pa_cons (hcall HN hr (pa_cons (pv 0) pa_nil)) (pa_cons (hcall HN hr (pa_cons (pv 0) pa_nil)) (pa_cons (hcall HN hr (pa_cons (pv 0) pa_nil)) pa_nil))))
    case s5 =>
      exact ps_ret (pe_op op_catX (pe_op op_catX (pe_tup (pa_cons pe_str pa_nil)) (pv 2)) (pe_tup (pa_cons (pe_callTy call_tuple_of (by rfl) mt (by decide +kernel) (pa_cons
        (pe_lc (own := [("_law_k", 3)]) (g := gName 3) rfl nd (pi_range1 (by rfl) mr (pa_cons (hcall DG hr (pa_cons (pv 0) (pa_cons pe_int pa_nil))) pa_nil)) (blkOk_by (own := [("_law_k", 3)]) (N := nLRow) (sc := defScope sLRow) (by decide +kernel))
          (fun _ _ _ _ _ => pg_name (i := 3) nd rfl (Or.inl rfl)) (fun _ _ _ _ _ => pts_nil) (fun _ _ _ _ _ => hcall HA hr (pa_cons (pv 0) pa_nil))) pa_nil)) pa_nil)))
    case rd =>
    refine ⟨_, rfl, p, 4, _, rfl, dr, by omega, by decide, by decide, fun H1 d b1 dr1 d0 d3 => ?_⟩
    have gp1 : Gp p H H1 := Gp.but b1
    have hf1 := gp1.there dr1 hf
    refine ⟨_, rfl, rfl, _, rfl, ite2 (fun e => ?_) (fun e => ?_)⟩
    · refine ⟨_, rfl, p, S, _, rfl, dr1, by omega, by omega, hf1, fun H2 v a gp2 dr2 ha ga wa => ?_⟩
      have hf2 := gp2.there dr2 hf1
      refine ⟨by show 2 ≤ sizeLine; decide, fun t nt => ?_⟩
      refine q _ _ (.tuple [.str "say", a]) ((gp1.trans gp2).trans (Gp.gr (Gr.new nt))) ((dr2.new nt).mono (by omega)) (dx_newT nt hf2 (.cons (.str _) (.cons ha .nil))) ?_ ?_
      · rw [row_say]
        exact ga
      · exact (Wt.tup (WtA.cons (Wt.lit (L := 40) (by decide +kernel)) (WtA.cons wa (WtA.nil (L := 0))))).mono (by omega) (by omega)
    refine ⟨_, rfl, rfl, _, rfl, ite2 (fun e1 => ?_) (fun e1 => ?_)⟩
    · refine ⟨_, rfl, p, _, rfl, dr1, by omega, by omega, fun H2 z gp2 dr2 hz => ?_⟩
      have hf2 := gp2.there dr2 hf1
      refine ⟨_, rfl, p, S, _, rfl, dr2, by omega, by omega, hf2, fun H3 v3 a3 gp3 dr3 ha3 ga3 wa3 => ?_⟩
      have hf3 := gp3.there dr3 hf2
      refine ⟨_, rfl, p, S, _, rfl, dr3, by omega, by omega, hf3, fun H4 v4 a4 gp4 dr4 ha4 ga4 wa4 => ?_⟩
      have hf4 := gp4.there dr4 hf3
      refine ⟨_, rfl, p, S, _, rfl, dr4, by omega, by omega, hf4, fun H5 v5 a5 gp5 dr5 ha5 ga5 wa5 => ?_⟩
      have hf5 := gp5.there dr5 hf4
      refine ⟨by show 5 ≤ sizeLine; decide, fun t nt => ?_⟩
      have gp : Gp p H H5 := gp1.trans (gp2.trans (gp3.trans (gp4.trans gp5)))
      refine q _ _ (.tuple [.str "pick", .str z, a3, a4, a5]) (gp.trans (Gp.gr (Gr.new nt))) ((dr5.new nt).mono (by omega))
        (dx_newT nt hf5 (.cons (.str _) (.cons (.str _) (.cons ((dr3.hkx (gp4.trans gp5)).dx ha3) (.cons ((dr4.hkx gp5).dx ha4) (.cons ha5 .nil)))))) ?_ ?_
      · rw [row_pick]
        show (isN z && (decide (((3 : Nat) : Int) ≤ 3) && (argD a3 && (argD a4 && (argD a5 && true))))) = true
        rw [hz, ga3, ga4, ga5]
        rfl
      · exact (Wt.tup (WtA.cons (Wt.lit (L := 42) (by decide +kernel)) (WtA.cons ((isN_ok hz).mono (Nat.le_refl _) (by omega)) (WtA.cons wa3 (WtA.cons wa4 (WtA.cons wa5 (WtA.nil (L := 0)))))))).mono (by omega) (by omega)
    · refine ⟨_, rfl, p, _, rfl, dr1, by omega, by omega, fun H2 z2 gp2 dr2 hz2 => ?_⟩
      refine ⟨_, rfl, p, _, rfl, dr2, by omega, by omega, fun H3 z3 gp3 dr3 hz3 => ?_⟩
      refine ⟨_, rfl, p, _, rfl, dr3, by omega, by omega, fun H4 z4 gp4 dr4 hz4 => ?_⟩
      have gpa : Gp p H H4 := gp1.trans (gp2.trans (gp3.trans gp4))
      have hf4 := gpa.there dr4 hf
      refine ⟨by show 3 ≤ sizeLine; decide, fun tn ntn => ?_⟩
      have dn : Dx K (hide S (upd H4 tn (.tup [.str z2, .str z3, .str z4]))) (.ref tn) (.tuple [.str z2, .str z3, .str z4]) := dx_newT ntn hf4 (.cons (.str _) (.cons (.str _) (.cons (.str _) .nil)))
      have gpb : Gp p H (upd H4 tn (.tup [.str z2, .str z3, .str z4])) := gpa.trans (Gp.gr (Gr.new ntn))
      have drb : Drw (upd H4 tn (.tup [.str z2, .str z3, .str z4])) p (B + 31) := (dr4.new ntn).mono (by omega)
      generalize upd H4 tn (.tup [.str z2, .str z3, .str z4]) = H5 at dn gpb drb ⊢
      have hf5 := gpb.there drb hf
      refine ⟨by show 1 ≤ sizeLine; decide, fun tl ntl => ?_⟩
      have dl : Dx K (hide S (upd H5 tl (.tup [.str "let"]))) (.ref tl) (.tuple [.str "let"]) := dx_newT ntl hf5 (.cons (.str _) .nil)
      have g6 : Gr H5 (upd H5 tl (.tup [.str "let"])) := Gr.new ntl
      generalize upd H5 tl (.tup [.str "let"]) = H6 at dl g6 ⊢
      refine ⟨_, rfl, S, [.str "let"], [.str z2, .str z3, .str z4], dl, g6.hkx.dx dn, hf5.gr g6, by show 1 + 3 ≤ sizeLine; decide, fun v7 H7 g7 d7 => ?_⟩
      have dr7 : Drw H7 p (B + 31) := (drb.gr g6).gr g7
      refine ⟨_, rfl, p, 4, _, rfl, dr7, by omega, by decide, by decide, fun H8 d8 b8 dr8 e0 e4 => ?_⟩
      have gp8 : Gp p H7 H8 := Gp.but b8
      have gpc : Gp p H H8 := (gpb.trans (Gp.gr (g6.trans g7))).trans gp8
      have d8v := (dr7.hkx gp8).dx d7
      refine ⟨_, rfl, by omega, by omega, fun D nD => ?_⟩
      have nDp : D ≠ p := dr8.ne nD
      have hf8 := gpc.there dr8 hf
      refine lc_it (walk_range (lo := 0) (n := d8.toNat)) (fun j H9 => ∃ (xs : List V) (ds : List PyData), H9 D = some (.lst xs) ∧ DxA K (hide (D :: S) H9) xs ds ∧ ds.length = j ∧ (∀ d ∈ ds, argD d = true) ∧ (∀ d ∈ ds, Wt d 160 2) ∧ Gp p H8 H9 ∧ Drw H9 p (B + 32 + 12 * (j : Nat))) ?w0 (fun _ _ _ _ => trivial) ?w1 ?w2
      case w0 => exact ⟨[], [], upd_same, .nil, rfl, by simp, by simp, Gp.gr (Gr.new nD), (dr8.new nD).mono (by omega)⟩
      case w1 =>
        rintro j x H9' H9 hj ⟨xs, ds, hD9, hd9, hl9, ga9, wa9, gp9, dr9⟩ ⟨rfl, rfl⟩
        refine ⟨rfl, ?_⟩
        unfold tYes
        refine iteT ?_
        have hf9 : There (D :: S) H9 := (gp9.there dr9 hf8).cons (by rw [hD9]; intro z; cases z)
        refine ⟨_, rfl, p, D :: S, _, rfl, dr9, by omega, by omega, hf9, fun H10 v10 a10 gp10 dr10 ha10 ga10 wa10 => ?_⟩
        refine ⟨xs, gp10.lst nDp hD9, small1000 ?_, xs ++ [v10], ds ++ [a10], upd_same, ?_, ?_, ?_, ?_, ?_, ?_⟩
        · rw [dxA_len hd9]
          omega
        · rw [hide_upd (by simp)]
          exact dxA_app ((dr9.hkx gp10).dxA hd9) (.cons ha10 .nil)
        · rw [List.length_append, hl9]
          rfl
        · intro d hd
          rcases List.mem_append.mp hd with h | h
          · exact ga9 d h
          · rw [List.mem_singleton.mp h]
            exact ga10
        · intro d hd
          rcases List.mem_append.mp hd with h | h
          · exact wa9 d h
          · rw [List.mem_singleton.mp h]
            exact wa10
        · exact Gp.upd_new (gp9.trans gp10) nD
        · exact (dr10.upd nDp).mono (by omega)
      case w2 =>
      rintro H9 ⟨xs, ds, hD9, hd9, hl9, ga9, wa9, gp9, dr9⟩
      refine ⟨D, _, rfl, .inl ⟨.inl (.inl hD9), fun ta nta => ?_⟩⟩
      have hf9 := gp9.there dr9 hf8
      have da : Dx K (hide S (upd H9 ta (.tup xs))) (.ref ta) (.tuple ds) := dx_newT nta hf9 (hide_tail.dxA hd9)
      have g10 : Gr H9 (upd H9 ta (.tup xs)) := Gr.new nta
      generalize upd H9 ta (.tup xs) = H10 at da g10 ⊢
      refine ⟨by show 1 ≤ sizeLine; decide, fun tb ntb => ?_⟩
      have db : Dx K (hide S (upd H10 tb (.tup [.ref ta]))) (.ref tb) (.tuple [.tuple ds]) := dx_newT ntb (hf9.gr g10) (.cons da .nil)
      have g11 : Gr H10 (upd H10 tb (.tup [.ref ta])) := Gr.new ntb
      generalize upd H10 tb (.tup [.ref ta]) = H11 at db g11 ⊢
      have gr9 : Gr H9 H11 := g10.trans g11
      refine ⟨S, [.str "let", .str z2, .str z3, .str z4], [.tuple ds], gr9.hkx.dx ((dr8.hkx gp9).dx d8v), db, hf9.gr gr9, by show 4 + 1 ≤ sizeLine; decide, fun v12 H12 g12 d12 => ?_⟩
      have gr12 := gr9.trans g12
      refine q H12 v12 _ ((gpc.trans gp9).trans (Gp.gr gr12)) ((dr9.gr gr12).mono (by omega)) d12 ?_ ?_
      · show rowD (.tuple [.str "let", .str z2, .str z3, .str z4, .tuple ds]) = true
        rw [row_let]
        show ((isN z2 && (isN z3 && (isN z4 && true))) && (decide ((ds.length : Int) ≤ 3) && ds.all argD)) = true
        rw [hz2, hz3, hz4, decide_eq_true (by omega), List.all_eq_true.mpr ga9]
        rfl
      · have h3 : ds.length ≤ 3 := by omega
        exact (Wt.tup (WtA.cons (Wt.lit (L := 32) (by decide +kernel)) (WtA.cons ((isN_ok hz2).mono (Nat.le_refl _) (by omega)) (WtA.cons ((isN_ok hz3).mono (Nat.le_refl _) (by omega)) (WtA.cons ((isN_ok hz4).mono (Nat.le_refl _) (by omega)) (WtA.cons (Wt.tup (wtA_args wa9 h3)) (WtA.nil (L := 0)))))))).mono (by omega) (by omega)
end
end SfC
namespace SfC
open PySem PySem.Spec PyProof.Rows L2 SfG
theorem WtA.lit {ds : List PyData} {L D : Nat} (h : (okdA ds && decide (wtA ds ≤ L) && decide (PyData.depthAll ds ≤ D)) = true) : WtA ds L D := by
  rw [Bool.and_eq_true, Bool.and_eq_true, decide_eq_true_eq, decide_eq_true_eq] at h
  exact ⟨h.1.1, h.1.2, h.2⟩
def odd1 : List PyData := [.none, .bool true, .int 0, .int 8, .int 9, .int (-1), .int 2, .int 3, .str "", .str "A", .str "a", .str "abcdefghi", .str "a{", .str "a\n", .str "a b", .str "say", .str "Name", .tuple [], .list [], .dict []]
def odd2 : List PyData := [.tuple [.str "name", .str "a"], .tuple [.str "number", .int 9], .tuple [.str "number", .bool true], .tuple [.str "input", .int 3], .tuple [.str "input", .int 2], .list [.str "name", .str "a"], .str "name"]
def odd3 (d : PyData) : List PyData := [.tuple [d], .list [d], .int (10 ^ 30), .tuple [.list [.str "name"], .str "a"], .tuple [.str "name", .list [.str "a"]]]
theorem wt_odd {d : PyData} {L D : Nat} (h : Wt d L D) : WtA ((odd1 ++ odd2) ++ odd3 d) (2 * L + 3000) (D + 2) := by
  have h1 : WtA (odd1 ++ odd2) 1500 2 := WtA.lit (by decide +kernel)
  have h2 : WtA [.int (10 ^ 30), .tuple [.list [.str "name"], .str "a"], .tuple [.str "name", .list [.str "a"]]] 400 2 := WtA.lit (by decide +kernel)
  have h3 := Wt.tup (WtA.cons h (WtA.nil (L := 0)))
  have h4 := Wt.lst (WtA.cons h (WtA.nil (L := 0)))
  refine (WtA.app (D := D + 2) (h1.mono (Nat.le_refl _) (by omega)) (WtA.cons (h3.mono (Nat.le_refl _) (by omega)) (WtA.cons (h4.mono (Nat.le_refl _) (by omega)) (h2.mono (Nat.le_refl _) (by omega))))).mono (by omega) (by omega)
abbrev nOdd : List Str := ["_law_state", "_law_thing", "_law_some"]
theorem scOdd : FnScope nOdd ["_law_state", "_law_thing"] (defScope sOdd) := ⟨rfl, rfl, rfl, by decide +kernel, rfl, by decide +kernel, by decide +kernel⟩
section
variable {P : Program} {w : World} {K : PySem.W.Frag} {mg : Str → Option Value} {base : Heap}
def spOdd (K : PySem.W.Frag) : Sp := fun vs H Q _ => ∃ (p : Addr) (S : List Addr) (B : Int) (v : V) (d : PyData) (L D : Nat), vs = [.ref p, v] ∧ Drw H p B ∧ 0 ≤ B ∧ B ≤ 90000 ∧ There S H ∧ Dx K (hide S H) v d ∧ Wt d L D ∧
  ∀ H' v' d', Gp p H H' → Drw H' p (B + 1) → Dx K (hide S H') v' d' → Wt d' (2 * L + 3000) (D + 2) → Q v' H'
set_option maxHeartbeats 2000000 in
theorem ok_odd {f fG : Addr} {fd fdG : FuncData} {k : Nat} (F : Fun K "_law_odd" "_law_odd" sOdd f fd) (DG : Has P w K mg base (k + 2) "_law_digit" ["_law_state", "_law_many"] spDigit fG fdG) :
    FnOk P w K mg base CX0 (k + 3) f fd ["_law_state", "_law_thing"] (spOdd K) := by
  refine F.ok scOdd (fun vs H Q E h => ?_) (fun cdv A outer s H vs Q E hr h => ?_)
  · obtain ⟨p, S, B, v, d, L, D, rfl, _⟩ := h
    rfl
  · obtain ⟨p, S, B, v, d, L, D, rfl, dr, B0, B9, hf, hv, wd, q⟩ := h
    have nd := scOdd.nd
    refine' ⟨_, pss_cons ?s1 (pss_cons ?s2 (pss_one ?s3)), ?rd⟩
    case s1 => exact ps_set (i := 2) nd rfl (.inl rfl) (pe_lst (pa_cons pe_non (pa_cons pe_bl (pa_cons pe_int (pa_cons pe_int (pa_cons pe_int (pa_cons (pe_un un_neg pe_int) (pa_cons pe_int (pa_cons pe_int (pa_cons pe_str (pa_cons pe_str (pa_cons pe_str (pa_cons pe_str (pa_cons pe_str (pa_cons pe_str (pa_cons pe_str (pa_cons pe_str (pa_cons pe_str (pa_cons (pe_tup pa_nil) (pa_cons (pe_lst pa_nil) (pa_cons pe_dnewK pa_nil)))))))))))))))))))))
    case s2 => exact ps_set (i := 2) nd rfl (.inl rfl) (pe_op op_cat (pv 2) (pe_lst (pa_cons (pe_tup (pa_cons pe_str (pa_cons pe_str pa_nil))) (pa_cons (pe_tup (pa_cons pe_str (pa_cons pe_int pa_nil))) (pa_cons (pe_tup (pa_cons pe_str (pa_cons pe_bl pa_nil))) (pa_cons (pe_tup (pa_cons pe_str (pa_cons pe_int pa_nil))) (pa_cons (pe_tup (pa_cons pe_str (pa_cons pe_int pa_nil))) (pa_cons (pe_lst (pa_cons pe_str (pa_cons pe_str pa_nil))) (pa_cons pe_str pa_nil)))))))))
    case s3 => exact ps_ret (pe_ix ix_list (pe_op op_cat (pv 2) (pe_lst (pa_cons (pe_tup (pa_cons (pv 1) pa_nil)) (pa_cons (pe_lst (pa_cons (pv 1) pa_nil)) (pa_cons (pe_op op_pow pe_int pe_int) (pa_cons (pe_tup (pa_cons (pe_lst (pa_cons pe_str pa_nil)) (pa_cons pe_str pa_nil))) (pa_cons (pe_tup (pa_cons pe_str (pa_cons (pe_lst (pa_cons pe_str pa_nil)) pa_nil))) pa_nil))))))) (hcall DG hr (pa_cons (pv 0) (pa_cons pe_int pa_nil))) (fun _ _ => rfl))
    case rd =>
    have tH := hf
    refine ⟨1, rfl, Nat.zero_le _, fun a1 n1 => ?_⟩
    have e1 : Dx K (hide S (upd H a1 (.tup []))) (.ref a1) (.tuple []) := dx_newT n1 tH .nil
    have g1 : Gr H (upd H a1 (.tup [])) := Gr.new n1
    generalize upd H a1 (.tup []) = G1 at e1 g1 ⊢
    have tG1 : There S G1 := tH.gr g1
    refine ⟨Nat.zero_le _, fun a2 n2 => ?_⟩
    have e2 : Dx K (hide S (upd G1 a2 (.lst []))) (.ref a2) (.list []) := dx_newL n2 tG1 .nil
    have g2 : Gr G1 (upd G1 a2 (.lst [])) := Gr.new n2
    generalize upd G1 a2 (.lst []) = G2 at e2 g2 ⊢
    have tG2 : There S G2 := tG1.gr g2
    intro a3 n3
    have e3 : Dx K (hide S (upd G2 a3 (.dK []))) (.ref a3) (.dict []) := dx_newE n3 tG2
    have g3 : Gr G2 (upd G2 a3 (.dK [])) := Gr.new n3
    generalize upd G2 a3 (.dK []) = G3 at e3 g3 ⊢
    have tG3 : There S G3 := tG2.gr g3
    have A1 : DxA K (hide S G3) [.non, .bl true, .int 0, .int 8, .int 9, .int (-1), .int 2, .int 3, .str "", .str "A", .str "a", .str "abcdefghi", .str "a{", .str "a\n", .str "a b", .str "say", .str "Name", .ref a1, .ref a2, .ref a3] odd1 := (.cons .non (.cons (.bl _) (.cons (.int _) (.cons (.int _) (.cons (.int _) (.cons (.int _) (.cons (.int _) (.cons (.int _) (.cons (.str _) (.cons (.str _) (.cons (.str _) (.cons (.str _) (.cons (.str _) (.cons (.str _) (.cons (.str _) (.cons (.str _) (.cons (.str _) (.cons ((g2.trans g3).hkx.dx e1) (.cons (g3.hkx.dx e2) (.cons e3 .nil))))))))))))))))))))
    refine ⟨by show 20 ≤ sizeLine; decide, fun s1 ns1 => ?_⟩
    generalize [V.non, V.bl true, V.int 0, V.int 8, V.int 9, V.int (-1), V.int 2, V.int 3, V.str "", V.str "A", V.str "a", V.str "abcdefghi", V.str "a{", V.str "a\n", V.str "a b", V.str "say", V.str "Name", V.ref a1, V.ref a2, V.ref a3] = xs1 at A1 ⊢
    have gs1 : Gr G3 (upd G3 s1 (.lst xs1)) := Gr.new ns1
    have hs1 : upd G3 s1 (.lst xs1) s1 = some (.lst xs1) := upd_same
    generalize upd G3 s1 (.lst xs1) = I1 at gs1 hs1 ⊢
    have tI1 := tG3.gr gs1
    have B1 : DxA K (hide S I1) xs1 odd1 := gs1.hkx.dxA A1
    have r1 : Gr H I1 := ((g1.trans g2).trans g3).trans gs1
    refine ⟨_, rfl, by show 2 ≤ sizeLine; decide, fun a4 n4 => ?_⟩
    have e4 : Dx K (hide S (upd I1 a4 (.tup [.str "name", .str "a"]))) (.ref a4) (.tuple [.str "name", .str "a"]) := dx_newT n4 tI1 (.cons (.str _) (.cons (.str _) .nil))
    have g4 : Gr I1 (upd I1 a4 (.tup [.str "name", .str "a"])) := Gr.new n4
    generalize upd I1 a4 (.tup [.str "name", .str "a"]) = G4 at e4 g4 ⊢
    have tG4 : There S G4 := tI1.gr g4
    refine ⟨by show 2 ≤ sizeLine; decide, fun a5 n5 => ?_⟩
    have e5 : Dx K (hide S (upd G4 a5 (.tup [.str "number", .int 9]))) (.ref a5) (.tuple [.str "number", .int 9]) := dx_newT n5 tG4 (.cons (.str _) (.cons (.int _) .nil))
    have g5 : Gr G4 (upd G4 a5 (.tup [.str "number", .int 9])) := Gr.new n5
    generalize upd G4 a5 (.tup [.str "number", .int 9]) = G5 at e5 g5 ⊢
    have tG5 : There S G5 := tG4.gr g5
    refine ⟨by show 2 ≤ sizeLine; decide, fun a6 n6 => ?_⟩
    have e6 : Dx K (hide S (upd G5 a6 (.tup [.str "number", .bl true]))) (.ref a6) (.tuple [.str "number", .bool true]) := dx_newT n6 tG5 (.cons (.str _) (.cons (.bl _) .nil))
    have g6 : Gr G5 (upd G5 a6 (.tup [.str "number", .bl true])) := Gr.new n6
    generalize upd G5 a6 (.tup [.str "number", .bl true]) = G6 at e6 g6 ⊢
    have tG6 : There S G6 := tG5.gr g6
    refine ⟨by show 2 ≤ sizeLine; decide, fun a7 n7 => ?_⟩
    have e7 : Dx K (hide S (upd G6 a7 (.tup [.str "input", .int 3]))) (.ref a7) (.tuple [.str "input", .int 3]) := dx_newT n7 tG6 (.cons (.str _) (.cons (.int _) .nil))
    have g7 : Gr G6 (upd G6 a7 (.tup [.str "input", .int 3])) := Gr.new n7
    generalize upd G6 a7 (.tup [.str "input", .int 3]) = G7 at e7 g7 ⊢
    have tG7 : There S G7 := tG6.gr g7
    refine ⟨by show 2 ≤ sizeLine; decide, fun a8 n8 => ?_⟩
    have e8 : Dx K (hide S (upd G7 a8 (.tup [.str "input", .int 2]))) (.ref a8) (.tuple [.str "input", .int 2]) := dx_newT n8 tG7 (.cons (.str _) (.cons (.int _) .nil))
    have g8 : Gr G7 (upd G7 a8 (.tup [.str "input", .int 2])) := Gr.new n8
    generalize upd G7 a8 (.tup [.str "input", .int 2]) = G8 at e8 g8 ⊢
    have tG8 : There S G8 := tG7.gr g8
    refine ⟨by show 2 ≤ sizeLine; decide, fun a9 n9 => ?_⟩
    have e9 : Dx K (hide S (upd G8 a9 (.lst [.str "name", .str "a"]))) (.ref a9) (.list [.str "name", .str "a"]) := dx_newL n9 tG8 (.cons (.str _) (.cons (.str _) .nil))
    have g9 : Gr G8 (upd G8 a9 (.lst [.str "name", .str "a"])) := Gr.new n9
    generalize upd G8 a9 (.lst [.str "name", .str "a"]) = G9 at e9 g9 ⊢
    have tG9 : There S G9 := tG8.gr g9
    have A2 : DxA K (hide S G9) [.ref a4, .ref a5, .ref a6, .ref a7, .ref a8, .ref a9, .str "name"] odd2 := (.cons (((((g5.trans g6).trans g7).trans g8).trans g9).hkx.dx e4) (.cons ((((g6.trans g7).trans g8).trans g9).hkx.dx e5) (.cons (((g7.trans g8).trans g9).hkx.dx e6) (.cons ((g8.trans g9).hkx.dx e7) (.cons (g9.hkx.dx e8) (.cons e9 (.cons (.str _) .nil)))))))
    refine ⟨by show 7 ≤ sizeLine; decide, fun s2 ns2 => ?_⟩
    generalize [V.ref a4, V.ref a5, V.ref a6, V.ref a7, V.ref a8, V.ref a9, V.str "name"] = xs2 at A2 ⊢
    have gs2 : Gr I1 (upd G9 s2 (.lst xs2)) := (((((g4.trans g5).trans g6).trans g7).trans g8).trans g9).trans (Gr.new ns2)
    have B2 : DxA K (hide S (upd G9 s2 (.lst xs2))) xs2 odd2 := (Gr.new ns2).hkx.dxA A2
    have hs2 : upd G9 s2 (.lst xs2) s2 = some (.lst xs2) := upd_same
    generalize upd G9 s2 (.lst xs2) = I2 at gs2 hs2 B2 ⊢
    have l1 : xs1.length = 20 := dxA_len A1
    have l2 : xs2.length = 7 := dxA_len A2
    refine ⟨s1, s2, xs1, xs2, rfl, rfl, gs2.lst hs1, hs2, by rw [l1, l2]; decide, fun s3 ns3 => ?_⟩
    have C3 : DxA K (hide S (upd I2 s3 (.lst (xs1 ++ xs2)))) (xs1 ++ xs2) (odd1 ++ odd2) := (Gr.new ns3).hkx.dxA (dxA_app (gs2.hkx.dxA B1) B2)
    have gs3 : Gr H (upd I2 s3 (.lst (xs1 ++ xs2))) := (r1.trans gs2).trans (Gr.new ns3)
    have hs3 : upd I2 s3 (.lst (xs1 ++ xs2)) s3 = some (.lst (xs1 ++ xs2)) := upd_same
    have l3 : (xs1 ++ xs2).length = 27 := by rw [List.length_append, l1, l2]
    generalize upd I2 s3 (.lst (xs1 ++ xs2)) = I3 at C3 gs3 hs3 ⊢
    generalize xs1 ++ xs2 = xs3 at C3 hs3 l3 ⊢
    clear A1 A2 B1 B2 hs1 hs2
    have tI3 : There S I3 := hf.gr gs3
    have hv3 : Dx K (hide S I3) v d := gs3.hkx.dx hv
    refine ⟨_, rfl, _, rfl, by show 1 ≤ sizeLine; decide, fun a10 n10 => ?_⟩
    have e10 : Dx K (hide S (upd I3 a10 (.tup [v]))) (.ref a10) (.tuple [d]) := dx_newT n10 tI3 (.cons hv3 .nil)
    have g10 : Gr I3 (upd I3 a10 (.tup [v])) := Gr.new n10
    generalize upd I3 a10 (.tup [v]) = G10 at e10 g10 ⊢
    have tG10 : There S G10 := tI3.gr g10
    refine ⟨_, rfl, by show 1 ≤ sizeLine; decide, fun a11 n11 => ?_⟩
    have e11 : Dx K (hide S (upd G10 a11 (.lst [v]))) (.ref a11) (.list [d]) := dx_newL n11 tG10 (.cons (g10.hkx.dx hv3) .nil)
    have g11 : Gr G10 (upd G10 a11 (.lst [v])) := Gr.new n11
    generalize upd G10 a11 (.lst [v]) = G11 at e11 g11 ⊢
    have tG11 : There S G11 := tG10.gr g11
    refine ⟨10, 30, rfl, rfl, ⟨by decide, by decide, by decide⟩, ?_⟩
    refine ⟨by show 1 ≤ sizeLine; decide, fun a12 n12 => ?_⟩
    have e12 : Dx K (hide S (upd G11 a12 (.lst [.str "name"]))) (.ref a12) (.list [.str "name"]) := dx_newL n12 tG11 (.cons (.str _) .nil)
    have g12 : Gr G11 (upd G11 a12 (.lst [.str "name"])) := Gr.new n12
    generalize upd G11 a12 (.lst [.str "name"]) = G12 at e12 g12 ⊢
    have tG12 : There S G12 := tG11.gr g12
    refine ⟨by show 2 ≤ sizeLine; decide, fun a13 n13 => ?_⟩
    have e13 : Dx K (hide S (upd G12 a13 (.tup [.ref a12, .str "a"]))) (.ref a13) (.tuple [.list [.str "name"], .str "a"]) := dx_newT n13 tG12 (.cons e12 (.cons (.str _) .nil))
    have g13 : Gr G12 (upd G12 a13 (.tup [.ref a12, .str "a"])) := Gr.new n13
    generalize upd G12 a13 (.tup [.ref a12, .str "a"]) = G13 at e13 g13 ⊢
    have tG13 : There S G13 := tG12.gr g13
    refine ⟨by show 1 ≤ sizeLine; decide, fun a14 n14 => ?_⟩
    have e14 : Dx K (hide S (upd G13 a14 (.lst [.str "a"]))) (.ref a14) (.list [.str "a"]) := dx_newL n14 tG13 (.cons (.str _) .nil)
    have g14 : Gr G13 (upd G13 a14 (.lst [.str "a"])) := Gr.new n14
    generalize upd G13 a14 (.lst [.str "a"]) = G14 at e14 g14 ⊢
    have tG14 : There S G14 := tG13.gr g14
    refine ⟨by show 2 ≤ sizeLine; decide, fun a15 n15 => ?_⟩
    have e15 : Dx K (hide S (upd G14 a15 (.tup [.str "name", .ref a14]))) (.ref a15) (.tuple [.str "name", .list [.str "a"]]) := dx_newT n15 tG14 (.cons (.str _) (.cons e14 .nil))
    have g15 : Gr G14 (upd G14 a15 (.tup [.str "name", .ref a14])) := Gr.new n15
    generalize upd G14 a15 (.tup [.str "name", .ref a14]) = G15 at e15 g15 ⊢
    have tG15 : There S G15 := tG14.gr g15
    have A4 : DxA K (hide S G15) [.ref a10, .ref a11, (fun (i j : Int) => V.int (i ^ j.toNat)) 10 30, .ref a13, .ref a15] (odd3 d) := (.cons (((((g11.trans g12).trans g13).trans g14).trans g15).hkx.dx e10) (.cons ((((g12.trans g13).trans g14).trans g15).hkx.dx e11) (.cons (.int _) (.cons ((g14.trans g15).hkx.dx e13) (.cons e15 .nil)))))
    refine ⟨by show 5 ≤ sizeLine; decide, fun s4 ns4 => ?_⟩
    generalize [V.ref a10, V.ref a11, (fun (i j : Int) => V.int (i ^ j.toNat)) 10 30, V.ref a13, V.ref a15] = xs4 at A4 ⊢
    have gs4 : Gr I3 (upd G15 s4 (.lst xs4)) := (((((g10.trans g11).trans g12).trans g13).trans g14).trans g15).trans (Gr.new ns4)
    have B4 : DxA K (hide S (upd G15 s4 (.lst xs4))) xs4 (odd3 d) := (Gr.new ns4).hkx.dxA A4
    have hs4 : upd G15 s4 (.lst xs4) s4 = some (.lst xs4) := upd_same
    generalize upd G15 s4 (.lst xs4) = I4 at gs4 hs4 B4 ⊢
    have l4 : xs4.length = 5 := dxA_len A4
    refine ⟨s3, s4, xs3, xs4, rfl, rfl, gs4.lst hs3, hs4, by rw [l3, l4]; decide, fun s5 ns5 => ?_⟩
    have C5 : DxA K (hide S (upd I4 s5 (.lst (xs3 ++ xs4)))) (xs3 ++ xs4) ((odd1 ++ odd2) ++ odd3 d) := (Gr.new ns5).hkx.dxA (dxA_app (gs4.hkx.dxA C3) B4)
    have gs5 : Gr H (upd I4 s5 (.lst (xs3 ++ xs4))) := (gs3.trans gs4).trans (Gr.new ns5)
    have hs5 : upd I4 s5 (.lst (xs3 ++ xs4)) s5 = some (.lst (xs3 ++ xs4)) := upd_same
    have l5 : (xs3 ++ xs4).length = 32 := by rw [List.length_append, l3, l4]
    have nsp : s5 ≠ p := (dr.gr (gs3.trans gs4)).ne ns5
    generalize upd I4 s5 (.lst (xs3 ++ xs4)) = I5 at C5 gs5 hs5 ⊢
    generalize xs3 ++ xs4 = xs5 at C5 hs5 l5 ⊢
    have W5 := wt_odd wd
    generalize (odd1 ++ odd2) ++ odd3 d = ds5 at C5 W5
    have dr5 := dr.gr gs5
    refine ⟨_, rfl, p, 32, _, rfl, dr5, by omega, by decide, by decide, fun I6 d6 b6 dr6 z0 z32 => ?_⟩
    have hi : d6.toNat < xs5.length := by omega
    have hx : xs5[d6.toNat]? = some xs5[d6.toNat] := List.getElem?_eq_getElem hi
    generalize xs5[d6.toNat] = u at hx
    obtain ⟨e, he, hu⟩ := dxA_at C5 hx
    refine ⟨s5, xs5, d6, u, rfl, rfl, .inl (.inl ((b6 s5 nsp).trans hs5)), ?_, ?_⟩
    · have := atI_nat (xs := xs5) (j := d6.toNat) hx
      rw [Int.toNat_of_nonneg z0] at this
      exact this
    · exact q I6 u e ((Gp.gr gs5).trans (Gp.but b6)) dr6 ((dr5.hkx (Gp.but b6)).dx hu) (W5.get he)
end
end SfC
namespace SfC
open PySem PySem.Spec PyProof.Rows L2 SfG
theorem len_wt : ∀ ds : List PyData, 2 * ds.length ≤ wtA ds
  | [] => by rw [wtA]; decide
  | d :: ds => by
    have := len_wt ds
    rw [wtA, List.length_cons]
    omega
theorem tup_or (d : PyData) : (tyD d == "tuple") = false ∨ d = .tuple [] ∨ ∃ a r, d = .tuple (a :: r) := by
  cases d with
  | tuple ds =>
    cases ds with
    | nil => exact .inr (.inl rfl)
    | cons a r => exact .inr (.inr ⟨a, r, rfl⟩)
  | none => exact .inl (by decide)
  | bool _ => exact .inl (by show ("bool" == "tuple") = false; decide)
  | int _ => exact .inl (by show ("int" == "tuple") = false; decide)
  | str _ => exact .inl (by show ("str" == "tuple") = false; decide)
  | list _ => exact .inl (by show ("list" == "tuple") = false; decide)
  | dict _ => exact .inl (by show ("dict" == "tuple") = false; decide)
theorem at_two {a b d : Int} (h0 : 0 ≤ d) (h2 : d < 2) : atI [V.int a, .int b] d = some (.int a) ∨ atI [V.int a, .int b] d = some (.int b) := by
  have c : d = 0 ∨ d = 1 := by omega
  rcases c with rfl | rfl
  · exact .inl rfl
  · exact .inr rfl
/-- with one thing taken out -/
theorem wt_out {ds : List PyData} {L D : Nat} (h : Wt (.tuple ds) L D) (a : Nat) : Wt (.tuple (ds.take a ++ ds.drop (a + 1))) L D := by
  obtain ⟨h1, h2, h3⟩ := h.un
  have e := wtA_ends ds (m := a) (n := a + 1) (by omega)
  have r : WtA (ds.take a ++ ds.drop (a + 1)) (wtA ds) (PyData.depthAll ds) := by
    have x1 : WtA ds (wtA ds) (PyData.depthAll ds) := ⟨h1.ok, Nat.le_refl _, Nat.le_refl _⟩
    have t1 := x1.take a
    have t2 := x1.drop (a + 1)
    exact ((WtA.app ⟨t1.ok, Nat.le_refl _, t1.dep⟩ ⟨t2.ok, Nat.le_refl _, t2.dep⟩)).mono e (Nat.le_refl _)
  exact (Wt.tup r).mono h3 h2
/-- with one thing put in, others left out -/
theorem wt_in {ds : List PyData} {x : PyData} {L D L' D' : Nat} (h : Wt (.tuple ds) L D) (hx : Wt x L' D') (hD : D ≤ D' + 1) (a b : Nat) (hab : a ≤ b) : Wt (.tuple ((ds.take a ++ [x]) ++ ds.drop b)) (L + L' + 5) (D' + 1) := by
  obtain ⟨h1, h2, h3⟩ := h.un
  have e := wtA_ends ds hab
  have x1 : WtA ds (wtA ds) D' := ⟨h1.ok, Nat.le_refl _, by omega⟩
  have t1 := x1.take a
  have t2 := x1.drop b
  have r := WtA.app (WtA.app (D := D') ⟨t1.ok, Nat.le_refl _, t1.dep⟩ (WtA.cons hx (WtA.nil (L := 0)))) (⟨t2.ok, Nat.le_refl _, t2.dep⟩ : WtA (ds.drop b) (wtA (ds.drop b)) D')
  exact (Wt.tup r).mono (by omega) (Nat.le_refl _)
abbrev nBent : List Str := ["_law_state", "_law_thing", "_law_deep", "_law_way", "_law_at"]
theorem scBent : FnScope nBent ["_law_state", "_law_thing", "_law_deep"] (defScope sBent) := ⟨rfl, rfl, rfl, by decide +kernel, rfl, by decide +kernel, by decide +kernel⟩
section
variable {P : Program} {w : World} {K : PySem.W.Frag} {mg : Str → Option Value} {base : Heap}
def spBent (K : PySem.W.Frag) (n : Nat) : Sp := fun vs H Q _ => ∃ (p : Addr) (S : List Addr) (B : Int) (v : V) (d : PyData) (m L D : Nat), vs = [.ref p, v, .int (m : Int)] ∧ m ≤ n ∧ Drw H p B ∧ 0 ≤ B ∧ B + 4 * m ≤ 70000 ∧ There S H ∧ Dx K (hide S H) v d ∧ Wt d L D ∧ L ≤ 100000 ∧
  ∀ H' v' d', Gp p H H' → Drw H' p (B + 4 * m + 4) → Dx K (hide S H') v' d' → Wt d' ((3 + m) * L + 3100 + 10 * m) (D + 3 + m) → Q v' H'
set_option maxHeartbeats 2000000 in
/-- what stands behind its first test -/
theorem bent_tail {cdv : Value} {A : Around} {outer : List Env} {s : Shared} {H0 : Hp} {E : XK} {f fG fO : Addr} {fd fdG fdO : FuncData} {k n : Nat} {spR : Sp}
    (F : Fun K "_law_bent" "_law_bent" sBent f fd) (bF : Binds K fd ["_law_state", "_law_thing", "_law_deep"] []) (gF : mg "_law_bent" = some (.ref f))
    (DG : Has P w K mg base (k + 3) "_law_digit" ["_law_state", "_law_many"] spDigit fG fdG) (HO : Has P w K mg base (k + 3) "_law_odd" ["_law_state", "_law_thing"] (spOdd K) fO fdO)
    (GR : FnOk P w K mg base CX0 (k + 3 + n) f fd ["_law_state", "_law_thing", "_law_deep"] spR) (hsp : ∀ j, n = j + 1 → spR = spBent K j) (ml : mg "len" = none)
    (hr : Room (k + 3 + n) (A.deeper (envOfC "_law_bent" (defScope sBent) s.heap.objs.size f cdv))) :
    ∃ tt, PSs (cxOf CX0 P w K mg base nBent "_law_bent" (defScope sBent) f cdv A outer s H0 E).nox ((defBody sBent).drop 2) tt ∧
      ∀ (H : Hp) (Q : VK) (p pv' : Addr) (S : List Addr) (B way : Int) (ds : List PyData) (m L D : Nat), 0 ≤ way → way < 6 → (m = 0 → 4 ≤ way) → m ≤ n → 1 ≤ ds.length → Drw H p (B + 1) → 0 ≤ B → B + 4 * m ≤ 70000 → There S H → Dx K (hide S H) (.ref pv') (.tuple ds) → Wt (.tuple ds) L D → L ≤ 100000 →
        (∀ H' v' d', Gp p H H' → Drw H' p (B + 4 * m + 4) → Dx K (hide S H') v' d' → Wt d' (3 * L + m * L + 3100 + 10 * m) (D + 3 + m) → Q v' H') →
        tt { nx := fun _ H' => Q .non H', rt := Q } [some (.ref p), some (.ref pv'), some (.int (m : Int)), some (.int way), none] H := by
  have nd := scBent.nd
  have hr3 := hr.mono (show k + 3 ≤ k + 3 + n by omega)
  refine' ⟨_, pss_cons ?s3 (pss_cons ?s4 (pss_cons ?s5 (pss_one ?s6))), ?rd⟩
  case s3 =>
    exact ps_set (i := 4) nd rfl (.inl rfl) (pe_ix ix_list (pe_lst (pa_cons (hcall DG hr3 (pa_cons (pv 0) (pa_cons (pe_callB call_len_seq (by rfl) ml PySem.boot_len (pa_cons (pv 1) pa_nil)) pa_nil)))
      (pa_cons (pe_op op_sub (pe_callB call_len_seq (by rfl) ml PySem.boot_len (pa_cons (pv 1) pa_nil)) pe_int) pa_nil))) (hcall DG hr3 (pa_cons (pv 0) (pa_cons pe_int pa_nil))) (fun _ _ => rfl))
  case s4 =>
    exact ps_if (pt_cmpR op_eq (pv 3) pe_int (nomark _)) (pss_one (ps_ret (pe_op op_catX (pe_slice sl_tupX (pv 1) po_none (po_some (pv 4))) (pe_slice sl_tupX (pv 1) (po_some (pe_op op_add (pv 4) pe_int)) po_none)))) pss_nil
  case s5 =>
    exact ps_if (pt_cmpR op_eq (pv 3) pe_int (nomark _)) (pss_one (ps_ret (pe_op op_catX (pe_op op_catX (pe_slice sl_tupX (pv 1) po_none (po_some (pv 4))) (pe_tup (pa_cons (hcall HO hr3 (pa_cons (pv 0) (pa_cons (pv 1) pa_nil))) pa_nil)))
      (pe_slice sl_tupX (pv 1) (po_some (pv 4)) po_none)))) pss_nil
  case s6 =>
    exact ps_ret (pe_op op_catX (pe_op op_catX (pe_slice sl_tupX (pv 1) po_none (po_some (pv 4))) (pe_tup (pa_cons (pe_call GR hr (by rfl) gF F.kp bF .nil pass0 (pa_cons (pv 0) (pa_cons (pe_ix ix_tup (pv 1) (pv 4) (fun _ _ => rfl)) (pa_cons (pe_op op_sub (pv 2) pe_int) pa_nil)))) pa_nil)))
      (pe_slice sl_tupX (pv 1) (po_some (pe_op op_add (pv 4) pe_int)) po_none))
  case rd =>
  intro H Q p pv' S B way ds m L D w0 w6 hm0 hmn hl1 dr B0 B9 hf hv wd hL q
  obtain ⟨_, xs, ⟨⟩, hp, hxs⟩ := dx_tup hv
  have hlen := dxA_len hxs
  have hlw := len_wt ds
  obtain ⟨u1, u2, u3⟩ := wd.un
  have hp0 : SqT K H pv' xs := hide_kx.kd.t hp
  refine ⟨_, rfl, _, rfl, pv', xs, rfl, .inr hp0, p, _, _, rfl, dr, by omega, by omega, by omega, fun H1 d1 b1 dr1 z0 z1 => ?_⟩
  have gp1 : Gp p H H1 := Gp.but b1
  have hv1 : Dx K (hide S H1) (.ref pv') (.tuple ds) := (dr.hkx gp1).dx hv
  refine ⟨_, rfl, pv', xs, rfl, .inr ((dr.kx gp1).kd.t hp0), _, 1, rfl, rfl, ?_⟩
  refine ⟨by show 2 ≤ sizeLine; decide, fun l nl => ?_⟩
  have nlp : l ≠ p := dr1.ne nl
  have g2 : Gr H1 (upd H1 l (.lst [.int d1, .int ((xs.length : Int) - 1)])) := Gr.new nl
  have hl2 : upd H1 l (.lst [.int d1, .int ((xs.length : Int) - 1)]) l = some (.lst [.int d1, .int ((xs.length : Int) - 1)]) := upd_same
  generalize upd H1 l (.lst [.int d1, .int ((xs.length : Int) - 1)]) = H2 at g2 hl2 ⊢
  refine ⟨_, rfl, p, 2, _, rfl, dr1.gr g2, by omega, by decide, by decide, fun H3 d3 b3 dr3 y0 y1 => ?_⟩
  have gp3 : Gp p H H3 := (gp1.trans (Gp.gr g2)).trans (Gp.but b3)
  have hv3 : Dx K (hide S H3) (.ref pv') (.tuple ds) := (dr.hkx gp3).dx hv
  have hf3 := gp3.there dr3 hf
  have hp3 : SqT K H3 pv' xs := (dr.kx gp3).kd.t hp0
  obtain ⟨a, hat, hal⟩ : ∃ a : Nat, atI [V.int d1, .int ((xs.length : Int) - 1)] d3 = some (.int (a : Int)) ∧ a < ds.length := by
    rcases at_two (a := d1) (b := (xs.length : Int) - 1) y0 y1 with h | h
    · refine ⟨d1.toNat, ?_, by omega⟩
      rw [h, Int.toNat_of_nonneg z0]
    · refine ⟨xs.length - 1, ?_, by omega⟩
      rw [h]
      congr 2
      omega
  refine ⟨l, _, d3, _, rfl, rfl, .inl (.inl ((b3 l nlp).trans hl2)), hat, ?_⟩
  clear hl2 b1 b3 z0 z1 y0 y1 hat
  have a1 : ((a : Int) + 1) = ((a + 1 : Nat) : Int) := rfl
  have few : ds.length ≤ 100000 := by omega
  have big : ∀ n : Nat, n ≤ 200002 → n ≤ sizeLine := fun n h => by rw [sizeLine_eq]; omega
  refine ⟨_, rfl, rfl, _, rfl, ite2 (fun e4 => ?_) (fun e4 => ?_)⟩
  · refine ⟨_, rfl, _, rfl, a, rfl, S, ds, hv3, hf3, fun v4 H4 g4 h4 => ?_⟩
    rw [cut_to ds (by omega)] at h4
    refine ⟨_, rfl, _, rfl, a, 1, rfl, rfl, _, rfl, S, ds, g4.hkx.dx hv3, hf3.gr g4, fun v5 H5 g5 h5 => ?_⟩
    rw [a1, cut_from ds (by omega)] at h5
    refine ⟨S, _, _, g5.hkx.dx h4, h5, (hf3.gr g4).gr g5, big _ ?_, fun v6 H6 g6 h6 => ?_⟩
    · rw [List.length_take, List.length_drop]
      omega
    have g := (g4.trans g5).trans g6
    exact q H6 v6 _ (gp3.trans (Gp.gr g)) ((dr3.gr g).mono (by omega)) h6 ((wt_out wd a).mono (by omega) (by omega))
  refine ⟨_, rfl, rfl, _, rfl, ite2 (fun e5 => ?_) (fun e5 => ?_)⟩
  · refine ⟨_, rfl, _, rfl, a, rfl, S, ds, hv3, hf3, fun v4 H4 g4 h4 => ?_⟩
    rw [cut_to ds (by omega)] at h4
    have dr4 := dr3.gr g4
    have hf4 := hf3.gr g4
    refine ⟨_, rfl, _, rfl, p, S, _, _, _, L, D, rfl, dr4, by omega, by omega, hf4, g4.hkx.dx hv3, wd, fun H5 v5 d5 gp5 dr5 h5 w5 => ?_⟩
    have hf5 := gp5.there dr5 hf4
    refine ⟨by show 1 ≤ sizeLine; decide, fun t nt => ?_⟩
    have ht : Dx K (hide S (upd H5 t (.tup [v5]))) (.ref t) (.tuple [d5]) := dx_newT nt hf5 (.cons h5 .nil)
    have gt : Gr H5 (upd H5 t (.tup [v5])) := Gr.new nt
    generalize upd H5 t (.tup [v5]) = H6 at ht gt ⊢
    have k46 : ∀ {x : V} {d : PyData}, Dx K (hide S H4) x d → Dx K (hide S H6) x d := fun h => gt.hkx.dx ((dr4.hkx gp5).dx h)
    refine ⟨S, _, _, k46 h4, ht, hf5.gr gt, big _ ?_, fun v7 H7 g7 h7 => ?_⟩
    · rw [List.length_take]
      show _ + 1 ≤ _
      omega
    have hf7 := (hf5.gr gt).gr g7
    refine ⟨_, rfl, _, rfl, a, rfl, S, ds, g7.hkx.dx (k46 (g4.hkx.dx hv3)), hf7, fun v8 H8 g8 h8 => ?_⟩
    rw [cut_from ds (by omega)] at h8
    refine ⟨S, _, _, g8.hkx.dx h7, h8, hf7.gr g8, big _ ?_, fun v9 H9 g9 h9 => ?_⟩
    · rw [List.length_append, List.length_take, List.length_drop]
      show _ + 1 + _ ≤ _
      omega
    have g := ((gt.trans g7).trans g8).trans g9
    refine q H9 v9 _ (((gp3.trans (Gp.gr g4)).trans gp5).trans (Gp.gr g)) ((dr5.gr g).mono (by omega)) h9 ((wt_in wd w5 (by omega) a a (Nat.le_refl _)).mono (by omega) (by omega))
  · have c4 : ¬ way = 4 := fun z => by rw [z] at e4; exact absurd e4 (by decide)
    have c5 : ¬ way = 5 := fun z => by rw [z] at e5; exact absurd e5 (by decide)
    obtain ⟨j, rfl⟩ : ∃ j, m = j + 1 := ⟨m - 1, by omega⟩
    obtain ⟨i, rfl⟩ : ∃ i, n = i + 1 := ⟨n - 1, by omega⟩
    cases hsp i rfl
    refine ⟨_, rfl, _, rfl, a, rfl, S, ds, hv3, hf3, fun v4 H4 g4 h4 => ?_⟩
    rw [cut_to ds (by omega)] at h4
    have dr4 := dr3.gr g4
    have hf4 := hf3.gr g4
    obtain ⟨d0, hd0⟩ : ∃ d0, ds[a]? = some d0 := ⟨ds[a], List.getElem?_eq_getElem hal⟩
    obtain ⟨_, xs3, ⟨⟩, hp4, hxs4⟩ := dx_tup (g4.hkx.dx hv3)
    obtain ⟨x0, hx0, hd⟩ := dxA_get hxs4 hd0
    have ej : (((j + 1 : Nat) : Int) - 1) = (j : Int) := by omega
    refine ⟨_, rfl, _, rfl, _, rfl, pv', xs3, a, x0, rfl, rfl, hide_kx.kd.t hp4, atI_nat hx0, _, rfl, _, 1, rfl, rfl, ?_⟩
    refine ⟨p, S, _, x0, d0, j, L, D, (by show [V.ref p, x0, V.int (((j + 1 : Nat) : Int) - 1)] = [V.ref p, x0, V.int (j : Int)]; rw [ej]), by omega, dr4, by omega, by omega, hf4, hd, u1.get hd0, hL, fun H5 v5 d5 gp5 dr5 h5 w5 => ?_⟩
    have hf5 := gp5.there dr5 hf4
    refine ⟨by show 1 ≤ sizeLine; decide, fun t nt => ?_⟩
    have ht : Dx K (hide S (upd H5 t (.tup [v5]))) (.ref t) (.tuple [d5]) := dx_newT nt hf5 (.cons h5 .nil)
    have gt : Gr H5 (upd H5 t (.tup [v5])) := Gr.new nt
    generalize upd H5 t (.tup [v5]) = H6 at ht gt ⊢
    have k46 : ∀ {x : V} {d : PyData}, Dx K (hide S H4) x d → Dx K (hide S H6) x d := fun h => gt.hkx.dx ((dr4.hkx gp5).dx h)
    refine ⟨S, _, _, k46 h4, ht, hf5.gr gt, big _ ?_, fun v7 H7 g7 h7 => ?_⟩
    · rw [List.length_take]
      show _ + 1 ≤ _
      omega
    have hf7 := (hf5.gr gt).gr g7
    refine ⟨_, rfl, _, rfl, a, 1, rfl, rfl, _, rfl, S, ds, g7.hkx.dx (k46 (g4.hkx.dx hv3)), hf7, fun v8 H8 g8 h8 => ?_⟩
    rw [a1, cut_from ds (by omega)] at h8
    refine ⟨S, _, _, g8.hkx.dx h7, h8, hf7.gr g8, big _ ?_, fun v9 H9 g9 h9 => ?_⟩
    · rw [List.length_append, List.length_take, List.length_drop]
      show _ + 1 + _ ≤ _
      omega
    have g := ((gt.trans g7).trans g8).trans g9
    have em : (3 + j) * L = 3 * L + j * L := Nat.add_mul 3 j L
    have ej2 : (j + 1) * L = j * L + L := by rw [Nat.add_mul, Nat.one_mul]
    refine q H9 v9 _ (((gp3.trans (Gp.gr g4)).trans gp5).trans (Gp.gr g)) ((dr5.gr g).mono (by omega)) h9 ((wt_in wd w5 (by omega) a (a + 1) (by omega)).mono (by omega) (by omega))
set_option maxHeartbeats 2000000 in
theorem bent_step {f fG fO : Addr} {fd fdG fdO : FuncData} {k n : Nat} {spR : Sp} (F : Fun K "_law_bent" "_law_bent" sBent f fd) (bF : Binds K fd ["_law_state", "_law_thing", "_law_deep"] []) (gF : mg "_law_bent" = some (.ref f))
    (DG : Has P w K mg base (k + 3) "_law_digit" ["_law_state", "_law_many"] spDigit fG fdG) (HO : Has P w K mg base (k + 3) "_law_odd" ["_law_state", "_law_thing"] (spOdd K) fO fdO)
    (GR : FnOk P w K mg base CX0 (k + 3 + n) f fd ["_law_state", "_law_thing", "_law_deep"] spR) (hsp : ∀ j, n = j + 1 → spR = spBent K j)
    (mi : mg "isinstance" = none) (mt : mg "tuple" = none) (ml : mg "len" = none) : FnOk P w K mg base CX0 (k + 3 + n + 1) f fd ["_law_state", "_law_thing", "_law_deep"] (spBent K n) := by
  refine F.ok scBent (fun vs H Q E h => ?_) (fun cdv A outer s H vs Q E hr h => ?_)
  · obtain ⟨p, S, B, v, d, m, L, D, rfl, _⟩ := h
    rfl
  · obtain ⟨p, S, B, v, d, m, L, D, rfl, hmn, dr, B0, B9, hf, hv, wd, hL, q⟩ := h
    have nd := scBent.nd
    have hr3 := hr.mono (show k + 3 ≤ k + 3 + n by omega)
    obtain ⟨tt, ht, hT⟩ := bent_tail (outer := outer) (H0 := H) (E := E) F bF gF DG HO GR hsp ml hr
    refine' ⟨_, pss_cons ?s1 (pss_cons ?s2 ht), ?rd⟩
    case s1 => exact ps_set (i := 3) nd rfl (.inl rfl) (hcall DG hr3 (pa_cons (pv 0) (pa_cons pe_int pa_nil)))
    case s2 =>
      exact ps_if (PW.pt (pw_or (pt_not (pt_val (pe_isi "tuple" 1 mi mt (by decide +kernel)))) (pw_or (pt_cmpR (op_eqT0 hr) (pv 1) (pe_tup pa_nil) (nomark _))
        (pw_or1 (PW.pt (pw_and (pt_cmpR op_eq (pv 2) pe_int (nomark _)) (pw_and1 (pt_cmpR op_lt (pv 3) pe_int (nomark _))))))))) (pss_one (ps_ret (hcall HO hr3 (pa_cons (pv 0) (pa_cons (pv 1) pa_nil))))) pss_nil
    case rd =>
    refine ⟨_, rfl, p, 6, _, rfl, dr, by omega, by decide, by decide, fun H1 way b1 dr1 w0 w6 => ?_⟩
    have gp1 : Gp p H H1 := Gp.but b1
    have hf1 := gp1.there dr1 hf
    have hv1 : Dx K (hide S H1) v d := (dr.hkx gp1).dx hv
    have hI := dx_is (hide_kx.dx hv1)
    have e3L : (3 + m) * L = 3 * L + m * L := Nat.add_mul 3 m L
    rw [e3L] at q
    refine ⟨v, rfl, _, _, hI.1, kit_tuple _ hI.2, _, rfl, ?_⟩
    rcases tup_or d with hd | rfl | ⟨a0, r0, rfl⟩
    · rw [hd]
      exact iteT ⟨_, rfl, _, rfl, p, S, _, v, d, L, D, rfl, dr1, by omega, by omega, hf1, hv1, wd, fun H2 v2 d2 gp2 dr2 h2 w2 => q H2 v2 d2 (gp1.trans gp2) (dr2.mono (by omega)) h2 (w2.mono (by omega) (by omega))⟩
    · obtain ⟨pv', xs, rfl, hp, hxs⟩ := dx_tup hv1
      cases dxA_nil hxs
      refine iteF ⟨_, rfl, Nat.zero_le _, fun t nt => ?_⟩
      refine ⟨pv', t, [], rfl, rfl, (Gr.new nt).sqt (hide_kx.kd.t hp), .inl (.inl upd_same), _, rfl, iteT ?_⟩
      have g2 : Gr H1 (upd H1 t (.tup [])) := Gr.new nt
      exact ⟨_, rfl, _, rfl, p, S, _, _, _, L, D, rfl, dr1.gr g2, by omega, by omega, hf1.gr g2, g2.hkx.dx hv1, wd, fun H2 v2 d2 gp2 dr2 h2 w2 => q H2 v2 d2 ((gp1.trans (Gp.gr g2)).trans gp2) (dr2.mono (by omega)) h2 (w2.mono (by omega) (by omega))⟩
    · have hl1 : 1 ≤ (a0 :: r0).length := by simp
      generalize a0 :: r0 = ds at *
      obtain ⟨pv', xs, rfl, hp, hxs⟩ := dx_tup hv1
      have hlen := dxA_len hxs
      refine iteF ⟨_, rfl, Nat.zero_le _, fun t nt => ?_⟩
      have g2 : Gr H1 (upd H1 t (.tup [])) := Gr.new nt
      refine ⟨pv', t, xs, rfl, rfl, g2.sqt (hide_kx.kd.t hp), .inl (.inl upd_same), _, rfl, ?_⟩
      have ei : xs.isEmpty = false := by
        cases xs with
        | nil =>
          exfalso
          rw [← hlen] at hl1
          exact absurd hl1 (by decide)
        | cons _ _ => rfl
      rw [ei]
      refine iteF ?_
      have dr2 := dr1.gr g2
      have hf2 := hf1.gr g2
      have hv2 : Dx K (hide S (upd H1 t (.tup []))) (.ref pv') (.tuple ds) := g2.hkx.dx hv1
      have gp2 : Gp p H (upd H1 t (.tup [])) := gp1.trans (Gp.gr g2)
      generalize upd H1 t (.tup []) = H2 at dr2 hf2 hv2 gp2 ⊢
      refine ⟨_, rfl, rfl, _, rfl, ite2 (fun e => ?_) (fun e => ?_)⟩
      · have e0 : m = 0 := by
          have := of_decide_eq_true e
          have := V.int.inj this
          omega
        refine ⟨_, rfl, way, 4, rfl, rfl, _, rfl, ite2 (fun e4 => ?_) (fun e4 => ?_)⟩
        · exact ⟨_, rfl, _, rfl, p, S, _, _, _, L, D, rfl, dr2, by omega, by omega, hf2, hv2, wd, fun H3 v3 d3 gp3 dr3 h3 w3 => q H3 v3 d3 (gp2.trans gp3) (dr3.mono (by omega)) h3 (w3.mono (by omega) (by omega))⟩
        · exact hT H2 Q p pv' S B way ds m L D w0 w6 (fun _ => by have := of_decide_eq_false (Bool.eq_false_iff.mpr e4); omega) hmn hl1 dr2 B0 B9 hf2 hv2 wd hL (fun H3 v3 d3 gp3 dr3 h3 w3 => q H3 v3 d3 (gp2.trans gp3) dr3 h3 w3)
      · exact hT H2 Q p pv' S B way ds m L D w0 w6 (fun z => by rw [z] at e; exact absurd e (by decide)) hmn hl1 dr2 B0 B9 hf2 hv2 wd hL (fun H3 v3 d3 gp3 dr3 h3 w3 => q H3 v3 d3 (gp2.trans gp3) dr3 h3 w3)
theorem ok_bent {f fG fO : Addr} {fd fdG fdO : FuncData} {k : Nat} (F : Fun K "_law_bent" "_law_bent" sBent f fd) (bF : Binds K fd ["_law_state", "_law_thing", "_law_deep"] []) (gF : mg "_law_bent" = some (.ref f))
    (DG : Has P w K mg base (k + 3) "_law_digit" ["_law_state", "_law_many"] spDigit fG fdG) (HO : Has P w K mg base (k + 3) "_law_odd" ["_law_state", "_law_thing"] (spOdd K) fO fdO)
    (mi : mg "isinstance" = none) (mt : mg "tuple" = none) (ml : mg "len" = none) : ∀ n, FnOk P w K mg base CX0 (k + 3 + n + 1) f fd ["_law_state", "_law_thing", "_law_deep"] (spBent K n)
  | 0 => bent_step (n := 0) (spR := fun _ _ _ _ => False) F bF gF DG HO ⟨fun _ _ _ _ h => h.elim, fun _ _ _ _ _ _ _ _ _ _ _ _ _ h => h.elim⟩ (fun j h => by cases h) mi mt ml
  | n + 1 => bent_step F bF gF DG HO (ok_bent F bF gF DG HO mi mt ml n) (fun j h => by cases h; rfl) mi mt ml
end
end SfC
namespace SfC
open PySem PySem.Spec PyProof.Rows L2 SfG
/-! ### what is no letter -/
def oth (l : List Nat) : List V := (l.filter fun c => !isLet c).map fun c => V.str ⟨#[c]⟩
theorem oth_snoc (l : List Nat) (c : Nat) : oth (l ++ [c]) = if (!isLet c) = true then oth l ++ [.str ⟨#[c]⟩] else oth l := by
  unfold oth
  rw [List.filter_append, List.map_append]
  cases h : (!isLet c) with
  | true =>
    rw [if_pos rfl]
    simp only [List.filter_cons, h]
    rfl
  | false =>
    rw [if_neg (by decide)]
    simp only [List.filter_cons, h]
    simp
theorem oth_len (l : List Nat) : (oth l).length ≤ l.length := by
  unfold oth
  rw [List.length_map]
  exact List.length_filter_le _ _
theorem oth_none (l : List Nat) : (oth l).isEmpty = l.all isLet := by
  induction l with
  | nil => rfl
  | cons a r ih =>
    rw [List.all_cons, ← ih]
    unfold oth
    cases h : isLet a with
    | true => simp [h]
    | false => simp [h]
theorem boot_bool : bootBuiltins "bool" = some (.type "bool") := by decide +kernel
abbrev nLIsName : List Str := ["_law_thing", "_law_sign"]
theorem scLIsName : FnScope nLIsName ["_law_thing"] (defScope sLIsName) := ⟨rfl, rfl, rfl, by decide +kernel, rfl, by decide +kernel, by decide +kernel⟩
section
variable {P : Program} {w : World} {K : PySem.W.Frag} {mg : Str → Option Value} {base : Heap}
def spLIsName (K : PySem.W.Frag) : Sp := fun vs H Q _ => ∃ (x : V) (d : PyData), vs = [x] ∧ Dx K H x d ∧ Go d ∧ ∀ H', Gr H H' → Q (.bl (nmD d)) H'
theorem ok_lisName {f : Addr} {fd : FuncData} {k : Nat} (F : Fun K "_law_is_name" "_law_is_name" sLIsName f fd) (mi : mg "isinstance" = none) (m1 : mg "str" = none) (ml : mg "len" = none) :
    FnOk P w K mg base CX0 (k + 1) f fd ["_law_thing"] (spLIsName K) := by
  refine F.ok scLIsName (fun vs H Q E h => ?_) (fun cdv A outer s H vs Q E hr h => ?_)
  · obtain ⟨x, d, rfl, _⟩ := h
    rfl
  · obtain ⟨x, d, rfl, hx, go, q⟩ := h
    have nd := scLIsName.nd
    have hI := dx_is hx
    refine' ⟨_, pss_cons ?s1 (pss_one ?s2), ?rd⟩
    case s1 =>
      exact ps_if (PW.pt (pw_or (pt_not (pt_val (pe_isi "str" 0 mi m1 (by decide +kernel)))) (pw_or1 (pt_not (pt_chain op_lt op_lt pe_int (pe_callB call_len_str (by rfl) ml PySem.boot_len (pa_cons (pv 0) pa_nil)) pe_int))))) (pss_one (ps_ret pe_bl)) pss_nil
    case s2 =>
      exact ps_ret (pe_cmpR (op_eqL0 hr) (pe_lc (own := [("_law_sign", 1)]) (g := gName 1) rfl nd (pi_str (pv 0)) (blkOk_by (own := [("_law_sign", 1)]) (N := nLIsName) (sc := defScope sLIsName) (by decide +kernel)) (fun _ _ _ _ _ => pg_name (i := 1) nd rfl (Or.inl rfl))
        (fun _ _ _ _ _ => pts_one (pt_cmpR op_notIn_sign (pv 1) pe_str rfl)) (fun _ _ _ _ _ => pv 1)) (pe_lst pa_nil) (nomark _))
    case rd =>
    refine ⟨x, rfl, _, _, hI.1, kit_str _ hI.2, _, rfl, ?_⟩
    cases d with
    | str z =>
      cases dx_str hx
      have hz := go.text
      have small : z.length < sizeLine := by rw [sizeLine_eq]; omega
      have q' : ∀ H', Gr H H' → Q (.bl (decide (z.length ≤ 8) && (decide (1 ≤ z.length) && z.cps.toList.all isLet))) H' := q
      refine iteF ⟨_, rfl, z, rfl, Nat.le_of_lt small, 0, _, rfl, rfl, _, rfl, ?_⟩
      by_cases c1 : 1 ≤ z.length
      · refine ite2 (fun e1 => ?_) (fun e1 => absurd (decide_eq_true (show (0 : Int) < (z.length : Int) by omega)) e1)
        by_cases c8 : z.length ≤ 8
        · refine ⟨_, 9, rfl, rfl, _, rfl, ?_⟩
          rw [decide_eq_true (show (z.length : Int) < 9 by omega)]
          refine iteF ?_
          rw [decide_eq_true c8, decide_eq_true c1, Bool.true_and, Bool.true_and] at q'
          refine ⟨_, rfl, z, rfl, fun D nD => lc_it walk_str (fun i H1 => H1 = upd H D (.lst (oth (z.cps.toList.take i)))) rfl (fun _ _ _ _ => trivial) ?_ ?_⟩
          · rintro i x H1 H' hi rfl ⟨rfl, c, hc, rfl⟩
            have hc' : z.cps.toList[i]? = some c := by rw [Array.getElem?_toList]; exact hc
            refine ⟨rfl, _, rfl, c, letters, rfl, rfl, _, rfl, ?_⟩
            have e := oth_snoc (z.cps.toList.take i) c
            have et : z.cps.toList.take (i + 1) = z.cps.toList.take i ++ [c] := by rw [List.take_add_one, hc']; rfl
            show if (!isLet c) = true then _ else _
            cases h : (!isLet c) with
            | true =>
              rw [h, if_pos rfl] at e
              refine iteT ⟨_, rfl, _, upd_same, ?_, ?_⟩
              · refine Nat.lt_of_le_of_lt (oth_len _) (Nat.lt_of_le_of_lt ?_ small)
                rw [len_list]
                exact List.length_take_le' _ _
              · rw [upd_upd, et, e]
            | false =>
              rw [h, if_neg (by decide)] at e
              refine iteF ?_
              show _ = _
              rw [et, e]
          · rintro H1 rfl
            have all1 : z.cps.toList.take z.cps.size = z.cps.toList := List.take_of_length_le (by simp)
            rw [all1]
            have g1 : Gr H (upd H D (.lst (oth z.cps.toList))) := Gr.new nD
            have hD : upd H D (.lst (oth z.cps.toList)) D = some (.lst (oth z.cps.toList)) := upd_same
            generalize upd H D (.lst (oth z.cps.toList)) = H1 at g1 hD ⊢
            refine ⟨Nat.zero_le _, fun l nl => ⟨D, l, _, rfl, rfl, .inl (.inl ((Gr.new nl).lst hD)), .inl (.inl upd_same), ?_⟩⟩
            rw [oth_none]
            exact q' _ (g1.trans (Gr.new nl))
        · refine ⟨_, 9, rfl, rfl, _, rfl, ?_⟩
          rw [decide_eq_false (show ¬ (z.length : Int) < 9 by omega)]
          rw [decide_eq_false c8] at q'
          exact iteT (q' H (Gr.refl H))
      · refine ite2 (fun e1 => absurd (of_decide_eq_true e1) (by omega)) (fun e1 => ?_)
        rw [decide_eq_false c1, Bool.false_and, Bool.and_false] at q'
        exact ⟨_, rfl, iteT (q' H (Gr.refl H))⟩
    | _ => exact iteT (q H (Gr.refl H))
/-! ### _law_is_arg -/
theorem str_or (a : PyData) : ((tyD a == "str") = false ∧ ∀ z, eqS a z = false) ∨ ∃ z, a = .str z := by
  cases a with
  | str z => exact .inr ⟨z, rfl⟩
  | none => exact .inl ⟨by decide, fun _ => rfl⟩
  | bool _ => exact .inl ⟨by show ("bool" == "str") = false; decide, fun _ => rfl⟩
  | int _ => exact .inl ⟨by show ("int" == "str") = false; decide, fun _ => rfl⟩
  | list _ => exact .inl ⟨by show ("list" == "str") = false; decide, fun _ => rfl⟩
  | tuple _ => exact .inl ⟨by show ("tuple" == "str") = false; decide, fun _ => rfl⟩
  | dict _ => exact .inl ⟨by show ("dict" == "str") = false; decide, fun _ => rfl⟩
theorem am_not {b : PyData} (h : whD b = false) (lo hi : Int) : amD b lo hi = false := by
  cases b with
  | int i => cases h
  | _ => rfl
theorem argD_2 (a b : PyData) : argD (.tuple [a, b]) = if eqS a "name" = true then nmD b else if eqS a "number" = true then amD b 0 8 else (eqS a "input" && amD b 0 2) := rfl
theorem argD_no {a b : PyData} (h : ∀ z, eqS a z = false) : argD (.tuple [a, b]) = false := by
  rw [argD_2, h, h, h]
  rfl
theorem argD_str {z : Str} {b : PyData} (hz : z ≠ "name") : argD (.tuple [.str z, b]) = (decide (z = "number") && amD b 0 8 || (decide (z = "input") && amD b 0 2)) := by
  rw [argD_2]
  show (if decide (z = "name") = true then _ else if decide (z = "number") = true then _ else (decide (z = "input") && _)) = _
  rw [decide_eq_false hz, if_neg (by decide)]
  by_cases c : z = "number"
  · rw [decide_eq_true c, if_pos rfl, c, Bool.true_and]
    rw [show decide (("number" : Str) = "input") = false from by decide +kernel]
    simp
  · rw [decide_eq_false c, if_neg (by decide), Bool.false_and, Bool.false_or]
theorem am_by (i hi : Int) : amD (.int i) 0 hi = (decide (0 ≤ i) && decide (i < hi + 1)) := by
  simp only [amD]
  congr 1
  by_cases c : i ≤ hi
  · rw [decide_eq_true c, decide_eq_true (by omega)]
  · rw [decide_eq_false c, decide_eq_false (by omega)]
abbrev nLIsArg : List Str := ["_law_thing"]
theorem scLIsArg : FnScope nLIsArg ["_law_thing"] (defScope sLIsArg) := ⟨rfl, rfl, rfl, by decide +kernel, rfl, by decide +kernel, by decide +kernel⟩
def spArgs' (K : PySem.W.Frag) (g : PyData → Bool) : Sp := fun vs H Q _ => ∃ (x : V) (d : PyData), vs = [x] ∧ Dx K H x d ∧ Go d ∧ ∀ H', Gr H H' → Q (.bl (g d)) H'
theorem ok_lisArg {f fN : Addr} {fd fdN : FuncData} {k : Nat} (F : Fun K "_law_is_arg" "_law_is_arg" sLIsArg f fd) (HN : Has P w K mg base (k + 1) "_law_is_name" ["_law_thing"] (spLIsName K) fN fdN)
    (mi : mg "isinstance" = none) (ms : mg "str" = none) (mt : mg "tuple" = none) (mn : mg "int" = none) (mb : mg "bool" = none) (ml : mg "len" = none) :
    FnOk P w K mg base CX0 (k + 2) f fd ["_law_thing"] (spArgs' K argD) := by
  refine F.ok scLIsArg (fun vs H Q E h => ?_) (fun cdv A outer s H vs Q E hr h => ?_)
  · obtain ⟨x, d, rfl, _⟩ := h
    rfl
  · obtain ⟨x, d, rfl, hx, go, q⟩ := h
    have nd := scLIsArg.nd
    have hI := dx_is hx
    refine' ⟨_, pss_cons ?s1 (pss_cons ?s2 (pss_cons ?s3 (pss_one ?s4))), ?rd⟩
    case s1 =>
      exact ps_if (PW.pt (pw_or (pt_not (pt_val (pe_isi "tuple" 0 mi mt (by decide +kernel)))) (pw_or (pt_cmpR op_ne (pe_callB call_len_seq (by rfl) ml PySem.boot_len (pa_cons (pv 0) pa_nil)) pe_int (nomark _))
        (pw_or1 (pt_not (pt_val (pe_callB call_isi (by rfl) mi boot_isi (pa_cons (pe_ix ix_tup (pv 0) pe_int (fun _ _ => rfl)) (pa_cons (pe_bltn (v := .ty "str") (by rfl) ms (by decide +kernel) rfl) pa_nil))))))))) (pss_one (ps_ret pe_bl)) pss_nil
    case s2 =>
      exact ps_if (pt_cmpR op_eq (pe_ix ix_tup (pv 0) pe_int (fun _ _ => rfl)) pe_str (nomark _)) (pss_one (ps_ret (hcall HN hr (pa_cons (pe_ix ix_tup (pv 0) pe_int (fun _ _ => rfl)) pa_nil)))) pss_nil
    case s3 =>
      exact ps_if (PW.pt (pw_or (pt_not (pt_val (pe_callB call_isi (by rfl) mi boot_isi (pa_cons (pe_ix ix_tup (pv 0) pe_int (fun _ _ => rfl)) (pa_cons (pe_bltn (v := .ty "int") (by rfl) mn (by decide +kernel) rfl) pa_nil)))))
        (pw_or1 (pt_val (pe_callB call_isi (by rfl) mi boot_isi (pa_cons (pe_ix ix_tup (pv 0) pe_int (fun _ _ => rfl)) (pa_cons (pe_bltn (v := .ty "bool") (by rfl) mb (by decide +kernel) rfl) pa_nil))))))) (pss_one (ps_ret pe_bl)) pss_nil
    case s4 =>
      exact ps_ret (pe_or (pe_and (pe_cmpR op_eq (pe_ix ix_tup (pv 0) pe_int (fun _ _ => rfl)) pe_str (nomark _)) (pe_one (pe_chain op_le op_lt pe_int (pe_ix ix_tup (pv 0) pe_int (fun _ _ => rfl)) pe_int)))
        (pe_one (pe_and (pe_cmpR op_eq (pe_ix ix_tup (pv 0) pe_int (fun _ _ => rfl)) pe_str (nomark _)) (pe_one (pe_chain op_le op_lt pe_int (pe_ix ix_tup (pv 0) pe_int (fun _ _ => rfl)) pe_int)))))
    case rd =>
    refine ⟨x, rfl, _, _, hI.1, kit_tuple _ hI.2, _, rfl, ?_⟩
    rcases two_or d with ⟨h1, h2⟩ | ⟨a, b, rfl⟩
    · rw [h2] at q
      have qf := q H (Gr.refl H)
      cases d with
      | tuple ds =>
        obtain ⟨p, xs, rfl, hp, hxs⟩ := dx_tup hx
        have hl := dxA_len hxs
        refine iteF ⟨_, rfl, p, xs, rfl, .inr hp, rfl, _, rfl, ite2 (fun e => qf) (fun e => ?_)⟩
        exfalso
        have e2 : xs.length = 2 := by
          by_cases c : xs.length = 2
          · exact c
          · refine absurd ?_ e
            rw [decide_eq_false (fun z => c (by have := V.int.inj z; omega))]
            rfl
        simp only [tupD] at h1
        rw [← hl, e2] at h1
        exact absurd h1 (by decide)
      | _ => exact iteT qf
    obtain ⟨p, xs, rfl, hp, hxs⟩ := dx_tup hx
    obtain ⟨u, r, rfl, hu, hr1⟩ := dxA_cons hxs
    obtain ⟨v, r, rfl, hv, hr2⟩ := dxA_cons hr1
    cases dxA_nil hr2
    have gb : Go b := go.at (i := 1) rfl
    have hIu := dx_is hu
    have hIv := dx_is hv
    refine iteF ⟨_, rfl, p, _, rfl, .inr hp, rfl, _, rfl, iteF ?_⟩
    refine ⟨_, rfl, p, _, 0, u, rfl, rfl, hp, rfl, u, .ty "str", .type (tyD a), .type "str", (tyD a == "str"), rfl, .ty "str", hIu.1, kit_ty (kit_str _ hIu.2), _, rfl, ?_⟩
    rcases str_or a with ⟨h1, h2⟩ | ⟨z, rfl⟩
    · rw [h1]
      have qf := q H (Gr.refl H)
      rw [argD_no h2] at qf
      exact iteT qf
    rw [show (tyD (.str z) == "str") = true from by show ("str" == "str") = true; decide]
    cases dx_str hu
    refine iteF ⟨_, rfl, p, _, 0, _, rfl, rfl, hp, rfl, rfl, _, rfl, ite2 (fun e => ?_) (fun e => ?_)⟩
    · have ez : z = "name" := V.str.inj (of_decide_eq_true e)
      have eq : argD (.tuple [.str z, b]) = nmD b := by rw [ez]; rfl
      rw [eq] at q
      exact ⟨_, rfl, p, _, 1, v, rfl, rfl, hp, rfl, v, b, rfl, hv, gb, q⟩
    have ez : z ≠ "name" := fun z1 => e (decide_eq_true (by rw [z1]))
    rw [argD_str ez] at q
    refine ⟨_, rfl, p, _, 1, v, rfl, rfl, hp, rfl, v, .ty "int", .type (tyD b), .type "int", _, rfl, .ty "int", hIv.1, kit_ty (kit_int _ hIv.2), _, rfl, ?_⟩
    have qf := q H (Gr.refl H)
    have bad : whD b = false → Q (.bl false) H := fun h => by
      rw [am_not h, am_not h, Bool.and_false, Bool.and_false] at qf
      exact qf
    cases b with
    | int i =>
      cases dx_int hv
      refine iteF ⟨_, rfl, p, _, 1, _, rfl, rfl, hp, rfl, .int i, .ty "bool", .type "int", .type "bool", _, rfl, .ty "bool", hIv.1, kit_ty (kit_bool _ hIv.2), _, rfl, iteF ?_⟩
      rw [am_by, am_by] at qf
      have fin : ∀ b : Bool, (decide (z = "number") && (decide (0 ≤ i) && decide (i < 8 + 1)) || (decide (z = "input") && (decide (0 ≤ i) && decide (i < 2 + 1)))) = b → Q (.bl b) H := fun b e => e ▸ qf
      refine ⟨_, rfl, p, _, 0, _, rfl, rfl, hp, rfl, rfl, _, rfl, ite2 (fun e1 => ?_) (fun e1 => ?_)⟩
      · have en : z = "number" := V.str.inj (of_decide_eq_true e1)
        have ei : ¬ z = "input" := by rw [en]; decide +kernel
        have ei' : ¬ (V.str z = V.str "input") := fun y => ei (V.str.inj y)
        rw [decide_eq_true en, decide_eq_false ei] at fin
        refine ⟨_, rfl, p, _, 1, _, rfl, rfl, hp, rfl, 0, i, rfl, rfl, _, rfl, ite2 (fun c0 => ?_) (fun c0 => ?_)⟩
        · refine ⟨i, 9, rfl, rfl, _, rfl, ite2 (fun c9 => ?_) (fun c9 => ?_)⟩
          · refine fin true ?_
            rw [c0, show decide (i < 8 + 1) = true from c9]
            rfl
          · refine ⟨_, rfl, p, _, 0, _, rfl, rfl, hp, rfl, rfl, _, rfl, ?_⟩
            show if decide (V.str z = V.str "input") = true then _ else _
            rw [decide_eq_false ei']
            refine iteF (fin false ?_)
            rw [show decide (i < 8 + 1) = false from Bool.eq_false_iff.mpr c9]
            simp
        · refine ⟨_, rfl, iteF ⟨_, rfl, p, _, 0, _, rfl, rfl, hp, rfl, rfl, _, rfl, ?_⟩⟩
          show if decide (V.str z = V.str "input") = true then _ else _
          rw [decide_eq_false ei']
          refine iteF (fin false ?_)
          rw [show decide (0 ≤ i) = false from Bool.eq_false_iff.mpr c0]
          rfl
      · have en : ¬ z = "number" := fun y => e1 (decide_eq_true (by rw [y]))
        rw [decide_eq_false en] at fin
        refine ⟨_, rfl, iteF ⟨_, rfl, p, _, 0, _, rfl, rfl, hp, rfl, rfl, _, rfl, ite2 (fun e2 => ?_) (fun e2 => ?_)⟩⟩
        · have ei : z = "input" := V.str.inj (of_decide_eq_true e2)
          rw [decide_eq_true ei] at fin
          refine ⟨_, rfl, p, _, 1, _, rfl, rfl, hp, rfl, 0, i, rfl, rfl, _, rfl, ite2 (fun c0 => ?_) (fun c0 => ?_)⟩
          · refine ⟨i, 3, rfl, rfl, fin _ ?_⟩
            rw [c0]
            rfl
          · refine fin false ?_
            rw [show decide (0 ≤ i) = false from Bool.eq_false_iff.mpr c0]
            rfl
        · have ei : ¬ z = "input" := fun y => e2 (decide_eq_true (by rw [y]))
          rw [decide_eq_false ei] at fin
          exact fin false rfl
    | bool c => exact iteF ⟨_, rfl, p, _, 1, v, rfl, rfl, hp, rfl, v, .ty "bool", .type "bool", .type "bool", _, rfl, .ty "bool", hIv.1, kit_ty (kit_bool _ hIv.2), _, rfl, iteT (bad rfl)⟩
    | _ => exact iteT (bad rfl)
end
end SfC
namespace SfC
open PySem PySem.Spec PyProof.Rows L2 SfG
theorem row_no {z : Str} {r : List PyData} (h1 : z = "say" → r.length ≠ 1) (h2 : z = "pick" → r.length ≠ 4) (h3 : z = "let" → r.length ≠ 4) : rowD (.tuple (.str z :: r)) = false := by
  have h : rofD (.tuple (.str z :: r)) = false := by
    rcases rof_or (.tuple (.str z :: r)) with h | ⟨b, e⟩ | ⟨b, c, e', g, e⟩ | ⟨b, c, e', g, e⟩
    · exact h
    · have e1 := List.cons.inj (PyData.tuple.inj e)
      have e2 := PyData.str.inj e1.1
      exact absurd (by rw [e1.2]; rfl) (h1 e2)
    · have e1 := List.cons.inj (PyData.tuple.inj e)
      have e2 := PyData.str.inj e1.1
      exact absurd (by rw [e1.2]; rfl) (h2 e2)
    · have e1 := List.cons.inj (PyData.tuple.inj e)
      have e2 := PyData.str.inj e1.1
      exact absurd (by rw [e1.2]; rfl) (h3 e2)
  unfold rowD
  rw [h]
  rfl
theorem row_notS {a : PyData} {r : List PyData} (h : (tyD a == "str") = false) : rowD (.tuple (a :: r)) = false := by
  cases a with
  | str z => exact absurd h (by show ¬ ("str" == "str") = false; decide)
  | _ => rfl
theorem in_two (z : Str) : inV (.str z) [.str "let", .str "pick"] = (decide (z = "let") || decide (z = "pick")) := by
  by_cases c : z = "let"
  · rw [c]
    decide +kernel
  · by_cases c2 : z = "pick"
    · rw [c2]
      decide +kernel
    · rw [decide_eq_false c, decide_eq_false c2]
      unfold inV
      refine List.any_eq_false.mpr fun y hy => ?_
      have hy' : y = .str "let" ∨ y = .str "pick" := by simpa using hy
      rcases hy' with rfl | rfl
      · simp [eqV]
        exact fun e => c e.symm
      · simp [eqV]
        exact fun e => c2 e.symm
theorem take_all (g : PyData → Bool) {ds : List PyData} {i : Nat} {d : PyData} (h : ds[i]? = some d) : (ds.take (i + 1)).all g = ((ds.take i).all g && g d) := by
  rw [List.take_add_one, h, List.all_append]
  simp
abbrev nLIsRow : List Str := ["_law_thing", "_law_one"]
theorem scLIsRow : FnScope nLIsRow ["_law_thing"] (defScope sLIsRow) := ⟨rfl, rfl, rfl, by decide +kernel, rfl, by decide +kernel, by decide +kernel⟩
section
variable {P : Program} {w : World} {K : PySem.W.Frag} {mg : Str → Option Value} {base : Heap}
set_option maxHeartbeats 1000000 in
theorem ok_lisRow {f fN fA : Addr} {fd fdN fdA : FuncData} {k : Nat} (F : Fun K "_law_is_row" "_law_is_row" sLIsRow f fd) (HN : Has P w K mg base (k + 2) "_law_is_name" ["_law_thing"] (spLIsName K) fN fdN)
    (HA : Has P w K mg base (k + 2) "_law_is_arg" ["_law_thing"] (spArgs' K argD) fA fdA) (mi : mg "isinstance" = none) (ms : mg "str" = none) (mt : mg "tuple" = none) (ml : mg "len" = none) :
    FnOk P w K mg base CX0 (k + 3) f fd ["_law_thing"] (spArgs' K rowD) := by
  refine F.ok scLIsRow (fun vs H Q E h => ?_) (fun cdv A outer s H vs Q E hr h => ?_)
  · obtain ⟨x, d, rfl, _⟩ := h
    rfl
  · obtain ⟨x, d, rfl, hx, go, q⟩ := h
    have nd := scLIsRow.nd
    have hI := dx_is hx
    refine' ⟨_, pss_cons ?s1 (pss_cons ?s2 (pss_cons ?s3 (pss_cons ?s4 (pss_cons ?s5 (pss_one ?s6))))), ?rd⟩
    case s1 =>
      exact ps_if (PW.pt (pw_or (pt_not (pt_val (pe_isi "tuple" 0 mi mt (by decide +kernel)))) (pw_or (pt_cmpR (op_eqT0 hr) (pv 0) (pe_tup pa_nil) (nomark _))
        (pw_or1 (pt_not (pt_val (pe_callB call_isi (by rfl) mi boot_isi (pa_cons (pe_ix ix_tup (pv 0) pe_int (fun _ _ => rfl)) (pa_cons (pe_bltn (v := .ty "str") (by rfl) ms (by decide +kernel) rfl) pa_nil))))))))) (pss_one (ps_ret pe_bl)) pss_nil
    case s2 =>
      exact ps_if (pt_cmpR op_eq (pe_ix ix_tup (pv 0) pe_int (fun _ _ => rfl)) pe_str (nomark _)) (pss_one (ps_ret (pe_and (pe_cmpR op_eq (pe_callB call_len_seq (by rfl) ml PySem.boot_len (pa_cons (pv 0) pa_nil)) pe_int (nomark _))
        (pe_one (hcall HA hr (pa_cons (pe_ix ix_tup (pv 0) pe_int (fun _ _ => rfl)) pa_nil)))))) pss_nil
    case s3 =>
      exact ps_if (PW.pt (pw_or (pt_cmpR op_notIn_seq (pe_ix ix_tup (pv 0) pe_int (fun _ _ => rfl)) (pe_tup (pa_cons pe_str (pa_cons pe_str pa_nil))) rfl) (pw_or (pt_cmpR op_ne (pe_callB call_len_seq (by rfl) ml PySem.boot_len (pa_cons (pv 0) pa_nil)) pe_int (nomark _))
        (pw_or1 (pt_not (pt_val (hcall HN hr (pa_cons (pe_ix ix_tup (pv 0) pe_int (fun _ _ => rfl)) pa_nil)))))))) (pss_one (ps_ret pe_bl)) pss_nil
    case s4 =>
      exact ps_if (pt_cmpR op_eq (pe_ix ix_tup (pv 0) pe_int (fun _ _ => rfl)) pe_str (nomark _)) (pss_one (ps_ret (pe_cmpR (op_eqL0 hr) (pe_lc (own := [("_law_one", 1)]) (g := gName 1) rfl nd (pi_tup (pe_slice sl_tupX (pv 0) (po_some pe_int) po_none)) (blkOk_by (own := [("_law_one", 1)]) (N := nLIsRow) (sc := defScope sLIsRow) (by decide +kernel)) (fun _ _ _ _ _ => pg_name (i := 1) nd rfl (Or.inl rfl))
        (fun _ _ _ _ _ => pts_one (pt_not (pt_val (hcall HA hr (pa_cons (pv 1) pa_nil))))) (fun _ _ _ _ _ => pv 1)) (pe_lst pa_nil) (nomark _)))) pss_nil
    case s5 =>
      exact ps_if (PW.pt (pw_or (pt_not (pt_val (hcall HN hr (pa_cons (pe_ix ix_tup (pv 0) pe_int (fun _ _ => rfl)) pa_nil)))) (pw_or (pt_not (pt_val (hcall HN hr (pa_cons (pe_ix ix_tup (pv 0) pe_int (fun _ _ => rfl)) pa_nil))))
        (pw_or1 (pt_not (pt_val (pe_callB call_isi (by rfl) mi boot_isi (pa_cons (pe_ix ix_tup (pv 0) pe_int (fun _ _ => rfl)) (pa_cons (pe_bltn (v := .ty "tuple") (by rfl) mt (by decide +kernel) rfl) pa_nil))))))))) (pss_one (ps_ret pe_bl)) pss_nil
    case s6 =>
      exact ps_ret (pe_and (pe_cmpR op_lt (pe_callB call_len_seq (by rfl) ml PySem.boot_len (pa_cons (pe_ix ix_tup (pv 0) pe_int (fun _ _ => rfl)) pa_nil)) pe_int (nomark _)) (pe_one (pe_cmpR (op_eqL0 hr) (pe_lc (own := [("_law_one", 1)]) (g := gName 1) rfl nd (pi_tup (pe_ix ix_tup (pv 0) pe_int (fun _ _ => rfl)))
        (blkOk_by (own := [("_law_one", 1)]) (N := nLIsRow) (sc := defScope sLIsRow) (by decide +kernel)) (fun _ _ _ _ _ => pg_name (i := 1) nd rfl (Or.inl rfl)) (fun _ _ _ _ _ => pts_one (pt_not (pt_val (hcall HA hr (pa_cons (pv 1) pa_nil))))) (fun _ _ _ _ _ => pv 1)) (pe_lst pa_nil) (nomark _))))
    case rd =>
    refine ⟨x, rfl, _, _, hI.1, kit_tuple _ hI.2, _, rfl, ?_⟩
    rcases tup_or d with hd | rfl | ⟨a, r, rfl⟩
    · rw [hd]
      have e : rowD d = false := by
        cases d with
        | tuple _ => exact absurd hd (by show ¬ ("tuple" == "tuple") = false; decide)
        | _ => rfl
      rw [e] at q
      exact iteT (q H (Gr.refl H))
    · obtain ⟨p, xs, rfl, hp, hxs⟩ := dx_tup hx
      cases dxA_nil hxs
      refine iteF ⟨_, rfl, Nat.zero_le _, fun t nt => ⟨p, t, [], rfl, rfl, (Gr.new nt).sqt hp, .inl (.inl upd_same), _, rfl, iteT (q _ (Gr.new nt))⟩⟩
    have gr : ∀ {i : Nat} {b : PyData}, (a :: r)[i]? = some b → Go b := fun h => go.at h
    obtain ⟨p, xs, rfl, hp, hxs⟩ := dx_tup hx
    obtain ⟨u, r', rfl, hu, hr1⟩ := dxA_cons hxs
    have hlr := dxA_len hr1
    refine iteF ⟨_, rfl, Nat.zero_le _, fun t nt => ⟨p, t, _, rfl, rfl, (Gr.new nt).sqt hp, .inl (.inl upd_same), _, rfl, iteF ?_⟩⟩
    have g1 : Gr H (upd H t (.tup [])) := Gr.new nt
    generalize upd H t (.tup []) = H1 at g1 ⊢
    replace q : ∀ H', Gr H1 H' → Q (.bl (rowD (.tuple (a :: r)))) H' := fun H' g => q H' (g1.trans g)
    replace hp := g1.sqt hp
    replace hu := g1.kx.dx hu
    replace hr1 := g1.kx.dxA hr1
    clear hx hxs hI g1 nt
    have hIu := dx_is hu
    refine ⟨_, rfl, p, _, 0, u, rfl, rfl, hp, at_0 _ _, u, .ty "str", .type (tyD a), .type "str", (tyD a == "str"), rfl, .ty "str", hIu.1, kit_ty (kit_str _ hIu.2), _, rfl, ?_⟩
    rcases str_or a with ⟨h1, h2⟩ | ⟨z, rfl⟩
    · rw [h1]
      rw [row_notS h1] at q
      exact iteT (q H1 (Gr.refl H1))
    rw [show (tyD (.str z) == "str") = true from by show ("str" == "str") = true; decide]
    cases dx_str hu
    refine iteF ⟨_, rfl, p, _, 0, _, rfl, rfl, hp, at_0 _ _, rfl, _, rfl, ite2 (fun e => ?_) (fun e => ?_)⟩
    · have ez : z = "say" := V.str.inj (of_decide_eq_true e)
      refine ⟨_, rfl, p, _, rfl, .inr hp, rfl, _, rfl, ite2 (fun e2 => ?_) (fun e2 => ?_)⟩
      · have hl : r.length = 1 := by
          have := V.int.inj (of_decide_eq_true e2)
          rw [List.length_cons] at this
          omega
        match r, hl with
        | [b], _ =>
          obtain ⟨v, r2, rfl, hv, hn⟩ := dxA_cons hr1
          cases dxA_nil hn
          rw [ez] at q
          exact ⟨_, rfl, p, _, 1, v, rfl, rfl, hp, rfl, v, b, rfl, hv, gr (i := 1) rfl, q⟩
      · have hl : r.length ≠ 1 := fun z1 => e2 (decide_eq_true (by rw [List.length_cons, hlr, z1]; rfl))
        rw [row_no (fun _ => hl) (fun z1 => absurd (ez.symm.trans z1) (by decide +kernel)) (fun z1 => absurd (ez.symm.trans z1) (by decide +kernel))] at q
        exact q H1 (Gr.refl H1)
    have n1 : z ≠ "say" := fun z1 => e (decide_eq_true (by rw [z1]))
    refine ⟨_, rfl, p, _, 0, _, rfl, rfl, hp, at_0 _ _, by show 2 ≤ sizeLine; decide, fun t nt => ?_⟩
    have g1 : Gr H1 (upd H1 t (.tup [.str "let", .str "pick"])) := Gr.new nt
    have ht : upd H1 t (.tup [.str "let", .str "pick"]) t = some (.tup [.str "let", .str "pick"]) := upd_same
    generalize upd H1 t (.tup [.str "let", .str "pick"]) = H2 at g1 ht ⊢
    replace q : ∀ H', Gr H2 H' → Q (.bl (rowD (.tuple (.str z :: r)))) H' := fun H' g => q H' (g1.trans g)
    replace hp := g1.sqt hp
    replace hr1 := g1.kx.dxA hr1
    clear g1 nt hu
    refine ⟨t, _, rfl, .inr (.inl (.inl ht)), rfl, rfl, _, rfl, ?_⟩
    show if (!inV (.str z) [.str "let", .str "pick"]) = true then _ else _
    rw [in_two]
    by_cases c5 : (z = "let" ∨ z = "pick")
    · have e5 : (decide (z = "let") || decide (z = "pick")) = true := by
        rcases c5 with c | c
        · rw [decide_eq_true c]
          rfl
        · rw [decide_eq_true c, Bool.or_true]
      rw [e5]
      refine iteF ⟨_, rfl, p, _, rfl, .inr hp, rfl, _, rfl, ite2 (fun e2 => ?_) (fun e2 => ?_)⟩
      · have hl : r.length ≠ 4 := fun z1 => by
          rw [decide_eq_true (show V.int (((V.str z :: r').length : Nat) : Int) = .int 5 by rw [List.length_cons, hlr, z1]; rfl)] at e2
          cases e2
        rw [row_no (fun z1 => absurd z1 n1) (fun _ => hl) (fun _ => hl)] at q
        exact q H2 (Gr.refl H2)
      have hl : r.length = 4 := by
        by_cases c : r.length = 4
        · exact c
        · refine absurd ?_ e2
          rw [decide_eq_false (fun z1 => c (by have := V.int.inj z1; rw [List.length_cons] at this; omega))]
          rfl
      match r, hl with
      | [b, c, e', g], _ =>
      obtain ⟨v1, r2, rfl, hv1, hs1⟩ := dxA_cons hr1
      have hs1' := hs1
      obtain ⟨v2, r3, rfl, hv2, hs2⟩ := dxA_cons hs1
      obtain ⟨v3, r4, rfl, hv3, hs3⟩ := dxA_cons hs2
      obtain ⟨v4, r5, rfl, hv4, hs4⟩ := dxA_cons hs3
      cases dxA_nil hs4
      refine ⟨_, rfl, p, _, 1, v1, rfl, rfl, hp, rfl, v1, b, rfl, hv1, gr (i := 1) rfl, fun H3 g3 => ⟨_, rfl, ?_⟩⟩
      have nb : nmD b = false → rowD (.tuple [.str z, b, c, e', g]) = false := by
        intro hb
        rcases c5 with rfl | rfl
        · rw [row_let]
          show ((nmD b && _) && _) = false
          rw [hb]
          rfl
        · rw [row_pick, hb]
          rfl
      cases hb : nmD b with
      | false =>
        rw [nb hb] at q
        exact iteT (q H3 g3)
      | true =>
      refine iteF ⟨_, rfl, p, _, 0, _, rfl, rfl, g3.sqt hp, rfl, rfl, _, rfl, ite2 (fun e3 => ?_) (fun e3 => ?_)⟩
      · have ez : z = "pick" := V.str.inj (of_decide_eq_true e3)
        rw [ez, row_pick, hb, Bool.true_and, argsD_tup] at q
        have q' : ∀ H', Gr H2 H' → Q (.bl ([c, e', g].all argD)) H' := q
        have dd : Dx K (hide [] H3) (.ref p) (.tuple [.str z, b, c, e', g]) := by
          rw [hide_nil]
          exact .tup (g3.sqt hp) (g3.kx.dxA (.cons (.str _) hr1))
        refine ⟨_, rfl, 2, rfl, [], _, dd, There.nil, fun v5 H5 g5 h5 => ?_⟩
        rw [hide_nil] at h5
        have h5' : Dx K H5 v5 (.tuple [c, e', g]) := h5
        obtain ⟨t5, xs5, rfl, ht5, hx5⟩ := dx_tup h5'
        have go5 : ∀ d ∈ [c, e', g], Go d := by
          intro d hd
          obtain ⟨i, hi⟩ := List.getElem?_of_mem hd
          exact gr (i := i + 2) hi
        refine ⟨t5, rfl, ⟨_, ht5⟩, fun D nD => ?_⟩
        have l5 : xs5.length = 3 := dxA_len hx5
        refine lc_it (walk_tup (xs := xs5)) (fun i H2 => ∃ bad : List V, H2 D = some (.lst bad) ∧ bad.length ≤ i ∧ bad.isEmpty = (([c, e', g]).take i).all argD ∧ Gr H5 H2) ⟨[], upd_same, Nat.le_refl _, rfl, Gr.new nD⟩ ?c0 ?c1 ?c2
        case c0 =>
          rintro i H2 hi ⟨bad, _, _, _, g2⟩
          exact g2.sqt ht5
        case c1 =>
          rintro i y H2' H2 hi ⟨bad, hb, hbl, hbe, g2⟩ ⟨rfl, hy⟩
          obtain ⟨d, hd, dy⟩ := dxA_at hx5 hy
          refine ⟨rfl, _, rfl, y, d, rfl, g2.kx.dx dy, go5 d (List.mem_of_getElem? hd), fun H3 g3 => ⟨_, rfl, ?_⟩⟩
          have e := take_all argD hd
          cases hA : argD d with
          | true =>
            rw [hA, Bool.and_true] at e
            exact iteF ⟨bad, g3.lst hb, by omega, by rw [e]; exact hbe, g2.trans g3⟩
          | false =>
            rw [hA, Bool.and_false] at e
            refine iteT ⟨_, rfl, bad, g3.lst hb, ?_, bad ++ [y], upd_same, ?_, ?_, (g2.trans g3).upd_new nD⟩
            · have := l5
              rw [sizeLine_eq]
              omega
            · rw [List.length_append]
              show _ + 1 ≤ _
              omega
            · rw [e]
              simp
        case c2 =>
          rintro H2 ⟨bad, hb, hbl, hbe, g2⟩
          rw [show xs5.length = [c, e', g].length from l5, List.take_length] at hbe
          refine ⟨Nat.zero_le _, fun l nl => ⟨D, l, bad, rfl, rfl, .inl (.inl ((Gr.new nl).lst hb)), .inl (.inl upd_same), ?_⟩⟩
          rw [hbe]
          exact q' _ (((g3.trans g5).trans g2).trans (Gr.new nl))
      · have nz : z ≠ "pick" := fun z1 => e3 (decide_eq_true (by rw [z1]))
        have ez : z = "let" := by
          rcases c5 with h | h
          · exact h
          · exact absurd h nz
        rw [ez, row_let] at q
        have q0 : ∀ H', Gr H2 H' → Q (.bl ((nmD b && (nmD c && (nmD e' && true))) && argsD g)) H' := q
        rw [hb, Bool.true_and, Bool.and_true] at q0
        clear q
        refine ⟨_, rfl, p, _, 2, v2, rfl, rfl, g3.sqt hp, rfl, v2, c, rfl, g3.kx.dx hv2, gr (i := 2) rfl, fun H4 g4 => ⟨_, rfl, ?_⟩⟩
        have g24 := g3.trans g4
        cases hc : nmD c with
        | false =>
          rw [hc] at q0
          exact iteT (q0 H4 g24)
        | true =>
        rw [hc, Bool.true_and] at q0
        refine iteF ⟨_, rfl, p, _, 3, v3, rfl, rfl, g24.sqt hp, rfl, v3, e', rfl, g24.kx.dx hv3, gr (i := 3) rfl, fun H5 g5 => ⟨_, rfl, ?_⟩⟩
        have g25 := g24.trans g5
        cases he : nmD e' with
        | false =>
          rw [he] at q0
          exact iteT (q0 H5 g25)
        | true =>
        rw [he, Bool.true_and] at q0
        have hg := g25.kx.dx hv4
        have hIg := dx_is hg
        refine iteF ⟨_, rfl, p, _, 4, v4, rfl, rfl, g25.sqt hp, rfl, v4, .ty "tuple", .type (tyD g), .type "tuple", _, rfl, .ty "tuple", hIg.1, kit_ty (kit_tuple _ hIg.2), _, rfl, ?_⟩
        have gg : Go g := gr (i := 4) rfl
        cases g with
        | tuple ds =>
          refine iteF ?_
          obtain ⟨tg, xg, rfl, htg, hxg⟩ := dx_tup hg
          have lg := dxA_len hxg
          rw [argsD_tup] at q0
          refine ⟨_, rfl, p, _, 4, _, rfl, rfl, g25.sqt hp, rfl, tg, xg, rfl, .inr htg, _, 4, rfl, rfl, _, rfl, ?_⟩
          by_cases c4 : ds.length ≤ 3
          · have e4 : tupD (.tuple ds) 0 3 = true := by
              simp only [tupD]
              rw [decide_eq_true (by omega), decide_eq_true (by omega)]
              rfl
            rw [e4, Bool.true_and] at q0
            rw [decide_eq_true (show (xg.length : Int) < 4 by omega)]
            refine iteT ⟨_, rfl, p, _, 4, _, rfl, rfl, g25.sqt hp, rfl, tg, rfl, ⟨_, htg⟩, fun D nD => ?_⟩
            have gog : ∀ d ∈ ds, Go d := by
              intro d hd
              obtain ⟨i, hi⟩ := List.getElem?_of_mem hd
              exact gg.at hi
            refine lc_it (walk_tup (xs := xg)) (fun i H2 => ∃ bad : List V, H2 D = some (.lst bad) ∧ bad.length ≤ i ∧ bad.isEmpty = ((ds).take i).all argD ∧ Gr H5 H2) ⟨[], upd_same, Nat.le_refl _, rfl, Gr.new nD⟩ ?c0 ?c1 ?c2
            case c0 =>
              rintro i H2 hi ⟨bad, _, _, _, g2⟩
              exact g2.sqt htg
            case c1 =>
              rintro i y H2' H2 hi ⟨bad, hb, hbl, hbe, g2⟩ ⟨rfl, hy⟩
              obtain ⟨d, hd, dy⟩ := dxA_at hxg hy
              refine ⟨rfl, _, rfl, y, d, rfl, g2.kx.dx dy, gog d (List.mem_of_getElem? hd), fun H3 g3 => ⟨_, rfl, ?_⟩⟩
              have e := take_all argD hd
              cases hA : argD d with
              | true =>
                rw [hA, Bool.and_true] at e
                exact iteF ⟨bad, g3.lst hb, by omega, by rw [e]; exact hbe, g2.trans g3⟩
              | false =>
                rw [hA, Bool.and_false] at e
                refine iteT ⟨_, rfl, bad, g3.lst hb, ?_, bad ++ [y], upd_same, ?_, ?_, (g2.trans g3).upd_new nD⟩
                · have := c4
                  rw [sizeLine_eq]
                  omega
                · rw [List.length_append]
                  show _ + 1 ≤ _
                  omega
                · rw [e]
                  simp
            case c2 =>
              rintro H2 ⟨bad, hb, hbl, hbe, g2⟩
              rw [lg, List.take_length] at hbe
              refine ⟨Nat.zero_le _, fun l nl => ⟨D, l, bad, rfl, rfl, .inl (.inl ((Gr.new nl).lst hb)), .inl (.inl upd_same), ?_⟩⟩
              rw [hbe]
              exact q0 _ ((g25.trans g2).trans (Gr.new nl))
          · have e4 : tupD (.tuple ds) 0 3 = false := by
              simp only [tupD]
              rw [decide_eq_false (show ¬ (ds.length : Int) ≤ 3 by omega), Bool.and_false]
            rw [e4] at q0
            rw [decide_eq_false (show ¬ (xg.length : Int) < 4 by omega)]
            exact iteF (q0 H5 g25)
        | _ => exact iteT (q0 H5 g25)
    · have c6 : ¬ z = "let" := fun h => c5 (.inl h)
      have c7 : ¬ z = "pick" := fun h => c5 (.inr h)
      rw [decide_eq_false c6, decide_eq_false c7]
      rw [row_no (fun z1 => absurd z1 n1) (fun z1 => absurd z1 c7) (fun z1 => absurd z1 c6)] at q
      exact iteT (q H2 (Gr.refl H2))
end
end SfC
namespace SfC
open PySem PySem.Spec PyProof.Rows L2 SfG
theorem repr_ok {ds : List PyData} {L D : Nat} (h : Wt (.list ds) L D) (hL : L ≤ 16000000) (hD : D ≤ 40) : PyData.showableAll ds = true ∧ (PyData.list ds).depth ≤ 40 ∧ (PyData.list ds).shown.length ≤ sizeLine := by
  refine ⟨?_, Nat.le_trans h.dep hD, ?_⟩
  · have := okd_able h.ok
    rw [PyData.showable] at this
    exact this
  · have h1 := okd_len h.ok
    have h2 := h.le
    rw [sizeLine_eq]
    omega
theorem wtA_all : ∀ {ds : List PyData} {L D : Nat}, (∀ d ∈ ds, Wt d L D) → WtA ds (ds.length * (L + 2)) D
  | [], L, D, _ => WtA.nil
  | d :: ds, L, D, h => by
    have h1 := h d List.mem_cons_self
    have h2 := wtA_all (ds := ds) fun e he => h e (List.mem_cons_of_mem _ he)
    refine (WtA.cons h1 h2).mono ?_ (Nat.le_refl _)
    rw [List.length_cons, Nat.add_mul, Nat.one_mul]
    omega
theorem wt_bls (a b : Bool) : Wt (.list [.bool a, .bool b]) 100 2 := by
  cases a <;> cases b <;> exact Wt.lit (by decide +kernel)
theorem orL {K : PySem.W.Frag} {σ : L2.St} {H : Hp} {Q : VK} {a : Addr} {ns : List Int} (hσ : σ[0]? = some (some (.ref a))) (hS : SqL K H a (ns.map V.int)) (hl : ns.length ≤ 63)
    (h : ∀ (b : Addr) (ms : List Int) (H1 : Hp), SqL K H1 b (ms.map V.int) → ms.length ≤ 63 → Q (.ref b) H1) : tOrT K (tVar 0) (tLst (tCons (tC (.int 7)) tNil)) σ H Q := by
  refine ⟨_, hσ, _, .inl ⟨_, hS, rfl⟩, ?_⟩
  cases ns with
  | nil => exact iteF ⟨by show 1 ≤ sizeLine; decide, fun p np => h p [7] _ (.inl (.inl upd_same)) (by decide)⟩
  | cons i r => exact iteT (h a (i :: r) H hS hl)
abbrev nLaw : List Str := ["_law_script", "_law_k", "_law_cell", "_law_state", "_law_arg_here", "_law_row_here", "_law_some", "_law_turn", "_law_ahead", "_law_one"]
theorem scLaw : FnScope nLaw ["_law_script"] (defScope sLaw) := ⟨rfl, rfl, rfl, by decide +kernel, rfl, by decide +kernel, by decide +kernel⟩
section
variable {P : Program} {w : World} {K : PySem.W.Frag} {mg : Str → Option Value} {base : Heap}
def spLaw (K : PySem.W.Frag) : Sp := fun vs H Q _ => ∃ (a : Addr) (ns : List Int), vs = [.ref a] ∧ SqL K H a (ns.map V.int) ∧ ns.length ≤ 63 ∧ ∀ H', Q (.bl true) H'
structure Calls (P : Program) (w : World) (K : PySem.W.Frag) (mg : Str → Option Value) (base : Heap) (fD fA fR fO fB fX fY fU fV : Addr) (dD dA dR dO dB dX dY dU dV : FuncData) : Prop where
  DR : Has P w K mg base 8 "_law_draw" ["_law_cell", "_law_k"] spDraw fD dD
  AR : Has P w K mg base 8 "_law_arg" ["_law_state"] (spLArg K) fA dA
  RW : Has P w K mg base 8 "_law_row" ["_law_state"] (spLRow K) fR dR
  OD : Has P w K mg base 8 "_law_odd" ["_law_state", "_law_thing"] (spOdd K) fO dO
  BT : Has P w K mg base 8 "_law_bent" ["_law_state", "_law_thing", "_law_deep"] (spBent K 2) fB dB
  IA : Has P w K mg base 8 "is_arg" ["thing"] (spIsArg K) fX dX
  IR : Has P w K mg base 8 "is_row" ["thing"] (spIsRow K) fY dY
  LA : Has P w K mg base 8 "_law_is_arg" ["_law_thing"] (spArgs' K argD) fU dU
  LR : Has P w K mg base 8 "_law_is_row" ["_law_thing"] (spArgs' K rowD) fV dV
  me : mg "enumerate" = none
  mr : mg "range" = none
  mp : mg "repr" = none
set_option maxHeartbeats 8000000 in
theorem ok_law {f fD fA fR fO fB fX fY fU fV : Addr} {fd dD dA dR dO dB dX dY dU dV : FuncData} (F : Fun K "law" "law" sLaw f fd) (C : Calls P w K mg base fD fA fR fO fB fX fY fU fV dD dA dR dO dB dX dY dU dV) :
    FnG P w K mg base CX0 9 f fd ["_law_script"] (spLaw K) := by
  refine fng_of F scLaw (fun vs H Q E h => ?_) (fun cdv A outer s H vs Q E hr hgd h => ?_)
  · obtain ⟨a, ns, rfl, _⟩ := h
    rfl
  · obtain ⟨a, ns, rfl, hS, hlen, q⟩ := h
    have nd := scLaw.nd
    refine' ⟨_, pss_cons ?s1 (pss_one ?s2), ?rd⟩
    case s2 => exact ps_ret pe_bl
    case s1 =>
      refine' ps_for PassesOwn.never rfl (pi_enum (by rfl) C.me (pa_cons (pe_slice sl_list (pe_orT (pv 0) (pe_one (pe_lst (pa_cons pe_int pa_nil)))) po_none (po_some pe_int)) pa_nil))
        (pg_tup rfl (pgs_cons (pg_name (i := 1) nd rfl (.inl rfl)) (pgs_cons (pg_name (i := 2) nd rfl (.inl rfl)) pgs_nil)))
        (pss_cons ?b1 (pss_cons ?b2 (pss_cons ?b3 (pss_cons ?b4 (pss_cons ?b5 (pss_cons ?b6 (pss_cons ?b7 (pss_one ?b8))))))))
      case b1 => exact ps_set (i := 3) nd rfl (.inl rfl) (hcall C.DR hr (pa_cons (pv 2) (pa_cons (pe_op op_add (pv 1) pe_int) pa_nil)))
      case b2 => exact ps_par (i := 4) (j := 5) rfl nd rfl rfl (by decide) rfl rfl (pa_cons (hcall C.AR hr (pa_cons (pv 3) pa_nil)) (pa_cons (hcall C.RW hr (pa_cons (pv 3) pa_nil)) pa_nil)) (by rfl)
      case b3 => exact ps_if (PW.pt (pw_or (pt_not (pt_val (hcall C.LA hr (pa_cons (pv 4) pa_nil)))) (pw_or1 (pt_not (pt_val (hcall C.LR hr (pa_cons (pv 5) pa_nil))))))) pss_never pss_nil
      case b4 => exact ps_set (i := 6) nd rfl (.inl rfl) (pe_lst (pa_cons (pv 4) (pa_cons (pv 5) (pa_cons (hcall C.BT hr (pa_cons (pv 3) (pa_cons (pv 4) (pa_cons pe_int pa_nil)))) (pa_cons (hcall C.OD hr (pa_cons (pv 3) (pa_cons (pv 5) pa_nil))) pa_nil)))))
      case b5 =>
        exact ps_for PassesOwn.never rfl (pi_range1 (by rfl) C.mr (pa_cons pe_int pa_nil)) (pg_name (i := 7) nd rfl (.inl rfl)) (pss_cons
          (ps_expr (pe_bm PySem.F.plainAttrs_list PySem.F.slot_list_append PySem.F.type_list_append mt_append (pv 6) (pa_cons (hcall C.BT hr (pa_cons (pv 3) (pa_cons (pv 5) (pa_cons (pe_op op_mod (pv 7) pe_int) pa_nil)))) pa_nil)))
          (pss_one (ps_expr (pe_bm PySem.F.plainAttrs_list PySem.F.slot_list_append PySem.F.type_list_append mt_append (pv 6) (pa_cons (hcall C.BT hr (pa_cons (pv 3) (pa_cons (pe_ix ix_list (pv 6) (pe_un un_neg pe_int) (fun _ _ => rfl)) (pa_cons pe_int pa_nil)))) pa_nil)))))
      case b6 => exact ps_set (i := 8) nd rfl (.inl rfl) (pe_callB (call_reprX hr hgd) (by rfl) C.mp (by decide +kernel) (pa_cons (pv 6) pa_nil))
      case b7 =>
        exact ps_for PassesOwn.never rfl (pi_list (pe_op op_cat (pv 6) (pe_revL (pv 6)))) (pg_name (i := 9) nd rfl (.inl rfl)) (pss_one (ps_if (pt_cmpR op_ne
          (pe_callB (call_reprX hr hgd) (by rfl) C.mp (by decide +kernel) (pa_cons (pe_lst (pa_cons (hcall C.IA hr (pa_cons (pv 9) pa_nil)) (pa_cons (hcall C.IR hr (pa_cons (pv 9) pa_nil)) pa_nil))) pa_nil))
          (pe_callB (call_reprX hr hgd) (by rfl) C.mp (by decide +kernel) (pa_cons (pe_lst (pa_cons (hcall C.LA hr (pa_cons (pv 9) pa_nil)) (pa_cons (hcall C.LR hr (pa_cons (pv 9) pa_nil)) pa_nil))) pa_nil)) (nomark _)) pss_never pss_nil))
      case b8 => exact ps_if (pt_cmpR op_ne (pe_callB (call_reprX hr hgd) (by rfl) C.mp (by decide +kernel) (pa_cons (pv 6) pa_nil)) (pv 8) (nomark _)) pss_never pss_nil
    case rd =>
    -- the list that is walked
    show tOrT K (tVar 0) (tLst (tCons (tC (.int 7)) tNil)) _ H _
    refine orL (a := a) (ns := ns) rfl hS hlen ?_
    intro b ms H0 hb hm
    refine ⟨12, rfl, b, ms.map V.int, rfl, hb, fun el nel => ?_⟩
    have hints : ∀ x ∈ cutV (ms.map V.int) none (some 12), ∃ i, x = V.int i := by
      intro x hx
      unfold cutV at hx
      obtain ⟨i, _, e⟩ := List.mem_map.mp (List.mem_of_mem_drop (List.mem_of_mem_take hx))
      exact ⟨i, e.symm⟩
    have lxs : (cutV (ms.map V.int) none (some 12)).length ≤ 63 := by
      refine Nat.le_trans (cutV_length _ _ _) ?_
      rw [List.length_map]
      exact hm
    have hel : upd H0 el (.lst (cutV (ms.map V.int) none (some 12))) el = some (.lst (cutV (ms.map V.int) none (some 12))) := upd_same
    generalize upd H0 el (.lst (cutV (ms.map V.int) none (some 12))) = Hs at hel ⊢
    generalize cutV (ms.map V.int) none (some 12) = xs at hints lxs hel
    refine ⟨el, xs, rfl, .inl (.inl hel), for_it (walk_enum (xs := xs)) (fun i σ H1 => ∃ y1 y2 y3 y4 y5 y6 y7 y8 y9 : Option V,
      σ = [some (.ref a), y1, y2, y3, y4, y5, y6, y7, y8, y9] ∧ Gr Hs H1) ⟨none, none, none, none, none, none, none, none, none, rfl, Gr.refl _⟩ ?stays ?turn ?after⟩
    case stays =>
      rintro i σ H1 hi ⟨y1, y2, y3, y4, y5, y6, y7, y8, y9, rfl, g⟩
      exact .inl (.inl (g.lst hel))
    case after =>
      rintro σ H1 ⟨y1, y2, y3, y4, y5, y6, y7, y8, y9, rfl, g⟩
      exact q H1
    case turn =>
      rintro i x σ H1 H' hi ⟨y1, y2, y3, y4, y5, y6, y7, y8, y9, rfl, g⟩ ⟨T, kx, cx, rfl, nT, rfl, ek, ec⟩
      cases ek
      obtain ⟨cell, rfl⟩ := hints _ (List.mem_of_getElem? ec)
      refine ⟨T, [.int (i : Nat), .int cell], rfl, .inl (.inl upd_same), rfl, .int (i : Nat), [.int cell], rfl, .int cell, [], rfl, rfl, ?_⟩
      have gT : Gr Hs (upd H1 T (.tup [.int (i : Nat), .int cell])) := g.trans (Gr.new nT)
      generalize upd H1 T (.tup [.int (i : Nat), .int cell]) = HT at gT ⊢
      -- the state, an argument, a row
      refine ⟨_, rfl, _, rfl, (i : Nat), 57, rfl, rfl, cell, _, rfl, by omega, by omega, fun H2 p np g2 dr => ?_⟩
      have nps : Hs p = none := gT.back p np
      have g02 : Gr Hs H2 := gT.trans g2
      replace dr : Drw H2 p 200 := dr.mono (by omega)
      clear np g2 gT nT
      refine ⟨_, rfl, p, [], _, rfl, dr, by omega, by omega, There.nil, fun H3 v3 d3 gp3 dr3 h3 a3 w3 => ?_⟩
      refine ⟨_, rfl, p, [], _, rfl, dr3, by omega, by omega, There.nil, fun H4 v4 d4 gp4 dr4 h4 a4 w4 => ?_⟩
      replace h3 := (dr3.hkx gp4).dx h3
      have gp24 : Gp p H2 H4 := gp3.trans gp4
      refine ⟨_, _, rfl, ?_⟩
      rw [hide_nil] at h3 h4
      -- both are let by
      refine ⟨_, rfl, v3, d3, rfl, h3, w3.mono (by omega) (by omega), fun H5 g5 => ⟨_, rfl, ?_⟩⟩
      rw [a3]
      refine iteF ⟨_, rfl, v4, d4, rfl, g5.kx.dx h4, w4.mono (by omega) (by omega), fun H6 g6 => ⟨_, rfl, ?_⟩⟩
      rw [a4]
      refine iteF ?_
      have g46 := g5.trans g6
      replace h3 := g46.kx.dx h3
      replace h4 := g46.kx.dx h4
      replace gp24 : Gp p H2 H6 := gp24.trans (Gp.gr g46)
      replace dr4 := dr4.gr g46
      clear g5 g6 g46 gp3 gp4 dr3
      -- some
      refine ⟨_, rfl, _, rfl, _, rfl, _, rfl, p, [], _, v3, d3, 1, _, _, rfl, by decide, dr4, by omega, by omega, There.nil, (by rw [hide_nil]; exact h3), w3, by omega, fun H7 v7 d7 gp7 dr7 h7 w7 => ?_⟩
      replace h3 := (dr4.kx gp7).dx h3
      replace h4 := (dr4.kx gp7).dx h4
      refine ⟨_, rfl, _, rfl, p, [], _, v4, d4, _, _, rfl, dr7, by omega, by omega, There.nil, (by rw [hide_nil]; exact h4), w4, fun H8 v8 d8 gp8 dr8 h8 w8 => ?_⟩
      replace h3 := (dr7.kx gp8).dx h3
      replace h4 := (dr7.kx gp8).dx h4
      rw [hide_nil] at h7 h8
      replace h7 := (dr7.kx gp8).dx h7
      have gp28 : Gp p H2 H8 := gp24.trans (gp7.trans gp8)
      clear gp7 gp8 dr7 gp24 dr4
      refine ⟨by show 4 ≤ sizeLine; decide, fun sl nsl => ?_⟩
      have nsp : sl ≠ p := dr8.ne nsl
      have nsH : H2 sl = none := gp28.back sl nsp nsl
      have h4' : Dx K (hide [sl] (upd H8 sl (.lst [v3, v4, v7, v8]))) v4 d4 := (hide_cons nsl).dx (by rw [hide_nil]; exact h4)
      have hA : DxA K (hide [sl] (upd H8 sl (.lst [v3, v4, v7, v8]))) [v3, v4, v7, v8] [d3, d4, d7, d8] := (hide_cons nsl).dxA (by rw [hide_nil]; exact .cons h3 (.cons h4 (.cons h7 (.cons h8 .nil))))
      have hsl : upd H8 sl (.lst [v3, v4, v7, v8]) sl = some (.lst [v3, v4, v7, v8]) := upd_same
      have gp9 : Gp p H2 (upd H8 sl (.lst [v3, v4, v7, v8])) := gp28.trans (Gp.gr (Gr.new nsl))
      have dr9 : Drw (upd H8 sl (.lst [v3, v4, v7, v8])) p 500 := (dr8.new nsl).mono (by omega)
      have W4 : ∀ d ∈ [d3, d4, d7, d8], Wt d 45000 20 := by
        intro d hd
        have hd' : d = d3 ∨ d = d4 ∨ d = d7 ∨ d = d8 := by simpa using hd
        rcases hd' with rfl | rfl | rfl | rfl
        · exact w3.mono (by omega) (by omega)
        · exact w4.mono (by omega) (by omega)
        · exact w7.mono (by omega) (by omega)
        · exact w8.mono (by omega) (by omega)
      generalize upd H8 sl (.lst [v3, v4, v7, v8]) = H9 at h4' hA hsl gp9 dr9 ⊢
      clear h3 h4 h7 h8 w7 w8 gp28 dr8
      refine ⟨6, rfl, by decide, by decide, for_range (n := 6) (fun j σ HJ => ∃ (xs : List V) (ds : List PyData) (y7 : Option V), σ = [some (.ref a), some (.int (i : Nat)), some (.int cell), some (.ref p), some v3, some v4, some (.ref sl), y7, y8, y9] ∧
        HJ sl = some (.lst xs) ∧ DxA K (hide [sl] HJ) xs ds ∧ ds.length = 4 + 2 * j ∧ (∀ d ∈ ds, Wt d 45000 20) ∧ Gp p H2 HJ ∧ Drw HJ p (500 + 30 * (j : Nat)) ∧ Dx K (hide [sl] HJ) v4 d4) ?_ ?_ ?_⟩
      · exact ⟨_, _, _, rfl, hsl, hA, rfl, W4, gp9, dr9.mono (by omega), h4'⟩
      · rintro j σ HJ hj ⟨xs, ds, y7', rfl, hsJ, hAJ, lJ, WJ, gpJ, drJ, h4J⟩
        have lx := dxA_len hAJ
        have th : There [sl] HJ := There.nil.cons (by rw [hsJ]; intro z; cases z)
        have ej : ((0 : Int) + (j : Nat)) % 3 = ((j % 3 : Nat) : Int) := by omega
        refine ⟨_, rfl, .inl ⟨rfl, _, .inl (.inl hsJ)⟩, _, rfl, _, rfl, _, rfl, _, 3, rfl, rfl, (by show (0 : Int) < 3; decide), p, [sl], _, v4, d4, j % 3, _, _, (by show [V.ref p, v4, V.int (((0 : Int) + (j : Nat)) % 3)] = _; rw [ej]), by omega, drJ, by omega, by omega, th, h4J, w4, by omega, fun HA v d gpA drA hd wd => ?_⟩
        have wd' : Wt d 8200 9 := by
          have c3 : j % 3 = 0 ∨ j % 3 = 1 ∨ j % 3 = 2 := by omega
          rcases c3 with c | c | c <;> rw [c] at wd <;> exact wd.mono (by omega) (by omega)
        have hsA : HA sl = some (.lst xs) := gpA.lst nsp hsJ
        refine ⟨sl, xs, v, rfl, rfl, hsA, small1000 (by omega), ?_⟩
        have hAA : DxA K (hide [sl] (upd HA sl (.lst (xs ++ [v])))) (xs ++ [v]) (ds ++ [d]) := by
          rw [hide_upd (by simp)]
          exact dxA_app ((drJ.hkx gpA).dxA hAJ) (.cons hd .nil)
        have hdA : Dx K (hide [sl] (upd HA sl (.lst (xs ++ [v])))) v d := by
          rw [hide_upd (by simp)]
          exact hd
        have h4A : Dx K (hide [sl] (upd HA sl (.lst (xs ++ [v])))) v4 d4 := by
          rw [hide_upd (by simp)]
          exact (drJ.hkx gpA).dx h4J
        have gpB : Gp p H2 (upd HA sl (.lst (xs ++ [v]))) := (gpJ.trans gpA).upd_new nsH
        have drB : Drw (upd HA sl (.lst (xs ++ [v]))) p (500 + 30 * (j : Nat) + 15) := (drA.upd nsp).mono (by omega)
        have hsB : upd HA sl (.lst (xs ++ [v])) sl = some (.lst (xs ++ [v])) := upd_same
        generalize upd HA sl (.lst (xs ++ [v])) = HB at hAA hdA h4A gpB drB hsB ⊢
        have thB : There [sl] HB := There.nil.cons (by rw [hsB]; intro z; cases z)
        refine ⟨_, rfl, .inl ⟨rfl, _, .inl (.inl hsB)⟩, _, rfl, _, rfl, 1, rfl, sl, _, -1, v, rfl, rfl, .inl (.inl hsB), atI_last _ _, p, [sl], _, v, d, 2, _, _, rfl, by decide, drB, by omega, by omega, thB, hdA, wd', by omega, fun HC v' d' gpC drC hd' w' => ?_⟩
        have hsC : HC sl = some (.lst (xs ++ [v])) := gpC.lst nsp hsB
        refine ⟨sl, _, v', rfl, rfl, hsC, ?_, (xs ++ [v]) ++ [v'], (ds ++ [d]) ++ [d'], _, rfl, upd_same, ?_, ?_, ?_, (gpB.trans gpC).upd_new nsH, (drC.upd nsp).mono (by omega), ?_⟩
        · rw [List.length_append]
          exact small1000 (by show _ + 1 ≤ _; omega)
        · rw [hide_upd (by simp)]
          exact dxA_app ((drB.hkx gpC).dxA hAA) (.cons hd' .nil)
        · rw [List.length_append, List.length_append, lJ]
          show _ + 1 + 1 = _
          omega
        · intro e he
          rcases List.mem_append.mp he with he | he
          · rcases List.mem_append.mp he with he | he
            · exact WJ e he
            · rw [List.mem_singleton.mp he]
              exact wd'.mono (by omega) (by omega)
          · rw [List.mem_singleton.mp he]
            exact w'.mono (by omega) (by omega)
        · rw [hide_upd (by simp)]
          exact (drB.hkx gpC).dx h4A
      · rintro σ HJ ⟨xs, ds, y7', rfl, hsJ, hAJ, lJ, WJ, gpJ, drJ, h4J⟩
        have hAH : DxA K HJ xs ds := hide_kx.dxA hAJ
        have hLL : Dx K HJ (.ref sl) (.list ds) := .lst (.inl (.inl hsJ)) hAH
        have wL : Wt (.list ds) (ds.length * 45002 + 3) 21 := Wt.lst (wtA_all WJ)
        obtain ⟨r1, r2, r3⟩ := repr_ok wL (by omega) (by omega)
        have grJ : Gr Hs HJ := Gp.out g02 nps gpJ
        have lx := dxA_len hAH
        clear hAJ h4J drJ gpJ
        -- ahead
        refine ⟨_, rfl, _, ds, _, rfl, hLL, r1, r2, rfl, r3, ?_⟩
        -- each thing, and again from the end
        refine ⟨_, rfl, _, rfl, sl, xs, rfl, .inl (.inl hsJ), fun rl nrl => ?_⟩
        have g1 : Gr HJ (upd HJ rl (.lst xs.reverse)) := Gr.new nrl
        have hrl : upd HJ rl (.lst xs.reverse) rl = some (.lst xs.reverse) := upd_same
        generalize upd HJ rl (.lst xs.reverse) = HK at g1 hrl ⊢
        refine ⟨sl, rl, xs, xs.reverse, rfl, rfl, g1.lst hsJ, hrl, ?_, fun cl ncl => ?_⟩
        · rw [List.length_reverse]
          exact Nat.le_of_lt (small1000 (by omega))
        have g2 : Gr HJ (upd HK cl (.lst (xs ++ xs.reverse))) := g1.trans (Gr.new ncl)
        have hcl : upd HK cl (.lst (xs ++ xs.reverse)) cl = some (.lst (xs ++ xs.reverse)) := upd_same
        generalize upd HK cl (.lst (xs ++ xs.reverse)) = HL at g2 hcl ⊢
        have hAL : DxA K HL (xs ++ xs.reverse) (ds ++ ds.reverse) := g2.kx.dxA (dxA_app hAH (dxA_rev hAH))
        have WL : ∀ d ∈ ds ++ ds.reverse, Go d := by
          intro d hd
          have : d ∈ ds := by
            rcases List.mem_append.mp hd with h | h
            · exact h
            · exact List.mem_reverse.mp h
          exact (WJ d this).mono (by omega) (by omega)
        generalize ds ++ ds.reverse = es at hAL WL
        generalize xs ++ xs.reverse = zs at hAL hcl ⊢
        refine ⟨cl, rfl, ⟨_, .inl (.inl hcl)⟩, for_it (walk_list (xs := zs)) (fun j σ HM => ∃ y9 : Option V, σ = [some (.ref a), some (.int (i : Nat)), some (.int cell), some (.ref p), some v3, some v4, some (.ref sl), y7', some (.str (PyData.list ds).shown), y9] ∧ Gr HL HM) ⟨_, rfl, Gr.refl _⟩ ?st ?tn ?af⟩
        case st =>
          rintro j σ HM hj ⟨y, rfl, gM⟩
          exact .inl (.inl (gM.lst hcl))
        case tn =>
          rintro j x σ HM' HM hj ⟨y, rfl, gM⟩ ⟨rfl, hx⟩
          obtain ⟨d, hd, dx⟩ := dxA_at hAL hx
          have gd := WL d (List.mem_of_getElem? hd)
          replace dx := gM.kx.dx dx
          refine ⟨_, rfl, x, d, rfl, dx, gd, _, rfl, x, d, rfl, dx, gd, fun HN gN => ?_⟩
          refine ⟨by show 2 ≤ sizeLine; decide, fun l1 nl1 => ?_⟩
          have g3 : Gr HM (upd HN l1 (.lst [.bl (argD d), .bl (rowD d)])) := gN.trans (Gr.new nl1)
          have h3 : upd HN l1 (.lst [.bl (argD d), .bl (rowD d)]) l1 = some (.lst [.bl (argD d), .bl (rowD d)]) := upd_same
          generalize upd HN l1 (.lst [.bl (argD d), .bl (rowD d)]) = HO at g3 h3 ⊢
          obtain ⟨q1, q2, q3⟩ := repr_ok (wt_bls (argD d) (rowD d)) (by omega) (by omega)
          refine ⟨_, [.bool (argD d), .bool (rowD d)], _, rfl, .lst (.inl (.inl h3)) (.cons (.bl _) (.cons (.bl _) .nil)), q1, q2, rfl, q3, ?_⟩
          refine ⟨_, rfl, x, d, rfl, g3.kx.dx dx, gd, fun HP gP => ?_⟩
          refine ⟨_, rfl, x, d, rfl, (g3.trans gP).kx.dx dx, gd, fun HR gR => ?_⟩
          refine ⟨by show 2 ≤ sizeLine; decide, fun l2 nl2 => ?_⟩
          refine ⟨_, [.bool (argD d), .bool (rowD d)], _, rfl, .lst (.inl (.inl upd_same)) (.cons (.bl _) (.cons (.bl _) .nil)), q1, q2, rfl, q3, ?_⟩
          refine ⟨rfl, _, rfl, ?_⟩
          rw [decide_eq_true rfl]
          exact iteF ⟨_, rfl, ((gM.trans g3).trans (gP.trans gR)).trans (Gr.new nl2)⟩
        case af =>
          rintro σ HM ⟨y, rfl, gM⟩
          have g3 := g2.trans gM
          refine ⟨_, rfl, _, ds, _, rfl, g3.kx.dx hLL, r1, r2, rfl, r3, _, rfl, rfl, _, rfl, ?_⟩
          rw [decide_eq_true rfl]
          exact iteF ⟨_, _, _, _, _, _, _, _, _, rfl, grJ.trans g3⟩
end
end SfC
namespace SfC
open PySem PySem.Spec PyProof.Rows L2 SfG
theorem sizes_of {e1 e2 e3 : DictEntry} {t1 t2 t3 t4 t5 t6 : Tok} (k1 : e1.key = .str "let" t1) (k2 : e2.key = .str "pick" t2) (k3 : e3.key = .str "say" t3)
    (v1 : e1.val = .int 4 t4) (v2 : e2.val = .int 4 t5) (v3 : e3.val = .int 1 t6) : ∀ z, RelO (rsz z) (findBy Value.isStrOf #[e1, e2, e3] z) := by
  intro z
  have p1 : Value.isStrOf z e1.key = (("let" : Str) == z) := by rw [k1]; rfl
  have p2 : Value.isStrOf z e2.key = (("pick" : Str) == z) := by rw [k2]; rfl
  have p3 : Value.isStrOf z e3.key = (("say" : Str) == z) := by rw [k3]; rfl
  have ne : ∀ {y : Str}, ¬ z = y → (y == z) = false := fun h => beq_eq_false_iff_ne.mpr fun e => h e.symm
  have eq : ∀ {y : Str}, z = y → (y == z) = true := fun h => by rw [h]; exact beq_self_eq_true _
  unfold rsz findBy
  rw [List.find?_toArray, List.find?_cons, p1]
  by_cases c1 : z = "let"
  · rw [if_pos c1, eq c1]
    show RelO _ (some e1.val)
    rw [v1]
    exact ⟨_, rfl⟩
  rw [if_neg c1, ne c1, List.find?_cons, p2]
  by_cases c2 : z = "pick"
  · rw [if_pos c2, eq c2]
    show RelO _ (some e2.val)
    rw [v2]
    exact ⟨_, rfl⟩
  rw [if_neg c2, ne c2, List.find?_cons, p3]
  by_cases c3 : z = "say"
  · rw [if_pos c3, eq c3]
    show RelO _ (some e3.val)
    rw [v3]
    exact ⟨_, rfl⟩
  rw [if_neg c3, ne c3]
  exact trivial
set_option maxHeartbeats 4000000 in
theorem all_mk {l : PySem.W.OpenLaw} {w : World} {K : PySem.W.Frag} {h : Heap} {mg : Str → Option Value} {fa : Addr} (X : K.In h) (G : h.Ns mainGlobals mg) (hfa : mg "law" = some (.ref fa))
    {fA : Addr} {odA anA : Option Addr} {slA : Array (Option Value)} {ocA kVA dcA pmA ctA cdA : Value}
    (aA : PySem.W.nsIn K mainGlobals "is_whole" = some (some (.ref fA))) (lA : K.lookup fA = some ⟨ocA, odA, .func (PySem.W.fnOf "is_whole" "is_whole" (defArgs sWhole) (defBody sWhole) (defScope sWhole) .none kVA dcA pmA anA cdA ctA), slA⟩) (hA : PySem.W.codeIn K cdA "is_whole" = true) (kA : PySem.W.keepIn K (.ref fA) = true)
    {fB : Addr} {odB anB : Option Addr} {slB : Array (Option Value)} {ocB kVB dcB pmB ctB cdB : Value}
    (aB : PySem.W.nsIn K mainGlobals "is_among" = some (some (.ref fB))) (lB : K.lookup fB = some ⟨ocB, odB, .func (PySem.W.fnOf "is_among" "is_among" (defArgs sAmong) (defBody sAmong) (defScope sAmong) .none kVB dcB pmB anB cdB ctB), slB⟩) (hB : PySem.W.codeIn K cdB "is_among" = true) (kB : PySem.W.keepIn K (.ref fB) = true)
    {fC : Addr} {odC anC : Option Addr} {slC : Array (Option Value)} {ocC kVC dcC pmC ctC cdC : Value}
    (aC : PySem.W.nsIn K mainGlobals "is_tuple_of" = some (some (.ref fC))) (lC : K.lookup fC = some ⟨ocC, odC, .func (PySem.W.fnOf "is_tuple_of" "is_tuple_of" (defArgs sTupOf) (defBody sTupOf) (defScope sTupOf) .none kVC dcC pmC anC cdC ctC), slC⟩) (hC : PySem.W.codeIn K cdC "is_tuple_of" = true) (kC : PySem.W.keepIn K (.ref fC) = true)
    {fD : Addr} {odD anD : Option Addr} {slD : Array (Option Value)} {ocD kVD dcD pmD ctD cdD : Value}
    (aD : PySem.W.nsIn K mainGlobals "is_name" = some (some (.ref fD))) (lD : K.lookup fD = some ⟨ocD, odD, .func (PySem.W.fnOf "is_name" "is_name" (defArgs sName) (defBody sName) (defScope sName) .none kVD dcD pmD anD cdD ctD), slD⟩) (hD : PySem.W.codeIn K cdD "is_name" = true) (kD : PySem.W.keepIn K (.ref fD) = true)
    {fE : Addr} {odE anE : Option Addr} {slE : Array (Option Value)} {ocE kVE dcE pmE ctE cdE : Value}
    (aE : PySem.W.nsIn K mainGlobals "is_arg" = some (some (.ref fE))) (lE : K.lookup fE = some ⟨ocE, odE, .func (PySem.W.fnOf "is_arg" "is_arg" (defArgs sIsArg) (defBody sIsArg) (defScope sIsArg) .none kVE dcE pmE anE cdE ctE), slE⟩) (hE : PySem.W.codeIn K cdE "is_arg" = true) (kE : PySem.W.keepIn K (.ref fE) = true)
    {fG : Addr} {odG anG : Option Addr} {slG : Array (Option Value)} {ocG kVG dcG pmG ctG cdG : Value}
    (aG : PySem.W.nsIn K mainGlobals "is_row_of_things" = some (some (.ref fG))) (lG : K.lookup fG = some ⟨ocG, odG, .func (PySem.W.fnOf "is_row_of_things" "is_row_of_things" (defArgs sRowOf) (defBody sRowOf) (defScope sRowOf) .none kVG dcG pmG anG cdG ctG), slG⟩) (hG : PySem.W.codeIn K cdG "is_row_of_things" = true) (kG : PySem.W.keepIn K (.ref fG) = true)
    {fH : Addr} {odH anH : Option Addr} {slH : Array (Option Value)} {ocH kVH dcH pmH ctH cdH : Value}
    (aH : PySem.W.nsIn K mainGlobals "are_args" = some (some (.ref fH))) (lH : K.lookup fH = some ⟨ocH, odH, .func (PySem.W.fnOf "are_args" "are_args" (defArgs sArgs) (defBody sArgs) (defScope sArgs) .none kVH dcH pmH anH cdH ctH), slH⟩) (hH : PySem.W.codeIn K cdH "are_args" = true) (kH : PySem.W.keepIn K (.ref fH) = true)
    {fI : Addr} {odI anI : Option Addr} {slI : Array (Option Value)} {ocI kVI dcI pmI ctI cdI : Value}
    (aI : PySem.W.nsIn K mainGlobals "is_row" = some (some (.ref fI))) (lI : K.lookup fI = some ⟨ocI, odI, .func (PySem.W.fnOf "is_row" "is_row" (defArgs sIsRow) (defBody sIsRow) (defScope sIsRow) .none kVI dcI pmI anI cdI ctI), slI⟩) (hI : PySem.W.codeIn K cdI "is_row" = true) (kI : PySem.W.keepIn K (.ref fI) = true)
    {fX : Addr} {odX anX : Option Addr} {slX : Array (Option Value)} {ocX kVX dcX pmX ctX cdX : Value}
    (aX : PySem.W.nsIn K mainGlobals "_law_mixed" = some (some (.ref fX))) (lX : K.lookup fX = some ⟨ocX, odX, .func (PySem.W.fnOf "_law_mixed" "_law_mixed" (defArgs sMixed) (defBody sMixed) (defScope sMixed) .none kVX dcX pmX anX cdX ctX), slX⟩) (hX : PySem.W.codeIn K cdX "_law_mixed" = true) (kX : PySem.W.keepIn K (.ref fX) = true)
    {fR : Addr} {odR anR : Option Addr} {slR : Array (Option Value)} {ocR kVR dcR pmR ctR cdR : Value}
    (aR : PySem.W.nsIn K mainGlobals "_law_draw" = some (some (.ref fR))) (lR : K.lookup fR = some ⟨ocR, odR, .func (PySem.W.fnOf "_law_draw" "_law_draw" (defArgs sDraw) (defBody sDraw) (defScope sDraw) .none kVR dcR pmR anR cdR ctR), slR⟩) (hR : PySem.W.codeIn K cdR "_law_draw" = true) (kR : PySem.W.keepIn K (.ref fR) = true)
    {fJ : Addr} {odJ anJ : Option Addr} {slJ : Array (Option Value)} {ocJ kVJ dcJ pmJ ctJ cdJ : Value}
    (aJ : PySem.W.nsIn K mainGlobals "_law_digit" = some (some (.ref fJ))) (lJ : K.lookup fJ = some ⟨ocJ, odJ, .func (PySem.W.fnOf "_law_digit" "_law_digit" (defArgs sDigit) (defBody sDigit) (defScope sDigit) .none kVJ dcJ pmJ anJ cdJ ctJ), slJ⟩) (hJ : PySem.W.codeIn K cdJ "_law_digit" = true) (kJ : PySem.W.keepIn K (.ref fJ) = true)
    {fN : Addr} {odN anN : Option Addr} {slN : Array (Option Value)} {ocN kVN dcN pmN ctN cdN : Value}
    (aN : PySem.W.nsIn K mainGlobals "_law_name" = some (some (.ref fN))) (lN : K.lookup fN = some ⟨ocN, odN, .func (PySem.W.fnOf "_law_name" "_law_name" (defArgs sLName) (defBody sLName) (defScope sLName) .none kVN dcN pmN anN cdN ctN), slN⟩) (hN : PySem.W.codeIn K cdN "_law_name" = true) (kN : PySem.W.keepIn K (.ref fN) = true)
    {fM : Addr} {odM anM : Option Addr} {slM : Array (Option Value)} {ocM kVM dcM pmM ctM cdM : Value}
    (aM : PySem.W.nsIn K mainGlobals "_law_arg" = some (some (.ref fM))) (lM : K.lookup fM = some ⟨ocM, odM, .func (PySem.W.fnOf "_law_arg" "_law_arg" (defArgs sLArg) (defBody sLArg) (defScope sLArg) .none kVM dcM pmM anM cdM ctM), slM⟩) (hM : PySem.W.codeIn K cdM "_law_arg" = true) (kM : PySem.W.keepIn K (.ref fM) = true)
    {fO : Addr} {odO anO : Option Addr} {slO : Array (Option Value)} {ocO kVO dcO pmO ctO cdO : Value}
    (aO : PySem.W.nsIn K mainGlobals "_law_row" = some (some (.ref fO))) (lO : K.lookup fO = some ⟨ocO, odO, .func (PySem.W.fnOf "_law_row" "_law_row" (defArgs sLRow) (defBody sLRow) (defScope sLRow) .none kVO dcO pmO anO cdO ctO), slO⟩) (hO : PySem.W.codeIn K cdO "_law_row" = true) (kO : PySem.W.keepIn K (.ref fO) = true)
    {fU : Addr} {odU anU : Option Addr} {slU : Array (Option Value)} {ocU kVU dcU pmU ctU cdU : Value}
    (aU : PySem.W.nsIn K mainGlobals "_law_odd" = some (some (.ref fU))) (lU : K.lookup fU = some ⟨ocU, odU, .func (PySem.W.fnOf "_law_odd" "_law_odd" (defArgs sOdd) (defBody sOdd) (defScope sOdd) .none kVU dcU pmU anU cdU ctU), slU⟩) (hU : PySem.W.codeIn K cdU "_law_odd" = true) (kU : PySem.W.keepIn K (.ref fU) = true)
    {fV : Addr} {odV anV : Option Addr} {slV : Array (Option Value)} {ocV kVV dcV pmV ctV cdV : Value}
    (aV : PySem.W.nsIn K mainGlobals "_law_bent" = some (some (.ref fV))) (lV : K.lookup fV = some ⟨ocV, odV, .func (PySem.W.fnOf "_law_bent" "_law_bent" (defArgs sBent) (defBody sBent) (defScope sBent) .none kVV dcV pmV anV cdV ctV), slV⟩) (hV : PySem.W.codeIn K cdV "_law_bent" = true) (kV : PySem.W.keepIn K (.ref fV) = true)
    {fW : Addr} {odW anW : Option Addr} {slW : Array (Option Value)} {ocW kVW dcW pmW ctW cdW : Value}
    (aW : PySem.W.nsIn K mainGlobals "_law_is_name" = some (some (.ref fW))) (lW : K.lookup fW = some ⟨ocW, odW, .func (PySem.W.fnOf "_law_is_name" "_law_is_name" (defArgs sLIsName) (defBody sLIsName) (defScope sLIsName) .none kVW dcW pmW anW cdW ctW), slW⟩) (hW : PySem.W.codeIn K cdW "_law_is_name" = true) (kW : PySem.W.keepIn K (.ref fW) = true)
    {fY : Addr} {odY anY : Option Addr} {slY : Array (Option Value)} {ocY kVY dcY pmY ctY cdY : Value}
    (aY : PySem.W.nsIn K mainGlobals "_law_is_arg" = some (some (.ref fY))) (lY : K.lookup fY = some ⟨ocY, odY, .func (PySem.W.fnOf "_law_is_arg" "_law_is_arg" (defArgs sLIsArg) (defBody sLIsArg) (defScope sLIsArg) .none kVY dcY pmY anY cdY ctY), slY⟩) (hY : PySem.W.codeIn K cdY "_law_is_arg" = true) (kY : PySem.W.keepIn K (.ref fY) = true)
    {fZ : Addr} {odZ anZ : Option Addr} {slZ : Array (Option Value)} {ocZ kVZ dcZ pmZ ctZ cdZ : Value}
    (aZ : PySem.W.nsIn K mainGlobals "_law_is_row" = some (some (.ref fZ))) (lZ : K.lookup fZ = some ⟨ocZ, odZ, .func (PySem.W.fnOf "_law_is_row" "_law_is_row" (defArgs sLIsRow) (defBody sLIsRow) (defScope sLIsRow) .none kVZ dcZ pmZ anZ cdZ ctZ), slZ⟩) (hZ : PySem.W.codeIn K cdZ "_law_is_row" = true) (kZ : PySem.W.keepIn K (.ref fZ) = true)
    {fL : Addr} {odL anL : Option Addr} {slL : Array (Option Value)} {ocL kVL dcL pmL ctL cdL : Value}
    (aL : PySem.W.nsIn K mainGlobals "law" = some (some (.ref fL))) (lL : K.lookup fL = some ⟨ocL, odL, .func (PySem.W.fnOf "law" "law" (defArgs sLaw) (defBody sLaw) (defScope sLaw) .none kVL dcL pmL anL cdL ctL), slL⟩) (hL : PySem.W.codeIn K cdL "law" = true) (kL : PySem.W.keepIn K (.ref fL) = true)
    {tmi : Tok} (cmi : PySem.W.nsIn K mainGlobals "MOST_INPUTS" = some (some (.int 3 tmi)))
    {tma : Tok} (cma : PySem.W.nsIn K mainGlobals "MOST_ARGS" = some (some (.int 3 tma)))
    {tmn : Tok} (cmn : PySem.W.nsIn K mainGlobals "MOST_NUMBER" = some (some (.int 8 tmn)))
    {pS : Addr} {esS : Array DictEntry} {nS : Nat} (aS : PySem.W.nsIn K mainGlobals "ROW_SIZES" = some (some (.ref pS))) (lS : K.lookup pS = some ⟨.type "dict", none, .dict esS nS, #[]⟩) (sS : (pS == sysModules) = false) (kS : PySem.W.KeysLit w.params esS.toList) (fS : ∀ z, RelO (rsz z) (findBy Value.isStrOf esS z))
    (z_isinstance : PySem.W.nsIn K mainGlobals "isinstance" = some none)
    (z_str : PySem.W.nsIn K mainGlobals "str" = some none)
    (z_int : PySem.W.nsIn K mainGlobals "int" = some none)
    (z_tuple : PySem.W.nsIn K mainGlobals "tuple" = some none)
    (z_bool : PySem.W.nsIn K mainGlobals "bool" = some none)
    (z_len : PySem.W.nsIn K mainGlobals "len" = some none)
    (z_all : PySem.W.nsIn K mainGlobals "all" = some none)
    (z_enumerate : PySem.W.nsIn K mainGlobals "enumerate" = some none)
    (z_range : PySem.W.nsIn K mainGlobals "range" = some none)
    (z_repr : PySem.W.nsIn K mainGlobals "repr" = some none) :
    LawG l w K CX0 9 63 "_law_script" mg fa h := by
  have e := hfa.symm.trans (PySem.W.mg_of X G aL)
  cases e
  have FA := fun_mk (st := sWhole) lA hA kA
  have bA := (FA).binds (ps := ["thing"]) fun _ _ _ _ _ _ us hl => match us, hl with | [_], _ => rfl
  have gA := PySem.W.mg_of X G aA
  have FB := fun_mk (st := sAmong) lB hB kB
  have bB := (FB).binds (ps := ["thing", "least", "most"]) fun _ _ _ _ _ _ us hl => match us, hl with | [_, _, _], _ => rfl
  have gB := PySem.W.mg_of X G aB
  have FC := fun_mk (st := sTupOf) lC hC kC
  have bC := (FC).binds (ps := ["thing", "least", "most"]) fun _ _ _ _ _ _ us hl => match us, hl with | [_, _, _], _ => rfl
  have gC := PySem.W.mg_of X G aC
  have FD := fun_mk (st := sName) lD hD kD
  have bD := (FD).binds (ps := ["thing"]) fun _ _ _ _ _ _ us hl => match us, hl with | [_], _ => rfl
  have gD := PySem.W.mg_of X G aD
  have FE := fun_mk (st := sIsArg) lE hE kE
  have bE := (FE).binds (ps := ["thing"]) fun _ _ _ _ _ _ us hl => match us, hl with | [_], _ => rfl
  have gE := PySem.W.mg_of X G aE
  have FG := fun_mk (st := sRowOf) lG hG kG
  have bG := (FG).binds (ps := ["thing"]) fun _ _ _ _ _ _ us hl => match us, hl with | [_], _ => rfl
  have gG := PySem.W.mg_of X G aG
  have FH := fun_mk (st := sArgs) lH hH kH
  have bH := (FH).binds (ps := ["thing"]) fun _ _ _ _ _ _ us hl => match us, hl with | [_], _ => rfl
  have gH := PySem.W.mg_of X G aH
  have FI := fun_mk (st := sIsRow) lI hI kI
  have bI := (FI).binds (ps := ["thing"]) fun _ _ _ _ _ _ us hl => match us, hl with | [_], _ => rfl
  have gI := PySem.W.mg_of X G aI
  have FX := fun_mk (st := sMixed) lX hX kX
  have bX := (FX).binds (ps := ["_law_cell", "_law_k"]) fun _ _ _ _ _ _ us hl => match us, hl with | [_, _], _ => rfl
  have gX := PySem.W.mg_of X G aX
  have FR := fun_mk (st := sDraw) lR hR kR
  have bR := (FR).binds (ps := ["_law_cell", "_law_k"]) fun _ _ _ _ _ _ us hl => match us, hl with | [_, _], _ => rfl
  have gR := PySem.W.mg_of X G aR
  have FJ := fun_mk (st := sDigit) lJ hJ kJ
  have bJ := (FJ).binds (ps := ["_law_state", "_law_many"]) fun _ _ _ _ _ _ us hl => match us, hl with | [_, _], _ => rfl
  have gJ := PySem.W.mg_of X G aJ
  have FN := fun_mk (st := sLName) lN hN kN
  have bN := (FN).binds (ps := ["_law_state"]) fun _ _ _ _ _ _ us hl => match us, hl with | [_], _ => rfl
  have gN := PySem.W.mg_of X G aN
  have FM := fun_mk (st := sLArg) lM hM kM
  have bM := (FM).binds (ps := ["_law_state"]) fun _ _ _ _ _ _ us hl => match us, hl with | [_], _ => rfl
  have gM := PySem.W.mg_of X G aM
  have FO := fun_mk (st := sLRow) lO hO kO
  have bO := (FO).binds (ps := ["_law_state"]) fun _ _ _ _ _ _ us hl => match us, hl with | [_], _ => rfl
  have gO := PySem.W.mg_of X G aO
  have FU := fun_mk (st := sOdd) lU hU kU
  have bU := (FU).binds (ps := ["_law_state", "_law_thing"]) fun _ _ _ _ _ _ us hl => match us, hl with | [_, _], _ => rfl
  have gU := PySem.W.mg_of X G aU
  have FV := fun_mk (st := sBent) lV hV kV
  have bV := (FV).binds (ps := ["_law_state", "_law_thing", "_law_deep"]) fun _ _ _ _ _ _ us hl => match us, hl with | [_, _, _], _ => rfl
  have gV := PySem.W.mg_of X G aV
  have FW := fun_mk (st := sLIsName) lW hW kW
  have bW := (FW).binds (ps := ["_law_thing"]) fun _ _ _ _ _ _ us hl => match us, hl with | [_], _ => rfl
  have gW := PySem.W.mg_of X G aW
  have FY := fun_mk (st := sLIsArg) lY hY kY
  have bY := (FY).binds (ps := ["_law_thing"]) fun _ _ _ _ _ _ us hl => match us, hl with | [_], _ => rfl
  have gY := PySem.W.mg_of X G aY
  have FZ := fun_mk (st := sLIsRow) lZ hZ kZ
  have bZ := (FZ).binds (ps := ["_law_thing"]) fun _ _ _ _ _ _ us hl => match us, hl with | [_], _ => rfl
  have gZ := PySem.W.mg_of X G aZ
  have FL := fun_mk (st := sLaw) lL hL kL
  have bL := (FL).binds (ps := ["_law_script"]) fun _ _ _ _ _ _ us hl => match us, hl with | [_], _ => rfl
  have gL := PySem.W.mg_of X G aL
  have m_isinstance := PySem.W.mg_none_of X G z_isinstance
  have m_str := PySem.W.mg_none_of X G z_str
  have m_int := PySem.W.mg_none_of X G z_int
  have m_tuple := PySem.W.mg_none_of X G z_tuple
  have m_bool := PySem.W.mg_none_of X G z_bool
  have m_len := PySem.W.mg_none_of X G z_len
  have m_all := PySem.W.mg_none_of X G z_all
  have m_enumerate := PySem.W.mg_none_of X G z_enumerate
  have m_range := PySem.W.mg_none_of X G z_range
  have m_repr := PySem.W.mg_none_of X G z_repr
  have mmi := PySem.W.mg_of X G cmi
  have mma := PySem.W.mg_of X G cma
  have mmn := PySem.W.mg_of X G cmn
  have mS := PySem.W.mg_of X G aS
  have KS : KDo K w pS rsz := ⟨esS, nS, lS, kS, sS, fS⟩
  refine ⟨PySem.W.fnOf "law" "law" (defArgs sLaw) (defBody sLaw) (defScope sLaw) .none kVL dcL pmL anL cdL ctL, [], spLaw K, ?_, ?_, ?_, fun s v => .of_eq rfl, ?_, ?_⟩
  · intro p hp
    cases hp
  · intro p hp
    cases hp
  · intro p hp
    cases hp
  · intro H a ns hl hH hS
    exact ⟨a, ns, rfl, hS, hl, fun _ => rfl⟩
  · intro base KB NB TB
    have OA : FnOk l.prog w K mg base CX0 1 fA _ ["thing"] (spWhole K) := ok_whole FA m_isinstance m_int
    have OB := ok_among (P := l.prog) (w := w) (base := base) (k := 0) FB ⟨OA, gA, kA, bA⟩
    have OC : FnOk l.prog w K mg base CX0 1 fC _ ["thing", "least", "most"] (spTupOf K) := ok_tupOf FC m_isinstance m_tuple m_len
    have OD : FnOk l.prog w K mg base CX0 1 fD _ ["thing"] (spName K) := ok_name FD m_isinstance m_str m_len
    have OE := ok_isArg (P := l.prog) (w := w) (base := base) (k := 0) FE ⟨OC.mono (by decide), gC, kC, bC⟩ ⟨OD.mono (by decide), gD, kD, bD⟩ ⟨OB, gB, kB, bB⟩ mmn mmi
    have OG := ok_rowOf (P := l.prog) (w := w) (base := base) (k := 0) FG ⟨OC, gC, kC, bC⟩ mS KS m_isinstance m_str m_len
    have OH := ok_args (P := l.prog) (w := w) (base := base) (k := 0) FH ⟨OC.mono (by decide), gC, kC, bC⟩ ⟨OE, gE, kE, bE⟩ mma m_all
    have OI := ok_isRow (P := l.prog) (w := w) (base := base) (k := 0) FI ⟨OG.mono (by decide), gG, kG, bG⟩ ⟨OE.mono (by decide), gE, kE, bE⟩ ⟨OD.mono (by decide), gD, kD, bD⟩ ⟨OH, gH, kH, bH⟩ m_all
    have OR := ok_draw (P := l.prog) (w := w) (base := base) FR FX bX gX
    have OJ := ok_digit (P := l.prog) (w := w) (base := base) FJ FX bX gX m_range
    have ON := ok_lname (P := l.prog) (w := w) (base := base) (k := 0) FN ⟨OJ, gJ, kJ, bJ⟩ m_range
    have OM := ok_larg (P := l.prog) (w := w) (base := base) (k := 0) FM ⟨OJ.mono (by decide), gJ, kJ, bJ⟩ ⟨ON, gN, kN, bN⟩
    have OO := ok_lrow (P := l.prog) (w := w) (base := base) (k := 0) FO ⟨OJ.mono (by decide), gJ, kJ, bJ⟩ ⟨ON.mono (by decide), gN, kN, bN⟩ ⟨OM, gM, kM, bM⟩ m_range m_tuple
    have OU := ok_odd (P := l.prog) (w := w) (base := base) (k := 0) FU ⟨OJ, gJ, kJ, bJ⟩
    have OV := ok_bent (P := l.prog) (w := w) (base := base) (k := 0) FV bV gV ⟨OJ.mono (by decide), gJ, kJ, bJ⟩ ⟨OU, gU, kU, bU⟩ m_isinstance m_tuple m_len 2
    have OW : FnOk l.prog w K mg base CX0 1 fW _ ["_law_thing"] (spLIsName K) := ok_lisName FW m_isinstance m_str m_len
    have OY := ok_lisArg (P := l.prog) (w := w) (base := base) (k := 0) FY ⟨OW, gW, kW, bW⟩ m_isinstance m_str m_tuple m_int m_bool m_len
    have OZ := ok_lisRow (P := l.prog) (w := w) (base := base) (k := 0) FZ ⟨OW.mono (by decide), gW, kW, bW⟩ ⟨OY, gY, kY, bY⟩ m_isinstance m_str m_tuple m_len
    exact ok_law FL ⟨⟨OR.mono (by decide), gR, kR, bR⟩, ⟨OM.mono (by decide), gM, kM, bM⟩, ⟨OO.mono (by decide), gO, kO, bO⟩, ⟨OU.mono (by decide), gU, kU, bU⟩, ⟨OV.mono (by decide), gV, kV, bV⟩, ⟨OE.mono (by decide), gE, kE, bE⟩, ⟨OI.mono (by decide), gI, kI, bI⟩, ⟨OY.mono (by decide), gY, kY, bY⟩, ⟨OZ.mono (by decide), gZ, kZ, bZ⟩, m_enumerate, m_range, m_repr⟩
end SfC
open PySem PySem.W PyProof.Rows
set_option maxRecDepth 100000 in
set_option maxHeartbeats 0 in
theorem PySem.Challenge.cw_sameface_k57_rows_by_their_form_holds : PySem.Challenge.rw_sameface_k57_rows_by_their_form.Holds := by
  w_on; o_law; k_head; (case hw => w_witness2)
  k_fill
  refine SfG.walk_G (l := PySem.Challenge.rw_sameface_k57_rows_by_their_form) (n := 63) (k := 9) (x := "_law_script") (CX := fun _ => L2.CX0) rfl (by decide) rfl ⟨rfl, by decide, by decide⟩ (fun w h Y => PySem.W.kIn_of Y) ?F (fun _ _ _ _ _ h => h)
  case F =>
    intro w mg fa h KX G hmg T
    refine' SfC.all_mk KX G hmg ?aA ?lA ?hA ?kA ?aB ?lB ?hB ?kB ?aC ?lC ?hC ?kC ?aD ?lD ?hD ?kD ?aE ?lE ?hE ?kE ?aG ?lG ?hG ?kG ?aH ?lH ?hH ?kH ?aI ?lI ?hI ?kI ?aX ?lX ?hX ?kX ?aR ?lR ?hR ?kR ?aJ ?lJ ?hJ ?kJ ?aN ?lN ?hN ?kN ?aM ?lM ?hM ?kM ?aO ?lO ?hO ?kO ?aU ?lU ?hU ?kU ?aV ?lV ?hV ?kV ?aW ?lW ?hW ?kW ?aY ?lY ?hY ?kY ?aZ ?lZ ?hZ ?kZ ?aL ?lL ?hL ?kL ?cmi ?cma ?cmn ?aS ?lS ?sS ?kS ?fS ?z_isinstance ?z_str ?z_int ?z_tuple ?z_bool ?z_len ?z_all ?z_enumerate ?z_range ?z_repr
    (case aA => k_is)
    (case lA => k_is)
    (case hA => k_is)
    (case kA => k_is)
    (case aB => k_is)
    (case lB => k_is)
    (case hB => k_is)
    (case kB => k_is)
    (case aC => k_is)
    (case lC => k_is)
    (case hC => k_is)
    (case kC => k_is)
    (case aD => k_is)
    (case lD => k_is)
    (case hD => k_is)
    (case kD => k_is)
    (case aE => k_is)
    (case lE => k_is)
    (case hE => k_is)
    (case kE => k_is)
    (case aG => k_is)
    (case lG => k_is)
    (case hG => k_is)
    (case kG => k_is)
    (case aH => k_is)
    (case lH => k_is)
    (case hH => k_is)
    (case kH => k_is)
    (case aI => k_is)
    (case lI => k_is)
    (case hI => k_is)
    (case kI => k_is)
    (case aX => k_is)
    (case lX => k_is)
    (case hX => k_is)
    (case kX => k_is)
    (case aR => k_is)
    (case lR => k_is)
    (case hR => k_is)
    (case kR => k_is)
    (case aJ => k_is)
    (case lJ => k_is)
    (case hJ => k_is)
    (case kJ => k_is)
    (case aN => k_is)
    (case lN => k_is)
    (case hN => k_is)
    (case kN => k_is)
    (case aM => k_is)
    (case lM => k_is)
    (case hM => k_is)
    (case kM => k_is)
    (case aO => k_is)
    (case lO => k_is)
    (case hO => k_is)
    (case kO => k_is)
    (case aU => k_is)
    (case lU => k_is)
    (case hU => k_is)
    (case kU => k_is)
    (case aV => k_is)
    (case lV => k_is)
    (case hV => k_is)
    (case kV => k_is)
    (case aW => k_is)
    (case lW => k_is)
    (case hW => k_is)
    (case kW => k_is)
    (case aY => k_is)
    (case lY => k_is)
    (case hY => k_is)
    (case kY => k_is)
    (case aZ => k_is)
    (case lZ => k_is)
    (case hZ => k_is)
    (case kZ => k_is)
    (case aL => k_is)
    (case lL => k_is)
    (case hL => k_is)
    (case kL => k_is)
    (case cmi => k_is)
    (case cma => k_is)
    (case cmn => k_is)
    (case aS => k_is)
    (case lS => k_is)
    (case sS => first | k_is | decide +kernel | exact rfl)
    (case kS => exact ⟨⟨_, _, rfl, rfl⟩, ⟨_, _, rfl, rfl⟩, ⟨_, _, rfl, rfl⟩, trivial⟩)
    (case fS => exact SfC.sizes_of rfl rfl rfl rfl rfl rfl)
    (case z_isinstance => k_is)
    (case z_str => k_is)
    (case z_int => k_is)
    (case z_tuple => k_is)
    (case z_bool => k_is)
    (case z_len => k_is)
    (case z_all => k_is)
    (case z_enumerate => k_is)
    (case z_range => k_is)
    (case z_repr => k_is)
