import PyProof.Rows.All
import Wide.All
import OpenK.AllK
import Wide.FinOn
import HandS.ForMost
import HandS.Walk
import HandS.Wide
import HandS.IsInst
import HandS.AnyAll
import HandS.Replace
import HandS.EndTab
import HandS.RaiseMore
import HandS.TupLe
import PyProof.ReprRoads
import PyProof.StrOps2
import HandS.TupAny
import HandS.StrMore
import HandS.Style
import HandS.ForExc
import HandS.ExcIs
import HandS.ExcValue
import KE.GoesEnum
import KE.GoesMore
import PyProof.DictUpdate
import PyProof.ListIndex
import PyProof.FactsAll.bool_1
import PyProof.StrLawsRepr
import PySem.Challenge.RW_sameface_k03_what_faces_tell
set_option Elab.async false
set_option linter.all false
set_option maxRecDepth 100000
/-! calls made where no repr is under way; repr of lists; all(..) over a text with a module's name in its test; the law's end -/
namespace SfG
open PySem PySem.Spec PyProof.Rows L2
/-! ### a def's promise where no repr is under way -/
structure FnG (P : Program) (w : World) (K : PySem.W.Frag) (mg : Str → Option Value) (base : Heap)
    (CX : CXT) (k : Nat) (f : Addr) (fd : FuncData) (ps : List Str) (sp : Sp) : Prop where
  size : ∀ vs H Q E, sp vs H Q E → vs.length = ps.length
  goes : ∀ (A : Around) (outer : List Env) (s : Shared) (H : Hp) (args : Args) (us : List Value)
    (vs : List V) (Q : VK) (E : XK), Room k A → A.guards = some [] → Env0 P w K mg base A outer s H →
    BindsTo s fd args (ps.zip us) → Vals vs us → sp vs H Q E →
    codeAny (model P w) A (.call (.ref f) args) (CR CX outer P w H s Q E) s
section
variable {P : Program} {w : World} {K : PySem.W.Frag} {mg : Str → Option Value} {base : Heap}
/-- a def by its body, where no repr is under way -/
theorem fng_of {x qual : Str} {st : Stmt} {f : Addr} {fd : FuncData} {N ps : List Str} {k : Nat} {sp : Sp}
    (F : Fun K x qual st f fd) (S : FnScope N ps (defScope st)) (len : ∀ vs H Q E, sp vs H Q E → vs.length = ps.length)
    (hbody : ∀ (cdv : Value) (A : Around) (outer : List Env) (s : Shared) (H : Hp) (vs : List V) (Q : VK) (E : XK),
      Room k (A.deeper (envOfC qual (defScope st) s.heap.objs.size f cdv)) → A.guards = some [] → sp vs H Q E →
      ∃ t, PSs (cxOf CX0 P w K mg base N qual (defScope st) f cdv A outer s H E).nox (defBody st) t ∧
        t { nx := fun _ H' => Q .non H', rt := Q } (start N vs) H) :
    FnG P w K mg base CX0 (k + 1) f fd ps sp := by
  obtain ⟨oc, od, kV, doc, pm, an, cdv, ct, osl, rfl, lk, hcd⟩ := F.ex
  refine ⟨len, ?_⟩
  intro A outer s H args us vs Q E hr hgd e0 hb r hsp
  refine LamX.run_ofS lk hcd S hr e0 hb r (len _ _ _ _ hsp) ?_
  intro hr'
  obtain ⟨t, h, q⟩ := hbody cdv A outer s H vs Q E hr' hgd hsp
  exact ⟨t, h.nox, q⟩
end
section
variable {X : Cx} {CX : CXT} {k : Nat} {f : Addr} {fd : FuncData} {ps : List Str} {sp : Sp} {dvs : List V}
  {ds : List Value} {E : XK} {x : Str} {p pos : Pos} {e : Expr} {es : List Expr} {t : TA}
theorem run_fng {pins : List (Addr × Obj)} {σ : L2.St} {H : Hp} {s : Shared} {Q : VK} {us : List Value} {vs : List V}
    (F : FnG X.prog X.w X.K X.mg X.base CX k f fd ps sp) (hr : Room k X.A) (hgd : X.A.guards = some [])
    (hb : Binds X.K fd ps ds) (hd : Vals dvs ds) (hx : Passes CX X E) (I : L2.Inv X pins σ H s) (r : Vals vs us)
    (h : sp (vs ++ dvs) H Q E) : wpAny (model X.prog X.w) X.A (call (.ref f) us) (EP X pins σ Q) X.xe s := by
  have r2 := r.append hd
  have hl : (us ++ ds).length = ps.length := r2.length.symm.trans (F.size _ _ _ _ h)
  have go := F.goes X.A X.stack s H ⟨us, []⟩ _ _ Q E hr hgd I.env0 (hb s us I.kIn hl) r2 h
  refine wpAny_call (codeAny_mono go ?_)
  intro res s' hq
  match res, hq with
  | .error e, hq => exact hx pins σ H s e s' I hq
  | .ok (.ret u), hq => exact I.after hq
  | .ok .next, hq => exact False.elim hq
  | .ok .brk, hq => exact False.elim hq
  | .ok .cont, hq => exact False.elim hq
theorem pe_callG (F : FnG X.prog X.w X.K X.mg X.base CX k f fd ps sp) (hr : Room k X.A) (hgd : X.A.guards = some [])
    (hg : Gl X x) (hm : X.mg x = some (.ref f)) (hk : PySem.W.keepIn X.K (.ref f) = true)
    (hb : Binds X.K fd ps ds) (hd : Vals dvs ds) (hx : Passes CX X E) (ha : PA X (e :: es) t)
    (hdb : (x == ("__debug__" : Str)) = false := by decide)
    (he : starEach (e :: es) X.env = (false, eval e X.env) :: starEach es X.env := by rfl)
    (hpl : (backTo pos (starEach es X.env)).any (·.1) = false := by rfl) :
    PE X (.Call (.Name x p) (e :: es) [] pos) (tCall sp dvs E t) := by
  constructor
  intro pins s σ H Q I h
  refine wpAny_Call_Name_kw (ld_glob I hg hm ?_ hdb)
  refine PySem.W.callWith_K (h₀ := X.base) I.ok.mod.kin hk ?_ he hpl
  refine thn (ha.run pos pins s σ H _ I h) ?_
  rintro us s1 ⟨vs, H1, I1, r, q⟩
  exact ⟨I1.kIn, run_fng F hr hgd hb hd hx I1 r q⟩
end
/-! ### repr of a list or a tuple of plain data -/
def rRepr (K : PySem.W.Frag) : List V → Hp → VK → Prop := fun xs H Q =>
  ∃ (a : Addr) (d : PyData) (S : Str), xs = [.ref a] ∧ Dp K H (.ref a) d ∧ d.showable = true ∧ d.hasDict = false ∧
    d.depth ≤ 30 ∧ d.shown = S ∧ S.length ≤ sizeLine ∧ Q (.str S) H
theorem call_repr {X : Cx} {k : Nat} (hr : Room k X.A) (hgd : X.A.guards = some []) :
    CallR X (.builtin "repr") (rRepr X.K) := by
  intro pins s σ H xs us Q I r h
  obtain ⟨a, d, S, rfl, hd, hs, hn, hdep, rfl, hz, q⟩ := h
  obtain ⟨u, rfl, ru⟩ := vals1 r
  cases (show u = Value.ref a from ru)
  obtain ⟨as, rd⟩ := Dp.reads I d _ _ hd (show RelV (.ref a) (.ref a) from rfl)
  have hun := hr.un
  refine repr_of_reads' rd hs (fun z => ?_) hgd (by omega) (fun _ _ z => z) (fun h' u' tk hk => ?_) hz
  · rw [hn] at z
    cases z
  · exact ⟨.str d.shown, H, I.kept hk, ⟨_, rfl⟩, q⟩
/-! ### all(test for x in e), e a text, the test may name what the module holds -/
/-- the test of one sign, run in the expression's own frame; the module's names are to be had -/
def EltG (X : Cx) (scope : Scope) (x : Str) (elt : Expr) (pb : Nat → Bool) : Prop :=
  ∀ (cenv : Env) (A' : Around) (E' : Value → Shared → Prop) (c : Nat) (t : Tok) (s2 : Shared) (m2 : Str → Option Value),
    cenv.scope = scope → cenv.globals = mainGlobals → s2.heap.Ns mainGlobals X.mg → s2.heap.Ns cenv.locals m2 →
    m2 x = some (.str ⟨#[c]⟩ t) →
    wpAny (model X.prog X.w) A' (eval elt cenv) (fun y s3 => y = .bool (pb c) ∧ Keeps s2 s3) E' s2
/-- x in NAME, NAME a text of the module -/
theorem elt_in {X : Cx} {scope : Scope} {x g : Str} {z : Str} {tz : Tok} {p1 p2 p3 : Pos} (hk : scope.kind = .function)
    (hl : scope.names.lookup x = some .local) (hgl : scope.names.lookup g = some .globalImplicit) (hz : X.mg g = some (.str z tz))
    (hd : (x == ("__debug__" : Str)) = false := by decide) (hd2 : (g == ("__debug__" : Str)) = false := by decide) :
    EltG X scope x (.Compare (.Name x p1) [.In] [.Name g p2] p3) (fun c => decide (c ∈ z.cps.toList)) := by
  intro cenv A' E' c t s2 m2 hs hgb hmn hn hm
  have kd : cenv.scope.kind = .function := by rw [hs]; exact hk
  refine wpAny_Compare1 ?_
  refine wpAny_Name (wpAny_loadName_local kd (show cenv.scope.names.lookup x = some .local by rw [hs]; exact hl) hn hm ?_) hd
  refine Calls.Name_function_global kd (show cenv.scope.names.lookup g = some .globalImplicit by rw [hs]; exact hgl) ?_ hd2
  refine Calls.loadGlobal_global (by rw [hgb]; exact hmn) hz ?_
  refine PyProof.Rows.in_str ?_
  exact ⟨congrArg Value.bool (PySem.StrLaws.found_one z c), GxR.keeps_refl _⟩
/-- the expression's code object: found in the def's table, or laid there -/
theorem gen_code {prog : Program} {w : World} {A : Around} {E : Value → Shared → Prop} {env : Env} {gpos : Pos} {q : Str} {scope : Scope}
    {c P : Addr} {ps : Array Value} {s2 : Shared} {Q : Value → Shared → Prop} (hcode : env.code = .ref c) (cd : PySem.W.CodeHd s2.heap c P)
    (hP : s2.heap.get? P = some { cls := .none, data := .fields ps }) (ht : TriplesOk ps.toList)
    (h : ∀ (code : Value) (h3 : Heap) (tk : Nat) (ps' : Array Value), Heap.ExtBut P s2.heap h3 → s2.heap.objs.size ≤ h3.objs.size →
      h3.get? P = some { cls := .none, data := .fields ps' } → (∃ more, ps' = ps ++ more) → TriplesOk ps'.toList →
      Q code { s2 with heap := h3, toks := tk }) : wpAny (model prog w) A (genexprCode env gpos q scope) Q E s2 := by
  cases hf : codeAmong gpos ps.toList with
  | some cv =>
    exact wpAny_genexprCode_hit hcode (cd.code hP ht) hf (h cv s2.heap s2.toks ps (Heap.ExtBut.refl _ _) (Nat.le_refl _) hP ⟨#[], by simp⟩ ht)
  | none =>
    refine wpAny_genexprCodeX hcode (cd.code hP ht) (cd.tab hP) hf ?_
    intro c' h' tk hx hge hlt hco' _ htab' _
    obtain ⟨o1, vs, f1, tf, fl, tg, inF, tx, tt, op, _, _, _, _, _, _, _, _, _, htr, _⟩ := hco'
    exact h _ h' tk _ hx (Nat.le_trans hge (Nat.le_of_lt hlt)) htab'.2 ⟨_, rfl⟩ htr
section
variable {X : Cx} {pins : List (Addr × Obj)} {σ : L2.St} {H : Hp} {s : Shared}
theorem gen_made {c P : Addr} {elt iter : Expr} {x : Str} {px gpos : Pos} {scope : Scope} {pb : Nat → Bool} {te : TE} {k : Nat}
    {Q' : Value → Shared → Prop} {R : Str → Hp → Prop} (hr : Room k X.A) (TB : GxR.TabB X.base X.mg c P) (hcode : X.env.code = .ref c)
    (S : GxR.GenS X.env scope x) (hi : PE X iter te) (hel : EltG X scope x elt pb) (hs : ∀ v, genFold iter X.env v = pure v)
    (I : L2.Inv X pins σ H s) (h : te σ H fun v H1 => ∃ a : Str, v = .str a ∧ GxR.TabG H1 P ∧ R a H1)
    (hQ : ∀ a H1 g s5, R a H1 → GxR.Ready X pins σ H1 P a pb g s5 → Q' (.ref g) s5) :
    wpAny (model X.prog X.w) X.A (eval (.GeneratorExp elt [⟨.Name x px, iter, [], 0⟩] scope gpos) X.env) Q' X.xe s := by
  have hdp := hr.dp
  refine wpAny_GeneratorExp_walksQ hr.hd S.co (closure_ok S.free) S.cell S.dot S.loc S.kind (by omega) ?_ hs
  refine thn (hi.run pins s σ H _ I h) ?_
  rintro xv s1 ⟨v, H1, I1, r1, a, rfl, ⟨ps, hP, ht⟩, q1⟩
  obtain ⟨t, rfl⟩ := _root_.id r1
  refine wpAny_pyIter_str ?_
  intro o St W hst
  have hPs : s1.heap.get? P = some { cls := .none, data := .fields ps } := I1.hok P _ hP
  have hPlt := Heap.lt_size hPs
  have lim2 : (s1.heap.push o).NoLimit := I1.nolimit.push o
  refine ⟨lim2, ?_⟩
  refine gen_code (s2 := { s1 with heap := s1.heap.push o }) hcode (TB.code.keeps fun b u e => Heap.get?_push_of_some _ (I1.bk b u e)) (Heap.get?_push_of_some _ hPs) ht ?_
  intro code h3 tk ps' hx hsz hP3 hmore ht3
  have hcl : cStatics < s1.heap.objs.size := by
    obtain ⟨_, hns, _⟩ := I1.nolimit
    exact hns.lt
  have hcP : cStatics ≠ P := by
    intro e
    obtain ⟨_, ⟨o', es, ep, ho, hd, _⟩, _⟩ := I1.nolimit
    rw [e, hPs] at ho
    cases ho
    cases hd
  have sz2 : (s1.heap.push o).objs.size = s1.heap.objs.size + 1 := Heap.size_push ..
  have keep3 : ∀ b u, b ≠ P → s1.heap.get? b = some u → h3.get? b = some u :=
    fun b u hb e => hx b u hb (Heap.get?_push_of_some _ e)
  have hsz' : s1.heap.objs.size + 1 ≤ h3.objs.size := by
    rw [← sz2]
    exact hsz
  have ns3 : h3.Ns mainGlobals X.mg := ((I1.mod.glob.keeps I1.bk).push o).extBut hx TB.gP
  obtain ⟨bm, ob, e1, e2, e3, e4, e5, e6, e7, e8⟩ := TB.bm
  refine wpAny_builtinsFor (m := X.mg) (by rw [I1.ok.glob]; exact ns3) e1 e2 (keep3 _ _ e4 (I1.bk _ _ e5)) e6 e7 e8 ?_
  refine ⟨s1.heap.objs.size, [s1.heap.objs.size], [s1.heap.objs.size], a.cps.size, SignAt a, St, fun _ => true,
    fun i y => ∃ cc, a.cps[i]? = some cc ∧ y = .bool (pb cc), rfl, W, ?_, ?_, lim2.extBut hx hcP, ?_, ?_, ?_⟩
  · refine (W X.A hr.hd).frame _ _ _ hst ?_
    intro b hb u e
    have eb : b = s1.heap.objs.size := by simpa using hb
    refine hx b u ?_ e
    intro z
    rw [← z, eb] at hPlt
    exact Nat.lt_irrefl _ hPlt
  · intro b hb
    have eb : b = s1.heap.objs.size := by simpa using hb
    rw [eb]
    show s1.heap.objs.size < h3.objs.size
    omega
  · intro z
    have eb : cStatics = s1.heap.objs.size := by simpa using z
    rw [eb] at hcl
    exact Nat.lt_irrefl _ hcl
  · intro href hhref
    constructor
    · intro A' E' i v s2 m2 hA hPv hn hm hk
      simp only [List.forIn_nil]
      exact wpAny_pure ⟨rfl, GxR.keeps_refl _⟩
    · intro A' E' i v s2 m2 hA hPv hp hn hm hk
      obtain ⟨cc, u, hcc, rfl⟩ := hPv
      have nsM : s2.heap.Ns mainGlobals X.mg := by
        obtain ⟨om, es, ep, g1, g2⟩ := ns3
        have glt : mainGlobals < s1.heap.objs.size := by
          obtain ⟨o9, _, _, g9, _⟩ := I1.mod.glob.keeps I1.bk
          exact Heap.lt_size g9
        refine ⟨om, es, ep, hk mainGlobals ?_ ?_ om (hhref _ _ g1), g2⟩
        · refine List.mem_range.mpr ?_
          show mainGlobals < h3.objs.size
          exact Heap.lt_size g1
        · intro z
          have eb : mainGlobals = s1.heap.objs.size := by simpa using z
          rw [eb] at glt
          exact Nat.lt_irrefl _ glt
      exact wpAny_mono (hel _ A' E' cc u s2 m2 rfl I1.ok.glob nsM hn hm) (fun y s3 r => ⟨⟨cc, hcc, r.1⟩, r.2⟩) (fun _ _ e => e)
  · intro g h5 tk5 gs hgb hag hsz5 hk5 W5 hat
    simp only [GxR.passing_true, List.length_range] at W5
    refine hQ a H1 g _ q1 ⟨_, _, _, _, _, W5.in4_1, hat, ?_, ?_⟩
    · intro j y sj Qj Ej hy hQj
      obtain ⟨i, hij, cc, hcc, rfl⟩ := hy
      obtain ⟨hj, ej⟩ := List.getElem?_eq_some_iff.mp hij
      rw [List.getElem_range] at ej
      subst ej
      have e9 : a.cps.toList[j]? = some cc := by rw [Array.getElem?_toList]; exact hcc
      have hQ2 : Qj (GxR.trF pb a.cps.toList j) sj := hQj
      rw [GxR.trF_some e9] at hQ2
      exact wpAny_truthy_bool hQ2
    · intro s' hmv
      obtain ⟨more, em⟩ := hmore
      have nwr : ∀ b u, s1.heap.get? b = some u → b ∉ h3.objs.size :: [s1.heap.objs.size] := by
        intro b u e hb
        have hl := Heap.lt_size e
        rcases List.mem_cons.mp hb with z | z
        · rw [z] at hl
          have h9 : (h3.objs.size : Nat) < s1.heap.objs.size := hl
          omega
        · have eb : b = s1.heap.objs.size := by simpa using z
          rw [eb] at hl
          exact Nat.lt_irrefl _ hl
      have J := GxR.inv_tab (more := more) (h' := s'.heap) (g' := s'.gens) (d' := s'.drawn) (t' := s'.toks) I1 hP
        (fun b u hb e => hmv.heap b u (nwr b u e) (hk5 b u (keep3 b u hb e)))
        (by rw [← em]; exact hmv.heap P _ (nwr P _ hPs) (hk5 P _ hP3)) (AllBare.movedS (I1.bare.push hgb) hmv)
      rw [GxR.sh_eta s1 s' hmv.os] at J
      exact ⟨upd H1 P (.tbl (ps ++ more)), ⟨⟨ps ++ more, upd_same, by rw [← em]; exact ht3⟩, fun b hb => upd_ne hb⟩, J⟩
theorem pe_allG {c P : Addr} {elt iter : Expr} {x : Str} {px p pos gpos : Pos} {scope : Scope} {pb : Nat → Bool} {te : TE} {k : Nat}
    (hr : Room k X.A) (hg : Gl X "all") (hm : X.mg "all" = none) (TB : GxR.TabB X.base X.mg c P) (hcode : X.env.code = .ref c)
    (S : GxR.GenS X.env scope x) (hi : PE X iter te) (hel : EltG X scope x elt pb) (hs : ∀ v, genFold iter X.env v = pure v)
    (he : starEach [.GeneratorExp elt [⟨.Name x px, iter, [], 0⟩] scope gpos] X.env =
      (false, eval (.GeneratorExp elt [⟨.Name x px, iter, [], 0⟩] scope gpos) X.env) :: starEach [] X.env := by rfl) :
    PE X (.Call (.Name "all" p) [.GeneratorExp elt [⟨.Name x px, iter, [], 0⟩] scope gpos] [] pos) (GxR.tAllS P pb te) := by
  constructor
  intro pins s σ H Q I h
  refine wpAny_Call_Name_kw (ld_blt I hg hm (show bootBuiltins "all" = some (.builtin "all") by decide +kernel) ?_)
  refine PyProof.Rows.callWith_builtin1 ?_ he (by rfl)
  rw [he]
  refine Calls.spliced_cons (gen_made (R := fun a H1 => ∀ H2, GxR.Tabbed P H1 H2 → Q (.bl (a.cps.toList.all pb)) H2) hr TB hcode S hi hel hs I h ?_)
  intro a H1 g s5 hR hG
  obtain ⟨fp, wr, G, F, St, W, hst, htr, hI⟩ := hG
  refine Calls.spliced_nil (call_all_walkS (W.self 0 _ _ _ hst ⟨g, fp, wr, G, _, F, St, _, rfl, W, hst, htr, ?_⟩))
  intro s' hmv
  obtain ⟨H2, hT, J⟩ := hI s' hmv
  refine ⟨.bl _, H2, J, rfl, ?_⟩
  rw [GxR.all_signs a pb]
  exact hR H2 hT
end
end SfG
namespace SfG
open PySem PySem.Spec PyProof.Rows L2
/-! ### the law's end: tables of code objects, no repr under way -/
theorem noneIn (b : Addr) (l : List Addr) (h : l = []) : ¬ b ∈ l := by
  rw [h]
  simp
section
variable {P : Program} {w : World} {K : PySem.W.Frag} {mg mb : Str → Option Value} {CX : CXT} {k : Nat} {fa a : Addr}
  {cs : List (Addr × Addr)} {fd : FuncData} {x : Str} {sp : Sp} {s1 : Shared} {vs : List Value} {ns : List Int}
/-- what stands at s1: the module, its tables, the script -/
structure Stands (K : PySem.W.Frag) (mg mb : Str → Option Value) (cs : List (Addr × Addr)) (s1 : Shared) (a : Addr) (vs : List Value) : Prop where
  kin : K.In s1.heap
  glob : s1.heap.Ns mainGlobals mg
  blt : s1.heap.Ns builtinsNs mb
  bltv : ∀ y : Str, y ≠ "__name__" → mb y = bootBuiltins y
  lim : s1.heap.NoLimit
  gens : s1.gens = #[]
  tab : ∀ p ∈ cs, s1.heap.get? p.2 = some { cls := .none, data := .fields #[] }
  ntab : ∀ p ∈ cs, K.lookup p.2 = none
  code : ∀ p ∈ cs, PySem.W.CodeHd s1.heap p.1 p.2
  bmain : ∃ (bm : Addr) (ob : Obj), mg "__builtins__" = some (.ref bm) ∧ bm ≠ builtinsNs ∧ s1.heap.get? bm = some ob ∧
    ob.cls = .type "module" ∧ ob.dict = some builtinsNs ∧ ob.data = .plain
  scr : s1.heap.get? a = some { cls := .type "list", data := .seq vs.toArray }
/-- what is tracked there: the tables, and the script where the written part doesn't hold it -/
def Tracks (K : PySem.W.Frag) (cs : List (Addr × Addr)) (a : Addr) (H : Hp) : Prop :=
  ∀ b u, H b = some u → (b ∈ cs.map (·.2) ∧ u = .tbl #[]) ∨ (b = a ∧ K.lookup a = none ∧ ∃ o xs, u = .frz o (.lst xs))
theorem Stands.untracked {H : Hp} (S : Stands K mg mb cs s1 a vs) (T : Tracks K cs a H) {b : Addr} {o : Obj} (e : s1.heap.get? b = some o)
    (h1 : ∀ us n, o.data ≠ .seq us n) (h2 : o.data ≠ .fields #[]) : H b = none := by
  cases q : H b with
  | none => rfl
  | some u =>
    exfalso
    rcases T b u q with ⟨hb, _⟩ | ⟨hb, _⟩
    · obtain ⟨p, hp, ep⟩ := List.mem_map.mp hb
      have z := S.tab p hp
      rw [ep, e] at z
      cases z
      exact h2 rfl
    · have z := S.scr
      rw [← hb, e] at z
      cases z
      exact h1 _ _ rfl
theorem end_core {H : Hp} (S : Stands K mg mb cs s1 a vs) (T : Tracks K cs a H) (hH : ∀ p ∈ cs, H p.2 = some (.tbl #[]))
    (hok : HOk P w H s1.heap) (hr : Room k callerA)
    (F : ∀ base : Heap, K.In base → base.Ns mainGlobals mg → (∀ p ∈ cs, GxR.TabB base mg p.1 p.2) → FnG P w K mg base CX k fa fd [x] sp)
    (hbind : ∀ (s : Shared) (u : Value), BindsTo s fd ⟨[u], []⟩ [(x, u)])
    (hsp : sp [.ref a] H (fun v _ => v = .bl true) fun _ _ _ => False)
    (hCX : ∀ H e s', CX [] H s1 (fun _ _ _ => False) e s' → False) :
    codeAny (model P w) callerA (.call (.ref fa) ⟨[.ref a], []⟩)
      (fun r s' => r = .ok (.ret (.bool true)) ∧ OldK s1.heap s'.heap ∧ s'.os = s1.os ∧ AllBare s'.gens) s1 := by
  have low : ∀ {b : Addr} {o : Obj}, s1.heap.get? b = some o → H b = none → (hidT s1.heap H).get? b = some o := fun e n => hidT_get e n
  have lowNs : ∀ {b : Addr} {m : Str → Option Value}, s1.heap.Ns b m → (hidT s1.heap H).Ns b m := by
    rintro b m ⟨o, es, ep, e, d, r⟩
    refine ⟨o, es, ep, low e (S.untracked T e ?_ ?_), d, r⟩
    · intro us n z
      rw [d] at z
      cases z
    · intro z
      rw [d] at z
      cases z
  have lowK : K.In (hidT s1.heap H) := by
    intro b o e
    refine low (S.kin b o e) ?_
    cases q : H b with
    | none => rfl
    | some u =>
      exfalso
      rcases T b u q with ⟨hb, _⟩ | ⟨hb, hk, _⟩
      · obtain ⟨p, hp, ep⟩ := List.mem_map.mp hb
        rw [← ep, S.ntab p hp] at e
        cases e
      · rw [hb, hk] at e
        cases e
  have lowT : ∀ p ∈ cs, GxR.TabB (hidT s1.heap H) mg p.1 p.2 := by
    intro p hp
    have tp := S.tab p hp
    constructor
    · obtain ⟨o, us, file, tf, flags, tg, inF, text, tt, e1, r1, r2, r3, rest⟩ := S.code p hp
      refine ⟨o, us, file, tf, flags, tg, inF, text, tt, low e1 (S.untracked T e1 ?_ ?_), r1, r2, r3, rest⟩
      · intro us n z
        rw [r2] at z
        cases z
      · intro z
        rw [r2] at z
        cases z
        simp at r3
    · obtain ⟨bm, ob, b1, b2, b3, b4, b5, b6⟩ := S.bmain
      refine ⟨bm, ob, b1, b2, ?_, ?_, low b3 (S.untracked T b3 ?_ ?_), b4, b5, b6⟩
      · intro q
        obtain ⟨o, es, ep, e, hd, _⟩ := S.glob
        rw [q, e] at b3
        cases b3
        rw [hd] at b6
        cases b6
      · intro q
        rw [q, tp] at b3
        cases b3
        cases b6
      · intro us n z
        rw [b6] at z
        cases z
      · intro z
        rw [b6] at z
        cases z
    · intro z
      obtain ⟨o, es, ep, e, hd, _⟩ := S.glob
      rw [z, tp] at e
      cases e
      cases hd
  have md : L2.Mod K mg (hidT s1.heap H) := by
    refine ⟨lowK, lowNs S.glob, ⟨mb, lowNs S.blt, S.bltv⟩, ?_⟩
    obtain ⟨mc, h1, h2⟩ := S.lim
    exact ⟨mc, lowNs h1, h2⟩
  have e0 : Env0 P w K mg (hidT s1.heap H) callerA [] s1 H :=
    ⟨rfl, md, fun b o e => of_hidT e, Nat.le_of_eq (hidT_size _ _), trivial, fun b hb => absurd hb (noneIn b _ rfl), hok, .of_eq S.gens⟩
  have go := (F _ lowK (lowNs S.glob) lowT).goes callerA [] s1 H ⟨[.ref a], []⟩ [.ref a] [.ref a] _ _ hr rfl e0 (hbind s1 (.ref a)) (.cons rfl .nil) hsp
  refine codeAny_mono go ?_
  intro res s' h
  match res, h with
  | .error e, h => exact (hCX H e s' h).elim
  | .ok .next, h => exact False.elim h
  | .ok .brk, h => exact False.elim h
  | .ok .cont, h => exact False.elim h
  | .ok (.ret u), h =>
    obtain ⟨v, H', os, bare, un, hok', r', q⟩ := h
    cases (show v = .bl true from q)
    cases (show u = Value.bool true from r')
    have stay : ∀ b o, b ∉ cs.map (·.2) → s1.heap.get? b = some o → s'.heap.get? b = some o := by
      intro b o nb e
      cases q : H b with
      | none => exact un.keep b o e q (noneIn b _ rfl) (by simp)
      | some u =>
        rcases T b u q with ⟨hb, _⟩ | ⟨_, _, ob, xs, z⟩
        · exact absurd hb nb
        · rw [z] at q
          obtain ⟨g1, _⟩ := hok b _ q
          obtain ⟨g2, _⟩ := hok' b _ (un.frzs b ob _ q)
          rw [e] at g1
          cases g1
          exact g2
    have tabs : ∀ p ∈ cs, ∃ more : Array Value, s'.heap.get? p.2 = some { cls := .none, data := .fields more } := by
      intro p hp
      obtain ⟨more, z⟩ := un.tbls p.2 #[] (hH p hp)
      exact ⟨_, hok' p.2 _ z⟩
    refine ⟨rfl, ⟨fun b o e => ?_, fun b o e => ?_⟩, os, bare⟩
    · by_cases hb : b ∈ cs.map (·.2)
      · obtain ⟨p, hp, ep⟩ := List.mem_map.mp hb
        subst ep
        obtain ⟨more, hm⟩ := tabs p hp
        rw [S.tab p hp] at e
        cases e
        refine .inr (.inl ⟨((S.code p hp).tab (S.tab p hp)).isCodeTable, rfl, #[], more, rfl, ?_⟩)
        rw [Array.empty_append]
        exact hm
      · exact .inl (stay b o hb e)
    · by_cases hb : b ∈ cs.map (·.2)
      · obtain ⟨p, hp, ep⟩ := List.mem_map.mp hb
        subst ep
        obtain ⟨more, hm⟩ := tabs p hp
        exact ⟨_, hm⟩
      · exact ⟨o, stay b o hb e⟩
/-- the abstract heap at the start -/
def hp0 (cs : List (Addr × Addr)) (sc : Option HO) (a : Addr) : Hp := fun b => if b ∈ cs.map (·.2) then some (.tbl #[]) else if b = a then sc else none
theorem end_call (S : Stands K mg mb cs s1 a vs) (hi : IntsAre vs ns) (hl : ns.length ≤ sizeLine) (hr : Room k callerA)
    (F : ∀ base : Heap, K.In base → base.Ns mainGlobals mg → (∀ p ∈ cs, GxR.TabB base mg p.1 p.2) → FnG P w K mg base CX k fa fd [x] sp)
    (hbind : ∀ (s : Shared) (u : Value), BindsTo s fd ⟨[u], []⟩ [(x, u)])
    (hsp : ∀ H : Hp, (∀ p ∈ cs, H p.2 = some (.tbl #[])) → SqL K H a (ns.map V.int) → sp [.ref a] H (fun v _ => v = .bl true) fun _ _ _ => False)
    (hCX : ∀ H e s', CX [] H s1 (fun _ _ _ => False) e s' → False) :
    codeAny (model P w) callerA (.call (.ref fa) ⟨[.ref a], []⟩)
      (fun r s' => r = .ok (.ret (.bool true)) ∧ OldK s1.heap s'.heap ∧ s'.os = s1.os ∧ AllBare s'.gens) s1 := by
  have rv := vals_ints hi
  have hH : ∀ sc, ∀ p ∈ cs, hp0 cs sc a p.2 = some (.tbl #[]) := fun sc p hp => if_pos (List.mem_map.mpr ⟨p, hp, rfl⟩)
  have na : a ∉ cs.map (·.2) := by
    intro z
    obtain ⟨p, hp, ep⟩ := List.mem_map.mp z
    have q := S.tab p hp
    rw [ep, S.scr] at q
    cases congrArg Obj.data (Option.some.inj q)
  have at_a : ∀ sc, hp0 cs sc a a = sc := fun sc => by
    unfold hp0
    rw [if_neg na, if_pos rfl]
  have cases_of : ∀ sc b u, hp0 cs sc a b = some u → (b ∈ cs.map (·.2) ∧ u = .tbl #[]) ∨ (b = a ∧ sc = some u) := by
    intro sc b u h
    unfold hp0 at h
    by_cases h1 : b ∈ cs.map (·.2)
    · rw [if_pos h1] at h
      exact .inl ⟨h1, (Option.some.inj h).symm⟩
    · rw [if_neg h1] at h
      by_cases h2 : b = a
      · rw [if_pos h2] at h
        exact .inr ⟨h2, h⟩
      · rw [if_neg h2] at h
        cases h
  have tabOk : ∀ (H : Hp) b, b ∈ cs.map (·.2) → ObjOk P w H s1.heap b (.tbl #[]) := by
    intro H b hb
    obtain ⟨p, hp, ep⟩ := List.mem_map.mp hb
    rw [← ep]
    exact S.tab p hp
  cases hk : K.lookup a with
  | some o =>
    have e := S.kin a o hk
    rw [S.scr] at e
    cases e
    refine end_core (H := hp0 cs none a) S ?_ (hH none) ?_ hr F hbind (hsp _ (hH none) (.inr ⟨_, vs.toArray, _, hk, rfl, rfl, rfl, ?_, ?_⟩)) hCX
    · intro b u h
      rcases cases_of none b u h with h | ⟨_, h⟩
      · exact .inl h
      · cases h
    · intro b u h
      rcases cases_of none b u h with ⟨h1, rfl⟩ | ⟨_, h⟩
      · exact tabOk _ b h1
      · cases h
    · rw [List.size_toArray, hi.length]
      exact hl
    · simpa using rv
  | none =>
    refine end_core (H := hp0 cs (some (.frz { cls := .type "list", data := .seq vs.toArray } (.lst (ns.map V.int)))) a) S ?_ (hH _) ?_ hr F hbind
      (hsp _ (hH _) (.inl (.inr ⟨{ cls := .type "list", data := .seq vs.toArray }, at_a _⟩))) hCX
    · intro b u h
      rcases cases_of _ b u h with h | ⟨h1, h2⟩
      · exact .inl h
      · exact .inr ⟨h1, hk, _, _, (Option.some.inj h2).symm⟩
    · intro b u h
      rcases cases_of _ b u h with ⟨h1, rfl⟩ | ⟨rfl, h2⟩
      · exact tabOk _ b h1
      · cases h2
        refine ⟨S.scr, ?_, vs, _, rv, S.scr⟩
        rw [List.length_map]
        exact hl
end
end SfG
namespace SfG
open PySem PySem.Spec PyProof.Rows L2
/-! ### a def whose code object is known -/
structure FunC (K : PySem.W.Frag) (x qual : Str) (st : Stmt) (f : Addr) (fd : FuncData) (c : Addr) : Prop where
  ex : ∃ (oc : Value) (od : Option Addr) (kV doc pm : Value) (an : Option Addr) (ct : Value) (osl : Array (Option Value)),
    fd = PySem.W.fnOf x qual (defArgs st) (defBody st) (defScope st) .none kV doc pm an (.ref c) ct ∧
      K.lookup f = some ⟨oc, od, .func fd, osl⟩ ∧ PySem.W.codeIn K (.ref c) qual = true
  kp : PySem.W.keepIn K (.ref f) = true
theorem FunC.fn {K : PySem.W.Frag} {x qual : Str} {st : Stmt} {f c : Addr} {fd : FuncData} (F : FunC K x qual st f fd c) : Fun K x qual st f fd := by
  obtain ⟨oc, od, kV, doc, pm, an, ct, osl, h1, h2, h3⟩ := F.ex
  exact ⟨⟨oc, od, kV, doc, pm, an, .ref c, ct, osl, h1, h2, h3⟩, F.kp⟩
section
variable {P : Program} {w : World} {K : PySem.W.Frag} {mg : Str → Option Value} {base : Heap}
theorem FunC.ok {x qual : Str} {st : Stmt} {f c : Addr} {fd : FuncData} {N ps : List Str} {k : Nat} {sp : Sp}
    (F : FunC K x qual st f fd c) (S : FnScope N ps (defScope st)) (len : ∀ vs H Q E, sp vs H Q E → vs.length = ps.length)
    (hbody : ∀ (A : Around) (outer : List Env) (s : Shared) (H : Hp) (vs : List V) (Q : VK) (E : XK),
      Room k (A.deeper (envOfC qual (defScope st) s.heap.objs.size f (.ref c))) → sp vs H Q E →
      ∃ t, PSs (cxOf CX0 P w K mg base N qual (defScope st) f (.ref c) A outer s H E).nox (defBody st) t ∧
        t { nx := fun _ H' => Q .non H', rt := Q } (start N vs) H) : FnOk P w K mg base CX0 (k + 1) f fd ps sp := by
  obtain ⟨oc, od, kV, doc, pm, an, ct, osl, rfl, lk, hcd⟩ := F.ex
  refine fn_of lk hcd S len ?_
  intro A outer s H vs Q E hr hsp
  obtain ⟨t, h, q⟩ := hbody A outer s H vs Q E hr hsp
  exact ⟨t, h.nox, q⟩
end
/-! ### heaps that grow: what stood stands, tables of code objects may be longer -/
structure Gr (H H' : Hp) : Prop where
  keep : ∀ b o, H b = some o → (∀ ps, o ≠ .tbl ps) → H' b = some o
  tab : ∀ P, GxR.TabG H P → GxR.TabG H' P
  back : ∀ l, H' l = none → H l = none
theorem Gr.refl (H : Hp) : Gr H H := ⟨fun _ _ h _ => h, fun _ h => h, fun _ h => h⟩
theorem Gr.trans {H H1 H2 : Hp} (a : Gr H H1) (b : Gr H1 H2) : Gr H H2 :=
  ⟨fun c o h n => b.keep c o (a.keep c o h n) n, fun P h => b.tab P (a.tab P h), fun l h => a.back l (b.back l h)⟩
theorem Gr.same {H H' : Hp} (e : Same H H') : Gr H H' := by
  refine ⟨fun b o h _ => e b o h, ?_, fun l h => e.free h⟩
  rintro P ⟨ps, h1, h2⟩
  exact ⟨ps, e P _ h1, h2⟩
theorem Gr.new {H : Hp} {p : Addr} {o : HO} (h : H p = none) : Gr H (upd H p o) := by
  refine Gr.same ?_
  intro b x e
  rw [upd_ne (ne_of_none e h)]
  exact e
theorem Gr.tabbed {P : Addr} {H H' : Hp} (t : GxR.TabG H P) (e : GxR.Tabbed P H H') : Gr H H' := by
  refine ⟨?_, ?_, ?_⟩
  · intro b o h n
    refine (e.2 b ?_).trans h
    intro z
    obtain ⟨ps, h1, _⟩ := t
    rw [z, h1] at h
    exact n ps (Option.some.inj h).symm
  · intro P' t'
    by_cases z : P' = P
    · rw [z]
      exact e.1
    · obtain ⟨ps, h1, h2⟩ := t'
      exact ⟨ps, (e.2 P' z).trans h1, h2⟩
  · intro l h
    by_cases z : l = P
    · obtain ⟨ps, h1, _⟩ := e.1
      rw [z, h1] at h
      cases h
    · rw [← e.2 l z]
      exact h
/-- a list that is changed in the heap: all else stays -/
theorem Gr.lst {H H' : Hp} (g : Gr H H') {b : Addr} {xs : List V} (h : H b = some (.lst xs)) : H' b = some (.lst xs) := g.keep b _ h (fun _ z => (by cases z))
theorem Gr.tup {H H' : Hp} (g : Gr H H') {b : Addr} {xs : List V} (h : H b = some (.tup xs)) : H' b = some (.tup xs) := g.keep b _ h (fun _ z => (by cases z))
theorem Gr.dic {H H' : Hp} (g : Gr H H') {b : Addr} {kvs : List (Key × V)} (h : H b = some (.dK kvs)) : H' b = some (.dK kvs) := g.keep b _ h (fun _ z => (by cases z))
theorem Gr.seq {K : PySem.W.Frag} {H H' : Hp} {a : Addr} {xs : List V} (e : Gr H H') (h : SqL K H a xs) : SqL K H' a xs := by
  rcases h with (h | ⟨o, h⟩) | h
  · exact .inl (.inl (e.lst h))
  · exact .inl (.inr ⟨o, e.keep _ _ h (fun _ z => (by cases z))⟩)
  · exact .inr h
/-! ### kinds of things -/
def kinds : List String := ["NoneType", "bool", "int", "str", "list", "tuple", "dict"]
theorem kit_int : ∀ T ∈ kinds, kitB T "int" = some (T == "int" || T == "bool") := by decide +kernel
theorem kit_bool : ∀ T ∈ kinds, kitB T "bool" = some (T == "bool") := by decide +kernel
theorem kit_str : ∀ T ∈ kinds, kitB T "str" = some (T == "str") := by decide +kernel
/-- x is a thing of the built-in type T -/
def Is (K : PySem.W.Frag) (H : Hp) (x : V) (T : String) : Prop := TyX K H x (.type T) ∧ T ∈ kinds
theorem tyx_is {K : PySem.W.Frag} {H : Hp} {x : V} {t : Value} {T : String} (h : TyX K H x t) (e : t = .type T) :
    (T = "int" → ∃ i, x = .int i) ∧ (T = "str" → ∃ z, x = .str z) ∧ (∀ i, x = .int i → T = "int") ∧ (∀ z, x = .str z → T = "str") := by
  cases h with
  | base b =>
    cases b with
    | int i => cases e; exact ⟨fun _ => ⟨i, rfl⟩, fun z => absurd z (by decide), fun _ _ => rfl, fun _ z => (by cases z)⟩
    | str i => cases e; exact ⟨fun z => absurd z (by decide), fun _ => ⟨i, rfl⟩, fun _ z => (by cases z), fun _ _ => rfl⟩
    | ins => cases e
    | _ => cases e; exact ⟨fun z => absurd z (by decide), fun z => absurd z (by decide), fun _ z => (by cases z), fun _ z => (by cases z)⟩
  | _ => cases e; exact ⟨fun z => absurd z (by decide), fun z => absurd z (by decide), fun _ z => (by cases z), fun _ z => (by cases z)⟩
section
variable {K : PySem.W.Frag} {H : Hp} {x : V} {T : String}
theorem Is.whole (h : Is K H x T) (e : T = "int") : ∃ i, x = .int i := (tyx_is h.1 rfl).1 e
theorem Is.text (h : Is K H x T) (e : T = "str") : ∃ z, x = .str z := (tyx_is h.1 rfl).2.1 e
theorem Is.nint (h : Is K H x T) (e : T ≠ "int") : ∀ i, x ≠ .int i := fun i z => e ((tyx_is h.1 rfl).2.2.1 i z)
theorem Is.ntext (h : Is K H x T) (e : T ≠ "str") : ∀ z, x ≠ .str z := fun i z => e ((tyx_is h.1 rfl).2.2.2 i z)
end
theorem is_int {K : PySem.W.Frag} {H : Hp} (i : Int) : Is K H (.int i) "int" := ⟨.base (.int i), by decide⟩
theorem is_str {K : PySem.W.Frag} {H : Hp} (z : Str) : Is K H (.str z) "str" := ⟨.base (.str z), by decide⟩
theorem is_bl {K : PySem.W.Frag} {H : Hp} (b : Bool) : Is K H (.bl b) "bool" := ⟨.base (.bl b), by decide⟩
theorem is_non {K : PySem.W.Frag} {H : Hp} : Is K H .non "NoneType" := ⟨.base .non, by decide⟩
/-! ### isinstance(x, T), x a name, T a built-in class -/
def tIsi (T : String) (K : PySem.W.Frag) (i : Nat) : TE := fun σ H Q => ∃ v, σ[i]? = some (some v) ∧ ∃ (T' : String) (b : Bool), TyX K H v (.type T') ∧ kitB T' T = some b ∧ Q (.bl b) H
theorem pe_isi {X : Cx} {x nm : Str} {p p1 p2 pos : Pos} (T : String) (i : Nat) (mi : X.mg "isinstance" = none) (mT : X.mg nm = none)
    (hv : bootBuiltins nm = some (.type T)) (hN : X.N[i]? = some x := by rfl) (hvis : Vis X.env.scope x := by first | exact Or.inl rfl | exact Or.inr (Or.inl rfl) | exact Or.inr (Or.inr rfl))
    (hg : Gl X "isinstance" := by rfl) (hgT : Gl X nm := by rfl) (hxd : (x == ("__debug__" : Str)) = false := by decide) (hxc : (x == ("__classdict__" : Str)) = false := by decide)
    (hn : nm ≠ "__name__" := by decide) (hd : (nm == ("__debug__" : Str)) = false := by decide) :
    PE X (.Call (.Name "isinstance" p) [.Name x p1, .Name nm p2] [] pos) (tIsi T X.K i) := by
  have h := pe_callB (p := p) (pos := pos) call_isi hg mi (show bootBuiltins "isinstance" = some (.builtin "isinstance") by decide +kernel)
    (pa_cons (pe_var (pos := p1) hN hvis hxd hxc) (pa_cons (pe_bltn (v := .ty T) (pos := p2) hgT mT hv rfl hn hd) pa_nil))
  constructor
  intro pins s σ H Q I hq
  refine h.run pins s σ H Q I ?_
  obtain ⟨v, hs, T', b, h1, h2, h3⟩ := hq
  exact ⟨v, hs, v, .ty T, .type T', .type T, b, rfl, .ty T, h1, kit_ty h2, h3⟩
end SfG
namespace SfG
open PySem PySem.Spec PyProof.Rows L2
/-! ### the end of a law whose defs have tables -/
/-- the top's defs and their tables, still empty -/
def TabsOf (q : Program) (mg : Str → Option Value) (h : Heap) : Prop := ∀ d ∈ recsOf q, ∃ a o fd c P,
  mg d.name = some (.ref a) ∧ h.get? a = some o ∧ o.data = .func fd ∧ fd.code = .ref c ∧ h.IsCode c P #[] ∧ h.TableAt c P #[]
theorem tab_of {q : Program} {mg : Str → Option Value} {h : Heap} {K : PySem.W.Frag} {nm x qual : Str} {st : Stmt} {f c P : Addr} {fd : FuncData}
    {e : Value} {dd : Option Addr} {vs : Array Value} {sl : Array (Option Value)} (T : TabsOf q mg h) (hrec : ((recsOf q).any fun d => d.name == nm) = true)
    (g : mg nm = some (.ref f)) (KX : K.In h) (F : FunC K x qual st f fd c) (kc : K.lookup c = some ⟨e, dd, .fields vs, sl⟩) (kp : vs[11]? = some (.ref P)) :
    h.get? P = some { cls := .none, data := .fields #[] } ∧ PySem.W.CodeHd h c P := by
  obtain ⟨d, hm, hn⟩ := List.any_eq_true.mp hrec
  have hn2 : d.name = nm := beq_iff_eq.mp hn
  obtain ⟨a, o, fd', c', P', h1, h2, h3, h4, h5, h6⟩ := T d hm
  rw [hn2, g] at h1
  cases h1
  obtain ⟨oc, od, kV, doc, pm, an, ct, osl, rfl, lk, hcd⟩ := F.ex
  rw [KX _ _ lk] at h2
  cases h2
  cases h3
  have ec : c = c' := by
    have z : Value.ref c = Value.ref c' := h4
    cases z
    rfl
  subst ec
  obtain ⟨⟨o1, v1, a1, a2, a3, a4⟩, hP⟩ := h6
  have ek := KX _ _ kc
  rw [ek] at a1
  cases a1
  cases a3
  rw [kp] at a4
  cases a4
  obtain ⟨o2, v2, file, tf, flags, tg, inF, text, tt, op, b1, b2, b3, b4, b5, b6, b7, b8, b9, b10, b11⟩ := h5
  rw [ek] at b1
  cases b1
  cases b2
  exact ⟨hP, _, _, file, tf, flags, tg, inF, text, tt, ek, a2, rfl, kp, b3, b4, b5, b6, b7, b11⟩
/-- what is known of the law's promise at the head's heap h -/
def LawG (l : PySem.W.OpenLaw) (w : World) (K : PySem.W.Frag) (CX : CXT) (k n : Nat) (x : Str) (mg : Str → Option Value) (fa : Addr) (h : Heap) : Prop :=
  ∃ (fd : FuncData) (cs : List (Addr × Addr)) (sp : Sp), (∀ p ∈ cs, h.get? p.2 = some { cls := .none, data := .fields #[] }) ∧ (∀ p ∈ cs, K.lookup p.2 = none) ∧
    (∀ p ∈ cs, PySem.W.CodeHd h p.1 p.2) ∧ (∀ (s : Shared) (u : Value), BindsTo s fd ⟨[u], []⟩ [(x, u)]) ∧
    (∀ (H : Hp) (a : Addr) (ns : List Int), ns.length ≤ n → (∀ p ∈ cs, H p.2 = some (.tbl #[])) → SqL K H a (ns.map V.int) → sp [.ref a] H (fun v _ => v = .bl true) fun _ _ _ => False) ∧
    ∀ base : Heap, K.In base → base.Ns mainGlobals mg → (∀ p ∈ cs, GxR.TabB base mg p.1 p.2) → FnG l.prog w K mg base CX k fa fd [x] sp
theorem walk_G {l : PySem.W.OpenLaw} {n k : Nat} {q : Program} {loose : List Str} {XP : (Str → Option Value) → Heap → Prop} {YP : World → Heap → Prop} {d : DefRec}
    {K : Params → PySem.W.Frag} {CX : World → CXT} {x : Str} (hn : l.most = some n) (hn2 : n ≤ sizeLine) (hdf : d.params.defaults = []) (hr : Room k callerA)
    (hY : ∀ (w : World) (h : Heap), YP w h → (K w.params).In h)
    (F : ∀ (w : World) (mg : Str → Option Value) (fa : Addr) (h : Heap), (K w.params).In h → h.Ns mainGlobals mg → mg d.name = some (.ref fa) → TabsOf q mg h →
      LawG l w (K w.params) (CX w) k n x mg fa h)
    (hCX : ∀ (w : World) (H : Hp) (s : Shared) (e : Value) (s' : Shared), CX w [] H s (fun _ _ _ => False) e s' → False) :
    PySem.W.WalkO q loose XP YP l.row.toRowW d [] (fun f vs => PySem.call f vs) := by
  refine Att.attach_callB hn hdf ?_
  intro w s0 s1 mg mb fa o pm cd doc a vs ns G Y ho hd hcd hmg hobj hints hlen hbits hg
  have KX := hY w _ Y
  obtain ⟨fd, cs, sp, hT, nT, C, hb, hsp, hF⟩ := F w mg fa _ KX G.T.g hmg G.T.tab
  have S : Stands (K w.params) mg mb cs s1 a vs := ⟨KX, G.T.g, G.T.b, G.T.builtins, G.T.nolimit, hg, hT, nT, C, G.T.bmain, hobj⟩
  exact end_call S hints (Nat.le_trans hlen hn2) hr hF hb (fun H hH hS => hsp H a ns hlen hH hS) fun H e s' => hCX w H s1 e s'
end SfG
namespace SfG
open PySem PySem.Spec PyProof.Rows L2
/-- all but p as it was -/
def But (p : Addr) (H H' : Hp) : Prop := ∀ b, b ≠ p → H' b = H b
theorem But.upd {p : Addr} {H H' : Hp} {o : HO} (h : But p H H') : But p H (upd H' p o) := fun b n => (upd_ne n).trans (h b n)
theorem Gr.upd_new {H0 H : Hp} {p : Addr} {o : HO} (g : Gr H0 H) (h : H0 p = none) : Gr H0 (upd H p o) := by
  refine ⟨?_, ?_, ?_⟩
  · intro b u e n
    rw [upd_ne (ne_of_none e h)]
    exact g.keep b u e n
  · intro P t
    have np : P ≠ p := by
      obtain ⟨ps, h1, _⟩ := t
      exact ne_of_none h1 h
    obtain ⟨ps, h1, h2⟩ := g.tab P t
    exact ⟨ps, (upd_ne np).trans h1, h2⟩
  · intro l e
    by_cases z : l = p
    · rw [z]
      exact h
    · rw [upd_ne z] at e
      exact g.back l e
/-! ### heaps in a turn: the draw's state at p is changed, all else grows -/
structure Gp (p : Addr) (H H' : Hp) : Prop where
  keep : ∀ b o, b ≠ p → H b = some o → (∀ ps, o ≠ .tbl ps) → H' b = some o
  tab : ∀ P, P ≠ p → GxR.TabG H P → GxR.TabG H' P
  back : ∀ l, l ≠ p → H' l = none → H l = none
theorem Gp.refl (p : Addr) (H : Hp) : Gp p H H := ⟨fun _ _ _ h _ => h, fun _ _ h => h, fun _ _ h => h⟩
theorem Gp.gr {p : Addr} {H H' : Hp} (g : Gr H H') : Gp p H H' := ⟨fun b o _ => g.keep b o, fun P _ => g.tab P, fun l _ => g.back l⟩
theorem Gp.but {p : Addr} {H H' : Hp} (g : But p H H') : Gp p H H' := by
  refine ⟨fun b o n h _ => (g b n).trans h, ?_, fun l n h => (g l n).symm.trans h⟩
  rintro P n ⟨ps, h1, h2⟩
  exact ⟨ps, (g P n).trans h1, h2⟩
theorem Gp.trans {p : Addr} {H H1 H2 : Hp} (a : Gp p H H1) (b : Gp p H1 H2) : Gp p H H2 :=
  ⟨fun c o n h t => b.keep c o n (a.keep c o n h t) t, fun P n h => b.tab P n (a.tab P n h), fun l n h => a.back l n (b.back l n h)⟩
/-- what was there ahead of p grows -/
theorem Gp.out {p : Addr} {H0 H H' : Hp} (g : Gr H0 H) (h : H0 p = none) (a : Gp p H H') : Gr H0 H' := by
  refine ⟨?_, ?_, ?_⟩
  · intro b o e t
    exact a.keep b o (ne_of_none e h) (g.keep b o e t) t
  · intro P t
    have n : P ≠ p := by
      obtain ⟨ps, h1, _⟩ := t
      exact ne_of_none h1 h
    exact a.tab P n (g.tab P t)
  · intro l e
    by_cases z : l = p
    · rw [z]
      exact h
    · exact g.back l (a.back l z e)
theorem Gp.lst {p : Addr} {H H' : Hp} (g : Gp p H H') {b : Addr} {xs : List V} (n : b ≠ p) (h : H b = some (.lst xs)) : H' b = some (.lst xs) := g.keep b _ n h (fun _ z => by cases z)
theorem Gp.upd_new {p q : Addr} {H0 H : Hp} {o : HO} (g : Gp p H0 H) (h : H0 q = none) : Gp p H0 (upd H q o) := by
  refine ⟨?_, ?_, ?_⟩
  · intro b u nb e n
    rw [upd_ne (ne_of_none e h)]
    exact g.keep b u nb e n
  · intro P nP t
    have np : P ≠ q := by
      obtain ⟨ps, h1, _⟩ := t
      exact ne_of_none h1 h
    obtain ⟨ps, h1, h2⟩ := g.tab P nP t
    exact ⟨ps, (upd_ne np).trans h1, h2⟩
  · intro l nl e
    by_cases z : l = q
    · rw [z]
      exact h
    · rw [upd_ne z] at e
      exact g.back l nl e
/-- a def that is called: where it stands, how it is bound, what it promises -/
structure Has (P : Program) (w : World) (K : PySem.W.Frag) (mg : Str → Option Value) (base : Heap) (k : Nat) (x : Str) (ps : List Str) (sp : Sp) (f : Addr) (fd : FuncData) : Prop where
  ok : FnOk P w K mg base CX0 k f fd ps sp
  at_ : mg x = some (.ref f)
  kp : PySem.W.keepIn K (.ref f) = true
  bd : Binds K fd ps []
theorem hcall {X : Cx} {k : Nat} {x : Str} {ps : List Str} {sp : Sp} {f : Addr} {fd : FuncData} {e : Expr} {es : List Expr} {t : TA} {p pos : Pos} (h : Has X.prog X.w X.K X.mg X.base k x ps sp f fd) (hr : Room k X.A) (ha : PA X (e :: es) t)
    (hg : Gl X x := by rfl) (hdb : (x == ("__debug__" : Str)) = false := by decide) (he : starEach (e :: es) X.env = (false, eval e X.env) :: starEach es X.env := by rfl)
    (hpl : (backTo pos (starEach es X.env)).any (·.1) = false := by rfl) : PE X (.Call (.Name x p) (e :: es) [] pos) (tCall sp [] E0 t) :=
  pe_call h.ok hr hg h.at_ h.kp h.bd .nil pass0 ha hdb he hpl
/-! ### data that stays -/
theorem Gr.sqt {K : PySem.W.Frag} {H H' : Hp} {a : Addr} {xs : List V} (e : Gr H H') (h : SqT K H a xs) : SqT K H' a xs := by
  rcases h with (h | ⟨o, h⟩) | h
  · exact .inl (.inl (e.tup h))
  · exact .inl (.inr ⟨o, e.keep _ _ h (fun _ z => by cases z)⟩)
  · exact .inr h
theorem Gp.sqt {K : PySem.W.Frag} {p : Addr} {H H' : Hp} {a : Addr} {xs : List V} {kv : List (Key × V)} (e : Gp p H H') (hp : H p = some (.dK kv)) (h : SqT K H a xs) : SqT K H' a xs := by
  rcases h with (h | ⟨o, h⟩) | h
  · refine .inl (.inl (e.keep a _ (fun z => ?_) h (fun _ z => by cases z)))
    rw [z, hp] at h
    cases h
  · refine .inl (.inr ⟨o, e.keep a _ (fun z => ?_) h (fun _ z => by cases z)⟩)
    rw [z, hp] at h
    cases h
  · exact .inr h
theorem Gp.sql {K : PySem.W.Frag} {p : Addr} {H H' : Hp} {a : Addr} {xs : List V} {kv : List (Key × V)} (e : Gp p H H') (hp : H p = some (.dK kv)) (h : SqL K H a xs) : SqL K H' a xs := by
  rcases h with (h | ⟨o, h⟩) | h
  · refine .inl (.inl (e.keep a _ (fun z => ?_) h (fun _ z => by cases z)))
    rw [z, hp] at h
    cases h
  · refine .inl (.inr ⟨o, e.keep a _ (fun z => ?_) h (fun _ z => by cases z)⟩)
    rw [z, hp] at h
    cases h
  · exact .inr h
/-- what keeps all lists and tuples keeps data -/
structure Kd (K : PySem.W.Frag) (H H' : Hp) : Prop where
  l : ∀ {a xs}, SqL K H a xs → SqL K H' a xs
  t : ∀ {a xs}, SqT K H a xs → SqT K H' a xs
theorem Gr.kd {K : PySem.W.Frag} {H H' : Hp} (g : Gr H H') : Kd K H H' := ⟨fun h => g.seq h, fun h => g.sqt h⟩
theorem Gp.kd {K : PySem.W.Frag} {p : Addr} {H H' : Hp} {kv : List (Key × V)} (g : Gp p H H') (hp : H p = some (.dK kv)) : Kd K H H' := ⟨fun h => g.sql hp h, fun h => g.sqt hp h⟩
mutual
theorem Kd.dp {K : PySem.W.Frag} {H H' : Hp} (g : Kd K H H') : ∀ {d : PyData} {v : V}, Dp K H v d → Dp K H' v d
  | _, _, .non => .non
  | _, _, .bl b => .bl b
  | _, _, .int i => .int i
  | _, _, .str x => .str x
  | _, _, .lst h hs => .lst (g.l h) (g.dpA hs)
  | _, _, .tup h hs => .tup (g.t h) (g.dpA hs)
theorem Kd.dpA {K : PySem.W.Frag} {H H' : Hp} (g : Kd K H H') : ∀ {ds : List PyData} {vs : List V}, DpAll K H vs ds → DpAll K H' vs ds
  | _, _, .nil => .nil
  | _, _, .cons h hs => .cons (g.dp h) (g.dpA hs)
end
section
variable {K : PySem.W.Frag} {H : Hp} {v : V}
theorem dp_str {z : Str} (h : Dp K H v (.str z)) : v = .str z := by cases h; rfl
theorem dp_int {n : Int} (h : Dp K H v (.int n)) : v = .int n := by cases h; rfl
theorem dp_tup {ds : List PyData} (h : Dp K H v (.tuple ds)) : ∃ p xs, v = .ref p ∧ SqT K H p xs ∧ DpAll K H xs ds := by
  cases h with
  | tup h hs => exact ⟨_, _, rfl, h, hs⟩
theorem dpA_nil {xs : List V} (h : DpAll K H xs []) : xs = [] := by cases h; rfl
theorem dpA_cons {xs : List V} {d : PyData} {ds : List PyData} (h : DpAll K H xs (d :: ds)) : ∃ x r, xs = x :: r ∧ Dp K H x d ∧ DpAll K H r ds := by
  cases h with
  | cons a b => exact ⟨_, _, rfl, a, b⟩
theorem dp_1 {a : PyData} (h : Dp K H v (.tuple [a])) : ∃ p x, v = .ref p ∧ SqT K H p [x] ∧ Dp K H x a := by
  obtain ⟨p, xs, rfl, hp, hs⟩ := dp_tup h
  obtain ⟨x, r, rfl, hx, hs⟩ := dpA_cons hs
  cases dpA_nil hs
  exact ⟨p, x, rfl, hp, hx⟩
theorem dp_2 {a b : PyData} (h : Dp K H v (.tuple [a, b])) : ∃ p x y, v = .ref p ∧ SqT K H p [x, y] ∧ Dp K H x a ∧ Dp K H y b := by
  obtain ⟨p, xs, rfl, hp, hs⟩ := dp_tup h
  obtain ⟨x, r, rfl, hx, hs⟩ := dpA_cons hs
  obtain ⟨y, r, rfl, hy, hs⟩ := dpA_cons hs
  cases dpA_nil hs
  exact ⟨p, x, y, rfl, hp, hx, hy⟩
theorem dp_3 {a b c : PyData} (h : Dp K H v (.tuple [a, b, c])) : ∃ p x y z, v = .ref p ∧ SqT K H p [x, y, z] ∧ Dp K H x a ∧ Dp K H y b ∧ Dp K H z c := by
  obtain ⟨p, xs, rfl, hp, hs⟩ := dp_tup h
  obtain ⟨x, r, rfl, hx, hs⟩ := dpA_cons hs
  obtain ⟨y, r, rfl, hy, hs⟩ := dpA_cons hs
  obtain ⟨z, r, rfl, hz, hs⟩ := dpA_cons hs
  cases dpA_nil hs
  exact ⟨p, x, y, z, rfl, hp, hx, hy, hz⟩
theorem dp_4 {a b c d : PyData} (h : Dp K H v (.tuple [a, b, c, d])) : ∃ p x y z w, v = .ref p ∧ SqT K H p [x, y, z, w] ∧ Dp K H x a ∧ Dp K H y b ∧ Dp K H z c ∧ Dp K H w d := by
  obtain ⟨p, xs, rfl, hp, hs⟩ := dp_tup h
  obtain ⟨x, r, rfl, hx, hs⟩ := dpA_cons hs
  obtain ⟨y, r, rfl, hy, hs⟩ := dpA_cons hs
  obtain ⟨z, r, rfl, hz, hs⟩ := dpA_cons hs
  obtain ⟨u, r, rfl, hu, hs⟩ := dpA_cons hs
  cases dpA_nil hs
  exact ⟨p, x, y, z, u, rfl, hp, hx, hy, hz, hu⟩
/-- the i-th of a tuple of data -/
theorem dpA_get : ∀ {ds : List PyData} {xs : List V} {i : Nat} {d : PyData}, DpAll K H xs ds → ds[i]? = some d → ∃ x, xs[i]? = some x ∧ Dp K H x d
  | [], _, i, d, _, h => by simp at h
  | a :: r, xs, 0, d, hs, h => by
    obtain ⟨x, r', rfl, hx, _⟩ := dpA_cons hs
    have e : a = d := Option.some.inj h
    exact ⟨x, rfl, e ▸ hx⟩
  | a :: r, xs, i + 1, d, hs, h => by
    obtain ⟨x, r', rfl, _, hr⟩ := dpA_cons hs
    obtain ⟨y, hy, hd⟩ := dpA_get hr (show r[i]? = some d from h)
    exact ⟨y, hy, hd⟩
theorem dpA_len : ∀ {ds : List PyData} {xs : List V}, DpAll K H xs ds → xs.length = ds.length
  | [], _, h => by
    rw [dpA_nil h]
    rfl
  | _ :: _, _, h => by
    obtain ⟨x, r, rfl, _, hr⟩ := dpA_cons h
    rw [List.length_cons, List.length_cons, dpA_len hr]
end
end SfG
namespace SfG
open PySem PySem.Spec PyProof.Rows L2
/-! ### x is not True, x is not False, x a whole number or a truth -/
def rNotBx : R2 := fun x y H Q => ∃ b : Bool, y = .bl b ∧ ((∃ a : Bool, x = .bl a ∧ Q (.bl (!decide (a = b))) H) ∨ ∃ i : Int, x = .int i ∧ Q (.bl true) H)
theorem op_notBx {X : Cx} : OpR X (compareOp .IsNot) rNotBx := by
  intro pins s σ H x y v u Q I rx ry h
  obtain ⟨b, rfl, ⟨a, rfl, q⟩ | ⟨i, rfl, q⟩⟩ := h
  · exact op_notBl pins s σ H _ _ v u Q I rx ry ⟨a, b, rfl, rfl, q⟩
  · cases (show u = Value.bool b from ry)
    obtain ⟨t, rfl⟩ := _root_.id rx
    exact wpAny_isNot_other rfl (fun z => by cases z) ⟨.bl true, H, I, rfl, q⟩
theorem tyx_bool {K : PySem.W.Frag} {H : Hp} {x : V} {t : Value} (h : TyX K H x t) (e : t = .type "bool") : ∃ b, x = .bl b := by
  cases h with
  | base b =>
    cases b with
    | bl b => exact ⟨b, rfl⟩
    | ins => cases e
    | _ => exact absurd (Value.type.inj e) (by decide)
  | _ => exact absurd (Value.type.inj e) (by decide)
theorem is_truth {K : PySem.W.Frag} {H : Hp} {x : V} {T : String} (h : Is K H x T) (e : T = "bool") : ∃ b, x = .bl b := tyx_bool h.1 (by rw [e])
end SfG
namespace SfG
open PySem PySem.Spec PyProof.Rows L2
/-! ### an exception that is held behind its try -/
/-- an exception of the class cls, caught, at a -/
def EkO (cls : Value) (d : Option Addr) (a : Addr) : HO := .ext fun h => ∃ oe : Obj, h.get? a = some oe ∧ Zc cls d oe ∧ ∃ vs, oe.data = .fields vs
section
variable {X : Cx} {pins : List (Addr × Obj)} {σ : L2.St} {H : Hp} {s : Shared}
theorem inv_track {a : Addr} {oe : Obj} {vs : Array Value} {φ : Heap → Prop} (I : L2.Inv X pins σ H s) (ha : s.heap.get? a = some oe) (hd : oe.data = .fields vs) (na : H a = none) (nL : a ≠ X.env.locals)
    (n0 : X.s_0.heap.get? a = none) (np : ∀ p ∈ X.pn ++ pins, p.1 ≠ a) (new : ObjOk X.prog X.w (upd H a (.ext φ)) s.heap a (.ext φ)) : L2.Inv X pins σ (upd H a (.ext φ)) s where
  ok := I.ok
  os := I.os
  bare := I.bare
  base := {
    keep := I.base.keep
    slot := I.base.slot
    free := by
      intro b o e n hx
      rw [upd_ne (by intro z; rw [z, n0] at e; cases e)]
      exact I.base.free b o e n hx
    there := I.base.there
    tups := by
      intro b xs e
      have q := I.base.tups b xs e
      rw [upd_ne (ne_of_none q na)]
      exact q
    frzs := by
      intro b o u e
      have q := I.base.frzs b o u e
      rw [upd_ne (ne_of_none q na)]
      exact q
    tbls := by
      intro b ps e
      obtain ⟨more, q⟩ := I.base.tbls b ps e
      exact ⟨more, by rw [upd_ne (ne_of_none q na)]; exact q⟩ }
  loc := I.loc
  cell := I.cell
  free := by
    rw [upd_ne (Ne.symm nL)]
    exact I.free
  freeC := by
    intro x c e
    rw [upd_ne ?_]
    · exact I.freeC x c e
    · intro z
      obtain ⟨v, o, ho, hc⟩ := I.cell x c e
      rw [z, ha] at ho
      cases ho
      rw [hd] at hc
      cases hc
  pin := by
    intro p hp
    obtain ⟨e, n, rest⟩ := I.pin p hp
    exact ⟨e, by rw [upd_ne (np p hp)]; exact n, rest⟩
  hok := I.hok.laidN (fun _ _ e => e) na new
  len := I.len
end
/-- what the clause wishes: the exception is held behind the suite -/
def wKeep (K : PySem.W.Frag) (c : Value) (i : Nat) (ts : Addr → Value → Option Addr → TS) (Wout : WX) (D : Ends) : WX := fun cls d σ H =>
  ∃ b, PySem.W.exmOne K cls c = some b ∧
    (b = true → ∀ a, H a = none → ts a cls d { nx := fun σ' H' => D.nx (σ'.set i none) (upd H' a (EkO cls d a)), rt := fun _ _ => False, bk := fun _ _ => False, ct := fun _ _ => False } (σ.set i (some (.ref a))) H) ∧
    (b = false → Wout cls d σ H)
section
variable {X : Cx} {x n : Str} {c : Value} {i : Nat} {body more : List Stmt} {st0 : Stmt} {p1 p2 p3 : Pos} {tb : WX → TS} {ts : Addr → Value → Option Addr → TS} {Wout : WX}
theorem ps_try_keep (stk : X.stack = X.env :: X.outer) (frm : X.env.frame = some X.env.locals) (hex : X.ex = []) (hN : X.N.Nodup) (hi : X.N[i]? = some n) (hn : X.env.kindOf n = some .local) (hc : Names X x c) (tk : Takes X Wout)
    (bd : ∀ (W : WX) (pn : List (Addr × Obj)) (xe : Value → Shared → Prop), Takes (X.tr pn xe) W → PassesOwn (model X.prog X.w) X.A X.env xe → PSs (X.tr pn xe) body (tb W))
    (su : ∀ (a : Addr) (oe : Obj) (cls : Value) (d : Option Addr) (pn : List (Addr × Obj)), Zc cls d oe → (∃ vs, oe.data = .fields vs) → PSs (X.suite a ((a, oe) :: pn)) (st0 :: more) (ts a cls d))
    (yes : ∀ D cls d σ H, wKeep X.K c i ts Wout D cls d σ H → PySem.W.exmOne X.K cls c = some true) :
    PS X (.Try body [.ExceptHandler (some (.Name x p1)) (some n) (st0 :: more) p2] [] [] p3) (fun D σ H => tb (wKeep X.K c i ts Wout D) D σ H) := by
  constructor
  intro pins s σ H D I h
  have okX := I.ok
  have frames : X.A.frames = some (X.env :: X.outer) := by
    rw [okX.frames, stk]
  refine wpAny_Try_except ?_
  have B1 := bd (wKeep X.K c i ts Wout D) (X.pn ++ pins)
    (fun e s₁ => wpAny (model X.prog X.w) X.A (noteFrame e X.env)
      (fun _ s₂ => wpAny (model X.prog X.w) X.A (setFlight e none)
        (fun _ s₃ => wpAny (model X.prog X.w) X.A
          (handleBy e X.env [.ExceptHandler (some (.Name x p1)) (some n) (st0 :: more) p2]) (SP X pins D) X.xe s₃) X.xe s₂) X.xe s₁)
    ?caught PassesOwn.looking
  · refine wpAny_mono (B1.run [] s σ H D (I.toTry _) h) ?_ (fun _ _ z => z)
    intro f s1 hs1
    cases f with
    | next =>
      obtain ⟨σ', H', J, q⟩ := hs1
      exact wpAny_execs_nil ⟨σ', H', J.ofTry okX, q⟩
    | ret u =>
      obtain ⟨v, σ', H', J, r, q⟩ := hs1
      exact ⟨v, σ', H', J.ofTry okX, r, q⟩
    | brk =>
      obtain ⟨σ', H', J, q⟩ := hs1
      exact ⟨σ', H', J.ofTry okX, q⟩
    | cont =>
      obtain ⟨σ', H', J, q⟩ := hs1
      exact ⟨σ', H', J.ofTry okX, q⟩
  case caught =>
    intro u s' air
    obtain ⟨a, B, sI, pins', σ', H', cls, d, rfl, J', ground, up, sky, na, os, ag, wish⟩ := air
    have hyes := yes D cls d σ' H' wish
    obtain ⟨b, hb1, hgo, _⟩ := wish
    rw [hyes] at hb1
    cases hb1
    have J : L2.Inv X pins σ' H' sI := J'.ofTry okX
    have skyX : Sky B (X.env :: X.outer) a (Zc cls d) X.env.locals s'.heap := by
      rw [← stk]
      exact sky
    show wpAny (model X.prog X.w) X.A (noteFrame (.ref a) X.env) _ _ _
    refine Sky.land Zc.steady frames frm skyX ?_
    intro h3 fl3 up3
    obtain ⟨oe3, vs3, get3, z3, dat3⟩ := fl3.there
    have noFrame : a ∉ frs (X.env :: X.outer) := by
      intro hm
      obtain ⟨_, o', e', nof⟩ := fl3.2.2.1.mem hm
      rw [get3] at e'
      cases e'
      exact nof _ dat3
    have notL : a ≠ X.env.locals := by
      intro z
      refine noFrame (List.mem_filterMap.mpr ⟨X.env, List.mem_cons_self, ?_⟩)
      rw [frm, z]
    have notF : a ∉ X.fs := by
      intro hm
      obtain ⟨e, he, q⟩ := List.mem_filterMap.mp hm
      exact noFrame (List.mem_filterMap.mpr ⟨e, List.mem_cons_of_mem _ he, q⟩)
    have newI : sI.heap.get? a = none := by
      cases e : sI.heap.get? a with
      | none => rfl
      | some o =>
        have z := ground a o e (by rw [stk]; exact noFrame)
        rw [fl3.2.1] at z
        cases z
    have new0 : X.s_0.heap.get? a = none := by
      cases e : X.s_0.heap.get? a with
      | none => rfl
      | some o =>
        obtain ⟨o', z⟩ := J.base.there a o e (by rw [hex]; exact fun q => nomatch q)
        rw [newI] at z
        cases z
    have notP : ∀ p ∈ X.pn ++ pins, p.1 ≠ a := by
      intro p hp z
      have q := (J.pin p hp).1
      rw [z, newI] at q
      cases q
    have J3 : L2.Inv X pins σ' H' { s' with heap := h3 } := J.landed ground fl3.1 (up.trans up3) os ag
    have S3 := J3.suite get3 dat3 na notL notF
    refine wpAny_handleBy_cons (codeAny_handlers_test ?_) (by intro q; cases q)
    have kindly : PySem.W.Looks (model X.prog X.w) h3 (typeOf (.ref a)) cls := by
      intro A2 Q2 E2 s2 k2 q2
      refine wpAny_typeOf_ref (k2 _ _ get3) ?_
      rw [z3.1]
      exact q2
    have match_ := PySem.W.exm_one (M := model X.prog X.w) J3.kIn kindly hyes
    have named : ∀ {Q2 : Value → Shared → Prop} {E2 : Value → Shared → Prop}, Q2 c { s' with heap := h3 } →
        wpAny (model X.prog X.w) (X.A.mark (some (.ref a))) (eval (.Name x p1) X.env) Q2 E2 { s' with heap := h3 } := by
      intro Q2 E2 q2
      obtain ⟨g1, g2, g3 | ⟨g3, g4, g5⟩⟩ := hc
      · exact ld_glob (X := X.suite a ((a, oe3) :: (X.pn ++ pins))) S3 g1 g3 q2 g2
      · exact ld_blt (X := X.suite a ((a, oe3) :: (X.pn ++ pins))) S3 g1 g3 g4 q2 g5 g2
    refine named (match_.here ?_)
    refine codeAny_handlers_suite_as ?_
    refine HandSPX.lands_againZ fl3 ?_
    intro h4 fl4 up4
    obtain ⟨oe4, vs4, get4, z4, dat4⟩ := fl4.there
    have J4 : L2.Inv X pins σ' H' { s' with heap := h4 } := J.landed ground fl4.1 ((up.trans up3).trans up4) os ag
    have S4 := J4.suite get4 dat4 na notL notF
    refine store_ok (X := X.suite a ((a, oe4) :: (X.pn ++ pins))) (v := .ref a) S4 hN hi (.inl hn) rfl ?_ (.inr hn)
    intro s5 S5
    refine wpAny_mono ((su a oe4 cls d (X.pn ++ pins) z4 ⟨_, dat4⟩).run [] s5 _ H' _ S5 (hgo rfl a na)) ?_ (fun _ _ z => False.elim z)
    intro f s6 hs6
    cases f with
    | next =>
      obtain ⟨σ6, H6, S6, q6⟩ := hs6
      obtain ⟨get6, na6, _⟩ := S6.pin (a, oe4) (List.mem_append_left _ List.mem_cons_self)
      have J6 : L2.Inv X pins σ6 H6 s6 := S6.unsuite okX
      have T6 := inv_track (φ := fun h => ∃ oe : Obj, h.get? a = some oe ∧ Zc cls d oe ∧ ∃ vs, oe.data = .fields vs) J6 get6 dat4 na6 notL new0 notP
        ⟨⟨oe4, get6, z4, _, dat4⟩, ⟨oe4, get6⟩, fun h1 h2 ⟨o, e, r⟩ k => ⟨o, k o e, r⟩⟩
      refine gone_ok T6 hN hi hn ?_
      intro s7 J7
      exact ⟨_, _, J7, q6⟩
    | brk =>
      obtain ⟨σ6, H6, S6, q6⟩ := hs6
      exact q6.elim
    | cont =>
      obtain ⟨σ6, H6, S6, q6⟩ := hs6
      exact q6.elim
    | ret u =>
      obtain ⟨v6, σ6, H6, S6, r6, q6⟩ := hs6
      exact q6.elim
end
/-! ### isinstance of such an exception -/
def rIsK (K : PySem.W.Frag) (D : Addr) : List V → Hp → VK → Prop := fun xs H Q =>
  ∃ (a : Addr) (c : V) (cv : Value) (b : Bool), xs = [.ref a, c] ∧ H a = some (EkO (.ref D) none a) ∧ (∀ u, RelV c u → u = cv) ∧ PySem.W.kitOne K (.ref D) cv = some b ∧ Q (.bl b) H
theorem call_isK {X : Cx} {D : Addr} (C : ExcC X.K D) : CallR X (.builtin "isinstance") (rIsK X.K D) := by
  intro pins s σ H xs us Q I r h
  obtain ⟨a, c, cv, b, rfl, hH, hcv, e, q⟩ := h
  obtain ⟨⟨oe, get, z, vs, dat⟩, _⟩ := I.hok a _ hH
  cases r with
  | cons rx rr =>
    cases rr with
    | cons rt rr =>
      cases rr
      cases rx
      have ec := hcv _ rt
      subst ec
      have J : PySem.W.InstAt s.heap a oe D none := by
        obtain ⟨oc, od, oda, osl⟩ := oe
        obtain ⟨h1, h2⟩ := z
        dsimp only at h1 h2 dat
        subst h1 h2 dat
        exact ⟨get, rfl, rfl, trivial⟩
      refine PySem.W.kia_one (PySem.W.handS_kitx_exc C.hg C.hk C.hs C.hd C.ha C.hn C.ht C.hm) I.kIn J e (fun z => nomatch z) ?_
      intro tk
      exact ⟨.bl b, H, I.kept (t' := tk) fun _ _ z => z, rfl, q⟩
end SfG
namespace SfG
open PySem PySem.Spec PyProof.Rows L2
/-! ### enumerate(t), t a tuple -/
set_option maxHeartbeats 1000000 in
theorem meets_enum1 {v : Value} {o : Obj} {H : Heap → Prop} (B : Begins v o H) :
    Meets (Builtin.«enumerate.__new__» ⟨[.type "enumerate", v], []⟩) (fun _ R s => H s.heap ∧
      R (.ok (.ret (.ref (s.heap.push o).objs.size)))
        { s with heap := (s.heap.push o).push { cls := .type "enumerate", data := .fields #[.none, .bool false, .ref s.heap.objs.size, rawInt 0, .none, .none] } }) :=
  .of_wp fun prog w A R s hh => by
    obtain ⟨hp, g, d, tk, os⟩ := s
    obtain ⟨h1, fin⟩ := hh
    have hsub := sub_enumerate
    have it1 : ∀ {A' : Around} {E : Value → Shared → Prop} {Q : Value → Shared → Prop}, Q (.ref hp.objs.size) ⟨hp.push o, g, d, tk, os⟩ →
        wpAny (model prog w) A' (pyIter v) Q E ⟨hp, g, d, tk, os⟩ := fun q => B.iter prog w _ _ ⟨hp, g, d, tk, os⟩ _ h1 q
    wp_walk using it1
    refine wpAny_stack_any fun st => wpAny_pure ?_
    split
    · rename_i c _ _ _ _ _
      cases (c == Value.type "enumerate") <;> (wp_walk using it1; exact ⟨_, rfl, fin⟩)
    · wp_walk using it1
      exact ⟨_, rfl, fin⟩
section
variable {prog : Program} {w : World} {A : Around} {E : Value → Shared → Prop} {s : Shared}
theorem enum1 {v : Value} {o : Obj} {H : Heap → Prop} {Q : Value → Shared → Prop} (B : Begins v o H) (h1 : H s.heap)
    (h : ∀ h', IsEnum h' (s.heap.objs.size + 1) s.heap.objs.size 0 .none → h'.get? s.heap.objs.size = some o →
      (∀ b u, s.heap.get? b = some u → h'.get? b = some u) → Q (.ref (s.heap.objs.size + 1)) { s with heap := h' }) :
    wpAny (model prog w) A (call (.type "enumerate") [v]) Q E s := by
  refine callType_new F.called_enumerate (by decide) (F.typeCall_enumerate_1 _) (F.newCall_enumerate_1 _) (fun obj => F.args_object_init_2 obj _)
    F.entry_enumerate_new (meets_enum1 B) ⟨h1, ?_⟩
  have sz : (s.heap.push o).objs.size = s.heap.objs.size + 1 := Heap.size_push ..
  show _ ∧ _
  rw [sz]
  have made : IsEnum ((s.heap.push o).push { cls := .type "enumerate", data := .fields #[.none, .bool false, .ref s.heap.objs.size, rawInt 0, .none, .none] })
      (s.heap.objs.size + 1) s.heap.objs.size 0 .none := by
    have z := Heap.get?_push_size (s.heap.push o) (o := { cls := .type "enumerate", data := .fields #[.none, .bool false, .ref s.heap.objs.size, rawInt 0, .none, .none] }) rfl
    rw [sz] at z
    exact z
  refine ⟨⟨_, made, rfl⟩, h _ made (Heap.get?_push_of_some _ (Heap.get?_push_size _ B.free)) ?_⟩
  intro b u x
  exact Heap.get?_push_of_some _ (Heap.get?_push_of_some _ x)
end
/-- the tuple at a as it stands at each turn, each item in a new pair -/
def IteT (K : PySem.W.Frag) (a : Addr) : It :=
  ⟨fun i H => ∃ (xs : List V) (x : V), SqT K H a xs ∧ xs[i]? = some x,
   fun i H v H' => ∃ T x, v = .ref T ∧ H T = none ∧ H' = upd H T (.tup [.int (i : Nat), x]) ∧ ∀ xs, SqT K H a xs → xs[i]? = some x,
   fun i H => ∃ xs : List V, SqT K H a xs ∧ xs.length = i⟩
theorem turn_enumT {P : Program} {w : World} {K : PySem.W.Frag} {elts : List Expr} {kk : Nat} {tpos : Pos} (a e it : Addr) :
    Turn P w K (.Tuple elts kk tpos) (IteT K a) [e, it] e (fun i h => (∃ old, IsEnum h e it ((i : Nat) : Int) old) ∧ h.IsTupleIter it a i ∧ e ≠ it) where
  mem := by simp
  obj := by
    rintro i h ⟨⟨old, he⟩, ⟨o, ho, hc, hd⟩, _⟩ b hb
    have two : b = e ∨ b = it := by simpa using hb
    rcases two with rfl | rfl
    · exact ⟨_, he, fun v q => nomatch q⟩
    · exact ⟨o, ho, fun v q => by rw [hd] at q; cases q⟩
  keep := by
    rintro i h h' ⟨⟨old, he⟩, hi, hne⟩ k
    exact ⟨⟨old, k e (by simp) _ he⟩, hi.at fun o q => k it (by simp) o q, hne⟩
  item := by
    intro X hP hw hK hc i pins s σ H E I hf st hg
    subst hP hw hK
    obtain ⟨⟨old, he⟩, hit, hne⟩ := st
    obtain ⟨xs, x, hq, hx⟩ := hg
    obtain ⟨its, rv, p, hz⟩ := I.tuple hq
    obtain ⟨u, hu, ru⟩ := rv.get hx
    have ea : e ≠ a := by
      intro z
      obtain ⟨o, ho, hcl, _⟩ := p
      rw [← z] at ho
      have q := he
      unfold IsEnum at q
      rw [ho] at q
      have q1 := Option.some.inj q
      rw [q1] at hcl
      exact absurd (Value.type.inj hcl) (by decide)
    have ia : a ≠ it := by
      intro z
      obtain ⟨o, ho, hcl, _⟩ := p
      obtain ⟨o', ho', hcl', _⟩ := hit
      rw [z, ho'] at ho
      cases ho
      rw [hcl'] at hcl
      exact absurd (Value.type.inj hcl) (by decide)
    have D : Draws X.prog X.w X.A.in1 it [it, a] its.toArray.size (fun i v => its.toArray[i]? = some v) (fun i h => h.IsTupleIter it a i ∧ h.IsTuple a its.toArray) :=
      Draws.tuple (show X.A.in1.handled = none from I.ok.hd hc) it a ia its.toArray
    have hlt : i < its.toArray.size := by
      have hl := rv.length
      have hi : i < xs.length := by
        rcases Nat.lt_or_ge i xs.length with h1 | h1
        · exact h1
        · rw [List.getElem?_eq_none h1] at hx
          cases hx
      simp
      omega
    have hel : e < s.heap.objs.size := Heap.lt_size he
    have hil : it < s.heap.objs.size := by
      obtain ⟨_, q, _⟩ := hit
      exact Heap.lt_size q
    refine wpAny_pyNext_enum_itemD D he ⟨hit, p⟩ hlt hne (by simp [hne, ea]) ?_
    intro y h' tk hy ho hst hT hsz hk
    have ey : y = u := by
      have h1 : its.toArray[i]? = some u := by simpa using hu
      have h2 : its.toArray[i]? = some y := hy
      rw [h1] at h2
      exact (Option.some.inj h2).symm
    subst ey
    refine ⟨_, rfl, wpAny_letOwnedTupleGo_enum (s := { s with heap := h', toks := tk + 1 }) ho ?_⟩
    intro h'' he' sb
    have hT2 : h''.get? s.heap.objs.size = some { cls := .type "tuple", data := .seq #[.int i tk, y] } := (sb.2 _ (Nat.ne_of_gt hel)).trans hT
    have new : ObjOk X.prog X.w (upd H s.heap.objs.size (.tup [.int (i : Nat), x])) h'' s.heap.objs.size (.tup [.int (i : Nat), x]) :=
      ⟨by show 2 ≤ sizeLine; decide, [.int i tk, y], .cons ⟨_, rfl⟩ (.cons ru .nil), ⟨_, hT2, rfl, _, rfl⟩⟩
    have I1 : L2.Inv X pins σ (upd H s.heap.objs.size (.tup [.int (i : Nat), x])) { s with heap := h'', toks := tk + 1 } := by
      refine I.turnedNew (ch := [e, it]) ?_ hf (Nat.le_refl _) new
      intro b ob hb q
      exact (sb.2 b (fun z => hb (by simp [z]))).trans (hk b ob (fun z => hb (by simp [z])) (fun z => hb (by simp [z])) q)
    refine ⟨.ref s.heap.objs.size, _, I1, rfl, ⟨_, x, rfl, I.hok.fresh (Nat.le_refl _), rfl, ?_⟩, ⟨⟨y, ?_⟩, hst.1.at fun o q => (sb.2 it (Ne.symm hne)).trans q, hne⟩, ?_⟩
    · intro ys hy'
      rw [I.tuple_inj hy' hq]
      exact hx
    · have e1 : ((i + 1 : Nat) : Int) = (i : Int) + 1 := by omega
      rw [e1]
      exact he'
    · intro b hb
      have hb' : b < s.heap.objs.size := by
        have two : b = e ∨ b = it := by simpa using hb
        rcases two with rfl | rfl
        · exact hel
        · exact hil
      rw [upd_ne (Nat.ne_of_lt hb')]
      exact (hf b hb).1
  done := by
    intro X hP hw hK hc i pins s σ H E I hf st hg
    subst hP hw hK
    obtain ⟨⟨old, he⟩, hit, hne⟩ := st
    obtain ⟨xs, hq, hx⟩ := hg
    obtain ⟨its, rv, p, hz⟩ := I.tuple hq
    have ia : a ≠ it := by
      intro z
      obtain ⟨o, ho, hcl, _⟩ := p
      obtain ⟨o', ho', hcl', _⟩ := hit
      rw [z, ho'] at ho
      cases ho
      rw [hcl'] at hcl
      exact absurd (Value.type.inj hcl) (by decide)
    obtain ⟨f0, f1, f2, f3, f4, f5⟩ := hf it (by simp)
    have hl := rv.length
    have D : Draws X.prog X.w X.A.in1 it [it, a] its.toArray.size (fun i v => its.toArray[i]? = some v) (fun i h => h.IsTupleIter it a i ∧ h.IsTuple a its.toArray) :=
      Draws.tuple (show X.A.in1.handled = none from I.ok.hd hc) it a ia its.toArray
    have ei : its.toArray.size = i := by
      simp
      omega
    rw [← ei] at hit
    exact wpAny_pyNext_enum_endD D he ⟨hit, p⟩ fun h' eb => ⟨rfl, I.turned (t' := s.toks) (fun b o hb q => eb b o hb q) f0 f1 f3 f4 f5⟩
  self := by
    rintro A i s Q E ⟨⟨_, he⟩, _⟩ h
    exact wpAny_pyIter_enum he h
def iEnumT (K : PySem.W.Frag) (ta : TA) : TI := fun σ H R => ta σ H fun vs H1 => ∃ a xs, vs = [.ref a] ∧ SqT K H1 a xs ∧ R (IteT K a) H1
theorem pi_enumT {X : Cx} {e : Expr} {ta : TA} {p pos tpos : Pos} {elts : List Expr} {kk : Nat} (hg : Gl X "enumerate") (hm : X.mg "enumerate" = none) (ha : PA X [e] ta)
    (hs : starEach [e] X.env = [(false, eval e X.env)] := by rfl) : PI X (.Tuple elts kk tpos) (.Call (.Name "enumerate" p) [e] [] pos) (iEnumT X.K ta) := by
  constructor
  intro pins s σ H R I h
  refine Call_ (ld_blt I hg hm boot_enumerate (PyProof.Rows.callWith_type1 (thn (ha.run pos pins s σ H _ I h) ?_) hs rfl))
  rintro us s1 ⟨vs, H1, I1, r1, a, xs, rfl, hq, q⟩
  obtain ⟨u, rfl, ru⟩ := vals1 r1
  cases (show u = Value.ref a from ru)
  obtain ⟨its, rv, p', hz⟩ := I1.tuple hq
  refine enum1 (begins_tuple a its.toArray) p' ?_
  intro h' he hit hk
  refine wpAny_pyIter_enum he ?_
  have I2 : L2.Inv X pins σ H1 { s1 with heap := h' } := I1.kept (t' := s1.toks) hk
  refine ⟨s1.heap.objs.size + 1, [s1.heap.objs.size + 1, s1.heap.objs.size], _, _, H1, rfl, I2, turn_enumT a (s1.heap.objs.size + 1) s1.heap.objs.size,
    ⟨⟨.none, he⟩, ⟨_, hit, rfl, rfl⟩, Nat.succ_ne_self _⟩, ?_, q⟩
  intro b hb
  have two : b = s1.heap.objs.size + 1 ∨ b = s1.heap.objs.size := by simpa using hb
  have hle : s1.heap.objs.size ≤ b := by
    rcases two with z | z
    · rw [z]
      exact Nat.le_succ _
    · rw [z]
      exact Nat.le_refl _
  exact I1.fpOk hle (I1.hok.fresh hle)
theorem walk_enumT {K : PySem.W.Frag} {a : Addr} {xs : List V} : Walk (IteT K a) xs.length (fun H => SqT K H a xs) (YPair (fun i => some (.int (i : Nat))) (fun i => xs[i]?)) := by
  refine ⟨?_, ?_, ?_⟩
  · intro i _ hi q
    exact ⟨xs, xs[i], q, by simp [hi]⟩
  · intro _ q
    exact ⟨xs, q, rfl⟩
  · rintro i H v H' _ q ⟨T, x, h1, h2, h3, h4⟩
    exact ⟨T, .int (i : Nat), x, h1, h2, h3, rfl, h4 xs q⟩
end SfG
namespace SfG
open PySem PySem.Spec PyProof.Rows L2
/-! ### d.update(e), two dicts -/
def rDUpd : V → List V → Hp → VK → Prop := fun x vs H Q => ∃ (a b : Addr) (kvs more : List (Key × V)), x = .ref a ∧ vs = [.ref b] ∧ H a = some (.dK kvs) ∧ H b = some (.dK more) ∧ a ≠ b ∧ kvs.length + more.length ≤ 1000 ∧ Q .non (upd H a (.dK (mergeK kvs more)))
theorem mt_dupd {X : Cx} : MtR X "dict.update" rDUpd := by
  intro pins s σ H x vs v us Q I rx rv h
  obtain ⟨a, b, kvs, more, rfl, rfl, ea, eb, ne, hz, q⟩ := h
  cases (show v = Value.ref a from rx)
  obtain ⟨u, rfl, ru⟩ := vals1 rv
  cases (show u = Value.ref b from ru)
  obtain ⟨za, ha, va, ra, da⟩ := dk_of I.hok ea
  obtain ⟨zb, hb, vb, rb, db⟩ := dk_of I.hok eb
  have sz : va.length + vb.length ≤ sizeLine := by
    rw [← ra.length, ← rb.length]
    exact Nat.le_of_lt (small1000 hz)
  refine call_meetsIn PySem.F.slot_dict_update da.typeIs PySem.F.entry_dict_update (PySem.F.args_dict_update_2 _ _) (meets_dict_update (mixKind X.prog X.w) a b ne hb) ⟨va, vb, da, db, sz, fun h' dd' _ hs => ?_⟩
  have he : ∃ o, h'.get? a = some o := by
    obtain ⟨o, _, _, ho, _⟩ := dd'
    exact ⟨o, ho⟩
  have hm : (mergeK kvs more).length ≤ sizeLine := by
    have := length_mergeK more kvs
    exact Nat.le_of_lt (small1000 (by omega))
  exact ⟨.non, _, d_write (t' := s.toks) I (by rw [ea]; exact True.intro) hs he (dk_new hm ha (rb.merge ra) dd'), rfl, q⟩
/-! ### xs[b], b a truth -/
section
variable {prog : Program} {w : World} {A : Around} {E : Value → Shared → Prop} {s : Shared}
theorem sub_bool {M : Model} {b : Bool} {Q : Option Int → Shared → Prop} (h : Q (some (if b then 1 else 0)) s) : wpAny M A (Builtin.List.listSubscript? (.bool b)) Q E s := by
  unfold Builtin.List.listSubscript?
  refine wpAny_bind (wpAny_specialOf (T := "bool") (show s.TypeIs (.bool b) "bool" from rfl) PySem.F.slot_bool_index.lookup ?_)
  cases b with
  | true =>
    refine wpAny_bind (wpAny_of_eq (a := (1 : Int)) rfl ?_)
    exact wpAny_pure h
  | false =>
    refine wpAny_bind (wpAny_of_eq (a := (0 : Int)) rfl ?_)
    exact wpAny_pure h
theorem get_bool {l : Addr} {items : Array Value} {b : Bool} {x : Value} {Q : Value → Shared → Prop} (hl : s.heap.IsList l items) (hx : items[(if b then 1 else 0)]? = some x) (h : Q x s) :
    wpAny (model prog w) A (getItem (.ref l) (.bool b)) Q E s := by
  obtain ⟨o, ho, hc, ne, hd⟩ := id hl
  unfold getItem
  try with_reducible refine wpAny_holding ?_
  first | refine wpAny_bind (wpAny_pure ?_) | skip
  refine wpAny_bind (wpAny_sequenceKey hl.typeIs (by decide) ?_)
  refine wpAny_bind (wpAny_callSpecial?_slot (name := Str.ofString "__getitem__") hl.typeIs slot_list_getitem (wpAny_call_entry slot_list_getitem hl.typeIs entry_list_getitem ?_ (args_list_getitem _ _)))
  refine wpAny_bind (m := Builtin.List.listSubscript? (.bool b)) (sub_bool ?_)
  cases b with
  | true =>
    show wpAny _ _ ((seqItemAt l 1 >>= fun r => pure (r.map (1, ·))) >>= _) _ _ s
    refine wpAny_bind (wpAny_bind (wpAny_seqItemAt ho hd (wpAny_pure ?_)))
    rw [show items[1]? = some x from hx]
    first
      | exact wpAny_bind (wpAny_pure (wpAny_pure ⟨x, rfl, wpAny_pure h⟩))
      | exact wpAny_pure ⟨x, rfl, wpAny_pure h⟩
  | false =>
    show wpAny _ _ ((seqItemAt l 0 >>= fun r => pure (r.map (0, ·))) >>= _) _ _ s
    refine wpAny_bind (wpAny_bind (wpAny_seqItemAt ho hd (wpAny_pure ?_)))
    rw [show items[0]? = some x from hx]
    first
      | exact wpAny_bind (wpAny_pure (wpAny_pure ⟨x, rfl, wpAny_pure h⟩))
      | exact wpAny_pure ⟨x, rfl, wpAny_pure h⟩
end
def rIxB (K : PySem.W.Frag) : R2 := fun x y H Q => ∃ (p : Addr) (xs : List V) (b : Bool) (v : V), x = .ref p ∧ y = .bl b ∧ SqL K H p xs ∧ xs[(if b then 1 else 0)]? = some v ∧ Q v H
theorem ix_bool {X : Cx} : IxR X (rIxB X.K) := by
  intro value slice pins s σ H x y v u Q I rx ry h hs
  obtain ⟨p, xs, b, z, rfl, rfl, hq, he, q⟩ := h
  cases (show v = Value.ref p from rx)
  cases (show u = Value.bool b from ry)
  obtain ⟨its, r, pl, hz⟩ := I.list hq
  obtain ⟨t, et, rt⟩ := r.get he
  exact subscriptTail_builtinR pl.isList.typeIs PySem.slot_list_getitem.lookup (get_bool (Q := fun r' s' => r' = t ∧ EP X pins σ Q r' s') pl.isList (by simpa using et) ⟨rfl, z, H, I, rt, q⟩) hs
end SfG
namespace SfG
open PySem PySem.Spec PyProof.Rows L2
/-! ### repr of None, of a number, of a list or a tuple -/
def rReprA (K : PySem.W.Frag) : List V → Hp → VK → Prop := fun xs H Q =>
  ∃ (v : V) (d : PyData) (S : Str), xs = [v] ∧ Dp K H v d ∧ (v = .non ∨ (∃ i, v = .int i) ∨ ∃ a, v = .ref a) ∧ d.showable = true ∧ d.hasDict = false ∧
    d.depth ≤ 30 ∧ d.shown = S ∧ S.length ≤ sizeLine ∧ Q (.str S) H
theorem call_reprA {X : Cx} {k : Nat} (hr : Room k X.A) (hgd : X.A.guards = some []) :
    CallR X (.builtin "repr") (rReprA X.K) := by
  intro pins s σ H xs us Q I r h
  obtain ⟨v, d, S, rfl, hd, hv, hs, hn, hdep, rfl, hz, q⟩ := h
  rcases hv with rfl | ⟨i, rfl⟩ | ⟨a, rfl⟩
  · cases hd
    obtain ⟨u, rfl, ru⟩ := vals1 r
    cases ru
    exact PySem.P.repr_of_none ⟨.str _, H, I.tok _, ⟨_, rfl⟩, q⟩
  · cases hd
    obtain ⟨u, rfl, t, rfl⟩ := vals1 r
    exact PySem.P.repr_of_int (by simpa [PyData.showable] using hs) ⟨.str _, H, I.tok _, ⟨_, rfl⟩, q⟩
  · exact call_repr hr hgd pins s σ H _ us Q I r ⟨a, d, _, rfl, hd, hs, hn, hdep, rfl, hz, q⟩
/-! ### what can be shown, and how long that is -/
structure Sh (d : PyData) (L D : Nat) : Prop where
  able : d.showable = true
  nod : d.hasDict = false
  dep : d.depth ≤ D
  len : d.shown.length ≤ L
structure ShA (ds : List PyData) (L D : Nat) : Prop where
  able : PyData.showableAll ds = true
  nod : PyData.hasDictAll ds = false
  dep : PyData.depthAll ds ≤ D
  len : ((PyData.shownAll ds).map (·.length)).sum + 2 * ds.length ≤ L
theorem Sh.mono {d : PyData} {L D L' D' : Nat} (h : Sh d L D) (hL : L ≤ L') (hD : D ≤ D') : Sh d L' D' := ⟨h.able, h.nod, Nat.le_trans h.dep hD, Nat.le_trans h.len hL⟩
theorem ShA.mono {d : List PyData} {L D L' D' : Nat} (h : ShA d L D) (hL : L ≤ L') (hD : D ≤ D') : ShA d L' D' := ⟨h.able, h.nod, Nat.le_trans h.dep hD, Nat.le_trans h.len hL⟩
theorem ShA.nil {D : Nat} : ShA [] 0 D := ⟨rfl, rfl, by simp [PyData.depthAll], by simp [PyData.shownAll]⟩
theorem ShA.cons {d : PyData} {ds : List PyData} {L1 L2 D : Nat} (h : Sh d L1 D) (t : ShA ds L2 D) : ShA (d :: ds) (L1 + 2 + L2) D := by
  refine ⟨?_, ?_, ?_, ?_⟩
  · rw [PyData.showableAll, h.able, t.able]
    rfl
  · rw [PyData.hasDictAll, h.nod, t.nod]
    rfl
  · have h1 := h.dep
    have h2 := t.dep
    simp only [PyData.depthAll]
    omega
  · have h1 := h.len
    have h2 := t.len
    simp only [PyData.shownAll, List.map_cons, List.sum_cons, List.length_cons]
    omega
theorem Sh.tup {ds : List PyData} {L D : Nat} (h : ShA ds L D) : Sh (.tuple ds) (L + 3) (D + 1) := by
  refine ⟨h.able, h.nod, ?_, ?_⟩
  · have h1 := h.dep
    simp only [PyData.depth]
    omega
  · have h1 := h.len
    have h2 := tupleText_len_le (PyData.shownAll ds)
    have h3 := PyData.shownAll_length ds
    simp only [PyData.shown]
    omega
theorem Sh.lst {ds : List PyData} {L D : Nat} (h : ShA ds L D) : Sh (.list ds) (L + 3) (D + 1) := by
  refine ⟨h.able, h.nod, ?_, ?_⟩
  · have h1 := h.dep
    simp only [PyData.depth]
    omega
  · have h1 := h.len
    have h2 := listText_len_le (PyData.shownAll ds)
    have h3 := PyData.shownAll_length ds
    simp only [PyData.shown]
    omega
theorem Sh.non {D : Nat} : Sh .none 4 (D + 1) := ⟨rfl, rfl, by simp [PyData.depth], by decide⟩
theorem Sh.int {i : Int} {k D : Nat} (h : i.natAbs < 2 ^ k) (h0 : 0 < k) (hk : k ≤ 1920) : Sh (.int i) (k + 1) (D + 1) := by
  have hl : i.natAbs.log2 < k := by
    by_cases z : i.natAbs = 0
    · rw [z]
      exact h0
    · exact (Nat.log2_lt z).mpr h
  refine ⟨by simp only [PyData.showable]; exact decide_eq_true (by omega), rfl, by simp [PyData.depth], ?_⟩
  have e := int_text_length_le h0 hl
  show (Str.ofString (toString i)).length ≤ k + 1
  rw [PySem.ofString_length]
  exact e
theorem ShA.ints {k D : Nat} (h0 : 0 < k) (hk : k ≤ 1920) : ∀ {l : List Int}, (∀ x ∈ l, x.natAbs < 2 ^ k) → ShA (l.map PyData.int) (l.length * (k + 3)) (D + 1)
  | [], _ => ShA.nil.mono (by omega) (Nat.le_refl _)
  | a :: r, h => by
    have h1 := ShA.cons (Sh.int (h a List.mem_cons_self) h0 hk) (ShA.ints (D := D) h0 hk (l := r) fun x hx => h x (List.mem_cons_of_mem _ hx))
    refine h1.mono ?_ (Nat.le_refl _)
    rw [List.length_cons, Nat.succ_mul]
    omega
theorem Sh.fits {d : PyData} {L D : Nat} (h : Sh d L D) (hL : L ≤ 10000000) : d.shown.length ≤ sizeLine := by
  rw [sizeLine_eq]
  have := h.len
  omega
end SfG
namespace SfG
open PySem PySem.Spec PyProof.Rows L2
/-! ### the kind of plain data -/
def tyD : PyData → String
  | .none => "NoneType"
  | .bool _ => "bool"
  | .int _ => "int"
  | .str _ => "str"
  | .list _ => "list"
  | .tuple _ => "tuple"
  | .dict _ => "dict"
theorem tyx_tup {K : PySem.W.Frag} {H : Hp} {p : Addr} {xs : List V} (h : SqT K H p xs) : TyX K H (.ref p) (.type "tuple") := by
  rcases h with (h | ⟨o, h⟩) | ⟨o, its, n, h1, h2, _⟩
  · exact .base (.tup h)
  · exact .fTuple h
  · exact .kTuple h1 h2
theorem tyx_lst {K : PySem.W.Frag} {H : Hp} {p : Addr} {xs : List V} (h : SqL K H p xs) : TyX K H (.ref p) (.type "list") := by
  rcases h with (h | ⟨o, h⟩) | ⟨o, its, n, h1, h2, _⟩
  · exact .base (.lst h)
  · exact .base (.frz h)
  · exact .kList h1 h2
theorem dp_is {K : PySem.W.Frag} {H : Hp} {v : V} {d : PyData} (h : Dp K H v d) : Is K H v (tyD d) := by
  cases h with
  | non => exact ⟨.base .non, by decide +kernel⟩
  | bl b => exact ⟨.base (.bl b), by show "bool" ∈ kinds; decide +kernel⟩
  | int i => exact ⟨.base (.int i), by show "int" ∈ kinds; decide +kernel⟩
  | str x => exact ⟨.base (.str x), by show "str" ∈ kinds; decide +kernel⟩
  | lst h _ => exact ⟨tyx_lst h, by show "list" ∈ kinds; decide +kernel⟩
  | tup h _ => exact ⟨tyx_tup h, by show "tuple" ∈ kinds; decide +kernel⟩
theorem kit_tuple : ∀ T ∈ kinds, kitB T "tuple" = some (T == "tuple") := by decide +kernel
def whD : PyData → Bool
  | .int _ => true
  | _ => false
def amD (d : PyData) (lo hi : Int) : Bool := match d with
  | .int i => decide (lo ≤ i) && decide (i ≤ hi)
  | _ => false
def tupD (d : PyData) (lo hi : Int) : Bool := match d with
  | .tuple ds => decide (lo ≤ (ds.length : Int)) && decide ((ds.length : Int) ≤ hi)
  | _ => false
end SfG
namespace SfC
open PySem PySem.Spec PyProof.Rows L2 SfG
def topS (i : Nat) : Stmt := PySem.Challenge.pw_sameface_k03_what_faces_tell.main.body.getD i (.Pass ⟨0, 0, 0, 0⟩)
abbrev sName : Stmt := topS 19
abbrev sKind : Stmt := topS 22
abbrev sBadD : Stmt := topS 23
abbrev sBadH : Stmt := topS 24
abbrev sFault : Stmt := topS 25
abbrev sIsF : Stmt := topS 26
abbrev sNeed : Stmt := topS 27
abbrev sHidOf : Stmt := topS 28
abbrev sNamOf : Stmt := topS 29
abbrev sFind : Stmt := topS 30
abbrev sDeedN : Stmt := topS 31
abbrev sTakes : Stmt := topS 32
abbrev sGives : Stmt := topS 33
abbrev sMixed : Stmt := topS 35
abbrev sKinds : Stmt := topS 36
abbrev sDraw : Stmt := topS 37
abbrev sDigit : Stmt := topS 38
abbrev sNames : Stmt := topS 39
abbrev sLKind : Stmt := topS 40
abbrev sFace : Stmt := topS 41
abbrev sRef : Stmt := topS 42
abbrev sRight : Stmt := topS 43
abbrev sLaw : Stmt := topS 44
end SfC
namespace SfC
open PySem PySem.Spec PyProof.Rows L2 SfG
/-! ### names -/
abbrev letters : Str := "abcdefghijklmnopqrstuvwxyz"
def isLet (c : Nat) : Bool := decide (c ∈ letters.cps.toList)
/-- one to eight small letters -/
def isN (z : Str) : Bool := decide (z.length ≤ 8) && (decide (1 ≤ z.length) && z.cps.toList.all isLet)
theorem let_alpha : ∀ c, c < 128 → Unicode.isAlpha c = (isLet c || (Unicode.isUpper c || Unicode.isTitle c)) := by decide +kernel
theorem let_lower : ∀ c, c < 128 → Unicode.isLower c = isLet c := by decide +kernel
theorem let_upper : ∀ c, c < 128 → isLet c = true → (Unicode.isUpper c || Unicode.isTitle c) = false := by decide +kernel
theorem let_range {c : Nat} (h : isLet c = true) : c < 128 := by
  have h' : c ∈ letters.cps.toList := of_decide_eq_true h
  have e : ∀ d ∈ letters.cps.toList, d < 128 := by decide +kernel
  exact e c h'
theorem name_list : ∀ l : List Nat, (∀ c ∈ l, c < 128) → (l.all Unicode.isAlpha && !(l.any fun c => Unicode.isUpper c || Unicode.isTitle c)) = l.all isLet
  | [], _ => rfl
  | a :: r, h => by
    have ih := name_list r fun c hc => h c (.tail _ hc)
    have ha := h a (.head _)
    rw [List.all_cons, List.any_cons, List.all_cons, ← ih, let_alpha a ha]
    cases hl : isLet a with
    | true =>
      rw [let_upper a ha hl]
      simp
    | false =>
      cases (Unicode.isUpper a || Unicode.isTitle a) <;> simp
theorem name_txt (z : Str) : (Txt.isalpha z && (Txt.islower z && Txt.isascii z)) = (decide (1 ≤ z.length) && z.cps.toList.all isLet) := by
  have hl : z.length = z.cps.toList.length := by simp [Str.length]
  unfold Txt.isalpha Txt.islower Txt.isascii
  rw [← Array.all_toList, ← Array.any_toList, ← Array.any_toList, ← Array.all_toList, hl]
  generalize z.cps.toList = l
  by_cases hc : ∀ c ∈ l, c < 128
  · have h1 : (l.all fun x => decide (x < 128)) = true := List.all_eq_true.mpr fun c h => decide_eq_true (hc c h)
    have e := name_list l hc
    rw [h1, ← e]
    cases l with
    | nil => rfl
    | cons a r =>
      have h2 : (decide ((a :: r).length > 0)) = true := decide_eq_true (by simp)
      have h3 : (decide (1 ≤ (a :: r).length)) = true := decide_eq_true (by simp)
      rw [h2, h3]
      cases hA : (a :: r).all isLet with
      | true =>
        rw [hA] at e
        have hla : isLet a = true := by
          rw [List.all_cons] at hA
          exact (Bool.and_eq_true_iff.mp hA).1
        have hlow : (a :: r).any Unicode.isLower = true := by
          rw [List.any_cons, let_lower a (hc a (.head _)), hla]
          rfl
        rw [hlow]
        simp
      | false =>
        rw [hA] at e
        rw [e]
        cases h4 : (a :: r).all Unicode.isAlpha with
        | false => rfl
        | true =>
          rw [h4] at e
          cases h5 : (a :: r).any fun c => Unicode.isUpper c || Unicode.isTitle c with
          | true => simp
          | false =>
            rw [h5] at e
            cases e
  · have h1 : (l.all fun x => decide (x < 128)) = false := by
      cases h : (l.all fun x => decide (x < 128)) with
      | false => rfl
      | true => exact absurd (fun c hc' => of_decide_eq_true (List.all_eq_true.mp h c hc')) hc
    have h2 : l.all isLet = false := by
      cases h : l.all isLet with
      | false => rfl
      | true => exact absurd (fun c hc' => let_range (List.all_eq_true.mp h c hc')) hc
    rw [h1, h2]
    simp
theorem isN_txt {z : Str} (h : isN z = true) : z.length ≤ 8 ∧ 1 ≤ z.length ∧ Txt.isalpha z = true ∧ Txt.islower z = true ∧ Txt.isascii z = true ∧ z.cps.toList.all isLet = true := by
  unfold isN at h
  rw [← name_txt, Bool.and_eq_true, Bool.and_eq_true, Bool.and_eq_true, decide_eq_true_eq] at h
  have e := name_txt z
  rw [h.2.1, h.2.2.1, h.2.2.2] at e
  have e' := e.symm
  rw [Bool.and_true, Bool.and_true, Bool.and_eq_true, decide_eq_true_eq] at e'
  exact ⟨h.1, e'.1, h.2.1, h.2.2.1, h.2.2.2, e'.2⟩
theorem isN_small {z : Str} (h : isN z = true) : z.length ≤ sizeLine := by
  have h1 := (isN_txt h).1
  rw [sizeLine_eq]
  omega
/-! ### faces -/
abbrev lt (a b : Str) : Prop := a.cps.toList < b.cps.toList
inductive Kn where
  | h (s : Str)
  | p (n : Int)
def Kn.d : Kn → PyData
  | .h s => .str s
  | .p n => .int n
def Kn.v : Kn → V
  | .h s => .str s
  | .p n => .int n
def Kn.isH : Kn → Bool
  | .h _ => true
  | .p _ => false
structure De where
  nm : Str
  tk : List Kn
  gv : Kn
structure Fc where
  hd : List Str
  ds : List De
def De.d (e : De) : PyData := .tuple [.str e.nm, .tuple (e.tk.map Kn.d), e.gv.d]
def Fc.d (f : Fc) : PyData := .tuple [.tuple (f.hd.map .str), .tuple (f.ds.map De.d)]
def goK (hd : List Str) : Kn → Prop
  | .h s => s ∈ hd
  | .p n => 2 ≤ n ∧ n ≤ 9
def hidN (tk : List Kn) : Nat := (tk.filter Kn.isH).length
structure goD (hd : List Str) (e : De) : Prop where
  nm : isN e.nm = true
  len : e.tk.length ≤ 3
  tk : ∀ k ∈ e.tk, goK hd k
  two : hidN e.tk ≤ 2
  gv : goK hd e.gv
structure goH (hd : List Str) : Prop where
  lo : 1 ≤ hd.length
  hi : hd.length ≤ 2
  nm : ∀ z ∈ hd, isN z = true
  up : hd.Pairwise lt
structure goF (f : Fc) : Prop where
  hid : goH f.hd
  lo : 1 ≤ f.ds.length
  hi : f.ds.length ≤ 8
  up : (f.ds.map De.nm).Pairwise lt
  ok : ∀ e ∈ f.ds, goD f.hd e
/-- the name ahead of the i-th -/
def ahd (l : List Str) (i : Nat) : Str := if i = 0 then "" else l.getD (i - 1) ""
theorem ahd_lt {l : List Str} (up : l.Pairwise lt) (hn : ∀ z ∈ l, isN z = true) {i : Nat} {z : Str} (hz : l[i]? = some z) : lt (ahd l i) z := by
  unfold ahd
  by_cases h0 : i = 0
  · rw [if_pos h0]
    have h1 := (isN_txt (hn z (List.mem_of_getElem? hz))).2.1
    have hl : z.length = z.cps.toList.length := by simp [Str.length]
    show (([] : List Nat) < z.cps.toList)
    cases hc : z.cps.toList with
    | nil =>
      rw [hl, hc] at h1
      exact absurd h1 (by simp)
    | cons a r => exact List.nil_lt_cons a r
  · rw [if_neg h0]
    have hi : i < l.length := by
      rcases Nat.lt_or_ge i l.length with h | h
      · exact h
      · rw [List.getElem?_eq_none h] at hz
        cases hz
    have e1 : l.getD (i - 1) "" = l[i - 1] := by
      rw [List.getD_eq_getElem?_getD, List.getElem?_eq_getElem (by omega)]
      rfl
    have e2 : z = l[i] := by
      rw [List.getElem?_eq_getElem hi] at hz
      exact (Option.some.inj hz).symm
    rw [e1, e2]
    exact List.pairwise_iff_getElem.mp up (i - 1) i (by omega) hi (by omega)
theorem ahd_succ {l : List Str} {i : Nat} {z : Str} (hz : l[i]? = some z) : ahd l (i + 1) = z := by
  unfold ahd
  rw [if_neg (by omega), List.getD_eq_getElem?_getD, Nat.add_sub_cancel, hz]
  rfl
theorem inV_mem {s : Str} {l : List Str} (h : s ∈ l) : inV (.str s) (l.map V.str) = true := by
  unfold inV
  rw [List.any_map]
  exact List.any_eq_true.mpr ⟨s, h, by simp [eqV]⟩
theorem flat_strs (l : List Str) : (l.map V.str).all flatV = true := by
  rw [List.all_map]
  exact List.all_eq_true.mpr fun _ _ => rfl
section
variable {P : Program} {w : World} {K : PySem.W.Frag} {mg : Str → Option Value} {base : Heap}
theorem is_kn {H : Hp} (k : Kn) : Is K H k.v (match k with | .h _ => "str" | .p _ => "int") := by
  cases k with
  | h s => exact is_str s
  | p n => exact is_int n
theorem dp_kn {H : Hp} {v : V} {k : Kn} (h : Dp K H v k.d) : v = k.v := by
  cases k with
  | h s => exact dp_str h
  | p n => exact dp_int h
theorem dpA_strs {H : Hp} : ∀ {l : List Str} {xs : List V}, DpAll K H xs (l.map PyData.str) → xs = l.map V.str
  | [], _, h => dpA_nil h
  | a :: r, _, h => by
    obtain ⟨x, t, rfl, hx, ht⟩ := dpA_cons h
    rw [dp_str hx, dpA_strs ht]
    rfl
theorem dpA_kns {H : Hp} : ∀ {l : List Kn} {xs : List V}, DpAll K H xs (l.map Kn.d) → xs = l.map Kn.v
  | [], _, h => dpA_nil h
  | a :: r, _, h => by
    obtain ⟨x, t, rfl, hx, ht⟩ := dpA_cons h
    rw [dp_kn hx, dpA_kns ht]
    rfl
/-! ### is_name, is_kind, first_bad_hidden -/
theorem scName : FnScope ["thing"] ["thing"] (defScope sName) := ⟨rfl, rfl, rfl, by decide +kernel, rfl, by decide +kernel, by decide +kernel⟩
theorem scKind : FnScope ["thing", "hidden"] ["thing", "hidden"] (defScope sKind) := ⟨rfl, rfl, rfl, by decide +kernel, rfl, by decide +kernel, by decide +kernel⟩
abbrev nBadH : List Str := ["hidden", "ahead", "number", "name"]
theorem scBadH : FnScope nBadH ["hidden"] (defScope sBadH) := ⟨rfl, rfl, rfl, by decide +kernel, rfl, by decide +kernel, by decide +kernel⟩
def spName : Sp := fun vs H Q _ => ∃ z : Str, vs = [.str z] ∧ isN z = true ∧ Q (.bl true) H
theorem ok_name {f : Addr} {fd : FuncData} {k : Nat} (F : Fun K "is_name" "is_name" sName f fd) (mi : mg "isinstance" = none) (m1 : mg "str" = none) (ml : mg "len" = none) :
    FnOk P w K mg base CX0 (k + 1) f fd ["thing"] spName := by
  refine F.ok scName (fun vs H Q E h => ?_) (fun cdv A outer s H vs Q E hr h => ?_)
  · obtain ⟨z, rfl, _⟩ := h
    rfl
  · obtain ⟨z, rfl, hz, q⟩ := h
    obtain ⟨h8, h1, ha, hlo, has, _⟩ := isN_txt hz
    refine ⟨_, pss_one (ps_ret (pe_and (pe_isi "str" 0 mi m1 (by decide +kernel))
      (pe_and (pe_cmpR op_le (pe_callB call_len_str (by rfl) ml PySem.boot_len (pa_cons (pv 0) pa_nil)) pe_int (nomark _))
      (pe_and (pe_m0 PySem.F.slot_str_isalpha PySem.F.type_str_isalpha mt_isalpha (pv 0))
      (pe_and (pe_m0 PySem.F.slot_str_islower PySem.F.type_str_islower mt_islower (pv 0))
      (pe_one (pe_m0 PySem.F.slot_str_isascii PySem.F.type_str_isascii mt_isascii (pv 0)))))))), ?_⟩
    refine ⟨_, rfl, "str", _, (is_str z).1, by decide +kernel, _, rfl, iteT ⟨_, rfl, z, rfl, isN_small hz, _, 8, rfl, rfl, _, rfl, ?_⟩⟩
    rw [decide_eq_true (show (z.length : Int) ≤ 8 by omega)]
    refine iteT ⟨_, rfl, ⟨z, rfl⟩, z, rfl, rfl, trivial, _, rfl, ?_⟩
    rw [ha]
    refine iteT ⟨_, rfl, ⟨z, rfl⟩, z, rfl, rfl, trivial, _, rfl, ?_⟩
    rw [hlo]
    refine iteT ⟨_, rfl, ⟨z, rfl⟩, z, rfl, rfl, trivial, ?_⟩
    rw [has]
    exact q
def spKind (K : PySem.W.Frag) : Sp := fun vs H Q _ => ∃ (k : Kn) (hd : List Str) (p : Addr), vs = [k.v, .ref p] ∧ SqT K H p (hd.map V.str) ∧ goK hd k ∧ Q (.bl true) H
theorem ok_kind {f : Addr} {fd : FuncData} {k : Nat} (F : Fun K "is_kind" "is_kind" sKind f fd) (mi : mg "isinstance" = none) (m1 : mg "str" = none) (m2 : mg "int" = none) :
    FnOk P w K mg base CX0 (k + 1) f fd ["thing", "hidden"] (spKind K) := by
  refine F.ok scKind (fun vs H Q E h => ?_) (fun cdv A outer s H vs Q E hr h => ?_)
  · obtain ⟨k, hd, p, rfl, _⟩ := h
    rfl
  · obtain ⟨k, hd, p, rfl, hp, hk, q⟩ := h
    refine ⟨_, pss_cons (ps_if (pt_val (pe_isi "str" 0 mi m1 (by decide +kernel))) (pss_one (ps_ret (pe_cmpR op_in_seq (pv 0) (pv 1) rfl))) pss_nil)
      (pss_one (ps_ret (pe_and (pe_isi "int" 0 mi m2 (by decide +kernel)) (pe_one (pe_chain op_le op_le pe_int (pv 0) pe_int))))), ?_⟩
    cases k with
    | h s =>
      refine ⟨_, rfl, "str", _, (is_str s).1, by decide +kernel, _, rfl, iteT ⟨_, rfl, _, rfl, p, _, rfl, .inr hp, rfl, flat_strs hd, ?_⟩⟩
      rw [show inV (Kn.v (.h s)) (hd.map V.str) = true from inV_mem hk]
      exact q
    | p n =>
      obtain ⟨h2, h9⟩ := hk
      refine ⟨_, rfl, "int", false, (is_int n).1, by decide +kernel, _, rfl, iteF ⟨_, rfl, "int", true, (is_int n).1, by decide +kernel, _, rfl, iteT ⟨_, rfl, 2, n, rfl, rfl, _, rfl, ?_⟩⟩⟩
      rw [decide_eq_true h2]
      refine iteT ⟨n, 9, rfl, rfl, ?_⟩
      show Q (.bl (decide (n ≤ 9))) H
      rw [decide_eq_true h9]
      exact q
def spBadH (K : PySem.W.Frag) : Sp := fun vs H Q _ => ∃ (hd : List Str) (p : Addr), vs = [.ref p] ∧ SqT K H p (hd.map V.str) ∧ (∀ z ∈ hd, isN z = true) ∧ hd.Pairwise lt ∧ ∀ H', Gr H H' → Q .non H'
theorem ok_badH {f fN : Addr} {fd fdN : FuncData} {k : Nat} (F : Fun K "first_bad_hidden" "first_bad_hidden" sBadH f fd) (HN : Has P w K mg base (k + 1) "is_name" ["thing"] spName fN fdN) (me : mg "enumerate" = none) :
    FnOk P w K mg base CX0 (k + 2) f fd ["hidden"] (spBadH K) := by
  refine F.ok scBadH (fun vs H Q E h => ?_) (fun cdv A outer s H vs Q E hr h => ?_)
  · obtain ⟨hd, p, rfl, _⟩ := h
    rfl
  · obtain ⟨hd, p, rfl, hp, hn, up, q⟩ := h
    have nd := scBadH.nd
    refine' ⟨_, pss_cons (ps_set (i := 1) nd rfl (.inl rfl) pe_str) (pss_cons (ps_for PassesOwn.never rfl (pi_enumT (by rfl) me (pa_cons (pv 0) pa_nil))
        (pg_tup rfl (pgs_cons (pg_name (i := 2) nd rfl (.inl rfl)) (pgs_cons (pg_name (i := 3) nd rfl (.inl rfl)) pgs_nil)))
        (pss_cons (ps_if (PW.pt (pw_or (pt_not (pt_val (hcall HN hr (pa_cons (pv 3) pa_nil)))) (pw_or1 (pt_cmpR op_le_str (pv 3) (pv 1) (nomark _))))) (pss_one (ps_ret (pv 2))) pss_nil)
        (pss_one (ps_set (i := 1) nd rfl (.inl rfl) (pv 3))))) (pss_one (ps_ret pe_non))), ?rd⟩
    case rd =>
    refine ⟨_, rfl, p, _, rfl, hp, for_it (walk_enumT (xs := hd.map V.str)) (fun i σ H1 => ∃ y2 y3 : Option V, σ = [some (.ref p), some (.str (ahd hd i)), y2, y3] ∧ Gr H H1) ⟨none, none, rfl, Gr.refl H⟩ ?h1 ?h2 ?h3⟩
    case h1 =>
      rintro i σ H1 hi ⟨y2, y3, rfl, g⟩
      exact g.sqt hp
    case h2 =>
      rintro i x σ H1 H2 hi ⟨y2, y3, rfl, g⟩ ⟨T, a, b, rfl, nT, rfl, ha, hb⟩
      cases ha
      rw [show (fun i : Nat => (hd.map V.str)[i]?) i = (hd.map V.str)[i]? from rfl, List.getElem?_map] at hb
      obtain ⟨z, hz, rfl⟩ := Option.map_eq_some_iff.mp hb
      have gz := hn z (List.mem_of_getElem? hz)
      have lz := ahd_lt up hn hz
      refine ⟨T, [.int (i : Nat), .str z], rfl, .inl (.inl upd_same), rfl, .int (i : Nat), [.str z], rfl, .str z, [], rfl, rfl, ?_⟩
      refine ⟨_, rfl, z, rfl, gz, _, rfl, iteF ⟨_, rfl, _, rfl, z, _, rfl, rfl, _, rfl, ?_⟩⟩
      rw [decide_eq_true lz]
      refine iteF ⟨_, rfl, ?_⟩
      show ∃ y2 y3 : Option V, _ = [some (.ref p), some (.str (ahd hd (i + 1))), y2, y3] ∧ _
      rw [ahd_succ hz]
      exact ⟨_, _, rfl, g.trans (Gr.new nT)⟩
    case h3 =>
      rintro σ H1 ⟨y2, y3, rfl, g⟩
      exact q H1 g
end
end SfC
namespace SfC
open PySem PySem.Spec PyProof.Rows L2 SfG
abbrev nBadD : List Str := ["deeds", "hidden", "ahead", "number", "deed", "name", "takes", "gives", "many", "kind"]
theorem scBadD : FnScope nBadD ["deeds", "hidden"] (defScope sBadD) := ⟨rfl, rfl, rfl, by decide +kernel, rfl, by decide +kernel, by decide +kernel⟩
theorem dpA_de {K : PySem.W.Frag} {H : Hp} {xs : List V} {es : List De} (h : DpAll K H xs (es.map De.d)) {i : Nat} {x : V} (hx : xs[i]? = some x) : ∃ e, es[i]? = some e ∧ Dp K H x e.d := by
  have hl := dpA_len h
  rw [List.length_map] at hl
  have hi : i < xs.length := by
    rcases Nat.lt_or_ge i xs.length with h1 | h1
    · exact h1
    · rw [List.getElem?_eq_none h1] at hx
      cases hx
  have hi' : i < es.length := by omega
  obtain ⟨y, hy, hd⟩ := dpA_get (i := i) (d := (es[i]).d) h (by simp [hi'])
  rw [hx] at hy
  cases hy
  exact ⟨es[i], by simp [hi'], hd⟩
theorem hidN_snoc (tk : List Kn) (k : Kn) : hidN (tk ++ [k]) = hidN tk + (if k.isH then 1 else 0) := by
  unfold hidN
  rw [List.filter_append, List.length_append]
  cases h : k.isH <;> simp [h]
theorem hidN_take {tk : List Kn} {i : Nat} {k : Kn} (h : tk[i]? = some k) : hidN (tk.take (i + 1)) = hidN (tk.take i) + (if k.isH then 1 else 0) := by
  rw [List.take_add_one, h]
  exact hidN_snoc _ k
section
variable {P : Program} {w : World} {K : PySem.W.Frag} {mg : Str → Option Value} {base : Heap}
def spBadD (K : PySem.W.Frag) : Sp := fun vs H Q _ => ∃ (es : List De) (hd : List Str) (x : V) (p : Addr), vs = [x, .ref p] ∧ Dp K H x (.tuple (es.map De.d)) ∧ SqT K H p (hd.map V.str) ∧ (es.map De.nm).Pairwise lt ∧ (∀ e ∈ es, goD hd e) ∧ ∀ H', Gr H H' → Q .non H'
set_option maxHeartbeats 1000000 in
theorem ok_badD {f fK : Addr} {fd fdK : FuncData} {k : Nat} (F : Fun K "first_bad_deed" "first_bad_deed" sBadD f fd) (HK : Has P w K mg base (k + 1) "is_kind" ["thing", "hidden"] (spKind K) fK fdK)
    (me : mg "enumerate" = none) (mi : mg "isinstance" = none) (m1 : mg "str" = none) (m2 : mg "int" = none) (m3 : mg "tuple" = none) (ml : mg "len" = none) :
    FnOk P w K mg base CX0 (k + 2) f fd ["deeds", "hidden"] (spBadD K) := by
  refine F.ok scBadD (fun vs H Q E h => ?_) (fun cdv A outer s H vs Q E hr h => ?_)
  · obtain ⟨es, hd, x, p, rfl, _⟩ := h
    rfl
  · obtain ⟨es, hd, x, p, rfl, hx, hp, up, ok, q⟩ := h
    have nd := scBadD.nd
    refine' ⟨_, pss_cons (ps_set (i := 2) nd rfl (.inl rfl) pe_str) (pss_cons (ps_for PassesOwn.never rfl (pi_enumT (by rfl) me (pa_cons (pv 0) pa_nil))
        (pg_tup rfl (pgs_cons (pg_name (i := 3) nd rfl (.inl rfl)) (pgs_cons (pg_name (i := 4) nd rfl (.inl rfl)) pgs_nil)))
        (pss_cons ?b1 (pss_cons ?b2 (pss_cons ?b3 (pss_cons ?b4 (pss_cons ?b5 (pss_cons ?b6 (pss_cons ?b7 (pss_cons ?b8 (pss_one ?b9)))))))))) (pss_one (ps_ret pe_non))), ?rd⟩
    case b1 =>
      exact ps_if (PW.pt (pw_or (pt_not (pt_val (pe_isi "tuple" 4 mi m3 (by decide +kernel)))) (pw_or1 (pt_cmpR op_ne (pe_callB call_len_seq (by rfl) ml PySem.boot_len (pa_cons (pv 4) pa_nil)) pe_int (nomark _))))) (pss_one (ps_ret (pv 3))) pss_nil
    case b2 =>
      exact ps_asg (pv 4) (pg_tup rfl (pgs_cons (pg_name (i := 5) nd rfl (.inl rfl)) (pgs_cons (pg_name (i := 6) nd rfl (.inl rfl)) (pgs_cons (pg_name (i := 7) nd rfl (.inl rfl)) pgs_nil))))
    case b3 =>
      exact ps_if (PW.pt (pw_or (pt_not (pt_val (pe_isi "str" 5 mi m1 (by decide +kernel)))) (pw_or (pt_cmpR op_gt (pe_callB call_len_str (by rfl) ml PySem.boot_len (pa_cons (pv 5) pa_nil)) pe_int (nomark _)) (pw_or1 (pt_cmpR op_le_str (pv 5) (pv 2) (nomark _)))))) (pss_one (ps_ret (pv 3))) pss_nil
    case b4 =>
      exact ps_if (PW.pt (pw_or (pt_not (pt_val (pe_m0 PySem.F.slot_str_isalpha PySem.F.type_str_isalpha mt_isalpha (pv 5)))) (pw_or (pt_not (pt_val (pe_m0 PySem.F.slot_str_islower PySem.F.type_str_islower mt_islower (pv 5)))) (pw_or1 (pt_not (pt_val (pe_m0 PySem.F.slot_str_isascii PySem.F.type_str_isascii mt_isascii (pv 5)))))))) (pss_one (ps_ret (pv 3))) pss_nil
    case b5 =>
      exact ps_if (PW.pt (pw_or (pt_not (pt_val (pe_isi "tuple" 6 mi m3 (by decide +kernel)))) (pw_or (pt_cmpR op_gt (pe_callB call_len_seq (by rfl) ml PySem.boot_len (pa_cons (pv 6) pa_nil)) pe_int (nomark _)) (pw_or1 (pt_not (pt_val (hcall HK hr (pa_cons (pv 7) (pa_cons (pv 1) pa_nil))))))))) (pss_one (ps_ret (pv 3))) pss_nil
    case b6 =>
      exact ps_set (i := 8) nd rfl (.inl rfl) pe_int
    case b7 =>
      refine' ps_for PassesOwn.never rfl (pi_tup (pv 6)) (pg_name (i := 9) nd rfl (.inl rfl)) (pss_one (ps_if (pt_val (pe_isi "str" 9 mi m1 (by decide +kernel))) (pss_cons ?c1 (pss_one ?c2)) (pss_one ?c3)))
      case c1 => exact ps_if (pt_cmpR op_notIn_seq (pv 9) (pv 1) rfl) (pss_one (ps_ret (pv 3))) pss_nil
      case c2 => exact ps_aug (i := 8) nd rfl (.inl rfl) pe_int ip_add
      case c3 => exact ps_if (PW.pt (pw_or (pt_not (pt_val (pe_isi "int" 9 mi m2 (by decide +kernel)))) (pw_or1 (pt_not (pt_chain op_le op_le pe_int (pv 9) pe_int))))) (pss_one (ps_ret (pv 3))) pss_nil
    case b8 =>
      exact ps_if (pt_cmpR op_gt (pv 8) pe_int (nomark _)) (pss_one (ps_ret (pv 3))) pss_nil
    case b9 =>
      exact ps_set (i := 2) nd rfl (.inl rfl) (pv 5)
    case rd =>
    obtain ⟨pd, xs, rfl, hpd, hxs⟩ := dp_tup hx
    refine ⟨_, rfl, pd, xs, rfl, hpd, for_it (walk_enumT (xs := xs)) (fun i σ H1 => ∃ y3 y4 y5 y6 y7 y8 y9 : Option V, σ = [some (.ref pd), some (.ref p), some (.str (ahd (es.map De.nm) i)), y3, y4, y5, y6, y7, y8, y9] ∧ Gr H H1) ⟨none, none, none, none, none, none, none, rfl, Gr.refl H⟩ ?h1 ?h2 ?h3⟩
    case h1 =>
      rintro i σ H1 hi ⟨y3, y4, y5, y6, y7, y8, y9, rfl, g⟩
      exact g.sqt hpd
    case h3 =>
      rintro σ H1 ⟨y3, y4, y5, y6, y7, y8, y9, rfl, g⟩
      exact q H1 g
    case h2 =>
      rintro i x σ H1 H2 hi ⟨y3, y4, y5, y6, y7, y8, y9, rfl, g⟩ ⟨T, a, b, rfl, nT, rfl, ha, hb⟩
      cases ha
      obtain ⟨e, he, de⟩ := dpA_de hxs hb
      have gd := ok e (List.mem_of_getElem? he)
      have hne : (es.map De.nm)[i]? = some e.nm := by rw [List.getElem?_map, he]; rfl
      have lz := ahd_lt up (fun z hz => by obtain ⟨e', h1, rfl⟩ := List.mem_map.mp hz; exact (ok e' h1).nm) hne
      have g2 : Gr H (upd H1 T (.tup [.int (i : Nat), b])) := g.trans (Gr.new nT)
      have hT : upd H1 T (.tup [.int (i : Nat), b]) T = some (.tup [.int (i : Nat), b]) := upd_same
      generalize upd H1 T (.tup [.int (i : Nat), b]) = H2 at g2 hT ⊢
      have de2 := g2.kd.dp de
      obtain ⟨pe, n1, t1, v1, rfl, hpe, dn, dt, dv⟩ := dp_3 de2
      cases dp_str dn
      cases dp_kn dv
      obtain ⟨pt, ts, rfl, hpt, hts⟩ := dp_tup dt
      cases dpA_kns hts
      have hp2 := g2.sqt hp
      obtain ⟨h8, h1, hal, hlo, has, _⟩ := isN_txt gd.nm
      refine ⟨T, _, rfl, .inl (.inl hT), rfl, .int (i : Nat), [.ref pe], rfl, .ref pe, [], rfl, rfl, ?_⟩
      -- a tuple of three
      refine ⟨_, rfl, "tuple", true, tyx_tup hpe, by decide +kernel, _, rfl, iteF ⟨_, rfl, pe, _, rfl, .inr hpe, rfl, _, rfl, iteF ?_⟩⟩
      refine ⟨_, rfl, pe, _, rfl, hpe, rfl, _, _, rfl, _, _, rfl, _, _, rfl, rfl, ?_⟩
      -- its name
      refine ⟨_, rfl, "str", true, (is_str e.nm).1, by decide +kernel, _, rfl, iteF ⟨_, rfl, _, rfl, isN_small gd.nm, _, 8, rfl, rfl, _, rfl, ?_⟩⟩
      rw [decide_eq_false (show ¬ (e.nm.length : Int) > 8 by omega)]
      refine iteF ⟨_, rfl, _, rfl, e.nm, _, rfl, rfl, _, rfl, ?_⟩
      rw [decide_eq_true lz]
      refine iteF ⟨_, rfl, ⟨_, rfl⟩, e.nm, rfl, rfl, trivial, _, rfl, ?_⟩
      rw [hal]
      refine iteF ⟨_, rfl, ⟨_, rfl⟩, e.nm, rfl, rfl, trivial, _, rfl, ?_⟩
      rw [hlo]
      refine iteF ⟨_, rfl, ⟨_, rfl⟩, e.nm, rfl, rfl, trivial, _, rfl, ?_⟩
      rw [has]
      refine iteF ?_
      -- what it takes and gives
      refine ⟨_, rfl, "tuple", true, tyx_tup hpt, by decide +kernel, _, rfl, iteF ⟨_, rfl, pt, _, rfl, .inr hpt, _, 3, rfl, rfl, _, rfl, ?_⟩⟩
      rw [List.length_map, decide_eq_false (show ¬ ((e.tk.length : Nat) : Int) > 3 by have := gd.len; omega)]
      refine iteF ⟨_, rfl, _, rfl, e.gv, hd, p, rfl, hp2, gd.gv, _, rfl, iteF ?_⟩
      refine ⟨_, rfl, pt, rfl, ⟨_, hpt⟩, for_it (walk_tup (xs := e.tk.map Kn.v)) (fun j σ H3 => ∃ y9 : Option V, σ = [some (.ref pd), some (.ref p), some (.str (ahd (es.map De.nm) i)), some (.int (i : Nat)), some (.ref pe), some (.str e.nm), some (.ref pt), some e.gv.v, some (.int (hidN (e.tk.take j))), y9] ∧ H3 = H2) ⟨_, rfl, rfl⟩ ?i1 ?i2 ?i3⟩
      case i1 =>
        rintro j σ H3 hj ⟨y, rfl, rfl⟩
        exact hpt
      case i2 =>
        rintro j x σ H3 H4 hj ⟨y, rfl, rfl⟩ ⟨rfl, hx⟩
        rw [List.getElem?_map] at hx
        obtain ⟨kn, hkn, rfl⟩ := Option.map_eq_some_iff.mp hx
        have gk := gd.tk kn (List.mem_of_getElem? hkn)
        have ht := hidN_take hkn
        cases kn with
        | h z =>
          refine ⟨_, rfl, "str", true, (is_str z).1, by decide +kernel, _, rfl, iteT ⟨_, rfl, _, rfl, p, _, rfl, .inr hp2, rfl, flat_strs hd, _, rfl, ?_⟩⟩
          rw [show inV (Kn.v (.h z)) (hd.map V.str) = true from inV_mem gk]
          refine iteF ⟨_, rfl, _, 1, rfl, rfl, ?_⟩
          show ∃ y9 : Option V, _ = [some (.ref pd), some (.ref p), some (.str (ahd (es.map De.nm) i)), some (.int (i : Nat)), some (.ref pe), some (.str e.nm), some (.ref pt), some e.gv.v, some (.int (hidN (e.tk.take (j + 1)))), y9] ∧ _
          rw [ht]
          exact ⟨_, rfl, rfl⟩
        | p n =>
          obtain ⟨k2, k9⟩ := gk
          refine ⟨_, rfl, "int", false, (is_int n).1, by decide +kernel, _, rfl, iteF ⟨_, rfl, "int", true, (is_int n).1, by decide +kernel, _, rfl, iteF ⟨_, rfl, 2, n, rfl, rfl, _, rfl, ?_⟩⟩⟩
          rw [decide_eq_true k2]
          refine iteT ⟨n, 9, rfl, rfl, _, rfl, ?_⟩
          rw [decide_eq_true k9]
          refine iteF ?_
          show ∃ y9 : Option V, _ = [some (.ref pd), some (.ref p), some (.str (ahd (es.map De.nm) i)), some (.int (i : Nat)), some (.ref pe), some (.str e.nm), some (.ref pt), some e.gv.v, some (.int (hidN (e.tk.take (j + 1)))), y9] ∧ _
          rw [ht]
          exact ⟨_, rfl, rfl⟩
      case i3 =>
        rintro σ H3 ⟨y, rfl, rfl⟩
        rw [List.length_map, List.take_length]
        refine ⟨_, rfl, _, 2, rfl, rfl, _, rfl, ?_⟩
        rw [decide_eq_false (show ¬ ((hidN e.tk : Nat) : Int) > 2 by have := gd.two; omega)]
        refine iteF ⟨_, rfl, ?_⟩
        show ∃ y3 y4 y5 y6 y7 y8 y9 : Option V, _ = [some (.ref pd), some (.ref p), some (.str (ahd (es.map De.nm) (i + 1))), y3, y4, y5, y6, y7, y8, y9] ∧ _
        rw [ahd_succ hne]
        exact ⟨_, _, _, _, _, _, _, rfl, g2⟩
end
end SfC
namespace SfC
open PySem PySem.Spec PyProof.Rows L2 SfG
theorem scFault : FnScope ["thing", "hidden", "deeds", "number"] ["thing"] (defScope sFault) := ⟨rfl, rfl, rfl, by decide +kernel, rfl, by decide +kernel, by decide +kernel⟩
theorem scNeed : FnScope ["face", "fault", "part", "number"] ["face"] (defScope sNeed) := ⟨rfl, rfl, rfl, by decide +kernel, rfl, by decide +kernel, by decide +kernel⟩
/-- a face in the heap, opened -/
theorem dp_face {K : PySem.W.Frag} {H : Hp} {x : V} {f : Fc} (h : Dp K H x f.d) : ∃ p ph pd xs, x = .ref p ∧ SqT K H p [.ref ph, .ref pd] ∧ SqT K H ph (f.hd.map V.str) ∧ SqT K H pd xs ∧ DpAll K H xs (f.ds.map De.d) := by
  obtain ⟨p, a, b, rfl, hp, ha, hb⟩ := dp_2 h
  obtain ⟨ph, hs, rfl, hph, dh⟩ := dp_tup ha
  obtain ⟨pd, xs, rfl, hpd, dd⟩ := dp_tup hb
  cases dpA_strs dh
  exact ⟨p, ph, pd, xs, rfl, hp, hph, hpd, dd⟩
section
variable {P : Program} {w : World} {K : PySem.W.Frag} {mg : Str → Option Value} {base : Heap}
def spGood (K : PySem.W.Frag) (r : V) : Sp := fun vs H Q _ => ∃ (x : V) (f : Fc), vs = [x] ∧ Dp K H x f.d ∧ goF f ∧ ∀ H', Gr H H' → Q r H'
theorem ok_fault {f fH fD : Addr} {fd fdH fdD : FuncData} {k : Nat} {t8 : Tok} (F : Fun K "face_fault" "face_fault" sFault f fd) (HH : Has P w K mg base (k + 2) "first_bad_hidden" ["hidden"] (spBadH K) fH fdH)
    (HD : Has P w K mg base (k + 2) "first_bad_deed" ["deeds", "hidden"] (spBadD K) fD fdD) (mi : mg "isinstance" = none) (m3 : mg "tuple" = none) (ml : mg "len" = none) (m8 : mg "MOST_DEEDS" = some (.int 8 t8)) :
    FnOk P w K mg base CX0 (k + 3) f fd ["thing"] (spGood K .non) := by
  refine F.ok scFault (fun vs H Q E h => ?_) (fun cdv A outer s H vs Q E hr h => ?_)
  · obtain ⟨x, f, rfl, _⟩ := h
    rfl
  · obtain ⟨x, f, rfl, hx, go, q⟩ := h
    have nd := scFault.nd
    refine' ⟨_, pss_cons ?s1 (pss_cons ?s2 (pss_cons ?s3 (pss_cons ?s4 (pss_cons ?s5 (pss_cons ?s6 (pss_cons ?s7 (pss_cons ?s8 (pss_one ?s9)))))))), ?rd⟩
    case s1 => exact ps_if (PW.pt (pw_or (pt_not (pt_val (pe_isi "tuple" 0 mi m3 (by decide +kernel)))) (pw_or1 (pt_cmpR op_ne (pe_callB call_len_seq (by rfl) ml PySem.boot_len (pa_cons (pv 0) pa_nil)) pe_int (nomark _))))) pss_never pss_nil
    case s2 => exact ps_asg (pv 0) (pg_tup rfl (pgs_cons (pg_name (i := 1) nd rfl (.inl rfl)) (pgs_cons (pg_name (i := 2) nd rfl (.inl rfl)) pgs_nil)))
    case s3 => exact ps_if (PW.pt (pw_or (pt_not (pt_val (pe_isi "tuple" 1 mi m3 (by decide +kernel)))) (pw_or1 (pt_not (pt_chain op_le op_le pe_int (pe_callB call_len_seq (by rfl) ml PySem.boot_len (pa_cons (pv 1) pa_nil)) pe_int))))) pss_never pss_nil
    case s4 => exact ps_if (PW.pt (pw_or (pt_not (pt_val (pe_isi "tuple" 2 mi m3 (by decide +kernel)))) (pw_or1 (pt_not (pt_chain op_le op_le pe_int (pe_callB call_len_seq (by rfl) ml PySem.boot_len (pa_cons (pv 2) pa_nil)) (pe_glob (v := .int 8) rfl m8 ⟨_, rfl⟩)))))) pss_never pss_nil
    case s5 => exact ps_set (i := 3) nd rfl (.inl rfl) (hcall HH hr (pa_cons (pv 1) pa_nil))
    case s6 => exact ps_if (pt_cmpR op_notN (pv 3) pe_non (nomark _)) pss_never pss_nil
    case s7 => exact ps_set (i := 3) nd rfl (.inl rfl) (hcall HD hr (pa_cons (pv 2) (pa_cons (pv 1) pa_nil)))
    case s8 => exact ps_if (pt_cmpR op_notN (pv 3) pe_non (nomark _)) pss_never pss_nil
    case s9 => exact ps_ret pe_non
    case rd =>
    obtain ⟨p, ph, pd, xs, rfl, hp, hph, hpd, dd⟩ := dp_face hx
    have hl : xs.length = f.ds.length := by
      have := dpA_len dd
      rw [List.length_map] at this
      exact this
    refine ⟨_, rfl, "tuple", true, tyx_tup hp, by decide +kernel, _, rfl, iteF ⟨_, rfl, p, _, rfl, .inr hp, rfl, _, rfl, iteF ?_⟩⟩
    refine ⟨_, rfl, p, _, rfl, hp, rfl, _, _, rfl, _, _, rfl, rfl, ?_⟩
    refine ⟨_, rfl, "tuple", true, tyx_tup hph, by decide +kernel, _, rfl, iteF ⟨_, rfl, ph, _, rfl, .inr hph, 1, _, rfl, rfl, _, rfl, ?_⟩⟩
    have a1 := go.hid.lo
    have a2 := go.hid.hi
    have a3 := go.lo
    have a4 := go.hi
    rw [List.length_map, decide_eq_true (show (1 : Int) ≤ ((f.hd.length : Nat) : Int) by omega)]
    refine iteT ⟨_, 2, rfl, rfl, _, rfl, ?_⟩
    rw [decide_eq_true (show ((f.hd.length : Nat) : Int) ≤ 2 by omega)]
    refine iteF ⟨_, rfl, "tuple", true, tyx_tup hpd, by decide +kernel, _, rfl, iteF ⟨_, rfl, pd, _, rfl, .inr hpd, 1, _, rfl, rfl, _, rfl, ?_⟩⟩
    rw [hl, decide_eq_true (show (1 : Int) ≤ ((f.ds.length : Nat) : Int) by omega)]
    refine iteT ⟨_, 8, rfl, rfl, _, rfl, ?_⟩
    rw [decide_eq_true (show ((f.ds.length : Nat) : Int) ≤ 8 by omega)]
    refine iteF ⟨_, rfl, f.hd, ph, rfl, hph, go.hid.nm, go.hid.up, fun H1 g1 => ?_⟩
    refine ⟨_, rfl, rfl, _, rfl, iteF ?_⟩
    refine ⟨_, rfl, _, rfl, f.ds, f.hd, .ref pd, ph, rfl, .tup (g1.sqt hpd) (g1.kd.dpA dd), g1.sqt hph, go.up, go.ok, fun H2 g2 => ?_⟩
    exact ⟨_, rfl, rfl, _, rfl, iteF (q H2 (g1.trans g2))⟩
theorem ok_need {f fF : Addr} {fd fdF : FuncData} {k : Nat} (F : Fun K "need_face" "need_face" sNeed f fd) (HF : Has P w K mg base (k + 3) "face_fault" ["thing"] (spGood K .non) fF fdF) :
    FnOk P w K mg base CX0 (k + 4) f fd ["face"] (spGood K .non) := by
  refine F.ok scNeed (fun vs H Q E h => ?_) (fun cdv A outer s H vs Q E hr h => ?_)
  · obtain ⟨x, f, rfl, _⟩ := h
    rfl
  · obtain ⟨x, f, rfl, hx, go, q⟩ := h
    refine ⟨_, pss_cons (ps_set (i := 1) scNeed.nd rfl (.inl rfl) (hcall HF hr (pa_cons (pv 0) pa_nil))) (pss_one (ps_if (pt_cmpR op_notN (pv 1) pe_non (nomark _)) pss_never pss_nil)), ?_⟩
    exact ⟨_, rfl, x, f, rfl, hx, go, fun H1 g1 => ⟨_, rfl, rfl, _, rfl, iteF (q H1 g1)⟩⟩
end
end SfC
namespace SfC
open PySem PySem.Spec PyProof.Rows L2 SfG
theorem scIsF : FnScope ["thing"] ["thing"] (defScope sIsF) := ⟨rfl, rfl, rfl, by decide +kernel, rfl, by decide +kernel, by decide +kernel⟩
theorem scHidOf : FnScope ["face"] ["face"] (defScope sHidOf) := ⟨rfl, rfl, rfl, by decide +kernel, rfl, by decide +kernel, by decide +kernel⟩
abbrev nNamOf : List Str := ["face", "deed"]
theorem scNamOf : FnScope nNamOf ["face"] (defScope sNamOf) := ⟨rfl, rfl, rfl, by decide +kernel, rfl, by decide +kernel, by decide +kernel⟩
theorem scFind : FnScope ["face", "name", "number", "deed"] ["face", "name"] (defScope sFind) := ⟨rfl, rfl, rfl, by decide +kernel, rfl, by decide +kernel, by decide +kernel⟩
section
variable {P : Program} {w : World} {K : PySem.W.Frag} {mg : Str → Option Value} {base : Heap}
theorem ok_isF {f fF : Addr} {fd fdF : FuncData} {k : Nat} (F : Fun K "is_face" "is_face" sIsF f fd) (HF : Has P w K mg base (k + 3) "face_fault" ["thing"] (spGood K .non) fF fdF) :
    FnOk P w K mg base CX0 (k + 4) f fd ["thing"] (spGood K (.bl true)) := by
  refine F.ok scIsF (fun vs H Q E h => ?_) (fun cdv A outer s H vs Q E hr h => ?_)
  · obtain ⟨x, f, rfl, _⟩ := h
    rfl
  · obtain ⟨x, f, rfl, hx, go, q⟩ := h
    refine ⟨_, pss_one (ps_ret (pe_cmpR op_isN (hcall HF hr (pa_cons (pv 0) pa_nil)) pe_non (nomark _))), ?_⟩
    exact ⟨_, rfl, x, f, rfl, hx, go, fun H1 g1 => ⟨rfl, q H1 g1⟩⟩
/-- a new list of texts is told -/
def spTold (K : PySem.W.Frag) (l : Fc → List Str) : Sp := fun vs H Q _ => ∃ (x : V) (f : Fc), vs = [x] ∧ Dp K H x f.d ∧ goF f ∧ ∀ H' p, Gr H H' → H p = none → H' p = some (.lst ((l f).map V.str)) → Q (.ref p) H'
theorem ok_hidOf {f fF : Addr} {fd fdF : FuncData} {k : Nat} (F : Fun K "hidden_of" "hidden_of" sHidOf f fd) (HF : Has P w K mg base (k + 4) "need_face" ["face"] (spGood K .non) fF fdF) (ml : mg "list" = none) :
    FnOk P w K mg base CX0 (k + 5) f fd ["face"] (spTold K Fc.hd) := by
  refine F.ok scHidOf (fun vs H Q E h => ?_) (fun cdv A outer s H vs Q E hr h => ?_)
  · obtain ⟨x, f, rfl, _⟩ := h
    rfl
  · obtain ⟨x, f, rfl, hx, go, q⟩ := h
    refine ⟨_, pss_cons (ps_expr (hcall HF hr (pa_cons (pv 0) pa_nil))) (pss_one (ps_ret (pe_callTy call_list_of (by rfl) ml (by decide +kernel) (pa_cons (pe_ix ix_tup (pv 0) pe_int (fun _ _ => rfl)) pa_nil)))), ?_⟩
    refine ⟨_, rfl, x, f, rfl, hx, go, fun H1 g1 => ?_⟩
    obtain ⟨p, ph, pd, xs, rfl, hp, hph, hpd, dd⟩ := dp_face hx
    refine ⟨_, rfl, p, _, 0, _, rfl, rfl, g1.sqt hp, rfl, ph, _, rfl, .inr (g1.sqt hph), fun l nl => ?_⟩
    exact q _ l (g1.trans (Gr.new nl)) (g1.back l nl) upd_same
theorem ok_namOf {f fF : Addr} {fd fdF : FuncData} {k : Nat} (F : Fun K "names_of" "names_of" sNamOf f fd) (HF : Has P w K mg base (k + 4) "need_face" ["face"] (spGood K .non) fF fdF) :
    FnOk P w K mg base CX0 (k + 5) f fd ["face"] (spTold K fun f => f.ds.map De.nm) := by
  refine F.ok scNamOf (fun vs H Q E h => ?_) (fun cdv A outer s H vs Q E hr h => ?_)
  · obtain ⟨x, f, rfl, _⟩ := h
    rfl
  · obtain ⟨x, f, rfl, hx, go, q⟩ := h
    have nd := scNamOf.nd
    refine ⟨_, pss_cons (ps_expr (hcall HF hr (pa_cons (pv 0) pa_nil))) (pss_one (ps_ret (pe_lc (own := [("deed", 1)]) (g := gName 1) rfl nd (pi_tup (pe_ix ix_tup (pv 0) pe_int (fun _ _ => rfl)))
      (blkOk_by (own := [("deed", 1)]) (N := nNamOf) (sc := defScope sNamOf) (by decide +kernel)) (fun _ _ _ _ _ => pg_name (i := 1) nd rfl (Or.inl rfl)) (fun _ _ _ _ _ => pts_nil)
      (fun _ _ _ _ _ => pe_ix (r := rIxT K) ix_tup (pv 1) pe_int (fun _ _ => rfl))))), ?_⟩
    refine ⟨_, rfl, x, f, rfl, hx, go, fun H1 g1 => ?_⟩
    obtain ⟨p, ph, pd, xs, rfl, hp, hph, hpd, dd⟩ := dp_face (g1.kd.dp hx)
    have hl : xs.length = f.ds.length := by
      have := dpA_len dd
      rw [List.length_map] at this
      exact this
    refine ⟨_, rfl, p, _, 1, _, rfl, rfl, hp, rfl, pd, rfl, ⟨_, hpd⟩, fun D nD => ?_⟩
    have gD : ∀ o, Gr H1 (upd H1 D o) := fun o => Gr.new nD
    refine lc_it (walk_tup (xs := xs)) (fun i H2 => H2 = upd H1 D (.lst (((f.ds.take i).map De.nm).map V.str))) rfl ?c0 ?c1 ?c2
    case c0 =>
      rintro i H2 hi rfl
      exact (gD _).sqt hpd
    case c1 =>
      rintro i y H2 H2' hi rfl ⟨rfl, hy⟩
      refine ⟨rfl, ?_⟩
      unfold tYes
      refine iteT ?_
      obtain ⟨e, he, de⟩ := dpA_de dd hy
      obtain ⟨pe, n1, t1, v1, rfl, hpe, dn, dt, dv⟩ := dp_3 ((gD _).kd.dp de)
      cases dp_str dn
      refine ⟨_, rfl, pe, _, 0, _, rfl, rfl, hpe, rfl, _, upd_same, ?_, ?_⟩
      · rw [List.length_map, List.length_map, List.length_take, sizeLine_eq]
        have := go.hi
        omega
      · rw [upd_upd, List.take_add_one, he, List.map_append, List.map_append]
        rfl
    case c2 =>
      rintro H2 rfl
      rw [hl, List.take_length]
      exact q _ D (g1.trans (gD _)) (g1.back D nD) upd_same
/-- the deed so called, or none -/
def spFind (K : PySem.W.Frag) : Sp := fun vs H Q _ => ∃ (x y : V) (f : Fc) (T : String), vs = [x, y] ∧ Dp K H x f.d ∧ Is K H y T ∧
  ((∃ (z : Str) (e : De) (i : Nat), y = .str z ∧ f.ds[i]? = some e ∧ e.nm = z ∧ (f.ds.map De.nm).Pairwise lt ∧ ∀ H', Gr H H' → Q (.int (i : Nat)) H') ∨
    ((∀ z, y = .str z → z ∉ f.ds.map De.nm) ∧ ∀ H', Gr H H' → Q .non H'))
theorem lt_irrefl (a : Str) : ¬ lt a a := List.lt_irrefl _
theorem ok_find {f : Addr} {fd : FuncData} {k : Nat} (F : Fun K "find_deed" "find_deed" sFind f fd) (mi : mg "isinstance" = none) (m1 : mg "str" = none) (me : mg "enumerate" = none) :
    FnOk P w K mg base CX0 (k + 1) f fd ["face", "name"] (spFind K) := by
  refine F.ok scFind (fun vs H Q E h => ?_) (fun cdv A outer s H vs Q E hr h => ?_)
  · obtain ⟨x, y, f, T, rfl, _⟩ := h
    rfl
  · obtain ⟨x, y, f, T, rfl, hx, hy, q⟩ := h
    have nd := scFind.nd
    refine ⟨_, pss_cons (ps_if (pt_val (pe_isi "str" 1 mi m1 (by decide +kernel))) (pss_one (ps_for PassesOwn.never rfl (pi_enumT (by rfl) me (pa_cons (pe_ix ix_tup (pv 0) pe_int (fun _ _ => rfl)) pa_nil))
        (pg_tup rfl (pgs_cons (pg_name (i := 2) nd rfl (.inl rfl)) (pgs_cons (pg_name (i := 3) nd rfl (.inl rfl)) pgs_nil)))
        (pss_one (ps_if (pt_cmpR op_eq (pe_ix ix_tup (pv 3) pe_int (fun _ _ => rfl)) (pv 1) (nomark _)) (pss_one (ps_ret (pv 2))) pss_nil)))) pss_nil) (pss_one (ps_ret pe_non)), ?_⟩
    refine ⟨_, rfl, T, _, hy.1, kit_str T hy.2, _, rfl, ?_⟩
    by_cases e : T = "str"
    · obtain ⟨z, rfl⟩ := hy.text e
      subst e
      obtain ⟨p, ph, pd, xs, rfl, hp, hph, hpd, dd⟩ := dp_face hx
      have hl : xs.length = f.ds.length := by
        have := dpA_len dd
        rw [List.length_map] at this
        exact this
      refine iteT ⟨_, rfl, p, _, 1, _, rfl, rfl, hp, rfl, pd, _, rfl, hpd, for_it (walk_enumT (xs := xs)) (fun i σ H1 => ∃ y2 y3 : Option V, σ = [some (.ref p), some (.str z), y2, y3] ∧ Gr H H1 ∧ ∀ j e, j < i → f.ds[j]? = some e → e.nm ≠ z) ⟨none, none, rfl, Gr.refl H, fun j e h => absurd h (Nat.not_lt_zero j)⟩ ?h1 ?h2 ?h3⟩
      case h1 =>
        rintro i σ H1 hi ⟨y2, y3, rfl, g, _⟩
        exact g.sqt hpd
      case h2 =>
        rintro i v σ H1 H2 hi ⟨y2, y3, rfl, g, no⟩ ⟨T, a, b, rfl, nT, rfl, ha, hb⟩
        cases ha
        obtain ⟨e, he, de⟩ := dpA_de dd hb
        have g2 : Gr H (upd H1 T (.tup [.int (i : Nat), b])) := g.trans (Gr.new nT)
        have hT : upd H1 T (.tup [.int (i : Nat), b]) T = some (.tup [.int (i : Nat), b]) := upd_same
        generalize upd H1 T (.tup [.int (i : Nat), b]) = H2 at g2 hT ⊢
        obtain ⟨pe, n1, t1, v1, rfl, hpe, dn, dt, dv⟩ := dp_3 (g2.kd.dp de)
        cases dp_str dn
        refine ⟨T, _, rfl, .inl (.inl hT), rfl, .int (i : Nat), [.ref pe], rfl, .ref pe, [], rfl, rfl, ?_⟩
        refine ⟨_, rfl, pe, _, 0, _, rfl, rfl, hpe, rfl, _, rfl, rfl, _, rfl, ?_⟩
        by_cases ez : e.nm = z
        · rw [decide_eq_true (congrArg V.str ez)]
          refine iteT ⟨_, rfl, ?_⟩
          rcases q with ⟨z', e', i', hz', he', en', up, q⟩ | ⟨q, _⟩
          · cases hz'
            have same : i' = i := by
              have c1 : (f.ds.map De.nm)[i]? = some z := by rw [List.getElem?_map, he]; exact congrArg some ez
              have c2 : (f.ds.map De.nm)[i']? = some z := by rw [List.getElem?_map, he']; exact congrArg some en'
              obtain ⟨l1, q1⟩ := List.getElem?_eq_some_iff.mp c1
              obtain ⟨l2, q2⟩ := List.getElem?_eq_some_iff.mp c2
              have pw := List.pairwise_iff_getElem.mp up
              rcases Nat.lt_trichotomy i i' with h | h | h
              · have := pw i i' l1 l2 h
                rw [q1, q2] at this
                exact absurd this (lt_irrefl z)
              · exact h.symm
              · have := pw i' i l2 l1 h
                rw [q1, q2] at this
                exact absurd this (lt_irrefl z)
            rw [← same]
            exact q _ g2
          · exact absurd (List.mem_map.mpr ⟨e, List.mem_of_getElem? he, ez⟩) (q z rfl)
        · rw [decide_eq_false (fun h => ez (V.str.inj h))]
          refine iteF ⟨_, _, rfl, g2, fun j e' hj he' => ?_⟩
          rcases Nat.lt_or_eq_of_le (Nat.le_of_lt_succ hj) with h | h
          · exact no j e' h he'
          · rw [h, he] at he'
            cases he'
            exact ez
      case h3 =>
        rintro σ H1 ⟨y2, y3, rfl, g, no⟩
        rcases q with ⟨z', e', i', hz', he', en', up, q⟩ | ⟨_, q⟩
        · cases hz'
          have hi' : i' < xs.length := by
            rw [hl]
            rcases Nat.lt_or_ge i' f.ds.length with h1 | h1
            · exact h1
            · rw [List.getElem?_eq_none h1] at he'
              cases he'
          exact absurd en' (no i' e' hi' he')
        · exact q H1 g
    · have e1 : (T == "str") = false := by simpa using e
      rw [e1]
      refine iteF ?_
      rcases q with ⟨z', e', i', hz', _⟩ | ⟨_, q⟩
      · exact absurd hz' (hy.ntext e z')
      · exact q H (Gr.refl H)
end
end SfC
namespace SfC
open PySem PySem.Spec PyProof.Rows L2 SfG
theorem scDeedN : FnScope ["face", "name", "number"] ["face", "name"] (defScope sDeedN) := ⟨rfl, rfl, rfl, by decide +kernel, rfl, by decide +kernel, by decide +kernel⟩
theorem scTakes : FnScope ["face", "name"] ["face", "name"] (defScope sTakes) := ⟨rfl, rfl, rfl, by decide +kernel, rfl, by decide +kernel, by decide +kernel⟩
theorem scGives : FnScope ["face", "name"] ["face", "name"] (defScope sGives) := ⟨rfl, rfl, rfl, by decide +kernel, rfl, by decide +kernel, by decide +kernel⟩
/-- what the written part says of the class that refuses what is out of place -/
structure Oop (K : PySem.W.Frag) (mg : Str → Option Value) (C : Addr) : Prop where
  g : mg "OutOfPlace" = some (.ref C)
  x : PySem.W.excIn K C [.type "ValueError", .type "Exception", .type "BaseException", .type "object"] "ValueError.__new__" = true
  k : PySem.W.keepIn K (.ref C) = true
  b : PySem.W.subIn K (.ref C) (.type "BaseException") = some true
  t : PySem.W.typeIn K (.ref C) = some (.type "type")
section
variable {P : Program} {w : World} {K : PySem.W.Frag} {mg : Str → Option Value} {base : Heap}
/-! ### deed_number, takes_of, gives_of -/
def spDeedN (K : PySem.W.Frag) (C : Addr) : Sp := fun vs H Q E => ∃ (x y : V) (f : Fc) (T : String), vs = [x, y] ∧ Dp K H x f.d ∧ Is K H y T ∧
  ((∃ (z : Str) (e : De) (i : Nat), y = .str z ∧ f.ds[i]? = some e ∧ e.nm = z ∧ (f.ds.map De.nm).Pairwise lt ∧ ∀ H', Gr H H' → Q (.int (i : Nat)) H') ∨
    ((∀ z, y = .str z → z ∉ f.ds.map De.nm) ∧ ∀ H', Gr H H' → E (.ref C) none H'))
theorem ok_deedN {f fF C : Addr} {fd fdF : FuncData} {k : Nat} (F : Fun K "deed_number" "deed_number" sDeedN f fd) (HF : Has P w K mg base (k + 1) "find_deed" ["face", "name"] (spFind K) fF fdF) (O : Oop K mg C) :
    FnOk P w K mg base (L2.CX P w) (k + 2) f fd ["face", "name"] (spDeedN K C) := by
  refine F.okX scDeedN (fun vs H Q E h => ?_) (fun cdv A outer s H vs Q E hr h => ?_)
  · obtain ⟨x, y, f, T, rfl, _⟩ := h
    rfl
  · obtain ⟨x, y, f, T, rfl, hx, hy, q⟩ := h
    have nd := scDeedN.nd
    refine ⟨_, pss_cons (ps_set (i := 2) nd rfl (.inl rfl) (hcall HF hr (pa_cons (pv 0) (pa_cons (pv 1) pa_nil))))
      (pss_cons (ps_if (pt_cmpR op_isN (pv 2) pe_non (nomark _)) (pss_one (ps_raise rfl (takes_of (E := E) rfl rfl rfl rfl) (pmk_own PySem.F.excBase_ValueError O.x O.g O.k (raises_own O.b O.t) rfl))) pss_nil)
      (pss_one (ps_ret (pv 2)))), ?_⟩
    refine ⟨_, rfl, _, rfl, x, y, f, T, rfl, hx, hy, ?_⟩
    rcases q with ⟨z, e, i, h1, h2, h3, h4, q⟩ | ⟨h1, q⟩
    · exact .inl ⟨z, e, i, h1, h2, h3, h4, fun H' g => ⟨_, rfl, rfl, _, rfl, iteF ⟨_, rfl, q H' g⟩⟩⟩
    · exact .inr ⟨h1, fun H' g => ⟨_, rfl, rfl, _, rfl, iteT (q H' g)⟩⟩
def spTG (K : PySem.W.Frag) (C : Addr) (pick : De → PyData) : Sp := fun vs H Q E => ∃ (x y : V) (f : Fc) (T : String), vs = [x, y] ∧ Dp K H x f.d ∧ goF f ∧ Is K H y T ∧
  ((∃ (z : Str) (e : De) (i : Nat), y = .str z ∧ f.ds[i]? = some e ∧ e.nm = z ∧ ∀ H' v, Gr H H' → Dp K H' v (pick e) → Q v H') ∨
    ((∀ z, y = .str z → z ∉ f.ds.map De.nm) ∧ ∀ H', Gr H H' → E (.ref C) none H'))
theorem tyx_gr {H H' : Hp} {y : V} {t : Value} (g : Gr H H') (h : TyX K H y t) : TyX K H' y t := by
  cases h with
  | base b =>
    cases b with
    | non => exact .base .non
    | bl x => exact .base (.bl x)
    | int x => exact .base (.int x)
    | str x => exact .base (.str x)
    | flt x => exact .base (.flt x)
    | lst e => exact .base (.lst (g.keep _ _ e (fun _ z => by cases z)))
    | frz e => exact .base (.frz (g.keep _ _ e (fun _ z => by cases z)))
    | tup e => exact .base (.tup (g.keep _ _ e (fun _ z => by cases z)))
    | dK e => exact .base (.dK (g.keep _ _ e (fun _ z => by cases z)))
    | dT e => exact .base (.dT (g.keep _ _ e (fun _ z => by cases z)))
    | ins e c1 c2 c3 c4 c5 => exact .base (.ins (g.keep _ _ e (fun _ z => by cases z)) c1 c2 c3 c4 c5)
  | byt x => exact .byt x
  | set e => exact .set (g.keep _ _ e (fun _ z => by cases z))
  | kList e c => exact .kList e c
  | kTuple e c => exact .kTuple e c
  | kDict e c => exact .kDict e c
  | fTuple e => exact .fTuple (g.keep _ _ e (fun _ z => by cases z))
  | fDict e => exact .fDict (g.keep _ _ e (fun _ z => by cases z))
theorem is_gr {H H' : Hp} {y : V} {T : String} (g : Gr H H') (h : Is K H y T) : Is K H' y T := ⟨tyx_gr g h.1, h.2⟩
theorem ok_takes {f fF fD C : Addr} {fd fdF fdD : FuncData} {k : Nat} (F : Fun K "takes_of" "takes_of" sTakes f fd) (HF : Has P w K mg base (k + 4) "need_face" ["face"] (spGood K .non) fF fdF)
    (G : FnOk P w K mg base (L2.CX P w) (k + 4) fD fdD ["face", "name"] (spDeedN K C)) (gD : mg "deed_number" = some (.ref fD)) (kD : PySem.W.keepIn K (.ref fD) = true) (bD : Binds K fdD ["face", "name"] []) :
    FnOk P w K mg base (L2.CX P w) (k + 5) f fd ["face", "name"] (spTG K C fun e => .tuple (e.tk.map Kn.d)) := by
  refine F.okX scTakes (fun vs H Q E h => ?_) (fun cdv A outer s H vs Q E hr h => ?_)
  · obtain ⟨x, y, f, T, rfl, _⟩ := h
    rfl
  · obtain ⟨x, y, f, T, rfl, hx, go, hy, q⟩ := h
    refine ⟨_, pss_cons (ps_expr (hcall HF hr (pa_cons (pv 0) pa_nil))) (pss_one (ps_ret (pe_ix ix_tup (pe_ix ix_tup (pe_ix ix_tup (pv 0) pe_int (fun _ _ => rfl))
      (pe_call G hr (by rfl) gD kD bD .nil (passes_call (takes_of (E := E) rfl rfl rfl rfl) (fun _ _ _ _ h => h)) (pa_cons (pv 0) (pa_cons (pv 1) pa_nil))) (fun _ _ => rfl)) pe_int (fun _ _ => rfl)))), ?_⟩
    refine ⟨_, rfl, x, f, rfl, hx, go, fun H1 g1 => ?_⟩
    have hx1 := g1.kd.dp hx
    obtain ⟨p, ph, pd, xs, rfl, hp, hph, hpd, dd⟩ := dp_face hx1
    refine ⟨_, rfl, p, _, 1, _, rfl, rfl, hp, rfl, _, rfl, _, rfl, .ref p, y, f, T, rfl, hx1, is_gr g1 hy, ?_⟩
    rcases q with ⟨z, e, i, h1, h2, h3, q⟩ | ⟨h1, q⟩
    · refine .inl ⟨z, e, i, h1, h2, h3, go.up, fun H2 g2 => ?_⟩
      obtain ⟨v, hv, dv⟩ := dpA_get (i := i) (d := e.d) (g2.kd.dpA dd) (by rw [List.getElem?_map, h2]; rfl)
      obtain ⟨pe, n1, t1, v1, rfl, hpe, dn, dt, dv⟩ := dp_3 dv
      exact ⟨pd, _, i, _, rfl, rfl, g2.sqt hpd, atI_nat hv, pe, _, 1, _, rfl, rfl, hpe, rfl, q H2 t1 (g1.trans g2) dt⟩
    · exact .inr ⟨h1, fun H2 g2 => q H2 (g1.trans g2)⟩
theorem ok_gives {f fF fD C : Addr} {fd fdF fdD : FuncData} {k : Nat} (F : Fun K "gives_of" "gives_of" sGives f fd) (HF : Has P w K mg base (k + 4) "need_face" ["face"] (spGood K .non) fF fdF)
    (G : FnOk P w K mg base (L2.CX P w) (k + 4) fD fdD ["face", "name"] (spDeedN K C)) (gD : mg "deed_number" = some (.ref fD)) (kD : PySem.W.keepIn K (.ref fD) = true) (bD : Binds K fdD ["face", "name"] []) :
    FnOk P w K mg base (L2.CX P w) (k + 5) f fd ["face", "name"] (spTG K C fun e => e.gv.d) := by
  refine F.okX scGives (fun vs H Q E h => ?_) (fun cdv A outer s H vs Q E hr h => ?_)
  · obtain ⟨x, y, f, T, rfl, _⟩ := h
    rfl
  · obtain ⟨x, y, f, T, rfl, hx, go, hy, q⟩ := h
    refine ⟨_, pss_cons (ps_expr (hcall HF hr (pa_cons (pv 0) pa_nil))) (pss_one (ps_ret (pe_ix ix_tup (pe_ix ix_tup (pe_ix ix_tup (pv 0) pe_int (fun _ _ => rfl))
      (pe_call G hr (by rfl) gD kD bD .nil (passes_call (takes_of (E := E) rfl rfl rfl rfl) (fun _ _ _ _ h => h)) (pa_cons (pv 0) (pa_cons (pv 1) pa_nil))) (fun _ _ => rfl)) pe_int (fun _ _ => rfl)))), ?_⟩
    refine ⟨_, rfl, x, f, rfl, hx, go, fun H1 g1 => ?_⟩
    have hx1 := g1.kd.dp hx
    obtain ⟨p, ph, pd, xs, rfl, hp, hph, hpd, dd⟩ := dp_face hx1
    refine ⟨_, rfl, p, _, 1, _, rfl, rfl, hp, rfl, _, rfl, _, rfl, .ref p, y, f, T, rfl, hx1, is_gr g1 hy, ?_⟩
    rcases q with ⟨z, e, i, h1, h2, h3, q⟩ | ⟨h1, q⟩
    · refine .inl ⟨z, e, i, h1, h2, h3, go.up, fun H2 g2 => ?_⟩
      obtain ⟨v, hv, dv⟩ := dpA_get (i := i) (d := e.d) (g2.kd.dpA dd) (by rw [List.getElem?_map, h2]; rfl)
      obtain ⟨pe, n1, t1, v1, rfl, hpe, dn, dt, dv⟩ := dp_3 dv
      exact ⟨pd, _, i, _, rfl, rfl, g2.sqt hpd, atI_nat hv, pe, _, 2, _, rfl, rfl, hpe, rfl, q H2 v1 (g1.trans g2) dv⟩
    · exact .inr ⟨h1, fun H2 g2 => q H2 (g1.trans g2)⟩
end
end SfC
namespace SfC
open PySem PySem.Spec PyProof.Rows L2 SfG
theorem dpA_app {K : PySem.W.Frag} {H : Hp} : ∀ {xs ys : List V} {ds es : List PyData}, DpAll K H xs ds → DpAll K H ys es → DpAll K H (xs ++ ys) (ds ++ es)
  | [], _, _, _, h, h2 => by cases h; exact h2
  | _ :: _, _, _, _, h, h2 => by
    cases h with
    | cons a b => exact .cons a (dpA_app b h2)
theorem sqt_lst {K : PySem.W.Frag} {H : Hp} {l a : Addr} {xs ys zs : List V} (hl : H l = some (.lst xs)) (h : SqT K H a ys) : SqT K (upd H l (.lst zs)) a ys := by
  rcases h with (h | ⟨o, h⟩) | h
  · refine .inl (.inl ?_)
    rw [upd_ne (by intro z; rw [z, hl] at h; cases h)]
    exact h
  · refine .inl (.inr ⟨o, ?_⟩)
    rw [upd_ne (by intro z; rw [z, hl] at h; cases h)]
    exact h
  · exact .inr h
end SfC
namespace SfC
open PySem PySem.Spec PyProof.Rows L2 SfG
/-! ### _law_kinds of an error that has no dict of its own -/
abbrev nKinds : List Str := ["_law_error", "_law_kinds_here", "_law_name", "_law_fits"]
theorem scKinds : FnScope nKinds ["_law_error"] (defScope sKinds) := ⟨rfl, rfl, rfl, by decide +kernel, rfl, by decide +kernel, by decide +kernel⟩
/-- a pair of a word and whether the error is of the class c -/
theorem pair_isK {K : PySem.W.Frag} {D a : Addr} {c : V} {cv : Value} {b : Bool} {z : Str} {σ : L2.St} {H : Hp} {Q : VK} (h0 : σ[0]? = some (some (.ref a))) (hH : H a = some (EkO (.ref D) none a))
    (hc : ∀ u, RelV c u → u = cv) (hk : PySem.W.kitOne K (.ref D) cv = some b) (q : ∀ H' t, Gr H H' → H' t = some (.tup [.str z, .bl b]) → Q (.ref t) H') :
    tTup (tCons (tC (.str z)) (tCons (tCB (rIsK K D) (tCons (tVar 0) (tCons (tC c) tNil))) tNil)) σ H Q := by
  refine ⟨_, h0, a, c, cv, b, rfl, hH, hc, hk, by show 2 ≤ sizeLine; decide, fun t nt => q _ t (Gr.new nt) upd_same⟩
/-- the words so far, in pairs -/
def KdL (K : PySem.W.Frag) (H : Hp) (l : Addr) (ks : List (Str × Bool)) : Prop := ∃ xs, H l = some (.lst xs) ∧ DpAll K H xs (ks.map fun k => .tuple [.str k.1, .bool k.2])
theorem dp_pair {K : PySem.W.Frag} {H : Hp} {t : Addr} {z : Str} {b : Bool} (h : H t = some (.tup [.str z, .bl b])) : Dp K H (.ref t) (.tuple [.str z, .bool b]) := .tup (.inl (.inl h)) (.cons (.str z) (.cons (.bl b) .nil))
/-- two more of them -/
theorem two_isK {K : PySem.W.Frag} {D a l : Addr} {c c' : V} {cv cv' : Value} {b b' : Bool} {z z' : Str} {ks : List (Str × Bool)} {σ : L2.St} {H : Hp} {Q : VK} (h0 : σ[0]? = some (some (.ref a))) (h1 : σ[1]? = some (some (.ref l)))
    (hH : H a = some (EkO (.ref D) none a)) (hl : KdL K H l ks) (hn : ks.length ≤ 100) (hc : ∀ u, RelV c u → u = cv) (hk : PySem.W.kitOne K (.ref D) cv = some b) (hc' : ∀ u, RelV c' u → u = cv') (hk' : PySem.W.kitOne K (.ref D) cv' = some b')
    (q : ∀ H' p, Gr H H' → H p = none → KdL K H' p (ks ++ [(z, b), (z', b')]) → Q (.ref p) H') :
    tOp rCat (tVar 1) (tLst (tCons (tTup (tCons (tC (.str z)) (tCons (tCB (rIsK K D) (tCons (tVar 0) (tCons (tC c) tNil))) tNil)))
      (tCons (tTup (tCons (tC (.str z')) (tCons (tCB (rIsK K D) (tCons (tVar 0) (tCons (tC c') tNil))) tNil))) tNil))) σ H Q := by
  refine ⟨_, h1, _, h0, a, c, cv, b, rfl, hH, hc, hk, (by show 2 ≤ sizeLine; decide), fun t1 nt1 => ?_⟩
  have g1 : Gr H (upd H t1 (.tup [.str z, .bl b])) := Gr.new nt1
  have e1 : upd H t1 (.tup [.str z, .bl b]) t1 = some (.tup [.str z, .bl b]) := upd_same
  generalize upd H t1 (.tup [.str z, .bl b]) = H1 at g1 e1 ⊢
  refine ⟨_, h0, a, c', cv', b', rfl, g1.keep _ _ hH (fun _ z => by cases z), hc', hk', (by show 2 ≤ sizeLine; decide), fun t2 nt2 => ?_⟩
  have g2 : Gr H1 (upd H1 t2 (.tup [.str z', .bl b'])) := Gr.new nt2
  have e2 : upd H1 t2 (.tup [.str z', .bl b']) t2 = some (.tup [.str z', .bl b']) := upd_same
  generalize upd H1 t2 (.tup [.str z', .bl b']) = H2 at g2 e2 ⊢
  obtain ⟨xs, hx, dx⟩ := hl
  refine ⟨by show 2 ≤ sizeLine; decide, fun m nm => ?_⟩
  have g3 : Gr H2 (upd H2 m (.lst [.ref t1, .ref t2])) := Gr.new nm
  have gx := (g1.trans g2).trans g3
  have hlen : xs.length = ks.length := by
    have := dpA_len dx
    rw [List.length_map] at this
    exact this
  refine ⟨l, m, xs, _, rfl, rfl, gx.lst hx, upd_same, ?_, fun p np => ?_⟩
  · rw [sizeLine_eq]
    show xs.length + 2 ≤ _
    omega
  · have g4 : Gr (upd H2 m (.lst [.ref t1, .ref t2])) (upd (upd H2 m (.lst [.ref t1, .ref t2])) p (.lst (xs ++ [.ref t1, .ref t2]))) := Gr.new np
    refine q _ p (gx.trans g4) (gx.back p np) ⟨_, upd_same, ?_⟩
    rw [List.map_append]
    refine dpA_app ((gx.trans g4).kd.dpA dx) (.cons (dp_pair (g4.tup (g3.tup (g2.tup e1)))) (.cons (dp_pair (g4.tup (g3.tup e2))) .nil))
theorem pairs_lst {K : PySem.W.Frag} {H : Hp} {l : Addr} {xs zs : List V} (hl : H l = some (.lst xs)) : ∀ {ks : List (Str × Bool)} {ys : List V}, DpAll K H ys (ks.map fun k => .tuple [.str k.1, .bool k.2]) →
    DpAll K (upd H l (.lst zs)) ys (ks.map fun k => .tuple [.str k.1, .bool k.2])
  | [], _, h => by
    cases h
    exact .nil
  | k :: r, _, h => by
    obtain ⟨x, t, rfl, hx, ht⟩ := dpA_cons h
    obtain ⟨p, a, b, rfl, hp, ha, hb⟩ := dp_2 hx
    cases dp_str ha
    cases hb
    exact .cons (.tup (sqt_lst hl hp) (.cons (.str _) (.cons (.bl _) .nil))) (pairs_lst hl ht)
theorem pair_at {K : PySem.W.Frag} {H : Hp} : ∀ {ks : List (Str × Bool)} {xs : List V} {i : Nat} {x : V}, DpAll K H xs (ks.map fun k => .tuple [.str k.1, .bool k.2]) → xs[i]? = some x →
    ∃ z b p, ks[i]? = some (z, b) ∧ x = .ref p ∧ SqT K H p [.str z, .bl b]
  | [], _, i, x, h, hx => by
    cases h
    simp at hx
  | k :: r, _, 0, x, h, hx => by
    obtain ⟨y, t, rfl, hy, ht⟩ := dpA_cons h
    obtain ⟨p, a, b, rfl, hp, ha, hb⟩ := dp_2 hy
    cases dp_str ha
    cases hb
    exact ⟨k.1, k.2, p, rfl, (Option.some.inj hx).symm, hp⟩
  | k :: r, _, i + 1, x, h, hx => by
    obtain ⟨y, t, rfl, hy, ht⟩ := dpA_cons h
    exact pair_at (i := i) ht (by simpa using hx)
/-- where a class stands, and whether the error is of it -/
def Kx (K : PySem.W.Frag) (mg : Str → Option Value) (D : Addr) (x : Str) (b : Bool) : Prop := ∃ c, mg x = some (.ref c) ∧ PySem.W.kitOne K (.ref D) (.ref c) = some b
structure Kxs (K : PySem.W.Frag) (mg : Str → Option Value) (D : Addr) (bs : List Bool) : Prop where
  e : ExcC K D
  n : bs.length = 16
  row : Kx K mg D "BadRow" (bs.getD 0 false)
  face : Kx K mg D "BadFace" (bs.getD 1 false)
  making : Kx K mg D "BadMaking" (bs.getD 2 false)
  user : Kx K mg D "BadUser" (bs.getD 3 false)
  steps : Kx K mg D "BadSteps" (bs.getD 4 false)
  lead : Kx K mg D "BadLead" (bs.getD 5 false)
  apart : Kx K mg D "ToldApart" (bs.getD 6 false)
  place : Kx K mg D "OutOfPlace" (bs.getD 7 false)
  great : Kx K mg D "TooGreat" (bs.getD 8 false)
  paper : Kx K mg D "BadPaper" (bs.getD 9 false)
  program : Kx K mg D "BadProgram" (bs.getD 10 false)
  module : Kx K mg D "BadModule" (bs.getD 11 false)
  refused : Kx K mg D "Refused" (bs.getD 12 false)
  use : Kx K mg D "BadUse" (bs.getD 13 false)
  input : Kx K mg D "BadInput" (bs.getD 14 false)
  ve : PySem.W.kitOne K (.ref D) (.type "ValueError") = some true
  fe : Kx K mg D "FaceError" true
  other : bs.getD 15 false = false
def kdW : List Str := ["row", "face", "making", "user", "steps", "lead", "apart", "place", "great", "paper", "program", "module", "refused", "use", "input", "other"]
def kdT (ks : List (Str × Bool)) : List V := (ks.filter (·.2)).map fun k => V.str k.1
theorem kdT_take {ks : List (Str × Bool)} {i : Nat} {z : Str} {b : Bool} (h : ks[i]? = some (z, b)) : kdT (ks.take (i + 1)) = kdT (ks.take i) ++ (if b = true then [V.str z] else []) := by
  unfold kdT
  rw [List.take_add_one, h, List.filter_append, List.map_append]
  cases b <;> rfl
theorem kdT_len (ks : List (Str × Bool)) : (kdT ks).length ≤ ks.length := by
  unfold kdT
  rw [List.length_map]
  exact List.length_filter_le _ _
section
variable {P : Program} {w : World} {K : PySem.W.Frag} {mg : Str → Option Value} {base : Heap}
def spKinds (D : Addr) (bs : List Bool) : Sp := fun vs H Q _ => ∃ a, vs = [.ref a] ∧ H a = some (EkO (.ref D) none a) ∧ ∀ H' p, Gr H H' → H' p = some (.lst (kdT (kdW.zip bs))) → Q (.ref p) H'
set_option maxHeartbeats 2000000 in
theorem ok_kinds {f D : Addr} {fd : FuncData} {k : Nat} {bs : List Bool} (F : Fun K "_law_kinds" "_law_kinds" sKinds f fd) (X : Kxs K mg D bs) (mi : mg "isinstance" = none) (mv : mg "ValueError" = none) :
    FnOk P w K mg base CX0 (k + 1) f fd ["_law_error"] (spKinds D bs) := by
  obtain ⟨c1, g1, k1⟩ := X.row
  obtain ⟨c2, g2, k2⟩ := X.face
  obtain ⟨c3, g3, k3⟩ := X.making
  obtain ⟨c4, g4, k4⟩ := X.user
  obtain ⟨c5, g5, k5⟩ := X.steps
  obtain ⟨c6, g6, k6⟩ := X.lead
  obtain ⟨c7, g7, k7⟩ := X.apart
  obtain ⟨c8, g8, k8⟩ := X.place
  obtain ⟨c9, g9, k9⟩ := X.great
  obtain ⟨c10, g10, k10⟩ := X.paper
  obtain ⟨c11, g11, k11⟩ := X.program
  obtain ⟨c12, g12, k12⟩ := X.module
  obtain ⟨c13, g13, k13⟩ := X.refused
  obtain ⟨c14, g14, k14⟩ := X.use
  obtain ⟨c15, g15, k15⟩ := X.input
  obtain ⟨c16, g16, k16⟩ := X.fe
  have eb : bs = [bs.getD 0 false, bs.getD 1 false, bs.getD 2 false, bs.getD 3 false, bs.getD 4 false, bs.getD 5 false, bs.getD 6 false, bs.getD 7 false, bs.getD 8 false, bs.getD 9 false, bs.getD 10 false, bs.getD 11 false, bs.getD 12 false, bs.getD 13 false, bs.getD 14 false, false] := by
    have h := X.n
    have h2 := X.other
    match bs, h, h2 with
    | [_, _, _, _, _, _, _, _, _, _, _, _, _, _, _, false], _, _ => rfl
    | [_, _, _, _, _, _, _, _, _, _, _, _, _, _, _, true], _, h2 => cases h2
  generalize bs.getD 0 false = b1 at *
  generalize bs.getD 1 false = b2 at *
  generalize bs.getD 2 false = b3 at *
  generalize bs.getD 3 false = b4 at *
  generalize bs.getD 4 false = b5 at *
  generalize bs.getD 5 false = b6 at *
  generalize bs.getD 6 false = b7 at *
  generalize bs.getD 7 false = b8 at *
  generalize bs.getD 8 false = b9 at *
  generalize bs.getD 9 false = b10 at *
  generalize bs.getD 10 false = b11 at *
  generalize bs.getD 11 false = b12 at *
  generalize bs.getD 12 false = b13 at *
  generalize bs.getD 13 false = b14 at *
  generalize bs.getD 14 false = b15 at *
  have EC := X.e
  have kve := X.ve
  clear X
  subst eb
  refine F.ok scKinds (fun vs H Q E h => ?_) (fun cdv A outer s H vs Q E hr h => ?_)
  · obtain ⟨a, rfl, _⟩ := h
    rfl
  · obtain ⟨a, rfl, hH, q⟩ := h
    have nd := scKinds.nd
    refine' ⟨_, pss_cons ?s1 (pss_cons ?s2 (pss_cons ?s3 (pss_cons ?s4 (pss_cons ?s5 (pss_cons ?s6 (pss_cons ?s7 (pss_cons ?s8 (pss_cons ?s9 (pss_one ?s10))))))))), ?rd⟩
    case s1 => exact ps_set (i := 1) nd rfl (.inl rfl) (pe_lst (pa_cons (pe_tup (pa_cons pe_str (pa_cons (pe_callB (call_isK EC) (by rfl) mi boot_isinstance (pa_cons (pv 0) (pa_cons (pe_glob (v := .ref c1) rfl g1 rfl) pa_nil))) pa_nil))) (pa_cons (pe_tup (pa_cons pe_str (pa_cons (pe_callB (call_isK EC) (by rfl) mi boot_isinstance (pa_cons (pv 0) (pa_cons (pe_glob (v := .ref c2) rfl g2 rfl) pa_nil))) pa_nil))) pa_nil)))
    case s2 => exact ps_set (i := 1) nd rfl (.inl rfl) (pe_op op_cat (pv 1) (pe_lst (pa_cons (pe_tup (pa_cons pe_str (pa_cons (pe_callB (call_isK EC) (by rfl) mi boot_isinstance (pa_cons (pv 0) (pa_cons (pe_glob (v := .ref c3) rfl g3 rfl) pa_nil))) pa_nil))) (pa_cons (pe_tup (pa_cons pe_str (pa_cons (pe_callB (call_isK EC) (by rfl) mi boot_isinstance (pa_cons (pv 0) (pa_cons (pe_glob (v := .ref c4) rfl g4 rfl) pa_nil))) pa_nil))) pa_nil))))
    case s3 => exact ps_set (i := 1) nd rfl (.inl rfl) (pe_op op_cat (pv 1) (pe_lst (pa_cons (pe_tup (pa_cons pe_str (pa_cons (pe_callB (call_isK EC) (by rfl) mi boot_isinstance (pa_cons (pv 0) (pa_cons (pe_glob (v := .ref c5) rfl g5 rfl) pa_nil))) pa_nil))) (pa_cons (pe_tup (pa_cons pe_str (pa_cons (pe_callB (call_isK EC) (by rfl) mi boot_isinstance (pa_cons (pv 0) (pa_cons (pe_glob (v := .ref c6) rfl g6 rfl) pa_nil))) pa_nil))) pa_nil))))
    case s4 => exact ps_set (i := 1) nd rfl (.inl rfl) (pe_op op_cat (pv 1) (pe_lst (pa_cons (pe_tup (pa_cons pe_str (pa_cons (pe_callB (call_isK EC) (by rfl) mi boot_isinstance (pa_cons (pv 0) (pa_cons (pe_glob (v := .ref c7) rfl g7 rfl) pa_nil))) pa_nil))) (pa_cons (pe_tup (pa_cons pe_str (pa_cons (pe_callB (call_isK EC) (by rfl) mi boot_isinstance (pa_cons (pv 0) (pa_cons (pe_glob (v := .ref c8) rfl g8 rfl) pa_nil))) pa_nil))) pa_nil))))
    case s5 => exact ps_set (i := 1) nd rfl (.inl rfl) (pe_op op_cat (pv 1) (pe_lst (pa_cons (pe_tup (pa_cons pe_str (pa_cons (pe_callB (call_isK EC) (by rfl) mi boot_isinstance (pa_cons (pv 0) (pa_cons (pe_glob (v := .ref c9) rfl g9 rfl) pa_nil))) pa_nil))) (pa_cons (pe_tup (pa_cons pe_str (pa_cons (pe_callB (call_isK EC) (by rfl) mi boot_isinstance (pa_cons (pv 0) (pa_cons (pe_glob (v := .ref c10) rfl g10 rfl) pa_nil))) pa_nil))) pa_nil))))
    case s6 => exact ps_set (i := 1) nd rfl (.inl rfl) (pe_op op_cat (pv 1) (pe_lst (pa_cons (pe_tup (pa_cons pe_str (pa_cons (pe_callB (call_isK EC) (by rfl) mi boot_isinstance (pa_cons (pv 0) (pa_cons (pe_glob (v := .ref c11) rfl g11 rfl) pa_nil))) pa_nil))) (pa_cons (pe_tup (pa_cons pe_str (pa_cons (pe_callB (call_isK EC) (by rfl) mi boot_isinstance (pa_cons (pv 0) (pa_cons (pe_glob (v := .ref c12) rfl g12 rfl) pa_nil))) pa_nil))) pa_nil))))
    case s7 => exact ps_set (i := 1) nd rfl (.inl rfl) (pe_op op_cat (pv 1) (pe_lst (pa_cons (pe_tup (pa_cons pe_str (pa_cons (pe_callB (call_isK EC) (by rfl) mi boot_isinstance (pa_cons (pv 0) (pa_cons (pe_glob (v := .ref c13) rfl g13 rfl) pa_nil))) pa_nil))) (pa_cons (pe_tup (pa_cons pe_str (pa_cons (pe_callB (call_isK EC) (by rfl) mi boot_isinstance (pa_cons (pv 0) (pa_cons (pe_glob (v := .ref c14) rfl g14 rfl) pa_nil))) pa_nil))) pa_nil))))
    case s8 => exact ps_expr (pe_bm PySem.F.plainAttrs_list PySem.F.slot_list_append PySem.F.type_list_append mt_append (pv 1) (pa_cons (pe_tup (pa_cons pe_str (pa_cons (pe_callB (call_isK EC) (by rfl) mi boot_isinstance (pa_cons (pv 0) (pa_cons (pe_glob (v := .ref c15) rfl g15 rfl) pa_nil))) pa_nil))) pa_nil))
    case s9 => exact ps_expr (pe_bm PySem.F.plainAttrs_list PySem.F.slot_list_append PySem.F.type_list_append mt_append (pv 1) (pa_cons (pe_tup (pa_cons pe_str (pa_cons (pe_or (pe_not (pe_callB (call_isK EC) (by rfl) mi boot_isinstance (pa_cons (pv 0) (pa_cons (pe_bltn (v := .ty "ValueError") (by rfl) mv (by decide +kernel) rfl) pa_nil)))) (pe_one (pe_not (pe_callB (call_isK EC) (by rfl) mi boot_isinstance (pa_cons (pv 0) (pa_cons (pe_glob (v := .ref c16) rfl g16 rfl) pa_nil)))))) pa_nil))) pa_nil))
    case s10 => exact ps_ret (pe_lc (own := [("_law_name", 2), ("_law_fits", 3)]) (g := gTup K 2 (gCons (gName 2) (gCons (gName 3) gNil))) rfl nd (pi_list (pv 1))
        (blkOk_by (own := [("_law_name", 2), ("_law_fits", 3)]) (N := nKinds) (sc := defScope sKinds) (by decide +kernel)) (fun _ _ _ _ _ => pg_tup rfl (pgs_cons (pg_name (i := 2) nd rfl (.inl rfl)) (pgs_cons (pg_name (i := 3) nd rfl (.inl rfl)) pgs_nil)))
        (fun _ _ _ _ _ => pts_one (pt_val (pv 3))) (fun _ _ _ _ _ => pv 2))
    case rd =>
    have self : ∀ (c : Addr) (u : Value), RelV (.ref c) u → u = .ref c := fun c u h => h
    refine ⟨_, rfl, a, _, _, b1, rfl, hH, self c1, k1, (by show 2 ≤ sizeLine; decide), fun t1 nt1 => ?_⟩
    have r1 : Gr H (upd H t1 (.tup [.str "row", .bl b1])) := Gr.new nt1
    have e1 : upd H t1 (.tup [.str "row", .bl b1]) t1 = some (.tup [.str "row", .bl b1]) := upd_same
    generalize upd H t1 (.tup [.str "row", .bl b1]) = H1 at r1 e1 ⊢
    refine ⟨_, rfl, a, _, _, b2, rfl, r1.keep _ _ hH (fun _ z => by cases z), self c2, k2, (by show 2 ≤ sizeLine; decide), fun t2 nt2 => ?_⟩
    have r2 : Gr H1 (upd H1 t2 (.tup [.str "face", .bl b2])) := Gr.new nt2
    have e2 : upd H1 t2 (.tup [.str "face", .bl b2]) t2 = some (.tup [.str "face", .bl b2]) := upd_same
    generalize upd H1 t2 (.tup [.str "face", .bl b2]) = H2 at r2 e2 ⊢
    refine ⟨by show 2 ≤ sizeLine; decide, fun l1 nl1 => ?_⟩
    have r3 : Gr H (upd H2 l1 (.lst [.ref t1, .ref t2])) := (r1.trans r2).trans (Gr.new nl1)
    have L1 : KdL K (upd H2 l1 (.lst [.ref t1, .ref t2])) l1 [("row", b1), ("face", b2)] := ⟨_, upd_same, .cons (dp_pair ((Gr.new nl1).tup (r2.tup e1))) (.cons (dp_pair ((Gr.new nl1).tup e2)) .nil)⟩
    generalize upd H2 l1 (.lst [.ref t1, .ref t2]) = G1 at r3 L1 ⊢
    refine two_isK rfl rfl (r3.keep _ _ hH (fun _ z => by cases z)) L1 (by simp) (self c3) k3 (self c4) k4 fun G2 l2 s2 nw2 L2 => ?_
    have r4 := r3.trans s2
    refine two_isK rfl rfl (r4.keep _ _ hH (fun _ z => by cases z)) L2 (by simp) (self c5) k5 (self c6) k6 fun G3 l3 s3 nw3 L3 => ?_
    have r5 := r4.trans s3
    refine two_isK rfl rfl (r5.keep _ _ hH (fun _ z => by cases z)) L3 (by simp) (self c7) k7 (self c8) k8 fun G4 l4 s4 nw4 L4 => ?_
    have r6 := r5.trans s4
    refine two_isK rfl rfl (r6.keep _ _ hH (fun _ z => by cases z)) L4 (by simp) (self c9) k9 (self c10) k10 fun G5 l5 s5 nw5 L5 => ?_
    have r7 := r6.trans s5
    refine two_isK rfl rfl (r7.keep _ _ hH (fun _ z => by cases z)) L5 (by simp) (self c11) k11 (self c12) k12 fun G6 l6 s6 nw6 L6 => ?_
    have r8 := r7.trans s6
    refine two_isK rfl rfl (r8.keep _ _ hH (fun _ z => by cases z)) L6 (by simp) (self c13) k13 (self c14) k14 fun G7 l7 s7 nw7 L7 => ?_
    have r9 := r8.trans s7
    -- input
    obtain ⟨xs7, hx7, dx7⟩ := L7
    have n7 : xs7.length = 14 := by
      have := dpA_len dx7
      rw [List.length_map] at this
      exact this
    refine ⟨_, rfl, .inl ⟨rfl, _, .inl (.inl hx7)⟩, _, rfl, a, _, _, b15, rfl, r9.keep _ _ hH (fun _ z => by cases z), self c15, k15, (by show 2 ≤ sizeLine; decide), fun t8 nt8 => ?_⟩
    have r10 : Gr G7 (upd G7 t8 (.tup [.str "input", .bl b15])) := Gr.new nt8
    have e8 : upd G7 t8 (.tup [.str "input", .bl b15]) t8 = some (.tup [.str "input", .bl b15]) := upd_same
    generalize upd G7 t8 (.tup [.str "input", .bl b15]) = G8 at r10 e8 ⊢
    have hx8 := r10.lst hx7
    have nl7 : H l7 = none := r8.back l7 nw7
    refine ⟨l7, _, _, rfl, rfl, hx8, by rw [n7, sizeLine_eq]; decide, ?_⟩
    have r11 : Gr H (upd G8 l7 (.lst (xs7 ++ [.ref t8]))) := (r9.trans r10).upd_new nl7
    have dx7' : DpAll K G7 xs7 (([("row", b1), ("face", b2), ("making", b3), ("user", b4), ("steps", b5), ("lead", b6), ("apart", b7), ("place", b8), ("great", b9), ("paper", b10), ("program", b11), ("module", b12), ("refused", b13), ("use", b14)] : List (Str × Bool)).map fun k => .tuple [.str k.1, .bool k.2]) := dx7
    have d8 : DpAll K (upd G8 l7 (.lst (xs7 ++ [.ref t8]))) (xs7 ++ [.ref t8]) (([("row", b1), ("face", b2), ("making", b3), ("user", b4), ("steps", b5), ("lead", b6), ("apart", b7), ("place", b8), ("great", b9), ("paper", b10), ("program", b11), ("module", b12), ("refused", b13), ("use", b14), ("input", b15)] : List (Str × Bool)).map fun k => .tuple [.str k.1, .bool k.2]) :=
      pairs_lst hx8 (dpA_app (r10.kd.dpA dx7') (.cons (dp_pair (z := "input") e8) .nil))
    have hx9 : upd G8 l7 (.lst (xs7 ++ [.ref t8])) l7 = some (.lst (xs7 ++ [.ref t8])) := upd_same
    generalize upd G8 l7 (.lst (xs7 ++ [.ref t8])) = G9 at r11 d8 hx9 ⊢
    -- other
    refine ⟨_, rfl, .inl ⟨rfl, _, .inl (.inl hx9)⟩, _, rfl, a, _, _, true, rfl, r11.keep _ _ hH (fun _ z => by cases z), (fun u h => h), kve, true, rfl, false, rfl, ?_⟩
    refine iteF ⟨_, rfl, a, _, _, true, rfl, r11.keep _ _ hH (fun _ z => by cases z), self c16, k16, true, rfl, (by show 2 ≤ sizeLine; decide), fun t9 nt9 => ?_⟩
    have r12 : Gr G9 (upd G9 t9 (.tup [.str "other", .bl (!true)])) := Gr.new nt9
    have e9 : upd G9 t9 (.tup [.str "other", .bl (!true)]) t9 = some (.tup [.str "other", .bl false]) := upd_same
    generalize upd G9 t9 (.tup [.str "other", .bl (!true)]) = G10 at r12 e9 ⊢
    have hx10 := r12.lst hx9
    refine ⟨l7, _, _, rfl, rfl, hx10, by rw [List.length_append, n7, sizeLine_eq]; show 15 < 16777216; decide, ?_⟩
    have r13 : Gr H (upd G10 l7 (.lst ((xs7 ++ [.ref t8]) ++ [.ref t9]))) := (r11.trans r12).upd_new nl7
    have d9 : DpAll K (upd G10 l7 (.lst ((xs7 ++ [.ref t8]) ++ [.ref t9]))) ((xs7 ++ [.ref t8]) ++ [.ref t9]) (([("row", b1), ("face", b2), ("making", b3), ("user", b4), ("steps", b5), ("lead", b6), ("apart", b7), ("place", b8), ("great", b9), ("paper", b10), ("program", b11), ("module", b12), ("refused", b13), ("use", b14), ("input", b15), ("other", false)] : List (Str × Bool)).map fun k => .tuple [.str k.1, .bool k.2]) :=
      pairs_lst hx10 (dpA_app (r12.kd.dpA d8) (.cons (dp_pair (z := "other") e9) .nil))
    have hx11 : upd G10 l7 (.lst ((xs7 ++ [.ref t8]) ++ [.ref t9])) l7 = some (.lst ((xs7 ++ [.ref t8]) ++ [.ref t9])) := upd_same
    have n9 : ((xs7 ++ [V.ref t8]) ++ [V.ref t9]).length = 16 := by
      rw [List.length_append, List.length_append, n7]
      rfl
    have q' : ∀ H' p, Gr H H' → H' p = some (.lst (kdT ([("row", b1), ("face", b2), ("making", b3), ("user", b4), ("steps", b5), ("lead", b6), ("apart", b7), ("place", b8), ("great", b9), ("paper", b10), ("program", b11), ("module", b12), ("refused", b13), ("use", b14), ("input", b15), ("other", false)] : List (Str × Bool)))) → Q (.ref p) H' := q
    generalize upd G10 l7 (.lst ((xs7 ++ [.ref t8]) ++ [.ref t9])) = G11 at r13 d9 hx11 ⊢
    generalize ((xs7 ++ [V.ref t8]) ++ [V.ref t9]) = ys at d9 hx11 n9 ⊢
    have nks : ([("row", b1), ("face", b2), ("making", b3), ("user", b4), ("steps", b5), ("lead", b6), ("apart", b7), ("place", b8), ("great", b9), ("paper", b10), ("program", b11), ("module", b12), ("refused", b13), ("use", b14), ("input", b15), ("other", false)] : List (Str × Bool)).length = 16 := rfl
    generalize ([("row", b1), ("face", b2), ("making", b3), ("user", b4), ("steps", b5), ("lead", b6), ("apart", b7), ("place", b8), ("great", b9), ("paper", b10), ("program", b11), ("module", b12), ("refused", b13), ("use", b14), ("input", b15), ("other", false)] : List (Str × Bool)) = ks at d9 q' nks
    clear q dx7' d8 dx7
    refine ⟨_, rfl, l7, rfl, ⟨_, .inl (.inl hx11)⟩, fun D nD => ?_⟩
    have gD : ∀ o, Gr G11 (upd G11 D o) := fun o => Gr.new nD
    refine lc_it (walk_list (xs := ys)) (fun i H2 => H2 = upd G11 D (.lst (kdT (ks.take i)))) rfl ?c0 ?c1 ?c2
    case c0 =>
      rintro i H2 hi rfl
      exact .inl (.inl ((gD _).lst hx11))
    case c1 =>
      rintro i y H2 H2' hi rfl ⟨rfl, hy⟩
      obtain ⟨z, b, pp, hz, rfl, hpp⟩ := pair_at d9 hy
      refine ⟨pp, _, rfl, (gD _).sqt hpp, rfl, _, _, rfl, _, _, rfl, rfl, rfl, _, rfl, b, rfl, ?_⟩
      have ek := kdT_take hz
      cases b with
      | true =>
        refine iteT ⟨_, rfl, _, upd_same, ?_, ?_⟩
        · have := kdT_len (ks.take i)
          have h2 := List.length_take_le i ks
          rw [sizeLine_eq]
          have h3 : (ks.take i).length ≤ 16 := by
            rw [List.length_take]
            omega
          omega
        · rw [upd_upd, ek]
          rfl
      | false =>
        refine iteF ?_
        show _ = _
        rw [ek, if_neg (by decide), List.append_nil]
    case c2 =>
      rintro H2 rfl
      refine q' _ D (r13.trans (gD _)) ?_
      rw [upd_same, n9, List.take_of_length_le (by omega)]
end
end SfC
namespace SfC
open PySem PySem.Spec PyProof.Rows L2 SfG
/-! ### _law_refused: a name that no deed has -/
abbrev nRef : List Str := ["_law_way", "_law_face_here", "_law_name", "_law_wrong", "e"]
theorem scRef : FnScope nRef ["_law_way", "_law_face_here", "_law_name"] (defScope sRef) := ⟨rfl, rfl, rfl, by decide +kernel, rfl, by decide +kernel, by decide +kernel⟩
def bsPlace : List Bool := [false, false, false, false, false, false, false, true, false, false, false, false, false, false, false, false]
/-- a def that may raise: where it stands, how it is bound, what it promises -/
structure HasX (P : Program) (w : World) (K : PySem.W.Frag) (mg : Str → Option Value) (base : Heap) (k : Nat) (x : Str) (ps : List Str) (sp : Sp) (f : Addr) (fd : FuncData) : Prop where
  ok : FnOk P w K mg base (L2.CX P w) k f fd ps sp
  at_ : mg x = some (.ref f)
  kp : PySem.W.keepIn K (.ref f) = true
  bd : Binds K fd ps []
section
variable {P : Program} {w : World} {K : PySem.W.Frag} {mg : Str → Option Value} {base : Heap}
def spRef (K : PySem.W.Frag) : Sp := fun vs H Q _ => ∃ (n : Int) (x y : V) (f : Fc) (T : String), vs = [.int n, x, y] ∧ Dp K H x f.d ∧ goF f ∧ Is K H y T ∧ (∀ z, y = .str z → z ∉ f.ds.map De.nm) ∧
  ∀ H' p, Gr H H' → H' p = some (.lst [.str "place"]) → Q (.ref p) H'
theorem ok_ref {f fT fG fK C CF : Addr} {fd fdT fdG fdK : FuncData} {k : Nat} (F : Fun K "_law_refused" "_law_refused" sRef f fd) (HT : HasX P w K mg base (k + 5) "takes_of" ["face", "name"] (spTG K C fun e => .tuple (e.tk.map Kn.d)) fT fdT)
    (HG : HasX P w K mg base (k + 5) "gives_of" ["face", "name"] (spTG K C fun e => e.gv.d) fG fdG) (HK : Has P w K mg base (k + 5) "_law_kinds" ["_law_error"] (spKinds C bsPlace) fK fdK)
    (gF : mg "FaceError" = some (.ref CF)) (xF : PySem.W.exmOne K (.ref C) (.ref CF) = some true) :
    FnOk P w K mg base CX0 (k + 6) f fd ["_law_way", "_law_face_here", "_law_name"] (spRef K) := by
  refine F.ok scRef (fun vs H Q E h => ?_) (fun cdv A outer s H vs Q E hr h => ?_)
  · obtain ⟨n, x, y, f, T, rfl, _⟩ := h
    rfl
  · obtain ⟨n, x, y, f, T, rfl, hx, go, hy, no, q⟩ := h
    have nd := scRef.nd
    refine' ⟨_, pss_cons ?s1 (pss_cons ?s2 (pss_one ?s3)), ?rd⟩
    case s1 => exact ps_set (i := 3) nd rfl (.inl rfl) pe_non
    case s2 =>
      exact ps_try_keep (i := 4) (ts := fun a cls d => tAsg (tVar 4) (gName 3)) (Wout := fun _ _ _ _ => False) rfl rfl rfl nd rfl rfl ⟨rfl, by decide, .inl gF⟩ takes0
        (fun W pn xe tk _ => pss_one (ps_if (pt_cmpR op_eq (pv 0) pe_int (nomark _))
          (pss_one (ps_expr (pe_callS HT.ok hr rfl HT.at_ HT.kp HT.bd (fun σ => passAt tk σ) (pa_cons (pv 1) (pa_cons (pv 2) pa_nil)))))
          (pss_one (ps_expr (pe_callS HG.ok hr rfl HG.at_ HG.kp HG.bd (fun σ => passAt tk σ) (pa_cons (pv 1) (pa_cons (pv 2) pa_nil)))))))
        (fun a oe cls d pn hz hf => pss_one (ps_set (i := 3) nd rfl (.inl rfl) (pv 4)))
        (by
          rintro D cls d σ H ⟨b, e, _, hn⟩
          cases b with
          | true => exact e
          | false => exact (hn rfl).elim)
    case s3 =>
      exact ps_ret (pe_ifExp (pt_cmpR op_isN (pv 3) pe_non (nomark _)) pe_non (hcall HK hr (pa_cons (pv 3) pa_nil)))
    case rd =>
    have hk : kdT (kdW.zip bsPlace) = [.str "place"] := rfl
    refine ⟨_, rfl, rfl, _, rfl, ?_⟩
    by_cases h0 : V.int n = V.int 0
    · rw [decide_eq_true h0]
      refine iteT ⟨_, rfl, _, rfl, x, y, f, T, rfl, hx, go, hy, .inr ⟨no, fun H1 g1 => ?_⟩⟩
      refine ⟨true, xF, fun _ a na => ?_, fun z => by cases z⟩
      refine ⟨_, rfl, ?_⟩
      exact ⟨_, rfl, rfl, _, rfl, iteF ⟨_, rfl, a, rfl, upd_same, fun H2 p g2 hp => q H2 p ((g1.trans (Gr.new na)).trans g2) hp⟩⟩
    · rw [decide_eq_false h0]
      refine iteF ⟨_, rfl, _, rfl, x, y, f, T, rfl, hx, go, hy, .inr ⟨no, fun H1 g1 => ?_⟩⟩
      refine ⟨true, xF, fun _ a na => ?_, fun z => by cases z⟩
      refine ⟨_, rfl, ?_⟩
      exact ⟨_, rfl, rfl, _, rfl, iteF ⟨_, rfl, a, rfl, upd_same, fun H2 p g2 hp => q H2 p ((g1.trans (Gr.new na)).trans g2) hp⟩⟩
end
end SfC
namespace SfC
open PySem PySem.Spec PyProof.Rows L2 SfG
theorem scMixed : FnScope ["_law_cell", "_law_k"] ["_law_cell", "_law_k"] (defScope sMixed) := ⟨rfl, rfl, rfl, by decide +kernel, rfl, by decide +kernel, by decide +kernel⟩
theorem scDraw : FnScope ["_law_cell", "_law_k"] ["_law_cell", "_law_k"] (defScope sDraw) := ⟨rfl, rfl, rfl, by decide +kernel, rfl, by decide +kernel, by decide +kernel⟩
theorem scDigit : FnScope ["_law_state", "_law_many", "_law_j", "_law_found"] ["_law_state", "_law_many"] (defScope sDigit) := ⟨rfl, rfl, rfl, by decide +kernel, rfl, by decide +kernel, by decide +kernel⟩
section
variable {P : Program} {w : World} {K : PySem.W.Frag} {mg : Str → Option Value} {base : Heap}
/-! ### the draws -/
def spMixed : Sp := fun vs H Q _ => ∃ a b : Int, vs = [.int a, .int b] ∧ 0 ≤ b ∧ b ≤ 1000000000 ∧ ∀ r, 0 ≤ r → r < 2147483647 → Q (.int r) H
theorem ok_mixed {f : Addr} {fd : FuncData} {k : Nat} (F : Fun K "_law_mixed" "_law_mixed" sMixed f fd) : FnOk P w K mg base CX0 (k + 1) f fd ["_law_cell", "_law_k"] spMixed := by
  refine F.ok scMixed (fun vs H Q E h => ?_) (fun cdv A outer s H vs Q E hr h => ?_)
  · obtain ⟨a, b, rfl, _⟩ := h
    rfl
  · obtain ⟨a, b, rfl, hb0, hb1, q⟩ := h
    refine ⟨_, pss_cons (ps_set (i := 0) scMixed.nd rfl (.inl rfl) (pe_op op_add (pe_op op_add (pe_op op_mod (pv 0) pe_int) (pe_op op_mul pe_int (pv 1))) pe_int))
      (pss_one (ps_ret (pe_op op_mod (pe_op op_mul (pe_op op_mod (pe_op op_mul (pv 0) (pv 0)) pe_int) pe_int) pe_int))), ?_⟩
    refine ⟨_, rfl, a, 1000000007, rfl, rfl, (by show (0 : Int) < 1000000007; decide), _, rfl, 7919, b, rfl, rfl, .inl ⟨by decide, by decide⟩, _, _, rfl, rfl, _, _, rfl, rfl, ?_⟩
    refine ⟨_, rfl, _, rfl, _, _, rfl, rfl, .inl ⟨?_, ?_⟩, _, 1000000007, rfl, rfl, (by show (0 : Int) < 1000000007; decide), _, 48271, rfl, rfl, .inr ⟨by decide, by decide⟩, _, 2147483647, rfl, rfl, (by show (0 : Int) < 2147483647; decide), q _ ?_ ?_⟩
    · have : (-(2 ^ 64) : Int) = -18446744073709551616 := by decide
      rw [this]
      omega
    · have : ((2 ^ 64) : Int) = 18446744073709551616 := by decide
      rw [this]
      omega
    · exact Int.emod_nonneg _ (by decide)
    · exact Int.emod_lt_of_pos _ (by decide)
/-- the state of a draw -/
abbrev kLeft : Key := Sum.inr ("left" : Str)
abbrev kSeed : Key := Sum.inr ("seed" : Str)
abbrev kTurns : Key := Sum.inr ("turns" : Str)
def kv3 (l s t : Int) : List (Key × V) := [(kLeft, .int l), (kSeed, .int s), (kTurns, .int t)]
def Drw (H : Hp) (p : Addr) (B : Int) : Prop := ∃ l s t, H p = some (.dK (kv3 l s t)) ∧ 0 ≤ l ∧ 0 ≤ t ∧ t ≤ B
theorem kv_left (l s t : Int) : valV (kv3 l s t) kLeft = some (.int l) := rfl
theorem kv_seed (l s t : Int) : valV (kv3 l s t) kSeed = some (.int s) := rfl
theorem kv_turns (l s t : Int) : valV (kv3 l s t) kTurns = some (.int t) := rfl
theorem put_left (l s t l' : Int) : putK (kv3 l s t) kLeft (.int l') = kv3 l' s t := rfl
theorem put_turns (l s t t' : Int) : putK (kv3 l s t) kTurns (.int t') = kv3 l s t' := rfl
theorem get_left {H : Hp} {p : Addr} {l s t : Int} (h : H p = some (.dK (kv3 l s t))) : DGet H p (.str "left") (some (.int l)) := DGet.k (k := kLeft) h
theorem get_seed {H : Hp} {p : Addr} {l s t : Int} (h : H p = some (.dK (kv3 l s t))) : DGet H p (.str "seed") (some (.int s)) := DGet.k (k := kSeed) h
theorem get_turns {H : Hp} {p : Addr} {l s t : Int} (h : H p = some (.dK (kv3 l s t))) : DGet H p (.str "turns") (some (.int t)) := DGet.k (k := kTurns) h
theorem set_left {H : Hp} {p : Addr} {l s t l' : Int} (h : H p = some (.dK (kv3 l s t))) : DPut H p (.str "left") (.int l') (upd H p (.dK (kv3 l' s t))) := DPut.k (k := kLeft) h (by show 3 < sizeLine; decide)
theorem set_turns {H : Hp} {p : Addr} {l s t t' : Int} (h : H p = some (.dK (kv3 l s t))) : DPut H p (.str "turns") (.int t') (upd H p (.dK (kv3 l s t'))) := DPut.k (k := kTurns) h (by show 3 < sizeLine; decide)
theorem gr_new2 {H : Hp} {p : Addr} {o o' : HO} (h : H p = none) : Gr H (upd (upd H p o) p o') := by
  refine Gr.same ?_
  intro b x e
  have n : b ≠ p := ne_of_none e h
  rw [upd_ne n, upd_ne n]
  exact e
def spDraw : Sp := fun vs H Q _ => ∃ a b : Int, vs = [.int a, .int b] ∧ 0 ≤ b ∧ b ≤ 1000 ∧ ∀ H' p, H p = none → Gr H H' → Drw H' p b → Q (.ref p) H'
theorem ok_draw {f fM : Addr} {fd fdM : FuncData} (F : Fun K "_law_draw" "_law_draw" sDraw f fd) (FM : Fun K "_law_mixed" "_law_mixed" sMixed fM fdM) (bM : Binds K fdM ["_law_cell", "_law_k"] []) (gM : mg "_law_mixed" = some (.ref fM)) :
    FnOk P w K mg base CX0 2 f fd ["_law_cell", "_law_k"] spDraw := by
  have GM : FnOk P w K mg base CX0 1 fM fdM ["_law_cell", "_law_k"] spMixed := ok_mixed FM
  refine F.ok scDraw (fun vs H Q E h => ?_) (fun cdv A outer s H vs Q E hr h => ?_)
  · obtain ⟨a, b, rfl, _⟩ := h
    rfl
  · obtain ⟨a, b, rfl, hb0, hb1, q⟩ := h
    refine ⟨_, pss_one (ps_ret (pe_disp (pps_cons pe_str (pe_ifExp (pt_cmpR op_ge (pv 0) (pe_op op_pow pe_int pe_int) (nomark _)) (pv 0) pe_int)
      (pps_cons pe_str (pe_call GM hr (by rfl) gM FM.kp bM .nil pass0 (pa_cons (pv 0) (pa_cons (pv 1) pa_nil)))
      (pps_cons pe_str (pv 1) pps_nil))) (by rfl) (by rfl) (fun z => by cases z) (by decide))), ?_⟩
    intro p np
    have key : ∀ l : Int, 0 ≤ l → tPairs [(tC (V.str "seed"), tCall spMixed [] E0 (tCons (tVar 0) (tCons (tVar 1) tNil))), (tC (V.str "turns"), tVar 1)] (L2.start ["_law_cell", "_law_k"] [V.int a, V.int b]) (upd H p (.dK []))
        (fun ps H3 => H3 p = some (.dK []) ∧ ∃ kvs : List (Key × V), (V.str "left", V.int l) :: ps = kvs.map (fun kv => (kV kv.1, kv.2)) ∧ kvs.length ≤ 15 ∧ Q (.ref p) (upd H3 p (.dK (mergeK [] kvs)))) := by
      intro l hl
      refine ⟨_, rfl, _, rfl, a, b, rfl, hb0, by omega, ?_⟩
      intro r h0 h1
      refine ⟨_, rfl, upd_same, kv3 l r b, rfl, by show 3 ≤ 15; decide, ?_⟩
      refine q _ p np ?_ ⟨l, r, b, ?_, hl, hb0, Int.le_refl b⟩
      · exact gr_new2 np
      · rw [upd_same]
        rfl
    refine ⟨_, rfl, 10, 18, rfl, rfl, ⟨by decide, by decide, by decide⟩, _, _, rfl, rfl, _, rfl, ite2 (fun e => ?_) (fun e => ?_)⟩
    · have e' : a ≥ 10 ^ 18 := of_decide_eq_true e
      refine ⟨_, rfl, key a ?_⟩
      have : (0 : Int) ≤ 10 ^ 18 := by decide
      omega
    · exact key 0 (by decide)
def spDigit : Sp := fun vs H Q _ => ∃ (p : Addr) (m B : Int), vs = [.ref p, .int m] ∧ Drw H p B ∧ B ≤ 100000 ∧ 0 < m ∧ m ≤ 1000000000 ∧
  ∀ H' d, But p H H' → Drw H' p (B + 1) → 0 ≤ d → d < m → Q (.int d) H'
theorem ok_digit {f fM : Addr} {fd fdM : FuncData} (F : Fun K "_law_digit" "_law_digit" sDigit f fd) (FM : Fun K "_law_mixed" "_law_mixed" sMixed fM fdM) (bM : Binds K fdM ["_law_cell", "_law_k"] []) (gM : mg "_law_mixed" = some (.ref fM)) (mr : mg "range" = none) :
    FnOk P w K mg base CX0 2 f fd ["_law_state", "_law_many"] spDigit := by
  have GM : FnOk P w K mg base CX0 1 fM fdM ["_law_cell", "_law_k"] spMixed := ok_mixed FM
  refine F.ok scDigit (fun vs H Q E h => ?_) (fun cdv A outer s H vs Q E hr h => ?_)
  · obtain ⟨p, m, B, rfl, _⟩ := h
    rfl
  · obtain ⟨p, m, B, rfl, ⟨l, sd, t, hp, hl, ht, htB⟩, hB, hm0, hm1, q⟩ := h
    refine ⟨_, pss_cons (ps_if (pt_cmpR op_eq (pe_dget (hu_of hr) (pv 0) pe_str (fun _ _ => rfl)) pe_int (nomark _))
        (pss_cons (ps_dput (hu_of hr) (pv 0) pe_str (pe_op op_add (pe_dget (hu_of hr) (pv 0) pe_str (fun _ _ => rfl)) pe_int) rfl)
        (pss_one (ps_for PassesOwn.never rfl (pi_range1 rfl mr (pa_cons pe_int pa_nil)) (pg_name (i := 2) scDigit.nd rfl (Or.inl rfl))
          (pss_one (ps_dput (hu_of hr) (pv 0) pe_str (pe_op op_add (pe_op op_mul (pe_dget (hu_of hr) (pv 0) pe_str (fun _ _ => rfl)) pe_int)
            (pe_call GM hr (by rfl) gM FM.kp bM .nil pass0 (pa_cons (pe_dget (hu_of hr) (pv 0) pe_str (fun _ _ => rfl)) (pa_cons (pe_op op_add (pe_op op_mul pe_int (pe_dget (hu_of hr) (pv 0) pe_str (fun _ _ => rfl))) (pv 2)) pa_nil)))) rfl))))) pss_nil)
      (pss_cons (ps_set (i := 3) scDigit.nd rfl (.inl rfl) (pe_op op_mod (pe_dget (hu_of hr) (pv 0) pe_str (fun _ _ => rfl)) (pv 1)))
      (pss_cons (ps_dput (hu_of hr) (pv 0) pe_str (pe_op op_fdivW (pe_dget (hu_of hr) (pv 0) pe_str (fun _ _ => rfl)) (pv 1)) rfl)
      (pss_one (ps_ret (pv 3))))), ?_⟩
    -- what follows the if
    have tail : ∀ (H1 : Hp) (l1 s1 t1 : Int) (y2 y3 : Option V), But p H H1 → H1 p = some (.dK (kv3 l1 s1 t1)) → 0 ≤ l1 → 0 ≤ t1 → t1 ≤ B + 1 →
        tSeq (tAsg (tOp (rI (fun _ j => 0 < j) fun i j => .int (i % j)) (tDGet (tVar 0) (tC (.str "left"))) (tVar 1)) (gName 3))
          (tSeq (sDPut (tVar 0) (tC (.str "left")) (tOp (rI CDivW fun i j => .int (i / j)) (tDGet (tVar 0) (tC (.str "left"))) (tVar 1))) (tRet (tVar 3)))
          { nx := fun _ H' => Q .non H', rt := Q } [some (.ref p), some (.int m), y2, y3] H1 := by
      intro H1 l1 s1 t1 y2 y3 hb h1 hl1 ht1 htb
      refine ⟨_, rfl, p, _, rfl, get_left h1, _, rfl, l1, m, rfl, rfl, hm0, ?_⟩
      refine ⟨_, rfl, p, _, rfl, get_left h1, _, rfl, l1, m, rfl, rfl, wide_div (b := 40) hm0 ?_ (by decide) (by decide), _, rfl, p, _, rfl, set_left h1, _, rfl, q _ _ hb.upd ⟨l1 / m, s1, t1, upd_same, ?_, ht1, htb⟩ ?_ ?_⟩
      · have : (2 : Nat) ^ 40 = 1099511627776 := by decide
        rw [this]
        omega
      · exact Int.ediv_nonneg hl1 (by omega)
      · exact Int.emod_nonneg _ (by omega)
      · exact Int.emod_lt_of_pos _ hm0
    refine ⟨_, rfl, p, _, rfl, get_left hp, rfl, _, rfl, ite2 (fun e => ?_) (fun e => ?_)⟩
    · -- state['turns'] = state['turns'] + 1
      refine ⟨_, rfl, p, _, rfl, get_turns hp, t, 1, rfl, rfl, _, rfl, p, _, rfl, set_turns hp, ?_⟩
      refine ⟨4, rfl, by decide, by decide, for_range (n := 4) (fun i σ H1 => ∃ (l1 : Int) (y2 : Option V), σ = [some (.ref p), some (.int m), y2, none] ∧ But p H H1 ∧ H1 p = some (.dK (kv3 l1 sd (t + 1))) ∧ 0 ≤ l1) ?_ ?_ ?_⟩
      · exact ⟨l, none, rfl, But.upd (fun _ _ => rfl), upd_same, hl⟩
      · rintro i σ H1 hi ⟨l1, y2, rfl, hb, h1, hl1⟩
        refine ⟨_, rfl, p, _, rfl, get_left h1, l1, 2147483647, rfl, rfl, .inr ⟨by decide, by decide⟩, ?_⟩
        refine ⟨_, rfl, p, _, rfl, get_seed h1, _, rfl, p, _, rfl, get_turns h1, 4, t + 1, rfl, rfl, .inl ⟨by decide, by decide⟩, _, rfl, _, _, rfl, rfl, sd, _, rfl, by omega, by omega, ?_⟩
        intro r h0 hr1
        refine ⟨_, _, rfl, rfl, _, rfl, p, _, rfl, set_left h1, _, _, rfl, hb.upd, upd_same, ?_⟩
        have : 0 ≤ l1 * 2147483647 := Int.mul_nonneg hl1 (by decide)
        omega
      · rintro σ H1 ⟨l1, y2, rfl, hb, h1, hl1⟩
        exact tail H1 l1 sd (t + 1) y2 none hb h1 hl1 (by omega) (by omega)
    · exact tail H l sd t none none (fun _ _ => rfl) hp hl ht (by omega)
end
end SfC
namespace SfC
open PySem PySem.Spec PyProof.Rows L2 SfG
theorem Drw.gr {H H' : Hp} {p : Addr} {B : Int} (d : Drw H p B) (g : Gr H H') : Drw H' p B := by
  obtain ⟨l, s, t, h, r⟩ := d
  exact ⟨l, s, t, g.dic h, r⟩
theorem Drw.ne {H : Hp} {p q : Addr} {B : Int} (d : Drw H p B) (h : H q = none) : q ≠ p := by
  obtain ⟨l, s, t, e, _⟩ := d
  intro z
  rw [z, e] at h
  cases h
theorem Drw.new {H : Hp} {p q : Addr} {B : Int} {o : HO} (d : Drw H p B) (h : H q = none) : Drw (upd H q o) p B := d.gr (Gr.new h)
theorem Drw.mono {H : Hp} {p : Addr} {B B' : Int} (d : Drw H p B) (h : B ≤ B') : Drw H p B' := by
  obtain ⟨l, s, t, e, h1, h2, h3⟩ := d
  exact ⟨l, s, t, e, h1, h2, Int.le_trans h3 h⟩
theorem Drw.upd {H : Hp} {p q : Addr} {B : Int} {o : HO} (d : Drw H p B) (h : q ≠ p) : Drw (upd H q o) p B := by
  obtain ⟨l, s, t, e, r⟩ := d
  exact ⟨l, s, t, (upd_ne (Ne.symm h)).trans e, r⟩
theorem small1000 {n : Nat} (h : n ≤ 1000) : n < sizeLine := by
  rw [sizeLine_eq]
  omega
/-! ### order -/
theorem lt_tri : ∀ a b : List Nat, a < b ∨ a = b ∨ b < a
  | [], [] => .inr (.inl rfl)
  | [], b :: t => .inl (List.nil_lt_cons b t)
  | a :: r, [] => .inr (.inr (List.nil_lt_cons a r))
  | a :: r, b :: t => by
    rcases Nat.lt_trichotomy a b with h | h | h
    · exact .inl (List.cons_lt_cons_iff.mpr (.inl h))
    · subst h
      rcases lt_tri r t with h | h | h
      · exact .inl (List.cons_lt_cons_iff.mpr (.inr ⟨rfl, h⟩))
      · exact .inr (.inl (by rw [h]))
      · exact .inr (.inr (List.cons_lt_cons_iff.mpr (.inr ⟨rfl, h⟩)))
    · exact .inr (.inr (List.cons_lt_cons_iff.mpr (.inl h)))
theorem lt_trans' {a b c : Str} (h1 : lt a b) (h2 : lt b c) : lt a c := List.lt_trans h1 h2
theorem str_ext {a b : Str} (h : a.cps.toList = b.cps.toList) : a = b := by
  cases a
  cases b
  simp at h
  rw [h]
theorem rise : ∀ (r : List Str) (p : Str), risingS p r = true → (p :: r).Nodup → (p :: r).Pairwise lt
  | [], p, _, _ => by simp
  | x :: t, p, h, nd => by
    unfold risingS at h
    rw [Bool.and_eq_true, Bool.not_eq_true', ltCps_eq] at h
    have ih := rise t x h.2 (List.nodup_cons.mp nd).2
    have np : p ≠ x := fun e => (List.nodup_cons.mp nd).1 (by rw [e]; exact List.mem_cons_self)
    have l1 : lt p x := by
      rcases lt_tri p.cps.toList x.cps.toList with h1 | h1 | h1
      · exact h1
      · exact absurd (str_ext h1) np
      · have z := h.1
        rw [decide_eq_true h1] at z
        cases z
    refine List.pairwise_cons.mpr ⟨fun y hy => ?_, ih⟩
    rcases List.mem_cons.mp hy with rfl | hy
    · exact l1
    · exact lt_trans' l1 ((List.pairwise_cons.mp ih).1 y hy)
theorem sorted_up {ys xs : List Str} (h : sortedS ys = true) (p : ys.Perm xs) (nd : xs.Nodup) : ys.Pairwise lt := by
  have ndy : ys.Nodup := p.nodup_iff.mpr nd
  cases ys with
  | nil => exact List.Pairwise.nil
  | cons a r => exact rise r a h ndy
/-! ### texts of letters -/
theorem joinL_mem {ls : List (List Nat)} {c : Nat} (h : c ∈ TL.joinL [] ls) : ∃ l ∈ ls, c ∈ l := by
  induction ls with
  | nil => cases h
  | cons p r ih =>
    cases r with
    | nil => exact ⟨p, List.mem_cons_self, h⟩
    | cons q r =>
      have h' : c ∈ p ++ ([] ++ TL.joinL [] (q :: r)) := h
      rcases List.mem_append.mp h' with h1 | h1
      · exact ⟨p, List.mem_cons_self, h1⟩
      · obtain ⟨l, hl, hc⟩ := ih (by simpa using h1)
        exact ⟨l, List.mem_cons_of_mem _ hl, hc⟩
theorem joinL_len {ls : List (List Nat)} (h : ∀ l ∈ ls, l.length = 1) : (TL.joinL [] ls).length = ls.length := by
  induction ls with
  | nil => rfl
  | cons p r ih =>
    have hp := h p List.mem_cons_self
    have hr := ih fun l hl => h l (List.mem_cons_of_mem _ hl)
    cases r with
    | nil => exact hp
    | cons q r =>
      show (p ++ ([] ++ TL.joinL [] (q :: r))).length = _
      rw [List.length_append, List.nil_append, hr, hp]
      simp
      omega
abbrev nought : Str := ""
theorem len_list (z : Str) : z.length = z.cps.toList.length := by simp [Str.length]
/-- one letter -/
def one (y : Str) : Prop := ∃ c, y = ⟨#[c]⟩ ∧ isLet c = true
theorem join_name {acc : List Str} (h : ∀ y ∈ acc, one y) (h1 : 1 ≤ acc.length) (h8 : acc.length ≤ 8) : isN (Txt.join nought acc) = true := by
  have hl : (Txt.join nought acc).length = acc.length := by
    have e : (TL.tl (Txt.join nought acc)).length = acc.length := by
      rw [TL.join_eq, TL.tl_join]
      rw [show TL.tl nought = [] from rfl, joinL_len, List.length_map]
      intro l hl
      obtain ⟨y, hy, rfl⟩ := List.mem_map.mp hl
      obtain ⟨c, rfl, _⟩ := h y hy
      rfl
    rw [len_list]
    exact e
  unfold isN
  rw [hl, decide_eq_true h8, decide_eq_true h1]
  refine List.all_eq_true.mpr fun c hc => ?_
  have hc' : c ∈ TL.tl (Str.join nought acc) := by
    rw [← TL.join_eq]
    exact hc
  rw [TL.tl_join] at hc'
  obtain ⟨l, hl', hcl⟩ := joinL_mem hc'
  obtain ⟨y, hy, rfl⟩ := List.mem_map.mp hl'
  obtain ⟨d, rfl, hd⟩ := h y hy
  have e : c = d := by simpa [TL.tl] using hcl
  rw [e]
  exact hd
theorem sum_ones : ∀ {acc : List Str}, (∀ y ∈ acc, y.length = 1) → (acc.map (·.length)).sum = acc.length
  | [], _ => rfl
  | a :: r, h => by
    rw [List.map_cons, List.sum_cons, h a List.mem_cons_self, sum_ones fun y hy => h y (List.mem_cons_of_mem _ hy), List.length_cons]
    omega
theorem letter_at {d : Int} (h0 : 0 ≤ d) (h1 : d < 26) : ∃ c, letters.cps[d.toNat]? = some c ∧ isLet c = true := by
  have e : ∀ n : Nat, n < 26 → ∃ c, letters.cps[n]? = some c ∧ isLet c = true := by
    intro n hn
    have hs : letters.cps.size = 26 := by decide +kernel
    refine ⟨letters.cps[n]'(by omega), by simp [show n < letters.cps.size by omega], ?_⟩
    unfold isLet
    exact decide_eq_true (by simp)
  exact e d.toNat (by omega)
theorem inV_not {s : Str} {l : List Str} : inV (.str s) (l.map V.str) = decide (s ∈ l) := by
  by_cases h : s ∈ l
  · rw [decide_eq_true h]
    exact inV_mem h
  · rw [decide_eq_false h]
    unfold inV
    rw [List.any_map]
    refine List.any_eq_false.mpr fun y hy => ?_
    simp [eqV]
    intro e
    exact h (e ▸ hy)
/-! ### _law_names -/
abbrev nNames : List Str := ["_law_state", "_law_many", "_law_found", "_law_k", "_law_signs", "_law_word", "_law_j"]
theorem scNames : FnScope nNames ["_law_state", "_law_many"] (defScope sNames) := ⟨rfl, rfl, rfl, by decide +kernel, rfl, by decide +kernel, by decide +kernel⟩
theorem seven {W : Str} {d : Int} (hW : isN W = true) (h0 : 0 ≤ d) (h7 : d < 7) : ∃ z, atI [V.str W, .str "a", .str "b", .str "ab", .str "ba", .str "abc", .str "hidden"] d = some (.str z) ∧ isN z = true := by
  have c : d = 0 ∨ d = 1 ∨ d = 2 ∨ d = 3 ∨ d = 4 ∨ d = 5 ∨ d = 6 := by omega
  rcases c with rfl | rfl | rfl | rfl | rfl | rfl | rfl
  · exact ⟨W, rfl, hW⟩
  all_goals exact ⟨_, rfl, by decide +kernel⟩
section
variable {P : Program} {w : World} {K : PySem.W.Frag} {mg : Str → Option Value} {base : Heap}
def spNames : Sp := fun vs H Q _ => ∃ (p : Addr) (m : Nat) (B : Int), vs = [.ref p, .int m] ∧ 1 ≤ m ∧ m ≤ 8 ∧ Drw H p B ∧ 0 ≤ B ∧ B ≤ 90000 ∧
  ∀ H' l (ys : List Str), Gp p H H' → Drw H' p (B + 160) → H l = none → H' l = some (.lst (ys.map V.str)) → ys.Pairwise lt → (∀ z ∈ ys, isN z = true) → 1 ≤ ys.length → ys.length ≤ m → Q (.ref l) H'
set_option maxHeartbeats 1000000 in
theorem ok_names {f fG : Addr} {fd fdG : FuncData} {k : Nat} (F : Fun K "_law_names" "_law_names" sNames f fd) (DG : Has P w K mg base (k + 2) "_law_digit" ["_law_state", "_law_many"] spDigit fG fdG)
    (mr : mg "range" = none) (ml : mg "len" = none) (ms : mg "sorted" = none) : FnOk P w K mg base CX0 (k + 3) f fd ["_law_state", "_law_many"] spNames := by
  refine F.ok scNames (fun vs H Q E h => ?_) (fun cdv A outer s H vs Q E hr h => ?_)
  · obtain ⟨p, m, B, rfl, _⟩ := h
    rfl
  · obtain ⟨p, m, B, rfl, m1, m8, dr, B0, B9, q⟩ := h
    have nd := scNames.nd
    refine' ⟨_, pss_cons ?s1 (pss_cons ?s2 (pss_one ?s3)), ?rd⟩
    case s1 => exact ps_set (i := 2) nd rfl (.inl rfl) (pe_lst pa_nil)
    case s2 =>
      refine' ps_for PassesOwn.never rfl (pi_range1 (by rfl) mr (pa_cons (pe_op op_mul pe_int (pv 1)) pa_nil)) (pg_name (i := 3) nd rfl (.inl rfl)) (pss_cons ?b1 (pss_cons ?b2 (pss_one ?b3)))
      case b1 =>
        exact ps_setLc (i := 4) (own := [("_law_j", 6)]) (g := gName 6) rfl nd rfl rfl (sw_true rfl rfl rfl (by decide +kernel)) (pi_range1 (by rfl) mr (pa_cons (pe_op op_add pe_int (hcall DG hr (pa_cons (pv 0) (pa_cons pe_int pa_nil)))) pa_nil))
          (blkOk_by (own := [("_law_j", 6)]) (N := nNames) (sc := defScope sNames) (by decide +kernel)) (fun _ _ _ _ _ => pg_name (i := 6) nd rfl (Or.inl rfl)) (fun _ _ _ _ _ => pts_nil)
          (fun _ _ _ _ _ => pe_item_str pe_str (hcall DG hr (pa_cons (pv 0) (pa_cons pe_int pa_nil))) (fun _ _ => rfl))
      case b2 =>
        exact ps_set (i := 5) nd rfl (.inl rfl) (pe_ix ix_list (pe_lst (pa_cons (pe_join pe_str (pv 4)) (pa_cons pe_str (pa_cons pe_str (pa_cons pe_str (pa_cons pe_str (pa_cons pe_str (pa_cons pe_str pa_nil)))))))) (hcall DG hr (pa_cons (pv 0) (pa_cons pe_int pa_nil))) (fun _ _ => rfl))
      case b3 =>
        exact ps_if (PW.pt (pw_and (pt_cmpR op_notIn_seq (pv 5) (pv 2) rfl) (pw_and1 (pt_cmpR op_lt (pe_callB call_len_seq (by rfl) ml PySem.boot_len (pa_cons (pv 2) pa_nil)) (pv 1) (nomark _)))))
          (pss_one (ps_expr (pe_bm PySem.F.plainAttrs_list PySem.F.slot_list_append PySem.F.type_list_append mt_append (pv 2) (pa_cons (pv 5) pa_nil)))) pss_nil
    case s3 => exact ps_ret (pe_callB cr_sortedS (by rfl) ms (by decide +kernel) (pa_cons (pv 2) pa_nil))
    case rd =>
    refine ⟨Nat.zero_le _, fun fl nfl => ?_⟩
    have nfp : fl ≠ p := dr.ne nfl
    refine ⟨_, rfl, 2, m, rfl, rfl, .inl ⟨by decide, by decide⟩, _, rfl, by omega, by omega, ?_⟩
    refine for_it (walk_range (lo := 0) (n := ((2 : Int) * (m : Int)).toNat)) (fun i σ H1 => ∃ (ys : List Str) (y3 y4 y5 : Option V), σ = [some (.ref p), some (.int m), some (.ref fl), y3, y4, y5, none] ∧
      H1 fl = some (.lst (ys.map V.str)) ∧ Gp p H H1 ∧ Drw H1 p (B + 10 * (i : Nat)) ∧ ys.Nodup ∧ (∀ z ∈ ys, isN z = true) ∧ ys.length ≤ m ∧ (1 ≤ i → 1 ≤ ys.length))
      ⟨[], none, none, none, rfl, upd_same, Gp.gr (Gr.new nfl), (dr.new nfl).mono (by omega), List.nodup_nil, by simp, by simp, fun h => by omega⟩ (fun _ _ _ _ _ => trivial) ?h2 ?h3
    case h3 =>
      rintro σ H1 ⟨ys, y3, y4, y5, rfl, hf, gp, dr1, ndy, hn, hm, h1⟩
      refine ⟨_, rfl, fl, ys, rfl, .inl (.inl hf), by omega, fun zs r pm so nr => ?_⟩
      have len : zs.length = ys.length := pm.length_eq
      have nr' : H r = none := gp.back r (dr1.ne nr) nr
      refine q _ r zs (gp.trans (Gp.gr (Gr.new nr))) ((dr1.new nr).mono (by omega)) nr' upd_same (sorted_up so pm ndy) (fun z hz => hn z (pm.mem_iff.mp hz)) ?_ (by omega)
      rw [len]
      exact h1 (by omega)
    case h2 =>
      rintro i x σ H1 H1' hi ⟨ys, y3, y4, y5, rfl, hf, gp, dr1, ndy, hn, hm, h1⟩ ⟨rfl, rfl⟩
      -- signs
      refine ⟨_, rfl, p, 8, _, rfl, dr1, by omega, by decide, by decide, fun H2 d b2 dr2 d0 d8 => ?_⟩
      refine ⟨1, d, rfl, rfl, _, rfl, by omega, by omega, fun D nD => ?_⟩
      have gp2 : Gp p H H2 := gp.trans (Gp.but b2)
      have hf2 : H2 fl = some (.lst (ys.map V.str)) := (b2 fl nfp).trans hf
      have nDp : D ≠ p := dr2.ne nD
      refine lc_it (walk_range (lo := 0) (n := (1 + d).toNat)) (fun j H5 => ∃ acc : List Str, H5 D = some (.lst (acc.map V.str)) ∧ acc.length = j ∧ (∀ y ∈ acc, one y) ∧ Gp p H2 H5 ∧ Drw H5 p (B + 10 * (i : Nat) + 1 + (j : Nat))) ?w0 (fun _ _ _ _ => trivial) ?w1 ?w2
      case w0 => exact ⟨[], upd_same, rfl, by simp, Gp.gr (Gr.new nD), (dr2.new nD).mono (by omega)⟩
      case w1 =>
        rintro j x H5 H5' hj ⟨acc, hD5, hl5, hacc, gp5, dr5⟩ ⟨rfl, rfl⟩
        refine ⟨rfl, ?_⟩
        unfold tYes
        refine iteT ?_
        refine ⟨_, rfl, p, 26, _, rfl, dr5, by omega, by decide, by decide, fun H6 d6 b6 dr6 e0 e26 => ?_⟩
        obtain ⟨c, ec6, ac6⟩ := letter_at e0 e26
        refine ⟨letters, d6, c, rfl, rfl, e0, by omega, ?_, ec6, acc.map V.str, (b6 D nDp).trans hD5, ?_, acc ++ [⟨#[c]⟩], ?_, ?_, ?_, ?_, ?_⟩
        · have : letters.length = 26 := by decide +kernel
          rw [this]
          exact e26
        · rw [List.length_map]
          exact small1000 (by omega)
        · rw [upd_same, List.map_append]
          rfl
        · rw [List.length_append, hl5]
          rfl
        · intro y hy
          rcases List.mem_append.mp hy with h | h
          · exact hacc y h
          · exact ⟨c, by simpa using h, ac6⟩
        · exact Gp.upd_new (gp5.trans (Gp.but b6)) nD
        · exact (dr6.upd nDp).mono (by omega)
      case w2 =>
      rintro H5 ⟨acc, hD5, hl5, hacc, gp5, dr5⟩
      have hf5 : H5 fl = some (.lst (ys.map V.str)) := gp5.lst nfp hf2
      have gpa : Gp p H H5 := gp2.trans gp5
      -- word
      refine ⟨⟨_, rfl⟩, _, rfl, nought, D, acc, rfl, rfl, .inl (.inl (.inl hD5)), ?_, ?_⟩
      · rw [sum_ones fun y hy => by obtain ⟨c, rfl, _⟩ := hacc y hy; rfl]
        show acc.length + acc.length * 0 ≤ 16777216
        omega
      have hW := join_name hacc (by omega) (by omega)
      generalize Txt.join nought acc = W at hW ⊢
      refine ⟨by show 7 ≤ sizeLine; decide, fun wl nwl => ?_⟩
      have g6 : Gr H5 (upd H5 wl (.lst [.str W, .str "a", .str "b", .str "ab", .str "ba", .str "abc", .str "hidden"])) := Gr.new nwl
      have hwl : upd H5 wl (.lst [.str W, .str "a", .str "b", .str "ab", .str "ba", .str "abc", .str "hidden"]) wl = some (.lst [.str W, .str "a", .str "b", .str "ab", .str "ba", .str "abc", .str "hidden"]) := upd_same
      have nwp : wl ≠ p := dr5.ne nwl
      generalize upd H5 wl (.lst [.str W, .str "a", .str "b", .str "ab", .str "ba", .str "abc", .str "hidden"]) = H6 at g6 hwl ⊢
      refine ⟨_, rfl, p, 7, _, rfl, dr5.gr g6, by omega, by decide, by decide, fun H7 d7 b7 dr7 z0 z7 => ?_⟩
      obtain ⟨z, ez, gz⟩ := seven hW z0 z7
      refine ⟨wl, _, d7, .str z, rfl, rfl, .inl (.inl ((b7 wl nwp).trans hwl)), ez, ?_⟩
      have gp7 : Gp p H H7 := (gpa.trans (Gp.gr g6)).trans (Gp.but b7)
      have hf7 : H7 fl = some (.lst (ys.map V.str)) := (b7 fl nfp).trans (g6.lst hf5)
      have dr7' : Drw H7 p (B + 10 * ((i + 1 : Nat) : Int)) := dr7.mono (by omega)
      -- found
      refine ⟨_, rfl, _, rfl, fl, _, rfl, .inl (.inl (.inl hf7)), rfl, flat_strs ys, _, rfl, ?_⟩
      show if (!inV (.str z) (ys.map V.str)) = true then _ else _
      rw [inV_not]
      by_cases hz : z ∈ ys
      · rw [decide_eq_true hz]
        refine iteF (iteF ⟨ys, _, _, _, rfl, hf7, gp7, dr7', ndy, hn, hm, fun _ => List.length_pos_of_mem hz⟩)
      · rw [decide_eq_false hz]
        refine iteT ⟨_, rfl, fl, _, rfl, .inl (.inl (.inl hf7)), _, rfl, _, _, rfl, rfl, _, rfl, ?_⟩
        rw [List.length_map]
        by_cases hl : (ys.length : Int) < (m : Int)
        · rw [decide_eq_true hl]
          refine iteT ⟨_, rfl, .inl ⟨rfl, _, .inl (.inl hf7)⟩, _, rfl, fl, _, _, rfl, rfl, hf7, ?_, ?_⟩
          · rw [List.length_map]
            exact small1000 (by omega)
          · refine ⟨ys ++ [z], _, _, _, rfl, ?_, gp7.upd_new nfl, dr7'.upd nfp, ?_, ?_, ?_, fun _ => by simp⟩
            · rw [upd_same, List.map_append]
              rfl
            · rw [List.nodup_append]
              refine ⟨ndy, by simp, ?_⟩
              intro a ha b hb
              have : b = z := by simpa using hb
              rw [this]
              exact fun e => hz (e ▸ ha)
            · intro y hy
              rcases List.mem_append.mp hy with h | h
              · exact hn y h
              · have : y = z := by simpa using h
                rw [this]
                exact gz
            · rw [List.length_append]
              show ys.length + 1 ≤ m
              omega
        · rw [decide_eq_false hl]
          refine iteF ⟨ys, _, _, _, rfl, hf7, gp7, dr7', ndy, hn, hm, fun _ => by omega⟩
end
end SfC
namespace SfC
open PySem PySem.Spec PyProof.Rows L2 SfG
abbrev nLKind : List Str := ["_law_state", "_law_hidden", "_law_own"]
theorem scLKind : FnScope nLKind ["_law_state", "_law_hidden"] (defScope sLKind) := ⟨rfl, rfl, rfl, by decide +kernel, rfl, by decide +kernel, by decide +kernel⟩
theorem kind_at {hd : List Str} {own : Int} (h2 : 2 ≤ own) (h9 : own ≤ 9) {v : V} (hv : v ∈ (hd.map V.str ++ hd.map V.str) ++ [V.int 2, .int 9, .int own]) : ∃ k : Kn, goK hd k ∧ v = k.v := by
  rcases List.mem_append.mp hv with h | h
  · have h' : v ∈ hd.map V.str := by
      rcases List.mem_append.mp h with h | h <;> exact h
    obtain ⟨z, hz, rfl⟩ := List.mem_map.mp h'
    exact ⟨.h z, hz, rfl⟩
  · have h' : v = .int 2 ∨ v = .int 9 ∨ v = .int own := by simpa using h
    rcases h' with rfl | rfl | rfl
    · exact ⟨.p 2, ⟨by decide, by decide⟩, rfl⟩
    · exact ⟨.p 9, ⟨by decide, by decide⟩, rfl⟩
    · exact ⟨.p own, ⟨h2, h9⟩, rfl⟩
section
variable {P : Program} {w : World} {K : PySem.W.Frag} {mg : Str → Option Value} {base : Heap}
theorem Drw.kd {H H' : Hp} {p : Addr} {B : Int} (d : Drw H p B) (g : Gp p H H') : Kd K H H' := by
  obtain ⟨l, s, t, e, _⟩ := d
  exact g.kd e
def spLKind (K : PySem.W.Frag) : Sp := fun vs H Q _ => ∃ (p ph : Addr) (hd : List Str) (B : Int), vs = [.ref p, .ref ph] ∧ SqT K H ph (hd.map V.str) ∧ hd.length ≤ 2 ∧ Drw H p B ∧ 0 ≤ B ∧ B ≤ 90000 ∧
  ∀ H' (k : Kn), Gp p H H' → Drw H' p (B + 2) → goK hd k → Q k.v H'
theorem ok_lkind {f fG : Addr} {fd fdG : FuncData} {k : Nat} (F : Fun K "_law_kind" "_law_kind" sLKind f fd) (DG : Has P w K mg base (k + 2) "_law_digit" ["_law_state", "_law_many"] spDigit fG fdG)
    (ml : mg "len" = none) (mt : mg "list" = none) : FnOk P w K mg base CX0 (k + 3) f fd ["_law_state", "_law_hidden"] (spLKind K) := by
  refine F.ok scLKind (fun vs H Q E h => ?_) (fun cdv A outer s H vs Q E hr h => ?_)
  · obtain ⟨p, ph, hd, B, rfl, _⟩ := h
    rfl
  · obtain ⟨p, ph, hd, B, rfl, hph, h2, dr, B0, B9, q⟩ := h
    have nd := scLKind.nd
    refine ⟨_, pss_cons (ps_set (i := 2) nd rfl (.inl rfl) (pe_op op_add pe_int (hcall DG hr (pa_cons (pv 0) (pa_cons pe_int pa_nil)))))
      (pss_one (ps_ret (pe_ix ix_list (pe_op op_cat (pe_op op_cat (pe_callTy call_list_of (by rfl) mt (by decide +kernel) (pa_cons (pv 1) pa_nil)) (pe_callTy call_list_of (by rfl) mt (by decide +kernel) (pa_cons (pv 1) pa_nil))) (pe_lst (pa_cons pe_int (pa_cons pe_int (pa_cons (pv 2) pa_nil)))))
        (hcall DG hr (pa_cons (pv 0) (pa_cons (pe_op op_add (pe_op op_mul pe_int (pe_callB call_len_seq (by rfl) ml PySem.boot_len (pa_cons (pv 1) pa_nil))) pe_int) pa_nil))) (fun _ _ => rfl)))), ?_⟩
    refine ⟨_, rfl, p, 8, _, rfl, dr, by omega, by decide, by decide, fun H1 d b1 dr1 d0 d8 => ?_⟩
    refine ⟨2, d, rfl, rfl, ?_⟩
    have gp1 : Gp p H H1 := Gp.but b1
    have hph1 := (dr.kd (K := K) gp1).t hph
    refine ⟨_, rfl, ph, _, rfl, .inr hph1, fun l1 n1 => ?_⟩
    have g2 : Gr H1 (upd H1 l1 (.lst (hd.map V.str))) := Gr.new n1
    have e1 : upd H1 l1 (.lst (hd.map V.str)) l1 = some (.lst (hd.map V.str)) := upd_same
    generalize upd H1 l1 (.lst (hd.map V.str)) = H2 at g2 e1 ⊢
    refine ⟨_, rfl, ph, _, rfl, .inr (g2.sqt hph1), fun l2 n2 => ?_⟩
    have g3 : Gr H2 (upd H2 l2 (.lst (hd.map V.str))) := Gr.new n2
    have e2 : upd H2 l2 (.lst (hd.map V.str)) l2 = some (.lst (hd.map V.str)) := upd_same
    generalize upd H2 l2 (.lst (hd.map V.str)) = H3 at g3 e2 ⊢
    refine ⟨l1, l2, _, _, rfl, rfl, g3.lst e1, e2, by rw [List.length_map, sizeLine_eq]; omega, fun l3 n3 => ?_⟩
    have g4 : Gr H3 (upd H3 l3 (.lst (hd.map V.str ++ hd.map V.str))) := Gr.new n3
    have e3 : upd H3 l3 (.lst (hd.map V.str ++ hd.map V.str)) l3 = some (.lst (hd.map V.str ++ hd.map V.str)) := upd_same
    generalize upd H3 l3 (.lst (hd.map V.str ++ hd.map V.str)) = H4 at g4 e3 ⊢
    refine ⟨_, rfl, by show 3 ≤ sizeLine; decide, fun l4 n4 => ?_⟩
    have g5 : Gr H4 (upd H4 l4 (.lst [.int 2, .int 9, .int (2 + d)])) := Gr.new n4
    have e4 : upd H4 l4 (.lst [.int 2, .int 9, .int (2 + d)]) l4 = some (.lst [.int 2, .int 9, .int (2 + d)]) := upd_same
    generalize upd H4 l4 (.lst [.int 2, .int 9, .int (2 + d)]) = H5 at g5 e4 ⊢
    refine ⟨l3, l4, _, _, rfl, rfl, g5.lst e3, e4, ?_, fun l5 n5 => ?_⟩
    · rw [List.length_append, List.length_map, sizeLine_eq]
      show _ + 3 ≤ _
      omega
    have hlen : ((hd.map V.str ++ hd.map V.str) ++ [V.int 2, .int 9, .int (2 + d)]).length = 2 * hd.length + 3 := by
      rw [List.length_append, List.length_append, List.length_map]
      show _ + 3 = _
      omega
    have hmem := fun (v : V) (hv : v ∈ (hd.map V.str ++ hd.map V.str) ++ [V.int 2, .int 9, .int (2 + d)]) => kind_at (hd := hd) (show 2 ≤ 2 + d by omega) (show 2 + d ≤ 9 by omega) hv
    generalize (hd.map V.str ++ hd.map V.str) ++ [V.int 2, .int 9, .int (2 + d)] = its at hlen hmem ⊢
    have g6 : Gr H5 (upd H5 l5 (.lst its)) := Gr.new n5
    have e5 : upd H5 l5 (.lst its) l5 = some (.lst its) := upd_same
    generalize upd H5 l5 (.lst its) = H6 at g6 e5 ⊢
    have g16 : Gr H1 H6 := g2.trans (g3.trans (g4.trans (g5.trans g6)))
    have dr6 := dr1.gr g16
    have n5p : l5 ≠ p := by
      intro z
      obtain ⟨l, s, t, e, _⟩ := dr6
      rw [← z, e5] at e
      cases e
    refine ⟨_, rfl, _, rfl, ph, _, rfl, .inr (g16.sqt hph1), 2, _, rfl, rfl, .inl ⟨by decide, by decide⟩, _, 3, rfl, rfl, ?_⟩
    rw [List.length_map]
    refine ⟨p, _, _, rfl, dr6, by omega, by omega, by omega, fun H7 d7 b7 dr7 z0 z7 => ?_⟩
    have hi : d7.toNat < its.length := by omega
    obtain ⟨kn, gk, ek⟩ := hmem its[d7.toNat] (List.getElem_mem hi)
    refine ⟨l5, its, d7, kn.v, rfl, rfl, .inl (.inl ((b7 l5 n5p).trans e5)), ?_, ?_⟩
    · have := atI_nat (xs := its) (j := d7.toNat) (by rw [List.getElem?_eq_getElem hi, ek])
      rw [Int.toNat_of_nonneg z0] at this
      exact this
    · exact q H7 kn ((gp1.trans (Gp.gr g16)).trans (Gp.but b7)) (dr7.mono (by omega)) gk
end
/-! ### a list that is changed: what deeds are stays -/
theorem de_lst {K : PySem.W.Frag} {H : Hp} {l : Addr} {xs zs : List V} {x : V} {e : De} (hl : H l = some (.lst xs)) (h : Dp K H x e.d) : Dp K (upd H l (.lst zs)) x e.d := by
  obtain ⟨p, a, b, c, rfl, hp, ha, hb, hc⟩ := dp_3 h
  cases dp_str ha
  cases dp_kn hc
  obtain ⟨pt, ts, rfl, hpt, hts⟩ := dp_tup hb
  cases dpA_kns hts
  refine .tup (sqt_lst hl hp) (.cons (.str _) (.cons (.tup (sqt_lst hl hpt) ?_) (.cons ?_ .nil)))
  · generalize e.tk = l'
    induction l' with
    | nil => exact .nil
    | cons k r ih =>
      refine .cons ?_ ih
      cases k with
      | h s => exact .str s
      | p n => exact .int n
  · generalize e.gv = k
    cases k with
    | h s => exact .str s
    | p n => exact .int n
theorem des_lst {K : PySem.W.Frag} {H : Hp} {l : Addr} {xs zs : List V} (hl : H l = some (.lst xs)) : ∀ {es : List De} {ys : List V}, DpAll K H ys (es.map De.d) → DpAll K (upd H l (.lst zs)) ys (es.map De.d)
  | [], _, h => by
    cases h
    exact .nil
  | e :: r, _, h => by
    obtain ⟨x, t, rfl, hx, ht⟩ := dpA_cons h
    exact .cons (de_lst hl hx) (des_lst hl ht)
theorem dp_kv {K : PySem.W.Frag} {H : Hp} (k : Kn) : Dp K H k.v k.d := by
  cases k with
  | h s => exact .str s
  | p n => exact .int n
theorem dpA_kv {K : PySem.W.Frag} {H : Hp} : ∀ l : List Kn, DpAll K H (l.map Kn.v) (l.map Kn.d)
  | [] => .nil
  | k :: r => .cons (dp_kv k) (dpA_kv r)
theorem dpA_sv {K : PySem.W.Frag} {H : Hp} : ∀ l : List Str, DpAll K H (l.map V.str) (l.map PyData.str)
  | [] => .nil
  | k :: r => .cons (.str k) (dpA_sv r)
theorem flat_kn (k : Kn) : flatV k.v = true := by
  cases k <;> rfl
theorem in_kn {hd : List Str} {k : Kn} (h : goK hd k) : inV k.v (hd.map V.str) = k.isH := by
  cases k with
  | h s => exact inV_mem h
  | p n =>
    show inV (.int n) (hd.map V.str) = false
    unfold inV
    rw [List.any_map]
    exact List.any_eq_false.mpr fun y hy => by simp [eqV]
end SfC
namespace SfC
open PySem PySem.Spec PyProof.Rows L2 SfG
abbrev nFace : List Str := ["_law_state", "_law_most", "_law_hidden", "_law_deeds", "_law_name", "_law_takes", "_law_k", "_law_kind_here", "_law_own", "_law_one"]
theorem scFace : FnScope nFace ["_law_state", "_law_most"] (defScope sFace) := ⟨rfl, rfl, rfl, by decide +kernel, rfl, by decide +kernel, by decide +kernel⟩
section
variable {P : Program} {w : World} {K : PySem.W.Frag} {mg : Str → Option Value} {base : Heap}
def spFace (K : PySem.W.Frag) : Sp := fun vs H Q _ => ∃ (p : Addr) (m : Nat) (B : Int), vs = [.ref p, .int m] ∧ 1 ≤ m ∧ m ≤ 8 ∧ Drw H p B ∧ 0 ≤ B ∧ B ≤ 80000 ∧
  ∀ H' v f, Gp p H H' → Drw H' p (B + 500) → Dp K H' v (Fc.d f) → goF f → Q v H'
set_option maxHeartbeats 2000000 in
theorem ok_face {f fG fN fK : Addr} {fd fdG fdN fdK : FuncData} {k : Nat} (F : Fun K "_law_face" "_law_face" sFace f fd) (DG : Has P w K mg base (k + 3) "_law_digit" ["_law_state", "_law_many"] spDigit fG fdG)
    (HN : Has P w K mg base (k + 3) "_law_names" ["_law_state", "_law_many"] spNames fN fdN) (HK : Has P w K mg base (k + 3) "_law_kind" ["_law_state", "_law_hidden"] (spLKind K) fK fdK)
    (mr : mg "range" = none) (ml : mg "len" = none) (mt : mg "tuple" = none) : FnOk P w K mg base CX0 (k + 4) f fd ["_law_state", "_law_most"] (spFace K) := by
  refine F.ok scFace (fun vs H Q E h => ?_) (fun cdv A outer s H vs Q E hr h => ?_)
  · obtain ⟨p, m, B, rfl, _⟩ := h
    rfl
  · obtain ⟨p, m, B, rfl, m1, m8, dr, B0, B9, q⟩ := h
    have nd := scFace.nd
    refine' ⟨_, pss_cons ?s1 (pss_cons ?s2 (pss_cons ?s3 (pss_one ?s4))), ?rd⟩
    case s1 => exact ps_set (i := 2) nd rfl (.inr rfl) (pe_callTy call_tuple_of (by rfl) mt (by decide +kernel) (pa_cons (hcall HN hr (pa_cons (pv 0) (pa_cons (pe_op op_add pe_int (hcall DG hr (pa_cons (pv 0) (pa_cons pe_int pa_nil)))) pa_nil))) pa_nil))
    case s2 => exact ps_set (i := 3) nd rfl (.inl rfl) (pe_lst pa_nil)
    case s3 =>
      refine' ps_for PassesOwn.never rfl (pi_list (hcall HN hr (pa_cons (pv 0) (pa_cons (pe_op op_add pe_int (hcall DG hr (pa_cons (pv 0) (pa_cons (pv 1) pa_nil)))) pa_nil)))) (pg_name (i := 4) nd rfl (.inl rfl)) (pss_cons ?b1 (pss_cons ?b2 (pss_one ?b3)))
      case b1 => exact ps_set (i := 5) nd rfl (.inl rfl) (pe_lst pa_nil)
      case b2 =>
        refine' ps_for PassesOwn.never rfl (pi_range1 (by rfl) mr (pa_cons (hcall DG hr (pa_cons (pv 0) (pa_cons pe_int pa_nil))) pa_nil)) (pg_name (i := 6) nd rfl (.inl rfl)) (pss_cons ?c1 (pss_one ?c2))
        case c1 => exact ps_par (i := 7) (j := 8) rfl nd rfl rfl (by decide) rfl rfl (pa_cons (hcall HK hr (pa_cons (pv 0) (pa_cons (pv 2) pa_nil))) (pa_cons (pe_op op_add pe_int (hcall DG hr (pa_cons (pv 0) (pa_cons pe_int pa_nil)))) pa_nil)) (by rfl)
        case c2 =>
          exact ps_expr (pe_bm PySem.F.plainAttrs_list PySem.F.slot_list_append PySem.F.type_list_append mt_append (pv 5) (pa_cons (pe_ifExp (pt_cmpR op_eq (pe_callB call_len_seq (by rfl) ml PySem.boot_len (pa_cons
            (pe_lc (own := [("_law_one", 9)]) (g := gName 9) rfl nd (pi_list (pv 5)) (blkOk_by (own := [("_law_one", 9)]) (N := nFace) (sc := defScope sFace) (by decide +kernel)) (fun _ _ _ _ _ => pg_name (i := 9) nd rfl (Or.inl rfl))
              (fun _ _ _ _ _ => pts_one (pt_cmpR (r := rIn K false) op_in_seq (pv 9) (pv 2) rfl)) (fun _ _ _ _ _ => pv 9)) pa_nil)) pe_int (nomark _)) (pv 8) (pv 7)) pa_nil))
      case b3 =>
        exact ps_expr (pe_bm PySem.F.plainAttrs_list PySem.F.slot_list_append PySem.F.type_list_append mt_append (pv 3) (pa_cons (pe_tup (pa_cons (pv 4) (pa_cons (pe_callTy call_tuple_of (by rfl) mt (by decide +kernel) (pa_cons (pv 5) pa_nil)) (pa_cons (hcall HK hr (pa_cons (pv 0) (pa_cons (pv 2) pa_nil))) pa_nil)))) pa_nil))
    case s4 => exact ps_ret (pe_tup (pa_cons (pv 2) (pa_cons (pe_callTy call_tuple_of (by rfl) mt (by decide +kernel) (pa_cons (pv 3) pa_nil)) pa_nil)))
    case rd =>
    -- hidden
    refine ⟨_, rfl, _, rfl, p, 2, _, rfl, dr, by omega, by decide, by decide, fun H1 d b1 dr1 d0 d2 => ?_⟩
    refine ⟨1, d, rfl, rfl, ?_⟩
    have c1 : (1 : Int) + d = (((1 + d).toNat : Nat) : Int) := by omega
    refine ⟨p, (1 + d).toNat, _, (by show [V.ref p, V.int (1 + d)] = [V.ref p, V.int (((1 + d).toNat : Nat) : Int)]; rw [← c1]), by omega, by omega, dr1, by omega, by omega, fun H2 l hd g2 dr2 nl hl up hn h1 h2 => ?_⟩
    refine ⟨l, _, rfl, .inl ⟨.inl (.inl hl), fun ph nph => ?_⟩⟩
    have gp3 : Gp p H (upd H2 ph (.tup (hd.map V.str))) := ((Gp.but b1).trans g2).trans (Gp.gr (Gr.new nph))
    have dr3 : Drw (upd H2 ph (.tup (hd.map V.str))) p (B + 161) := (dr2.new nph).mono (by omega)
    have hph : upd H2 ph (.tup (hd.map V.str)) ph = some (.tup (hd.map V.str)) := upd_same
    have gh : goH hd := ⟨h1, by omega, hn, up⟩
    generalize upd H2 ph (.tup (hd.map V.str)) = H3 at gp3 dr3 hph ⊢
    clear hl nl nph g2 dr2 b1 dr1
    refine ⟨Nat.zero_le _, fun dl ndl => ?_⟩
    have ndp : dl ≠ p := dr3.ne ndl
    -- names of deeds
    refine ⟨_, rfl, _, rfl, _, rfl, p, m, _, rfl, dr3.new ndl, by omega, by omega, by omega, fun H4 d4 b4 dr4 e0 e1 => ?_⟩
    refine ⟨1, d4, rfl, rfl, ?_⟩
    have c4 : (1 : Int) + d4 = (((1 + d4).toNat : Nat) : Int) := by omega
    refine ⟨p, (1 + d4).toNat, _, (by show [V.ref p, V.int (1 + d4)] = [V.ref p, V.int (((1 + d4).toNat : Nat) : Int)]; rw [← c4]), by omega, by omega, dr4, by omega, by omega, fun H5 nl ns g5 dr5 nnl hnl upn hnn n1 n2 => ?_⟩
    have nlp : nl ≠ p := dr4.ne nnl
    have gp5 : Gp p H3 H5 := ((Gp.gr (Gr.new ndl)).trans (Gp.but b4)).trans g5
    have hdl5 : H5 dl = some (.lst []) := g5.lst ndp ((b4 dl ndp).trans upd_same)
    have hph5 : H5 ph = some (.tup (hd.map V.str)) := by
      have z := (dr3.kd (K := K) gp5).t (.inl (.inl hph))
      exact gp5.keep ph _ (by intro z; obtain ⟨_, _, _, e, _⟩ := dr3; rw [← z, hph] at e; cases e) hph (fun _ z => by cases z)
    have hne : nl ≠ dl := by
      intro z
      rw [z] at nnl
      have z2 := (b4 dl ndp).trans (upd_same (H := H3) (a := dl) (o := .lst []))
      rw [nnl] at z2
      cases z2
    have php : ph ≠ p := by
      intro z
      obtain ⟨_, _, _, e, _⟩ := dr3
      rw [← z, hph] at e
      cases e
    have drF : Drw H5 p (B + 322) := dr5.mono (by omega)
    have gpF : Gp p H H5 := gp3.trans gp5
    have ndlH : H dl = none := gp3.back dl ndp ndl
    clear b4 dr4 g5 dr5 gp5
    have n8 : ns.length ≤ 8 := by omega
    refine ⟨nl, rfl, ⟨_, .inl (.inl hnl)⟩, ?_⟩
    refine for_it (walk_list (xs := ns.map V.str)) (fun i σ H6 => ∃ (es : List De) (xs : List V) (y4 y5 y6 y7 y8 : Option V), σ = [some (.ref p), some (.int m), some (.ref ph), some (.ref dl), y4, y5, y6, y7, y8, none] ∧
      H6 dl = some (.lst xs) ∧ DpAll K H6 xs (es.map De.d) ∧ es.map De.nm = ns.take i ∧ (∀ e ∈ es, goD hd e) ∧ H6 nl = some (.lst (ns.map V.str)) ∧ H6 ph = some (.tup (hd.map V.str)) ∧ Gp p H H6 ∧ Drw H6 p (B + 322 + 13 * (i : Nat)))
      ⟨[], [], none, none, none, none, none, rfl, hdl5, .nil, rfl, by simp, hnl, hph5, gpF, drF.mono (by omega)⟩ ?h1 ?h2 ?h3
    case h1 =>
      rintro i σ H6 hi ⟨es, xs, y4, y5, y6, y7, y8, rfl, _, _, _, _, hn6, _⟩
      exact .inl (.inl hn6)
    case h3 =>
      rintro σ H6 ⟨es, xs, y4, y5, y6, y7, y8, rfl, hd6, da6, nm6, ok6, hn6, hp6, g6, dr6⟩
      rw [List.length_map, List.take_length] at nm6
      have lxs : xs.length = ns.length := by
        have := dpA_len da6
        rw [List.length_map] at this
        rw [this, ← nm6, List.length_map]
      have les : es.length = ns.length := by rw [← nm6, List.length_map]
      refine ⟨_, rfl, _, rfl, dl, _, rfl, .inl ⟨.inl (.inl hd6), fun td ntd => ?_⟩⟩
      have g7 : Gr H6 (upd H6 td (.tup xs)) := Gr.new ntd
      have e7 : upd H6 td (.tup xs) td = some (.tup xs) := upd_same
      generalize upd H6 td (.tup xs) = H7 at g7 e7 ⊢
      refine ⟨by show 2 ≤ sizeLine; decide, fun tf ntf => ?_⟩
      have g8 : Gr H7 (upd H7 tf (.tup [.ref ph, .ref td])) := Gr.new ntf
      refine q _ (.ref tf) ⟨hd, es⟩ (g6.trans (Gp.gr (g7.trans g8))) (((dr6.gr g7).gr g8).mono ?_) ?_ ?_
      · rw [List.length_map]
        omega
      · exact .tup (.inl (.inl upd_same)) (.cons (.tup (.inl (.inl (g8.tup (g7.tup hp6)))) (dpA_sv hd)) (.cons (.tup (.inl (.inl (g8.tup e7))) ((g7.trans g8).kd.dpA da6)) .nil))
      · exact ⟨gh, by show 1 ≤ es.length; omega, by show es.length ≤ 8; omega, by show (es.map De.nm).Pairwise lt; rw [nm6]; exact upn, ok6⟩
    case h2 =>
      rintro i x σ H6' H6 hi ⟨es, xs, y4, y5, y6, y7, y8, rfl, hd6, da6, nm6, ok6, hn6, hp6, g6, dr6⟩ ⟨rfl, hx⟩
      rw [List.length_map] at hi
      rw [List.getElem?_map] at hx
      obtain ⟨nm, hnm, rfl⟩ := Option.map_eq_some_iff.mp hx
      have gnm := hnn nm (List.mem_of_getElem? hnm)
      have lxs : xs.length ≤ 8 := by
        have a1 := dpA_len da6
        rw [List.length_map] at a1
        have a2 : es.length = (ns.take i).length := by rw [← nm6, List.length_map]
        rw [List.length_take] at a2
        omega
      -- takes
      refine ⟨Nat.zero_le _, fun tl ntl => ?_⟩
      have ntp : tl ≠ p := dr6.ne ntl
      refine ⟨_, rfl, p, 4, _, rfl, dr6.new ntl, by omega, by decide, by decide, fun H7 d7 b7 dr7 f0 f4 => ?_⟩
      have gp7 : Gp p H6 H7 := (Gp.gr (Gr.new ntl)).trans (Gp.but b7)
      have htl7 : H7 tl = some (.lst []) := (b7 tl ntp).trans upd_same
      refine ⟨_, rfl, by omega, by omega, ?_⟩
      refine for_it (walk_range (lo := 0) (n := d7.toNat)) (fun j σ H8 => ∃ (ks : List Kn) (y6 y7 y8 : Option V), σ = [some (.ref p), some (.int m), some (.ref ph), some (.ref dl), some (.str nm), some (.ref tl), y6, y7, y8, none] ∧
        H8 tl = some (.lst (ks.map Kn.v)) ∧ ks.length = j ∧ (∀ k ∈ ks, goK hd k) ∧ hidN ks ≤ 2 ∧ Gp p H6 H8 ∧ Drw H8 p (B + 322 + 13 * (i : Nat) + 1 + 3 * (j : Nat)))
        ⟨[], _, _, _, rfl, htl7, rfl, by simp, by decide, gp7, dr7.mono (by omega)⟩ (fun _ _ _ _ _ => trivial) ?i2 ?i3
      case i2 =>
        rintro j x σ H8' H8 hj ⟨ks, z6, z7, z8, rfl, ht8, lk, gk8, hk8, g8, dr8⟩ ⟨rfl, rfl⟩
        have hp8 : H8 ph = some (.tup (hd.map V.str)) := g8.keep ph _ php hp6 (fun _ z => by cases z)
        refine ⟨_, rfl, _, rfl, p, ph, hd, _, rfl, .inl (.inl hp8), gh.hi, dr8, by omega, by omega, fun H9 kn g9 dr9 gkn => ?_⟩
        refine ⟨_, rfl, p, 8, _, rfl, dr9, by omega, by decide, by decide, fun H10 d10 b10 dr10 o0 o8 => ?_⟩
        refine ⟨2, d10, rfl, rfl, _, _, rfl, ?_⟩
        have g10 : Gp p H8 H10 := g9.trans (Gp.but b10)
        have ht10 : H10 tl = some (.lst (ks.map Kn.v)) := g10.lst ntp ht8
        have hp10 : H10 ph = some (.tup (hd.map V.str)) := g10.keep ph _ php hp8 (fun _ z => by cases z)
        -- how many are hidden so far
        refine ⟨_, rfl, .inl ⟨rfl, _, .inl (.inl ht10)⟩, _, rfl, tl, rfl, ⟨_, .inl (.inl ht10)⟩, fun D nD => ?_⟩
        have nDt : tl ≠ D := ne_of_none ht10 nD
        have gD : ∀ o, Gr H10 (upd H10 D o) := fun o => Gr.new nD
        refine lc_it (walk_list (xs := ks.map Kn.v)) (fun a H11 => H11 = upd H10 D (.lst (((ks.take a).filter Kn.isH).map Kn.v))) rfl ?l0 ?l1 ?l2
        case l0 =>
          rintro a H11 ha rfl
          exact .inl (.inl ((gD _).lst ht10))
        case l1 =>
          rintro a v H11 H11' ha rfl ⟨rfl, hv⟩
          rw [List.getElem?_map] at hv
          obtain ⟨ka, hka, rfl⟩ := Option.map_eq_some_iff.mp hv
          refine ⟨rfl, _, rfl, _, rfl, ph, _, rfl, .inr (.inl (.inl ((gD _).tup hp10))), flat_kn ka, flat_strs hd, _, rfl, ?_⟩
          show if inV ka.v (hd.map V.str) = true then _ else _
          rw [in_kn (gk8 ka (List.mem_of_getElem? hka))]
          have ek : (ks.take (a + 1)).filter Kn.isH = (ks.take a).filter Kn.isH ++ (if ka.isH = true then [ka] else []) := by
            rw [List.take_add_one, hka, List.filter_append]
            cases h : ka.isH <;> simp [h]
          cases h : ka.isH with
          | true =>
            rw [h] at ek
            refine iteT ⟨_, rfl, _, upd_same, ?_, ?_⟩
            · rw [List.length_map]
              have a1 := List.length_filter_le Kn.isH (ks.take a)
              rw [List.length_take] at a1
              exact small1000 (by omega)
            · rw [upd_upd, ek, List.map_append]
              rfl
          | false =>
            rw [h] at ek
            refine iteF ?_
            show _ = _
            rw [ek, if_neg (by decide), List.append_nil]
        case l2 =>
        rintro H11 rfl
        rw [List.length_map, List.take_length]
        refine ⟨D, _, rfl, .inl (.inl (.inl upd_same)), rfl, _, rfl, ?_⟩
        rw [List.length_map, show (ks.filter Kn.isH).length = hidN ks from rfl]
        have g11 : Gp p H8 (upd H10 D (.lst ((ks.filter Kn.isH).map Kn.v))) := g10.trans (Gp.gr (gD _))
        have ht11 := (gD (.lst ((ks.filter Kn.isH).map Kn.v))).lst ht10
        have dr11 : Drw (upd H10 D (.lst ((ks.filter Kn.isH).map Kn.v))) p (B + 322 + 13 * (i : Nat) + 1 + 3 * ((j + 1 : Nat) : Int)) := (dr10.new nD).mono (by omega)
        generalize upd H10 D (.lst ((ks.filter Kn.isH).map Kn.v)) = H11 at g11 ht11 dr11 ⊢
        have fin : ∀ kz : Kn, goK hd kz → hidN (ks ++ [kz]) ≤ 2 → ∃ (ks' : List Kn) (y6 y7 y8 : Option V), [some (V.ref p), some (V.int m), some (.ref ph), some (.ref dl), some (.str nm), some (.ref tl), some (.int (0 + (j : Nat))), some kn.v, some (.int (2 + d10)), none] = [some (.ref p), some (.int m), some (.ref ph), some (.ref dl), some (.str nm), some (.ref tl), y6, y7, y8, none] ∧
            upd H11 tl (.lst (ks.map Kn.v ++ [kz.v])) tl = some (.lst (ks'.map Kn.v)) ∧ ks'.length = j + 1 ∧ (∀ k ∈ ks', goK hd k) ∧ hidN ks' ≤ 2 ∧ Gp p H6 (upd H11 tl (.lst (ks.map Kn.v ++ [kz.v]))) ∧ Drw (upd H11 tl (.lst (ks.map Kn.v ++ [kz.v]))) p (B + 322 + 13 * (i : Nat) + 1 + 3 * ((j + 1 : Nat) : Int)) := by
          intro kz gz hz
          refine ⟨ks ++ [kz], _, _, _, rfl, ?_, ?_, ?_, hz, (g8.trans g11).upd_new ntl, dr11.upd ntp⟩
          · rw [upd_same, List.map_append]
            rfl
          · rw [List.length_append, lk]
            rfl
          · intro k hk
            rcases List.mem_append.mp hk with h | h
            · exact gk8 k h
            · have : k = kz := by simpa using h
              rw [this]
              exact gz
        have szt : (ks.map Kn.v).length < sizeLine := by
          rw [List.length_map]
          exact small1000 (by omega)
        by_cases h2 : hidN ks = 2
        · rw [h2]
          refine iteT ⟨_, rfl, tl, _, _, rfl, rfl, ht11, szt, ?_⟩
          refine fin (.p (2 + d10)) ⟨by omega, by omega⟩ ?_
          rw [hidN_snoc]
          show hidN ks + 0 ≤ 2
          omega
        · rw [decide_eq_false (show ¬ V.int ((hidN ks : Nat) : Int) = V.int 2 from fun e => h2 (by have := V.int.inj e; omega))]
          refine iteF ⟨_, rfl, tl, _, _, rfl, rfl, ht11, szt, ?_⟩
          refine fin kn gkn ?_
          rw [hidN_snoc]
          split <;> omega
      case i3 =>
        rintro σ H8 ⟨ks, z6, z7, z8, rfl, ht8, lk, gk8, hk8, g8, dr8⟩
        have hd8 : H8 dl = some (.lst xs) := g8.lst ndp hd6
        have hp8 : H8 ph = some (.tup (hd.map V.str)) := g8.keep ph _ php hp6 (fun _ z => by cases z)
        have hn8 : H8 nl = some (.lst (ns.map V.str)) := g8.lst nlp hn6
        refine ⟨_, rfl, .inl ⟨rfl, _, .inl (.inl hd8)⟩, _, rfl, _, rfl, tl, _, rfl, .inl ⟨.inl (.inl ht8), fun tt ntt => ?_⟩⟩
        have g9 : Gr H8 (upd H8 tt (.tup (ks.map Kn.v))) := Gr.new ntt
        have e9 : upd H8 tt (.tup (ks.map Kn.v)) tt = some (.tup (ks.map Kn.v)) := upd_same
        generalize upd H8 tt (.tup (ks.map Kn.v)) = H9 at g9 e9 ⊢
        have dr9 := dr8.gr g9
        refine ⟨_, rfl, _, rfl, p, ph, hd, _, rfl, .inl (.inl (g9.tup hp8)), gh.hi, dr9, by omega, by omega, fun H10 kn g10 dr10 gkn => ?_⟩
        have ttp : tt ≠ p := by
          intro z
          obtain ⟨_, _, _, e, _⟩ := dr9
          rw [← z, e9] at e
          cases e
        have e10 : H10 tt = some (.tup (ks.map Kn.v)) := g10.keep tt _ ttp e9 (fun _ z => by cases z)
        refine ⟨by show 3 ≤ sizeLine; decide, fun te nte => ?_⟩
        have g11 : Gr H10 (upd H10 te (.tup [.str nm, .ref tt, kn.v])) := Gr.new nte
        have e11 : upd H10 te (.tup [.str nm, .ref tt, kn.v]) te = some (.tup [.str nm, .ref tt, kn.v]) := upd_same
        generalize upd H10 te (.tup [.str nm, .ref tt, kn.v]) = H11 at g11 e11 ⊢
        have gA : Gp p H6 H11 := (g8.trans (Gp.gr g9)).trans (g10.trans (Gp.gr g11))
        have hd11 : H11 dl = some (.lst xs) := gA.lst ndp hd6
        have hn11 : H11 nl = some (.lst (ns.map V.str)) := gA.lst nlp hn6
        have hp11 : H11 ph = some (.tup (hd.map V.str)) := gA.keep ph _ php hp6 (fun _ z => by cases z)
        have dr11 : Drw H11 p (B + 322 + 13 * ((i + 1 : Nat) : Int)) := (dr10.gr g11).mono (by omega)
        have new : Dp K H11 (.ref te) (De.d ⟨nm, ks, kn⟩) := .tup (.inl (.inl e11)) (.cons (.str nm) (.cons (.tup (.inl (.inl (g11.tup e10))) (dpA_kv ks)) (.cons (dp_kv kn) .nil)))
        refine ⟨dl, _, _, rfl, rfl, hd11, small1000 (by omega), ?_⟩
        refine ⟨es ++ [⟨nm, ks, kn⟩], xs ++ [.ref te], _, _, _, _, _, rfl, upd_same, ?_, ?_, ?_, ?_, ?_, (g6.trans gA).upd_new ndlH, dr11.upd ndp⟩
        · rw [List.map_append]
          exact dpA_app (des_lst hd11 ((dr6.kd (K := K) gA).dpA da6)) (.cons (de_lst hd11 new) .nil)
        · rw [List.map_append, nm6, List.take_add_one, hnm]
          rfl
        · intro e he
          rcases List.mem_append.mp he with h | h
          · exact ok6 e h
          · have : e = ⟨nm, ks, kn⟩ := by simpa using h
            rw [this]
            exact ⟨gnm, by show ks.length ≤ 3; omega, gk8, hk8, gkn⟩
        · rw [upd_ne hne]
          exact hn11
        · rw [upd_ne (by intro z; rw [z, hd11] at hp11; cases hp11)]
          exact hp11
end
end SfC
namespace SfC
open PySem PySem.Spec PyProof.Rows L2 SfG
theorem isN_low {z : Str} (h : isN z = true) : ∀ c ∈ z.cps.toList, c < 128 := fun c hc => let_range (List.all_eq_true.mp (isN_txt h).2.2.2.2.2 c hc)
theorem sh_name {z : Str} {D : Nat} (h : isN z = true) : Sh (.str z) 82 (D + 1) := by
  refine ⟨rfl, rfl, by simp [PyData.depth], ?_⟩
  have h1 := PySem.StrLaws.reprText_len z fun c hc => Nat.lt_of_lt_of_le (isN_low h c hc) (by decide)
  have h2 := (isN_txt h).1
  show (reprText z).length ≤ 82
  omega
theorem shA_names {D : Nat} : ∀ {l : List Str}, (∀ z ∈ l, isN z = true) → ShA (l.map PyData.str) (l.length * 84) (D + 1)
  | [], _ => ShA.nil.mono (by omega) (Nat.le_refl _)
  | a :: r, h => by
    refine (ShA.cons (sh_name (h a List.mem_cons_self)) (shA_names (D := D) fun z hz => h z (List.mem_cons_of_mem _ hz))).mono ?_ (Nat.le_refl _)
    rw [List.length_cons, Nat.succ_mul]
    omega
theorem sh_kn {hd : List Str} {k : Kn} {D : Nat} (hn : ∀ z ∈ hd, isN z = true) (h : goK hd k) : Sh k.d 82 (D + 1) := by
  cases k with
  | h s => exact sh_name (hn s h)
  | p n =>
    refine (Sh.int (k := 4) ?_ (by decide) (by decide)).mono (by decide) (Nat.le_refl _)
    obtain ⟨h1, h2⟩ := h
    show n.natAbs < 2 ^ 4
    have e : (2 : Nat) ^ 4 = 16 := by decide
    omega
theorem shA_kns {hd : List Str} {D : Nat} (hn : ∀ z ∈ hd, isN z = true) : ∀ {l : List Kn}, (∀ k ∈ l, goK hd k) → ShA (l.map Kn.d) (l.length * 84) (D + 1)
  | [], _ => ShA.nil.mono (by omega) (Nat.le_refl _)
  | a :: r, h => by
    refine (ShA.cons (sh_kn hn (h a List.mem_cons_self)) (shA_kns (D := D) hn fun z hz => h z (List.mem_cons_of_mem _ hz))).mono ?_ (Nat.le_refl _)
    rw [List.length_cons, Nat.succ_mul]
    omega
abbrev nRight : List Str := ["_law_face_here", "_law_names_here", "_law_again", "_law_told", "_law_name", "_law_takes", "_law_gives", "_law_deed"]
theorem scRight : FnScope nRight ["_law_face_here"] (defScope sRight) := ⟨rfl, rfl, rfl, by decide +kernel, rfl, by decide +kernel, by decide +kernel⟩
/-- what is shown of a face's names -/
def dNam (f : Fc) : PyData := .list [.list (f.hd.map .str), .list ((f.ds.map De.nm).map .str)]
def dTG (e : De) : PyData := .list [.tuple (e.tk.map Kn.d), e.gv.d]
theorem nam_of {f : Fc} (go : goF f) : ∀ z ∈ f.ds.map De.nm, isN z = true := by
  intro z hz
  obtain ⟨e, he, rfl⟩ := List.mem_map.mp hz
  exact (go.ok e he).nm
theorem sh_nam {f : Fc} (go : goF f) : Sh (dNam f) 2000 5 := by
  have h1 := Sh.lst (shA_names (D := 1) go.hid.nm)
  have h2 := Sh.lst (shA_names (D := 1) (nam_of go))
  refine (Sh.lst (ShA.cons h1 (ShA.cons h2 ShA.nil))).mono ?_ (by decide)
  have a1 := go.hid.hi
  have a2 := go.hi
  rw [List.length_map]
  omega
theorem sh_tg {hd : List Str} {e : De} (hn : ∀ z ∈ hd, isN z = true) (gd : goD hd e) : Sh (dTG e) 2000 5 := by
  have h1 := Sh.tup (shA_kns (D := 1) hn gd.tk)
  refine (Sh.lst (ShA.cons h1 (ShA.cons (sh_kn (D := 2) hn gd.gv) ShA.nil))).mono ?_ (by decide)
  have a1 := gd.len
  omega
section
variable {P : Program} {w : World} {K : PySem.W.Frag} {mg : Str → Option Value} {base : Heap}
set_option maxHeartbeats 2000000 in
theorem ok_right {f fH fN fD fI fT fG C : Addr} {fd fdH fdN fdD fdI fdT fdG : FuncData} (F : Fun K "_law_right" "_law_right" sRight f fd) (HH : Has P w K mg base 5 "hidden_of" ["face"] (spTold K Fc.hd) fH fdH)
    (HN : Has P w K mg base 5 "names_of" ["face"] (spTold K fun f => f.ds.map De.nm) fN fdN) (HD : Has P w K mg base 5 "need_face" ["face"] (spGood K .non) fD fdD) (HI : Has P w K mg base 5 "is_face" ["thing"] (spGood K (.bl true)) fI fdI)
    (HT : HasX P w K mg base 5 "takes_of" ["face", "name"] (spTG K C fun e => .tuple (e.tk.map Kn.d)) fT fdT) (HG : HasX P w K mg base 5 "gives_of" ["face", "name"] (spTG K C fun e => e.gv.d) fG fdG)
    (mr : mg "range" = none) (mp : mg "repr" = none) (ml : mg "list" = none) : FnG P w K mg base CX0 6 f fd ["_law_face_here"] (spGood K (.bl true)) := by
  refine fng_of F scRight (fun vs H Q E h => ?_) (fun cdv A outer s H vs Q E hr hgd h => ?_)
  · obtain ⟨x, f, rfl, _⟩ := h
    rfl
  · obtain ⟨x, f, rfl, hx, go, q⟩ := h
    have nd := scRight.nd
    refine' ⟨_, pss_cons ?s1 (pss_cons ?s2 (pss_one ?s3)), ?rd⟩
    case s1 =>
      exact ps_setLc (i := 1) (own := [("_law_deed", 7)]) (g := gName 7) rfl nd rfl rfl (sw_true rfl rfl rfl (by decide +kernel)) (pi_tup (pe_ix ix_tup (pv 0) pe_int (fun _ _ => rfl)))
        (blkOk_by (own := [("_law_deed", 7)]) (N := nRight) (sc := defScope sRight) (by decide +kernel)) (fun _ _ _ _ _ => pg_name (i := 7) nd rfl (Or.inl rfl)) (fun _ _ _ _ _ => pts_nil)
        (fun _ _ _ _ _ => pe_ix (r := rIxT K) ix_tup (pv 7) pe_int (fun _ _ => rfl))
    case s2 =>
      refine' ps_for PassesOwn.never rfl (pi_range1 (by rfl) mr (pa_cons pe_int pa_nil)) (pg_name (i := 2) nd rfl (.inl rfl)) (pss_cons ?b1 (pss_cons ?b2 (pss_cons ?b3 (pss_cons ?b4 (pss_one ?b5)))))
      case b1 => exact ps_set (i := 3) nd rfl (.inl rfl) (pe_lst (pa_cons (hcall HH hr (pa_cons (pv 0) pa_nil)) (pa_cons (hcall HN hr (pa_cons (pv 0) pa_nil)) pa_nil)))
      case b2 =>
        exact ps_if (PW.pt (pw_or (pt_cmpR op_ne (pe_callB (call_repr hr hgd) (by rfl) mp (by decide +kernel) (pa_cons (pv 3) pa_nil)) (pe_callB (call_repr hr hgd) (by rfl) mp (by decide +kernel) (pa_cons (pe_lst (pa_cons (pe_callTy call_list_of (by rfl) ml (by decide +kernel) (pa_cons (pe_ix ix_tup (pv 0) pe_int (fun _ _ => rfl)) pa_nil)) (pa_cons (pv 1) pa_nil))) pa_nil)) (nomark _))
          (pw_or (pt_cmpR op_notN (hcall HD hr (pa_cons (pv 0) pa_nil)) pe_non (nomark _)) (pw_or1 (pt_cmpR op_notBx (hcall HI hr (pa_cons (pv 0) pa_nil)) pe_bl (nomark _)))))) pss_never pss_nil
      case b3 => exact ps_expr (pe_bm PySem.F.plainAttrs_list PySem.F.slot_list_append PySem.F.type_list_append mt_append (pe_ix ix_list (pv 3) pe_int (fun _ _ => rfl)) (pa_cons pe_str pa_nil))
      case b4 => exact ps_expr (pe_bm PySem.F.plainAttrs_list PySem.F.slot_list_append PySem.F.type_list_append mt_append (pe_ix ix_list (pv 3) pe_int (fun _ _ => rfl)) (pa_cons pe_str pa_nil))
      case b5 =>
        refine' ps_for PassesOwn.never rfl (pi_tup (pe_ix ix_tup (pv 0) pe_int (fun _ _ => rfl))) (pg_tup rfl (pgs_cons (pg_name (i := 4) nd rfl (.inl rfl)) (pgs_cons (pg_name (i := 5) nd rfl (.inl rfl)) (pgs_cons (pg_name (i := 6) nd rfl (.inl rfl)) pgs_nil)))) (pss_one ?c1)
        case c1 =>
          exact ps_if (pt_cmpR op_ne (pe_callB (call_repr hr hgd) (by rfl) mp (by decide +kernel) (pa_cons (pe_lst (pa_cons (pe_call HT.ok hr (by rfl) HT.at_ HT.kp HT.bd .nil passL (pa_cons (pv 0) (pa_cons (pv 4) pa_nil))) (pa_cons (pe_call HG.ok hr (by rfl) HG.at_ HG.kp HG.bd .nil passL (pa_cons (pv 0) (pa_cons (pv 4) pa_nil))) pa_nil))) pa_nil))
            (pe_callB (call_repr hr hgd) (by rfl) mp (by decide +kernel) (pa_cons (pe_lst (pa_cons (pv 5) (pa_cons (pv 6) pa_nil))) pa_nil)) (nomark _)) pss_never pss_nil
    case s3 => exact ps_ret pe_bl
    case rd =>
    obtain ⟨p, ph, pd, xs, rfl, hp, hph, hpd, dd⟩ := dp_face hx
    have hl : xs.length = f.ds.length := by
      have := dpA_len dd
      rw [List.length_map] at this
      exact this
    have a2 := go.hi
    refine ⟨_, rfl, p, _, 1, _, rfl, rfl, hp, rfl, pd, rfl, ⟨_, hpd⟩, fun D nD => ?_⟩
    have gD : ∀ o, Gr H (upd H D o) := fun o => Gr.new nD
    refine lc_it (walk_tup (xs := xs)) (fun i H2 => H2 = upd H D (.lst (((f.ds.take i).map De.nm).map V.str))) rfl ?c0 ?c1 ?c2
    case c0 =>
      rintro i H2 hi rfl
      exact (gD _).sqt hpd
    case c1 =>
      rintro i y H2 H2' hi rfl ⟨rfl, hy⟩
      refine ⟨rfl, ?_⟩
      unfold tYes
      refine iteT ?_
      obtain ⟨e, he, de⟩ := dpA_de dd hy
      obtain ⟨pe, n1, t1, v1, rfl, hpe, dn, dt, dv⟩ := dp_3 ((gD _).kd.dp de)
      cases dp_str dn
      refine ⟨_, rfl, pe, _, 0, _, rfl, rfl, hpe, rfl, _, upd_same, ?_, ?_⟩
      · rw [List.length_map, List.length_map, List.length_take]
        exact small1000 (by omega)
      · rw [upd_upd, List.take_add_one, he, List.map_append, List.map_append]
        rfl
    case c2 =>
    rintro H2 rfl
    rw [hl, List.take_length]
    have g1 : Gr H (upd H D (.lst ((f.ds.map De.nm).map V.str))) := gD _
    have hD : upd H D (.lst ((f.ds.map De.nm).map V.str)) D = some (.lst ((f.ds.map De.nm).map V.str)) := upd_same
    generalize upd H D (.lst ((f.ds.map De.nm).map V.str)) = H1 at g1 hD ⊢
    refine ⟨2, rfl, by decide, by decide, for_range (n := 2) (fun i σ H2 => ∃ y2 y3 y4 y5 y6 : Option V, σ = [some (.ref p), some (.ref D), y2, y3, y4, y5, y6, none] ∧ Gr H1 H2) ⟨none, none, none, none, none, rfl, Gr.refl _⟩ ?t1 ?t2⟩
    case t2 =>
      rintro σ H2 ⟨y2, y3, y4, y5, y6, rfl, g2⟩
      exact q H2 (g1.trans g2)
    case t1 =>
      rintro i σ H2 hi ⟨y2, y3, y4, y5, y6, rfl, g2⟩
      have g02 := g1.trans g2
      -- told
      refine ⟨_, rfl, .ref p, f, rfl, g02.kd.dp hx, go, fun H3 l1 g3 n1 e1 => ?_⟩
      refine ⟨_, rfl, .ref p, f, rfl, (g02.trans g3).kd.dp hx, go, fun H4 l2 g4 n2 e2 => ?_⟩
      refine ⟨by show 2 ≤ sizeLine; decide, fun tl ntl => ?_⟩
      have g5 : Gr H4 (upd H4 tl (.lst [.ref l1, .ref l2])) := Gr.new ntl
      have e5 : upd H4 tl (.lst [.ref l1, .ref l2]) tl = some (.lst [.ref l1, .ref l2]) := upd_same
      generalize upd H4 tl (.lst [.ref l1, .ref l2]) = H5 at g5 e5 ⊢
      have f1 := g5.lst (g4.lst e1)
      have f2 := g5.lst e2
      have g25 : Gr H2 H5 := g3.trans (g4.trans g5)
      have sN := sh_nam go
      -- shown alike
      refine ⟨_, rfl, tl, dNam f, _, rfl, .lst (.inl (.inl e5)) (.cons (.lst (.inl (.inl f1)) (dpA_sv _)) (.cons (.lst (.inl (.inl f2)) (dpA_sv _)) .nil)), sN.able, sN.nod, Nat.le_trans sN.dep (by decide), rfl, sN.fits (by decide), ?_⟩
      refine ⟨_, rfl, p, _, 0, _, rfl, rfl, (g02.trans g25).sqt hp, rfl, ph, _, rfl, .inr ((g02.trans g25).sqt hph), fun l3 n3 => ?_⟩
      have g6 : Gr H5 (upd H5 l3 (.lst (f.hd.map V.str))) := Gr.new n3
      have e6 : upd H5 l3 (.lst (f.hd.map V.str)) l3 = some (.lst (f.hd.map V.str)) := upd_same
      generalize upd H5 l3 (.lst (f.hd.map V.str)) = H6 at g6 e6 ⊢
      refine ⟨_, rfl, by show 2 ≤ sizeLine; decide, fun l4 n4 => ?_⟩
      have g7 : Gr H6 (upd H6 l4 (.lst [.ref l3, .ref D])) := Gr.new n4
      have e7 : upd H6 l4 (.lst [.ref l3, .ref D]) l4 = some (.lst [.ref l3, .ref D]) := upd_same
      generalize upd H6 l4 (.lst [.ref l3, .ref D]) = H7 at g7 e7 ⊢
      have g27 : Gr H2 H7 := g25.trans (g6.trans g7)
      have hD7 := (g2.trans g27).lst hD
      refine ⟨l4, dNam f, _, rfl, .lst (.inl (.inl e7)) (.cons (.lst (.inl (.inl (g7.lst e6))) (dpA_sv _)) (.cons (.lst (.inl (.inl hD7)) (dpA_sv _)) .nil)), sN.able, sN.nod, Nat.le_trans sN.dep (by decide), rfl, sN.fits (by decide), rfl, _, rfl, iteNS rfl ?_⟩
      -- need_face, is_face
      refine ⟨_, rfl, .ref p, f, rfl, (g02.trans g27).kd.dp hx, go, fun H8 g8 => ⟨rfl, _, rfl, iteF ?_⟩⟩
      refine ⟨_, rfl, .ref p, f, rfl, (g02.trans (g27.trans g8)).kd.dp hx, go, fun H9 g9 => ⟨true, rfl, .inl ⟨true, rfl, _, rfl, iteF ?_⟩⟩⟩
      have g79 : Gr H7 H9 := g8.trans g9
      have g29 : Gr H2 H9 := g27.trans g79
      have e59 := (g6.trans (g7.trans g79)).lst e5
      have f19 := (g6.trans (g7.trans g79)).lst f1
      have f29 := (g6.trans (g7.trans g79)).lst f2
      have n2' : H2 l2 = none := g3.back l2 n2
      have ne12 : l1 ≠ l2 := ne_of_none e1 n2
      have net1 : tl ≠ l1 := by
        intro z
        rw [z] at ntl
        rw [g4.lst e1] at ntl
        cases ntl
      have net2 : tl ≠ l2 := by
        intro z
        rw [z, e2] at ntl
        cases ntl
      -- told[0].append('x')
      refine ⟨_, rfl, tl, _, 0, _, rfl, rfl, .inl (.inl e59), rfl, .inl ⟨rfl, _, .inl (.inl f19)⟩, l1, _, _, rfl, rfl, f19, ?_, ?_⟩
      · have a1 := go.hid.hi
        rw [List.length_map]
        exact small1000 (by omega)
      have g10 : Gr H2 (upd H9 l1 (.lst (f.hd.map V.str ++ [.str "x"]))) := g29.upd_new n1
      have e10 : upd H9 l1 (.lst (f.hd.map V.str ++ [.str "x"])) tl = some (.lst [.ref l1, .ref l2]) := (upd_ne net1).trans e59
      have f10 : upd H9 l1 (.lst (f.hd.map V.str ++ [.str "x"])) l2 = some (.lst ((f.ds.map De.nm).map V.str)) := (upd_ne (Ne.symm ne12)).trans f29
      generalize upd H9 l1 (.lst (f.hd.map V.str ++ [.str "x"])) = H10 at g10 e10 f10 ⊢
      refine ⟨_, rfl, tl, _, 1, _, rfl, rfl, .inl (.inl e10), rfl, .inl ⟨rfl, _, .inl (.inl f10)⟩, l2, _, _, rfl, rfl, f10, ?_, ?_⟩
      · rw [List.length_map, List.length_map]
        exact small1000 (by omega)
      have g11 : Gr H2 (upd H10 l2 (.lst ((f.ds.map De.nm).map V.str ++ [.str "x"]))) := g10.upd_new n2'
      generalize upd H10 l2 (.lst ((f.ds.map De.nm).map V.str ++ [.str "x"])) = H11 at g11 ⊢
      have g0 : Gr H H11 := g02.trans g11
      have dd11 := g0.kd.dpA dd
      -- each deed
      refine ⟨_, rfl, p, _, 1, _, rfl, rfl, g0.sqt hp, rfl, pd, rfl, ⟨_, g0.sqt hpd⟩, ?_⟩
      refine for_it (walk_tup (xs := xs)) (fun j σ H12 => ∃ y4 y5 y6 : Option V, σ = [some (.ref p), some (.ref D), some (.int (0 + (i : Nat))), some (.ref tl), y4, y5, y6, none] ∧ Gr H11 H12) ⟨y4, y5, y6, rfl, Gr.refl _⟩ ?u1 ?u2 ?u3
      case u1 =>
        rintro j σ H12 hj ⟨z4, z5, z6, rfl, g12⟩
        exact (g0.trans g12).sqt hpd
      case u3 =>
        rintro σ H12 ⟨z4, z5, z6, rfl, g12⟩
        exact ⟨_, _, _, _, _, rfl, g2.trans (g11.trans g12)⟩
      case u2 =>
        rintro j v σ H12' H12 hj ⟨z4, z5, z6, rfl, g12⟩ ⟨rfl, hv⟩
        obtain ⟨e, he, de⟩ := dpA_de ((g0.trans g12).kd.dpA dd) hv
        have gd := go.ok e (List.mem_of_getElem? he)
        obtain ⟨pe, n1, t1, v1, rfl, hpe, dn, dt, dv⟩ := dp_3 de
        cases dp_str dn
        have st := sh_tg go.hid.nm gd
        refine ⟨pe, _, rfl, hpe, rfl, _, _, rfl, _, _, rfl, _, _, rfl, rfl, ?_⟩
        refine ⟨_, rfl, _, rfl, .ref p, .str e.nm, f, "str", rfl, (g0.trans g12).kd.dp hx, go, is_str _, .inl ⟨e.nm, e, j, rfl, he, rfl, fun H13 w1 g13 d13 => ?_⟩⟩
        refine ⟨_, rfl, _, rfl, .ref p, .str e.nm, f, "str", rfl, ((g0.trans g12).trans g13).kd.dp hx, go, is_str _, .inl ⟨e.nm, e, j, rfl, he, rfl, fun H14 w2 g14 d14 => ?_⟩⟩
        refine ⟨by show 2 ≤ sizeLine; decide, fun m1 k1 => ?_⟩
        have g15 : Gr H14 (upd H14 m1 (.lst [w1, w2])) := Gr.new k1
        have e15 : upd H14 m1 (.lst [w1, w2]) m1 = some (.lst [w1, w2]) := upd_same
        generalize upd H14 m1 (.lst [w1, w2]) = H15 at g15 e15 ⊢
        refine ⟨m1, dTG e, _, rfl, .lst (.inl (.inl e15)) (.cons ((g14.trans g15).kd.dp d13) (.cons (g15.kd.dp d14) .nil)), st.able, st.nod, Nat.le_trans st.dep (by decide), rfl, st.fits (by decide), ?_⟩
        refine ⟨_, rfl, _, rfl, by show 2 ≤ sizeLine; decide, fun m2 k2 => ?_⟩
        have g16 : Gr H15 (upd H15 m2 (.lst [t1, v1])) := Gr.new k2
        have e16 : upd H15 m2 (.lst [t1, v1]) m2 = some (.lst [t1, v1]) := upd_same
        generalize upd H15 m2 (.lst [t1, v1]) = H16 at g16 e16 ⊢
        have gA : Gr H12 H16 := g13.trans (g14.trans (g15.trans g16))
        refine ⟨m2, dTG e, _, rfl, .lst (.inl (.inl e16)) (.cons (gA.kd.dp dt) (.cons (gA.kd.dp dv) .nil)), st.able, st.nod, Nat.le_trans st.dep (by decide), rfl, st.fits (by decide), rfl, _, rfl, iteNS rfl ?_⟩
        exact ⟨_, _, _, rfl, g12.trans gA⟩
end
end SfC
namespace SfC
open PySem PySem.Spec PyProof.Rows L2 SfG
/-! ### a text some times -/
def repS (z : Str) (n : Nat) : Str := ⟨(List.replicate n z.cps).foldl (· ++ ·) #[]⟩
theorem foldl_len : ∀ (n : Nat) (x acc : Array Nat), ((List.replicate n x).foldl (· ++ ·) acc).size = acc.size + n * x.size
  | 0, x, acc => by simp
  | n + 1, x, acc => by
    rw [List.replicate_succ, List.foldl_cons, foldl_len n x, Array.size_append, Nat.succ_mul]
    omega
theorem rep_len (z : Str) (n : Nat) : (repS z n).length = n * z.length := by
  show ((List.replicate n z.cps).foldl (· ++ ·) #[]).size = n * z.cps.size
  rw [foldl_len]
  simp
theorem rep_one (z : Str) : repS z 1 = z := by
  unfold repS
  simp
theorem op_mulZ {X : Cx} : OpR X (binaryOp .Mult) (fun x y H Q => ∃ (z : Str) (n : Nat), x = .str z ∧ y = .int (n : Int) ∧ 1 ≤ n ∧ z.length * n ≤ 1000000 ∧ z.length ≠ 0 ∧ Q (.str (repS z n)) H) := by
  intro pins s σ H x y v u Q I rx ry h
  obtain ⟨z, n, rfl, rfl, hn, hl, h0, q⟩ := h
  obtain ⟨t, rfl⟩ := rx
  obtain ⟨t', rfl⟩ := ry
  have e63 : (2 : Int) ^ 63 = 9223372036854775808 := by decide
  have hnn : n ≤ 1000000 := by
    refine Nat.le_trans ?_ hl
    exact Nat.le_mul_of_pos_left n (Nat.pos_of_ne_zero h0)
  refine PySem.P.mul_str ?_ ?_ ?_ ?_
  · rw [e63]
    simp
    omega
  · intro _ _ h
    have e : (z.length : Int) ≤ (2 ^ 63 - 1) / (n : Int) := by
      refine Int.le_ediv_of_mul_le (by omega) ?_
      have hl' : ((z.length * n : Nat) : Int) ≤ 1000000 := by omega
      rw [Int.natCast_mul] at hl'
      rw [e63]
      omega
    omega
  · intro _ _
    rw [Int.toNat_natCast]
    unfold Builtin.Str.tooLong
    refine decide_eq_false ?_
    rw [sizeLine_eq]
    omega
  · have c1 : ¬ (n : Int) < 1 := by omega
    rw [if_neg c1]
    by_cases e1 : n = 1
    · subst e1
      have c2 : (((1 : Nat) : Int) == 1 || z.length == 0) = true := by simp
      rw [if_pos c2]
      rw [rep_one] at q
      exact ⟨.str z, H, I, ⟨_, rfl⟩, q⟩
    · have c2 : ¬ (((n : Int) == 1 || z.length == 0) = true) := by
        simp
        omega
      rw [if_neg c2]
      refine ⟨?_, .str (repS z n), H, I.tok _, ⟨_, rfl⟩, q⟩
      have hs := rep_len z n
      have hz : (repS z n).length ≤ sizeLine := by
        rw [hs, sizeLine_eq, Nat.mul_comm]
        omega
      exact hz
/-! ### nine texts, eight names -/
theorem many_le {l m : List Str} (nd : l.Nodup) (h : ∀ x ∈ l, x ∈ m) : l.length ≤ m.length := by
  induction l generalizing m with
  | nil => exact Nat.zero_le _
  | cons a r ih =>
    obtain ⟨n1, n2⟩ := List.nodup_cons.mp nd
    have ha := h a List.mem_cons_self
    have := ih (m := m.erase a) n2 (fun x hx => (List.mem_erase_of_ne (show x ≠ a from fun e => n1 (by rw [← e]; exact hx))).mpr (h x (List.mem_cons_of_mem _ hx)))
    rw [List.length_erase_of_mem ha] at this
    have hp := List.length_pos_of_mem ha
    rw [List.length_cons]
    omega
def zs8 (n : Nat) : List Str := (List.range n).map fun i => repS "z" (1 + i)
def zs9 : List Str := zs8 8 ++ [("y" : Str)]
theorem zs9_nd : zs9.Nodup := by decide +kernel
theorem zs9_len : zs9.length = 9 := by decide +kernel
theorem zs8_snoc (n : Nat) : zs8 (n + 1) = zs8 n ++ [repS "z" (1 + n)] := by
  unfold zs8
  rw [List.range_succ, List.map_append]
  rfl
theorem nobody {nms : List Str} (h : nms.length ≤ 8) : ∃ z r, zs9.filter (fun z => !decide (z ∈ nms)) = z :: r ∧ z ∉ nms := by
  cases hf : zs9.filter (fun z => !decide (z ∈ nms)) with
  | nil =>
    exfalso
    have all : ∀ x ∈ zs9, x ∈ nms := by
      intro x hx
      have := List.filter_eq_nil_iff.mp hf x hx
      simpa using this
    have := many_le zs9_nd all
    rw [zs9_len] at this
    omega
  | cons z r =>
    refine ⟨z, r, rfl, ?_⟩
    have : z ∈ zs9.filter (fun z => !decide (z ∈ nms)) := by rw [hf]; exact List.mem_cons_self
    have := (List.mem_filter.mp this).2
    simpa using this
/-! ### texts that are no names -/
theorem up_let : ∀ c, c < 128 → isLet c = true → ∀ d ∈ Unicode.upperOf c, isLet d = false := by decide +kernel
theorem upper_no {z : Str} (h : isN z = true) : isN (Txt.upper z) = false := by
  cases hu : isN (Txt.upper z) with
  | false => rfl
  | true =>
    exfalso
    obtain ⟨_, h1, _, _, _, hl⟩ := isN_txt hu
    have hlen : 0 < (Txt.upper z).cps.toList.length := by
      have := len_list (Txt.upper z)
      omega
    have hm := List.getElem_mem hlen
    generalize (Txt.upper z).cps.toList[0] = d at hm
    have hd := List.all_eq_true.mp hl d hm
    have hd' : d ∈ placed z fun _ c => Unicode.upperOf c := by simpa [Txt.upper] using hm
    unfold placed at hd'
    obtain ⟨xs, hxs, hdx⟩ := Array.mem_flatten.mp hd'
    obtain ⟨i, hi, e⟩ := Array.mem_mapIdx.mp hxs
    rw [← e] at hdx
    have hc := isN_low h
    have hz := (isN_txt h).2.2.2.2.2
    have hmem : z.cps[i] ∈ z.cps.toList := by simp
    have := up_let _ (hc _ hmem) (List.all_eq_true.mp hz _ hmem) d (by simpa using hdx)
    rw [hd] at this
    cases this
theorem blank_no (z : Str) : isN (z ++ " ") = false := by
  cases hu : isN (z ++ " ") with
  | false => rfl
  | true =>
    exfalso
    have hl := (isN_txt hu).2.2.2.2.2
    have hm : (32 : Nat) ∈ (z ++ (" " : Str)).cps.toList := by
      rw [show (z ++ (" " : Str)).cps = z.cps ++ (" " : Str).cps from rfl]
      have : (" " : Str).cps.toList = [32] := by decide +kernel
      simp [this]
    have := List.all_eq_true.mp hl 32 hm
    exact absurd this (by decide +kernel)
/-- a thing that is no deed's name -/
def Ody (K : PySem.W.Frag) (H : Hp) (nms : List Str) (y : V) : Prop := (∃ T, Is K H y T) ∧ ∀ z, y = .str z → z ∉ nms
theorem Ody.gr {K : PySem.W.Frag} {H H' : Hp} {nms : List Str} {y : V} (h : Ody K H nms y) (g : Gr H H') : Ody K H' nms y := by
  obtain ⟨⟨T, h1⟩, h2⟩ := h
  exact ⟨⟨T, is_gr g h1⟩, h2⟩
theorem pick10 {K : PySem.W.Frag} {H : Hp} {nms : List Str} {o1 o2 o3 : Addr} {xs ys : List V} {n0 n1 n9 : Str} (nn : ∀ z ∈ nms, isN z = true) (e1 : H o1 = some (.tup xs)) (e2 : H o2 = some (.lst ys)) (e3 : H o3 = some (.dK []))
    (h0 : n0 ∉ nms) (h1 : isN n1 = false) (h9 : isN n9 = false) {d : Int} (d0 : 0 ≤ d) (d10 : d < 10) :
    ∃ v, atI [V.str n0, .str n1, .str "", .non, .int 7, .bl true, .ref o1, .ref o2, .ref o3, .str n9] d = some v ∧ Ody K H nms v := by
  have no : ∀ {y : Str}, isN y = false → Ody K H nms (.str y) := fun {y} hy => ⟨⟨_, is_str y⟩, fun z e hz => by
    cases e
    rw [nn y hz] at hy
    cases hy⟩
  have c : d = 0 ∨ d = 1 ∨ d = 2 ∨ d = 3 ∨ d = 4 ∨ d = 5 ∨ d = 6 ∨ d = 7 ∨ d = 8 ∨ d = 9 := by omega
  rcases c with rfl | rfl | rfl | rfl | rfl | rfl | rfl | rfl | rfl | rfl
  · exact ⟨_, rfl, ⟨_, is_str n0⟩, fun z e => by cases e; exact h0⟩
  · exact ⟨_, rfl, no h1⟩
  · exact ⟨_, rfl, no (by decide +kernel)⟩
  · exact ⟨_, rfl, ⟨_, is_non⟩, fun z e => by cases e⟩
  · exact ⟨_, rfl, ⟨_, is_int 7⟩, fun z e => by cases e⟩
  · exact ⟨_, rfl, ⟨_, is_bl true⟩, fun z e => by cases e⟩
  · exact ⟨_, rfl, ⟨"tuple", .base (.tup e1), by decide⟩, fun z e => by cases e⟩
  · exact ⟨_, rfl, ⟨"list", .base (.lst e2), by decide⟩, fun z e => by cases e⟩
  · exact ⟨_, rfl, ⟨"dict", .base (.dK e3), by decide⟩, fun z e => by cases e⟩
  · exact ⟨_, rfl, no h9⟩
end SfC
namespace SfC
open PySem PySem.Spec PyProof.Rows L2 SfG
abbrev nLaw : List Str := ["_law_script", "_law_k", "_law_cell", "_law_state", "_law_which", "_law_one", "_law_other", "_law_names_here", "_law_nobody", "_law_odd", "_law_some", "_law_deed", "_law_word", "_law_j", "_law_kind_here"]
theorem scLaw : FnScope nLaw ["_law_script"] (defScope sLaw) := ⟨rfl, rfl, rfl, by decide +kernel, rfl, by decide +kernel, by decide +kernel⟩
section
variable {P : Program} {w : World} {K : PySem.W.Frag} {mg : Str → Option Value} {base : Heap}
def spLaw (K : PySem.W.Frag) : Sp := fun vs H Q _ => ∃ (a : Addr) (ns : List Int), vs = [.ref a] ∧ SqL K H a (ns.map V.int) ∧ ns.length ≤ 63 ∧ ∀ H', Q (.bl true) H'
structure Calls (P : Program) (w : World) (K : PySem.W.Frag) (mg : Str → Option Value) (base : Heap) (fD fG fF fR fX : Addr) (dD dG dF dR dX : FuncData) : Prop where
  DR : Has P w K mg base 6 "_law_draw" ["_law_cell", "_law_k"] spDraw fD dD
  DG : Has P w K mg base 6 "_law_digit" ["_law_state", "_law_many"] spDigit fG dG
  FC : Has P w K mg base 6 "_law_face" ["_law_state", "_law_most"] (spFace K) fF dF
  RX : Has P w K mg base 6 "_law_refused" ["_law_way", "_law_face_here", "_law_name"] (spRef K) fX dX
  RG : FnG P w K mg base CX0 6 fR dR ["_law_face_here"] (spGood K (.bl true))
  gR : mg "_law_right" = some (.ref fR)
  kR : PySem.W.keepIn K (.ref fR) = true
  bR : Binds K dR ["_law_face_here"] []
  me : mg "enumerate" = none
  msum : mg "sum" = none
  mr : mg "range" = none
theorem shp : SeqAt.shaped (.list [.str "place"]) = true := by decide +kernel
theorem eqp : PyData.eqv (.list [.str "place"]) (.list [.str "place"]) = true := by decide +kernel
set_option maxHeartbeats 8000000 in
theorem ok_law {f fD fG fF fR fX : Addr} {fd dD dG dF dR dX : FuncData} (F : Fun K "law" "law" sLaw f fd) (C : Calls P w K mg base fD fG fF fR fX dD dG dF dR dX) : FnG P w K mg base CX0 7 f fd ["_law_script"] (spLaw K) := by
  refine fng_of F scLaw (fun vs H Q E h => ?_) (fun cdv A outer s H vs Q E hr hgd h => ?_)
  · obtain ⟨a, ns, rfl, _⟩ := h
    rfl
  · obtain ⟨a, ns, rfl, hS, hlen, q⟩ := h
    have nd := scLaw.nd
    refine' ⟨_, pss_cons ?s1 (pss_one ?s2), ?rd⟩
    case s2 => exact ps_ret pe_bl
    case s1 =>
      refine' ps_for PassesOwn.never rfl (pi_enum (by rfl) C.me (pa_cons (pe_op op_cat (pe_slice sl_list (pv 0) po_none (po_some pe_int))
          (pe_lst (pa_cons (pe_callB (cr_sum rfl) (by rfl) C.msum (by decide +kernel) (pa_cons (pv 0) pa_nil)) pa_nil))) pa_nil))
        (pg_tup rfl (pgs_cons (pg_name (i := 1) nd rfl (.inl rfl)) (pgs_cons (pg_name (i := 2) nd rfl (.inl rfl)) pgs_nil)))
        (pss_cons ?b1 (pss_cons ?b2 (pss_cons ?b3 (pss_cons ?b4 (pss_cons ?b5 (pss_cons ?b6 (pss_cons ?b7 (pss_cons ?b8 (pss_cons ?b9 (pss_one ?b10))))))))))
      case b1 => exact ps_set (i := 3) nd rfl (.inl rfl) (hcall C.DR hr (pa_cons (pv 2) (pa_cons (pv 1) pa_nil)))
      case b2 => exact ps_set (i := 4) nd rfl (.inl rfl) (hcall C.DG hr (pa_cons (pv 3) (pa_cons pe_int pa_nil)))
      case b3 =>
        exact ps_asg (pe_tup (pa_cons (hcall C.FC hr (pa_cons (pv 3) (pa_cons pe_int pa_nil))) (pa_cons (hcall C.FC hr (pa_cons (pv 3) (pa_cons pe_int pa_nil))) pa_nil)))
          (pg_tup rfl (pgs_cons (pg_name (i := 5) nd rfl (.inr rfl)) (pgs_cons (pg_name (i := 6) nd rfl (.inl rfl)) pgs_nil)))
      case b4 =>
        exact ps_if (PW.pt (pw_or (pt_not (pt_val (pe_callG C.RG hr hgd (by rfl) C.gR C.kR C.bR .nil pass0 (pa_cons (pv 5) pa_nil)))) (pw_or1 (pt_not (pt_val (pe_callG C.RG hr hgd (by rfl) C.gR C.kR C.bR .nil pass0 (pa_cons (pv 6) pa_nil))))))) pss_never pss_nil
      case b5 =>
        exact ps_set (i := 7) nd rfl (.inr rfl) (pe_lc (own := [("_law_deed", 11)]) (g := gName 11) rfl nd (pi_tup (pe_ix ix_tup (pv 5) pe_int (fun _ _ => rfl)))
          (blkOk_by (own := [("_law_deed", 11)]) (N := nLaw) (sc := defScope sLaw) (by decide +kernel)) (fun _ _ _ _ _ => pg_name (i := 11) nd rfl (Or.inl rfl)) (fun _ _ _ _ _ => pts_nil)
          (fun _ _ _ _ _ => pe_ix (r := rIxT K) ix_tup (pv 11) pe_int (fun _ _ => rfl)))
      case b6 =>
        refine' ps_set (i := 8) nd rfl (.inl rfl) (pe_ix ix_list ?lc pe_int (fun _ _ => rfl))
        case lc =>
          refine' pe_lc (own := [("_law_word", 12)]) (g := gName 12) rfl nd (pi_list (pe_op op_cat ?inner (pe_lst (pa_cons pe_str pa_nil)))) (blkOk_by (own := [("_law_word", 12)]) (N := nLaw) (sc := defScope sLaw) (by decide +kernel))
            (fun _ _ _ _ _ => pg_name (i := 12) nd rfl (Or.inl rfl)) (fun _ _ _ _ _ => pts_one (pt_cmpR (r := rIn K true) op_notIn_seq (pv 12) (pv 7) rfl)) (fun _ _ _ _ _ => pv 12)
          case inner =>
            exact pe_lc (own := [("_law_j", 13)]) (g := gName 13) rfl nd (pi_range2 (by rfl) C.mr (pa_cons pe_int (pa_cons pe_int pa_nil))) (blkOk_by (own := [("_law_j", 13)]) (N := nLaw) (sc := defScope sLaw) (by decide +kernel))
              (fun _ _ _ _ _ => pg_name (i := 13) nd rfl (Or.inl rfl)) (fun _ _ _ _ _ => pts_nil) (fun _ _ _ _ _ => pe_op op_mulZ pe_str (pv 13))
      case b7 =>
        exact ps_set (i := 9) nd rfl (.inl rfl) (pe_ix ix_list (pe_lst (pa_cons (pv 8) (pa_cons (pe_upper (pe_ix ix_list (pv 7) pe_int (fun _ _ => rfl))) (pa_cons pe_str (pa_cons pe_non (pa_cons pe_int (pa_cons pe_bl (pa_cons (pe_tup (pa_cons pe_str pa_nil))
          (pa_cons (pe_lst (pa_cons pe_str pa_nil)) (pa_cons pe_dnewK (pa_cons (pe_op op_add_str (pe_ix ix_list (pv 7) (pe_un un_neg pe_int) (fun _ _ => rfl)) pe_str) pa_nil))))))))))) (pv 4) (fun _ _ => rfl))
      case b8 =>
        exact ps_set (i := 10) nd rfl (.inl rfl) (pe_op op_cat (pe_lst (pa_cons (pv 9) pa_nil)) (pe_lc (own := [("_law_kind_here", 14)]) (g := gName 14) rfl nd (pi_tup (pe_ix ix_tup (pv 5) pe_int (fun _ _ => rfl)))
          (blkOk_by (own := [("_law_kind_here", 14)]) (N := nLaw) (sc := defScope sLaw) (by decide +kernel)) (fun _ _ _ _ _ => pg_name (i := 14) nd rfl (Or.inl rfl)) (fun _ _ _ _ _ => pts_one (pt_cmpR (r := rIn K true) op_notIn_seq (pv 14) (pv 7) rfl)) (fun _ _ _ _ _ => pv 14)))
      case b9 =>
        refine' ps_if (pt_cmpR (op_neD hr.units) ?lc (pe_lst pa_nil) (nomark _)) pss_never pss_nil
        case lc =>
          exact pe_lc (own := [("_law_word", 12)]) (g := gName 12) rfl nd (pi_list (pv 10)) (blkOk_by (own := [("_law_word", 12)]) (N := nLaw) (sc := defScope sLaw) (by decide +kernel))
            (fun _ _ _ _ _ => pg_name (i := 12) nd rfl (Or.inl rfl)) (fun _ _ _ _ _ => pts_one (pt_cmpR (r := rNeD K) (op_neD hr.units) (hcall C.RX hr (pa_cons pe_int (pa_cons (pv 5) (pa_cons (pv 12) pa_nil)))) (pe_lst (pa_cons pe_str pa_nil)) (nomark _))) (fun _ _ _ _ _ => pv 12)
      case b10 =>
        refine' ps_if (pt_cmpR (op_neD hr.units) ?lc (pe_lst pa_nil) (nomark _)) pss_never pss_nil
        case lc =>
          exact pe_lc (own := [("_law_word", 12)]) (g := gName 12) rfl nd (pi_list (pv 10)) (blkOk_by (own := [("_law_word", 12)]) (N := nLaw) (sc := defScope sLaw) (by decide +kernel))
            (fun _ _ _ _ _ => pg_name (i := 12) nd rfl (Or.inl rfl)) (fun _ _ _ _ _ => pts_one (pt_cmpR (r := rNeD K) (op_neD hr.units) (hcall C.RX hr (pa_cons pe_int (pa_cons (pv 5) (pa_cons (pv 12) pa_nil)))) (pe_lst (pa_cons pe_str pa_nil)) (nomark _))) (fun _ _ _ _ _ => pv 12)
    case rd =>
    -- the list that is walked
    refine ⟨_, rfl, 10, rfl, a, ns.map V.int, rfl, hS, fun q1 n1 => ?_⟩
    have g1 : Gr H (upd H q1 (.lst (cutV (ns.map V.int) none (some 10)))) := Gr.new n1
    refine ⟨_, rfl, a, ns, rfl, g1.seq hS, by show 1 ≤ sizeLine; decide, fun q2 n2 => ?_⟩
    have hq12 : q1 ≠ q2 := ne_of_none upd_same n2
    have cl : (cutV (ns.map V.int) none (some 10)).length ≤ 63 := by
      refine Nat.le_trans (cutV_length _ _ _) ?_
      rw [List.length_map]
      exact hlen
    refine ⟨q1, q2, _, _, rfl, rfl, (upd_ne hq12).trans upd_same, upd_same, ?_, fun el nel => ?_⟩
    · refine Nat.le_of_lt (small1000 ?_)
      show _ + 1 ≤ 1000
      omega
    have hel : upd (upd (upd H q1 (.lst (cutV (ns.map V.int) none (some 10)))) q2 (.lst [.int ns.sum])) el (.lst (cutV (ns.map V.int) none (some 10) ++ [.int ns.sum])) el = some (.lst (cutV (ns.map V.int) none (some 10) ++ [.int ns.sum])) := upd_same
    have hints : ∀ x ∈ cutV (ns.map V.int) none (some 10) ++ [V.int ns.sum], ∃ i, x = .int i := by
      intro x hx
      rcases List.mem_append.mp hx with h | h
      · unfold cutV at h
        obtain ⟨i, _, e⟩ := List.mem_map.mp (List.mem_of_mem_drop (List.mem_of_mem_take h))
        exact ⟨i, e.symm⟩
      · exact ⟨ns.sum, by simpa using h⟩
    have lxs : (cutV (ns.map V.int) none (some 10) ++ [V.int ns.sum]).length ≤ 64 := by
      rw [List.length_append]
      show _ + 1 ≤ 64
      omega
    generalize upd (upd (upd H q1 (.lst (cutV (ns.map V.int) none (some 10)))) q2 (.lst [.int ns.sum])) el (.lst (cutV (ns.map V.int) none (some 10) ++ [.int ns.sum])) = Hs at hel ⊢
    generalize cutV (ns.map V.int) none (some 10) ++ [V.int ns.sum] = xs at hints lxs hel
    refine ⟨el, xs, rfl, .inl (.inl hel), for_it (walk_enum (xs := xs)) (fun i σ H1 => ∃ y1 y2 y3 y4 y5 y6 y7 y8 y9 y10 : Option V,
      σ = [some (.ref a), y1, y2, y3, y4, y5, y6, y7, y8, y9, y10, none, none, none, none] ∧ Gr Hs H1) ⟨none, none, none, none, none, none, none, none, none, none, rfl, Gr.refl _⟩ ?stays ?turn ?after⟩
    case stays =>
      rintro i σ H1 hi ⟨y1, y2, y3, y4, y5, y6, y7, y8, y9, y10, rfl, g⟩
      exact .inl (.inl (g.lst hel))
    case after =>
      rintro σ H1 ⟨y1, y2, y3, y4, y5, y6, y7, y8, y9, y10, rfl, g⟩
      exact q H1
    case turn =>
      rintro i x σ H1 H' hi ⟨y1, y2, y3, y4, y5, y6, y7, y8, y9, y10, rfl, g⟩ ⟨T, kx, cx, rfl, nT, rfl, ek, ec⟩
      cases ek
      obtain ⟨cell, rfl⟩ := hints _ (List.mem_of_getElem? ec)
      refine ⟨T, [.int (i : Nat), .int cell], rfl, .inl (.inl upd_same), rfl, .int (i : Nat), [.int cell], rfl, .int cell, [], rfl, rfl, ?_⟩
      have gT : Gr Hs (upd H1 T (.tup [.int (i : Nat), .int cell])) := g.trans (Gr.new nT)
      generalize upd H1 T (.tup [.int (i : Nat), .int cell]) = HT at gT ⊢
      -- the state, which, two faces
      refine ⟨_, rfl, _, rfl, cell, (i : Nat), rfl, by omega, by omega, fun H2 p np g2 dr => ?_⟩
      have nps : Hs p = none := gT.back p np
      have g02 : Gr Hs H2 := gT.trans g2
      refine ⟨_, rfl, p, 10, _, rfl, dr, by omega, by decide, by decide, fun H3 d b3 dr3 d0 d10 => ?_⟩
      refine ⟨_, rfl, p, 8, _, rfl, by decide, by decide, dr3, by omega, by omega, fun H4 v1 f1 g4 dr4 df1 go1 => ?_⟩
      refine ⟨_, rfl, p, 3, _, rfl, by decide, by decide, dr4, by omega, by omega, fun H5 v2 f2 g5 dr5 df2 go2 => ?_⟩
      have gp5 : Gp p H2 H5 := ((Gp.but b3).trans g4).trans g5
      have df1' := (dr4.kd (K := K) g5).dp df1
      refine ⟨by show 2 ≤ sizeLine; decide, fun tp ntp => ?_⟩
      have g6 : Gr H5 (upd H5 tp (.tup [v1, v2])) := Gr.new ntp
      have e6 : upd H5 tp (.tup [v1, v2]) tp = some (.tup [v1, v2]) := upd_same
      generalize upd H5 tp (.tup [v1, v2]) = H6 at g6 e6 ⊢
      refine ⟨tp, _, rfl, .inl (.inl e6), rfl, _, _, rfl, _, _, rfl, rfl, ?_⟩
      have gp6 : Gp p H2 H6 := gp5.trans (Gp.gr g6)
      have gr6 : Gr Hs H6 := Gp.out g02 nps gp6
      have dv1 := g6.kd.dp df1'
      have dv2 := g6.kd.dp df2
      clear gp5 g4 g5 b3 dr3 dr4 dr5 df1 df2 df1' g6 e6 ntp gp6 dr g2 np
      -- both are right
      refine ⟨_, rfl, v1, f1, rfl, dv1, go1, fun H7 g7 => ⟨_, rfl, iteF ?_⟩⟩
      refine ⟨_, rfl, v2, f2, rfl, g7.kd.dp dv2, go2, fun H8 g8 => ⟨_, rfl, iteF ?_⟩⟩
      have g68 : Gr H6 H8 := g7.trans g8
      have dv18 := g68.kd.dp dv1
      obtain ⟨pf, ph, pd, fs, rfl, hpf, hph, hpd, dd⟩ := dp_face dv18
      have hl : fs.length = f1.ds.length := by
        have := dpA_len dd
        rw [List.length_map] at this
        exact this
      have hi8 := go1.hi
      have hlo := go1.lo
      have nn := nam_of go1
      -- names
      refine ⟨_, rfl, pf, _, 1, _, rfl, rfl, hpf, rfl, pd, rfl, ⟨_, hpd⟩, fun D nD => ?_⟩
      have gD : ∀ o, Gr H8 (upd H8 D o) := fun o => Gr.new nD
      refine lc_it (walk_tup (xs := fs)) (fun i H2 => H2 = upd H8 D (.lst (((f1.ds.take i).map De.nm).map V.str))) rfl ?c0 ?c1 ?c2
      case c0 =>
        rintro i H2 hi rfl
        exact (gD _).sqt hpd
      case c1 =>
        rintro i y H2 H2' hi rfl ⟨rfl, hy⟩
        refine ⟨rfl, ?_⟩
        unfold tYes
        refine iteT ?_
        obtain ⟨e, he, de⟩ := dpA_de dd hy
        obtain ⟨pe, n1, t1, v1, rfl, hpe, dn, dt, dv⟩ := dp_3 ((gD _).kd.dp de)
        cases dp_str dn
        refine ⟨_, rfl, pe, _, 0, _, rfl, rfl, hpe, rfl, _, upd_same, ?_, ?_⟩
        · rw [List.length_map, List.length_map, List.length_take]
          exact small1000 (by omega)
        · rw [upd_upd, List.take_add_one, he, List.map_append, List.map_append]
          rfl
      case c2 =>
      rintro H9' rfl
      rw [hl, List.take_length]
      have g9 : Gr H8 (upd H8 D (.lst ((f1.ds.map De.nm).map V.str))) := gD _
      have hD : upd H8 D (.lst ((f1.ds.map De.nm).map V.str)) D = some (.lst ((f1.ds.map De.nm).map V.str)) := upd_same
      generalize upd H8 D (.lst ((f1.ds.map De.nm).map V.str)) = H9 at g9 hD ⊢
      have ln : (f1.ds.map De.nm).length ≤ 8 := by rw [List.length_map]; exact hi8
      have ln1 : 1 ≤ (f1.ds.map De.nm).length := by rw [List.length_map]; exact hlo
      have g69 : Gr H6 H9 := g68.trans g9
      have dv19 := g9.kd.dp dv18
      have hpf9 := g9.sqt hpf
      have hph9 := g9.sqt hph
      clear dd hl hpd gD nD
      generalize hnm : f1.ds.map De.nm = nms at nn hD ln ln1
      -- nobody
      refine ⟨1, 9, rfl, by decide, fun D1 nD1 => ?_⟩
      have gD1 : ∀ o, Gr H9 (upd H9 D1 o) := fun o => Gr.new nD1
      refine lc_it (walk_range (lo := 1) (n := ((9 : Int) - 1).toNat)) (fun j H10 => H10 = upd H9 D1 (.lst ((zs8 j).map V.str))) rfl (fun _ _ _ _ => trivial) ?w1 ?w2
      case w1 =>
        rintro j x H10 H10' hj rfl ⟨rfl, rfl⟩
        refine ⟨rfl, ?_⟩
        unfold tYes
        refine iteT ⟨_, rfl, "z", 1 + j, rfl, ?_, by omega, ?_, by decide +kernel, (zs8 j).map V.str, upd_same, ?_, ?_⟩
        · exact congrArg V.int (show 1 + (j : Int) = ((1 + j : Nat) : Int) by omega)
        · have : ("z" : Str).length = 1 := by decide +kernel
          rw [this]
          omega
        · rw [List.length_map]
          unfold zs8
          rw [List.length_map, List.length_range]
          exact small1000 (by omega)
        · rw [upd_upd, zs8_snoc, List.map_append]
          rfl
      case w2 =>
      rintro H10' rfl
      rw [show ((9 : Int) - 1).toNat = 8 from rfl]
      have g10 : Gr H9 (upd H9 D1 (.lst ((zs8 8).map V.str))) := gD1 _
      have e10 : upd H9 D1 (.lst ((zs8 8).map V.str)) D1 = some (.lst ((zs8 8).map V.str)) := upd_same
      generalize upd H9 D1 (.lst ((zs8 8).map V.str)) = H10 at g10 e10 ⊢
      refine ⟨by show 1 ≤ sizeLine; decide, fun l11 n11 => ?_⟩
      have g11 : Gr H10 (upd H10 l11 (.lst [.str "y"])) := Gr.new n11
      have e11 : upd H10 l11 (.lst [.str "y"]) l11 = some (.lst [.str "y"]) := upd_same
      generalize upd H10 l11 (.lst [.str "y"]) = H11 at g11 e11 ⊢
      refine ⟨D1, l11, _, _, rfl, rfl, g11.lst e10, e11, by show 9 ≤ sizeLine; decide, fun l12 n12 => ?_⟩
      have ez : (zs8 8).map V.str ++ [V.str "y"] = zs9.map V.str := by
        unfold zs9
        rw [List.map_append]
        rfl
      rw [ez]
      have g12 : Gr H11 (upd H11 l12 (.lst (zs9.map V.str))) := Gr.new n12
      have e12 : upd H11 l12 (.lst (zs9.map V.str)) l12 = some (.lst (zs9.map V.str)) := upd_same
      generalize upd H11 l12 (.lst (zs9.map V.str)) = H12 at g12 e12 ⊢
      have g912 : Gr H9 H12 := g10.trans (g11.trans g12)
      refine ⟨l12, rfl, ⟨_, .inl (.inl e12)⟩, fun D2 nD2 => ?_⟩
      have gD2 : ∀ o, Gr H12 (upd H12 D2 o) := fun o => Gr.new nD2
      refine lc_it (walk_list (xs := zs9.map V.str)) (fun j H13 => H13 = upd H12 D2 (.lst (((zs9.take j).filter (fun z => !decide (z ∈ nms))).map V.str))) rfl ?x0 ?x1 ?x2
      case x0 =>
        rintro j H13 hj rfl
        exact .inl (.inl ((gD2 _).lst e12))
      case x1 =>
        rintro j v H13 H13' hj rfl ⟨rfl, hv⟩
        rw [List.getElem?_map] at hv
        obtain ⟨z, hz, rfl⟩ := Option.map_eq_some_iff.mp hv
        refine ⟨rfl, _, rfl, _, rfl, D, _, rfl, .inl (.inl (.inl ((gD2 _).lst (g912.lst hD)))), rfl, flat_strs nms, _, rfl, ?_⟩
        show if (!inV (.str z) (nms.map V.str)) = true then _ else _
        rw [inV_not]
        have ek : (zs9.take (j + 1)).filter (fun z => !decide (z ∈ nms)) = (zs9.take j).filter (fun z => !decide (z ∈ nms)) ++ (if (!decide (z ∈ nms)) = true then [z] else []) := by
          rw [List.take_add_one, hz, List.filter_append]
          cases h : (!decide (z ∈ nms)) <;> simp [List.filter, h]
        cases h : (!decide (z ∈ nms)) with
        | true =>
          rw [h] at ek
          refine iteT ⟨_, rfl, _, upd_same, ?_, ?_⟩
          · rw [List.length_map]
            have a1 := List.length_filter_le (fun z => !decide (z ∈ nms)) (zs9.take j)
            rw [List.length_take, zs9_len] at a1
            exact small1000 (by omega)
          · rw [upd_upd, ek, List.map_append]
            rfl
        | false =>
          rw [h] at ek
          refine iteF ?_
          show _ = _
          rw [ek, if_neg (by decide), List.append_nil]
      case x2 =>
      rintro H13' rfl
      rw [List.length_map, List.take_length]
      obtain ⟨n0, rest, en0, hn0⟩ := nobody ln
      rw [en0]
      have g13 : Gr H12 (upd H12 D2 (.lst ((n0 :: rest).map V.str))) := gD2 _
      have e13 : upd H12 D2 (.lst ((n0 :: rest).map V.str)) D2 = some (.lst ((n0 :: rest).map V.str)) := upd_same
      generalize upd H12 D2 (.lst ((n0 :: rest).map V.str)) = H13 at g13 e13 ⊢
      refine ⟨D2, _, 0, .str n0, rfl, rfl, .inl (.inl e13), atI_nat (j := 0) rfl, ?_⟩
      have g913 : Gr H9 H13 := g912.trans g13
      clear gD2 gD1 g10 g11 g12 e10 e11 e12 e13 nD2 nD1 n11 n12 en0 ez
      -- odd
      obtain ⟨na, nr, ena⟩ : ∃ na nr, nms = na :: nr := by
        cases nms with
        | nil => exact absurd ln1 (by simp)
        | cons a r => exact ⟨a, r, rfl⟩
      have hD13 := g913.lst hD
      have hna : isN na = true := nn na (by rw [ena]; exact List.mem_cons_self)
      obtain ⟨ini, nz, enz⟩ : ∃ ini nz, nms = ini ++ [nz] := by
        rcases List.eq_nil_or_concat nms with h | ⟨L, b, h⟩
        · rw [h] at ena
          cases ena
        · exact ⟨L, b, by simpa using h⟩
      have hnz : nz ∈ nms := by
        rw [enz]
        simp
      have hnz1 := nn nz hnz
      refine ⟨_, rfl, _, rfl, D, _, 0, _, rfl, rfl, .inl (.inl hD13), (atI_nat (j := 0) (by rw [ena]; rfl)), ⟨na, rfl⟩, na, rfl, rfl, ?_, ?_⟩
      · have := (isN_txt hna).1
        omega
      have hup := upper_no hna
      generalize Txt.upper na = n1 at hup ⊢
      refine ⟨by show 1 ≤ sizeLine; decide, fun o1 no1 => ?_⟩
      have k1 : Gr H13 (upd H13 o1 (.tup [.str "a"])) := Gr.new no1
      have w1 : upd H13 o1 (.tup [.str "a"]) o1 = some (.tup [.str "a"]) := upd_same
      generalize upd H13 o1 (.tup [.str "a"]) = G1 at k1 w1 ⊢
      refine ⟨by show 1 ≤ sizeLine; decide, fun o2 no2 => ?_⟩
      have k2 : Gr G1 (upd G1 o2 (.lst [.str "a"])) := Gr.new no2
      have w2 : upd G1 o2 (.lst [.str "a"]) o2 = some (.lst [.str "a"]) := upd_same
      generalize upd G1 o2 (.lst [.str "a"]) = G2 at k2 w2 ⊢
      intro o3 no3
      have k3 : Gr G2 (upd G2 o3 (.dK [])) := Gr.new no3
      have w3 : upd G2 o3 (.dK []) o3 = some (.dK []) := upd_same
      generalize upd G2 o3 (.dK []) = G3 at k3 w3 ⊢
      have hD3 := (k1.trans (k2.trans k3)).lst hD13
      refine ⟨_, rfl, 1, rfl, D, _, -1, _, rfl, rfl, .inl (.inl hD3), ?_, nz, " ", rfl, rfl, ?_, ?_⟩
      · have z := atI_last (ini.map V.str) (V.str nz)
        rw [show ini.map V.str ++ [V.str nz] = nms.map V.str by rw [enz, List.map_append]; rfl] at z
        exact z
      · have := (isN_txt hnz1).1
        have : (" " : Str).length = 1 := by decide +kernel
        rw [sizeLine_eq]
        omega
      have hbl := blank_no nz
      generalize nz ++ (" " : Str) = n9 at hbl ⊢
      refine ⟨by show 10 ≤ sizeLine; decide, fun ol nol => ?_⟩
      have k4 : Gr G3 (upd G3 ol (.lst [.str n0, .str n1, .str "", .non, .int 7, .bl true, .ref o1, .ref o2, .ref o3, .str n9])) := Gr.new nol
      have w4 : upd G3 ol (.lst [.str n0, .str n1, .str "", .non, .int 7, .bl true, .ref o1, .ref o2, .ref o3, .str n9]) ol = some (.lst [.str n0, .str n1, .str "", .non, .int 7, .bl true, .ref o1, .ref o2, .ref o3, .str n9]) := upd_same
      generalize upd G3 ol (.lst [.str n0, .str n1, .str "", .non, .int 7, .bl true, .ref o1, .ref o2, .ref o3, .str n9]) = G4 at k4 w4 ⊢
      obtain ⟨od, eod, hod⟩ := pick10 (K := K) (H := G4) nn (k4.tup (k3.tup (k2.tup w1))) (k4.lst (k3.lst w2)) (k4.dic w3) hn0 hup hbl d0 d10
      refine ⟨_, rfl, ol, _, d, od, rfl, rfl, .inl (.inl w4), eod, ?_⟩
      have g9G : Gr H9 G4 := g913.trans (k1.trans (k2.trans (k3.trans k4)))
      clear k1 k2 k3 k4 w1 w2 w3 w4 no1 no2 no3 nol hD3 hD13 g912 g13 g913
      have hDG := g9G.lst hD
      -- some
      refine ⟨_, rfl, by show 1 ≤ sizeLine; decide, fun sl nsl => ?_⟩
      have k5 : Gr G4 (upd G4 sl (.lst [od])) := Gr.new nsl
      have w5 : upd G4 sl (.lst [od]) sl = some (.lst [od]) := upd_same
      generalize upd G4 sl (.lst [od]) = G5 at k5 w5 ⊢
      have g95 : Gr H9 G5 := g9G.trans k5
      refine ⟨_, rfl, pf, _, 0, _, rfl, rfl, g95.sqt hpf9, rfl, ph, rfl, ⟨_, g95.sqt hph9⟩, fun D3 nD3 => ?_⟩
      have gD3 : ∀ o, Gr G5 (upd G5 D3 o) := fun o => Gr.new nD3
      refine lc_it (walk_tup (xs := f1.hd.map V.str)) (fun j H14 => H14 = upd G5 D3 (.lst (((f1.hd.take j).filter (fun z => !decide (z ∈ nms))).map V.str))) rfl ?z0 ?z1 ?z2
      case z0 =>
        rintro j H14 hj rfl
        exact (gD3 _).sqt (g95.sqt hph9)
      case z1 =>
        rintro j v H14 H14' hj rfl ⟨rfl, hv⟩
        rw [List.getElem?_map] at hv
        obtain ⟨z, hz, rfl⟩ := Option.map_eq_some_iff.mp hv
        refine ⟨rfl, _, rfl, _, rfl, D, _, rfl, .inl (.inl (.inl ((gD3 _).lst (g95.lst hD)))), rfl, flat_strs nms, _, rfl, ?_⟩
        show if (!inV (.str z) (nms.map V.str)) = true then _ else _
        rw [inV_not]
        have ek : (f1.hd.take (j + 1)).filter (fun z => !decide (z ∈ nms)) = (f1.hd.take j).filter (fun z => !decide (z ∈ nms)) ++ (if (!decide (z ∈ nms)) = true then [z] else []) := by
          rw [List.take_add_one, hz, List.filter_append]
          cases h : (!decide (z ∈ nms)) <;> simp [List.filter, h]
        cases h : (!decide (z ∈ nms)) with
        | true =>
          rw [h] at ek
          refine iteT ⟨_, rfl, _, upd_same, ?_, ?_⟩
          · rw [List.length_map]
            have a1 := List.length_filter_le (fun z => !decide (z ∈ nms)) (f1.hd.take j)
            have a2 := go1.hid.hi
            rw [List.length_take] at a1
            exact small1000 (by omega)
          · rw [upd_upd, ek, List.map_append]
            rfl
        | false =>
          rw [h] at ek
          refine iteF ?_
          show _ = _
          rw [ek, if_neg (by decide), List.append_nil]
      case z2 =>
      rintro H14' rfl
      rw [List.length_map, List.take_length]
      have k6 : Gr G5 (upd G5 D3 (.lst ((f1.hd.filter (fun z => !decide (z ∈ nms))).map V.str))) := gD3 _
      have w6 : upd G5 D3 (.lst ((f1.hd.filter (fun z => !decide (z ∈ nms))).map V.str)) D3 = some (.lst ((f1.hd.filter (fun z => !decide (z ∈ nms))).map V.str)) := upd_same
      generalize upd G5 D3 (.lst ((f1.hd.filter (fun z => !decide (z ∈ nms))).map V.str)) = G6 at k6 w6 ⊢
      have flen : (f1.hd.filter (fun z => !decide (z ∈ nms))).length ≤ 2 := Nat.le_trans (List.length_filter_le _ _) go1.hid.hi
      refine ⟨sl, D3, _, _, rfl, rfl, k6.lst w5, w6, ?_, fun sm nsm => ?_⟩
      · rw [List.length_map, sizeLine_eq]
        show 1 + _ ≤ _
        omega
      have odd : ∀ v ∈ [od] ++ (f1.hd.filter (fun z => !decide (z ∈ nms))).map V.str, Ody K G6 nms v := by
        intro v hv
        rcases List.mem_append.mp hv with h | h
        · have : v = od := by simpa using h
          rw [this]
          exact hod.gr (k5.trans k6)
        · obtain ⟨z, hz, rfl⟩ := List.mem_map.mp h
          have hz2 := (List.mem_filter.mp hz).2
          exact ⟨⟨_, is_str z⟩, fun y e => by cases e; simpa using hz2⟩
      have slen : ([od] ++ (f1.hd.filter (fun z => !decide (z ∈ nms))).map V.str).length ≤ 3 := by
        rw [List.length_append, List.length_map]
        show 1 + _ ≤ 3
        omega
      have k7 : Gr G6 (upd G6 sm (.lst ([od] ++ (f1.hd.filter (fun z => !decide (z ∈ nms))).map V.str))) := Gr.new nsm
      have w7 : upd G6 sm (.lst ([od] ++ (f1.hd.filter (fun z => !decide (z ∈ nms))).map V.str)) sm = some (.lst ([od] ++ (f1.hd.filter (fun z => !decide (z ∈ nms))).map V.str)) := upd_same
      generalize upd G6 sm (.lst ([od] ++ (f1.hd.filter (fun z => !decide (z ∈ nms))).map V.str)) = G7 at k7 w7 ⊢
      generalize [od] ++ (f1.hd.filter (fun z => !decide (z ∈ nms))).map V.str = some_ at odd slen w7
      have g97 : Gr H9 G7 := g95.trans (k6.trans k7)
      have odd7 : ∀ v ∈ some_, Ody K G7 nms v := fun v hv => (odd v hv).gr k7
      have dvG := g97.kd.dp dv19
      have grG : Gr Hs G7 := gr6.trans (g69.trans g97)
      clear odd k5 k6 w5 w6 gD3 nD3 nsm nsl hod eod
      -- refused, both ways
      refine ⟨_, rfl, sm, rfl, ⟨_, .inl (.inl w7)⟩, fun D4 nD4 => ?_⟩
      have gD4 : Gr G7 (upd G7 D4 (.lst [])) := Gr.new nD4
      refine lc_it (walk_list (xs := some_)) (fun j H15 => Gr (upd G7 D4 (.lst [])) H15) (Gr.refl _) ?v0 ?v1 ?v2
      case v0 =>
        intro j H15 hj g15
        exact .inl (.inl ((gD4.trans g15).lst w7))
      case v1 =>
        rintro j v H15' H15 hj g15 ⟨rfl, hv⟩
        obtain ⟨⟨T1, i1⟩, i2⟩ := (odd7 v (List.mem_of_getElem? hv)).gr (gD4.trans g15)
        refine ⟨rfl, _, rfl, _, rfl, 0, _, _, f1, T1, rfl, (gD4.trans g15).kd.dp dvG, go1, i1, ?_, fun H16 r16 g16 e16 => ?_⟩
        · rw [hnm]
          exact i2
        refine ⟨by show 1 ≤ sizeLine; decide, fun r17 n17 => ?_⟩
        have ne17 : r16 ≠ r17 := ne_of_none e16 n17
        refine ⟨.list [.str "place"], .list [.str "place"], .lst (.inl (.inl ((upd_ne ne17).trans e16))) (.cons (.str _) .nil), .lst (.inl (.inl upd_same)) (.cons (.str _) .nil), shp, shp, _, rfl, ?_⟩
        rw [eqp]
        refine iteF ?_
        exact (g15.trans g16).trans (Gr.new n17)
      case v2 =>
      intro H15 g15
      have e15 : H15 D4 = some (.lst []) := g15.lst upd_same
      refine ⟨Nat.zero_le _, fun p5 np5 => ?_⟩
      have nD5 : D4 ≠ p5 := ne_of_none e15 np5
      refine ⟨.list [], .list [], .lst (.inl (.inl ((upd_ne nD5).trans e15))) .nil, .lst (.inl (.inl upd_same)) .nil, rfl, rfl, _, rfl, iteF ?_⟩
      have g16 : Gr G7 (upd H15 p5 (.lst [])) := (gD4.trans g15).trans (Gr.new np5)
      generalize upd H15 p5 (.lst []) = G8 at g16 ⊢
      refine ⟨_, rfl, sm, rfl, ⟨_, .inl (.inl (g16.lst w7))⟩, fun D6 nD6 => ?_⟩
      have gD6 : Gr G8 (upd G8 D6 (.lst [])) := Gr.new nD6
      have g86 : Gr G7 (upd G8 D6 (.lst [])) := g16.trans gD6
      refine lc_it (walk_list (xs := some_)) (fun j H15 => Gr (upd G8 D6 (.lst [])) H15) (Gr.refl _) ?u0 ?u1 ?u2
      case u0 =>
        intro j H15 hj g15
        exact .inl (.inl ((g86.trans g15).lst w7))
      case u1 =>
        rintro j v H15' H15 hj g15 ⟨rfl, hv⟩
        obtain ⟨⟨T1, i1⟩, i2⟩ := (odd7 v (List.mem_of_getElem? hv)).gr (g86.trans g15)
        refine ⟨rfl, _, rfl, _, rfl, 1, _, _, f1, T1, rfl, (g86.trans g15).kd.dp dvG, go1, i1, ?_, fun H16 r16 g16 e16 => ?_⟩
        · rw [hnm]
          exact i2
        refine ⟨by show 1 ≤ sizeLine; decide, fun r17 n17 => ?_⟩
        have ne17 : r16 ≠ r17 := ne_of_none e16 n17
        refine ⟨.list [.str "place"], .list [.str "place"], .lst (.inl (.inl ((upd_ne ne17).trans e16))) (.cons (.str _) .nil), .lst (.inl (.inl upd_same)) (.cons (.str _) .nil), shp, shp, _, rfl, ?_⟩
        rw [eqp]
        refine iteF ?_
        exact (g15.trans g16).trans (Gr.new n17)
      case u2 =>
      intro H17 g17
      have e17 : H17 D6 = some (.lst []) := g17.lst upd_same
      refine ⟨Nat.zero_le _, fun p7 np7 => ?_⟩
      have nD7 : D6 ≠ p7 := ne_of_none e17 np7
      refine ⟨.list [], .list [], .lst (.inl (.inl ((upd_ne nD7).trans e17))) .nil, .lst (.inl (.inl upd_same)) .nil, rfl, rfl, _, rfl, iteF ?_⟩
      exact ⟨_, _, _, _, _, _, _, _, _, _, rfl, grG.trans ((g86.trans g17).trans (Gr.new np7))⟩
end
end SfC
namespace SfC
open PySem PySem.Spec PyProof.Rows L2 SfG
set_option maxHeartbeats 4000000 in
theorem all_mk {l : PySem.W.OpenLaw} {w : World} {K : PySem.W.Frag} {h : Heap} {mg : Str → Option Value} {fa : Addr} (X : K.In h) (G : h.Ns mainGlobals mg) (hfa : mg "law" = some (.ref fa))
    {fA : Addr} {odA anA : Option Addr} {slA : Array (Option Value)} {ocA kVA dcA pmA ctA cdA : Value}
    (aA : PySem.W.nsIn K mainGlobals "is_name" = some (some (.ref fA))) (lA : K.lookup fA = some ⟨ocA, odA, .func (PySem.W.fnOf "is_name" "is_name" (defArgs sName) (defBody sName) (defScope sName) .none kVA dcA pmA anA cdA ctA), slA⟩) (hA : PySem.W.codeIn K cdA "is_name" = true) (kA : PySem.W.keepIn K (.ref fA) = true)
    {fB : Addr} {odB anB : Option Addr} {slB : Array (Option Value)} {ocB kVB dcB pmB ctB cdB : Value}
    (aB : PySem.W.nsIn K mainGlobals "is_kind" = some (some (.ref fB))) (lB : K.lookup fB = some ⟨ocB, odB, .func (PySem.W.fnOf "is_kind" "is_kind" (defArgs sKind) (defBody sKind) (defScope sKind) .none kVB dcB pmB anB cdB ctB), slB⟩) (hB : PySem.W.codeIn K cdB "is_kind" = true) (kB : PySem.W.keepIn K (.ref fB) = true)
    {fC : Addr} {odC anC : Option Addr} {slC : Array (Option Value)} {ocC kVC dcC pmC ctC cdC : Value}
    (aC : PySem.W.nsIn K mainGlobals "first_bad_deed" = some (some (.ref fC))) (lC : K.lookup fC = some ⟨ocC, odC, .func (PySem.W.fnOf "first_bad_deed" "first_bad_deed" (defArgs sBadD) (defBody sBadD) (defScope sBadD) .none kVC dcC pmC anC cdC ctC), slC⟩) (hC : PySem.W.codeIn K cdC "first_bad_deed" = true) (kC : PySem.W.keepIn K (.ref fC) = true)
    {fD : Addr} {odD anD : Option Addr} {slD : Array (Option Value)} {ocD kVD dcD pmD ctD cdD : Value}
    (aD : PySem.W.nsIn K mainGlobals "first_bad_hidden" = some (some (.ref fD))) (lD : K.lookup fD = some ⟨ocD, odD, .func (PySem.W.fnOf "first_bad_hidden" "first_bad_hidden" (defArgs sBadH) (defBody sBadH) (defScope sBadH) .none kVD dcD pmD anD cdD ctD), slD⟩) (hD : PySem.W.codeIn K cdD "first_bad_hidden" = true) (kD : PySem.W.keepIn K (.ref fD) = true)
    {fE : Addr} {odE anE : Option Addr} {slE : Array (Option Value)} {ocE kVE dcE pmE ctE cdE : Value}
    (aE : PySem.W.nsIn K mainGlobals "face_fault" = some (some (.ref fE))) (lE : K.lookup fE = some ⟨ocE, odE, .func (PySem.W.fnOf "face_fault" "face_fault" (defArgs sFault) (defBody sFault) (defScope sFault) .none kVE dcE pmE anE cdE ctE), slE⟩) (hE : PySem.W.codeIn K cdE "face_fault" = true) (kE : PySem.W.keepIn K (.ref fE) = true)
    {fI : Addr} {odI anI : Option Addr} {slI : Array (Option Value)} {ocI kVI dcI pmI ctI cdI : Value}
    (aI : PySem.W.nsIn K mainGlobals "is_face" = some (some (.ref fI))) (lI : K.lookup fI = some ⟨ocI, odI, .func (PySem.W.fnOf "is_face" "is_face" (defArgs sIsF) (defBody sIsF) (defScope sIsF) .none kVI dcI pmI anI cdI ctI), slI⟩) (hI : PySem.W.codeIn K cdI "is_face" = true) (kI : PySem.W.keepIn K (.ref fI) = true)
    {fN : Addr} {odN anN : Option Addr} {slN : Array (Option Value)} {ocN kVN dcN pmN ctN cdN : Value}
    (aN : PySem.W.nsIn K mainGlobals "need_face" = some (some (.ref fN))) (lN : K.lookup fN = some ⟨ocN, odN, .func (PySem.W.fnOf "need_face" "need_face" (defArgs sNeed) (defBody sNeed) (defScope sNeed) .none kVN dcN pmN anN cdN ctN), slN⟩) (hN : PySem.W.codeIn K cdN "need_face" = true) (kN : PySem.W.keepIn K (.ref fN) = true)
    {fH : Addr} {odH anH : Option Addr} {slH : Array (Option Value)} {ocH kVH dcH pmH ctH cdH : Value}
    (aH : PySem.W.nsIn K mainGlobals "hidden_of" = some (some (.ref fH))) (lH : K.lookup fH = some ⟨ocH, odH, .func (PySem.W.fnOf "hidden_of" "hidden_of" (defArgs sHidOf) (defBody sHidOf) (defScope sHidOf) .none kVH dcH pmH anH cdH ctH), slH⟩) (hH : PySem.W.codeIn K cdH "hidden_of" = true) (kH : PySem.W.keepIn K (.ref fH) = true)
    {fM : Addr} {odM anM : Option Addr} {slM : Array (Option Value)} {ocM kVM dcM pmM ctM cdM : Value}
    (aM : PySem.W.nsIn K mainGlobals "names_of" = some (some (.ref fM))) (lM : K.lookup fM = some ⟨ocM, odM, .func (PySem.W.fnOf "names_of" "names_of" (defArgs sNamOf) (defBody sNamOf) (defScope sNamOf) .none kVM dcM pmM anM cdM ctM), slM⟩) (hM : PySem.W.codeIn K cdM "names_of" = true) (kM : PySem.W.keepIn K (.ref fM) = true)
    {fF : Addr} {odF anF : Option Addr} {slF : Array (Option Value)} {ocF kVF dcF pmF ctF cdF : Value}
    (aF : PySem.W.nsIn K mainGlobals "find_deed" = some (some (.ref fF))) (lF : K.lookup fF = some ⟨ocF, odF, .func (PySem.W.fnOf "find_deed" "find_deed" (defArgs sFind) (defBody sFind) (defScope sFind) .none kVF dcF pmF anF cdF ctF), slF⟩) (hF : PySem.W.codeIn K cdF "find_deed" = true) (kF : PySem.W.keepIn K (.ref fF) = true)
    {fG : Addr} {odG anG : Option Addr} {slG : Array (Option Value)} {ocG kVG dcG pmG ctG cdG : Value}
    (aG : PySem.W.nsIn K mainGlobals "deed_number" = some (some (.ref fG))) (lG : K.lookup fG = some ⟨ocG, odG, .func (PySem.W.fnOf "deed_number" "deed_number" (defArgs sDeedN) (defBody sDeedN) (defScope sDeedN) .none kVG dcG pmG anG cdG ctG), slG⟩) (hG : PySem.W.codeIn K cdG "deed_number" = true) (kG : PySem.W.keepIn K (.ref fG) = true)
    {fT : Addr} {odT anT : Option Addr} {slT : Array (Option Value)} {ocT kVT dcT pmT ctT cdT : Value}
    (aT : PySem.W.nsIn K mainGlobals "takes_of" = some (some (.ref fT))) (lT : K.lookup fT = some ⟨ocT, odT, .func (PySem.W.fnOf "takes_of" "takes_of" (defArgs sTakes) (defBody sTakes) (defScope sTakes) .none kVT dcT pmT anT cdT ctT), slT⟩) (hT : PySem.W.codeIn K cdT "takes_of" = true) (kT : PySem.W.keepIn K (.ref fT) = true)
    {fV : Addr} {odV anV : Option Addr} {slV : Array (Option Value)} {ocV kVV dcV pmV ctV cdV : Value}
    (aV : PySem.W.nsIn K mainGlobals "gives_of" = some (some (.ref fV))) (lV : K.lookup fV = some ⟨ocV, odV, .func (PySem.W.fnOf "gives_of" "gives_of" (defArgs sGives) (defBody sGives) (defScope sGives) .none kVV dcV pmV anV cdV ctV), slV⟩) (hV : PySem.W.codeIn K cdV "gives_of" = true) (kV : PySem.W.keepIn K (.ref fV) = true)
    {fX : Addr} {odX anX : Option Addr} {slX : Array (Option Value)} {ocX kVX dcX pmX ctX cdX : Value}
    (aX : PySem.W.nsIn K mainGlobals "_law_mixed" = some (some (.ref fX))) (lX : K.lookup fX = some ⟨ocX, odX, .func (PySem.W.fnOf "_law_mixed" "_law_mixed" (defArgs sMixed) (defBody sMixed) (defScope sMixed) .none kVX dcX pmX anX cdX ctX), slX⟩) (hX : PySem.W.codeIn K cdX "_law_mixed" = true) (kX : PySem.W.keepIn K (.ref fX) = true)
    {fK : Addr} {odK anK : Option Addr} {slK : Array (Option Value)} {ocK kVK dcK pmK ctK cdK : Value}
    (aK : PySem.W.nsIn K mainGlobals "_law_kinds" = some (some (.ref fK))) (lK : K.lookup fK = some ⟨ocK, odK, .func (PySem.W.fnOf "_law_kinds" "_law_kinds" (defArgs sKinds) (defBody sKinds) (defScope sKinds) .none kVK dcK pmK anK cdK ctK), slK⟩) (hK : PySem.W.codeIn K cdK "_law_kinds" = true) (kK : PySem.W.keepIn K (.ref fK) = true)
    {fR : Addr} {odR anR : Option Addr} {slR : Array (Option Value)} {ocR kVR dcR pmR ctR cdR : Value}
    (aR : PySem.W.nsIn K mainGlobals "_law_draw" = some (some (.ref fR))) (lR : K.lookup fR = some ⟨ocR, odR, .func (PySem.W.fnOf "_law_draw" "_law_draw" (defArgs sDraw) (defBody sDraw) (defScope sDraw) .none kVR dcR pmR anR cdR ctR), slR⟩) (hR : PySem.W.codeIn K cdR "_law_draw" = true) (kR : PySem.W.keepIn K (.ref fR) = true)
    {fJ : Addr} {odJ anJ : Option Addr} {slJ : Array (Option Value)} {ocJ kVJ dcJ pmJ ctJ cdJ : Value}
    (aJ : PySem.W.nsIn K mainGlobals "_law_digit" = some (some (.ref fJ))) (lJ : K.lookup fJ = some ⟨ocJ, odJ, .func (PySem.W.fnOf "_law_digit" "_law_digit" (defArgs sDigit) (defBody sDigit) (defScope sDigit) .none kVJ dcJ pmJ anJ cdJ ctJ), slJ⟩) (hJ : PySem.W.codeIn K cdJ "_law_digit" = true) (kJ : PySem.W.keepIn K (.ref fJ) = true)
    {fU : Addr} {odU anU : Option Addr} {slU : Array (Option Value)} {ocU kVU dcU pmU ctU cdU : Value}
    (aU : PySem.W.nsIn K mainGlobals "_law_names" = some (some (.ref fU))) (lU : K.lookup fU = some ⟨ocU, odU, .func (PySem.W.fnOf "_law_names" "_law_names" (defArgs sNames) (defBody sNames) (defScope sNames) .none kVU dcU pmU anU cdU ctU), slU⟩) (hU : PySem.W.codeIn K cdU "_law_names" = true) (kU : PySem.W.keepIn K (.ref fU) = true)
    {fW : Addr} {odW anW : Option Addr} {slW : Array (Option Value)} {ocW kVW dcW pmW ctW cdW : Value}
    (aW : PySem.W.nsIn K mainGlobals "_law_kind" = some (some (.ref fW))) (lW : K.lookup fW = some ⟨ocW, odW, .func (PySem.W.fnOf "_law_kind" "_law_kind" (defArgs sLKind) (defBody sLKind) (defScope sLKind) .none kVW dcW pmW anW cdW ctW), slW⟩) (hW : PySem.W.codeIn K cdW "_law_kind" = true) (kW : PySem.W.keepIn K (.ref fW) = true)
    {fY : Addr} {odY anY : Option Addr} {slY : Array (Option Value)} {ocY kVY dcY pmY ctY cdY : Value}
    (aY : PySem.W.nsIn K mainGlobals "_law_face" = some (some (.ref fY))) (lY : K.lookup fY = some ⟨ocY, odY, .func (PySem.W.fnOf "_law_face" "_law_face" (defArgs sFace) (defBody sFace) (defScope sFace) .none kVY dcY pmY anY cdY ctY), slY⟩) (hY : PySem.W.codeIn K cdY "_law_face" = true) (kY : PySem.W.keepIn K (.ref fY) = true)
    {fZ : Addr} {odZ anZ : Option Addr} {slZ : Array (Option Value)} {ocZ kVZ dcZ pmZ ctZ cdZ : Value}
    (aZ : PySem.W.nsIn K mainGlobals "_law_refused" = some (some (.ref fZ))) (lZ : K.lookup fZ = some ⟨ocZ, odZ, .func (PySem.W.fnOf "_law_refused" "_law_refused" (defArgs sRef) (defBody sRef) (defScope sRef) .none kVZ dcZ pmZ anZ cdZ ctZ), slZ⟩) (hZ : PySem.W.codeIn K cdZ "_law_refused" = true) (kZ : PySem.W.keepIn K (.ref fZ) = true)
    {fQ : Addr} {odQ anQ : Option Addr} {slQ : Array (Option Value)} {ocQ kVQ dcQ pmQ ctQ cdQ : Value}
    (aQ : PySem.W.nsIn K mainGlobals "_law_right" = some (some (.ref fQ))) (lQ : K.lookup fQ = some ⟨ocQ, odQ, .func (PySem.W.fnOf "_law_right" "_law_right" (defArgs sRight) (defBody sRight) (defScope sRight) .none kVQ dcQ pmQ anQ cdQ ctQ), slQ⟩) (hQ : PySem.W.codeIn K cdQ "_law_right" = true) (kQ : PySem.W.keepIn K (.ref fQ) = true)
    {fL : Addr} {odL anL : Option Addr} {slL : Array (Option Value)} {ocL kVL dcL pmL ctL cdL : Value}
    (aL : PySem.W.nsIn K mainGlobals "law" = some (some (.ref fL))) (lL : K.lookup fL = some ⟨ocL, odL, .func (PySem.W.fnOf "law" "law" (defArgs sLaw) (defBody sLaw) (defScope sLaw) .none kVL dcL pmL anL cdL ctL), slL⟩) (hL : PySem.W.codeIn K cdL "law" = true) (kL : PySem.W.keepIn K (.ref fL) = true)
    {cBadRow cBadFace cBadMaking cBadUser cBadSteps cBadLead cToldApart cOutOfPlace cTooGreat cBadPaper cBadProgram cBadModule cRefused cBadUse cBadInput cFaceError : Addr}
    (nBadRow : PySem.W.nsIn K mainGlobals "BadRow" = some (some (.ref cBadRow)))
    (nBadFace : PySem.W.nsIn K mainGlobals "BadFace" = some (some (.ref cBadFace)))
    (nBadMaking : PySem.W.nsIn K mainGlobals "BadMaking" = some (some (.ref cBadMaking)))
    (nBadUser : PySem.W.nsIn K mainGlobals "BadUser" = some (some (.ref cBadUser)))
    (nBadSteps : PySem.W.nsIn K mainGlobals "BadSteps" = some (some (.ref cBadSteps)))
    (nBadLead : PySem.W.nsIn K mainGlobals "BadLead" = some (some (.ref cBadLead)))
    (nToldApart : PySem.W.nsIn K mainGlobals "ToldApart" = some (some (.ref cToldApart)))
    (nOutOfPlace : PySem.W.nsIn K mainGlobals "OutOfPlace" = some (some (.ref cOutOfPlace)))
    (nTooGreat : PySem.W.nsIn K mainGlobals "TooGreat" = some (some (.ref cTooGreat)))
    (nBadPaper : PySem.W.nsIn K mainGlobals "BadPaper" = some (some (.ref cBadPaper)))
    (nBadProgram : PySem.W.nsIn K mainGlobals "BadProgram" = some (some (.ref cBadProgram)))
    (nBadModule : PySem.W.nsIn K mainGlobals "BadModule" = some (some (.ref cBadModule)))
    (nRefused : PySem.W.nsIn K mainGlobals "Refused" = some (some (.ref cRefused)))
    (nBadUse : PySem.W.nsIn K mainGlobals "BadUse" = some (some (.ref cBadUse)))
    (nBadInput : PySem.W.nsIn K mainGlobals "BadInput" = some (some (.ref cBadInput)))
    (nFaceError : PySem.W.nsIn K mainGlobals "FaceError" = some (some (.ref cFaceError)))
    (tBadRow : PySem.W.kitOne K (.ref cOutOfPlace) (.ref cBadRow) = some false)
    (tBadFace : PySem.W.kitOne K (.ref cOutOfPlace) (.ref cBadFace) = some false)
    (tBadMaking : PySem.W.kitOne K (.ref cOutOfPlace) (.ref cBadMaking) = some false)
    (tBadUser : PySem.W.kitOne K (.ref cOutOfPlace) (.ref cBadUser) = some false)
    (tBadSteps : PySem.W.kitOne K (.ref cOutOfPlace) (.ref cBadSteps) = some false)
    (tBadLead : PySem.W.kitOne K (.ref cOutOfPlace) (.ref cBadLead) = some false)
    (tToldApart : PySem.W.kitOne K (.ref cOutOfPlace) (.ref cToldApart) = some false)
    (tOutOfPlace : PySem.W.kitOne K (.ref cOutOfPlace) (.ref cOutOfPlace) = some true)
    (tTooGreat : PySem.W.kitOne K (.ref cOutOfPlace) (.ref cTooGreat) = some false)
    (tBadPaper : PySem.W.kitOne K (.ref cOutOfPlace) (.ref cBadPaper) = some false)
    (tBadProgram : PySem.W.kitOne K (.ref cOutOfPlace) (.ref cBadProgram) = some false)
    (tBadModule : PySem.W.kitOne K (.ref cOutOfPlace) (.ref cBadModule) = some false)
    (tRefused : PySem.W.kitOne K (.ref cOutOfPlace) (.ref cRefused) = some false)
    (tBadUse : PySem.W.kitOne K (.ref cOutOfPlace) (.ref cBadUse) = some false)
    (tBadInput : PySem.W.kitOne K (.ref cOutOfPlace) (.ref cBadInput) = some false)
    (tFaceError : PySem.W.kitOne K (.ref cOutOfPlace) (.ref cFaceError) = some true)
    (tVE : PySem.W.kitOne K (.ref cOutOfPlace) (.type "ValueError") = some true)
    (eg : PySem.W.findIn K (.ref cOutOfPlace) "__getattribute__" = some (some (.builtin "BaseException.__getattribute__")))
    (ek : PySem.W.findIn K (.ref cOutOfPlace) "__getattr__" = some none)
    (es : PySem.W.subIn K (.ref cOutOfPlace) (.type "BaseException") = some true)
    (ed : PySem.W.hasDictIn K cOutOfPlace = true)
    (ea : PySem.W.findIn K (.ref cOutOfPlace) "__class__" = some (some (.builtin "object.__class__")))
    (en : PySem.W.specialIn K (.builtin "object.__class__") "__get__" = some (some (.builtin "getset_descriptor.__get__")))
    (et : PySem.W.takesIn K (.builtin "object.__class__") = some true)
    (em : PySem.W.mroIn K cOutOfPlace (.type "object") = some true)
    (ox : PySem.W.excIn K cOutOfPlace [.type "ValueError", .type "Exception", .type "BaseException", .type "object"] "ValueError.__new__" = true)
    (ok_ : PySem.W.keepIn K (.ref cOutOfPlace) = true)
    (ot : PySem.W.typeIn K (.ref cOutOfPlace) = some (.type "type"))
    (oe : PySem.W.exmOne K (.ref cOutOfPlace) (.ref cFaceError) = some true)
    {t8 : Tok} (a8 : PySem.W.nsIn K mainGlobals "MOST_DEEDS" = some (some (.int 8 t8)))
    (z_isinstance : PySem.W.nsIn K mainGlobals "isinstance" = some none)
    (z_str : PySem.W.nsIn K mainGlobals "str" = some none)
    (z_int : PySem.W.nsIn K mainGlobals "int" = some none)
    (z_tuple : PySem.W.nsIn K mainGlobals "tuple" = some none)
    (z_len : PySem.W.nsIn K mainGlobals "len" = some none)
    (z_list : PySem.W.nsIn K mainGlobals "list" = some none)
    (z_enumerate : PySem.W.nsIn K mainGlobals "enumerate" = some none)
    (z_range : PySem.W.nsIn K mainGlobals "range" = some none)
    (z_sorted : PySem.W.nsIn K mainGlobals "sorted" = some none)
    (z_repr : PySem.W.nsIn K mainGlobals "repr" = some none)
    (z_sum : PySem.W.nsIn K mainGlobals "sum" = some none)
    (z_ValueError : PySem.W.nsIn K mainGlobals "ValueError" = some none) :
    LawG l w K CX0 7 63 "_law_script" mg fa h := by
  have e := hfa.symm.trans (PySem.W.mg_of X G aL)
  cases e
  have FA := fun_mk (st := sName) lA hA kA
  have bA := (FA).binds (ps := ["thing"]) fun _ _ _ _ _ _ us hl => match us, hl with | [_], _ => rfl
  have gA := PySem.W.mg_of X G aA
  have FB := fun_mk (st := sKind) lB hB kB
  have bB := (FB).binds (ps := ["thing", "hidden"]) fun _ _ _ _ _ _ us hl => match us, hl with | [_, _], _ => rfl
  have gB := PySem.W.mg_of X G aB
  have FC := fun_mk (st := sBadD) lC hC kC
  have bC := (FC).binds (ps := ["deeds", "hidden"]) fun _ _ _ _ _ _ us hl => match us, hl with | [_, _], _ => rfl
  have gC := PySem.W.mg_of X G aC
  have FD := fun_mk (st := sBadH) lD hD kD
  have bD := (FD).binds (ps := ["hidden"]) fun _ _ _ _ _ _ us hl => match us, hl with | [_], _ => rfl
  have gD := PySem.W.mg_of X G aD
  have FE := fun_mk (st := sFault) lE hE kE
  have bE := (FE).binds (ps := ["thing"]) fun _ _ _ _ _ _ us hl => match us, hl with | [_], _ => rfl
  have gE := PySem.W.mg_of X G aE
  have FI := fun_mk (st := sIsF) lI hI kI
  have bI := (FI).binds (ps := ["thing"]) fun _ _ _ _ _ _ us hl => match us, hl with | [_], _ => rfl
  have gI := PySem.W.mg_of X G aI
  have FN := fun_mk (st := sNeed) lN hN kN
  have bN := (FN).binds (ps := ["face"]) fun _ _ _ _ _ _ us hl => match us, hl with | [_], _ => rfl
  have gN := PySem.W.mg_of X G aN
  have FH := fun_mk (st := sHidOf) lH hH kH
  have bH := (FH).binds (ps := ["face"]) fun _ _ _ _ _ _ us hl => match us, hl with | [_], _ => rfl
  have gH := PySem.W.mg_of X G aH
  have FM := fun_mk (st := sNamOf) lM hM kM
  have bM := (FM).binds (ps := ["face"]) fun _ _ _ _ _ _ us hl => match us, hl with | [_], _ => rfl
  have gM := PySem.W.mg_of X G aM
  have FF := fun_mk (st := sFind) lF hF kF
  have bF := (FF).binds (ps := ["face", "name"]) fun _ _ _ _ _ _ us hl => match us, hl with | [_, _], _ => rfl
  have gF := PySem.W.mg_of X G aF
  have FG := fun_mk (st := sDeedN) lG hG kG
  have bG := (FG).binds (ps := ["face", "name"]) fun _ _ _ _ _ _ us hl => match us, hl with | [_, _], _ => rfl
  have gG := PySem.W.mg_of X G aG
  have FT := fun_mk (st := sTakes) lT hT kT
  have bT := (FT).binds (ps := ["face", "name"]) fun _ _ _ _ _ _ us hl => match us, hl with | [_, _], _ => rfl
  have gT := PySem.W.mg_of X G aT
  have FV := fun_mk (st := sGives) lV hV kV
  have bV := (FV).binds (ps := ["face", "name"]) fun _ _ _ _ _ _ us hl => match us, hl with | [_, _], _ => rfl
  have gV := PySem.W.mg_of X G aV
  have FX := fun_mk (st := sMixed) lX hX kX
  have bX := (FX).binds (ps := ["_law_cell", "_law_k"]) fun _ _ _ _ _ _ us hl => match us, hl with | [_, _], _ => rfl
  have gX := PySem.W.mg_of X G aX
  have FK := fun_mk (st := sKinds) lK hK kK
  have bK := (FK).binds (ps := ["_law_error"]) fun _ _ _ _ _ _ us hl => match us, hl with | [_], _ => rfl
  have gK := PySem.W.mg_of X G aK
  have FR := fun_mk (st := sDraw) lR hR kR
  have bR := (FR).binds (ps := ["_law_cell", "_law_k"]) fun _ _ _ _ _ _ us hl => match us, hl with | [_, _], _ => rfl
  have gR := PySem.W.mg_of X G aR
  have FJ := fun_mk (st := sDigit) lJ hJ kJ
  have bJ := (FJ).binds (ps := ["_law_state", "_law_many"]) fun _ _ _ _ _ _ us hl => match us, hl with | [_, _], _ => rfl
  have gJ := PySem.W.mg_of X G aJ
  have FU := fun_mk (st := sNames) lU hU kU
  have bU := (FU).binds (ps := ["_law_state", "_law_many"]) fun _ _ _ _ _ _ us hl => match us, hl with | [_, _], _ => rfl
  have gU := PySem.W.mg_of X G aU
  have FW := fun_mk (st := sLKind) lW hW kW
  have bW := (FW).binds (ps := ["_law_state", "_law_hidden"]) fun _ _ _ _ _ _ us hl => match us, hl with | [_, _], _ => rfl
  have gW := PySem.W.mg_of X G aW
  have FY := fun_mk (st := sFace) lY hY kY
  have bY := (FY).binds (ps := ["_law_state", "_law_most"]) fun _ _ _ _ _ _ us hl => match us, hl with | [_, _], _ => rfl
  have gY := PySem.W.mg_of X G aY
  have FZ := fun_mk (st := sRef) lZ hZ kZ
  have bZ := (FZ).binds (ps := ["_law_way", "_law_face_here", "_law_name"]) fun _ _ _ _ _ _ us hl => match us, hl with | [_, _, _], _ => rfl
  have gZ := PySem.W.mg_of X G aZ
  have FQ := fun_mk (st := sRight) lQ hQ kQ
  have bQ := (FQ).binds (ps := ["_law_face_here"]) fun _ _ _ _ _ _ us hl => match us, hl with | [_], _ => rfl
  have gQ := PySem.W.mg_of X G aQ
  have FL := fun_mk (st := sLaw) lL hL kL
  have bL := (FL).binds (ps := ["_law_script"]) fun _ _ _ _ _ _ us hl => match us, hl with | [_], _ => rfl
  have gL := PySem.W.mg_of X G aL
  have m_isinstance := PySem.W.mg_none_of X G z_isinstance
  have m_str := PySem.W.mg_none_of X G z_str
  have m_int := PySem.W.mg_none_of X G z_int
  have m_tuple := PySem.W.mg_none_of X G z_tuple
  have m_len := PySem.W.mg_none_of X G z_len
  have m_list := PySem.W.mg_none_of X G z_list
  have m_enumerate := PySem.W.mg_none_of X G z_enumerate
  have m_range := PySem.W.mg_none_of X G z_range
  have m_sorted := PySem.W.mg_none_of X G z_sorted
  have m_repr := PySem.W.mg_none_of X G z_repr
  have m_sum := PySem.W.mg_none_of X G z_sum
  have m_ValueError := PySem.W.mg_none_of X G z_ValueError
  have m8 := PySem.W.mg_of X G a8
  have O : Oop K mg cOutOfPlace := ⟨PySem.W.mg_of X G nOutOfPlace, ox, ok_, es, ot⟩
  have KX : Kxs K mg cOutOfPlace bsPlace := ⟨⟨eg, ek, es, ed, ea, en, et, em⟩, rfl, ⟨_, PySem.W.mg_of X G nBadRow, tBadRow⟩, ⟨_, PySem.W.mg_of X G nBadFace, tBadFace⟩, ⟨_, PySem.W.mg_of X G nBadMaking, tBadMaking⟩, ⟨_, PySem.W.mg_of X G nBadUser, tBadUser⟩, ⟨_, PySem.W.mg_of X G nBadSteps, tBadSteps⟩, ⟨_, PySem.W.mg_of X G nBadLead, tBadLead⟩, ⟨_, PySem.W.mg_of X G nToldApart, tToldApart⟩, ⟨_, PySem.W.mg_of X G nOutOfPlace, tOutOfPlace⟩, ⟨_, PySem.W.mg_of X G nTooGreat, tTooGreat⟩, ⟨_, PySem.W.mg_of X G nBadPaper, tBadPaper⟩, ⟨_, PySem.W.mg_of X G nBadProgram, tBadProgram⟩, ⟨_, PySem.W.mg_of X G nBadModule, tBadModule⟩, ⟨_, PySem.W.mg_of X G nRefused, tRefused⟩, ⟨_, PySem.W.mg_of X G nBadUse, tBadUse⟩, ⟨_, PySem.W.mg_of X G nBadInput, tBadInput⟩, tVE, ⟨_, PySem.W.mg_of X G nFaceError, tFaceError⟩, rfl⟩
  refine ⟨PySem.W.fnOf "law" "law" (defArgs sLaw) (defBody sLaw) (defScope sLaw) .none kVL dcL pmL anL cdL ctL, [], spLaw K, ?_, ?_, ?_, fun s v => .of_eq rfl, ?_, ?_⟩
  · intro p hp
    cases hp
  · intro p hp
    cases hp
  · intro p hp
    cases hp
  · intro H a ns hl hH hS
    exact ⟨a, ns, rfl, hS, hl, fun _ => rfl⟩
  · intro base KB NB TB
    have OA : FnOk l.prog w K mg base CX0 1 fA _ ["thing"] spName := ok_name FA m_isinstance m_str m_len
    have OB : FnOk l.prog w K mg base CX0 1 fB _ ["thing", "hidden"] (spKind K) := ok_kind FB m_isinstance m_str m_int
    have OD := ok_badH (P := l.prog) (w := w) (base := base) (k := 0) FD ⟨OA, gA, kA, bA⟩ m_enumerate
    have OC := ok_badD (P := l.prog) (w := w) (base := base) (k := 0) FC ⟨OB, gB, kB, bB⟩ m_enumerate m_isinstance m_str m_int m_tuple m_len
    have OE := ok_fault (P := l.prog) (w := w) (base := base) (k := 0) FE ⟨OD, gD, kD, bD⟩ ⟨OC, gC, kC, bC⟩ m_isinstance m_tuple m_len m8
    have OI := ok_isF (P := l.prog) (w := w) (base := base) (k := 0) FI ⟨OE, gE, kE, bE⟩
    have ON := ok_need (P := l.prog) (w := w) (base := base) (k := 0) FN ⟨OE, gE, kE, bE⟩
    have OH := ok_hidOf (P := l.prog) (w := w) (base := base) (k := 0) FH ⟨ON, gN, kN, bN⟩ m_list
    have OM := ok_namOf (P := l.prog) (w := w) (base := base) (k := 0) FM ⟨ON, gN, kN, bN⟩
    have OF : FnOk l.prog w K mg base CX0 1 fF _ ["face", "name"] (spFind K) := ok_find FF m_isinstance m_str m_enumerate
    have OG := ok_deedN (P := l.prog) (w := w) (base := base) (k := 0) FG ⟨OF, gF, kF, bF⟩ O
    have OT := ok_takes (P := l.prog) (w := w) (base := base) (k := 0) FT ⟨ON, gN, kN, bN⟩ (OG.mono (by decide)) gG kG bG
    have OV := ok_gives (P := l.prog) (w := w) (base := base) (k := 0) FV ⟨ON, gN, kN, bN⟩ (OG.mono (by decide)) gG kG bG
    have OK : FnOk l.prog w K mg base CX0 1 fK _ ["_law_error"] (spKinds cOutOfPlace bsPlace) := ok_kinds FK KX m_isinstance m_ValueError
    have OR := ok_draw (P := l.prog) (w := w) (base := base) FR FX bX gX
    have OJ := ok_digit (P := l.prog) (w := w) (base := base) FJ FX bX gX m_range
    have OU := ok_names (P := l.prog) (w := w) (base := base) (k := 0) FU ⟨OJ, gJ, kJ, bJ⟩ m_range m_len m_sorted
    have OW := ok_lkind (P := l.prog) (w := w) (base := base) (k := 0) FW ⟨OJ, gJ, kJ, bJ⟩ m_len m_list
    have OY := ok_face (P := l.prog) (w := w) (base := base) (k := 0) FY ⟨OJ.mono (by decide), gJ, kJ, bJ⟩ ⟨OU, gU, kU, bU⟩ ⟨OW, gW, kW, bW⟩ m_range m_len m_tuple
    have OZ := ok_ref (P := l.prog) (w := w) (base := base) (k := 0) FZ ⟨OT, gT, kT, bT⟩ ⟨OV, gV, kV, bV⟩ ⟨OK.mono (by decide), gK, kK, bK⟩ (PySem.W.mg_of X G nFaceError) oe
    have OQ := ok_right (P := l.prog) (w := w) (base := base) FQ ⟨OH, gH, kH, bH⟩ ⟨OM, gM, kM, bM⟩ ⟨ON.mono (by decide), gN, kN, bN⟩ ⟨OI.mono (by decide), gI, kI, bI⟩ ⟨OT, gT, kT, bT⟩ ⟨OV, gV, kV, bV⟩ m_range m_repr m_list
    exact ok_law FL ⟨⟨OR.mono (by decide), gR, kR, bR⟩, ⟨OJ.mono (by decide), gJ, kJ, bJ⟩, ⟨OY.mono (by decide), gY, kY, bY⟩, ⟨OZ, gZ, kZ, bZ⟩, OQ, gQ, kQ, bQ, m_enumerate, m_sum, m_range⟩
end SfC
open PySem PySem.W PyProof.Rows
set_option maxRecDepth 100000 in
set_option maxHeartbeats 0 in
theorem PySem.Challenge.cw_sameface_k03_what_faces_tell_holds : PySem.Challenge.rw_sameface_k03_what_faces_tell.Holds := by
  w_on; o_law; k_head; (case hw => w_witness2)
  k_fill
  refine SfG.walk_G (l := PySem.Challenge.rw_sameface_k03_what_faces_tell) (n := 63) (k := 7) (x := "_law_script") (CX := fun _ => L2.CX0) rfl (by decide) rfl ⟨rfl, by decide, by decide⟩ (fun w h Y => PySem.W.kIn_of Y) ?F (fun _ _ _ _ _ h => h)
  case F =>
    intro w mg fa h KX G hmg T
    refine' SfC.all_mk KX G hmg ?aA ?lA ?hA ?kA ?aB ?lB ?hB ?kB ?aC ?lC ?hC ?kC ?aD ?lD ?hD ?kD ?aE ?lE ?hE ?kE ?aI ?lI ?hI ?kI ?aN ?lN ?hN ?kN ?aH ?lH ?hH ?kH ?aM ?lM ?hM ?kM ?aF ?lF ?hF ?kF ?aG ?lG ?hG ?kG ?aT ?lT ?hT ?kT ?aV ?lV ?hV ?kV ?aX ?lX ?hX ?kX ?aK ?lK ?hK ?kK ?aR ?lR ?hR ?kR ?aJ ?lJ ?hJ ?kJ ?aU ?lU ?hU ?kU ?aW ?lW ?hW ?kW ?aY ?lY ?hY ?kY ?aZ ?lZ ?hZ ?kZ ?aQ ?lQ ?hQ ?kQ ?aL ?lL ?hL ?kL ?nBadRow ?nBadFace ?nBadMaking ?nBadUser ?nBadSteps ?nBadLead ?nToldApart ?nOutOfPlace ?nTooGreat ?nBadPaper ?nBadProgram ?nBadModule ?nRefused ?nBadUse ?nBadInput ?nFaceError ?tBadRow ?tBadFace ?tBadMaking ?tBadUser ?tBadSteps ?tBadLead ?tToldApart ?tOutOfPlace ?tTooGreat ?tBadPaper ?tBadProgram ?tBadModule ?tRefused ?tBadUse ?tBadInput ?tFaceError ?tVE ?eg ?ek ?es ?ed ?ea ?en ?et ?em ?ox ?ok_ ?ot ?oe ?a8 ?z_isinstance ?z_str ?z_int ?z_tuple ?z_len ?z_list ?z_enumerate ?z_range ?z_sorted ?z_repr ?z_sum ?z_ValueError
    (case aA => k_is)
    (case lA => k_is)
    (case hA => k_is)
    (case kA => k_is)
    (case aB => k_is)
    (case lB => k_is)
    (case hB => k_is)
    (case kB => k_is)
    (case aC => k_is)
    (case lC => k_is)
    (case hC => k_is)
    (case kC => k_is)
    (case aD => k_is)
    (case lD => k_is)
    (case hD => k_is)
    (case kD => k_is)
    (case aE => k_is)
    (case lE => k_is)
    (case hE => k_is)
    (case kE => k_is)
    (case aI => k_is)
    (case lI => k_is)
    (case hI => k_is)
    (case kI => k_is)
    (case aN => k_is)
    (case lN => k_is)
    (case hN => k_is)
    (case kN => k_is)
    (case aH => k_is)
    (case lH => k_is)
    (case hH => k_is)
    (case kH => k_is)
    (case aM => k_is)
    (case lM => k_is)
    (case hM => k_is)
    (case kM => k_is)
    (case aF => k_is)
    (case lF => k_is)
    (case hF => k_is)
    (case kF => k_is)
    (case aG => k_is)
    (case lG => k_is)
    (case hG => k_is)
    (case kG => k_is)
    (case aT => k_is)
    (case lT => k_is)
    (case hT => k_is)
    (case kT => k_is)
    (case aV => k_is)
    (case lV => k_is)
    (case hV => k_is)
    (case kV => k_is)
    (case aX => k_is)
    (case lX => k_is)
    (case hX => k_is)
    (case kX => k_is)
    (case aK => k_is)
    (case lK => k_is)
    (case hK => k_is)
    (case kK => k_is)
    (case aR => k_is)
    (case lR => k_is)
    (case hR => k_is)
    (case kR => k_is)
    (case aJ => k_is)
    (case lJ => k_is)
    (case hJ => k_is)
    (case kJ => k_is)
    (case aU => k_is)
    (case lU => k_is)
    (case hU => k_is)
    (case kU => k_is)
    (case aW => k_is)
    (case lW => k_is)
    (case hW => k_is)
    (case kW => k_is)
    (case aY => k_is)
    (case lY => k_is)
    (case hY => k_is)
    (case kY => k_is)
    (case aZ => k_is)
    (case lZ => k_is)
    (case hZ => k_is)
    (case kZ => k_is)
    (case aQ => k_is)
    (case lQ => k_is)
    (case hQ => k_is)
    (case kQ => k_is)
    (case aL => k_is)
    (case lL => k_is)
    (case hL => k_is)
    (case kL => k_is)
    (case nBadRow => k_is)
    (case nBadFace => k_is)
    (case nBadMaking => k_is)
    (case nBadUser => k_is)
    (case nBadSteps => k_is)
    (case nBadLead => k_is)
    (case nToldApart => k_is)
    (case nOutOfPlace => k_is)
    (case nTooGreat => k_is)
    (case nBadPaper => k_is)
    (case nBadProgram => k_is)
    (case nBadModule => k_is)
    (case nRefused => k_is)
    (case nBadUse => k_is)
    (case nBadInput => k_is)
    (case nFaceError => k_is)
    (case tBadRow => first | k_is | decide +kernel | exact rfl)
    (case tBadFace => first | k_is | decide +kernel | exact rfl)
    (case tBadMaking => first | k_is | decide +kernel | exact rfl)
    (case tBadUser => first | k_is | decide +kernel | exact rfl)
    (case tBadSteps => first | k_is | decide +kernel | exact rfl)
    (case tBadLead => first | k_is | decide +kernel | exact rfl)
    (case tToldApart => first | k_is | decide +kernel | exact rfl)
    (case tOutOfPlace => first | k_is | decide +kernel | exact rfl)
    (case tTooGreat => first | k_is | decide +kernel | exact rfl)
    (case tBadPaper => first | k_is | decide +kernel | exact rfl)
    (case tBadProgram => first | k_is | decide +kernel | exact rfl)
    (case tBadModule => first | k_is | decide +kernel | exact rfl)
    (case tRefused => first | k_is | decide +kernel | exact rfl)
    (case tBadUse => first | k_is | decide +kernel | exact rfl)
    (case tBadInput => first | k_is | decide +kernel | exact rfl)
    (case tFaceError => first | k_is | decide +kernel | exact rfl)
    (case tVE => first | k_is | decide +kernel | exact rfl)
    (case eg => first | k_is | decide +kernel | exact rfl)
    (case ek => first | k_is | decide +kernel | exact rfl)
    (case es => first | k_is | decide +kernel | exact rfl)
    (case ed => first | k_is | decide +kernel | exact rfl)
    (case ea => first | k_is | decide +kernel | exact rfl)
    (case en => first | k_is | decide +kernel | exact rfl)
    (case et => first | k_is | decide +kernel | exact rfl)
    (case em => first | k_is | decide +kernel | exact rfl)
    (case ox => k_exc)
    (case ok_ => first | k_is | decide +kernel | exact rfl)
    (case ot => first | k_is | decide +kernel | exact rfl)
    (case oe => first | k_is | decide +kernel | exact rfl)
    (case a8 => k_is)
    (case z_isinstance => k_is)
    (case z_str => k_is)
    (case z_int => k_is)
    (case z_tuple => k_is)
    (case z_len => k_is)
    (case z_list => k_is)
    (case z_enumerate => k_is)
    (case z_range => k_is)
    (case z_sorted => k_is)
    (case z_repr => k_is)
    (case z_sum => k_is)
    (case z_ValueError => k_is)
