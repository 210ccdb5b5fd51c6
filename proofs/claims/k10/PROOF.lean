import PyProof.Rows.All
import Wide.All
import OpenK.AllK
import Wide.FinOn
import HandS.ForMost
import HandS.Walk
import HandS.Wide
import HandS.IsInst
import HandS.AnyAll
import HandS.Replace
import HandS.EndTab
import HandS.RaiseMore
import HandS.TupLe
import PyProof.ReprRoads
import PyProof.StrOps2
import HandS.TupAny
import HandS.Deep
import PyProof.DictUpdate
import PyProof.ListIndex
import PyProof.FactsAll.bool_1
import HandS.Style
import PySem.Challenge.RW_sameface_k10_what_bodies_tell
set_option Elab.async false
set_option linter.all false
set_option maxRecDepth 100000
/-! calls made where no repr is under way; repr of lists; all(..) over a text with a module's name in its test; the law's end -/
namespace SfG
open PySem PySem.Spec PyProof.Rows L2

/-! ### a def's promise where no repr is under way -/
structure FnG (P : Program) (w : World) (K : PySem.W.Frag) (mg : Str → Option Value) (base : Heap)
    (CX : CXT) (k : Nat) (f : Addr) (fd : FuncData) (ps : List Str) (sp : Sp) : Prop where
  size : ∀ vs H Q E, sp vs H Q E → vs.length = ps.length
  goes : ∀ (A : Around) (outer : List Env) (s : Shared) (H : Hp) (args : Args) (us : List Value)
    (vs : List V) (Q : VK) (E : XK), Room k A → A.guards = some [] → Env0 P w K mg base A outer s H →
    BindsTo s fd args (ps.zip us) → Vals vs us → sp vs H Q E →
    codeAny (model P w) A (.call (.ref f) args) (CR CX outer P w H s Q E) s

section
variable {P : Program} {w : World} {K : PySem.W.Frag} {mg : Str → Option Value} {base : Heap}
/-- a def by its body, where no repr is under way -/
theorem fng_of {x qual : Str} {st : Stmt} {f : Addr} {fd : FuncData} {N ps : List Str} {k : Nat} {sp : Sp}
    (F : Fun K x qual st f fd) (S : FnScope N ps (defScope st)) (len : ∀ vs H Q E, sp vs H Q E → vs.length = ps.length)
    (hbody : ∀ (cdv : Value) (A : Around) (outer : List Env) (s : Shared) (H : Hp) (vs : List V) (Q : VK) (E : XK),
      Room k (A.deeper (envOfC qual (defScope st) s.heap.objs.size f cdv)) → A.guards = some [] → sp vs H Q E →
      ∃ t, PSs (cxOf CX0 P w K mg base N qual (defScope st) f cdv A outer s H E).nox (defBody st) t ∧
        t { nx := fun _ H' => Q .non H', rt := Q } (start N vs) H) :
    FnG P w K mg base CX0 (k + 1) f fd ps sp := by
  obtain ⟨oc, od, kV, doc, pm, an, cdv, ct, osl, rfl, lk, hcd⟩ := F.ex
  refine ⟨len, ?_⟩
  intro A outer s H args us vs Q E hr hgd e0 hb r hsp
  refine LamX.run_ofS lk hcd S hr e0 hb r (len _ _ _ _ hsp) ?_
  intro hr'
  obtain ⟨t, h, q⟩ := hbody cdv A outer s H vs Q E hr' hgd hsp
  exact ⟨t, h.nox, q⟩
end

section
variable {X : Cx} {CX : CXT} {k : Nat} {f : Addr} {fd : FuncData} {ps : List Str} {sp : Sp} {dvs : List V}
  {ds : List Value} {E : XK} {x : Str} {p pos : Pos} {e : Expr} {es : List Expr} {t : TA}
theorem run_fng {pins : List (Addr × Obj)} {σ : L2.St} {H : Hp} {s : Shared} {Q : VK} {us : List Value} {vs : List V}
    (F : FnG X.prog X.w X.K X.mg X.base CX k f fd ps sp) (hr : Room k X.A) (hgd : X.A.guards = some [])
    (hb : Binds X.K fd ps ds) (hd : Vals dvs ds) (hx : Passes CX X E) (I : L2.Inv X pins σ H s) (r : Vals vs us)
    (h : sp (vs ++ dvs) H Q E) : wpAny (model X.prog X.w) X.A (call (.ref f) us) (EP X pins σ Q) X.xe s := by
  have r2 := r.append hd
  have hl : (us ++ ds).length = ps.length := r2.length.symm.trans (F.size _ _ _ _ h)
  have go := F.goes X.A X.stack s H ⟨us, []⟩ _ _ Q E hr hgd I.env0 (hb s us I.kIn hl) r2 h
  refine wpAny_call (codeAny_mono go ?_)
  intro res s' hq
  match res, hq with
  | .error e, hq => exact hx pins σ H s e s' I hq
  | .ok (.ret u), hq => exact I.after hq
  | .ok .next, hq => exact False.elim hq
  | .ok .brk, hq => exact False.elim hq
  | .ok .cont, hq => exact False.elim hq
theorem pe_callG (F : FnG X.prog X.w X.K X.mg X.base CX k f fd ps sp) (hr : Room k X.A) (hgd : X.A.guards = some [])
    (hg : Gl X x) (hm : X.mg x = some (.ref f)) (hk : PySem.W.keepIn X.K (.ref f) = true)
    (hb : Binds X.K fd ps ds) (hd : Vals dvs ds) (hx : Passes CX X E) (ha : PA X (e :: es) t)
    (hdb : (x == ("__debug__" : Str)) = false := by decide)
    (he : starEach (e :: es) X.env = (false, eval e X.env) :: starEach es X.env := by rfl)
    (hpl : (backTo pos (starEach es X.env)).any (·.1) = false := by rfl) :
    PE X (.Call (.Name x p) (e :: es) [] pos) (tCall sp dvs E t) := by
  constructor
  intro pins s σ H Q I h
  refine wpAny_Call_Name_kw (ld_glob I hg hm ?_ hdb)
  refine PySem.W.callWith_K (h₀ := X.base) I.ok.mod.kin hk ?_ he hpl
  refine thn (ha.run pos pins s σ H _ I h) ?_
  rintro us s1 ⟨vs, H1, I1, r, q⟩
  exact ⟨I1.kIn, run_fng F hr hgd hb hd hx I1 r q⟩
end

/-! ### repr of a list or a tuple of plain data -/
def rRepr (K : PySem.W.Frag) : List V → Hp → VK → Prop := fun xs H Q =>
  ∃ (a : Addr) (d : PyData) (S : Str), xs = [.ref a] ∧ Dp K H (.ref a) d ∧ d.showable = true ∧ d.hasDict = false ∧
    d.depth ≤ 30 ∧ d.shown = S ∧ S.length ≤ sizeLine ∧ Q (.str S) H
theorem call_repr {X : Cx} {k : Nat} (hr : Room k X.A) (hgd : X.A.guards = some []) :
    CallR X (.builtin "repr") (rRepr X.K) := by
  intro pins s σ H xs us Q I r h
  obtain ⟨a, d, S, rfl, hd, hs, hn, hdep, rfl, hz, q⟩ := h
  obtain ⟨u, rfl, ru⟩ := vals1 r
  cases (show u = Value.ref a from ru)
  obtain ⟨as, rd⟩ := Dp.reads I d _ _ hd (show RelV (.ref a) (.ref a) from rfl)
  have hun := hr.un
  refine repr_of_reads' rd hs (fun z => ?_) hgd (by omega) (fun _ _ z => z) (fun h' u' tk hk => ?_) hz
  · rw [hn] at z
    cases z
  · exact ⟨.str d.shown, H, I.kept hk, ⟨_, rfl⟩, q⟩

/-! ### all(test for x in e), e a text, the test may name what the module holds -/
/-- the test of one sign, run in the expression's own frame; the module's names are to be had -/
def EltG (X : Cx) (scope : Scope) (x : Str) (elt : Expr) (pb : Nat → Bool) : Prop :=
  ∀ (cenv : Env) (A' : Around) (E' : Value → Shared → Prop) (c : Nat) (t : Tok) (s2 : Shared) (m2 : Str → Option Value),
    cenv.scope = scope → cenv.globals = mainGlobals → s2.heap.Ns mainGlobals X.mg → s2.heap.Ns cenv.locals m2 →
    m2 x = some (.str ⟨#[c]⟩ t) →
    wpAny (model X.prog X.w) A' (eval elt cenv) (fun y s3 => y = .bool (pb c) ∧ Keeps s2 s3) E' s2
/-- x in NAME, NAME a text of the module -/
theorem elt_in {X : Cx} {scope : Scope} {x g : Str} {z : Str} {tz : Tok} {p1 p2 p3 : Pos} (hk : scope.kind = .function)
    (hl : scope.names.lookup x = some .local) (hgl : scope.names.lookup g = some .globalImplicit) (hz : X.mg g = some (.str z tz))
    (hd : (x == ("__debug__" : Str)) = false := by decide) (hd2 : (g == ("__debug__" : Str)) = false := by decide) :
    EltG X scope x (.Compare (.Name x p1) [.In] [.Name g p2] p3) (fun c => decide (c ∈ z.cps.toList)) := by
  intro cenv A' E' c t s2 m2 hs hgb hmn hn hm
  have kd : cenv.scope.kind = .function := by rw [hs]; exact hk
  refine wpAny_Compare1 ?_
  refine wpAny_Name (wpAny_loadName_local kd (show cenv.scope.names.lookup x = some .local by rw [hs]; exact hl) hn hm ?_) hd
  refine Calls.Name_function_global kd (show cenv.scope.names.lookup g = some .globalImplicit by rw [hs]; exact hgl) ?_ hd2
  refine Calls.loadGlobal_global (by rw [hgb]; exact hmn) hz ?_
  refine PyProof.Rows.in_str ?_
  exact ⟨congrArg Value.bool (PySem.StrLaws.found_one z c), GxR.keeps_refl _⟩
/-- the expression's code object: found in the def's table, or laid there -/
theorem gen_code {prog : Program} {w : World} {A : Around} {E : Value → Shared → Prop} {env : Env} {gpos : Pos} {q : Str} {scope : Scope}
    {c P : Addr} {ps : Array Value} {s2 : Shared} {Q : Value → Shared → Prop} (hcode : env.code = .ref c) (cd : PySem.W.CodeHd s2.heap c P)
    (hP : s2.heap.get? P = some { cls := .none, data := .fields ps }) (ht : TriplesOk ps.toList)
    (h : ∀ (code : Value) (h3 : Heap) (tk : Nat) (ps' : Array Value), Heap.ExtBut P s2.heap h3 → s2.heap.objs.size ≤ h3.objs.size →
      h3.get? P = some { cls := .none, data := .fields ps' } → (∃ more, ps' = ps ++ more) → TriplesOk ps'.toList →
      Q code { s2 with heap := h3, toks := tk }) : wpAny (model prog w) A (genexprCode env gpos q scope) Q E s2 := by
  cases hf : codeAmong gpos ps.toList with
  | some cv =>
    exact wpAny_genexprCode_hit hcode (cd.code hP ht) hf (h cv s2.heap s2.toks ps (Heap.ExtBut.refl _ _) (Nat.le_refl _) hP ⟨#[], by simp⟩ ht)
  | none =>
    refine wpAny_genexprCodeX hcode (cd.code hP ht) (cd.tab hP) hf ?_
    intro c' h' tk hx hge hlt hco' _ htab' _
    obtain ⟨o1, vs, f1, tf, fl, tg, inF, tx, tt, op, _, _, _, _, _, _, _, _, _, htr, _⟩ := hco'
    exact h _ h' tk _ hx (Nat.le_trans hge (Nat.le_of_lt hlt)) htab'.2 ⟨_, rfl⟩ htr
section
variable {X : Cx} {pins : List (Addr × Obj)} {σ : L2.St} {H : Hp} {s : Shared}
theorem gen_made {c P : Addr} {elt iter : Expr} {x : Str} {px gpos : Pos} {scope : Scope} {pb : Nat → Bool} {te : TE} {k : Nat}
    {Q' : Value → Shared → Prop} {R : Str → Hp → Prop} (hr : Room k X.A) (TB : GxR.TabB X.base X.mg c P) (hcode : X.env.code = .ref c)
    (S : GxR.GenS X.env scope x) (hi : PE X iter te) (hel : EltG X scope x elt pb) (hs : ∀ v, genFold iter X.env v = pure v)
    (I : L2.Inv X pins σ H s) (h : te σ H fun v H1 => ∃ a : Str, v = .str a ∧ GxR.TabG H1 P ∧ R a H1)
    (hQ : ∀ a H1 g s5, R a H1 → GxR.Ready X pins σ H1 P a pb g s5 → Q' (.ref g) s5) :
    wpAny (model X.prog X.w) X.A (eval (.GeneratorExp elt [⟨.Name x px, iter, [], 0⟩] scope gpos) X.env) Q' X.xe s := by
  have hdp := hr.dp
  refine wpAny_GeneratorExp_walksQ hr.hd S.co (closure_ok S.free) S.cell S.dot S.loc S.kind (by omega) ?_ hs
  refine thn (hi.run pins s σ H _ I h) ?_
  rintro xv s1 ⟨v, H1, I1, r1, a, rfl, ⟨ps, hP, ht⟩, q1⟩
  obtain ⟨t, rfl⟩ := _root_.id r1
  refine wpAny_pyIter_str ?_
  intro o St W hst
  have hPs : s1.heap.get? P = some { cls := .none, data := .fields ps } := I1.hok P _ hP
  have hPlt := Heap.lt_size hPs
  have lim2 : (s1.heap.push o).NoLimit := I1.nolimit.push o
  refine ⟨lim2, ?_⟩
  refine gen_code (s2 := { s1 with heap := s1.heap.push o }) hcode (TB.code.keeps fun b u e => Heap.get?_push_of_some _ (I1.bk b u e)) (Heap.get?_push_of_some _ hPs) ht ?_
  intro code h3 tk ps' hx hsz hP3 hmore ht3
  have hcl : cStatics < s1.heap.objs.size := by
    obtain ⟨_, hns, _⟩ := I1.nolimit
    exact hns.lt
  have hcP : cStatics ≠ P := by
    intro e
    obtain ⟨_, ⟨o', es, ep, ho, hd, _⟩, _⟩ := I1.nolimit
    rw [e, hPs] at ho
    cases ho
    cases hd
  have sz2 : (s1.heap.push o).objs.size = s1.heap.objs.size + 1 := Heap.size_push ..
  have keep3 : ∀ b u, b ≠ P → s1.heap.get? b = some u → h3.get? b = some u :=
    fun b u hb e => hx b u hb (Heap.get?_push_of_some _ e)
  have hsz' : s1.heap.objs.size + 1 ≤ h3.objs.size := by
    rw [← sz2]
    exact hsz
  have ns3 : h3.Ns mainGlobals X.mg := ((I1.mod.glob.keeps I1.bk).push o).extBut hx TB.gP
  obtain ⟨bm, ob, e1, e2, e3, e4, e5, e6, e7, e8⟩ := TB.bm
  refine wpAny_builtinsFor (m := X.mg) (by rw [I1.ok.glob]; exact ns3) e1 e2 (keep3 _ _ e4 (I1.bk _ _ e5)) e6 e7 e8 ?_
  refine ⟨s1.heap.objs.size, [s1.heap.objs.size], [s1.heap.objs.size], a.cps.size, SignAt a, St, fun _ => true,
    fun i y => ∃ cc, a.cps[i]? = some cc ∧ y = .bool (pb cc), rfl, W, ?_, ?_, lim2.extBut hx hcP, ?_, ?_, ?_⟩
  · refine (W X.A hr.hd).frame _ _ _ hst ?_
    intro b hb u e
    have eb : b = s1.heap.objs.size := by simpa using hb
    refine hx b u ?_ e
    intro z
    rw [← z, eb] at hPlt
    exact Nat.lt_irrefl _ hPlt
  · intro b hb
    have eb : b = s1.heap.objs.size := by simpa using hb
    rw [eb]
    show s1.heap.objs.size < h3.objs.size
    omega
  · intro z
    have eb : cStatics = s1.heap.objs.size := by simpa using z
    rw [eb] at hcl
    exact Nat.lt_irrefl _ hcl
  · intro href hhref
    constructor
    · intro A' E' i v s2 m2 hA hPv hn hm hk
      simp only [List.forIn_nil]
      exact wpAny_pure ⟨rfl, GxR.keeps_refl _⟩
    · intro A' E' i v s2 m2 hA hPv hp hn hm hk
      obtain ⟨cc, u, hcc, rfl⟩ := hPv
      have nsM : s2.heap.Ns mainGlobals X.mg := by
        obtain ⟨om, es, ep, g1, g2⟩ := ns3
        have glt : mainGlobals < s1.heap.objs.size := by
          obtain ⟨o9, _, _, g9, _⟩ := I1.mod.glob.keeps I1.bk
          exact Heap.lt_size g9
        refine ⟨om, es, ep, hk mainGlobals ?_ ?_ om (hhref _ _ g1), g2⟩
        · refine List.mem_range.mpr ?_
          show mainGlobals < h3.objs.size
          exact Heap.lt_size g1
        · intro z
          have eb : mainGlobals = s1.heap.objs.size := by simpa using z
          rw [eb] at glt
          exact Nat.lt_irrefl _ glt
      exact wpAny_mono (hel _ A' E' cc u s2 m2 rfl I1.ok.glob nsM hn hm) (fun y s3 r => ⟨⟨cc, hcc, r.1⟩, r.2⟩) (fun _ _ e => e)
  · intro g h5 tk5 gs hgb hag hsz5 hk5 W5 hat
    simp only [GxR.passing_true, List.length_range] at W5
    refine hQ a H1 g _ q1 ⟨_, _, _, _, _, W5.in4_1, hat, ?_, ?_⟩
    · intro j y sj Qj Ej hy hQj
      obtain ⟨i, hij, cc, hcc, rfl⟩ := hy
      obtain ⟨hj, ej⟩ := List.getElem?_eq_some_iff.mp hij
      rw [List.getElem_range] at ej
      subst ej
      have e9 : a.cps.toList[j]? = some cc := by rw [Array.getElem?_toList]; exact hcc
      have hQ2 : Qj (GxR.trF pb a.cps.toList j) sj := hQj
      rw [GxR.trF_some e9] at hQ2
      exact wpAny_truthy_bool hQ2
    · intro s' hmv
      obtain ⟨more, em⟩ := hmore
      have nwr : ∀ b u, s1.heap.get? b = some u → b ∉ h3.objs.size :: [s1.heap.objs.size] := by
        intro b u e hb
        have hl := Heap.lt_size e
        rcases List.mem_cons.mp hb with z | z
        · rw [z] at hl
          have h9 : (h3.objs.size : Nat) < s1.heap.objs.size := hl
          omega
        · have eb : b = s1.heap.objs.size := by simpa using z
          rw [eb] at hl
          exact Nat.lt_irrefl _ hl
      have J := GxR.inv_tab (more := more) (h' := s'.heap) (g' := s'.gens) (d' := s'.drawn) (t' := s'.toks) I1 hP
        (fun b u hb e => hmv.heap b u (nwr b u e) (hk5 b u (keep3 b u hb e)))
        (by rw [← em]; exact hmv.heap P _ (nwr P _ hPs) (hk5 P _ hP3)) (AllBare.movedS (I1.bare.push hgb) hmv)
      rw [GxR.sh_eta s1 s' hmv.os] at J
      exact ⟨upd H1 P (.tbl (ps ++ more)), ⟨⟨ps ++ more, upd_same, by rw [← em]; exact ht3⟩, fun b hb => upd_ne hb⟩, J⟩
theorem pe_allG {c P : Addr} {elt iter : Expr} {x : Str} {px p pos gpos : Pos} {scope : Scope} {pb : Nat → Bool} {te : TE} {k : Nat}
    (hr : Room k X.A) (hg : Gl X "all") (hm : X.mg "all" = none) (TB : GxR.TabB X.base X.mg c P) (hcode : X.env.code = .ref c)
    (S : GxR.GenS X.env scope x) (hi : PE X iter te) (hel : EltG X scope x elt pb) (hs : ∀ v, genFold iter X.env v = pure v)
    (he : starEach [.GeneratorExp elt [⟨.Name x px, iter, [], 0⟩] scope gpos] X.env =
      (false, eval (.GeneratorExp elt [⟨.Name x px, iter, [], 0⟩] scope gpos) X.env) :: starEach [] X.env := by rfl) :
    PE X (.Call (.Name "all" p) [.GeneratorExp elt [⟨.Name x px, iter, [], 0⟩] scope gpos] [] pos) (GxR.tAllS P pb te) := by
  constructor
  intro pins s σ H Q I h
  refine wpAny_Call_Name_kw (ld_blt I hg hm (show bootBuiltins "all" = some (.builtin "all") by decide +kernel) ?_)
  refine PyProof.Rows.callWith_builtin1 ?_ he (by rfl)
  rw [he]
  refine Calls.spliced_cons (gen_made (R := fun a H1 => ∀ H2, GxR.Tabbed P H1 H2 → Q (.bl (a.cps.toList.all pb)) H2) hr TB hcode S hi hel hs I h ?_)
  intro a H1 g s5 hR hG
  obtain ⟨fp, wr, G, F, St, W, hst, htr, hI⟩ := hG
  refine Calls.spliced_nil (call_all_walkS (W.self 0 _ _ _ hst ⟨g, fp, wr, G, _, F, St, _, rfl, W, hst, htr, ?_⟩))
  intro s' hmv
  obtain ⟨H2, hT, J⟩ := hI s' hmv
  refine ⟨.bl _, H2, J, rfl, ?_⟩
  rw [GxR.all_signs a pb]
  exact hR H2 hT
end
end SfG

namespace SfG
open PySem PySem.Spec PyProof.Rows L2
/-! ### the law's end: tables of code objects, no repr under way -/
theorem noneIn (b : Addr) (l : List Addr) (h : l = []) : ¬ b ∈ l := by
  rw [h]
  simp
section
variable {P : Program} {w : World} {K : PySem.W.Frag} {mg mb : Str → Option Value} {CX : CXT} {k : Nat} {fa a : Addr}
  {cs : List (Addr × Addr)} {fd : FuncData} {x : Str} {sp : Sp} {s1 : Shared} {vs : List Value} {ns : List Int}
/-- what stands at s1: the module, its tables, the script -/
structure Stands (K : PySem.W.Frag) (mg mb : Str → Option Value) (cs : List (Addr × Addr)) (s1 : Shared) (a : Addr) (vs : List Value) : Prop where
  kin : K.In s1.heap
  glob : s1.heap.Ns mainGlobals mg
  blt : s1.heap.Ns builtinsNs mb
  bltv : ∀ y : Str, y ≠ "__name__" → mb y = bootBuiltins y
  lim : s1.heap.NoLimit
  gens : s1.gens = #[]
  tab : ∀ p ∈ cs, s1.heap.get? p.2 = some { cls := .none, data := .fields #[] }
  ntab : ∀ p ∈ cs, K.lookup p.2 = none
  code : ∀ p ∈ cs, PySem.W.CodeHd s1.heap p.1 p.2
  bmain : ∃ (bm : Addr) (ob : Obj), mg "__builtins__" = some (.ref bm) ∧ bm ≠ builtinsNs ∧ s1.heap.get? bm = some ob ∧
    ob.cls = .type "module" ∧ ob.dict = some builtinsNs ∧ ob.data = .plain
  scr : s1.heap.get? a = some { cls := .type "list", data := .seq vs.toArray }
/-- what is tracked there: the tables, and the script where the written part doesn't hold it -/
def Tracks (K : PySem.W.Frag) (cs : List (Addr × Addr)) (a : Addr) (H : Hp) : Prop :=
  ∀ b u, H b = some u → (b ∈ cs.map (·.2) ∧ u = .tbl #[]) ∨ (b = a ∧ K.lookup a = none ∧ ∃ o xs, u = .frz o (.lst xs))
theorem Stands.untracked {H : Hp} (S : Stands K mg mb cs s1 a vs) (T : Tracks K cs a H) {b : Addr} {o : Obj} (e : s1.heap.get? b = some o)
    (h1 : ∀ us n, o.data ≠ .seq us n) (h2 : o.data ≠ .fields #[]) : H b = none := by
  cases q : H b with
  | none => rfl
  | some u =>
    exfalso
    rcases T b u q with ⟨hb, _⟩ | ⟨hb, _⟩
    · obtain ⟨p, hp, ep⟩ := List.mem_map.mp hb
      have z := S.tab p hp
      rw [ep, e] at z
      cases z
      exact h2 rfl
    · have z := S.scr
      rw [← hb, e] at z
      cases z
      exact h1 _ _ rfl
theorem end_core {H : Hp} (S : Stands K mg mb cs s1 a vs) (T : Tracks K cs a H) (hH : ∀ p ∈ cs, H p.2 = some (.tbl #[]))
    (hok : HOk P w H s1.heap) (hr : Room k callerA)
    (F : ∀ base : Heap, K.In base → base.Ns mainGlobals mg → (∀ p ∈ cs, GxR.TabB base mg p.1 p.2) → FnG P w K mg base CX k fa fd [x] sp)
    (hbind : ∀ (s : Shared) (u : Value), BindsTo s fd ⟨[u], []⟩ [(x, u)])
    (hsp : sp [.ref a] H (fun v _ => v = .bl true) fun _ _ _ => False)
    (hCX : ∀ H e s', CX [] H s1 (fun _ _ _ => False) e s' → False) :
    codeAny (model P w) callerA (.call (.ref fa) ⟨[.ref a], []⟩)
      (fun r s' => r = .ok (.ret (.bool true)) ∧ OldK s1.heap s'.heap ∧ s'.os = s1.os ∧ AllBare s'.gens) s1 := by
  have low : ∀ {b : Addr} {o : Obj}, s1.heap.get? b = some o → H b = none → (hidT s1.heap H).get? b = some o := fun e n => hidT_get e n
  have lowNs : ∀ {b : Addr} {m : Str → Option Value}, s1.heap.Ns b m → (hidT s1.heap H).Ns b m := by
    rintro b m ⟨o, es, ep, e, d, r⟩
    refine ⟨o, es, ep, low e (S.untracked T e ?_ ?_), d, r⟩
    · intro us n z
      rw [d] at z
      cases z
    · intro z
      rw [d] at z
      cases z
  have lowK : K.In (hidT s1.heap H) := by
    intro b o e
    refine low (S.kin b o e) ?_
    cases q : H b with
    | none => rfl
    | some u =>
      exfalso
      rcases T b u q with ⟨hb, _⟩ | ⟨hb, hk, _⟩
      · obtain ⟨p, hp, ep⟩ := List.mem_map.mp hb
        rw [← ep, S.ntab p hp] at e
        cases e
      · rw [hb, hk] at e
        cases e
  have lowT : ∀ p ∈ cs, GxR.TabB (hidT s1.heap H) mg p.1 p.2 := by
    intro p hp
    have tp := S.tab p hp
    constructor
    · obtain ⟨o, us, file, tf, flags, tg, inF, text, tt, e1, r1, r2, r3, rest⟩ := S.code p hp
      refine ⟨o, us, file, tf, flags, tg, inF, text, tt, low e1 (S.untracked T e1 ?_ ?_), r1, r2, r3, rest⟩
      · intro us n z
        rw [r2] at z
        cases z
      · intro z
        rw [r2] at z
        cases z
        simp at r3
    · obtain ⟨bm, ob, b1, b2, b3, b4, b5, b6⟩ := S.bmain
      refine ⟨bm, ob, b1, b2, ?_, ?_, low b3 (S.untracked T b3 ?_ ?_), b4, b5, b6⟩
      · intro q
        obtain ⟨o, es, ep, e, hd, _⟩ := S.glob
        rw [q, e] at b3
        cases b3
        rw [hd] at b6
        cases b6
      · intro q
        rw [q, tp] at b3
        cases b3
        cases b6
      · intro us n z
        rw [b6] at z
        cases z
      · intro z
        rw [b6] at z
        cases z
    · intro z
      obtain ⟨o, es, ep, e, hd, _⟩ := S.glob
      rw [z, tp] at e
      cases e
      cases hd
  have md : L2.Mod K mg (hidT s1.heap H) := by
    refine ⟨lowK, lowNs S.glob, ⟨mb, lowNs S.blt, S.bltv⟩, ?_⟩
    obtain ⟨mc, h1, h2⟩ := S.lim
    exact ⟨mc, lowNs h1, h2⟩
  have e0 : Env0 P w K mg (hidT s1.heap H) callerA [] s1 H :=
    ⟨rfl, md, fun b o e => of_hidT e, Nat.le_of_eq (hidT_size _ _), trivial, fun b hb => absurd hb (noneIn b _ rfl), hok, .of_eq S.gens⟩
  have go := (F _ lowK (lowNs S.glob) lowT).goes callerA [] s1 H ⟨[.ref a], []⟩ [.ref a] [.ref a] _ _ hr rfl e0 (hbind s1 (.ref a)) (.cons rfl .nil) hsp
  refine codeAny_mono go ?_
  intro res s' h
  match res, h with
  | .error e, h => exact (hCX H e s' h).elim
  | .ok .next, h => exact False.elim h
  | .ok .brk, h => exact False.elim h
  | .ok .cont, h => exact False.elim h
  | .ok (.ret u), h =>
    obtain ⟨v, H', os, bare, un, hok', r', q⟩ := h
    cases (show v = .bl true from q)
    cases (show u = Value.bool true from r')
    have stay : ∀ b o, b ∉ cs.map (·.2) → s1.heap.get? b = some o → s'.heap.get? b = some o := by
      intro b o nb e
      cases q : H b with
      | none => exact un.keep b o e q (noneIn b _ rfl) (by simp)
      | some u =>
        rcases T b u q with ⟨hb, _⟩ | ⟨_, _, ob, xs, z⟩
        · exact absurd hb nb
        · rw [z] at q
          obtain ⟨g1, _⟩ := hok b _ q
          obtain ⟨g2, _⟩ := hok' b _ (un.frzs b ob _ q)
          rw [e] at g1
          cases g1
          exact g2
    have tabs : ∀ p ∈ cs, ∃ more : Array Value, s'.heap.get? p.2 = some { cls := .none, data := .fields more } := by
      intro p hp
      obtain ⟨more, z⟩ := un.tbls p.2 #[] (hH p hp)
      exact ⟨_, hok' p.2 _ z⟩
    refine ⟨rfl, ⟨fun b o e => ?_, fun b o e => ?_⟩, os, bare⟩
    · by_cases hb : b ∈ cs.map (·.2)
      · obtain ⟨p, hp, ep⟩ := List.mem_map.mp hb
        subst ep
        obtain ⟨more, hm⟩ := tabs p hp
        rw [S.tab p hp] at e
        cases e
        refine .inr (.inl ⟨((S.code p hp).tab (S.tab p hp)).isCodeTable, rfl, #[], more, rfl, ?_⟩)
        rw [Array.empty_append]
        exact hm
      · exact .inl (stay b o hb e)
    · by_cases hb : b ∈ cs.map (·.2)
      · obtain ⟨p, hp, ep⟩ := List.mem_map.mp hb
        subst ep
        obtain ⟨more, hm⟩ := tabs p hp
        exact ⟨_, hm⟩
      · exact ⟨o, stay b o hb e⟩
/-- the abstract heap at the start -/
def hp0 (cs : List (Addr × Addr)) (sc : Option HO) (a : Addr) : Hp := fun b => if b ∈ cs.map (·.2) then some (.tbl #[]) else if b = a then sc else none
theorem end_call (S : Stands K mg mb cs s1 a vs) (hi : IntsAre vs ns) (hl : ns.length ≤ sizeLine) (hr : Room k callerA)
    (F : ∀ base : Heap, K.In base → base.Ns mainGlobals mg → (∀ p ∈ cs, GxR.TabB base mg p.1 p.2) → FnG P w K mg base CX k fa fd [x] sp)
    (hbind : ∀ (s : Shared) (u : Value), BindsTo s fd ⟨[u], []⟩ [(x, u)])
    (hsp : ∀ H : Hp, (∀ p ∈ cs, H p.2 = some (.tbl #[])) → SqL K H a (ns.map V.int) → sp [.ref a] H (fun v _ => v = .bl true) fun _ _ _ => False)
    (hCX : ∀ H e s', CX [] H s1 (fun _ _ _ => False) e s' → False) :
    codeAny (model P w) callerA (.call (.ref fa) ⟨[.ref a], []⟩)
      (fun r s' => r = .ok (.ret (.bool true)) ∧ OldK s1.heap s'.heap ∧ s'.os = s1.os ∧ AllBare s'.gens) s1 := by
  have rv := vals_ints hi
  have hH : ∀ sc, ∀ p ∈ cs, hp0 cs sc a p.2 = some (.tbl #[]) := fun sc p hp => if_pos (List.mem_map.mpr ⟨p, hp, rfl⟩)
  have na : a ∉ cs.map (·.2) := by
    intro z
    obtain ⟨p, hp, ep⟩ := List.mem_map.mp z
    have q := S.tab p hp
    rw [ep, S.scr] at q
    cases congrArg Obj.data (Option.some.inj q)
  have at_a : ∀ sc, hp0 cs sc a a = sc := fun sc => by
    unfold hp0
    rw [if_neg na, if_pos rfl]
  have cases_of : ∀ sc b u, hp0 cs sc a b = some u → (b ∈ cs.map (·.2) ∧ u = .tbl #[]) ∨ (b = a ∧ sc = some u) := by
    intro sc b u h
    unfold hp0 at h
    by_cases h1 : b ∈ cs.map (·.2)
    · rw [if_pos h1] at h
      exact .inl ⟨h1, (Option.some.inj h).symm⟩
    · rw [if_neg h1] at h
      by_cases h2 : b = a
      · rw [if_pos h2] at h
        exact .inr ⟨h2, h⟩
      · rw [if_neg h2] at h
        cases h
  have tabOk : ∀ (H : Hp) b, b ∈ cs.map (·.2) → ObjOk P w H s1.heap b (.tbl #[]) := by
    intro H b hb
    obtain ⟨p, hp, ep⟩ := List.mem_map.mp hb
    rw [← ep]
    exact S.tab p hp
  cases hk : K.lookup a with
  | some o =>
    have e := S.kin a o hk
    rw [S.scr] at e
    cases e
    refine end_core (H := hp0 cs none a) S ?_ (hH none) ?_ hr F hbind (hsp _ (hH none) (.inr ⟨_, vs.toArray, _, hk, rfl, rfl, rfl, ?_, ?_⟩)) hCX
    · intro b u h
      rcases cases_of none b u h with h | ⟨_, h⟩
      · exact .inl h
      · cases h
    · intro b u h
      rcases cases_of none b u h with ⟨h1, rfl⟩ | ⟨_, h⟩
      · exact tabOk _ b h1
      · cases h
    · rw [List.size_toArray, hi.length]
      exact hl
    · simpa using rv
  | none =>
    refine end_core (H := hp0 cs (some (.frz { cls := .type "list", data := .seq vs.toArray } (.lst (ns.map V.int)))) a) S ?_ (hH _) ?_ hr F hbind
      (hsp _ (hH _) (.inl (.inr ⟨{ cls := .type "list", data := .seq vs.toArray }, at_a _⟩))) hCX
    · intro b u h
      rcases cases_of _ b u h with h | ⟨h1, h2⟩
      · exact .inl h
      · exact .inr ⟨h1, hk, _, _, (Option.some.inj h2).symm⟩
    · intro b u h
      rcases cases_of _ b u h with ⟨h1, rfl⟩ | ⟨rfl, h2⟩
      · exact tabOk _ b h1
      · cases h2
        refine ⟨S.scr, ?_, vs, _, rv, S.scr⟩
        rw [List.length_map]
        exact hl
end
end SfG

namespace SfG
open PySem PySem.Spec PyProof.Rows L2
/-! ### a def whose code object is known -/
structure FunC (K : PySem.W.Frag) (x qual : Str) (st : Stmt) (f : Addr) (fd : FuncData) (c : Addr) : Prop where
  ex : ∃ (oc : Value) (od : Option Addr) (kV doc pm : Value) (an : Option Addr) (ct : Value) (osl : Array (Option Value)),
    fd = PySem.W.fnOf x qual (defArgs st) (defBody st) (defScope st) .none kV doc pm an (.ref c) ct ∧
      K.lookup f = some ⟨oc, od, .func fd, osl⟩ ∧ PySem.W.codeIn K (.ref c) qual = true
  kp : PySem.W.keepIn K (.ref f) = true
theorem FunC.fn {K : PySem.W.Frag} {x qual : Str} {st : Stmt} {f c : Addr} {fd : FuncData} (F : FunC K x qual st f fd c) : Fun K x qual st f fd := by
  obtain ⟨oc, od, kV, doc, pm, an, ct, osl, h1, h2, h3⟩ := F.ex
  exact ⟨⟨oc, od, kV, doc, pm, an, .ref c, ct, osl, h1, h2, h3⟩, F.kp⟩
section
variable {P : Program} {w : World} {K : PySem.W.Frag} {mg : Str → Option Value} {base : Heap}
theorem FunC.ok {x qual : Str} {st : Stmt} {f c : Addr} {fd : FuncData} {N ps : List Str} {k : Nat} {sp : Sp}
    (F : FunC K x qual st f fd c) (S : FnScope N ps (defScope st)) (len : ∀ vs H Q E, sp vs H Q E → vs.length = ps.length)
    (hbody : ∀ (A : Around) (outer : List Env) (s : Shared) (H : Hp) (vs : List V) (Q : VK) (E : XK),
      Room k (A.deeper (envOfC qual (defScope st) s.heap.objs.size f (.ref c))) → sp vs H Q E →
      ∃ t, PSs (cxOf CX0 P w K mg base N qual (defScope st) f (.ref c) A outer s H E).nox (defBody st) t ∧
        t { nx := fun _ H' => Q .non H', rt := Q } (start N vs) H) : FnOk P w K mg base CX0 (k + 1) f fd ps sp := by
  obtain ⟨oc, od, kV, doc, pm, an, ct, osl, rfl, lk, hcd⟩ := F.ex
  refine fn_of lk hcd S len ?_
  intro A outer s H vs Q E hr hsp
  obtain ⟨t, h, q⟩ := hbody A outer s H vs Q E hr hsp
  exact ⟨t, h.nox, q⟩
end
/-! ### heaps that grow: what stood stands, tables of code objects may be longer -/
structure Gr (H H' : Hp) : Prop where
  keep : ∀ b o, H b = some o → (∀ ps, o ≠ .tbl ps) → H' b = some o
  tab : ∀ P, GxR.TabG H P → GxR.TabG H' P
  back : ∀ l, H' l = none → H l = none
theorem Gr.refl (H : Hp) : Gr H H := ⟨fun _ _ h _ => h, fun _ h => h, fun _ h => h⟩
theorem Gr.trans {H H1 H2 : Hp} (a : Gr H H1) (b : Gr H1 H2) : Gr H H2 :=
  ⟨fun c o h n => b.keep c o (a.keep c o h n) n, fun P h => b.tab P (a.tab P h), fun l h => a.back l (b.back l h)⟩
theorem Gr.same {H H' : Hp} (e : Same H H') : Gr H H' := by
  refine ⟨fun b o h _ => e b o h, ?_, fun l h => e.free h⟩
  rintro P ⟨ps, h1, h2⟩
  exact ⟨ps, e P _ h1, h2⟩
theorem Gr.new {H : Hp} {p : Addr} {o : HO} (h : H p = none) : Gr H (upd H p o) := by
  refine Gr.same ?_
  intro b x e
  rw [upd_ne (ne_of_none e h)]
  exact e
theorem Gr.tabbed {P : Addr} {H H' : Hp} (t : GxR.TabG H P) (e : GxR.Tabbed P H H') : Gr H H' := by
  refine ⟨?_, ?_, ?_⟩
  · intro b o h n
    refine (e.2 b ?_).trans h
    intro z
    obtain ⟨ps, h1, _⟩ := t
    rw [z, h1] at h
    exact n ps (Option.some.inj h).symm
  · intro P' t'
    by_cases z : P' = P
    · rw [z]
      exact e.1
    · obtain ⟨ps, h1, h2⟩ := t'
      exact ⟨ps, (e.2 P' z).trans h1, h2⟩
  · intro l h
    by_cases z : l = P
    · obtain ⟨ps, h1, _⟩ := e.1
      rw [z, h1] at h
      cases h
    · rw [← e.2 l z]
      exact h
/-- a list that is changed in the heap: all else stays -/
theorem Gr.lst {H H' : Hp} (g : Gr H H') {b : Addr} {xs : List V} (h : H b = some (.lst xs)) : H' b = some (.lst xs) := g.keep b _ h (fun _ z => (by cases z))
theorem Gr.tup {H H' : Hp} (g : Gr H H') {b : Addr} {xs : List V} (h : H b = some (.tup xs)) : H' b = some (.tup xs) := g.keep b _ h (fun _ z => (by cases z))
theorem Gr.dic {H H' : Hp} (g : Gr H H') {b : Addr} {kvs : List (Key × V)} (h : H b = some (.dK kvs)) : H' b = some (.dK kvs) := g.keep b _ h (fun _ z => (by cases z))
theorem Gr.seq {K : PySem.W.Frag} {H H' : Hp} {a : Addr} {xs : List V} (e : Gr H H') (h : SqL K H a xs) : SqL K H' a xs := by
  rcases h with (h | ⟨o, h⟩) | h
  · exact .inl (.inl (e.lst h))
  · exact .inl (.inr ⟨o, e.keep _ _ h (fun _ z => (by cases z))⟩)
  · exact .inr h
/-! ### kinds of things -/
def kinds : List String := ["NoneType", "bool", "int", "str", "list", "tuple", "dict"]
theorem kit_int : ∀ T ∈ kinds, kitB T "int" = some (T == "int" || T == "bool") := by decide +kernel
theorem kit_bool : ∀ T ∈ kinds, kitB T "bool" = some (T == "bool") := by decide +kernel
theorem kit_str : ∀ T ∈ kinds, kitB T "str" = some (T == "str") := by decide +kernel
/-- x is a thing of the built-in type T -/
def Is (K : PySem.W.Frag) (H : Hp) (x : V) (T : String) : Prop := TyX K H x (.type T) ∧ T ∈ kinds
theorem tyx_is {K : PySem.W.Frag} {H : Hp} {x : V} {t : Value} {T : String} (h : TyX K H x t) (e : t = .type T) :
    (T = "int" → ∃ i, x = .int i) ∧ (T = "str" → ∃ z, x = .str z) ∧ (∀ i, x = .int i → T = "int") ∧ (∀ z, x = .str z → T = "str") := by
  cases h with
  | base b =>
    cases b with
    | int i => cases e; exact ⟨fun _ => ⟨i, rfl⟩, fun z => absurd z (by decide), fun _ _ => rfl, fun _ z => (by cases z)⟩
    | str i => cases e; exact ⟨fun z => absurd z (by decide), fun _ => ⟨i, rfl⟩, fun _ z => (by cases z), fun _ _ => rfl⟩
    | ins => cases e
    | _ => cases e; exact ⟨fun z => absurd z (by decide), fun z => absurd z (by decide), fun _ z => (by cases z), fun _ z => (by cases z)⟩
  | _ => cases e; exact ⟨fun z => absurd z (by decide), fun z => absurd z (by decide), fun _ z => (by cases z), fun _ z => (by cases z)⟩
section
variable {K : PySem.W.Frag} {H : Hp} {x : V} {T : String}
theorem Is.whole (h : Is K H x T) (e : T = "int") : ∃ i, x = .int i := (tyx_is h.1 rfl).1 e
theorem Is.text (h : Is K H x T) (e : T = "str") : ∃ z, x = .str z := (tyx_is h.1 rfl).2.1 e
theorem Is.nint (h : Is K H x T) (e : T ≠ "int") : ∀ i, x ≠ .int i := fun i z => e ((tyx_is h.1 rfl).2.2.1 i z)
theorem Is.ntext (h : Is K H x T) (e : T ≠ "str") : ∀ z, x ≠ .str z := fun i z => e ((tyx_is h.1 rfl).2.2.2 i z)
end
theorem is_int {K : PySem.W.Frag} {H : Hp} (i : Int) : Is K H (.int i) "int" := ⟨.base (.int i), by decide⟩
theorem is_str {K : PySem.W.Frag} {H : Hp} (z : Str) : Is K H (.str z) "str" := ⟨.base (.str z), by decide⟩
theorem is_bl {K : PySem.W.Frag} {H : Hp} (b : Bool) : Is K H (.bl b) "bool" := ⟨.base (.bl b), by decide⟩
theorem is_non {K : PySem.W.Frag} {H : Hp} : Is K H .non "NoneType" := ⟨.base .non, by decide⟩
/-! ### isinstance(x, T), x a name, T a built-in class -/
def tIsi (T : String) (K : PySem.W.Frag) (i : Nat) : TE := fun σ H Q => ∃ v, σ[i]? = some (some v) ∧ ∃ (T' : String) (b : Bool), TyX K H v (.type T') ∧ kitB T' T = some b ∧ Q (.bl b) H
theorem pe_isi {X : Cx} {x nm : Str} {p p1 p2 pos : Pos} (T : String) (i : Nat) (mi : X.mg "isinstance" = none) (mT : X.mg nm = none)
    (hv : bootBuiltins nm = some (.type T)) (hN : X.N[i]? = some x := by rfl) (hvis : Vis X.env.scope x := by first | exact Or.inl rfl | exact Or.inr (Or.inl rfl) | exact Or.inr (Or.inr rfl))
    (hg : Gl X "isinstance" := by rfl) (hgT : Gl X nm := by rfl) (hxd : (x == ("__debug__" : Str)) = false := by decide) (hxc : (x == ("__classdict__" : Str)) = false := by decide)
    (hn : nm ≠ "__name__" := by decide) (hd : (nm == ("__debug__" : Str)) = false := by decide) :
    PE X (.Call (.Name "isinstance" p) [.Name x p1, .Name nm p2] [] pos) (tIsi T X.K i) := by
  have h := pe_callB (p := p) (pos := pos) call_isi hg mi (show bootBuiltins "isinstance" = some (.builtin "isinstance") by decide +kernel)
    (pa_cons (pe_var (pos := p1) hN hvis hxd hxc) (pa_cons (pe_bltn (v := .ty T) (pos := p2) hgT mT hv rfl hn hd) pa_nil))
  constructor
  intro pins s σ H Q I hq
  refine h.run pins s σ H Q I ?_
  obtain ⟨v, hs, T', b, h1, h2, h3⟩ := hq
  exact ⟨v, hs, v, .ty T, .type T', .type T, b, rfl, .ty T, h1, kit_ty h2, h3⟩
end SfG

namespace SfG
open PySem PySem.Spec PyProof.Rows L2
/-! ### the end of a law whose defs have tables -/
/-- the top's defs and their tables, still empty -/
def TabsOf (q : Program) (mg : Str → Option Value) (h : Heap) : Prop := ∀ d ∈ recsOf q, ∃ a o fd c P,
  mg d.name = some (.ref a) ∧ h.get? a = some o ∧ o.data = .func fd ∧ fd.code = .ref c ∧ h.IsCode c P #[] ∧ h.TableAt c P #[]
theorem tab_of {q : Program} {mg : Str → Option Value} {h : Heap} {K : PySem.W.Frag} {nm x qual : Str} {st : Stmt} {f c P : Addr} {fd : FuncData}
    {e : Value} {dd : Option Addr} {vs : Array Value} {sl : Array (Option Value)} (T : TabsOf q mg h) (hrec : ((recsOf q).any fun d => d.name == nm) = true)
    (g : mg nm = some (.ref f)) (KX : K.In h) (F : FunC K x qual st f fd c) (kc : K.lookup c = some ⟨e, dd, .fields vs, sl⟩) (kp : vs[11]? = some (.ref P)) :
    h.get? P = some { cls := .none, data := .fields #[] } ∧ PySem.W.CodeHd h c P := by
  obtain ⟨d, hm, hn⟩ := List.any_eq_true.mp hrec
  have hn2 : d.name = nm := beq_iff_eq.mp hn
  obtain ⟨a, o, fd', c', P', h1, h2, h3, h4, h5, h6⟩ := T d hm
  rw [hn2, g] at h1
  cases h1
  obtain ⟨oc, od, kV, doc, pm, an, ct, osl, rfl, lk, hcd⟩ := F.ex
  rw [KX _ _ lk] at h2
  cases h2
  cases h3
  have ec : c = c' := by
    have z : Value.ref c = Value.ref c' := h4
    cases z
    rfl
  subst ec
  obtain ⟨⟨o1, v1, a1, a2, a3, a4⟩, hP⟩ := h6
  have ek := KX _ _ kc
  rw [ek] at a1
  cases a1
  cases a3
  rw [kp] at a4
  cases a4
  obtain ⟨o2, v2, file, tf, flags, tg, inF, text, tt, op, b1, b2, b3, b4, b5, b6, b7, b8, b9, b10, b11⟩ := h5
  rw [ek] at b1
  cases b1
  cases b2
  exact ⟨hP, _, _, file, tf, flags, tg, inF, text, tt, ek, a2, rfl, kp, b3, b4, b5, b6, b7, b11⟩
/-- what is known of the law's promise at the head's heap h -/
def LawG (l : PySem.W.OpenLaw) (w : World) (K : PySem.W.Frag) (CX : CXT) (k n : Nat) (x : Str) (mg : Str → Option Value) (fa : Addr) (h : Heap) : Prop :=
  ∃ (fd : FuncData) (cs : List (Addr × Addr)) (sp : Sp), (∀ p ∈ cs, h.get? p.2 = some { cls := .none, data := .fields #[] }) ∧ (∀ p ∈ cs, K.lookup p.2 = none) ∧
    (∀ p ∈ cs, PySem.W.CodeHd h p.1 p.2) ∧ (∀ (s : Shared) (u : Value), BindsTo s fd ⟨[u], []⟩ [(x, u)]) ∧
    (∀ (H : Hp) (a : Addr) (ns : List Int), ns.length ≤ n → (∀ p ∈ cs, H p.2 = some (.tbl #[])) → SqL K H a (ns.map V.int) → sp [.ref a] H (fun v _ => v = .bl true) fun _ _ _ => False) ∧
    ∀ base : Heap, K.In base → base.Ns mainGlobals mg → (∀ p ∈ cs, GxR.TabB base mg p.1 p.2) → FnG l.prog w K mg base CX k fa fd [x] sp
theorem walk_G {l : PySem.W.OpenLaw} {n k : Nat} {q : Program} {loose : List Str} {XP : (Str → Option Value) → Heap → Prop} {YP : World → Heap → Prop} {d : DefRec}
    {K : Params → PySem.W.Frag} {CX : World → CXT} {x : Str} (hn : l.most = some n) (hn2 : n ≤ sizeLine) (hdf : d.params.defaults = []) (hr : Room k callerA)
    (hY : ∀ (w : World) (h : Heap), YP w h → (K w.params).In h)
    (F : ∀ (w : World) (mg : Str → Option Value) (fa : Addr) (h : Heap), (K w.params).In h → h.Ns mainGlobals mg → mg d.name = some (.ref fa) → TabsOf q mg h →
      LawG l w (K w.params) (CX w) k n x mg fa h)
    (hCX : ∀ (w : World) (H : Hp) (s : Shared) (e : Value) (s' : Shared), CX w [] H s (fun _ _ _ => False) e s' → False) :
    PySem.W.WalkO q loose XP YP l.row.toRowW d [] (fun f vs => PySem.call f vs) := by
  refine Att.attach_callB hn hdf ?_
  intro w s0 s1 mg mb fa o pm cd doc a vs ns G Y ho hd hcd hmg hobj hints hlen hbits hg
  have KX := hY w _ Y
  obtain ⟨fd, cs, sp, hT, nT, C, hb, hsp, hF⟩ := F w mg fa _ KX G.T.g hmg G.T.tab
  have S : Stands (K w.params) mg mb cs s1 a vs := ⟨KX, G.T.g, G.T.b, G.T.builtins, G.T.nolimit, hg, hT, nT, C, G.T.bmain, hobj⟩
  exact end_call S hints (Nat.le_trans hlen hn2) hr hF hb (fun H hH hS => hsp H a ns hlen hH hS) fun H e s' => hCX w H s1 e s'
end SfG

namespace SfG
open PySem PySem.Spec PyProof.Rows L2
/-- all but p as it was -/
def But (p : Addr) (H H' : Hp) : Prop := ∀ b, b ≠ p → H' b = H b
theorem But.upd {p : Addr} {H H' : Hp} {o : HO} (h : But p H H') : But p H (upd H' p o) := fun b n => (upd_ne n).trans (h b n)

theorem Gr.upd_new {H0 H : Hp} {p : Addr} {o : HO} (g : Gr H0 H) (h : H0 p = none) : Gr H0 (upd H p o) := by
  refine ⟨?_, ?_, ?_⟩
  · intro b u e n
    rw [upd_ne (ne_of_none e h)]
    exact g.keep b u e n
  · intro P t
    have np : P ≠ p := by
      obtain ⟨ps, h1, _⟩ := t
      exact ne_of_none h1 h
    obtain ⟨ps, h1, h2⟩ := g.tab P t
    exact ⟨ps, (upd_ne np).trans h1, h2⟩
  · intro l e
    by_cases z : l = p
    · rw [z]
      exact h
    · rw [upd_ne z] at e
      exact g.back l e
/-! ### heaps in a turn: the draw's state at p is changed, all else grows -/
structure Gp (p : Addr) (H H' : Hp) : Prop where
  keep : ∀ b o, b ≠ p → H b = some o → (∀ ps, o ≠ .tbl ps) → H' b = some o
  tab : ∀ P, P ≠ p → GxR.TabG H P → GxR.TabG H' P
  back : ∀ l, l ≠ p → H' l = none → H l = none
theorem Gp.refl (p : Addr) (H : Hp) : Gp p H H := ⟨fun _ _ _ h _ => h, fun _ _ h => h, fun _ _ h => h⟩
theorem Gp.gr {p : Addr} {H H' : Hp} (g : Gr H H') : Gp p H H' := ⟨fun b o _ => g.keep b o, fun P _ => g.tab P, fun l _ => g.back l⟩
theorem Gp.but {p : Addr} {H H' : Hp} (g : But p H H') : Gp p H H' := by
  refine ⟨fun b o n h _ => (g b n).trans h, ?_, fun l n h => (g l n).symm.trans h⟩
  rintro P n ⟨ps, h1, h2⟩
  exact ⟨ps, (g P n).trans h1, h2⟩
theorem Gp.trans {p : Addr} {H H1 H2 : Hp} (a : Gp p H H1) (b : Gp p H1 H2) : Gp p H H2 :=
  ⟨fun c o n h t => b.keep c o n (a.keep c o n h t) t, fun P n h => b.tab P n (a.tab P n h), fun l n h => a.back l n (b.back l n h)⟩
/-- what was there ahead of p grows -/
theorem Gp.out {p : Addr} {H0 H H' : Hp} (g : Gr H0 H) (h : H0 p = none) (a : Gp p H H') : Gr H0 H' := by
  refine ⟨?_, ?_, ?_⟩
  · intro b o e t
    exact a.keep b o (ne_of_none e h) (g.keep b o e t) t
  · intro P t
    have n : P ≠ p := by
      obtain ⟨ps, h1, _⟩ := t
      exact ne_of_none h1 h
    exact a.tab P n (g.tab P t)
  · intro l e
    by_cases z : l = p
    · rw [z]
      exact h
    · exact g.back l (a.back l z e)
theorem Gp.lst {p : Addr} {H H' : Hp} (g : Gp p H H') {b : Addr} {xs : List V} (n : b ≠ p) (h : H b = some (.lst xs)) : H' b = some (.lst xs) := g.keep b _ n h (fun _ z => by cases z)
theorem Gp.upd_new {p q : Addr} {H0 H : Hp} {o : HO} (g : Gp p H0 H) (h : H0 q = none) : Gp p H0 (upd H q o) := by
  refine ⟨?_, ?_, ?_⟩
  · intro b u nb e n
    rw [upd_ne (ne_of_none e h)]
    exact g.keep b u nb e n
  · intro P nP t
    have np : P ≠ q := by
      obtain ⟨ps, h1, _⟩ := t
      exact ne_of_none h1 h
    obtain ⟨ps, h1, h2⟩ := g.tab P nP t
    exact ⟨ps, (upd_ne np).trans h1, h2⟩
  · intro l nl e
    by_cases z : l = q
    · rw [z]
      exact h
    · rw [upd_ne z] at e
      exact g.back l nl e

/-- a def that is called: where it stands, how it is bound, what it promises -/
structure Has (P : Program) (w : World) (K : PySem.W.Frag) (mg : Str → Option Value) (base : Heap) (k : Nat) (x : Str) (ps : List Str) (sp : Sp) (f : Addr) (fd : FuncData) : Prop where
  ok : FnOk P w K mg base CX0 k f fd ps sp
  at_ : mg x = some (.ref f)
  kp : PySem.W.keepIn K (.ref f) = true
  bd : Binds K fd ps []
theorem hcall {X : Cx} {k : Nat} {x : Str} {ps : List Str} {sp : Sp} {f : Addr} {fd : FuncData} {e : Expr} {es : List Expr} {t : TA} {p pos : Pos} (h : Has X.prog X.w X.K X.mg X.base k x ps sp f fd) (hr : Room k X.A) (ha : PA X (e :: es) t)
    (hg : Gl X x := by rfl) (hdb : (x == ("__debug__" : Str)) = false := by decide) (he : starEach (e :: es) X.env = (false, eval e X.env) :: starEach es X.env := by rfl)
    (hpl : (backTo pos (starEach es X.env)).any (·.1) = false := by rfl) : PE X (.Call (.Name x p) (e :: es) [] pos) (tCall sp [] E0 t) :=
  pe_call h.ok hr hg h.at_ h.kp h.bd .nil pass0 ha hdb he hpl

/-! ### data that stays -/
theorem Gr.sqt {K : PySem.W.Frag} {H H' : Hp} {a : Addr} {xs : List V} (e : Gr H H') (h : SqT K H a xs) : SqT K H' a xs := by
  rcases h with (h | ⟨o, h⟩) | h
  · exact .inl (.inl (e.tup h))
  · exact .inl (.inr ⟨o, e.keep _ _ h (fun _ z => by cases z)⟩)
  · exact .inr h
theorem Gp.sqt {K : PySem.W.Frag} {p : Addr} {H H' : Hp} {a : Addr} {xs : List V} {kv : List (Key × V)} (e : Gp p H H') (hp : H p = some (.dK kv)) (h : SqT K H a xs) : SqT K H' a xs := by
  rcases h with (h | ⟨o, h⟩) | h
  · refine .inl (.inl (e.keep a _ (fun z => ?_) h (fun _ z => by cases z)))
    rw [z, hp] at h
    cases h
  · refine .inl (.inr ⟨o, e.keep a _ (fun z => ?_) h (fun _ z => by cases z)⟩)
    rw [z, hp] at h
    cases h
  · exact .inr h
theorem Gp.sql {K : PySem.W.Frag} {p : Addr} {H H' : Hp} {a : Addr} {xs : List V} {kv : List (Key × V)} (e : Gp p H H') (hp : H p = some (.dK kv)) (h : SqL K H a xs) : SqL K H' a xs := by
  rcases h with (h | ⟨o, h⟩) | h
  · refine .inl (.inl (e.keep a _ (fun z => ?_) h (fun _ z => by cases z)))
    rw [z, hp] at h
    cases h
  · refine .inl (.inr ⟨o, e.keep a _ (fun z => ?_) h (fun _ z => by cases z)⟩)
    rw [z, hp] at h
    cases h
  · exact .inr h
/-- what keeps all lists and tuples keeps data -/
structure Kd (K : PySem.W.Frag) (H H' : Hp) : Prop where
  l : ∀ {a xs}, SqL K H a xs → SqL K H' a xs
  t : ∀ {a xs}, SqT K H a xs → SqT K H' a xs
theorem Gr.kd {K : PySem.W.Frag} {H H' : Hp} (g : Gr H H') : Kd K H H' := ⟨fun h => g.seq h, fun h => g.sqt h⟩
theorem Gp.kd {K : PySem.W.Frag} {p : Addr} {H H' : Hp} {kv : List (Key × V)} (g : Gp p H H') (hp : H p = some (.dK kv)) : Kd K H H' := ⟨fun h => g.sql hp h, fun h => g.sqt hp h⟩
mutual
theorem Kd.dp {K : PySem.W.Frag} {H H' : Hp} (g : Kd K H H') : ∀ {d : PyData} {v : V}, Dp K H v d → Dp K H' v d
  | _, _, .non => .non
  | _, _, .bl b => .bl b
  | _, _, .int i => .int i
  | _, _, .str x => .str x
  | _, _, .lst h hs => .lst (g.l h) (g.dpA hs)
  | _, _, .tup h hs => .tup (g.t h) (g.dpA hs)
theorem Kd.dpA {K : PySem.W.Frag} {H H' : Hp} (g : Kd K H H') : ∀ {ds : List PyData} {vs : List V}, DpAll K H vs ds → DpAll K H' vs ds
  | _, _, .nil => .nil
  | _, _, .cons h hs => .cons (g.dp h) (g.dpA hs)
end
section
variable {K : PySem.W.Frag} {H : Hp} {v : V}
theorem dp_str {z : Str} (h : Dp K H v (.str z)) : v = .str z := by cases h; rfl
theorem dp_int {n : Int} (h : Dp K H v (.int n)) : v = .int n := by cases h; rfl
theorem dp_tup {ds : List PyData} (h : Dp K H v (.tuple ds)) : ∃ p xs, v = .ref p ∧ SqT K H p xs ∧ DpAll K H xs ds := by
  cases h with
  | tup h hs => exact ⟨_, _, rfl, h, hs⟩
theorem dpA_nil {xs : List V} (h : DpAll K H xs []) : xs = [] := by cases h; rfl
theorem dpA_cons {xs : List V} {d : PyData} {ds : List PyData} (h : DpAll K H xs (d :: ds)) : ∃ x r, xs = x :: r ∧ Dp K H x d ∧ DpAll K H r ds := by
  cases h with
  | cons a b => exact ⟨_, _, rfl, a, b⟩
theorem dp_1 {a : PyData} (h : Dp K H v (.tuple [a])) : ∃ p x, v = .ref p ∧ SqT K H p [x] ∧ Dp K H x a := by
  obtain ⟨p, xs, rfl, hp, hs⟩ := dp_tup h
  obtain ⟨x, r, rfl, hx, hs⟩ := dpA_cons hs
  cases dpA_nil hs
  exact ⟨p, x, rfl, hp, hx⟩
theorem dp_2 {a b : PyData} (h : Dp K H v (.tuple [a, b])) : ∃ p x y, v = .ref p ∧ SqT K H p [x, y] ∧ Dp K H x a ∧ Dp K H y b := by
  obtain ⟨p, xs, rfl, hp, hs⟩ := dp_tup h
  obtain ⟨x, r, rfl, hx, hs⟩ := dpA_cons hs
  obtain ⟨y, r, rfl, hy, hs⟩ := dpA_cons hs
  cases dpA_nil hs
  exact ⟨p, x, y, rfl, hp, hx, hy⟩
theorem dp_3 {a b c : PyData} (h : Dp K H v (.tuple [a, b, c])) : ∃ p x y z, v = .ref p ∧ SqT K H p [x, y, z] ∧ Dp K H x a ∧ Dp K H y b ∧ Dp K H z c := by
  obtain ⟨p, xs, rfl, hp, hs⟩ := dp_tup h
  obtain ⟨x, r, rfl, hx, hs⟩ := dpA_cons hs
  obtain ⟨y, r, rfl, hy, hs⟩ := dpA_cons hs
  obtain ⟨z, r, rfl, hz, hs⟩ := dpA_cons hs
  cases dpA_nil hs
  exact ⟨p, x, y, z, rfl, hp, hx, hy, hz⟩
theorem dp_4 {a b c d : PyData} (h : Dp K H v (.tuple [a, b, c, d])) : ∃ p x y z w, v = .ref p ∧ SqT K H p [x, y, z, w] ∧ Dp K H x a ∧ Dp K H y b ∧ Dp K H z c ∧ Dp K H w d := by
  obtain ⟨p, xs, rfl, hp, hs⟩ := dp_tup h
  obtain ⟨x, r, rfl, hx, hs⟩ := dpA_cons hs
  obtain ⟨y, r, rfl, hy, hs⟩ := dpA_cons hs
  obtain ⟨z, r, rfl, hz, hs⟩ := dpA_cons hs
  obtain ⟨u, r, rfl, hu, hs⟩ := dpA_cons hs
  cases dpA_nil hs
  exact ⟨p, x, y, z, u, rfl, hp, hx, hy, hz, hu⟩
/-- the i-th of a tuple of data -/
theorem dpA_get : ∀ {ds : List PyData} {xs : List V} {i : Nat} {d : PyData}, DpAll K H xs ds → ds[i]? = some d → ∃ x, xs[i]? = some x ∧ Dp K H x d
  | [], _, i, d, _, h => by simp at h
  | a :: r, xs, 0, d, hs, h => by
    obtain ⟨x, r', rfl, hx, _⟩ := dpA_cons hs
    have e : a = d := Option.some.inj h
    exact ⟨x, rfl, e ▸ hx⟩
  | a :: r, xs, i + 1, d, hs, h => by
    obtain ⟨x, r', rfl, _, hr⟩ := dpA_cons hs
    obtain ⟨y, hy, hd⟩ := dpA_get hr (show r[i]? = some d from h)
    exact ⟨y, hy, hd⟩
theorem dpA_len : ∀ {ds : List PyData} {xs : List V}, DpAll K H xs ds → xs.length = ds.length
  | [], _, h => by
    rw [dpA_nil h]
    rfl
  | _ :: _, _, h => by
    obtain ⟨x, r, rfl, _, hr⟩ := dpA_cons h
    rw [List.length_cons, List.length_cons, dpA_len hr]
end
end SfG

namespace SfE
open PySem PySem.Spec PyProof.Rows L2 SfG
def topS (i : Nat) : Stmt := PySem.Challenge.pw_sameface_k10_what_bodies_tell.main.body.getD i (.Pass ⟨0, 0, 0, 0⟩)
abbrev sVal : Stmt := topS 1
abbrev sCho : Stmt := topS 2
abbrev sGiv : Stmt := topS 3
theorem scVal : FnScope ["expression", "fields", "word", "first", "second"] ["expression", "fields"] (defScope sVal) := ⟨rfl, rfl, rfl, by decide +kernel, rfl, by decide +kernel, by decide +kernel⟩
theorem scCho : FnScope ["body", "fields"] ["body", "fields"] (defScope sCho) := ⟨rfl, rfl, rfl, by decide +kernel, rfl, by decide +kernel, by decide +kernel⟩
abbrev nGiv : List Str := ["body", "fields", "chosen", "expression"]
theorem scGiv : FnScope nGiv ["body", "fields"] (defScope sGiv) := ⟨rfl, rfl, rfl, by decide +kernel, rfl, by decide +kernel, by decide +kernel⟩
/-! ### Es and bodies -/
inductive Ex where
  | num (n : Int)
  | inp (k f : Nat)
  | bin (w : Nat) (a b : Ex)
  | rst (a : Ex) (n : Int)
  | iff (a b c : Ex)
def opw : Nat → Str
  | 0 => "plus"
  | 1 => "less"
  | 2 => "times"
  | 3 => "same"
  | _ => "under"
def Ex.d : Ex → PyData
  | .num n => .tuple [.str "number", .int n]
  | .inp k f => .tuple [.str "in", .int k, .int f]
  | .bin w a b => .tuple [.str (opw w), a.d, b.d]
  | .rst a n => .tuple [.str "rest", a.d, .int n]
  | .iff a b c => .tuple [.str "if", a.d, b.d, c.d]
def op2 (w : Nat) (x y : Int) : Int := match w with
  | 0 => x + y
  | 1 => x - y
  | 2 => x * y
  | 3 => if x = y then 1 else 0
  | _ => if x < y then 1 else 0
abbrev Fs := List (List Int)
def fld (fs : Fs) (k f : Nat) : Int := (fs.getD k []).getD f 0
def ev (fs : Fs) : Ex → Int
  | .num n => n
  | .inp k f => fld fs k f
  | .bin w a b => op2 w (ev fs a) (ev fs b)
  | .rst a n => ev fs a % n
  | .iff a b c => if ev fs a ≠ 0 then ev fs b else ev fs c
def fD (fs : Fs) : PyData := .tuple (fs.map fun l => .tuple (l.map .int))
/-- an E as the document has it, for things of so many fields -/
def okE (cs : List Nat) : Ex → Prop
  | .num n => 0 ≤ n ∧ n ≤ 99
  | .inp k f => ∃ c, cs[k]? = some c ∧ f < c
  | .bin w a b => w ≤ 4 ∧ okE cs a ∧ okE cs b
  | .rst a n => 2 ≤ n ∧ n ≤ 99 ∧ okE cs a
  | .iff a b c => okE cs a ∧ okE cs b ∧ okE cs c
def dep : Ex → Nat
  | .num _ => 1
  | .inp _ _ => 1
  | .bin _ a b => 1 + max (dep a) (dep b)
  | .rst a _ => 1 + dep a
  | .iff a b c => 1 + max (dep a) (max (dep b) (dep c))
/-- how many ends an E has -/
def lvs : Ex → Nat
  | .num _ => 1
  | .inp _ _ => 1
  | .bin _ a b => lvs a + lvs b
  | .rst a _ => lvs a
  | .iff a b c => lvs a + lvs b + lvs c
/-- fields that fit the counts, none too great -/
structure Fit (cs : List Nat) (fs : Fs) : Prop where
  len : fs.map List.length = cs
  small : ∀ l ∈ fs, ∀ x ∈ l, x.natAbs < 2 ^ 51
theorem Fit.at {cs : List Nat} {fs : Fs} (h : Fit cs fs) {k f c : Nat} (hk : cs[k]? = some c) (hf : f < c) : ∃ l x, fs[k]? = some l ∧ l[f]? = some x ∧ fld fs k f = x ∧ x.natAbs < 2 ^ 51 := by
  rw [← h.len, List.getElem?_map] at hk
  obtain ⟨l, hl, rfl⟩ := Option.map_eq_some_iff.mp hk
  refine ⟨l, l[f], hl, by simp [hf], ?_, h.small l (List.mem_of_getElem? hl) _ (List.getElem_mem hf)⟩
  unfold fld
  have e1 : fs.getD k [] = l := by rw [List.getD_eq_getElem?_getD, hl]; rfl
  rw [e1, List.getD_eq_getElem?_getD]
  simp [hf]
theorem lvs_pos : ∀ e : Ex, 1 ≤ lvs e
  | .num _ => Nat.le_refl 1
  | .inp _ _ => Nat.le_refl 1
  | .bin _ a b => by have := lvs_pos a; simp only [lvs]; omega
  | .rst a _ => lvs_pos a
  | .iff a b c => by have := lvs_pos a; simp only [lvs]; omega
theorem pow_ge (n : Nat) (h : 1 ≤ n) : (2 : Nat) ^ 51 ≤ 2 ^ (51 * n) := Nat.pow_le_pow_right (by decide) (by omega)
theorem ev_small {cs : List Nat} {fs : Fs} (hF : Fit cs fs) : ∀ e : Ex, okE cs e → (ev fs e).natAbs < 2 ^ (51 * lvs e)
  | .num n, h => by
    have h1 := h.1
    have h2 := h.2
    have e : (2 : Nat) ^ (51 * lvs (.num n)) = 2251799813685248 := by show (2 : Nat) ^ (51 * 1) = _; decide
    rw [e]
    simp only [ev]
    omega
  | .inp k f, ⟨c, hk, hf⟩ => by
    obtain ⟨l, x, _, _, e, hx⟩ := hF.at hk hf
    simp only [ev, e]
    exact hx
  | .bin w a b, h => by
    have ha := ev_small hF a h.2.1
    have hb := ev_small hF b h.2.2
    have pa := lvs_pos a
    have pb := lvs_pos b
    have ga := pow_ge (lvs a) pa
    have gb := pow_ge (lvs b) pb
    have e51 : (2 : Nat) ^ 51 = 2251799813685248 := by decide
    rw [e51] at ga gb
    have em : (2 : Nat) ^ (51 * (lvs a + lvs b)) = 2 ^ (51 * lvs a) * 2 ^ (51 * lvs b) := by rw [Nat.mul_add, Nat.pow_add]
    simp only [ev, lvs]
    rw [em]
    generalize ev fs a = x at ha
    generalize ev fs b = y at hb
    generalize (2 : Nat) ^ (51 * lvs a) = A at ha ga
    generalize (2 : Nat) ^ (51 * lvs b) = B at hb gb
    have hAB : A + B ≤ A * B := by
      have h1 : A * 2 ≤ A * B := Nat.mul_le_mul_left A (by omega)
      have h2 : 2 * B ≤ A * B := Nat.mul_le_mul_right B (by omega)
      omega
    unfold op2
    split
    · omega
    · omega
    · rw [Int.natAbs_mul]
      exact Nat.mul_lt_mul'' ha hb
    · split <;> omega
    · split <;> omega
  | .rst a n, h => by
    have ga := pow_ge (lvs a) (lvs_pos a)
    have e51 : (2 : Nat) ^ 51 = 2251799813685248 := by decide
    rw [e51] at ga
    have h1 := h.1
    have h2 := h.2.1
    have m0 := Int.emod_nonneg (ev fs a) (show n ≠ 0 by omega)
    have m1 := Int.emod_lt_of_pos (ev fs a) (show 0 < n by omega)
    simp only [ev, lvs]
    omega
  | .iff a b c, h => by
    have hb := ev_small hF b h.2.1
    have hc := ev_small hF c h.2.2
    simp only [ev, lvs]
    have l1 : (2 : Nat) ^ (51 * lvs b) ≤ 2 ^ (51 * (lvs a + lvs b + lvs c)) := Nat.pow_le_pow_right (by decide) (by omega)
    have l2 : (2 : Nat) ^ (51 * lvs c) ≤ 2 ^ (51 * (lvs a + lvs b + lvs c)) := Nat.pow_le_pow_right (by decide) (by omega)
    split <;> omega
theorem opw_ne (w : Nat) : V.str (opw w) ≠ .str "number" ∧ V.str (opw w) ≠ .str "in" ∧ V.str (opw w) ≠ .str "rest" ∧ V.str (opw w) ≠ .str "if" := by
  unfold opw
  split <;> decide +kernel
theorem opw_is (w v : Nat) (hw : w ≤ 4) (hv : v ≤ 3) : decide (V.str (opw w) = V.str (opw v)) = decide (w = v) := by
  have : w = 0 ∨ w = 1 ∨ w = 2 ∨ w = 3 ∨ w = 4 := by omega
  have : v = 0 ∨ v = 1 ∨ v = 2 ∨ v = 3 := by omega
  rcases ‹w = 0 ∨ _› with rfl | rfl | rfl | rfl | rfl <;> rcases ‹v = 0 ∨ _› with rfl | rfl | rfl | rfl <;> decide +kernel
section
variable {P : Program} {w : World} {K : PySem.W.Frag} {mg : Str → Option Value} {base : Heap}
/-! ### value_of -/
def spVal (K : PySem.W.Frag) (n : Nat) : Sp := fun vs H Q _ => ∃ (e f : V) (E : Ex) (cs : List Nat) (fs : Fs), vs = [e, f] ∧ Dp K H e E.d ∧ Dp K H f (fD fs) ∧ okE cs E ∧ Fit cs fs ∧ dep E ≤ n ∧ 51 * lvs E ≤ 90000 ∧ Q (.int (ev fs E)) H
theorem ok_val {f : Addr} {fd : FuncData} (F : Fun K "value_of" "value_of" sVal f fd) (bV : Binds K fd ["expression", "fields"] []) (gV : mg "value_of" = some (.ref f)) :
    ∀ n, FnOk P w K mg base CX0 (n + 1) f fd ["expression", "fields"] (spVal K n)
  | 0 => by
    refine F.ok scVal (fun vs H Q E h => ?_) (fun cdv A outer s H vs Q E hr h => ?_)
    · obtain ⟨e, g, E', cs, fs, rfl, _⟩ := h
      rfl
    · obtain ⟨e, g, E', cs, fs, rfl, _, _, _, _, hd, _⟩ := h
      exfalso
      cases E' <;> simp only [dep] at hd <;> omega
  | n + 1 => by
    have GV := ok_val F bV gV n
    refine F.ok scVal (fun vs H Q E h => ?_) (fun cdv A outer s H vs Q E hr h => ?_)
    · obtain ⟨e, g, E', cs, fs, rfl, _⟩ := h
      rfl
    · obtain ⟨e, g, E', cs, fs, rfl, he, hg, ho, hF, hd, hl, q⟩ := h
      have nd := scVal.nd
      refine' ⟨_, pss_cons ?s1 (pss_cons ?s2 (pss_cons ?s3 (pss_cons ?s4 (pss_cons ?s5 (pss_cons ?s6 (pss_cons ?s7 (pss_cons ?s8 (pss_cons ?s9 (pss_cons ?s10 (pss_cons ?s11 (pss_one ?s12))))))))))), ?rd⟩
      case s1 =>
        exact ps_set (i := 2) nd rfl (.inl rfl) (pe_ix ix_tup (pv 0) pe_int (fun _ _ => rfl))
      case s2 =>
        exact ps_if (pt_cmpR op_eq (pv 2) pe_str (nomark _)) (pss_one (ps_ret (pe_ix ix_tup (pe_ix ix_tup (pv 1) (pe_ix ix_tup (pv 0) pe_int (fun _ _ => rfl)) (fun _ _ => rfl)) (pe_ix ix_tup (pv 0) pe_int (fun _ _ => rfl)) (fun _ _ => rfl)))) pss_nil
      case s3 =>
        exact ps_if (pt_cmpR op_eq (pv 2) pe_str (nomark _)) (pss_one (ps_ret (pe_ix ix_tup (pv 0) pe_int (fun _ _ => rfl)))) pss_nil
      case s4 =>
        exact ps_set (i := 3) nd rfl (.inl rfl) (pe_call GV hr (by rfl) gV F.kp bV .nil pass0 (pa_cons (pe_ix ix_tup (pv 0) pe_int (fun _ _ => rfl)) (pa_cons (pv 1) pa_nil)))
      case s5 =>
        exact ps_if (pt_cmpR op_eq (pv 2) pe_str (nomark _)) (pss_one (ps_ret (pe_op op_mod (pv 3) (pe_ix ix_tup (pv 0) pe_int (fun _ _ => rfl))))) pss_nil
      case s6 =>
        exact ps_if (pt_cmpR op_eq (pv 2) pe_str (nomark _)) (pss_one (ps_ret (pe_call GV hr (by rfl) gV F.kp bV .nil pass0 (pa_cons (pe_ix ix_tup (pv 0) (pe_ifExp (pt_cmpR op_ne (pv 3) pe_int (nomark _)) pe_int pe_int) (fun _ _ => rfl)) (pa_cons (pv 1) pa_nil))))) pss_nil
      case s7 =>
        exact ps_set (i := 4) nd rfl (.inl rfl) (pe_call GV hr (by rfl) gV F.kp bV .nil pass0 (pa_cons (pe_ix ix_tup (pv 0) pe_int (fun _ _ => rfl)) (pa_cons (pv 1) pa_nil)))
      case s8 =>
        exact ps_if (pt_cmpR op_eq (pv 2) pe_str (nomark _)) (pss_one (ps_ret (pe_op op_add (pv 3) (pv 4)))) pss_nil
      case s9 =>
        exact ps_if (pt_cmpR op_eq (pv 2) pe_str (nomark _)) (pss_one (ps_ret (pe_op op_sub (pv 3) (pv 4)))) pss_nil
      case s10 =>
        exact ps_if (pt_cmpR op_eq (pv 2) pe_str (nomark _)) (pss_one (ps_ret (pe_op op_mulW (pv 3) (pv 4)))) pss_nil
      case s11 =>
        exact ps_if (pt_cmpR op_eq (pv 2) pe_str (nomark _)) (pss_one (ps_ret (pe_ifExp (pt_cmpR op_eq (pv 3) (pv 4) (nomark _)) pe_int pe_int))) pss_nil
      case s12 =>
        exact ps_ret (pe_ifExp (pt_cmpR op_lt (pv 3) (pv 4) (nomark _)) pe_int pe_int)
      case rd =>
      cases E' with
      | num m =>
        obtain ⟨p, x, y, rfl, hp, hx, hy⟩ := dp_2 he
        cases dp_str hx
        cases dp_int hy
        refine ⟨_, rfl, p, _, 0, _, rfl, rfl, hp, rfl, ?_⟩
        exact ⟨_, rfl, rfl, _, rfl, iteF ⟨_, rfl, rfl, _, rfl, iteT ⟨_, rfl, p, _, 1, _, rfl, rfl, hp, rfl, q⟩⟩⟩
      | inp k j =>
        obtain ⟨p, x, y, z, rfl, hp, hx, hy, hz⟩ := dp_3 he
        cases dp_str hx
        cases dp_int hy
        cases dp_int hz
        obtain ⟨c, hk, hj⟩ := ho
        obtain ⟨l, u, el, eu, ef, _⟩ := hF.at hk hj
        obtain ⟨pf, xs, rfl, hpf, hxs⟩ := dp_tup hg
        obtain ⟨vl, evl, dvl⟩ := dpA_get (i := k) (d := .tuple (l.map .int)) hxs (by rw [List.getElem?_map, el]; rfl)
        obtain ⟨pl, ys, rfl, hpl, hys⟩ := dp_tup dvl
        obtain ⟨vu, evu, dvu⟩ := dpA_get (i := j) (d := .int u) hys (by rw [List.getElem?_map, eu]; rfl)
        cases dp_int dvu
        refine ⟨_, rfl, p, _, 0, _, rfl, rfl, hp, rfl, ?_⟩
        refine ⟨_, rfl, rfl, _, rfl, iteT ⟨_, rfl, _, rfl, p, _, 1, _, rfl, rfl, hp, rfl, pf, _, k, _, rfl, rfl, hpf, atI_nat evl, _, rfl, p, _, 2, _, rfl, rfl, hp, rfl, pl, _, j, _, rfl, rfl, hpl, atI_nat evu, ?_⟩⟩
        have q' : Q (.int (fld fs k j)) H := q
        rw [ef] at q'
        exact q'
      | bin wd a b =>
        obtain ⟨p, x, y, z, rfl, hp, hx, hy, hz⟩ := dp_3 he
        cases dp_str hx
        obtain ⟨n1, n2, n3, n4⟩ := opw_ne wd
        simp only [dep] at hd
        simp only [lvs] at hl
        have pa := lvs_pos a
        have pb := lvs_pos b
        have sa := Nat.lt_of_lt_of_le (ev_small hF a ho.2.1) (Nat.pow_le_pow_right (by decide) (show 51 * lvs a ≤ 100000 by omega))
        have sb := Nat.lt_of_lt_of_le (ev_small hF b ho.2.2) (Nat.pow_le_pow_right (by decide) (show 51 * lvs b ≤ 100000 by omega))
        refine ⟨_, rfl, p, _, 0, _, rfl, rfl, hp, rfl, ?_⟩
        refine ⟨_, rfl, rfl, _, rfl, ?_⟩
        rw [decide_eq_false n2]
        refine iteF ⟨_, rfl, rfl, _, rfl, ?_⟩
        rw [decide_eq_false n1]
        refine iteF ⟨_, rfl, p, _, 1, _, rfl, rfl, hp, rfl, _, rfl, _, _, a, cs, fs, rfl, hy, hg, ho.2.1, hF, by omega, by omega, ?_⟩
        refine ⟨_, rfl, rfl, _, rfl, ?_⟩
        rw [decide_eq_false n3]
        refine iteF ⟨_, rfl, rfl, _, rfl, ?_⟩
        rw [decide_eq_false n4]
        refine iteF ⟨_, rfl, p, _, 2, _, rfl, rfl, hp, rfl, _, rfl, _, _, b, cs, fs, rfl, hz, hg, ho.2.2, hF, by omega, by omega, ?_⟩
        have q0 : Q (.int (op2 wd (ev fs a) (ev fs b))) H := q
        have hw := ho.1
        clear q n1 n2 n3 n4 ho hd hl
        generalize ev fs a = x at sa q0 ⊢
        generalize ev fs b = y at sb q0 ⊢
        have c : wd = 0 ∨ wd = 1 ∨ wd = 2 ∨ wd = 3 ∨ wd = 4 := by omega
        rcases c with rfl | rfl | rfl | rfl | rfl
        · exact ⟨_, rfl, rfl, _, rfl, iteT ⟨_, rfl, _, rfl, x, y, rfl, rfl, q0⟩⟩
        · exact ⟨_, rfl, rfl, _, rfl, iteF ⟨_, rfl, rfl, _, rfl, iteT ⟨_, rfl, _, rfl, x, y, rfl, rfl, q0⟩⟩⟩
        · exact ⟨_, rfl, rfl, _, rfl, iteF ⟨_, rfl, rfl, _, rfl, iteF ⟨_, rfl, rfl, _, rfl, iteT ⟨_, rfl, _, rfl, x, y, rfl, rfl, wide_mul sa sb (by decide) (by decide) (by decide), q0⟩⟩⟩⟩
        · refine ⟨_, rfl, rfl, _, rfl, iteF ⟨_, rfl, rfl, _, rfl, iteF ⟨_, rfl, rfl, _, rfl, iteF ⟨_, rfl, rfl, _, rfl, iteT ⟨_, rfl, _, rfl, rfl, _, rfl, ?_⟩⟩⟩⟩⟩
          have q' : Q (.int (if x = y then 1 else 0)) H := q0
          by_cases h : x = y
          · rw [if_pos h] at q'
            rw [h, decide_eq_true rfl]
            exact iteT q'
          · rw [if_neg h] at q'
            rw [decide_eq_false (fun e => h (V.int.inj e))]
            exact iteF q'
        · refine ⟨_, rfl, rfl, _, rfl, iteF ⟨_, rfl, rfl, _, rfl, iteF ⟨_, rfl, rfl, _, rfl, iteF ⟨_, rfl, rfl, _, rfl, iteF ⟨_, rfl, _, rfl, x, y, rfl, rfl, _, rfl, ?_⟩⟩⟩⟩⟩
          have q' : Q (.int (if x < y then 1 else 0)) H := q0
          by_cases h : x < y
          · rw [if_pos h] at q'
            rw [decide_eq_true h]
            exact iteT q'
          · rw [if_neg h] at q'
            rw [decide_eq_false h]
            exact iteF q'
      | rst a m =>
        obtain ⟨p, x, y, z, rfl, hp, hx, hy, hz⟩ := dp_3 he
        cases dp_str hx
        cases dp_int hz
        simp only [dep] at hd
        simp only [lvs] at hl
        refine ⟨_, rfl, p, _, 0, _, rfl, rfl, hp, rfl, ?_⟩
        refine ⟨_, rfl, rfl, _, rfl, iteF ⟨_, rfl, rfl, _, rfl, iteF ⟨_, rfl, p, _, 1, _, rfl, rfl, hp, rfl, _, rfl, _, _, a, cs, fs, rfl, hy, hg, ho.2.2, hF, by omega, by omega, ?_⟩⟩⟩
        refine ⟨_, rfl, rfl, _, rfl, iteT ⟨_, rfl, _, rfl, p, _, 2, _, rfl, rfl, hp, rfl, _, m, rfl, rfl, ?_, q⟩⟩
        have := ho.1
        show 0 < m
        omega
      | iff a b c =>
        obtain ⟨p, x, y, z, u, rfl, hp, hx, hy, hz, hu⟩ := dp_4 he
        cases dp_str hx
        simp only [dep] at hd
        simp only [lvs] at hl
        refine ⟨_, rfl, p, _, 0, _, rfl, rfl, hp, rfl, ?_⟩
        refine ⟨_, rfl, rfl, _, rfl, iteF ⟨_, rfl, rfl, _, rfl, iteF ⟨_, rfl, p, _, 1, _, rfl, rfl, hp, rfl, _, rfl, _, _, a, cs, fs, rfl, hy, hg, ho.1, hF, by omega, by omega, ?_⟩⟩⟩
        refine ⟨_, rfl, rfl, _, rfl, iteF ⟨_, rfl, rfl, _, rfl, iteT ⟨_, rfl, _, rfl, rfl, _, rfl, ?_⟩⟩⟩
        have q' : Q (.int (if ev fs a ≠ 0 then ev fs b else ev fs c)) H := q
        by_cases h : ev fs a = 0
        · rw [if_neg (by simpa using h)] at q'
          rw [decide_eq_true (congrArg V.int h)]
          exact iteF ⟨p, _, 3, _, rfl, rfl, hp, rfl, _, rfl, _, _, c, cs, fs, rfl, hu, hg, ho.2.2, hF, by omega, by omega, q'⟩
        · rw [if_pos h] at q'
          rw [decide_eq_false (fun e => h (V.int.inj e))]
          exact iteT ⟨p, _, 2, _, rfl, rfl, hp, rfl, _, rfl, _, _, b, cs, fs, rfl, hz, hg, ho.2.1, hF, by omega, by omega, q'⟩
end
end SfE

namespace SfE
open PySem PySem.Spec PyProof.Rows L2 SfG
inductive Bd where
  | ref
  | giv (es : List Ex)
  | whn (e : Ex) (a b : Bd)
def Bd.d : Bd → PyData
  | .ref => .tuple [.str "refuse"]
  | .giv es => .tuple [.str "give", .tuple (es.map Ex.d)]
  | .whn e a b => .tuple [.str "when", e.d, a.d, b.d]
def gv (fs : Fs) : Bd → Option (List Int)
  | .ref => none
  | .giv es => some (es.map (ev fs))
  | .whn e a b => if ev fs e ≠ 0 then gv fs a else gv fs b
/-- an E that is good, not too deep -/
def goE (cs : List Nat) (n : Nat) (e : Ex) : Prop := okE cs e ∧ dep e ≤ n ∧ lvs e ≤ 9
def okB (cs : List Nat) (n m : Nat) : Bd → Prop
  | .ref => True
  | .giv es => es.length = m ∧ ∀ e ∈ es, goE cs n e
  | .whn e a b => goE cs n e ∧ okB cs n m a ∧ okB cs n m b
def depB : Bd → Nat
  | .ref => 1
  | .giv _ => 1
  | .whn _ a b => 1 + max (depB a) (depB b)
theorem dpA_ex {K : PySem.W.Frag} {H : Hp} {xs : List V} {es : List Ex} (h : DpAll K H xs (es.map Ex.d)) {i : Nat} {x : V} (hx : xs[i]? = some x) : ∃ e, es[i]? = some e ∧ Dp K H x e.d := by
  have hl := dpA_len h
  rw [List.length_map] at hl
  have hi : i < xs.length := by
    rcases Nat.lt_or_ge i xs.length with h1 | h1
    · exact h1
    · rw [List.getElem?_eq_none h1] at hx
      cases hx
  have hi' : i < es.length := by omega
  obtain ⟨y, hy, hd⟩ := dpA_get (i := i) (d := (es[i]).d) h (by simp [hi'])
  rw [hx] at hy
  cases hy
  exact ⟨es[i], by simp [hi'], hd⟩
section
variable {P : Program} {w : World} {K : PySem.W.Frag} {mg : Str → Option Value} {base : Heap}
def spGiv (K : PySem.W.Frag) (n : Nat) : Sp := fun vs H Q _ => ∃ (b f : V) (B : Bd) (cs : List Nat) (fs : Fs) (m : Nat), vs = [b, f] ∧ Dp K H b B.d ∧ Dp K H f (fD fs) ∧ okB cs n m B ∧ m ≤ 100 ∧ Fit cs fs ∧
  (gv fs B = none → Q .non H) ∧ ∀ l H' p, gv fs B = some l → Gr H H' → H' p = some (.tup (l.map V.int)) → Q (.ref p) H'
/-- the Es that are given -/
def chs (fs : Fs) : Bd → Option (List Ex)
  | .ref => none
  | .giv es => some es
  | .whn e a b => if ev fs e ≠ 0 then chs fs a else chs fs b
theorem gv_chs (fs : Fs) : ∀ B, gv fs B = (chs fs B).map (List.map (ev fs))
  | .ref => rfl
  | .giv _ => rfl
  | .whn e a b => by
    simp only [gv, chs]
    split
    · exact gv_chs fs a
    · exact gv_chs fs b
def spCho (K : PySem.W.Frag) (n : Nat) : Sp := fun vs H Q _ => ∃ (b f : V) (B : Bd) (cs : List Nat) (fs : Fs) (m : Nat), vs = [b, f] ∧ Dp K H b B.d ∧ Dp K H f (fD fs) ∧ okB cs n m B ∧ Fit cs fs ∧
  (chs fs B = none → Q .non H) ∧ ∀ es p ys, chs fs B = some es → es.length = m → (∀ e ∈ es, goE cs n e) → SqT K H p ys → DpAll K H ys (es.map Ex.d) → Q (.ref p) H
theorem ok_cho {f fV : Addr} {fd fdV : FuncData} {n : Nat} (F : Fun K "chosen_by" "chosen_by" sCho f fd) (bV : Binds K fdV ["expression", "fields"] []) (gV : mg "value_of" = some (.ref fV)) (kV : PySem.W.keepIn K (.ref fV) = true)
    (GV : FnOk P w K mg base CX0 (n + 1) fV fdV ["expression", "fields"] (spVal K n)) : FnOk P w K mg base CX0 (n + 2) f fd ["body", "fields"] (spCho K n) := by
  refine F.ok scCho (fun vs H Q E h => ?_) (fun cdv A outer s H vs Q E hr h => ?_)
  · obtain ⟨b, g, B, cs, fs, m, rfl, _⟩ := h
    rfl
  · obtain ⟨b, g, B, cs, fs, m, rfl, hb, hg, ho, hF, q1, q2⟩ := h
    have nd := scCho.nd
    refine' ⟨_, pss_cons ?s1 (pss_one ?s2), ?rd⟩
    case s1 =>
      exact ps_while PassesOwn.never (pt_cmpR op_eq (pe_ix ix_tup (pv 0) pe_int (fun _ _ => rfl)) pe_str (nomark _))
        (pss_one (ps_set (i := 0) nd rfl (.inl rfl) (pe_ix ix_tup (pv 0) (pe_ifExp (pt_cmpR op_ne (pe_call GV hr (by rfl) gV kV bV .nil pass0 (pa_cons (pe_ix ix_tup (pv 0) pe_int (fun _ _ => rfl)) (pa_cons (pv 1) pa_nil))) pe_int (nomark _)) pe_int pe_int) (fun _ _ => rfl))))
    case s2 =>
      exact ps_ret (pe_ifExp (pt_cmpR op_eq (pe_ix ix_tup (pv 0) pe_int (fun _ _ => rfl)) pe_str (nomark _)) pe_non (pe_ix ix_tup (pv 0) pe_int (fun _ _ => rfl)))
    case rd =>
    refine ⟨fun d σ H1 => ∃ (b' : V) (B' : Bd), σ = [some b', some g] ∧ H1 = H ∧ Dp K H b' B'.d ∧ okB cs n m B' ∧ chs fs B' = chs fs B ∧ depB B' = d, ⟨depB B, b, B, rfl, rfl, hb, ho, rfl, rfl⟩, ?_⟩
    rintro d σ H1 ⟨b', B', rfl, rfl, hb', ho', eg, rfl⟩
    cases B' with
    | ref =>
      obtain ⟨p, x, rfl, hp, hx⟩ := dp_1 hb'
      cases dp_str hx
      refine ⟨_, rfl, p, _, 0, _, rfl, rfl, hp, rfl, rfl, _, rfl, iteF ?_⟩
      exact ⟨_, rfl, p, _, 0, _, rfl, rfl, hp, rfl, rfl, _, rfl, iteT (q1 eg.symm)⟩
    | whn e a c =>
      obtain ⟨p, x, y, z, u, rfl, hp, hx, hy, hz, hu⟩ := dp_4 hb'
      cases dp_str hx
      obtain ⟨⟨e1, e2, e3⟩, oa, oc⟩ := ho'
      refine ⟨_, rfl, p, _, 0, _, rfl, rfl, hp, rfl, rfl, _, rfl, iteT ⟨fun σ' H' => ∃ (b' : V) (B' : Bd), σ' = [some b', some g] ∧ H' = H1 ∧ Dp K H1 b' B'.d ∧ okB cs n m B' ∧ chs fs B' = chs fs B ∧ depB B' < depB (.whn e a c), ?_, ?_⟩⟩
      · rintro σ' H' ⟨b2, B2, h1, h2, h3, h4, h5, h6⟩
        exact ⟨depB B2, h6, b2, B2, h1, h2, h3, h4, h5, rfl⟩
      · refine ⟨_, rfl, _, rfl, p, _, 1, _, rfl, rfl, hp, rfl, _, rfl, _, _, e, cs, fs, rfl, hy, hg, e1, hF, e2, by omega, rfl, _, rfl, ?_⟩
        simp only [chs] at eg
        by_cases h : ev fs e = 0
        · rw [if_neg (by simpa using h)] at eg
          rw [decide_eq_true (congrArg V.int h)]
          exact iteF ⟨p, _, 3, _, rfl, rfl, hp, rfl, u, c, rfl, rfl, hu, oc, eg, by simp only [depB]; omega⟩
        · rw [if_pos h] at eg
          rw [decide_eq_false (fun e => h (V.int.inj e))]
          exact iteT ⟨p, _, 2, _, rfl, rfl, hp, rfl, z, a, rfl, rfl, hz, oa, eg, by simp only [depB]; omega⟩
    | giv es =>
      obtain ⟨p, x, y, rfl, hp, hx, hy⟩ := dp_2 hb'
      cases dp_str hx
      obtain ⟨py, ys, rfl, hpy, hys⟩ := dp_tup hy
      refine ⟨_, rfl, p, _, 0, _, rfl, rfl, hp, rfl, rfl, _, rfl, iteF ?_⟩
      exact ⟨_, rfl, p, _, 0, _, rfl, rfl, hp, rfl, rfl, _, rfl, iteF ⟨_, rfl, p, _, 1, _, rfl, rfl, hp, rfl, q2 es py ys (eg.symm.trans rfl) ho'.1 ho'.2 hpy hys⟩⟩
theorem ok_giv {f fV fC : Addr} {fd fdV fdC : FuncData} {n : Nat} (F : Fun K "given_by" "given_by" sGiv f fd) (bV : Binds K fdV ["expression", "fields"] []) (gV : mg "value_of" = some (.ref fV)) (kV : PySem.W.keepIn K (.ref fV) = true)
    (GV : FnOk P w K mg base CX0 (n + 1) fV fdV ["expression", "fields"] (spVal K n)) (HC : Has P w K mg base (n + 2) "chosen_by" ["body", "fields"] (spCho K n) fC fdC) (mt : mg "tuple" = none) : FnOk P w K mg base CX0 (n + 3) f fd ["body", "fields"] (spGiv K n) := by
  refine F.ok scGiv (fun vs H Q E h => ?_) (fun cdv A outer s H vs Q E hr h => ?_)
  · obtain ⟨b, g, B, cs, fs, m, rfl, _⟩ := h
    rfl
  · obtain ⟨b, g, B, cs, fs, m, rfl, hb, hg, ho, hm, hF, q1, q2⟩ := h
    have nd := scGiv.nd
    have hr1 := hr.mono (show n + 1 ≤ n + 2 by omega)
    refine' ⟨_, pss_cons ?s1 (pss_cons ?s2 (pss_one ?s3)), ?rd⟩
    case s1 =>
      exact ps_set (i := 2) nd rfl (.inl rfl) (hcall HC hr (pa_cons (pv 0) (pa_cons (pv 1) pa_nil)))
    case s2 =>
      exact ps_if (pt_cmpR op_isN (pv 2) pe_non (nomark _)) (pss_one (ps_ret pe_non)) pss_nil
    case s3 =>
      exact ps_ret (pe_callTy call_tuple_of (by rfl) mt (by decide +kernel) (pa_cons (pe_lc (own := [("expression", 3)]) (g := gName 3) rfl nd (pi_tup (pv 2))
        (blkOk_by (own := [("expression", 3)]) (N := nGiv) (sc := defScope sGiv) (by decide +kernel)) (fun _ _ _ _ _ => pg_name (i := 3) nd rfl (Or.inl rfl)) (fun _ _ _ _ _ => pts_nil)
        (fun _ _ _ _ _ => pe_call GV hr1 (by rfl) gV kV bV .nil pass0 (pa_cons (pv 3) (pa_cons (pv 1) pa_nil)))) pa_nil))
    case rd =>
    refine ⟨_, rfl, _, rfl, b, g, B, cs, fs, m, rfl, hb, hg, ho, hF, fun hn => ?_, fun es py ys he hlen hgo hpy hys => ?_⟩
    · refine ⟨_, rfl, rfl, _, rfl, iteT (q1 ?_)⟩
      rw [gv_chs, hn]
      rfl
    · refine ⟨_, rfl, rfl, _, rfl, iteF ?_⟩
      have eg : gv fs B = some (es.map (ev fs)) := by
        rw [gv_chs, he]
        rfl
      have hly : ys.length = es.length := by
        have := dpA_len hys
        rw [List.length_map] at this
        exact this
      refine ⟨_, rfl, py, rfl, ⟨_, hpy⟩, fun D nD => ?_⟩
      have gD : ∀ o, Gr H (upd H D o) := fun o => Gr.new nD
      refine lc_it (walk_tup (xs := ys)) (fun i H2 => H2 = upd H D (.lst ((es.take i).map fun e => V.int (ev fs e)))) rfl ?c0 ?c1 ?c2
      case c0 =>
        rintro i H2 hi rfl
        exact (gD _).sqt hpy
      case c1 =>
        rintro i x H2 H2' hi rfl ⟨rfl, hx⟩
        refine ⟨rfl, ?_⟩
        unfold tYes
        refine iteT ?_
        obtain ⟨e, he, de⟩ := dpA_ex hys hx
        obtain ⟨e1, e2, e3⟩ := hgo e (List.mem_of_getElem? he)
        refine ⟨_, rfl, _, rfl, _, _, e, cs, fs, rfl, (gD _).kd.dp de, (gD _).kd.dp hg, e1, hF, e2, by omega, _, upd_same, ?_, ?_⟩
        · rw [List.length_map, List.length_take]
          exact small1000 (by omega)
        · rw [upd_upd, List.take_add_one, he, List.map_append]
          rfl
      case c2 =>
        rintro H2 rfl
        refine ⟨D, _, rfl, .inl ⟨.inl (.inl upd_same), fun t nt => ?_⟩⟩
        refine q2 (es.map (ev fs)) _ t eg ((gD _).trans (Gr.new nt)) ?_
        rw [upd_same, hly, List.take_length, List.map_map]
        rfl
end
end SfE

namespace SfE
open PySem PySem.Spec PyProof.Rows L2 SfG
abbrev sBeg : Stmt := topS 5
abbrev sPick : Stmt := topS 6
abbrev sAmg : Stmt := topS 7
theorem scBeg : FnScope ["_law_script", "_law_k", "_law_cell", "_law_mixed"] ["_law_script", "_law_k"] (defScope sBeg) := ⟨rfl, rfl, rfl, by decide +kernel, rfl, by decide +kernel, by decide +kernel⟩
theorem scPick : FnScope ["_law_state", "_law_many", "_law_digits", "_law_number"] ["_law_state", "_law_many"] (defScope sPick) := ⟨rfl, rfl, rfl, by decide +kernel, rfl, by decide +kernel, by decide +kernel⟩
theorem scAmg : FnScope ["_law_thing", "_law_least", "_law_most"] ["_law_thing", "_law_least", "_law_most"] (defScope sAmg) := ⟨rfl, rfl, rfl, by decide +kernel, rfl, by decide +kernel, by decide +kernel⟩
abbrev kDig : Key := Sum.inr ("digits" : Str)
abbrev kNum : Key := Sum.inr ("number" : Str)
def kv2 (d n : Int) : List (Key × V) := [(kDig, .int d), (kNum, .int n)]
def Drw (H : Hp) (p : Addr) : Prop := ∃ d n, H p = some (.dK (kv2 d n)) ∧ 0 ≤ d ∧ 0 ≤ n ∧ n < 2147483647
theorem get_dig {H : Hp} {p : Addr} {d n : Int} (h : H p = some (.dK (kv2 d n))) : DGet H p (.str "digits") (some (.int d)) := DGet.k (k := kDig) h
theorem get_num {H : Hp} {p : Addr} {d n : Int} (h : H p = some (.dK (kv2 d n))) : DGet H p (.str "number") (some (.int n)) := DGet.k (k := kNum) h
theorem set_dig {H : Hp} {p : Addr} {d n d' : Int} (h : H p = some (.dK (kv2 d n))) : DPut H p (.str "digits") (.int d') (upd H p (.dK (kv2 d' n))) := DPut.k (k := kDig) h (by show 2 < sizeLine; decide)
theorem set_num {H : Hp} {p : Addr} {d n n' : Int} (h : H p = some (.dK (kv2 d n))) : DPut H p (.str "number") (.int n') (upd H p (.dK (kv2 d n'))) := DPut.k (k := kNum) h (by show 2 < sizeLine; decide)
theorem Drw.gr {H H' : Hp} {p : Addr} (d : Drw H p) (g : Gr H H') : Drw H' p := by
  obtain ⟨x, y, h, r⟩ := d
  exact ⟨x, y, g.dic h, r⟩
theorem Drw.ne {H : Hp} {p q : Addr} (d : Drw H p) (h : H q = none) : q ≠ p := by
  obtain ⟨x, y, e, _⟩ := d
  intro z
  rw [z, e] at h
  cases h
theorem Drw.new {H : Hp} {p q : Addr} {o : HO} (d : Drw H p) (h : H q = none) : Drw (upd H q o) p := d.gr (Gr.new h)
theorem Drw.upd {H : Hp} {p q : Addr} {o : HO} (d : Drw H p) (h : q ≠ p) : Drw (upd H q o) p := by
  obtain ⟨x, y, e, r⟩ := d
  exact ⟨x, y, (upd_ne (Ne.symm h)).trans e, r⟩
theorem Drw.kd {K : PySem.W.Frag} {H H' : Hp} {p : Addr} (d : Drw H p) (g : Gp p H H') : Kd K H H' := by
  obtain ⟨x, y, e, _⟩ := d
  exact g.kd e
theorem gr_new2 {H : Hp} {p : Addr} {o o' : HO} (h : H p = none) : Gr H (upd (upd H p o) p o') := by
  refine Gr.same ?_
  intro b x e
  have n : b ≠ p := ne_of_none e h
  rw [upd_ne n, upd_ne n]
  exact e
section
variable {P : Program} {w : World} {K : PySem.W.Frag} {mg : Str → Option Value} {base : Heap}
def spBeg (K : PySem.W.Frag) : Sp := fun vs H Q _ => ∃ (a : Addr) (ns : List Int) (k : Nat), vs = [.ref a, .int k] ∧ SqL K H a (ns.map V.int) ∧ k ≤ 1000 ∧ ∀ H' p, H p = none → Gr H H' → Drw H' p → Q (.ref p) H'
theorem ok_beg {f : Addr} {fd : FuncData} {k : Nat} (F : Fun K "_law_begun" "_law_begun" sBeg f fd) (ml : mg "len" = none) (ma : mg "abs" = none) : FnOk P w K mg base CX0 (k + 1) f fd ["_law_script", "_law_k"] (spBeg K) := by
  refine F.ok scBeg (fun vs H Q E h => ?_) (fun cdv A outer s H vs Q E hr h => ?_)
  · obtain ⟨a, ns, k, rfl, _⟩ := h
    rfl
  · obtain ⟨a, ns, k, rfl, hS, hk, q⟩ := h
    have nd := scBeg.nd
    refine' ⟨_, pss_cons ?s1 (pss_cons ?s2 (pss_cons ?s3 (pss_one ?s4))), ?rd⟩
    case s1 =>
      exact ps_set (i := 2) nd rfl (.inl rfl) (pe_ifExp (pt_chain op_le op_lt pe_int (pv 1) (pe_callB call_len_seq (by rfl) ml PySem.boot_len (pa_cons (pv 0) pa_nil))) (pe_ix ix_list (pv 0) (pv 1) (fun _ _ => rfl)) pe_int)
    case s2 =>
      exact ps_set (i := 3) nd rfl (.inl rfl) (pe_op op_add (pe_op op_add (pe_op op_mod (pv 2) pe_int) (pe_op op_mul pe_int (pv 1))) pe_int)
    case s3 =>
      exact ps_set (i := 3) nd rfl (.inl rfl) (pe_op op_mod (pe_op op_mul (pe_op op_mod (pe_op op_mul (pv 3) (pv 3)) pe_int) pe_int) pe_int)
    case s4 =>
      exact ps_ret (pe_disp (pps_cons pe_str (pe_ifExp (pt_cmpR op_ge (pe_callB call_abs (by rfl) ma (by decide +kernel) (pa_cons (pv 2) pa_nil)) (pe_op op_pow pe_int pe_int) (nomark _))
          (pe_op op_mod (pe_callB call_abs (by rfl) ma (by decide +kernel) (pa_cons (pv 2) pa_nil)) (pe_op op_mulW (pe_op op_pow pe_int pe_int) (pe_op op_pow pe_int pe_int))) pe_int)
        (pps_cons pe_str (pv 3) pps_nil)) (by rfl) (by rfl) (fun z => by cases z) (by decide))
    case rd =>
    have tail : ∀ c : Int, tSeq (tAsg (tOp (rI0 fun i j => .int (i + j)) (tOp (rI0 fun i j => .int (i + j)) (tOp (rI (fun _ j => 0 < j) fun i j => .int (i % j)) (tVar 2) (tC (.int 1000000007))) (tOp (rI CMul fun i j => .int (i * j)) (tC (.int 7919)) (tVar 1))) (tC (.int 13))) (gName 3))
        (tSeq (tAsg (tOp (rI (fun _ j => 0 < j) fun i j => .int (i % j)) (tOp (rI CMul fun i j => .int (i * j)) (tOp (rI (fun _ j => 0 < j) fun i j => .int (i % j)) (tOp (rI CMul fun i j => .int (i * j)) (tVar 3) (tVar 3)) (tC (.int 2147483629))) (tC (.int 48271))) (tC (.int 2147483647))) (gName 3))
        (tRet (tDisp [(tC (.str "digits"), tIf (tTest (tOp (rI0 fun i j => .bl (decide (i ≥ j))) (tCB (fun xs H Q => ∃ i, xs = [.int i] ∧ Q (.int (if i < 0 then -i else i)) H) (tCons (tVar 2) tNil)) (tOp (rI CPow fun i j => .int (i ^ j.toNat)) (tC (.int 10)) (tC (.int 18)))))
            (tOp (rI (fun _ j => 0 < j) fun i j => .int (i % j)) (tCB (fun xs H Q => ∃ i, xs = [.int i] ∧ Q (.int (if i < 0 then -i else i)) H) (tCons (tVar 2) tNil)) (tOp (rI CMulW fun i j => .int (i * j)) (tOp (rI CPow fun i j => .int (i ^ j.toNat)) (tC (.int 10)) (tC (.int 60))) (tOp (rI CPow fun i j => .int (i ^ j.toNat)) (tC (.int 10)) (tC (.int 60))))) (tC (.int 0))),
          (tC (.str "number"), tVar 3)])))
        { nx := fun _ H' => Q .non H', rt := Q } [some (.ref a), some (.int k), some (.int c), none] H := by
      intro c
      refine ⟨_, rfl, c, 1000000007, rfl, rfl, (by show (0 : Int) < 1000000007; decide), _, rfl, 7919, k, rfl, rfl, .inl ⟨by decide, by decide⟩, _, _, rfl, rfl, _, _, rfl, rfl, ?_⟩
      refine ⟨_, rfl, _, rfl, _, _, rfl, rfl, .inl ⟨?_, ?_⟩, _, 2147483629, rfl, rfl, (by show (0 : Int) < 2147483629; decide), _, 48271, rfl, rfl, .inr ⟨by decide, by decide⟩, _, 2147483647, rfl, rfl, (by show (0 : Int) < 2147483647; decide), ?_⟩
      · have : (-(2 ^ 64) : Int) = -18446744073709551616 := by decide
        rw [this]
        omega
      · have : ((2 ^ 64) : Int) = 18446744073709551616 := by decide
        rw [this]
        omega
      have m0 := Int.emod_nonneg ((c % 1000000007 + 7919 * (k : Int) + 13) * (c % 1000000007 + 7919 * (k : Int) + 13) % 2147483629 * 48271) (show (2147483647 : Int) ≠ 0 by decide)
      have m1 := Int.emod_lt_of_pos ((c % 1000000007 + 7919 * (k : Int) + 13) * (c % 1000000007 + 7919 * (k : Int) + 13) % 2147483629 * 48271) (show (0 : Int) < 2147483647 by decide)
      change gName 3 (V.int ((c % 1000000007 + 7919 * (k : Int) + 13) * (c % 1000000007 + 7919 * (k : Int) + 13) % 2147483629 * 48271 % 2147483647)) _ _ _
      generalize (c % 1000000007 + 7919 * (k : Int) + 13) * (c % 1000000007 + 7919 * (k : Int) + 13) % 2147483629 * 48271 % 2147483647 = m at m0 m1 ⊢
      intro p np
      have fin : ∀ d : Int, 0 ≤ d → Q (.ref p) (upd (upd H p (.dK [])) p (.dK (mergeK [] (kv2 d m)))) := by
        intro d hd
        refine q _ p np (gr_new2 np) ⟨d, m, ?_, hd, m0, m1⟩
        rw [upd_same]
        rfl
      refine ⟨_, rfl, c, rfl, 10, 18, rfl, rfl, ⟨by decide, by decide, by decide⟩, _, _, rfl, rfl, _, rfl, ite2 (fun e => ?_) (fun e => ?_)⟩
      · refine ⟨_, rfl, c, rfl, 10, 60, rfl, rfl, ⟨by decide, by decide, by decide⟩, 10, 60, rfl, rfl, ⟨by decide, by decide, by decide⟩, _, _, rfl, rfl, wide_mul (a := 300) (b := 300) (by decide) (by decide) (by decide) (by decide) (by decide), _, _, rfl, rfl, ?_, _, rfl, upd_same, kv2 _ m, rfl, by show 2 ≤ 15; decide, fin _ ?_⟩
        · show (0 : Int) < 10 ^ (60 : Int).toNat * 10 ^ (60 : Int).toNat
          decide
        · exact Int.emod_nonneg _ (by decide)
      · exact ⟨_, rfl, upd_same, kv2 0 m, rfl, by show 2 ≤ 15; decide, fin 0 (by decide)⟩
    refine ⟨_, rfl, 0, k, rfl, rfl, _, rfl, ?_⟩
    have k0 : decide ((0 : Int) ≤ (k : Int)) = true := decide_eq_true (by omega)
    rw [k0]
    refine iteT ⟨_, rfl, a, _, rfl, .inl hS, k, _, rfl, rfl, _, rfl, ite2 (fun e => ?_) (fun e => ?_)⟩
    · have e' : (k : Int) < ((ns.map V.int).length : Int) := of_decide_eq_true e
      have hk' : k < ns.length := by
        rw [List.length_map] at e'
        omega
      refine ⟨_, rfl, _, rfl, a, _, k, .int ns[k], rfl, rfl, hS, atI_nat (j := k) (by simp [hk']), ?_⟩
      exact tail ns[k]
    · exact tail 5
def spPick : Sp := fun vs H Q _ => ∃ (p : Addr) (m : Int), vs = [.ref p, .int m] ∧ Drw H p ∧ 0 < m ∧ m ≤ 1000000 ∧ ∀ H' d, But p H H' → Drw H' p → 0 ≤ d → d < m → Q (.int d) H'
theorem ok_pick {f : Addr} {fd : FuncData} {k : Nat} (F : Fun K "_law_pick" "_law_pick" sPick f fd) : FnOk P w K mg base CX0 (k + 1) f fd ["_law_state", "_law_many"] spPick := by
  refine F.ok scPick (fun vs H Q E h => ?_) (fun cdv A outer s H vs Q E hr h => ?_)
  · obtain ⟨p, m, rfl, _⟩ := h
    rfl
  · obtain ⟨p, m, rfl, ⟨d, n, hp, hd, hn, hn2⟩, hm0, hm1, q⟩ := h
    have nd := scPick.nd
    refine' ⟨_, pss_cons ?s1 (pss_cons ?s2 (pss_cons ?s3 (pss_cons ?s4 (pss_one ?s5)))), ?rd⟩
    case s1 =>
      exact ps_set (i := 2) nd rfl (.inl rfl) (pe_dget (hu_of hr) (pv 0) pe_str (fun _ _ => rfl))
    case s2 =>
      exact ps_if (pt_cmpR op_gt (pv 2) pe_int (nomark _)) (pss_cons (ps_dput (hu_of hr) (pv 0) pe_str (pe_op op_fdiv (pv 2) (pv 1)) rfl) (pss_one (ps_ret (pe_op op_mod (pv 2) (pv 1))))) pss_nil
    case s3 =>
      exact ps_set (i := 3) nd rfl (.inl rfl) (pe_op op_mod (pe_op op_add (pe_op op_mul (pe_dget (hu_of hr) (pv 0) pe_str (fun _ _ => rfl)) pe_int) pe_int) pe_int)
    case s4 =>
      exact ps_dput (hu_of hr) (pv 0) pe_str (pv 3) rfl
    case s5 =>
      exact ps_ret (pe_op op_mod (pe_op op_fdiv (pe_op op_mod (pe_op op_mul (pv 3) (pe_op op_add (pv 3) pe_int)) pe_int) pe_int) (pv 1))
    case rd =>
    refine ⟨_, rfl, p, _, rfl, get_dig hp, ?_⟩
    refine ⟨_, rfl, d, 0, rfl, rfl, _, rfl, ite2 (fun e => ?_) (fun e => ?_)⟩
    · refine ⟨_, rfl, _, rfl, d, m, rfl, rfl, ⟨hm0, by omega⟩, _, rfl, p, _, rfl, set_dig hp, ?_⟩
      refine ⟨_, rfl, _, rfl, d, m, rfl, rfl, hm0, q _ _ (But.upd fun _ _ => rfl) ⟨d / m, n, upd_same, Int.ediv_nonneg hd (by omega), hn, hn2⟩ (Int.emod_nonneg _ (by omega)) (Int.emod_lt_of_pos _ hm0)⟩
    · refine ⟨_, rfl, p, _, rfl, get_num hp, n, 48271, rfl, rfl, .inr ⟨by decide, by decide⟩, _, 11, rfl, rfl, _, 2147483647, rfl, rfl, (by show (0 : Int) < 2147483647; decide), ?_⟩
      have m0 := Int.emod_nonneg (n * 48271 + 11) (show (2147483647 : Int) ≠ 0 by decide)
      have m1 := Int.emod_lt_of_pos (n * 48271 + 11) (show (0 : Int) < 2147483647 by decide)
      change gName 3 (V.int ((n * 48271 + 11) % 2147483647)) _ _ _
      generalize (n * 48271 + 11) % 2147483647 = r at m0 m1 ⊢
      refine ⟨_, rfl, _, rfl, p, _, rfl, set_num hp, ?_⟩
      refine ⟨_, rfl, _, rfl, r, 7919, rfl, rfl, r, _, rfl, rfl, .inl ⟨?_, ?_⟩, _, 2147483629, rfl, rfl, (by show (0 : Int) < 2147483629; decide), _, 7, rfl, rfl, ⟨by decide, by decide⟩, _, rfl, _, m, rfl, rfl, hm0, q _ _ (But.upd fun _ _ => rfl) ⟨d, r, upd_same, hd, m0, m1⟩ (Int.emod_nonneg _ (by omega)) (Int.emod_lt_of_pos _ hm0)⟩
      · have : (-(2 ^ 64) : Int) = -18446744073709551616 := by decide
        rw [this]
        omega
      · have : ((2 ^ 64) : Int) = 18446744073709551616 := by decide
        rw [this]
        omega
def spAmg : Sp := fun vs H Q _ => ∃ i lo hi : Int, vs = [.int i, .int lo, .int hi] ∧ Q (.bl (decide (lo ≤ i) && decide (i ≤ hi))) H
theorem ok_amg {f : Addr} {fd : FuncData} {k : Nat} (F : Fun K "_law_among" "_law_among" sAmg f fd) (mi : mg "isinstance" = none) (m1 : mg "int" = none) (m2 : mg "bool" = none) :
    FnOk P w K mg base CX0 (k + 1) f fd ["_law_thing", "_law_least", "_law_most"] spAmg := by
  refine F.ok scAmg (fun vs H Q E h => ?_) (fun cdv A outer s H vs Q E hr h => ?_)
  · obtain ⟨i, lo, hi, rfl, _⟩ := h
    rfl
  · obtain ⟨i, lo, hi, rfl, q⟩ := h
    refine ⟨_, pss_one (ps_ret (pe_and (pe_isi "int" 0 mi m1 (by decide +kernel)) (pe_and (pe_not (pe_isi "bool" 0 mi m2 (by decide +kernel))) (pe_one (pe_chain op_le op_le (pv 1) (pv 0) (pv 2)))))), ?_⟩
    refine ⟨_, rfl, "int", true, .base (.int i), by decide +kernel, _, rfl, iteT ⟨_, rfl, "int", false, .base (.int i), by decide +kernel, _, rfl, _, rfl, iteT ?_⟩⟩
    refine ⟨_, rfl, _, rfl, lo, i, rfl, rfl, _, rfl, ?_⟩
    cases h1 : decide (lo ≤ i) with
    | true =>
      rw [h1] at q
      exact iteT ⟨_, rfl, i, hi, rfl, rfl, q⟩
    | false =>
      rw [h1] at q
      exact iteF q
end
end SfE

namespace SfE
open PySem PySem.Spec PyProof.Rows L2 SfG
abbrev sLook : Stmt := topS 8
abbrev nLook : List Str := ["_law_thing", "_law_counts", "_law_many", "_law_word", "_law_more", "_law_inner", "_law_sizes", "_law_found", "_law_one", "_law_kind"]
theorem scLook : FnScope nLook ["_law_thing", "_law_counts", "_law_many"] (defScope sLook) := ⟨rfl, rfl, rfl, by decide +kernel, rfl, by decide +kernel, by decide +kernel⟩
def cD (cs : List Nat) : PyData := .tuple (cs.map fun (c : Nat) => PyData.int (c : Int))
/-- an E or a body -/
inductive Nd where
  | e (E : Ex)
  | b (B : Bd)
def Nd.d : Nd → PyData
  | .e E => E.d
  | .b B => B.d
def Nd.kind (m : Nat) : Nd → V
  | .e _ => .non
  | .b _ => .int m
def Nd.ok (cs : List Nat) (n m : Nat) : Nd → Prop
  | .e E => okE cs E ∧ dep E ≤ n
  | .b B => okB cs n m B
def Nd.ms (n : Nat) : Nd → Nat
  | .e E => dep E
  | .b B => n + depB B
theorem dep_pos (e : Ex) : 1 ≤ dep e := by cases e <;> simp only [dep] <;> omega
theorem depB_pos (e : Bd) : 1 ≤ depB e := by cases e <;> simp only [depB] <;> omega
theorem ms_pos (n : Nat) : ∀ x : Nd, 1 ≤ x.ms n
  | .e E => dep_pos E
  | .b B => by have := depB_pos B; simp only [Nd.ms]; omega
/-! ### these are plain data -/
theorem opw_ok (w : Nat) : PyData.strOk (opw w) = true := by unfold opw; split <;> decide +kernel
theorem ex_lay : ∀ e : Ex, e.d.canLay0 = true
  | .num n => by simp only [Ex.d, PyData.canLay0, PyData.canLayAll0]; decide +kernel
  | .inp k f => by simp only [Ex.d, PyData.canLay0, PyData.canLayAll0]; decide +kernel
  | .bin w a b => by simp only [Ex.d, PyData.canLay0, PyData.canLayAll0, ex_lay a, ex_lay b, opw_ok]; rfl
  | .rst a n => by simp only [Ex.d, PyData.canLay0, PyData.canLayAll0, ex_lay a]; decide +kernel
  | .iff a b c => by simp only [Ex.d, PyData.canLay0, PyData.canLayAll0, ex_lay a, ex_lay b, ex_lay c]; decide +kernel
theorem ex_deep : ∀ e : Ex, e.d.depth ≤ dep e + 1
  | .num n => by simp only [Ex.d, PyData.depth, PyData.depthAll, dep]; omega
  | .inp k f => by simp only [Ex.d, PyData.depth, PyData.depthAll, dep]; omega
  | .bin w a b => by have := ex_deep a; have := ex_deep b; simp only [Ex.d, PyData.depth, PyData.depthAll, dep]; omega
  | .rst a n => by have := ex_deep a; simp only [Ex.d, PyData.depth, PyData.depthAll, dep]; omega
  | .iff a b c => by have := ex_deep a; have := ex_deep b; have := ex_deep c; simp only [Ex.d, PyData.depth, PyData.depthAll, dep]; omega
theorem exs_lay : ∀ es : List Ex, PyData.canLayAll0 (es.map Ex.d) = true
  | [] => rfl
  | a :: r => by simp only [List.map_cons, PyData.canLayAll0, ex_lay a, exs_lay r]; rfl
theorem exs_deep {n : Nat} : ∀ es : List Ex, (∀ e ∈ es, dep e ≤ n) → PyData.depthAll (es.map Ex.d) ≤ n + 1
  | [], _ => by simp [PyData.depthAll]
  | a :: r, h => by
    have h1 := ex_deep a
    have h2 := h a List.mem_cons_self
    have h3 := exs_deep r fun e he => h e (List.mem_cons_of_mem _ he)
    simp only [List.map_cons, PyData.depthAll]
    omega
theorem bd_lay : ∀ b : Bd, b.d.canLay0 = true
  | .ref => by simp only [Bd.d, PyData.canLay0, PyData.canLayAll0]; decide +kernel
  | .giv es => by simp only [Bd.d, PyData.canLay0, PyData.canLayAll0, exs_lay es]; decide +kernel
  | .whn e a b => by simp only [Bd.d, PyData.canLay0, PyData.canLayAll0, ex_lay e, bd_lay a, bd_lay b]; decide +kernel
theorem bd_deep {cs : List Nat} {n m : Nat} : ∀ b : Bd, okB cs n m b → b.d.depth ≤ depB b + n + 3
  | .ref, _ => by simp only [Bd.d, PyData.depth, PyData.depthAll, depB]; omega
  | .giv es, h => by
    have := exs_deep es fun e he => (h.2 e he).2.1
    simp only [Bd.d, PyData.depth, PyData.depthAll, depB]
    omega
  | .whn e a b, h => by
    have h1 := ex_deep e
    have h2 := h.1.2.1
    have h3 := bd_deep a h.2.1
    have h4 := bd_deep b h.2.2
    simp only [Bd.d, PyData.depth, PyData.depthAll, depB]
    omega
theorem ex_shape {e : Ex} (h : dep e ≤ 60) : SeqAt.shaped e.d = true := by
  unfold SeqAt.shaped
  have := ex_deep e
  rw [ex_lay e, decide_eq_true (show e.d.depth ≤ 64 by omega)]
  rfl
theorem bd_shape {cs : List Nat} {n m : Nat} {b : Bd} (h : okB cs n m b) (hd : depB b + n ≤ 60) : SeqAt.shaped b.d = true := by
  unfold SeqAt.shaped
  have := bd_deep b h
  rw [bd_lay b, decide_eq_true (show b.d.depth ≤ 64 by omega)]
  rfl
theorem tyx_sqt {K : PySem.W.Frag} {H : Hp} {p : Addr} {xs : List V} (h : SqT K H p xs) : TyX K H (.ref p) (.type "tuple") := by
  rcases h with (h | ⟨o, h⟩) | ⟨o, its, n, h1, h2, _⟩
  · exact .base (.tup h)
  · exact .fTuple h
  · exact .kTuple h1 h2
/-- the pairs that are looked at next -/
def Nexts (K : PySem.W.Frag) (cs : List Nat) (n m q : Nat) (H : Hp) (ps : List V) : Prop :=
  ∀ (i : Nat) (x : V), ps[i]? = some x → ∃ (t : Addr) (c : V) (nd : Nd), x = .ref t ∧ SqT K H t [c, nd.kind m] ∧ Dp K H c nd.d ∧ nd.ok cs n m ∧ nd.ms n ≤ q
def two (ab : Int × Int) : PyData := .tuple [.int ab.1, .int ab.2]
theorem twos_shape (l : List (Int × Int)) : SeqAt.shaped (.list (l.map two)) = true := by
  have h1 : PyData.canLayAll0 (l.map two) = true := by
    induction l with
    | nil => rfl
    | cons a r ih => simp only [List.map_cons, PyData.canLayAll0, two, PyData.canLay0, ih]; rfl
  have h2 : PyData.depthAll (l.map two) ≤ 2 := by
    induction l with
    | nil => simp [PyData.depthAll]
    | cons a r ih =>
      have := ih (by
        simp only [List.map_cons, PyData.canLayAll0] at h1
        exact (Bool.and_eq_true_iff.mp h1).2)
      simp only [List.map_cons, PyData.depthAll, two, PyData.depth]
      omega
  unfold SeqAt.shaped
  rw [PyData.canLay0, h1]
  refine decide_eq_true ?_
  rw [PyData.depth]
  omega
theorem twos_none (l : List (Int × Int)) : ((l.map two).any fun z => PyData.eqv z .none) = false := by
  rw [List.any_map]
  exact List.any_eq_false.mpr fun x _ => by simp [two, PyData.eqv]
/-- pairs of numbers, told so far -/
def TwoAt (H : Hp) (rs : List V) (abs : List (Int × Int)) : Prop := rs.length = abs.length ∧ ∀ (j : Nat) (ab : Int × Int), abs[j]? = some ab → ∃ p, rs[j]? = some (.ref p) ∧ H p = some (.tup [.int ab.1, .int ab.2])
theorem TwoAt.gr {H H' : Hp} {rs : List V} {abs : List (Int × Int)} (h : TwoAt H rs abs) (g : Gr H H') : TwoAt H' rs abs := ⟨h.1, fun j ab e => by
  obtain ⟨p, h1, h2⟩ := h.2 j ab e
  exact ⟨p, h1, g.tup h2⟩⟩
theorem TwoAt.upd {H : Hp} {D : Addr} {l : List V} {o : HO} {rs : List V} {abs : List (Int × Int)} (h : TwoAt H rs abs) (hD : H D = some (.lst l)) : TwoAt (upd H D o) rs abs := ⟨h.1, fun j ab e => by
  obtain ⟨p, h1, h2⟩ := h.2 j ab e
  refine ⟨p, h1, (upd_ne fun z => ?_).trans h2⟩
  rw [z, hD] at h2
  cases h2⟩
theorem TwoAt.snoc {H : Hp} {rs : List V} {abs : List (Int × Int)} {p : Addr} {a b : Int} (h : TwoAt H rs abs) (hp : H p = some (.tup [.int a, .int b])) : TwoAt H (rs ++ [.ref p]) (abs ++ [(a, b)]) := by
  refine ⟨by rw [List.length_append, List.length_append, h.1]; rfl, fun j ab e => ?_⟩
  by_cases hj : j < abs.length
  · rw [List.getElem?_append_left hj] at e
    obtain ⟨p', h1, h2⟩ := h.2 j ab e
    exact ⟨p', by rw [List.getElem?_append_left (by rw [h.1]; exact hj)]; exact h1, h2⟩
  · rw [List.getElem?_append_right (by omega)] at e
    have hj0 : j - abs.length = 0 := by
      rcases Nat.eq_zero_or_pos (j - abs.length) with z | z
      · exact z
      · rw [List.getElem?_eq_none (by show 1 ≤ _; exact z)] at e
        cases e
    rw [hj0] at e
    have e' : (a, b) = ab := Option.some.inj e
    refine ⟨p, ?_, by rw [← e']; exact hp⟩
    rw [List.getElem?_append_right (by rw [h.1]; omega), h.1, hj0]
    rfl
theorem TwoAt.dp {K : PySem.W.Frag} {H : Hp} : ∀ {rs : List V} {abs : List (Int × Int)}, TwoAt H rs abs → DpAll K H rs (abs.map two)
  | [], [], _ => .nil
  | [], _ :: _, h => absurd h.1 (by simp)
  | _ :: _, [], h => absurd h.1 (by simp)
  | r :: rs, ab :: abs, h => by
    obtain ⟨p, h1, h2⟩ := h.2 0 ab rfl
    have e : r = .ref p := Option.some.inj h1
    rw [e]
    refine .cons (.tup (.inl (.inl h2)) (.cons (.int _) (.cons (.int _) .nil))) (TwoAt.dp ⟨by simpa using h.1, fun j ab' e' => h.2 (j + 1) ab' e'⟩)
theorem TwoAt.at {H : Hp} {rs : List V} {abs : List (Int × Int)} (h : TwoAt H rs abs) {i : Nat} {x : V} (hx : rs[i]? = some x) : ∃ ab p, abs[i]? = some ab ∧ x = .ref p ∧ H p = some (.tup [.int ab.1, .int ab.2]) := by
  have hi : i < rs.length := by
    rcases Nat.lt_or_ge i rs.length with h1 | h1
    · exact h1
    · rw [List.getElem?_eq_none h1] at hx
      cases hx
  have hi' : i < abs.length := by rw [← h.1]; exact hi
  obtain ⟨p, h1, h2⟩ := h.2 i abs[i] (by simp [hi'])
  rw [hx] at h1
  exact ⟨abs[i], p, by simp [hi'], Option.some.inj h1, h2⟩
section
variable {P : Program} {w : World} {K : PySem.W.Frag} {mg : Str → Option Value} {base : Heap}
def spLook (K : PySem.W.Frag) (q : Nat) : Sp := fun vs H Q _ => ∃ (t c : V) (nd : Nd) (cs : List Nat) (n m : Nat), vs = [t, c, nd.kind m] ∧ Dp K H t nd.d ∧ Dp K H c (cD cs) ∧ nd.ok cs n m ∧ nd.ms n ≤ q ∧ n ≤ 20 ∧ q ≤ 30 ∧ m ≤ 100 ∧
  ∀ H' p a b, Gr H H' → H' p = some (.tup [.int a, .int b]) → Q (.ref p) H'
structure LookNames (mg : Str → Option Value) : Prop where
  mi : mg "isinstance" = none
  mt : mg "tuple" = none
  ms : mg "str" = none
  ml : mg "len" = none
  msum : mg "sum" = none
  mmax : mg "max" = none
/-- the end of the look: what stands within is looked at, and counted -/
theorem look_tail {f : Addr} {fd : FuncData} {q : Nat} {cdv : Value} {A : Around} {outer : List Env} {s : Shared} {H : Hp} {Q : VK} {E : XK} {t c k : V} {cs : List Nat} {n m : Nat}
    (bL : Binds K fd ["_law_thing", "_law_counts", "_law_many"] []) (gL : mg "_law_looked" = some (.ref f)) (kL : PySem.W.keepIn K (.ref f) = true)
    (GL : FnOk P w K mg base CX0 (q + 2) f fd ["_law_thing", "_law_counts", "_law_many"] (spLook K q)) (N : LookNames mg)
    (hr : Room (q + 2) (A.deeper (envOfC "_law_looked" (defScope sLook) s.heap.objs.size f cdv))) (hc : Dp K H c (cD cs)) (hn : n ≤ 20) (hq : q ≤ 30) (hm : m ≤ 100)
    (fin : ∀ H' p a b, Gr H H' → H' p = some (.tup [.int a, .int b]) → Q (.ref p) H') :
    ∃ tt, PSs (cxOf CX0 P w K mg base nLook "_law_looked" (defScope sLook) f cdv A outer s H E).nox ((defBody sLook).drop 11) tt ∧
      ∀ (H1 : Hp) (y3 y4 y6 y7 y8 y9 : Option V) (pi : Addr) (ps : List V), Gr H H1 → H1 pi = some (.lst ps) → ps.length ≤ 200 → Nexts K cs n m q H1 ps →
        tt { nx := fun _ H' => Q .non H', rt := Q } [some t, some c, some k, y3, y4, some (.ref pi), y6, y7, y8, y9] H1 := by
  have nd := scLook.nd
  refine' ⟨_, pss_cons ?s1 (pss_cons ?s2 (pss_cons ?s3 (pss_one ?s4))), ?rd⟩
  case s1 =>
    exact ps_if (pt_cmpR op_isN (pv 5) pe_non (nomark _)) (pss_one (ps_ret pe_non)) pss_nil
  case s2 =>
    exact ps_setLc (i := 7) (own := [("_law_one", 8), ("_law_kind", 9)]) (g := gTup K 2 (gCons (gName 8) (gCons (gName 9) gNil))) rfl nd rfl rfl (sw_true rfl rfl rfl (by decide +kernel)) (pi_list (pv 5))
      (blkOk_by (own := [("_law_one", 8), ("_law_kind", 9)]) (N := nLook) (sc := defScope sLook) (by decide +kernel))
      (fun _ _ _ _ _ => pg_tup rfl (pgs_cons (pg_name (i := 8) nd rfl (Or.inl rfl)) (pgs_cons (pg_name (i := 9) nd rfl (Or.inl rfl)) pgs_nil))) (fun _ _ _ _ _ => pts_nil)
      (fun _ _ _ _ _ => pe_call GL hr (by rfl) gL kL bL .nil pass0 (pa_cons (pv 8) (pa_cons (pv 1) (pa_cons (pv 9) pa_nil))))
  case s3 =>
    exact ps_if (pt_cmpR (op_inD (by have := hr.un; show A.units + 3 + 65 < cLine; have h2 : (A.deeper (envOfC "_law_looked" (defScope sLook) s.heap.objs.size f cdv)).units = A.units + 3 := rfl; omega)) pe_non (pv 7) rfl) (pss_one (ps_ret pe_non)) pss_nil
  case s4 =>
    exact ps_ret (pe_tup (pa_cons (pe_op op_add pe_int (pe_callB (cr_sum rfl) (by rfl) N.msum (by decide +kernel) (pa_cons (pe_lc (own := [("_law_one", 8)]) (g := gName 8) rfl nd (pi_list (pv 7))
          (blkOk_by (own := [("_law_one", 8)]) (N := nLook) (sc := defScope sLook) (by decide +kernel)) (fun _ _ _ _ _ => pg_name (i := 8) nd rfl (Or.inl rfl)) (fun _ _ _ _ _ => pts_nil) (fun _ _ _ _ _ => pe_ix (r := rIxT K) ix_tup (pv 8) pe_int (fun _ _ => rfl))) pa_nil)))
        (pa_cons (pe_op op_add pe_int (pe_callB (cr_max rfl) (by rfl) N.mmax (by decide +kernel) (pa_cons (pe_op op_cat (pe_lst (pa_cons pe_int pa_nil)) (pe_lc (own := [("_law_one", 8)]) (g := gName 8) rfl nd (pi_list (pv 7))
          (blkOk_by (own := [("_law_one", 8)]) (N := nLook) (sc := defScope sLook) (by decide +kernel)) (fun _ _ _ _ _ => pg_name (i := 8) nd rfl (Or.inl rfl)) (fun _ _ _ _ _ => pts_nil) (fun _ _ _ _ _ => pe_ix (r := rIxT K) ix_tup (pv 8) pe_int (fun _ _ => rfl)))) pa_nil))) pa_nil)))
  case rd =>
  intro H1 y3 y4 y6 y7 y8 y9 pi ps g1 hpi hlen hps
  refine ⟨_, rfl, rfl, _, rfl, iteF ?_⟩
  refine ⟨_, rfl, pi, rfl, ⟨_, .inl (.inl hpi)⟩, fun D nD => ?_⟩
  refine lc_it (walk_list (xs := ps)) (fun i H2 => ∃ (abs : List (Int × Int)) (rs : List V), H2 D = some (.lst rs) ∧ abs.length = i ∧ TwoAt H2 rs abs ∧ Gr H1 H2) ?c0 ?c1 ?c2 ?c3
  case c0 => exact ⟨[], [], upd_same, rfl, ⟨rfl, fun j ab e => by cases e⟩, Gr.new nD⟩
  case c1 =>
    rintro i H2 hi ⟨abs, rs, hD, hl, ht, g2⟩
    exact .inl (.inl (g2.lst hpi))
  case c2 =>
    rintro i x H2 H2' hi ⟨abs, rs, hD, hl, ht, g2⟩ ⟨rfl, hx⟩
    obtain ⟨ta, c', nd', rfl, hT, hd, ok, mss⟩ := hps i x hx
    refine ⟨ta, [c', nd'.kind m], rfl, g2.sqt hT, rfl, c', [nd'.kind m], rfl, nd'.kind m, [], rfl, rfl, rfl, ?_⟩
    unfold tYes
    refine iteT ⟨_, rfl, _, rfl, _, rfl, c', c, nd', cs, n, m, rfl, g2.kd.dp hd, (g1.trans g2).kd.dp hc, ok, mss, hn, hq, hm, fun H3 p a b g3 hp => ?_⟩
    refine ⟨rs, g3.lst hD, ?_, abs ++ [(a, b)], rs ++ [.ref p], upd_same, ?_, ?_, ?_⟩
    · rw [ht.1, hl]
      exact small1000 (by omega)
    · rw [List.length_append, hl]
      rfl
    · exact ((ht.gr g3).snoc hp).upd (g3.lst hD)
    · exact Gr.upd_new (g2.trans g3) nD
  case c3 =>
  rintro H2 ⟨abs, rs, hD, hl, ht, g2⟩
  have hlr : rs.length ≤ 200 := by rw [ht.1, hl]; exact hlen
  refine ⟨_, rfl, .none, abs.map two, .non, .lst (.inl (.inl hD)) ht.dp, rfl, twos_shape abs, _, rfl, ?_⟩
  rw [twos_none]
  refine iteF ?_
  refine ⟨_, rfl, D, rfl, ⟨_, .inl (.inl hD)⟩, fun D2 nD2 => ?_⟩
  refine lc_it (walk_list (xs := rs)) (fun i H3 => H3 = upd H2 D2 (.lst ((abs.take i).map fun ab => V.int ab.1))) rfl ?d1 ?d2 ?d3
  case d1 =>
    rintro i H3 hi rfl
    exact .inl (.inl ((Gr.new nD2).lst hD))
  case d2 =>
    rintro i x H3 H3' hi rfl ⟨rfl, hx⟩
    obtain ⟨ab, p, hab, rfl, hp⟩ := ht.at hx
    refine ⟨rfl, ?_⟩
    unfold tYes
    refine iteT ⟨_, rfl, p, _, 0, _, rfl, rfl, .inl (.inl ((Gr.new nD2).tup hp)), rfl, _, upd_same, ?_, ?_⟩
    · rw [List.length_map, List.length_take]
      have := ht.1
      exact small1000 (by omega)
    · rw [upd_upd, List.take_add_one, hab, List.map_append]
      rfl
  case d3 =>
  rintro H3 rfl
  have tk : abs.take rs.length = abs := by rw [ht.1, List.take_length]
  rw [tk]
  have g3 : Gr H2 (upd H2 D2 (.lst (abs.map fun ab => V.int ab.1))) := Gr.new nD2
  have hD2 : upd H2 D2 (.lst (abs.map fun ab => V.int ab.1)) D2 = some (.lst ((abs.map (·.1)).map V.int)) := by rw [upd_same, List.map_map]; rfl
  generalize upd H2 D2 (.lst (abs.map fun ab => V.int ab.1)) = H3 at g3 hD2 ⊢
  refine ⟨D2, abs.map (·.1), rfl, .inl (.inl hD2), 1, _, rfl, rfl, ?_⟩
  refine ⟨by show 1 ≤ sizeLine; decide, fun l0 n0 => ?_⟩
  have g4 : Gr H3 (upd H3 l0 (.lst [.int 0])) := Gr.new n0
  have hD4 := g4.lst (g3.lst hD)
  have hl0 : upd H3 l0 (.lst [.int 0]) l0 = some (.lst [.int 0]) := upd_same
  have ht4 := (ht.gr g3).gr g4
  generalize upd H3 l0 (.lst [.int 0]) = H4 at g4 hD4 hl0 ht4 ⊢
  refine ⟨_, rfl, D, rfl, ⟨_, .inl (.inl hD4)⟩, fun D3 nD3 => ?_⟩
  refine lc_it (walk_list (xs := rs)) (fun i H5 => H5 = upd H4 D3 (.lst ((abs.take i).map fun ab => V.int ab.2))) rfl ?e1 ?e2 ?e3
  case e1 =>
    rintro i H5 hi rfl
    exact .inl (.inl ((Gr.new nD3).lst hD4))
  case e2 =>
    rintro i x H5 H5' hi rfl ⟨rfl, hx⟩
    obtain ⟨ab, p, hab, rfl, hp⟩ := ht4.at hx
    refine ⟨rfl, ?_⟩
    unfold tYes
    refine iteT ⟨_, rfl, p, _, 1, _, rfl, rfl, .inl (.inl ((Gr.new nD3).tup hp)), rfl, _, upd_same, ?_, ?_⟩
    · rw [List.length_map, List.length_take]
      have := ht.1
      exact small1000 (by omega)
    · rw [upd_upd, List.take_add_one, hab, List.map_append]
      rfl
  case e3 =>
  rintro H5 rfl
  rw [tk]
  have g5 : Gr H4 (upd H4 D3 (.lst (abs.map fun ab => V.int ab.2))) := Gr.new nD3
  have hD5 : upd H4 D3 (.lst (abs.map fun ab => V.int ab.2)) D3 = some (.lst (abs.map fun ab => V.int ab.2)) := upd_same
  have hl5 := g5.lst hl0
  generalize upd H4 D3 (.lst (abs.map fun ab => V.int ab.2)) = H5 at g5 hD5 hl5 ⊢
  refine ⟨l0, D3, _, _, rfl, rfl, hl5, hD5, ?_, fun l1 n1 => ?_⟩
  · rw [List.length_map]
    have := ht.1
    exact Nat.le_of_lt (small1000 (by show 1 + abs.length ≤ 1000; omega))
  refine ⟨l1, 0 :: abs.map (·.2), rfl, .inl (.inl ?_), by simp, fun mx _ _ => ?_⟩
  · rw [upd_same, List.map_cons, List.map_map]
    rfl
  refine ⟨1, mx, rfl, rfl, by show 2 ≤ sizeLine; decide, fun tp ntp => ?_⟩
  exact fin _ tp _ _ (((((g1.trans g2).trans g3).trans g4).trans g5).trans ((Gr.new n1).trans (Gr.new ntp))) upd_same
end
end SfE

namespace SfE
open PySem PySem.Spec PyProof.Rows L2 SfG
theorem nd_head : ∀ x : Nd, ∃ (w : Str) (ds : List PyData), x.d = .tuple (.str w :: ds)
  | .e (.num n) => ⟨_, _, rfl⟩
  | .e (.inp k f) => ⟨_, _, rfl⟩
  | .e (.bin w a b) => ⟨_, _, rfl⟩
  | .e (.rst a n) => ⟨_, _, rfl⟩
  | .e (.iff a b c) => ⟨_, _, rfl⟩
  | .b .ref => ⟨_, _, rfl⟩
  | .b (.giv es) => ⟨_, _, rfl⟩
  | .b (.whn e a b) => ⟨_, _, rfl⟩
theorem nd_shape {cs : List Nat} {n m : Nat} (x : Nd) (ok : x.ok cs n m) (h : x.ms n ≤ 40) : SeqAt.shaped x.d = true := by
  cases x with
  | e E => exact ex_shape (by simp only [Nd.ms] at h; omega)
  | b B => exact bd_shape ok (by simp only [Nd.ms] at h; omega)
theorem cut_one (x : V) (r : List V) : cutV (x :: r) (some 1) none = r := by
  unfold cutV
  have e1 : HT.sIx (x :: r).length 0 (some 1) = 1 := by
    rw [show HT.sIx (x :: r).length 0 (some 1) = min 1 (x :: r).length from HT.sIx_nat (x :: r).length 0 1, List.length_cons]
    omega
  rw [e1, HT.sIx_none]
  show List.take ((x :: r).length - 1) r = r
  exact List.take_of_length_le (by simp)
theorem cut_not (x : V) (r : List V) : ¬ (HT.sIx (x :: r).length 0 (some 1) = 0 ∧ HT.sIx (x :: r).length (x :: r).length none = (x :: r).length) := by
  intro h
  have e1 : HT.sIx (x :: r).length 0 (some 1) = min 1 (x :: r).length := HT.sIx_nat (x :: r).length 0 1
  have h1 := h.1
  rw [e1, List.length_cons] at h1
  omega
def sz6 : List (Key × V) := [(Sum.inr ("plus" : Str), .int 2), (Sum.inr ("less" : Str), .int 2), (Sum.inr ("times" : Str), .int 2), (Sum.inr ("same" : Str), .int 2), (Sum.inr ("under" : Str), .int 2), (Sum.inr ("if" : Str), .int 3)]
theorem merge6 : mergeK [] sz6 = sz6 := rfl
theorem sz_op {w : Nat} (h : w ≤ 4) : valV sz6 (Sum.inr (opw w)) = some (.int 2) := by
  have c : w = 0 ∨ w = 1 ∨ w = 2 ∨ w = 3 ∨ w = 4 := by omega
  rcases c with rfl | rfl | rfl | rfl | rfl <;> rfl
/-- pairs of what stands in a tuple, and None -/
def Prs (H : Hp) (xs : List V) (ps : List V) : Prop := ∀ (j : Nat) (x : V), ps[j]? = some x → ∃ t y, x = .ref t ∧ xs[j]? = some y ∧ H t = some (.tup [y, .non])
theorem Prs.step {H : Hp} {xs ps l : List V} {D t : Addr} {y : V} {o : HO} (h : Prs H xs ps) (hD : H D = some (.lst l)) (nt : H t = none) (hy : xs[ps.length]? = some y) :
    Prs (upd (upd H t (.tup [y, .non])) D o) xs (ps ++ [.ref t]) := by
  intro j x hx
  have tD : t ≠ D := fun z => by
    rw [z, hD] at nt
    cases nt
  by_cases hj : j < ps.length
  · rw [List.getElem?_append_left hj] at hx
    obtain ⟨t', y', h1, h2, h3⟩ := h j x hx
    refine ⟨t', y', h1, h2, ?_⟩
    have n1 : t' ≠ D := fun z => by
      rw [z, hD] at h3
      cases h3
    rw [upd_ne n1, upd_ne (ne_of_none h3 nt)]
    exact h3
  · rw [List.getElem?_append_right (by omega)] at hx
    have hj0 : j - ps.length = 0 := by
      rcases Nat.eq_zero_or_pos (j - ps.length) with z | z
      · exact z
      · rw [List.getElem?_eq_none (by show 1 ≤ _; exact z)] at hx
        cases hx
    rw [hj0] at hx
    have ej : j = ps.length := by omega
    refine ⟨t, y, (Option.some.inj hx).symm, by rw [ej]; exact hy, ?_⟩
    rw [upd_ne tD]
    exact upd_same
theorem nexts_of {K : PySem.W.Frag} {cs : List Nat} {n m q : Nat} {H : Hp} {xs ps : List V} {es : List Ex} (h : Prs H xs ps) (hd : DpAll K H xs (es.map Ex.d)) (ok : ∀ e ∈ es, okE cs e ∧ dep e ≤ n ∧ dep e ≤ q) : Nexts K cs n m q H ps := by
  intro i x hx
  obtain ⟨t, y, rfl, hy, ht⟩ := h i x hx
  obtain ⟨e, he, de⟩ := dpA_ex hd hy
  obtain ⟨o1, o2, o3⟩ := ok e (List.mem_of_getElem? he)
  exact ⟨t, y, .e e, rfl, .inl (.inl ht), de, ⟨o1, o2⟩, o3⟩
section
variable {P : Program} {w : World} {K : PySem.W.Frag} {mg : Str → Option Value} {base : Heap}
set_option maxHeartbeats 4000000 in
theorem ok_look {f fA : Addr} {fd fdA : FuncData} (F : Fun K "_law_looked" "_law_looked" sLook f fd) (bL : Binds K fd ["_law_thing", "_law_counts", "_law_many"] []) (gL : mg "_law_looked" = some (.ref f))
    (HA : Has P w K mg base 1 "_law_among" ["_law_thing", "_law_least", "_law_most"] spAmg fA fdA) (N : LookNames mg) : ∀ q, FnOk P w K mg base CX0 (q + 2) f fd ["_law_thing", "_law_counts", "_law_many"] (spLook K q)
  | 0 => by
    refine F.ok scLook (fun vs H Q E h => ?_) (fun cdv A outer s H vs Q E hr h => ?_)
    · obtain ⟨t, c, nd, cs, n, m, rfl, _⟩ := h
      rfl
    · obtain ⟨t, c, nd, cs, n, m, rfl, _, _, _, hm, _⟩ := h
      have := ms_pos n nd
      omega
  | q + 1 => by
    have GL := ok_look F bL gL HA N q
    refine F.ok scLook (fun vs H Q E h => ?_) (fun cdv A outer s H vs Q E hr h => ?_)
    · obtain ⟨t, c, nd, cs, n, m, rfl, _⟩ := h
      rfl
    · obtain ⟨t, c, x, cs, n, m, rfl, ht, hc, ok, hms, hn, hq, hm, fin⟩ := h
      obtain ⟨tt, dT, rT⟩ := look_tail (t := t) (k := x.kind m) (outer := outer) (E := E) bL gL F.kp GL N hr hc hn (show q ≤ 30 by omega) hm fin
      have nd := scLook.nd
      have HA' : Has P w K mg base (q + 2) "_law_among" ["_law_thing", "_law_least", "_law_most"] spAmg fA fdA := ⟨HA.ok.mono (by omega), HA.at_, HA.kp, HA.bd⟩
      refine' ⟨_, pss_cons ?s1 (pss_cons ?s2 (pss_cons ?s3 (pss_cons ?s4 (pss_cons ?s5 (pss_cons ?s6 (pss_cons ?s7 (pss_cons ?s8 (pss_cons ?s9 (pss_cons ?s10 (pss_cons ?s11 dT)))))))))), ?rd⟩
      case s1 =>
        exact ps_if (PW.pt (pw_or (pt_not (pt_val (pe_isi "tuple" 0 N.mi N.mt (by decide +kernel)))) (pw_or (pt_cmpR (op_eqD hr.units) (pv 0) (pe_tup pa_nil) (nomark _))
          (pw_or1 (pt_not (pt_val (pe_callB call_isi (by rfl) N.mi (by decide +kernel) (pa_cons (pe_ix ix_tup (pv 0) pe_int (fun _ _ => rfl)) (pa_cons (pe_bltn (v := .ty "str") (by rfl) N.ms (by decide +kernel) rfl) pa_nil)))))))))
          (pss_one (ps_ret pe_non)) pss_nil
      case s2 =>
        exact ps_par (i := 3) (j := 4) rfl nd rfl rfl (by decide) rfl rfl (pa_cons (pe_ix ix_tup (pv 0) pe_int (fun _ _ => rfl)) (pa_cons (pe_slice sl_tup (pv 0) (po_some pe_int) po_none) pa_nil)) (by rfl)
      case s3 =>
        exact ps_set (i := 5) nd rfl (.inl rfl) pe_non
      case s4 =>
        exact ps_if (PW.pt (pw_and (pt_cmpR op_isN (pv 2) pe_non (nomark _)) (pw_and (pt_cmpR op_eq (pv 3) pe_str (nomark _)) (pw_and (pt_cmpR op_eq (pe_callB call_len_seq (by rfl) N.ml PySem.boot_len (pa_cons (pv 4) pa_nil)) pe_int (nomark _))
          (pw_and1 (pt_val (hcall HA' hr (pa_cons (pe_ix ix_tup (pv 4) pe_int (fun _ _ => rfl)) (pa_cons pe_int (pa_cons pe_int pa_nil))))))))))
          (pss_one (ps_set (i := 5) nd rfl (.inl rfl) (pe_lst pa_nil))) pss_nil
      case s5 =>
        exact ps_if (PW.pt (pw_and (pt_cmpR op_isN (pv 2) pe_non (nomark _)) (pw_and (pt_cmpR op_eq (pv 3) pe_str (nomark _)) (pw_and (pt_cmpR op_eq (pe_callB call_len_seq (by rfl) N.ml PySem.boot_len (pa_cons (pv 4) pa_nil)) pe_int (nomark _))
          (pw_and1 (pt_val (hcall HA' hr (pa_cons (pe_ix ix_tup (pv 4) pe_int (fun _ _ => rfl)) (pa_cons pe_int (pa_cons (pe_op op_sub (pe_callB call_len_seq (by rfl) N.ml PySem.boot_len (pa_cons (pv 1) pa_nil)) pe_int) pa_nil))))))))))
          (pss_one (ps_set (i := 5) nd rfl (.inl rfl) (pe_ifExp (pt_val (hcall HA' hr (pa_cons (pe_ix ix_tup (pv 4) pe_int (fun _ _ => rfl)) (pa_cons pe_int (pa_cons (pe_op op_sub (pe_ix ix_tup (pv 1) (pe_ix ix_tup (pv 4) pe_int (fun _ _ => rfl)) (fun _ _ => rfl)) pe_int) pa_nil))))) (pe_lst pa_nil) pe_non))) pss_nil
      case s6 =>
        exact ps_if (PW.pt (pw_and (pt_cmpR op_isN (pv 2) pe_non (nomark _)) (pw_and (pt_cmpR op_eq (pv 3) pe_str (nomark _)) (pw_and (pt_cmpR op_eq (pe_callB call_len_seq (by rfl) N.ml PySem.boot_len (pa_cons (pv 4) pa_nil)) pe_int (nomark _))
          (pw_and1 (pt_val (hcall HA' hr (pa_cons (pe_ix ix_tup (pv 4) pe_int (fun _ _ => rfl)) (pa_cons pe_int (pa_cons pe_int pa_nil))))))))))
          (pss_one (ps_set (i := 5) nd rfl (.inl rfl) (pe_lst (pa_cons (pe_tup (pa_cons (pe_ix ix_tup (pv 4) pe_int (fun _ _ => rfl)) (pa_cons pe_non pa_nil))) pa_nil)))) pss_nil
      case s7 =>
        exact ps_set (i := 6) nd rfl (.inl rfl) (pe_disp (pps_cons pe_str pe_int (pps_cons pe_str pe_int (pps_cons pe_str pe_int (pps_cons pe_str pe_int (pps_cons pe_str pe_int (pps_cons pe_str pe_int pps_nil)))))) (by rfl) (by rfl) (fun z => by cases z) (by decide))
      case s8 =>
        exact ps_if (PW.pt (pw_and (pt_cmpR op_isN (pv 2) pe_non (nomark _)) (pw_and1 (pt_chain op_eq op_gt (pe_dget2 (hu_of hr) (pv 6) (pv 3) pe_int ⟨rfl, rfl, rfl, rfl⟩) (pe_callB call_len_seq (by rfl) N.ml PySem.boot_len (pa_cons (pv 4) pa_nil)) pe_int))))
          (pss_one (ps_setLc (i := 5) (own := [("_law_one", 8)]) (g := gName 8) rfl nd rfl rfl (sw_true rfl rfl rfl (by decide +kernel)) (pi_tup (pv 4)) (blkOk_by (own := [("_law_one", 8)]) (N := nLook) (sc := defScope sLook) (by decide +kernel))
            (fun _ _ _ _ _ => pg_name (i := 8) nd rfl (Or.inl rfl)) (fun _ _ _ _ _ => pts_nil) (fun _ _ _ _ _ => pe_tup (pa_cons (pv 8) (pa_cons pe_non pa_nil))))) pss_nil
      case s9 =>
        exact ps_if (PW.pt (pw_and (pt_cmpR op_notN (pv 2) pe_non (nomark _)) (pw_and (pt_cmpR op_eq (pv 3) pe_str (nomark _)) (pw_and1 (pt_cmpR (op_eqD hr.units) (pv 4) (pe_tup pa_nil) (nomark _))))))
          (pss_one (ps_set (i := 5) nd rfl (.inl rfl) (pe_lst pa_nil))) pss_nil
      case s10 =>
        exact ps_if (PW.pt (pw_and (pt_cmpR op_notN (pv 2) pe_non (nomark _)) (pw_and (pt_cmpR op_eq (pv 3) pe_str (nomark _)) (pw_and (pt_cmpR op_eq (pe_callB call_len_seq (by rfl) N.ml PySem.boot_len (pa_cons (pv 4) pa_nil)) pe_int (nomark _))
          (pw_and (pt_val (pe_callB call_isi (by rfl) N.mi (by decide +kernel) (pa_cons (pe_ix ix_tup (pv 4) pe_int (fun _ _ => rfl)) (pa_cons (pe_bltn (v := .ty "tuple") (by rfl) N.mt (by decide +kernel) rfl) pa_nil))))
          (pw_and1 (pt_cmpR op_eq (pe_callB call_len_seq (by rfl) N.ml PySem.boot_len (pa_cons (pe_ix ix_tup (pv 4) pe_int (fun _ _ => rfl)) pa_nil)) (pv 2) (nomark _))))))))
          (pss_one (ps_setLc (i := 5) (own := [("_law_one", 8)]) (g := gName 8) rfl nd rfl rfl (sw_true rfl rfl rfl (by decide +kernel)) (pi_tup (pe_ix ix_tup (pv 4) pe_int (fun _ _ => rfl))) (blkOk_by (own := [("_law_one", 8)]) (N := nLook) (sc := defScope sLook) (by decide +kernel))
            (fun _ _ _ _ _ => pg_name (i := 8) nd rfl (Or.inl rfl)) (fun _ _ _ _ _ => pts_nil) (fun _ _ _ _ _ => pe_tup (pa_cons (pv 8) (pa_cons pe_non pa_nil))))) pss_nil
      case s11 =>
        exact ps_if (PW.pt (pw_and (pt_cmpR op_notN (pv 2) pe_non (nomark _)) (pw_and (pt_cmpR op_eq (pv 3) pe_str (nomark _)) (pw_and1 (pt_cmpR op_eq (pe_callB call_len_seq (by rfl) N.ml PySem.boot_len (pa_cons (pv 4) pa_nil)) pe_int (nomark _))))))
          (pss_one (ps_set (i := 5) nd rfl (.inl rfl) (pe_lst (pa_cons (pe_tup (pa_cons (pe_ix ix_tup (pv 4) pe_int (fun _ _ => rfl)) (pa_cons pe_non pa_nil))) (pa_cons (pe_tup (pa_cons (pe_ix ix_tup (pv 4) pe_int (fun _ _ => rfl)) (pa_cons (pv 2) pa_nil)))
            (pa_cons (pe_tup (pa_cons (pe_ix ix_tup (pv 4) pe_int (fun _ _ => rfl)) (pa_cons (pv 2) pa_nil))) pa_nil)))))) pss_nil
      case rd =>
      obtain ⟨wd, ds, ed⟩ := nd_head x
      have sh := nd_shape x ok (show x.ms n ≤ 40 by omega)
      rw [ed] at ht sh
      obtain ⟨p, xs, rfl, hp, hxs⟩ := dp_tup ht
      obtain ⟨x0, rest, rfl, h0, hrest⟩ := dpA_cons hxs
      cases dp_str h0
      -- it is a tuple, it isn't empty, it begins with a text
      refine ⟨_, rfl, "tuple", true, tyx_sqt hp, by decide +kernel, _, rfl, iteF ?_⟩
      refine ⟨_, rfl, by show 0 ≤ sizeLine; decide, fun p0 n0 => ?_⟩
      have g0 : Gr H (upd H p0 (.tup [])) := Gr.new n0
      refine ⟨.tuple (.str wd :: ds), .tuple [], g0.kd.dp ht, .tup (.inl (.inl upd_same)) .nil, sh, rfl, _, rfl, iteF ?_⟩
      generalize upd H p0 (.tup []) = H0 at g0 ⊢
      refine ⟨_, rfl, p, _, 0, .str wd, rfl, rfl, g0.sqt hp, atI_nat (j := 0) rfl, .str wd, .ty "str", .type "str", .type "str", true, rfl, .ty "str", .base (.str wd), kit_ty (by decide +kernel), _, rfl, iteF ?_⟩
      -- word, more
      refine ⟨_, rfl, p, _, 0, .str wd, rfl, rfl, g0.sqt hp, atI_nat (j := 0) rfl, _, rfl, 1, rfl, p, _, rfl, g0.sqt hp, cut_not _ _, fun pm npm => ?_⟩
      refine ⟨_, _, rfl, ?_⟩
      rw [cut_one]
      have g1 : Gr H (upd H0 pm (.tup rest)) := g0.trans (Gr.new npm)
      have hpm : SqT K (upd H0 pm (.tup rest)) pm rest := .inl (.inl upd_same)
      have hrest1 : DpAll K (upd H0 pm (.tup rest)) rest ds := g1.kd.dpA hrest
      have hc1 : Dp K (upd H0 pm (.tup rest)) c (cD cs) := g1.kd.dp hc
      generalize upd H0 pm (.tup rest) = H1 at g1 hpm hrest1 hc1 ⊢
      cases x with
      | e E =>
        cases E with
        | num i =>
          cases ed
          obtain ⟨v1, r1, rfl, d1, h2⟩ := dpA_cons hrest1
          cases dp_int d1
          cases dpA_nil h2
          refine ⟨_, rfl, rfl, _, rfl, iteT ⟨_, rfl, rfl, _, rfl, iteT ⟨_, rfl, pm, _, rfl, .inr hpm, rfl, _, rfl, iteT ⟨_, rfl, pm, _, 0, _, rfl, rfl, hpm, rfl, i, 0, 99, rfl, _, rfl, ?_⟩⟩⟩⟩
          rw [decide_eq_true ok.1.1, decide_eq_true ok.1.2]
          refine iteT ⟨Nat.zero_le _, fun pi npi => ?_⟩
          have g2 : Gr H1 (upd H1 pi (.lst [])) := Gr.new npi
          have hpi : upd H1 pi (.lst []) pi = some (.lst []) := upd_same
          have hpm2 := g2.sqt hpm
          generalize upd H1 pi (.lst []) = H2 at g2 hpi hpm2 ⊢
          refine ⟨_, rfl, rfl, _, rfl, iteT ⟨_, rfl, rfl, _, rfl, iteF (iteF ?_)⟩⟩
          refine ⟨_, rfl, rfl, _, rfl, iteT ⟨_, rfl, rfl, _, rfl, iteF (iteF ?_)⟩⟩
          intro sz nsz
          refine ⟨upd_same, sz6, rfl, by decide, ?_⟩
          have g3 : Gr H2 (upd (upd H2 sz (.dK [])) sz (.dK (mergeK [] sz6))) := gr_new2 nsz
          have hsz : upd (upd H2 sz (.dK [])) sz (.dK (mergeK [] sz6)) sz = some (.dK sz6) := upd_same
          have hpm3 := g3.sqt hpm2
          generalize upd (upd H2 sz (.dK [])) sz (.dK (mergeK [] sz6)) = H3 at g3 hsz hpm3 ⊢
          refine ⟨_, rfl, rfl, _, rfl, iteT ⟨_, rfl, sz, rfl, .inl ⟨_, .inl hsz⟩, _, rfl, _, DGet.k (k := Sum.inr ("number" : Str)) hsz, _, rfl, pm, _, rfl, .inr hpm3, rfl, _, rfl, iteF ⟨_, rfl, iteF ?_⟩⟩⟩
          refine ⟨_, rfl, rfl, _, rfl, iteF (iteF ⟨_, rfl, rfl, _, rfl, iteF (iteF ⟨_, rfl, rfl, _, rfl, iteF (iteF ?_)⟩)⟩)⟩
          exact rT H3 _ _ _ _ _ _ pi [] (g1.trans (g2.trans g3)) (g3.lst hpi) (by simp) (fun i x h => by cases h)
        | inp k j =>
          cases ed
          obtain ⟨v1, r1, rfl, d1, h2⟩ := dpA_cons hrest1
          cases dp_int d1
          obtain ⟨v2, r2, rfl, d2, h3⟩ := dpA_cons h2
          cases dp_int d2
          cases dpA_nil h3
          obtain ⟨⟨cc, hk, hj⟩, _⟩ := ok
          obtain ⟨pc, cx, rfl, hpc, hcx⟩ := dp_tup hc1
          obtain ⟨vc, evc, dvc⟩ := dpA_get (i := k) (d := .int (cc : Int)) hcx (by rw [List.getElem?_map, hk]; rfl)
          cases dp_int dvc
          have hcl : cx.length = cs.length := by
            have := dpA_len hcx
            rw [List.length_map] at this
            exact this
          have hkl : k < cs.length := by
            rcases Nat.lt_or_ge k cs.length with h1 | h1
            · exact h1
            · rw [List.getElem?_eq_none h1] at hk
              cases hk
          refine ⟨_, rfl, rfl, _, rfl, iteT ⟨_, rfl, rfl, _, rfl, iteF (iteF ?_)⟩⟩
          refine ⟨_, rfl, rfl, _, rfl, iteT ⟨_, rfl, rfl, _, rfl, iteT ⟨_, rfl, pm, _, rfl, .inr hpm, rfl, _, rfl, iteT ⟨_, rfl, pm, _, 0, _, rfl, rfl, hpm, rfl, _, rfl, pc, _, rfl, .inr hpc, _, 1, rfl, rfl, k, 0, _, rfl, _, rfl, ?_⟩⟩⟩⟩
          rw [decide_eq_true (show (0 : Int) ≤ (k : Int) by omega), decide_eq_true (show (k : Int) ≤ (cx.length : Int) - 1 by omega)]
          refine iteT ⟨_, rfl, pm, _, 1, _, rfl, rfl, hpm, rfl, _, rfl, _, rfl, pm, _, 0, _, rfl, rfl, hpm, rfl, pc, _, k, _, rfl, rfl, hpc, atI_nat evc, _, 1, rfl, rfl, j, 0, _, rfl, _, rfl, ?_⟩
          rw [decide_eq_true (show (0 : Int) ≤ (j : Int) by omega), decide_eq_true (show (j : Int) ≤ (cc : Int) - 1 by omega)]
          refine iteT ⟨Nat.zero_le _, fun pi npi => ?_⟩
          have g2 : Gr H1 (upd H1 pi (.lst [])) := Gr.new npi
          have hpi : upd H1 pi (.lst []) pi = some (.lst []) := upd_same
          have hpm2 := g2.sqt hpm
          generalize upd H1 pi (.lst []) = H2 at g2 hpi hpm2 ⊢
          refine ⟨_, rfl, rfl, _, rfl, iteT ⟨_, rfl, rfl, _, rfl, iteF (iteF ?_)⟩⟩
          intro sz nsz
          refine ⟨upd_same, sz6, rfl, by decide, ?_⟩
          have g3 : Gr H2 (upd (upd H2 sz (.dK [])) sz (.dK (mergeK [] sz6))) := gr_new2 nsz
          have hsz : upd (upd H2 sz (.dK [])) sz (.dK (mergeK [] sz6)) sz = some (.dK sz6) := upd_same
          have hpm3 := g3.sqt hpm2
          generalize upd (upd H2 sz (.dK [])) sz (.dK (mergeK [] sz6)) = H3 at g3 hsz hpm3 ⊢
          refine ⟨_, rfl, rfl, _, rfl, iteT ⟨_, rfl, sz, rfl, .inl ⟨_, .inl hsz⟩, _, rfl, _, DGet.k (k := Sum.inr ("in" : Str)) hsz, _, rfl, pm, _, rfl, .inr hpm3, rfl, _, rfl, iteF ⟨_, rfl, iteF ?_⟩⟩⟩
          refine ⟨_, rfl, rfl, _, rfl, iteF (iteF ⟨_, rfl, rfl, _, rfl, iteF (iteF ⟨_, rfl, rfl, _, rfl, iteF (iteF ?_)⟩)⟩)⟩
          exact rT H3 _ _ _ _ _ _ pi [] (g1.trans (g2.trans g3)) (g3.lst hpi) (by simp) (fun i x h => by cases h)
        | rst a i =>
          cases ed
          obtain ⟨v1, r1, rfl, d1, h2⟩ := dpA_cons hrest1
          obtain ⟨v2, r2, rfl, d2, h3⟩ := dpA_cons h2
          cases dp_int d2
          cases dpA_nil h3
          obtain ⟨⟨o1, o2, o3⟩, o4⟩ := ok
          simp only [Nd.ms, dep] at hms
          simp only [dep] at o4
          refine ⟨_, rfl, rfl, _, rfl, iteT ⟨_, rfl, rfl, _, rfl, iteF (iteF ?_)⟩⟩
          refine ⟨_, rfl, rfl, _, rfl, iteT ⟨_, rfl, rfl, _, rfl, iteF (iteF ?_)⟩⟩
          refine ⟨_, rfl, rfl, _, rfl, iteT ⟨_, rfl, rfl, _, rfl, iteT ⟨_, rfl, pm, _, rfl, .inr hpm, rfl, _, rfl, iteT ⟨_, rfl, pm, _, 1, _, rfl, rfl, hpm, rfl, i, 2, 99, rfl, _, rfl, ?_⟩⟩⟩⟩
          rw [decide_eq_true o1, decide_eq_true o2]
          refine iteT ⟨_, rfl, pm, _, 0, _, rfl, rfl, hpm, rfl, by show 2 ≤ sizeLine; decide, fun tn nt => ?_⟩
          refine ⟨by show 1 ≤ sizeLine; decide, fun pi npi => ?_⟩
          have g2 : Gr H1 (upd (upd H1 tn (.tup [v1, .non])) pi (.lst [.ref tn])) := (Gr.new nt).trans (Gr.new npi)
          have hpi : upd (upd H1 tn (.tup [v1, .non])) pi (.lst [.ref tn]) pi = some (.lst [.ref tn]) := upd_same
          have htn : upd (upd H1 tn (.tup [v1, .non])) pi (.lst [.ref tn]) tn = some (.tup [v1, .non]) := (Gr.new npi).tup upd_same
          have hpm2 := g2.sqt hpm
          have d12 := g2.kd.dp (K := K) d1
          generalize upd (upd H1 tn (.tup [v1, .non])) pi (.lst [.ref tn]) = H2 at g2 hpi htn hpm2 d12 ⊢
          intro sz nsz
          refine ⟨upd_same, sz6, rfl, by decide, ?_⟩
          have g3 : Gr H2 (upd (upd H2 sz (.dK [])) sz (.dK (mergeK [] sz6))) := gr_new2 nsz
          have hsz : upd (upd H2 sz (.dK [])) sz (.dK (mergeK [] sz6)) sz = some (.dK sz6) := upd_same
          have hpm3 := g3.sqt hpm2
          generalize upd (upd H2 sz (.dK [])) sz (.dK (mergeK [] sz6)) = H3 at g3 hsz hpm3 ⊢
          refine ⟨_, rfl, rfl, _, rfl, iteT ⟨_, rfl, sz, rfl, .inl ⟨_, .inl hsz⟩, _, rfl, _, DGet.k (k := Sum.inr ("rest" : Str)) hsz, _, rfl, pm, _, rfl, .inr hpm3, rfl, _, rfl, iteF ⟨_, rfl, iteF ?_⟩⟩⟩
          refine ⟨_, rfl, rfl, _, rfl, iteF (iteF ⟨_, rfl, rfl, _, rfl, iteF (iteF ⟨_, rfl, rfl, _, rfl, iteF (iteF ?_)⟩)⟩)⟩
          refine rT H3 _ _ _ _ _ _ pi [.ref tn] (g1.trans (g2.trans g3)) (g3.lst hpi) (by simp) ?_
          intro i x hx
          have e0 : i = 0 := by
            rcases Nat.eq_zero_or_pos i with z | z
            · exact z
            · rw [List.getElem?_eq_none (by show 1 ≤ _; exact z)] at hx
              cases hx
          rw [e0] at hx
          cases hx
          exact ⟨tn, v1, .e a, rfl, .inl (.inl (g3.tup htn)), g3.kd.dp d12, ⟨o3, by omega⟩, by simp only [Nd.ms]; omega⟩
        | bin wo a b =>
          have ew : wd = opw wo ∧ ds = [a.d, b.d] := by
            cases ed
            exact ⟨rfl, rfl⟩
          obtain ⟨rfl, rfl⟩ := ew
          obtain ⟨⟨o1, o2, o3⟩, o4⟩ := ok
          obtain ⟨n1, n2, n3, n4⟩ := opw_ne wo
          simp only [Nd.ms, dep] at hms
          simp only [dep] at o4
          have hrl : rest.length = 2 := dpA_len hrest1
          refine ⟨_, rfl, rfl, _, rfl, iteT ⟨_, rfl, rfl, _, rfl, ?_⟩⟩
          rw [decide_eq_false n1]
          refine iteF (iteF ?_)
          refine ⟨_, rfl, rfl, _, rfl, iteT ⟨_, rfl, rfl, _, rfl, ?_⟩⟩
          rw [decide_eq_false n2]
          refine iteF (iteF ?_)
          refine ⟨_, rfl, rfl, _, rfl, iteT ⟨_, rfl, rfl, _, rfl, ?_⟩⟩
          rw [decide_eq_false n3]
          refine iteF (iteF ?_)
          intro sz nsz
          refine ⟨upd_same, sz6, rfl, by decide, ?_⟩
          have g3 : Gr H1 (upd (upd H1 sz (.dK [])) sz (.dK (mergeK [] sz6))) := gr_new2 nsz
          have hsz : upd (upd H1 sz (.dK [])) sz (.dK (mergeK [] sz6)) sz = some (.dK sz6) := upd_same
          have hpm3 := g3.sqt hpm
          generalize upd (upd H1 sz (.dK [])) sz (.dK (mergeK [] sz6)) = H3 at g3 hsz hpm3 ⊢
          refine ⟨_, rfl, rfl, _, rfl, iteT ⟨_, rfl, sz, rfl, .inl ⟨_, .inl hsz⟩, _, rfl, some (.int 2), .inl ⟨_, Sum.inr (opw wo), .inl hsz, rfl, (sz_op o1).symm⟩, _, rfl, pm, _, rfl, .inr hpm3, rfl, _, rfl, ?_⟩⟩
          rw [hrl]
          refine iteT ⟨2, 0, rfl, rfl, _, rfl, iteT ?_⟩
          refine ⟨_, rfl, pm, rfl, ⟨_, hpm3⟩, fun D nD => ?_⟩
          refine lc_it (walk_tup (xs := rest)) (fun i H4 => ∃ ps : List V, H4 D = some (.lst ps) ∧ ps.length = i ∧ Gr H3 H4 ∧ Prs H4 rest ps) ?z0 ?z1 ?z2 ?z3
          case z0 => exact ⟨[], upd_same, rfl, Gr.new nD, fun j x h => by cases h⟩
          case z1 =>
            rintro i H4 hi ⟨ps, hD, hl, g4, hP⟩
            exact g4.sqt hpm3
          case z2 =>
            rintro i x H4 H4' hi ⟨ps, hD, hl, g4, hP⟩ ⟨rfl, hx⟩
            refine ⟨rfl, ?_⟩
            unfold tYes
            refine iteT ⟨_, rfl, by show 2 ≤ sizeLine; decide, fun tn nt => ?_⟩
            have nDt : D ≠ tn := ne_of_none hD nt
            refine ⟨ps, (upd_ne nDt).trans hD, ?_, ps ++ [.ref tn], upd_same, ?_, ?_, ?_⟩
            · exact small1000 (by omega)
            · rw [List.length_append, hl]
              rfl
            · exact Gr.upd_new (g4.trans (Gr.new nt)) nD
            · exact hP.step hD nt (by rw [hl]; exact hx)
          case z3 =>
          rintro H5 ⟨ps, hD, hl, g5, hP⟩
          refine ⟨_, rfl, rfl, _, rfl, iteF (iteF ⟨_, rfl, rfl, _, rfl, iteF (iteF ⟨_, rfl, rfl, _, rfl, iteF (iteF ?_)⟩)⟩)⟩
          refine rT H5 _ _ _ _ _ _ D ps (g1.trans (g3.trans g5)) hD (by omega) (nexts_of (es := [a, b]) hP ((g3.trans g5).kd.dpA hrest1) ?_)
          intro e he
          rcases List.mem_cons.mp he with rfl | he
          · exact ⟨o2, by omega, by omega⟩
          · rcases List.mem_cons.mp he with rfl | he
            · exact ⟨o3, by omega, by omega⟩
            · cases he
        | iff a b d =>
          cases ed
          obtain ⟨⟨o1, o2, o3⟩, o4⟩ := ok
          simp only [Nd.ms, dep] at hms
          simp only [dep] at o4
          have hrl : rest.length = 3 := dpA_len hrest1
          refine ⟨_, rfl, rfl, _, rfl, iteT ⟨_, rfl, rfl, _, rfl, iteF (iteF ?_)⟩⟩
          refine ⟨_, rfl, rfl, _, rfl, iteT ⟨_, rfl, rfl, _, rfl, iteF (iteF ?_)⟩⟩
          refine ⟨_, rfl, rfl, _, rfl, iteT ⟨_, rfl, rfl, _, rfl, iteF (iteF ?_)⟩⟩
          intro sz nsz
          refine ⟨upd_same, sz6, rfl, by decide, ?_⟩
          have g3 : Gr H1 (upd (upd H1 sz (.dK [])) sz (.dK (mergeK [] sz6))) := gr_new2 nsz
          have hsz : upd (upd H1 sz (.dK [])) sz (.dK (mergeK [] sz6)) sz = some (.dK sz6) := upd_same
          have hpm3 := g3.sqt hpm
          generalize upd (upd H1 sz (.dK [])) sz (.dK (mergeK [] sz6)) = H3 at g3 hsz hpm3 ⊢
          refine ⟨_, rfl, rfl, _, rfl, iteT ⟨_, rfl, sz, rfl, .inl ⟨_, .inl hsz⟩, _, rfl, _, DGet.k (k := Sum.inr ("if" : Str)) hsz, _, rfl, pm, _, rfl, .inr hpm3, rfl, _, rfl, ?_⟩⟩
          rw [hrl]
          refine iteT ⟨3, 0, rfl, rfl, _, rfl, iteT ?_⟩
          refine ⟨_, rfl, pm, rfl, ⟨_, hpm3⟩, fun D nD => ?_⟩
          refine lc_it (walk_tup (xs := rest)) (fun i H4 => ∃ ps : List V, H4 D = some (.lst ps) ∧ ps.length = i ∧ Gr H3 H4 ∧ Prs H4 rest ps) ?z0 ?z1 ?z2 ?z3
          case z0 => exact ⟨[], upd_same, rfl, Gr.new nD, fun j x h => by cases h⟩
          case z1 =>
            rintro i H4 hi ⟨ps, hD, hl, g4, hP⟩
            exact g4.sqt hpm3
          case z2 =>
            rintro i x H4 H4' hi ⟨ps, hD, hl, g4, hP⟩ ⟨rfl, hx⟩
            refine ⟨rfl, ?_⟩
            unfold tYes
            refine iteT ⟨_, rfl, by show 2 ≤ sizeLine; decide, fun tn nt => ?_⟩
            have nDt : D ≠ tn := ne_of_none hD nt
            refine ⟨ps, (upd_ne nDt).trans hD, ?_, ps ++ [.ref tn], upd_same, ?_, ?_, ?_⟩
            · exact small1000 (by omega)
            · rw [List.length_append, hl]
              rfl
            · exact Gr.upd_new (g4.trans (Gr.new nt)) nD
            · exact hP.step hD nt (by rw [hl]; exact hx)
          case z3 =>
          rintro H5 ⟨ps, hD, hl, g5, hP⟩
          refine ⟨_, rfl, rfl, _, rfl, iteF (iteF ⟨_, rfl, rfl, _, rfl, iteF (iteF ⟨_, rfl, rfl, _, rfl, iteF (iteF ?_)⟩)⟩)⟩
          refine rT H5 _ _ _ _ _ _ D ps (g1.trans (g3.trans g5)) hD (by omega) (nexts_of (es := [a, b, d]) hP ((g3.trans g5).kd.dpA hrest1) ?_)
          intro e he
          rcases List.mem_cons.mp he with rfl | he
          · exact ⟨o1, by omega, by omega⟩
          · rcases List.mem_cons.mp he with rfl | he
            · exact ⟨o2, by omega, by omega⟩
            · rcases List.mem_cons.mp he with rfl | he
              · exact ⟨o3, by omega, by omega⟩
              · cases he
      | b B =>
        refine ⟨_, rfl, rfl, _, rfl, iteF (iteF ⟨_, rfl, rfl, _, rfl, iteF (iteF ⟨_, rfl, rfl, _, rfl, iteF (iteF ?_)⟩)⟩)⟩
        intro sz nsz
        refine ⟨upd_same, sz6, rfl, by decide, ?_⟩
        have g3 : Gr H1 (upd (upd H1 sz (.dK [])) sz (.dK (mergeK [] sz6))) := gr_new2 nsz
        have hsz : upd (upd H1 sz (.dK [])) sz (.dK (mergeK [] sz6)) sz = some (.dK sz6) := upd_same
        have hpm3 := g3.sqt hpm
        generalize upd (upd H1 sz (.dK [])) sz (.dK (mergeK [] sz6)) = H3 at g3 hsz hpm3 ⊢
        refine ⟨_, rfl, rfl, _, rfl, iteF (iteF ?_)⟩
        have g13 : Gr H H3 := g1.trans g3
        have hrest3 := g3.kd.dpA hrest1
        cases B with
        | ref =>
          cases ed
          cases dpA_nil hrest3
          refine ⟨_, rfl, rfl, _, rfl, iteT ⟨_, rfl, rfl, _, rfl, iteT ⟨_, rfl, by show 0 ≤ sizeLine; decide, fun p3 np3 => ?_⟩⟩⟩
          have g4 : Gr H3 (upd H3 p3 (.tup [])) := Gr.new np3
          refine ⟨.tuple [], .tuple [], .tup (g4.sqt hpm3) .nil, .tup (.inl (.inl upd_same)) .nil, rfl, rfl, _, rfl, iteT ?_⟩
          generalize upd H3 p3 (.tup []) = H4 at g4 ⊢
          refine ⟨Nat.zero_le _, fun pi npi => ?_⟩
          refine ⟨_, rfl, rfl, _, rfl, iteT ⟨_, rfl, rfl, _, rfl, iteF (iteF ⟨_, rfl, rfl, _, rfl, iteT ⟨_, rfl, rfl, _, rfl, iteF (iteF ?_)⟩⟩)⟩⟩
          exact rT _ _ _ _ _ _ _ pi [] (g13.trans (g4.trans (Gr.new npi))) upd_same (by simp) (fun i x h => by cases h)
        | giv es =>
          cases ed
          obtain ⟨v1, r1, rfl, d1, h2⟩ := dpA_cons hrest3
          cases dpA_nil h2
          obtain ⟨pg, ys, rfl, hpg, hys⟩ := dp_tup d1
          obtain ⟨o1, o2⟩ := ok
          simp only [Nd.ms, depB] at hms
          have hyl : ys.length = es.length := by
            have := dpA_len hys
            rw [List.length_map] at this
            exact this
          refine ⟨_, rfl, rfl, _, rfl, iteT ⟨_, rfl, rfl, _, rfl, iteF (iteF ?_)⟩⟩
          refine ⟨_, rfl, rfl, _, rfl, iteT ⟨_, rfl, rfl, _, rfl, iteT ⟨_, rfl, pm, _, rfl, .inr hpm3, rfl, _, rfl, iteT ⟨_, rfl, pm, _, 0, _, rfl, rfl, hpm3, rfl, .ref pg, .ty "tuple", .type "tuple", .type "tuple", true, rfl, .ty "tuple", tyx_sqt hpg, kit_ty (by decide +kernel), _, rfl, iteT ⟨_, rfl, pm, _, 0, _, rfl, rfl, hpm3, rfl, pg, _, rfl, .inr hpg, _, rfl, rfl, _, rfl, ?_⟩⟩⟩⟩⟩
          have e9 : V.int (ys.length : Int) = Nd.kind m (.b (.giv es)) := by
            show V.int _ = V.int _
            rw [hyl, o1]
          refine (if_pos (decide_eq_true e9)).mpr ?_
          refine ⟨_, rfl, pm, _, 0, _, rfl, rfl, hpm3, rfl, pg, rfl, ⟨_, hpg⟩, fun D nD => ?_⟩
          refine lc_it (walk_tup (xs := ys)) (fun i H4 => ∃ ps : List V, H4 D = some (.lst ps) ∧ ps.length = i ∧ Gr H3 H4 ∧ Prs H4 ys ps) ?z0 ?z1 ?z2 ?z3
          case z0 => exact ⟨[], upd_same, rfl, Gr.new nD, fun j x h => by cases h⟩
          case z1 =>
            rintro i H4 hi ⟨ps, hD, hl, g4, hP⟩
            exact g4.sqt hpg
          case z2 =>
            rintro i x H4 H4' hi ⟨ps, hD, hl, g4, hP⟩ ⟨rfl, hx⟩
            refine ⟨rfl, ?_⟩
            unfold tYes
            refine iteT ⟨_, rfl, by show 2 ≤ sizeLine; decide, fun tn nt => ?_⟩
            have nDt : D ≠ tn := ne_of_none hD nt
            refine ⟨ps, (upd_ne nDt).trans hD, ?_, ps ++ [.ref tn], upd_same, ?_, ?_, ?_⟩
            · exact small1000 (by omega)
            · rw [List.length_append, hl]
              rfl
            · exact Gr.upd_new (g4.trans (Gr.new nt)) nD
            · exact hP.step hD nt (by rw [hl]; exact hx)
          case z3 =>
          rintro H5 ⟨ps, hD, hl, g5, hP⟩
          refine ⟨_, rfl, rfl, _, rfl, iteT ⟨_, rfl, rfl, _, rfl, iteF (iteF ?_)⟩⟩
          refine rT H5 _ _ _ _ _ _ D ps (g13.trans g5) hD (by omega) (nexts_of (es := es) hP (g5.kd.dpA hys) ?_)
          intro e he
          obtain ⟨a1, a2, a3⟩ := o2 e he
          exact ⟨a1, a2, by omega⟩
        | whn e a b =>
          cases ed
          obtain ⟨v1, r1, rfl, d1, h2⟩ := dpA_cons hrest3
          obtain ⟨v2, r2, rfl, d2, h3⟩ := dpA_cons h2
          obtain ⟨v3, r3, rfl, d3, h4⟩ := dpA_cons h3
          cases dpA_nil h4
          obtain ⟨⟨e1, e2, e3⟩, oa, ob⟩ := ok
          simp only [Nd.ms, depB] at hms
          refine ⟨_, rfl, rfl, _, rfl, iteT ⟨_, rfl, rfl, _, rfl, iteF (iteF ⟨_, rfl, rfl, _, rfl, iteT ⟨_, rfl, rfl, _, rfl, iteF (iteF ?_)⟩⟩)⟩⟩
          refine ⟨_, rfl, rfl, _, rfl, iteT ⟨_, rfl, rfl, _, rfl, iteT ⟨_, rfl, pm, _, rfl, .inr hpm3, rfl, _, rfl, iteT ?_⟩⟩⟩
          refine ⟨_, rfl, pm, _, 0, _, rfl, rfl, hpm3, rfl, by show 2 ≤ sizeLine; decide, fun t1 nt1 => ?_⟩
          have k1 : Gr H3 (upd H3 t1 (.tup [v1, .non])) := Gr.new nt1
          refine ⟨_, rfl, pm, _, 1, _, rfl, rfl, k1.sqt hpm3, rfl, _, rfl, by show 2 ≤ sizeLine; decide, fun t2 nt2 => ?_⟩
          have k2 : Gr (upd H3 t1 (.tup [v1, .non])) (upd (upd H3 t1 (.tup [v1, .non])) t2 (.tup [v2, .int m])) := Gr.new nt2
          refine ⟨_, rfl, pm, _, 2, _, rfl, rfl, (k1.trans k2).sqt hpm3, rfl, _, rfl, by show 2 ≤ sizeLine; decide, fun t3 nt3 => ?_⟩
          have k3 : Gr (upd (upd H3 t1 (.tup [v1, .non])) t2 (.tup [v2, .int m])) (upd (upd (upd H3 t1 (.tup [v1, .non])) t2 (.tup [v2, .int m])) t3 (.tup [v3, .int m])) := Gr.new nt3
          refine ⟨by show 3 ≤ sizeLine; decide, fun pi npi => ?_⟩
          have k4 := Gr.new (o := .lst [.ref t1, .ref t2, .ref t3]) npi
          have f1 := (k2.trans (k3.trans k4)).tup (upd_same (H := H3) (a := t1) (o := .tup [v1, .non]))
          have f2 := (k3.trans k4).tup (upd_same (H := upd H3 t1 (.tup [v1, .non])) (a := t2) (o := .tup [v2, .int m]))
          have f3 := k4.tup (upd_same (H := upd (upd H3 t1 (.tup [v1, .non])) t2 (.tup [v2, .int m])) (a := t3) (o := .tup [v3, .int m]))
          have kk := k1.trans (k2.trans (k3.trans k4))
          refine rT _ _ _ _ _ _ _ pi [.ref t1, .ref t2, .ref t3] (g13.trans kk) upd_same (by simp) ?_
          intro i x hx
          have c3 : i = 0 ∨ i = 1 ∨ i = 2 := by
            rcases Nat.lt_or_ge i 3 with z | z
            · omega
            · rw [List.getElem?_eq_none (by show 3 ≤ _; exact z)] at hx
              cases hx
          rcases c3 with rfl | rfl | rfl
          · cases hx
            exact ⟨t1, v1, .e e, rfl, .inl (.inl f1), kk.kd.dp d1, ⟨e1, e2⟩, by simp only [Nd.ms]; omega⟩
          · cases hx
            exact ⟨t2, v2, .b a, rfl, .inl (.inl f2), kk.kd.dp d2, oa, by simp only [Nd.ms]; omega⟩
          · cases hx
            exact ⟨t3, v3, .b b, rfl, .inl (.inl f3), kk.kd.dp d3, ob, by simp only [Nd.ms]; omega⟩
end
end SfE

namespace SfE
open PySem PySem.Spec PyProof.Rows L2 SfG
abbrev sExp : Stmt := topS 9
abbrev nExp : List Str := ["_law_state", "_law_counts", "_law_deep", "_law_way", "_law_kind", "_law_number", "_law_thing", "_law_word", "_law_k"]
theorem scExp : FnScope nExp ["_law_state", "_law_counts", "_law_deep"] (defScope sExp) := ⟨rfl, rfl, rfl, by decide +kernel, rfl, by decide +kernel, by decide +kernel⟩
/-! ### Es stay where tuples stay -/
section
variable {K : PySem.W.Frag} {H H' : Hp}
theorem sqt_upd {D : Addr} {l : List V} {o : HO} (hD : H D = some (.lst l)) {a : Addr} {xs : List V} (h : SqT K H a xs) : SqT K (upd H D o) a xs := by
  rcases h with (h | ⟨o', h⟩) | h
  · refine .inl (.inl ((upd_ne fun z => ?_).trans h))
    rw [z, hD] at h
    cases h
  · refine .inl (.inr ⟨o', (upd_ne fun z => ?_).trans h⟩)
    rw [z, hD] at h
    cases h
  · exact .inr h
theorem ex_keep (kt : ∀ {a xs}, SqT K H a xs → SqT K H' a xs) : ∀ (E : Ex) {v : V}, Dp K H v E.d → Dp K H' v E.d
  | .num n, v, h => by
    obtain ⟨p, x, y, rfl, hp, hx, hy⟩ := dp_2 h
    cases dp_str hx
    cases dp_int hy
    exact .tup (kt hp) (.cons (.str _) (.cons (.int _) .nil))
  | .inp k f, v, h => by
    obtain ⟨p, x, y, z, rfl, hp, hx, hy, hz⟩ := dp_3 h
    cases dp_str hx
    cases dp_int hy
    cases dp_int hz
    exact .tup (kt hp) (.cons (.str _) (.cons (.int _) (.cons (.int _) .nil)))
  | .bin w a b, v, h => by
    obtain ⟨p, x, y, z, rfl, hp, hx, hy, hz⟩ := dp_3 h
    cases dp_str hx
    exact .tup (kt hp) (.cons (.str _) (.cons (ex_keep kt a hy) (.cons (ex_keep kt b hz) .nil)))
  | .rst a n, v, h => by
    obtain ⟨p, x, y, z, rfl, hp, hx, hy, hz⟩ := dp_3 h
    cases dp_str hx
    cases dp_int hz
    exact .tup (kt hp) (.cons (.str _) (.cons (ex_keep kt a hy) (.cons (.int _) .nil)))
  | .iff a b c, v, h => by
    obtain ⟨p, x, y, z, u, rfl, hp, hx, hy, hz, hu⟩ := dp_4 h
    cases dp_str hx
    exact .tup (kt hp) (.cons (.str _) (.cons (ex_keep kt a hy) (.cons (ex_keep kt b hz) (.cons (ex_keep kt c hu) .nil))))
theorem exs_keep (kt : ∀ {a xs}, SqT K H a xs → SqT K H' a xs) : ∀ (es : List Ex) {vs : List V}, DpAll K H vs (es.map Ex.d) → DpAll K H' vs (es.map Ex.d)
  | [], vs, h => by
    rw [dpA_nil h]
    exact .nil
  | e :: r, vs, h => by
    obtain ⟨x, r', rfl, hx, hr⟩ := dpA_cons h
    exact .cons (ex_keep kt e hx) (exs_keep kt r hr)
theorem dpA_snoc : ∀ {ds : List PyData} {vs : List V} {v : V} {d : PyData}, DpAll K H vs ds → Dp K H v d → DpAll K H (vs ++ [v]) (ds ++ [d])
  | [], vs, v, d, h, hv => by
    rw [dpA_nil h]
    exact .cons hv .nil
  | a :: r, vs, v, d, h, hv => by
    obtain ⟨x, r', rfl, hx, hr⟩ := dpA_cons h
    exact .cons hx (dpA_snoc hr hv)
end
theorem Drw.ne2 {H : Hp} {p q : Addr} {xs : List V} (d : Drw H p) (h : H q = some (.tup xs)) : q ≠ p := by
  obtain ⟨x, y, e, _⟩ := d
  intro z
  rw [z, e] at h
  cases h
/-- a good E of so many levels -/
def Gd (cs : List Nat) (d : Nat) (e : Ex) : Prop := okE cs e ∧ dep e ≤ d ∧ lvs e ≤ 3 ^ (d - 1)
theorem Gd.mono {cs : List Nat} {d d' : Nat} {e : Ex} (h : Gd cs d e) (hd : d ≤ d') : Gd cs d' e := ⟨h.1, Nat.le_trans h.2.1 hd, Nat.le_trans h.2.2 (Nat.pow_le_pow_right (by decide) (by omega))⟩
theorem pick5 {k a b : Int} (h0 : 0 ≤ k) (h1 : k < 5) (ha : 0 ≤ a ∧ a ≤ 99) (hb : 0 ≤ b ∧ b ≤ 99) : ∃ v : Int, atI [V.int 0, .int 1, .int 99, .int a, .int b] k = some (.int v) ∧ 0 ≤ v ∧ v ≤ 99 := by
  have c : k = 0 ∨ k = 1 ∨ k = 2 ∨ k = 3 ∨ k = 4 := by omega
  rcases c with rfl | rfl | rfl | rfl | rfl
  · exact ⟨0, rfl, by decide, by decide⟩
  · exact ⟨1, rfl, by decide, by decide⟩
  · exact ⟨99, rfl, by decide, by decide⟩
  · exact ⟨a, rfl, ha⟩
  · exact ⟨b, rfl, hb⟩
theorem pick4 {k a b : Int} (h0 : 0 ≤ k) (h1 : k < 4) (ha : 2 ≤ a ∧ a ≤ 99) (hb : 2 ≤ b ∧ b ≤ 99) : ∃ v : Int, atI [V.int 2, .int 99, .int a, .int b] k = some (.int v) ∧ 2 ≤ v ∧ v ≤ 99 := by
  have c : k = 0 ∨ k = 1 ∨ k = 2 ∨ k = 3 := by omega
  rcases c with rfl | rfl | rfl | rfl
  · exact ⟨2, rfl, by decide, by decide⟩
  · exact ⟨99, rfl, by decide, by decide⟩
  · exact ⟨a, rfl, ha⟩
  · exact ⟨b, rfl, hb⟩
theorem pickw {k : Int} (h0 : 0 ≤ k) (h1 : k < 5) : ∃ w : Nat, w ≤ 4 ∧ atI [V.str "plus", .str "less", .str "times", .str "same", .str "under"] k = some (.str (opw w)) := by
  have c : k = 0 ∨ k = 1 ∨ k = 2 ∨ k = 3 ∨ k = 4 := by omega
  rcases c with rfl | rfl | rfl | rfl | rfl
  · exact ⟨0, by decide, rfl⟩
  · exact ⟨1, by decide, rfl⟩
  · exact ⟨2, by decide, rfl⟩
  · exact ⟨3, by decide, rfl⟩
  · exact ⟨4, by decide, rfl⟩
theorem cD_shape (cs : List Nat) : SeqAt.shaped (cD cs) = true := by
  have h1 : PyData.canLayAll0 (cs.map fun (c : Nat) => PyData.int (c : Int)) = true := by
    induction cs with
    | nil => rfl
    | cons a r ih => simp only [List.map_cons, PyData.canLayAll0, PyData.canLay0, ih]; rfl
  have h2 : PyData.depthAll (cs.map fun (c : Nat) => PyData.int (c : Int)) ≤ 1 := by
    clear h1
    induction cs with
    | nil => simp [PyData.depthAll]
    | cons a r ih => simp only [List.map_cons, PyData.depthAll, PyData.depth]; omega
  unfold SeqAt.shaped cD
  rw [PyData.canLay0, h1]
  refine decide_eq_true ?_
  rw [PyData.depth]
  omega
theorem cD_nil (cs : List Nat) : PyData.eqv (cD cs) (.tuple []) = decide (cs = []) := by
  cases cs with
  | nil => rfl
  | cons a r =>
    rw [decide_eq_false (by simp)]
    rfl
section
variable {P : Program} {w : World} {K : PySem.W.Frag} {mg : Str → Option Value} {base : Heap}
def spExp (K : PySem.W.Frag) (n : Nat) : Sp := fun vs H Q _ => ∃ (p : Addr) (c : V) (d : Nat) (cs : List Nat), vs = [.ref p, c, .int d] ∧ Drw H p ∧ Dp K H c (cD cs) ∧ (cs.length ≤ 3 ∧ ∀ x ∈ cs, 1 ≤ x ∧ x ≤ 3) ∧ 1 ≤ d ∧ d ≤ n ∧ n ≤ 8 ∧
  ∀ H' v E, Gp p H H' → Drw H' p → Dp K H' v E.d → Gd cs d E → Q v H'
theorem less_one (p : Addr) (c : V) (d : Nat) : [V.ref p, c, V.int ((d : Int) + 1 - 1)] = [V.ref p, c, V.int d] := by rw [Int.add_sub_cancel]
def ifThen (s : Stmt) : List Stmt := match s with
  | .If _ a _ _ => a
  | _ => []
/-- an E of one level -/
theorem exp_small {f fP : Addr} {fdP : FuncData} {k : Nat} {cdv : Value} {A : Around} {outer : List Env} {s : Shared} {H : Hp} {Q : VK} {E : XK} {p : Addr} {c : V} {d0 : Nat} {cs : List Nat}
    (HP : Has P w K mg base k "_law_pick" ["_law_state", "_law_many"] spPick fP fdP) (ml : mg "len" = none) (hr : Room k (A.deeper (envOfC "_law_expression" (defScope sExp) s.heap.objs.size f cdv)))
    (hcs : cs.length ≤ 3 ∧ ∀ x ∈ cs, 1 ≤ x ∧ x ≤ 3) (hd : 1 ≤ d0) (fin : ∀ H' v E, Gp p H H' → Drw H' p → Dp K H' v E.d → Gd cs d0 E → Q v H') :
    ∃ tb, PSs (cxOf CX0 P w K mg base nExp "_law_expression" (defScope sExp) f cdv A outer s H E).nox (ifThen ((defBody sExp).getD 1 (.Pass ⟨0, 0, 0, 0⟩))) tb ∧
      ∀ (D : Ends) (H1 : Hp) (way : Int) (y4 y5 y6 y7 y8 : Option V), D.rt = Q → Gp p H H1 → Drw H1 p → Dp K H1 c (cD cs) → tb D [some (.ref p), some c, some (.int d0), some (.int way), y4, y5, y6, y7, y8] H1 := by
  have nd := scExp.nd
  refine' ⟨_, pss_cons ?a1 (pss_cons ?a2 (pss_cons ?a3 (pss_one ?a4))), ?rd⟩
  case a1 =>
    exact ps_par (i := 4) (j := 5) rfl nd rfl rfl (by decide) rfl rfl (pa_cons (hcall HP hr (pa_cons (pv 0) (pa_cons pe_int pa_nil))) (pa_cons (hcall HP hr (pa_cons (pv 0) (pa_cons pe_int pa_nil))) pa_nil)) (by rfl)
  case a2 =>
    exact ps_if (PW.pt (pw_or (pt_cmpR (op_eqD hr.units) (pv 1) (pe_tup pa_nil) (nomark _)) (pw_or (pt_cmpR op_eq (pv 4) pe_int (nomark _)) (pw_or1 (pt_cmpR op_eq (pv 3) pe_int (nomark _))))))
      (pss_one (ps_ret (pe_tup (pa_cons pe_str (pa_cons (pe_ix ix_list (pe_lst (pa_cons pe_int (pa_cons pe_int (pa_cons pe_int (pa_cons (pe_op op_mod (pv 5) pe_int) (pa_cons (pv 5) pa_nil)))))) (pv 4) (fun _ _ => rfl)) pa_nil))))) pss_nil
  case a3 =>
    exact ps_set (i := 6) nd rfl (.inl rfl) (pe_op op_mod (pv 5) (pe_callB call_len_seq (by rfl) ml PySem.boot_len (pa_cons (pv 1) pa_nil)))
  case a4 =>
    exact ps_ret (pe_tup (pa_cons pe_str (pa_cons (pv 6) (pa_cons (hcall HP hr (pa_cons (pv 0) (pa_cons (pe_ix ix_tup (pv 1) (pv 6) (fun _ _ => rfl)) pa_nil))) pa_nil))))
  case rd =>
  rintro ⟨nx, rt, bk, ct⟩ H1 way y4 y5 y6 y7 y8 rfl g1 dr1 hc1
  refine ⟨_, rfl, p, 5, rfl, dr1, by decide, by decide, fun H2 kd b2 dr2 k0 k5 => ?_⟩
  refine ⟨_, rfl, p, 100, rfl, dr2, by decide, by decide, fun H3 nu b3 dr3 n0 n1 => ?_⟩
  refine ⟨_, _, rfl, ?_⟩
  have g3 : Gp p H1 H3 := (Gp.but b2).trans (Gp.but b3)
  have hc3 : Dp K H3 c (cD cs) := (dr1.kd g3).dp hc1
  -- counts == ()
  refine ⟨_, rfl, by show 0 ≤ sizeLine; decide, fun p0 np0 => ?_⟩
  have g4 : Gr H3 (upd H3 p0 (.tup [])) := Gr.new np0
  have hc4 : Dp K (upd H3 p0 (.tup [])) c (cD cs) := g4.kd.dp hc3
  refine ⟨cD cs, .tuple [], hc4, .tup (.inl (.inl upd_same)) .nil, cD_shape cs, rfl, _, rfl, ?_⟩
  rw [cD_nil]
  have gp4 : Gp p H (upd H3 p0 (.tup [])) := (g1.trans g3).trans (Gp.gr g4)
  have dr4 : Drw (upd H3 p0 (.tup [])) p := dr3.gr g4
  generalize upd H3 p0 (.tup []) = H4 at g4 hc4 gp4 dr4 ⊢
  have num : tRet (tTup (tCons (tC (.str "number")) (tCons (tOp (rIxL K) (tLst (tCons (tC (.int 0)) (tCons (tC (.int 1)) (tCons (tC (.int 99)) (tCons (tOp (rI (fun _ j => 0 < j) fun i j => .int (i % j)) (tVar 5) (tC (.int 10))) (tCons (tVar 5) tNil)))))) (tVar 4)) tNil)))
      { nx := tSeq (tAsg (tOp (rI (fun _ j => 0 < j) fun i j => .int (i % j)) (tVar 5) (tCB (fun xs H Q => ∃ p ys, xs = [.ref p] ∧ (SqL K H p ys ∨ SqT K H p ys) ∧ Q (.int ys.length) H) (tCons (tVar 1) tNil))) (gName 6)) (tRet (tTup (tCons (tC (.str "in")) (tCons (tVar 6) (tCons (tCall spPick [] E0 (tCons (tVar 0) (tCons (tOp (rIxT K) (tVar 1) (tVar 6)) tNil))) tNil))))) { nx := nx, rt := rt, bk := bk, ct := ct }, rt := rt, bk := bk, ct := ct }
      [some (.ref p), some c, some (.int d0), some (.int way), some (.int kd), some (.int nu), y6, y7, y8] H4 := by
    have hm := Int.emod_nonneg nu (show (10 : Int) ≠ 0 by decide)
    have hm2 := Int.emod_lt_of_pos nu (show (0 : Int) < 10 by decide)
    obtain ⟨v, ev', v0, v1⟩ := pick5 (a := nu % 10) (b := nu) k0 k5 ⟨hm, by omega⟩ ⟨n0, by omega⟩
    refine ⟨_, rfl, nu, 10, rfl, rfl, (by show (0 : Int) < 10; decide), _, rfl, by show 5 ≤ sizeLine; decide, fun pl npl => ?_⟩
    refine ⟨_, rfl, pl, _, kd, .int v, rfl, rfl, .inl (.inl upd_same), ev', by show 2 ≤ sizeLine; decide, fun tp ntp => ?_⟩
    refine fin _ (.ref tp) (.num v) (gp4.trans (Gp.gr ((Gr.new npl).trans (Gr.new ntp)))) (dr4.gr ((Gr.new npl).trans (Gr.new ntp))) (.tup (.inl (.inl upd_same)) (.cons (.str _) (.cons (.int _) .nil))) ⟨⟨v0, v1⟩, hd, Nat.one_le_pow _ _ (by decide)⟩
  cases hcn : decide (cs = []) with
  | true => exact iteT (iteT num)
  | false =>
    have hne : cs ≠ [] := of_decide_eq_false hcn
    refine iteF ⟨_, rfl, rfl, _, rfl, ite2 (fun e => iteT num) (fun e => ⟨_, rfl, rfl, _, rfl, ite2 (fun e => num) (fun e => ?_)⟩)⟩
    obtain ⟨pc, cx, rfl, hpc, hcx⟩ := dp_tup hc4
    have hcl : cx.length = cs.length := by
      have := dpA_len hcx
      rw [List.length_map] at this
      exact this
    have hpos : 0 < cs.length := List.length_pos_iff.mpr hne
    refine ⟨_, rfl, _, rfl, pc, _, rfl, .inr hpc, nu, _, rfl, rfl, (by show (0 : Int) < (cx.length : Int); omega), ?_⟩
    have t0 := Int.emod_nonneg nu (show (cx.length : Int) ≠ 0 by omega)
    have t1 := Int.emod_lt_of_pos nu (show (0 : Int) < (cx.length : Int) by omega)
    change gName 6 (V.int (nu % (cx.length : Int))) _ _ _
    generalize hth : nu % (cx.length : Int) = th at t0 t1 ⊢
    obtain ⟨tn, rfl⟩ : ∃ tn : Nat, th = (tn : Int) := ⟨th.toNat, by omega⟩
    have htl : tn < cs.length := by omega
    obtain ⟨vc, evc, dvc⟩ := dpA_get (i := tn) (d := .int ((cs[tn] : Nat) : Int)) hcx (by rw [List.getElem?_map]; simp [htl])
    cases dp_int dvc
    have hb := hcs.2 cs[tn] (List.getElem_mem htl)
    refine ⟨_, rfl, _, rfl, _, rfl, _, rfl, pc, _, (tn : Int), _, rfl, rfl, hpc, atI_nat evc, p, _, rfl, dr4, by omega, by omega, fun H5 fj b5 dr5 f0 f1 => ?_⟩
    obtain ⟨fn, rfl⟩ : ∃ fn : Nat, fj = (fn : Int) := ⟨fj.toNat, by omega⟩
    refine ⟨by show 3 ≤ sizeLine; decide, fun tp ntp => ?_⟩
    refine fin _ (.ref tp) (.inp tn fn) ((gp4.trans (Gp.but b5)).trans (Gp.gr (Gr.new ntp))) (dr5.gr (Gr.new ntp)) (.tup (.inl (.inl upd_same)) (.cons (.str _) (.cons (.int _) (.cons (.int _) .nil)))) ⟨⟨cs[tn], by simp [htl], by omega⟩, hd, Nat.one_le_pow _ _ (by decide)⟩
set_option maxHeartbeats 4000000 in
theorem ok_exp {f fP : Addr} {fd fdP : FuncData} (F : Fun K "_law_expression" "_law_expression" sExp f fd) (bE : Binds K fd ["_law_state", "_law_counts", "_law_deep"] []) (gE : mg "_law_expression" = some (.ref f))
    (HP : Has P w K mg base 1 "_law_pick" ["_law_state", "_law_many"] spPick fP fdP) (ml : mg "len" = none) (mt : mg "tuple" = none) (mr : mg "range" = none) : ∀ n, FnOk P w K mg base CX0 (n + 2) f fd ["_law_state", "_law_counts", "_law_deep"] (spExp K n)
  | 0 => by
    refine F.ok scExp (fun vs H Q E h => ?_) (fun cdv A outer s H vs Q E hr h => ?_)
    · obtain ⟨p, c, d, cs, rfl, _⟩ := h
      rfl
    · obtain ⟨p, c, d, cs, rfl, _, _, _, h1, h2, _⟩ := h
      omega
  | n + 1 => by
    have GE := ok_exp F bE gE HP ml mt mr n
    refine F.ok scExp (fun vs H Q E h => ?_) (fun cdv A outer s H vs Q E hr h => ?_)
    · obtain ⟨p, c, d, cs, rfl, _⟩ := h
      rfl
    · obtain ⟨p, c, d0, cs, rfl, dr, hc, hcs, hd1', hdn, hn8, fin⟩ := h
      have nd := scExp.nd
      have HP' : Has P w K mg base (n + 2) "_law_pick" ["_law_state", "_law_many"] spPick fP fdP := ⟨HP.ok.mono (by omega), HP.at_, HP.kp, HP.bd⟩
      obtain ⟨tb, db, rb⟩ := exp_small (f := f) (outer := outer) (E := E) (c := c) HP' ml hr hcs hd1' fin
      refine' ⟨_, pss_cons ?s1 (pss_cons ?s2 (pss_cons ?s3 (pss_cons ?s4 (pss_cons ?s5 (pss_one ?s6))))), ?rd⟩
      case s1 =>
        exact ps_set (i := 3) nd rfl (.inl rfl) (hcall HP' hr (pa_cons (pv 0) (pa_cons pe_int pa_nil)))
      case s2 =>
        exact ps_if (PW.pt (pw_or (pt_cmpR op_eq (pv 2) pe_int (nomark _)) (pw_or1 (pt_cmpR op_lt (pv 3) pe_int (nomark _))))) db pss_nil
      case s3 =>
        refine' ps_if (pt_cmpR op_eq (pv 3) pe_int (nomark _)) (pss_cons ?b1 (pss_one ?b2)) pss_nil
        case b1 =>
          exact ps_par (i := 4) (j := 5) rfl nd rfl rfl (by decide) rfl rfl (pa_cons (hcall HP' hr (pa_cons (pv 0) (pa_cons pe_int pa_nil))) (pa_cons (pe_op op_add pe_int (hcall HP' hr (pa_cons (pv 0) (pa_cons pe_int pa_nil)))) pa_nil)) (by rfl)
        case b2 =>
          exact ps_ret (pe_tup (pa_cons pe_str (pa_cons (pe_call GE hr (by rfl) gE F.kp bE .nil pass0 (pa_cons (pv 0) (pa_cons (pv 1) (pa_cons (pe_op op_sub (pv 2) pe_int) pa_nil))))
            (pa_cons (pe_ix ix_list (pe_lst (pa_cons pe_int (pa_cons pe_int (pa_cons (pe_op op_add pe_int (pe_op op_mod (pv 5) pe_int)) (pa_cons (pv 5) pa_nil))))) (pv 4) (fun _ _ => rfl)) pa_nil))))
      case s4 =>
        exact ps_if (pt_cmpR op_eq (pv 3) pe_int (nomark _)) (pss_one (ps_ret (pe_op op_catT (pe_tup (pa_cons pe_str pa_nil)) (pe_callTy call_tuple_of (by rfl) mt (by decide +kernel) (pa_cons (pe_lc (own := [("_law_k", 8)]) (g := gName 8) rfl nd
          (pi_range1 (by rfl) mr (pa_cons pe_int pa_nil)) (blkOk_by (own := [("_law_k", 8)]) (N := nExp) (sc := defScope sExp) (by decide +kernel)) (fun _ _ _ _ _ => pg_name (i := 8) nd rfl (Or.inl rfl)) (fun _ _ _ _ _ => pts_nil)
          (fun _ _ _ _ _ => pe_call GE hr (by rfl) gE F.kp bE .nil pass0 (pa_cons (pv 0) (pa_cons (pv 1) (pa_cons (pe_op op_sub (pv 2) pe_int) pa_nil))))) pa_nil))))) pss_nil
      case s5 =>
        exact ps_set (i := 7) nd rfl (.inl rfl) (pe_ix ix_list (pe_lst (pa_cons pe_str (pa_cons pe_str (pa_cons pe_str (pa_cons pe_str (pa_cons pe_str pa_nil)))))) (pe_op op_sub (pv 3) pe_int) (fun _ _ => rfl))
      case s6 =>
        exact ps_ret (pe_op op_catT (pe_tup (pa_cons (pv 7) pa_nil)) (pe_callTy call_tuple_of (by rfl) mt (by decide +kernel) (pa_cons (pe_lc (own := [("_law_k", 8)]) (g := gName 8) rfl nd
          (pi_range1 (by rfl) mr (pa_cons pe_int pa_nil)) (blkOk_by (own := [("_law_k", 8)]) (N := nExp) (sc := defScope sExp) (by decide +kernel)) (fun _ _ _ _ _ => pg_name (i := 8) nd rfl (Or.inl rfl)) (fun _ _ _ _ _ => pts_nil)
          (fun _ _ _ _ _ => pe_call GE hr (by rfl) gE F.kp bE .nil pass0 (pa_cons (pv 0) (pa_cons (pv 1) (pa_cons (pe_op op_sub (pv 2) pe_int) pa_nil))))) pa_nil)))
      case rd =>
      refine ⟨_, rfl, p, 10, rfl, dr, by decide, by decide, fun H1 way b1 dr1 w0 w10 => ?_⟩
      have gp1 : Gp p H H1 := Gp.but b1
      have hc1 : Dp K H1 c (cD cs) := (dr.kd gp1).dp hc
      refine ⟨_, rfl, rfl, _, rfl, ite2 (fun e => iteT (rb _ H1 way _ _ _ _ _ rfl gp1 dr1 hc1)) (fun e => ?_)⟩
      refine ⟨_, rfl, way, 3, rfl, rfl, _, rfl, ite2 (fun e => rb _ H1 way _ _ _ _ _ rfl gp1 dr1 hc1) (fun e2 => ?_)⟩
      have hd1n : d0 ≠ 1 := fun z => e (decide_eq_true (by rw [z]; rfl))
      obtain ⟨d, rfl⟩ : ∃ d, d0 = d + 1 := ⟨d0 - 1, by omega⟩
      have hd1 : 1 ≤ d := by omega
      have hw3 : ¬ way < 3 := of_decide_eq_false (by simpa using e2)
      have cast : ∀ {g : Prop}, g → g := fun h => h
      -- way == 3
      refine ⟨_, rfl, rfl, _, rfl, ite2 (fun e3 => ?_) (fun e3 => ?_)⟩
      · refine ⟨_, rfl, p, 4, rfl, dr1, by decide, by decide, fun H2 kd b2 dr2 k0 k4 => ?_⟩
        refine ⟨_, rfl, p, 98, rfl, dr2, by decide, by decide, fun H3 nu b3 dr3 n0 n98 => ?_⟩
        refine ⟨2, nu, rfl, rfl, _, _, rfl, ?_⟩
        have g3 : Gp p H1 H3 := (Gp.but b2).trans (Gp.but b3)
        have hc3 : Dp K H3 c (cD cs) := (dr1.kd g3).dp hc1
        refine ⟨_, rfl, _, rfl, _, rfl, (d : Int) + 1, 1, rfl, rfl, p, c, d, cs, less_one p c d, dr3, hc3, hcs, hd1, by omega, by omega, fun H4 v e g4 dr4 hv he => ?_⟩
        have m0 := Int.emod_nonneg (2 + nu) (show (8 : Int) ≠ 0 by decide)
        have m1 := Int.emod_lt_of_pos (2 + nu) (show (0 : Int) < 8 by decide)
        obtain ⟨u, eu, u0, u1⟩ := pick4 (a := 2 + (2 + nu) % 8) (b := 2 + nu) k0 k4 ⟨by omega, by omega⟩ ⟨by omega, by omega⟩
        refine ⟨_, rfl, 2 + nu, 8, rfl, rfl, (by show (0 : Int) < 8; decide), 2, _, rfl, rfl, _, rfl, by show 4 ≤ sizeLine; decide, fun pl npl => ?_⟩
        refine ⟨_, rfl, pl, _, kd, .int u, rfl, rfl, .inl (.inl upd_same), eu, by show 3 ≤ sizeLine; decide, fun tp ntp => ?_⟩
        have gg := (Gr.new (o := .lst [.int 2, .int 99, .int (2 + (2 + nu) % 8), .int (2 + nu)]) npl).trans (Gr.new (o := .tup [.str "rest", v, .int u]) ntp)
        refine fin _ (.ref tp) (.rst e u) (((gp1.trans g3).trans g4).trans (Gp.gr gg)) (dr4.gr gg) (.tup (.inl (.inl upd_same)) (.cons (.str _) (.cons (gg.kd.dp hv) (.cons (.int _) .nil)))) ⟨⟨u0, u1, he.1⟩, ?_, ?_⟩
        · have := he.2.1
          simp only [dep]
          omega
        · exact Nat.le_trans he.2.2 (Nat.pow_le_pow_right (by decide) (by omega))
      -- way == 4
      refine ⟨_, rfl, rfl, _, rfl, ite2 (fun e4 => ?_) (fun e4 => ?_)⟩
      · refine ⟨by show 1 ≤ sizeLine; decide, fun t1 nt1 => ?_⟩
        have gt : Gr H1 (upd H1 t1 (.tup [.str "if"])) := Gr.new nt1
        have ht1 : upd H1 t1 (.tup [.str "if"]) t1 = some (.tup [.str "if"]) := upd_same
        have dr6 : Drw (upd H1 t1 (.tup [.str "if"])) p := dr1.gr gt
        have hc6 : Dp K (upd H1 t1 (.tup [.str "if"])) c (cD cs) := gt.kd.dp hc1
        have gp6 : Gp p H (upd H1 t1 (.tup [.str "if"])) := gp1.trans (Gp.gr gt)
        generalize upd H1 t1 (.tup [.str "if"]) = H6 at gt ht1 dr6 hc6 gp6 ⊢
        refine ⟨3, rfl, by decide, by decide, fun D nD => ?_⟩
        have nDp : D ≠ p := dr6.ne nD
        refine lc_it (walk_range (lo := 0) (n := 3)) (fun i H7 => ∃ (es : List Ex) (vs : List V), H7 D = some (.lst vs) ∧ es.length = i ∧ DpAll K H7 vs (es.map Ex.d) ∧ (∀ e ∈ es, Gd cs d e) ∧ Gp p H6 H7 ∧ Drw H7 p) ?z0 (fun _ _ _ _ => trivial) ?z2 ?z3
        case z0 => exact ⟨[], [], upd_same, rfl, .nil, fun e he => (by cases he), Gp.gr (Gr.new nD), dr6.new nD⟩
        case z2 =>
          rintro i x H7 H7' hi ⟨es, vs, hD, hl, hv, hg, g7, dr7⟩ ⟨rfl, rfl⟩
          refine ⟨rfl, ?_⟩
          unfold tYes
          refine iteT ⟨_, rfl, _, rfl, _, rfl, (d : Int) + 1, 1, rfl, rfl, p, c, d, cs, less_one p c d, dr7, (dr6.kd g7).dp hc6, hcs, hd1, by omega, by omega, fun H8 v e g8 dr8 hv8 hg8 => ?_⟩
          have hD8 : H8 D = some (.lst vs) := g8.lst nDp hD
          refine ⟨vs, hD8, ?_, es ++ [e], vs ++ [v], upd_same, ?_, ?_, ?_, ?_, ?_⟩
          · have := dpA_len hv
            rw [List.length_map] at this
            exact small1000 (by omega)
          · rw [List.length_append, hl]
            rfl
          · rw [List.map_append]
            exact dpA_snoc (exs_keep (sqt_upd hD8) _ ((dr7.kd g8).dpA hv)) (ex_keep (sqt_upd hD8) e hv8)
          · intro e' he
            rcases List.mem_append.mp he with h | h
            · exact hg e' h
            · rw [show e' = e by simpa using h]
              exact hg8
          · exact Gp.upd_new (g7.trans g8) nD
          · exact dr8.upd nDp
        case z3 =>
        rintro H7 ⟨es, vs, hD, hl, hv, hg, g7, dr7⟩
        refine ⟨D, vs, rfl, .inl ⟨.inl (.inl hD), fun tq ntq => ?_⟩⟩
        have g8 : Gr H7 (upd H7 tq (.tup vs)) := Gr.new ntq
        have ht1' := g8.tup (g7.keep t1 _ (dr6.ne2 ht1) ht1 (fun _ z => by cases z))
        have hvl : vs.length = 3 := by
          have := dpA_len hv
          rw [List.length_map] at this
          omega
        refine ⟨t1, tq, _, vs, rfl, rfl, .inl (.inl ht1'), .inl (.inl upd_same), by simp, ?_, fun z => ?_, fun _ p2 np2 => ?_⟩
        · show 1 + vs.length ≤ sizeLine
          rw [hvl]
          decide
        · rw [z] at hvl
          cases hvl
        obtain ⟨a, b, d', rfl⟩ : ∃ a b d', es = [a, b, d'] := by
          match es, hl with
          | [a, b, d'], _ => exact ⟨a, b, d', rfl⟩
        have ha := hg a (by simp)
        have hb := hg b (by simp)
        have hd' := hg d' (by simp)
        have g9 : Gr H7 (upd (upd H7 tq (.tup vs)) p2 (.tup ([.str "if"] ++ vs))) := g8.trans (Gr.new np2)
        refine fin _ (.ref p2) (.iff a b d') ((gp6.trans g7).trans (Gp.gr g9)) (dr7.gr g9) (.tup (.inl (.inl upd_same)) (.cons (.str _) (g9.kd.dpA hv))) ⟨⟨ha.1, hb.1, hd'.1⟩, ?_, ?_⟩
        · have := ha.2.1
          have := hb.2.1
          have := hd'.2.1
          simp only [dep]
          omega
        · have := ha.2.2
          have := hb.2.2
          have := hd'.2.2
          obtain ⟨d2, rfl⟩ : ∃ d2, d = d2 + 1 := ⟨d - 1, by omega⟩
          simp only [lvs, Nat.add_sub_cancel, Nat.pow_succ] at *
          omega
      -- the others
      have e3' : way ≠ 3 := fun z => e3 (decide_eq_true (by rw [z]))
      have e4' : way ≠ 4 := fun z => e4 (decide_eq_true (by rw [z]))
      obtain ⟨wo, hwo, ewo⟩ := pickw (k := way - 5) (by omega) (by omega)
      refine ⟨by show 5 ≤ sizeLine; decide, fun pl npl => ?_⟩
      refine ⟨_, rfl, way, 5, rfl, rfl, pl, _, way - 5, .str (opw wo), rfl, rfl, .inl (.inl upd_same), ewo, ?_⟩
      have gl : Gr H1 (upd H1 pl (.lst [.str "plus", .str "less", .str "times", .str "same", .str "under"])) := Gr.new npl
      generalize upd H1 pl (.lst [.str "plus", .str "less", .str "times", .str "same", .str "under"]) = H5 at gl ⊢
      · refine ⟨_, rfl, by show 1 ≤ sizeLine; decide, fun t1 nt1 => ?_⟩
        have gt : Gr H1 (upd H5 t1 (.tup [.str (opw wo)])) := gl.trans (Gr.new nt1)
        have ht1 : upd H5 t1 (.tup [.str (opw wo)]) t1 = some (.tup [.str (opw wo)]) := upd_same
        have dr6 : Drw (upd H5 t1 (.tup [.str (opw wo)])) p := dr1.gr gt
        have hc6 : Dp K (upd H5 t1 (.tup [.str (opw wo)])) c (cD cs) := gt.kd.dp hc1
        have gp6 : Gp p H (upd H5 t1 (.tup [.str (opw wo)])) := gp1.trans (Gp.gr gt)
        generalize upd H5 t1 (.tup [.str (opw wo)]) = H6 at gt ht1 dr6 hc6 gp6 ⊢
        refine ⟨2, rfl, by decide, by decide, fun D nD => ?_⟩
        have nDp : D ≠ p := dr6.ne nD
        refine lc_it (walk_range (lo := 0) (n := 2)) (fun i H7 => ∃ (es : List Ex) (vs : List V), H7 D = some (.lst vs) ∧ es.length = i ∧ DpAll K H7 vs (es.map Ex.d) ∧ (∀ e ∈ es, Gd cs d e) ∧ Gp p H6 H7 ∧ Drw H7 p) ?z0 (fun _ _ _ _ => trivial) ?z2 ?z3
        case z0 => exact ⟨[], [], upd_same, rfl, .nil, fun e he => (by cases he), Gp.gr (Gr.new nD), dr6.new nD⟩
        case z2 =>
          rintro i x H7 H7' hi ⟨es, vs, hD, hl, hv, hg, g7, dr7⟩ ⟨rfl, rfl⟩
          refine ⟨rfl, ?_⟩
          unfold tYes
          refine iteT ⟨_, rfl, _, rfl, _, rfl, (d : Int) + 1, 1, rfl, rfl, p, c, d, cs, less_one p c d, dr7, (dr6.kd g7).dp hc6, hcs, hd1, by omega, by omega, fun H8 v e g8 dr8 hv8 hg8 => ?_⟩
          have hD8 : H8 D = some (.lst vs) := g8.lst nDp hD
          refine ⟨vs, hD8, ?_, es ++ [e], vs ++ [v], upd_same, ?_, ?_, ?_, ?_, ?_⟩
          · have := dpA_len hv
            rw [List.length_map] at this
            exact small1000 (by omega)
          · rw [List.length_append, hl]
            rfl
          · rw [List.map_append]
            exact dpA_snoc (exs_keep (sqt_upd hD8) _ ((dr7.kd g8).dpA hv)) (ex_keep (sqt_upd hD8) e hv8)
          · intro e' he
            rcases List.mem_append.mp he with h | h
            · exact hg e' h
            · rw [show e' = e by simpa using h]
              exact hg8
          · exact Gp.upd_new (g7.trans g8) nD
          · exact dr8.upd nDp
        case z3 =>
        rintro H7 ⟨es, vs, hD, hl, hv, hg, g7, dr7⟩
        refine ⟨D, vs, rfl, .inl ⟨.inl (.inl hD), fun tq ntq => ?_⟩⟩
        have g8 : Gr H7 (upd H7 tq (.tup vs)) := Gr.new ntq
        have ht1' := g8.tup (g7.keep t1 _ (dr6.ne2 ht1) ht1 (fun _ z => by cases z))
        have hvl : vs.length = 2 := by
          have := dpA_len hv
          rw [List.length_map] at this
          omega
        refine ⟨t1, tq, _, vs, rfl, rfl, .inl (.inl ht1'), .inl (.inl upd_same), by simp, ?_, fun z => ?_, fun _ p2 np2 => ?_⟩
        · show 1 + vs.length ≤ sizeLine
          rw [hvl]
          decide
        · rw [z] at hvl
          cases hvl
        obtain ⟨a, b, rfl⟩ : ∃ a b, es = [a, b] := by
          match es, hl with
          | [a, b], _ => exact ⟨a, b, rfl⟩
        have ha := hg a (by simp)
        have hb := hg b (by simp)
        have g9 : Gr H7 (upd (upd H7 tq (.tup vs)) p2 (.tup ([.str (opw wo)] ++ vs))) := g8.trans (Gr.new np2)
        refine fin _ (.ref p2) (.bin wo a b) ((gp6.trans g7).trans (Gp.gr g9)) (dr7.gr g9) (.tup (.inl (.inl upd_same)) (.cons (.str _) (g9.kd.dpA hv))) ⟨⟨hwo, ha.1, hb.1⟩, ?_, ?_⟩
        · have := ha.2.1
          have := hb.2.1
          simp only [dep]
          omega
        · have := ha.2.2
          have := hb.2.2
          obtain ⟨d2, rfl⟩ : ∃ d2, d = d2 + 1 := ⟨d - 1, by omega⟩
          simp only [lvs, Nat.add_sub_cancel, Nat.pow_succ] at *
          omega
end
end SfE

namespace SfE
open PySem PySem.Spec PyProof.Rows L2 SfG
abbrev sBod : Stmt := topS 10
abbrev nBod : List Str := ["_law_state", "_law_counts", "_law_many", "_law_deep", "_law_way", "_law_found", "_law_ahead", "_law_first", "_law_k"]
theorem scBod : FnScope nBod ["_law_state", "_law_counts", "_law_many", "_law_deep"] (defScope sBod) := ⟨rfl, rfl, rfl, by decide +kernel, rfl, by decide +kernel, by decide +kernel⟩
theorem pow_ok {a b : Nat} (h : b ≤ 9) (h2 : a ≤ b) : a ≤ 9 := Nat.le_trans h2 h
theorem less_one4 (p : Addr) (c : V) (m d : Nat) : [V.ref p, c, V.int m, V.int ((d : Int) + 1 - 1)] = [V.ref p, c, V.int m, V.int d] := by rw [Int.add_sub_cancel]
section
variable {P : Program} {w : World} {K : PySem.W.Frag} {mg : Str → Option Value} {base : Heap}
def spBod (K : PySem.W.Frag) (n : Nat) : Sp := fun vs H Q _ => ∃ (p : Addr) (c : V) (m d : Nat) (cs : List Nat), vs = [.ref p, c, .int m, .int d] ∧ Drw H p ∧ Dp K H c (cD cs) ∧ (cs.length ≤ 3 ∧ ∀ x ∈ cs, 1 ≤ x ∧ x ≤ 3) ∧ 1 ≤ m ∧ m ≤ 3 ∧ 1 ≤ d ∧ d ≤ n ∧ n ≤ 4 ∧
  ∀ H' v B, Gp p H H' → Drw H' p → Dp K H' v B.d → okB cs 3 m B → depB B ≤ d → Q v H'
theorem bod_tail {f fE fL : Addr} {fdE fdL : FuncData} {k : Nat} {cdv : Value} {A : Around} {outer : List Env} {s : Shared} {H : Hp} {Q : VK} {E : XK} {p : Addr} {c : V} {m d : Nat} {cs : List Nat}
    (HE : Has P w K mg base k "_law_expression" ["_law_state", "_law_counts", "_law_deep"] (spExp K 3) fE fdE) (HL : Has P w K mg base k "_law_looked" ["_law_thing", "_law_counts", "_law_many"] (spLook K 7) fL fdL)
    (mt : mg "tuple" = none) (mr : mg "range" = none) (hr : Room k (A.deeper (envOfC "_law_body" (defScope sBod) s.heap.objs.size f cdv)))
    (hcs : cs.length ≤ 3 ∧ ∀ x ∈ cs, 1 ≤ x ∧ x ≤ 3) (hm1 : 1 ≤ m) (hm : m ≤ 3) (hd : 1 ≤ d) (hd4 : d ≤ 4) (fin : ∀ H' v B, Gp p H H' → Drw H' p → Dp K H' v B.d → okB cs 3 m B → depB B ≤ d → Q v H') :
    ∃ tt, PSs (cxOf CX0 P w K mg base nBod "_law_body" (defScope sBod) f cdv A outer s H E).nox ((defBody sBod).drop 4) tt ∧
      ∀ (H1 : Hp) (vf : V) (B : Bd) (y4 y6 y7 y8 : Option V), Gp p H H1 → Drw H1 p → Dp K H1 c (cD cs) → Dp K H1 vf B.d → okB cs 3 m B → depB B ≤ d →
        tt { nx := fun _ H' => Q .non H', rt := Q } [some (.ref p), some c, some (.int m), some (.int d), y4, some vf, y6, y7, y8] H1 := by
  have nd := scBod.nd
  refine' ⟨_, pss_cons ?s1 (pss_one ?s2), ?rd⟩
  case s1 =>
    exact ps_if (pt_cmpR op_lt (pe_ix ix_tup (hcall HL hr (pa_cons (pv 5) (pa_cons (pv 1) (pa_cons (pv 2) pa_nil)))) pe_int (fun _ _ => rfl)) pe_int (nomark _)) (pss_one (ps_ret (pv 5))) pss_nil
  case s2 =>
    exact ps_ret (pe_tup (pa_cons pe_str (pa_cons (pe_callTy call_tuple_of (by rfl) mt (by decide +kernel) (pa_cons (pe_lc (own := [("_law_k", 8)]) (g := gName 8) rfl nd
      (pi_range1 (by rfl) mr (pa_cons (pv 2) pa_nil)) (blkOk_by (own := [("_law_k", 8)]) (N := nBod) (sc := defScope sBod) (by decide +kernel)) (fun _ _ _ _ _ => pg_name (i := 8) nd rfl (Or.inl rfl)) (fun _ _ _ _ _ => pts_nil)
      (fun _ _ _ _ _ => hcall HE hr (pa_cons (pv 0) (pa_cons (pv 1) (pa_cons pe_int pa_nil))))) pa_nil)) pa_nil)))
  case rd =>
  intro H1 vf B y4 y6 y7 y8 g1 dr1 hc1 hf hB hdB
  refine ⟨_, rfl, _, rfl, _, rfl, vf, c, .b B, cs, 3, m, rfl, hf, hc1, hB, by simp only [Nd.ms]; omega, by decide, by decide, by omega, fun H2 pt a b g2 hpt => ?_⟩
  refine ⟨pt, _, 0, .int a, rfl, rfl, .inl (.inl hpt), rfl, a, 61, rfl, rfl, _, rfl, ite2 (fun e => ?_) (fun e => ?_)⟩
  · exact ⟨_, rfl, fin H2 vf B (g1.trans (Gp.gr g2)) (dr1.gr g2) (g2.kd.dp hf) hB hdB⟩
  have dr2 := dr1.gr g2
  have hc2 : Dp K H2 c (cD cs) := g2.kd.dp hc1
  refine ⟨_, rfl, ?_⟩
  refine ⟨m, rfl, by omega, by omega, fun D nD => ?_⟩
  have nDp : D ≠ p := dr2.ne nD
  refine lc_it (walk_range (lo := 0) (n := (m : Int).toNat)) (fun i H7 => ∃ (es : List Ex) (vs : List V), H7 D = some (.lst vs) ∧ es.length = i ∧ DpAll K H7 vs (es.map Ex.d) ∧ (∀ e ∈ es, Gd cs 1 e) ∧ Gp p H2 H7 ∧ Drw H7 p) ?z0 (fun _ _ _ _ => trivial) ?z2 ?z3
  case z0 => exact ⟨[], [], upd_same, rfl, .nil, fun e he => (by cases he), Gp.gr (Gr.new nD), dr2.new nD⟩
  case z2 =>
    rintro i x H7 H7' hi ⟨es, vs, hD, hl, hv, hg, g7, dr7⟩ ⟨rfl, rfl⟩
    refine ⟨rfl, ?_⟩
    unfold tYes
    refine iteT ⟨_, rfl, _, rfl, p, c, 1, cs, rfl, dr7, (dr2.kd g7).dp hc2, hcs, by decide, by decide, by decide, fun H8 v e g8 dr8 hv8 hg8 => ?_⟩
    have hD8 : H8 D = some (.lst vs) := g8.lst nDp hD
    refine ⟨vs, hD8, ?_, es ++ [e], vs ++ [v], upd_same, ?_, ?_, ?_, ?_, ?_⟩
    · have := dpA_len hv
      rw [List.length_map] at this
      exact small1000 (by omega)
    · rw [List.length_append, hl]
      rfl
    · rw [List.map_append]
      exact dpA_snoc (exs_keep (sqt_upd hD8) _ ((dr7.kd g8).dpA hv)) (ex_keep (sqt_upd hD8) e hv8)
    · intro e' he
      rcases List.mem_append.mp he with h | h
      · exact hg e' h
      · rw [show e' = e by simpa using h]
        exact hg8
    · exact Gp.upd_new (g7.trans g8) nD
    · exact dr8.upd nDp
  case z3 =>
  rintro H7 ⟨es, vs, hD, hl, hv, hg, g7, dr7⟩
  refine ⟨D, vs, rfl, .inl ⟨.inl (.inl hD), fun tq ntq => ?_⟩⟩
  refine ⟨by show 2 ≤ sizeLine; decide, fun tp ntp => ?_⟩
  have g8 : Gr H7 (upd (upd H7 tq (.tup vs)) tp (.tup [.str "give", .ref tq])) := (Gr.new ntq).trans (Gr.new ntp)
  have htq : upd (upd H7 tq (.tup vs)) tp (.tup [.str "give", .ref tq]) tq = some (.tup vs) := (Gr.new ntp).tup upd_same
  have hel : es.length = m := by
    rw [hl]
    exact Int.toNat_natCast m
  have hB : okB cs 3 m (.giv es) := ⟨hel, fun e he => ⟨(hg e he).1, by have := (hg e he).2.1; omega, pow_ok (by decide) (hg e he).2.2⟩⟩
  have hdp : Dp K (upd (upd H7 tq (.tup vs)) tp (.tup [.str "give", .ref tq])) (.ref tp) (Bd.giv es).d := .tup (.inl (.inl upd_same)) (.cons (.str _) (.cons (.tup (.inl (.inl htq)) (g8.kd.dpA hv)) .nil))
  exact fin _ (.ref tp) (.giv es) (((g1.trans (Gp.gr g2)).trans g7).trans (Gp.gr g8)) (dr7.gr g8) hdp hB (by simp only [depB]; exact hd)
set_option maxHeartbeats 4000000 in
theorem ok_bod {f fP fE fL : Addr} {fd fdP fdE fdL : FuncData} (F : Fun K "_law_body" "_law_body" sBod f fd) (bB : Binds K fd ["_law_state", "_law_counts", "_law_many", "_law_deep"] []) (gB : mg "_law_body" = some (.ref f))
    (HP : Has P w K mg base 1 "_law_pick" ["_law_state", "_law_many"] spPick fP fdP) (HE : Has P w K mg base 9 "_law_expression" ["_law_state", "_law_counts", "_law_deep"] (spExp K 3) fE fdE)
    (HL : Has P w K mg base 9 "_law_looked" ["_law_thing", "_law_counts", "_law_many"] (spLook K 7) fL fdL) (mt : mg "tuple" = none) (mr : mg "range" = none) :
    ∀ n, FnOk P w K mg base CX0 (n + 10) f fd ["_law_state", "_law_counts", "_law_many", "_law_deep"] (spBod K n)
  | 0 => by
    refine F.ok scBod (fun vs H Q E h => ?_) (fun cdv A outer s H vs Q E hr h => ?_)
    · obtain ⟨p, c, m, d, cs, rfl, _⟩ := h
      rfl
    · obtain ⟨p, c, m, d, cs, rfl, _, _, _, _, _, h1, h2, _⟩ := h
      omega
  | n + 1 => by
    have GB := ok_bod F bB gB HP HE HL mt mr n
    refine F.ok scBod (fun vs H Q E h => ?_) (fun cdv A outer s H vs Q E hr h => ?_)
    · obtain ⟨p, c, m, d, cs, rfl, _⟩ := h
      rfl
    · obtain ⟨p, c, m, d, cs, rfl, dr, hc, hcs, hm1, hm, hd1, hdn, hn4, fin⟩ := h
      have nd := scBod.nd
      have HP' : Has P w K mg base (n + 10) "_law_pick" ["_law_state", "_law_many"] spPick fP fdP := ⟨HP.ok.mono (by omega), HP.at_, HP.kp, HP.bd⟩
      have HE' : Has P w K mg base (n + 10) "_law_expression" ["_law_state", "_law_counts", "_law_deep"] (spExp K 3) fE fdE := ⟨HE.ok.mono (by omega), HE.at_, HE.kp, HE.bd⟩
      have HL' : Has P w K mg base (n + 10) "_law_looked" ["_law_thing", "_law_counts", "_law_many"] (spLook K 7) fL fdL := ⟨HL.ok.mono (by omega), HL.at_, HL.kp, HL.bd⟩
      obtain ⟨tt, dT, rT⟩ := bod_tail (f := f) (outer := outer) (E := E) (c := c) HE' HL' mt mr hr hcs hm1 hm hd1 (show d ≤ 4 by omega) fin
      refine' ⟨_, pss_cons ?s1 (pss_cons ?s2 (pss_cons ?s3 (pss_cons ?s4 dT))), ?rd⟩
      case s1 =>
        exact ps_set (i := 4) nd rfl (.inl rfl) (hcall HP' hr (pa_cons (pv 0) (pa_cons pe_int pa_nil)))
      case s2 =>
        exact ps_if (pt_cmpR op_eq (pv 4) pe_int (nomark _)) (pss_one (ps_ret (pe_tup (pa_cons pe_str pa_nil)))) pss_nil
      case s3 =>
        exact ps_set (i := 5) nd rfl (.inl rfl) (pe_tup (pa_cons pe_str (pa_cons (pe_callTy call_tuple_of (by rfl) mt (by decide +kernel) (pa_cons (pe_lc (own := [("_law_k", 8)]) (g := gName 8) rfl nd
          (pi_range1 (by rfl) mr (pa_cons (pv 2) pa_nil)) (blkOk_by (own := [("_law_k", 8)]) (N := nBod) (sc := defScope sBod) (by decide +kernel)) (fun _ _ _ _ _ => pg_name (i := 8) nd rfl (Or.inl rfl)) (fun _ _ _ _ _ => pts_nil)
          (fun _ _ _ _ _ => hcall HE' hr (pa_cons (pv 0) (pa_cons (pv 1) (pa_cons pe_int pa_nil))))) pa_nil)) pa_nil)))
      case s4 =>
        exact ps_if (PW.pt (pw_and (pt_cmpR op_lt (pv 4) pe_int (nomark _)) (pw_and1 (pt_cmpR op_gt (pv 3) pe_int (nomark _)))))
          (pss_cons (ps_set (i := 6) nd rfl (.inl rfl) (hcall HE' hr (pa_cons (pv 0) (pa_cons (pv 1) (pa_cons pe_int pa_nil)))))
          (pss_cons (ps_set (i := 7) nd rfl (.inl rfl) (pe_call GB hr (by rfl) gB F.kp bB .nil pass0 (pa_cons (pv 0) (pa_cons (pv 1) (pa_cons (pv 2) (pa_cons (pe_op op_sub (pv 3) pe_int) pa_nil))))))
          (pss_one (ps_set (i := 5) nd rfl (.inl rfl) (pe_tup (pa_cons pe_str (pa_cons (pv 6) (pa_cons (pv 7) (pa_cons (pe_call GB hr (by rfl) gB F.kp bB .nil pass0 (pa_cons (pv 0) (pa_cons (pv 1) (pa_cons (pv 2) (pa_cons (pe_op op_sub (pv 3) pe_int) pa_nil))))) pa_nil))))))))) pss_nil
      case rd =>
      refine ⟨_, rfl, p, 8, rfl, dr, by decide, by decide, fun H1 way b1 dr1 w0 w8 => ?_⟩
      have g1 : Gp p H H1 := Gp.but b1
      have hc1 : Dp K H1 c (cD cs) := (dr.kd g1).dp hc
      refine ⟨_, rfl, rfl, _, rfl, ite2 (fun e => ?_) (fun e => ?_)⟩
      · refine ⟨by show 1 ≤ sizeLine; decide, fun tp ntp => ?_⟩
        exact fin _ (.ref tp) .ref (g1.trans (Gp.gr (Gr.new ntp))) (dr1.gr (Gr.new ntp)) (.tup (.inl (.inl upd_same)) (.cons (.str _) .nil)) trivial hd1
      refine ⟨_, rfl, ?_⟩
      refine ⟨m, rfl, by omega, by omega, fun D nD => ?_⟩
      have nDp : D ≠ p := dr1.ne nD
      refine lc_it (walk_range (lo := 0) (n := (m : Int).toNat)) (fun i H7 => ∃ (es : List Ex) (vs : List V), H7 D = some (.lst vs) ∧ es.length = i ∧ DpAll K H7 vs (es.map Ex.d) ∧ (∀ e ∈ es, Gd cs 3 e) ∧ Gp p H1 H7 ∧ Drw H7 p) ?z0 (fun _ _ _ _ => trivial) ?z2 ?z3
      case z0 => exact ⟨[], [], upd_same, rfl, .nil, fun e he => (by cases he), Gp.gr (Gr.new nD), dr1.new nD⟩
      case z2 =>
        rintro i x H7 H7' hi ⟨es, vs, hD, hl, hv, hg, g7, dr7⟩ ⟨rfl, rfl⟩
        refine ⟨rfl, ?_⟩
        unfold tYes
        refine iteT ⟨_, rfl, _, rfl, p, c, 3, cs, rfl, dr7, (dr1.kd g7).dp hc1, hcs, by decide, by decide, by decide, fun H8 v e g8 dr8 hv8 hg8 => ?_⟩
        have hD8 : H8 D = some (.lst vs) := g8.lst nDp hD
        refine ⟨vs, hD8, ?_, es ++ [e], vs ++ [v], upd_same, ?_, ?_, ?_, ?_, ?_⟩
        · have := dpA_len hv
          rw [List.length_map] at this
          exact small1000 (by omega)
        · rw [List.length_append, hl]
          rfl
        · rw [List.map_append]
          exact dpA_snoc (exs_keep (sqt_upd hD8) _ ((dr7.kd g8).dpA hv)) (ex_keep (sqt_upd hD8) e hv8)
        · intro e' he
          rcases List.mem_append.mp he with h | h
          · exact hg e' h
          · rw [show e' = e by simpa using h]
            exact hg8
        · exact Gp.upd_new (g7.trans g8) nD
        · exact dr8.upd nDp
      case z3 =>
      rintro H7 ⟨es, vs, hD, hl, hv, hg, g7, dr7⟩
      refine ⟨D, vs, rfl, .inl ⟨.inl (.inl hD), fun tq ntq => ?_⟩⟩
      refine ⟨by show 2 ≤ sizeLine; decide, fun tp ntp => ?_⟩
      have g8 : Gr H7 (upd (upd H7 tq (.tup vs)) tp (.tup [.str "give", .ref tq])) := (Gr.new ntq).trans (Gr.new ntp)
      have htq : upd (upd H7 tq (.tup vs)) tp (.tup [.str "give", .ref tq]) tq = some (.tup vs) := (Gr.new ntp).tup upd_same
      have hel : es.length = m := by
        rw [hl]
        exact Int.toNat_natCast m
      have hB : okB cs 3 m (.giv es) := ⟨hel, fun e he => ⟨(hg e he).1, by have := (hg e he).2.1; omega, pow_ok (by decide) (hg e he).2.2⟩⟩
      have hdp : Dp K (upd (upd H7 tq (.tup vs)) tp (.tup [.str "give", .ref tq])) (.ref tp) (Bd.giv es).d := .tup (.inl (.inl upd_same)) (.cons (.str _) (.cons (.tup (.inl (.inl htq)) (g8.kd.dpA hv)) .nil))
      have gp8 : Gp p H (upd (upd H7 tq (.tup vs)) tp (.tup [.str "give", .ref tq])) := (g1.trans g7).trans (Gp.gr g8)
      have dr8 := dr7.gr g8
      have hc8 : Dp K (upd (upd H7 tq (.tup vs)) tp (.tup [.str "give", .ref tq])) c (cD cs) := (dr.kd gp8).dp hc
      generalize upd (upd H7 tq (.tup vs)) tp (.tup [.str "give", .ref tq]) = H8 at hdp gp8 dr8 hc8 ⊢
      refine ⟨_, rfl, way, 4, rfl, rfl, _, rfl, ite2 (fun e4 => ?_) (fun e4 => iteF ?_)⟩
      · refine ⟨_, rfl, d, 1, rfl, rfl, _, rfl, ite2 (fun e5 => ?_) (fun e5 => ?_)⟩
        · have hd2 : (d : Int) > 1 := of_decide_eq_true e5
          obtain ⟨d', rfl⟩ : ∃ d', d = d' + 1 := ⟨d - 1, by omega⟩
          refine ⟨_, rfl, _, rfl, p, c, 2, cs, rfl, dr8, hc8, hcs, by decide, by decide, by decide, fun H9 va ea g9 dr9 hva hga => ?_⟩
          have hc9 := (dr8.kd g9).dp hc8
          refine ⟨_, rfl, _, rfl, _, rfl, _, rfl, (d' : Int) + 1, 1, rfl, rfl, p, c, m, d', cs, less_one4 p c m d', dr9, hc9, hcs, hm1, hm, by omega, by omega, by omega, fun H10 vb Bb g10 dr10 hvb oBb dBb => ?_⟩
          have hc10 := (dr9.kd g10).dp hc9
          refine ⟨_, rfl, _, rfl, _, rfl, _, rfl, _, rfl, _, rfl, (d' : Int) + 1, 1, rfl, rfl, p, c, m, d', cs, less_one4 p c m d', dr10, hc10, hcs, hm1, hm, by omega, by omega, by omega, fun H11 vc Bc g11 dr11 hvc oBc dBc => ?_⟩
          refine ⟨by show 4 ≤ sizeLine; decide, fun tw ntw => ?_⟩
          have gw : Gr H11 (upd H11 tw (.tup [.str "when", va, vb, vc])) := Gr.new ntw
          have hva11 := (dr10.kd g11).dp ((dr9.kd g10).dp hva)
          have hvb11 := (dr10.kd g11).dp hvb
          refine rT _ (.ref tw) (.whn ea Bb Bc) _ _ _ _ ((((gp8.trans g9).trans g10).trans g11).trans (Gp.gr gw)) (dr11.gr gw) (gw.kd.dp ((dr10.kd g11).dp hc10)) (.tup (.inl (.inl upd_same)) (.cons (.str _) (.cons (gw.kd.dp hva11) (.cons (gw.kd.dp hvb11) (.cons (gw.kd.dp hvc) .nil))))) ⟨⟨hga.1, by have := hga.2.1; omega, pow_ok (by decide) hga.2.2⟩, oBb, oBc⟩ (by simp only [depB]; omega)
        · exact rT H8 (.ref tp) (.giv es) _ _ _ _ gp8 dr8 hc8 hdp hB (by simp only [depB]; exact hd1)
      · exact rT H8 (.ref tp) (.giv es) _ _ _ _ gp8 dr8 hc8 hdp hB (by simp only [depB]; exact hd1)
end
end SfE

namespace SfG
open PySem PySem.Spec PyProof.Rows L2
/-! ### d.update(e), two dicts -/
def rDUpd : V → List V → Hp → VK → Prop := fun x vs H Q => ∃ (a b : Addr) (kvs more : List (Key × V)), x = .ref a ∧ vs = [.ref b] ∧ H a = some (.dK kvs) ∧ H b = some (.dK more) ∧ a ≠ b ∧ kvs.length + more.length ≤ 1000 ∧ Q .non (upd H a (.dK (mergeK kvs more)))
theorem mt_dupd {X : Cx} : MtR X "dict.update" rDUpd := by
  intro pins s σ H x vs v us Q I rx rv h
  obtain ⟨a, b, kvs, more, rfl, rfl, ea, eb, ne, hz, q⟩ := h
  cases (show v = Value.ref a from rx)
  obtain ⟨u, rfl, ru⟩ := vals1 rv
  cases (show u = Value.ref b from ru)
  obtain ⟨za, ha, va, ra, da⟩ := dk_of I.hok ea
  obtain ⟨zb, hb, vb, rb, db⟩ := dk_of I.hok eb
  have sz : va.length + vb.length ≤ sizeLine := by
    rw [← ra.length, ← rb.length]
    exact Nat.le_of_lt (small1000 hz)
  refine call_meetsIn PySem.F.slot_dict_update da.typeIs PySem.F.entry_dict_update (PySem.F.args_dict_update_2 _ _) (meets_dict_update (mixKind X.prog X.w) a b ne hb) ⟨va, vb, da, db, sz, fun h' dd' _ hs => ?_⟩
  have he : ∃ o, h'.get? a = some o := by
    obtain ⟨o, _, _, ho, _⟩ := dd'
    exact ⟨o, ho⟩
  have hm : (mergeK kvs more).length ≤ sizeLine := by
    have := length_mergeK more kvs
    exact Nat.le_of_lt (small1000 (by omega))
  exact ⟨.non, _, d_write (t' := s.toks) I (by rw [ea]; exact True.intro) hs he (dk_new hm ha (rb.merge ra) dd'), rfl, q⟩
/-! ### xs[b], b a truth -/
section
variable {prog : Program} {w : World} {A : Around} {E : Value → Shared → Prop} {s : Shared}
theorem sub_bool {M : Model} {b : Bool} {Q : Option Int → Shared → Prop} (h : Q (some (if b then 1 else 0)) s) : wpAny M A (Builtin.List.listSubscript? (.bool b)) Q E s := by
  unfold Builtin.List.listSubscript?
  refine wpAny_bind (wpAny_specialOf (T := "bool") (show s.TypeIs (.bool b) "bool" from rfl) PySem.F.slot_bool_index.lookup ?_)
  cases b with
  | true =>
    refine wpAny_bind (wpAny_of_eq (a := (1 : Int)) rfl ?_)
    exact wpAny_pure h
  | false =>
    refine wpAny_bind (wpAny_of_eq (a := (0 : Int)) rfl ?_)
    exact wpAny_pure h
theorem get_bool {l : Addr} {items : Array Value} {b : Bool} {x : Value} {Q : Value → Shared → Prop} (hl : s.heap.IsList l items) (hx : items[(if b then 1 else 0)]? = some x) (h : Q x s) :
    wpAny (model prog w) A (getItem (.ref l) (.bool b)) Q E s := by
  obtain ⟨o, ho, hc, ne, hd⟩ := id hl
  unfold getItem
  try with_reducible refine wpAny_holding ?_
  first | refine wpAny_bind (wpAny_pure ?_) | skip
  refine wpAny_bind (wpAny_sequenceKey hl.typeIs (by decide) ?_)
  refine wpAny_bind (wpAny_callSpecial?_slot (name := Str.ofString "__getitem__") hl.typeIs slot_list_getitem (wpAny_call_entry slot_list_getitem hl.typeIs entry_list_getitem ?_ (args_list_getitem _ _)))
  refine wpAny_bind (m := Builtin.List.listSubscript? (.bool b)) (sub_bool ?_)
  cases b with
  | true =>
    show wpAny _ _ ((seqItemAt l 1 >>= fun r => pure (r.map (1, ·))) >>= _) _ _ s
    refine wpAny_bind (wpAny_bind (wpAny_seqItemAt ho hd (wpAny_pure ?_)))
    rw [show items[1]? = some x from hx]
    first
      | exact wpAny_bind (wpAny_pure (wpAny_pure ⟨x, rfl, wpAny_pure h⟩))
      | exact wpAny_pure ⟨x, rfl, wpAny_pure h⟩
  | false =>
    show wpAny _ _ ((seqItemAt l 0 >>= fun r => pure (r.map (0, ·))) >>= _) _ _ s
    refine wpAny_bind (wpAny_bind (wpAny_seqItemAt ho hd (wpAny_pure ?_)))
    rw [show items[0]? = some x from hx]
    first
      | exact wpAny_bind (wpAny_pure (wpAny_pure ⟨x, rfl, wpAny_pure h⟩))
      | exact wpAny_pure ⟨x, rfl, wpAny_pure h⟩
end
def rIxB (K : PySem.W.Frag) : R2 := fun x y H Q => ∃ (p : Addr) (xs : List V) (b : Bool) (v : V), x = .ref p ∧ y = .bl b ∧ SqL K H p xs ∧ xs[(if b then 1 else 0)]? = some v ∧ Q v H
theorem ix_bool {X : Cx} : IxR X (rIxB X.K) := by
  intro value slice pins s σ H x y v u Q I rx ry h hs
  obtain ⟨p, xs, b, z, rfl, rfl, hq, he, q⟩ := h
  cases (show v = Value.ref p from rx)
  cases (show u = Value.bool b from ry)
  obtain ⟨its, r, pl, hz⟩ := I.list hq
  obtain ⟨t, et, rt⟩ := r.get he
  exact subscriptTail_builtinR pl.isList.typeIs PySem.slot_list_getitem.lookup (get_bool (Q := fun r' s' => r' = t ∧ EP X pins σ Q r' s') pl.isList (by simpa using et) ⟨rfl, z, H, I, rt, q⟩) hs
end SfG

namespace SfE
open PySem PySem.Spec PyProof.Rows L2 SfG
abbrev sLV : Stmt := topS 11
abbrev nLV : List Str := ["_law_thing", "_law_fields", "_law_word", "_law_some", "_law_known", "_law_one"]
theorem scLV : FnScope nLV ["_law_thing", "_law_fields"] (defScope sLV) := ⟨rfl, rfl, rfl, by decide +kernel, rfl, by decide +kernel, by decide +kernel⟩
def kn3 (x y z : Int) : List (Key × V) := [(Sum.inr ("plus" : Str), .int x), (Sum.inr ("less" : Str), .int y), (Sum.inr ("times" : Str), .int z)]
def kn2 (x y : Int) : List (Key × V) := [(Sum.inr ("same" : Str), .int x), (Sum.inr ("under" : Str), .int y)]
theorem kn_at {x y : Int} {wo : Nat} (h : wo ≤ 4) : valV (mergeK (kn3 (x + y) (x - y) (x * y)) (kn2 (if x = y then 1 else 0) (if x < y then 1 else 0))) (Sum.inr (opw wo)) = some (.int (op2 wo x y)) := by
  have c : wo = 0 ∨ wo = 1 ∨ wo = 2 ∨ wo = 3 ∨ wo = 4 := by omega
  rcases c with rfl | rfl | rfl | rfl | rfl <;> rfl
section
variable {P : Program} {w : World} {K : PySem.W.Frag} {mg : Str → Option Value} {base : Heap}
def spLV (K : PySem.W.Frag) (n : Nat) : Sp := fun vs H Q _ => ∃ (e f : V) (E : Ex) (cs : List Nat) (fs : Fs), vs = [e, f] ∧ Dp K H e E.d ∧ Dp K H f (fD fs) ∧ okE cs E ∧ Fit cs fs ∧ dep E ≤ n ∧ 51 * lvs E ≤ 90000 ∧ ∀ H', Gr H H' → Q (.int (ev fs E)) H'
set_option maxHeartbeats 4000000 in
theorem ok_lv {f : Addr} {fd : FuncData} (F : Fun K "_law_value" "_law_value" sLV f fd) (bV : Binds K fd ["_law_thing", "_law_fields"] []) (gV : mg "_law_value" = some (.ref f)) (mi : mg "isinstance" = none) (mt : mg "tuple" = none) (ml : mg "list" = none) :
    ∀ n, FnOk P w K mg base CX0 (n + 1) f fd ["_law_thing", "_law_fields"] (spLV K n)
  | 0 => by
    refine F.ok scLV (fun vs H Q E h => ?_) (fun cdv A outer s H vs Q E hr h => ?_)
    · obtain ⟨e, g, E', cs, fs, rfl, _⟩ := h
      rfl
    · obtain ⟨e, g, E', cs, fs, rfl, _, _, _, _, hd, _⟩ := h
      have := dep_pos E'
      omega
  | n + 1 => by
    have GV := ok_lv F bV gV mi mt ml n
    refine F.ok scLV (fun vs H Q E h => ?_) (fun cdv A outer s H vs Q E hr h => ?_)
    · obtain ⟨e, g, E', cs, fs, rfl, _⟩ := h
      rfl
    · obtain ⟨e, g, E', cs, fs, rfl, he, hg, ho, hF, hd, hl, q⟩ := h
      have nd := scLV.nd
      refine' ⟨_, pss_cons ?s1 (pss_cons ?s2 (pss_cons ?s3 (pss_cons ?s4 (pss_cons ?s5 (pss_cons ?s6 (pss_cons ?s7 (pss_cons ?s8 (pss_one ?s9)))))))), ?rd⟩
      case s1 =>
        exact ps_set (i := 2) nd rfl (.inl rfl) (pe_ix ix_tup (pv 0) pe_int (fun _ _ => rfl))
      case s2 =>
        exact ps_if (pt_cmpR op_eq (pv 2) pe_str (nomark _)) (pss_one (ps_ret (pe_ix ix_tup (pv 0) pe_int (fun _ _ => rfl)))) pss_nil
      case s3 =>
        exact ps_if (pt_cmpR op_eq (pv 2) pe_str (nomark _)) (pss_one (ps_ret (pe_ix ix_list (pe_callTy call_list_of (by rfl) ml (by decide +kernel) (pa_cons (pe_ix ix_tup (pv 1) (pe_ix ix_tup (pv 0) pe_int (fun _ _ => rfl)) (fun _ _ => rfl)) pa_nil)) (pe_ix ix_tup (pv 0) pe_int (fun _ _ => rfl)) (fun _ _ => rfl)))) pss_nil
      case s4 =>
        exact ps_setLc (i := 3) (own := [("_law_one", 5)]) (g := gName 5) (tt := tB (tIsi "tuple" K 5)) rfl nd rfl rfl (sw_true rfl rfl rfl (by decide +kernel)) (pi_tup (pe_slice sl_tup (pv 0) (po_some pe_int) po_none))
          (blkOk_by (own := [("_law_one", 5)]) (N := nLV) (sc := defScope sLV) (by decide +kernel)) (fun _ _ _ _ _ => pg_name (i := 5) nd rfl (Or.inl rfl)) (fun _ _ _ _ _ => pts_one (pt_val (pe_isi "tuple" 5 mi mt (by decide +kernel))))
          (fun _ _ _ _ _ => pe_call GV hr (by rfl) gV F.kp bV .nil pass0 (pa_cons (pv 5) (pa_cons (pv 1) pa_nil)))
      case s5 =>
        exact ps_if (pt_cmpR op_eq (pv 2) pe_str (nomark _)) (pss_one (ps_ret (pe_op op_sub (pe_ix ix_list (pv 3) pe_int (fun _ _ => rfl)) (pe_op op_mul (pe_op op_fdiv (pe_ix ix_list (pv 3) pe_int (fun _ _ => rfl)) (pe_ix ix_tup (pv 0) pe_int (fun _ _ => rfl))) (pe_ix ix_tup (pv 0) pe_int (fun _ _ => rfl)))))) pss_nil
      case s6 =>
        exact ps_if (pt_cmpR op_eq (pv 2) pe_str (nomark _)) (pss_one (ps_ret (pe_ifExp (pt_cmpR op_eq (pe_ix ix_list (pv 3) pe_int (fun _ _ => rfl)) pe_int (nomark _)) (pe_ix ix_list (pv 3) pe_int (fun _ _ => rfl)) (pe_ix ix_list (pv 3) pe_int (fun _ _ => rfl))))) pss_nil
      case s7 =>
        exact ps_set (i := 4) nd rfl (.inl rfl) (pe_disp (pps_cons pe_str (pe_op op_add (pe_ix ix_list (pv 3) pe_int (fun _ _ => rfl)) (pe_ix ix_list (pv 3) pe_int (fun _ _ => rfl))) (pps_cons pe_str (pe_op op_sub (pe_ix ix_list (pv 3) pe_int (fun _ _ => rfl)) (pe_ix ix_list (pv 3) pe_int (fun _ _ => rfl)))
          (pps_cons pe_str (pe_op op_mulW (pe_ix ix_list (pv 3) pe_int (fun _ _ => rfl)) (pe_ix ix_list (pv 3) pe_int (fun _ _ => rfl))) pps_nil))) (by rfl) (by rfl) (fun z => by cases z) (by decide))
      case s8 =>
        exact ps_expr (pe_bm PySem.F.plainAttrs_dict PySem.F.slot_dict_update PySem.F.type_dict_update mt_dupd (pv 4) (pa_cons (pe_disp (pps_cons pe_str (pe_ix ix_bool (pe_lst (pa_cons pe_int (pa_cons pe_int pa_nil))) (pe_cmpR op_eq (pe_ix ix_list (pv 3) pe_int (fun _ _ => rfl)) (pe_ix ix_list (pv 3) pe_int (fun _ _ => rfl)) (nomark _)) (fun _ _ => rfl))
          (pps_cons pe_str (pe_ix ix_bool (pe_lst (pa_cons pe_int (pa_cons pe_int pa_nil))) (pe_cmpR op_lt (pe_ix ix_list (pv 3) pe_int (fun _ _ => rfl)) (pe_ix ix_list (pv 3) pe_int (fun _ _ => rfl)) (nomark _)) (fun _ _ => rfl)) pps_nil)) (by rfl) (by rfl) (fun z => by cases z) (by decide)) pa_nil))
      case s9 =>
        exact ps_ret (pe_dget (hu_of hr) (pv 4) (pv 2) (fun _ _ => rfl))
      case rd =>
      cases E' with
      | num m =>
        obtain ⟨p, x, y, rfl, hp, hx, hy⟩ := dp_2 he
        cases dp_str hx
        cases dp_int hy
        refine ⟨_, rfl, p, _, 0, _, rfl, rfl, hp, rfl, ?_⟩
        exact ⟨_, rfl, rfl, _, rfl, iteT ⟨_, rfl, p, _, 1, _, rfl, rfl, hp, rfl, q H (Gr.refl H)⟩⟩
      | inp k j =>
        obtain ⟨p, x, y, z, rfl, hp, hx, hy, hz⟩ := dp_3 he
        cases dp_str hx
        cases dp_int hy
        cases dp_int hz
        obtain ⟨c, hk, hj⟩ := ho
        obtain ⟨l, u, el, eu, ef, _⟩ := hF.at hk hj
        obtain ⟨pf, xs, rfl, hpf, hxs⟩ := dp_tup hg
        obtain ⟨vl, evl, dvl⟩ := dpA_get (i := k) (d := .tuple (l.map .int)) hxs (by rw [List.getElem?_map, el]; rfl)
        obtain ⟨pl, ys, rfl, hpl, hys⟩ := dp_tup dvl
        obtain ⟨vu, evu, dvu⟩ := dpA_get (i := j) (d := .int u) hys (by rw [List.getElem?_map, eu]; rfl)
        cases dp_int dvu
        refine ⟨_, rfl, p, _, 0, _, rfl, rfl, hp, rfl, ?_⟩
        refine ⟨_, rfl, rfl, _, rfl, iteF ⟨_, rfl, rfl, _, rfl, iteT ⟨_, rfl, _, rfl, p, _, 1, _, rfl, rfl, hp, rfl, pf, _, k, _, rfl, rfl, hpf, atI_nat evl, pl, ys, rfl, .inr hpl, fun D nD => ?_⟩⟩⟩
        have g1 : Gr H (upd H D (.lst ys)) := Gr.new nD
        refine ⟨_, rfl, p, _, 2, _, rfl, rfl, g1.sqt hp, rfl, D, _, j, _, rfl, rfl, .inl (.inl upd_same), atI_nat evu, ?_⟩
        have q' := q _ g1
        simp only [ev, ef] at q'
        exact q'
      | bin wd a b =>
        obtain ⟨p, x, y, z, rfl, hp, hx, hy, hz⟩ := dp_3 he
        cases dp_str hx
        obtain ⟨n1, n2, n3, n4⟩ := opw_ne wd
        simp only [dep] at hd
        simp only [lvs] at hl
        have pa := lvs_pos a
        have pb := lvs_pos b
        have sa := ev_small hF a ho.2.1
        have sb := ev_small hF b ho.2.2
        refine ⟨_, rfl, p, _, 0, _, rfl, rfl, hp, rfl, ?_⟩
        refine ⟨_, rfl, rfl, _, rfl, ?_⟩
        rw [decide_eq_false n1]
        refine iteF ⟨_, rfl, rfl, _, rfl, ?_⟩
        rw [decide_eq_false n2]
        refine iteF ?_
        refine ⟨_, rfl, 1, rfl, p, _, rfl, hp, cut_not _ _, fun pm npm => ?_⟩
        rw [cut_one]
        have g1 : Gr H (upd H pm (.tup [y, z])) := Gr.new npm
        have hpm : SqT K (upd H pm (.tup [y, z])) pm [y, z] := .inl (.inl upd_same)
        generalize upd H pm (.tup [y, z]) = H1 at g1 hpm ⊢
        refine ⟨pm, rfl, ⟨_, hpm⟩, fun D nD => ?_⟩
        have hch : ∀ (i : Nat) (x : V), ([y, z] : List V)[i]? = some x → (∃ e, ([some a, some b] : List (Option Ex))[i]? = some (some e) ∧ Dp K H x e.d ∧ okE cs e ∧ dep e ≤ n ∧ 51 * lvs e ≤ 90000) ∨ (([some a, some b] : List (Option Ex))[i]? = some none ∧ ∃ k, x = .int k) := by
          intro i x hx
          match i, hx with
          | 0, hx =>
            cases hx
            exact .inl ⟨a, rfl, hy, ho.2.1, by omega, by omega⟩
          | 1, hx =>
            cases hx
            exact .inl ⟨b, rfl, hz, ho.2.2, by omega, by omega⟩
        refine lc_it (walk_tup (xs := [y, z])) (fun i H2 => Gr H1 H2 ∧ H2 D = some (.lst ((([some a, some b] : List (Option Ex)).take i).filterMap fun o => o.map fun e => V.int (ev fs e)))) ⟨Gr.new nD, upd_same⟩ ?z1 ?z2 ?z3
        case z1 =>
          rintro i H2 hi ⟨g2, hD⟩
          exact g2.sqt hpm
        case z2 =>
          rintro i x H2 H2' hi ⟨g2, hD⟩ ⟨rfl, hx⟩
          rcases hch i x hx with ⟨e, he, de, oe, dpe, le⟩ | ⟨he, k, rfl⟩
          · have de2 : Dp K H2' x e.d := (g1.trans g2).kd.dp de
            obtain ⟨w', ds', ee⟩ := nd_head (.e e)
            have hty : ∃ q, x = .ref q ∧ TyX K H2' (.ref q) (.type "tuple") := by
              have de3 := de2
              rw [show e.d = .tuple (.str w' :: ds') from ee] at de3
              obtain ⟨q, xs, rfl, hq, _⟩ := dp_tup de3
              exact ⟨q, rfl, tyx_sqt hq⟩
            obtain ⟨q, rfl, ty⟩ := hty
            refine ⟨rfl, _, rfl, "tuple", true, ty, by decide +kernel, _, rfl, iteT ?_⟩
            refine ⟨_, rfl, _, rfl, _, _, e, cs, fs, rfl, de2, (g1.trans g2).kd.dp hg, oe, hF, dpe, le, fun H3 g3 => ?_⟩
            refine ⟨_, g3.lst hD, ?_, Gr.upd_new (g2.trans g3) nD, ?_⟩
            · exact Nat.lt_of_le_of_lt (List.length_filterMap_le _ _) (Nat.lt_of_le_of_lt (List.length_take_le' _ _) (Nat.lt_of_le_of_lt (m := 3) (by simp) (by decide +kernel)))
            · rw [upd_same, List.take_add_one, he, List.filterMap_append]
              rfl
          · refine ⟨rfl, _, rfl, "int", false, .base (.int k), by decide +kernel, _, rfl, iteF ⟨g2, ?_⟩⟩
            rw [List.take_add_one, he, List.filterMap_append]
            simpa using hD
        case z3 =>
        rintro H2 ⟨g2, hD⟩
        have hD2 : H2 D = some (.lst [.int (ev fs a), .int (ev fs b)]) := hD
        refine ⟨_, rfl, rfl, _, rfl, ?_⟩
        rw [decide_eq_false n3]
        refine iteF ⟨_, rfl, rfl, _, rfl, ?_⟩
        rw [decide_eq_false n4]
        refine iteF ?_
        intro kd nkd
        have gk : Gr H2 (upd H2 kd (.dK [])) := Gr.new nkd
        have hDk := gk.lst hD2
        refine ⟨_, rfl, D, _, 0, _, rfl, rfl, .inl (.inl hDk), rfl, _, rfl, D, _, 1, _, rfl, rfl, .inl (.inl hDk), rfl, _, _, rfl, rfl, ?_⟩
        refine ⟨_, rfl, D, _, 0, _, rfl, rfl, .inl (.inl hDk), rfl, _, rfl, D, _, 1, _, rfl, rfl, .inl (.inl hDk), rfl, _, _, rfl, rfl, ?_⟩
        refine ⟨_, rfl, D, _, 0, _, rfl, rfl, .inl (.inl hDk), rfl, _, rfl, D, _, 1, _, rfl, rfl, .inl (.inl hDk), rfl, _, _, rfl, rfl, wide_mul (a := 100000) (b := 100000) (Nat.lt_of_lt_of_le sa (Nat.pow_le_pow_right (by decide) (by omega))) (Nat.lt_of_lt_of_le sb (Nat.pow_le_pow_right (by decide) (by omega))) (by decide) (by decide) (by decide), ?_⟩
        refine ⟨upd_same, kn3 (ev fs a + ev fs b) (ev fs a - ev fs b) (ev fs a * ev fs b), rfl, by show 3 ≤ 15; decide, ?_⟩
        have g3 : Gr H2 (upd (upd H2 kd (.dK [])) kd (.dK (mergeK [] (kn3 (ev fs a + ev fs b) (ev fs a - ev fs b) (ev fs a * ev fs b))))) := gr_new2 nkd
        have hkd : upd (upd H2 kd (.dK [])) kd (.dK (mergeK [] (kn3 (ev fs a + ev fs b) (ev fs a - ev fs b) (ev fs a * ev fs b)))) kd = some (.dK (kn3 (ev fs a + ev fs b) (ev fs a - ev fs b) (ev fs a * ev fs b))) := upd_same
        have hD3 := g3.lst hD2
        generalize upd (upd H2 kd (.dK [])) kd (.dK (mergeK [] (kn3 (ev fs a + ev fs b) (ev fs a - ev fs b) (ev fs a * ev fs b)))) = H3 at g3 hkd hD3 ⊢
        -- update
        refine ⟨_, rfl, .inr (.inr (.inl ⟨rfl, .inl ⟨_, hkd⟩⟩)), ?_⟩
        intro k2 nk2
        have nkk : kd ≠ k2 := ne_of_none hkd nk2
        refine ⟨by show 2 ≤ sizeLine; decide, fun l1 nl1 => ?_⟩
        have gl1 : Gr H3 (upd (upd H3 k2 (.dK [])) l1 (.lst [.int 0, .int 1])) := (Gr.new nk2).trans (Gr.new nl1)
        have hDl := gl1.lst hD3
        refine ⟨_, rfl, D, _, 0, _, rfl, rfl, .inl (.inl hDl), rfl, _, rfl, D, _, 1, _, rfl, rfl, .inl (.inl hDl), rfl, rfl, l1, _, _, .int (if ev fs a = ev fs b then 1 else 0), rfl, rfl, .inl (.inl upd_same), ?_, ?_⟩
        · by_cases h : ev fs a = ev fs b
          · rw [decide_eq_true (congrArg V.int h), if_pos h]
            rfl
          · rw [decide_eq_false (fun e => h (V.int.inj e)), if_neg h]
            rfl
        refine ⟨by show 2 ≤ sizeLine; decide, fun l2 nl2 => ?_⟩
        have gl2 : Gr H3 (upd (upd (upd H3 k2 (.dK [])) l1 (.lst [.int 0, .int 1])) l2 (.lst [.int 0, .int 1])) := gl1.trans (Gr.new nl2)
        have hDm := gl2.lst hD3
        have hk2 : upd (upd (upd H3 k2 (.dK [])) l1 (.lst [.int 0, .int 1])) l2 (.lst [.int 0, .int 1]) k2 = some (.dK []) := ((Gr.new nl1).trans (Gr.new nl2)).dic upd_same
        refine ⟨_, rfl, D, _, 0, _, rfl, rfl, .inl (.inl hDm), rfl, _, rfl, D, _, 1, _, rfl, rfl, .inl (.inl hDm), rfl, _, _, rfl, rfl, l2, _, _, .int (if ev fs a < ev fs b then 1 else 0), rfl, rfl, .inl (.inl upd_same), ?_, ?_⟩
        · by_cases h : ev fs a < ev fs b
          · rw [decide_eq_true h, if_pos h]
            rfl
          · rw [decide_eq_false h, if_neg h]
            rfl
        refine ⟨hk2, kn2 (if ev fs a = ev fs b then 1 else 0) (if ev fs a < ev fs b then 1 else 0), rfl, by show 2 ≤ 15; decide, ?_⟩
        have hkd4 : upd (upd (upd (upd H3 k2 (.dK [])) l1 (.lst [.int 0, .int 1])) l2 (.lst [.int 0, .int 1])) k2 (.dK (mergeK [] (kn2 (if ev fs a = ev fs b then 1 else 0) (if ev fs a < ev fs b then 1 else 0)))) kd = some (.dK (kn3 (ev fs a + ev fs b) (ev fs a - ev fs b) (ev fs a * ev fs b))) := (upd_ne nkk).trans (gl2.dic hkd)
        have g4 : Gr H3 (upd (upd (upd (upd H3 k2 (.dK [])) l1 (.lst [.int 0, .int 1])) l2 (.lst [.int 0, .int 1])) k2 (.dK (mergeK [] (kn2 (if ev fs a = ev fs b then 1 else 0) (if ev fs a < ev fs b then 1 else 0))))) := Gr.upd_new gl2 nk2
        have hk4 : upd (upd (upd (upd H3 k2 (.dK [])) l1 (.lst [.int 0, .int 1])) l2 (.lst [.int 0, .int 1])) k2 (.dK (mergeK [] (kn2 (if ev fs a = ev fs b then 1 else 0) (if ev fs a < ev fs b then 1 else 0)))) k2 = some (.dK (kn2 (if ev fs a = ev fs b then 1 else 0) (if ev fs a < ev fs b then 1 else 0))) := upd_same
        generalize upd (upd (upd (upd H3 k2 (.dK [])) l1 (.lst [.int 0, .int 1])) l2 (.lst [.int 0, .int 1])) k2 (.dK (mergeK [] (kn2 (if ev fs a = ev fs b then 1 else 0) (if ev fs a < ev fs b then 1 else 0)))) = H4 at hkd4 g4 hk4 ⊢
        refine ⟨kd, k2, _, _, rfl, rfl, hkd4, hk4, nkk, by show 3 + 2 ≤ 1000; decide, ?_⟩
        have hfin := kn_at (x := ev fs a) (y := ev fs b) ho.1
        refine ⟨_, rfl, _, rfl, kd, _, rfl, .inl ⟨_, Sum.inr (opw wd), .inl upd_same, rfl, hfin.symm⟩, ?_⟩
        exact q _ ((g1.trans g2).trans (Gr.upd_new (g3.trans g4) nkd))
      | rst a m =>
        obtain ⟨p, x, y, z, rfl, hp, hx, hy, hz⟩ := dp_3 he
        cases dp_str hx
        cases dp_int hz
        simp only [dep] at hd
        simp only [lvs] at hl
        refine ⟨_, rfl, p, _, 0, _, rfl, rfl, hp, rfl, ?_⟩
        refine ⟨_, rfl, rfl, _, rfl, iteF ?_⟩
        refine ⟨_, rfl, rfl, _, rfl, iteF ?_⟩
        refine ⟨_, rfl, 1, rfl, p, _, rfl, hp, cut_not _ _, fun pm npm => ?_⟩
        rw [cut_one]
        have g1 : Gr H (upd H pm (.tup [y, .int m])) := Gr.new npm
        have hpm : SqT K (upd H pm (.tup [y, .int m])) pm [y, .int m] := .inl (.inl upd_same)
        generalize upd H pm (.tup [y, .int m]) = H1 at g1 hpm ⊢
        refine ⟨pm, rfl, ⟨_, hpm⟩, fun D nD => ?_⟩
        have hch : ∀ (i : Nat) (x : V), ([y, .int m] : List V)[i]? = some x → (∃ e, ([some a, none] : List (Option Ex))[i]? = some (some e) ∧ Dp K H x e.d ∧ okE cs e ∧ dep e ≤ n ∧ 51 * lvs e ≤ 90000) ∨ (([some a, none] : List (Option Ex))[i]? = some none ∧ ∃ k, x = .int k) := by
          intro i x hx
          match i, hx with
          | 0, hx =>
            cases hx
            exact .inl ⟨a, rfl, hy, ho.2.2, by omega, by omega⟩
          | 1, hx =>
            cases hx
            exact .inr ⟨rfl, m, rfl⟩
        refine lc_it (walk_tup (xs := [y, .int m])) (fun i H2 => Gr H1 H2 ∧ H2 D = some (.lst ((([some a, none] : List (Option Ex)).take i).filterMap fun o => o.map fun e => V.int (ev fs e)))) ⟨Gr.new nD, upd_same⟩ ?z1 ?z2 ?z3
        case z1 =>
          rintro i H2 hi ⟨g2, hD⟩
          exact g2.sqt hpm
        case z2 =>
          rintro i x H2 H2' hi ⟨g2, hD⟩ ⟨rfl, hx⟩
          rcases hch i x hx with ⟨e, he, de, oe, dpe, le⟩ | ⟨he, k, rfl⟩
          · have de2 : Dp K H2' x e.d := (g1.trans g2).kd.dp de
            obtain ⟨w', ds', ee⟩ := nd_head (.e e)
            have hty : ∃ q, x = .ref q ∧ TyX K H2' (.ref q) (.type "tuple") := by
              have de3 := de2
              rw [show e.d = .tuple (.str w' :: ds') from ee] at de3
              obtain ⟨q, xs, rfl, hq, _⟩ := dp_tup de3
              exact ⟨q, rfl, tyx_sqt hq⟩
            obtain ⟨q, rfl, ty⟩ := hty
            refine ⟨rfl, _, rfl, "tuple", true, ty, by decide +kernel, _, rfl, iteT ?_⟩
            refine ⟨_, rfl, _, rfl, _, _, e, cs, fs, rfl, de2, (g1.trans g2).kd.dp hg, oe, hF, dpe, le, fun H3 g3 => ?_⟩
            refine ⟨_, g3.lst hD, ?_, Gr.upd_new (g2.trans g3) nD, ?_⟩
            · exact Nat.lt_of_le_of_lt (List.length_filterMap_le _ _) (Nat.lt_of_le_of_lt (List.length_take_le' _ _) (Nat.lt_of_le_of_lt (m := 3) (by simp) (by decide +kernel)))
            · rw [upd_same, List.take_add_one, he, List.filterMap_append]
              rfl
          · refine ⟨rfl, _, rfl, "int", false, .base (.int k), by decide +kernel, _, rfl, iteF ⟨g2, ?_⟩⟩
            rw [List.take_add_one, he, List.filterMap_append]
            simpa using hD
        case z3 =>
        rintro H2 ⟨g2, hD⟩
        have hD2 : H2 D = some (.lst [.int (ev fs a)]) := hD
        have hp2 := (g1.trans g2).sqt hp
        have m1 := ho.1
        have m2 := ho.2.1
        refine ⟨_, rfl, rfl, _, rfl, iteT ⟨_, rfl, D, _, 0, _, rfl, rfl, .inl (.inl hD2), rfl, _, rfl, D, _, 0, _, rfl, rfl, .inl (.inl hD2), rfl, _, rfl, p, _, 2, _, rfl, rfl, hp2, rfl, _, m, rfl, rfl, ⟨by omega, by omega⟩, _, rfl, p, _, 2, _, rfl, rfl, hp2, rfl, _, m, rfl, rfl, .inr ⟨?_, ?_⟩, _, _, rfl, rfl, ?_⟩⟩
        · have : (-(2 ^ 64) : Int) = -18446744073709551616 := by decide
          rw [this]
          omega
        · have : ((2 ^ 64) : Int) = 18446744073709551616 := by decide
          rw [this]
          omega
        · have q' := q H2 (g1.trans g2)
          have e9 : ev fs (.rst a m) = ev fs a - ev fs a / m * m := by
            simp only [ev]
            rw [Int.emod_def, Int.mul_comm]
          rw [e9] at q'
          exact q'
      | iff a b c =>
        obtain ⟨p, x, y, z, u, rfl, hp, hx, hy, hz, hu⟩ := dp_4 he
        cases dp_str hx
        simp only [dep] at hd
        simp only [lvs] at hl
        refine ⟨_, rfl, p, _, 0, _, rfl, rfl, hp, rfl, ?_⟩
        refine ⟨_, rfl, rfl, _, rfl, iteF ?_⟩
        refine ⟨_, rfl, rfl, _, rfl, iteF ?_⟩
        refine ⟨_, rfl, 1, rfl, p, _, rfl, hp, cut_not _ _, fun pm npm => ?_⟩
        rw [cut_one]
        have g1 : Gr H (upd H pm (.tup [y, z, u])) := Gr.new npm
        have hpm : SqT K (upd H pm (.tup [y, z, u])) pm [y, z, u] := .inl (.inl upd_same)
        generalize upd H pm (.tup [y, z, u]) = H1 at g1 hpm ⊢
        refine ⟨pm, rfl, ⟨_, hpm⟩, fun D nD => ?_⟩
        have hch : ∀ (i : Nat) (x : V), ([y, z, u] : List V)[i]? = some x → (∃ e, ([some a, some b, some c] : List (Option Ex))[i]? = some (some e) ∧ Dp K H x e.d ∧ okE cs e ∧ dep e ≤ n ∧ 51 * lvs e ≤ 90000) ∨ (([some a, some b, some c] : List (Option Ex))[i]? = some none ∧ ∃ k, x = .int k) := by
          intro i x hx
          match i, hx with
          | 0, hx =>
            cases hx
            exact .inl ⟨a, rfl, hy, ho.1, by omega, by omega⟩
          | 1, hx =>
            cases hx
            exact .inl ⟨b, rfl, hz, ho.2.1, by omega, by omega⟩
          | 2, hx =>
            cases hx
            exact .inl ⟨c, rfl, hu, ho.2.2, by omega, by omega⟩
        refine lc_it (walk_tup (xs := [y, z, u])) (fun i H2 => Gr H1 H2 ∧ H2 D = some (.lst ((([some a, some b, some c] : List (Option Ex)).take i).filterMap fun o => o.map fun e => V.int (ev fs e)))) ⟨Gr.new nD, upd_same⟩ ?z1 ?z2 ?z3
        case z1 =>
          rintro i H2 hi ⟨g2, hD⟩
          exact g2.sqt hpm
        case z2 =>
          rintro i x H2 H2' hi ⟨g2, hD⟩ ⟨rfl, hx⟩
          rcases hch i x hx with ⟨e, he, de, oe, dpe, le⟩ | ⟨he, k, rfl⟩
          · have de2 : Dp K H2' x e.d := (g1.trans g2).kd.dp de
            obtain ⟨w', ds', ee⟩ := nd_head (.e e)
            have hty : ∃ q, x = .ref q ∧ TyX K H2' (.ref q) (.type "tuple") := by
              have de3 := de2
              rw [show e.d = .tuple (.str w' :: ds') from ee] at de3
              obtain ⟨q, xs, rfl, hq, _⟩ := dp_tup de3
              exact ⟨q, rfl, tyx_sqt hq⟩
            obtain ⟨q, rfl, ty⟩ := hty
            refine ⟨rfl, _, rfl, "tuple", true, ty, by decide +kernel, _, rfl, iteT ?_⟩
            refine ⟨_, rfl, _, rfl, _, _, e, cs, fs, rfl, de2, (g1.trans g2).kd.dp hg, oe, hF, dpe, le, fun H3 g3 => ?_⟩
            refine ⟨_, g3.lst hD, ?_, Gr.upd_new (g2.trans g3) nD, ?_⟩
            · exact Nat.lt_of_le_of_lt (List.length_filterMap_le _ _) (Nat.lt_of_le_of_lt (List.length_take_le' _ _) (Nat.lt_of_le_of_lt (m := 3) (by simp) (by decide +kernel)))
            · rw [upd_same, List.take_add_one, he, List.filterMap_append]
              rfl
          · refine ⟨rfl, _, rfl, "int", false, .base (.int k), by decide +kernel, _, rfl, iteF ⟨g2, ?_⟩⟩
            rw [List.take_add_one, he, List.filterMap_append]
            simpa using hD
        case z3 =>
        rintro H2 ⟨g2, hD⟩
        have hD2 : H2 D = some (.lst [.int (ev fs a), .int (ev fs b), .int (ev fs c)]) := hD
        have q' := q H2 (g1.trans g2)
        simp only [ev] at q'
        refine ⟨_, rfl, rfl, _, rfl, iteF ⟨_, rfl, rfl, _, rfl, iteT ⟨_, rfl, D, _, 0, _, rfl, rfl, .inl (.inl hD2), rfl, rfl, _, rfl, ?_⟩⟩⟩
        by_cases h : ev fs a = 0
        · rw [if_neg (by simpa using h)] at q'
          rw [decide_eq_true (congrArg V.int h)]
          exact iteT ⟨_, rfl, D, _, 2, _, rfl, rfl, .inl (.inl hD2), rfl, q'⟩
        · rw [if_pos h] at q'
          rw [decide_eq_false (fun e => h (V.int.inj e))]
          exact iteF ⟨_, rfl, D, _, 1, _, rfl, rfl, .inl (.inl hD2), rfl, q'⟩
end
end SfE

namespace SfE
open PySem PySem.Spec PyProof.Rows L2 SfG
abbrev sLG : Stmt := topS 12
abbrev nLG : List Str := ["_law_body_here", "_law_fields", "_law_one"]
theorem scLG : FnScope nLG ["_law_body_here", "_law_fields"] (defScope sLG) := ⟨rfl, rfl, rfl, by decide +kernel, rfl, by decide +kernel, by decide +kernel⟩
section
variable {P : Program} {w : World} {K : PySem.W.Frag} {mg : Str → Option Value} {base : Heap}
def spLG (K : PySem.W.Frag) (n : Nat) : Sp := fun vs H Q _ => ∃ (b f : V) (B : Bd) (cs : List Nat) (fs : Fs) (m : Nat), vs = [b, f] ∧ Dp K H b B.d ∧ Dp K H f (fD fs) ∧ okB cs 3 m B ∧ m ≤ 100 ∧ Fit cs fs ∧ depB B ≤ n ∧
  (∀ H', gv fs B = none → Gr H H' → Q .non H') ∧ ∀ l H' p, gv fs B = some l → Gr H H' → H p = none → H' p = some (.lst (l.map V.int)) → Q (.ref p) H'
set_option maxHeartbeats 4000000 in
theorem ok_lg {f fV : Addr} {fd fdV : FuncData} (F : Fun K "_law_given" "_law_given" sLG f fd) (bG : Binds K fd ["_law_body_here", "_law_fields"] []) (gG : mg "_law_given" = some (.ref f))
    (HV : Has P w K mg base 4 "_law_value" ["_law_thing", "_law_fields"] (spLV K 3) fV fdV) :
    ∀ n, FnOk P w K mg base CX0 (n + 5) f fd ["_law_body_here", "_law_fields"] (spLG K n)
  | 0 => by
    refine F.ok scLG (fun vs H Q E h => ?_) (fun cdv A outer s H vs Q E hr h => ?_)
    · obtain ⟨e, g, B, cs, fs, m, rfl, _⟩ := h
      rfl
    · obtain ⟨e, g, B, cs, fs, m, rfl, _, _, _, _, _, hd, _⟩ := h
      have := depB_pos B
      omega
  | n + 1 => by
    have GG := ok_lg F bG gG HV n
    have HV' : Has P w K mg base (n + 5) "_law_value" ["_law_thing", "_law_fields"] (spLV K 3) fV fdV := ⟨HV.ok.mono (by omega), HV.at_, HV.kp, HV.bd⟩
    refine F.ok scLG (fun vs H Q E h => ?_) (fun cdv A outer s H vs Q E hr h => ?_)
    · obtain ⟨e, g, B, cs, fs, m, rfl, _⟩ := h
      rfl
    · obtain ⟨b, g, B, cs, fs, m, rfl, hb, hg, ho, hm, hF, hd, q1, q2⟩ := h
      have nd := scLG.nd
      refine' ⟨_, pss_cons ?s1 (pss_cons ?s2 (pss_one ?s3)), ?rd⟩
      case s1 =>
        exact ps_if (pt_cmpR op_eq (pe_ix ix_tup (pv 0) pe_int (fun _ _ => rfl)) pe_str (nomark _)) (pss_one (ps_ret (pe_call GG hr (by rfl) gG F.kp bG .nil pass0
          (pa_cons (pe_ifExp (pt_cmpR op_ne (hcall HV' hr (pa_cons (pe_ix ix_tup (pv 0) pe_int (fun _ _ => rfl)) (pa_cons (pv 1) pa_nil))) pe_int (nomark _)) (pe_ix ix_tup (pv 0) pe_int (fun _ _ => rfl)) (pe_ix ix_tup (pv 0) pe_int (fun _ _ => rfl))) (pa_cons (pv 1) pa_nil))))) pss_nil
      case s2 =>
        exact ps_if (pt_cmpR op_eq (pe_ix ix_tup (pv 0) pe_int (fun _ _ => rfl)) pe_str (nomark _)) (pss_one (ps_ret pe_non)) pss_nil
      case s3 =>
        exact ps_ret (pe_lc (own := [("_law_one", 2)]) (g := gName 2) rfl nd (pi_tup (pe_ix ix_tup (pv 0) pe_int (fun _ _ => rfl)))
          (blkOk_by (own := [("_law_one", 2)]) (N := nLG) (sc := defScope sLG) (by decide +kernel)) (fun _ _ _ _ _ => pg_name (i := 2) nd rfl (Or.inl rfl)) (fun _ _ _ _ _ => pts_nil)
          (fun _ _ _ _ _ => hcall HV' hr (pa_cons (pv 2) (pa_cons (pv 1) pa_nil))))
      case rd =>
      cases B with
      | ref =>
        obtain ⟨p, x, rfl, hp, hx⟩ := dp_1 hb
        cases dp_str hx
        refine ⟨_, rfl, p, _, 0, _, rfl, rfl, hp, rfl, rfl, _, rfl, iteF ?_⟩
        exact ⟨_, rfl, p, _, 0, _, rfl, rfl, hp, rfl, rfl, _, rfl, iteT (q1 H rfl (Gr.refl H))⟩
      | whn e a c =>
        obtain ⟨p, x, y, z, u, rfl, hp, hx, hy, hz, hu⟩ := dp_4 hb
        cases dp_str hx
        obtain ⟨⟨e1, e2, e3⟩, oa, oc⟩ := ho
        simp only [depB] at hd
        refine ⟨_, rfl, p, _, 0, _, rfl, rfl, hp, rfl, rfl, _, rfl, iteT ?_⟩
        refine ⟨_, rfl, p, _, 1, _, rfl, rfl, hp, rfl, _, rfl, _, _, e, cs, fs, rfl, hy, hg, e1, hF, e2, by omega, fun H1 g1 => ⟨rfl, _, rfl, ?_⟩⟩
        simp only [gv] at q1 q2
        have hp1 := g1.sqt hp
        by_cases h : ev fs e = 0
        · rw [if_neg (by simpa using h)] at q1 q2
          rw [decide_eq_true (congrArg V.int h)]
          refine iteF ⟨_, rfl, p, _, 3, _, rfl, rfl, hp1, rfl, _, rfl, _, _, c, cs, fs, m, rfl, g1.kd.dp hu, g1.kd.dp hg, oc, hm, hF, by omega, fun H' n' g' => q1 H' n' (g1.trans g'), fun l H' p' n' g' np h' => q2 l H' p' n' (g1.trans g') (g1.back _ np) h'⟩
        · rw [if_pos h] at q1 q2
          rw [decide_eq_false (fun e => h (V.int.inj e))]
          refine iteT ⟨_, rfl, p, _, 2, _, rfl, rfl, hp1, rfl, _, rfl, _, _, a, cs, fs, m, rfl, g1.kd.dp hz, g1.kd.dp hg, oa, hm, hF, by omega, fun H' n' g' => q1 H' n' (g1.trans g'), fun l H' p' n' g' np h' => q2 l H' p' n' (g1.trans g') (g1.back _ np) h'⟩
      | giv es =>
        obtain ⟨p, x, y, rfl, hp, hx, hy⟩ := dp_2 hb
        cases dp_str hx
        obtain ⟨py, ys, rfl, hpy, hys⟩ := dp_tup hy
        refine ⟨_, rfl, p, _, 0, _, rfl, rfl, hp, rfl, rfl, _, rfl, iteF ?_⟩
        refine ⟨_, rfl, p, _, 0, _, rfl, rfl, hp, rfl, rfl, _, rfl, iteF ?_⟩
        have hly : ys.length = es.length := by
          have := dpA_len hys
          rw [List.length_map] at this
          exact this
        refine ⟨_, rfl, p, _, 1, _, rfl, rfl, hp, rfl, py, rfl, ⟨_, hpy⟩, fun D nD => ?_⟩
        refine lc_it (walk_tup (xs := ys)) (fun i H2 => Gr H H2 ∧ H2 D = some (.lst ((es.take i).map fun e => V.int (ev fs e)))) ⟨Gr.new nD, upd_same⟩ ?c0 ?c1 ?c2
        case c0 =>
          rintro i H2 hi ⟨g2, hD⟩
          exact g2.sqt hpy
        case c1 =>
          rintro i x H2 H2' hi ⟨g2, hD⟩ ⟨rfl, hx⟩
          refine ⟨rfl, ?_⟩
          unfold tYes
          refine iteT ?_
          obtain ⟨e, he, de⟩ := dpA_ex hys hx
          obtain ⟨e1, e2, e3⟩ := ho.2 e (List.mem_of_getElem? he)
          refine ⟨_, rfl, _, rfl, _, _, e, cs, fs, rfl, g2.kd.dp de, g2.kd.dp hg, e1, hF, e2, by omega, fun H3 g3 => ⟨_, g3.lst hD, ?_, Gr.upd_new (g2.trans g3) nD, ?_⟩⟩
          · rw [List.length_map, List.length_take]
            have := ho.1
            exact small1000 (by omega)
          · rw [upd_same, List.take_add_one, he, List.map_append]
            rfl
        case c2 =>
          rintro H2 ⟨g2, hD⟩
          refine q2 (es.map (ev fs)) _ D rfl g2 nD ?_
          rw [hD, hly, List.take_length, List.map_map]
          rfl
end
end SfE

namespace SfE
open PySem PySem.Spec PyProof.Rows L2 SfG
abbrev sDF : Stmt := topS 13
abbrev nDF : List Str := ["_law_state", "_law_counts", "_law_found", "_law_many", "_law_some", "_law_k", "_law_kind", "_law_number"]
theorem scDF : FnScope nDF ["_law_state", "_law_counts"] (defScope sDF) := ⟨rfl, rfl, rfl, by decide +kernel, rfl, by decide +kernel, by decide +kernel⟩
abbrev lD (l : List Int) : PyData := .tuple (l.map .int)
theorem ints_dp {K : PySem.W.Frag} {H : Hp} : ∀ l : List Int, DpAll K H (l.map V.int) (l.map PyData.int)
  | [] => .nil
  | _ :: r => .cons (.int _) (ints_dp r)
theorem ints_of {K : PySem.W.Frag} {H : Hp} : ∀ {l : List Int} {xs : List V}, DpAll K H xs (l.map PyData.int) → xs = l.map V.int
  | [], xs, h => dpA_nil h
  | a :: r, xs, h => by
    obtain ⟨x, r', rfl, hx, hr⟩ := dpA_cons h
    cases dp_int hx
    rw [ints_of hr]
    rfl
theorem row_keep {K : PySem.W.Frag} {H H' : Hp} (kt : ∀ {a xs}, SqT K H a xs → SqT K H' a xs) {l : List Int} {v : V} (h : Dp K H v (lD l)) : Dp K H' v (lD l) := by
  obtain ⟨p, xs, rfl, hp, hxs⟩ := dp_tup h
  rw [ints_of hxs] at hp
  exact .tup (kt hp) (ints_dp l)
theorem rows_keep {K : PySem.W.Frag} {H H' : Hp} (kt : ∀ {a xs}, SqT K H a xs → SqT K H' a xs) : ∀ {fs : Fs} {vs : List V}, DpAll K H vs (fs.map lD) → DpAll K H' vs (fs.map lD)
  | [], vs, h => by
    rw [dpA_nil h]
    exact .nil
  | e :: r, vs, h => by
    obtain ⟨x, r', rfl, hx, hr⟩ := dpA_cons h
    exact .cons (row_keep kt hx) (rows_keep kt hr)
theorem pickf {k n : Int} (h0 : 0 ≤ k) (h1 : k < 4) (n0 : 0 ≤ n) (n1 : n < 1000000) :
    ∃ v : Int, atI [V.int (n % 3), .int (n % 10), .int (0 - n % 20), .int (n * 10 ^ (9 : Int).toNat)] k = some (.int v) ∧ v.natAbs < 2 ^ 51 := by
  have e51 : (2 : Nat) ^ 51 = 2251799813685248 := by decide
  rw [e51]
  have c : k = 0 ∨ k = 1 ∨ k = 2 ∨ k = 3 := by omega
  rcases c with rfl | rfl | rfl | rfl
  · exact ⟨n % 3, rfl, by omega⟩
  · exact ⟨n % 10, rfl, by omega⟩
  · exact ⟨0 - n % 20, rfl, by omega⟩
  · refine ⟨_, rfl, ?_⟩
    have : (10 : Int) ^ (9 : Int).toNat = 1000000000 := by decide
    rw [this]
    omega
section
variable {P : Program} {w : World} {K : PySem.W.Frag} {mg : Str → Option Value} {base : Heap}
def spDF (K : PySem.W.Frag) : Sp := fun vs H Q _ => ∃ (p : Addr) (c : V) (cs : List Nat), vs = [.ref p, c] ∧ Drw H p ∧ Dp K H c (cD cs) ∧ (cs.length ≤ 3 ∧ ∀ x ∈ cs, 1 ≤ x ∧ x ≤ 3) ∧
  ∀ H' v fs, Gp p H H' → Drw H' p → Dp K H' v (fD fs) → Fit cs fs → Q v H'
theorem cs_at {K : PySem.W.Frag} {H : Hp} {cs : List Nat} {xs : List V} (h : DpAll K H xs (cs.map fun (c : Nat) => PyData.int (c : Int))) {i : Nat} {x : V} (hx : xs[i]? = some x) : ∃ n : Nat, cs[i]? = some n ∧ x = .int n := by
  have hl := dpA_len h
  rw [List.length_map] at hl
  have hi : i < xs.length := by
    rcases Nat.lt_or_ge i xs.length with h1 | h1
    · exact h1
    · rw [List.getElem?_eq_none h1] at hx
      cases hx
  have hi' : i < cs.length := by omega
  obtain ⟨y, hy, hd⟩ := dpA_get (i := i) (d := PyData.int (cs[i] : Nat)) h (by simp [hi'])
  rw [hx] at hy
  cases hy
  exact ⟨cs[i], by simp [hi'], dp_int hd⟩
set_option maxHeartbeats 4000000 in
theorem ok_df {f fP : Addr} {fd fdP : FuncData} (F : Fun K "_law_drawn_fields" "_law_drawn_fields" sDF f fd) (HP : Has P w K mg base 1 "_law_pick" ["_law_state", "_law_many"] spPick fP fdP) (mt : mg "tuple" = none) (mr : mg "range" = none) :
    FnOk P w K mg base CX0 2 f fd ["_law_state", "_law_counts"] (spDF K) := by
  refine F.ok scDF (fun vs H Q E h => ?_) (fun cdv A outer s H vs Q E hr h => ?_)
  · obtain ⟨p, c, cs, rfl, _⟩ := h
    rfl
  · obtain ⟨p, c, cs, rfl, dr, hc, hcs, q⟩ := h
    have nd := scDF.nd
    refine' ⟨_, pss_cons ?s1 (pss_cons ?s2 (pss_one ?s3)), ?rd⟩
    case s1 =>
      exact ps_set (i := 2) nd rfl (.inl rfl) (pe_lst pa_nil)
    case s2 =>
      exact ps_for PassesOwn.never rfl (pi_tup (pv 1)) (pg_name (i := 3) nd rfl (Or.inl rfl))
        (pss_cons (ps_set (i := 4) nd rfl (.inl rfl) (pe_lst pa_nil))
        (pss_cons (ps_for PassesOwn.never rfl (pi_range1 rfl mr (pa_cons (pv 3) pa_nil)) (pg_name (i := 5) nd rfl (Or.inl rfl))
          (pss_cons (ps_par (i := 6) (j := 7) rfl nd rfl rfl (by decide) rfl rfl (pa_cons (hcall HP hr (pa_cons (pv 0) (pa_cons pe_int pa_nil))) (pa_cons (hcall HP hr (pa_cons (pv 0) (pa_cons (pe_op op_pow pe_int pe_int) pa_nil))) pa_nil)) (by rfl))
          (pss_one (ps_expr (pe_bm PySem.F.plainAttrs_list PySem.F.slot_list_append PySem.F.type_list_append mt_append (pv 4)
            (pa_cons (pe_ix ix_list (pe_lst (pa_cons (pe_op op_mod (pv 7) pe_int) (pa_cons (pe_op op_mod (pv 7) pe_int) (pa_cons (pe_op op_sub pe_int (pe_op op_mod (pv 7) pe_int)) (pa_cons (pe_op op_mul (pv 7) (pe_op op_pow pe_int pe_int)) pa_nil))))) (pv 6) (fun _ _ => rfl)) pa_nil))))))
        (pss_one (ps_expr (pe_bm PySem.F.plainAttrs_list PySem.F.slot_list_append PySem.F.type_list_append mt_append (pv 2)
            (pa_cons (pe_callTy call_tuple_of (by rfl) mt (by decide +kernel) (pa_cons (pv 4) pa_nil)) pa_nil))))))
    case s3 =>
      exact ps_ret (pe_callTy call_tuple_of (by rfl) mt (by decide +kernel) (pa_cons (pv 2) pa_nil))
    case rd =>
    obtain ⟨pc, cvs, rfl, hpc, hcv⟩ := dp_tup hc
    have hcl : cvs.length = cs.length := by
      have := dpA_len hcv
      rw [List.length_map] at this
      exact this
    refine ⟨by show 0 ≤ sizeLine; decide, fun D nD => ?_⟩
    have nDp : D ≠ p := dr.ne nD
    refine ⟨_, rfl, pc, rfl, ⟨_, (Gr.new nD).sqt hpc⟩, for_tup (xs := cvs) (fun i σ H1 => (∃ y3 y4 y5 y6 y7, σ = [some (.ref p), some (.ref pc), some (.ref D), y3, y4, y5, y6, y7]) ∧
      ∃ (gs : Fs) (vs : List V), H1 D = some (.lst vs) ∧ DpAll K H1 vs (gs.map lD) ∧ gs.map List.length = cs.take i ∧ (∀ l ∈ gs, ∀ x ∈ l, x.natAbs < 2 ^ 51) ∧ Gp p H H1 ∧ Drw H1 p) ?z0 ?z1 ?z2 ?z3⟩
    case z0 => exact ⟨⟨_, _, _, _, _, rfl⟩, [], [], upd_same, .nil, rfl, fun l hl => (by cases hl), Gp.gr (Gr.new nD), dr.new nD⟩
    case z1 =>
      rintro i σ H1 hi ⟨_, gs, vs, hD, hv, hl, hs, g1, dr1⟩
      exact (dr.kd g1).t hpc
    case z2 =>
      rintro i x σ H1 hx ⟨⟨y3, y4, y5, y6, y7, rfl⟩, gs, vs, hD, hv, hl, hs, g1, dr1⟩
      obtain ⟨n, hn, rfl⟩ := cs_at hcv hx
      have hn3 := hcs.2 n (List.mem_of_getElem? hn)
      refine ⟨by show 0 ≤ sizeLine; decide, fun S nS => ?_⟩
      have nSp : S ≠ p := dr1.ne nS
      have nSD : S ≠ D := fun z => by rw [z, hD] at nS; cases nS
      refine ⟨_, rfl, n, rfl, by omega, by omega, for_range (n := (n : Int).toNat) (fun j σ H2 => (∃ y5 y6 y7, σ = [some (.ref p), some (.ref pc), some (.ref D), some (.int n), some (.ref S), y5, y6, y7]) ∧
        ∃ l : List Int, H2 S = some (.lst (l.map V.int)) ∧ l.length = j ∧ (∀ x ∈ l, x.natAbs < 2 ^ 51) ∧ Gp p H1 H2 ∧ Drw H2 p) ?i0 ?i1 ?i2⟩
      case i0 => exact ⟨⟨_, _, _, rfl⟩, [], upd_same, rfl, fun l hl => (by cases hl), Gp.gr (Gr.new nS), dr1.new nS⟩
      case i1 =>
        rintro j σ H2 hj ⟨⟨y5, y6, y7, rfl⟩, l, hS, hll, hls, g2, dr2⟩
        refine ⟨_, rfl, p, 4, rfl, dr2, by decide, by decide, fun H3 kd b3 dr3 k0 k4 => ?_⟩
        refine ⟨_, rfl, 10, 6, rfl, rfl, ⟨by decide, by decide, by decide⟩, p, _, rfl, dr3, by decide, by decide, fun H4 nu b4 dr4 n0 n6 => ?_⟩
        have n6' : nu < 1000000 := n6
        refine ⟨_, _, rfl, ?_⟩
        have g4 : Gp p H2 H4 := (Gp.but b3).trans (Gp.but b4)
        have hS4 := g4.lst nSp hS
        obtain ⟨v, hv', hvs⟩ := pickf (k := kd) (n := nu) k0 k4 n0 n6'
        refine ⟨_, rfl, .inl ⟨rfl, ⟨_, .inl (.inl hS4)⟩⟩, ?_⟩
        refine ⟨_, rfl, nu, 3, rfl, rfl, (by show (0 : Int) < 3; decide), _, rfl, nu, 10, rfl, rfl, (by show (0 : Int) < 10; decide), _, rfl, nu, 20, rfl, rfl, (by show (0 : Int) < 20; decide), 0, _, rfl, rfl, _, rfl, 10, 9, rfl, rfl, ⟨by decide, by decide, by decide⟩, nu, _, rfl, rfl, .inr ⟨by decide, by decide⟩, ?_⟩
        refine ⟨by show 4 ≤ sizeLine; decide, fun L nL => ?_⟩
        have nLp : L ≠ p := dr4.ne nL
        have hSL := (Gr.new nL).lst (H' := upd H4 L (.lst [V.int (nu % 3), .int (nu % 10), .int (0 - nu % 20), .int (nu * 10 ^ (9 : Int).toNat)])) hS4
        refine ⟨_, rfl, L, _, kd, _, rfl, rfl, .inl (.inl upd_same), hv', ?_⟩
        refine ⟨S, _, _, rfl, rfl, hSL, ?_, ⟨_, _, _, rfl⟩, l ++ [v], ?_, ?_, ?_, ?_, ?_⟩
        · rw [List.length_map]
          exact small1000 (by omega)
        · rw [upd_same, List.map_append]
          rfl
        · rw [List.length_append, hll]
          rfl
        · intro x hx
          rcases List.mem_append.mp hx with h | h
          · exact hls x h
          · rw [show x = v by simpa using h]
            exact hvs
        · exact Gp.upd_new ((g2.trans g4).trans (Gp.gr (Gr.new nL))) nS
        · exact (dr4.new nL).upd nSp
      case i2 =>
        rintro σ H2 ⟨⟨y5, y6, y7, rfl⟩, l, hS, hll, hls, g2, dr2⟩
        have hD2 : H2 D = some (.lst vs) := g2.lst nDp hD
        refine ⟨_, rfl, .inl ⟨rfl, ⟨_, .inl (.inl hD2)⟩⟩, ?_⟩
        refine ⟨_, rfl, S, _, rfl, .inl ⟨.inl (.inl hS), fun T nT => ?_⟩⟩
        have gT : Gr H2 (upd H2 T (.tup (l.map V.int))) := Gr.new nT
        have hDT := gT.lst hD2
        refine ⟨D, _, _, rfl, rfl, hDT, ?_, ⟨_, _, _, _, _, rfl⟩, gs ++ [l], vs ++ [.ref T], upd_same, ?_, ?_, ?_, ?_, ?_⟩
        · have h1 := dpA_len hv
          have h2 : (gs.map List.length).length = (cs.take i).length := by rw [hl]
          rw [List.length_map] at h1 h2
          have h3 := List.length_take_le' i cs
          exact small1000 (by omega)
        · rw [List.map_append]
          have hv2 : DpAll K H2 vs (gs.map lD) := (dr1.kd g2).dpA hv
          refine dpA_snoc (rows_keep (sqt_upd hDT) (gT.kd.dpA hv2)) ?_
          exact row_keep (sqt_upd hDT) (.tup (.inl (.inl upd_same)) (ints_dp l))
        · rw [List.map_append, hl, List.take_add_one, hn]
          have : l.length = n := by
            rw [hll]
            exact Int.toNat_natCast n
          rw [← this]
          rfl
        · intro l' hl'
          rcases List.mem_append.mp hl' with h | h
          · exact hs l' h
          · rw [show l' = l by simpa using h]
            exact hls
        · exact Gp.upd_new ((g1.trans g2).trans (Gp.gr gT)) nD
        · exact (dr2.gr gT).upd nDp
    case z3 =>
      rintro σ H1 ⟨⟨y3, y4, y5, y6, y7, rfl⟩, gs, vs, hD, hv, hl, hs, g1, dr1⟩
      refine ⟨_, rfl, D, _, rfl, .inl ⟨.inl (.inl hD), fun T nT => ?_⟩⟩
      have gT : Gr H1 (upd H1 T (.tup vs)) := Gr.new nT
      refine q _ (.ref T) gs (g1.trans (Gp.gr gT)) (dr1.gr gT) (.tup (.inl (.inl upd_same)) (gT.kd.dpA hv)) ⟨?_, hs⟩
      rw [hl, hcl, List.take_length]
end
end SfE

namespace SfG
open PySem PySem.Spec PyProof.Rows L2
/-! ### repr of None, of a number, of a list or a tuple -/
def rReprA (K : PySem.W.Frag) : List V → Hp → VK → Prop := fun xs H Q =>
  ∃ (v : V) (d : PyData) (S : Str), xs = [v] ∧ Dp K H v d ∧ (v = .non ∨ (∃ i, v = .int i) ∨ ∃ a, v = .ref a) ∧ d.showable = true ∧ d.hasDict = false ∧
    d.depth ≤ 30 ∧ d.shown = S ∧ S.length ≤ sizeLine ∧ Q (.str S) H
theorem call_reprA {X : Cx} {k : Nat} (hr : Room k X.A) (hgd : X.A.guards = some []) :
    CallR X (.builtin "repr") (rReprA X.K) := by
  intro pins s σ H xs us Q I r h
  obtain ⟨v, d, S, rfl, hd, hv, hs, hn, hdep, rfl, hz, q⟩ := h
  rcases hv with rfl | ⟨i, rfl⟩ | ⟨a, rfl⟩
  · cases hd
    obtain ⟨u, rfl, ru⟩ := vals1 r
    cases ru
    exact PySem.P.repr_of_none ⟨.str _, H, I.tok _, ⟨_, rfl⟩, q⟩
  · cases hd
    obtain ⟨u, rfl, t, rfl⟩ := vals1 r
    exact PySem.P.repr_of_int (by simpa [PyData.showable] using hs) ⟨.str _, H, I.tok _, ⟨_, rfl⟩, q⟩
  · exact call_repr hr hgd pins s σ H _ us Q I r ⟨a, d, _, rfl, hd, hs, hn, hdep, rfl, hz, q⟩
/-! ### what can be shown, and how long that is -/
structure Sh (d : PyData) (L D : Nat) : Prop where
  able : d.showable = true
  nod : d.hasDict = false
  dep : d.depth ≤ D
  len : d.shown.length ≤ L
structure ShA (ds : List PyData) (L D : Nat) : Prop where
  able : PyData.showableAll ds = true
  nod : PyData.hasDictAll ds = false
  dep : PyData.depthAll ds ≤ D
  len : ((PyData.shownAll ds).map (·.length)).sum + 2 * ds.length ≤ L
theorem Sh.mono {d : PyData} {L D L' D' : Nat} (h : Sh d L D) (hL : L ≤ L') (hD : D ≤ D') : Sh d L' D' := ⟨h.able, h.nod, Nat.le_trans h.dep hD, Nat.le_trans h.len hL⟩
theorem ShA.mono {d : List PyData} {L D L' D' : Nat} (h : ShA d L D) (hL : L ≤ L') (hD : D ≤ D') : ShA d L' D' := ⟨h.able, h.nod, Nat.le_trans h.dep hD, Nat.le_trans h.len hL⟩
theorem ShA.nil {D : Nat} : ShA [] 0 D := ⟨rfl, rfl, by simp [PyData.depthAll], by simp [PyData.shownAll]⟩
theorem ShA.cons {d : PyData} {ds : List PyData} {L1 L2 D : Nat} (h : Sh d L1 D) (t : ShA ds L2 D) : ShA (d :: ds) (L1 + 2 + L2) D := by
  refine ⟨?_, ?_, ?_, ?_⟩
  · rw [PyData.showableAll, h.able, t.able]
    rfl
  · rw [PyData.hasDictAll, h.nod, t.nod]
    rfl
  · have h1 := h.dep
    have h2 := t.dep
    simp only [PyData.depthAll]
    omega
  · have h1 := h.len
    have h2 := t.len
    simp only [PyData.shownAll, List.map_cons, List.sum_cons, List.length_cons]
    omega
theorem Sh.tup {ds : List PyData} {L D : Nat} (h : ShA ds L D) : Sh (.tuple ds) (L + 3) (D + 1) := by
  refine ⟨h.able, h.nod, ?_, ?_⟩
  · have h1 := h.dep
    simp only [PyData.depth]
    omega
  · have h1 := h.len
    have h2 := tupleText_len_le (PyData.shownAll ds)
    have h3 := PyData.shownAll_length ds
    simp only [PyData.shown]
    omega
theorem Sh.lst {ds : List PyData} {L D : Nat} (h : ShA ds L D) : Sh (.list ds) (L + 3) (D + 1) := by
  refine ⟨h.able, h.nod, ?_, ?_⟩
  · have h1 := h.dep
    simp only [PyData.depth]
    omega
  · have h1 := h.len
    have h2 := listText_len_le (PyData.shownAll ds)
    have h3 := PyData.shownAll_length ds
    simp only [PyData.shown]
    omega
theorem Sh.non {D : Nat} : Sh .none 4 (D + 1) := ⟨rfl, rfl, by simp [PyData.depth], by decide⟩
theorem Sh.int {i : Int} {k D : Nat} (h : i.natAbs < 2 ^ k) (h0 : 0 < k) (hk : k ≤ 1920) : Sh (.int i) (k + 1) (D + 1) := by
  have hl : i.natAbs.log2 < k := by
    by_cases z : i.natAbs = 0
    · rw [z]
      exact h0
    · exact (Nat.log2_lt z).mpr h
  refine ⟨by simp only [PyData.showable]; exact decide_eq_true (by omega), rfl, by simp [PyData.depth], ?_⟩
  have e := int_text_length_le h0 hl
  show (Str.ofString (toString i)).length ≤ k + 1
  rw [PySem.ofString_length]
  exact e
theorem ShA.ints {k D : Nat} (h0 : 0 < k) (hk : k ≤ 1920) : ∀ {l : List Int}, (∀ x ∈ l, x.natAbs < 2 ^ k) → ShA (l.map PyData.int) (l.length * (k + 3)) (D + 1)
  | [], _ => ShA.nil.mono (by omega) (Nat.le_refl _)
  | a :: r, h => by
    have h1 := ShA.cons (Sh.int (h a List.mem_cons_self) h0 hk) (ShA.ints (D := D) h0 hk (l := r) fun x hx => h x (List.mem_cons_of_mem _ hx))
    refine h1.mono ?_ (Nat.le_refl _)
    rw [List.length_cons, Nat.succ_mul]
    omega
theorem Sh.fits {d : PyData} {L D : Nat} (h : Sh d L D) (hL : L ≤ 10000000) : d.shown.length ≤ sizeLine := by
  rw [sizeLine_eq]
  have := h.len
  omega
end SfG

namespace SfE
open PySem PySem.Spec PyProof.Rows L2 SfG
abbrev sRt : Stmt := topS 14
abbrev nRt : List Str := ["_law_expression_here", "_law_body_here", "_law_fields", "_law_given_here", "_law_due", "_law_kept"]
theorem scRt : FnScope nRt ["_law_expression_here", "_law_body_here", "_law_fields"] (defScope sRt) := ⟨rfl, rfl, rfl, by decide +kernel, rfl, by decide +kernel, by decide +kernel⟩
def fE : Nat → Nat
  | 0 => 0
  | n + 1 => 3 * fE n + 60
def fBd : Nat → Nat
  | 0 => 0
  | n + 1 => 2 * fBd n + 3000
theorem sh_opw {D : Nat} (w : Nat) : Sh (.str (opw w)) 7 (D + 1) := by
  refine ⟨rfl, rfl, by simp [PyData.depth], ?_⟩
  unfold opw
  split <;> decide +kernel
theorem sh_w {D : Nat} {x : Str} (h : (PyData.shown (.str x)).length ≤ 8 := by decide +kernel) : Sh (.str x) 8 (D + 1) := ⟨rfl, rfl, by simp [PyData.depth], h⟩
theorem sh_100 {D : Nat} {n : Int} (h0 : 0 ≤ n) (h : n ≤ 99) : Sh (.int n) 8 (D + 1) := Sh.int (k := 7) (by show n.natAbs < 128; omega) (by decide) (by decide)
theorem sh_ex {cs : List Nat} (hcs : cs.length ≤ 3 ∧ ∀ x ∈ cs, 1 ≤ x ∧ x ≤ 3) : ∀ (n : Nat) (e : Ex), dep e ≤ n → okE cs e → Sh e.d (fE n) (n + 1)
  | 0, e, h, _ => by
    have := dep_pos e
    omega
  | n + 1, .num k, h, ho => (Sh.tup (.cons sh_w (.cons (sh_100 ho.1 ho.2) (.nil (D := n + 1))))).mono (by show _ ≤ 3 * fE n + 60; omega) (Nat.le_refl _)
  | n + 1, .inp k f, h, ⟨c, hk, hf⟩ => by
    have h1 : k < 3 := by
      have : k < cs.length := by
        rcases Nat.lt_or_ge k cs.length with h1 | h1
        · exact h1
        · rw [List.getElem?_eq_none h1] at hk
          cases hk
      omega
    have h2 := (hcs.2 c (List.mem_of_getElem? hk)).2
    exact (Sh.tup (.cons sh_w (.cons (sh_100 (by omega) (by omega)) (.cons (sh_100 (by omega) (by omega)) (.nil (D := n + 1)))))).mono (by show _ ≤ 3 * fE n + 60; omega) (Nat.le_refl _)
  | n + 1, .bin w a b, h, ho => by
    simp only [dep] at h
    have ha := sh_ex hcs n a (by omega) ho.2.1
    have hb := sh_ex hcs n b (by omega) ho.2.2
    exact (Sh.tup (.cons (sh_opw w) (.cons ha (.cons hb .nil)))).mono (by show _ ≤ 3 * fE n + 60; omega) (Nat.le_refl _)
  | n + 1, .rst a m, h, ho => by
    simp only [dep] at h
    have ha := sh_ex hcs n a (by omega) ho.2.2
    have h1 := ho.1
    have h2 := ho.2.1
    exact (Sh.tup (.cons sh_w (.cons ha (.cons (sh_100 (by omega) (by omega)) .nil)))).mono (by show _ ≤ 3 * fE n + 60; omega) (Nat.le_refl _)
  | n + 1, .iff a b c, h, ho => by
    simp only [dep] at h
    have ha := sh_ex hcs n a (by omega) ho.1
    have hb := sh_ex hcs n b (by omega) ho.2.1
    have hc := sh_ex hcs n c (by omega) ho.2.2
    exact (Sh.tup (.cons sh_w (.cons ha (.cons hb (.cons hc .nil))))).mono (by show _ ≤ 3 * fE n + 60; omega) (Nat.le_refl _)
theorem sh_exs {cs : List Nat} (hcs : cs.length ≤ 3 ∧ ∀ x ∈ cs, 1 ≤ x ∧ x ≤ 3) : ∀ (es : List Ex), (∀ e ∈ es, goE cs 3 e) → ShA (es.map Ex.d) (es.length * 782) 4
  | [], _ => ShA.nil.mono (by omega) (Nat.le_refl _)
  | e :: r, h => by
    have h1 := h e List.mem_cons_self
    refine (ShA.cons (sh_ex hcs 3 e h1.2.1 h1.1) (sh_exs hcs r fun x hx => h x (List.mem_cons_of_mem _ hx))).mono ?_ (Nat.le_refl _)
    rw [List.length_cons, Nat.succ_mul]
    have : fE 3 = 780 := by decide
    omega
theorem sh_bd {cs : List Nat} {m : Nat} (hcs : cs.length ≤ 3 ∧ ∀ x ∈ cs, 1 ≤ x ∧ x ≤ 3) (hm : m ≤ 3) : ∀ (n : Nat) (b : Bd), depB b ≤ n → okB cs 3 m b → Sh b.d (fBd n) (n + 6)
  | 0, b, h, _ => by
    have := depB_pos b
    omega
  | n + 1, .ref, h, ho => (Sh.tup (.cons sh_w (.nil (D := n + 6)))).mono (by show _ ≤ 2 * fBd n + 3000; omega) (Nat.le_refl _)
  | n + 1, .giv es, h, ho => by
    have h1 := ho.1
    exact (Sh.tup (.cons sh_w (.cons ((Sh.tup (sh_exs hcs es ho.2)).mono (Nat.le_refl _) (show 5 ≤ n + 6 by omega)) .nil))).mono (by show _ ≤ 2 * fBd n + 3000; omega) (Nat.le_refl _)
  | n + 1, .whn e a b, h, ho => by
    simp only [depB] at h
    have he := sh_ex hcs 3 e ho.1.2.1 ho.1.1
    have ha := sh_bd hcs hm n a (by omega) ho.2.1
    have hb := sh_bd hcs hm n b (by omega) ho.2.2
    have : fE 3 = 780 := by decide
    exact (Sh.tup (.cons sh_w (.cons (he.mono (Nat.le_refl _) (show 4 ≤ n + 6 by omega)) (.cons ha (.cons hb .nil))))).mono (by show _ ≤ 2 * fBd n + 3000; omega) (Nat.le_refl _)
theorem sh_rows : ∀ (fs : Fs), (∀ l ∈ fs, l.length ≤ 3 ∧ ∀ x ∈ l, x.natAbs < 2 ^ 51) → ShA (fs.map lD) (fs.length * 170) 2
  | [], _ => ShA.nil.mono (by omega) (Nat.le_refl _)
  | l :: r, h => by
    have h1 := h l List.mem_cons_self
    refine (ShA.cons (Sh.tup (ShA.ints (D := 0) (k := 51) (by decide) (by decide) h1.2)) (sh_rows r fun x hx => h x (List.mem_cons_of_mem _ hx))).mono ?_ (Nat.le_refl _)
    rw [List.length_cons, Nat.succ_mul]
    omega
theorem sh_fs {cs : List Nat} {fs : Fs} (hcs : cs.length ≤ 3 ∧ ∀ x ∈ cs, 1 ≤ x ∧ x ≤ 3) (hF : Fit cs fs) : Sh (fD fs) 600 3 := by
  have hl : fs.length = cs.length := by
    rw [← hF.len, List.length_map]
  refine (Sh.tup (sh_rows fs fun l hl => ⟨?_, hF.small l hl⟩)).mono (by omega) (Nat.le_refl _)
  have : l.length ∈ cs := by
    rw [← hF.len]
    exact List.mem_map_of_mem hl
  exact (hcs.2 _ this).2
theorem ev_sh {cs : List Nat} {fs : Fs} {e : Ex} {n : Nat} (hF : Fit cs fs) (ho : okE cs e) (hl : lvs e ≤ n) (hn : 1 ≤ n) (hn2 : n ≤ 37) {D : Nat} : Sh (.int (ev fs e)) (51 * n + 1) (D + 1) :=
  Sh.int (Nat.lt_of_lt_of_le (ev_small hF e ho) (Nat.pow_le_pow_right (by decide) (by omega))) (by omega) (by omega)
theorem gv_sh {cs : List Nat} {fs : Fs} {m : Nat} (hF : Fit cs fs) : ∀ (B : Bd) {l : List Int}, okB cs 3 m B → gv fs B = some l → l.length = m ∧ ∀ x ∈ l, x.natAbs < 2 ^ 459
  | .ref, l, _, h => by cases h
  | .giv es, l, ho, h => by
    cases h
    refine ⟨by rw [List.length_map]; exact ho.1, fun x hx => ?_⟩
    obtain ⟨e, he, rfl⟩ := List.mem_map.mp hx
    have h1 := ho.2 e he
    exact Nat.lt_of_lt_of_le (ev_small hF e h1.1) (Nat.pow_le_pow_right (by decide) (by have := h1.2.2; omega))
  | .whn e a b, l, ho, h => by
    simp only [gv] at h
    split at h
    · exact gv_sh hF a ho.2.1 h
    · exact gv_sh hF b ho.2.2 h
section
variable {P : Program} {w : World} {K : PySem.W.Frag} {mg : Str → Option Value} {base : Heap}
def spRt (K : PySem.W.Frag) : Sp := fun vs H Q _ => ∃ (e b f : V) (E : Ex) (B : Bd) (cs : List Nat) (fs : Fs) (m : Nat), vs = [e, b, f] ∧ Dp K H e E.d ∧ Dp K H b B.d ∧ Dp K H f (fD fs) ∧ Gd cs 4 E ∧ okB cs 3 m B ∧ m ≤ 3 ∧ depB B ≤ 4 ∧ Fit cs fs ∧
  (cs.length ≤ 3 ∧ ∀ x ∈ cs, 1 ≤ x ∧ x ≤ 3) ∧ ∀ H', Gr H H' → Q (.bl true) H'
def due (fs : Fs) (B : Bd) (d : PyData) : Prop := (d = .none ∧ gv fs B = none) ∨ ∃ l, d = lD l ∧ gv fs B = some l
set_option maxHeartbeats 4000000 in
theorem rt_tail {f fV fB fL : Addr} {fdV fdB fdL : FuncData} {cdv : Value} {A : Around} {outer : List Env} {s : Shared} {H : Hp} {Q : VK} {E : XK} {e b g : V} {Ex : Ex} {B : Bd} {cs : List Nat} {fs : Fs} {m : Nat}
    (HV : Has P w K mg base 9 "value_of" ["expression", "fields"] (spVal K 4) fV fdV)
    (HB : Has P w K mg base 9 "given_by" ["body", "fields"] (spGiv K 3) fB fdB) (HL : Has P w K mg base 9 "_law_value" ["_law_thing", "_law_fields"] (spLV K 4) fL fdL)
    (mp : mg "repr" = none) (hr : Room 9 (A.deeper (envOfC "_law_right" (defScope sRt) s.heap.objs.size f cdv))) (hgd : A.guards = some [])
    (he : Dp K H e Ex.d) (hb : Dp K H b B.d) (hg : Dp K H g (fD fs)) (hE : Gd cs 4 Ex) (hB : okB cs 3 m B) (hm : m ≤ 3) (hdB : depB B ≤ 4) (hF : Fit cs fs) (hcs : cs.length ≤ 3 ∧ ∀ x ∈ cs, 1 ≤ x ∧ x ≤ 3) (q : ∀ H', Gr H H' → Q (.bl true) H') :
    ∃ tt, PSs (cxOf CX0 P w K mg base nRt "_law_right" (defScope sRt) f cdv A outer s H E).nox ((defBody sRt).drop 2) tt ∧
      ∀ (H1 : Hp) (v3 v4 : V) (d : PyData), Gr H H1 → due fs B d → Dp K H1 v4 d → (v4 = .non ∨ (∃ i, v4 = .int i) ∨ ∃ a, v4 = .ref a) → tt { nx := fun _ H' => Q .non H', rt := Q } [some e, some b, some g, some v3, some v4, none] H1 := by
  have nd := scRt.nd
  refine' ⟨_, pss_cons ?s3 (pss_cons ?s4 (pss_one ?s5)), ?rd⟩
  case s3 =>
    exact ps_set (i := 5) nd rfl (.inl rfl) (pe_callB (call_reprA hr hgd) (by rfl) mp (by decide +kernel) (pa_cons (pe_lst (pa_cons (pv 0) (pa_cons (pv 1) (pa_cons (pv 2) pa_nil)))) pa_nil))
  case s4 =>
    exact ps_if (pt_cmpR op_ne (pe_callB (call_reprA hr hgd) (by rfl) mp (by decide +kernel) (pa_cons (hcall HV hr (pa_cons (pv 0) (pa_cons (pv 2) pa_nil))) pa_nil))
      (pe_callB (call_reprA hr hgd) (by rfl) mp (by decide +kernel) (pa_cons (hcall HL hr (pa_cons (pv 0) (pa_cons (pv 2) pa_nil))) pa_nil)) (nomark _)) (pss_one (ps_ret pe_bl)) pss_nil
  case s5 =>
    exact ps_ret (pe_and (pe_cmpR op_eq (pe_callB (call_reprA hr hgd) (by rfl) mp (by decide +kernel) (pa_cons (hcall HB hr (pa_cons (pv 1) (pa_cons (pv 2) pa_nil))) pa_nil))
        (pe_callB (call_reprA hr hgd) (by rfl) mp (by decide +kernel) (pa_cons (pv 4) pa_nil)) (nomark _))
      (pe_one (pe_cmpR op_eq (pe_callB (call_reprA hr hgd) (by rfl) mp (by decide +kernel) (pa_cons (pe_lst (pa_cons (pv 0) (pa_cons (pv 1) (pa_cons (pv 2) pa_nil)))) pa_nil)) (pv 5) (nomark _))))
  case rd =>
  intro H1 v3 v4 d g1 hdue hd4 hv4
  have hl27 : lvs Ex ≤ 27 := hE.2.2
  have shv : Sh (.int (ev fs Ex)) (51 * 27 + 1) 1 := ev_sh (D := 0) hF hE.1 hl27 (by decide) (by decide)
  have shn : Sh .none 4 1 := Sh.non (D := 0)
  have shL : Sh (.list [Ex.d, B.d, fD fs]) 100000 11 := by
    refine (Sh.lst (.cons ((sh_ex hcs 4 Ex hE.2.1 hE.1).mono (show fE 4 ≤ 3000 by decide) (show 5 ≤ 10 by decide)) (.cons ((sh_bd hcs hm 4 B hdB hB).mono (show fBd 4 ≤ 50000 by decide) (Nat.le_refl _)) (.cons ((sh_fs hcs hF).mono (Nat.le_refl _) (show 3 ≤ 10 by decide)) .nil)))).mono (by decide) (Nat.le_refl _)
  have shd : Sh d 3000 3 := by
    rcases hdue with ⟨rfl, _⟩ | ⟨l, rfl, hl⟩
    · exact Sh.non.mono (by decide) (show 1 ≤ 3 by decide)
    · obtain ⟨h1, h2⟩ := gv_sh hF B hB hl
      refine (Sh.tup (ShA.ints (D := 0) (k := 459) (by decide) (by decide) h2)).mono ?_ (by decide)
      rw [h1]
      have : m * (459 + 3) ≤ 3 * 462 := Nat.mul_le_mul_right _ hm
      omega
  -- repr of what is handed in
  have e1 := g1.kd (K := K) |>.dp he
  have b1 := g1.kd (K := K) |>.dp hb
  have f1 := g1.kd (K := K) |>.dp hg
  refine ⟨_, rfl, _, rfl, _, rfl, by show 3 ≤ sizeLine; decide, fun k1 nk1 => ?_⟩
  have g2 : Gr H1 (upd H1 k1 (.lst [e, b, g])) := Gr.new nk1
  have dL : Dp K (upd H1 k1 (.lst [e, b, g])) (.ref k1) (.list [Ex.d, B.d, fD fs]) := .lst (.inl (.inl upd_same)) (.cons (g2.kd.dp e1) (.cons (g2.kd.dp b1) (.cons (g2.kd.dp f1) .nil)))
  refine ⟨_, _, _, rfl, dL, (.inr (.inr ⟨_, rfl⟩)), shL.able, shL.nod, Nat.le_trans shL.dep (by decide), rfl, shL.fits (by decide), ?_⟩
  have e2 := g2.kd (K := K) |>.dp e1
  have b2 := g2.kd (K := K) |>.dp b1
  have f2 := g2.kd (K := K) |>.dp f1
  have d2 := g2.kd (K := K) |>.dp hd4
  have gg2 := g1.trans g2
  generalize upd H1 k1 (.lst [e, b, g]) = H2 at g2 dL e2 b2 f2 d2 gg2 ⊢
  -- value_of and the law's own
  refine ⟨_, rfl, _, rfl, e, g, Ex, cs, fs, rfl, e2, f2, hE.1, hF, hE.2.1, by omega, ?_⟩
  refine ⟨_, _, _, rfl, (.int _), (.inr (.inl ⟨_, rfl⟩)), shv.able, shv.nod, Nat.le_trans shv.dep (by decide), rfl, shv.fits (by decide), ?_⟩
  refine ⟨_, rfl, _, rfl, e, g, Ex, cs, fs, rfl, e2, f2, hE.1, hF, hE.2.1, by omega, fun H3 g3 => ?_⟩
  refine ⟨_, _, _, rfl, (.int _), (.inr (.inl ⟨_, rfl⟩)), shv.able, shv.nod, Nat.le_trans shv.dep (by decide), rfl, shv.fits (by decide), ?_⟩
  refine ⟨rfl, _, rfl, ?_⟩
  rw [decide_eq_true rfl]
  refine iteF ?_
  have e3 := g3.kd (K := K) |>.dp e2
  have b3 := g3.kd (K := K) |>.dp b2
  have f3 := g3.kd (K := K) |>.dp f2
  have d3 := g3.kd (K := K) |>.dp d2
  have gg3 := gg2.trans g3
  refine ⟨_, rfl, _, rfl, b, g, B, cs, fs, m, rfl, b3, f3, hB, by omega, hF, fun hn => ?_, fun l H4 p4 hl g4 hp4 => ?_⟩
  · rcases hdue with ⟨rfl, _⟩ | ⟨l, rfl, hl⟩
    · refine ⟨_, _, _, rfl, .non, (.inl rfl), shn.able, shn.nod, Nat.le_trans shn.dep (by decide), rfl, shn.fits (by decide), ?_⟩
      refine ⟨_, rfl, ⟨_, _, _, rfl, d3, hv4, shd.able, shd.nod, Nat.le_trans shd.dep (by decide), rfl, shd.fits (by decide), ?_⟩⟩
      refine ⟨rfl, _, rfl, ?_⟩
      rw [decide_eq_true rfl]
      refine iteT ⟨_, rfl, _, rfl, _, rfl, by show 3 ≤ sizeLine; decide, fun k5 nk5 => ?_⟩
      have g5 : Gr H3 (upd H3 k5 (.lst [e, b, g])) := Gr.new nk5
      have dL5 : Dp K (upd H3 k5 (.lst [e, b, g])) (.ref k5) (.list [Ex.d, B.d, fD fs]) := .lst (.inl (.inl upd_same)) (.cons (g5.kd.dp e3) (.cons (g5.kd.dp b3) (.cons (g5.kd.dp f3) .nil)))
      refine ⟨_, _, _, rfl, dL5, (.inr (.inr ⟨_, rfl⟩)), shL.able, shL.nod, Nat.le_trans shL.dep (by decide), rfl, shL.fits (by decide), ?_⟩
      refine ⟨_, rfl, rfl, ?_⟩
      rw [decide_eq_true rfl]
      exact q _ (gg3.trans g5)
    · rw [hn] at hl
      cases hl
  · rcases hdue with ⟨rfl, hn⟩ | ⟨l', rfl, hl'⟩
    · rw [hn] at hl
      cases hl
    · rw [hl] at hl'
      cases hl'
      have e4 := g4.kd (K := K) |>.dp e3
      have b4 := g4.kd (K := K) |>.dp b3
      have f4 := g4.kd (K := K) |>.dp f3
      have d4 := g4.kd (K := K) |>.dp d3
      refine ⟨_, _, _, rfl, (.tup (.inl (.inl hp4)) (ints_dp l)), (.inr (.inr ⟨_, rfl⟩)), shd.able, shd.nod, Nat.le_trans shd.dep (by decide), rfl, shd.fits (by decide), ?_⟩
      refine ⟨_, rfl, ⟨_, _, _, rfl, d4, hv4, shd.able, shd.nod, Nat.le_trans shd.dep (by decide), rfl, shd.fits (by decide), ?_⟩⟩
      refine ⟨rfl, _, rfl, ?_⟩
      rw [decide_eq_true rfl]
      refine iteT ⟨_, rfl, _, rfl, _, rfl, by show 3 ≤ sizeLine; decide, fun k5 nk5 => ?_⟩
      have g5 : Gr H4 (upd H4 k5 (.lst [e, b, g])) := Gr.new nk5
      have dL5 : Dp K (upd H4 k5 (.lst [e, b, g])) (.ref k5) (.list [Ex.d, B.d, fD fs]) := .lst (.inl (.inl upd_same)) (.cons (g5.kd.dp e4) (.cons (g5.kd.dp b4) (.cons (g5.kd.dp f4) .nil)))
      refine ⟨_, _, _, rfl, dL5, (.inr (.inr ⟨_, rfl⟩)), shL.able, shL.nod, Nat.le_trans shL.dep (by decide), rfl, shL.fits (by decide), ?_⟩
      refine ⟨_, rfl, rfl, ?_⟩
      rw [decide_eq_true rfl]
      exact q _ ((gg3.trans g4).trans g5)
set_option maxHeartbeats 4000000 in
theorem ok_rt {f fG fV fB fL : Addr} {fd fdG fdV fdB fdL : FuncData} (F : Fun K "_law_right" "_law_right" sRt f fd)
    (HG : Has P w K mg base 9 "_law_given" ["_law_body_here", "_law_fields"] (spLG K 4) fG fdG) (HV : Has P w K mg base 9 "value_of" ["expression", "fields"] (spVal K 4) fV fdV)
    (HB : Has P w K mg base 9 "given_by" ["body", "fields"] (spGiv K 3) fB fdB) (HL : Has P w K mg base 9 "_law_value" ["_law_thing", "_law_fields"] (spLV K 4) fL fdL)
    (mt : mg "tuple" = none) (mp : mg "repr" = none) : FnG P w K mg base CX0 10 f fd ["_law_expression_here", "_law_body_here", "_law_fields"] (spRt K) := by
  refine fng_of F scRt (fun vs H Q E h => ?_) (fun cdv A outer s H vs Q E hr hgd h => ?_)
  · obtain ⟨e, b, g, E, B, cs, fs, m, rfl, _⟩ := h
    rfl
  · obtain ⟨e, b, g, Ex, B, cs, fs, m, rfl, he, hb, hg, hE, hB, hm, hdB, hF, hcs, q⟩ := h
    have nd := scRt.nd
    obtain ⟨tt, dT, rT⟩ := rt_tail (f := f) (outer := outer) (E := E) HV HB HL mp hr hgd he hb hg hE hB hm hdB hF hcs q
    refine' ⟨_, pss_cons ?s1 (pss_cons ?s2 dT), ?rd⟩
    case s1 =>
      exact ps_set (i := 3) nd rfl (.inl rfl) (hcall HG hr (pa_cons (pv 1) (pa_cons (pv 2) pa_nil)))
    case s2 =>
      exact ps_set (i := 4) nd rfl (.inl rfl) (pe_ifExp (pt_cmpR op_isN (pv 3) pe_non (nomark _)) pe_non (pe_callTy call_tuple_of (by rfl) mt (by decide +kernel) (pa_cons (pv 3) pa_nil)))
    case rd =>
    refine ⟨_, rfl, _, rfl, b, g, B, cs, fs, m, rfl, hb, hg, hB, by omega, hF, hdB, fun H1 hn g1 => ?_, fun l H1 p hl g1 np hp => ?_⟩
    · refine ⟨_, rfl, rfl, _, rfl, iteT ?_⟩
      exact rT H1 .non .non .none g1 (.inl ⟨rfl, hn⟩) .non (.inl rfl)
    · refine ⟨_, rfl, rfl, _, rfl, iteF ⟨_, rfl, p, _, rfl, .inl ⟨.inl (.inl hp), fun T nT => ?_⟩⟩⟩
      exact rT _ (.ref p) (.ref T) (lD l) (g1.trans (Gr.new nT)) (.inr ⟨l, rfl, hl⟩) (.tup (.inl (.inl upd_same)) (ints_dp l)) (.inr (.inr ⟨_, rfl⟩))
end
end SfE

namespace SfE
open PySem PySem.Spec PyProof.Rows L2 SfG
abbrev sWr : Stmt := topS 15
abbrev nWr : List Str := ["_law_one", "_law_other", "_law_first", "_law_second", "_law_fields", "_law_told", "_law_due", "_law_whens", "_law_great", "_law_k", "_law_word"]
theorem scWr : FnScope nWr [] (defScope sWr) := ⟨rfl, rfl, rfl, by decide +kernel, rfl, by decide +kernel, by decide +kernel⟩
def forBody (s : Stmt) : List Stmt := match s with
  | .For _ _ b _ _ => b
  | _ => []
abbrev bIn : List Stmt := forBody ((forBody ((defBody sWr).getD 1 (.Pass ⟨0, 0, 0, 0⟩))).getD 0 (.Pass ⟨0, 0, 0, 0⟩))
abbrev eOne : Ex := .inp 0 0
abbrev eOth : Ex := .inp 1 1
abbrev fAB (a b : Int) : Fs := [[a], [7, b]]
theorem fitAB {a b : Int} (ha : a.natAbs ≤ 200) (hb : b.natAbs ≤ 200) : Fit [1, 2] (fAB a b) := by
  refine ⟨rfl, ?_⟩
  have e51 : (2 : Nat) ^ 51 = 2251799813685248 := by decide
  rw [e51]
  intro l hl x hx
  simp only [List.mem_cons, List.not_mem_nil, or_false] at hl
  rcases hl with rfl | rfl
  · simp only [List.mem_cons, List.not_mem_nil, or_false] at hx
    subst hx
    omega
  · simp only [List.mem_cons, List.not_mem_nil, or_false] at hx
    rcases hx with rfl | rfl <;> omega
def wds : List V := [.str "plus", .str "less", .str "times", .str "same", .str "under"]
def five (a b : Int) : List Int := [a + b, a - b, a * b, if a = b then 1 else 0, if a < b then 1 else 0]
def lastD (a b : Int) : PyData := if a ≠ 0 then lD [b, a] else if b ≠ 0 then .none else lD [a, a]
def seven (a b : Int) : List Int := five a b ++ [b % 2, if a ≠ 0 then b else 5]
def allD (a b : Int) : PyData := .list ((seven a b).map PyData.int ++ [lastD a b])
theorem mul_small {a b : Int} (ha : a.natAbs ≤ 200) (hb : b.natAbs ≤ 200) : (a * b).natAbs < 2 ^ 20 := by
  rw [Int.natAbs_mul]
  exact Nat.lt_of_le_of_lt (Nat.mul_le_mul ha hb) (by decide)
theorem seven_small {a b : Int} (ha : a.natAbs ≤ 200) (hb : b.natAbs ≤ 200) : ∀ x ∈ seven a b, x.natAbs < 2 ^ 20 := by
  intro x hx
  have hm := mul_small ha hb
  have e : (2 : Nat) ^ 20 = 1048576 := by decide
  rw [e] at hm ⊢
  simp only [seven, five, List.cons_append, List.nil_append, List.mem_cons, List.not_mem_nil, or_false] at hx
  rcases hx with rfl | rfl | rfl | rfl | rfl | rfl | rfl
  · omega
  · omega
  · exact hm
  · split <;> decide
  · split <;> decide
  · omega
  · split <;> omega
theorem sh_last {a b : Int} (ha : a.natAbs ≤ 200) (hb : b.natAbs ≤ 200) : Sh (lastD a b) 60 2 := by
  have two : ∀ x y : Int, x.natAbs ≤ 200 → y.natAbs ≤ 200 → Sh (lD [x, y]) 60 2 := by
    intro x y hx hy
    refine (Sh.tup (ShA.ints (D := 0) (k := 20) (by decide) (by decide) (l := [x, y]) fun z hz => ?_)).mono (show 2 * 23 + 3 ≤ 60 by decide) (by decide)
    have e : (2 : Nat) ^ 20 = 1048576 := by decide
    simp only [List.mem_cons, List.not_mem_nil, or_false] at hz
    rw [e]
    rcases hz with rfl | rfl <;> omega
  unfold lastD
  split
  · exact two b a hb ha
  · split
    · exact Sh.non.mono (by decide) (show 1 ≤ 2 by decide)
    · exact two a a ha ha
theorem shA_app {xs ys : List PyData} {L1 L2 D : Nat} (hy : ShA ys L2 D) : ∀ {xs : List PyData} {L1 : Nat}, ShA xs L1 D → ShA (xs ++ ys) (L1 + L2) D
  | [], L1, h => hy.mono (by omega) (Nat.le_refl _)
  | x :: r, L1, h => by
    have hs := h.able
    have hn := h.nod
    have hd := h.dep
    have hl := h.len
    rw [PyData.showableAll, Bool.and_eq_true] at hs
    rw [PyData.hasDictAll, Bool.or_eq_false_iff] at hn
    simp only [PyData.depthAll] at hd
    simp only [PyData.shownAll, List.map_cons, List.sum_cons, List.length_cons] at hl
    have h1 : Sh x x.shown.length D := ⟨hs.1, hn.1, by omega, Nat.le_refl _⟩
    have h2 : ShA r (L1 - (x.shown.length + 2)) D := ⟨hs.2, hn.2, by omega, by omega⟩
    exact (ShA.cons h1 (shA_app (xs := r) (L1 := 0) hy h2)).mono (by omega) (Nat.le_refl _)
theorem sh_all {a b : Int} (ha : a.natAbs ≤ 200) (hb : b.natAbs ≤ 200) : Sh (allD a b) 300 3 := by
  have h1 := ShA.ints (D := 1) (k := 20) (by decide) (by decide) (seven_small ha hb)
  have h2 : ShA [lastD a b] 62 2 := ShA.cons (sh_last ha hb) .nil
  exact (Sh.lst (shA_app (xs := []) (L1 := 0) h2 h1)).mono (show 7 * 23 + 62 + 3 ≤ 300 by decide) (Nat.le_refl _)
theorem last_keep {K : PySem.W.Frag} {H H' : Hp} (kt : ∀ {a xs}, SqT K H a xs → SqT K H' a xs) {a b : Int} {v : V} (h : Dp K H v (lastD a b)) : Dp K H' v (lastD a b) := by
  unfold lastD at h ⊢
  split
  · rw [if_pos ‹_›] at h
    exact row_keep kt h
  · rw [if_neg ‹_›] at h
    split
    · rw [if_pos ‹_›] at h
      cases h
      exact .non
    · rw [if_neg ‹_›] at h
      exact row_keep kt h
theorem ints_snoc {K : PySem.W.Frag} {H : Hp} {l : List Int} {v : V} {d : PyData} (h : Dp K H v d) : DpAll K H (l.map V.int ++ [v]) (l.map PyData.int ++ [d]) := dpA_snoc (ints_dp l) h

section
variable {P : Program} {w : World} {K : PySem.W.Frag} {mg : Str → Option Value} {base : Heap}
set_option maxHeartbeats 4000000 in
theorem wr_t3 {f fV fB : Addr} {fdV fdB : FuncData} {cdv : Value} {A : Around} {outer : List Env} {s : Shared} {H : Hp} {E : XK}
    (HV : Has P w K mg base 9 "value_of" ["expression", "fields"] (spVal K 7) fV fdV) (HB : Has P w K mg base 9 "given_by" ["body", "fields"] (spGiv K 3) fB fdB)
    (mp : mg "repr" = none) (mi : mg "int" = none) (hr : Room 9 (A.deeper (envOfC "_law_words_right" (defScope sWr) s.heap.objs.size f cdv))) (hgd : A.guards = some []) :
    ∃ tt, PSs (cxOf CX0 P w K mg base nWr "_law_words_right" (defScope sWr) f cdv A outer s H E).nox (bIn.drop 9) tt ∧
      ∀ (D : Ends) (Hc : Hp) (v0 v1 vf : V) (l1 l2 : Addr) (a b : Int) (y7 y8 y9 y10 : Option V), a.natAbs ≤ 200 → b.natAbs ≤ 200 → Dp K Hc (.ref l1) (allD a b) → Dp K Hc (.ref l2) (allD a b) →
        D.nx [some v0, some v1, some (.int a), some (.int b), some vf, some (.ref l1), some (.ref l2), y7, y8, y9, y10] Hc →
        tt D [some v0, some v1, some (.int a), some (.int b), some vf, some (.ref l1), some (.ref l2), y7, y8, y9, y10] Hc := by
  have nd := scWr.nd
  refine' ⟨_, pss_one ?b10, ?rd⟩
  case b10 =>
    exact ps_if (pt_cmpR op_ne (pe_callB (call_reprA hr hgd) (by rfl) mp (by decide +kernel) (pa_cons (pv 5) pa_nil)) (pe_callB (call_reprA hr hgd) (by rfl) mp (by decide +kernel) (pa_cons (pv 6) pa_nil)) (nomark _)) (pss_one (ps_ret pe_bl)) pss_nil
  case rd =>
  intro D Hc v0 v1 vf l1 l2 a b y7 y8 y9 y10 ha hb h1 h2 q
  have sh := sh_all ha hb
  refine ⟨_, rfl, _, _, _, rfl, h1, (.inr (.inr ⟨_, rfl⟩)), sh.able, sh.nod, Nat.le_trans sh.dep (by decide), rfl, sh.fits (by decide), ?_⟩
  refine ⟨_, rfl, _, _, _, rfl, h2, (.inr (.inr ⟨_, rfl⟩)), sh.able, sh.nod, Nat.le_trans sh.dep (by decide), rfl, sh.fits (by decide), ?_⟩
  refine ⟨rfl, _, rfl, ?_⟩
  rw [decide_eq_true rfl]
  exact iteF q
set_option maxHeartbeats 4000000 in
theorem wr_t2 {f fV fB : Addr} {fdV fdB : FuncData} {cdv : Value} {A : Around} {outer : List Env} {s : Shared} {H : Hp} {E : XK}
    (HV : Has P w K mg base 9 "value_of" ["expression", "fields"] (spVal K 7) fV fdV) (HB : Has P w K mg base 9 "given_by" ["body", "fields"] (spGiv K 3) fB fdB)
    (mp : mg "repr" = none) (mi : mg "int" = none) (hr : Room 9 (A.deeper (envOfC "_law_words_right" (defScope sWr) s.heap.objs.size f cdv))) (hgd : A.guards = some []) :
    ∃ tt, PSs (cxOf CX0 P w K mg base nWr "_law_words_right" (defScope sWr) f cdv A outer s H E).nox (bIn.drop 8) tt ∧
      ∀ (D : Ends) (Hf Hc : Hp) (v0 v1 vf v : V) (l1 l2 : Addr) (a b : Int) (y7 y8 y9 y10 : Option V), a.natAbs ≤ 200 → b.natAbs ≤ 200 → Gr Hf Hc → Hf l1 = none → Hf l2 = none → l1 ≠ l2 →
        Hc l1 = some (.lst ((seven a b).map V.int ++ [v])) → Dp K Hc v (lastD a b) → Hc l2 = some (.lst ((seven a b).map V.int)) →
        (∀ H', Gr Hf H' → D.nx [some v0, some v1, some (.int a), some (.int b), some vf, some (.ref l1), some (.ref l2), y7, y8, y9, y10] H') →
        tt D [some v0, some v1, some (.int a), some (.int b), some vf, some (.ref l1), some (.ref l2), y7, y8, y9, y10] Hc := by
  have nd := scWr.nd
  obtain ⟨t3, d3, r3⟩ := wr_t3 (f := f) (outer := outer) (H := H) (E := E) HV HB mp mi hr hgd
  refine' ⟨_, pss_cons ?b9 d3, ?rd⟩
  case b9 =>
    exact ps_expr (pe_bm PySem.F.plainAttrs_list PySem.F.slot_list_append PySem.F.type_list_append mt_append (pv 6) (pa_cons (pe_ifExp (pt_cmpR op_ne (pv 2) pe_int (nomark _)) (pe_tup (pa_cons (pv 3) (pa_cons (pv 2) pa_nil)))
      (pe_ifExp (pt_cmpR op_ne (pv 3) pe_int (nomark _)) pe_non (pe_tup (pa_cons (pv 2) (pa_cons (pv 2) pa_nil))))) pa_nil))
  case rd =>
  intro D Hf Hc v0 v1 vf v l1 l2 a b y7 y8 y9 y10 ha hb g n1 n2 ne h1 hv h2 q
  have l7 : ((seven a b).map V.int).length < sizeLine := by
    rw [List.length_map]
    exact small1000 (show 7 ≤ 1000 by decide)
  -- a new tuple of two
  have two : ∀ (x y : Int) (T : Addr), lastD a b = lD [x, y] → Hc T = none →
      t3 D [some v0, some v1, some (.int a), some (.int b), some vf, some (.ref l1), some (.ref l2), y7, y8, y9, y10] (upd (upd Hc T (.tup [.int x, .int y])) l2 (.lst ((seven a b).map V.int ++ [.ref T]))) := by
    intro x y T e nT
    have gT : Gr Hc (upd Hc T (.tup [.int x, .int y])) := Gr.new nT
    have h2T := gT.lst h2
    refine r3 D _ v0 v1 vf l1 l2 a b y7 y8 y9 y10 ha hb ?_ ?_ (q _ (Gr.upd_new (g.trans gT) n2))
    · refine .lst (.inl (.inl ((upd_ne ne).trans (gT.lst h1)))) (ints_snoc ?_)
      exact last_keep (sqt_upd h2T) (gT.kd.dp hv)
    · refine .lst (.inl (.inl upd_same)) (ints_snoc ?_)
      refine last_keep (sqt_upd h2T) ?_
      rw [e]
      exact .tup (.inl (.inl upd_same)) (ints_dp [x, y])
  refine ⟨_, rfl, .inl ⟨rfl, ⟨_, .inl (.inl h2)⟩⟩, _, rfl, rfl, _, rfl, ?_⟩
  by_cases h : a = 0
  · rw [decide_eq_true (congrArg V.int h)]
    refine iteF ⟨_, rfl, rfl, _, rfl, ?_⟩
    by_cases k : b = 0
    · rw [decide_eq_true (congrArg V.int k)]
      refine iteF ⟨_, rfl, _, rfl, by show 2 ≤ sizeLine; decide, fun T nT => ?_⟩
      refine ⟨l2, _, _, rfl, rfl, (Gr.new nT).lst h2, l7, two a a T ?_ nT⟩
      unfold lastD
      rw [if_neg (by simpa using h), if_neg (by simpa using k)]
    · rw [decide_eq_false (fun e => k (V.int.inj e))]
      have e : lastD a b = .none := by
        unfold lastD
        rw [if_neg (by simpa using h), if_pos k]
      refine iteT ⟨l2, _, _, rfl, rfl, h2, l7, ?_⟩
      refine r3 D _ v0 v1 vf l1 l2 a b y7 y8 y9 y10 ha hb ?_ ?_ (q _ (Gr.upd_new g n2))
      · refine .lst (.inl (.inl ((upd_ne ne).trans h1))) (ints_snoc ?_)
        exact last_keep (sqt_upd h2) hv
      · refine .lst (.inl (.inl upd_same)) (ints_snoc ?_)
        rw [e]
        exact .non
  · rw [decide_eq_false (fun e => h (V.int.inj e))]
    refine iteT ⟨_, rfl, _, rfl, by show 2 ≤ sizeLine; decide, fun T nT => ?_⟩
    refine ⟨l2, _, _, rfl, rfl, (Gr.new nT).lst h2, l7, two b a T ?_ nT⟩
    unfold lastD
    rw [if_pos h]
end
end SfE

namespace SfE
open PySem PySem.Spec PyProof.Rows L2 SfG
abbrev bW : Bd := .whn eOne (.giv [eOth, eOne]) (.whn eOth .ref (.giv [eOne, eOne]))
theorem ok_one {n : Nat} (h : 1 ≤ n) : goE [1, 2] n eOne := ⟨⟨1, rfl, by decide⟩, h, by decide⟩
theorem ok_oth {n : Nat} (h : 1 ≤ n) : goE [1, 2] n eOth := ⟨⟨2, rfl, by decide⟩, h, by decide⟩
theorem ok_bW : okB [1, 2] 3 2 bW := by
  have h1 := ok_one (show 1 ≤ 3 by decide)
  have h2 := ok_oth (show 1 ≤ 3 by decide)
  refine ⟨h1, ⟨rfl, fun e he => ?_⟩, h2, trivial, ⟨rfl, fun e he => ?_⟩⟩
  · simp only [List.mem_cons, List.not_mem_nil, or_false] at he
    rcases he with rfl | rfl
    · exact h2
    · exact h1
  · simp only [List.mem_cons, List.not_mem_nil, or_false, or_self] at he
    subst he
    exact h1
theorem gv_last (a b : Int) : (gv (fAB a b) bW = none → lastD a b = .none) ∧ ∀ l, gv (fAB a b) bW = some l → lastD a b = lD l := by
  have e1 : ev (fAB a b) eOne = a := rfl
  have e2 : ev (fAB a b) eOth = b := rfl
  simp only [gv, List.map_cons, List.map_nil, e1, e2]
  unfold lastD
  split
  · exact ⟨fun h => (by cases h), fun l h => by cases h; rfl⟩
  · split
    · exact ⟨fun _ => rfl, fun l h => (by cases h)⟩
    · exact ⟨fun h => (by cases h), fun l h => by cases h; rfl⟩
section
variable {P : Program} {w : World} {K : PySem.W.Frag} {mg : Str → Option Value} {base : Heap}
set_option maxHeartbeats 4000000 in
theorem wr_t1 {f fV fB : Addr} {fdV fdB : FuncData} {cdv : Value} {A : Around} {outer : List Env} {s : Shared} {H : Hp} {E : XK}
    (HV : Has P w K mg base 9 "value_of" ["expression", "fields"] (spVal K 7) fV fdV) (HB : Has P w K mg base 9 "given_by" ["body", "fields"] (spGiv K 3) fB fdB)
    (mp : mg "repr" = none) (mi : mg "int" = none) (hr : Room 9 (A.deeper (envOfC "_law_words_right" (defScope sWr) s.heap.objs.size f cdv))) (hgd : A.guards = some []) :
    ∃ tt, PSs (cxOf CX0 P w K mg base nWr "_law_words_right" (defScope sWr) f cdv A outer s H E).nox (bIn.drop 6) tt ∧
      ∀ (D : Ends) (Hf Hc : Hp) (v0 v1 vf : V) (l1 l2 : Addr) (a b : Int) (y7 y8 y9 y10 : Option V), a.natAbs ≤ 200 → b.natAbs ≤ 200 → Gr Hf Hc → Dp K Hf v0 eOne.d → Dp K Hf v1 eOth.d → Dp K Hf vf (fD (fAB a b)) → Hf l1 = none → Hf l2 = none → l1 ≠ l2 →
        Hc l1 = some (.lst ((seven a b).map V.int)) → Hc l2 = some (.lst ((seven a b).map V.int)) →
        (∀ H' z7, Gr Hf H' → D.nx [some v0, some v1, some (.int a), some (.int b), some vf, some (.ref l1), some (.ref l2), z7, y8, y9, y10] H') →
        tt D [some v0, some v1, some (.int a), some (.int b), some vf, some (.ref l1), some (.ref l2), y7, y8, y9, y10] Hc := by
  have nd := scWr.nd
  obtain ⟨t2, d2, r2⟩ := wr_t2 (f := f) (outer := outer) (H := H) (E := E) HV HB mp mi hr hgd
  refine' ⟨_, pss_cons ?b7 (pss_cons ?b8 d2), ?rd⟩
  case b7 =>
    exact ps_set (i := 7) nd rfl (.inl rfl) (pe_tup (pa_cons pe_str (pa_cons (pv 0) (pa_cons (pe_tup (pa_cons pe_str (pa_cons (pe_tup (pa_cons (pv 1) (pa_cons (pv 0) pa_nil))) pa_nil)))
      (pa_cons (pe_tup (pa_cons pe_str (pa_cons (pv 1) (pa_cons (pe_tup (pa_cons pe_str pa_nil)) (pa_cons (pe_tup (pa_cons pe_str (pa_cons (pe_tup (pa_cons (pv 0) (pa_cons (pv 0) pa_nil))) pa_nil))) pa_nil))))) pa_nil)))))
  case b8 =>
    exact ps_expr (pe_bm PySem.F.plainAttrs_list PySem.F.slot_list_append PySem.F.type_list_append mt_append (pv 5) (pa_cons (hcall HB hr (pa_cons (pv 7) (pa_cons (pv 4) pa_nil))) pa_nil))
  case rd =>
  intro D Hf Hc v0 v1 vf l1 l2 a b y7 y8 y9 y10 ha hb g h0 h1 hf n1 n2 ne hl1 hl2 q
  have hF := fitAB ha hb
  have l7 : ((seven a b).map V.int).length < sizeLine := by
    rw [List.length_map]
    exact small1000 (show 7 ≤ 1000 by decide)
  refine ⟨_, rfl, _, rfl, _, rfl, by show 2 ≤ sizeLine; decide, fun q1 m1 => ⟨by show 2 ≤ sizeLine; decide, fun q2 m2 => ?_⟩⟩
  refine ⟨_, rfl, by show 1 ≤ sizeLine; decide, fun q3 m3 => ?_⟩
  refine ⟨_, rfl, _, rfl, by show 2 ≤ sizeLine; decide, fun q4 m4 => ⟨by show 2 ≤ sizeLine; decide, fun q5 m5 => ?_⟩⟩
  refine ⟨by show 4 ≤ sizeLine; decide, fun q6 m6 => ⟨by show 4 ≤ sizeLine; decide, fun q7 m7 => ?_⟩⟩
  have d0 := g.kd (K := K) |>.dp h0
  have d1 := g.kd (K := K) |>.dp h1
  have k1 := Gr.new (o := .tup [v1, v0]) m1
  have x1 : Dp K (upd Hc q1 (.tup [v1, v0])) (.ref q1) (.tuple [eOth.d, eOne.d]) := .tup (.inl (.inl upd_same)) (.cons (k1.kd.dp d1) (.cons (k1.kd.dp d0) .nil))
  generalize upd Hc q1 (.tup [v1, v0]) = G1 at *
  have k2 := Gr.new (o := .tup [.str "give", .ref q1]) m2
  have x2 : Dp K (upd G1 q2 (.tup [.str "give", .ref q1])) (.ref q2) (Bd.giv [eOth, eOne]).d := .tup (.inl (.inl upd_same)) (.cons (.str _) (.cons (k2.kd.dp x1) .nil))
  generalize upd G1 q2 (.tup [.str "give", .ref q1]) = G2 at *
  have k3 := Gr.new (o := .tup [.str "refuse"]) m3
  have x3 : Dp K (upd G2 q3 (.tup [.str "refuse"])) (.ref q3) Bd.ref.d := .tup (.inl (.inl upd_same)) (.cons (.str _) .nil)
  generalize upd G2 q3 (.tup [.str "refuse"]) = G3 at *
  have k123 := (k1.trans k2).trans k3
  have k4 := Gr.new (o := .tup [v0, v0]) m4
  have x4 : Dp K (upd G3 q4 (.tup [v0, v0])) (.ref q4) (.tuple [eOne.d, eOne.d]) := .tup (.inl (.inl upd_same)) (.cons (k4.kd.dp (k123.kd.dp d0)) (.cons (k4.kd.dp (k123.kd.dp d0)) .nil))
  generalize upd G3 q4 (.tup [v0, v0]) = G4 at *
  have k5 := Gr.new (o := .tup [.str "give", .ref q4]) m5
  have x5 : Dp K (upd G4 q5 (.tup [.str "give", .ref q4])) (.ref q5) (Bd.giv [eOne, eOne]).d := .tup (.inl (.inl upd_same)) (.cons (.str _) (.cons (k5.kd.dp x4) .nil))
  generalize upd G4 q5 (.tup [.str "give", .ref q4]) = G5 at *
  have k15 := (k123.trans k4).trans k5
  have k6 := Gr.new (o := .tup [.str "when", v1, .ref q3, .ref q5]) m6
  have x6 : Dp K (upd G5 q6 (.tup [.str "when", v1, .ref q3, .ref q5])) (.ref q6) (Bd.whn eOth .ref (.giv [eOne, eOne])).d := .tup (.inl (.inl upd_same)) (.cons (.str _) (.cons (k6.kd.dp (k15.kd.dp d1)) (.cons (k6.kd.dp (k5.kd.dp (k4.kd.dp x3))) (.cons (k6.kd.dp x5) .nil))))
  generalize upd G5 q6 (.tup [.str "when", v1, .ref q3, .ref q5]) = G6 at *
  have k16 := k15.trans k6
  have k7 := Gr.new (o := .tup [.str "when", v0, .ref q2, .ref q6]) m7
  have x7 : Dp K (upd G6 q7 (.tup [.str "when", v0, .ref q2, .ref q6])) (.ref q7) bW.d := .tup (.inl (.inl upd_same)) (.cons (.str _) (.cons (k7.kd.dp (k16.kd.dp d0)) (.cons (k7.kd.dp (k6.kd.dp (k5.kd.dp (k4.kd.dp (k3.kd.dp x2))))) (.cons (k7.kd.dp x6) .nil))))
  generalize upd G6 q7 (.tup [.str "when", v0, .ref q2, .ref q6]) = G7 at *
  have k17 := k16.trans k7
  have g7 := g.trans k17
  have hl17 := k17.lst hl1
  have hl27 := k17.lst hl2
  refine ⟨_, rfl, .inl ⟨rfl, ⟨_, .inl (.inl hl17)⟩⟩, _, rfl, _, rfl, _, _, bW, [1, 2], fAB a b, 2, rfl, x7, g7.kd.dp hf, ok_bW, by decide, hF, fun hn => ?_, fun l G8 p hl g8 hp => ?_⟩
  · refine ⟨l1, _, _, rfl, rfl, hl17, l7, ?_⟩
    refine r2 D Hf _ v0 v1 vf .non l1 l2 a b _ _ _ _ ha hb (Gr.upd_new g7 n1) n1 n2 ne upd_same ?_ ((upd_ne (Ne.symm ne)).trans hl27) (fun H' g' => q H' _ g')
    rw [(gv_last a b).1 hn]
    exact .non
  · have hl18 := g8.lst hl17
    refine ⟨l1, _, _, rfl, rfl, hl18, l7, ?_⟩
    refine r2 D Hf _ v0 v1 vf (.ref p) l1 l2 a b _ _ _ _ ha hb (Gr.upd_new (g7.trans g8) n1) n1 n2 ne upd_same ?_ ((upd_ne (Ne.symm ne)).trans (g8.lst hl27)) (fun H' g' => q H' _ g')
    refine last_keep (sqt_upd hl18) ?_
    rw [(gv_last a b).2 l hl]
    exact .tup (.inl (.inl hp)) (ints_dp l)
end
end SfE

namespace SfE
open PySem PySem.Spec PyProof.Rows L2 SfG
theorem five_at {a b : Int} : ∀ {i : Nat} {x : V}, wds[i]? = some x → i ≤ 4 ∧ x = .str (opw i) ∧ (five a b)[i]? = some (op2 i a b)
  | 0, x, h => by cases h; exact ⟨by decide, rfl, rfl⟩
  | 1, x, h => by cases h; exact ⟨by decide, rfl, rfl⟩
  | 2, x, h => by cases h; exact ⟨by decide, rfl, rfl⟩
  | 3, x, h => by cases h; exact ⟨by decide, rfl, rfl⟩
  | 4, x, h => by cases h; exact ⟨by decide, rfl, rfl⟩
theorem five_v (a b : Int) : [V.int (a + b), .int (a - b), .int (a * b), .int (if decide (V.int a = V.int b) = true then 1 else 0), .int (if decide (a < b) = true then 1 else 0)] = (five a b).map V.int := by
  have e1 : decide (V.int a = V.int b) = decide (a = b) := by
    by_cases h : a = b
    · rw [decide_eq_true h, decide_eq_true (congrArg V.int h)]
    · rw [decide_eq_false h, decide_eq_false (fun e => h (V.int.inj e))]
  rw [e1]
  simp only [decide_eq_true_eq]
  rfl
section
variable {P : Program} {w : World} {K : PySem.W.Frag} {mg : Str → Option Value} {base : Heap}
set_option maxHeartbeats 8000000 in
theorem wr_body {f fV fB : Addr} {fdV fdB : FuncData} {cdv : Value} {A : Around} {outer : List Env} {s : Shared} {H : Hp} {E : XK}
    (HV : Has P w K mg base 9 "value_of" ["expression", "fields"] (spVal K 7) fV fdV) (HB : Has P w K mg base 9 "given_by" ["body", "fields"] (spGiv K 3) fB fdB)
    (mp : mg "repr" = none) (mi : mg "int" = none) (hr : Room 9 (A.deeper (envOfC "_law_words_right" (defScope sWr) s.heap.objs.size f cdv))) (hgd : A.guards = some []) :
    ∃ tt, PSs (cxOf CX0 P w K mg base nWr "_law_words_right" (defScope sWr) f cdv A outer s H E).nox bIn tt ∧
      ∀ (D : Ends) (H1 : Hp) (v0 v1 : V) (a b : Int) (y4 y5 y6 y7 y8 y9 : Option V), Dp K H1 v0 eOne.d → Dp K H1 v1 eOth.d → a.natAbs ≤ 200 → b.natAbs ≤ 200 →
        (∀ H' z4 z5 z6 z7, Gr H1 H' → D.nx [some v0, some v1, some (.int a), some (.int b), z4, z5, z6, z7, y8, y9, none] H') →
        tt D [some v0, some v1, some (.int a), some (.int b), y4, y5, y6, y7, y8, y9, none] H1 := by
  have nd := scWr.nd
  obtain ⟨t1, d1, r1⟩ := wr_t1 (f := f) (outer := outer) (H := H) (E := E) HV HB mp mi hr hgd
  refine' ⟨_, pss_cons ?b1 (pss_cons ?b2 (pss_cons ?b3 (pss_cons ?b4 (pss_cons ?b5 (pss_cons ?b6 d1))))), ?rd⟩
  case b1 =>
    exact ps_set (i := 4) nd rfl (.inr rfl) (pe_tup (pa_cons (pe_tup (pa_cons (pv 2) pa_nil)) (pa_cons (pe_tup (pa_cons pe_int (pa_cons (pv 3) pa_nil))) pa_nil)))
  case b2 =>
    exact ps_setLc (i := 5) (own := [("_law_word", 10)]) (g := gName 10) rfl nd rfl rfl (sw_true rfl rfl rfl (by decide +kernel)) (pi_tup (pe_tup (pa_cons pe_str (pa_cons pe_str (pa_cons pe_str (pa_cons pe_str (pa_cons pe_str pa_nil)))))))
      (blkOk_by (own := [("_law_word", 10)]) (N := nWr) (sc := defScope sWr) (by decide +kernel)) (fun _ _ _ _ _ => pg_name (i := 10) nd rfl (Or.inl rfl)) (fun _ _ _ _ _ => pts_nil)
      (fun _ _ _ _ _ => hcall HV hr (pa_cons (pe_tup (pa_cons (pv 10) (pa_cons (pv 0) (pa_cons (pv 1) pa_nil)))) (pa_cons (pv 4) pa_nil)))
  case b3 =>
    exact ps_set (i := 6) nd rfl (.inl rfl) (pe_lst (pa_cons (pe_op op_add (pv 2) (pv 3)) (pa_cons (pe_op op_sub (pv 2) (pv 3)) (pa_cons (pe_op op_mul (pv 2) (pv 3))
      (pa_cons (pe_callTy call_int1 (by rfl) mi (by decide +kernel) (pa_cons (pe_cmpR op_eq (pv 2) (pv 3) (nomark _)) pa_nil)) (pa_cons (pe_callTy call_int1 (by rfl) mi (by decide +kernel) (pa_cons (pe_cmpR op_lt (pv 2) (pv 3) (nomark _)) pa_nil)) pa_nil))))))
  case b4 =>
    exact ps_expr (pe_bm PySem.F.plainAttrs_list PySem.F.slot_list_append PySem.F.type_list_append mt_append (pv 5) (pa_cons (hcall HV hr (pa_cons (pe_tup (pa_cons pe_str (pa_cons (pv 1) (pa_cons pe_int pa_nil)))) (pa_cons (pv 4) pa_nil))) pa_nil))
  case b5 =>
    exact ps_expr (pe_bm PySem.F.plainAttrs_list PySem.F.slot_list_append PySem.F.type_list_append mt_append (pv 5) (pa_cons (hcall HV hr (pa_cons (pe_tup (pa_cons pe_str (pa_cons (pv 0) (pa_cons (pv 1) (pa_cons (pe_tup (pa_cons pe_str (pa_cons pe_int pa_nil))) pa_nil))))) (pa_cons (pv 4) pa_nil))) pa_nil))
  case b6 =>
    exact ps_set (i := 6) nd rfl (.inl rfl) (pe_op op_cat (pv 6) (pe_lst (pa_cons (pe_op op_mod (pv 3) pe_int) (pa_cons (pe_ifExp (pt_cmpR op_ne (pv 2) pe_int (nomark _)) (pv 3) pe_int) pa_nil))))
  case rd =>
  intro D H1 v0 v1 a b y4 y5 y6 y7 y8 y9 h0 h1 ha hb fin
  have hF := fitAB ha hb
  -- fields
  refine ⟨_, rfl, by show 1 ≤ sizeLine; decide, fun t1 n1 => ?_⟩
  refine ⟨_, rfl, by show 2 ≤ sizeLine; decide, fun t2 n2 => ?_⟩
  refine ⟨by show 2 ≤ sizeLine; decide, fun t3 n3 => ?_⟩
  have gf : Gr H1 (upd (upd (upd H1 t1 (.tup [.int a])) t2 (.tup [.int 7, .int b])) t3 (.tup [.ref t1, .ref t2])) := ((Gr.new n1).trans (Gr.new n2)).trans (Gr.new n3)
  have hf : Dp K (upd (upd (upd H1 t1 (.tup [.int a])) t2 (.tup [.int 7, .int b])) t3 (.tup [.ref t1, .ref t2])) (.ref t3) (fD (fAB a b)) :=
    .tup (.inl (.inl upd_same)) (.cons (.tup (.inl (.inl ((Gr.new n3).tup ((Gr.new n2).tup upd_same)))) (ints_dp [a])) (.cons (.tup (.inl (.inl ((Gr.new n3).tup upd_same))) (ints_dp [7, b])) .nil))
  generalize upd (upd (upd H1 t1 (.tup [.int a])) t2 (.tup [.int 7, .int b])) t3 (.tup [.ref t1, .ref t2]) = Hf at gf hf ⊢
  have h0f := gf.kd (K := K) |>.dp h0
  have h1f := gf.kd (K := K) |>.dp h1
  -- told
  refine ⟨by show 5 ≤ sizeLine; decide, fun tw ntw => ⟨tw, rfl, ⟨_, .inl (.inl upd_same)⟩, fun L1 nL1 => ?_⟩⟩
  have htw : SqT K (upd Hf tw (.tup wds)) tw wds := .inl (.inl upd_same)
  have gw : Gr Hf (upd Hf tw (.tup wds)) := Gr.new ntw
  have nL1f : Hf L1 = none := gw.back _ nL1
  refine lc_it (walk_tup (xs := wds)) (fun i H2 => Gr (upd Hf tw (.tup wds)) H2 ∧ H2 L1 = some (.lst (((five a b).take i).map V.int))) ⟨Gr.new nL1, upd_same⟩ ?c0 ?c1 ?c2
  case c0 =>
    rintro i H2 hi ⟨g2, hD⟩
    exact g2.sqt htw
  case c1 =>
    rintro i x H2 H2' hi ⟨g2, hD⟩ ⟨rfl, hx⟩
    obtain ⟨hi4, rfl, h5⟩ := five_at (a := a) (b := b) hx
    refine ⟨rfl, ?_⟩
    unfold tYes
    refine iteT ⟨_, rfl, _, rfl, _, rfl, by show 3 ≤ sizeLine; decide, fun tt ntt => ?_⟩
    have gt : Gr H2' (upd H2' tt (.tup [.str (opw i), v0, v1])) := Gr.new ntt
    have gg := (gw.trans g2).trans gt
    refine ⟨_, rfl, _, _, .bin i eOne eOth, [1, 2], fAB a b, rfl, .tup (.inl (.inl upd_same)) (.cons (.str _) (.cons (gg.kd.dp h0f) (.cons (gg.kd.dp h1f) .nil))), gg.kd.dp hf, ⟨hi4, (ok_one (Nat.le_refl 1)).1, (ok_oth (Nat.le_refl 1)).1⟩, hF, (show 2 ≤ 7 by decide), (show 51 * 2 ≤ 90000 by decide), ?_⟩
    refine ⟨_, gt.lst hD, ?_, Gr.upd_new (g2.trans gt) nL1, ?_⟩
    · rw [List.length_map, List.length_take]
      exact small1000 (by omega)
    · rw [upd_same, List.take_add_one, h5, List.map_append]
      rfl
  case c2 =>
  rintro H2 ⟨g2, hL⟩
  have hL1 : H2 L1 = some (.lst ((five a b).map V.int)) := hL
  have gf2 := gw.trans g2
  -- due
  refine ⟨_, rfl, _, rfl, a, b, rfl, rfl, _, rfl, _, rfl, a, b, rfl, rfl, _, rfl, _, rfl, a, b, rfl, rfl, .inl ⟨?_, ?_⟩, ?_⟩
  · have : (-(2 ^ 64) : Int) = -18446744073709551616 := by decide
    rw [this]
    omega
  · have : ((2 ^ 64) : Int) = 18446744073709551616 := by decide
    rw [this]
    omega
  refine ⟨_, rfl, _, rfl, rfl, .inr ⟨_, rfl, ?_⟩⟩
  refine ⟨_, rfl, _, rfl, a, b, rfl, rfl, .inr ⟨_, rfl, ?_⟩⟩
  refine ⟨by show 5 ≤ sizeLine; decide, fun L2 nL2 => ?_⟩
  change gName 6 (V.ref L2) _ (upd H2 L2 (.lst [V.int (a + b), .int (a - b), .int (a * b), .int (if decide (V.int a = V.int b) = true then 1 else 0), .int (if decide (a < b) = true then 1 else 0)])) _
  rw [five_v]
  have g3 : Gr H2 (upd H2 L2 (.lst ((five a b).map V.int))) := Gr.new nL2
  have hL2 : upd H2 L2 (.lst ((five a b).map V.int)) L2 = some (.lst ((five a b).map V.int)) := upd_same
  have ne12 : L1 ≠ L2 := ne_of_none hL1 nL2
  have hL13 := g3.lst hL1
  have nL2f : Hf L2 = none := gf2.back _ nL2
  have gf3 := gf2.trans g3
  generalize upd H2 L2 (.lst ((five a b).map V.int)) = H3 at g3 hL2 hL13 gf3 ⊢
  -- told.append(rest)
  refine ⟨_, rfl, .inl ⟨rfl, ⟨_, .inl (.inl hL13)⟩⟩, ?_⟩
  refine ⟨_, rfl, by show 3 ≤ sizeLine; decide, fun r1' m1 => ?_⟩
  have k1 := Gr.new (o := .tup [.str "rest", v1, .int 2]) m1
  have gk1 := gf3.trans k1
  refine ⟨_, rfl, _, _, .rst eOth 2, [1, 2], fAB a b, rfl, .tup (.inl (.inl upd_same)) (.cons (.str _) (.cons (gk1.kd.dp h1f) (.cons (.int _) .nil))), gk1.kd.dp hf, ⟨by decide, by decide, (ok_oth (Nat.le_refl 1)).1⟩, hF, (show 2 ≤ 7 by decide), (show 51 * 1 ≤ 90000 by decide), ?_⟩
  refine ⟨L1, _, _, rfl, rfl, k1.lst hL13, by rw [List.length_map]; exact small1000 (show 5 ≤ 1000 by decide), ?_⟩
  have g4 : Gr Hf (upd (upd H3 r1' (.tup [.str "rest", v1, .int 2])) L1 (.lst ((five a b).map V.int ++ [.int (b % 2)]))) := Gr.upd_new gk1 nL1f
  have hL14 : upd (upd H3 r1' (.tup [.str "rest", v1, .int 2])) L1 (.lst ((five a b).map V.int ++ [.int (b % 2)])) L1 = some (.lst ((five a b).map V.int ++ [.int (b % 2)])) := upd_same
  have hL24 : upd (upd H3 r1' (.tup [.str "rest", v1, .int 2])) L1 (.lst ((five a b).map V.int ++ [.int (b % 2)])) L2 = some (.lst ((five a b).map V.int)) := (upd_ne (Ne.symm ne12)).trans (k1.lst hL2)
  change tSeq _ _ _ _ (upd (upd H3 r1' (.tup [.str "rest", v1, .int 2])) L1 (.lst ((five a b).map V.int ++ [.int (b % 2)])))
  generalize upd (upd H3 r1' (.tup [.str "rest", v1, .int 2])) L1 (.lst ((five a b).map V.int ++ [.int (b % 2)])) = H4 at g4 hL14 hL24 ⊢
  -- told.append(if)
  refine ⟨_, rfl, .inl ⟨rfl, ⟨_, .inl (.inl hL14)⟩⟩, ?_⟩
  refine ⟨_, rfl, _, rfl, by show 2 ≤ sizeLine; decide, fun s1 m1' => ⟨by show 4 ≤ sizeLine; decide, fun s2 m2' => ?_⟩⟩
  have k2 := (Gr.new (o := .tup [.str "number", .int 5]) m1').trans (Gr.new (o := .tup [.str "if", v0, v1, .ref s1]) m2')
  have gk2 := g4.trans k2
  refine ⟨_, rfl, _, _, .iff eOne eOth (.num 5), [1, 2], fAB a b, rfl, .tup (.inl (.inl upd_same)) (.cons (.str _) (.cons (gk2.kd.dp h0f) (.cons (gk2.kd.dp h1f) (.cons (.tup (.inl (.inl ((Gr.new m2').tup upd_same))) (.cons (.str _) (.cons (.int _) .nil))) .nil)))), gk2.kd.dp hf, ⟨(ok_one (Nat.le_refl 1)).1, (ok_oth (Nat.le_refl 1)).1, by decide, by decide⟩, hF, (show 2 ≤ 7 by decide), (show 51 * 3 ≤ 90000 by decide), ?_⟩
  refine ⟨L1, _, _, rfl, rfl, k2.lst hL14, by rw [List.length_append, List.length_map]; exact small1000 (show 5 + 1 ≤ 1000 by decide), ?_⟩
  change tSeq _ _ _ _ (upd (upd (upd H4 s1 (.tup [.str "number", .int 5])) s2 (.tup [.str "if", v0, v1, .ref s1])) L1 (.lst ((seven a b).map V.int)))
  have g6 : Gr Hf (upd (upd (upd H4 s1 (.tup [.str "number", .int 5])) s2 (.tup [.str "if", v0, v1, .ref s1])) L1 (.lst ((seven a b).map V.int))) := Gr.upd_new gk2 nL1f
  have hL15 : upd (upd (upd H4 s1 (.tup [.str "number", .int 5])) s2 (.tup [.str "if", v0, v1, .ref s1])) L1 (.lst ((seven a b).map V.int)) L1 = some (.lst ((seven a b).map V.int)) := upd_same
  have hL25 : upd (upd (upd H4 s1 (.tup [.str "number", .int 5])) s2 (.tup [.str "if", v0, v1, .ref s1])) L1 (.lst ((seven a b).map V.int)) L2 = some (.lst ((five a b).map V.int)) := (upd_ne (Ne.symm ne12)).trans (k2.lst hL24)
  generalize upd (upd (upd H4 s1 (.tup [.str "number", .int 5])) s2 (.tup [.str "if", v0, v1, .ref s1])) L1 (.lst ((seven a b).map V.int)) = H5 at g6 hL15 hL25 ⊢
  -- due + [..]
  refine ⟨_, rfl, _, rfl, b, 2, rfl, rfl, (by show (0 : Int) < 2; decide), _, rfl, rfl, _, rfl, ?_⟩
  by_cases h : a = 0
  · rw [decide_eq_true (congrArg V.int h)]
    refine iteF ⟨by show 2 ≤ sizeLine; decide, fun L3 m3 => ?_⟩
    refine ⟨L2, L3, _, _, rfl, rfl, (Gr.new m3).lst hL25, upd_same, by rw [List.length_map]; exact Nat.le_of_lt (small1000 (show 5 + 2 ≤ 1000 by decide)), fun L4 m4 => ?_⟩
    have g8 := (Gr.new (o := .lst [.int (b % 2), .int 5]) m3).trans (Gr.new (o := .lst ((five a b).map V.int ++ [.int (b % 2), .int 5])) m4)
    have gE := g6.trans g8
    have hL1E := g8.lst hL15
    refine r1 D Hf _ v0 v1 (.ref t3) L1 L4 a b _ _ _ _ ha hb gE h0f h1f hf nL1f (g6.back _ ((Gr.new m3).back _ m4)) (ne_of_none ((Gr.new m3).lst hL15) m4) hL1E ?_ (fun H' z7 g' => fin H' _ _ _ z7 (gf.trans g'))
    rw [upd_same]
    show some (HO.lst ((five a b).map V.int ++ [.int (b % 2), .int 5])) = some (HO.lst (((five a b) ++ [b % 2, if a ≠ 0 then b else 5]).map V.int))
    rw [if_neg (by simpa using h)]
    rfl
  · rw [decide_eq_false (fun e => h (V.int.inj e))]
    refine iteT ⟨_, rfl, by show 2 ≤ sizeLine; decide, fun L3 m3 => ?_⟩
    refine ⟨L2, L3, _, _, rfl, rfl, (Gr.new m3).lst hL25, upd_same, by rw [List.length_map]; exact Nat.le_of_lt (small1000 (show 5 + 2 ≤ 1000 by decide)), fun L4 m4 => ?_⟩
    have g8 := (Gr.new (o := .lst [.int (b % 2), .int b]) m3).trans (Gr.new (o := .lst ((five a b).map V.int ++ [.int (b % 2), .int b])) m4)
    have gE := g6.trans g8
    have hL1E := g8.lst hL15
    refine r1 D Hf _ v0 v1 (.ref t3) L1 L4 a b _ _ _ _ ha hb gE h0f h1f hf nL1f (g6.back _ ((Gr.new m3).back _ m4)) (ne_of_none ((Gr.new m3).lst hL15) m4) hL1E ?_ (fun H' z7 g' => fin H' _ _ _ z7 (gf.trans g'))
    rw [upd_same]
    show some (HO.lst ((five a b).map V.int ++ [.int (b % 2), .int b])) = some (HO.lst (((five a b) ++ [b % 2, if a ≠ 0 then b else 5]).map V.int))
    rw [if_pos h]
    rfl
end
end SfE

namespace SfE
open PySem PySem.Spec PyProof.Rows L2 SfG
def gE : Nat → Ex
  | 0 => .num 99
  | n + 1 => .bin 2 (gE n) (gE n)
theorem ok_gE : ∀ n, okE [] (gE n)
  | 0 => ⟨by decide, by decide⟩
  | n + 1 => ⟨by decide, ok_gE n, ok_gE n⟩
abbrev eL : Ex := .bin 1 (.num 0) (gE 4)
theorem ok_eL : okE [] eL := ⟨by decide, ⟨by decide, by decide⟩, ok_gE 4⟩
theorem fit0 : Fit [] [] := ⟨rfl, fun l h => (by cases h)⟩
abbrev gA : Int := 85145777109487563964501441198401
def four : List Int := [gA, 0 - gA, 1, (0 - 65536) % 97]
theorem ev1 : ev [] (gE 4) = gA := by decide +kernel
theorem ev2 : ev [] eL = 0 - gA := by decide +kernel
theorem ev3 : ev [] (.rst (gE 4) 98) = 1 := by decide +kernel
theorem ev4 : ev [] (.rst eL 97) = (0 - 65536) % 97 := by decide +kernel
theorem pw1 : (99 : Int) ^ (16 : Int).toNat = gA := by decide +kernel
theorem pw2 : (2 : Int) ^ (16 : Int).toNat = 65536 := by decide +kernel
theorem sh_four : Sh (.list (four.map PyData.int)) 1000 3 := by
  refine (Sh.lst (ShA.ints (D := 0) (k := 120) (by decide) (by decide) (l := four) ?_)).mono (show 4 * 123 + 3 ≤ 1000 by decide) (by decide)
  decide +kernel
section
variable {X : Cx} {CX : CXT} {k : Nat} {f : Addr} {fd : FuncData} {ps : List Str} {sp : Sp} {dvs : List V} {ds : List Value} {E : XK} {x : Str} {p pos : Pos}
theorem pe_callG0 (F : FnG X.prog X.w X.K X.mg X.base CX k f fd ps sp) (hr : Room k X.A) (hgd : X.A.guards = some []) (hg : Gl X x) (hm : X.mg x = some (.ref f)) (hk : PySem.W.keepIn X.K (.ref f) = true)
    (hb : Binds X.K fd ps ds) (hd : Vals dvs ds) (hx : Passes CX X E) (hdb : (x == ("__debug__" : Str)) = false := by decide) : PE X (.Call (.Name x p) [] [] pos) (tCall sp dvs E tNil) := by
  refine ⟨fun pins s σ H Q I h => ?_⟩
  refine wpAny_Call_Name_kw (ld_glob I hg hm ?_ hdb)
  exact PySem.W.callWith_K0 I.kIn hk (run_fng (us := []) F hr hgd hb hd hx I .nil h)
end
section
variable {P : Program} {w : World} {K : PySem.W.Frag} {mg : Str → Option Value} {base : Heap}
set_option maxHeartbeats 4000000 in
theorem wr_end {f fV fB : Addr} {fdV fdB : FuncData} {cdv : Value} {A : Around} {outer : List Env} {s : Shared} {H : Hp} {E : XK}
    (HV : Has P w K mg base 9 "value_of" ["expression", "fields"] (spVal K 7) fV fdV) (HB : Has P w K mg base 9 "given_by" ["body", "fields"] (spGiv K 3) fB fdB)
    (mp : mg "repr" = none) (mi : mg "int" = none) (hr : Room 9 (A.deeper (envOfC "_law_words_right" (defScope sWr) s.heap.objs.size f cdv))) (hgd : A.guards = some []) :
    ∃ tt, PSs (cxOf CX0 P w K mg base nWr "_law_words_right" (defScope sWr) f cdv A outer s H E).nox ((defBody sWr).drop 4) tt ∧
      ∀ (Q : VK) (H0 : Hp) (vg : V) (y0 y1 y2 y3 y4 y5 y6 y7 y9 : Option V), Dp K H0 vg (gE 4).d → (∀ H', Gr H0 H' → Q (.bl true) H') → tt { nx := fun _ H' => Q .non H', rt := Q } [y0, y1, y2, y3, y4, y5, y6, y7, some vg, y9, none] H0 := by
  have nd := scWr.nd
  refine' ⟨_, pss_cons ?s5 (pss_cons ?s6 (pss_one ?s7)), ?rd⟩
  case s5 =>
    exact ps_set (i := 5) nd rfl (.inl rfl) (pe_lst (pa_cons (hcall HV hr (pa_cons (pv 8) (pa_cons (pe_tup pa_nil) pa_nil))) (pa_cons (hcall HV hr (pa_cons (pe_tup (pa_cons pe_str (pa_cons (pe_tup (pa_cons pe_str (pa_cons pe_int pa_nil))) (pa_cons (pv 8) pa_nil)))) (pa_cons (pe_tup pa_nil) pa_nil))) (pa_cons (hcall HV hr (pa_cons (pe_tup (pa_cons pe_str (pa_cons (pv 8) (pa_cons pe_int pa_nil)))) (pa_cons (pe_tup pa_nil) pa_nil))) pa_nil))))
  case s6 =>
    exact ps_expr (pe_bm PySem.F.plainAttrs_list PySem.F.slot_list_append PySem.F.type_list_append mt_append (pv 5) (pa_cons (hcall HV hr (pa_cons (pe_tup (pa_cons pe_str (pa_cons (pe_tup (pa_cons pe_str (pa_cons (pe_tup (pa_cons pe_str (pa_cons pe_int pa_nil))) (pa_cons (pv 8) pa_nil)))) (pa_cons pe_int pa_nil)))) (pa_cons (pe_tup pa_nil) pa_nil))) pa_nil))
  case s7 =>
    exact ps_ret (pe_cmpR op_eq (pe_callB (call_reprA hr hgd) (by rfl) mp (by decide +kernel) (pa_cons (pv 5) pa_nil)) (pe_callB (call_reprA hr hgd) (by rfl) mp (by decide +kernel) (pa_cons (pe_lst (pa_cons (pe_op op_pow pe_int pe_int) (pa_cons (pe_op op_sub pe_int (pe_op op_pow pe_int pe_int)) (pa_cons pe_int (pa_cons (pe_op op_mod (pe_op op_sub pe_int (pe_op op_pow pe_int pe_int)) pe_int) pa_nil))))) pa_nil)) (nomark _))
  case rd =>
  intro Q H0 vg y0 y1 y2 y3 y4 y5 y6 y7 y9 hg q
  -- told, its first three
  refine ⟨_, rfl, by show 0 ≤ sizeLine; decide, fun p1 m1 => ?_⟩
  have k1 := Gr.new (o := .tup []) m1
  have x1 : Dp K (upd H0 p1 (.tup [])) (.ref p1) (fD []) := .tup (.inl (.inl upd_same)) .nil
  generalize upd H0 p1 (.tup []) = G1 at *
  have g1 := k1.kd (K := K) |>.dp hg
  refine ⟨_, _, gE 4, [], [], rfl, g1, x1, ok_gE 4, fit0, by decide, by decide, ?_⟩
  refine ⟨by show 2 ≤ sizeLine; decide, fun p2 m2 => ⟨_, rfl, by show 3 ≤ sizeLine; decide, fun p3 m3 => ⟨by show 0 ≤ sizeLine; decide, fun p4 m4 => ?_⟩⟩⟩
  have k2 := Gr.new (o := .tup [.str "number", .int 0]) m2
  have x2 : Dp K (upd G1 p2 (.tup [.str "number", .int 0])) (.ref p2) (Ex.num 0).d := .tup (.inl (.inl upd_same)) (.cons (.str _) (.cons (.int _) .nil))
  generalize upd G1 p2 (.tup [.str "number", .int 0]) = G2 at *
  have k3 := Gr.new (o := .tup [.str "less", .ref p2, vg]) m3
  have x3 : Dp K (upd G2 p3 (.tup [.str "less", .ref p2, vg])) (.ref p3) eL.d := .tup (.inl (.inl upd_same)) (.cons (.str _) (.cons (k3.kd.dp x2) (.cons (k3.kd.dp (k2.kd.dp g1)) .nil)))
  generalize upd G2 p3 (.tup [.str "less", .ref p2, vg]) = G3 at *
  have k4 := Gr.new (o := .tup []) m4
  have x4 : Dp K (upd G3 p4 (.tup [])) (.ref p4) (fD []) := .tup (.inl (.inl upd_same)) .nil
  generalize upd G3 p4 (.tup []) = G4 at *
  refine ⟨_, _, eL, [], [], rfl, k4.kd.dp x3, x4, ok_eL, fit0, by decide, by decide, ?_⟩
  refine ⟨_, rfl, by show 3 ≤ sizeLine; decide, fun p5 m5 => ⟨by show 0 ≤ sizeLine; decide, fun p6 m6 => ?_⟩⟩
  have k14 := (k2.trans k3).trans k4
  have k5 := Gr.new (o := .tup [.str "rest", vg, .int 98]) m5
  have x5 : Dp K (upd G4 p5 (.tup [.str "rest", vg, .int 98])) (.ref p5) (Ex.rst (gE 4) 98).d := .tup (.inl (.inl upd_same)) (.cons (.str _) (.cons (k5.kd.dp (k14.kd.dp g1)) (.cons (.int _) .nil)))
  generalize upd G4 p5 (.tup [.str "rest", vg, .int 98]) = G5 at *
  have k6 := Gr.new (o := .tup []) m6
  have x6 : Dp K (upd G5 p6 (.tup [])) (.ref p6) (fD []) := .tup (.inl (.inl upd_same)) .nil
  generalize upd G5 p6 (.tup []) = G6 at *
  refine ⟨_, _, .rst (gE 4) 98, [], [], rfl, k6.kd.dp x5, x6, ⟨by decide, by decide, ok_gE 4⟩, fit0, by decide, by decide, ?_⟩
  refine ⟨by show 3 ≤ sizeLine; decide, fun L m7 => ?_⟩
  change gName 5 (V.ref L) _ (upd G6 L (.lst [V.int (ev [] (gE 4)), .int (ev [] eL), .int (ev [] (.rst (gE 4) 98))])) _
  rw [ev1, ev2, ev3]
  have k7 := Gr.new (o := .lst [.int gA, .int (0 - gA), .int 1]) m7
  have hL : upd G6 L (.lst [.int gA, .int (0 - gA), .int 1]) L = some (.lst [.int gA, .int (0 - gA), .int 1]) := upd_same
  generalize upd G6 L (.lst [.int gA, .int (0 - gA), .int 1]) = G7 at *
  have kk := (((k1.trans k14).trans k5).trans k6)
  have nL0 : H0 L = none := kk.back _ m7
  have k07 := kk.trans k7
  -- the fourth
  refine ⟨_, rfl, .inl ⟨rfl, ⟨_, .inl (.inl hL)⟩⟩, by show 2 ≤ sizeLine; decide, fun p8 m8 => ⟨_, rfl, by show 3 ≤ sizeLine; decide, fun p9 m9 => ⟨by show 3 ≤ sizeLine; decide, fun pa ma => ⟨by show 0 ≤ sizeLine; decide, fun pb mb => ?_⟩⟩⟩⟩
  have k8 := Gr.new (o := .tup [.str "number", .int 0]) m8
  have x8 : Dp K (upd G7 p8 (.tup [.str "number", .int 0])) (.ref p8) (Ex.num 0).d := .tup (.inl (.inl upd_same)) (.cons (.str _) (.cons (.int _) .nil))
  generalize upd G7 p8 (.tup [.str "number", .int 0]) = G8 at *
  have k9 := Gr.new (o := .tup [.str "less", .ref p8, vg]) m9
  have x9 : Dp K (upd G8 p9 (.tup [.str "less", .ref p8, vg])) (.ref p9) eL.d := .tup (.inl (.inl upd_same)) (.cons (.str _) (.cons (k9.kd.dp x8) (.cons (k9.kd.dp (k8.kd.dp (k07.kd.dp hg))) .nil)))
  generalize upd G8 p9 (.tup [.str "less", .ref p8, vg]) = G9 at *
  have ka := Gr.new (o := .tup [.str "rest", .ref p9, .int 97]) ma
  have xa : Dp K (upd G9 pa (.tup [.str "rest", .ref p9, .int 97])) (.ref pa) (Ex.rst eL 97).d := .tup (.inl (.inl upd_same)) (.cons (.str _) (.cons (ka.kd.dp x9) (.cons (.int _) .nil)))
  generalize upd G9 pa (.tup [.str "rest", .ref p9, .int 97]) = Ga at *
  have kb := Gr.new (o := .tup []) mb
  have xb : Dp K (upd Ga pb (.tup [])) (.ref pb) (fD []) := .tup (.inl (.inl upd_same)) .nil
  generalize upd Ga pb (.tup []) = Gb at *
  have k8b := ((k8.trans k9).trans ka).trans kb
  refine ⟨_, _, .rst eL 97, [], [], rfl, kb.kd.dp xa, xb, ⟨by decide, by decide, ok_eL⟩, fit0, by decide, by decide, ?_⟩
  refine ⟨L, _, _, rfl, rfl, k8b.lst hL, small1000 (show 3 ≤ 1000 by decide), ?_⟩
  have e4 : ([.int gA, .int (0 - gA), .int 1] ++ [.int (ev [] (.rst eL 97))] : List V) = four.map V.int := by
    rw [ev4]
    rfl
  have kc : Gr H0 (upd Gb L (.lst ([.int gA, .int (0 - gA), .int 1] ++ [.int (ev [] (.rst eL 97))]))) := Gr.upd_new (k07.trans k8b) nL0
  have xc : Dp K (upd Gb L (.lst ([.int gA, .int (0 - gA), .int 1] ++ [.int (ev [] (.rst eL 97))]))) (.ref L) (.list (four.map PyData.int)) := by
    refine .lst (xs := four.map V.int) (.inl (.inl ?_)) (ints_dp four)
    rw [upd_same, e4]
  generalize upd Gb L (.lst ([.int gA, .int (0 - gA), .int 1] ++ [.int (ev [] (.rst eL 97))])) = Gc at *
  have sh := sh_four
  refine ⟨_, rfl, _, _, _, rfl, xc, (.inr (.inr ⟨_, rfl⟩)), sh.able, sh.nod, Nat.le_trans sh.dep (by decide), rfl, sh.fits (by decide), ?_⟩
  refine ⟨99, 16, rfl, rfl, ⟨by decide, by decide, by decide⟩, 99, 16, rfl, rfl, ⟨by decide, by decide, by decide⟩, 0, _, rfl, rfl, 2, 16, rfl, rfl, ⟨by decide, by decide, by decide⟩, 0, _, rfl, rfl, _, 97, rfl, rfl, (by show (0 : Int) < 97; decide), ?_⟩
  refine ⟨by show 4 ≤ sizeLine; decide, fun pd md => ?_⟩
  have kd := Gr.new (o := .lst (four.map V.int)) md
  have xd : Dp K (upd Gc pd (.lst (four.map V.int))) (.ref pd) (.list (four.map PyData.int)) := .lst (.inl (.inl upd_same)) (ints_dp four)
  have ef : [V.int ((99 : Int) ^ (16 : Int).toNat), .int (0 - (99 : Int) ^ (16 : Int).toNat), .int 1, .int ((0 - (2 : Int) ^ (16 : Int).toNat) % 97)] = four.map V.int := by
    rw [pw1, pw2]
    rfl
  rw [← ef] at kd xd
  refine ⟨_, _, _, rfl, xd, (.inr (.inr ⟨_, rfl⟩)), sh.able, sh.nod, Nat.le_trans sh.dep (by decide), rfl, sh.fits (by decide), ?_⟩
  refine ⟨rfl, ?_⟩
  rw [decide_eq_true rfl]
  exact q _ (kc.trans kd)
end
end SfE

namespace SfE
open PySem PySem.Spec PyProof.Rows L2 SfG
def xsA : List V := [.int (-3), .int (-1), .int 0, .int 1, .int 2, .int 99]
def xsB : List V := [.int (-2), .int 0, .int 1, .int 2, .int 98, .int 100]
theorem inA {i : Nat} {x : V} (h : xsA[i]? = some x) : ∃ a : Int, x = .int a ∧ a.natAbs ≤ 200 := by
  have hm := List.mem_of_getElem? h
  simp only [xsA, List.mem_cons, List.not_mem_nil, or_false] at hm
  rcases hm with rfl | rfl | rfl | rfl | rfl | rfl <;> exact ⟨_, rfl, by decide⟩
theorem inB {i : Nat} {x : V} (h : xsB[i]? = some x) : ∃ a : Int, x = .int a ∧ a.natAbs ≤ 200 := by
  have hm := List.mem_of_getElem? h
  simp only [xsB, List.mem_cons, List.not_mem_nil, or_false] at hm
  rcases hm with rfl | rfl | rfl | rfl | rfl | rfl <;> exact ⟨_, rfl, by decide⟩
section
variable {P : Program} {w : World} {K : PySem.W.Frag} {mg : Str → Option Value} {base : Heap}
def spWr : Sp := fun vs H Q _ => vs = [] ∧ ∀ H', Gr H H' → Q (.bl true) H'
set_option maxHeartbeats 4000000 in
theorem ok_wr {f fV fB : Addr} {fd fdV fdB : FuncData} (F : Fun K "_law_words_right" "_law_words_right" sWr f fd)
    (HV : Has P w K mg base 9 "value_of" ["expression", "fields"] (spVal K 7) fV fdV) (HB : Has P w K mg base 9 "given_by" ["body", "fields"] (spGiv K 3) fB fdB)
    (mp : mg "repr" = none) (mi : mg "int" = none) (mr : mg "range" = none) : FnG P w K mg base CX0 10 f fd [] spWr := by
  refine fng_of F scWr (fun vs H Q E h => ?_) (fun cdv A outer s H vs Q E hr hgd h => ?_)
  · obtain ⟨rfl, _⟩ := h
    rfl
  · obtain ⟨rfl, q⟩ := h
    have nd := scWr.nd
    obtain ⟨tb, dB, rB⟩ := wr_body (f := f) (outer := outer) (H := H) (E := E) HV HB mp mi hr hgd
    obtain ⟨te, dE, rE⟩ := wr_end (f := f) (outer := outer) (H := H) (E := E) HV HB mp mi hr hgd
    refine' ⟨_, pss_cons ?s1 (pss_cons ?s2 (pss_cons ?s3 (pss_cons ?s4 dE))), ?rd⟩
    case s1 =>
      exact ps_asg (pe_tup (pa_cons (pe_tup (pa_cons pe_str (pa_cons pe_int (pa_cons pe_int pa_nil)))) (pa_cons (pe_tup (pa_cons pe_str (pa_cons pe_int (pa_cons pe_int pa_nil)))) pa_nil)))
        (pg_tup rfl (pgs_cons (pg_name (i := 0) nd rfl (.inr rfl)) (pgs_cons (pg_name (i := 1) nd rfl (.inr rfl)) pgs_nil)))
    case s2 =>
      exact ps_for PassesOwn.never rfl (pi_tup (pe_tup (pa_cons (pe_un un_neg pe_int) (pa_cons (pe_un un_neg pe_int) (pa_cons pe_int (pa_cons pe_int (pa_cons pe_int (pa_cons pe_int pa_nil)))))))) (pg_name (i := 2) nd rfl (.inl rfl))
        (pss_one (ps_for PassesOwn.never rfl (pi_tup (pe_tup (pa_cons (pe_un un_neg pe_int) (pa_cons pe_int (pa_cons pe_int (pa_cons pe_int (pa_cons pe_int (pa_cons pe_int pa_nil)))))))) (pg_name (i := 3) nd rfl (.inl rfl)) dB))
    case s3 =>
      exact ps_set (i := 8) nd rfl (.inl rfl) (pe_tup (pa_cons pe_str (pa_cons pe_int pa_nil)))
    case s4 =>
      exact ps_for PassesOwn.never rfl (pi_range1 rfl mr (pa_cons pe_int pa_nil)) (pg_name (i := 9) nd rfl (.inl rfl)) (pss_one (ps_set (i := 8) nd rfl (.inl rfl) (pe_tup (pa_cons pe_str (pa_cons (pv 8) (pa_cons (pv 8) pa_nil))))))
    case rd =>
    refine ⟨by show 3 ≤ sizeLine; decide, fun p0 m0 => ⟨by show 3 ≤ sizeLine; decide, fun p1 m1 => ⟨by show 2 ≤ sizeLine; decide, fun p2 m2 => ?_⟩⟩⟩
    have k0 := Gr.new (o := .tup [.str "in", .int 0, .int 0]) m0
    have x0 : Dp K (upd H p0 (.tup [.str "in", .int 0, .int 0])) (.ref p0) eOne.d := .tup (.inl (.inl upd_same)) (.cons (.str _) (.cons (.int _) (.cons (.int _) .nil)))
    generalize upd H p0 (.tup [.str "in", .int 0, .int 0]) = G0 at *
    have k1 := Gr.new (o := .tup [.str "in", .int 1, .int 1]) m1
    have x1 : Dp K (upd G0 p1 (.tup [.str "in", .int 1, .int 1])) (.ref p1) eOth.d := .tup (.inl (.inl upd_same)) (.cons (.str _) (.cons (.int _) (.cons (.int _) .nil)))
    generalize upd G0 p1 (.tup [.str "in", .int 1, .int 1]) = G1 at *
    have k2 := Gr.new (o := .tup [.ref p0, .ref p1]) m2
    refine ⟨p2, _, rfl, .inl (.inl upd_same), rfl, _, _, rfl, _, _, rfl, rfl, ?_⟩
    have d0 := k2.kd (K := K) |>.dp (k1.kd.dp x0)
    have d1 := k2.kd (K := K) |>.dp x1
    have k02 := (k0.trans k1).trans k2
    generalize upd G1 p2 (.tup [.ref p0, .ref p1]) = G2 at *
    refine ⟨3, rfl, 1, rfl, by show 6 ≤ sizeLine; decide, fun tA nA => ⟨tA, rfl, ⟨_, .inl (.inl upd_same)⟩, ?_⟩⟩
    have kA : Gr G2 (upd G2 tA (.tup xsA)) := Gr.new nA
    have hA : SqT K (upd G2 tA (.tup xsA)) tA xsA := .inl (.inl upd_same)
    change ∃ W : Nat → Nat → L2.St → Hp → Prop, (∃ m, W 0 m _ (upd G2 tA (.tup xsA))) ∧ _
    generalize upd G2 tA (.tup xsA) = G3 at *
    refine for_tup (xs := xsA) (fun i σ H1 => (∃ y2 y3 y4 y5 y6 y7, σ = [some (.ref p0), some (.ref p1), y2, y3, y4, y5, y6, y7, none, none, none]) ∧ Gr G3 H1) ?o0 ?o1 ?o2 ?o3
    case o0 => exact ⟨⟨_, _, _, _, _, _, rfl⟩, Gr.refl _⟩
    case o1 =>
      rintro i σ H1 hi ⟨_, g1⟩
      exact g1.sqt hA
    case o2 =>
      rintro i x σ H1 hx ⟨⟨y2, y3, y4, y5, y6, y7, rfl⟩, g1⟩
      obtain ⟨a, rfl, ha⟩ := inA hx
      refine ⟨2, rfl, by show 6 ≤ sizeLine; decide, fun tB nB => ⟨tB, rfl, ⟨_, .inl (.inl upd_same)⟩, ?_⟩⟩
      have kB : Gr H1 (upd H1 tB (.tup xsB)) := Gr.new nB
      have hB : SqT K (upd H1 tB (.tup xsB)) tB xsB := .inl (.inl upd_same)
      refine for_tup (xs := xsB) (fun j σ H2 => (∃ y3 y4 y5 y6 y7, σ = [some (.ref p0), some (.ref p1), some (.int a), y3, y4, y5, y6, y7, none, none, none]) ∧ Gr (upd H1 tB (.tup xsB)) H2) ?i0 ?i1 ?i2 ?i3
      case i0 => exact ⟨⟨_, _, _, _, _, rfl⟩, Gr.refl _⟩
      case i1 =>
        rintro j σ H2 hj ⟨_, g2⟩
        exact g2.sqt hB
      case i2 =>
        rintro j x σ H2 hx ⟨⟨y3, y4, y5, y6, y7, rfl⟩, g2⟩
        obtain ⟨b, rfl, hb⟩ := inB hx
        have gg := ((kA.trans g1).trans kB).trans g2
        exact rB _ H2 (.ref p0) (.ref p1) a b _ _ _ _ _ _ (gg.kd.dp d0) (gg.kd.dp d1) ha hb (fun H' z4 z5 z6 z7 g' => ⟨⟨_, _, _, _, _, rfl⟩, g2.trans g'⟩)
      case i3 =>
        rintro σ H2 ⟨⟨y3, y4, y5, y6, y7, rfl⟩, g2⟩
        exact ⟨⟨_, _, _, _, _, _, rfl⟩, (g1.trans kB).trans g2⟩
    case o3 =>
    rintro σ H1 ⟨⟨y2, y3, y4, y5, y6, y7, rfl⟩, g1⟩
    have g01 := (k02.trans kA).trans g1
    refine ⟨by show 2 ≤ sizeLine; decide, fun pg mg' => ?_⟩
    have kg := Gr.new (o := .tup [.str "number", .int 99]) mg'
    have xg : Dp K (upd H1 pg (.tup [.str "number", .int 99])) (.ref pg) (gE 0).d := .tup (.inl (.inl upd_same)) (.cons (.str _) (.cons (.int _) .nil))
    refine ⟨4, rfl, by decide, by decide, for_range (n := 4) (fun i σ H2 => ∃ (vg : V) (y9 : Option V), σ = [some (.ref p0), some (.ref p1), y2, y3, y4, y5, y6, y7, some vg, y9, none] ∧ Gr H H2 ∧ Dp K H2 vg (gE i).d) ?r0 ?r1 ?r2⟩
    case r0 => exact ⟨_, _, rfl, g01.trans kg, xg⟩
    case r1 =>
      rintro i σ H2 hi ⟨vg, y9, rfl, g2, x2⟩
      refine ⟨_, rfl, _, rfl, by show 3 ≤ sizeLine; decide, fun pn mn => ?_⟩
      have kn := Gr.new (o := .tup [.str "times", vg, vg]) mn
      exact ⟨_, _, rfl, g2.trans kn, .tup (.inl (.inl upd_same)) (.cons (.str _) (.cons (kn.kd.dp x2) (.cons (kn.kd.dp x2) .nil)))⟩
    case r2 =>
      rintro σ H2 ⟨vg, y9, rfl, g2, x2⟩
      exact rE Q H2 vg _ _ _ _ _ _ _ _ _ x2 (fun H' g' => q H' (g2.trans g'))
end
end SfE

namespace SfE
open PySem PySem.Spec PyProof.Rows L2 SfG
abbrev sLaw : Stmt := topS 16
abbrev nLaw : List Str := ["_law_script", "_law_k", "_law_state", "_law_counts", "_law_expression_here", "_law_body_here", "_law_some", "_law_thing", "_law_turn", "_law_fields"]
theorem scLaw : FnScope nLaw ["_law_script"] (defScope sLaw) := ⟨rfl, rfl, rfl, by decide +kernel, rfl, by decide +kernel, by decide +kernel⟩
theorem fng_mono {P : Program} {w : World} {K : PySem.W.Frag} {mg : Str → Option Value} {base : Heap} {CX : CXT} {j k : Nat} {f : Addr} {fd : FuncData} {ps : List Str} {sp : Sp} (F : FnG P w K mg base CX j f fd ps sp) (h : j ≤ k) : FnG P w K mg base CX k f fd ps sp :=
  ⟨F.size, fun A outer s H args us vs Q E hr => F.goes A outer s H args us vs Q E (hr.mono h)⟩
def csV (cs : List Nat) : List V := cs.map fun (c : Nat) => V.int (c : Int)
theorem cs_dp {K : PySem.W.Frag} {H : Hp} : ∀ cs : List Nat, DpAll K H (csV cs) (cs.map fun (c : Nat) => PyData.int (c : Int))
  | [] => .nil
  | _ :: r => .cons (.int _) (cs_dp r)
theorem fd_keep {K : PySem.W.Frag} {H H' : Hp} (kt : ∀ {a xs}, SqT K H a xs → SqT K H' a xs) {fs : Fs} {v : V} (h : Dp K H v (fD fs)) : Dp K H' v (fD fs) := by
  obtain ⟨p, xs, rfl, hp, hxs⟩ := dp_tup h
  exact .tup (kt hp) (rows_keep kt hxs)
theorem fds_keep {K : PySem.W.Frag} {H H' : Hp} (kt : ∀ {a xs}, SqT K H a xs → SqT K H' a xs) : ∀ {fss : List Fs} {vs : List V}, DpAll K H vs (fss.map fD) → DpAll K H' vs (fss.map fD)
  | [], vs, h => by
    rw [dpA_nil h]
    exact .nil
  | e :: r, vs, h => by
    obtain ⟨x, r', rfl, hx, hr⟩ := dpA_cons h
    exact .cons (fd_keep kt hx) (fds_keep kt hr)
theorem fds_mem {K : PySem.W.Frag} {H : Hp} : ∀ {fss : List Fs} {vs : List V}, DpAll K H vs (fss.map fD) → ∀ x ∈ vs, ∃ fs ∈ fss, Dp K H x (fD fs)
  | [], vs, h, x, hx => by
    rw [dpA_nil h] at hx
    cases hx
  | e :: r, vs, h, x, hx => by
    obtain ⟨y, r', rfl, hy, hr⟩ := dpA_cons h
    rcases List.mem_cons.mp hx with rfl | hx
    · exact ⟨e, List.mem_cons_self, hy⟩
    · obtain ⟨fs, h1, h2⟩ := fds_mem hr x hx
      exact ⟨fs, List.mem_cons_of_mem _ h1, h2⟩
section
variable {P : Program} {w : World} {K : PySem.W.Frag} {mg : Str → Option Value} {base : Heap}
def spLaw (K : PySem.W.Frag) : Sp := fun vs H Q _ => ∃ (a : Addr) (ns : List Int), vs = [.ref a] ∧ SqL K H a (ns.map V.int) ∧ ∀ H', Q (.bl true) H'
structure Calls (P : Program) (w : World) (K : PySem.W.Frag) (mg : Str → Option Value) (base : Heap) (fb fp fe fB fQ fr fw : Addr) (db dp de dB dD dr dw : FuncData) : Prop where
  HBg : Has P w K mg base 14 "_law_begun" ["_law_script", "_law_k"] (spBeg K) fb db
  HP : Has P w K mg base 14 "_law_pick" ["_law_state", "_law_many"] spPick fp dp
  HE : Has P w K mg base 14 "_law_expression" ["_law_state", "_law_counts", "_law_deep"] (spExp K 4) fe de
  HB : Has P w K mg base 14 "_law_body" ["_law_state", "_law_counts", "_law_many", "_law_deep"] (spBod K 4) fB dB
  HD : Has P w K mg base 14 "_law_drawn_fields" ["_law_state", "_law_counts"] (spDF K) fQ dD
  RG : FnG P w K mg base CX0 14 fr dr ["_law_expression_here", "_law_body_here", "_law_fields"] (spRt K)
  gR : mg "_law_right" = some (.ref fr)
  kR : PySem.W.keepIn K (.ref fr) = true
  bR : Binds K dr ["_law_expression_here", "_law_body_here", "_law_fields"] []
  WG : FnG P w K mg base CX0 14 fw dw [] spWr
  gW : mg "_law_words_right" = some (.ref fw)
  kW : PySem.W.keepIn K (.ref fw) = true
  bW : Binds K dw [] []
  mr : mg "range" = none
  mx : mg "max" = none
  mn : mg "min" = none
  ml : mg "len" = none
  mt : mg "tuple" = none
set_option maxHeartbeats 8000000 in
theorem ok_law {f fb fp fe fB fQ fr fw : Addr} {fd db dp de dB dD dr dw : FuncData} (F : Fun K "law" "law" sLaw f fd) (C : Calls P w K mg base fb fp fe fB fQ fr fw db dp de dB dD dr dw) :
    FnG P w K mg base CX0 15 f fd ["_law_script"] (spLaw K) := by
  refine fng_of F scLaw (fun vs H Q E h => ?_) (fun cdv A outer s H vs Q E hr hgd h => ?_)
  · obtain ⟨a, ns, rfl, _⟩ := h
    rfl
  · obtain ⟨a, ns, rfl, hS, q⟩ := h
    have nd := scLaw.nd
    refine' ⟨_, pss_cons ?s1 (pss_one ?s2), ?rd⟩
    case s1 =>
      refine' ps_for PassesOwn.never rfl (pi_range1 rfl C.mr (pa_cons (pe_callB (call_max2 rfl) (by rfl) C.mx (by decide +kernel) (pa_cons pe_int (pa_cons (pe_callB (call_min2 rfl) (by rfl) C.mn (by decide +kernel) (pa_cons pe_int (pa_cons (pe_callB call_len_seq (by rfl) C.ml PySem.boot_len (pa_cons (pv 0) pa_nil)) pa_nil))) pa_nil))) pa_nil))
        (pg_name (i := 1) nd rfl (.inl rfl)) (pss_cons ?b1 (pss_cons ?b2 (pss_cons ?b3 (pss_cons ?b4 (pss_one ?b5)))))
      case b1 =>
        exact ps_set (i := 2) nd rfl (.inr rfl) (hcall C.HBg hr (pa_cons (pv 0) (pa_cons (pv 1) pa_nil)))
      case b2 =>
        exact ps_set (i := 3) nd rfl (.inr rfl) (pe_callTy call_tuple_of (by rfl) C.mt (by decide +kernel) (pa_cons (pe_lc (own := [("_law_thing", 7)]) (g := gName 7) rfl nd
          (pi_range1 (by rfl) C.mr (pa_cons (hcall C.HP hr (pa_cons (pv 2) (pa_cons pe_int pa_nil))) pa_nil)) (blkOk_by (own := [("_law_thing", 7)]) (N := nLaw) (sc := defScope sLaw) (by decide +kernel)) (fun _ _ _ _ _ => pg_name (i := 7) nd rfl (Or.inl rfl)) (fun _ _ _ _ _ => pts_nil)
          (fun _ _ _ _ _ => pe_op op_add pe_int (hcall C.HP hr (pa_cons (pv 2) (pa_cons pe_int pa_nil))))) pa_nil))
      case b3 =>
        exact ps_asg (pe_tup (pa_cons (hcall C.HE hr (pa_cons (pv 2) (pa_cons (pv 3) (pa_cons pe_int pa_nil)))) (pa_cons (hcall C.HB hr (pa_cons (pv 2) (pa_cons (pv 3) (pa_cons (pe_op op_add pe_int (hcall C.HP hr (pa_cons (pv 2) (pa_cons pe_int pa_nil)))) (pa_cons pe_int pa_nil))))) pa_nil)))
          (pg_tup rfl (pgs_cons (pg_name (i := 4) nd rfl (.inr rfl)) (pgs_cons (pg_name (i := 5) nd rfl (.inr rfl)) pgs_nil)))
      case b4 =>
        exact ps_setLc (i := 6) (own := [("_law_turn", 8)]) (g := gName 8) rfl nd rfl rfl (sw_true rfl rfl rfl (by decide +kernel)) (pi_range1 (by rfl) C.mr (pa_cons pe_int pa_nil))
          (blkOk_by (own := [("_law_turn", 8)]) (N := nLaw) (sc := defScope sLaw) (by decide +kernel)) (fun _ _ _ _ _ => pg_name (i := 8) nd rfl (Or.inl rfl)) (fun _ _ _ _ _ => pts_nil)
          (fun _ _ _ _ _ => hcall C.HD hr (pa_cons (pv 2) (pa_cons (pv 3) pa_nil)))
      case b5 =>
        refine' ps_if (pt_cmpR (op_neD hr.units) ?lc (pe_lst pa_nil) (nomark _)) (pss_one (ps_ret pe_bl)) pss_nil
        case lc =>
          exact pe_lc (own := [("_law_fields", 9)]) (g := gName 9) rfl nd (pi_list (pe_op op_cat (pv 6) (pe_revL (pv 6)))) (blkOk_by (own := [("_law_fields", 9)]) (N := nLaw) (sc := defScope sLaw) (by decide +kernel))
            (fun _ _ _ _ _ => pg_name (i := 9) nd rfl (Or.inl rfl)) (fun _ _ _ _ _ => pts_one (pt_not (pt_val (pe_callG C.RG hr hgd (by rfl) C.gR C.kR C.bR .nil pass0 (pa_cons (pv 4) (pa_cons (pv 5) (pa_cons (pv 9) pa_nil))))))) (fun _ _ _ _ _ => pv 9)
    case s2 =>
      exact ps_ret (pe_callG0 C.WG hr hgd (by rfl) C.gW C.kW C.bW .nil pass0)
    case rd =>
    refine ⟨_, rfl, a, _, rfl, .inl hS, 12, _, rfl, 2, _, rfl, _, rfl, ?lo, ?hi, ?loop⟩
    case lo =>
      have : (-(2 ^ 62) : Int) = -4611686018427387904 := by decide
      rw [this]
      split <;> omega
    case hi =>
      have : ((2 ^ 62) : Int) = 4611686018427387904 := by decide
      rw [this]
      split
      · split <;> omega
      · omega
    case loop =>
    have hM : (if (if (((ns.map V.int).length : Nat) : Int) < 12 then (((ns.map V.int).length : Nat) : Int) else 12) > 2 then (if (((ns.map V.int).length : Nat) : Int) < 12 then (((ns.map V.int).length : Nat) : Int) else 12) else (2 : Int)).toNat ≤ 12 := by
      split
      · split <;> omega
      · omega
    generalize (if (if (((ns.map V.int).length : Nat) : Int) < 12 then (((ns.map V.int).length : Nat) : Int) else 12) > 2 then (if (((ns.map V.int).length : Nat) : Int) < 12 then (((ns.map V.int).length : Nat) : Int) else 12) else (2 : Int)).toNat = M at hM ⊢
    refine for_range (n := M) (fun i σ H1 => (∃ y1 y2 y3 y4 y5 y6, σ = [some (.ref a), y1, y2, y3, y4, y5, y6, none, none, none]) ∧ Gr H H1) ?o0 ?o1 ?o2
    case o0 => exact ⟨⟨_, _, _, _, _, _, rfl⟩, Gr.refl _⟩
    case o2 =>
      rintro σ H1 ⟨⟨y1, y2, y3, y4, y5, y6, rfl⟩, g1⟩
      exact ⟨rfl, fun H' _ => q H'⟩
    case o1 =>
    rintro i σ H1 hi ⟨⟨y1, y2, y3, y4, y5, y6, rfl⟩, g1⟩
    refine ⟨_, rfl, _, rfl, a, ns, i, by rw [Int.zero_add]; rfl, g1.seq hS, by omega, fun H2 p np g2 dr => ?_⟩
    -- counts
    refine ⟨_, rfl, p, 4, rfl, dr, by decide, by decide, fun H3 d b3 dr3 d0 d4 => ?_⟩
    refine ⟨d, rfl, by omega, by omega, fun D nD => ?_⟩
    have nDp : D ≠ p := dr3.ne nD
    refine lc_it (walk_range (lo := 0) (n := d.toNat)) (fun j H4 => ∃ cs : List Nat, H4 D = some (.lst (csV cs)) ∧ cs.length = j ∧ (∀ x ∈ cs, 1 ≤ x ∧ x ≤ 3) ∧ Gp p H3 H4 ∧ Drw H4 p) ?c0 (fun _ _ _ _ => trivial) ?c1 ?c2
    case c0 => exact ⟨[], upd_same, rfl, fun x hx => (by cases hx), Gp.gr (Gr.new nD), dr3.new nD⟩
    case c1 =>
      rintro j x H4 H4' hj ⟨cs, hD, hl, hc, g4, dr4⟩ ⟨rfl, rfl⟩
      refine ⟨rfl, ?_⟩
      unfold tYes
      refine iteT ⟨_, rfl, p, 3, rfl, dr4, by decide, by decide, fun H5 c b5 dr5 c0 c3 => ⟨1, c, rfl, rfl, ?_⟩⟩
      have g5 : Gp p H4' H5 := Gp.but b5
      have hD5 := g5.lst nDp hD
      refine ⟨_, hD5, ?_, cs ++ [(1 + c).toNat], ?_, ?_, ?_, Gp.upd_new (g4.trans g5) nD, dr5.upd nDp⟩
      · unfold csV
        rw [List.length_map]
        exact small1000 (by omega)
      · rw [upd_same]
        unfold csV
        rw [List.map_append]
        show some (HO.lst (_ ++ [V.int (1 + c)])) = some (HO.lst (_ ++ [V.int ((1 + c).toNat : Nat)]))
        rw [Int.toNat_of_nonneg (by omega)]
      · rw [List.length_append, hl]
        rfl
      · intro x hx
        rcases List.mem_append.mp hx with h | h
        · exact hc x h
        · rw [show x = (1 + c).toNat by simpa using h]
          omega
    case c2 =>
    rintro H4 ⟨cs, hD, hl, hc, g4, dr4⟩
    refine ⟨D, _, rfl, .inl ⟨.inl (.inl hD), fun T nT => ?_⟩⟩
    have hcs : cs.length ≤ 3 ∧ ∀ x ∈ cs, 1 ≤ x ∧ x ≤ 3 := ⟨by omega, hc⟩
    have gT : Gr H4 (upd H4 T (.tup (csV cs))) := Gr.new nT
    have hT : Dp K (upd H4 T (.tup (csV cs))) (.ref T) (cD cs) := .tup (.inl (.inl upd_same)) (cs_dp cs)
    have gp5 : Gp p H2 (upd H4 T (.tup (csV cs))) := ((Gp.but b3).trans g4).trans (Gp.gr gT)
    have dr5 := dr4.gr gT
    generalize upd H4 T (.tup (csV cs)) = H5 at gT hT gp5 dr5 ⊢
    -- an E and a body
    refine ⟨_, rfl, _, rfl, p, .ref T, 4, cs, rfl, dr5, hT, hcs, by decide, by decide, by decide, fun H6 ve Ee g6 dr6 hve hEe => ?_⟩
    have hT6 := (dr5.kd g6).dp hT
    refine ⟨_, rfl, _, rfl, _, rfl, p, 3, rfl, dr6, by decide, by decide, fun H7 m b7 dr7 m0 m3 => ?_⟩
    have g7 : Gp p H6 H7 := Gp.but b7
    have hT7 := (dr6.kd g7).dp hT6
    have hve7 := (dr6.kd g7).dp hve
    refine ⟨1, m, rfl, rfl, p, .ref T, (1 + m).toNat, 4, cs, ?_, dr7, hT7, hcs, by omega, by omega, by decide, by decide, by decide, fun H8 vb Bb g8 dr8 hvb oBb dBb => ?_⟩
    · show [V.ref p, V.ref T, V.int (1 + m), V.int 4] = [V.ref p, V.ref T, V.int ((1 + m).toNat : Nat), V.int ((4 : Nat) : Int)]
      rw [Int.toNat_of_nonneg (by omega)]
      rfl
    refine ⟨by show 2 ≤ sizeLine; decide, fun t2 n2 => ⟨t2, _, rfl, .inl (.inl upd_same), rfl, _, _, rfl, _, _, rfl, rfl, ?_⟩⟩
    have g9 : Gr H8 (upd H8 t2 (.tup [ve, vb])) := Gr.new n2
    have hve9 := g9.kd (K := K) |>.dp ((dr7.kd g8).dp hve7)
    have hvb9 := g9.kd (K := K) |>.dp hvb
    have hT9 := g9.kd (K := K) |>.dp ((dr7.kd g8).dp hT7)
    have gp9 : Gp p H2 (upd H8 t2 (.tup [ve, vb])) := (((gp5.trans g6).trans g7).trans g8).trans (Gp.gr g9)
    have dr9 := dr8.gr g9
    generalize upd H8 t2 (.tup [ve, vb]) = H9 at g9 hve9 hvb9 hT9 gp9 dr9 ⊢
    -- fields, three times
    refine ⟨3, rfl, by decide, by decide, fun S nS => ?_⟩
    have nSp : S ≠ p := dr9.ne nS
    refine lc_it (walk_range (lo := 0) (n := (3 : Int).toNat)) (fun j Hx => ∃ (fss : List Fs) (vs : List V), Hx S = some (.lst vs) ∧ fss.length = j ∧ DpAll K Hx vs (fss.map fD) ∧ (∀ fs ∈ fss, Fit cs fs) ∧ Gp p H9 Hx ∧ Drw Hx p) ?d0 (fun _ _ _ _ => trivial) ?d1 ?d2
    case d0 => exact ⟨[], [], upd_same, rfl, .nil, fun x hx => (by cases hx), Gp.gr (Gr.new nS), dr9.new nS⟩
    case d1 =>
      rintro j x Hx Hx' hj ⟨fss, vs, hS', hl', hv, hf, gx, drx⟩ ⟨rfl, rfl⟩
      refine ⟨rfl, ?_⟩
      unfold tYes
      refine iteT ⟨_, rfl, _, rfl, p, .ref T, cs, rfl, drx, (dr9.kd gx).dp hT9, hcs, fun Hy v fs gy dry hv' hF => ?_⟩
      have hSy : Hy S = some (.lst vs) := gy.lst nSp hS'
      refine ⟨_, hSy, ?_, fss ++ [fs], vs ++ [v], upd_same, ?_, ?_, ?_, Gp.upd_new (gx.trans gy) nS, dry.upd nSp⟩
      · have := dpA_len hv
        rw [List.length_map] at this
        have h3 : j < 3 := hj
        exact small1000 (by omega)
      · rw [List.length_append, hl']
        rfl
      · rw [List.map_append]
        exact dpA_snoc (fds_keep (sqt_upd hSy) ((drx.kd gy).dpA hv)) (fd_keep (sqt_upd hSy) hv')
      · intro f' hf'
        rcases List.mem_append.mp hf' with h | h
        · exact hf f' h
        · rw [show f' = fs by simpa using h]
          exact hF
    case d2 =>
    rintro Hx ⟨fss, vs, hS', hl', hv, hf, gx, drx⟩
    have hvl : vs.length = 3 := by
      have h1 := dpA_len hv
      rw [List.length_map] at h1
      have h2 : fss.length = 3 := hl'
      omega
    have gpx : Gp p H2 Hx := gp9.trans gx
    have hveX := (dr9.kd gx).dp hve9
    have hvbX := (dr9.kd gx).dp hvb9
    have gHx : Gr H Hx := Gp.out (g1.trans g2) (g1.back _ np) gpx
    refine ⟨_, rfl, _, rfl, S, vs, rfl, .inl (.inl hS'), fun R nR => ?_⟩
    have kR := Gr.new (o := .lst vs.reverse) nR
    refine ⟨S, R, vs, vs.reverse, rfl, rfl, kR.lst hS', upd_same, ?_, fun W nW => ?_⟩
    · rw [List.length_reverse, hvl]
      exact Nat.le_of_lt (small1000 (by decide))
    have kW := Gr.new (o := .lst (vs ++ vs.reverse)) nW
    have hW : upd (upd Hx R (.lst vs.reverse)) W (.lst (vs ++ vs.reverse)) W = some (.lst (vs ++ vs.reverse)) := upd_same
    have kRW := kR.trans kW
    generalize upd (upd Hx R (.lst vs.reverse)) W (.lst (vs ++ vs.reverse)) = HW at hW kRW ⊢
    refine ⟨W, rfl, ⟨_, .inl (.inl hW)⟩, fun D2 nD2 => ?_⟩
    have gD2 : Gr HW (upd HW D2 (.lst [])) := Gr.new nD2
    refine lc_it (walk_list (xs := vs ++ vs.reverse)) (fun j H10 => Gr (upd HW D2 (.lst [])) H10) (Gr.refl _) ?v0 ?v1 ?v2
    case v0 =>
      intro j H10 hj g10
      exact .inl (.inl ((gD2.trans g10).lst hW))
    case v1 =>
      rintro j x H10 H10' hj g10 ⟨rfl, ex⟩
      have hx : x ∈ vs := by
        have := List.mem_of_getElem? ex
        rcases List.mem_append.mp this with h | h
        · exact h
        · exact List.mem_reverse.mp h
      obtain ⟨fs, h1, h2⟩ := fds_mem hv x hx
      have gg := (kRW.trans gD2).trans g10
      refine ⟨rfl, _, rfl, _, rfl, _, rfl, ve, vb, x, Ee, Bb, cs, fs, (1 + m).toNat, rfl, gg.kd.dp hveX, gg.kd.dp hvbX, gg.kd.dp h2, hEe, oBb, by omega, dBb, hf fs h1, hcs, fun H11 g11 => ⟨_, rfl, iteF ?_⟩⟩
      exact g10.trans g11
    case v2 =>
    intro H10 g10
    have hD10 : H10 D2 = some (.lst []) := g10.lst upd_same
    refine ⟨Nat.zero_le _, fun p5 np5 => ?_⟩
    have nD5 : D2 ≠ p5 := ne_of_none hD10 np5
    refine ⟨.list [], .list [], .lst (.inl (.inl ((upd_ne nD5).trans hD10))) .nil, .lst (.inl (.inl upd_same)) .nil, rfl, rfl, _, rfl, iteF ?_⟩
    exact ⟨⟨_, _, _, _, _, _, rfl⟩, (((gHx.trans kRW).trans gD2).trans g10).trans (Gr.new np5)⟩
end
end SfE

namespace SfE
open PySem PySem.Spec PyProof.Rows L2 SfG
set_option maxHeartbeats 4000000 in
theorem all_mk {l : PySem.W.OpenLaw} {w : World} {K : PySem.W.Frag} {h : Heap} {mg : Str → Option Value} {fa : Addr} (X : K.In h) (G : h.Ns mainGlobals mg) (hfa : mg "law" = some (.ref fa))
    {fV : Addr} {odV anV : Option Addr} {slV : Array (Option Value)} {ocV kVV dcV pmV ctV : Value} {cdV : Value}
    (aV : PySem.W.nsIn K mainGlobals "value_of" = some (some (.ref fV))) (lV : K.lookup fV = some ⟨ocV, odV, .func (PySem.W.fnOf "value_of" "value_of" (defArgs sVal) (defBody sVal) (defScope sVal) .none kVV dcV pmV anV cdV ctV), slV⟩) (hV : PySem.W.codeIn K cdV "value_of" = true) (kV : PySem.W.keepIn K (.ref fV) = true)
    {fT : Addr} {odT anT : Option Addr} {slT : Array (Option Value)} {ocT kVT dcT pmT ctT : Value} {cdT : Value}
    (aT : PySem.W.nsIn K mainGlobals "chosen_by" = some (some (.ref fT))) (lT : K.lookup fT = some ⟨ocT, odT, .func (PySem.W.fnOf "chosen_by" "chosen_by" (defArgs sCho) (defBody sCho) (defScope sCho) .none kVT dcT pmT anT cdT ctT), slT⟩) (hT : PySem.W.codeIn K cdT "chosen_by" = true) (kT : PySem.W.keepIn K (.ref fT) = true)
    {fI : Addr} {odI anI : Option Addr} {slI : Array (Option Value)} {ocI kVI dcI pmI ctI : Value} {cdI : Value}
    (aI : PySem.W.nsIn K mainGlobals "given_by" = some (some (.ref fI))) (lI : K.lookup fI = some ⟨ocI, odI, .func (PySem.W.fnOf "given_by" "given_by" (defArgs sGiv) (defBody sGiv) (defScope sGiv) .none kVI dcI pmI anI cdI ctI), slI⟩) (hI : PySem.W.codeIn K cdI "given_by" = true) (kI : PySem.W.keepIn K (.ref fI) = true)
    {fB : Addr} {odB anB : Option Addr} {slB : Array (Option Value)} {ocB kVB dcB pmB ctB : Value} {cdB : Value}
    (aB : PySem.W.nsIn K mainGlobals "_law_begun" = some (some (.ref fB))) (lB : K.lookup fB = some ⟨ocB, odB, .func (PySem.W.fnOf "_law_begun" "_law_begun" (defArgs sBeg) (defBody sBeg) (defScope sBeg) .none kVB dcB pmB anB cdB ctB), slB⟩) (hB : PySem.W.codeIn K cdB "_law_begun" = true) (kB : PySem.W.keepIn K (.ref fB) = true)
    {fP : Addr} {odP anP : Option Addr} {slP : Array (Option Value)} {ocP kVP dcP pmP ctP : Value} {cdP : Value}
    (aP : PySem.W.nsIn K mainGlobals "_law_pick" = some (some (.ref fP))) (lP : K.lookup fP = some ⟨ocP, odP, .func (PySem.W.fnOf "_law_pick" "_law_pick" (defArgs sPick) (defBody sPick) (defScope sPick) .none kVP dcP pmP anP cdP ctP), slP⟩) (hP : PySem.W.codeIn K cdP "_law_pick" = true) (kP : PySem.W.keepIn K (.ref fP) = true)
    {fA : Addr} {odA anA : Option Addr} {slA : Array (Option Value)} {ocA kVA dcA pmA ctA : Value} {cdA : Value}
    (aA : PySem.W.nsIn K mainGlobals "_law_among" = some (some (.ref fA))) (lA : K.lookup fA = some ⟨ocA, odA, .func (PySem.W.fnOf "_law_among" "_law_among" (defArgs sAmg) (defBody sAmg) (defScope sAmg) .none kVA dcA pmA anA cdA ctA), slA⟩) (hA : PySem.W.codeIn K cdA "_law_among" = true) (kA : PySem.W.keepIn K (.ref fA) = true)
    {fK : Addr} {odK anK : Option Addr} {slK : Array (Option Value)} {ocK kVK dcK pmK ctK : Value} {cdK : Value}
    (aK : PySem.W.nsIn K mainGlobals "_law_looked" = some (some (.ref fK))) (lK : K.lookup fK = some ⟨ocK, odK, .func (PySem.W.fnOf "_law_looked" "_law_looked" (defArgs sLook) (defBody sLook) (defScope sLook) .none kVK dcK pmK anK cdK ctK), slK⟩) (hK : PySem.W.codeIn K cdK "_law_looked" = true) (kK : PySem.W.keepIn K (.ref fK) = true)
    {fE : Addr} {odE anE : Option Addr} {slE : Array (Option Value)} {ocE kVE dcE pmE ctE : Value} {cdE : Value}
    (aE : PySem.W.nsIn K mainGlobals "_law_expression" = some (some (.ref fE))) (lE : K.lookup fE = some ⟨ocE, odE, .func (PySem.W.fnOf "_law_expression" "_law_expression" (defArgs sExp) (defBody sExp) (defScope sExp) .none kVE dcE pmE anE cdE ctE), slE⟩) (hE : PySem.W.codeIn K cdE "_law_expression" = true) (kE : PySem.W.keepIn K (.ref fE) = true)
    {fO : Addr} {odO anO : Option Addr} {slO : Array (Option Value)} {ocO kVO dcO pmO ctO : Value} {cdO : Value}
    (aO : PySem.W.nsIn K mainGlobals "_law_body" = some (some (.ref fO))) (lO : K.lookup fO = some ⟨ocO, odO, .func (PySem.W.fnOf "_law_body" "_law_body" (defArgs sBod) (defBody sBod) (defScope sBod) .none kVO dcO pmO anO cdO ctO), slO⟩) (hO : PySem.W.codeIn K cdO "_law_body" = true) (kO : PySem.W.keepIn K (.ref fO) = true)
    {fU : Addr} {odU anU : Option Addr} {slU : Array (Option Value)} {ocU kVU dcU pmU ctU : Value} {cdU : Value}
    (aU : PySem.W.nsIn K mainGlobals "_law_value" = some (some (.ref fU))) (lU : K.lookup fU = some ⟨ocU, odU, .func (PySem.W.fnOf "_law_value" "_law_value" (defArgs sLV) (defBody sLV) (defScope sLV) .none kVU dcU pmU anU cdU ctU), slU⟩) (hU : PySem.W.codeIn K cdU "_law_value" = true) (kU : PySem.W.keepIn K (.ref fU) = true)
    {fN : Addr} {odN anN : Option Addr} {slN : Array (Option Value)} {ocN kVN dcN pmN ctN : Value} {cdN : Value}
    (aN : PySem.W.nsIn K mainGlobals "_law_given" = some (some (.ref fN))) (lN : K.lookup fN = some ⟨ocN, odN, .func (PySem.W.fnOf "_law_given" "_law_given" (defArgs sLG) (defBody sLG) (defScope sLG) .none kVN dcN pmN anN cdN ctN), slN⟩) (hN : PySem.W.codeIn K cdN "_law_given" = true) (kN : PySem.W.keepIn K (.ref fN) = true)
    {fD : Addr} {odD anD : Option Addr} {slD : Array (Option Value)} {ocD kVD dcD pmD ctD : Value} {cdD : Value}
    (aD : PySem.W.nsIn K mainGlobals "_law_drawn_fields" = some (some (.ref fD))) (lD : K.lookup fD = some ⟨ocD, odD, .func (PySem.W.fnOf "_law_drawn_fields" "_law_drawn_fields" (defArgs sDF) (defBody sDF) (defScope sDF) .none kVD dcD pmD anD cdD ctD), slD⟩) (hD : PySem.W.codeIn K cdD "_law_drawn_fields" = true) (kD : PySem.W.keepIn K (.ref fD) = true)
    {fR : Addr} {odR anR : Option Addr} {slR : Array (Option Value)} {ocR kVR dcR pmR ctR : Value} {cdR : Value}
    (aR : PySem.W.nsIn K mainGlobals "_law_right" = some (some (.ref fR))) (lR : K.lookup fR = some ⟨ocR, odR, .func (PySem.W.fnOf "_law_right" "_law_right" (defArgs sRt) (defBody sRt) (defScope sRt) .none kVR dcR pmR anR cdR ctR), slR⟩) (hR : PySem.W.codeIn K cdR "_law_right" = true) (kR : PySem.W.keepIn K (.ref fR) = true)
    {fW : Addr} {odW anW : Option Addr} {slW : Array (Option Value)} {ocW kVW dcW pmW ctW : Value} {cdW : Value}
    (aW : PySem.W.nsIn K mainGlobals "_law_words_right" = some (some (.ref fW))) (lW : K.lookup fW = some ⟨ocW, odW, .func (PySem.W.fnOf "_law_words_right" "_law_words_right" (defArgs sWr) (defBody sWr) (defScope sWr) .none kVW dcW pmW anW cdW ctW), slW⟩) (hW : PySem.W.codeIn K cdW "_law_words_right" = true) (kW : PySem.W.keepIn K (.ref fW) = true)
    {fL : Addr} {odL anL : Option Addr} {slL : Array (Option Value)} {ocL kVL dcL pmL ctL : Value} {cdL : Value}
    (aL : PySem.W.nsIn K mainGlobals "law" = some (some (.ref fL))) (lL : K.lookup fL = some ⟨ocL, odL, .func (PySem.W.fnOf "law" "law" (defArgs sLaw) (defBody sLaw) (defScope sLaw) .none kVL dcL pmL anL cdL ctL), slL⟩) (hL : PySem.W.codeIn K cdL "law" = true) (kL : PySem.W.keepIn K (.ref fL) = true)
    (z_isinstance : PySem.W.nsIn K mainGlobals "isinstance" = some none)
    (z_int : PySem.W.nsIn K mainGlobals "int" = some none)
    (z_bool : PySem.W.nsIn K mainGlobals "bool" = some none)
    (z_str : PySem.W.nsIn K mainGlobals "str" = some none)
    (z_len : PySem.W.nsIn K mainGlobals "len" = some none)
    (z_sum : PySem.W.nsIn K mainGlobals "sum" = some none)
    (z_max : PySem.W.nsIn K mainGlobals "max" = some none)
    (z_min : PySem.W.nsIn K mainGlobals "min" = some none)
    (z_range : PySem.W.nsIn K mainGlobals "range" = some none)
    (z_abs : PySem.W.nsIn K mainGlobals "abs" = some none)
    (z_repr : PySem.W.nsIn K mainGlobals "repr" = some none)
    (z_list : PySem.W.nsIn K mainGlobals "list" = some none)
    (z_tuple : PySem.W.nsIn K mainGlobals "tuple" = some none) :
    LawG l w K CX0 15 63 "_law_script" mg fa h := by
  have e := hfa.symm.trans (PySem.W.mg_of X G aL)
  cases e
  have FV := fun_mk (st := sVal) lV hV kV
  have FT := fun_mk (st := sCho) lT hT kT
  have FI := fun_mk (st := sGiv) lI hI kI
  have FB := fun_mk (st := sBeg) lB hB kB
  have FP := fun_mk (st := sPick) lP hP kP
  have FA := fun_mk (st := sAmg) lA hA kA
  have FK := fun_mk (st := sLook) lK hK kK
  have FE := fun_mk (st := sExp) lE hE kE
  have FO := fun_mk (st := sBod) lO hO kO
  have FU := fun_mk (st := sLV) lU hU kU
  have FN := fun_mk (st := sLG) lN hN kN
  have FD := fun_mk (st := sDF) lD hD kD
  have FR := fun_mk (st := sRt) lR hR kR
  have FW := fun_mk (st := sWr) lW hW kW
  have FL := fun_mk (st := sLaw) lL hL kL
  have bV := (FV).binds (ps := ["expression", "fields"]) fun _ _ _ _ _ _ us hl => match us, hl with | [_, _], _ => rfl
  have gV := PySem.W.mg_of X G aV
  have bT := (FT).binds (ps := ["body", "fields"]) fun _ _ _ _ _ _ us hl => match us, hl with | [_, _], _ => rfl
  have gT := PySem.W.mg_of X G aT
  have bI := (FI).binds (ps := ["body", "fields"]) fun _ _ _ _ _ _ us hl => match us, hl with | [_, _], _ => rfl
  have gI := PySem.W.mg_of X G aI
  have bB := (FB).binds (ps := ["_law_script", "_law_k"]) fun _ _ _ _ _ _ us hl => match us, hl with | [_, _], _ => rfl
  have gB := PySem.W.mg_of X G aB
  have bP := (FP).binds (ps := ["_law_state", "_law_many"]) fun _ _ _ _ _ _ us hl => match us, hl with | [_, _], _ => rfl
  have gP := PySem.W.mg_of X G aP
  have bA := (FA).binds (ps := ["_law_thing", "_law_least", "_law_most"]) fun _ _ _ _ _ _ us hl => match us, hl with | [_, _, _], _ => rfl
  have gA := PySem.W.mg_of X G aA
  have bK := (FK).binds (ps := ["_law_thing", "_law_counts", "_law_many"]) fun _ _ _ _ _ _ us hl => match us, hl with | [_, _, _], _ => rfl
  have gK := PySem.W.mg_of X G aK
  have bE := (FE).binds (ps := ["_law_state", "_law_counts", "_law_deep"]) fun _ _ _ _ _ _ us hl => match us, hl with | [_, _, _], _ => rfl
  have gE := PySem.W.mg_of X G aE
  have bO := (FO).binds (ps := ["_law_state", "_law_counts", "_law_many", "_law_deep"]) fun _ _ _ _ _ _ us hl => match us, hl with | [_, _, _, _], _ => rfl
  have gO := PySem.W.mg_of X G aO
  have bU := (FU).binds (ps := ["_law_thing", "_law_fields"]) fun _ _ _ _ _ _ us hl => match us, hl with | [_, _], _ => rfl
  have gU := PySem.W.mg_of X G aU
  have bN := (FN).binds (ps := ["_law_body_here", "_law_fields"]) fun _ _ _ _ _ _ us hl => match us, hl with | [_, _], _ => rfl
  have gN := PySem.W.mg_of X G aN
  have bD := (FD).binds (ps := ["_law_state", "_law_counts"]) fun _ _ _ _ _ _ us hl => match us, hl with | [_, _], _ => rfl
  have gD := PySem.W.mg_of X G aD
  have bR := (FR).binds (ps := ["_law_expression_here", "_law_body_here", "_law_fields"]) fun _ _ _ _ _ _ us hl => match us, hl with | [_, _, _], _ => rfl
  have gR := PySem.W.mg_of X G aR
  have bW := (FW).binds (ps := []) fun _ _ _ _ _ _ us hl => match us, hl with | [], _ => rfl
  have gW := PySem.W.mg_of X G aW
  have m_isinstance := PySem.W.mg_none_of X G z_isinstance
  have m_int := PySem.W.mg_none_of X G z_int
  have m_bool := PySem.W.mg_none_of X G z_bool
  have m_str := PySem.W.mg_none_of X G z_str
  have m_len := PySem.W.mg_none_of X G z_len
  have m_sum := PySem.W.mg_none_of X G z_sum
  have m_max := PySem.W.mg_none_of X G z_max
  have m_min := PySem.W.mg_none_of X G z_min
  have m_range := PySem.W.mg_none_of X G z_range
  have m_abs := PySem.W.mg_none_of X G z_abs
  have m_repr := PySem.W.mg_none_of X G z_repr
  have m_list := PySem.W.mg_none_of X G z_list
  have m_tuple := PySem.W.mg_none_of X G z_tuple
  refine ⟨PySem.W.fnOf "law" "law" (defArgs sLaw) (defBody sLaw) (defScope sLaw) .none kVL dcL pmL anL cdL ctL, [], spLaw K, ?_, ?_, ?_, fun s v => .of_eq rfl, ?_, ?_⟩
  · intro p hp
    cases hp
  · intro p hp
    cases hp
  · intro p hp
    cases hp
  · intro H a ns hl hH hS
    exact ⟨a, ns, rfl, hS, fun _ => rfl⟩
  · intro base KB NB TB
    have OV := ok_val (P := l.prog) (w := w) (base := base) FV bV gV
    have OC := ok_cho (P := l.prog) (w := w) (base := base) FT bV gV kV (OV 3)
    have OI := ok_giv (P := l.prog) (w := w) (base := base) FI bV gV kV (OV 3) ⟨OC, gT, kT, bT⟩ m_tuple
    have OB : FnOk l.prog w K mg base CX0 1 fB _ ["_law_script", "_law_k"] (spBeg K) := ok_beg FB m_len m_abs
    have OP : FnOk l.prog w K mg base CX0 1 fP _ ["_law_state", "_law_many"] spPick := ok_pick FP
    have OA : FnOk l.prog w K mg base CX0 1 fA _ ["_law_thing", "_law_least", "_law_most"] spAmg := ok_amg FA m_isinstance m_int m_bool
    have OK := ok_look (P := l.prog) (w := w) (base := base) FK bK gK ⟨OA, gA, kA, bA⟩ ⟨m_isinstance, m_tuple, m_str, m_len, m_sum, m_max⟩ 7
    have OE := ok_exp (P := l.prog) (w := w) (base := base) FE bE gE ⟨OP, gP, kP, bP⟩ m_len m_tuple m_range
    have OO := ok_bod (P := l.prog) (w := w) (base := base) FO bO gO ⟨OP, gP, kP, bP⟩ ⟨(OE 3).mono (by decide), gE, kE, bE⟩ ⟨OK, gK, kK, bK⟩ m_tuple m_range 4
    have OU := ok_lv (P := l.prog) (w := w) (base := base) FU bU gU m_isinstance m_tuple m_list
    have ON := ok_lg (P := l.prog) (w := w) (base := base) FN bN gN ⟨OU 3, gU, kU, bU⟩ 4
    have OD := ok_df (P := l.prog) (w := w) (base := base) FD ⟨OP, gP, kP, bP⟩ m_tuple m_range
    have OR := ok_rt (P := l.prog) (w := w) (base := base) FR ⟨ON, gN, kN, bN⟩ ⟨(OV 4).mono (by decide), gV, kV, bV⟩ ⟨OI.mono (by decide), gI, kI, bI⟩ ⟨(OU 4).mono (by decide), gU, kU, bU⟩ m_tuple m_repr
    have OW := ok_wr (P := l.prog) (w := w) (base := base) FW ⟨(OV 7).mono (by decide), gV, kV, bV⟩ ⟨OI.mono (by decide), gI, kI, bI⟩ m_repr m_int m_range
    exact ok_law FL ⟨⟨OB.mono (by decide), gB, kB, bB⟩, ⟨OP.mono (by decide), gP, kP, bP⟩, ⟨(OE 4).mono (by decide), gE, kE, bE⟩, ⟨OO, gO, kO, bO⟩, ⟨OD.mono (by decide), gD, kD, bD⟩, fng_mono OR (by decide), gR, kR, bR, fng_mono OW (by decide), gW, kW, bW, m_range, m_max, m_min, m_len, m_tuple⟩
end SfE

open PySem PySem.W PyProof.Rows
set_option maxRecDepth 100000 in
set_option maxHeartbeats 0 in
theorem PySem.Challenge.cw_sameface_k10_what_bodies_tell_holds : PySem.Challenge.rw_sameface_k10_what_bodies_tell.Holds := by
  w_on; o_law; k_head; (case hw => w_witness2)
  k_fill
  refine SfG.walk_G (l := PySem.Challenge.rw_sameface_k10_what_bodies_tell) (n := 63) (k := 15) (x := "_law_script") (CX := fun _ => L2.CX0) rfl (by decide) rfl ⟨rfl, by decide, by decide⟩ (fun w h Y => PySem.W.kIn_of Y) ?F (fun _ _ _ _ _ h => h)
  case F =>
    intro w mg fa h KX G hmg T
    refine' SfE.all_mk KX G hmg ?aV ?lV ?hV ?kV ?aT ?lT ?hT ?kT ?aI ?lI ?hI ?kI ?aB ?lB ?hB ?kB ?aP ?lP ?hP ?kP ?aA ?lA ?hA ?kA ?aK ?lK ?hK ?kK ?aE ?lE ?hE ?kE ?aO ?lO ?hO ?kO ?aU ?lU ?hU ?kU ?aN ?lN ?hN ?kN ?aD ?lD ?hD ?kD ?aR ?lR ?hR ?kR ?aW ?lW ?hW ?kW ?aL ?lL ?hL ?kL ?z_isinstance ?z_int ?z_bool ?z_str ?z_len ?z_sum ?z_max ?z_min ?z_range ?z_abs ?z_repr ?z_list ?z_tuple
    (case aV => k_is)
    (case lV => k_is)
    (case hV => k_is)
    (case kV => k_is)
    (case aT => k_is)
    (case lT => k_is)
    (case hT => k_is)
    (case kT => k_is)
    (case aI => k_is)
    (case lI => k_is)
    (case hI => k_is)
    (case kI => k_is)
    (case aB => k_is)
    (case lB => k_is)
    (case hB => k_is)
    (case kB => k_is)
    (case aP => k_is)
    (case lP => k_is)
    (case hP => k_is)
    (case kP => k_is)
    (case aA => k_is)
    (case lA => k_is)
    (case hA => k_is)
    (case kA => k_is)
    (case aK => k_is)
    (case lK => k_is)
    (case hK => k_is)
    (case kK => k_is)
    (case aE => k_is)
    (case lE => k_is)
    (case hE => k_is)
    (case kE => k_is)
    (case aO => k_is)
    (case lO => k_is)
    (case hO => k_is)
    (case kO => k_is)
    (case aU => k_is)
    (case lU => k_is)
    (case hU => k_is)
    (case kU => k_is)
    (case aN => k_is)
    (case lN => k_is)
    (case hN => k_is)
    (case kN => k_is)
    (case aD => k_is)
    (case lD => k_is)
    (case hD => k_is)
    (case kD => k_is)
    (case aR => k_is)
    (case lR => k_is)
    (case hR => k_is)
    (case kR => k_is)
    (case aW => k_is)
    (case lW => k_is)
    (case hW => k_is)
    (case kW => k_is)
    (case aL => k_is)
    (case lL => k_is)
    (case hL => k_is)
    (case kL => k_is)
    (case z_isinstance => k_is)
    (case z_int => k_is)
    (case z_bool => k_is)
    (case z_str => k_is)
    (case z_len => k_is)
    (case z_sum => k_is)
    (case z_max => k_is)
    (case z_min => k_is)
    (case z_range => k_is)
    (case z_abs => k_is)
    (case z_repr => k_is)
    (case z_list => k_is)
    (case z_tuple => k_is)
