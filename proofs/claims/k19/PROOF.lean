import PyProof.Rows.All
import Wide.All
import OpenK.AllK
import Wide.FinOn
import HandS.Words
import HandS.WordsList
import HandS.Defaults
import HandS.List
import PyProof.ReprRoads
import HandS.Ends
import HandS.EndBits
import HandS.ForMost
import HandS.TupMul
import HandS.Walk
import HandS.Wide
import KE.GoesEnum
import KE.KTupSum
import KE.KRevSl
import HandS.Style
import PyProof.ReprLen
import HandS.TupAny
import HandS.Zip
import HandS.TupLe
import HandS.Conv
import HandS.ForDict
import KE.SortData
import HandS.IsInst
import KE.KEqDeep
import HandS.SetFor
import HandS.Strs
import HandS.More
import PyProof.P3In
import HandS.WordsExc
import HandS.ExcIs
import HandS.TryOnly
import HandS.ExcInit
import HandS.ExcField
import HandS.ClsMeth
import KE.KExcIs
import HandS.Sort
import HandS.WordsDict
import PySem.Challenge.RW_botheven_k19_whole_great_webs_of_thick_p
set_option Elab.async false
set_option maxRecDepth 100000
set_option maxHeartbeats 4000000
set_option linter.all false
namespace BV
open PySem PySem.Spec PyProof.Rows L2

/-! ### defs that may write texts of data: the same promise, asked only where nothing is being written -/
def CanRun (P : Program) (w : World) (K : PySem.W.Frag) (mg : Str → Option Value) (base : Heap)
    (CX : CXT) (k : Nat) (f : Addr) (fd : FuncData) (ps : List Str) (sp : Sp) : Prop :=
  ∀ (A : Around) (outer : List Env) (s : Shared) (H : Hp) (args : Args) (us : List Value) (vs : List V) (Q : VK) (E : XK),
    A.guards = some [] → Room k A → Env0 P w K mg base A outer s H → BindsTo s fd args (ps.zip us) →
    Vals vs us → sp vs H Q E →
      codeAny (model P w) A (.call (.ref f) args) (CR CX outer P w H s Q E) s

structure FnG (P : Program) (w : World) (K : PySem.W.Frag) (mg : Str → Option Value) (base : Heap)
    (CX : CXT) (k : Nat) (f : Addr) (fd : FuncData) (ps : List Str) (sp : Sp) : Prop where
  len : ∀ vs H Q E, sp vs H Q E → vs.length = ps.length
  run : CanRun P w K mg base CX k f fd ps sp

section
variable {P : Program} {w : World} {K : PySem.W.Frag} {mg : Str → Option Value} {base : Heap} {CX : CXT}

/-- a def's body keeps its promise, the guards told -/
theorem fn_ofG {k : Nat} {f : Addr} {name qual : Str} {params : Arguments} {body : List Stmt} {scope : Scope}
    {dV kV doc pm cdv ct oc : Value} {an od : Option Addr} {osl : Array (Option Value)} {N ps : List Str} {sp : Sp}
    (lk : K.lookup f = some ⟨oc, od, .func (PySem.W.fnOf name qual params body scope dV kV doc pm an cdv ct), osl⟩)
    (hcd : PySem.W.codeIn K cdv qual = true) (S : FnScope N ps scope)
    (len : ∀ vs H Q E, sp vs H Q E → vs.length = ps.length)
    (hbody : ∀ (A : Around) (outer : List Env) (s : Shared) (H : Hp) (vs : List V) (Q : VK) (E : XK), A.guards = some [] →
      Room k (A.deeper (envOfC qual scope s.heap.objs.size f cdv)) → sp vs H Q E →
      ∃ t, PSs (cxOf CX P w K mg base N qual scope f cdv A outer s H E) body t ∧
        t { nx := fun _ H' => Q .non H', rt := Q } (start N vs) H) :
    FnG P w K mg base CX (k + 1) f (PySem.W.fnOf name qual params body scope dV kV doc pm an cdv ct) ps sp := by
  constructor
  · exact len
  · intro A outer s H args us vs Q E hgd hr e0 hb r hsp
    have hl := len _ _ _ _ hsp
    have bk : ∀ b o, base.get? b = some o → s.heap.get? b = some o := fun b o e => (e0.bs b o e).1
    have KX : K.In s.heap := e0.mod.kin.keeps bk
    have hkind : ∀ y ∈ ps.zip us, scope.names.lookup y.1 = some .local ∨
        (scope.names.lookup y.1 = some .cell ∧
          ((cellsFrom (s.heap.objs.size + 1) scope.names []).lookup y.1).isSome = true) := by
      intro y hy
      obtain ⟨n, v⟩ := y
      cases S.par n (List.of_mem_zip hy).1 with
      | inl q => exact Or.inl q
      | inr q => exact Or.inr ⟨q, PySem.W.cellsFrom_some _ _ _ (.inl q)⟩
    refine codeAny_call_function hr.depth (KX _ _ lk) rfl S.co S.gen rfl
      (PySem.W.codeRec_of KX hcd) (hb _ _ _ _ ?_)
    refine wpAny_newFunctionEnv_cells S.kind hkind fun env he s1 x => ?_
    subst he
    refine ⟨(e0.mod.nolimit.keeps bk).keeps x.toInCall.keep, codeAny_func ?_⟩
    obtain ⟨t, ht, hq⟩ := hbody A outer s H vs Q E hgd (hr.deeper _) hsp
    have I := inv_start (CX := CX) (P := P) (w := w) (K := K) (mg := mg) (base := base) (E := E) S hr.hd e0 hl r x
    refine wpAny_mono (ht.run [] s1 (start N vs) H _ I hq) (fun fl s' hs => ?_) fun e s' hs => hs
    cases fl with
    | ret u =>
      obtain ⟨v, σ', H', J, rv, q⟩ := hs
      exact ⟨v, H', J.os, J.bare, J.base, J.hok, rv, q⟩
    | next =>
      obtain ⟨σ', H', J, q⟩ := hs
      exact ⟨V.non, H', J.os, J.bare, J.base, J.hok, rfl, q⟩
    | brk => exact hs.choose_spec.choose_spec.2.elim
    | cont => exact hs.choose_spec.choose_spec.2.elim

theorem okG {x qual : Str} {st : Stmt} {f : Addr} {fd : FuncData} {N ps : List Str} {k : Nat} {sp : Sp}
    (F : Fun K x qual st f fd) (S : FnScope N ps (defScope st)) (len : ∀ vs H Q E, sp vs H Q E → vs.length = ps.length)
    (hbody : ∀ (cdv : Value) (A : Around) (outer : List Env) (s : Shared) (H : Hp) (vs : List V) (Q : VK) (E : XK),
      A.guards = some [] → Room k (A.deeper (envOfC qual (defScope st) s.heap.objs.size f cdv)) → sp vs H Q E →
      ∃ t, PSs (cxOf CX0 P w K mg base N qual (defScope st) f cdv A outer s H E).nox (defBody st) t ∧
        t { nx := fun _ H' => Q .non H', rt := Q } (start N vs) H) :
    FnG P w K mg base CX0 (k + 1) f fd ps sp := by
  obtain ⟨oc, od, kV, doc, pm, an, cdv, ct, osl, e, lk, hcd⟩ := F.ex
  subst e
  refine fn_ofG lk hcd S len fun A outer s H vs Q E hg hr hsp => ?_
  obtain ⟨t, h, q⟩ := hbody cdv A outer s H vs Q E hg hr hsp
  exact ⟨t, h.nox, q⟩

theorem FnG.of {k : Nat} {f : Addr} {fd : FuncData} {ps : List Str} {sp : Sp} (F : FnOk P w K mg base CX k f fd ps sp) :
    FnG P w K mg base CX k f fd ps sp :=
  ⟨F.len, fun A outer s H args us vs Q E _ hr => F.run A outer s H args us vs Q E hr⟩
end

section
variable {X : Cx} {CX : CXT} {k n : Nat} {f : Addr} {fd : FuncData} {ps ks : List Str} {sp : Sp} {dvs : List V} {ds : List Value}
  {E : XK} {x : Str} {p pos : Pos} {e : Expr} {es : List Expr} {t tk : TA} {kws : List Keyword}
  {g : List Value → List Value → List Value} {gV : List V → List V → List V}

/-- the way out of a callee's run -/
theorem back_of {pins : List (Addr × Obj)} {σ : L2.St} {H : Hp} {s s' : Shared} {Q : VK} {r : Result}
    (hx : Passes CX X E) (I : Inv X pins σ H s) (hq : CR CX X.stack X.prog X.w H s Q E r s') :
    match r with
    | .ok (.ret u) => EP X pins σ Q u s'
    | .ok _ => False
    | .error e => X.xe e s' := by
  cases r with
  | error e => exact hx pins σ H s e s' I hq
  | ok fl =>
    cases fl with
    | ret u => exact I.after hq
    | next => exact hq
    | brk => exact hq
    | cont => exact hq

theorem run_fnG {pins : List (Addr × Obj)} {σ : L2.St} {H : Hp} {s : Shared} {Q : VK} {us : List Value} {vs : List V}
    (F : FnG X.prog X.w X.K X.mg X.base CX k f fd ps sp) (hgd : X.A.guards = some []) (hr : Room k X.A)
    (hb : Binds X.K fd ps ds) (hd : Vals dvs ds) (hx : Passes CX X E)
    (I : Inv X pins σ H s) (r : Vals vs us) (h : sp (vs ++ dvs) H Q E) :
    wpAny (model X.prog X.w) X.A (call (.ref f) us) (EP X pins σ Q) X.xe s := by
  have r2 : Vals (vs ++ dvs) (us ++ ds) := r.append hd
  have hl : (us ++ ds).length = ps.length := by
    rw [← r2.length]
    exact F.len _ _ _ _ h
  have c := F.run X.A X.stack s H ⟨us, []⟩ (us ++ ds) (vs ++ dvs) Q E hgd hr I.env0 (hb s us I.kIn hl) r2 h
  refine wpAny_call (codeAny_mono c fun r s' hq => ?_)
  have b := back_of hx I hq
  cases r with
  | error e => exact b
  | ok fl =>
    cases fl with
    | ret u => exact b
    | next => exact b.elim
    | brk => exact b.elim
    | cont => exact b.elim

theorem pe_callG (F : FnG X.prog X.w X.K X.mg X.base CX k f fd ps sp) (hgd : X.A.guards = some []) (hr : Room k X.A)
    (hg : Gl X x) (hm : X.mg x = some (.ref f)) (hk : PySem.W.keepIn X.K (.ref f) = true)
    (hb : Binds X.K fd ps ds) (hd : Vals dvs ds) (hx : Passes CX X E) (ha : PA X (e :: es) t)
    (hdb : (x == ("__debug__" : Str)) = false := by decide)
    (he : starEach (e :: es) X.env = (false, eval e X.env) :: starEach es X.env := by rfl)
    (hpl : (backTo pos (starEach es X.env)).any (·.1) = false := by rfl) :
    PE X (.Call (.Name x p) (e :: es) [] pos) (tCall sp dvs E t) := by
  constructor
  intro pins s σ H Q I h
  refine wpAny_Call_Name_kw (ld_glob I hg hm ?_ hdb)
  refine PySem.W.callWith_K (h₀ := X.base) I.ok.mod.kin hk ?_ he hpl
  refine thn (ha.run pos pins s σ H _ I h) fun us s1 hh => ?_
  obtain ⟨vs, H1, I1, r, q⟩ := hh
  exact ⟨I1.kIn, run_fnG F hgd hr hb hd hx I1 r q⟩

/-- f(k = v, ..), keywords alone -/
def tCallK0 (m : Nat) (sp : Sp) (gV : List V → List V → List V) (E : XK) (tk : TA) : TE :=
  fun σ H Q => tk σ H fun zs H2 => zs.length = m ∧ sp (gV [] zs) H2 Q E

theorem pe_callK0 (F : FnOk X.prog X.w X.K X.mg X.base CX k f fd ps sp) (hr : Room k X.A)
    (hg : Gl X x) (hm : X.mg x = some (.ref f)) (hk : PySem.W.keepIn X.K (.ref f) = true)
    (hb : KBn X.K fd ps 0 ks g gV) (hx : Passes CX X E) (hkw : PK X kws tk)
    (hall : (backToKw pos (keywordEach kws X.env)).all (·.1.isSome) = true := by rfl)
    (hks : (backToKw pos (keywordEach kws X.env)).filterMap (·.1) = ks := by rfl)
    (hdb : (x == ("__debug__" : Str)) = false := by decide)
    (hpl : ((backTo pos (starEach [] X.env)).any (·.1) || (backToKw pos (keywordEach kws X.env)).any (·.1.isNone)) = false := by rfl) :
    PE X (.Call (.Name x p) [] kws pos) (tCallK0 ks.length sp gV E tk) := by
  constructor
  intro pins s σ H Q I h
  refine wpAny_Call_Name_kw (ld_glob I hg hm ?_ hdb)
  refine PySem.W.callWith_KW0 (h₀ := X.base) I.ok.mod.kin hk hall ?_ hpl
  refine thn (hkw.run pos pins s σ H _ I h) fun ws s2 hh => ?_
  obtain ⟨zs, H2, I2, rz, l2, q2⟩ := hh
  refine ⟨I2.kIn, ?_⟩
  rw [hks]
  exact run_fnN (us := []) (vs := []) F hr hb hx I2 .nil rz rfl l2 q2

/-! ### repr of data -/
def Show (d : PyData) : Prop := d.showable = true ∧ d.hasDict = false ∧ d.depth ≤ 40 ∧ d.shown.length ≤ sizeLine

theorem call_reprD (hgd : X.A.guards = some []) (hu : X.A.units + 64 < cLine) :
    CallR X (.builtin "repr") (fun xs H Q => ∃ (x : V) (d : PyData), xs = [x] ∧ Dp X.K H x d ∧ Show d ∧ Q (.str d.shown) H) := by
  intro pins s σ H xs us Q I r h
  obtain ⟨x, d, rfl, hd, ⟨h1, h2, h3, h4⟩, q⟩ := h
  cases r with
  | cons r0 rr =>
    cases rr
    rename_i v
    obtain ⟨as, rd⟩ := Dp.reads I d x v hd r0
    cases rd with
    | list a b c dd =>
      refine repr_of_reads' (.list a b c dd) h1 (PyData.noDict_hsm h2) hgd (by omega) (fun _ _ e => e) (fun h' u tk hk => ?_) h4
      exact ⟨.str _, H, I.kept (t' := tk) hk, ⟨u, rfl⟩, q⟩
    | tuple a b c dd =>
      refine repr_of_reads' (.tuple a b c dd) h1 (PyData.noDict_hsm h2) hgd (by omega) (fun _ _ e => e) (fun h' u tk hk => ?_) h4
      exact ⟨.str _, H, I.kept (t' := tk) hk, ⟨u, rfl⟩, q⟩
    | int i t =>
      refine PySem.P.repr_of_int (by simpa [PyData.showable] using h1) ⟨.str _, H, I.tok _, ⟨_, rfl⟩, ?_⟩
      simpa only [PyData.shown] using q
    | none =>
      refine PySem.P.repr_of_none ⟨.str _, H, I.tok _, ⟨_, rfl⟩, ?_⟩
      simpa only [PyData.shown] using q
    | bool b =>
      refine PySem.P.repr_of_bool ⟨.str _, H, I.tok _, ⟨_, rfl⟩, ?_⟩
      simpa only [PyData.shown] using q
    | str z t =>
      refine PySem.P.repr_of_str ⟨.str _, H, I.tok _, ⟨_, rfl⟩, ?_⟩ (by simpa only [PyData.shown] using h4)
      simpa only [PyData.shown] using q
    | dict a b c dd ee => simp [PyData.hasDict] at h2
end
end BV

namespace BV
open PySem PySem.Spec PyProof.Rows L2

/-- the heap at the law's entry: the script alone is tracked, unless the module wrote it -/
def entryHp (K : PySem.W.Frag) (a : Addr) (vs : List Value) (ns : List Int) : Hp := fun b =>
  if b = a ∧ K.lookup a = none then some (.frz { cls := .type "list", data := .seq vs.toArray } (.lst (ns.map V.int))) else none

section
variable {P : Program} {w : World} {K : PySem.W.Frag} {mg mb : Str → Option Value} {CX : CXT} {k : Nat} {fa a : Addr} {fd : FuncData}
  {x : Str} {sp : Sp} {s₁ : Shared} {vs : List Value} {ns : List Int}

theorem entry_none {b : Addr} (h : ¬ (b = a ∧ K.lookup a = none)) : entryHp K a vs ns b = none := if_neg h
theorem entry_some (h : K.lookup a = none) : entryHp K a vs ns a =
    some (.frz { cls := .type "list", data := .seq vs.toArray } (.lst (ns.map V.int))) := if_pos ⟨rfl, h⟩
theorem entry_only : Only (entryHp K a vs ns) := fun b => by
  by_cases h : b = a ∧ K.lookup a = none
  · exact .inr ⟨_, _, if_pos h⟩
  · exact .inl (if_neg h)

theorem law_callG (KX : K.In s₁.heap) (hns : s₁.heap.Ns mainGlobals mg) (hb : s₁.heap.Ns builtinsNs mb)
    (hbb : ∀ x : Str, x ≠ "__name__" → mb x = bootBuiltins x) (hlim : s₁.heap.NoLimit) (hg : s₁.gens = #[])
    (ha : s₁.heap.get? a = some { cls := .type "list", data := .seq vs.toArray })
    (hi : IntsAre vs ns) (hl : ns.length ≤ sizeLine) (hr : Room k callerA)
    (F : ∀ base : Heap, K.In base → base.Ns mainGlobals mg → FnG P w K mg base CX k fa fd [x] sp)
    (hbind : ∀ (s : Shared) (u : Value), BindsTo s fd ⟨[u], []⟩ [(x, u)])
    (hsp : ∀ H : Hp, Only H → SqL K H a (ns.map V.int) → sp [.ref a] H (fun v _ => v = .bl true) fun _ _ _ => False)
    (hCX : ∀ H e s', CX [] H s₁ (fun _ _ _ => False) e s' → False) :
    codeAny (model P w) callerA (.call (.ref fa) ⟨[.ref a], []⟩)
      (fun r s' => r = .ok (.ret (.bool true)) ∧ OldK s₁.heap s'.heap ∧ s'.os = s₁.os ∧ AllBare s'.gens) s₁ := by
  have rv := vals_ints hi
  let H := entryHp K a vs ns
  have hO : Only H := entry_only
  have hS : SqL K H a (ns.map V.int) := by
    cases hk : K.lookup a with
    | none => exact .inl (.inr ⟨_, entry_some hk⟩)
    | some o =>
      have e := KX a o hk
      rw [ha] at e
      cases e
      refine .inr ⟨_, vs.toArray, _, hk, rfl, rfl, rfl, ?_, by simpa using rv⟩
      rw [List.size_toArray, hi.length]
      exact hl
  have hok : HOk P w H s₁.heap := by
    intro b u e
    by_cases h : b = a ∧ K.lookup a = none
    · have e2 := (if_pos h).symm.trans e
      cases e2
      obtain ⟨rfl, _⟩ := h
      exact ⟨ha, by rw [List.length_map]; exact hl, vs, _, rv, ha⟩
    · cases (entry_none h).symm.trans e
  have at_a : ∀ b, H b ≠ none → b = a ∧ K.lookup a = none := fun b h => by
    by_cases h2 : b = a ∧ K.lookup a = none
    · exact h2
    · exact absurd (entry_none h2) h
  have away : ∀ {b : Addr} {o : Obj}, s₁.heap.get? b = some o → (b = a → K.lookup a = none → False) → (hidT s₁.heap H).get? b = some o :=
    fun {b o} e n => hidT_get e (entry_none fun z => n z.1 z.2)
  have nsK : ∀ {b : Addr} {m : Str → Option Value}, s₁.heap.Ns b m → (hidT s₁.heap H).Ns b m := by
    intro b m h
    obtain ⟨o, es, ep, e, d, r⟩ := h
    refine ⟨o, es, ep, away e fun z _ => ?_, d, r⟩
    subst z
    rw [ha] at e
    cases e
    cases d
  have hKb : K.In (hidT s₁.heap H) := fun b o e => away (KX b o e) fun z n => by
    subst z
    rw [n] at e
    cases e
  obtain ⟨mc, l1, l2⟩ := hlim
  have hM : Mod K mg (hidT s₁.heap H) := ⟨hKb, nsK hns, ⟨mb, nsK hb, hbb⟩, ⟨mc, nsK l1, l2⟩⟩
  have e0 : Env0 P w K mg (hidT s₁.heap H) callerA [] s₁ H :=
    { frames := rfl, mod := hM, bs := fun b o e => of_hidT e, bsz := Nat.le_of_eq (hidT_size _ _), funs := trivial,
      frf := fun b hb => absurd (show b ∈ ([] : List Addr) from hb) (by simp), hok := hok, bare := .of_eq hg }
  have go := (F _ hKb (nsK hns)).run callerA [] s₁ H ⟨[.ref a], []⟩ [.ref a] [.ref a] _ _ rfl hr e0
    (hbind s₁ (.ref a)) (.cons rfl .nil) (hsp H hO hS)
  refine codeAny_mono go fun r s' h => ?_
  cases r with
  | error e => exact (hCX H e s' h).elim
  | ok fl =>
    cases fl with
    | next => exact h.elim
    | brk => exact h.elim
    | cont => exact h.elim
    | ret u =>
      obtain ⟨v, H', os, bare, un, hok', r', q⟩ := h
      have q' : v = .bl true := q
      subst q'
      obtain rfl : u = Value.bool true := r'
      refine ⟨rfl, OldK.of_keep fun b o e => ?_, os, bare⟩
      cases hq : H b with
      | none => exact un.keep b o e hq (fun z => absurd (show b ∈ ([] : List Addr) from z) (by simp)) (by simp)
      | some u =>
        rcases hO b with z | ⟨ob, xs, z⟩
        · rw [hq] at z
          cases z
        · obtain ⟨e1, _⟩ := hok b _ z
          obtain ⟨e2, _⟩ := hok' b _ (un.frzs b ob _ z)
          rw [e] at e1
          cases e1
          exact e2
end

theorem walk_ofG {l : PySem.W.OpenLaw} {n k : Nat} {q : Program} {loose : List Str} {XP : (Str → Option Value) → Heap → Prop}
    {YP : World → Heap → Prop} {d : DefRec} {K : Params → PySem.W.Frag} {CX : CXT} {sp : PySem.W.Frag → Sp} {x : Str}
    (hn : l.most = some n) (hn2 : n ≤ sizeLine) (hdf : d.params.defaults = []) (hr : Room k callerA)
    (hY : ∀ (w : World) (h : Heap), YP w h → (K w.params).In h)
    (F : ∀ (w : World) (mg : Str → Option Value) (fa : Addr) (h : Heap), (K w.params).In h → h.Ns mainGlobals mg → mg d.name = some (.ref fa) →
      ∃ fd : FuncData, (∀ (s : Shared) (u : Value), BindsTo s fd ⟨[u], []⟩ [(x, u)]) ∧
        ∀ base : Heap, (K w.params).In base → base.Ns mainGlobals mg →
          FnG l.prog w (K w.params) mg base CX k fa fd [x] (sp (K w.params)))
    (hsp : ∀ (K : PySem.W.Frag) (H : Hp) (a : Addr) (ns : List Int), ns.length ≤ n → (∀ z ∈ ns, Builtin.Int.intBits z ≤ 1048576) →
      Only H → SqL K H a (ns.map V.int) → sp K [.ref a] H (fun v _ => v = .bl true) fun _ _ _ => False)
    (hCX : ∀ (H : Hp) (s : Shared) (e : Value) (s' : Shared), CX [] H s (fun _ _ _ => False) e s' → False) :
    PySem.W.WalkO q loose XP YP l.row.toRowW d [] (fun f vs => PySem.call f vs) := by
  refine Att.attach_callB hn hdf fun w s₀ s₁ mg mb fa o pm cd doc a vs ns G Y ho hd hcd hmg hobj hints hlen hbits hg => ?_
  have KX := hY w _ Y
  obtain ⟨fd, hb, hF⟩ := F w mg fa _ KX G.T.g hmg
  refine law_callG KX G.T.g G.T.b G.T.builtins G.T.nolimit hg hobj hints (Nat.le_trans hlen hn2) hr hF hb ?_ ?_
  · exact fun H hO hS => hsp (K w.params) H a ns hlen hbits hO hS
  · exact fun H e s' => hCX H s₁ e s'
end BV

namespace BV
open PySem PySem.Spec PyProof.Rows L2
open AutoSeq1 (wpAny_loadPart')

/-! ### enumerate(tuple) -/
theorem meets_enumT (l : Addr) (items : Array Value) (n : Nat) (dct : Option Addr) (sl : Array (Option Value)) :
    Meets (Builtin.«enumerate.__new__» ⟨[.type "enumerate", .ref l], []⟩)
      (fun _ R s => s.heap.get? l = some { cls := .type "tuple", dict := dct, data := .seq items n, slots := sl } ∧
        R (.ok (.ret (.ref (s.heap.push { cls := .type "tuple_iterator", data := .fields #[.ref l, .int 0 0] }).objs.size)))
          { s with heap := ((s.heap.push { cls := .type "tuple_iterator", data := .fields #[.ref l, .int 0 0] }).push
              ({ cls := .type "enumerate", data := .fields #[.none, .bool false, .ref s.heap.objs.size, rawInt 0, .none, .none] } : Obj)) }) := by
  refine .of_wp fun prog w A R s h => ?_
  obtain ⟨hp, g, d, tk, os⟩ := s
  obtain ⟨hl, h⟩ := h
  have hsub := sub_enumerate
  have hL : Heap.IsTuple (Shared.heap ⟨hp, g, d, tk, os⟩) l items := ⟨_, hl, rfl, n, rfl⟩
  wp_walk using wpAny_loadPart' hl
  refine wpAny_stack_any fun st => wpAny_pure ?_
  split
  · rename_i c _ _ _ _ _
    cases (c == Value.type "enumerate") <;>
    · wp_walk using wpAny_loadPart' hl, wpAny_pyIter_tuple hL
      exact ⟨_, rfl, h⟩
  · wp_walk using wpAny_loadPart' hl, wpAny_pyIter_tuple hL
    exact ⟨_, rfl, h⟩

theorem call_enumT {prog : Program} {w : World} {A : Around} {E : Value → Shared → Prop} {s : Shared} {l : Addr} {items : Array Value}
    {Q : Value → Shared → Prop} (hL : s.heap.IsTuple l items)
    (h : ∀ h', IsEnum h' (s.heap.objs.size + 1) s.heap.objs.size 0 .none → h'.IsTupleIter s.heap.objs.size l 0 →
      (∀ b o, s.heap.get? b = some o → h'.get? b = some o) → Q (.ref (s.heap.objs.size + 1)) { s with heap := h' }) :
    wpAny (model prog w) A (call (.type "enumerate") [.ref l]) Q E s := by
  obtain ⟨⟨c, dct, dt, sl⟩, hl, hc, n, hd⟩ := hL
  obtain rfl : c = .type "tuple" := hc
  obtain rfl : dt = .seq items n := hd
  refine callType_new F.called_enumerate (by decide) (F.typeCall_enumerate_1 _) (F.newCall_enumerate_1 _)
    (fun obj => F.args_object_init_2 obj _) F.entry_enumerate_new (meets_enumT l items n dct sl) ⟨hl, ?_⟩
  have hz : (s.heap.push { cls := .type "tuple_iterator", data := .fields #[.ref l, .int 0 0] }).objs.size = s.heap.objs.size + 1 := Heap.size_push ..
  show _ ∧ _
  rw [hz]
  have he : IsEnum ((s.heap.push { cls := .type "tuple_iterator", data := .fields #[.ref l, .int 0 0] }).push
      { cls := .type "enumerate", data := .fields #[.none, .bool false, .ref s.heap.objs.size, rawInt 0, .none, .none] })
      (s.heap.objs.size + 1) s.heap.objs.size 0 .none := by
    have q := Heap.get?_push_size (s.heap.push { cls := .type "tuple_iterator", data := .fields #[.ref l, .int 0 0] })
      (o := { cls := .type "enumerate", data := .fields #[.none, .bool false, .ref s.heap.objs.size, rawInt 0, .none, .none] }) rfl
    rw [hz] at q
    exact q
  refine ⟨⟨_, he, rfl⟩, h _ he ⟨_, Heap.get?_push_of_some _ (Heap.get?_push_size _ rfl), rfl, rfl⟩ ?_⟩
  exact fun b o x => Heap.get?_push_of_some _ (Heap.get?_push_of_some _ x)

/-- the tuple at a, each item in a new pair -/
def ItE (K : PySem.W.Frag) (a : Addr) (xs : List V) : It :=
  ⟨fun i H => SqT K H a xs ∧ i < xs.length,
   fun i H v H' => ∃ T x, v = .ref T ∧ H T = none ∧ H' = upd H T (.tup [.int (i : Nat), x]) ∧ xs[i]? = some x,
   fun i H => SqT K H a xs ∧ i = xs.length⟩

theorem turn_enumT {P : Program} {w : World} {K : PySem.W.Frag} {elts : List Expr} {kk : Nat} {tpos : Pos} (a e it : Addr) (xs : List V)
    (hae : a ≠ it) :
    Turn P w K (.Tuple elts kk tpos) (ItE K a xs) [e, it] e
      (fun i h => (∃ old, IsEnum h e it ((i : Nat) : Int) old) ∧ h.IsTupleIter it a i ∧ e ≠ it ∧ e ≠ a) where
  mem := by simp
  obj := by
    intro i h st b hb
    obtain ⟨⟨old, he⟩, ⟨o, ho, hc, hd⟩, _⟩ := st
    rcases (show b = e ∨ b = it by simpa using hb) with rfl | rfl
    · exact ⟨_, he, fun v q => nomatch q⟩
    · exact ⟨o, ho, fun v q => by rw [hd] at q; cases q⟩
  keep := by
    intro i h h' st k
    obtain ⟨⟨old, he⟩, hi, h1, h2⟩ := st
    exact ⟨⟨old, k e (by simp) _ he⟩, hi.at fun o q => k it (by simp) o q, h1, h2⟩
  item := by
    intro X hP hw hK hc i pins s σ H E I hf st hg
    subst hP hw hK
    obtain ⟨⟨old, he⟩, hit, hne, hea⟩ := st
    obtain ⟨hq, hlt⟩ := hg
    obtain ⟨its, rv, p, hz⟩ := I.tuple hq
    have htu : s.heap.IsTuple a its.toArray := p
    have hlen := rv.length
    have hel : e < s.heap.objs.size := Heap.lt_size he
    have hil : it < s.heap.objs.size := by
      obtain ⟨_, q, _⟩ := hit
      exact Heap.lt_size q
    have D := Draws.tuple (prog := X.prog) (w := X.w) (A := X.A.in1) (I.ok.hd hc) it a hae its.toArray
    have hlt2 : i < its.toArray.size := by rw [List.size_toArray]; omega
    refine wpAny_pyNext_enum_itemD D he ⟨hit, htu⟩ hlt2 hne (by simp [hne, hea]) ?_
    intro u h' tk hu ho hit' hT hsz hk
    refine ⟨_, rfl, wpAny_letOwnedTupleGo_enum (s := { s with heap := h', toks := tk + 1 }) ho fun h'' he' sb => ?_⟩
    have hx : xs[i]? = some xs[i] := by simp [hlt]
    obtain ⟨u', hu', ru⟩ := rv.get hx
    have eu : u' = u := by
      have := hu
      simp only [List.getElem?_toArray] at this
      rw [hu'] at this
      exact Option.some.inj this
    subst eu
    have hT2 : h''.get? s.heap.objs.size = some { cls := .type "tuple", data := .seq #[.int i tk, u'] } := (sb.2 _ (Nat.ne_of_gt hel)).trans hT
    have new : ObjOk X.prog X.w (upd H s.heap.objs.size (.tup [.int (i : Nat), xs[i]])) h'' s.heap.objs.size (.tup [.int (i : Nat), xs[i]]) :=
      ⟨by show 2 ≤ sizeLine; decide, [.int i tk, u'], .cons ⟨_, rfl⟩ (.cons ru .nil), ⟨_, hT2, rfl, _, rfl⟩⟩
    have kk : ∀ b o, b ∉ [e, it] → s.heap.get? b = some o → h''.get? b = some o := by
      intro b ob hb q
      have b1 : b ≠ e := fun z => hb (by simp [z])
      have b2 : b ≠ it := fun z => hb (by simp [z])
      exact (sb.2 b b1).trans (hk b ob b1 b2 q)
    have I1 : Inv X pins σ (upd H s.heap.objs.size (.tup [.int (i : Nat), xs[i]])) { s with heap := h'', toks := tk + 1 } :=
      I.turnedNew (ch := [e, it]) kk hf (Nat.le_refl _) new
    refine ⟨.ref s.heap.objs.size, _, I1, rfl, ⟨_, xs[i], rfl, I.hok.fresh (Nat.le_refl _), rfl, hx⟩,
      ⟨⟨u', ?_⟩, hit'.1.at fun o q => (sb.2 it (Ne.symm hne)).trans q, hne, hea⟩, fun b hb => ?_⟩
    · have e1 : ((i + 1 : Nat) : Int) = (i : Int) + 1 := by omega
      rw [e1]
      exact he'
    · have hb' : b < s.heap.objs.size := by
        rcases (show b = e ∨ b = it by simpa using hb) with rfl | rfl
        · exact hel
        · exact hil
      rw [upd_ne (Nat.ne_of_lt hb')]
      exact (hf b hb).1
  done := by
    intro X hP hw hK hc i pins s σ H E I hf st hg
    subst hP hw hK
    obtain ⟨⟨old, he⟩, hit, hne, hea⟩ := st
    obtain ⟨hq, hlt⟩ := hg
    obtain ⟨its, rv, p, hz⟩ := I.tuple hq
    have htu : s.heap.IsTuple a its.toArray := p
    have hlen := rv.length
    obtain ⟨f0, f1, f2, f3, f4, f5⟩ := hf it (by simp)
    have D := Draws.tuple (prog := X.prog) (w := X.w) (A := X.A.in1) (I.ok.hd hc) it a hae its.toArray
    have e3 : its.toArray.size = i := by rw [List.size_toArray]; omega
    rw [e3] at D
    refine wpAny_pyNext_enum_endD D he ⟨hit, htu⟩ fun h' eb => ⟨rfl, ?_⟩
    exact I.turned (t' := s.toks) (fun b o hb q => eb b o hb q) f0 f1 f3 f4 f5
  self := fun A i s Q E st h => let ⟨⟨_, he⟩, _⟩ := st; wpAny_pyIter_enum he h

def iEnumT (K : PySem.W.Frag) (ta : TA) : TI := fun σ H R => ta σ H fun vs H1 => ∃ a xs, vs = [.ref a] ∧ SqT K H1 a xs ∧ R (ItE K a xs) H1
theorem pi_enumT {X : Cx} {e : Expr} {ta : TA} {p pos tpos : Pos} {elts : List Expr} {kk : Nat} (hg : Gl X "enumerate") (hm : X.mg "enumerate" = none)
    (ha : PA X [e] ta) (hs : starEach [e] X.env = [(false, eval e X.env)] := by rfl) :
    PI X (.Tuple elts kk tpos) (.Call (.Name "enumerate" p) [e] [] pos) (iEnumT X.K ta) := by
  constructor
  intro pins s σ H R I h
  refine Call_ (ld_blt I hg hm boot_enumerate (PyProof.Rows.callWith_type1 (thn (ha.run pos pins s σ H _ I h) fun us s1 hh => ?_) hs rfl))
  obtain ⟨vs, H1, I1, r1, a, xs, ex, hq, q⟩ := hh
  subst ex
  cases r1 with
  | cons r rr =>
    cases rr
    cases r
    obtain ⟨its, rv, p', hz⟩ := I1.tuple hq
    have htu : s1.heap.IsTuple a its.toArray := p'
    have hlt : a < s1.heap.objs.size := by
      obtain ⟨o, ho, _⟩ := htu
      exact Heap.lt_size ho
    refine call_enumT htu fun h' he hit hk => wpAny_pyIter_enum he ?_
    have I2 : Inv X pins σ H1 { s1 with heap := h' } := I1.kept (t' := s1.toks) hk
    refine ⟨s1.heap.objs.size + 1, [s1.heap.objs.size + 1, s1.heap.objs.size], _, _, H1, rfl, I2,
      turn_enumT a (s1.heap.objs.size + 1) s1.heap.objs.size xs (Nat.ne_of_lt hlt),
      ⟨⟨.none, he⟩, hit, Nat.succ_ne_self _, Nat.ne_of_gt (Nat.lt_succ_of_lt hlt)⟩, fun b hb => ?_, q⟩
    have hle : s1.heap.objs.size ≤ b := by
      rcases (show b = s1.heap.objs.size + 1 ∨ b = s1.heap.objs.size by simpa using hb) with z | z
      · rw [z]; exact Nat.le_add_right _ _
      · rw [z]; exact Nat.le_refl _
    exact I1.fpOk hle (I1.hok.fresh hle)
theorem walk_enumT {K : PySem.W.Frag} {a : Addr} {xs : List V} :
    Walk (ItE K a xs) xs.length (fun H => SqT K H a xs) (YPair (fun i => some (.int (i : Nat))) (fun i => xs[i]?)) := by
  refine ⟨fun i H hi q => ⟨q, hi⟩, fun H q => ⟨q, rfl⟩, fun i H v H' _ q y => ?_⟩
  obtain ⟨T, x, h1, h2, h3, h4⟩ := y
  exact ⟨T, .int (i : Nat), x, h1, h2, h3, rfl, h4⟩

/-! ### sum of a tuple of ints -/
theorem cr_sumT {X : Cx} (hc : X.calm = true) : CallR X (.builtin "sum")
    (fun vs H Q => ∃ (a : Addr) (ns : List Int), vs = [V.ref a] ∧ SqT X.K H a (ns.map V.int) ∧ Q (.int ns.sum) H) := by
  intro pins s σ H vs us Q I r h
  obtain ⟨a, ns, rfl, hs, q⟩ := h
  obtain ⟨its, rv, hl, _⟩ := I.tuple hs
  rw [Vals.ref1 r]
  have hi := rv.ints
  obtain ⟨xs, e⟩ := hi.allInts.items
  have hn : numsOf (intItems xs).toList = ns := by rw [← e]; exact hi.numsOf
  rw [nums_intItems] at hn
  have hl2 : s.heap.IsTuple a its.toArray := hl
  rw [e] at hl2
  refine PySem.W.ktm_sumG (I.ok.hd hc) hl2 fun h' tk t' hk => ?_
  rw [preSum_eq, List.take_of_length_le (by simp), hn]
  exact ⟨.int _, H, I.kept hk, ⟨_, rfl⟩, q⟩
end BV

namespace BV
open PySem PySem.Spec PyProof.Rows L2

/-! ### xs[i] of a list, by values, for xs[i] op= e -/
def rGetL (K : PySem.W.Frag) : V → V → Hp → VK → Prop := fun x y H Q => ∃ p xs j z,
  x = .ref p ∧ y = .int ((j : Nat) : Int) ∧ SqL K H p xs ∧ xs[j]? = some z ∧ Q z H
theorem get_list {X : Cx} : PGet X (rGetL X.K) := by
  intro pins s σ H x y v u Q I rx ry h
  obtain ⟨p, xs, j, z, rfl, rfl, hq, he, q⟩ := h
  cases rx
  obtain ⟨t, rfl⟩ := ry
  obtain ⟨its, r, pl, hz⟩ := I.list hq
  obtain ⟨w, ew, rw'⟩ := r.get he
  have hl := r.length
  have hn := line63
  have hj : j < xs.length := (List.getElem?_eq_some_iff.mp he).1
  refine wpAny_getItem_list pl.isList (by omega) (by omega) (by simpa using ew) ?_
  exact ⟨z, H, I, rw', q⟩

/-! ### t[::-1] of a tuple -/
theorem applied_rev {prog : Program} {w : World} {A : Around} {E : Value → Shared → Prop} {s : Shared} {sl : Addr} {vs : Value} {n : Nat}
    {Q : Int × Int × Nat → Shared → Prop} (hs : s.heap.IsSliceOf sl .none .none vs) (ps : IsPart vs (some (-1)))
    (h : Q ((n : Int) - 1, -1, n) s) : wpAny (model prog w) A (Builtin.Slice.sliceApplied (.ref sl) (pure (n : Int))) Q E s := by
  obtain ⟨os, hos, hcs, hds⟩ := id hs
  unfold Builtin.Slice.sliceApplied Builtin.Slice.sliceFields
  refine wpAny_bind (wpAny_bind (wpAny_field hos hds (x := .none) rfl ?_))
  refine wpAny_bind (wpAny_field hos hds (x := .none) rfl ?_)
  refine wpAny_bind (wpAny_field hos hds (x := vs) rfl (wpAny_pure ?_))
  refine wpAny_bind (HT.slicePart_ ps ?_)
  show wpAny _ _ (if ((-1 : Int) == 0) = true then _ else _) _ _ s
  rw [if_neg (by decide)]
  refine wpAny_bind (HT.slicePart_ .none (wpAny_bind (HT.slicePart_ .none (wpAny_bind (wpAny_pure ?_)))))
  have e1 : Builtin.Slice.sliceAdjust none none (-1) (n : Int) = ((n : Int) - 1, -1) := by
    unfold Builtin.Slice.sliceAdjust
    simp
  have e2 : Builtin.Slice.slicePlaces ((n : Int) - 1) (-1) (-1) = n := by
    unfold Builtin.Slice.slicePlaces
    simp
    try omega
  show wpAny _ _ (match Builtin.Slice.sliceAdjust none none (-1) (n : Int) with
    | (lo, hi) => pure (lo, (-1 : Int), Builtin.Slice.slicePlaces lo hi (-1))) _ _ s
  rw [e1]
  show wpAny _ _ (pure ((n : Int) - 1, (-1 : Int), Builtin.Slice.slicePlaces ((n : Int) - 1) (-1) (-1))) _ _ s
  rw [e2]
  exact wpAny_pure h

theorem getItem_rev {prog : Program} {w : World} {A : Around} {E : Value → Shared → Prop} {s : Shared} {t sl : Addr} {items : Array Value} {vs : Value}
    {Q : Value → Shared → Prop} (ht : IsTup s.heap t items) (hs : s.heap.IsSliceOf sl .none .none vs) (ps : IsPart vs (some (-1)))
    (h : Q (.ref s.heap.objs.size) { s with heap := s.heap.push { cls := .type "tuple", data := .seq items.toList.reverse.toArray } })
    (hsz : items.size ≤ sizeLine) : wpAny (model prog w) A (getItem (.ref t) (.ref sl)) Q E s := by
  have hsize : sizeOk (.seq items.toList.reverse.toArray) := by
    show items.toList.reverse.toArray.size ≤ sizeLine
    rw [List.size_toArray, List.length_reverse, Array.length_toList]
    exact hsz
  obtain ⟨os, hos, hcs, hds⟩ := id hs
  have hTs : s.TypeIs (.ref sl) "slice" := ⟨os, hos, hcs⟩
  unfold getItem
  try with_reducible refine wpAny_holding ?_
  first | refine wpAny_bind (wpAny_pure ?_) | skip
  refine wpAny_bind (wpAny_sequenceKey ht.typeIs (by decide) ?_)
  refine wpAny_bind (wpAny_callSpecial?_slot (name := Str.ofString "__getitem__") ht.typeIs PyProof.Rows.slot_tuple_getitem ?_)
  refine wpAny_call_entry PyProof.Rows.slot_tuple_getitem ht.typeIs entry_tuple_getitem ?_ (args_tuple_getitem _ _)
  show wpAny _ _ (Builtin.Tuple.tupleItemsOf (.ref t) >>= _) _ _ s
  refine wpAny_bind (tupleItemsOf_ ht ?_)
  refine wpAny_bind (wpAny_typeOf hTs ?_)
  rw [if_pos (by decide)]
  refine wpAny_bind (applied_rev hs ps ?_)
  have hno : ¬ ((((items.size : Int) - 1) == 0 && (-1 : Int) == 1 && items.size == items.size) = true) := by
    intro q
    rw [Bool.and_eq_true, Bool.and_eq_true] at q
    exact absurd (eq_of_beq q.1.2) (by decide)
  have pick : ((List.range items.size).filterMap fun (k : Nat) => items[(((items.size : Int) - 1) + (k : Int) * (-1)).toNat]?) = items.toList.reverse := by
    have e1 : (fun (k : Nat) => items[(((items.size : Int) - 1) + (k : Int) * (-1)).toNat]?) = fun k => (fun j => items[j]?) ((items.size - 1) - k) := by
      funext k
      have : (((items.size : Int) - 1) + (k : Int) * (-1)).toNat = (items.size - 1) - k := by omega
      rw [this]
    rw [e1]
    have e2 := PySem.W.krv_all items
    have e3 := PySem.W.krv_range items.size
    have e4 : (List.range items.size).filterMap (fun k => (fun j => items[j]?) ((items.size - 1) - k)) =
        ((List.range items.size).map fun k => items.size - 1 - k).filterMap (fun j => items[j]?) := by
      rw [List.filterMap_map]
      rfl
    rw [e4, e3, List.filterMap_reverse, e2]
  show wpAny _ _ (if (((items.size : Int) - 1) == 0 && (-1 : Int) == 1 && items.size == items.size) = true then _ else _) _ _ s
  rw [if_neg hno, pick]
  first
    | exact wpAny_bind (m := Builtin.Tuple.tupleExact _) (wpAny_newObj_type (wpAny_pure ⟨_, rfl, wpAny_pure h⟩) hsize)
    | exact wpAny_bind (m := Builtin.Tuple.tupleExact _) (wpAny_newObj_type (wpAny_bind (wpAny_pure (wpAny_pure ⟨_, rfl, wpAny_pure h⟩))) hsize)
    | exact wpAny_bind (wpAny_bind (m := Builtin.Tuple.tupleExact _) (wpAny_newObj_type (wpAny_pure (wpAny_pure ⟨_, rfl, wpAny_pure h⟩)) hsize))
    | exact wpAny_bind (wpAny_bind (m := Builtin.Tuple.tupleExact _) (wpAny_newObj_type (wpAny_pure ⟨_, rfl, wpAny_pure h⟩) hsize))

/-- t[::-1] -/
def tRevT (K : PySem.W.Frag) (te : TE) : TE := fun σ H Q => te σ H fun x H1 => ∃ a xs, x = .ref a ∧ SqT K H1 a xs ∧
  ∀ p, H1 p = none → Q (.ref p) (upd H1 p (.tup xs.reverse))
theorem pe_revT {X : Cx} {e : Expr} {te : TE} {k : Nat} {p1 p2 p3 pos : Pos} (he : PE X e te) :
    PE X (.Subscript e (.Slice none none (some (.UnaryOp .USub (.Constant (.int 1) k p1) p2)) p3) pos) (tRevT X.K te) := by
  constructor
  intro pins s σ H Q I h
  refine Subscript_ (thn (he.run pins s σ H _ I h) fun v s1 hh => ?_)
  obtain ⟨x, H1, I1, r1, a, xs, ex, hx, q⟩ := hh
  subst ex
  cases r1
  have hst : PO X (some (.UnaryOp .USub (.Constant (.int 1) k p1) p2)) (tPart (tUn (rU fun i => .int (-i)) (tC (.int 1)))) :=
    po_some (pe_un un_neg pe_int)
  refine wpAny_Slice ?_
  rw [evalPart_none]
  refine wpAny_pure (wpAny_pure ?_)
  refine thn (hst.run pins s1 σ H1 (fun o H4 => o = some (-1) ∧ H4 = H1) I1 ⟨1, rfl, -1, rfl, rfl, rfl⟩) fun vs s4 h4 => ?_
  obtain ⟨o, H4, I4, ps, eo, e4⟩ := h4
  subst eo e4
  have I5 : Inv X pins σ H4 { s4 with heap := s4.heap.push { cls := .type "slice", data := .fields #[.none, .none, vs] } } :=
    I4.kept (t' := s4.toks) fun b ob q => Heap.get?_push_of_some _ q
  obtain ⟨its, r, ht, hz⟩ := I5.tuple hx
  have hlen := r.length
  refine tail_any (T := "tuple") (ops := [.ref a, .ref s4.heap.objs.size]) ht.typeIs (PyProof.Rows.slot_tuple_getitem.lookup) ?_ (by with_unfolding_all rfl)
  refine getItem_rev ht (Heap.IsSliceOf.new _ .none .none vs) ps ?_ (by rw [List.size_toArray]; omega)
  refine ⟨.ref _, _, I5.laid (t' := s4.toks) (o := .tup xs.reverse) (fun b ob q => Heap.get?_push_of_some _ q) (Nat.le_refl _) ?_, rfl, q _ (I5.hok.fresh (Nat.le_refl _))⟩
  exact ⟨by rw [List.length_reverse]; exact hz, _, r.reverse, IsTup.new _ _⟩
end BV

namespace BV
open PySem L2

/-! ### a def of the text, by its name -/
structure Df (K : PySem.W.Frag) (mg : Str → Option Value) (x : String) (st : Stmt) (ps : List Str) (f : Addr) (fd : FuncData) : Prop where
  fn : Fun K (Str.ofString x) (Str.ofString x) st f fd
  ad : mg (Str.ofString x) = some (.ref f)
  bd : L2.Binds K fd ps []

/-- the built-in names that the text uses are not its own -/
structure Bl (mg : Str → Option Value) : Prop where
  int : mg "int" = none
  abs : mg "abs" = none
  len : mg "len" = none
  range : mg "range" = none
  enumerate : mg "enumerate" = none
  tuple : mg "tuple" = none
  min : mg "min" = none
  max : mg "max" = none
  sum : mg "sum" = none
  repr : mg "repr" = none

/-! ### heaps -/
theorem same_new {H : Hp} {p : Addr} {o : HO} (h : H p = none) : Same H (upd H p o) := fun b x e => by
  rw [upd_ne (ne_of_none e h)]
  exact e
/-- all but b and g as it was -/
def Kp (b g : Addr) (H H' : Hp) : Prop := ∀ a o, H a = some o → a ≠ b → a ≠ g → H' a = some o
theorem Kp.refl {b g : Addr} (H : Hp) : Kp b g H H := fun _ _ h _ _ => h
theorem Kp.trans {b g : Addr} {H H1 H2 : Hp} (x : Kp b g H H1) (y : Kp b g H1 H2) : Kp b g H H2 :=
  fun a o h n1 n2 => y a o (x a o h n1 n2) n1 n2
theorem Kp.same {b g : Addr} {H H' : Hp} (x : Same H H') : Kp b g H H' := fun a o h _ _ => x a o h
theorem Kp.setb {b g : Addr} {H : Hp} {o : HO} : Kp b g H (upd H b o) := fun a x h n _ => by
  rw [upd_ne n]
  exact h
theorem Kp.setg {b g : Addr} {H : Hp} {o : HO} : Kp b g H (upd H g o) := fun a x h _ n => by
  rw [upd_ne n]
  exact h
theorem Kp.new {b g p : Addr} {H : Hp} {o : HO} (h : H p = none) : Kp b g H (upd H p o) := Kp.same (same_new h)

/-! ### comprehensions that change nothing -/
def era (H : Hp) (D : Addr) : Hp := fun a => if a = D then none else H a
theorem era_at {H : Hp} {D : Addr} : era H D D = none := if_pos rfl
theorem era_ne {H : Hp} {D a : Addr} (h : a ≠ D) : era H D a = H a := if_neg h
theorem era_back {H : Hp} {D : Addr} : Same (era H D) H := fun a o e => by
  by_cases h : a = D
  · subst h
    rw [era_at] at e
    cases e
  · rw [era_ne h] at e
    exact e
theorem era_upd {H : Hp} {D : Addr} {o : HO} : era (upd H D o) D = era H D := by
  funext a
  by_cases h : a = D
  · subst h
    rw [era_at, era_at]
  · rw [era_ne h, era_ne h, upd_ne h]
theorem era_same {H H' : Hp} {D : Addr} (s : Same H H') : Same (era H D) (era H' D) := fun a o e => by
  by_cases h : a = D
  · subst h
    rw [era_at] at e
    cases e
  · rw [era_ne h] at e ⊢
    exact s _ _ e
theorem era_none {H : Hp} {D : Addr} (h : H D = none) : era H D = H := by
  funext a
  by_cases q : a = D
  · subst q
    rw [era_at, h]
  · exact era_ne q

/-- what stands between two turns: the list at D, all else an extension of H1, and R of the list over the heap without D -/
def LcI (H1 : Hp) (D : Addr) (R : Nat → List V → Hp → Prop) (i : Nat) (H : Hp) : Prop :=
  ∃ acc, H D = some (.lst acc) ∧ Same H1 (era H D) ∧ R i acc (era H D)
theorem lc_add {H1 H H4 : Hp} {D : Addr} {R : Nat → List V → Hp → Prop} {i : Nat} {acc : List V} {y : V} (ha : H D = some (.lst acc))
    (e : Same H1 (era H D)) (s : Same H H4) (hl : acc.length < 100000) (r : R i (acc ++ [y]) (era H4 D)) :
    ∃ acc, H4 D = some (.lst acc) ∧ acc.length < sizeLine ∧ LcI H1 D R i (upd H4 D (.lst (acc ++ [y]))) := by
  refine ⟨acc, s _ _ ha, Nat.lt_of_lt_of_le hl (by decide), acc ++ [y], upd_same, ?_, ?_⟩
  · rw [era_upd]
    exact Same.trans e (era_same s)
  · rw [era_upd]
    exact r
theorem lc_skip {H1 H H3 : Hp} {D : Addr} {R : Nat → List V → Hp → Prop} {i : Nat} {acc : List V} (ha : H D = some (.lst acc))
    (e : Same H1 (era H D)) (s : Same H H3) (r : R i acc (era H3 D)) : LcI H1 D R i H3 :=
  ⟨acc, s _ _ ha, Same.trans e (era_same s), r⟩
theorem lc_run {J : It} {n : Nat} {G : Hp → Prop} {Y : Nat → Hp → V → Hp → Prop} (w : Walk J n G Y) {g : TG} {tt : TT} {te : TE} {vs : List Nat}
    {σ : L2.St} {H1 : Hp} {D : Addr} {Qd : Hp → Prop} (hD : H1 D = none) (R : Nat → List V → Hp → Prop)
    (hG : ∀ H, Same H1 H → G H) (h0 : R 0 [] H1)
    (hs : ∀ i x acc H H', i < n → H D = some (.lst acc) → Same H1 (era H D) → Same H1 H → R i acc (era H D) → Y i H x H' →
      g x (wipe σ vs) H' fun σ2 H2 => wipe σ2 vs = wipe σ vs ∧ tt σ2 H2 fun b H3 =>
        if b = true then te σ2 H3 fun y H4 => ∃ acc, H4 D = some (.lst acc) ∧ acc.length < sizeLine ∧ LcI H1 D R (i + 1) (upd H4 D (.lst (acc ++ [y])))
        else LcI H1 D R (i + 1) H3)
    (hd : ∀ acc H, H D = some (.lst acc) → Same H1 H → R n acc (era H D) → Qd H) :
    ∃ W : Nat → Nat → Hp → Prop, (∃ m, W 0 m (upd H1 D (.lst []))) ∧ ∀ i m H, W i m H →
      (J.stop i H ∧ Qd H) ∨ (J.go i H ∧ ∃ Nx : Hp → Prop, (∀ H', Nx H' → ∃ m', m' < m ∧ W (i + 1) m' H') ∧
        ∀ x H', J.yld i H x H' → g x (wipe σ vs) H' fun σ2 H2 => wipe σ2 vs = wipe σ vs ∧ tt σ2 H2 fun b H3 =>
        if b = true then te σ2 H3 fun y H4 => ∃ acc, H4 D = some (.lst acc) ∧ acc.length < sizeLine ∧ Nx (upd H4 D (.lst (acc ++ [y]))) else Nx H3) := by
  refine lc_it w (LcI H1 D R) ?_ ?_ ?_ ?_
  · exact ⟨[], upd_same, by rw [era_upd, era_none hD]; exact Same.refl _, by rw [era_upd, era_none hD]; exact h0⟩
  · rintro i H _ ⟨acc, _, e, _⟩
    exact hG H (Same.trans e era_back)
  · rintro i x H H' hi ⟨acc, ha, e, r⟩ y
    exact hs i x acc H H' hi ha e (Same.trans e era_back) r y
  · rintro H ⟨acc, ha, e, r⟩
    exact hd acc H ha (Same.trans e era_back) r

theorem yes_go {σ : L2.St} {H : Hp} {A B : Hp → Prop} (h : A H) : tYes σ H (fun b H3 => if b = true then A H3 else B H3) := by
  show (if true = true then A H else B H)
  rw [if_pos rfl]
  exact h
/-! ### for loops: what is carried over a turn -/
theorem ints_at {ns : List Int} {i : Nat} {x : V} (h : (ns.map V.int)[i]? = some x) : ∃ z, ns[i]? = some z ∧ x = .int z := by
  rw [List.getElem?_map] at h
  cases e : ns[i]? with
  | none =>
    rw [e] at h
    cases h
  | some z =>
    rw [e] at h
    exact ⟨z, rfl, (Option.some.inj h).symm⟩

/-! ### the box of draws -/
def boxD (g : Addr) (st c : Int) : List (Key × V) :=
  [(Sum.inr "great", .ref g), (Sum.inr "stirred", .int st), (Sum.inr "count", .int c)]
structure Box (H : Hp) (b g : Addr) : Prop where
  bx : ∃ st c : Int, H b = some (.dK (boxD g st c))
  gr : ∃ ns : List Int, H g = some (.lst (ns.map V.int)) ∧ ns.length ≤ 63
theorem Box.ne {H : Hp} {b g : Addr} (x : Box H b g) : b ≠ g := by
  obtain ⟨⟨_, _, h1⟩, _, h2, _⟩ := x
  exact ne_of h1 h2 (by intro z; cases z)
theorem Box.same {H H' : Hp} {b g : Addr} (x : Box H b g) (s : Same H H') : Box H' b g := by
  obtain ⟨⟨st, c, h1⟩, ns, h2, h3⟩ := x
  exact ⟨⟨st, c, s _ _ h1⟩, ns, s _ _ h2, h3⟩

def spBox (K : PySem.W.Frag) : Sp := fun vs H Q _ => ∃ (a : Addr) (ns : List Int), vs = [.ref a] ∧ SqL K H a (ns.map V.int) ∧ ns.length ≤ 63 ∧
  ∀ (b g : Addr) (H' : Hp), H b = none → H g = none → Same H H' → Box H' b g → Q (.ref b) H'
def spDraw : Sp := fun vs H Q _ => ∃ (b g : Addr) (m : Int), vs = [.ref b, .int m] ∧ 0 < m ∧ m < 2 ^ 30 ∧ Box H b g ∧
  ∀ (r : Int) (H' : Hp), 0 ≤ r → r < m → Kp b g H H' → Box H' b g → Q (.int r) H'
end BV

namespace BV
open PySem L2
theorem get_great {H : Hp} {b g : Addr} {st c : Int} (h : H b = some (.dK (boxD g st c))) : DGet H b (.str "great") (some (.ref g)) :=
  DGet.k (k := Sum.inr "great") h
theorem get_stirred {H : Hp} {b g : Addr} {st c : Int} (h : H b = some (.dK (boxD g st c))) : DGet H b (.str "stirred") (some (.int st)) :=
  DGet.k (k := Sum.inr "stirred") h
theorem get_count {H : Hp} {b g : Addr} {st c : Int} (h : H b = some (.dK (boxD g st c))) : DGet H b (.str "count") (some (.int c)) :=
  DGet.k (k := Sum.inr "count") h
theorem put_count {H : Hp} {b g : Addr} {st c d : Int} (h : H b = some (.dK (boxD g st c))) :
    DPut H b (.str "count") (.int d) (upd H b (.dK (boxD g st d))) :=
  DPut.k (k := Sum.inr "count") h (by show 3 < sizeLine; decide)
theorem dpAll_ints {K : PySem.W.Frag} {H : Hp} : ∀ ns : List Int, DpAll K H (ns.map V.int) (ns.map PyData.int)
  | [] => .nil
  | n :: ns => .cons (.int n) (dpAll_ints ns)
theorem lay_ints : ∀ ns : List Int, PyData.canLayAll0 (ns.map PyData.int) = true
  | [] => by simp [PyData.canLayAll0]
  | n :: ns => by simp [PyData.canLayAll0, PyData.canLay0, lay_ints ns]
theorem deep_ints : ∀ ns : List Int, PyData.depthAll (ns.map PyData.int) ≤ 1
  | [] => by simp [PyData.depthAll]
  | n :: ns => by
    have := deep_ints ns
    simp only [List.map_cons, PyData.depthAll, PyData.depth]
    omega
theorem shaped_intsL (ns : List Int) : SeqAt.shaped (.list (ns.map PyData.int)) = true := by
  have h1 := lay_ints ns
  have h2 := deep_ints ns
  have h3 : PyData.depthAll (ns.map PyData.int) + 1 ≤ 64 := by omega
  simp [SeqAt.shaped, PyData.canLay0, PyData.depth, h1, h3]
end BV

namespace BV
open PySem L2
theorem ix_nat {n j : Nat} (h : j < n) : ixN n (j : Int) = some j := by
  unfold ixN
  rw [if_pos (by omega), if_pos (by omega), Int.toNat_natCast]
theorem seq_nat {n j : Nat} (h : j < n) : seqIndex? (j : Int) n = some j := (ixN_seq (ix_nat h)).1
end BV

namespace BV
open PySem L2
theorem Kp.seq {K : PySem.W.Frag} {b g l : Addr} {H H' : Hp} {xs : List V} (k : Kp b g H H') (h1 : l ≠ b) (h2 : l ≠ g) (h : SqL K H l xs) : SqL K H' l xs := by
  rcases h with (h | ⟨o, h⟩) | h
  · exact .inl (.inl (k _ _ h h1 h2))
  · exact .inl (.inr ⟨o, k _ _ h h1 h2⟩)
  · exact .inr h
def spPick (K : PySem.W.Frag) : Sp := fun vs H Q _ => ∃ (b g l : Addr) (xs : List V), vs = [.ref b, .ref l] ∧ SqL K H l xs ∧ l ≠ b ∧ l ≠ g ∧
  0 < xs.length ∧ xs.length < 1000000 ∧ Box H b g ∧ ∀ (j : Nat) (v : V) (H' : Hp), xs[j]? = some v → Kp b g H H' → Box H' b g → Q v H'
end BV

namespace BV
open PySem L2
/-- what follows is shown once, for all ways through -/
theorem tIf_by {t : TT} {ta tb : TE} {σ : L2.St} {H : Hp} {Q : VK} (P : V → Hp → Prop) (cont : ∀ v H', P v H' → Q v H')
    (h : (∀ v H', P v H' → Q v H') → tIf t ta tb σ H Q) : tIf t ta tb σ H Q := h cont
theorem tIfS_by {c : TT} {t u : TS} {D : Ends} {σ : L2.St} {H : Hp} (P : L2.St → Hp → Prop) (cont : ∀ σ' H', P σ' H' → D.nx σ' H')
    (h : (∀ σ' H', P σ' H' → D.nx σ' H') → tIfS c t u D σ H) : tIfS c t u D σ H := h cont
end BV

namespace BV
open PySem L2
theorem tSeq_go {t u : TS} {D : Ends} {σ : L2.St} {H : Hp} (h : t { D with nx := u D } σ H) : tSeq t u D σ H := h
/-- for .. in range(e): what follows e, once for all ways through e -/
def rngK (g : TG) (tb : TS) (D : Ends) (σ : L2.St) (v : V) (H1 : Hp) : Prop := ∃ j : Int, [v] = [V.int j] ∧ -(2 ^ 62) ≤ j ∧ j < 2 ^ 62 ∧
  ∃ W : Nat → Nat → L2.St → Hp → Prop, (∃ m, W 0 m σ H1) ∧ ∀ i m σ H, W i m σ H →
    ((Itr 0 j.toNat).stop i H ∧ D.nx σ H) ∨ ((Itr 0 j.toNat).go i H ∧ ∃ N : L2.St → Hp → Prop, (∀ σ' H', N σ' H' → ∃ m', m' < m ∧ W (i + 1) m' σ' H') ∧
      ∀ x H', (Itr 0 j.toNat).yld i H x H' → g x σ H' fun σ2 H2 => tb { D with nx := N, ct := N, bk := D.nx } σ2 H2)
theorem for_rng1_by {te : TE} {g : TG} {tb : TS} {D : Ends} {σ : L2.St} {H : Hp} (P : V → Hp → Prop)
    (loop : ∀ v H', P v H' → rngK g tb D σ v H') (h : (∀ v H', P v H' → rngK g tb D σ v H') → te σ H (rngK g tb D σ)) :
    tFor (iRng1 (tCons te tNil)) g tb D σ H := h loop
end BV

namespace BV
open PySem L2
theorem tIfS_t {c : TT} {t u : TS} {D : Ends} {σ : L2.St} {H : Hp} (R : Bool → Hp → Prop) (ht : ∀ H', R true H' → t D σ H') (hu : ∀ H', R false H' → u D σ H')
    (h : (∀ b H', R b H' → if b = true then t D σ H' else u D σ H') → c σ H fun b H' => if b = true then t D σ H' else u D σ H') : tIfS c t u D σ H := by
  refine h fun b H' r => ?_
  cases b with
  | true => exact iteT (ht H' r)
  | false => exact iteF (hu H' r)
end BV

namespace BV
open PySem L2

/-! ### webs as data -/
abbrev Tie := Nat × Nat
def tieD (t : Tie) : PyData := .tuple [.int t.1, .int t.2]
def tiesD (ts : List Tie) : PyData := .tuple (ts.map tieD)
def webD (n : Nat) (ts : List Tie) : PyData := .tuple [.int n, tiesD ts]
structure WebOk (n : Nat) (ts : List Tie) : Prop where
  pos : 1 ≤ n
  ends : ∀ t ∈ ts, t.1 < t.2 ∧ t.2 < n
  hang : ∀ p, 1 ≤ p → p < n → ∃ q, q < p ∧ (q, p) ∈ ts

/-- the ends of a tie stand at v -/
def TieAt (H : Hp) (v : V) (t : Tie) : Prop := ∃ p, v = .ref p ∧ H p = some (.tup [.int t.1, .int t.2])
/-- tuples stay -/
def KT (H H' : Hp) : Prop := ∀ a xs, H a = some (.tup xs) → H' a = some (.tup xs)
theorem KT.of_same {H H' : Hp} (s : Same H H') : KT H H' := fun a xs h => s _ _ h
theorem KT.of_kp {b g : Addr} {H H' : Hp} (k : Kp b g H H') (x : Box H b g) : KT H H' := fun a xs h => by
  obtain ⟨⟨_, _, h1⟩, _, h2, _⟩ := x
  exact k _ _ h (ne_of h h1 (by intro z; cases z)) (ne_of h h2 (by intro z; cases z))
theorem KT.of_upd {H : Hp} {l : Addr} {xs ys : List V} (h : H l = some (.lst xs)) : KT H (upd H l (.lst ys)) := fun a zs e => by
  rw [upd_ne (ne_of e h (by intro z; cases z))]
  exact e
theorem TieAt.kt {H H' : Hp} {v : V} {t : Tie} (h : TieAt H v t) (k : KT H H') : TieAt H' v t := by
  obtain ⟨p, e, hp⟩ := h
  exact ⟨p, e, k _ _ hp⟩

abbrev Ties (H : Hp) : List V → List Tie → Prop := Paired (TieAt H)
theorem Ties.kt {H H' : Hp} (k : KT H H') : ∀ {xs : List V} {ts : List Tie}, Ties H xs ts → Ties H' xs ts
  | _, _, .nil => .nil
  | _, _, .cons a r => .cons (a.kt k) (Ties.kt k r)
theorem Ties.app {H : Hp} : ∀ {xs : List V} {ts : List Tie} {v : V} {t : Tie}, Ties H xs ts → TieAt H v t → Ties H (xs ++ [v]) (ts ++ [t])
  | _, _, _, _, .nil, h => .cons h .nil
  | _, _, _, _, .cons a r, h => .cons a (Ties.app r h)
theorem Ties.era {H : Hp} : ∀ {xs : List V} {ts : List Tie} (j : Nat), Ties H xs ts → Ties H (xs.eraseIdx j) (ts.eraseIdx j)
  | _, _, _, .nil => .nil
  | _, _, 0, .cons a r => r
  | _, _, j + 1, .cons a r => .cons a (Ties.era j r)
theorem Ties.get {H : Hp} : ∀ {xs : List V} {ts : List Tie} {j : Nat} {t : Tie}, Ties H xs ts → ts[j]? = some t → ∃ v, xs[j]? = some v ∧ TieAt H v t
  | _, _, _, _, .nil, h => by simp at h
  | _, _, 0, _, .cons a r, h => by
    simp at h
    subst h
    exact ⟨_, rfl, a⟩
  | _, _, j + 1, t, .cons a r, h => by
    obtain ⟨v, h1, h2⟩ := Ties.get (j := j) (t := t) r (by simpa using h)
    exact ⟨v, by simpa using h1, h2⟩
theorem Ties.at {H : Hp} : ∀ {xs : List V} {ts : List Tie} {j : Nat} {v : V}, Ties H xs ts → xs[j]? = some v → ∃ t, ts[j]? = some t ∧ TieAt H v t
  | _, _, _, _, .nil, h => by simp at h
  | _, _, 0, _, .cons a r, h => by
    simp at h
    subst h
    exact ⟨_, rfl, a⟩
  | _, _, j + 1, v, .cons a r, h => by
    obtain ⟨t, h1, h2⟩ := Ties.at (j := j) (v := v) r (by simpa using h)
    exact ⟨t, by simpa using h1, h2⟩
theorem Ties.dp {K : PySem.W.Frag} {H : Hp} : ∀ {xs : List V} {ts : List Tie}, Ties H xs ts → DpAll K H xs (ts.map tieD)
  | _, _, .nil => .nil
  | _, _, .cons h r => by
    obtain ⟨p, rfl, hp⟩ := h
    exact .cons (.tup (SqT.of hp) (.cons (.int _) (.cons (.int _) .nil))) (Ties.dp r)

/-- taking one out and laying it behind -/
theorem perm_move : ∀ (ts fs : List Tie) (j : Nat) (t : Tie), ts[j]? = some t → (ts.eraseIdx j ++ (fs ++ [t])).Perm (ts ++ fs) := by
  intro ts fs j t h
  have h1 : (t :: ts.eraseIdx j).Perm ts := by
    induction ts generalizing j with
    | nil => simp at h
    | cons a r ih =>
      cases j with
      | zero =>
        simp at h
        subst h
        exact .refl _
      | succ j =>
        have := ih j (by simpa using h)
        simp only [List.eraseIdx_cons_succ]
        exact (List.Perm.swap a t _).trans (this.cons a)
  have h2 : (ts.eraseIdx j ++ (fs ++ [t])).Perm (t :: (ts.eraseIdx j ++ fs)) := by
    rw [← List.append_assoc]
    exact List.perm_append_comm
  exact h2.trans (by simpa using h1.append_right fs)

/-- two lists of ties that grow, new since H0 -/
structure WI (b g l l2 : Addr) (H0 H : Hp) (ts fs : List Tie) : Prop where
  kp : Kp b g H0 H
  bx : Box H b g
  n1 : H0 l = none
  n2 : H0 l2 = none
  d1 : l ≠ b
  d2 : l ≠ g
  d3 : l2 ≠ b
  d4 : l2 ≠ g
  d5 : l ≠ l2
  tl : ∃ xs, H l = some (.lst xs) ∧ Ties H xs ts
  fl : ∃ ys, H l2 = some (.lst ys) ∧ Ties H ys fs
section
variable {b g l l2 p : Addr} {H0 H H' : Hp} {ts fs : List Tie} {v : V} {t : Tie} {xs : List V}
theorem WI.draw (w : WI b g l l2 H0 H ts fs) (k : Kp b g H H') (x : Box H' b g) : WI b g l l2 H0 H' ts fs := by
  obtain ⟨kp, bx, n1, n2, d1, d2, d3, d4, d5, ⟨xs, h1, h2⟩, ⟨ys, h3, h4⟩⟩ := w
  have kt := KT.of_kp k bx
  exact ⟨kp.trans k, x, n1, n2, d1, d2, d3, d4, d5, ⟨xs, k _ _ h1 d1 d2, h2.kt kt⟩, ⟨ys, k _ _ h3 d3 d4, h4.kt kt⟩⟩
theorem WI.same (w : WI b g l l2 H0 H ts fs) (s : Same H H') : WI b g l l2 H0 H' ts fs := w.draw (Kp.same s) (w.bx.same s)
theorem WI.app (w : WI b g l l2 H0 H ts fs) (h : H l = some (.lst xs)) (hv : TieAt H v t) : WI b g l l2 H0 (upd H l (.lst (xs ++ [v]))) (ts ++ [t]) fs := by
  obtain ⟨kp, bx, n1, n2, d1, d2, d3, d4, d5, ⟨zs, h1, h2⟩, ⟨ys, h3, h4⟩⟩ := w
  rw [h] at h1
  cases h1
  have kt : KT H (upd H l (.lst (xs ++ [v]))) := KT.of_upd h
  refine ⟨fun a o q q1 q2 => ?_, ?_, n1, n2, d1, d2, d3, d4, d5, ⟨_, upd_same, (h2.kt kt).app (hv.kt kt)⟩, ⟨ys, ?_, h4.kt kt⟩⟩
  · rw [upd_ne (ne_of_none q n1)]
    exact kp _ _ q q1 q2
  · obtain ⟨⟨st, c, x1⟩, ns, x2, x3⟩ := bx
    exact ⟨⟨st, c, by rw [upd_ne d1.symm]; exact x1⟩, ns, by rw [upd_ne d2.symm]; exact x2, x3⟩
  · rw [upd_ne d5.symm]
    exact h3
theorem WI.swap (w : WI b g l l2 H0 H ts fs) : WI b g l2 l H0 H fs ts := by
  obtain ⟨kp, bx, n1, n2, d1, d2, d3, d4, d5, t1, t2⟩ := w
  exact ⟨kp, bx, n2, n1, d3, d4, d1, d2, d5.symm, t2, t1⟩
theorem WI.pop (w : WI b g l l2 H0 H ts fs) (h : H l = some (.lst xs)) (j : Nat) : WI b g l l2 H0 (upd H l (.lst (xs.eraseIdx j))) (ts.eraseIdx j) fs := by
  obtain ⟨kp, bx, n1, n2, d1, d2, d3, d4, d5, ⟨zs, h1, h2⟩, ⟨ys, h3, h4⟩⟩ := w
  rw [h] at h1
  cases h1
  have kt : KT H (upd H l (.lst (xs.eraseIdx j))) := KT.of_upd h
  refine ⟨fun a o q q1 q2 => ?_, ?_, n1, n2, d1, d2, d3, d4, d5, ⟨_, upd_same, (h2.kt kt).era j⟩, ⟨ys, ?_, h4.kt kt⟩⟩
  · rw [upd_ne (ne_of_none q n1)]
    exact kp _ _ q q1 q2
  · obtain ⟨⟨st, c, x1⟩, ns, x2, x3⟩ := bx
    exact ⟨⟨st, c, by rw [upd_ne d1.symm]; exact x1⟩, ns, by rw [upd_ne d2.symm]; exact x2, x3⟩
  · rw [upd_ne d5.symm]
    exact h3
end

def spWeb (K : PySem.W.Frag) : Sp := fun vs H Q _ => ∃ (b g : Addr) (most more : Nat), vs = [.ref b, .int most, .int more] ∧ 1 ≤ most ∧ most ≤ 1000 ∧ more ≤ 1000 ∧ Box H b g ∧
  ∀ (p : Addr) (n : Nat) (ts : List Tie) (H' : Hp), Kp b g H H' → Box H' b g → Dp K H' (.ref p) (webD n ts) → WebOk n ts → n ≤ most → ts.length + 1 ≤ n + more →
    (n = 1 → ts = []) → Q (.ref p) H'
end BV

namespace BV
open PySem L2

/-! ### data that is read -/
section
variable {K : PySem.W.Frag} {H H' : Hp}
theorem sqT_same {a : Addr} {xs : List V} (s : Same H H') (h : SqT K H a xs) : SqT K H' a xs := by
  rcases h with (h | ⟨o, h⟩) | h
  · exact .inl (.inl (s _ _ h))
  · exact .inl (.inr ⟨o, s _ _ h⟩)
  · exact .inr h
mutual
theorem dp_same (s : Same H H') : ∀ (d : PyData) {v : V}, Dp K H v d → Dp K H' v d
  | .none, _, h => by cases h; exact .non
  | .bool b, _, h => by cases h; exact .bl b
  | .int i, _, h => by cases h; exact .int i
  | .str x, _, h => by cases h; exact .str x
  | .list ds, _, h => by
    cases h with
    | lst h1 h2 => exact .lst (Same.seq s h1) (dpAll_same s ds h2)
  | .tuple ds, _, h => by
    cases h with
    | tup h1 h2 => exact .tup (sqT_same s h1) (dpAll_same s ds h2)
  | .dict _, _, h => by cases h
theorem dpAll_same (s : Same H H') : ∀ (ds : List PyData) {vs : List V}, DpAll K H vs ds → DpAll K H' vs ds
  | [], _, h => by cases h; exact .nil
  | d :: ds, _, h => by
    cases h with
    | cons h1 h2 => exact .cons (dp_same s d h1) (dpAll_same s ds h2)
end

/-- what is locked or a tuple stays -/
def KF (H H' : Hp) : Prop := ∀ a o, H a = some o → (∃ xs, o = .tup xs ∨ ∃ ob, o = .frz ob (.tup xs)) → H' a = some o
theorem KF.of_same (s : Same H H') : KF H H' := fun a o h _ => s a o h
theorem KF.of_kp {b g : Addr} (k : Kp b g H H') (x : Box H b g) : KF H H' := fun a o h q => by
  obtain ⟨⟨_, _, h1⟩, _, h2, _⟩ := x
  obtain ⟨xs, rfl | ⟨ob, rfl⟩⟩ := q
  · exact k _ _ h (ne_of h h1 (by intro z; cases z)) (ne_of h h2 (by intro z; cases z))
  · exact k _ _ h (ne_of h h1 (by intro z; cases z)) (ne_of h h2 (by intro z; cases z))
theorem KF.trans {H'' : Hp} (x : KF H H') (y : KF H' H'') : KF H H'' := fun a o h q => y a o (x a o h q) q
theorem KF.of_upd {l : Addr} {xs ys : List V} (h : H l = some (.lst xs)) : KF H (upd H l (.lst ys)) := fun a o e q => by
  obtain ⟨zs, rfl | ⟨ob, rfl⟩⟩ := q
  · rw [upd_ne (ne_of e h (by intro z; cases z))]
    exact e
  · rw [upd_ne (ne_of e h (by intro z; cases z))]
    exact e
theorem sqT_kf {a : Addr} {xs : List V} (s : KF H H') (h : SqT K H a xs) : SqT K H' a xs := by
  rcases h with (h | ⟨o, h⟩) | h
  · exact .inl (.inl (s _ _ h ⟨xs, .inl rfl⟩))
  · exact .inl (.inr ⟨o, s _ _ h ⟨xs, .inr ⟨o, rfl⟩⟩⟩)
  · exact .inr h
mutual
/-- data without a list in it -/
def still : PyData → Bool
  | .none | .bool _ | .int _ | .str _ => true
  | .list _ | .dict _ => false
  | .tuple ds => stillAll ds
def stillAll : List PyData → Bool
  | [] => true
  | d :: ds => still d && stillAll ds
end
mutual
theorem dp_kf (s : KF H H') : ∀ (d : PyData) {v : V}, still d = true → Dp K H v d → Dp K H' v d
  | .none, _, _, h => by cases h; exact .non
  | .bool b, _, _, h => by cases h; exact .bl b
  | .int i, _, _, h => by cases h; exact .int i
  | .str x, _, _, h => by cases h; exact .str x
  | .list ds, _, q, h => by simp [still] at q
  | .tuple ds, _, q, h => by
    cases h with
    | tup h1 h2 => exact .tup (sqT_kf s h1) (dpAll_kf s ds (by simpa [still] using q) h2)
  | .dict _, _, _, h => by cases h
theorem dpAll_kf (s : KF H H') : ∀ (ds : List PyData) {vs : List V}, stillAll ds = true → DpAll K H vs ds → DpAll K H' vs ds
  | [], _, _, h => by cases h; exact .nil
  | d :: ds, _, q, h => by
    have q' : still d = true ∧ stillAll ds = true := by simpa [stillAll] using q
    cases h with
    | cons h1 h2 => exact .cons (dp_kf s d q'.1 h1) (dpAll_kf s ds q'.2 h2)
end
theorem dpAll_len : ∀ {ds : List PyData} {vs : List V}, DpAll K H vs ds → vs.length = ds.length
  | [], _, h => by cases h; rfl
  | d :: ds, _, h => by
    cases h with
    | cons h1 h2 => exact congrArg Nat.succ (dpAll_len h2)
theorem dpAll_get : ∀ {ds : List PyData} {vs : List V} {i : Nat} {v : V}, DpAll K H vs ds → vs[i]? = some v → ∃ d, ds[i]? = some d ∧ Dp K H v d
  | [], _, _, _, h, e => by cases h; simp at e
  | d :: ds, _, 0, _, h, e => by
    cases h with
    | cons h1 h2 =>
      simp at e
      subst e
      exact ⟨d, rfl, h1⟩
  | d :: ds, _, i + 1, v, h, e => by
    cases h with
    | cons h1 h2 =>
      obtain ⟨d', a, b⟩ := dpAll_get (i := i) (v := v) h2 (by simpa using e)
      exact ⟨d', by simpa using a, b⟩
theorem dpAll_at : ∀ {ds : List PyData} {vs : List V} {i : Nat} {d : PyData}, DpAll K H vs ds → ds[i]? = some d → ∃ v, vs[i]? = some v ∧ Dp K H v d
  | [], _, _, _, h, e => by simp at e
  | d :: ds, _, 0, _, h, e => by
    cases h with
    | cons h1 h2 =>
      simp at e
      subst e
      exact ⟨_, rfl, h1⟩
  | d :: ds, _, i + 1, v, h, e => by
    cases h with
    | cons h1 h2 =>
      obtain ⟨d', a, b⟩ := dpAll_at (i := i) (d := v) h2 (by simpa using e)
      exact ⟨d', by simpa using a, b⟩
theorem dpAll_app : ∀ {ds es : List PyData} {vs us : List V}, DpAll K H vs ds → DpAll K H us es → DpAll K H (vs ++ us) (ds ++ es)
  | [], _, _, _, h, g => by cases h; exact g
  | d :: ds, _, _, _, h, g => by
    cases h with
    | cons h1 h2 => exact .cons h1 (dpAll_app h2 g)
theorem dpAll_ints' : ∀ {ns : List Int} {vs : List V}, DpAll K H vs (ns.map PyData.int) → vs = ns.map V.int
  | [], _, h => by cases h; rfl
  | n :: ns, _, h => by
    cases h with
    | cons h1 h2 =>
      cases h1
      rw [dpAll_ints' h2]
      rfl
theorem dp_tup {v : V} {ds : List PyData} (h : Dp K H v (.tuple ds)) : ∃ a xs, v = .ref a ∧ SqT K H a xs ∧ DpAll K H xs ds := by
  cases h with
  | tup h1 h2 => exact ⟨_, _, rfl, h1, h2⟩
theorem dp_lst {v : V} {ds : List PyData} (h : Dp K H v (.list ds)) : ∃ a xs, v = .ref a ∧ SqL K H a xs ∧ DpAll K H xs ds := by
  cases h with
  | lst h1 h2 => exact ⟨_, _, rfl, h1, h2⟩
theorem dp_tie {v : V} {t : Tie} (h : Dp K H v (tieD t)) : ∃ a, v = .ref a ∧ SqT K H a [.int t.1, .int t.2] := by
  obtain ⟨a, xs, e, h1, h2⟩ := dp_tup h
  have q : xs = [.int t.1, .int t.2] := dpAll_ints' (ns := [t.1, t.2]) h2
  subst q
  exact ⟨a, e, h1⟩
theorem dp_web {v : V} {n : Nat} {ts : List Tie} (h : Dp K H v (webD n ts)) :
    ∃ a c ys, v = .ref a ∧ SqT K H a [.int n, .ref c] ∧ SqT K H c ys ∧ DpAll K H ys (ts.map tieD) := by
  obtain ⟨a, xs, e, h1, h2⟩ := dp_tup h
  cases h2 with
  | cons q1 q2 =>
    cases q1
    cases q2 with
    | cons q3 q4 =>
      cases q4
      obtain ⟨c, ys, e3, h3, h4⟩ := dp_tup q3
      subst e3
      exact ⟨a, c, ys, e, h1, h3, h4⟩
theorem still_ties : ∀ ts : List Tie, stillAll (ts.map tieD) = true
  | [] => by simp [stillAll]
  | t :: ts => by simp [stillAll, tieD, still, still_ties ts]
theorem still_web (n : Nat) (ts : List Tie) : still (webD n ts) = true := by simp [webD, tiesD, still, stillAll, still_ties ts]
end

/-! ### lots -/
def lotD (ks : List Nat) : PyData := .tuple (ks.map fun (k : Nat) => .int k)
def hit (ts : List Tie) (p k : Nat) : Bool := match ts[k]? with
  | some t => t.1 == p || t.2 == p
  | none => false
def tiesAt (ts : List Tie) (p : Nat) : List Nat := (List.range ts.length).filter (hit ts p)
def spTies (K : PySem.W.Frag) : Sp := fun vs H Q _ => ∃ (v : V) (n p : Nat) (ts : List Tie), vs = [v, .int p] ∧ Dp K H v (webD n ts) ∧ ts.length ≤ 3000 ∧
  ∀ (u : V) (H' : Hp), Same H H' → Dp K H' u (lotD (tiesAt ts p)) → Q u H'
end BV

/-! ### rules that name the written part -/
namespace BV
open PySem L2
section
variable {X : Cx} (K : PySem.W.Frag)
theorem opIn (h : X.K = K := by rfl) : OpR X (compareOp .In) (rIn K false) := by
  subst h
  exact op_in_seq
theorem opNotIn (h : X.K = K := by rfl) : OpR X (compareOp .NotIn) (rIn K true) := by
  subst h
  exact op_notIn_seq
theorem opEqD (hu : X.A.units + 64 < cLine) (h : X.K = K := by rfl) : OpR X (compareOp .Eq) (rEqD K) := by
  subst h
  exact op_eqD hu
theorem opNeD (hu : X.A.units + 64 < cLine) (h : X.K = K := by rfl) : OpR X (compareOp .NotEq) (rNeD K) := by
  subst h
  exact op_neD hu
theorem ixL (h : X.K = K := by rfl) : IxR X (rIxL K) := by
  subst h
  exact ix_list
theorem ixT (h : X.K = K := by rfl) : IxR X (rIxT K) := by
  subst h
  exact ix_tup
def rLenK (K : PySem.W.Frag) : List V → Hp → VK → Prop := fun xs H Q => ∃ p ys, xs = [.ref p] ∧ (SqL K H p ys ∨ SqT K H p ys) ∧ Q (.int ys.length) H
theorem lenK (h : X.K = K := by rfl) : CallR X (.builtin "len") (rLenK K) := by
  subst h
  exact call_len_seq
def rTupK (K : PySem.W.Frag) : List V → Hp → VK → Prop := fun xs H Q => ∃ p ys, xs = [.ref p] ∧
  ((SqL K H p ys ∧ ∀ l, H l = none → Q (.ref l) (upd H l (.tup ys))) ∨ (SqT K H p ys ∧ Q (.ref p) H))
theorem tupleK (h : X.K = K := by rfl) : CallR X (.type "tuple") (rTupK K) := by
  subst h
  exact call_tuple_of
def rSumT (K : PySem.W.Frag) : List V → Hp → VK → Prop := fun vs H Q => ∃ (a : Addr) (ns : List Int), vs = [V.ref a] ∧ SqT K H a (ns.map V.int) ∧ Q (.int ns.sum) H
theorem sumTK (hc : X.calm = true := by rfl) (h : X.K = K := by rfl) : CallR X (.builtin "sum") (rSumT K) := by
  subst h
  exact cr_sumT hc
def rReprK (K : PySem.W.Frag) : List V → Hp → VK → Prop := fun xs H Q => ∃ (x : V) (d : PyData), xs = [x] ∧ Dp K H x d ∧ Show d ∧ Q (.str d.shown) H
theorem reprK (hgd : X.A.guards = some []) (hu : X.A.units + 64 < cLine) (h : X.K = K := by rfl) : CallR X (.builtin "repr") (rReprK K) := by
  subst h
  exact call_reprD hgd hu
theorem revT {e : Expr} {te : TE} {k : Nat} {p1 p2 p3 pos : Pos} (he : PE X e te) (h : X.K = K := by rfl) :
    PE X (.Subscript e (.Slice none none (some (.UnaryOp .USub (.Constant (.int 1) k p1) p2)) p3) pos) (tRevT K te) := by
  subst h
  exact pe_revT he
theorem enumT {e : Expr} {ta : TA} {p pos tpos : Pos} {elts : List Expr} {kk : Nat} (hg : Gl X "enumerate") (hm : X.mg "enumerate" = none)
    (ha : PA X [e] ta) (hs : starEach [e] X.env = [(false, eval e X.env)] := by rfl) (h : X.K = K := by rfl) :
    PI X (.Tuple elts kk tpos) (.Call (.Name "enumerate" p) [e] [] pos) (iEnumT K ta) := by
  subst h
  exact pi_enumT hg hm ha hs
theorem piL {l tg : Expr} {tl : TE} (hl : PE X l tl) (h : X.K = K := by rfl) : PI X tg l (iList K tl) := by
  subst h
  exact pi_list hl
theorem piT {l tg : Expr} {tl : TE} (hl : PE X l tl) (h : X.K = K := by rfl) : PI X tg l (iTup K tl) := by
  subst h
  exact pi_tup hl
theorem pgT {es : List Expr} {k : Nat} {t : TGs} {n : Nat} (hc : X.calm = true) (h : PGs X es t)
    (hn : (assignEach es X.env).length = n := by rfl) (hst : (assignEach es X.env).findIdx? (·.1) = none := by rfl) {pos : Pos} (hK : X.K = K := by rfl) :
    PG X (.Tuple es k pos) (gTup K n t) := by
  subst hK
  exact pg_tup hc h hn hst
theorem getL (h : X.K = K := by rfl) : PGet X (rGetL K) := by
  subst h
  exact get_list
theorem slL (h : X.K = K := by rfl) : SlR X (rSlL K) := by
  subst h
  exact sl_list
end
end BV

namespace BV
open PySem L2
theorem inv_tie (p : Nat) (t : Tie) : inV (.int (p : Int)) [.int t.1, .int t.2] = (t.1 == p || t.2 == p) := by
  have e : ∀ a : Nat, (((a : Nat) : Int) == (p : Int)) = (a == p) := fun a => by
    by_cases h : a = p
    · subst h
      simp
    · rw [beq_eq_false_iff_ne.mpr h]
      exact beq_eq_false_iff_ne.mpr fun z => h (by omega)
  show ((((t.1 : Nat) : Int) == (p : Int)) || ((((t.2 : Nat) : Int) == (p : Int)) || false)) = _
  rw [e, e, Bool.or_false]
theorem range_filter_succ {f : Nat → Bool} {i : Nat} : (List.range (i + 1)).filter f = (List.range i).filter f ++ if f i then [i] else [] := by
  rw [List.range_succ, List.filter_append]
  congr 1
  by_cases h : f i = true
  · rw [if_pos h, List.filter_cons_of_pos h, List.filter_nil]
  · rw [if_neg h, List.filter_cons_of_neg h, List.filter_nil]
theorem hit_at {ts : List Tie} {p i : Nat} {t : Tie} (h : ts[i]? = some t) : hit ts p i = (t.1 == p || t.2 == p) := by
  unfold hit
  rw [h]
end BV

namespace BV
open PySem L2

/-! ### the matrix of a web -/
def meets (p : Nat) (t : Tie) : Bool := t.1 == p || t.2 == p
def joins (p q : Nat) (t : Tie) : Bool := (t.1 == p && t.2 == q) || (t.1 == q && t.2 == p)
def entry (ts : List Tie) (p q : Nat) : Int := if p = q then (ts.countP (meets p) : Nat) else -((ts.countP (joins p q) : Nat) : Int)
def rowD (ts : List Tie) (n p : Nat) : PyData := .tuple ((List.range n).map fun q => .int (entry ts p q))
def matD (n : Nat) (ts : List Tie) : PyData := .tuple ((List.range n).map (rowD ts n))
def spMat (K : PySem.W.Frag) : Sp := fun vs H Q _ => ∃ (v : V) (n : Nat) (ts : List Tie), vs = [v] ∧ Dp K H v (webD n ts) ∧ (∀ t ∈ ts, t.1 < t.2 ∧ t.2 < n) ∧
  n ≤ 1000 ∧ ts.length ≤ 3000 ∧ ∀ (u : V) (H' : Hp), Same H H' → Dp K H' u (matD n ts) → Q u H'

/-- n rows of n numbers, lists of their own -/
structure Mat (H : Hp) (r : Addr) (as : List Addr) (n : Nat) (M : Nat → Nat → Int) : Prop where
  rows : H r = some (.lst (as.map V.ref))
  len : as.length = n
  nd : as.Nodup
  row : ∀ p a, as[p]? = some a → H a = some (.lst ((List.range n).map fun q => V.int (M p q)))
def bump (M : Nat → Nat → Int) (p q : Nat) (d : Int) : Nat → Nat → Int := fun i j => if i = p ∧ j = q then M p q + d else M i j
theorem range_set {α : Type} (f : Nat → α) (n q : Nat) (v : α) : ((List.range n).map f).set q v = (List.range n).map fun j => if j = q then v else f j := by
  apply List.ext_getElem?
  intro i
  by_cases hi : i < n
  · rw [List.getElem?_set]
    by_cases e : q = i
    · subst e
      simp [hi]
    · have e' : ¬ i = q := fun z => e z.symm
      simp [hi, e, e']
  · rw [List.getElem?_eq_none (by simp; omega), List.getElem?_eq_none (by simp; omega)]
theorem Mat.set {H : Hp} {r a : Addr} {as : List Addr} {n p q : Nat} {M : Nat → Nat → Int} {d : Int} (m : Mat H r as n M) (ha : as[p]? = some a) (hq : q < n) :
    Mat (upd H a (.lst (((List.range n).map fun q => V.int (M p q)).set q (.int (M p q + d))))) r as n (bump M p q d) := by
  obtain ⟨h1, h2, h3, h4⟩ := m
  have hpa := h4 p a ha
  have hp : p < as.length := (List.getElem?_eq_some_iff.mp ha).1
  have nra : r ≠ a := by
    intro e
    subst e
    rw [h1] at hpa
    have z := Option.some.inj hpa
    injection z with z
    cases as with
    | nil => simp at ha
    | cons x xs =>
      cases n with
      | zero => simp at h2
      | succ n =>
        rw [List.range_succ_eq_map] at z
        cases z
  refine ⟨by rw [upd_ne nra]; exact h1, h2, h3, fun p' a' ha' => ?_⟩
  by_cases e : p' = p
  · subst e
    rw [ha] at ha'
    cases ha'
    rw [upd_same, range_set]
    congr 2
    apply List.map_congr_left
    intro j hj
    unfold bump
    by_cases ej : j = q
    · subst ej
      simp
    · simp [ej]
  · have na : a' ≠ a := by
      rintro rfl
      have hp' : p' < as.length := (List.getElem?_eq_some_iff.mp ha').1
      have e1 : as[p'] = a' := (List.getElem?_eq_some_iff.mp ha').2
      have e2 : as[p] = a' := (List.getElem?_eq_some_iff.mp ha).2
      have pw := List.pairwise_iff_getElem.mp h3
      rcases Nat.lt_or_ge p' p with z | z
      · exact pw p' p hp' hp z (e1.trans e2.symm)
      · exact pw p p' hp hp' (by omega) (e2.trans e1.symm)
    rw [upd_ne na, h4 p' a' ha']
    congr 2
    apply List.map_congr_left
    intro j hj
    unfold bump
    simp [e]
theorem entry_app (ts : List Tie) (a b : Nat) (hab : a < b) (p q : Nat) :
    bump (bump (bump (bump (entry ts) a a 1) b b 1) a b (-1)) b a (-1) p q = entry (ts ++ [(a, b)]) p q := by
  have c1 : ∀ f : Tie → Bool, (ts ++ [(a, b)]).countP f = ts.countP f + (if f (a, b) = true then 1 else 0) := fun f => by
    rw [List.countP_append, List.countP_singleton]
  unfold entry
  rw [c1, c1]
  unfold bump meets joins
  by_cases e : p = q
  · subst e
    by_cases ea : p = a
    · subst ea
      have : ¬ p = b := by omega
      have : ¬ b = p := by omega
      simp_all
    · by_cases eb : p = b
      · subst eb
        have : ¬ a = p := by omega
        simp_all
      · have : ¬ a = p := fun z => ea z.symm
        have : ¬ b = p := fun z => eb z.symm
        simp_all
  · by_cases e1 : p = a ∧ q = b
    · obtain ⟨rfl, rfl⟩ := e1
      have h1 : ¬ q = p := fun z => e z.symm
      simp_all
      omega
    · by_cases e2 : p = b ∧ q = a
      · obtain ⟨rfl, rfl⟩ := e2
        have h1 : ¬ q = p := fun z => e z.symm
        simp_all
        omega
      · have h3 : ¬ (p = a ∧ q = a) := fun z => e (z.1.trans z.2.symm)
        have h4 : ¬ (p = b ∧ q = b) := fun z => e (z.1.trans z.2.symm)
        have h5 : ((a == p && b == q) || (a == q && b == p)) = false := by
          rw [Bool.or_eq_false_iff, Bool.and_eq_false_iff, Bool.and_eq_false_iff]
          simp only [beq_eq_false_iff_ne]
          omega
        simp only [e1, e2, h3, h4, if_false, e, h5, Bool.false_eq_true, Nat.add_zero]
end BV

namespace BV
open PySem L2
theorem Mat.row_get {H : Hp} {r a : Addr} {as : List Addr} {n p q : Nat} {M : Nat → Nat → Int} (m : Mat H r as n M) (ha : as[p]? = some a) (hq : q < n) :
    ((List.range n).map fun q => V.int (M p q))[q]? = some (.int (M p q)) := by
  rw [List.getElem?_map, List.getElem?_range hq]
  rfl
theorem mat_aug {K : PySem.W.Frag} {H : Hp} {r : Addr} {as : List Addr} {n p q ir ip iq : Nat} {M : Nat → Nat → Int} {d : Int} {f : Int → Int → Int} {σ : L2.St} {D : Ends}
    (m : Mat H r as n M) (hp : p < n) (hq : q < n) (h3 : σ[ir]? = some (some (.ref r))) (h4 : σ[ip]? = some (some (.int (p : Int)))) (h5 : σ[iq]? = some (some (.int (q : Int))))
    (hf : f (M p q) 1 = M p q + d)
    (h : ∀ a, as[p]? = some a → ∀ H', (∀ b, b ≠ a → H' b = H b) → Mat H' r as n (bump M p q d) → D.nx σ H') :
    tAugS (tOp (rIxL K) (tVar ir) (tVar ip)) (tVar iq) (tC (.int 1)) (rGetL K) (ipI f) rSetL D σ H := by
  have hpl : p < as.length := by rw [m.len]; exact hp
  have ha : as[p]? = some as[p] := by simp [hpl]
  have hrow := m.row p _ ha
  have hr : (as.map V.ref)[p]? = some (.ref as[p]) := by rw [List.getElem?_map, ha]; rfl
  refine ⟨_, h3, _, h4, r, _, _, _, rfl, rfl, SqL.of m.rows, atI_nat hr, ?_⟩
  refine ⟨_, h5, as[p], _, q, _, rfl, rfl, SqL.of hrow, m.row_get ha hq, ?_⟩
  refine ⟨_, _, rfl, rfl, as[p], _, (q : Int), q, rfl, rfl, hrow, ix_nat (by simpa using hq), ?_⟩
  rw [hf]
  exact h _ ha _ (fun b hb => upd_ne hb) (m.set ha hq)
theorem zeros (n : Nat) : (List.replicate n [V.int 0]).flatten = (List.range n).map fun _ => V.int 0 := by
  induction n with
  | zero => rfl
  | succ n ih =>
    rw [List.replicate_succ', List.flatten_append, ih, List.range_succ, List.map_append]
    rfl
end BV

namespace BV
open PySem L2
mutual
def tiny : PyData → Bool
  | .none | .bool _ => true
  | .int i => decide (i.natAbs.log2 < 300)
  | .str x => decide (x.length ≤ 100) && x.cps.toList.all fun c => decide (c < 16 ^ 8)
  | .list xs | .tuple xs => tinyAll xs
  | .dict _ => false
def tinyAll : List PyData → Bool
  | [] => true
  | x :: xs => tiny x && tinyAll xs
end
mutual
def nodes : PyData → Nat
  | .none | .bool _ | .int _ | .str _ | .dict _ => 1
  | .list xs | .tuple xs => nodesAll xs + 1
def nodesAll : List PyData → Nat
  | [] => 0
  | x :: xs => nodes x + nodesAll xs
end
theorem int_shown {i : Int} (h : i.natAbs.log2 < 300) : (PyData.shown (.int i)).length ≤ 301 := by
  have h1 := int_text_length_le (k := 300) (by decide) h
  have h2 : (PyData.shown (.int i)) = Str.ofString (toString i) := by simp only [PyData.shown]
  rw [h2]
  have h3 : (Str.ofString (toString i)).length = (toString i).length := ofString_length _
  omega
mutual
theorem tiny_facts : ∀ d : PyData, tiny d = true → d.showable = true ∧ d.hasDict = false ∧ d.shown.length + 2 ≤ 1100 * nodes d
  | .none, _ => ⟨by simp [PyData.showable], by simp [PyData.hasDict], by
      have e : (PyData.shown .none).length = 4 := rfl
      simp only [nodes]
      omega⟩
  | .bool b, _ => ⟨by simp [PyData.showable], by simp [PyData.hasDict], by
      have e : (PyData.shown (.bool b)).length ≤ 5 := by cases b <;> decide
      simp only [nodes]
      omega⟩
  | .int i, h => by
    have h' : i.natAbs.log2 < 300 := by simpa [tiny] using h
    refine ⟨?_, by simp [PyData.hasDict], ?_⟩
    · simp only [PyData.showable, decide_eq_true_eq]
      omega
    · have := int_shown h'
      simp only [nodes]
      omega
  | .str x, h => by
    have h' : x.length ≤ 100 ∧ ∀ c ∈ x.cps.toList, c < 16 ^ 8 := by
      simp only [tiny, Bool.and_eq_true, decide_eq_true_eq, List.all_eq_true] at h
      exact h
    refine ⟨by simp [PyData.showable], by simp [PyData.hasDict], ?_⟩
    have e := StrLaws.reprText_len x h'.2
    simp only [PyData.shown, nodes]
    omega
  | .list xs, h => by
    have h1 := tiny_all xs (by simpa [tiny] using h)
    refine ⟨by simpa [PyData.showable] using h1.1, by simpa [PyData.hasDict] using h1.2.1, ?_⟩
    have h2 := listText_len_le (PyData.shownAll xs)
    simp only [PyData.shown, nodes]
    omega
  | .tuple xs, h => by
    have h1 := tiny_all xs (by simpa [tiny] using h)
    refine ⟨by simpa [PyData.showable] using h1.1, by simpa [PyData.hasDict] using h1.2.1, ?_⟩
    have h2 := tupleText_len_le (PyData.shownAll xs)
    simp only [PyData.shown, nodes]
    omega
  | .dict _, h => by simp [tiny] at h
theorem tiny_all : ∀ xs : List PyData, tinyAll xs = true → PyData.showableAll xs = true ∧ PyData.hasDictAll xs = false ∧
    ((PyData.shownAll xs).map (·.length)).sum + 2 * (PyData.shownAll xs).length ≤ 1100 * nodesAll xs
  | [], _ => ⟨by simp [PyData.showableAll], by simp [PyData.hasDictAll], by simp [PyData.shownAll]⟩
  | x :: xs, h => by
    have h' : tiny x = true ∧ tinyAll xs = true := by simpa [tinyAll] using h
    obtain ⟨a1, a2, a3⟩ := tiny_facts x h'.1
    obtain ⟨b1, b2, b3⟩ := tiny_all xs h'.2
    refine ⟨by simp [PyData.showableAll, a1, b1], by simp [PyData.hasDictAll, a2, b2], ?_⟩
    simp only [PyData.shownAll, nodesAll, List.map_cons, List.sum_cons, List.length_cons]
    omega
end
theorem show_of {d : PyData} (h : tiny d = true) (hd : d.depth ≤ 40) (hn : nodes d ≤ 15000) : Show d := by
  obtain ⟨a, b, c⟩ := tiny_facts d h
  refine ⟨a, b, hd, Nat.le_trans (Nat.le_trans (Nat.le_add_right _ 2) c) (Nat.le_trans (Nat.mul_le_mul_left 1100 hn) (by decide))⟩
end BV

namespace BV
open PySem L2
/-! ### sums of a row -/
theorem sum_add (f g : Nat → Int) : ∀ l : List Nat, (l.map fun q => f q + g q).sum = (l.map f).sum + (l.map g).sum
  | [] => rfl
  | a :: l => by
    simp only [List.map_cons, List.sum_cons, sum_add f g l]
    omega
theorem sum_at (n x : Nat) (c : Int) : ((List.range n).map fun q => if q = x then c else (0 : Int)).sum = if x < n then c else 0 := by
  induction n with
  | zero => rfl
  | succ n ih =>
    rw [List.range_succ, List.map_append, List.sum_append, ih]
    simp only [List.map_cons, List.map_nil, List.sum_cons, List.sum_nil]
    by_cases h : n = x
    · subst h
      simp
    · by_cases h2 : x < n
      · have : x < n + 1 := by omega
        simp [h, h2, this]
      · have : ¬ x < n + 1 := by omega
        simp [h, h2, this]
theorem sum_none (n : Nat) : ((List.range n).map fun (_ : Nat) => (0 : Int)).sum = 0 := by
  induction n with
  | zero => rfl
  | succ n ih =>
    rw [List.range_succ, List.map_append, List.sum_append, ih]
    rfl
def delta (t : Tie) (p q : Nat) : Int :=
  (if p = t.1 then ((if q = t.1 then 1 else 0) + (if q = t.2 then -1 else 0)) else 0) + (if p = t.2 then ((if q = t.2 then 1 else 0) + (if q = t.1 then -1 else 0)) else 0)
theorem entry_cons (t : Tie) (ts : List Tie) (h : t.1 < t.2) (p q : Nat) : entry (t :: ts) p q = entry ts p q + delta t p q := by
  obtain ⟨a, b⟩ := t
  have h : a < b := h
  unfold entry delta
  rw [List.countP_cons, List.countP_cons]
  unfold meets joins
  by_cases e : p = q
  · subst e
    by_cases ea : p = a
    · subst ea
      have : ¬ p = b := by omega
      have : ¬ b = p := by omega
      simp_all
    · by_cases eb : p = b
      · subst eb
        have : ¬ a = p := by omega
        simp_all
      · have : ¬ a = p := fun z => ea z.symm
        have : ¬ b = p := fun z => eb z.symm
        simp_all
  · by_cases e1 : p = a ∧ q = b
    · obtain ⟨rfl, rfl⟩ := e1
      have h1 : ¬ q = p := fun z => e z.symm
      simp_all
      omega
    · by_cases e2 : p = b ∧ q = a
      · obtain ⟨rfl, rfl⟩ := e2
        have h1 : ¬ q = p := fun z => e z.symm
        simp_all
        omega
      · have h5 : ((a == p && b == q) || (a == q && b == p)) = false := by
          rw [Bool.or_eq_false_iff, Bool.and_eq_false_iff, Bool.and_eq_false_iff]
          simp only [beq_eq_false_iff_ne]
          omega
        simp only [e, if_false, h5, Bool.false_eq_true, Nat.add_zero]
        by_cases ea : p = a
        · subst ea
          have q1 : ¬ q = p := fun z => e z.symm
          have q2 : ¬ q = b := fun z => e1 ⟨rfl, z⟩
          have q3 : ¬ p = b := by omega
          simp [q1, q2, q3]
        · by_cases eb : p = b
          · subst eb
            have q1 : ¬ q = p := fun z => e z.symm
            have q2 : ¬ q = a := fun z => e2 ⟨rfl, z⟩
            simp [q1, q2, ea]
          · simp [ea, eb]
theorem delta_sum (t : Tie) (n p : Nat) (h : t.1 < t.2) (h2 : t.2 < n) : ((List.range n).map fun q => delta t p q).sum = 0 := by
  unfold delta
  rw [sum_add]
  have h1 : t.1 < n := by omega
  by_cases ea : p = t.1
  · have eb : ¬ p = t.2 := by omega
    simp only [if_pos ea, if_neg eb]
    rw [sum_add, sum_at, sum_at, sum_none, if_pos h1, if_pos h2]
    rfl
  · by_cases eb : p = t.2
    · simp only [if_neg ea, if_pos eb]
      rw [sum_add, sum_at, sum_at, sum_none, if_pos h1, if_pos h2]
      rfl
    · simp only [if_neg ea, if_neg eb]
      rw [sum_none]
      rfl
theorem entry_sum (n p : Nat) : ∀ ts : List Tie, (∀ t ∈ ts, t.1 < t.2 ∧ t.2 < n) → ((List.range n).map fun q => entry ts p q).sum = 0
  | [], _ => by
    have : (fun q => entry [] p q) = fun _ => (0 : Int) := by
      funext q
      unfold entry
      by_cases e : p = q <;> simp [e]
    rw [this]
    exact sum_none n
  | t :: ts, h => by
    have ht := h t (List.mem_cons_self ..)
    have : (fun q => entry (t :: ts) p q) = fun q => entry ts p q + delta t p q := by
      funext q
      exact entry_cons t ts ht.1 p q
    rw [this, sum_add, entry_sum n p ts fun u hu => h u (List.mem_cons_of_mem _ hu), delta_sum t n p ht.1 ht.2]
    rfl
theorem entry_symm (ts : List Tie) (p q : Nat) : entry ts p q = entry ts q p := by
  unfold entry
  by_cases e : p = q
  · subst e
    rfl
  · have e' : ¬ q = p := fun z => e z.symm
    rw [if_neg e, if_neg e']
    congr 2
    have : joins p q = joins q p := by
      funext t
      unfold joins
      rw [Bool.or_comm]
    rw [this]
theorem entry_perm {ts us : List Tie} (h : ts.Perm us) (p q : Nat) : entry ts p q = entry us p q := by
  unfold entry
  rw [h.countP_eq, h.countP_eq]
theorem deg_len : ∀ (ts : List Tie) (p : Nat), (tiesAt ts p).length = ts.countP (meets p) := by
  intro ts p
  have key : ∀ i, i ≤ ts.length → ((List.range i).filter (hit ts p)).length = (ts.take i).countP (meets p) := by
    intro i
    induction i with
    | zero => intro _; rfl
    | succ i ih =>
      intro hi
      have hg : ts[i]? = some ts[i] := by simp [show i < ts.length by omega]
      rw [range_filter_succ, List.length_append, ih (by omega), List.take_add_one, hg, List.countP_append, hit_at hg]
      show _ = _ + List.countP (meets p) [ts[i]]
      rw [List.countP_singleton]
      show _ + (if meets p ts[i] = true then [i] else []).length = _
      by_cases h : meets p ts[i] = true
      · rw [if_pos h, if_pos h]; rfl
      · rw [if_neg h, if_neg h]; rfl
  have := key ts.length (Nat.le_refl _)
  rw [List.take_of_length_le (Nat.le_refl _)] at this
  exact this
theorem joins_pair {p q : Nat} {t : Tie} (h : t.1 < t.2) (e : p ≠ q) : joins p q t = decide (t = (min p q, max p q)) := by
  obtain ⟨a, b⟩ := t
  have h : a < b := h
  unfold joins
  rcases Nat.lt_or_ge p q with z | z
  · have e1 : min p q = p := by omega
    have e2 : max p q = q := by omega
    rw [e1, e2]
    by_cases c : a = p ∧ b = q
    · obtain ⟨rfl, rfl⟩ := c
      simp
    · have c' : ¬ ((a, b) = (p, q)) := fun z => c (Prod.mk.inj z)
      rw [decide_eq_false c', Bool.or_eq_false_iff, Bool.and_eq_false_iff, Bool.and_eq_false_iff]
      simp only [beq_eq_false_iff_ne]
      omega
  · have e1 : min p q = q := by omega
    have e2 : max p q = p := by omega
    rw [e1, e2]
    by_cases c : a = q ∧ b = p
    · obtain ⟨rfl, rfl⟩ := c
      simp
    · have c' : ¬ ((a, b) = (q, p)) := fun z => c (Prod.mk.inj z)
      rw [decide_eq_false c', Bool.or_eq_false_iff, Bool.and_eq_false_iff, Bool.and_eq_false_iff]
      simp only [beq_eq_false_iff_ne]
      omega
/-! ### each tie is at two places -/
def seen (ts : List Tie) (i k : Nat) : Int := match ts[k]? with
  | some t => (if t.1 < i then 1 else 0) + (if t.2 < i then 1 else 0)
  | none => 0
theorem seen_zero (ts : List Tie) (k : Nat) : seen ts 0 k = 0 := by
  unfold seen
  split <;> simp
theorem seen_succ {ts : List Tie} {i k : Nat} (h : ∀ t ∈ ts, t.1 < t.2) : seen ts (i + 1) k = seen ts i k + if hit ts i k = true then 1 else 0 := by
  unfold seen hit
  cases e : ts[k]? with
  | none => simp
  | some t =>
    have ht := h t (List.mem_of_getElem? e)
    obtain ⟨a, b⟩ := t
    have ht : a < b := ht
    simp only [Bool.or_eq_true, beq_iff_eq]
    by_cases h1 : a = i
    · subst h1
      have c1 : ¬ b < a := by omega
      have c2 : ¬ b < a + 1 := by omega
      simp [c1, c2]
    · by_cases h2 : b = i
      · subst h2
        have c1 : a < b := ht
        have c2 : a < b + 1 := by omega
        simp [c1, c2]
      · simp only [h1, h2, or_self, if_false]
        have c1 : (a < i + 1) = (a < i) := by apply propext; omega
        have c2 : (b < i + 1) = (b < i) := by apply propext; omega
        simp only [c1, c2]
        omega
theorem seen_all {ts : List Tie} {n k : Nat} (h : ∀ t ∈ ts, t.1 < t.2 ∧ t.2 < n) (hk : k < ts.length) : seen ts n k = 2 := by
  unfold seen
  have e : ts[k]? = some ts[k] := by simp [hk]
  rw [e]
  have ht := h ts[k] (List.getElem_mem hk)
  have h1 : ts[k].1 < n := by omega
  simp [h1, ht.2]
theorem mem_tiesAt {ts : List Tie} {p k : Nat} : k ∈ tiesAt ts p ↔ k < ts.length ∧ hit ts p k = true := by
  unfold tiesAt
  rw [List.mem_filter, List.mem_range]
theorem tiesAt_nodup (ts : List Tie) (p : Nat) : (tiesAt ts p).Nodup := (List.nodup_range (n := ts.length)).sublist List.filter_sublist
end BV

namespace BV
open PySem L2
theorem tAsg_by {te : TE} {g : TG} {D : Ends} {σ : L2.St} {H : Hp} (P : V → Hp → Prop) (cont : ∀ v H', P v H' → g v σ H' D.nx)
    (h : (∀ v H', P v H' → g v σ H' D.nx) → te σ H (fun x H1 => g x σ H1 D.nx)) : tAsg te g D σ H := h cont
theorem get_map {α β : Type} {f : α → β} {l : List α} {i : Nat} {y : β} (h : (l.map f)[i]? = some y) : ∃ x, l[i]? = some x ∧ y = f x := by
  rw [List.getElem?_map] at h
  cases e : l[i]? with
  | none =>
    rw [e] at h
    cases h
  | some x =>
    rw [e] at h
    exact ⟨x, rfl, (Option.some.inj h).symm⟩
theorem still_ints : ∀ ns : List Int, stillAll (ns.map PyData.int) = true
  | [] => by simp [stillAll]
  | n :: ns => by simp [stillAll, still, still_ints ns]
theorem ints_row (f : Nat → Int) (n : Nat) : ((List.range n).map fun q => PyData.int (f q)) = ((List.range n).map f).map PyData.int := by rw [List.map_map]; rfl
theorem ints_rowV (f : Nat → Int) (n : Nat) : ((List.range n).map fun q => V.int (f q)) = ((List.range n).map f).map V.int := by rw [List.map_map]; rfl
theorem still_row (ts : List Tie) (n p : Nat) : still (rowD ts n p) = true := by
  have h := still_ints ((List.range n).map fun q => entry ts p q)
  rw [← ints_row] at h
  simpa [rowD, still] using h
theorem still_rows (ts : List Tie) (n : Nat) : ∀ l : List Nat, stillAll (l.map (rowD ts n)) = true
  | [] => by simp [stillAll]
  | p :: l => by simp [stillAll, still_row, still_rows ts n l]

/-! ### what may be written as a text -/
theorem tiny_ints : ∀ ns : List Int, (∀ n ∈ ns, n.natAbs < 2 ^ 200) → tinyAll (ns.map PyData.int) = true ∧ nodesAll (ns.map PyData.int) = ns.length ∧ PyData.depthAll (ns.map PyData.int) = 0
  | [], _ => by simp [tinyAll, nodesAll, PyData.depthAll]
  | n :: ns, h => by
    obtain ⟨a, b, c⟩ := tiny_ints ns fun m hm => h m (List.mem_cons_of_mem _ hm)
    have hn := h n (List.mem_cons_self ..)
    have hl : n.natAbs.log2 < 300 := Nat.lt_of_lt_of_le (PySem.Flt.log2_lt_of (by decide) hn) (by decide)
    refine ⟨by simp [tinyAll, tiny, hl, a], ?_, by simp [PyData.depthAll, PyData.depth, c]⟩
    simp only [List.map_cons, nodesAll, nodes, b, List.length_cons]
    omega
theorem tiny_row (f : Nat → Int) (n : Nat) (h : ∀ q, (f q).natAbs < 2 ^ 200) : tiny (.tuple ((List.range n).map fun q => .int (f q))) = true ∧
    nodes (.tuple ((List.range n).map fun q => .int (f q))) = n + 1 ∧ (PyData.tuple ((List.range n).map fun q => .int (f q))).depth = 1 := by
  rw [ints_row]
  obtain ⟨a, b, c⟩ := tiny_ints ((List.range n).map f) fun m hm => by
    obtain ⟨q, _, rfl⟩ := List.mem_map.mp hm
    exact h q
  refine ⟨by simp only [tiny, a], ?_, by simp only [PyData.depth, c]⟩
  simp only [nodes, b, List.length_map, List.length_range]
theorem show_lot (ks : List Nat) (h : ∀ k ∈ ks, k < 100000) (hl : ks.length ≤ 1000) : Show (lotD ks) := by
  have e : lotD ks = .tuple ((ks.map fun (k : Nat) => (k : Int)).map PyData.int) := by unfold lotD; rw [List.map_map]; rfl
  obtain ⟨a, b, c⟩ := tiny_ints (ks.map fun (k : Nat) => (k : Int)) fun m hm => by
    obtain ⟨q, hq, rfl⟩ := List.mem_map.mp hm
    have := h q hq
    have e2 : ((q : Int)).natAbs = q := by omega
    rw [e2]
    exact Nat.lt_of_lt_of_le this (by decide)
  rw [e]
  refine show_of (by simp only [tiny, a]) (by simp only [PyData.depth, c]; decide) ?_
  simp only [nodes, b, List.length_map]
  omega
theorem entry_small (ts : List Tie) (hl : ts.length ≤ 100000) (p q : Nat) : (entry ts p q).natAbs < 2 ^ 200 := by
  have h1 := List.countP_le_length (p := meets p) (l := ts)
  have h2 := List.countP_le_length (p := joins p q) (l := ts)
  have : (entry ts p q).natAbs ≤ 100000 := by
    unfold entry
    split <;> omega
  exact Nat.lt_of_le_of_lt this (by decide)
theorem tiny_rows (ts : List Tie) (n : Nat) (hl : ts.length ≤ 100000) : ∀ l : List Nat, tinyAll (l.map (rowD ts n)) = true ∧ nodesAll (l.map (rowD ts n)) = l.length * (n + 1) ∧ PyData.depthAll (l.map (rowD ts n)) ≤ 1
  | [] => by simp [tinyAll, nodesAll, PyData.depthAll]
  | p :: l => by
    obtain ⟨a, b, c⟩ := tiny_rows ts n hl l
    obtain ⟨a1, b1, c1⟩ := tiny_row (entry ts p) n fun q => entry_small ts hl p q
    refine ⟨?_, ?_, ?_⟩
    · simp only [List.map_cons, tinyAll, a, Bool.and_true]
      exact a1
    · simp only [List.map_cons, nodesAll, b, List.length_cons]
      have : nodes (rowD ts n p) = n + 1 := b1
      rw [this, Nat.succ_mul]
      omega
    · simp only [List.map_cons, PyData.depthAll]
      have : (rowD ts n p).depth = 1 := c1
      omega
theorem show_mat (n : Nat) (ts : List Tie) (hl : ts.length ≤ 100000) (hn : n ≤ 100) : Show (matD n ts) := by
  obtain ⟨a, b, c⟩ := tiny_rows ts n hl (List.range n)
  refine show_of (by simp [matD, tiny, a]) (by simp only [matD, PyData.depth]; omega) ?_
  simp only [matD, nodes, b, List.length_range]
  have := Nat.mul_le_mul hn (Nat.add_le_add_right hn 1)
  omega
theorem tiny_ties : ∀ ts : List Tie, (∀ t ∈ ts, t.1 < 100000 ∧ t.2 < 100000) → tinyAll (ts.map tieD) = true ∧ nodesAll (ts.map tieD) = 3 * ts.length ∧ PyData.depthAll (ts.map tieD) ≤ 1
  | [], _ => by simp [tinyAll, nodesAll, PyData.depthAll]
  | t :: ts, h => by
    obtain ⟨a, b, c⟩ := tiny_ties ts fun m hm => h m (List.mem_cons_of_mem _ hm)
    have ht := h t (List.mem_cons_self ..)
    obtain ⟨a1, b1, c1⟩ := tiny_ints [(t.1 : Int), (t.2 : Int)] fun m hm => by
      have e1 : (2 : Nat) ^ 200 > 100000 := by decide
      rcases List.mem_cons.mp hm with rfl | hm
      · omega
      · obtain rfl := List.mem_singleton.mp hm
        omega
    have e : tieD t = .tuple ([(t.1 : Int), (t.2 : Int)].map PyData.int) := rfl
    refine ⟨?_, ?_, ?_⟩
    · simp only [List.map_cons, tinyAll, a, Bool.and_true]
      rw [e]
      simp only [tiny]
      exact a1
    · have e2 : nodes (tieD t) = 3 := by
        rw [e]
        simp only [nodes, b1]
        rfl
      simp only [List.map_cons, nodesAll, b, e2, List.length_cons]
      omega
    · have e3 : (tieD t).depth = 1 := by
        rw [e]
        simp only [PyData.depth, c1]
      simp only [List.map_cons, PyData.depthAll, e3]
      omega
theorem show_web (n : Nat) (ts : List Tie) (h : ∀ t ∈ ts, t.1 < 100000 ∧ t.2 < 100000) (hn : n < 100000) (hl : ts.length ≤ 4000) : Show (webD n ts) := by
  obtain ⟨a, b, c⟩ := tiny_ties ts h
  have e : ((n : Int)).natAbs.log2 < 300 := by
    have : ((n : Int)).natAbs < 2 ^ 200 := Nat.lt_of_lt_of_le (show ((n : Int)).natAbs < 100000 by omega) (by decide)
    exact Nat.lt_of_lt_of_le (PySem.Flt.log2_lt_of (by decide) this) (by decide)
  refine show_of ?_ ?_ ?_
  · simp only [webD, tiesD, tiny, tinyAll, a, decide_eq_true e, Bool.and_self]
  · simp only [webD, tiesD, PyData.depth, PyData.depthAll]
    omega
  · simp only [webD, tiesD, nodes, nodesAll, b]
    omega

/-! ### the numbers of the ties at a place, by a comprehension -/
theorem lc_hits {K : PySem.W.Frag} {te : TE} {σ : L2.St} {H : Hp} {c : Addr} {ys : List V} {ts : List Tie} {p ik ie ip : Nat} {Q : VK}
    (hc : SqT K H c ys) (hys : DpAll K H ys (ts.map tieD)) (hl : ts.length ≤ 3000) (hte : ∀ Q : VK, Q (.ref c) H → te σ H Q)
    (hw : ∀ v u, wipe (((wipe σ [ik, ie]).set ik v).set ie u) [ik, ie] = wipe σ [ik, ie])
    (hk : ∀ v u, (((wipe σ [ik, ie]).set ik v).set ie u)[ik]? = some v) (he : ∀ v u, (((wipe σ [ik, ie]).set ik v).set ie u)[ie]? = some u)
    (hp : ∀ v u, (((wipe σ [ik, ie]).set ik v).set ie u)[ip]? = some (some (.int (p : Int))))
    (h : ∀ D H', H' D = some (.lst ((tiesAt ts p).map fun (k : Nat) => V.int k)) → Same H H' → H D = none → Q (.ref D) H') :
    tLc (iEnumT K (tCons te tNil)) (gTup K 2 (gCons (gName ik) (gCons (gName ie) gNil))) (tTest (tOp (rIn K false) (tVar ip) (tVar ie))) (tVar ik) [ik, ie] σ H Q := by
  have hyl : ys.length = ts.length := by rw [dpAll_len hys, List.length_map]
  refine hte _ ?_
  refine ⟨c, ys, rfl, hc, fun D hD => ?_⟩
  refine lc_run walk_enumT hD (fun i acc _ => acc = ((List.range i).filter (hit ts p)).map fun (k : Nat) => V.int k) ?_ ?_ ?_ ?_
  · exact fun H' s => sqT_same s hc
  · rfl
  · rintro i x acc H2 H' hi hacc e s r ⟨q, u, y, rfl, hq, rfl, hu, hy⟩
    cases hu
    obtain ⟨d, hd, hv⟩ := dpAll_get hys hy
    obtain ⟨t', ht', rfl⟩ := get_map hd
    have sq : Same H2 (upd H2 q (.tup [.int (i : Nat), y])) := same_new hq
    obtain ⟨pa, rfl, hpa⟩ := dp_tie (dp_same (s.trans sq) _ hv)
    refine ⟨q, _, rfl, SqT.of upd_same, rfl, _, _, rfl, _, _, rfl, rfl, hw _ _, ?_⟩
    refine ⟨_, hp _ _, _, he _ _, pa, _, rfl, .inr hpa, rfl, rfl, _, rfl, ?_⟩
    show (if inV (.int (p : Int)) [.int t'.1, .int t'.2] = true then _ else _)
    have hacc2 : ((List.range i).filter (hit ts p)).length ≤ i := Nat.le_trans (List.length_filter_le _ _) (by rw [List.length_range]; exact Nat.le_refl _)
    have hin : inV (.int (p : Int)) [.int t'.1, .int t'.2] = hit ts p i := by rw [inv_tie, hit_at ht']
    have r' : acc = ((List.range i).filter (hit ts p)).map fun (k : Nat) => V.int k := r
    rw [hin]
    refine ite2 (fun hh => ?_) (fun hh => ?_)
    · refine ⟨_, hk _ _, ?_⟩
      refine lc_add hacc e sq (by rw [r', List.length_map]; omega) ?_
      rw [range_filter_succ, if_pos hh, List.map_append, r']
      rfl
    · refine lc_skip hacc e sq ?_
      rw [range_filter_succ, if_neg hh, List.append_nil]
      exact r'
  · rintro acc H2 h1 s2 r
    have r' : acc = ((List.range ys.length).filter (hit ts p)).map fun (k : Nat) => V.int k := r
    rw [hyl] at r'
    refine h D H2 ?_ s2 hD
    rw [h1, r']
    rfl
theorem dp_lot {K : PySem.W.Frag} {H : Hp} {u : Addr} {ks : List Nat} (h : H u = some (.tup (ks.map fun (k : Nat) => V.int k))) : Dp K H (.ref u) (lotD ks) := by
  refine .tup (SqT.of h) ?_
  have e2 : (ks.map fun (k : Nat) => PyData.int k) = (ks.map fun (k : Nat) => (k : Int)).map PyData.int := by rw [List.map_map]; rfl
  have e3 : (ks.map fun (k : Nat) => V.int k) = (ks.map fun (k : Nat) => (k : Int)).map V.int := by rw [List.map_map]; rfl
  rw [e2, e3]
  exact dpAll_ints _
/-- the equal ones counted by a comprehension of ones -/
theorem lc_pairs {K : PySem.W.Frag} {tp : TE} {σ : L2.St} {H : Hp} {c : Addr} {ys : List V} {ts : List Tie} {x y ic ie : Nat} {Q : VK}
    (hc : SqT K H c ys) (hys : DpAll K H ys (ts.map tieD)) (hl : ts.length ≤ 3000) (hcs : σ[ic]? = some (some (.ref c)))
    (hw : ∀ u, wipe ((wipe σ [ie]).set ie u) [ie] = wipe σ [ie]) (he : ∀ u, ((wipe σ [ie]).set ie u)[ie]? = some u)
    (htp : ∀ u H' (Q : VK), (∀ p, H' p = none → Q (.ref p) (upd H' p (.tup [.int (x : Int), .int (y : Int)]))) → tp ((wipe σ [ie]).set ie u) H' Q)
    (h : ∀ D H', H' D = some (.lst (List.replicate (ts.countP fun t => decide (t = (x, y))) (V.int 1))) → Same H H' → H D = none → Q (.ref D) H') :
    tLc (iTup K (tVar ic)) (gName ie) (tTest (tOp (rEqD K) (tVar ie) tp)) (tC (.int 1)) [ie] σ H Q := by
  have hyl : ys.length = ts.length := by rw [dpAll_len hys, List.length_map]
  refine ⟨_, hcs, c, rfl, ⟨ys, hc⟩, fun D hD => ?_⟩
  refine lc_run (walk_tup (xs := ys)) hD (fun i acc _ => acc = List.replicate ((ts.take i).countP fun t => decide (t = (x, y))) (V.int 1)) ?_ ?_ ?_ ?_
  · exact fun H' s => sqT_same s hc
  · rfl
  · rintro i v acc H2 H' hi hacc e s r ⟨rfl, hv⟩
    obtain ⟨d, hd, hdp⟩ := dpAll_get hys hv
    obtain ⟨t, ht, rfl⟩ := get_map hd
    refine ⟨hw _, ?_⟩
    refine ⟨_, he _, htp _ _ _ fun q hq => ?_⟩
    have sq : Same H' (upd H' q (.tup [.int (x : Int), .int (y : Int)])) := same_new hq
    have s1 : SeqAt.shaped (tieD t) = true := by simp [SeqAt.shaped, tieD, PyData.canLay0, PyData.canLayAll0, PyData.depth, PyData.depthAll]
    have s2 : SeqAt.shaped (tieD (x, y)) = true := by simp [SeqAt.shaped, tieD, PyData.canLay0, PyData.canLayAll0, PyData.depth, PyData.depthAll]
    refine ⟨tieD t, tieD (x, y), dp_same (s.trans sq) _ hdp, .tup (SqT.of upd_same) (.cons (.int _) (.cons (.int _) .nil)), s1, s2, _, rfl, ?_⟩
    have r' : acc = List.replicate ((ts.take i).countP fun t => decide (t = (x, y))) (V.int 1) := r
    have hcl : (ts.take i).countP (fun t => decide (t = (x, y))) ≤ 3000 := Nat.le_trans List.countP_le_length (by rw [List.length_take]; omega)
    have hstep : (ts.take (i + 1)).countP (fun t => decide (t = (x, y))) = (ts.take i).countP (fun t => decide (t = (x, y))) + if t = (x, y) then 1 else 0 := by
      rw [List.take_add_one, ht, List.countP_append]
      show _ + List.countP _ [t] = _
      rw [List.countP_singleton]
      simp
    have heq : PyData.eqv (tieD t) (tieD (x, y)) = decide (t = (x, y)) := by
      obtain ⟨a, b⟩ := t
      have e1 : ∀ m n : Nat, (((m : Int)) == ((n : Int))) = decide (m = n) := fun m n => by
        by_cases z : m = n
        · subst z; simp
        · rw [decide_eq_false z]
          exact beq_eq_false_iff_ne.mpr fun w => z (by omega)
      have e2 : decide ((a, b) = (x, y)) = (decide (a = x) && decide (b = y)) := by
        rw [← Bool.decide_and]
        congr 1
        exact propext ⟨fun z => Prod.mk.inj z, fun z => by rw [z.1, z.2]⟩
      rw [e2]
      show (((a : Int) == (x : Int)) && (((b : Int) == (y : Int)) && true)) = _
      rw [e1, e1, Bool.and_true]
    rw [heq]
    refine ite2 (fun hh => ?_) (fun hh => ?_)
    · have hh' := of_decide_eq_true hh
      refine lc_add hacc e sq (by rw [r', List.length_replicate]; omega) ?_
      rw [hstep, if_pos hh', r', List.replicate_succ']
    · have hh' : ¬ t = (x, y) := fun z => hh (decide_eq_true z)
      refine lc_skip hacc e sq ?_
      rw [hstep, if_neg hh', Nat.add_zero]
      exact r'
  · rintro acc H2 h1 s2 r
    have r' : acc = List.replicate ((ts.take ys.length).countP fun t => decide (t = (x, y))) (V.int 1) := r
    rw [hyl, List.take_of_length_le (Nat.le_refl _)] at r'
    exact h D H2 (by rw [h1, r']) s2 hD
end BV

namespace BV
open PySem L2
theorem tupLc_by {K : PySem.W.Frag} {wi : TI} {g : TG} {tt : TT} {te : TE} {vs : List Nat} {σ : L2.St} {H : Hp} {i : Nat} {D : Ends}
    (h : tLc wi g tt te vs σ H (fun x H1 => rTupK K [x] H1 (fun v H2 => D.nx (σ.set i (some v)) H2))) :
    tAsg (tCB (rTupK K) (tCons (tLc wi g tt te vs) tNil)) (gName i) D σ H := h
theorem lenLc_by {K : PySem.W.Frag} {wi : TI} {g : TG} {tt : TT} {te : TE} {vs : List Nat} {σ : L2.St} {H : Hp} {i : Nat} {D : Ends}
    (h : tLc wi g tt te vs σ H (fun x H1 => rLenK K [x] H1 (fun v H2 => D.nx (σ.set i (some v)) H2))) :
    tAsg (tCB (rLenK K) (tCons (tLc wi g tt te vs) tNil)) (gName i) D σ H := h
end BV

namespace BV
open PySem L2
theorem reps (n : Nat) (v : V) : (List.replicate n [v]).flatten = (List.range n).map fun _ => v := by
  induction n with
  | zero => rfl
  | succ n ih =>
    rw [List.replicate_succ', List.flatten_append, ih, List.range_succ, List.map_append]
    rfl
theorem shaped_row (f : Nat → Int) (n : Nat) : SeqAt.shaped (.tuple ((List.range n).map fun q => .int (f q))) = true := by
  rw [ints_row]
  have h1 := lay_ints ((List.range n).map f)
  have h2 := deep_ints ((List.range n).map f)
  have h3 : PyData.depthAll (((List.range n).map f).map PyData.int) + 1 ≤ 64 := by omega
  simp only [SeqAt.shaped, PyData.canLay0, PyData.depth, h1, Bool.true_and]
  exact decide_eq_true h3
theorem dp_row {K : PySem.W.Frag} {H : Hp} {v : V} {f : Nat → Int} {n : Nat} (h : Dp K H v (.tuple ((List.range n).map fun q => .int (f q)))) :
    ∃ a, v = .ref a ∧ SqT K H a ((List.range n).map fun q => V.int (f q)) := by
  obtain ⟨a, xs, e, h1, h2⟩ := dp_tup h
  rw [ints_row] at h2
  rw [ints_rowV, ← dpAll_ints' h2]
  exact ⟨a, e, h1⟩
theorem eqv_self {d : PyData} (h : SeqAt.shaped d = true) : PyData.eqv d d = true := by
  have h1 : d.canLay0 = true := SeqAt.canLay_of_shaped h
  first | exact PySem.eqv_refl d h1 | exact PySem.P3.eqv_refl d h1 | exact PySem.SeqAt.eqv_refl d h1 | exact PyData.eqv_refl d h1
/-- nothing in it: two empty lists -/
theorem none_found {K : PySem.W.Frag} {H : Hp} {a b : Addr} (ha : H a = some (.lst [])) (hb : H b = some (.lst [])) :
    ∃ d e, Dp K H (.ref a) d ∧ Dp K H (.ref b) e ∧ SeqAt.shaped d = true ∧ SeqAt.shaped e = true ∧ PyData.eqv d e = true :=
  ⟨.list [], .list [], .lst (SqL.of ha) .nil, .lst (SqL.of hb) .nil, shaped_intsL [], shaped_intsL [], by rfl⟩
end BV

namespace BV
open PySem PySem.Spec PyProof.Rows L2

/-! ### t * k for k from 1 on: once is the tuple itself -/
theorem mul_once (l : Addr) (items : Array Value) (n : Nat) (dd : Option Addr) (sl : Array (Option Value)) (u : Tok) :
    Meets (Builtin.«tuple.__mul__» ⟨[.ref l, .int 1 u], []⟩) (fun _ R s => s.heap.get? l = some { cls := .type "tuple", dict := dd, data := .seq items n, slots := sl } ∧
      R (.ok (.ret (Value.ref l))) s) := by
  refine .of_wp fun prog w A R s h => ?_
  obtain ⟨hp, g, d, tk, os⟩ := s
  obtain ⟨hl, h⟩ := h
  have f1 := AutoSeq1.idx_int
  have c0 : (decide ((1 : Int) < -(2 ^ 63)) || decide ((1 : Int) ≥ 2 ^ 63)) = false := by decide
  have c1 : (items.isEmpty || (1 : Int) == 1) = true := by simp
  wp_walk using AutoSeq1.wpAny_loadPart' hl
  repeat (first
    | (refine wpAny_ite_false (decide_eq_false (by rw [c0]; exact Bool.false_ne_true)) ?_; wp_walk using AutoSeq1.wpAny_loadPart' hl)
    | (refine wpAny_ite_true (decide_eq_true c1) ?_; wp_walk using AutoSeq1.wpAny_loadPart' hl))
  exact ⟨_, rfl, h⟩
def rRepT1 (K : PySem.W.Frag) : R2 := fun x y H Q => ∃ l k xs, x = .ref l ∧ y = .int k ∧ SqT K H l xs ∧ xs ≠ [] ∧ 1 ≤ k ∧ k ≤ 1000 ∧ xs.length ≤ 1000 ∧
  (k = 1 → Q (.ref l) H) ∧ (2 ≤ k → ∀ p, H p = none → Q (.ref p) (upd H p (.tup (List.replicate k.toNat xs).flatten)))
theorem op_repT1 {X : Cx} (K : PySem.W.Frag) (hK : X.K = K := by rfl) : OpR X (binaryOp .Mult) (rRepT1 K) := by
  subst hK
  intro pins s σ H x y v u Q I rx ry h
  obtain ⟨l, k, xs, rfl, rfl, hT, hne, h1, h2, hz, q1, q2⟩ := h
  by_cases hk : k = 1
  · subst hk
    cases rx
    obtain ⟨t, rfl⟩ := ry
    obtain ⟨its, r, ⟨⟨cls, dd, data, sl⟩, ho, hc, n, hd⟩, hs⟩ := I.tuple hT
    simp only at hc hd
    subst hc hd
    refine wpAny_binaryOp_repeat_ref (T := "tuple") (U := "int") (by decide) ⟨_, ho, rfl⟩ (fun s' => typeIs_int s' 1 t) noFill_tuple_mul F.fills_int_mul F.slot_int_rmul repeat_tuple F.slot_int_index.lookup ?_
    refine call_meets F.slot_int_rmul (typeIs_int s 1 t) F.entry_int_rmul (F.args_int_rmul_2 _ _) (int_rmul_tuple 1 t l its.toArray n dd sl) ⟨ho, rfl, ⟨_, ho, rfl⟩, ?_⟩
    refine call_meets F.slot_tuple_mul ⟨_, ho, rfl⟩ F.entry_tuple_mul (F.args_tuple_mul_2 _ _) (mul_once l its.toArray n dd sl t) ⟨ho, ?_⟩
    exact ⟨.ref l, H, I, rfl, q1 rfl⟩
  · exact op_repT pins s σ H (.ref l) (.int k) v u Q I rx ry ⟨l, k, xs, rfl, rfl, hT, hne, by omega, h2, hz, q2 (by omega)⟩
end BV

namespace BV
open PySem L2
theorem mat_perm {ts us : List Tie} (h : ts.Perm us) (n : Nat) : matD n ts = matD n us := by
  unfold matD rowD
  congr 2
  funext p
  congr 2
  funext q
  rw [entry_perm h]
theorem dpAll_rev {K : PySem.W.Frag} {H : Hp} : ∀ {ds : List PyData} {vs : List V}, DpAll K H vs ds → DpAll K H vs.reverse ds.reverse
  | [], _, h => by cases h; exact .nil
  | d :: ds, _, h => by
    cases h with
    | cons h1 h2 =>
      rw [List.reverse_cons, List.reverse_cons]
      exact dpAll_app (dpAll_rev h2) (.cons h1 .nil)
theorem flat_one (k : Nat) (v : V) : (List.replicate k [v]).flatten = List.replicate k v := by
  induction k with
  | zero => rfl
  | succ k ih =>
    rw [List.replicate_succ, List.flatten_cons, ih, List.replicate_succ]
    rfl
theorem dp_fat {K : PySem.W.Frag} {H : Hp} {z t1 : Addr} {k : Nat} (hz : SqT K H z (List.replicate k (.ref t1))) (ht : SqT K H t1 [.int 0, .int 1]) :
    Dp K H (.ref z) (tiesD (List.replicate k (0, 1))) := by
  refine .tup hz ?_
  clear hz
  induction k with
  | zero => exact .nil
  | succ k ih =>
    rw [List.replicate_succ, List.replicate_succ, List.map_cons]
    exact .cons (.tup ht (.cons (.int _) (.cons (.int _) .nil))) ih
end BV

namespace BV
open PySem L2 RZ

/-! ### further rules that name the written part -/
section
variable {X : Cx} (K : PySem.W.Frag)
theorem slTA (h : X.K = K := by rfl) : SlR X (rSlA K) := by
  subst h
  exact sl_tupA
def rListK (K : PySem.W.Frag) : List V → Hp → VK → Prop := fun xs H Q => ∃ p ys, xs = [.ref p] ∧ (SqL K H p ys ∨ SqT K H p ys) ∧ ∀ l, H l = none → Q (.ref l) (upd H l (.lst ys))
theorem listK (h : X.K = K := by rfl) : CallR X (.type "list") (rListK K) := by
  subst h
  exact call_list_of
theorem revL {e : Expr} {te : TE} {k : Nat} {p1 p2 p3 pos : Pos} (he : PE X e te) (h : X.K = K := by rfl) :
    PE X (.Subscript e (.Slice none none (some (.UnaryOp .USub (.Constant (.int 1) k p1) p2)) p3) pos) (tRevL K te) := by
  subst h
  exact pe_revL he
theorem zipA {e e2 : Expr} {ta : TA} {p pos tpos : Pos} {elts : List Expr} {kk : Nat} (hg : Gl X "zip") (hm : X.mg "zip" = none) (ha : PA X [e, e2] ta)
    (hs : starEach [e, e2] X.env = (false, eval e X.env) :: starEach [e2] X.env := by rfl) (hpl : (backTo pos (starEach [e2] X.env)).any (·.1) = false := by rfl) (h : X.K = K := by rfl) :
    PI X (.Tuple elts kk tpos) (.Call (.Name "zip" p) [e, e2] [] pos) (iZipA K ta) := by
  subst h
  exact pi_zipA hg hm ha hs hpl
theorem rgc {a b c : Expr} {tg : Expr} {ta : TA} {p pos : Pos} (hg : Gl X "range") (hm : X.mg "range" = none) (ha : PA X [a, b, c] ta)
    (hs : starEach [a, b, c] X.env = (false, eval a X.env) :: starEach [b, c] X.env := by rfl) (hpl : (backTo pos (starEach [b, c] X.env)).any (·.1) = false := by rfl) :
    PI X tg (.Call (.Name "range" p) [a, b, c] [] pos) (iRng3 ta) := pi_range3 hg hm ha hs hpl
end
theorem walk_zipT {K : PySem.W.Frag} {a b : Addr} {xs ys : List V} (hl : xs.length = ys.length) :
    Walk (ItzT K a b) xs.length (fun H => SqT K H a xs ∧ SqT K H b ys) (YPair (fun i => xs[i]?) (fun i => ys[i]?)) := by
  refine ⟨fun i H hi q => ?_, fun H q => ⟨xs, ys, q.1, q.2, .inl (Nat.le_refl _)⟩, fun i H v H' _ q y => ?_⟩
  · have h2 : i < ys.length := by omega
    exact ⟨xs, ys, xs[i], ys[i], q.1, q.2, by simp [hi], by simp [h2]⟩
  · obtain ⟨T, x, z, h1, h2, h3, h4, h5⟩ := y
    exact ⟨T, x, z, h1, h2, h3, h4 xs q.1, h5 ys q.2⟩
theorem tAnd_by {ta : TT} {tb : TT} {σ : L2.St} {H : Hp} {Q : Bool → Hp → Prop} (h : tAnd ta tb σ H Q) : tAnd ta tb σ H Q := h

/-! ### numbers on ties -/
def numsD (L : Nat) (f : Nat → Int) : PyData := .tuple ((List.range L).map fun k => .int (f k))
def numsV (L : Nat) (f : Nat → Int) : List V := (List.range L).map fun k => V.int (f k)
theorem dp_nums {K : PySem.W.Frag} {H : Hp} {v : V} {L : Nat} {f : Nat → Int} (h : Dp K H v (numsD L f)) : ∃ a, v = .ref a ∧ SqT K H a (numsV L f) := dp_row h
theorem nums_dp {K : PySem.W.Frag} {H : Hp} {a : Addr} {L : Nat} {f : Nat → Int} (h : SqT K H a (numsV L f)) : Dp K H (.ref a) (numsD L f) := by
  refine .tup h ?_
  unfold numsV
  rw [ints_row, ints_rowV]
  exact dpAll_ints _
theorem numsV_len (L : Nat) (f : Nat → Int) : (numsV L f).length = L := by simp [numsV]
theorem numsV_get {L : Nat} {f : Nat → Int} {k : Nat} (h : k < L) : (numsV L f)[k]? = some (.int (f k)) := by
  unfold numsV
  rw [List.getElem?_map, List.getElem?_range h]
  rfl
theorem numsV_set (L : Nat) (f : Nat → Int) (k : Nat) (z : Int) : (numsV L f).set k (.int z) = numsV L (fun j => if j = k then z else f j) := by
  unfold numsV
  rw [range_set]
  apply List.map_congr_left
  intro j _
  by_cases h : j = k <;> simp [h]
theorem numsV_congr {L : Nat} {f g : Nat → Int} (h : ∀ k, k < L → f k = g k) : numsV L f = numsV L g :=
  List.map_congr_left fun k hk => by rw [h k (List.mem_range.mp hk)]
theorem numsD_congr {L : Nat} {f g : Nat → Int} (h : ∀ k, k < L → f k = g k) : numsD L f = numsD L g := by
  unfold numsD
  congr 1
  exact List.map_congr_left fun k hk => by rw [h k (List.mem_range.mp hk)]
theorem still_nums (L : Nat) (f : Nat → Int) : still (numsD L f) = true := by
  have h := still_ints ((List.range L).map f)
  rw [← ints_row] at h
  simpa [numsD, still] using h

/-! ### deeds -/
inductive Deed where
  | star (p : Nat) (t : Int) | round (ks : List Nat) (t : Int)
namespace Deed
def times : Deed → Int
  | star _ t => t
  | round _ t => t
def about : Deed → PyData
  | star p _ => .int p
  | round ks _ => lotD ks
def word : Deed → Str
  | star _ _ => "star"
  | round _ _ => "round"
def neg : Deed → Deed
  | star p t => star p (-t)
  | round ks t => round ks (-t)
def D (d : Deed) : PyData := .tuple [.str d.word, d.about, .int d.times]
def touch (ts : List Tie) : Deed → Nat → Bool
  | star p _, k => hit ts p k
  | round ks _, k => decide (k ∈ ks)
def part (ts : List Tie) (d : Deed) (k : Nat) : Int := if d.touch ts k = true then d.times else 0
def Ok (ts : List Tie) : Deed → Prop
  | star _ _ => True
  | round ks _ => (∀ k ∈ ks, k < ts.length) ∧ ks.Nodup
end Deed
/-- the numbers behind some deeds -/
def behind (ts : List Tie) (f : Nat → Int) : List Deed → Nat → Int
  | [] => f
  | d :: ds => behind ts (fun k => f k + d.part ts k) ds
def effect (ts : List Tie) (ds : List Deed) (k : Nat) : Int := (ds.map fun d => d.part ts k).sum
theorem behind_eq (ts : List Tie) : ∀ (ds : List Deed) (f : Nat → Int) (k : Nat), behind ts f ds k = f k + effect ts ds k
  | [], f, k => by simp [behind, effect]
  | d :: ds, f, k => by
    rw [behind, behind_eq ts ds]
    simp only [effect, List.map_cons, List.sum_cons]
    omega
theorem effect_perm {ts : List Tie} {ds es : List Deed} (h : ds.Perm es) (k : Nat) : effect ts ds k = effect ts es k := by
  induction h with
  | nil => rfl
  | cons d _ ih =>
    unfold effect at ih ⊢
    simp only [List.map_cons, List.sum_cons, ih]
  | swap a b l =>
    unfold effect
    simp only [List.map_cons, List.sum_cons]
    omega
  | trans _ _ ih1 ih2 => rw [ih1, ih2]
theorem effect_app (ts : List Tie) (ds es : List Deed) (k : Nat) : effect ts (ds ++ es) k = effect ts ds k + effect ts es k := by
  unfold effect
  rw [List.map_append, List.sum_append]
theorem touch_neg (ts : List Tie) (d : Deed) (k : Nat) : d.neg.touch ts k = d.touch ts k := by cases d <;> rfl
theorem part_neg (ts : List Tie) (d : Deed) (k : Nat) : d.neg.part ts k = -(d.part ts k) := by
  unfold Deed.part
  rw [touch_neg]
  split
  · cases d <;> rfl
  · rfl
theorem effect_neg (ts : List Tie) : ∀ (ds : List Deed) (k : Nat), effect ts (ds.map Deed.neg) k = -(effect ts ds k)
  | [], k => rfl
  | d :: ds, k => by
    have := effect_neg ts ds k
    unfold effect at this ⊢
    simp only [List.map_cons, List.sum_cons, this, part_neg]
    omega
theorem still_deed (d : Deed) : still d.D = true := by
  cases d with
  | star p t => simp [Deed.D, Deed.about, still, stillAll]
  | round ks t =>
    have h : stillAll (ks.map fun (k : Nat) => PyData.int k) = true := by
      have e : (ks.map fun (k : Nat) => PyData.int k) = (ks.map fun (k : Nat) => (k : Int)).map PyData.int := by rw [List.map_map]; rfl
      rw [e]
      exact still_ints _
    simp [Deed.D, Deed.about, still, stillAll, lotD, h]
theorem still_deeds : ∀ ds : List Deed, stillAll (ds.map Deed.D) = true
  | [] => by simp [stillAll]
  | d :: ds => by simp [stillAll, still_deed, still_deeds ds]
theorem still_lot (ks : List Nat) : still (lotD ks) = true := by
  have e : (ks.map fun (k : Nat) => PyData.int k) = (ks.map fun (k : Nat) => (k : Int)).map PyData.int := by rw [List.map_map]; rfl
  simp only [lotD, still, e]
  exact still_ints _
theorem dp_deed {K : PySem.W.Frag} {H : Hp} {v : V} {d : Deed} (h : Dp K H v d.D) :
    ∃ a va, v = .ref a ∧ SqT K H a [.str d.word, va, .int d.times] ∧ Dp K H va d.about := by
  obtain ⟨a, xs, e, h1, h2⟩ := dp_tup h
  cases h2 with
  | cons q1 q2 =>
    cases q1
    cases q2 with
    | cons q3 q4 =>
      cases q4 with
      | cons q5 q6 =>
        cases q5
        cases q6
        exact ⟨a, _, e, h1, q3⟩
theorem dp_lotI {K : PySem.W.Frag} {H : Hp} {v : V} {ks : List Nat} (h : Dp K H v (lotD ks)) : ∃ a, v = .ref a ∧ SqT K H a (ks.map fun (k : Nat) => V.int k) := by
  obtain ⟨a, xs, e, h1, h2⟩ := dp_tup h
  have e2 : (ks.map fun (k : Nat) => PyData.int k) = (ks.map fun (k : Nat) => (k : Int)).map PyData.int := by rw [List.map_map]; rfl
  have e3 : (ks.map fun (k : Nat) => V.int k) = (ks.map fun (k : Nat) => (k : Int)).map V.int := by rw [List.map_map]; rfl
  rw [e2] at h2
  rw [e3, ← dpAll_ints' h2]
  exact ⟨a, e, h1⟩
def spDo (K : PySem.W.Frag) : Sp := fun vs H Q _ => ∃ (v dv : V) (l : Addr) (n : Nat) (ts : List Tie) (d : Deed) (f : Nat → Int), vs = [v, .ref l, dv] ∧
  Dp K H v (webD n ts) ∧ Dp K H dv d.D ∧ d.Ok ts ∧ ts.length ≤ 3000 ∧ H l = some (.lst (numsV ts.length f)) ∧
  ∀ H', Kp l l H H' → H' l = some (.lst (numsV ts.length fun k => f k + d.part ts k)) → Q .non H'
def spDone (K : PySem.W.Frag) : Sp := fun vs H Q _ => ∃ (v sv dv : V) (n : Nat) (ts : List Tie) (f : Nat → Int) (ds : List Deed), vs = [v, sv, dv] ∧
  Dp K H v (webD n ts) ∧ Dp K H sv (numsD ts.length f) ∧ Dp K H dv (.tuple (ds.map Deed.D)) ∧ (∀ d ∈ ds, d.Ok ts) ∧ ts.length ≤ 3000 ∧
  ∀ u H', Same H H' → Dp K H' u (numsD ts.length (behind ts f ds)) → Q u H'
def spUndone (K : PySem.W.Frag) : Sp := fun vs H Q _ => ∃ (dv : V) (ds : List Deed), vs = [dv] ∧ Dp K H dv (.tuple (ds.map Deed.D)) ∧ ds.length ≤ 3000 ∧
  ∀ u H', Same H H' → Dp K H' u (.tuple ((ds.reverse.map Deed.neg).map Deed.D)) → Q u H'
def spDiff (K : PySem.W.Frag) : Sp := fun vs H Q _ => ∃ (v u : V) (L : Nat) (f g : Nat → Int), vs = [v, u] ∧ Dp K H v (numsD L f) ∧ Dp K H u (numsD L g) ∧ L ≤ 3000 ∧
  ∀ z H', Same H H' → Dp K H' z (numsD L fun k => g k - f k) → Q z H'
end BV

namespace BV
open PySem L2
/-! ### small data, that may be written as a text -/
structure Sm (d : PyData) (c k : Nat) : Prop where
  t : tiny d = true
  n : nodes d ≤ c
  p : d.depth ≤ k
theorem Sm.mono {d : PyData} {c k c' k' : Nat} (h : Sm d c k) (h1 : c ≤ c') (h2 : k ≤ k') : Sm d c' k' := ⟨h.t, Nat.le_trans h.n h1, Nat.le_trans h.p h2⟩
theorem sm_all {c k : Nat} : ∀ ds : List PyData, (∀ d ∈ ds, Sm d c k) → tinyAll ds = true ∧ nodesAll ds ≤ ds.length * c ∧ PyData.depthAll ds ≤ k
  | [], _ => by simp [tinyAll, nodesAll, PyData.depthAll]
  | d :: ds, h => by
    obtain ⟨a, b, e⟩ := sm_all ds fun m hm => h m (List.mem_cons_of_mem _ hm)
    obtain ⟨a1, b1, e1⟩ := h d (List.mem_cons_self ..)
    refine ⟨by simp only [tinyAll, a, a1, Bool.and_self], ?_, ?_⟩
    · simp only [nodesAll, List.length_cons]
      rw [Nat.succ_mul]
      omega
    · simp only [PyData.depthAll]
      omega
theorem sm_tup {ds : List PyData} {c k : Nat} (h : ∀ d ∈ ds, Sm d c k) : Sm (.tuple ds) (ds.length * c + 1) (k + 1) := by
  obtain ⟨a, b, e⟩ := sm_all ds h
  refine ⟨by simpa only [tiny] using a, by simp only [nodes]; omega, by simp only [PyData.depth]; omega⟩
theorem sm_lst {ds : List PyData} {c k : Nat} (h : ∀ d ∈ ds, Sm d c k) : Sm (.list ds) (ds.length * c + 1) (k + 1) := by
  obtain ⟨a, b, e⟩ := sm_all ds h
  refine ⟨by simpa only [tiny] using a, by simp only [nodes]; omega, by simp only [PyData.depth]; omega⟩
theorem sm_show {d : PyData} {c k : Nat} (h : Sm d c k) (hc : c ≤ 15000) (hk : k ≤ 40) : Show d := show_of h.t (Nat.le_trans h.p hk) (Nat.le_trans h.n hc)
theorem sm_int {z : Int} (h : z.natAbs < 2 ^ 200) : Sm (.int z) 1 0 := by
  have hl : z.natAbs.log2 < 300 := Nat.lt_of_lt_of_le (PySem.Flt.log2_lt_of (by decide) h) (by decide)
  exact ⟨by simp only [tiny, hl, decide_true], by simp only [nodes]; exact Nat.le_refl _, by simp only [PyData.depth]; exact Nat.le_refl _⟩
theorem sm_nat {k : Nat} (h : k < 100000) : Sm (.int (k : Int)) 1 0 := sm_int (Nat.lt_of_lt_of_le (show ((k : Int)).natAbs < 100000 by omega) (by decide))
theorem sm_lot {ks : List Nat} (h : ∀ k ∈ ks, k < 100000) : Sm (lotD ks) (ks.length + 1) 1 := by
  have := sm_tup (ds := ks.map fun (k : Nat) => PyData.int k) (c := 1) (k := 0) fun d hd => by
    obtain ⟨k, hk, rfl⟩ := List.mem_map.mp hd
    exact sm_nat (h k hk)
  rw [List.length_map, Nat.mul_one] at this
  exact this
theorem sm_nums {L : Nat} {f : Nat → Int} (h : ∀ k, (f k).natAbs < 2 ^ 200) : Sm (numsD L f) (L + 1) 1 := by
  have := sm_tup (ds := (List.range L).map fun k => PyData.int (f k)) (c := 1) (k := 0) fun d hd => by
    obtain ⟨k, hk, rfl⟩ := List.mem_map.mp hd
    exact sm_int (h k)
  rw [List.length_map, List.length_range, Nat.mul_one] at this
  exact this
theorem sm_tie {t : Tie} (h : t.1 < 100000 ∧ t.2 < 100000) : Sm (tieD t) 3 1 :=
  sm_tup (ds := [.int t.1, .int t.2]) (c := 1) (k := 0) fun d hd => by
    rcases List.mem_cons.mp hd with rfl | hd
    · exact sm_nat h.1
    · obtain rfl := List.mem_singleton.mp hd
      exact sm_nat h.2
theorem sm_web {n : Nat} {ts : List Tie} (h : ∀ t ∈ ts, t.1 < 100000 ∧ t.2 < 100000) (hn : n < 100000) : Sm (webD n ts) (6 * ts.length + 3) 3 := by
  have h1 : Sm (tiesD ts) (ts.length * 3 + 1) 2 := by
    have := sm_tup (ds := ts.map tieD) (c := 3) (k := 1) fun d hd => by
      obtain ⟨k, hk, rfl⟩ := List.mem_map.mp hd
      exact sm_tie (h k hk)
    rw [List.length_map] at this
    exact this
  have h2 := sm_tup (ds := [.int n, tiesD ts]) (c := ts.length * 3 + 1) (k := 2) fun d hd => by
    rcases List.mem_cons.mp hd with rfl | hd
    · exact (sm_nat hn).mono (by omega) (by omega)
    · obtain rfl := List.mem_singleton.mp hd
      exact h1
  exact h2.mono (by show 2 * (ts.length * 3 + 1) + 1 ≤ _; omega) (Nat.le_refl _)
theorem sm_deed {d : Deed} {m : Nat} (h1 : d.times.natAbs < 2 ^ 200) (h2 : Sm d.about m 1) (hm : 1 ≤ m) : Sm d.D (3 * m + 1) 2 := by
  refine sm_tup (ds := [.str d.word, d.about, .int d.times]) (c := m) (k := 1) fun e he => ?_
  rcases List.mem_cons.mp he with rfl | he
  · refine ⟨?_, by simp only [nodes]; exact hm, by simp only [PyData.depth]; omega⟩
    cases d with
    | star p t => show tiny (.str "star") = true; decide
    | round ks t => show tiny (.str "round") = true; decide
  · rcases List.mem_cons.mp he with rfl | he
    · exact h2
    · obtain rfl := List.mem_singleton.mp he
      exact (sm_int h1).mono hm (by omega)
theorem sm_deeds {ds : List Deed} {m : Nat} (h : ∀ d ∈ ds, d.times.natAbs < 2 ^ 200 ∧ Sm d.about m 1) (hm : 1 ≤ m) : Sm (.tuple (ds.map Deed.D)) (ds.length * (3 * m + 1) + 1) 3 := by
  have := sm_tup (ds := ds.map Deed.D) (c := 3 * m + 1) (k := 2) fun e he => by
    obtain ⟨d, hd, rfl⟩ := List.mem_map.mp he
    exact sm_deed (h d hd).1 (h d hd).2 hm
  rw [List.length_map] at this
  exact this
/-- how much some deeds can do -/
theorem effect_abs {ts : List Tie} {B : Nat} : ∀ (ds : List Deed) (k : Nat), (∀ d ∈ ds, d.times.natAbs ≤ B) → (effect ts ds k).natAbs ≤ ds.length * B
  | [], k, _ => by simp [effect]
  | d :: ds, k, h => by
    have ih := effect_abs (ts := ts) ds k fun m hm => h m (List.mem_cons_of_mem _ hm)
    have hd := h d (List.mem_cons_self ..)
    have hp : (d.part ts k).natAbs ≤ B := by
      unfold Deed.part
      split
      · exact hd
      · simp
    unfold effect at ih ⊢
    simp only [List.map_cons, List.sum_cons, List.length_cons]
    rw [Nat.succ_mul]
    omega
theorem behind_abs {ts : List Tie} {B M : Nat} {f : Nat → Int} (ds : List Deed) (k : Nat) (h : ∀ d ∈ ds, d.times.natAbs ≤ B) (hf : ∀ k, (f k).natAbs ≤ M) :
    (behind ts f ds k).natAbs ≤ M + ds.length * B := by
  rw [behind_eq]
  have h1 := effect_abs (ts := ts) ds k h
  have h2 := hf k
  omega
theorem neg_neg (d : Deed) : d.neg.neg = d := by
  cases d <;> simp [Deed.neg]
theorem map_neg_neg (ds : List Deed) : (ds.map Deed.neg).map Deed.neg = ds := by
  rw [List.map_map]
  have : Deed.neg ∘ Deed.neg = id := funext neg_neg
  rw [this, List.map_id]
end BV
namespace BV
open PySem L2
theorem atI_last {xs : List V} {v : V} (h0 : 0 < xs.length) (h : xs[xs.length - 1]? = some v) : atI xs (-1) = some v := by
  have e : ixN xs.length (-1) = some (xs.length - 1) := by
    unfold ixN
    rw [if_neg (by omega), if_pos (by omega)]
    congr 1
    omega
  unfold atI
  rw [e]
  exact h
end BV
namespace BV
open PySem L2
theorem dpAll_take {K : PySem.W.Frag} {H : Hp} : ∀ {ds : List PyData} {vs : List V} (j : Nat), DpAll K H vs ds → DpAll K H (vs.take j) (ds.take j)
  | [], _, j, h => by cases h; simpa using DpAll.nil
  | d :: ds, _, 0, h => .nil
  | d :: ds, _, j + 1, h => by
    cases h with
    | cons h1 h2 => exact .cons h1 (dpAll_take j h2)
theorem dpAll_drop {K : PySem.W.Frag} {H : Hp} : ∀ {ds : List PyData} {vs : List V} (j : Nat), DpAll K H vs ds → DpAll K H (vs.drop j) (ds.drop j)
  | [], _, j, h => by cases h; simpa using DpAll.nil
  | d :: ds, _, 0, h => h
  | d :: ds, _, j + 1, h => by
    cases h with
    | cons h1 h2 => exact dpAll_drop j h2
theorem sIx_nat (n d j : Nat) : HT.sIx n d (some (j : Int)) = min j n := by
  unfold HT.sIx
  show (if (j : Int) < 0 then _ else min (j : Int).toNat n) = _
  rw [if_neg (by omega), Int.toNat_natCast]
theorem cut_hi (xs : List V) (j : Nat) : cutV xs none (some (j : Int)) = xs.take j := by
  unfold cutV
  rw [sIx_nat]
  show List.take (min j xs.length - 0) (List.drop 0 xs) = _
  rw [Nat.sub_zero, List.drop_zero]
  by_cases h : j ≤ xs.length
  · rw [Nat.min_eq_left h]
  · rw [Nat.min_eq_right (by omega), List.take_of_length_le (Nat.le_refl _), List.take_of_length_le (by omega)]
theorem cut_lo (xs : List V) (j : Nat) : cutV xs (some (j : Int)) none = xs.drop j := by
  unfold cutV
  rw [sIx_nat]
  show List.take (xs.length - min j xs.length) (List.drop (min j xs.length) xs) = _
  by_cases h : j ≤ xs.length
  · rw [Nat.min_eq_left h]
    exact List.take_of_length_le (by rw [List.length_drop]; exact Nat.le_refl _)
  · rw [Nat.min_eq_right (by omega), List.drop_of_length_le (Nat.le_refl _), List.drop_of_length_le (by omega)]
    simp
theorem at_st {t : TS} {D : Ends} {σ : L2.St} {H : Hp} (σ' : L2.St) (e : σ = σ') (h : t D σ' H) : t D σ H := by
  subst e
  exact h
end BV
namespace BV
open PySem L2
theorem slA_by {K : PySem.W.Frag} {x : V} {lo hi : Option Int} {H : Hp} {Q : VK} {a : Addr} {xs : List V} (hx : x = .ref a) (h : SqT K H a xs)
    (k : ∀ (c : Addr) H', Same H H' → SqT K H' c (cutV xs lo hi) → Q (.ref c) H') : rSlA K x lo hi H Q := by
  refine ⟨a, xs, hx, h, fun z => k _ _ (Same.refl _) ?_, fun _ p hp => k _ _ (same_new hp) (SqT.of upd_same)⟩
  have e : cutV xs lo hi = xs := by
    unfold cutV
    rw [z.1, z.2, List.drop_zero, Nat.sub_zero, List.take_of_length_le (Nat.le_refl _)]
  rw [e]
  exact h
end BV

namespace BV
open PySem PySem.Spec PyProof.Rows L2
theorem cr_minT {X : Cx} (hc : X.calm = true) : CallR X (.builtin "min")
    (fun vs H Q => ∃ (a : Addr) (ns : List Int), vs = [V.ref a] ∧ SqT X.K H a (ns.map V.int) ∧ 0 < ns.length ∧ ∀ m, m ∈ ns → (∀ y ∈ ns, m ≤ y) → Q (.int m) H) := by
  intro pins s σ H vs us Q I r h
  obtain ⟨a, ns, rfl, hs, hpos, q⟩ := h
  obtain ⟨its, rv, hl, _⟩ := I.tuple hs
  rw [Vals.ref1 r]
  have hi := rv.ints
  obtain ⟨xs, e⟩ := hi.allInts.items
  have hn : numsOf (intItems xs).toList = ns := by rw [← e]; exact hi.numsOf
  rw [nums_intItems] at hn
  have hl2 : s.heap.IsTuple a its.toArray := hl
  rw [e] at hl2
  have hd := I.ok.hd hc
  have hsz : ns.length = xs.size := by rw [← hn]; simp
  have alt : a < s.heap.objs.size := by
    obtain ⟨o, h1, _⟩ := hl2
    exact Heap.lt_size h1
  have isz : (intItems xs).size = xs.size := by simp [intItems]
  refine call_min_walk (wpAny_pyIter_tuple hl2 ⟨_, _, _, _, _, _, _, rfl, Walks.tuple ?_ s.heap.objs.size a (Nat.ne_of_lt alt) (intItems xs), ⟨?_, ?_⟩, ?_, ?_, CmpOf.ints_lt (numAt xs) ?_, fun v h' tk hP hk => ?_⟩)
  · exact hd
  · exact ⟨_, Heap.get?_push_size _ rfl, rfl, rfl⟩
  · exact hl2.push _
  · intro b hb
    show b < (s.heap.objs.push _).size
    rw [Array.size_push]
    rcases List.mem_cons.mp hb with rfl | hb
    · exact Nat.lt_succ_self _
    · obtain rfl := List.mem_singleton.mp hb
      exact Nat.lt_succ_of_lt alt
  · rw [isz]
    omega
  · exact fun i v hv => intItems_at hv
  · rw [isz] at hP
    obtain ⟨t, rfl⟩ := intItems_at hP
    obtain ⟨b1, b2⟩ := argBest_lt (numAt xs) (xs.size - 1)
    refine ⟨.int _, H, I.kept fun b o hb => ?_, ⟨_, rfl⟩, ?_⟩
    · exact hk b o (fun z => by
        obtain rfl := List.mem_singleton.mp z
        exact Nat.lt_irrefl _ (Heap.lt_size hb)) (Heap.get?_push_of_some _ hb)
    · have nat : ∀ i, i < xs.size → numAt xs i ∈ ns ∧ True := fun i hi => by
        refine ⟨?_, trivial⟩
        rw [← hn]
        unfold numAt
        rw [Array.getElem?_eq_getElem hi]
        exact List.mem_map.mpr ⟨xs[i], by simp, rfl⟩
      refine q _ (nat _ (by omega)).1 fun y hy => ?_
      rw [← hn] at hy
      obtain ⟨p, hp, rfl⟩ := List.mem_map.mp hy
      obtain ⟨j, hj, rfl⟩ := List.mem_iff_getElem.mp hp
      have hj' : j < xs.size := by simpa using hj
      have := b2 j (by omega)
      have e2 : numAt xs j = (xs.toList[j]).1 := by
        unfold numAt
        rw [Array.getElem?_eq_getElem hj']
        simp
      rw [← e2]
      exact this
end BV
namespace BV
open PySem L2
section
variable {X : Cx} (K : PySem.W.Frag)
def rMinT (K : PySem.W.Frag) : List V → Hp → VK → Prop := fun vs H Q => ∃ (a : Addr) (ns : List Int), vs = [V.ref a] ∧ SqT K H a (ns.map V.int) ∧ 0 < ns.length ∧ ∀ m, m ∈ ns → (∀ y ∈ ns, m ≤ y) → Q (.int m) H
theorem minTK (hc : X.calm = true := by rfl) (h : X.K = K := by rfl) : CallR X (.builtin "min") (rMinT K) := by
  subst h
  exact cr_minT hc
theorem minLK (hc : X.calm = true := by rfl) (h : X.K = K := by rfl) : CallR X (.builtin "min") (rMin K) := by
  subst h
  exact cr_min hc
theorem anyLK (hc : X.calm = true := by rfl) (h : X.K = K := by rfl) : CallR X (.builtin "any") (rAny K) := by
  subst h
  exact cr_any hc
end
end BV

namespace BV
open PySem L2
section
variable {X : Cx} (K : PySem.W.Frag)
theorem catA (h : X.K = K := by rfl) : OpR X (binaryOp .Add) (rCatA K) := by
  subst h
  exact op_catA
end
theorem catA_by {K : PySem.W.Frag} {x y : V} {H : Hp} {Q : VK} {a b : Addr} {xs ys : List V} (hx : x = .ref a) (hy : y = .ref b) (h1 : SqT K H a xs) (h2 : SqT K H b ys) (hl : xs.length + ys.length ≤ 100000)
    (k : ∀ (c : Addr) H', Same H H' → SqT K H' c (xs ++ ys) → Q (.ref c) H') : rCatA K x y H Q := by
  refine ⟨a, b, xs, ys, hx, hy, h1, h2, Nat.le_trans hl (by decide), fun e => ?_, fun _ e => ?_, fun _ _ p hp => ?_⟩
  · subst e
    exact k _ _ (Same.refl _) h2
  · subst e
    exact k _ _ (Same.refl _) (by rw [List.append_nil]; exact h1)
  · exact k _ _ (same_new hp) (SqT.of upd_same)
theorem sqL_same {K : PySem.W.Frag} {H H' : Hp} {a : Addr} {xs : List V} (s : Same H H') (h : SqL K H a xs) : SqL K H' a xs := by
  rcases h with (h | ⟨o, h⟩) | h
  · exact .inl (.inl (s _ _ h))
  · exact .inl (.inr ⟨o, s _ _ h⟩)
  · exact .inr h
/-- [1 for z in zs if z < 0], walked to the place i -/
def Ones (zs : List Int) (i : Nat) (acc : List V) : Prop := ∃ m : Nat, acc = (List.replicate m (1 : Int)).map V.int ∧ m ≤ i ∧ (m = 0 ↔ ∀ z ∈ zs.take i, 0 ≤ z)
theorem Ones.yes {zs : List Int} {i : Nat} {acc : List V} {z : Int} (h : Ones zs i acc) (hz : zs[i]? = some z) (hn : z < 0) : Ones zs (i + 1) (acc ++ [.int 1]) := by
  obtain ⟨m, rfl, h1, _⟩ := h
  refine ⟨m + 1, ?_, by omega, ?_⟩
  · rw [List.replicate_succ', List.map_append]
    rfl
  · constructor
    · intro e
      omega
    · intro e
      have := e z (by rw [List.take_add_one, hz]; simp)
      omega
theorem Ones.no {zs : List Int} {i : Nat} {acc : List V} {z : Int} (h : Ones zs i acc) (hz : zs[i]? = some z) (hn : ¬ z < 0) : Ones zs (i + 1) acc := by
  obtain ⟨m, rfl, h1, h2⟩ := h
  refine ⟨m, rfl, by omega, ?_⟩
  rw [h2, List.take_add_one, hz]
  constructor
  · intro e x hx
    rcases List.mem_append.mp hx with q | q
    · exact e x q
    · have : x = z := by simpa using q
      omega
  · intro e x hx
    exact e x (List.mem_append_left _ hx)
theorem ones_eqv (m : Nat) : (PyData.list ((List.replicate m (1 : Int)).map PyData.int)).eqv (.list []) = decide (m = 0) := by
  cases m with
  | zero => rfl
  | succ m => rfl
end BV

namespace BV
open PySem PySem.Spec PyProof.Rows L2
/-! ### (v,) * k for any k from 0 on -/
theorem mul_none (l : Addr) (items : Array Value) (n : Nat) (dd : Option Addr) (sl : Array (Option Value)) (u : Tok) (hi : items.isEmpty = false) :
    Meets (Builtin.«tuple.__mul__» ⟨[.ref l, .int 0 u], []⟩) (fun _ R s => s.heap.get? l = some { cls := .type "tuple", dict := dd, data := .seq items n, slots := sl } ∧
      R (.ok (.ret (Value.ref s.heap.objs.size))) { s with heap := s.heap.push { cls := Value.type "tuple", data := Data.seq #[] }, toks := s.toks }) := by
  refine .of_wp fun prog w A R s h => ?_
  obtain ⟨hp, g, d, tk, os⟩ := s
  obtain ⟨hl, h⟩ := h
  have f1 := AutoSeq1.idx_int
  have c0 : (decide ((0 : Int) < -(2 ^ 63)) || decide ((0 : Int) ≥ 2 ^ 63)) = false := by decide
  have c1 : (items.isEmpty || (0 : Int) == 1) = false := by rw [hi]; rfl
  have c2 : (decide ((0 : Int) ≤ 0) || items.isEmpty) = true := by simp
  wp_walk using AutoSeq1.wpAny_loadPart' hl
  repeat (first
    | (refine wpAny_ite_false (decide_eq_false (by rw [c0]; exact Bool.false_ne_true)) ?_; wp_walk using AutoSeq1.wpAny_loadPart' hl)
    | (refine wpAny_ite_false (decide_eq_false (by rw [c1]; exact Bool.false_ne_true)) ?_; wp_walk using AutoSeq1.wpAny_loadPart' hl)
    | (refine wpAny_ite_true (decide_eq_true c2) ?_; wp_walk using AutoSeq1.wpAny_loadPart' hl))
  exact ⟨_, rfl, h⟩
def rRepN (K : PySem.W.Frag) : R2 := fun x y H Q => ∃ (l : Addr) (k : Nat) (v : V), x = .ref l ∧ y = .int (k : Int) ∧ SqT K H l [v] ∧ k ≤ 1000 ∧ ∀ (p : Addr) H', Same H H' → SqT K H' p (List.replicate k v) → Q (.ref p) H'
theorem flat_rep (k : Nat) (v : V) : (List.replicate k [v]).flatten = List.replicate k v := by
  induction k with
  | zero => rfl
  | succ k ih => rw [List.replicate_succ, List.flatten_cons, ih, List.replicate_succ]; rfl
theorem op_repN {X : Cx} (K : PySem.W.Frag) (hK : X.K = K := by rfl) : OpR X (binaryOp .Mult) (rRepN K) := by
  subst hK
  intro pins s σ H x y v u Q I rx ry h
  obtain ⟨l, k, w0, rfl, rfl, hT, hk, q⟩ := h
  by_cases h0 : k = 0
  · subst h0
    cases rx
    obtain ⟨t, rfl⟩ := ry
    obtain ⟨its, r, ⟨⟨cls, dd, data, sl⟩, ho, hc, n, hd⟩, hs⟩ := I.tuple hT
    simp only at hc hd
    subst hc hd
    have hi : its.toArray.isEmpty = false := by
      have := r.length
      cases its with
      | nil => simp at this
      | cons a b => rfl
    refine wpAny_binaryOp_repeat_ref (T := "tuple") (U := "int") (by decide) ⟨_, ho, rfl⟩ (fun s' => typeIs_int s' _ t) noFill_tuple_mul F.fills_int_mul F.slot_int_rmul repeat_tuple F.slot_int_index.lookup ?_
    refine call_meets F.slot_int_rmul (typeIs_int s _ t) F.entry_int_rmul (F.args_int_rmul_2 _ _) (int_rmul_tuple _ t l its.toArray n dd sl) ⟨ho, rfl, ⟨_, ho, rfl⟩, ?_⟩
    refine call_meets F.slot_tuple_mul ⟨_, ho, rfl⟩ F.entry_tuple_mul (F.args_tuple_mul_2 _ _) (mul_none l its.toArray n dd sl t hi) ⟨ho, ?_⟩
    have fr := I.hok.fresh (Nat.le_refl s.heap.objs.size)
    refine ⟨.ref s.heap.objs.size, _, I.laid (t' := s.toks) (o := .tup []) (fun b ob z => Heap.get?_push_of_some _ z) (Nat.le_refl _) ⟨Nat.zero_le _, [], .nil, IsTup.new _ _⟩, rfl, q _ _ (same_new fr) (SqT.of upd_same)⟩
  · refine op_repT1 X.K rfl pins s σ H (.ref l) (.int k) v u Q I rx ry ⟨l, k, [w0], rfl, rfl, hT, by simp, by omega, by omega, by simp, fun e => ?_, fun _ p hp => ?_⟩
    · have : k = 1 := by omega
      subst this
      exact q _ _ (Same.refl _) hT
    · refine q _ _ (same_new hp) (SqT.of ?_)
      rw [upd_same, Int.toNat_natCast, flat_rep]
end BV

namespace BV
open PySem L2
/-! ### comprehensions that draw -/
theorem era_kp {b g D : Addr} {H H' : Hp} (s : Kp b g H H') : Kp b g (era H D) (era H' D) := fun a o e n1 n2 => by
  by_cases h : a = D
  · subst h
    rw [era_at] at e
    cases e
  · rw [era_ne h] at e ⊢
    exact s _ _ e n1 n2
theorem box_era {b g D : Addr} {H : Hp} (x : Box H b g) (h1 : D ≠ b) (h2 : D ≠ g) : Box (era H D) b g := by
  obtain ⟨⟨st, c, x1⟩, ns, x2, x3⟩ := x
  exact ⟨⟨st, c, by rw [era_ne h1.symm]; exact x1⟩, ns, by rw [era_ne h2.symm]; exact x2, x3⟩
theorem bx_set {b g l : Addr} {H : Hp} {o : HO} (x : Box H b g) (h1 : l ≠ b) (h2 : l ≠ g) : Box (upd H l o) b g := by
  obtain ⟨⟨st, c, x1⟩, ns, x2, x3⟩ := x
  exact ⟨⟨st, c, by rw [upd_ne h1.symm]; exact x1⟩, ns, by rw [upd_ne h2.symm]; exact x2, x3⟩
theorem bx_ne {b g l : Addr} {H : Hp} (x : Box H b g) (h : H l = none) : l ≠ b ∧ l ≠ g := by
  obtain ⟨⟨st, c, x1⟩, ns, x2, x3⟩ := x
  exact ⟨fun e => (by rw [e, x1] at h; cases h), fun e => (by rw [e, x2] at h; cases h)⟩
/-- as LcI, with the box of draws -/
def LcB (b g : Addr) (H1 : Hp) (D : Addr) (R : Nat → List V → Hp → Prop) (i : Nat) (H : Hp) : Prop :=
  ∃ acc, H D = some (.lst acc) ∧ Kp b g H1 (era H D) ∧ Box H b g ∧ R i acc (era H D)
theorem lc_addB {b g : Addr} {H1 H H4 : Hp} {D : Addr} {R : Nat → List V → Hp → Prop} {i : Nat} {acc : List V} {y : V} (nb : D ≠ b) (ng : D ≠ g) (ha : H D = some (.lst acc))
    (e : Kp b g H1 (era H D)) (s : Kp b g H H4) (x : Box H4 b g) (hl : acc.length < 100000) (r : R i (acc ++ [y]) (era H4 D)) :
    ∃ acc, H4 D = some (.lst acc) ∧ acc.length < sizeLine ∧ LcB b g H1 D R i (upd H4 D (.lst (acc ++ [y]))) := by
  refine ⟨acc, s _ _ ha nb ng, Nat.lt_of_lt_of_le hl (by decide), acc ++ [y], upd_same, ?_, bx_set x nb ng, ?_⟩
  · rw [era_upd]
    exact e.trans (era_kp s)
  · rw [era_upd]
    exact r
theorem lc_skipB {b g : Addr} {H1 H H3 : Hp} {D : Addr} {R : Nat → List V → Hp → Prop} {i : Nat} {acc : List V} (nb : D ≠ b) (ng : D ≠ g) (ha : H D = some (.lst acc))
    (e : Kp b g H1 (era H D)) (s : Kp b g H H3) (x : Box H3 b g) (r : R i acc (era H3 D)) : LcB b g H1 D R i H3 :=
  ⟨acc, s _ _ ha nb ng, e.trans (era_kp s), x, r⟩
theorem lc_runB {b g0 : Addr} {J : It} {n : Nat} {G : Hp → Prop} {Y : Nat → Hp → V → Hp → Prop} (w : Walk J n G Y) {g : TG} {tt : TT} {te : TE} {vs : List Nat}
    {σ : L2.St} {H1 : Hp} {D : Addr} {Qd : Hp → Prop} (hD : H1 D = none) (hB : Box H1 b g0) (R : Nat → List V → Hp → Prop)
    (hG : ∀ H, Kp b g0 H1 H → Box H b g0 → G H) (h0 : R 0 [] H1)
    (hs : ∀ i x acc H H', D ≠ b → D ≠ g0 → i < n → H D = some (.lst acc) → Kp b g0 H1 (era H D) → Kp b g0 H1 H → Box H b g0 → R i acc (era H D) → Y i H x H' →
      g x (wipe σ vs) H' fun σ2 H2 => wipe σ2 vs = wipe σ vs ∧ tt σ2 H2 fun t H3 =>
        if t = true then te σ2 H3 fun y H4 => ∃ acc, H4 D = some (.lst acc) ∧ acc.length < sizeLine ∧ LcB b g0 H1 D R (i + 1) (upd H4 D (.lst (acc ++ [y])))
        else LcB b g0 H1 D R (i + 1) H3)
    (hd : ∀ acc H, H D = some (.lst acc) → Kp b g0 H1 H → Box H b g0 → R n acc (era H D) → Qd H) :
    ∃ W : Nat → Nat → Hp → Prop, (∃ m, W 0 m (upd H1 D (.lst []))) ∧ ∀ i m H, W i m H →
      (J.stop i H ∧ Qd H) ∨ (J.go i H ∧ ∃ Nx : Hp → Prop, (∀ H', Nx H' → ∃ m', m' < m ∧ W (i + 1) m' H') ∧
        ∀ x H', J.yld i H x H' → g x (wipe σ vs) H' fun σ2 H2 => wipe σ2 vs = wipe σ vs ∧ tt σ2 H2 fun b H3 =>
        if b = true then te σ2 H3 fun y H4 => ∃ acc, H4 D = some (.lst acc) ∧ acc.length < sizeLine ∧ Nx (upd H4 D (.lst (acc ++ [y]))) else Nx H3) := by
  obtain ⟨nb, ng⟩ := bx_ne hB hD
  have back : ∀ {H : Hp}, Kp b g0 H1 (era H D) → Kp b g0 H1 H := fun e => e.trans (Kp.same era_back)
  refine lc_it w (LcB b g0 H1 D R) ?_ ?_ ?_ ?_
  · exact ⟨[], upd_same, by rw [era_upd, era_none hD]; exact Kp.refl _, bx_set hB nb ng, by rw [era_upd, era_none hD]; exact h0⟩
  · rintro i H _ ⟨acc, _, e, x, _⟩
    exact hG H (back e) x
  · rintro i x acc' H' hi ⟨acc, ha, e, bx, r⟩ y
    exact hs i x acc _ _ nb ng hi ha e (back e) bx r y
  · rintro H ⟨acc, ha, e, bx, r⟩
    exact hd acc H ha (back e) bx r
end BV

namespace BV
open PySem L2
/-! ### ways, cuts, what is reached -/
inductive Way (ts : List Tie) (a : Nat) : List Nat → Nat → Prop
  | nil : Way ts a [] a
  | snoc {w : List Nat} {p k q : Nat} {t : Tie} : Way ts a w p → ts[k]? = some t → (t.1 = p ∧ t.2 = q ∨ t.2 = p ∧ t.1 = q) → Way ts a (w ++ [k]) q
def oddIn (w lot : List Nat) : Bool := decide ((w.filter fun k => decide (k ∈ lot)).length % 2 = 1)
theorem oddIn_snoc (w : List Nat) (k : Nat) (lot : List Nat) : oddIn (w ++ [k]) lot = Bool.xor (oddIn w lot) (decide (k ∈ lot)) := by
  unfold oddIn
  rw [List.filter_append, List.length_append]
  by_cases h : k ∈ lot
  · have e : ([k].filter fun k => decide (k ∈ lot)).length = 1 := by simp [h]
    rw [e, decide_eq_true h, Bool.xor_true, Bool.eq_iff_iff]
    simp only [decide_eq_true_eq, Bool.not_eq_true', decide_eq_false_iff_not]
    omega
  · have e : ([k].filter fun k => decide (k ∈ lot)).length = 0 := by simp [h]
    rw [e, decide_eq_false h, Bool.xor_false, Nat.add_zero]
def side (S : List Nat) (p : Nat) : Bool := decide (p ∈ S)
/-- the ties of the lot are those between unlike sides -/
def IsCutOf (ts : List Tie) (lot S : List Nat) : Prop := ∀ k t, ts[k]? = some t → decide (k ∈ lot) = Bool.xor (side S t.1) (side S t.2)
theorem way_side {ts : List Tie} {lot S : List Nat} (h : IsCutOf ts lot S) {a p : Nat} {w : List Nat} (hw : Way ts a w p) : oddIn w lot = Bool.xor (side S a) (side S p) := by
  induction hw with
  | nil => simp [oddIn]
  | snoc hw ht hq ih =>
    rw [oddIn_snoc, ih, h _ _ ht]
    rcases hq with ⟨e1, e2⟩ | ⟨e1, e2⟩
    · rw [e1, e2]
      cases side S a <;> cases side S _ <;> cases side S _ <;> rfl
    · rw [e1, e2]
      cases side S a <;> cases side S _ <;> cases side S _ <;> rfl
def crosses (ps : List Nat) (t : Tie) : Bool := !decide (decide (t.1 ∈ ps) = decide (t.2 ∈ ps))
def cutL (ts : List Tie) (ps : List Nat) : List Nat := (List.range ts.length).filter fun k => match ts[k]? with
  | some t => crosses ps t
  | none => false
theorem crosses_xor (ps : List Nat) (t : Tie) : crosses ps t = Bool.xor (side ps t.1) (side ps t.2) := by
  unfold crosses side
  cases decide (t.1 ∈ ps) <;> cases decide (t.2 ∈ ps) <;> rfl
theorem mem_cutL {ts : List Tie} {ps : List Nat} {k : Nat} : k ∈ cutL ts ps ↔ ∃ t, ts[k]? = some t ∧ crosses ps t = true := by
  unfold cutL
  rw [List.mem_filter, List.mem_range]
  constructor
  · rintro ⟨h1, h2⟩
    have ht : ts[k]? = some ts[k] := by simp [h1]
    rw [ht] at h2
    exact ⟨_, ht, h2⟩
  · rintro ⟨t, ht, hc⟩
    refine ⟨(List.getElem?_eq_some_iff.mp ht).1, ?_⟩
    rw [ht]
    exact hc
theorem cut_of_cutL (ts : List Tie) (ps : List Nat) : IsCutOf ts (cutL ts ps) ps := fun k t ht => by
  rw [← crosses_xor, Bool.eq_iff_iff, decide_eq_true_eq, mem_cutL]
  constructor
  · rintro ⟨t2, e, h⟩
    rw [ht] at e
    cases e
    exact h
  · exact fun h => ⟨t, ht, h⟩
theorem cutL_asc (ts : List Tie) (ps : List Nat) : (cutL ts ps).Pairwise (· < ·) := List.pairwise_lt_range.filter _
theorem asc_uniq {l m : List Nat} (hl : l.Pairwise (· < ·)) (hm : m.Pairwise (· < ·)) (h : ∀ k, k ∈ l ↔ k ∈ m) : l = m :=
  ((List.perm_ext_iff_of_nodup (hl.imp fun z => Nat.ne_of_lt z) (hm.imp fun z => Nat.ne_of_lt z)).mpr h).eq_of_pairwise (le := (· < ·)) (fun a b _ _ x y => absurd x (Nat.lt_asymm y)) hl hm
/-- a lot of L ties -/
def LotA (L : Nat) (ks : List Nat) : Prop := ks.Pairwise (· < ·) ∧ ∀ k ∈ ks, k < L
theorem cutL_lot (ts : List Tie) (ps : List Nat) : LotA ts.length (cutL ts ps) := ⟨cutL_asc ts ps, fun k hk => List.mem_range.mp (List.mem_filter.mp hk).1⟩
theorem cutL_of {ts : List Tie} {lot S : List Nat} (hl : LotA ts.length lot) (h : IsCutOf ts lot S) : cutL ts S = lot := by
  refine asc_uniq (cutL_asc ts S) hl.1 fun k => ?_
  rw [mem_cutL]
  constructor
  · rintro ⟨t, ht, hc⟩
    rw [crosses_xor, ← h k t ht] at hc
    exact of_decide_eq_true hc
  · intro hk
    have hlt := hl.2 k hk
    have ht : ts[k]? = some ts[k] := List.getElem?_eq_getElem hlt
    refine ⟨_, ht, ?_⟩
    rw [crosses_xor, ← h k _ ht]
    exact decide_eq_true hk
/-- everything hangs together -/
theorem all_found {n : Nat} {ts : List Tie} (hok : WebOk n ts) {F : Nat → Prop} (h0 : F 0) (hcl : ∀ t ∈ ts, F t.1 → F t.2) : ∀ p, p < n → F p := by
  intro p
  induction p using Nat.strongRecOn with
  | _ p ih =>
    intro hp
    by_cases h : p = 0
    · rw [h]
      exact h0
    · obtain ⟨q, hq, hm⟩ := hok.hang p (by omega) hp
      exact hcl (q, p) hm (ih q hq (by omega))
/-- the places on the other side than 0, by ways -/
def farL (n : Nat) (ws : Nat → List Nat) (lot : List Nat) : List Nat := (List.range n).filter fun p => oddIn (ws p) lot
theorem far_side {n : Nat} {ts : List Tie} {ws : Nat → List Nat} {lot S : List Nat} (hw : ∀ p, p < n → Way ts 0 (ws p) p) (h : IsCutOf ts lot S) {p : Nat} (hp : p < n) :
    side (farL n ws lot) p = Bool.xor (side S 0) (side S p) := by
  rw [← way_side h (hw p hp)]
  unfold side farL
  rw [Bool.eq_iff_iff, decide_eq_true_eq, List.mem_filter, List.mem_range]
  exact ⟨fun z => z.2, fun z => ⟨hp, z⟩⟩
theorem far_cut {n : Nat} {ts : List Tie} (hends : ∀ t ∈ ts, t.1 < t.2 ∧ t.2 < n) {ws : Nat → List Nat} {lot S : List Nat} (hl : LotA ts.length lot) (hw : ∀ p, p < n → Way ts 0 (ws p) p) (h : IsCutOf ts lot S) :
    cutL ts (farL n ws lot) = lot := by
  refine cutL_of hl fun k t ht => ?_
  have hm := hends t (List.mem_of_getElem? ht)
  rw [far_side hw h (show t.1 < n by omega), far_side hw h hm.2, h k t ht]
  cases side S 0 <;> cases side S t.1 <;> cases side S t.2 <;> rfl
theorem far_iff {n : Nat} {ts : List Tie} (hends : ∀ t ∈ ts, t.1 < t.2 ∧ t.2 < n) {ws : Nat → List Nat} {lot : List Nat} (hl : LotA ts.length lot) (hw : ∀ p, p < n → Way ts 0 (ws p) p) :
    cutL ts (farL n ws lot) = lot ↔ ∃ S, IsCutOf ts lot S :=
  ⟨fun e => ⟨_, by have := cut_of_cutL ts (farL n ws lot); rwa [e] at this⟩, fun ⟨S, h⟩ => far_cut hends hl hw h⟩
end BV

namespace BV
open PySem L2
/-! ### flows, by their sums over cuts -/
def sgn (t : Tie) (p : Nat) : Int := if t.1 = p then 1 else -1
def farT (t : Tie) (p : Nat) : Nat := if p = t.1 then t.2 else t.1
def bz (b : Bool) : Int := if b = true then 1 else 0
def cutSum (S : Nat → Bool) : List Tie → List Int → Int
  | t :: ts, f :: fs => (bz (S t.1) - bz (S t.2)) * f + cutSum S ts fs
  | _, _ => 0
def cutN (S : Nat → Bool) : List Tie → Nat
  | [] => 0
  | t :: ts => (if S t.1 = S t.2 then 0 else 1) + cutN S ts
/-- a flow's items -/
def Small (fs : List Int) : Prop := ∀ f ∈ fs, f = -1 ∨ f = 0 ∨ f = 1
theorem cutSum_le (S : Nat → Bool) : ∀ (ts : List Tie) (fs : List Int), fs.length = ts.length → Small fs → cutSum S ts fs ≤ cutN S ts
  | [], [], _, _ => by simp [cutSum, cutN]
  | t :: ts, f :: fs, hl, hs => by
    have ih := cutSum_le S ts fs (by simpa using hl) fun x hx => hs x (List.mem_cons_of_mem _ hx)
    have hf := hs f (List.mem_cons_self ..)
    simp only [cutSum, cutN]
    cases h1 : S t.1 <;> cases h2 : S t.2 <;> simp [bz] <;> omega
  | [], _ :: _, hl, _ => by simp at hl
  | _ :: _, [], hl, _ => by simp at hl
theorem cutSum_full (S : Nat → Bool) : ∀ (ts : List Tie) (fs : List Int), fs.length = ts.length →
    (∀ (k : Nat) (t : Tie) (f : Int), ts[k]? = some t → fs[k]? = some f → (S t.1 = true → S t.2 = false → f = 1) ∧ (S t.2 = true → S t.1 = false → f = -1)) → cutSum S ts fs = cutN S ts
  | [], [], _, _ => by simp [cutSum, cutN]
  | t :: ts, f :: fs, hl, hs => by
    have ih := cutSum_full S ts fs (by simpa using hl) fun k t f h1 h2 => hs (k + 1) t f (by simpa using h1) (by simpa using h2)
    obtain ⟨a, b⟩ := hs 0 t f rfl rfl
    simp only [cutSum, cutN]
    cases h1 : S t.1 <;> cases h2 : S t.2
    · simp [bz]; omega
    · have := b h2 h1
      simp [bz]; omega
    · have := a h1 h2
      simp [bz]; omega
    · simp [bz]; omega
  | [], _ :: _, hl, _ => by simp at hl
  | _ :: _, [], hl, _ => by simp at hl
theorem cutSum_set (S : Nat → Bool) : ∀ (ts : List Tie) (fs : List Int) (k : Nat) (t : Tie) (f s : Int), ts[k]? = some t → fs[k]? = some f → cutSum S ts (fs.set k (f + s)) = cutSum S ts fs + (bz (S t.1) - bz (S t.2)) * s
  | [], fs, k, t, f, s, h, _ => by simp at h
  | t0 :: ts, [], k, t, f, s, _, h => by simp at h
  | t0 :: ts, f0 :: fs, 0, t, f, s, h1, h2 => by
    have e1 : t0 = t := by simpa using h1
    have e2 : f0 = f := by simpa using h2
    subst e1
    subst e2
    simp only [List.set_cons_zero, cutSum, Int.mul_add]
    omega
  | t0 :: ts, f0 :: fs, k + 1, t, f, s, h1, h2 => by
    have ih := cutSum_set S ts fs k t f s (by simpa using h1) (by simpa using h2)
    simp only [List.set_cons_succ, cutSum, ih]
    omega
theorem cutSum_zero (S : Nat → Bool) : ∀ (ts : List Tie) (n : Nat), cutSum S ts (List.replicate n 0) = 0
  | [], n => by cases n <;> simp [cutSum, List.replicate]
  | t :: ts, 0 => by simp [cutSum]
  | t :: ts, n + 1 => by
    rw [List.replicate_succ]
    simp only [cutSum, cutSum_zero S ts n]
    omega
/-- steps along ties, each from the place where the one ahead ends -/
inductive Chain (ts : List Tie) : Nat → List (Nat × Nat) → Nat → Prop
  | nil (a : Nat) : Chain ts a [] a
  | cons {a k g : Nat} {t : Tie} {rest : List (Nat × Nat)} : ts[k]? = some t → (a = t.1 ∨ a = t.2) → Chain ts (farT t a) rest g → Chain ts a ((k, a) :: rest) g
theorem Chain.snoc {ts : List Tie} {a q k : Nat} {t : Tie} {st : List (Nat × Nat)} (h : Chain ts a st q) (ht : ts[k]? = some t) (hq : q = t.1 ∨ q = t.2) : Chain ts a (st ++ [(k, q)]) (farT t q) := by
  induction h with
  | nil a => exact .cons ht hq (.nil _)
  | cons h1 h2 h3 ih => exact .cons h1 h2 (ih hq)
def tieAt (ts : List Tie) (k : Nat) : Tie := ts.getD k (0, 0)
theorem tieAt_of {ts : List Tie} {k : Nat} {t : Tie} (h : ts[k]? = some t) : tieAt ts k = t := by
  unfold tieAt
  rw [List.getD_eq_getElem?_getD, h]
  rfl
/-- one step gone along -/
def goStep (ts : List Tie) (fs : List Int) (s : Nat × Nat) : List Int := fs.set s.1 (fs.getD s.1 0 + sgn (tieAt ts s.1) s.2)
def goAll (ts : List Tie) (fs : List Int) (st : List (Nat × Nat)) : List Int := st.foldl (goStep ts) fs
theorem goAll_len (ts : List Tie) : ∀ (st : List (Nat × Nat)) (fs : List Int), (goAll ts fs st).length = fs.length
  | [], fs => rfl
  | s :: st, fs => by
    show (goAll ts (goStep ts fs s) st).length = _
    rw [goAll_len ts st]
    exact List.length_set
theorem goAll_sum {S : Nat → Bool} {ts : List Tie} {a g : Nat} {st : List (Nat × Nat)} (hne : ∀ t ∈ ts, t.1 ≠ t.2) (h : Chain ts a st g) : ∀ fs : List Int, fs.length = ts.length → cutSum S ts (goAll ts fs st) = cutSum S ts fs + bz (S a) - bz (S g) := by
  induction h with
  | nil a =>
    intro fs _
    show cutSum S ts fs = _
    omega
  | @cons a k g t rest ht ha h ih =>
    intro fs hl
    have hk := (List.getElem?_eq_some_iff.mp ht).1
    have hf : fs[k]? = some (fs.getD k 0) := by
      rw [List.getD_eq_getElem?_getD, List.getElem?_eq_getElem (show k < fs.length by omega)]
      rfl
    show cutSum S ts (goAll ts (goStep ts fs (k, a)) rest) = _
    rw [ih _ (by unfold goStep; rw [List.length_set]; exact hl)]
    unfold goStep
    dsimp only
    rw [tieAt_of ht, cutSum_set S ts fs k t _ _ ht hf]
    have hn := hne t (List.mem_of_getElem? ht)
    rcases ha with rfl | rfl
    · rw [show sgn t t.1 = 1 from if_pos rfl, show farT t t.1 = t.2 from if_pos rfl]
      omega
    · rw [show sgn t t.2 = -1 from if_neg hn, show farT t t.2 = t.1 from if_neg hn.symm]
      omega
theorem goAll_small {ts : List Tie} : ∀ (st : List (Nat × Nat)) (fs : List Int), Small fs → (st.map (·.1)).Nodup → (∀ s ∈ st, s.1 < fs.length ∧ fs.getD s.1 0 ≠ sgn (tieAt ts s.1) s.2) → Small (goAll ts fs st)
  | [], fs, h, _, _ => h
  | s :: st, fs, h, hn, hs => by
    obtain ⟨hn1, hn2⟩ := List.nodup_cons.mp (show (s.1 :: st.map (·.1)).Nodup from hn)
    obtain ⟨h1, h2⟩ := hs s (List.mem_cons_self ..)
    refine goAll_small st (goStep ts fs s) (fun f hf => ?_) hn2 fun r hr => ?_
    · unfold goStep at hf
      rcases List.mem_or_eq_of_mem_set hf with q | q
      · exact h f q
      · have hm : fs.getD s.1 0 ∈ fs := by
          rw [List.getD_eq_getElem?_getD, List.getElem?_eq_getElem h1]
          exact List.getElem_mem h1
        have h3 := h _ hm
        have h4 : sgn (tieAt ts s.1) s.2 = 1 ∨ sgn (tieAt ts s.1) s.2 = -1 := by unfold sgn; split <;> simp
        omega
    · obtain ⟨h3, h4⟩ := hs r (List.mem_cons_of_mem _ hr)
      have ne : s.1 ≠ r.1 := fun e => hn1 (by rw [e]; exact List.mem_map_of_mem hr)
      unfold goStep
      refine ⟨by rw [List.length_set]; exact h3, ?_⟩
      rw [List.getD_eq_getElem?_getD, List.getElem?_set_ne ne, ← List.getD_eq_getElem?_getD]
      exact h4
/-! ### what a search finds: places, each but the first with a tie and the place from which it leads there -/
abbrev SL := List (Nat × Option (Nat × Nat))
def keysS (F : SL) : List Nat := F.map (·.1)
structure SrOk (ts : List Tie) (n start : Nat) (al : Nat → Int → Bool) (F : SL) : Prop where
  nd : (keysS F).Nodup
  lt : ∀ p ∈ keysS F, p < n
  st : F[0]? = some (start, none)
  no : ∀ (i p : Nat), F[i]? = some (p, none) → i = 0
  pr : ∀ (i p k q : Nat), F[i]? = some (p, some (k, q)) → ∃ t, ts[k]? = some t ∧ (q = t.1 ∨ q = t.2) ∧ p = farT t q ∧ al k (sgn t q) = true ∧ ∃ (j : Nat) (o : Option (Nat × Nat)), j < i ∧ F[j]? = some (q, o)
/-- all that leads on from p along the ties below m is found -/
def ShutS (ts : List Tie) (al : Nat → Int → Bool) (F : SL) (p m : Nat) : Prop := ∀ k t, k < m → ts[k]? = some t → (p = t.1 ∨ p = t.2) → al k (sgn t p) = true → farT t p ∈ keysS F
theorem sr_start {ts : List Tie} {n start : Nat} {al : Nat → Int → Bool} (h : start < n) : SrOk ts n start al [(start, none)] := by
  refine ⟨by simp [keysS], fun p hp => ?_, rfl, fun i p hi => ?_, fun i p k q hi => ?_⟩
  · have : p = start := by simpa [keysS] using hp
    omega
  · cases i with
    | zero => rfl
    | succ i => simp at hi
  · cases i with
    | zero => simp at hi
    | succ i => simp at hi
theorem keysS_snoc (F : SL) (x : Nat × Option (Nat × Nat)) : keysS (F ++ [x]) = keysS F ++ [x.1] := by unfold keysS; rw [List.map_append]; rfl
theorem sr_snoc {ts : List Tie} {n start : Nat} {al : Nat → Int → Bool} {F : SL} (h : SrOk ts n start al F) {k q : Nat} {t : Tie} (ht : ts[k]? = some t) (hq : q = t.1 ∨ q = t.2) (ha : al k (sgn t q) = true) (hk : q ∈ keysS F) (hn : farT t q ∉ keysS F) (hlt : farT t q < n) :
    SrOk ts n start al (F ++ [(farT t q, some (k, q))]) := by
  have hpos : 0 < F.length := (List.getElem?_eq_some_iff.mp h.st).1
  refine ⟨?_, fun p hp => ?_, by rw [List.getElem?_append_left hpos]; exact h.st, fun i p hi => ?_, fun i p k2 q2 hi => ?_⟩
  · rw [keysS_snoc]
    exact List.nodup_append.mpr ⟨h.nd, by simp, fun a ha b hb e => hn (by rw [List.mem_singleton.mp hb] at e; rw [e] at ha; exact ha)⟩
  · rw [keysS_snoc] at hp
    rcases List.mem_append.mp hp with z | z
    · exact h.lt p z
    · rw [List.mem_singleton.mp z]
      exact hlt
  · by_cases hi2 : i < F.length
    · rw [List.getElem?_append_left hi2] at hi
      exact h.no i p hi
    · rw [List.getElem?_append_right (by omega)] at hi
      have : i - F.length = 0 := by
        by_cases e : i - F.length = 0
        · exact e
        · rw [List.getElem?_eq_none (by simp; omega)] at hi
          cases hi
      rw [this] at hi
      simp at hi
  · by_cases hi2 : i < F.length
    · rw [List.getElem?_append_left hi2] at hi
      obtain ⟨t2, a1, a2, a3, a4, j, o, hj, ho⟩ := h.pr i p k2 q2 hi
      exact ⟨t2, a1, a2, a3, a4, j, o, hj, by rw [List.getElem?_append_left (by omega)]; exact ho⟩
    · rw [List.getElem?_append_right (by omega)] at hi
      have e0 : i - F.length = 0 := by
        by_cases e : i - F.length = 0
        · exact e
        · rw [List.getElem?_eq_none (by simp; omega)] at hi
          cases hi
      rw [e0] at hi
      simp at hi
      obtain ⟨rfl, rfl, rfl⟩ := hi
      obtain ⟨x, hx, e⟩ := List.mem_map.mp hk
      obtain ⟨j, hj⟩ := List.getElem?_of_mem hx
      have hjl := (List.getElem?_eq_some_iff.mp hj).1
      refine ⟨t, ht, hq, rfl, ha, j, x.2, by omega, ?_⟩
      rw [List.getElem?_append_left hjl, hj, ← e]
theorem key_uniq {F : SL} (h : (keysS F).Nodup) {i j p : Nat} {o1 o2 : Option (Nat × Nat)} (h1 : F[i]? = some (p, o1)) (h2 : F[j]? = some (p, o2)) : i = j := by
  have e1 : (keysS F)[i]? = some p := by unfold keysS; rw [List.getElem?_map, h1]; rfl
  have e2 : (keysS F)[j]? = some p := by unfold keysS; rw [List.getElem?_map, h2]; rfl
  obtain ⟨l1, q1⟩ := List.getElem?_eq_some_iff.mp e1
  obtain ⟨l2, q2⟩ := List.getElem?_eq_some_iff.mp e2
  exact (List.getElem_inj h).mp (q1.trans q2.symm)
theorem far_snd (t : Tie) : farT t t.2 = t.1 := by
  unfold farT
  split
  · assumption
  · rfl
theorem far_two {t : Tie} {a b : Nat} (ha : a = t.1 ∨ a = t.2) (hb : b = t.1 ∨ b = t.2) (h : farT t a ≠ farT t b) : a = farT t b := by
  have e1 : farT t t.1 = t.2 := if_pos rfl
  have e2 := far_snd t
  rcases ha with rfl | rfl <;> rcases hb with rfl | rfl
  · exact absurd rfl h
  · exact e2.symm
  · exact e1.symm
  · exact absurd rfl h
/-- steps that were found, by where they stand: ascending -/
def StepsAt (F : SL) (is : List Nat) (st : List (Nat × Nat)) : Prop := is.Pairwise (· < ·) ∧ is.length = st.length ∧ ∀ (m i : Nat) (s : Nat × Nat), is[m]? = some i → st[m]? = some s → ∃ p, F[i]? = some (p, some s)
theorem steps_nodup {ts : List Tie} {n start : Nat} {al : Nat → Int → Bool} {F : SL} (h : SrOk ts n start al F) {is : List Nat} {st : List (Nat × Nat)} (hs : StepsAt F is st) : (st.map (·.1)).Nodup := by
  obtain ⟨h1, h2, h3⟩ := hs
  rw [List.nodup_iff_pairwise_ne, List.pairwise_iff_getElem]
  intro m1 m2 hm1 hm2 hlt e
  rw [List.length_map] at hm1 hm2
  have f1 := h3 m1 _ _ (List.getElem?_eq_getElem (show m1 < is.length by omega)) (List.getElem?_eq_getElem hm1)
  have f2 := h3 m2 _ _ (List.getElem?_eq_getElem (show m2 < is.length by omega)) (List.getElem?_eq_getElem hm2)
  have hii := (List.pairwise_iff_getElem.mp h1) m1 m2 (by omega) (by omega) hlt
  rw [List.getElem_map, List.getElem_map] at e
  generalize is[m1] = i1 at f1 hii
  generalize is[m2] = i2 at f2 hii
  generalize st[m1] = s1 at f1 e
  generalize st[m2] = s2 at f2 e
  obtain ⟨k1, q1⟩ := s1
  obtain ⟨k2, q2⟩ := s2
  obtain ⟨p1, f1⟩ := f1
  obtain ⟨p2, f2⟩ := f2
  dsimp only at e
  subst e
  obtain ⟨t, a1, a2, a3, _, j1, o1, hj1, g1⟩ := h.pr _ _ _ _ f1
  obtain ⟨t', b1, b2, b3, _, j2, o2, hj2, g2⟩ := h.pr _ _ _ _ f2
  rw [a1] at b1
  obtain rfl := Option.some.inj b1
  by_cases ep : p1 = p2
  · subst ep
    have := key_uniq h.nd f1 f2
    omega
  · have e1 : q1 = p2 := by
      rw [b3]
      exact far_two a2 b2 (by rw [← a3, ← b3]; exact ep)
    have e2 : q2 = p1 := by
      rw [a3]
      exact far_two b2 a2 (by rw [← a3, ← b3]; exact fun z => ep z.symm)
    rw [e1] at g1
    rw [e2] at g2
    have := key_uniq h.nd g1 f2
    have := key_uniq h.nd g2 f1
    omega
end BV

namespace BV
open PySem L2
/-! what stands while a law goes on: the box, and data without lists in it -/
structure RC (K : PySem.W.Frag) (b g : Addr) (Hz H : Hp) (L : List (V × PyData)) : Prop where
  kp : Kp b g Hz H
  bx : Box H b g
  st : ∀ p ∈ L, still p.2 = true
  dp : ∀ p ∈ L, Dp K H p.1 p.2
section
variable {K : PySem.W.Frag} {b g : Addr} {Hz H H' : Hp} {L : List (V × PyData)}
theorem RC.same (R : RC K b g Hz H L) (s : Same H H') : RC K b g Hz H' L := ⟨R.kp.trans (Kp.same s), R.bx.same s, R.st, fun p hp => dp_same s _ (R.dp p hp)⟩
theorem RC.draw (R : RC K b g Hz H L) (k : Kp b g H H') (B : Box H' b g) : RC K b g Hz H' L := ⟨R.kp.trans k, B, R.st, fun p hp => dp_kf (KF.of_kp k R.bx) _ (R.st p hp) (R.dp p hp)⟩
theorem RC.add (R : RC K b g Hz H L) {v : V} {d : PyData} (h : Dp K H v d) (hs : still d = true) : RC K b g Hz H ((v, d) :: L) :=
  ⟨R.kp, R.bx, fun p hp => (List.mem_cons.mp hp).elim (fun e => by subst e; exact hs) (R.st p), fun p hp => (List.mem_cons.mp hp).elim (fun e => by subst e; exact h) (R.dp p)⟩
theorem RC.upd (R : RC K b g Hz H L) {l : Addr} {xs ys : List V} (h : H l = some (.lst xs)) (hz : Hz l = none) (lg : l ≠ g) : RC K b g Hz (L2.upd H l (.lst ys)) L := by
  have lb : l ≠ b := by
    rintro rfl
    obtain ⟨⟨_, _, h1⟩, _⟩ := R.bx
    rw [h] at h1
    cases h1
  refine ⟨fun a x e n1 n2 => ?_, bx_set R.bx lb lg, R.st, fun p hp => dp_kf (KF.of_upd h) _ (R.st p hp) (R.dp p hp)⟩
  rw [upd_ne (ne_of_none e hz)]
  exact R.kp _ _ e n1 n2
theorem RC.at0 {v : V} {d : PyData} (R : RC K b g Hz H ((v, d) :: L)) : Dp K H v d := R.dp (v, d) (.head _)
theorem RC.at1 {v : V} {d : PyData} {p0} (R : RC K b g Hz H (p0 :: (v, d) :: L)) : Dp K H v d := R.dp (v, d) (.tail _ (.head _))
theorem RC.at2 {v : V} {d : PyData} {p0 p1} (R : RC K b g Hz H (p0 :: p1 :: (v, d) :: L)) : Dp K H v d := R.dp (v, d) (.tail _ (.tail _ (.head _)))
theorem RC.at3 {v : V} {d : PyData} {p0 p1 p2} (R : RC K b g Hz H (p0 :: p1 :: p2 :: (v, d) :: L)) : Dp K H v d := R.dp (v, d) (.tail _ (.tail _ (.tail _ (.head _))))
theorem RC.at4 {v : V} {d : PyData} {p0 p1 p2 p3} (R : RC K b g Hz H (p0 :: p1 :: p2 :: p3 :: (v, d) :: L)) : Dp K H v d := R.dp (v, d) (.tail _ (.tail _ (.tail _ (.tail _ (.head _)))))
theorem RC.at5 {v : V} {d : PyData} {p0 p1 p2 p3 p4} (R : RC K b g Hz H (p0 :: p1 :: p2 :: p3 :: p4 :: (v, d) :: L)) : Dp K H v d := R.dp (v, d) (.tail _ (.tail _ (.tail _ (.tail _ (.tail _ (.head _))))))
end
end BV
namespace BV
open PySem L2
theorem RC.sub {K : PySem.W.Frag} {b g : Addr} {Hz H : Hp} {L L' : List (V × PyData)} (R : RC K b g Hz H L) (h : ∀ p ∈ L', p ∈ L) : RC K b g Hz H L' := ⟨R.kp, R.bx, fun p hp => R.st p (h p hp), fun p hp => R.dp p (h p hp)⟩
theorem RC.drop1 {K : PySem.W.Frag} {b g : Addr} {Hz H : Hp} {L : List (V × PyData)} {p0 p1} (R : RC K b g Hz H (p0 :: p1 :: L)) : RC K b g Hz H (p0 :: L) := R.sub fun p hp => by
  rcases List.mem_cons.mp hp with e | e
  · exact e ▸ .head _
  · exact .tail _ (.tail _ e)
end BV

namespace BV
open PySem L2
/-! Even lots, cuts, and lots without a round. -/
def b2 (b : Bool) : Nat := if b = true then 1 else 0
def atE (ts : List Tie) (p k : Nat) : Bool := match ts[k]? with
  | some t => decide (t.1 = p ∨ t.2 = p)
  | none => false
def degE (ts : List Tie) (lot : List Nat) (p : Nat) : Nat := (lot.filter (atE ts p)).length
def crossK (ts : List Tie) (S : List Nat) (k : Nat) : Bool := match ts[k]? with
  | some t => crosses S t
  | none => false
def crossN (ts : List Tie) (S lot : List Nat) : Nat := (lot.filter (crossK ts S)).length
def sumR (n : Nat) (f : Nat → Nat) : Nat := ((List.range n).map f).sum
theorem sumR_succ (n : Nat) (f : Nat → Nat) : sumR (n + 1) f = sumR n f + f n := by
  unfold sumR
  rw [List.range_succ, List.map_append, List.sum_append]
  simp
theorem sumR_add (f g : Nat → Nat) : ∀ n, sumR n (fun p => f p + g p) = sumR n f + sumR n g
  | 0 => rfl
  | n + 1 => by
    rw [sumR_succ, sumR_succ, sumR_succ, sumR_add f g n]
    omega
theorem sumR_congr {f g : Nat → Nat} : ∀ {n}, (∀ p, p < n → f p = g p) → sumR n f = sumR n g
  | 0, _ => rfl
  | n + 1, h => by
    rw [sumR_succ, sumR_succ, sumR_congr fun p hp => h p (by omega), h n (by omega)]
theorem sumR_zero (n : Nat) : sumR n (fun _ => 0) = 0 := by
  induction n with
  | zero => rfl
  | succ n ih => rw [sumR_succ, ih]
theorem sumR_one (a c : Nat) : ∀ n, sumR n (fun p => if p = a then c else 0) = if a < n then c else 0
  | 0 => by simp [sumR]
  | n + 1 => by
    rw [sumR_succ, sumR_one a c n]
    by_cases h : a < n
    · rw [if_pos h, if_neg (by omega), if_pos (by omega), Nat.add_zero]
    · by_cases e : n = a
      · rw [if_neg h, if_pos e, if_pos (by omega)]
        omega
      · rw [if_neg h, if_neg e, if_neg (by omega)]
theorem sumR_even {f : Nat → Nat} : ∀ {n}, (∀ p, p < n → f p % 2 = 0) → sumR n f % 2 = 0
  | 0, _ => rfl
  | n + 1, h => by
    rw [sumR_succ]
    have h1 := sumR_even fun p (hp : p < n) => h p (by omega)
    have h2 := h n (by omega)
    omega
theorem degE_cons (ts : List Tie) (k : Nat) (lot : List Nat) (p : Nat) : degE ts (k :: lot) p = b2 (atE ts p k) + degE ts lot p := by
  unfold degE b2
  rw [List.filter_cons]
  split
  · rw [List.length_cons]
    omega
  · omega
theorem crossN_cons (ts : List Tie) (S : List Nat) (k : Nat) (lot : List Nat) : crossN ts S (k :: lot) = b2 (crossK ts S k) + crossN ts S lot := by
  unfold crossN b2
  rw [List.filter_cons]
  split
  · rw [List.length_cons]
    omega
  · omega
/-- over the places of a side all ends of a lot are counted: as many as its ties on the cut, modulo 2 -/
theorem parity {n : Nat} {ts : List Tie} (hends : ∀ t ∈ ts, t.1 < t.2 ∧ t.2 < n) (S : List Nat) : ∀ lot : List Nat, (∀ k ∈ lot, k < ts.length) →
    sumR n (fun p => if side S p = true then degE ts lot p else 0) % 2 = crossN ts S lot % 2
  | [], _ => by
    have : sumR n (fun p => if side S p = true then degE ts [] p else 0) = sumR n (fun _ => 0) :=
      sumR_congr fun p _ => by
        show (if side S p = true then 0 else 0) = 0
        split <;> rfl
    rw [this, sumR_zero]
    rfl
  | k :: lot, h => by
    have ih := parity hends S lot fun x hx => h x (List.mem_cons_of_mem _ hx)
    have hk := h k (List.mem_cons_self ..)
    have ht : ts[k]? = some ts[k] := List.getElem?_eq_getElem hk
    generalize ts[k] = t at ht
    have he := hends t (List.mem_of_getElem? ht)
    have e1 : sumR n (fun p => if side S p = true then degE ts (k :: lot) p else 0) = (sumR n (fun p => if p = t.1 then b2 (side S t.1) else 0) + sumR n (fun p => if p = t.2 then b2 (side S t.2) else 0)) +
        sumR n (fun p => if side S p = true then degE ts lot p else 0) := by
      rw [← sumR_add, ← sumR_add]
      refine sumR_congr fun p _ => ?_
      rw [degE_cons]
      have ea : atE ts p k = decide (t.1 = p ∨ t.2 = p) := by
        unfold atE
        rw [ht]
      rw [ea]
      by_cases h1 : p = t.1
      · subst h1
        rw [if_neg (show ¬ t.1 = t.2 by omega), if_pos rfl]
        cases hs : side S t.1 <;> simp [b2]
      · by_cases h2 : p = t.2
        · subst h2
          rw [if_neg h1, if_pos rfl]
          cases hs : side S t.2 <;> simp [b2]
        · rw [if_neg h1, if_neg h2]
          have : decide (t.1 = p ∨ t.2 = p) = false := decide_eq_false (by omega)
          rw [this]
          simp [b2]
    rw [e1, sumR_one, sumR_one, if_pos (show t.1 < n by omega), if_pos he.2, crossN_cons]
    have ec : crossK ts S k = Bool.xor (side S t.1) (side S t.2) := by
      unfold crossK
      rw [ht]
      exact crosses_xor S t
    rw [ec]
    have : (b2 (side S t.1) + b2 (side S t.2)) % 2 = b2 (Bool.xor (side S t.1) (side S t.2)) % 2 := by
      cases side S t.1 <;> cases side S t.2 <;> rfl
    omega
def EvenE (n : Nat) (ts : List Tie) (lot : List Nat) : Prop := ∀ p, p < n → degE ts lot p % 2 = 0
theorem even_cross {n : Nat} {ts : List Tie} (hends : ∀ t ∈ ts, t.1 < t.2 ∧ t.2 < n) {lot : List Nat} (hl : ∀ k ∈ lot, k < ts.length) (h : EvenE n ts lot) (S : List Nat) : crossN ts S lot % 2 = 0 := by
  rw [← parity hends S lot hl]
  refine sumR_even fun p hp => ?_
  split
  · exact h p hp
  · rfl
/-- ties taken one behind another, none of which closes a round -/
inductive Forest (ts : List Tie) : List Nat → Prop
  | nil : Forest ts []
  | snoc {l : List Nat} {k : Nat} {t : Tie} : Forest ts l → ts[k]? = some t → k ∉ l → (∀ w, Way ts t.1 w t.2 → (∀ x ∈ w, x ∈ l) → False) → Forest ts (l ++ [k])
open Classical in
theorem forest_even {n : Nat} {ts : List Tie} (hends : ∀ t ∈ ts, t.1 < t.2 ∧ t.2 < n) {l : List Nat} (hF : Forest ts l) : ∀ lot : List Nat, lot.Nodup → (∀ k ∈ lot, k ∈ l) → (∀ k ∈ l, k < ts.length) → EvenE n ts lot → lot = [] := by
  induction hF with
  | nil =>
    intro lot _ h _ _
    cases lot with
    | nil => rfl
    | cons k lot => exact absurd (h k (List.mem_cons_self ..)) (by simp)
  | @snoc l k t hF ht hk hno ih =>
    intro lot hn h hlt hev
    by_cases hm : k ∈ lot
    · exfalso
      have hends2 := hends t (List.mem_of_getElem? ht)
      let S : List Nat := (List.range n).filter fun p => decide (∃ w, Way ts t.1 w p ∧ ∀ x ∈ w, x ∈ l)
      have inS : ∀ p, p < n → (side S p = true ↔ ∃ w, Way ts t.1 w p ∧ ∀ x ∈ w, x ∈ l) := fun p hp => by
        unfold side
        rw [decide_eq_true_eq, List.mem_filter, List.mem_range, decide_eq_true_eq]
        exact ⟨fun z => z.2, fun z => ⟨hp, z⟩⟩
      have c := even_cross hends (fun x hx => hlt x (h x hx)) hev S
      have e : lot.filter (crossK ts S) = lot.filter (· == k) := by
        refine List.filter_congr fun x hx => ?_
        have hxl := h x hx
        by_cases e : x = k
        · subst e
          unfold crossK
          rw [ht]
          show crosses S t = (x == x)
          rw [crosses_xor]
          have a1 : side S t.1 = true := (inS t.1 (by omega)).mpr ⟨[], .nil, by simp⟩
          have a2 : side S t.2 = false := Bool.eq_false_iff.mpr fun z => by
            obtain ⟨w, h1, h2⟩ := (inS t.2 hends2.2).mp z
            exact hno w h1 h2
          rw [a1, a2]
          simp
        · have hxl2 : x ∈ l := by
            rcases List.mem_append.mp hxl with z | z
            · exact z
            · exact absurd (List.mem_singleton.mp z) e
          have hx2 := hlt x hxl
          have htx : ts[x]? = some ts[x] := List.getElem?_eq_getElem hx2
          generalize ts[x] = u at htx
          have hu := hends u (List.mem_of_getElem? htx)
          unfold crossK
          rw [htx]
          show crosses S u = (x == k)
          rw [crosses_xor]
          have : side S u.1 = side S u.2 := by
            rw [Bool.eq_iff_iff, inS u.1 (by omega), inS u.2 hu.2]
            constructor
            · rintro ⟨w, h1, h2⟩
              exact ⟨w ++ [x], .snoc h1 htx (.inl ⟨rfl, rfl⟩), fun y hy => by
                rcases List.mem_append.mp hy with z | z
                · exact h2 y z
                · rw [List.mem_singleton.mp z]
                  exact hxl2⟩
            · rintro ⟨w, h1, h2⟩
              exact ⟨w ++ [x], .snoc h1 htx (.inr ⟨rfl, rfl⟩), fun y hy => by
                rcases List.mem_append.mp hy with z | z
                · exact h2 y z
                · rw [List.mem_singleton.mp z]
                  exact hxl2⟩
          rw [this]
          have : (x == k) = false := by simpa using e
          rw [this]
          cases side S u.2 <;> rfl
      have e2 : (lot.filter (· == k)).length = 1 := by
        have := hn.count (a := k)
        rw [if_pos hm] at this
        rw [← List.countP_eq_length_filter]
        exact this
      unfold crossN at c
      rw [e, e2] at c
      exact absurd c (by decide)
    · exact ih lot hn (fun x hx => by
        rcases List.mem_append.mp (h x hx) with z | z
        · exact z
        · rw [List.mem_singleton.mp z] at hx
          exact absurd hx hm) (fun x hx => hlt x (List.mem_append_left _ hx)) hev
/-! ### lots and their sums -/
theorem degE_app (ts : List Tie) (l m : List Nat) (p : Nat) : degE ts (l ++ m) p = degE ts l p + degE ts m p := by
  unfold degE
  rw [List.filter_append, List.length_append]
theorem degE_perm {ts : List Tie} {l m : List Nat} (h : l.Perm m) (p : Nat) : degE ts l p = degE ts m p := (h.filter _).length_eq
theorem degE_split (ts : List Tie) (f : Nat → Bool) (l : List Nat) (p : Nat) : degE ts l p = degE ts (l.filter f) p + degE ts (l.filter fun k => !f k) p := by
  induction l with
  | nil => rfl
  | cons k l ih =>
    rw [degE_cons, List.filter_cons, List.filter_cons, ih]
    cases f k
    · rw [if_neg (by decide), if_pos (by decide), degE_cons]
      omega
    · rw [if_pos rfl, if_neg (by decide), degE_cons]
      omega
def symE (l m : List Nat) : List Nat := l.filter (fun k => !decide (k ∈ m)) ++ m.filter fun k => !decide (k ∈ l)
theorem mem_symE {l m : List Nat} {k : Nat} : k ∈ symE l m ↔ (k ∈ l ∧ k ∉ m) ∨ (k ∈ m ∧ k ∉ l) := by
  unfold symE
  rw [List.mem_append, List.mem_filter, List.mem_filter]
  simp
theorem symE_nodup {l m : List Nat} (hl : l.Nodup) (hm : m.Nodup) : (symE l m).Nodup := by
  unfold symE
  rw [List.nodup_append]
  refine ⟨hl.filter _, hm.filter _, fun x hx y hy e => ?_⟩
  subst e
  have z1 := (List.mem_filter.mp hx).1
  have z2 := (List.mem_filter.mp hy).2
  simp [z1] at z2
theorem degE_sym {ts : List Tie} {l m : List Nat} (hl : l.Nodup) (hm : m.Nodup) (p : Nat) : degE ts (symE l m) p % 2 = (degE ts l p + degE ts m p) % 2 := by
  have e1 := degE_split ts (fun k => decide (k ∈ m)) l p
  have e2 := degE_split ts (fun k => decide (k ∈ l)) m p
  have e3 : degE ts (l.filter fun k => decide (k ∈ m)) p = degE ts (m.filter fun k => decide (k ∈ l)) p := by
    refine degE_perm ((List.perm_ext_iff_of_nodup (hl.filter _) (hm.filter _)).mpr fun k => ?_) p
    rw [List.mem_filter, List.mem_filter, decide_eq_true_eq, decide_eq_true_eq]
    exact And.comm
  unfold symE
  rw [degE_app]
  omega
/-- the sum of two lots of L ties -/
def sumL (L : Nat) (l m : List Nat) : List Nat := (List.range L).filter fun k => Bool.xor (decide (k ∈ l)) (decide (k ∈ m))
theorem sumL_lot (L : Nat) (l m : List Nat) : LotA L (sumL L l m) := ⟨List.pairwise_lt_range.filter _, fun k hk => List.mem_range.mp (List.mem_filter.mp hk).1⟩
theorem mem_sumL {L : Nat} {l m : List Nat} {k : Nat} : k ∈ sumL L l m ↔ k < L ∧ ((k ∈ l ∧ k ∉ m) ∨ (k ∈ m ∧ k ∉ l)) := by
  unfold sumL
  rw [List.mem_filter, List.mem_range]
  by_cases h1 : k ∈ l <;> by_cases h2 : k ∈ m <;> simp [h1, h2]
theorem LotA.nd {L : Nat} {l : List Nat} (h : LotA L l) : l.Nodup := h.1.imp fun z => Nat.ne_of_lt z
theorem lot_ext {L : Nat} {l m : List Nat} (hl : LotA L l) (hm : LotA L m) (h : ∀ k, k < L → (k ∈ l ↔ k ∈ m)) : l = m :=
  asc_uniq hl.1 hm.1 fun k => ⟨fun z => (h k (hl.2 k z)).mp z, fun z => (h k (hm.2 k z)).mpr z⟩
theorem sumL_perm {L : Nat} {l m : List Nat} (hl : LotA L l) (hm : LotA L m) : (sumL L l m).Perm (symE l m) := by
  refine (List.perm_ext_iff_of_nodup (sumL_lot L l m).nd (symE_nodup hl.nd hm.nd)).mpr fun k => ?_
  rw [mem_sumL, mem_symE]
  constructor
  · exact fun z => z.2
  · intro z
    refine ⟨?_, z⟩
    rcases z with z | z
    · exact hl.2 k z.1
    · exact hm.2 k z.1
theorem sumL_even {n : Nat} {ts : List Tie} {L : Nat} {l m : List Nat} (hl : LotA L l) (hm : LotA L m) (h1 : EvenE n ts l) (h2 : EvenE n ts m) : EvenE n ts (sumL L l m) := fun p hp => by
  rw [degE_perm (sumL_perm hl hm), degE_sym hl.nd hm.nd]
  have := h1 p hp
  have := h2 p hp
  omega
theorem sumL_back {L : Nat} {l m : List Nat} (hl : LotA L l) : sumL L (sumL L l m) m = l := by
  refine lot_ext (sumL_lot _ _ _) hl fun k hk => ?_
  rw [mem_sumL, mem_sumL]
  by_cases h1 : k ∈ l <;> by_cases h2 : k ∈ m <;> simp [h1, h2, hk]
/-! ### ways as lots -/
theorem way_deg {n : Nat} {ts : List Tie} (hends : ∀ t ∈ ts, t.1 < t.2 ∧ t.2 < n) {a q : Nat} {w : List Nat} (h : Way ts a w q) (p : Nat) : degE ts w p % 2 = (b2 (decide (p = a)) + b2 (decide (p = q))) % 2 := by
  induction h with
  | nil =>
    show 0 % 2 = _
    cases decide (p = a) <;> rfl
  | @snoc w r k q t hw ht he ih =>
    have hte := hends t (List.mem_of_getElem? ht)
    have e : degE ts [k] p = b2 (decide (p = r)) + b2 (decide (p = q)) := by
      rw [degE_cons]
      have ea : atE ts p k = decide (t.1 = p ∨ t.2 = p) := by
        unfold atE
        rw [ht]
      rw [ea]
      show _ + 0 = _
      rcases he with ⟨rfl, rfl⟩ | ⟨rfl, rfl⟩
      · by_cases h1 : p = t.1
        · subst h1
          rw [decide_eq_true (.inl rfl), decide_eq_true rfl, decide_eq_false (by omega)]
          rfl
        · by_cases h2 : p = t.2
          · subst h2
            rw [decide_eq_true (.inr rfl), decide_eq_true rfl, decide_eq_false h1]
            rfl
          · rw [decide_eq_false h1, decide_eq_false h2, decide_eq_false (by omega)]
            rfl
      · by_cases h1 : p = t.1
        · subst h1
          rw [decide_eq_true (.inl rfl), decide_eq_true rfl, decide_eq_false (by omega)]
          rfl
        · by_cases h2 : p = t.2
          · subst h2
            rw [decide_eq_true (.inr rfl), decide_eq_true rfl, decide_eq_false h1]
            rfl
          · rw [decide_eq_false h1, decide_eq_false h2, decide_eq_false (by omega)]
            rfl
    rw [degE_app, e]
    have hx : (b2 (decide (p = r)) + b2 (decide (p = r))) % 2 = 0 := by omega
    omega
theorem round_even {n : Nat} {ts : List Tie} (hends : ∀ t ∈ ts, t.1 < t.2 ∧ t.2 < n) {w : List Nat} {k : Nat} {t : Tie} (ht : ts[k]? = some t) (h : Way ts t.1 w t.2) : EvenE n ts (w ++ [k]) := fun p _ => by
  have h2 : Way ts t.1 (w ++ [k]) t.1 := .snoc h ht (.inr ⟨rfl, rfl⟩)
  rw [way_deg hends h2]
  omega
/-- in a lot without a round there is one way -/
theorem way_one {n : Nat} {ts : List Tie} (hends : ∀ t ∈ ts, t.1 < t.2 ∧ t.2 < n) {l : List Nat} (hF : Forest ts l) (hl : ∀ k ∈ l, k < ts.length) {a q : Nat} {v w : List Nat} (hv : Way ts a v q) (hw : Way ts a w q)
    (nv : v.Nodup) (nw : w.Nodup) (lv : ∀ k ∈ v, k ∈ l) (lw : ∀ k ∈ w, k ∈ l) : v.Perm w := by
  have e := forest_even hends hF (symE v w) (symE_nodup nv nw) (fun k hk => by
    rcases mem_symE.mp hk with z | z
    · exact lv k z.1
    · exact lw k z.1) hl fun p hp => by
      rw [degE_sym nv nw]
      have h1 := way_deg hends hv p
      have h2 := way_deg hends hw p
      omega
  refine (List.perm_ext_iff_of_nodup nv nw).mpr fun k => ?_
  have hn : k ∉ symE v w := by
    rw [e]
    simp
  rw [mem_symE] at hn
  by_cases h1 : k ∈ v <;> by_cases h2 : k ∈ w <;> simp [h1, h2] at hn ⊢
/-! ### all sums of the rounds of a tree -/
/-- a round for each tie c, which has none of the others but ties of l -/
def Founds (n : Nat) (ts : List Tie) (l : List Nat) (cs : List Nat) (R : Nat → List Nat) : Prop :=
  ∀ c ∈ cs, LotA ts.length (R c) ∧ EvenE n ts (R c) ∧ c ∈ R c ∧ c ∉ l ∧ ∀ k ∈ R c, k = c ∨ k ∈ l
def sumsOf (L : Nat) (R : Nat → List Nat) : List Nat → List (List Nat)
  | [] => [[]]
  | c :: cs => sumsOf L R cs ++ (sumsOf L R cs).map fun o => sumL L o (R c)
theorem sums_are {n : Nat} {ts : List Tie} (hends : ∀ t ∈ ts, t.1 < t.2 ∧ t.2 < n) {l : List Nat} (hF : Forest ts l) (hl : ∀ k ∈ l, k < ts.length) {R : Nat → List Nat} :
    ∀ {cs : List Nat}, cs.Nodup → Founds n ts l cs R → (sumsOf ts.length R cs).Nodup ∧ ∀ E : List Nat, E ∈ sumsOf ts.length R cs ↔ LotA ts.length E ∧ EvenE n ts E ∧ ∀ k ∈ E, k ∈ l ∨ k ∈ cs
  | [], _, _ => by
    refine ⟨by simp [sumsOf], fun E => ?_⟩
    simp only [sumsOf, List.mem_singleton, List.not_mem_nil, or_false]
    constructor
    · rintro rfl
      exact ⟨⟨List.Pairwise.nil, fun _ h => nomatch h⟩, fun _ _ => rfl, fun _ h => nomatch h⟩
    · rintro ⟨h1, h2, h3⟩
      exact forest_even hends hF E h1.nd h3 hl h2
  | c :: cs, hn, hR => by
    obtain ⟨hc, hn2⟩ := List.nodup_cons.mp hn
    obtain ⟨ih1, ih2⟩ := sums_are hends hF hl hn2 fun x hx => hR x (List.mem_cons_of_mem _ hx)
    obtain ⟨r1, r2, r3, r4, r5⟩ := hR c (List.mem_cons_self ..)
    have noc : ∀ E ∈ sumsOf ts.length R cs, c ∉ E := fun E hE hcE => by
      rcases ((ih2 E).mp hE).2.2 c hcE with z | z
      · exact r4 z
      · exact hc z
    refine ⟨?_, fun E => ?_⟩
    · show (sumsOf ts.length R cs ++ (sumsOf ts.length R cs).map fun o => sumL ts.length o (R c)).Nodup
      rw [List.nodup_append]
      refine ⟨ih1, ?_, fun x hx y hy e => ?_⟩
      · refine (List.pairwise_map).mpr (ih1.imp_of_mem fun {x y} hx hy hxy e => hxy ?_)
        rw [← sumL_back (m := R c) ((ih2 x).mp hx).1, e, sumL_back ((ih2 y).mp hy).1]
      · subst e
        obtain ⟨o, ho, rfl⟩ := List.mem_map.mp hy
        refine noc _ hx (mem_sumL.mpr ⟨r1.2 c r3, .inr ⟨r3, noc o ho⟩⟩)
    · show E ∈ sumsOf ts.length R cs ++ (sumsOf ts.length R cs).map (fun o => sumL ts.length o (R c)) ↔ _
      rw [List.mem_append]
      constructor
      · rintro (h | h)
        · obtain ⟨h1, h2, h3⟩ := (ih2 E).mp h
          exact ⟨h1, h2, fun k hk => (h3 k hk).imp id (List.mem_cons_of_mem _)⟩
        · obtain ⟨o, ho, rfl⟩ := List.mem_map.mp h
          obtain ⟨h1, h2, h3⟩ := (ih2 o).mp ho
          refine ⟨sumL_lot _ _ _, sumL_even h1 r1 h2 r2, fun k hk => ?_⟩
          rcases (mem_sumL.mp hk).2 with z | z
          · exact (h3 k z.1).imp id (List.mem_cons_of_mem _)
          · rcases r5 k z.1 with e | e
            · exact .inr (by rw [e]; exact List.mem_cons_self ..)
            · exact .inl e
      · rintro ⟨h1, h2, h3⟩
        by_cases hcE : c ∈ E
        · refine .inr (List.mem_map.mpr ⟨sumL ts.length E (R c), (ih2 _).mpr ⟨sumL_lot _ _ _, sumL_even h1 r1 h2 r2, fun k hk => ?_⟩, sumL_back h1⟩)
          rcases (mem_sumL.mp hk).2 with z | z
          · rcases h3 k z.1 with e | e
            · exact .inl e
            · rcases List.mem_cons.mp e with e | e
              · exact absurd r3 (by rw [← e]; exact fun q => z.2 (by rw [e]; exact r3))
              · exact .inr e
          · rcases r5 k z.1 with e | e
            · exact absurd hcE (by rw [← e]; exact z.2)
            · exact .inl e
        · refine .inl ((ih2 E).mpr ⟨h1, h2, fun k hk => ?_⟩)
          rcases h3 k hk with e | e
          · exact .inl e
          · rcases List.mem_cons.mp e with e | e
            · exact absurd hk (by rw [e]; exact hcE)
            · exact .inr e
end BV

namespace BV
open PySem L2
/-! the first tree of a web -/
theorem Way.trans {ts : List Tie} {a p q : Nat} {w v : List Nat} (h1 : Way ts a w p) (h2 : Way ts p v q) : Way ts a (w ++ v) q := by
  induction h2 with
  | nil =>
    rw [List.append_nil]
    exact h1
  | snoc _ ht he ih =>
    rw [← List.append_assoc]
    exact .snoc ih ht he
def Conn (ts : List Tie) (es : List Nat) (p q : Nat) : Prop := ∃ w, Way ts p w q ∧ ∀ x ∈ w, x ∈ es
theorem Conn.refl {ts : List Tie} {es : List Nat} (p : Nat) : Conn ts es p p := ⟨[], .nil, fun _ h => nomatch h⟩
theorem Conn.trans {ts : List Tie} {es : List Nat} {p q r : Nat} (h1 : Conn ts es p q) (h2 : Conn ts es q r) : Conn ts es p r := by
  obtain ⟨w, a1, a2⟩ := h1
  obtain ⟨v, b1, b2⟩ := h2
  exact ⟨w ++ v, a1.trans b1, fun x hx => (List.mem_append.mp hx).elim (a2 x) (b2 x)⟩
theorem Conn.step {ts : List Tie} {es : List Nat} {k : Nat} {t : Tie} {p q : Nat} (hk : k ∈ es) (ht : ts[k]? = some t) (he : t.1 = p ∧ t.2 = q ∨ t.2 = p ∧ t.1 = q) : Conn ts es p q :=
  ⟨[] ++ [k], .snoc .nil ht he, fun x hx => by
    have : x = k := by simpa using hx
    rw [this]
    exact hk⟩
theorem Conn.mono {ts : List Tie} {es fs : List Nat} {p q : Nat} (h : Conn ts es p q) (m : ∀ x ∈ es, x ∈ fs) : Conn ts fs p q := by
  obtain ⟨w, h1, h2⟩ := h
  exact ⟨w, h1, fun x hx => m x (h2 x hx)⟩
theorem way_back {ts : List Tie} {es : List Nat} {p q : Nat} {w : List Nat} (h : Way ts p w q) : (∀ x ∈ w, x ∈ es) → Conn ts es q p := by
  induction h with
  | nil => exact fun _ => .refl _
  | @snoc w r k q t hw ht he ih =>
    intro hx
    have h1 := ih fun x hx2 => hx x (List.mem_append_left _ hx2)
    refine Conn.trans (Conn.step (hx k (List.mem_append_right _ (List.mem_singleton.mpr rfl))) ht ?_) h1
    rcases he with ⟨e1, e2⟩ | ⟨e1, e2⟩
    · exact .inr ⟨e2, e1⟩
    · exact .inl ⟨e2, e1⟩
theorem Conn.symm {ts : List Tie} {es : List Nat} {p q : Nat} (h : Conn ts es p q) : Conn ts es q p := by
  obtain ⟨w, h1, h2⟩ := h
  exact way_back h1 h2
open Classical in
/-- the ties that are taken of the first i ones -/
noncomputable def treeL (ts : List Tie) : Nat → List Nat
  | 0 => []
  | i + 1 => match ts[i]? with
    | some t => if Conn ts (treeL ts i) t.1 t.2 then treeL ts i else treeL ts i ++ [i]
    | none => treeL ts i
theorem tree_yes {ts : List Tie} {i : Nat} {t : Tie} (ht : ts[i]? = some t) (h : Conn ts (treeL ts i) t.1 t.2) : treeL ts (i + 1) = treeL ts i := by
  rw [treeL, ht]
  exact if_pos h
theorem tree_no {ts : List Tie} {i : Nat} {t : Tie} (ht : ts[i]? = some t) (h : ¬ Conn ts (treeL ts i) t.1 t.2) : treeL ts (i + 1) = treeL ts i ++ [i] := by
  rw [treeL, ht]
  exact if_neg h
theorem tree_lot (ts : List Tie) : ∀ i, i ≤ ts.length → LotA i (treeL ts i)
  | 0, _ => ⟨List.Pairwise.nil, fun _ h => nomatch h⟩
  | i + 1, hi => by
    have ih := tree_lot ts i (by omega)
    have ht : ts[i]? = some ts[i] := List.getElem?_eq_getElem (by omega)
    by_cases h : Conn ts (treeL ts i) ts[i].1 ts[i].2
    · rw [tree_yes ht h]
      exact ⟨ih.1, fun k hk => Nat.lt_succ_of_lt (ih.2 k hk)⟩
    · rw [tree_no ht h]
      refine ⟨?_, fun k hk => ?_⟩
      · rw [List.pairwise_append]
        refine ⟨ih.1, List.pairwise_singleton _ _, fun x hx y hy => ?_⟩
        rw [List.mem_singleton.mp hy]
        exact ih.2 x hx
      · rcases List.mem_append.mp hk with z | z
        · exact Nat.lt_succ_of_lt (ih.2 k z)
        · rw [List.mem_singleton.mp z]
          exact Nat.lt_succ_self i
theorem tree_forest (ts : List Tie) : ∀ i, i ≤ ts.length → Forest ts (treeL ts i)
  | 0, _ => .nil
  | i + 1, hi => by
    have ih := tree_forest ts i (by omega)
    have hl := tree_lot ts i (by omega)
    have ht : ts[i]? = some ts[i] := List.getElem?_eq_getElem (by omega)
    by_cases h : Conn ts (treeL ts i) ts[i].1 ts[i].2
    · rw [tree_yes ht h]
      exact ih
    · rw [tree_no ht h]
      exact .snoc ih ht (fun z => Nat.lt_irrefl _ (hl.2 i z)) fun w h1 h2 => h ⟨w, h1, h2⟩
theorem tree_mono {ts : List Tie} {i : Nat} : ∀ {j}, i ≤ j → ∀ x ∈ treeL ts i, x ∈ treeL ts j
  | 0, h, x, hx => by
    obtain rfl : i = 0 := by omega
    exact hx
  | j + 1, h, x, hx => by
    by_cases e : i = j + 1
    · subst e
      exact hx
    · have ih := tree_mono (ts := ts) (i := i) (j := j) (by omega) x hx
      rw [treeL]
      split
      · split
        · exact ih
        · exact List.mem_append_left _ ih
      · exact ih
/-- a tie is taken just if its ends hang not together along those ahead -/
theorem tree_mem {ts : List Tie} {k : Nat} {t : Tie} (ht : ts[k]? = some t) : ∀ {i}, k < i → i ≤ ts.length → (k ∈ treeL ts i ↔ ¬ Conn ts (treeL ts k) t.1 t.2)
  | 0, h, _ => by omega
  | i + 1, h, hi => by
    have hl := tree_lot ts i (by omega)
    have hti : ts[i]? = some ts[i] := List.getElem?_eq_getElem (by omega)
    by_cases e : k = i
    · subst e
      rw [ht] at hti
      have hti2 := Option.some.inj hti
      by_cases hc : Conn ts (treeL ts k) t.1 t.2
      · rw [tree_yes ht hc]
        exact ⟨fun z => absurd (hl.2 k z) (Nat.lt_irrefl _), fun z => absurd hc z⟩
      · rw [tree_no ht hc]
        exact ⟨fun _ => hc, fun _ => List.mem_append_right _ (List.mem_singleton.mpr rfl)⟩
    · rw [← tree_mem ht (i := i) (by omega) (by omega)]
      by_cases hc : Conn ts (treeL ts i) ts[i].1 ts[i].2
      · rw [tree_yes hti hc]
      · rw [tree_no hti hc, List.mem_append, List.mem_singleton]
        exact ⟨fun z => z.resolve_right e, .inl⟩
theorem tree_ends {ts : List Tie} {k : Nat} {t : Tie} (ht : ts[k]? = some t) : Conn ts (treeL ts ts.length) t.1 t.2 := by
  have hk := (List.getElem?_eq_some_iff.mp ht).1
  by_cases hc : Conn ts (treeL ts k) t.1 t.2
  · exact hc.mono (tree_mono (by omega))
  · exact .step ((tree_mem ht hk (Nat.le_refl _)).mpr hc) ht (.inl ⟨rfl, rfl⟩)
theorem tree_all {n : Nat} {ts : List Tie} (hok : WebOk n ts) : ∀ p, p < n → Conn ts (treeL ts ts.length) 0 p :=
  all_found hok (F := fun p => Conn ts (treeL ts ts.length) 0 p) (.refl 0) fun t ht h => by
    obtain ⟨k, hk⟩ := List.mem_iff_getElem?.mp ht
    exact h.trans (tree_ends hk)
/-! names of the parts -/
def numL (n : Nat) (lab : Nat → Nat) : Nat := ((List.range n).filter fun x => decide (x ∈ (List.range n).map lab)).length
structure Lab (n : Nat) (ts : List Tie) (tk : List Nat) (lab : Nat → Nat) : Prop where
  lt : ∀ p, p < n → lab p < n
  conn : ∀ p q, p < n → q < n → (lab p = lab q ↔ Conn ts tk p q)
  num : numL n lab + tk.length = n
theorem mem_lab {n : Nat} {lab : Nat → Nat} {x : Nat} : x ∈ (List.range n).map lab ↔ ∃ p, p < n ∧ lab p = x := by
  rw [List.mem_map]
  exact ⟨fun ⟨p, h1, h2⟩ => ⟨p, List.mem_range.mp h1, h2⟩, fun ⟨p, h1, h2⟩ => ⟨p, List.mem_range.mpr h1, h2⟩⟩
theorem lab_start (n : Nat) (ts : List Tie) : Lab n ts [] id := by
  refine ⟨fun p hp => hp, fun p q _ _ => ⟨fun e => by rw [show p = q from e]; exact .refl q, fun ⟨w, h1, h2⟩ => ?_⟩, ?_⟩
  · cases h1 with
    | nil => rfl
    | @snoc w' r k _ _ _ _ _ => exact absurd (h2 k (List.mem_append_right _ (List.mem_singleton.mpr rfl))) (by simp)
  · unfold numL
    have e : ((List.range n).filter fun x => decide (x ∈ (List.range n).map id)) = List.range n := List.filter_eq_self.mpr fun x hx => decide_eq_true (mem_lab.mpr ⟨x, List.mem_range.mp hx, rfl⟩)
    rw [e, List.length_range]
    rfl
theorem lab_step {n : Nat} {ts : List Tie} {tk : List Nat} {lab : Nat → Nat} (hends : ∀ t ∈ ts, t.1 < t.2 ∧ t.2 < n) (h : Lab n ts tk lab) {i : Nat} {t : Tie} (ht : ts[i]? = some t) (hne : lab t.1 ≠ lab t.2) :
    Lab n ts (tk ++ [i]) (fun p => if lab p = lab t.2 then lab t.1 else lab p) := by
  have hte := hends t (List.mem_of_getElem? ht)
  have h1n : t.1 < n := by omega
  have mem_i : i ∈ tk ++ [i] := List.mem_append_right _ (List.mem_singleton.mpr rfl)
  have mono : ∀ x ∈ tk, x ∈ tk ++ [i] := fun x hx => List.mem_append_left _ hx
  refine ⟨fun p hp => ?_, fun p q hp hq => ⟨fun e => ?_, fun ⟨w, h1, h2⟩ => ?_⟩, ?_⟩
  · show (if lab p = lab t.2 then lab t.1 else lab p) < n
    split
    · exact h.lt _ h1n
    · exact h.lt p hp
  · have e' : (if lab p = lab t.2 then lab t.1 else lab p) = (if lab q = lab t.2 then lab t.1 else lab q) := e
    by_cases a : lab p = lab t.2
    · by_cases b : lab q = lab t.2
      · exact ((h.conn p q hp hq).mp (a.trans b.symm)).mono mono
      · rw [if_pos a, if_neg b] at e'
        exact (((h.conn p t.2 hp hte.2).mp a).mono mono).trans ((Conn.step mem_i ht (.inr ⟨rfl, rfl⟩)).trans (((h.conn t.1 q h1n hq).mp e').mono mono))
    · by_cases b : lab q = lab t.2
      · rw [if_neg a, if_pos b] at e'
        exact (((h.conn p t.1 hp h1n).mp e').mono mono).trans ((Conn.step mem_i ht (.inl ⟨rfl, rfl⟩)).trans (((h.conn t.2 q hte.2 hq).mp b.symm).mono mono))
      · rw [if_neg a, if_neg b] at e'
        exact ((h.conn p q hp hq).mp e').mono mono
  · have key : ∀ {w : List Nat} {q : Nat}, Way ts p w q → (∀ x ∈ w, x ∈ tk ++ [i]) → q < n ∧ (if lab p = lab t.2 then lab t.1 else lab p) = (if lab q = lab t.2 then lab t.1 else lab q) := fun {w q} hw => by
      induction hw with
      | nil => exact fun _ => ⟨hp, rfl⟩
      | @snoc w r k q u hw hu he ih =>
        intro hx
        obtain ⟨hr, e1⟩ := ih fun x hx2 => hx x (List.mem_append_left _ hx2)
        have hue := hends u (List.mem_of_getElem? hu)
        have hq : q < n := by
          rcases he with ⟨_, e2⟩ | ⟨_, e2⟩ <;> omega
        refine ⟨hq, e1.trans ?_⟩
        rcases List.mem_append.mp (hx k (List.mem_append_right _ (List.mem_singleton.mpr rfl))) with z | z
        · rw [(h.conn r q hr hq).mpr (.step z hu he)]
        · obtain rfl : k = i := List.mem_singleton.mp z
          rw [ht] at hu
          cases hu
          rcases he with ⟨rfl, rfl⟩ | ⟨rfl, rfl⟩
          · rw [if_neg hne, if_pos rfl]
          · rw [if_neg hne, if_pos rfl]
    exact (key h1 h2).2
  · have nd : ((List.range n).filter fun x => decide (x ∈ (List.range n).map lab)).Nodup := List.nodup_range.filter _
    have hb : lab t.2 ∈ (List.range n).filter fun x => decide (x ∈ (List.range n).map lab) := List.mem_filter.mpr ⟨List.mem_range.mpr (h.lt _ hte.2), decide_eq_true (mem_lab.mpr ⟨t.2, hte.2, rfl⟩)⟩
    have e : ((List.range n).filter fun x => decide (x ∈ (List.range n).map fun p => if lab p = lab t.2 then lab t.1 else lab p)) = ((List.range n).filter fun x => decide (x ∈ (List.range n).map lab)).erase (lab t.2) := by
      rw [nd.erase_eq_filter, List.filter_filter]
      refine List.filter_congr fun x _ => ?_
      rw [Bool.eq_iff_iff, Bool.and_eq_true, decide_eq_true_eq, decide_eq_true_eq, mem_lab, mem_lab, bne_iff_ne]
      constructor
      · rintro ⟨p, hp, e⟩
        by_cases a : lab p = lab t.2
        · rw [if_pos a] at e
          exact ⟨fun z => hne (e.trans z), t.1, h1n, e⟩
        · rw [if_neg a] at e
          exact ⟨fun z => a (e.trans z), p, hp, e⟩
      · rintro ⟨hx, p, hp, e⟩
        exact ⟨p, hp, by rw [if_neg (fun a => hx (e.symm.trans a)), e]⟩
    have hn := h.num
    unfold numL at hn ⊢
    rw [e, List.length_erase_of_mem hb, List.length_append, List.length_singleton]
    have := List.length_pos_of_mem hb
    omega
theorem lab_tree {n : Nat} {ts : List Tie} (hends : ∀ t ∈ ts, t.1 < t.2 ∧ t.2 < n) : ∀ i, i ≤ ts.length → ∃ lab, Lab n ts (treeL ts i) lab
  | 0, _ => ⟨id, lab_start n ts⟩
  | i + 1, hi => by
    obtain ⟨lab, h⟩ := lab_tree hends i (by omega)
    have ht : ts[i]? = some ts[i] := List.getElem?_eq_getElem (by omega)
    have hte := hends _ (List.mem_of_getElem? ht)
    by_cases hc : Conn ts (treeL ts i) ts[i].1 ts[i].2
    · rw [tree_yes ht hc]
      exact ⟨lab, h⟩
    · rw [tree_no ht hc]
      exact ⟨_, lab_step hends h ht fun e => hc ((h.conn _ _ (by omega) hte.2).mp e)⟩
theorem tree_len {n : Nat} {ts : List Tie} (hok : WebOk n ts) : (treeL ts ts.length).length + 1 = n := by
  obtain ⟨lab, h⟩ := lab_tree hok.ends ts.length (Nat.le_refl _)
  have hpos := hok.pos
  have hn := h.num
  have e : ((List.range n).filter fun x => decide (x ∈ (List.range n).map lab)) = (List.range n).filter (· == lab 0) := by
    refine List.filter_congr fun x _ => ?_
    rw [Bool.eq_iff_iff, decide_eq_true_eq, beq_iff_eq, mem_lab]
    constructor
    · rintro ⟨p, hp, e⟩
      rw [← e]
      exact ((h.conn 0 p hpos hp).mpr (tree_all hok p hp)).symm
    · exact fun e => ⟨0, hpos, e.symm⟩
  have e2 : ((List.range n).filter (· == lab 0)).length = 1 := by
    have := (List.nodup_range (n := n)).count (a := lab 0)
    rw [if_pos (List.mem_range.mpr (h.lt 0 hpos))] at this
    rw [← List.countP_eq_length_filter]
    exact this
  unfold numL at hn
  rw [e, e2] at hn
  omega
end BV

/-! sorted(xs), xs a list of tuples of whole numbers, the first of them () -/
namespace BV
open PySem PySem.W PySem.Calls PySem.SeqAt PyProof.Rows
section
variable {prog : Program} {w : World} {A : Around} {E : Value → Shared → Prop} {s : Shared}
theorem call_tuple_lt {Q : Value → Shared → Prop} {l b : Addr} {items items2 : Array Value} {e r : Nat → Bool} (hl : s.heap.IsTuple l items) (hb : s.heap.IsTuple b items2)
    (he : ∀ j (h1 : j < items.size) (h2 : j < items2.size), EqAt A.in1 s items[j] items2[j] (e j)) (hr : ∀ j (h1 : j < items.size) (h2 : j < items2.size), e j = false → RcLt A.in1 s items[j] items2[j] (r j))
    (h : Q (.bool (firstLt e r (decide (items.size < items2.size)) (List.range (min items.size items2.size)))) s) : wpAny (model prog w) A (call (.builtin "tuple.__lt__") [.ref l, .ref b]) Q E s := by
  obtain ⟨⟨cls, dd, data, sl⟩, ho, hc, n, hd⟩ := id hl
  obtain ⟨⟨cls2, dd2, data2, sl2⟩, ho2, hc2, n2, hd2⟩ := id hb
  simp only at hc hd hc2 hd2
  subst hc hd hc2 hd2
  exact call_meets F.slot_tuple_lt ⟨_, ho, rfl⟩ F.entry_tuple_lt (F.args_tuple_lt_2 _ _) (tuple_ltAt l b items items2 n n2 dd dd2 sl sl2 e r) ⟨ho, ho2, he, hr, h⟩
theorem oneLt_tup {xs ys : List PyData} {a b : Value} {as bs : List Addr} {Q : Bool → Shared → Prop} (ra : Reads s.heap a (.tuple xs) as) (rb : Reads s.heap b (.tuple ys) bs) (h : alike (.tuple xs) (.tuple ys) = true)
    (hu : A.units + min (PyData.tuple xs).depth (PyData.tuple ys).depth < cLine) (hq : Q (dataLt (.tuple xs) (.tuple ys)) s) : wpAny (model prog w) A (oneLt' true a b) Q E s := by
  have hal : alikeAll xs ys = true := by simpa [alike] using h
  cases ra with
  | @tuple l o vs n _ as₁ h1 h2 h3 h4 =>
    cases rb with
    | @tuple l' o' vs' n' _ bs₁ k1 k2 k3 k4 =>
      have n1 : vs.size = xs.length := by simpa using ReadsAll.length _ _ _ h4
      have n2 : vs'.size = ys.length := by simpa using ReadsAll.length _ _ _ k4
      rw [dataLt_tuple, ← firstLt_toks xs ys hal, ← n1, ← n2] at hq
      rw [oneLt'_eq]
      simp only [if_true]
      refine wpAny_bind (wpAny_cRoomFor (room_here hu) ?_)
      refine wpAny_bind (wpAny_callSpecialIfBound?_slot (T := "tuple") ⟨_, h1, h2⟩ F.slot_tuple_lt (call_tuple_lt (e := pairEq xs ys) (r := fun j => dataLt (xs.getD j .none) (ys.getD j .none)) ⟨_, h1, h2, _, h3⟩ ⟨_, k1, k2, _, k3⟩ (fun j j1 j2 => ?_) (fun j j1 j2 hj => ?_) ?_))
      · have := eqAt_alikeAll xs ys A.in1 s vs.toList vs'.toList _ _ h4 k4 hal (room_in hu) j (by simpa using j1) (by simpa using j2)
        simpa using this
      · have := rcLt_alikeAll xs ys A.in1 s vs.toList vs'.toList _ _ h4 k4 hal (room_in hu) j (by simpa using j1) (by simpa using j2) hj
        simpa using this
      · exact wpAny_truthy_bool hq
end
section
variable {M : Model} {A : Around} {E : Value → Shared → Prop} {s : Shared}
/-- the first items of tuples, none of () -/
theorem firsts_some : ∀ (vs : List Value) (ds : List PyData) {Q : List (Option Value) → Shared → Prop}, EachIs (fun v d => ∃ xs as, d = PyData.tuple xs ∧ Reads s.heap v d as) vs ds →
    (∀ fs : List (Option Value), fs.length = vs.length → (ds.head? = some (.tuple []) → fs[0]? = some none) → Q fs s) → wpAny M A (vs.mapM firstOfTuple') Q E s
  | _, _, _, .nil, h => by
    rw [List.mapM_nil]
    exact wpAny_pure (h [] rfl fun z => by cases z)
  | v :: vs, d :: ds, Q, .cons ⟨xs, as, e, r⟩ t, h => by
    subst e
    cases r with
    | @tuple a o ws n _ _ ho hc hd hr =>
      rw [List.mapM_cons]
      refine wpAny_bind ?_
      rw [kas_first_eq]
      refine wpAny_bind (Looks.here (show Looks M s.heap (typeOf (.ref a)) o.cls from (Looks.ld ho).andThen .now) ?_)
      rw [hc, if_neg (by first | decide | simp)]
      refine wpAny_bind (listItems_at ho hd (wpAny_pure ?_))
      refine wpAny_bind (firsts_some vs ds (Q := fun bs s' => wpAny M A (pure (ws[0]? :: bs)) Q E s') t fun fs hl _ => wpAny_pure (h _ (by rw [List.length_cons, List.length_cons, hl]) fun z => ?_))
      have e : xs = [] := by
        have := Option.some.inj z
        injection this
      subst e
      have hz : ws.toList = [] := by
        cases q : ws.toList with
        | nil => rfl
        | cons _ _ =>
          rw [q] at hr
          cases hr
      have : ws[0]? = none := by
        rw [← Array.getElem?_toList, hz]
        rfl
      rw [this]
      rfl
theorem kind_unit {vs : List Value} {ds : List PyData} {Q : SortKind → Shared → Prop} (h2 : 2 ≤ vs.length) (t : EachIs (fun v d => ∃ xs as, d = PyData.tuple xs ∧ Reads s.heap v d as) vs ds) (h0 : ds.head? = some (.tuple [])) (h : Q oneType' s) :
    wpAny M A (keyKind' vs.toArray) Q E s := by
  rw [keyKind'_eq, List.mapM_toArray, map_eq_pure_bind]
  refine wpAny_bind (wpAny_bind (firsts_some vs ds t fun fs hl hf => wpAny_pure ?_))
  have hf0 := hf h0
  obtain ⟨rest, rfl⟩ : ∃ rest, fs = none :: rest := by
    cases fs with
    | nil => cases hf0
    | cons f rest =>
      have : f = none := Option.some.inj hf0
      exact ⟨rest, by rw [this]⟩
  rw [if_neg (by simp), if_neg (by simp)]
  rw [oneTypeOnly'_eq, List.mapM_toArray, map_eq_pure_bind]
  refine wpAny_bind (wpAny_bind (wpAny_bind (kas_mapM (r := Value.type "tuple") _ (fun v hv Q' hq => ?_) (wpAny_pure ?_))))
  · obtain ⟨d, hd, xs, as, rfl, r⟩ := t.left v hv
    exact (looks_reads r).here hq
  · obtain ⟨v₁, rest, rfl⟩ : ∃ v₁ rest, vs = v₁ :: rest := by
      cases vs with
      | nil => simp at h2
      | cons v₁ rest => exact ⟨v₁, rest, rfl⟩
    have hall : ((List.map (fun _ => Value.type "tuple") (v₁ :: rest)).toArray.all fun x => x == Value.type "tuple") = true := by
      simp only [List.all_toArray, List.all_map, List.all_eq_true]
      intro _ _
      rfl
    have h0 : (List.map (fun _ => Value.type "tuple") (v₁ :: rest)).toArray[0]? = some (Value.type "tuple") := by simp
    rw [h0]
    simp only [hall, if_true]
    exact wpAny_pure (wpAny_pure h)
end
section
variable {prog : Program} {w : World} {A : Around} {E : Value → Shared → Prop} {s : Shared}
theorem sortsAt_unit {vs : List Value} {ds : List PyData} (e : EachIs (fun v d => ∃ as, Reads s.heap v d as) vs ds) (hal : AllAlike ds) (ht : ∀ d ∈ ds, ∃ xs, d = PyData.tuple xs) (h0 : ds.head? = some (.tuple [])) (hu : ∀ d, d ∈ ds → A.units + d.depth < cLine) : SortsAt prog w A s (dataKind s.heap ds) vs := by
  refine ⟨fun v hv => ?_, oneType', ?_, fun h2 E Q hq => ?_⟩
  · obtain ⟨d, hd, as, r⟩ := e.left v hv
    exact ⟨_, dataKind_some hal hd r⟩
  · intro E x y a b Q ha hb hq
    obtain ⟨d, as, hd, ra, rfl⟩ := dataKind_inv ha
    obtain ⟨d', as', hd', rb, rfl⟩ := dataKind_inv hb
    obtain ⟨xs, rfl⟩ := ht d hd
    obtain ⟨ys, rfl⟩ := ht d' hd'
    rw [keyLt'_oneType]
    exact oneLt_tup ra rb (hal _ hd _ hd') (Nat.lt_of_le_of_lt (Nat.add_le_add_left (Nat.min_le_left _ _) _) (hu _ hd)) hq
  · exact kind_unit h2 ((each_mem e).mono fun v d ⟨⟨as, r⟩, hd⟩ => by
      obtain ⟨xs, rfl⟩ := ht d hd
      exact ⟨xs, as, rfl, r⟩) h0 hq
theorem sorted_unit {β : Type} {vs : List Value} {bs : List β} {enc : β → PyData} {R : Value → β → Prop} {l : Addr} {Q : Value → Shared → Prop} (hl : s.heap.IsList l vs.toArray) (e : EachIs R vs bs) (er : EachIs (fun v b => ∃ as, Reads s.heap v (enc b) as) vs bs) (hal : AllAlike (bs.map enc))
    (ht : ∀ b : β, ∃ xs, enc b = PyData.tuple xs) (h0 : (bs.map enc).head? = some (.tuple [])) (hL : bs.length ≤ sizeLine)
    (hu : ∀ b, b ∈ bs → A.units + 2 + (enc b).depth < cLine) (h : ∀ out, out.length = bs.length → EachIs R out (bs.mergeSort (dataLe false enc)) → Q (.ref (s.heap.objs.size + 1)) { s with heap := sortedAll s.heap vs (List.toArray out) }) :
    wpAny (model prog w) A (call (.builtin "sorted") [.ref l]) Q E s := by
  have er' : EachIs (fun v b => ∃ as, Reads (sortingHeap (copyHeap s.heap vs) (s.heap.objs.size + 1) vs) v (enc b) as) vs bs := er.mono fun _ _ ⟨as, r⟩ => ⟨as, PyProof.Rows.Reads.keeps (fun _ _ => sorting_copy_old) r⟩
  refine sorted_vals hl (sortsAt_unit (s := { s with heap := sortingHeap (copyHeap s.heap vs) (s.heap.objs.size + 1) vs }) (each_map (R := fun v d => ∃ as, Reads (sortingHeap (copyHeap s.heap vs) (s.heap.objs.size + 1) vs) v d as) enc er') hal (fun d hd => ?_) h0 (bound_map hu)) (by rw [e.length]; exact hL)
    (h _ (by rw [sortVals_length false rfl]; exact e.length) (sortVals_data false e er' hal))
  obtain ⟨b, _, rfl⟩ := List.mem_map.mp hd
  exact ht b
end
end BV

namespace BV
open PySem L2 PySem.W PySem.SeqAt PyProof.Rows
theorem each_dp {K : PySem.W.Frag} {H : Hp} : ∀ {lots : List (List Nat)} {xs : List V} {us : List Value}, Vals xs us → DpAll K H xs (lots.map lotD) → EachIs (fun v b => ∃ x : V, RelV x v ∧ Dp K H x (lotD b)) us lots
  | [], _, _, r, h => by
    have h' : DpAll K H _ [] := h
    cases h'
    cases r
    exact .nil
  | l :: lots, _, _, r, h => by
    have h' : DpAll K H _ (lotD l :: lots.map lotD) := h
    cases h' with
    | cons d ds =>
      cases r with
      | cons r1 rs => exact .cons ⟨_, r1, d⟩ (each_dp rs ds)
theorem dp_each {K : PySem.W.Frag} {H : Hp} : ∀ {lots : List (List Nat)} {us : List Value}, EachIs (fun v b => ∃ x : V, RelV x v ∧ Dp K H x (lotD b)) us lots → ∃ ys, Vals ys us ∧ DpAll K H ys (lots.map lotD)
  | _, _, .nil => ⟨[], .nil, .nil⟩
  | _, _, .cons ⟨x, r, d⟩ t => by
    obtain ⟨ys, h1, h2⟩ := dp_each t
    exact ⟨x :: ys, .cons r h1, .cons d h2⟩
theorem lotD_ints (ks : List Nat) : lotD ks = .tuple ((ks.map fun (k : Nat) => (k : Int)).map PyData.int) := by
  unfold lotD
  rw [List.map_map]
  rfl
theorem lotD_depth (ks : List Nat) : (lotD ks).depth ≤ 1 := by
  rw [lotD_ints]
  have := depth_ints (ks.map fun (k : Nat) => (k : Int))
  simp only [PyData.depth]
  omega
theorem lotD_alike (k m : List Nat) : alike (lotD k) (lotD m) = true := by
  rw [lotD_ints, lotD_ints]
  simp only [alike]
  exact alike_ints _ _
abbrev leL : List Nat → List Nat → Bool := dataLe false lotD
def rSortLots (K : PySem.W.Frag) : List V → Hp → VK → Prop := fun vs H Q => ∃ (a : Addr) (xs : List V) (lots : List (List Nat)), vs = [V.ref a] ∧ SqL K H a xs ∧ DpAll K H xs (lots.map lotD) ∧ lots.head? = some [] ∧
  ∀ (p : Addr) (ys : List V), H p = none → DpAll K H ys ((lots.mergeSort leL).map lotD) → Q (.ref p) (upd H p (.lst ys))
theorem cr_sortLots {X : Cx} (K : PySem.W.Frag) (hu : X.A.units + 64 < cLine) (h : X.K = K := by rfl) : CallR X (.builtin "sorted") (rSortLots K) := by
  subst h
  intro pins s σ H vs us Q I r h
  obtain ⟨a, xs, lots, rfl, hs, hd, h0, q⟩ := h
  obtain ⟨its, rv, hl, hz⟩ := I.list hs
  rw [Vals.ref1 r]
  have e := each_dp rv hd
  have er : EachIs (fun v b => ∃ as, Reads s.heap v (lotD b) as) its lots := e.mono fun v b ⟨x, r, d⟩ => Dp.reads I _ x v d r
  refine sorted_unit hl.isList e er (AllAlike.of lotD_alike) (fun b => ⟨_, rfl⟩) ?_ (by rw [← e.length, ← rv.length]; exact hz) (fun b _ => by have := lotD_depth b; omega) fun out ho eo => ?_
  · rw [List.head?_map, h0]
    rfl
  · obtain ⟨ys, hv, hD⟩ := dp_each eo
    obtain ⟨ep, he'⟩ := PyProof.Rows.sortedAll_at s.heap its (List.toArray out)
    have hlen : ys.length ≤ sizeLine := by
      rw [hv.length, ho, ← e.length, ← rv.length]
      exact hz
    exact ⟨.ref _, upd H (s.heap.objs.size + 1) (.lst ys), I.laid (t' := s.toks) (fun _ _ => PyProof.Rows.sortedAll_old) (Nat.le_succ _) ⟨hlen, out, ep, hv, he'⟩, rfl, q _ ys (I.hok.fresh (Nat.le_succ _)) hD⟩
theorem leL_eq (p q : List Nat) : leL p q = decide ((p.map fun (k : Nat) => (k : Int)) ≤ q.map fun (k : Nat) => (k : Int)) := by
  show (!dataLt (lotD q) (lotD p)) = _
  rw [lotD_ints, lotD_ints, dataLt_tuple]
  show (!rowLt ((q.map fun (k : Nat) => (k : Int)).map .int) ((p.map fun (k : Nat) => (k : Int)).map .int)) = _
  rw [dataLt_ints]
  by_cases h : (q.map fun (k : Nat) => (k : Int)) < p.map fun (k : Nat) => (k : Int)
  · have h' : ¬ (p.map fun (k : Nat) => (k : Int)) ≤ q.map fun (k : Nat) => (k : Int) := fun r => List.not_lt.mpr r h
    simp [h, h']
  · have h' : (p.map fun (k : Nat) => (k : Int)) ≤ q.map fun (k : Nat) => (k : Int) := List.not_lt.mp h
    simp [h, h']
theorem cast_inj : ∀ {p q : List Nat}, (p.map fun (k : Nat) => (k : Int)) = (q.map fun (k : Nat) => (k : Int)) → p = q
  | [], [], _ => rfl
  | [], _ :: _, h => by cases h
  | _ :: _, [], h => by cases h
  | a :: p, b :: q, h => by
    have h1 := List.cons.inj h
    rw [cast_inj h1.2, Int.ofNat.inj h1.1]
theorem sort_lots {l m : List (List Nat)} (h : l.Perm m) : l.mergeSort leL = m.mergeSort leL := by
  have tr : ∀ a b c : List Nat, leL a b = true → leL b c = true → leL a c = true := fun a b c h1 h2 => by
    rw [leL_eq, decide_eq_true_eq] at h1 h2 ⊢
    exact List.le_trans h1 h2
  have to : ∀ a b : List Nat, (leL a b || leL b a) = true := fun a b => by
    rw [leL_eq, leL_eq, Bool.or_eq_true, decide_eq_true_eq, decide_eq_true_eq]
    exact List.le_total _ _
  refine ((List.mergeSort_perm l leL).trans (h.trans (List.mergeSort_perm m leL).symm)).eq_of_pairwise (le := fun a b => leL a b = true) (fun a b _ _ h1 h2 => ?_) (List.pairwise_mergeSort tr to l) (List.pairwise_mergeSort tr to m)
  rw [leL_eq, decide_eq_true_eq] at h1 h2
  exact cast_inj (List.le_antisymm h1 h2)
end BV

namespace BV
open PySem L2
/-! lots by numbers -/
def lotN (L z : Nat) : List Nat := (List.range L).filter fun k => decide (z / 2 ^ (L - 1 - k) % 2 = 1)
theorem lotN_lot (L z : Nat) : LotA L (lotN L z) := ⟨List.pairwise_lt_range.filter _, fun k hk => List.mem_range.mp (List.mem_filter.mp hk).1⟩
theorem mem_lotN {L z k : Nat} : k ∈ lotN L z ↔ k < L ∧ z / 2 ^ (L - 1 - k) % 2 = 1 := by
  unfold lotN
  rw [List.mem_filter, List.mem_range, decide_eq_true_eq]
theorem bits_inj : ∀ (L : Nat) {y z : Nat}, y < 2 ^ L → z < 2 ^ L → (∀ i, i < L → (y / 2 ^ i % 2 = 1 ↔ z / 2 ^ i % 2 = 1)) → y = z
  | 0, y, z, hy, hz, _ => by
    rw [Nat.pow_zero] at hy hz
    omega
  | L + 1, y, z, hy, hz, h => by
    have e := bits_inj L (y := y / 2) (z := z / 2) (by rw [Nat.pow_succ] at hy; omega) (by rw [Nat.pow_succ] at hz; omega) fun i hi => by
      have := h (i + 1) (by omega)
      rw [Nat.pow_succ, Nat.mul_comm, ← Nat.div_div_eq_div_mul, ← Nat.div_div_eq_div_mul] at this
      exact this
    have h0 := h 0 (by omega)
    rw [Nat.pow_zero, Nat.div_one, Nat.div_one] at h0
    omega
theorem bits_ex (f : Nat → Bool) : ∀ L : Nat, ∃ z, z < 2 ^ L ∧ ∀ i, i < L → (z / 2 ^ i % 2 = 1 ↔ f i = true)
  | 0 => ⟨0, by rw [Nat.pow_zero]; omega, fun i hi => absurd hi (Nat.not_lt_zero i)⟩
  | L + 1 => by
    obtain ⟨z, h1, h2⟩ := bits_ex f L
    by_cases hf : f L = true
    · refine ⟨z + 2 ^ L, by rw [Nat.pow_succ]; omega, fun i hi => ?_⟩
      by_cases e : i = L
      · rw [e, hf, Nat.add_div_right _ (Nat.pow_pos (by decide)), Nat.div_eq_of_lt h1]
        exact ⟨fun _ => rfl, fun _ => rfl⟩
      · rw [← h2 i (by omega)]
        have e2 : 2 ^ L = 2 ^ i * (2 * 2 ^ (L - i - 1)) := by
          rw [← Nat.pow_succ', ← Nat.pow_add]
          congr 1
          omega
        rw [e2, Nat.add_mul_div_left _ _ (Nat.pow_pos (by decide))]
        generalize z / 2 ^ i = a
        generalize 2 ^ (L - i - 1) = b
        constructor <;> intro h <;> omega
    · refine ⟨z, by rw [Nat.pow_succ]; omega, fun i hi => ?_⟩
      by_cases e : i = L
      · rw [e, Nat.div_eq_of_lt h1]
        exact ⟨fun q => (by cases q), fun q => absurd q hf⟩
      · exact h2 i (by omega)
theorem lotN_inj {L y z : Nat} (hy : y < 2 ^ L) (hz : z < 2 ^ L) (h : lotN L y = lotN L z) : y = z := by
  refine bits_inj L hy hz fun i hi => ?_
  have h1 : L - 1 - i ∈ lotN L y ↔ L - 1 - i ∈ lotN L z := by rw [h]
  rw [mem_lotN, mem_lotN, show L - 1 - (L - 1 - i) = i by omega] at h1
  have h2 : L - 1 - i < L := by omega
  exact ⟨fun q => (h1.mp ⟨h2, q⟩).2, fun q => (h1.mpr ⟨h2, q⟩).2⟩
theorem lotN_all {L : Nat} {E : List Nat} (hE : LotA L E) : ∃ z, z < 2 ^ L ∧ lotN L z = E := by
  obtain ⟨z, h1, h2⟩ := bits_ex (fun i => decide (L - 1 - i ∈ E)) L
  refine ⟨z, h1, lot_ext (lotN_lot L z) hE fun k hk => ?_⟩
  rw [mem_lotN, h2 (L - 1 - k) (by omega), decide_eq_true_eq, show L - 1 - (L - 1 - k) = k by omega]
  exact ⟨fun q => q.2, fun q => ⟨hk, q⟩⟩
open Classical in
noncomputable def evensL (n : Nat) (ts : List Tie) (i : Nat) : List (List Nat) := ((List.range i).map (lotN ts.length)).filter fun E => decide (EvenE n ts E)
open Classical in
theorem evens_nd (n : Nat) (ts : List Tie) : (evensL n ts (2 ^ ts.length)).Nodup := by
  unfold evensL
  refine List.Pairwise.filter _ ?_
  refine List.pairwise_map.mpr (List.nodup_range.imp_of_mem fun {x y} hx hy hxy e => hxy (lotN_inj (List.mem_range.mp hx) (List.mem_range.mp hy) e))
open Classical in
theorem mem_evens {n : Nat} {ts : List Tie} {E : List Nat} : E ∈ evensL n ts (2 ^ ts.length) ↔ LotA ts.length E ∧ EvenE n ts E := by
  unfold evensL
  rw [List.mem_filter, decide_eq_true_eq, List.mem_map]
  constructor
  · rintro ⟨⟨z, _, rfl⟩, h⟩
    exact ⟨lotN_lot _ _, h⟩
  · rintro ⟨h1, h2⟩
    obtain ⟨z, hz, rfl⟩ := lotN_all h1
    exact ⟨⟨z, List.mem_range.mpr hz, rfl⟩, h2⟩
theorem sums_len (L : Nat) (R : Nat → List Nat) : ∀ cs : List Nat, (sumsOf L R cs).length = 2 ^ cs.length
  | [] => rfl
  | c :: cs => by
    show (sumsOf L R cs ++ (sumsOf L R cs).map _).length = _
    rw [List.length_append, List.length_map, sums_len L R cs, List.length_cons, Nat.pow_succ]
    omega
theorem sums_head (L : Nat) (R : Nat → List Nat) : ∀ cs : List Nat, (sumsOf L R cs).head? = some []
  | [] => rfl
  | c :: cs => by
    show (sumsOf L R cs ++ (sumsOf L R cs).map _).head? = _
    rw [List.head?_append, sums_head L R cs]
    rfl
open Classical in
theorem evens_head (n : Nat) (ts : List Tie) : ∀ i, (evensL n ts (i + 1)).head? = some [] := fun i => by
  have e : lotN ts.length 0 = [] := List.filter_eq_nil_iff.mpr fun k _ => by simp
  have ev : EvenE n ts [] := fun _ _ => rfl
  unfold evensL
  rw [List.range_succ_eq_map, List.map_cons, e, List.filter_cons, if_pos (decide_eq_true ev)]
  rfl
/-! lists of lots as data -/
theorem alike_lots : ∀ ls : List (List Nat), PySem.W.alikeAll (ls.map lotD) (ls.map lotD) = true
  | [] => by simp [PySem.W.alikeAll]
  | l :: ls => by
    have h := alike_lots ls
    have h2 := lotD_alike l l
    show PySem.W.alikeAll (lotD l :: ls.map lotD) (lotD l :: ls.map lotD) = true
    rw [PySem.W.alikeAll, h, h2]
    rfl
theorem eqv_lotsL (ls : List (List Nat)) : PyData.eqv (.list (ls.map lotD)) (.list (ls.map lotD)) = true :=
  PySem.W.eqv_refl_alike _ (by
    simp only [PySem.W.alike]
    exact alike_lots ls)
theorem lay_lots : ∀ ls : List (List Nat), PyData.canLayAll0 (ls.map lotD) = true
  | [] => by simp [PyData.canLayAll0]
  | l :: ls => by
    have h := lay_lots ls
    have h1 := lay_ints (l.map fun (k : Nat) => (k : Int))
    show PyData.canLayAll0 (lotD l :: ls.map lotD) = true
    rw [lotD_ints]
    rw [List.map_map] at h1
    simp [PyData.canLayAll0, PyData.canLay0, h, h1]
theorem deep_lots : ∀ ls : List (List Nat), PyData.depthAll (ls.map lotD) ≤ 1
  | [] => by simp [PyData.depthAll]
  | l :: ls => by
    have h := deep_lots ls
    have h1 := lotD_depth l
    show PyData.depthAll (lotD l :: ls.map lotD) ≤ 1
    rw [PyData.depthAll]
    omega
theorem shaped_lotsL (ls : List (List Nat)) : SeqAt.shaped (.list (ls.map lotD)) = true := by
  have h1 := lay_lots ls
  have h2 := deep_lots ls
  have h3 : PyData.depthAll (ls.map lotD) + 1 ≤ 64 := by omega
  simp [SeqAt.shaped, PyData.canLay0, PyData.depth, h1, h3]
end BV

namespace BV
open PySem L2
/-! ### the cup of draws: a list -/
structure Cup (H : Hp) (b g : Addr) : Prop where
  bx : ∃ st c : Int, H b = some (.lst [.ref g, .int st, .int c])
  gr : ∃ ns : List Int, H g = some (.lst (ns.map V.int)) ∧ ns.length ≤ 63
theorem Cup.ne {H : Hp} {b g : Addr} (x : Cup H b g) : b ≠ g := by
  obtain ⟨⟨_, _, h1⟩, ns, h2, _⟩ := x
  refine ne_of h1 h2 fun z => ?_
  have z := HO.lst.inj z
  cases ns with
  | nil => cases z
  | cons n ns => cases (List.cons.inj z).1
theorem Cup.same {H H' : Hp} {b g : Addr} (x : Cup H b g) (s : Same H H') : Cup H' b g := by
  obtain ⟨⟨st, c, h1⟩, ns, h2, h3⟩ := x
  exact ⟨⟨st, c, s _ _ h1⟩, ns, s _ _ h2, h3⟩
theorem KF.of_kpC {H H' : Hp} {b g : Addr} (k : Kp b g H H') (x : Cup H b g) : KF H H' := fun a o h q => by
  obtain ⟨⟨_, _, h1⟩, _, h2, _⟩ := x
  obtain ⟨xs, rfl | ⟨ob, rfl⟩⟩ := q
  · exact k _ _ h (ne_of h h1 (by intro z; cases z)) (ne_of h h2 (by intro z; cases z))
  · exact k _ _ h (ne_of h h1 (by intro z; cases z)) (ne_of h h2 (by intro z; cases z))
theorem cup_era {b g D : Addr} {H : Hp} (x : Cup H b g) (h1 : D ≠ b) (h2 : D ≠ g) : Cup (era H D) b g := by
  obtain ⟨⟨st, c, x1⟩, ns, x2, x3⟩ := x
  exact ⟨⟨st, c, by rw [era_ne h1.symm]; exact x1⟩, ns, by rw [era_ne h2.symm]; exact x2, x3⟩
theorem cup_set {b g l : Addr} {H : Hp} {o : HO} (x : Cup H b g) (h1 : l ≠ b) (h2 : l ≠ g) : Cup (upd H l o) b g := by
  obtain ⟨⟨st, c, x1⟩, ns, x2, x3⟩ := x
  exact ⟨⟨st, c, by rw [upd_ne h1.symm]; exact x1⟩, ns, by rw [upd_ne h2.symm]; exact x2, x3⟩
theorem cup_ne {b g l : Addr} {H : Hp} (x : Cup H b g) (h : H l = none) : l ≠ b ∧ l ≠ g := by
  obtain ⟨⟨st, c, x1⟩, ns, x2, x3⟩ := x
  exact ⟨fun e => (by rw [e, x1] at h; cases h), fun e => (by rw [e, x2] at h; cases h)⟩
/-- as LcI, with the box of draws -/
def LcC (b g : Addr) (H1 : Hp) (D : Addr) (R : Nat → List V → Hp → Prop) (i : Nat) (H : Hp) : Prop :=
  ∃ acc, H D = some (.lst acc) ∧ Kp b g H1 (era H D) ∧ Cup H b g ∧ R i acc (era H D)
theorem lc_addC {b g : Addr} {H1 H H4 : Hp} {D : Addr} {R : Nat → List V → Hp → Prop} {i : Nat} {acc : List V} {y : V} (nb : D ≠ b) (ng : D ≠ g) (ha : H D = some (.lst acc))
    (e : Kp b g H1 (era H D)) (s : Kp b g H H4) (x : Cup H4 b g) (hl : acc.length < 100000) (r : R i (acc ++ [y]) (era H4 D)) :
    ∃ acc, H4 D = some (.lst acc) ∧ acc.length < sizeLine ∧ LcC b g H1 D R i (upd H4 D (.lst (acc ++ [y]))) := by
  refine ⟨acc, s _ _ ha nb ng, Nat.lt_of_lt_of_le hl (by decide), acc ++ [y], upd_same, ?_, cup_set x nb ng, ?_⟩
  · rw [era_upd]
    exact e.trans (era_kp s)
  · rw [era_upd]
    exact r
theorem lc_skipC {b g : Addr} {H1 H H3 : Hp} {D : Addr} {R : Nat → List V → Hp → Prop} {i : Nat} {acc : List V} (nb : D ≠ b) (ng : D ≠ g) (ha : H D = some (.lst acc))
    (e : Kp b g H1 (era H D)) (s : Kp b g H H3) (x : Cup H3 b g) (r : R i acc (era H3 D)) : LcC b g H1 D R i H3 :=
  ⟨acc, s _ _ ha nb ng, e.trans (era_kp s), x, r⟩
theorem lc_runC {b g0 : Addr} {J : It} {n : Nat} {G : Hp → Prop} {Y : Nat → Hp → V → Hp → Prop} (w : Walk J n G Y) {g : TG} {tt : TT} {te : TE} {vs : List Nat}
    {σ : L2.St} {H1 : Hp} {D : Addr} {Qd : Hp → Prop} (hD : H1 D = none) (hB : Cup H1 b g0) (R : Nat → List V → Hp → Prop)
    (hG : ∀ H, Kp b g0 H1 H → Cup H b g0 → G H) (h0 : R 0 [] H1)
    (hs : ∀ i x acc H H', D ≠ b → D ≠ g0 → i < n → H D = some (.lst acc) → Kp b g0 H1 (era H D) → Kp b g0 H1 H → Cup H b g0 → R i acc (era H D) → Y i H x H' →
      g x (wipe σ vs) H' fun σ2 H2 => wipe σ2 vs = wipe σ vs ∧ tt σ2 H2 fun t H3 =>
        if t = true then te σ2 H3 fun y H4 => ∃ acc, H4 D = some (.lst acc) ∧ acc.length < sizeLine ∧ LcC b g0 H1 D R (i + 1) (upd H4 D (.lst (acc ++ [y])))
        else LcC b g0 H1 D R (i + 1) H3)
    (hd : ∀ acc H, H D = some (.lst acc) → Kp b g0 H1 H → Cup H b g0 → R n acc (era H D) → Qd H) :
    ∃ W : Nat → Nat → Hp → Prop, (∃ m, W 0 m (upd H1 D (.lst []))) ∧ ∀ i m H, W i m H →
      (J.stop i H ∧ Qd H) ∨ (J.go i H ∧ ∃ Nx : Hp → Prop, (∀ H', Nx H' → ∃ m', m' < m ∧ W (i + 1) m' H') ∧
        ∀ x H', J.yld i H x H' → g x (wipe σ vs) H' fun σ2 H2 => wipe σ2 vs = wipe σ vs ∧ tt σ2 H2 fun b H3 =>
        if b = true then te σ2 H3 fun y H4 => ∃ acc, H4 D = some (.lst acc) ∧ acc.length < sizeLine ∧ Nx (upd H4 D (.lst (acc ++ [y]))) else Nx H3) := by
  obtain ⟨nb, ng⟩ := cup_ne hB hD
  have back : ∀ {H : Hp}, Kp b g0 H1 (era H D) → Kp b g0 H1 H := fun e => e.trans (Kp.same era_back)
  refine lc_it w (LcC b g0 H1 D R) ?_ ?_ ?_ ?_
  · exact ⟨[], upd_same, by rw [era_upd, era_none hD]; exact Kp.refl _, cup_set hB nb ng, by rw [era_upd, era_none hD]; exact h0⟩
  · rintro i H _ ⟨acc, _, e, x, _⟩
    exact hG H (back e) x
  · rintro i x acc' H' hi ⟨acc, ha, e, bx, r⟩ y
    exact hs i x acc _ _ nb ng hi ha e (back e) bx r y
  · rintro H ⟨acc, ha, e, bx, r⟩
    exact hd acc H ha (back e) bx r
theorem kp_oldC {b g l : Addr} {H H1 : Hp} (kp : Kp b g H H1) (h : H1 l = none) (n1 : l ≠ b) (n2 : l ≠ g) : H l = none := by
  cases e : H l with
  | none => rfl
  | some o =>
    have := kp _ _ e n1 n2
    rw [h] at this
    cases this
theorem kp_updC {b g l : Addr} {H H1 : Hp} {o : HO} (h : H l = none) (kp : Kp b g H H1) : Kp b g H (upd H1 l o) := fun a x e n1 n2 => by
  rw [upd_ne (ne_of_none e h)]
  exact kp _ _ e n1 n2
structure OwC (b g : Addr) (H0 H : Hp) (as : List (Addr × List V)) : Prop where
  kp : Kp b g H0 H
  bx : Cup H b g
  hold : ∀ p ∈ as, H p.1 = some (.lst p.2)
  fr : ∀ p ∈ as, H0 p.1 = none
  ne : ∀ p ∈ as, p.1 ≠ b ∧ p.1 ≠ g
  nd : (as.map (·.1)).Nodup
theorem OwC.zero {b g : Addr} {H : Hp} (B : Cup H b g) : OwC b g H H [] := ⟨Kp.refl H, B, by simp, by simp, by simp, .nil⟩
theorem OwC.draw {b g : Addr} {H0 H H' : Hp} {as : List (Addr × List V)} (O : OwC b g H0 H as) (k : Kp b g H H') (B : Cup H' b g) : OwC b g H0 H' as :=
  ⟨O.kp.trans k, B, fun p hp => k _ _ (O.hold p hp) (O.ne p hp).1 (O.ne p hp).2, O.fr, O.ne, O.nd⟩
theorem OwC.same {b g : Addr} {H0 H H' : Hp} {as : List (Addr × List V)} (O : OwC b g H0 H as) (s : Same H H') : OwC b g H0 H' as :=
  ⟨O.kp.trans (Kp.same s), O.bx.same s, fun p hp => s _ _ (O.hold p hp), O.fr, O.ne, O.nd⟩
theorem OwC.new {b g : Addr} {H0 H : Hp} {as : List (Addr × List V)} (O : OwC b g H0 H as) {q : Addr} {xs : List V} (h : H q = none) : OwC b g H0 (upd H q (.lst xs)) ((q, xs) :: as) := by
  obtain ⟨nb, ng⟩ := cup_ne O.bx h
  have s := same_new (o := .lst xs) h
  refine ⟨O.kp.trans (Kp.same s), O.bx.same s, fun p hp => ?_, fun p hp => ?_, fun p hp => ?_, ?_⟩
  · rcases List.mem_cons.mp hp with e | e
    · rw [e]
      exact upd_same
    · exact s _ _ (O.hold p e)
  · rcases List.mem_cons.mp hp with e | e
    · rw [e]
      exact kp_oldC O.kp h nb ng
    · exact O.fr p e
  · rcases List.mem_cons.mp hp with e | e
    · rw [e]
      exact ⟨nb, ng⟩
    · exact O.ne p e
  · refine List.nodup_cons.mpr ⟨fun z => ?_, O.nd⟩
    obtain ⟨p, hp, e⟩ := List.mem_map.mp z
    have := O.hold p hp
    rw [e, h] at this
    cases this
theorem OwC.sub {b g : Addr} {H0 H : Hp} {as bs : List (Addr × List V)} (O : OwC b g H0 H as) (h : bs.Sublist as) : OwC b g H0 H bs :=
  ⟨O.kp, O.bx, fun p hp => O.hold p (h.subset hp), fun p hp => O.fr p (h.subset hp), fun p hp => O.ne p (h.subset hp), O.nd.sublist (h.map _)⟩
theorem OwC.at0 {b g : Addr} {H0 H : Hp} {as : List (Addr × List V)} (O : OwC b g H0 H as) (i : Nat) {a : Addr} {xs : List V} (h : as[i]? = some (a, xs)) : H a = some (.lst xs) := O.hold _ (List.mem_of_getElem? h)
theorem OwC.put {b g : Addr} {H0 H : Hp} {as : List (Addr × List V)} (O : OwC b g H0 H as) (i : Nat) {a : Addr} {xs ys : List V} (h : as[i]? = some (a, xs)) : OwC b g H0 (upd H a (.lst ys)) (as.set i (a, ys)) := by
  have hm := List.mem_of_getElem? h
  have hi := (List.getElem?_eq_some_iff.mp h).1
  have hin : ∀ p ∈ as.set i (a, ys), p = (a, ys) ∨ (p ∈ as ∧ p.1 ≠ a) := fun p hp => by
    obtain ⟨j, hj⟩ := List.getElem?_of_mem hp
    by_cases e : i = j
    · subst e
      rw [List.getElem?_set_self hi] at hj
      exact .inl (Option.some.inj hj).symm
    · rw [List.getElem?_set_ne e] at hj
      refine .inr ⟨List.mem_of_getElem? hj, fun z => ?_⟩
      have h1 : (as.map (·.1))[i]? = some a := by rw [List.getElem?_map, h]; rfl
      have h2 : (as.map (·.1))[j]? = some a := by rw [List.getElem?_map, hj]; exact congrArg some z
      have hjl := (List.getElem?_eq_some_iff.mp h2).1
      have hil := (List.getElem?_eq_some_iff.mp h1).1
      have := (List.getElem?_inj hil O.nd).mp (h1.trans h2.symm)
      exact e this
  have hmap : (as.set i (a, ys)).map (·.1) = as.map (·.1) := by
    rw [List.map_set]
    refine List.ext_getElem? fun j => ?_
    by_cases e : i = j
    · subst e
      rw [List.getElem?_set_self (by rw [List.length_map]; exact hi), List.getElem?_map, h]
      rfl
    · rw [List.getElem?_set_ne e]
  refine ⟨kp_updC (O.fr _ hm) O.kp, cup_set O.bx (O.ne _ hm).1 (O.ne _ hm).2, fun p hp => ?_, fun p hp => ?_, fun p hp => ?_, by rw [hmap]; exact O.nd⟩
  · rcases hin p hp with e | ⟨e, n⟩
    · rw [e]
      exact upd_same
    · rw [upd_ne n]
      exact O.hold p e
  · rcases hin p hp with e | ⟨e, n⟩
    · rw [e]
      exact (O.fr (a, xs) hm : H0 a = none)
    · exact O.fr p e
  · rcases hin p hp with e | ⟨e, n⟩
    · rw [e]
      exact (O.ne (a, xs) hm : a ≠ b ∧ a ≠ g)
    · exact O.ne p e
theorem dpAll_erase {K : PySem.W.Frag} {H : Hp} : ∀ {ds : List PyData} {vs : List V} (j : Nat), DpAll K H vs ds → DpAll K H (vs.eraseIdx j) (ds.eraseIdx j)
  | [], _, j, h => by cases h; simpa using DpAll.nil
  | d :: ds, _, 0, h => by
    cases h with
    | cons h1 h2 => exact h2
  | d :: ds, _, j + 1, h => by
    cases h with
    | cons h1 h2 => exact .cons h1 (dpAll_erase j h2)
theorem map_erase {α β : Type} (f : α → β) : ∀ (l : List α) (j : Nat), (l.map f).eraseIdx j = (l.eraseIdx j).map f
  | [], _ => rfl
  | _ :: _, 0 => rfl
  | a :: l, j + 1 => by
    show f a :: (l.map f).eraseIdx j = f a :: (l.eraseIdx j).map f
    rw [map_erase f l j]
theorem erase_perm {α : Type} {l : List α} {j : Nat} {z : α} (h : l[j]? = some z) : (z :: l.eraseIdx j).Perm l := by
  induction l generalizing j with
  | nil => cases h
  | cons a r ih =>
    cases j with
    | zero =>
      cases h
      exact List.Perm.refl _
    | succ j => exact (List.Perm.swap a z _).trans ((ih (j := j) (by simpa using h)).cons a)

def spCup (K : PySem.W.Frag) : Sp := fun vs H Q _ => ∃ (a : Addr) (ns : List Int), vs = [.ref a] ∧ SqL K H a (ns.map V.int) ∧ ns.length ≤ 63 ∧
  ∀ (b g : Addr) (H' : Hp), H b = none → H g = none → Same H H' → Cup H' b g → Q (.ref b) H'
def spDrawC : Sp := fun vs H Q _ => ∃ (b g : Addr) (m : Int), vs = [.ref b, .int m] ∧ 0 < m ∧ m < 2 ^ 30 ∧ Cup H b g ∧
  ∀ (r : Int) (H' : Hp), 0 ≤ r → r < m → Kp b g H H' → Cup H' b g → Q (.int r) H'
def spPickC (K : PySem.W.Frag) : Sp := fun vs H Q _ => ∃ (b g l : Addr) (xs : List V), vs = [.ref b, .ref l] ∧ SqL K H l xs ∧ l ≠ b ∧ l ≠ g ∧
  0 < xs.length ∧ xs.length < 1000000 ∧ Cup H b g ∧ ∀ (j : Nat) (v : V) (H' : Hp), xs[j]? = some v → Kp b g H H' → Cup H' b g → Q v H'
end BV

namespace BV
open PySem L2
/-! ### data, the empty dict among it -/
def Od (K : PySem.W.Frag) (H : Hp) (x : V) (d : PyData) : Prop := Dp K H x d ∨ (d = .dict [] ∧ ∃ a, x = .ref a ∧ H a = some (.dK []))
theorem Od.same {K : PySem.W.Frag} {H H' : Hp} {x : V} {d : PyData} (s : Same H H') (h : Od K H x d) : Od K H' x d := by
  rcases h with h | ⟨rfl, a, rfl, h⟩
  · exact .inl (dp_same s _ h)
  · exact .inr ⟨rfl, a, rfl, s _ _ h⟩
def tyN : PyData → String
  | .none => "NoneType"
  | .bool _ => "bool"
  | .int _ => "int"
  | .str _ => "str"
  | .list _ => "list"
  | .tuple _ => "tuple"
  | .dict _ => "dict"
theorem sq_list_ty {K : PySem.W.Frag} {H : Hp} {a : Addr} {xs : List V} (h : SqL K H a xs) : TyX K H (.ref a) (.type "list") := by
  rcases h with (h | ⟨o, h⟩) | h
  · exact .base (.lst h)
  · exact .base (.frz h)
  · obtain ⟨o, its, n, h1, h2, _⟩ := h
    exact .kList h1 h2
theorem sq_tup_ty {K : PySem.W.Frag} {H : Hp} {a : Addr} {xs : List V} (h : SqT K H a xs) : TyX K H (.ref a) (.type "tuple") := by
  rcases h with (h | ⟨o, h⟩) | h
  · exact .base (.tup h)
  · exact .fTuple h
  · obtain ⟨o, its, n, h1, h2, _⟩ := h
    exact .kTuple h1 h2
theorem ty_of {K : PySem.W.Frag} {H : Hp} {x : V} {d : PyData} (h : Od K H x d) : TyX K H x (.type (tyN d)) := by
  rcases h with h | ⟨rfl, a, rfl, h⟩
  · cases h with
    | non => exact .base .non
    | bl b => exact .base (.bl b)
    | int i => exact .base (.int i)
    | str s => exact .base (.str s)
    | lst h1 _ => exact sq_list_ty h1
    | tup h1 _ => exact sq_tup_ty h1
  · exact .base (.dK h)
def rIsiD (K : PySem.W.Frag) : List V → Hp → VK → Prop := fun xs H Q => ∃ (x : V) (d : PyData) (T : String) (b : Bool), xs = [x, .ty T] ∧ Od K H x d ∧ kitB (tyN d) T = some b ∧ Q (.bl b) H
theorem isiD {X : Cx} (K : PySem.W.Frag) (h : X.K = K := by rfl) : CallR X (.builtin "isinstance") (rIsiD K) := by
  subst h
  intro pins s σ H vs us Q I r h
  obtain ⟨x, d, T, b, rfl, hd, hk, q⟩ := h
  exact call_isi pins s σ H _ us Q I r ⟨x, _, _, _, b, rfl, .ty T, ty_of hd, kit_ty hk, q⟩
def isTup : PyData → Bool
  | .tuple _ => true
  | _ => false
def isInt : PyData → Bool
  | .int _ => true
  | _ => false
theorem kit_tup (d : PyData) : kitB (tyN d) "tuple" = some (isTup d) := by
  cases d <;> simp only [tyN, isTup] <;> decide +kernel
def isIntB : PyData → Bool
  | .int _ => true
  | .bool _ => true
  | _ => false
def isBool : PyData → Bool
  | .bool _ => true
  | _ => false
theorem kit_int (d : PyData) : kitB (tyN d) "int" = some (isIntB d) := by
  cases d <;> simp only [tyN, isIntB] <;> decide +kernel
theorem kit_bool (d : PyData) : kitB (tyN d) "bool" = some (isBool d) := by
  cases d <;> simp only [tyN, isBool] <;> decide +kernel
end BV

namespace BV
open PySem L2
/-! ### repr of data, the empty dict among it -/
def ShowO (d : PyData) : Prop := Show d ∨ d = .dict []
section
variable {X : Cx}
theorem call_reprO (hgd : X.A.guards = some []) (hu : X.A.units + 64 < cLine) :
    CallR X (.builtin "repr") (fun xs H Q => ∃ (x : V) (d : PyData), xs = [x] ∧ Od X.K H x d ∧ ShowO d ∧ Q (.str d.shown) H) := by
  intro pins s σ H xs us Q I r h
  obtain ⟨x, d, rfl, hd, hs, q⟩ := h
  rcases hd with hd | ⟨rfl, a, rfl, ha⟩
  · rcases hs with hs | rfl
    · exact call_reprD hgd hu pins s σ H _ us Q I r ⟨x, d, rfl, hd, hs, q⟩
    · cases hd
  · rw [Vals.ref1 r]
    have hk := I.hok a _ ha
    unfold ObjOk at hk
    obtain ⟨_, hsys, vs, kv, o, es, ep, h1, h2, h3, h4, h5, h6⟩ := hk
    cases kv
    have he : es.toList = [] := by
      generalize es.toList = l at h5
      cases h5
      rfl
    have rd : Reads s.heap (.ref a) (.dict []) (a :: [] ++ []) := .dict h1 h2.1 h3 (by rw [he]; exact .nil) (by rw [he]; exact .nil)
    refine repr_of_reads' rd (by decide) (fun _ hm => ?_) hgd (by show X.A.units + (PyData.depth (.dict []) + 1) < cLine; have : PyData.depth (.dict []) = 1 := by decide
                                                                  omega) (fun _ _ e => e) (fun h' u tk hk => ?_) (by decide)
    · have : sysModules = a := by simpa using hm
      rw [this] at hsys
      simp at hsys
    · exact ⟨.str _, H, I.kept (t' := tk) hk, ⟨u, rfl⟩, q⟩
end
def rReprO (K : PySem.W.Frag) : List V → Hp → VK → Prop := fun xs H Q => ∃ (x : V) (d : PyData), xs = [x] ∧ Od K H x d ∧ ShowO d ∧ Q (.str d.shown) H
theorem reprO {X : Cx} (K : PySem.W.Frag) (hgd : X.A.guards = some []) (hu : X.A.units + 64 < cLine) (h : X.K = K := by rfl) : CallR X (.builtin "repr") (rReprO K) := by
  subst h
  exact call_reprO hgd hu
end BV

namespace BV
open PySem L2 Builtin Builtin.Str
/-! ### texts whose signs are low -/
def low (x : Str) : Prop := ∀ c ∈ x.cps.toList, c < 16 ^ 8
theorem low_app {x y : Str} (hx : low x) (hy : low y) : low (x ++ y) := by
  intro c hc
  have : c ∈ (x.cps ++ y.cps).toList := hc
  rw [Array.toList_append] at this
  rcases List.mem_append.mp this with z | z
  · exact hx c z
  · exact hy c z
theorem low_char (c : Char) : c.toNat < 16 ^ 8 := by
  have : c.val.toNat < 4294967296 := c.val.toNat_lt
  have e : (16 : Nat) ^ 8 = 4294967296 := by decide
  rw [e]
  exact this
theorem low_of (s : String) : low (Str.ofString s) := by
  intro c hc
  rw [Str.ofString_eq_toList] at hc
  have hc' : c ∈ s.toList.map Char.toNat := by simpa using hc
  obtain ⟨d, _, rfl⟩ := List.mem_map.mp hc'
  exact low_char d
theorem low_reprChar {q c : Nat} (hq : q < 16 ^ 8) (hc : c < 16 ^ 8) : ∀ d ∈ reprChar q c, d < 16 ^ 8 := by
  have e : (16 : Nat) ^ 8 = 4294967296 := by decide
  have hex : ∀ w d, d ∈ (List.replicate (w - ((Nat.toDigits 16 c).map Char.toNat).length) 48 ++ (Nat.toDigits 16 c).map Char.toNat) → d < 16 ^ 8 := fun w d hd => by
    rcases List.mem_append.mp hd with z | z
    · rw [List.eq_of_mem_replicate z]
      decide
    · obtain ⟨x, _, rfl⟩ := List.mem_map.mp z
      exact low_char x
  intro d hd
  unfold reprChar at hd
  dsimp only at hd
  repeat' split at hd
  all_goals first
    | (rcases List.mem_append.mp hd with z | z
       · simp only [List.mem_cons, List.not_mem_nil, or_false] at z
         rw [e]
         omega
       · exact hex _ _ z)
    | (simp only [List.mem_cons, List.not_mem_nil, or_false] at hd
       rw [e] at hc hq ⊢
       omega)
theorem low_fold (q : Nat) (hq : q < 16 ^ 8) : ∀ (l : List Nat) (acc : Array Nat), (∀ c ∈ l, c < 16 ^ 8) → (∀ c ∈ acc.toList, c < 16 ^ 8) → ∀ c ∈ (l.foldl (fun out c => out ++ (reprChar q c).toArray) acc).toList, c < 16 ^ 8
  | [], acc, _, h => h
  | x :: r, acc, h1, h2 => by
    refine low_fold q hq r _ (fun d hd => h1 d (List.mem_cons_of_mem _ hd)) fun d hd => ?_
    rw [Array.toList_append] at hd
    rcases List.mem_append.mp hd with z | z
    · exact h2 d z
    · exact low_reprChar hq (h1 x (List.mem_cons_self ..)) d z
theorem low_repr {x : Str} (h : low x) : low (reprText x) := by
  have hq : reprQuote x < 16 ^ 8 := by
    unfold reprQuote
    split <;> decide
  intro c hc
  unfold reprText at hc
  rw [Array.toList_push] at hc
  rcases List.mem_append.mp hc with z | z
  · rw [← Array.foldl_toList] at z
    exact low_fold _ hq _ _ h (fun d hd => by
      have : d = reprQuote x := by simpa using hd
      rw [this]
      exact hq) c z
  · rw [List.mem_singleton.mp z]
    exact hq
theorem low_join {s : Str} (hs : low s) : ∀ ts : List Str, (∀ t ∈ ts, low t) → low (Str.join s ts)
  | [], _ => fun c hc => by simp [Str.join, Str.empty] at hc
  | [x], h => h x (List.mem_cons_self ..)
  | x :: y :: r, h => low_app (low_app (h x (List.mem_cons_self ..)) hs) (low_join hs (y :: r) fun t ht => h t (List.mem_cons_of_mem _ ht))
theorem low_from : ∀ (ts : List Str) (k : Nat) (acc : Str), low acc → (∀ t ∈ ts, low t) → low (textFrom k acc ts)
  | [], _, _, h, _ => h
  | t :: ts, k, acc, h, ht => low_from ts (k + 1) _ (low_app (low_app h (low_of _)) (ht t (List.mem_cons_self ..))) fun u hu => ht u (List.mem_cons_of_mem _ hu)
mutual
/-- data whose texts are low -/
def lowD : PyData → Bool
  | .none | .bool _ | .int _ => true
  | .str x => x.cps.toList.all fun c => decide (c < 16 ^ 8)
  | .list xs | .tuple xs => lowAll xs
  | .dict kvs => kvs.isEmpty
def lowAll : List PyData → Bool
  | [] => true
  | x :: xs => lowD x && lowAll xs
end
mutual
theorem low_shown : ∀ d : PyData, lowD d = true → low d.shown
  | .none, _ => by simp only [PyData.shown]; exact low_of _
  | .bool b, _ => by simp only [PyData.shown]; split <;> exact low_of _
  | .int i, _ => by simp only [PyData.shown]; exact low_of _
  | .str x, h => by
    simp only [PyData.shown]
    refine low_repr fun c hc => ?_
    have h' : ∀ c ∈ x.cps.toList, c < 16 ^ 8 := by
      simp only [lowD, List.all_eq_true, decide_eq_true_eq] at h
      exact h
    exact h' c hc
  | .list xs, h => by
    simp only [PyData.shown]
    exact low_app (low_from _ _ _ (low_of _) (low_shownAll xs (by simpa [lowD] using h))) (low_of _)
  | .tuple xs, h => by
    simp only [PyData.shown]
    exact low_app (low_app (low_of _) (low_join (low_of _) _ (low_shownAll xs (by simpa [lowD] using h)))) (low_of _)
  | .dict kvs, h => by
    have e : kvs = [] := by simpa [lowD] using h
    subst e
    simp only [PyData.shown, PyData.shownKv]
    exact low_app (low_app (low_of _) (low_join (low_of _) _ (by simp))) (low_of _)
theorem low_shownAll : ∀ xs : List PyData, lowAll xs = true → ∀ t ∈ PyData.shownAll xs, low t
  | [], _ => by simp [PyData.shownAll]
  | x :: xs, h => by
    have h' : lowD x = true ∧ lowAll xs = true := by simpa [lowAll] using h
    intro t ht
    simp only [PyData.shownAll] at ht
    rcases List.mem_cons.mp ht with e | e
    · rw [e]
      exact low_shown x h'.1
    · exact low_shownAll xs h'.2 t e
end
end BV

namespace BV
open PySem L2
/-! ### data: with lists (b true) or with empty dicts (b false), none of whose lists and dicts lies at N -/
mutual
inductive Dm (K : PySem.W.Frag) (H : Hp) (N : Addr → Prop) (b : Bool) : V → PyData → Prop
  | non : Dm K H N b .non .none
  | bl (z : Bool) : Dm K H N b (.bl z) (.bool z)
  | int (i : Int) : Dm K H N b (.int i) (.int i)
  | str (x : Str) : Dm K H N b (.str x) (.str x)
  | lst {a : Addr} {xs : List V} {ds : List PyData} : b = true → ¬ N a → SqL K H a xs → DmAll K H N b xs ds → Dm K H N b (.ref a) (.list ds)
  | tup {a : Addr} {xs : List V} {ds : List PyData} : SqT K H a xs → DmAll K H N b xs ds → Dm K H N b (.ref a) (.tuple ds)
  | dic {a : Addr} : b = false → ¬ N a → H a = some (.dK []) → Dm K H N b (.ref a) (.dict [])
inductive DmAll (K : PySem.W.Frag) (H : Hp) (N : Addr → Prop) (b : Bool) : List V → List PyData → Prop
  | nil : DmAll K H N b [] []
  | cons {v : V} {vs : List V} {d : PyData} {ds : List PyData} : Dm K H N b v d → DmAll K H N b vs ds → DmAll K H N b (v :: vs) (d :: ds)
end
section
variable {K : PySem.W.Frag} {H H' : Hp} {N : Addr → Prop} {b : Bool}
mutual
theorem dm_keep (s : ∀ a o, H a = some o → ¬ N a → H' a = some o) (f : KF H H') : ∀ (d : PyData) {v : V}, Dm K H N b v d → Dm K H' N b v d
  | .none, _, h => by cases h; exact .non
  | .bool z, _, h => by cases h; exact .bl z
  | .int i, _, h => by cases h; exact .int i
  | .str x, _, h => by cases h; exact .str x
  | .list ds, _, h => by
    cases h with
    | lst e n h1 h2 =>
      refine .lst e n ?_ (dmAll_keep s f ds h2)
      rcases h1 with (h1 | ⟨o, h1⟩) | h1
      · exact .inl (.inl (s _ _ h1 n))
      · exact .inl (.inr ⟨o, s _ _ h1 n⟩)
      · exact .inr h1
  | .tuple ds, _, h => by
    cases h with
    | tup h1 h2 => exact .tup (sqT_kf f h1) (dmAll_keep s f ds h2)
  | .dict _, _, h => by
    cases h with
    | dic e n h1 => exact .dic e n (s _ _ h1 n)
theorem dmAll_keep (s : ∀ a o, H a = some o → ¬ N a → H' a = some o) (f : KF H H') : ∀ (ds : List PyData) {vs : List V}, DmAll K H N b vs ds → DmAll K H' N b vs ds
  | [], _, h => by cases h; exact .nil
  | d :: ds, _, h => by
    cases h with
    | cons h1 h2 => exact .cons (dm_keep s f d h1) (dmAll_keep s f ds h2)
end
theorem dm_same (s : Same H H') {d : PyData} {v : V} (h : Dm K H N b v d) : Dm K H' N b v d := dm_keep (fun a o e _ => s a o e) (KF.of_same s) d h
theorem dmAll_same (s : Same H H') {ds : List PyData} {vs : List V} (h : DmAll K H N b vs ds) : DmAll K H' N b vs ds := dmAll_keep (fun a o e _ => s a o e) (KF.of_same s) ds h
abbrev NB (x g : Addr) : Addr → Prop := fun a => a = x ∨ a = g
theorem dm_kp {x g : Addr} (k : Kp x g H H') (B : Box H x g) {d : PyData} {v : V} (h : Dm K H (NB x g) b v d) : Dm K H' (NB x g) b v d :=
  dm_keep (fun a o e n => k a o e (fun z => n (.inl z)) (fun z => n (.inr z))) (KF.of_kp k B) d h
mutual
theorem dp_dm : ∀ (d : PyData) {v : V}, still d = true → Dp K H v d → Dm K H N b v d
  | .none, _, _, h => by cases h; exact .non
  | .bool z, _, _, h => by cases h; exact .bl z
  | .int i, _, _, h => by cases h; exact .int i
  | .str x, _, _, h => by cases h; exact .str x
  | .list ds, _, q, h => by simp [still] at q
  | .tuple ds, _, q, h => by
    cases h with
    | tup h1 h2 => exact .tup h1 (dpAll_dm ds (by simpa [still] using q) h2)
  | .dict _, _, _, h => by cases h
theorem dpAll_dm : ∀ (ds : List PyData) {vs : List V}, stillAll ds = true → DpAll K H vs ds → DmAll K H N b vs ds
  | [], _, _, h => by cases h; exact .nil
  | d :: ds, _, q, h => by
    have q' : still d = true ∧ stillAll ds = true := by simpa [stillAll] using q
    cases h with
    | cons h1 h2 => exact .cons (dp_dm d q'.1 h1) (dpAll_dm ds q'.2 h2)
end
mutual
theorem dm_dp : ∀ (d : PyData) {v : V}, d.hasDict = false → Dm K H N b v d → Dp K H v d
  | .none, _, _, h => by cases h; exact .non
  | .bool z, _, _, h => by cases h; exact .bl z
  | .int i, _, _, h => by cases h; exact .int i
  | .str x, _, _, h => by cases h; exact .str x
  | .list ds, _, q, h => by
    cases h with
    | lst e n h1 h2 => exact .lst h1 (dmAll_dp ds (by simpa [PyData.hasDict] using q) h2)
  | .tuple ds, _, q, h => by
    cases h with
    | tup h1 h2 => exact .tup h1 (dmAll_dp ds (by simpa [PyData.hasDict] using q) h2)
  | .dict _, _, q, h => by simp [PyData.hasDict] at q
theorem dmAll_dp : ∀ (ds : List PyData) {vs : List V}, PyData.hasDictAll ds = false → DmAll K H N b vs ds → DpAll K H vs ds
  | [], _, _, h => by cases h; exact .nil
  | d :: ds, _, q, h => by
    have q' : d.hasDict = false ∧ PyData.hasDictAll ds = false := by simpa [PyData.hasDictAll] using q
    cases h with
    | cons h1 h2 => exact .cons (dm_dp d q'.1 h1) (dmAll_dp ds q'.2 h2)
end
mutual
theorem dm_nodict : ∀ (d : PyData) {v : V}, Dm K H N true v d → d.hasDict = false
  | .none, _, h => by simp [PyData.hasDict]
  | .bool z, _, h => by simp [PyData.hasDict]
  | .int i, _, h => by simp [PyData.hasDict]
  | .str x, _, h => by simp [PyData.hasDict]
  | .list ds, _, h => by
    cases h with
    | lst e n h1 h2 => simpa [PyData.hasDict] using dmAll_nodict ds h2
  | .tuple ds, _, h => by
    cases h with
    | tup h1 h2 => simpa [PyData.hasDict] using dmAll_nodict ds h2
  | .dict _, _, h => by
    cases h with
    | dic e _ _ => cases e
theorem dmAll_nodict : ∀ (ds : List PyData) {vs : List V}, DmAll K H N true vs ds → PyData.hasDictAll ds = false
  | [], _, h => by simp [PyData.hasDictAll]
  | d :: ds, _, h => by
    cases h with
    | cons h1 h2 => simp [PyData.hasDictAll, dm_nodict d h1, dmAll_nodict ds h2]
end
theorem dmAll_len : ∀ {ds : List PyData} {vs : List V}, DmAll K H N b vs ds → vs.length = ds.length
  | [], _, h => by cases h; rfl
  | d :: ds, _, h => by
    cases h with
    | cons h1 h2 => exact congrArg Nat.succ (dmAll_len h2)
theorem dmAll_get : ∀ {ds : List PyData} {vs : List V} {i : Nat} {v : V}, DmAll K H N b vs ds → vs[i]? = some v → ∃ d, ds[i]? = some d ∧ Dm K H N b v d
  | [], _, _, _, h, e => by cases h; simp at e
  | d :: ds, _, 0, _, h, e => by
    cases h with
    | cons h1 h2 =>
      simp at e
      subst e
      exact ⟨d, rfl, h1⟩
  | d :: ds, _, i + 1, v, h, e => by
    cases h with
    | cons h1 h2 =>
      obtain ⟨d', a, b⟩ := dmAll_get (i := i) (v := v) h2 (by simpa using e)
      exact ⟨d', by simpa using a, b⟩
theorem dmAll_at : ∀ {ds : List PyData} {vs : List V} {i : Nat} {d : PyData}, DmAll K H N b vs ds → ds[i]? = some d → ∃ v, vs[i]? = some v ∧ Dm K H N b v d
  | [], _, _, _, h, e => by simp at e
  | d :: ds, _, 0, _, h, e => by
    cases h with
    | cons h1 h2 =>
      simp at e
      subst e
      exact ⟨_, rfl, h1⟩
  | d :: ds, _, i + 1, v, h, e => by
    cases h with
    | cons h1 h2 =>
      obtain ⟨d', a, b⟩ := dmAll_at (i := i) (d := v) h2 (by simpa using e)
      exact ⟨d', by simpa using a, b⟩
theorem dmAll_app : ∀ {ds es : List PyData} {vs us : List V}, DmAll K H N b vs ds → DmAll K H N b us es → DmAll K H N b (vs ++ us) (ds ++ es)
  | [], _, _, _, h, g => by cases h; exact g
  | d :: ds, _, _, _, h, g => by
    cases h with
    | cons h1 h2 => exact .cons h1 (dmAll_app h2 g)
theorem dmAll_take : ∀ {ds : List PyData} {vs : List V} (j : Nat), DmAll K H N b vs ds → DmAll K H N b (vs.take j) (ds.take j)
  | [], _, j, h => by cases h; simpa using DmAll.nil
  | d :: ds, _, 0, h => .nil
  | d :: ds, _, j + 1, h => by
    cases h with
    | cons h1 h2 => exact .cons h1 (dmAll_take j h2)
theorem dmAll_drop : ∀ {ds : List PyData} {vs : List V} (j : Nat), DmAll K H N b vs ds → DmAll K H N b (vs.drop j) (ds.drop j)
  | [], _, j, h => by cases h; simpa using DmAll.nil
  | d :: ds, _, 0, h => h
  | d :: ds, _, j + 1, h => by
    cases h with
    | cons h1 h2 => exact dmAll_drop j h2
theorem dm_tup {v : V} {ds : List PyData} (h : Dm K H N b v (.tuple ds)) : ∃ a xs, v = .ref a ∧ SqT K H a xs ∧ DmAll K H N b xs ds := by
  cases h with
  | tup h1 h2 => exact ⟨_, _, rfl, h1, h2⟩
theorem tyM {v : V} {d : PyData} (h : Dm K H N b v d) : TyX K H v (.type (tyN d)) := by
  cases h with
  | non => exact .base .non
  | bl b => exact .base (.bl b)
  | int i => exact .base (.int i)
  | str s => exact .base (.str s)
  | lst _ _ h1 _ => exact sq_list_ty h1
  | tup h1 _ => exact sq_tup_ty h1
  | dic _ _ h => exact .base (.dK h)
end
def rIsiM (K : PySem.W.Frag) (N : Addr → Prop) (b : Bool) : List V → Hp → VK → Prop := fun xs H Q => ∃ (x : V) (d : PyData) (T : String) (z : Bool), xs = [x, .ty T] ∧ Dm K H N b x d ∧ kitB (tyN d) T = some z ∧ Q (.bl z) H
theorem isiM {X : Cx} (K : PySem.W.Frag) (N : Addr → Prop) (b : Bool) (h : X.K = K := by rfl) : CallR X (.builtin "isinstance") (rIsiM K N b) := by
  subst h
  intro pins s σ H vs us Q I r h
  obtain ⟨x, d, T, b, rfl, hd, hk, q⟩ := h
  exact call_isi pins s σ H _ us Q I r ⟨x, _, _, _, b, rfl, .ty T, tyM hd, kit_ty hk, q⟩
section
variable {X : Cx} {pins : List (Addr × Obj)} {σ : St} {H : Hp} {s : Shared} {N : Addr → Prop} {b : Bool}
mutual
theorem dm_reads (I : Inv X pins σ H s) : ∀ (d : PyData) (v : V) (u : Value), Dm X.K H N b v d → RelV v u → ∃ as, Reads s.heap u d as ∧ (b = false → sysModules ∉ as)
  | .none, _, _, h, r => by
    cases h
    cases r
    exact ⟨_, Reads.none, fun _ => by simp⟩
  | .bool z, _, _, h, r => by
    cases h
    cases r
    exact ⟨_, Reads.bool z, fun _ => by simp⟩
  | .int i, _, _, h, r => by
    cases h
    obtain ⟨t, rfl⟩ := r
    exact ⟨_, Reads.int i t, fun _ => by simp⟩
  | .str x, _, _, h, r => by
    cases h
    obtain ⟨t, rfl⟩ := r
    exact ⟨_, Reads.str x t, fun _ => by simp⟩
  | .list ds, _, _, h, r => by
    cases h with
    | lst e n hs ha =>
      cases r
      obtain ⟨its, rv, ⟨o, n, ho, hc, _, hd⟩, _⟩ := I.list hs
      obtain ⟨as, hr, _⟩ := dm_readsAll I ds _ its ha rv
      exact ⟨_, Reads.list ho hc hd hr, fun z => by rw [e] at z; cases z⟩
  | .tuple ds, _, _, h, r => by
    cases h with
    | tup hs ha =>
      cases r
      obtain ⟨its, rv, ⟨o, ho, hc, n, hd⟩, _⟩ := I.tuple hs
      obtain ⟨as, hr, hn⟩ := dm_readsAll I ds _ its ha rv
      exact ⟨_, Reads.tuple ho hc hd hr, hn⟩
  | .dict kvs, _, _, h, r => by
    cases h with
    | dic e n hh =>
      cases r
      have hk := I.hok _ _ hh
      unfold ObjOk at hk
      obtain ⟨_, hsys, vs, kv, o, es, ep, h1, h2, h3, h4, h5, h6⟩ := hk
      cases kv
      have he : es.toList = [] := by
        generalize es.toList = l at h5
        cases h5
        rfl
      refine ⟨_, Reads.dict h1 h2.1 h3 (by rw [he]; exact .nil) (by rw [he]; exact .nil), fun _ hm => ?_⟩
      have := List.mem_singleton.mp (by simpa using hm)
      rw [← this] at hsys
      simp at hsys
theorem dm_readsAll (I : Inv X pins σ H s) : ∀ (ds : List PyData) (vs : List V) (us : List Value), DmAll X.K H N b vs ds → Vals vs us → ∃ as, ReadsAll s.heap us ds as ∧ (b = false → sysModules ∉ as)
  | [], _, _, h, r => by
    cases h
    cases r
    exact ⟨_, ReadsAll.nil, fun _ => by simp⟩
  | d :: ds, _, _, h, r => by
    cases h with
    | cons h1 h2 =>
      cases r with
      | cons r1 r2 =>
        obtain ⟨as, q1, n1⟩ := dm_reads I d _ _ h1 r1
        obtain ⟨bs, q2, n2⟩ := dm_readsAll I ds _ _ h2 r2
        exact ⟨_, ReadsAll.cons q1 q2, fun z m => (List.mem_append.mp m).elim (n1 z) (n2 z)⟩
end
end
/-- what may be written as a text -/
def ShowM (d : PyData) : Prop := d.showable = true ∧ d.depth ≤ 40 ∧ d.shown.length ≤ sizeLine
def rReprM (K : PySem.W.Frag) (N : Addr → Prop) (b : Bool) : List V → Hp → VK → Prop := fun xs H Q => ∃ (x : V) (d : PyData), xs = [x] ∧ Dm K H N b x d ∧ ShowM d ∧ Q (.str d.shown) H
theorem reprM {X : Cx} (K : PySem.W.Frag) (N : Addr → Prop) (b : Bool) (hgd : X.A.guards = some []) (hu : X.A.units + 64 < cLine) (h : X.K = K := by rfl) : CallR X (.builtin "repr") (rReprM K N b) := by
  subst h
  intro pins s σ H xs us Q I r h
  obtain ⟨x, d, rfl, hd, ⟨h1, h3, h4⟩, q⟩ := h
  cases r with
  | cons r0 rr =>
    cases rr
    rename_i v
    obtain ⟨as, rd, hn⟩ := dm_reads I d x v hd r0
    have hsm : d.hasDict = true → sysModules ∉ as := by
      cases b with
      | false => exact fun _ => hn rfl
      | true => exact PyData.noDict_hsm (dm_nodict d hd)
    cases rd with
    | list a b c dd =>
      refine repr_of_reads' (.list a b c dd) h1 hsm hgd (by omega) (fun _ _ e => e) (fun h' u tk hk => ?_) h4
      exact ⟨.str _, H, I.kept (t' := tk) hk, ⟨u, rfl⟩, q⟩
    | tuple a b c dd =>
      refine repr_of_reads' (.tuple a b c dd) h1 hsm hgd (by omega) (fun _ _ e => e) (fun h' u tk hk => ?_) h4
      exact ⟨.str _, H, I.kept (t' := tk) hk, ⟨u, rfl⟩, q⟩
    | int i t =>
      refine PySem.P.repr_of_int (by simpa [PyData.showable] using h1) ⟨.str _, H, I.tok _, ⟨_, rfl⟩, ?_⟩
      simpa only [PyData.shown] using q
    | none =>
      refine PySem.P.repr_of_none ⟨.str _, H, I.tok _, ⟨_, rfl⟩, ?_⟩
      simpa only [PyData.shown] using q
    | bool b =>
      refine PySem.P.repr_of_bool ⟨.str _, H, I.tok _, ⟨_, rfl⟩, ?_⟩
      simpa only [PyData.shown] using q
    | str z t =>
      refine PySem.P.repr_of_str ⟨.str _, H, I.tok _, ⟨_, rfl⟩, ?_⟩ (by simpa only [PyData.shown] using h4)
      simpa only [PyData.shown] using q
    | dict a b c dd ee =>
      refine repr_of_reads' (.dict a b c dd ee) h1 hsm hgd (by omega) (fun _ _ e => e) (fun h' u tk hk => ?_) h4
      exact ⟨.str _, H, I.kept (t' := tk) hk, ⟨u, rfl⟩, q⟩
end BV

namespace BV
open PySem L2
/-! ### small data with empty dicts -/
mutual
def tinyM : PyData → Bool
  | .none | .bool _ => true
  | .int i => decide (i.natAbs.log2 < 300)
  | .str x => decide (x.length ≤ 100) && x.cps.toList.all fun c => decide (c < 16 ^ 8)
  | .list xs | .tuple xs => tinyAllM xs
  | .dict kvs => kvs.isEmpty
def tinyAllM : List PyData → Bool
  | [] => true
  | x :: xs => tinyM x && tinyAllM xs
end
mutual
theorem tinyM_facts : ∀ d : PyData, tinyM d = true → d.showable = true ∧ lowD d = true ∧ d.shown.length + 2 ≤ 1100 * nodes d
  | .none, _ => ⟨by simp [PyData.showable], by simp [lowD], by
      have e : (PyData.shown .none).length = 4 := rfl
      simp only [nodes]
      omega⟩
  | .bool b, _ => ⟨by simp [PyData.showable], by simp [lowD], by
      have e : (PyData.shown (.bool b)).length ≤ 5 := by cases b <;> decide
      simp only [nodes]
      omega⟩
  | .int i, h => by
    have h' : i.natAbs.log2 < 300 := by simpa [tinyM] using h
    refine ⟨?_, by simp [lowD], ?_⟩
    · simp only [PyData.showable, decide_eq_true_eq]
      omega
    · have := int_shown h'
      simp only [nodes]
      omega
  | .str x, h => by
    have h' : x.length ≤ 100 ∧ ∀ c ∈ x.cps.toList, c < 16 ^ 8 := by
      simp only [tinyM, Bool.and_eq_true, decide_eq_true_eq, List.all_eq_true] at h
      exact h
    refine ⟨by simp [PyData.showable], ?_, ?_⟩
    · simp only [lowD, List.all_eq_true, decide_eq_true_eq]
      exact h'.2
    · have e := StrLaws.reprText_len x h'.2
      simp only [PyData.shown, nodes]
      omega
  | .list xs, h => by
    have h1 := tinyM_all xs (by simpa [tinyM] using h)
    refine ⟨by simpa [PyData.showable] using h1.1, by simpa [lowD] using h1.2.1, ?_⟩
    have h2 := listText_len_le (PyData.shownAll xs)
    simp only [PyData.shown, nodes]
    omega
  | .tuple xs, h => by
    have h1 := tinyM_all xs (by simpa [tinyM] using h)
    refine ⟨by simpa [PyData.showable] using h1.1, by simpa [lowD] using h1.2.1, ?_⟩
    have h2 := tupleText_len_le (PyData.shownAll xs)
    simp only [PyData.shown, nodes]
    omega
  | .dict kvs, h => by
    have e : kvs = [] := by simpa [tinyM] using h
    subst e
    refine ⟨by simp [PyData.showable, PyData.showableKv], by simp [lowD], ?_⟩
    have e : (PyData.shown (.dict [])).length = 2 := rfl
    simp only [nodes]
    omega
theorem tinyM_all : ∀ xs : List PyData, tinyAllM xs = true → PyData.showableAll xs = true ∧ lowAll xs = true ∧
    ((PyData.shownAll xs).map (·.length)).sum + 2 * (PyData.shownAll xs).length ≤ 1100 * nodesAll xs
  | [], _ => ⟨by simp [PyData.showableAll], by simp [lowAll], by simp [PyData.shownAll]⟩
  | x :: xs, h => by
    have h' : tinyM x = true ∧ tinyAllM xs = true := by simpa [tinyAllM] using h
    obtain ⟨a1, a2, a3⟩ := tinyM_facts x h'.1
    obtain ⟨b1, b2, b3⟩ := tinyM_all xs h'.2
    refine ⟨by simp [PyData.showableAll, a1, b1], by simp [lowAll, a2, b2], ?_⟩
    simp only [PyData.shownAll, nodesAll, List.map_cons, List.sum_cons, List.length_cons]
    omega
end
structure Sw (d : PyData) (c k : Nat) : Prop where
  t : tinyM d = true
  n : nodes d ≤ c
  p : d.depth ≤ k
theorem Sw.mono {d : PyData} {c k c' k' : Nat} (h : Sw d c k) (h1 : c ≤ c') (h2 : k ≤ k') : Sw d c' k' := ⟨h.t, Nat.le_trans h.n h1, Nat.le_trans h.p h2⟩
theorem Sw.show {d : PyData} {c k : Nat} (h : Sw d c k) (hc : c ≤ 15000) (hk : k ≤ 40) : ShowM d := by
  obtain ⟨a, b, e⟩ := tinyM_facts d h.t
  refine ⟨a, Nat.le_trans h.p hk, ?_⟩
  have h1 := h.n
  have h2 : sizeLine = 16777216 := by decide
  rw [h2]
  omega
theorem Sw.low {d : PyData} {c k : Nat} (h : Sw d c k) : low d.shown := low_shown d (tinyM_facts d h.t).2.1
theorem Sw.len {d : PyData} {c k : Nat} (h : Sw d c k) : d.shown.length ≤ 1100 * c := by
  have h1 := (tinyM_facts d h.t).2.2
  have h2 := Nat.mul_le_mul_left 1100 h.n
  omega
/-- all of a list, c nodes together -/
structure SwA (ds : List PyData) (c k : Nat) : Prop where
  t : tinyAllM ds = true
  n : nodesAll ds ≤ c
  p : PyData.depthAll ds ≤ k
theorem swa_nil {c k : Nat} : SwA [] c k := ⟨by simp [tinyAllM], by simp [nodesAll], by simp [PyData.depthAll]⟩
theorem swa_cons {d : PyData} {ds : List PyData} {c1 c2 k : Nat} (h : Sw d c1 k) (g : SwA ds c2 k) : SwA (d :: ds) (c1 + c2) k :=
  ⟨by simp [tinyAllM, h.t, g.t], by have := h.n; have := g.n; simp only [nodesAll]; omega, by have := h.p; have := g.p; simp only [PyData.depthAll]; omega⟩
theorem swa_app {ds es : List PyData} {c1 c2 k : Nat} (h : SwA ds c1 k) (g : SwA es c2 k) : SwA (ds ++ es) (c1 + c2) k := by
  induction ds generalizing c1 with
  | nil => exact ⟨g.t, Nat.le_trans g.n (by omega), g.p⟩
  | cons d ds ih =>
    have h1 := h.t; have h2 := h.n; have h3 := h.p
    simp only [tinyAllM, Bool.and_eq_true] at h1
    simp only [nodesAll] at h2
    simp only [PyData.depthAll] at h3
    have ih' := ih (c1 := c1 - nodes d) ⟨h1.2, by omega, by omega⟩
    refine ⟨by simp [tinyAllM, h1.1, ih'.t], ?_, ?_⟩
    · have := ih'.n
      simp only [List.cons_append, nodesAll]
      omega
    · have := ih'.p
      simp only [List.cons_append, PyData.depthAll]
      omega
theorem swa_mono {ds : List PyData} {c k c' k' : Nat} (h : SwA ds c k) (h1 : c ≤ c') (h2 : k ≤ k') : SwA ds c' k' := ⟨h.t, Nat.le_trans h.n h1, Nat.le_trans h.p h2⟩
theorem sw_tup {ds : List PyData} {c k : Nat} (h : SwA ds c k) : Sw (.tuple ds) (c + 1) (k + 1) :=
  ⟨by simpa only [tinyM] using h.t, by have := h.n; simp only [nodes]; omega, by have := h.p; simp only [PyData.depth]; omega⟩
theorem sw_lst {ds : List PyData} {c k : Nat} (h : SwA ds c k) : Sw (.list ds) (c + 1) (k + 1) :=
  ⟨by simpa only [tinyM] using h.t, by have := h.n; simp only [nodes]; omega, by have := h.p; simp only [PyData.depth]; omega⟩
theorem sw_int {z : Int} {k : Nat} (h : z.natAbs < 2 ^ 200) : Sw (.int z) 1 k := by
  have hl : z.natAbs.log2 < 300 := Nat.lt_of_lt_of_le (PySem.Flt.log2_lt_of (by decide) h) (by decide)
  exact ⟨by simp only [tinyM, hl, decide_true], by simp only [nodes]; exact Nat.le_refl _, by simp only [PyData.depth]; omega⟩
theorem sw_nat {j k : Nat} (h : j < 100000) : Sw (.int (j : Int)) 1 k := sw_int (Nat.lt_of_lt_of_le (show ((j : Int)).natAbs < 100000 by omega) (by decide))
theorem sw_dic {k : Nat} : Sw (.dict []) 1 (k + 1) := ⟨by simp [tinyM], by simp [nodes], Nat.le_trans (show (PyData.dict []).depth ≤ 1 by decide) (by omega)⟩
theorem sw_tie {t : Tie} {k : Nat} (h : t.1 < 100000 ∧ t.2 < 100000) : Sw (tieD t) 3 (k + 1) :=
  sw_tup (c := 2) (swa_cons (c1 := 1) (c2 := 1) (sw_nat h.1) (swa_cons (c1 := 1) (c2 := 0) (sw_nat h.2) swa_nil))
theorem swa_ties {k : Nat} : ∀ ts : List Tie, (∀ t ∈ ts, t.1 < 100000 ∧ t.2 < 100000) → SwA (ts.map tieD) (3 * ts.length) (k + 1)
  | [], _ => swa_nil
  | t :: ts, h => by
    refine swa_mono (swa_cons (sw_tie (h t (List.mem_cons_self ..))) (swa_ties ts fun u hu => h u (List.mem_cons_of_mem _ hu))) ?_ (Nat.le_refl _)
    rw [List.length_cons]
    omega
/-- the answer and a text, in a list -/
theorem show_pair {e : PyData} {s : Str} (he : Sw e 10 3) (hd : e.hasDict = false) (hs : low s) (hl : s.length ≤ 600000) : Show (.list [e, .str s]) := by
  obtain ⟨a1, a2, a3⟩ := tinyM_facts e he.t
  have h1 := he.p
  have h0 := he.n
  refine ⟨by simp [PyData.showable, PyData.showableAll, a1], by simp [PyData.hasDict, PyData.hasDictAll, hd], ?_, ?_⟩
  · simp only [PyData.depth, PyData.depthAll]
    omega
  · have h2 := listText_len_le (PyData.shownAll [e, .str s])
    have h3 := StrLaws.reprText_len s hs
    have h4 : sizeLine = 16777216 := by decide
    rw [h4]
    simp only [PyData.shownAll, List.map_cons, List.map_nil, List.sum_cons, List.sum_nil, List.length_cons, List.length_nil, PyData.shown] at h2 ⊢
    omega

/-! ### what a web is -/
def isTieD (n : Int) : PyData → Bool
  | .tuple [.int a, .int b] => decide (0 ≤ a ∧ a ≤ n - 1) && (decide (0 ≤ b ∧ b ≤ n - 1) && decide (a < b))
  | _ => false
def badAt (n : Int) : List PyData → Nat → Option Nat
  | [], _ => none
  | d :: ds, k => if isTieD n d = true then badAt n ds (k + 1) else some k
def tieOf : PyData → Tie
  | .tuple [.int a, .int b] => (a.toNat, b.toNat)
  | _ => (0, 0)
theorem tieD_of {n : Int} : ∀ {d : PyData}, isTieD n d = true → tieD (tieOf d) = d ∧ (tieOf d).1 < (tieOf d).2 ∧ ((tieOf d).2 : Int) < n := by
  intro d h
  unfold isTieD at h
  split at h
  · rename_i a b
    simp only [Bool.and_eq_true, decide_eq_true_eq] at h
    refine ⟨?_, ?_, ?_⟩
    · show PyData.tuple [.int ((a.toNat : Nat) : Int), .int ((b.toNat : Nat) : Int)] = _
      rw [Int.toNat_of_nonneg h.1.1, Int.toNat_of_nonneg h.2.1.1]
    · show a.toNat < b.toNat
      omega
    · show ((b.toNat : Nat) : Int) < n
      omega
  · cases h
theorem isTie_tieD {n : Int} {t : Tie} (h1 : t.1 < t.2) (h2 : (t.2 : Int) < n) : isTieD n (tieD t) = true := by
  show (decide (0 ≤ (t.1 : Int) ∧ (t.1 : Int) ≤ n - 1) && (decide (0 ≤ (t.2 : Int) ∧ (t.2 : Int) ≤ n - 1) && decide ((t.1 : Int) < t.2))) = true
  simp only [Bool.and_eq_true, decide_eq_true_eq]
  omega
theorem badAt_none {n : Int} : ∀ {ds : List PyData} {k : Nat}, badAt n ds k = none ↔ ∀ d ∈ ds, isTieD n d = true
  | [], k => by simp [badAt]
  | d :: ds, k => by
    unfold badAt
    by_cases h : isTieD n d = true
    · rw [if_pos h, badAt_none]
      simp [h]
    · rw [if_neg h]
      simp [h]
theorem badAt_ge {n : Int} : ∀ {ds : List PyData} {k j : Nat}, badAt n ds k = some j → k ≤ j ∧ j < k + ds.length
  | [], k, j, h => by simp [badAt] at h
  | d :: ds, k, j, h => by
    unfold badAt at h
    rw [List.length_cons]
    split at h
    · have := badAt_ge h
      omega
    · cases h
      omega
theorem badAt_app {n : Int} : ∀ (ds es : List PyData) (k : Nat), (∀ d ∈ ds, isTieD n d = true) → badAt n (ds ++ es) k = badAt n es (k + ds.length)
  | [], es, k, _ => rfl
  | d :: ds, es, k, h => by
    show (if isTieD n d = true then badAt n (ds ++ es) (k + 1) else some k) = _
    rw [if_pos (h d (List.mem_cons_self ..)), badAt_app ds es (k + 1) fun e he => h e (List.mem_cons_of_mem _ he), List.length_cons]
    congr 1
    omega
/-- the first that is none, found from the left -/
theorem badAt_first {n : Int} {ds : List PyData} {i : Nat} {d : PyData} (h : ∀ j e, j < i → ds[j]? = some e → isTieD n e = true) (hd : ds[i]? = some d) (hb : isTieD n d ≠ true) : badAt n ds 0 = some i := by
  have hi : i < ds.length := (List.getElem?_eq_some_iff.mp hd).1
  have e : ds = ds.take i ++ d :: ds.drop (i + 1) := by
    have h1 : ds[i] = d := Option.some.inj ((List.getElem?_eq_getElem hi).symm.trans hd)
    rw [← h1, List.getElem_cons_drop, List.take_append_drop]
  rw [e, badAt_app _ _ _ fun x hx => ?_]
  · unfold badAt
    rw [if_neg hb, List.length_take]
    congr 1
    omega
  · obtain ⟨j, hj⟩ := List.getElem?_of_mem hx
    have hjl := (List.getElem?_eq_some_iff.mp hj).1
    rw [List.length_take] at hjl
    rw [List.getElem?_take_of_lt (by omega)] at hj
    exact h j x (by omega) hj
def Joined (n : Nat) (ts : List Tie) : Prop := ∀ p, p < n → ∃ w, Way ts 0 w p
open Classical in
noncomputable def webE : PyData → PyData
  | .tuple [.int n, .tuple ds] => if 1 ≤ n ∧ n ≤ 12 ∧ ds.length ≤ 40 then
      (match badAt n ds 0 with
        | some k => .tuple [.str "tie", .int (k : Nat)]
        | none => if Joined n.toNat (ds.map tieOf) then .none else .str "apart")
    else .str "form"
  | _ => .str "form"
theorem tie_maps {n : Int} : ∀ {ds : List PyData}, (∀ d ∈ ds, isTieD n d = true) → (ds.map tieOf).map tieD = ds
  | [], _ => rfl
  | d :: ds, h => by
    rw [List.map_cons, List.map_cons, (tieD_of (h d (List.mem_cons_self ..))).1, tie_maps fun e he => h e (List.mem_cons_of_mem _ he)]
theorem tie_of_tieD (t : Tie) : tieOf (tieD t) = t := by
  show (((t.1 : Int)).toNat, ((t.2 : Int)).toNat) = t
  simp
/-- all that passes the look at the ties -/
theorem webE_web {d : PyData} (h : webE d = .none ∨ webE d = .str "apart") : ∃ n ts, d = webD n ts ∧ 1 ≤ n ∧ n ≤ 12 ∧ ts.length ≤ 40 ∧ ∀ t ∈ ts, t.1 < t.2 ∧ t.2 < n := by
  unfold webE at h
  split at h
  · rename_i n ds
    split at h
    · rename_i hc
      split at h
      · rcases h with h | h <;> cases h
      · rename_i hb
        have ha := badAt_none.mp hb
        refine ⟨n.toNat, ds.map tieOf, ?_, by omega, by omega, by rw [List.length_map]; exact hc.2.2, fun t ht => ?_⟩
        · show _ = PyData.tuple [.int ((n.toNat : Nat) : Int), .tuple ((ds.map tieOf).map tieD)]
          rw [tie_maps ha, Int.toNat_of_nonneg (by omega)]
        · obtain ⟨d, hd, rfl⟩ := List.mem_map.mp ht
          have := tieD_of (ha d hd)
          omega
    · rcases h with h | h
      · cases h
      · have : Str.ofString "form" = Str.ofString "apart" := PyData.str.inj h
        exact absurd this (by decide)
  · rcases h with h | h
    · cases h
    · have : Str.ofString "form" = Str.ofString "apart" := PyData.str.inj h
      exact absurd this (by decide)
theorem sw_webE (d : PyData) : Sw (webE d) 10 3 ∧ (webE d).hasDict = false := by
  have hf : ∀ s : String, (Str.ofString s).length ≤ 100 → low (Str.ofString s) → Sw (.str s) 10 3 ∧ (PyData.str s).hasDict = false := fun s h1 h2 =>
    ⟨⟨by simp only [tinyM, Bool.and_eq_true, decide_eq_true_eq, List.all_eq_true]; exact ⟨h1, h2⟩, by simp [nodes], by simp [PyData.depth]⟩, by simp [PyData.hasDict]⟩
  unfold webE
  split
  · rename_i n ds
    split
    · rename_i hc
      split
      · rename_i k hk
        have := badAt_ge hk
        have hk2 : k < 100000 := by omega
        have h1 : Sw (.str "tie") 1 2 := ⟨by decide, by simp [nodes], by simp [PyData.depth]⟩
        exact ⟨(sw_tup (c := 2) (k := 2) (swa_cons (c1 := 1) (c2 := 1) h1 (swa_cons (c1 := 1) (c2 := 0) (sw_nat hk2) swa_nil))).mono (by decide) (by decide), by simp [PyData.hasDict, PyData.hasDictAll]⟩
      · split
        · exact ⟨⟨by simp [tinyM], by simp [nodes], by simp [PyData.depth]⟩, by simp [PyData.hasDict]⟩
        · exact hf "apart" (by decide) (low_of _)
    · exact hf "form" (by decide) (low_of _)
  · exact hf "form" (by decide) (low_of _)
end BV

namespace BV
open PySem L2
/-! ### data of any kind: lists and dicts with words for keys within each other, none of which lies at N -/
mutual
inductive Dx (K : PySem.W.Frag) (H : Hp) (N : Addr → Prop) : V → PyData → Prop
  | non : Dx K H N .non .none
  | bl (z : Bool) : Dx K H N (.bl z) (.bool z)
  | int (i : Int) : Dx K H N (.int i) (.int i)
  | str (x : Str) : Dx K H N (.str x) (.str x)
  | lst {a : Addr} {xs : List V} {ds : List PyData} : a ≠ sysModules → ¬ N a → SqL K H a xs → DxAll K H N xs ds → Dx K H N (.ref a) (.list ds)
  | tup {a : Addr} {xs : List V} {ds : List PyData} : SqT K H a xs → DxAll K H N xs ds → Dx K H N (.ref a) (.tuple ds)
  | dic {a : Addr} {kvs : List (Key × V)} {ps : List (PyData × PyData)} : ¬ N a → H a = some (.dK kvs) → DxKv K H N kvs ps → Dx K H N (.ref a) (.dict ps)
inductive DxAll (K : PySem.W.Frag) (H : Hp) (N : Addr → Prop) : List V → List PyData → Prop
  | nil : DxAll K H N [] []
  | cons {v : V} {vs : List V} {d : PyData} {ds : List PyData} : Dx K H N v d → DxAll K H N vs ds → DxAll K H N (v :: vs) (d :: ds)
inductive DxKv (K : PySem.W.Frag) (H : Hp) (N : Addr → Prop) : List (Key × V) → List (PyData × PyData) → Prop
  | nil : DxKv K H N [] []
  | cons {x : Str} {v : V} {d : PyData} {r : List (Key × V)} {s : List (PyData × PyData)} : Dx K H N v d → DxKv K H N r s → DxKv K H N ((.inr x, v) :: r) ((.str x, d) :: s)
end
section
variable {K : PySem.W.Frag} {H H' : Hp} {N : Addr → Prop}
mutual
theorem dx_keep (s : ∀ a o, H a = some o → ¬ N a → H' a = some o) (f : KF H H') : ∀ (d : PyData) {v : V}, Dx K H N v d → Dx K H' N v d
  | .none, _, h => by cases h; exact .non
  | .bool z, _, h => by cases h; exact .bl z
  | .int i, _, h => by cases h; exact .int i
  | .str x, _, h => by cases h; exact .str x
  | .list ds, _, h => by
    cases h with
    | lst e n h1 h2 =>
      refine .lst e n ?_ (dxAll_keep s f ds h2)
      rcases h1 with (h1 | ⟨o, h1⟩) | h1
      · exact .inl (.inl (s _ _ h1 n))
      · exact .inl (.inr ⟨o, s _ _ h1 n⟩)
      · exact .inr h1
  | .tuple ds, _, h => by
    cases h with
    | tup h1 h2 => exact .tup (sqT_kf f h1) (dxAll_keep s f ds h2)
  | .dict ps, _, h => by
    cases h with
    | dic n h1 h2 => exact .dic n (s _ _ h1 n) (dxKv_keep s f ps h2)
theorem dxAll_keep (s : ∀ a o, H a = some o → ¬ N a → H' a = some o) (f : KF H H') : ∀ (ds : List PyData) {vs : List V}, DxAll K H N vs ds → DxAll K H' N vs ds
  | [], _, h => by cases h; exact .nil
  | d :: ds, _, h => by
    cases h with
    | cons h1 h2 => exact .cons (dx_keep s f d h1) (dxAll_keep s f ds h2)
theorem dxKv_keep (s : ∀ a o, H a = some o → ¬ N a → H' a = some o) (f : KF H H') : ∀ (ps : List (PyData × PyData)) {kvs : List (Key × V)}, DxKv K H N kvs ps → DxKv K H' N kvs ps
  | [], _, h => by cases h; exact .nil
  | (k, d) :: ps, _, h => by
    cases h with
    | cons h1 h2 => exact .cons (dx_keep s f d h1) (dxKv_keep s f ps h2)
end
theorem dx_same (s : Same H H') {d : PyData} {v : V} (h : Dx K H N v d) : Dx K H' N v d := dx_keep (fun a o e _ => s a o e) (KF.of_same s) d h
theorem dxAll_same (s : Same H H') {ds : List PyData} {vs : List V} (h : DxAll K H N vs ds) : DxAll K H' N vs ds := dxAll_keep (fun a o e _ => s a o e) (KF.of_same s) ds h
theorem dx_kp {x g : Addr} (k : Kp x g H H') (B : Box H x g) {d : PyData} {v : V} (h : Dx K H (NB x g) v d) : Dx K H' (NB x g) v d :=
  dx_keep (fun a o e n => k a o e (fun z => n (.inl z)) (fun z => n (.inr z))) (KF.of_kp k B) d h
theorem dxAll_kp {x g : Addr} (k : Kp x g H H') (B : Box H x g) {ds : List PyData} {vs : List V} (h : DxAll K H (NB x g) vs ds) : DxAll K H' (NB x g) vs ds :=
  dxAll_keep (fun a o e n => k a o e (fun z => n (.inl z)) (fun z => n (.inr z))) (KF.of_kp k B) ds h
mutual
theorem dp_dx : ∀ (d : PyData) {v : V}, still d = true → Dp K H v d → Dx K H N v d
  | .none, _, _, h => by cases h; exact .non
  | .bool z, _, _, h => by cases h; exact .bl z
  | .int i, _, _, h => by cases h; exact .int i
  | .str x, _, _, h => by cases h; exact .str x
  | .list ds, _, q, h => by simp [still] at q
  | .tuple ds, _, q, h => by
    cases h with
    | tup h1 h2 => exact .tup h1 (dpAll_dx ds (by simpa [still] using q) h2)
  | .dict _, _, _, h => by cases h
theorem dpAll_dx : ∀ (ds : List PyData) {vs : List V}, stillAll ds = true → DpAll K H vs ds → DxAll K H N vs ds
  | [], _, _, h => by cases h; exact .nil
  | d :: ds, _, q, h => by
    have q' : still d = true ∧ stillAll ds = true := by simpa [stillAll] using q
    cases h with
    | cons h1 h2 => exact .cons (dp_dx d q'.1 h1) (dpAll_dx ds q'.2 h2)
end
mutual
theorem dx_dp : ∀ (d : PyData) {v : V}, d.hasDict = false → Dx K H N v d → Dp K H v d
  | .none, _, _, h => by cases h; exact .non
  | .bool z, _, _, h => by cases h; exact .bl z
  | .int i, _, _, h => by cases h; exact .int i
  | .str x, _, _, h => by cases h; exact .str x
  | .list ds, _, q, h => by
    cases h with
    | lst e n h1 h2 => exact .lst h1 (dxAll_dp ds (by simpa [PyData.hasDict] using q) h2)
  | .tuple ds, _, q, h => by
    cases h with
    | tup h1 h2 => exact .tup h1 (dxAll_dp ds (by simpa [PyData.hasDict] using q) h2)
  | .dict _, _, q, h => by simp [PyData.hasDict] at q
theorem dxAll_dp : ∀ (ds : List PyData) {vs : List V}, PyData.hasDictAll ds = false → DxAll K H N vs ds → DpAll K H vs ds
  | [], _, _, h => by cases h; exact .nil
  | d :: ds, _, q, h => by
    have q' : d.hasDict = false ∧ PyData.hasDictAll ds = false := by simpa [PyData.hasDictAll] using q
    cases h with
    | cons h1 h2 => exact .cons (dx_dp d q'.1 h1) (dxAll_dp ds q'.2 h2)
end
theorem dxAll_len : ∀ {ds : List PyData} {vs : List V}, DxAll K H N vs ds → vs.length = ds.length
  | [], _, h => by cases h; rfl
  | d :: ds, _, h => by
    cases h with
    | cons h1 h2 => exact congrArg Nat.succ (dxAll_len h2)
theorem dxAll_get : ∀ {ds : List PyData} {vs : List V} {i : Nat} {v : V}, DxAll K H N vs ds → vs[i]? = some v → ∃ d, ds[i]? = some d ∧ Dx K H N v d
  | [], _, _, _, h, e => by cases h; simp at e
  | d :: ds, _, 0, _, h, e => by
    cases h with
    | cons h1 h2 =>
      simp at e
      subst e
      exact ⟨d, rfl, h1⟩
  | d :: ds, _, i + 1, v, h, e => by
    cases h with
    | cons h1 h2 =>
      obtain ⟨d', a, b⟩ := dxAll_get (i := i) (v := v) h2 (by simpa using e)
      exact ⟨d', by simpa using a, b⟩
theorem dxAll_at : ∀ {ds : List PyData} {vs : List V} {i : Nat} {d : PyData}, DxAll K H N vs ds → ds[i]? = some d → ∃ v, vs[i]? = some v ∧ Dx K H N v d
  | [], _, _, _, h, e => by simp at e
  | d :: ds, _, 0, _, h, e => by
    cases h with
    | cons h1 h2 =>
      simp at e
      subst e
      exact ⟨_, rfl, h1⟩
  | d :: ds, _, i + 1, v, h, e => by
    cases h with
    | cons h1 h2 =>
      obtain ⟨d', a, b⟩ := dxAll_at (i := i) (d := v) h2 (by simpa using e)
      exact ⟨d', by simpa using a, b⟩
theorem dxAll_app : ∀ {ds es : List PyData} {vs us : List V}, DxAll K H N vs ds → DxAll K H N us es → DxAll K H N (vs ++ us) (ds ++ es)
  | [], _, _, _, h, g => by cases h; exact g
  | d :: ds, _, _, _, h, g => by
    cases h with
    | cons h1 h2 => exact .cons h1 (dxAll_app h2 g)
theorem dxAll_take : ∀ {ds : List PyData} {vs : List V} (j : Nat), DxAll K H N vs ds → DxAll K H N (vs.take j) (ds.take j)
  | [], _, j, h => by cases h; simpa using DxAll.nil
  | d :: ds, _, 0, h => .nil
  | d :: ds, _, j + 1, h => by
    cases h with
    | cons h1 h2 => exact .cons h1 (dxAll_take j h2)
theorem dxAll_drop : ∀ {ds : List PyData} {vs : List V} (j : Nat), DxAll K H N vs ds → DxAll K H N (vs.drop j) (ds.drop j)
  | [], _, j, h => by cases h; simpa using DxAll.nil
  | d :: ds, _, 0, h => h
  | d :: ds, _, j + 1, h => by
    cases h with
    | cons h1 h2 => exact dxAll_drop j h2
theorem dxAll_set : ∀ {ds : List PyData} {vs : List V} {v : V} {d : PyData} (j : Nat), DxAll K H N vs ds → Dx K H N v d → DxAll K H N (vs.set j v) (ds.set j d)
  | [], _, _, _, j, h, _ => by cases h; simpa using DxAll.nil
  | e :: ds, _, _, _, 0, h, g => by
    cases h with
    | cons h1 h2 => exact .cons g h2
  | e :: ds, _, _, _, j + 1, h, g => by
    cases h with
    | cons h1 h2 => exact .cons h1 (dxAll_set j h2 g)
theorem dxAll_rev : ∀ {ds : List PyData} {vs : List V}, DxAll K H N vs ds → DxAll K H N vs.reverse ds.reverse
  | [], _, h => by cases h; simpa using DxAll.nil
  | d :: ds, _, h => by
    cases h with
    | cons h1 h2 =>
      rw [List.reverse_cons, List.reverse_cons]
      exact dxAll_app (dxAll_rev h2) (.cons h1 .nil)
theorem dx_tup {v : V} {ds : List PyData} (h : Dx K H N v (.tuple ds)) : ∃ a xs, v = .ref a ∧ SqT K H a xs ∧ DxAll K H N xs ds := by
  cases h with
  | tup h1 h2 => exact ⟨_, _, rfl, h1, h2⟩
theorem tyX {v : V} {d : PyData} (h : Dx K H N v d) : TyX K H v (.type (tyN d)) := by
  cases h with
  | non => exact .base .non
  | bl b => exact .base (.bl b)
  | int i => exact .base (.int i)
  | str s => exact .base (.str s)
  | lst _ _ h1 _ => exact sq_list_ty h1
  | tup h1 _ => exact sq_tup_ty h1
  | dic _ h _ => exact .base (.dK h)
end
def rIsiY (K : PySem.W.Frag) : List V → Hp → VK → Prop := fun xs H Q => ∃ (N : Addr → Prop) (x : V) (d : PyData) (T : String) (z : Bool), xs = [x, .ty T] ∧ Dx K H N x d ∧ kitB (tyN d) T = some z ∧ Q (.bl z) H
theorem isiY {X : Cx} (K : PySem.W.Frag) (h : X.K = K := by rfl) : CallR X (.builtin "isinstance") (rIsiY K) := by
  subst h
  intro pins s σ H vs us Q I r h
  obtain ⟨N, x, d, T, b, rfl, hd, hk, q⟩ := h
  exact call_isi pins s σ H _ us Q I r ⟨x, _, _, _, b, rfl, .ty T, tyX hd, kit_ty hk, q⟩
/-! ### what is written of them -/
section
variable {X : Cx} {pins : List (Addr × Obj)} {σ : St} {H : Hp} {s : Shared} {N : Addr → Prop}
theorem not_sys {X : Cx} {pins : List (Addr × Obj)} {σ : St} {H : Hp} {s : Shared} (I : Inv X pins σ H s) : s.heap.objs.size ≠ sysModules := by
  obtain ⟨mc, ⟨o, es, ep, e, _⟩, _⟩ := I.nolimit
  have h := Heap.lt_size e
  intro z
  rw [z] at h
  exact absurd h (by decide)
mutual
theorem dx_reads (I : Inv X pins σ H s) : ∀ (d : PyData) (v : V) (u : Value), Dx X.K H N v d → RelV v u → ∃ as, Reads s.heap u d as ∧ sysModules ∉ as
  | .none, _, _, h, r => by
    cases h
    cases r
    exact ⟨_, Reads.none, by simp⟩
  | .bool z, _, _, h, r => by
    cases h
    cases r
    exact ⟨_, Reads.bool z, by simp⟩
  | .int i, _, _, h, r => by
    cases h
    obtain ⟨t, rfl⟩ := r
    exact ⟨_, Reads.int i t, by simp⟩
  | .str x, _, _, h, r => by
    cases h
    obtain ⟨t, rfl⟩ := r
    exact ⟨_, Reads.str x t, by simp⟩
  | .list ds, _, _, h, r => by
    cases h with
    | lst e n hs ha =>
      cases r
      obtain ⟨its, rv, ⟨o, n, ho, hc, _, hd⟩, _⟩ := I.list hs
      obtain ⟨as, hr, hn⟩ := dx_readsAll I ds _ its ha rv
      exact ⟨_, Reads.list ho hc hd hr, fun z => (List.mem_cons.mp z).elim (fun q => e q.symm) hn⟩
  | .tuple ds, _, _, h, r => by
    cases h with
    | tup hs ha =>
      cases r
      obtain ⟨its, rv, ⟨o, ho, hc, n, hd⟩, _⟩ := I.tuple hs
      obtain ⟨as, hr, hn⟩ := dx_readsAll I ds _ its ha rv
      exact ⟨_, Reads.tuple ho hc hd hr, hn⟩
  | .dict ps, _, _, h, r => by
    cases h with
    | dic n hh hk =>
      cases r
      have hk' := I.hok _ _ hh
      unfold ObjOk at hk'
      obtain ⟨_, hsys, vs, kv, o, es, ep, h1, h2, h3, h4, h5, h6⟩ := hk'
      obtain ⟨bs, hr1, hr2, hn⟩ := dx_readsKv I ps _ _ _ hk kv h5
      refine ⟨_, Reads.dict h1 h2.1 h3 hr1 hr2, fun hm => ?_⟩
      rcases List.mem_cons.mp (by simpa using hm) with z | z
      · rw [← z] at hsys
        simp at hsys
      · exact hn z
theorem dx_readsAll (I : Inv X pins σ H s) : ∀ (ds : List PyData) (vs : List V) (us : List Value), DxAll X.K H N vs ds → Vals vs us → ∃ as, ReadsAll s.heap us ds as ∧ sysModules ∉ as
  | [], _, _, h, r => by
    cases h
    cases r
    exact ⟨_, ReadsAll.nil, by simp⟩
  | d :: ds, _, _, h, r => by
    cases h with
    | cons h1 h2 =>
      cases r with
      | cons r1 r2 =>
        obtain ⟨as, q1, n1⟩ := dx_reads I d _ _ h1 r1
        obtain ⟨bs, q2, n2⟩ := dx_readsAll I ds _ _ h2 r2
        exact ⟨_, ReadsAll.cons q1 q2, fun m => (List.mem_append.mp m).elim n1 n2⟩
theorem dx_readsKv (I : Inv X pins σ H s) : ∀ (ps : List (PyData × PyData)) (kvs : List (Key × V)) (vs : List (Key × Value)) (es : List DictEntry), DxKv X.K H N kvs ps → KV kvs vs → PySem.Pairs (mixKind X.prog X.w) es vs →
    ∃ bs, ReadsAll s.heap (es.map (·.key)) (ps.map (·.1)) [] ∧ ReadsAll s.heap (es.map (·.val)) (ps.map (·.2)) bs ∧ sysModules ∉ bs
  | [], _, _, _, h, r, p => by
    cases h
    cases r
    cases p
    exact ⟨_, ReadsAll.nil, ReadsAll.nil, by simp⟩
  | (k, d) :: ps, _, _, _, h, r, p => by
    cases h with
    | cons h1 h2 =>
      cases r with
      | cons r1 r2 =>
        cases p with
        | cons p1 p2 p3 =>
          obtain ⟨bs, q1, q2, n⟩ := dx_readsKv I ps _ _ _ h2 r2 p3
          obtain ⟨e1, e2⟩ := r1
          rw [← p2] at e2
          obtain ⟨as, q3, n3⟩ := dx_reads I d _ _ h1 e2
          rw [← e1] at p1
          dsimp only at p1
          have p1' : keyIs (Sum.inr _) _ = true := p1
          rcases keyIs_shape p1' with ⟨i, t, z, _⟩ | ⟨y, t, z, e⟩
          · cases z
          · obtain rfl := Sum.inr.inj z
            refine ⟨as ++ bs, ?_, ReadsAll.cons q3 q2, fun m => (List.mem_append.mp m).elim n3 n⟩
            rw [List.map_cons, List.map_cons, e]
            exact ReadsAll.cons (Reads.str _ t) q1
end
end
def rReprY (K : PySem.W.Frag) : List V → Hp → VK → Prop := fun xs H Q => ∃ (N : Addr → Prop) (x : V) (d : PyData), xs = [x] ∧ Dx K H N x d ∧ ShowM d ∧ Q (.str d.shown) H
theorem reprY {X : Cx} (K : PySem.W.Frag) (hgd : X.A.guards = some []) (hu : X.A.units + 64 < cLine) (h : X.K = K := by rfl) : CallR X (.builtin "repr") (rReprY K) := by
  subst h
  intro pins s σ H xs us Q I r h
  obtain ⟨N, x, d, rfl, hd, ⟨h1, h3, h4⟩, q⟩ := h
  cases r with
  | cons r0 rr =>
    cases rr
    rename_i v
    obtain ⟨as, rd, hn⟩ := dx_reads I d x v hd r0
    have hsm : d.hasDict = true → sysModules ∉ as := fun _ => hn
    cases rd with
    | list a b c dd =>
      refine repr_of_reads' (.list a b c dd) h1 hsm hgd (by omega) (fun _ _ e => e) (fun h' u tk hk => ?_) h4
      exact ⟨.str _, H, I.kept (t' := tk) hk, ⟨u, rfl⟩, q⟩
    | tuple a b c dd =>
      refine repr_of_reads' (.tuple a b c dd) h1 hsm hgd (by omega) (fun _ _ e => e) (fun h' u tk hk => ?_) h4
      exact ⟨.str _, H, I.kept (t' := tk) hk, ⟨u, rfl⟩, q⟩
    | int i t =>
      refine PySem.P.repr_of_int (by simpa [PyData.showable] using h1) ⟨.str _, H, I.tok _, ⟨_, rfl⟩, ?_⟩
      simpa only [PyData.shown] using q
    | none =>
      refine PySem.P.repr_of_none ⟨.str _, H, I.tok _, ⟨_, rfl⟩, ?_⟩
      simpa only [PyData.shown] using q
    | bool b =>
      refine PySem.P.repr_of_bool ⟨.str _, H, I.tok _, ⟨_, rfl⟩, ?_⟩
      simpa only [PyData.shown] using q
    | str z t =>
      refine PySem.P.repr_of_str ⟨.str _, H, I.tok _, ⟨_, rfl⟩, ?_⟩ (by simpa only [PyData.shown] using h4)
      simpa only [PyData.shown] using q
    | dict a b c dd ee =>
      refine repr_of_reads' (.dict a b c dd ee) h1 hsm hgd (by omega) (fun _ _ e => e) (fun h' u tk hk => ?_) h4
      exact ⟨.str _, H, I.kept (t' := tk) hk, ⟨u, rfl⟩, q⟩
/-! ### new lists, that don't lie where the interpreter keeps its own -/
def tLstY (t : TA) : TE := fun σ H Q => t σ H fun xs H1 => xs.length ≤ sizeLine ∧ ∀ p, H1 p = none → p ≠ sysModules → Q (.ref p) (upd H1 p (.lst xs))
section
variable {X : Cx} {es : List Expr} {t : TA} {pos : Pos}
theorem pe_lstY (hes : PA X es t) : PE X (.List es pos) (tLstY t) := by
  constructor
  intro pp st sl hh QQ inv want
  have items := hes.run pos pp st sl hh _ inv want
  refine wpAny_List_spliced (thn items ?_)
  rintro vals st1 ⟨ys, hh1, inv1, rel, fit, fin⟩
  have free1 : hh1 st1.heap.objs.size = none := inv1.hok.fresh (Nat.le_refl _)
  constructor
  · rw [← rel.length]
    exact fit
  · have laid1 := inv1.laid (o := .lst ys) (t' := st1.toks) (h' := st1.heap.push { cls := .type "list", data := .seq vals.toArray })
      (fun _ _ got => Heap.get?_push_of_some _ got) (Nat.le_refl _) ⟨fit, vals, 0, rel, Heap.get?_push_size _ rfl⟩
    exact ⟨.ref st1.heap.objs.size, _, laid1, rfl, fin _ free1 (not_sys inv1)⟩
def rListY (K : PySem.W.Frag) : List V → Hp → VK → Prop := fun args hh QQ => ∃ c ys, args = [.ref c] ∧ (SqL K hh c ys ∨ SqT K hh c ys) ∧ ∀ new, hh new = none → new ≠ sysModules → QQ (.ref new) (upd hh new (.lst ys))
theorem call_list_ofY : CallR X (.type "list") (rListY X.K) := by
  intro pp st sl hh args vals QQ inv rel given
  obtain ⟨c, ys, rfl, from_, fin⟩ := given
  obtain ⟨u, rfl, ru⟩ := vals1 rel
  cases ru
  have newOne : ∀ (zs : List Value), Vals ys zs → ys.length ≤ sizeLine → ∀ (hp' : Heap) (cnt : Nat), (∀ b ob, st.heap.get? b = some ob → hp'.get? b = some ob) →
      hp'.get? st.heap.objs.size = some { cls := .type "list", dict := none, data := .seq zs.toArray cnt, slots := #[] } →
      EP X pp sl QQ (.ref st.heap.objs.size) { st with heap := hp' } := by
    intro zs rz fit hp' cnt kept at_
    refine ⟨.ref st.heap.objs.size, _, inv.laid (t' := st.toks) (o := .lst ys) kept (Nat.le_refl _) ?_, rfl, ?_⟩
    · exact ⟨fit, zs, cnt, rz, at_⟩
    · exact fin _ (inv.hok.fresh (Nat.le_refl _)) (not_sys inv)
  rcases from_ with sq | sq
  · obtain ⟨zs, rz, place, fit⟩ := inv.list sq
    have same_len := rz.length
    obtain ⟨ob, got, kind, cnt, seq⟩ := place.isList
    refine call_list_seq c (.inl rfl) got kind seq (newOne zs rz fit) ?_
    simp only [List.size_toArray]
    omega
  · obtain ⟨zs, rz, place, fit⟩ := inv.tuple sq
    have same_len := rz.length
    obtain ⟨ob, got, kind, cnt, seq⟩ := place
    refine call_list_seq c (.inr rfl) got kind seq (newOne zs rz fit) ?_
    simp only [List.size_toArray]
    omega
end
end BV

namespace BV
open PySem L2
/-! ### small data, dicts among it -/
mutual
def tinyX : PyData → Bool
  | .none | .bool _ => true
  | .int i => decide (i.natAbs.log2 < 300)
  | .str x => decide (x.length ≤ 100) && x.cps.toList.all fun c => decide (c < 16 ^ 8)
  | .list xs | .tuple xs => tinyAllX xs
  | .dict kvs => tinyKvX kvs
def tinyAllX : List PyData → Bool
  | [] => true
  | x :: xs => tinyX x && tinyAllX xs
def tinyKvX : List (PyData × PyData) → Bool
  | [] => true
  | (k, v) :: r => tinyX k && tinyX v && tinyKvX r
end
mutual
def wt : PyData → Nat
  | .none | .bool _ | .int _ | .str _ => 1
  | .list xs | .tuple xs => wtAll xs + 1
  | .dict kvs => wtKv kvs + 1
def wtAll : List PyData → Nat
  | [] => 0
  | x :: xs => wt x + wtAll xs
def wtKv : List (PyData × PyData) → Nat
  | [] => 0
  | (k, v) :: r => wt k + wt v + wtKv r
end
mutual
theorem tinyX_facts : ∀ d : PyData, tinyX d = true → d.showable = true ∧ low d.shown ∧ d.shown.length + 2 ≤ 1100 * wt d
  | .none, _ => ⟨by simp [PyData.showable], by simp only [PyData.shown]; exact low_of _, by
      have e : (PyData.shown .none).length = 4 := rfl
      simp only [wt]
      omega⟩
  | .bool b, _ => ⟨by simp [PyData.showable], by simp only [PyData.shown]; split <;> exact low_of _, by
      have e : (PyData.shown (.bool b)).length ≤ 5 := by cases b <;> decide
      simp only [wt]
      omega⟩
  | .int i, h => by
    have h' : i.natAbs.log2 < 300 := by simpa [tinyX] using h
    refine ⟨?_, by simp only [PyData.shown]; exact low_of _, ?_⟩
    · simp only [PyData.showable, decide_eq_true_eq]
      omega
    · have := int_shown h'
      simp only [wt]
      omega
  | .str x, h => by
    have h' : x.length ≤ 100 ∧ ∀ c ∈ x.cps.toList, c < 16 ^ 8 := by
      simp only [tinyX, Bool.and_eq_true, decide_eq_true_eq, List.all_eq_true] at h
      exact h
    refine ⟨by simp [PyData.showable], ?_, ?_⟩
    · simp only [PyData.shown]
      exact low_repr h'.2
    · have e := StrLaws.reprText_len x h'.2
      simp only [PyData.shown, wt]
      omega
  | .list xs, h => by
    have h1 := tinyX_all xs (by simpa [tinyX] using h)
    refine ⟨by simpa [PyData.showable] using h1.1, ?_, ?_⟩
    · simp only [PyData.shown]
      exact low_app (low_from _ _ _ (low_of _) h1.2.1) (low_of _)
    have h2 := listText_len_le (PyData.shownAll xs)
    simp only [PyData.shown, wt]
    omega
  | .tuple xs, h => by
    have h1 := tinyX_all xs (by simpa [tinyX] using h)
    refine ⟨by simpa [PyData.showable] using h1.1, ?_, ?_⟩
    · simp only [PyData.shown]
      exact low_app (low_app (low_of _) (low_join (low_of _) _ h1.2.1)) (low_of _)
    have h2 := tupleText_len_le (PyData.shownAll xs)
    simp only [PyData.shown, wt]
    omega
  | .dict kvs, h => by
    have h1 := tinyX_kv kvs (by simpa [tinyX] using h)
    refine ⟨by simpa [PyData.showable] using h1.1, ?_, ?_⟩
    · simp only [PyData.shown]
      exact low_app (low_app (low_of _) (low_join (low_of _) _ h1.2.1)) (low_of _)
    have h2 := dictText_len_le (PyData.shownKv kvs)
    simp only [PyData.shown, wt]
    omega
theorem tinyX_all : ∀ xs : List PyData, tinyAllX xs = true → PyData.showableAll xs = true ∧ (∀ t ∈ PyData.shownAll xs, low t) ∧
    ((PyData.shownAll xs).map (·.length)).sum + 2 * (PyData.shownAll xs).length ≤ 1100 * wtAll xs
  | [], _ => by simp [PyData.showableAll, PyData.shownAll]
  | x :: xs, h => by
    have h' : tinyX x = true ∧ tinyAllX xs = true := by simpa [tinyAllX] using h
    obtain ⟨a1, a2, a3⟩ := tinyX_facts x h'.1
    obtain ⟨b1, b2, b3⟩ := tinyX_all xs h'.2
    refine ⟨by simp [PyData.showableAll, a1, b1], fun t ht => ?_, ?_⟩
    · simp only [PyData.shownAll] at ht
      rcases List.mem_cons.mp ht with e | e
      · rw [e]
        exact a2
      · exact b2 t e
    · simp only [PyData.shownAll, wtAll, List.map_cons, List.sum_cons, List.length_cons]
      omega
theorem tinyX_kv : ∀ xs : List (PyData × PyData), tinyKvX xs = true → PyData.showableKv xs = true ∧ (∀ t ∈ PyData.shownKv xs, low t) ∧
    ((PyData.shownKv xs).map (·.length)).sum + 2 * (PyData.shownKv xs).length ≤ 1100 * wtKv xs
  | [], _ => by simp [PyData.showableKv, PyData.shownKv]
  | (k, v) :: xs, h => by
    have h' : (tinyX k = true ∧ tinyX v = true) ∧ tinyKvX xs = true := by simpa [tinyKvX] using h
    obtain ⟨a1, a2, a3⟩ := tinyX_facts k h'.1.1
    obtain ⟨c1, c2, c3⟩ := tinyX_facts v h'.1.2
    obtain ⟨b1, b2, b3⟩ := tinyX_kv xs h'.2
    have e2 : (k.shown ++ ": " ++ v.shown).length = k.shown.length + 2 + v.shown.length := by
      rw [PySem.strLen_append, PySem.strLen_append]; rfl
    refine ⟨by simp [PyData.showableKv, a1, b1, c1], fun t ht => ?_, ?_⟩
    · simp only [PyData.shownKv] at ht
      rcases List.mem_cons.mp ht with e | e
      · rw [e]
        exact low_app (low_app a2 (low_of _)) c2
      · exact b2 t e
    · simp only [PyData.shownKv, wtKv, List.map_cons, List.sum_cons, List.length_cons]
      omega
end
structure Sz (d : PyData) (c k : Nat) : Prop where
  t : tinyX d = true
  n : wt d ≤ c
  p : d.depth ≤ k
theorem Sz.mono {d : PyData} {c k c' k' : Nat} (h : Sz d c k) (h1 : c ≤ c') (h2 : k ≤ k') : Sz d c' k' := ⟨h.t, Nat.le_trans h.n h1, Nat.le_trans h.p h2⟩
theorem Sz.show {d : PyData} {c k : Nat} (h : Sz d c k) (hc : c ≤ 15000) (hk : k ≤ 40) : ShowM d := by
  obtain ⟨a, b, e⟩ := tinyX_facts d h.t
  refine ⟨a, Nat.le_trans h.p hk, ?_⟩
  have h1 := h.n
  have h2 : sizeLine = 16777216 := by decide
  rw [h2]
  omega
theorem Sz.low {d : PyData} {c k : Nat} (h : Sz d c k) : low d.shown := (tinyX_facts d h.t).2.1
theorem Sz.len {d : PyData} {c k : Nat} (h : Sz d c k) : d.shown.length ≤ 1100 * c := by
  have h1 := (tinyX_facts d h.t).2.2
  have h2 := Nat.mul_le_mul_left 1100 h.n
  omega
/-- all of a list, c nodes together -/
structure SzA (ds : List PyData) (c k : Nat) : Prop where
  t : tinyAllX ds = true
  n : wtAll ds ≤ c
  p : PyData.depthAll ds ≤ k
theorem sza_nil {c k : Nat} : SzA [] c k := ⟨by simp [tinyAllX], by simp [wtAll], by simp [PyData.depthAll]⟩
theorem sza_cons {d : PyData} {ds : List PyData} {c1 c2 k : Nat} (h : Sz d c1 k) (g : SzA ds c2 k) : SzA (d :: ds) (c1 + c2) k :=
  ⟨by simp [tinyAllX, h.t, g.t], by have := h.n; have := g.n; simp only [wtAll]; omega, by have := h.p; have := g.p; simp only [PyData.depthAll]; omega⟩
theorem sza_mono {ds : List PyData} {c k c' k' : Nat} (h : SzA ds c k) (h1 : c ≤ c') (h2 : k ≤ k') : SzA ds c' k' := ⟨h.t, Nat.le_trans h.n h1, Nat.le_trans h.p h2⟩
theorem sza_of {k c : Nat} : ∀ {ds : List PyData}, (∀ d ∈ ds, Sz d c k) → SzA ds (c * ds.length) k
  | [], _ => sza_nil
  | d :: ds, h => by
    refine sza_mono (sza_cons (h d (List.mem_cons_self ..)) (sza_of fun e he => h e (List.mem_cons_of_mem _ he))) ?_ (Nat.le_refl _)
    rw [List.length_cons, Nat.mul_add]
    omega
theorem sz_tup {ds : List PyData} {c k : Nat} (h : SzA ds c k) : Sz (.tuple ds) (c + 1) (k + 1) :=
  ⟨by simpa only [tinyX] using h.t, by have := h.n; simp only [wt]; omega, by have := h.p; simp only [PyData.depth]; omega⟩
theorem sz_lst {ds : List PyData} {c k : Nat} (h : SzA ds c k) : Sz (.list ds) (c + 1) (k + 1) :=
  ⟨by simpa only [tinyX] using h.t, by have := h.n; simp only [wt]; omega, by have := h.p; simp only [PyData.depth]; omega⟩
theorem sz_int {z : Int} {c k : Nat} (h : z.natAbs < 2 ^ 200) (hc : 1 ≤ c := by decide) : Sz (.int z) c k := by
  have hl : z.natAbs.log2 < 300 := Nat.lt_of_lt_of_le (PySem.Flt.log2_lt_of (by decide) h) (by decide)
  exact ⟨by simp only [tinyX, hl, decide_true], by simp only [wt]; exact hc, by simp only [PyData.depth]; omega⟩
theorem sz_nat {j c k : Nat} (h : j < 100000) (hc : 1 ≤ c := by decide) : Sz (.int (j : Int)) c k := sz_int (Nat.lt_of_lt_of_le (show ((j : Int)).natAbs < 100000 by omega) (by decide)) hc
theorem sz_non {c k : Nat} (hc : 1 ≤ c := by decide) : Sz .none c k := ⟨by simp [tinyX], by simp only [wt]; exact hc, by simp only [PyData.depth]; omega⟩
theorem sz_bl {z : Bool} {c k : Nat} (hc : 1 ≤ c := by decide) : Sz (.bool z) c k := ⟨by simp [tinyX], by simp only [wt]; exact hc, by simp only [PyData.depth]; omega⟩
theorem sz_str {s : String} {c k : Nat} (h : (Str.ofString s).length ≤ 100 := by decide) (hc : 1 ≤ c := by decide) : Sz (.str s) c k := by
  refine ⟨?_, by simp only [wt]; exact hc, by simp only [PyData.depth]; omega⟩
  simp only [tinyX, Bool.and_eq_true, decide_eq_true_eq, List.all_eq_true]
  exact ⟨h, low_of s⟩
theorem sz_dic0 {c k : Nat} (hc : 1 ≤ c := by decide) : Sz (.dict []) c (k + 1) := ⟨by simp [tinyX, tinyKvX], by simp only [wt, wtKv]; exact hc, Nat.le_trans (show (PyData.dict []).depth ≤ 1 by decide) (by omega)⟩
theorem sz_dic1 {s : String} {d : PyData} {c k : Nat} (g : Sz d c k) (h : (Str.ofString s).length ≤ 100 := by decide) : Sz (.dict [(.str s, d)]) (c + 2) (k + 1) := by
  have hs := (sz_str (s := s) (c := 1) (k := 0) h).t
  refine ⟨by simp [tinyX, tinyKvX] at *; simp [hs, g.t], by have := g.n; simp only [wt, wtKv]; omega, by have := g.p; simp only [PyData.depth, PyData.depthKv]; omega⟩
theorem sz_nats {L k : Nat} {ks : List Nat} (h : ∀ x ∈ ks, x < 100000) (hl : ks.length ≤ L) : Sz (lotD ks) (L + 1) (k + 1) := by
  refine sz_tup (sza_mono (sza_of (c := 1) (ds := ks.map fun (x : Nat) => PyData.int x) fun d hd => ?_) (by rw [List.length_map]; omega) (Nat.le_refl _))
  obtain ⟨x, hx, rfl⟩ := List.mem_map.mp hd
  exact sz_nat (h x hx)
/-- two things and a text, in a list -/
theorem show_told {e1 e2 : PyData} {s : Str} (h1 : Sz e1 20 5) (h2 : Sz e2 20 5) (hs : low s) (hl : s.length ≤ 600000) : ShowM (.list [.list [e1, e2], .str s]) := by
  have hA := sz_lst (sza_cons h1 (sza_cons h2 (sza_nil (c := 0))))
  obtain ⟨a1, a2, a3⟩ := tinyX_facts _ hA.t
  have b0 := hA.p
  have b1 := hA.n
  refine ⟨?_, ?_, ?_⟩
  · simp only [PyData.showable, PyData.showableAll] at a1 ⊢
    simp [a1] at *
    exact a1
  · simp only [PyData.depth, PyData.depthAll] at b0 ⊢
    omega
  · have h2 := listText_len_le (PyData.shownAll [.list [e1, e2], .str s])
    have h3 := StrLaws.reprText_len s hs
    have h4 : sizeLine = 16777216 := by decide
    rw [h4]
    have e : (PyData.list [.list [e1, e2], .str s]).shown = listText (PyData.shownAll [.list [e1, e2], .str s]) := by simp only [PyData.shown]
    have e2 : (PyData.shownAll [.list [e1, e2], .str s]) = [(PyData.list [e1, e2]).shown, PySem.reprText s] := by simp only [PyData.shownAll, PyData.shown]
    rw [e]
    rw [e2] at h2 ⊢
    simp only [List.map_cons, List.map_nil, List.sum_cons, List.sum_nil, List.length_cons, List.length_nil] at h2
    omega
end BV

namespace BV
open PySem L2
/-! deeds told together -/
def Deed.starAt (p : Nat) : Deed → Int
  | .star q t => if q = p then t else 0
  | .round _ _ => 0
def Deed.roundAt (E : List Nat) : Deed → Int
  | .star _ _ => 0
  | .round ks t => if ks = E then t else 0
def sT (ds : List Deed) (p : Nat) : Int := (ds.map (Deed.starAt p)).sum
def rT (ds : List Deed) (E : List Nat) : Int := (ds.map (Deed.roundAt E)).sum
def nz (z : Int) : Bool := decide (z ≠ 0)
def togS (n : Nat) (ds : List Deed) : List Deed := ((List.range n).filter fun p => nz (sT ds p)).map fun p => .star p (sT ds p)
def togR (ev : List (List Nat)) (ds : List Deed) : List Deed := (ev.filter fun E => nz (rT ds E)).map fun E => .round E (rT ds E)
def tog (n : Nat) (ev : List (List Nat)) (ds : List Deed) : List Deed := togS n ds ++ togR ev ds
theorem sum_app (a b : List Int) : (a ++ b).sum = a.sum + b.sum := List.sum_append
theorem sum_perm {a b : List Int} (h : a.Perm b) : a.sum = b.sum := by
  induction h with
  | nil => rfl
  | cons x _ ih => simp only [List.sum_cons, ih]
  | swap x y l => simp only [List.sum_cons]; omega
  | trans _ _ ih1 ih2 => rw [ih1, ih2]
theorem sT_app (a b : List Deed) (p : Nat) : sT (a ++ b) p = sT a p + sT b p := by
  unfold sT
  rw [List.map_append, sum_app]
theorem rT_app (a b : List Deed) (E : List Nat) : rT (a ++ b) E = rT a E + rT b E := by
  unfold rT
  rw [List.map_append, sum_app]
theorem sT_perm {a b : List Deed} (h : a.Perm b) (p : Nat) : sT a p = sT b p := sum_perm (h.map _)
theorem rT_perm {a b : List Deed} (h : a.Perm b) (E : List Nat) : rT a E = rT b E := sum_perm (h.map _)
theorem tog_congr {n : Nat} {ev : List (List Nat)} {a b : List Deed} (h1 : ∀ p, sT a p = sT b p) (h2 : ∀ E, rT a E = rT b E) : tog n ev a = tog n ev b := by
  unfold tog togS togR
  rw [funext h1, funext h2]
theorem tog_perm {n : Nat} {ev : List (List Nat)} {a b : List Deed} (h : a.Perm b) : tog n ev a = tog n ev b := tog_congr (sT_perm h) (rT_perm h)
theorem sT_neg : ∀ (ds : List Deed) (p : Nat), sT (ds.map Deed.neg) p = -(sT ds p)
  | [], _ => rfl
  | d :: ds, p => by
    have h := sT_neg ds p
    unfold sT at h ⊢
    simp only [List.map_cons, List.sum_cons, h]
    cases d with
    | star q t =>
      show (if q = p then -t else 0) + _ = -((if q = p then t else 0) + _)
      split <;> omega
    | round ks t =>
      show (0 : Int) + _ = -(0 + _)
      omega
theorem rT_neg : ∀ (ds : List Deed) (E : List Nat), rT (ds.map Deed.neg) E = -(rT ds E)
  | [], _ => rfl
  | d :: ds, E => by
    have h := rT_neg ds E
    unfold rT at h ⊢
    simp only [List.map_cons, List.sum_cons, h]
    cases d with
    | star q t =>
      show (0 : Int) + _ = -(0 + _)
      omega
    | round ks t =>
      show (if ks = E then -t else 0) + _ = -((if ks = E then t else 0) + _)
      split <;> omega
theorem sT_undo (ds : List Deed) (p : Nat) : sT (ds ++ ds.reverse.map Deed.neg) p = 0 := by
  rw [sT_app, sT_neg, sT_perm ds.reverse_perm]
  omega
theorem rT_undo (ds : List Deed) (E : List Nat) : rT (ds ++ ds.reverse.map Deed.neg) E = 0 := by
  rw [rT_app, rT_neg, rT_perm ds.reverse_perm]
  omega
theorem tog_undo (n : Nat) (ev : List (List Nat)) (ds : List Deed) : tog n ev (ds ++ ds.reverse.map Deed.neg) = [] := by
  unfold tog togS togR
  have h1 : (List.range n).filter (fun p => nz (sT (ds ++ ds.reverse.map Deed.neg) p)) = [] := List.filter_eq_nil_iff.mpr fun p _ => by rw [sT_undo]; decide
  have h2 : ev.filter (fun E => nz (rT (ds ++ ds.reverse.map Deed.neg) E)) = [] := List.filter_eq_nil_iff.mpr fun p _ => by rw [rT_undo]; decide
  rw [h1, h2]
  rfl
def Deed.dbl : Deed → Deed
  | .star p t => .star p (2 * t)
  | .round ks t => .round ks (2 * t)
theorem tog_twice (n : Nat) (ev : List (List Nat)) (ds : List Deed) : tog n ev (ds ++ ds) = (tog n ev ds).map Deed.dbl := by
  have e1 : ∀ p, sT (ds ++ ds) p = 2 * sT ds p := fun p => by rw [sT_app]; omega
  have e2 : ∀ E, rT (ds ++ ds) E = 2 * rT ds E := fun E => by rw [rT_app]; omega
  have n2 : ∀ z : Int, nz (2 * z) = nz z := fun z => by
    unfold nz
    by_cases h : z = 0
    · subst h
      rfl
    · rw [decide_eq_true h, decide_eq_true (show 2 * z ≠ 0 by omega)]
  unfold tog togS togR
  rw [List.map_append, List.map_map, List.map_map, funext e1, funext e2]
  simp only [n2]
  rfl
/-- the numbers of some, each by itself -/
theorem sum_one {α : Type} [DecidableEq α] (c : α → Bool) (p : α) (t : Int) : ∀ l : List α, l.Nodup → (l.map fun q => if c q = true then (if q = p then t else 0) else 0).sum = if p ∈ l ∧ c p = true then t else 0
  | [], _ => by simp
  | q :: l, h => by
    have hn := List.nodup_cons.mp h
    have ih := sum_one c p t l hn.2
    rw [List.map_cons, List.sum_cons, ih]
    by_cases e : q = p
    · subst e
      have z : ¬ (q ∈ l ∧ c q = true) := fun y => hn.1 y.1
      rw [if_neg z, if_pos rfl]
      by_cases hc : c q = true
      · rw [if_pos hc, if_pos ⟨List.mem_cons_self .., hc⟩]
        omega
      · rw [if_neg hc, if_neg fun y => hc y.2]
        omega
    · have e2 : p ∈ q :: l ↔ p ∈ l := by
        rw [List.mem_cons]
        exact ⟨fun y => y.elim (fun z => absurd z.symm e) id, .inr⟩
      rw [if_neg e]
      simp only [e2, ite_self]
      omega
theorem sum_nz {α : Type} (f : α → Int) (g : α → Int) (h : ∀ x, f x = 0 → g x = 0) : ∀ l : List α, ((l.filter fun x => nz (f x)).map g).sum = (l.map g).sum
  | [] => rfl
  | x :: l => by
    have ih := sum_nz f g h l
    rw [List.filter_cons]
    by_cases e : f x = 0
    · rw [if_neg (by unfold nz; simp [e]), ih, List.map_cons, List.sum_cons, h x e]
      omega
    · rw [if_pos (by unfold nz; simp [e]), List.map_cons, List.map_cons, List.sum_cons, List.sum_cons, ih]
theorem sum_pt {α : Type} [DecidableEq α] (f : α → Int) (p : α) : ∀ l : List α, l.Nodup → (l.map fun q => if q = p then f q else 0).sum = if p ∈ l then f p else 0
  | [], _ => by simp
  | q :: l, h => by
    have hn := List.nodup_cons.mp h
    have ih := sum_pt f p l hn.2
    rw [List.map_cons, List.sum_cons, ih]
    by_cases e : q = p
    · subst e
      rw [if_neg hn.1, if_pos rfl, if_pos (List.mem_cons_self ..)]
      omega
    · have e2 : p ∈ q :: l ↔ p ∈ l := by
        rw [List.mem_cons]
        exact ⟨fun y => y.elim (fun z => absurd z.symm e) id, .inr⟩
      rw [if_neg e]
      simp only [e2]
      omega
theorem sum_zero {α : Type} {f : α → Int} (l : List α) (h : ∀ x ∈ l, f x = 0) : (l.map f).sum = 0 := by
  induction l with
  | nil => rfl
  | cons x l ih => rw [List.map_cons, List.sum_cons, h x (List.mem_cons_self ..), ih fun y hy => h y (List.mem_cons_of_mem _ hy)]; rfl
theorem sT_tog {n : Nat} {ev : List (List Nat)} {ds : List Deed} {p : Nat} (hp : p < n) : sT (tog n ev ds) p = sT ds p := by
  unfold tog
  rw [sT_app]
  have h1 : sT (togS n ds) p = sT ds p := by
    have e1 : sT (togS n ds) p = (((List.range n).filter fun q => nz (sT ds q)).map fun q => if q = p then sT ds q else 0).sum := by
      conv => lhs; unfold sT
      unfold togS
      rw [List.map_map]
      rfl
    rw [e1, sum_nz (sT ds) _ (fun x hx => by rw [hx, ite_self]), sum_pt (sT ds) p _ List.nodup_range, if_pos (List.mem_range.mpr hp)]
  have h2 : sT (togR ev ds) p = 0 := by
    unfold sT togR
    rw [List.map_map]
    exact sum_zero _ fun _ _ => rfl
  rw [h1, h2]
  omega
theorem rT_tog {n : Nat} {ev : List (List Nat)} {ds : List Deed} {E : List Nat} (hv : ev.Nodup) (hE : E ∈ ev) : rT (tog n ev ds) E = rT ds E := by
  unfold tog
  rw [rT_app]
  have h1 : rT (togR ev ds) E = rT ds E := by
    have e1 : rT (togR ev ds) E = ((ev.filter fun q => nz (rT ds q)).map fun q => if q = E then rT ds q else 0).sum := by
      conv => lhs; unfold rT
      unfold togR
      rw [List.map_map]
      rfl
    rw [e1, sum_nz (rT ds) _ (fun x hx => by rw [hx, ite_self]), sum_pt (rT ds) E _ hv, if_pos hE]
  have h2 : rT (togS n ds) E = 0 := by
    unfold rT togS
    rw [List.map_map]
    exact sum_zero _ fun _ _ => rfl
  rw [h1, h2]
  omega
theorem tog_tog {n : Nat} {ev : List (List Nat)} {ds : List Deed} (hv : ev.Nodup) : tog n ev (tog n ev ds) = tog n ev ds := by
  have h1 : togS n (tog n ev ds) = togS n ds := by
    unfold togS
    rw [List.filter_congr (q := fun p => nz (sT ds p)) fun p hp => by rw [sT_tog (List.mem_range.mp hp)]]
    exact List.map_congr_left fun p hp => by rw [sT_tog (List.mem_range.mp (List.mem_filter.mp hp).1)]
  have h2 : togR ev (tog n ev ds) = togR ev ds := by
    unfold togR
    rw [List.filter_congr (q := fun p => nz (rT ds p)) fun p hp => by rw [rT_tog hv hp]]
    exact List.map_congr_left fun p hp => by rw [rT_tog hv (List.mem_filter.mp hp).1]
  show togS n (tog n ev ds) ++ togR ev (tog n ev ds) = _
  rw [h1, h2]
  rfl
/-- all its places and rounds are known -/
def Deed.In (n : Nat) (ev : List (List Nat)) : Deed → Prop
  | .star p _ => p < n
  | .round ks _ => ks ∈ ev
theorem tog_in {n : Nat} {ev : List (List Nat)} {ds : List Deed} {d : Deed} (h : d ∈ tog n ev ds) : d.In n ev := by
  rcases List.mem_append.mp h with q | q
  · obtain ⟨p, hp, rfl⟩ := List.mem_map.mp q
    exact List.mem_range.mp (List.mem_filter.mp hp).1
  · obtain ⟨E, hE, rfl⟩ := List.mem_map.mp q
    exact (List.mem_filter.mp hE).1
theorem sum_split {α : Type} (f g : α → Int) : ∀ l : List α, (l.map fun x => f x + g x).sum = (l.map f).sum + (l.map g).sum
  | [] => rfl
  | x :: l => by
    rw [List.map_cons, List.map_cons, List.map_cons, List.sum_cons, List.sum_cons, List.sum_cons, sum_split f g l]
    omega
def allE (ts : List Tie) (n : Nat) (ev : List (List Nat)) (ds : List Deed) (k : Nat) : Int :=
  ((List.range n).map fun p => if hit ts p k = true then sT ds p else 0).sum + (ev.map fun E => if decide (k ∈ E) = true then rT ds E else 0).sum
theorem allE_eq {ts : List Tie} {n : Nat} {ev : List (List Nat)} (hv : ev.Nodup) (k : Nat) : ∀ ds : List Deed, (∀ d ∈ ds, d.In n ev) → allE ts n ev ds k = effect ts ds k
  | [], _ => by
    unfold allE
    rw [sum_zero _ (fun p _ => by show (if _ then (0 : Int) else 0) = 0; rw [ite_self]), sum_zero _ (fun p _ => by show (if _ then (0 : Int) else 0) = 0; rw [ite_self])]
    rfl
  | d :: ds, h => by
    have ih := allE_eq (ts := ts) hv k ds fun x hx => h x (List.mem_cons_of_mem _ hx)
    have hd := h d (List.mem_cons_self ..)
    have e1 : ∀ p, sT (d :: ds) p = d.starAt p + sT ds p := fun p => by unfold sT; rw [List.map_cons, List.sum_cons]
    have e2 : ∀ E, rT (d :: ds) E = d.roundAt E + rT ds E := fun E => by unfold rT; rw [List.map_cons, List.sum_cons]
    have s1 : ((List.range n).map fun p => if hit ts p k = true then sT (d :: ds) p else 0).sum =
        ((List.range n).map fun p => if hit ts p k = true then d.starAt p else 0).sum + ((List.range n).map fun p => if hit ts p k = true then sT ds p else 0).sum := by
      rw [← sum_split]
      congr 1
      exact List.map_congr_left fun p _ => by rw [e1]; split <;> omega
    have s2 : (ev.map fun E => if decide (k ∈ E) = true then rT (d :: ds) E else 0).sum =
        (ev.map fun E => if decide (k ∈ E) = true then d.roundAt E else 0).sum + (ev.map fun E => if decide (k ∈ E) = true then rT ds E else 0).sum := by
      rw [← sum_split]
      congr 1
      exact List.map_congr_left fun p _ => by rw [e2]; split <;> omega
    have e3 : effect ts (d :: ds) k = d.part ts k + effect ts ds k := by simp only [effect, List.map_cons, List.sum_cons]
    have e4 : ((List.range n).map fun p => if hit ts p k = true then d.starAt p else 0).sum + (ev.map fun E => if decide (k ∈ E) = true then d.roundAt E else 0).sum = d.part ts k := by
      cases d with
      | star q t =>
        have g1 := sum_one (fun p => hit ts p k) q t (List.range n) List.nodup_range
        have g2 : (ev.map fun E => if decide (k ∈ E) = true then (Deed.star q t).roundAt E else 0).sum = 0 := sum_zero _ fun E _ => by show (if _ then (0 : Int) else 0) = 0; rw [ite_self]
        rw [g2]
        have g3 : ((List.range n).map fun p => if hit ts p k = true then (Deed.star q t).starAt p else 0) = (List.range n).map fun p => if hit ts p k = true then (if p = q then t else 0) else 0 :=
          List.map_congr_left fun p _ => by
            show (if hit ts p k = true then (if q = p then t else 0) else 0) = _
            by_cases e : q = p
            · subst e
              simp
            · have e' : ¬ p = q := fun z => e z.symm
              simp [e, e']
        rw [g3, g1]
        show _ = (if hit ts q k = true then t else 0)
        have hq : q < n := hd
        by_cases c : hit ts q k = true
        · rw [if_pos ⟨List.mem_range.mpr hq, c⟩, if_pos c]
          omega
        · rw [if_neg fun z => c z.2, if_neg c]
          omega
      | round ks t =>
        have g1 := sum_one (fun E => decide (k ∈ E)) ks t ev hv
        have g2 : ((List.range n).map fun p => if hit ts p k = true then (Deed.round ks t).starAt p else 0).sum = 0 := sum_zero _ fun E _ => by show (if _ then (0 : Int) else 0) = 0; rw [ite_self]
        rw [g2]
        have g3 : (ev.map fun E => if decide (k ∈ E) = true then (Deed.round ks t).roundAt E else 0) = ev.map fun E => if decide (k ∈ E) = true then (if E = ks then t else 0) else 0 :=
          List.map_congr_left fun E _ => by
            show (if decide (k ∈ E) = true then (if ks = E then t else 0) else 0) = _
            by_cases e : ks = E
            · subst e
              simp
            · have e' : ¬ E = ks := fun z => e z.symm
              simp [e, e']
        rw [g3, g1]
        show _ = (if decide (k ∈ ks) = true then t else 0)
        have hq : ks ∈ ev := hd
        by_cases c : decide (k ∈ ks) = true
        · rw [if_pos ⟨hq, c⟩, if_pos c]
          omega
        · rw [if_neg fun z => c z.2, if_neg c]
          omega
    unfold allE at ih ⊢
    rw [s1, s2, e3]
    omega
theorem effect_tog {ts : List Tie} {n : Nat} {ev : List (List Nat)} {ds : List Deed} (hv : ev.Nodup) (h : ∀ d ∈ ds, d.In n ev) (k : Nat) : effect ts (tog n ev ds) k = effect ts ds k := by
  rw [← allE_eq hv k _ fun d hd => tog_in hd, ← allE_eq hv k _ h]
  unfold allE
  congr 2
  · exact List.map_congr_left fun p hp => by rw [sT_tog (List.mem_range.mp hp)]
  · exact List.map_congr_left fun E hE => by rw [rT_tog hv hE]
theorem behind_tog {ts : List Tie} {n : Nat} {ev : List (List Nat)} {ds : List Deed} (f : Nat → Int) (hv : ev.Nodup) (h : ∀ d ∈ ds, d.In n ev) : behind ts f (tog n ev ds) = behind ts f ds := funext fun k => by
  rw [behind_eq, behind_eq, effect_tog hv h]
/-! how many, how great -/
theorem nodup_sub {α : Type} [DecidableEq α] : ∀ (m l : List α), l.Nodup → (∀ x ∈ l, x ∈ m) → l.length ≤ m.length
  | [], l, _, h => by
    cases l with
    | nil => exact Nat.le_refl _
    | cons a r => exact absurd (h a (List.mem_cons_self ..)) (List.not_mem_nil)
  | a :: m, l, hn, h => by
    have h1 := nodup_sub m (l.erase a) (hn.erase a) fun x hx => by
      have h2 := h x (List.mem_of_mem_erase hx)
      rcases List.mem_cons.mp h2 with e | e
      · subst e
        exact absurd hx (List.Nodup.not_mem_erase hn)
      · exact e
    rw [List.length_cons]
    by_cases e : a ∈ l
    · rw [List.length_erase_of_mem e] at h1
      omega
    · rw [List.erase_of_not_mem e] at h1
      omega
theorem sT_some {ds : List Deed} {p : Nat} (h : nz (sT ds p) = true) : ∃ t, Deed.star p t ∈ ds := by
  induction ds with
  | nil => exact absurd h (by show ¬ nz 0 = true; decide)
  | cons d ds ih =>
    have e1 : sT (d :: ds) p = d.starAt p + sT ds p := by unfold sT; rw [List.map_cons, List.sum_cons]
    by_cases e : sT ds p = 0
    · cases d with
      | star q t =>
        by_cases eq : q = p
        · subst eq
          exact ⟨t, List.mem_cons_self ..⟩
        · have : (Deed.star q t).starAt p = 0 := if_neg eq
          rw [e1, this, e] at h
          exact absurd h (by decide)
      | round ks t =>
        rw [e1, e] at h
        exact absurd h (by show ¬ nz (0 + 0) = true; decide)
    · obtain ⟨t, ht⟩ := ih (by unfold nz; simp [e])
      exact ⟨t, List.mem_cons_of_mem _ ht⟩
theorem rT_some {ds : List Deed} {E : List Nat} (h : nz (rT ds E) = true) : ∃ t, Deed.round E t ∈ ds := by
  induction ds with
  | nil => exact absurd h (by show ¬ nz 0 = true; decide)
  | cons d ds ih =>
    have e1 : rT (d :: ds) E = d.roundAt E + rT ds E := by unfold rT; rw [List.map_cons, List.sum_cons]
    by_cases e : rT ds E = 0
    · cases d with
      | star q t =>
        rw [e1, e] at h
        exact absurd h (by show ¬ nz (0 + 0) = true; decide)
      | round ks t =>
        by_cases eq : ks = E
        · subst eq
          exact ⟨t, List.mem_cons_self ..⟩
        · have : (Deed.round ks t).roundAt E = 0 := if_neg eq
          rw [e1, this, e] at h
          exact absurd h (by decide)
    · obtain ⟨t, ht⟩ := ih (by unfold nz; simp [e])
      exact ⟨t, List.mem_cons_of_mem _ ht⟩
def Deed.key : Deed → List Nat
  | .star p _ => [p]
  | .round ks _ => ks
theorem tog_len {n : Nat} {ev : List (List Nat)} {ds : List Deed} (hv : ev.Nodup) : (tog n ev ds).length ≤ 2 * ds.length := by
  unfold tog togS togR
  rw [List.length_append, List.length_map, List.length_map]
  have h1 : ((List.range n).filter fun p => nz (sT ds p)).length ≤ ds.length := by
    have := nodup_sub (ds.map fun d => d.key.headD 0) ((List.range n).filter fun p => nz (sT ds p)) (List.nodup_range.filter _) fun p hp => by
      obtain ⟨t, ht⟩ := sT_some (List.mem_filter.mp hp).2
      exact List.mem_map.mpr ⟨_, ht, rfl⟩
    rw [List.length_map] at this
    exact this
  have h2 : (ev.filter fun E => nz (rT ds E)).length ≤ ds.length := by
    have := nodup_sub (ds.map Deed.key) (ev.filter fun E => nz (rT ds E)) (hv.filter _) fun p hp => by
      obtain ⟨t, ht⟩ := rT_some (List.mem_filter.mp hp).2
      exact List.mem_map.mpr ⟨_, ht, rfl⟩
    rw [List.length_map] at this
    exact this
  omega
theorem sT_abs {B : Nat} : ∀ (ds : List Deed) (p : Nat), (∀ d ∈ ds, d.times.natAbs ≤ B) → (sT ds p).natAbs ≤ ds.length * B
  | [], _, _ => by simp [sT]
  | d :: ds, p, h => by
    have ih := sT_abs ds p fun x hx => h x (List.mem_cons_of_mem _ hx)
    have hd := h d (List.mem_cons_self ..)
    have e1 : sT (d :: ds) p = d.starAt p + sT ds p := by unfold sT; rw [List.map_cons, List.sum_cons]
    have e2 : (d.starAt p).natAbs ≤ B := by
      cases d with
      | star q t =>
        show (if q = p then t else 0).natAbs ≤ B
        split
        · exact hd
        · exact Nat.zero_le _
      | round ks t => exact Nat.zero_le _
    rw [e1, List.length_cons, Nat.succ_mul]
    omega
theorem rT_abs {B : Nat} : ∀ (ds : List Deed) (E : List Nat), (∀ d ∈ ds, d.times.natAbs ≤ B) → (rT ds E).natAbs ≤ ds.length * B
  | [], _, _ => by simp [rT]
  | d :: ds, E, h => by
    have ih := rT_abs ds E fun x hx => h x (List.mem_cons_of_mem _ hx)
    have hd := h d (List.mem_cons_self ..)
    have e1 : rT (d :: ds) E = d.roundAt E + rT ds E := by unfold rT; rw [List.map_cons, List.sum_cons]
    have e2 : (d.roundAt E).natAbs ≤ B := by
      cases d with
      | star q t => exact Nat.zero_le _
      | round ks t =>
        show (if ks = E then t else 0).natAbs ≤ B
        split
        · exact hd
        · exact Nat.zero_le _
    rw [e1, List.length_cons, Nat.succ_mul]
    omega
theorem tog_abs {n : Nat} {ev : List (List Nat)} {ds : List Deed} {B : Nat} (h : ∀ d ∈ ds, d.times.natAbs ≤ B) {d : Deed} (hd : d ∈ tog n ev ds) : d.times.natAbs ≤ ds.length * B := by
  rcases List.mem_append.mp hd with q | q
  · obtain ⟨p, hp, rfl⟩ := List.mem_map.mp q
    exact sT_abs ds p h
  · obtain ⟨E, hE, rfl⟩ := List.mem_map.mp q
    exact rT_abs ds E h
theorem tog_nz {n : Nat} {ev : List (List Nat)} {ds : List Deed} {d : Deed} (hd : d ∈ tog n ev ds) : d.times ≠ 0 := by
  rcases List.mem_append.mp hd with q | q
  · obtain ⟨p, hp, rfl⟩ := List.mem_map.mp q
    exact of_decide_eq_true (List.mem_filter.mp hp).2
  · obtain ⟨E, hE, rfl⟩ := List.mem_map.mp q
    exact of_decide_eq_true (List.mem_filter.mp hE).2
/-! lists that ascend -/
theorem asc_ext {l m : List Nat} (hl : l.Pairwise (· < ·)) (hm : m.Pairwise (· < ·)) (h : ∀ k, k ∈ l ↔ k ∈ m) : l = m := by
  have nl : l.Nodup := hl.imp fun {a b} z => Nat.ne_of_lt z
  have nm : m.Nodup := hm.imp fun {a b} z => Nat.ne_of_lt z
  exact ((List.perm_ext_iff_of_nodup nl nm).mpr h).eq_of_pairwise (le := fun a b => a < b) (fun a b _ _ z y => by omega) hl hm
/-- masks -/
def maskN (L : Nat) (ks : List Nat) : Nat := (ks.map fun k => 2 ^ (L - 1 - k)).sum
end BV

namespace BV
open PySem L2
/-! ### a search from a place, told as lists -/
abbrev FL := List (Nat × List Nat)
def keysF (F : FL) : List Nat := F.map (·.1)
def wayAt (F : FL) (p : Nat) : List Nat := match F.find? (fun x => decide (x.1 = p)) with
  | some x => x.2
  | none => []
def farE (t : Tie) (p : Nat) : Nat := if p = t.1 then t.2 else t.1
def stepK (ts : List Tie) (p : Nat) (s : FL × List Nat) (k : Nat) : FL × List Nat := match ts[k]? with
  | some t => if p = t.1 ∨ p = t.2 then (if farE t p ∈ keysF s.1 then s else (s.1 ++ [(farE t p, wayAt s.1 p ++ [k])], s.2 ++ [farE t p])) else s
  | none => s
def bfsGo (ts : List Tie) (es : List Nat) : Nat → FL → List Nat → FL
  | 0, F, _ => F
  | _ + 1, F, [] => F
  | m + 1, F, p :: Q => bfsGo ts es m (es.foldl (stepK ts p) (F, Q)).1 (es.foldl (stepK ts p) (F, Q)).2
def bfs (ts : List Tie) (es : List Nat) (n start : Nat) : FL := bfsGo ts es (n + 1) [(start, [])] [start]
theorem go_nil (ts : List Tie) (es : List Nat) (m : Nat) (F : FL) : bfsGo ts es m F [] = F := by cases m <;> rfl
/-- a way that meets no place twice: its ties, its end, its places -/
inductive SWay (ts : List Tie) (a : Nat) : List Nat → Nat → List Nat → Prop
  | nil : SWay ts a [] a [a]
  | snoc {w : List Nat} {p k q : Nat} {t : Tie} {P : List Nat} : SWay ts a w p P → ts[k]? = some t → (t.1 = p ∧ t.2 = q ∨ t.2 = p ∧ t.1 = q) → q ∉ P → SWay ts a (w ++ [k]) q (P ++ [q])
theorem SWay.way {ts : List Tie} {a q : Nat} {w P : List Nat} (h : SWay ts a w q P) : Way ts a w q := by
  induction h with
  | nil => exact .nil
  | snoc _ ht e _ ih => exact .snoc ih ht e
theorem SWay.mem {ts : List Tie} {a q : Nat} {w P : List Nat} (h : SWay ts a w q P) : a ∈ P ∧ q ∈ P := by
  induction h with
  | nil => simp
  | snoc _ _ _ _ ih => exact ⟨List.mem_append_left _ ih.1, List.mem_append_right _ (List.mem_singleton.mpr rfl)⟩
theorem SWay.nd {ts : List Tie} {a q : Nat} {w P : List Nat} (h : SWay ts a w q P) : P.Nodup ∧ w.length + 1 = P.length := by
  induction h with
  | nil => exact ⟨List.nodup_cons.mpr ⟨by simp, .nil⟩, rfl⟩
  | snoc _ _ _ hq ih =>
    refine ⟨?_, by rw [List.length_append, List.length_append, ← ih.2]; rfl⟩
    rw [List.nodup_append]
    refine ⟨ih.1, List.nodup_cons.mpr ⟨by simp, .nil⟩, fun x hx y hy e => ?_⟩
    rw [List.mem_singleton.mp hy] at e
    exact hq (e ▸ hx)
theorem SWay.ends {ts : List Tie} {a q : Nat} {w P : List Nat} (h : SWay ts a w q P) : ∀ k ∈ w, ∃ t, ts[k]? = some t ∧ t.1 ∈ P ∧ t.2 ∈ P := by
  induction h with
  | nil => simp
  | snoc h0 ht e _ ih =>
    intro k hk
    rcases List.mem_append.mp hk with z | z
    · obtain ⟨t, h1, h2, h3⟩ := ih k z
      exact ⟨t, h1, List.mem_append_left _ h2, List.mem_append_left _ h3⟩
    · rw [List.mem_singleton.mp z]
      refine ⟨_, ht, ?_⟩
      rcases e with ⟨e1, e2⟩ | ⟨e1, e2⟩
      · rw [e1, e2]
        exact ⟨List.mem_append_left _ h0.mem.2, List.mem_append_right _ (List.mem_singleton.mpr rfl)⟩
      · rw [e1, e2]
        exact ⟨List.mem_append_right _ (List.mem_singleton.mpr rfl), List.mem_append_left _ h0.mem.2⟩
theorem SWay.wnd {ts : List Tie} {a q : Nat} {w P : List Nat} (h : SWay ts a w q P) : w.Nodup := by
  induction h with
  | nil => exact .nil
  | snoc h0 ht e hq ih =>
    rw [List.nodup_append]
    refine ⟨ih, List.nodup_cons.mpr ⟨by simp, .nil⟩, fun x hx y hy exy => ?_⟩
    rw [List.mem_singleton.mp hy] at exy
    obtain ⟨t, h1, h2, h3⟩ := h0.ends x hx
    rw [exy, ht] at h1
    cases h1
    rcases e with ⟨e1, e2⟩ | ⟨e1, e2⟩
    · exact hq (e2 ▸ h3)
    · exact hq (e2 ▸ h2)
/-- what holds of the state -/
structure BI (ts : List Tie) (es : List Nat) (n start : Nat) (F : FL) (Q : List Nat) : Prop where
  nd : (keysF F).Nodup
  lt : ∀ p ∈ keysF F, p < n
  st : start ∈ keysF F
  ways : ∀ x ∈ F, ∃ P, SWay ts start x.2 x.1 P ∧ (∀ y ∈ P, y ∈ keysF F) ∧ ∀ k ∈ x.2, k ∈ es
  qs : ∀ p ∈ Q, p ∈ keysF F
theorem BI.len {ts : List Tie} {es : List Nat} {n start : Nat} {F : FL} {Q : List Nat} (h : BI ts es n start F Q) : F.length ≤ n := by
  have := nodup_sub (List.range n) (keysF F) h.nd fun x hx => List.mem_range.mpr (h.lt x hx)
  rw [List.length_range] at this
  unfold keysF at this
  rw [List.length_map] at this
  exact this
theorem wayAt_mem : ∀ {F : FL} {p : Nat}, p ∈ keysF F → (p, wayAt F p) ∈ F
  | [], p, h => by simp [keysF] at h
  | x :: F, p, h => by
    unfold wayAt
    rw [List.find?_cons]
    by_cases e : x.1 = p
    · rw [decide_eq_true e]
      dsimp only
      rw [← e]
      exact List.mem_cons_self ..
    · rw [decide_eq_false e]
      have h' : p ∈ keysF F := by
        rcases List.mem_cons.mp (show p ∈ x.1 :: keysF F from h) with z | z
        · exact absurd z.symm e
        · exact z
      exact List.mem_cons_of_mem _ (wayAt_mem h')
theorem wayAt_eq : ∀ {F : FL} {p : Nat} {w : List Nat}, (keysF F).Nodup → (p, w) ∈ F → wayAt F p = w
  | [], p, w, _, h => by simp at h
  | x :: F, p, w, hn, h => by
    unfold wayAt
    rw [List.find?_cons]
    have hn' := List.nodup_cons.mp (show (x.1 :: keysF F).Nodup from hn)
    rcases List.mem_cons.mp h with e | e
    · subst e
      rw [decide_eq_true rfl]
    · have ne : ¬ x.1 = p := fun z => hn'.1 (by rw [z]; exact List.mem_map.mpr ⟨_, e, rfl⟩)
      rw [decide_eq_false ne]
      exact wayAt_eq hn'.2 e
theorem keys_app (F : FL) (x : Nat × List Nat) : keysF (F ++ [x]) = keysF F ++ [x.1] := by
  unfold keysF
  rw [List.map_append]
  rfl
section
variable {ts : List Tie} {es : List Nat} {n start : Nat}
/-- one tie -/
theorem step_inv (hends : ∀ t ∈ ts, t.1 < t.2 ∧ t.2 < n) {F : FL} {Q : List Nat} {p k : Nat} {t : Tie} (h : BI ts es n start F Q) (hp : p ∈ keysF F) (hk : k ∈ es) (ht : ts[k]? = some t) :
    BI ts es n start (stepK ts p (F, Q) k).1 (stepK ts p (F, Q) k).2 ∧ (∀ x ∈ keysF F, x ∈ keysF (stepK ts p (F, Q) k).1) ∧ (∀ x ∈ Q, x ∈ (stepK ts p (F, Q) k).2) ∧
    (∀ x ∈ keysF (stepK ts p (F, Q) k).1, x ∈ keysF F ∨ x ∈ (stepK ts p (F, Q) k).2) ∧
    ((t.1 = p → t.2 ∈ keysF (stepK ts p (F, Q) k).1) ∧ (t.2 = p → t.1 ∈ keysF (stepK ts p (F, Q) k).1)) ∧
    (stepK ts p (F, Q) k).2.length + (n - (stepK ts p (F, Q) k).1.length) = Q.length + (n - F.length) := by
  have hm := hends t (List.mem_of_getElem? ht)
  unfold stepK
  rw [ht]
  dsimp only
  by_cases h1 : p = t.1 ∨ p = t.2
  · rw [if_pos h1]
    have hf : (t.1 = p → t.2 = farE t p) ∧ (t.2 = p → t.1 = farE t p) := by
      unfold farE
      constructor
      · intro e
        rw [if_pos e.symm]
      · intro e
        rw [if_neg (by omega)]
    by_cases h2 : farE t p ∈ keysF F
    · rw [if_pos h2]
      exact ⟨h, fun x z => z, fun x z => z, fun x z => .inl z, ⟨fun e => (hf.1 e).symm ▸ h2, fun e => (hf.2 e).symm ▸ h2⟩, rfl⟩
    · rw [if_neg h2]
      dsimp only
      have hg : farE t p < n := by
        unfold farE
        split <;> omega
      have B : BI ts es n start (F ++ [(farE t p, wayAt F p ++ [k])]) (Q ++ [farE t p]) := by
        refine ⟨?_, ?_, ?_, ?_, ?_⟩
        · rw [keys_app, List.nodup_append]
          refine ⟨h.nd, List.nodup_cons.mpr ⟨by simp, .nil⟩, fun x hx y hy e => ?_⟩
          rw [List.mem_singleton.mp hy] at e
          exact h2 ((show x = farE t p from e) ▸ hx)
        · intro x hx
          rw [keys_app] at hx
          rcases List.mem_append.mp hx with z | z
          · exact h.lt x z
          · rw [List.mem_singleton.mp z]
            exact hg
        · rw [keys_app]
          exact List.mem_append_left _ h.st
        · intro x hx
          rw [keys_app]
          rcases List.mem_append.mp hx with z | z
          · obtain ⟨P, a, b, c⟩ := h.ways x z
            exact ⟨P, a, fun y hy => List.mem_append_left _ (b y hy), c⟩
          · rw [List.mem_singleton.mp z]
            obtain ⟨P, a, b, c⟩ := h.ways _ (wayAt_mem hp)
            dsimp only at a c ⊢
            refine ⟨P ++ [farE t p], .snoc a ht ?_ (fun z => h2 (b _ z)), fun y hy => ?_, fun y hy => ?_⟩
            · unfold farE
              by_cases e : p = t.1
              · rw [if_pos e]
                exact .inl ⟨e.symm, rfl⟩
              · rw [if_neg e]
                exact .inr ⟨(h1.resolve_left e).symm, rfl⟩
            · rcases List.mem_append.mp hy with q | q
              · exact List.mem_append_left _ (b y q)
              · exact List.mem_append_right _ q
            · rcases List.mem_append.mp hy with q | q
              · exact c y q
              · rw [List.mem_singleton.mp q]
                exact hk
        · intro x hx
          rw [keys_app]
          rcases List.mem_append.mp hx with z | z
          · exact List.mem_append_left _ (h.qs x z)
          · exact List.mem_append_right _ z
      have hin : farE t p ∈ keysF (F ++ [(farE t p, wayAt F p ++ [k])]) := by
        rw [keys_app]
        exact List.mem_append_right _ (List.mem_singleton.mpr rfl)
      refine ⟨B, fun x hx => ?_, fun x hx => List.mem_append_left _ hx, fun x hx => ?_, ⟨fun e => (hf.1 e).symm ▸ hin, fun e => (hf.2 e).symm ▸ hin⟩, ?_⟩
      · rw [keys_app]
        exact List.mem_append_left _ hx
      · rw [keys_app] at hx
        rcases List.mem_append.mp hx with z | z
        · exact .inl z
        · exact .inr (List.mem_append_right _ z)
      · have := B.len
        rw [List.length_append, List.length_singleton] at this ⊢
        rw [List.length_append, List.length_singleton]
        omega
  · rw [if_neg h1]
    exact ⟨h, fun x z => z, fun x z => z, fun x z => .inl z, ⟨fun e => absurd (.inl e.symm) h1, fun e => absurd (.inr e.symm) h1⟩, rfl⟩
/-- all ties at a place -/
theorem scan_inv (hends : ∀ t ∈ ts, t.1 < t.2 ∧ t.2 < n) {p : Nat} : ∀ (l : List Nat) (F : FL) (Q : List Nat), BI ts es n start F Q → p ∈ keysF F → (∀ k ∈ l, k ∈ es ∧ k < ts.length) →
    BI ts es n start (l.foldl (stepK ts p) (F, Q)).1 (l.foldl (stepK ts p) (F, Q)).2 ∧ (∀ x ∈ keysF F, x ∈ keysF (l.foldl (stepK ts p) (F, Q)).1) ∧ (∀ x ∈ Q, x ∈ (l.foldl (stepK ts p) (F, Q)).2) ∧
    (∀ x ∈ keysF (l.foldl (stepK ts p) (F, Q)).1, x ∈ keysF F ∨ x ∈ (l.foldl (stepK ts p) (F, Q)).2) ∧
    (∀ k ∈ l, ∀ t, ts[k]? = some t → (t.1 = p → t.2 ∈ keysF (l.foldl (stepK ts p) (F, Q)).1) ∧ (t.2 = p → t.1 ∈ keysF (l.foldl (stepK ts p) (F, Q)).1)) ∧
    (l.foldl (stepK ts p) (F, Q)).2.length + (n - (l.foldl (stepK ts p) (F, Q)).1.length) = Q.length + (n - F.length)
  | [], F, Q, h, hp, _ => ⟨h, fun x z => z, fun x z => z, fun x z => .inl z, by simp, rfl⟩
  | k :: l, F, Q, h, hp, hl => by
    obtain ⟨hk, hkl⟩ := hl k (List.mem_cons_self ..)
    have ht : ts[k]? = some ts[k] := List.getElem?_eq_getElem hkl
    obtain ⟨a1, a2, a3, a4, a5, a6⟩ := step_inv hends h hp hk ht
    obtain ⟨b1, b2, b3, b4, b5, b6⟩ := scan_inv hends l _ _ a1 (a2 p hp) fun x hx => hl x (List.mem_cons_of_mem _ hx)
    rw [List.foldl_cons]
    refine ⟨b1, fun x hx => b2 x (a2 x hx), fun x hx => b3 x (a3 x hx), fun x hx => ?_, fun x hx t hxt => ?_, b6.trans a6⟩
    · rcases b4 x hx with z | z
      · rcases a4 x z with z | z
        · exact .inl z
        · exact .inr (b3 x z)
      · exact .inr z
    · rcases List.mem_cons.mp hx with e | e
      · subst e
        rw [ht] at hxt
        cases hxt
        exact ⟨fun e => b2 _ (a5.1 e), fun e => b2 _ (a5.2 e)⟩
      · exact b5 x e t hxt
def ShutF (ts : List Tie) (es : List Nat) (F : FL) (p : Nat) : Prop := ∀ k ∈ es, ∀ t, ts[k]? = some t → (t.1 = p → t.2 ∈ keysF F) ∧ (t.2 = p → t.1 ∈ keysF F)
theorem go_inv (hends : ∀ t ∈ ts, t.1 < t.2 ∧ t.2 < n) (hes : ∀ k ∈ es, k < ts.length) : ∀ (m : Nat) (F : FL) (Q : List Nat), BI ts es n start F Q → (∀ x ∈ keysF F, x ∈ Q ∨ ShutF ts es F x) → Q.length + (n - F.length) ≤ m →
    BI ts es n start (bfsGo ts es m F Q) [] ∧ ∀ x ∈ keysF (bfsGo ts es m F Q), ShutF ts es (bfsGo ts es m F Q) x
  | 0, F, Q, h, hc, hm => by
    have hQ : Q = [] := List.eq_nil_of_length_eq_zero (by omega)
    subst hQ
    exact ⟨h, fun x hx => (hc x hx).resolve_left (by simp)⟩
  | m + 1, F, [], h, hc, hm => ⟨h, fun x hx => (hc x hx).resolve_left (by simp)⟩
  | m + 1, F, p :: Q, h, hc, hm => by
    have hp := h.qs p (List.mem_cons_self ..)
    have h' : BI ts es n start F Q := ⟨h.nd, h.lt, h.st, h.ways, fun x hx => h.qs x (List.mem_cons_of_mem _ hx)⟩
    obtain ⟨b1, b2, b3, b4, b5, b6⟩ := scan_inv hends es F Q h' hp fun k hk => ⟨hk, hes k hk⟩
    refine go_inv hends hes m _ _ b1 (fun x hx => ?_) ?_
    · rcases b4 x hx with z | z
      · rcases hc x z with z2 | z2
        · rcases List.mem_cons.mp z2 with e | e
          · rw [e]
            exact .inr b5
          · exact .inl (b3 x e)
        · refine .inr fun k hk t ht => ?_
          have := z2 k hk t ht
          exact ⟨fun e => b2 _ (this.1 e), fun e => b2 _ (this.2 e)⟩
      · exact .inl z
    · rw [List.length_cons] at hm
      omega
theorem start_inv (hst : start < n) : BI ts es n start [(start, [])] [start] :=
  ⟨List.nodup_cons.mpr ⟨by simp, .nil⟩, fun p hp => by rw [List.mem_singleton.mp (show p ∈ [start] from hp)]; exact hst, List.mem_cons_self .., fun x hx => by
    rw [List.mem_singleton.mp hx]
    exact ⟨[start], .nil, fun y hy => hy, by simp⟩, fun p hp => hp⟩
theorem bfs_inv (hends : ∀ t ∈ ts, t.1 < t.2 ∧ t.2 < n) (hes : ∀ k ∈ es, k < ts.length) (hst : start < n) :
    BI ts es n start (bfs ts es n start) [] ∧ ∀ x ∈ keysF (bfs ts es n start), ShutF ts es (bfs ts es n start) x :=
  go_inv hends hes (n + 1) _ _ (start_inv hst) (fun x hx => .inl hx) (by
    show 1 + (n - 1) ≤ n + 1
    omega)
end
end BV

namespace BV
open PySem L2
/-! ### rounds: each place twice or not at all, and all in one piece -/
theorem atE_iff {ts : List Tie} {p k : Nat} {t : Tie} (ht : ts[k]? = some t) : atE ts p k = true ↔ (t.1 = p ∨ t.2 = p) := by
  unfold atE
  rw [ht]
  exact decide_eq_true_iff
theorem degE_filter_le (ts : List Tie) (f : Nat → Bool) (l : List Nat) (p : Nat) : degE ts (l.filter f) p ≤ degE ts l p := by
  have := degE_split ts f l p
  omega
/-- the ties of one lot at a place lie in the other, if there are as many -/
theorem deg_same {ts : List Tie} {f : Nat → Bool} {l : List Nat} {p k : Nat} (h : degE ts (l.filter f) p = degE ts l p) (hk : k ∈ l) (ha : atE ts p k = true) : f k = true := by
  have h1 := degE_split ts f l p
  have h2 : degE ts (l.filter fun k => !f k) p = 0 := by omega
  cases e : f k with
  | true => rfl
  | false =>
    unfold degE at h2
    have h3 : k ∈ (l.filter fun k => !f k).filter (atE ts p) := by
      rw [List.mem_filter, List.mem_filter, e]
      exact ⟨⟨hk, rfl⟩, ha⟩
    rw [List.eq_nil_of_length_eq_zero h2] at h3
    cases h3
theorem deg_pos {ts : List Tie} {l : List Nat} {p k : Nat} (hk : k ∈ l) (ha : atE ts p k = true) : 1 ≤ degE ts l p := by
  unfold degE
  exact List.length_pos_of_mem (List.mem_filter.mpr ⟨hk, ha⟩)
/-- the ties of a way that meets no place twice -/
theorem sway_deg {n : Nat} {ts : List Tie} (hends : ∀ t ∈ ts, t.1 < t.2 ∧ t.2 < n) {a q : Nat} {w P : List Nat} (h : SWay ts a w q P) (x : Nat) :
    degE ts w x + b2 (decide (x = a)) + b2 (decide (x = q)) = if x ∈ P then 2 else 0 := by
  induction h with
  | nil =>
    show 0 + _ + _ = _
    by_cases e : x = a
    · rw [if_pos (by rw [e]; exact List.mem_singleton.mpr rfl), decide_eq_true e]
      rfl
    · rw [if_neg (by simpa using e), decide_eq_false e]
      rfl
  | @snoc w p k q t P h0 ht e hq ih =>
    have hk : b2 (atE ts x k) = b2 (decide (x = p)) + b2 (decide (x = q)) := by
      have hpq : p ≠ q := fun z => hq (z ▸ h0.mem.2)
      unfold atE
      rw [ht]
      dsimp only
      by_cases e1 : x = p
      · have e2 : ¬ x = q := fun z => hpq (e1.symm.trans z)
        rw [decide_eq_true e1, decide_eq_false e2, decide_eq_true (by omega)]
        rfl
      · by_cases e2 : x = q
        · rw [decide_eq_false e1, decide_eq_true e2, decide_eq_true (by omega)]
          rfl
        · rw [decide_eq_false e1, decide_eq_false e2, decide_eq_false (by omega)]
          rfl
    rw [degE_app]
    have h1 : degE ts [k] x = b2 (atE ts x k) := by
      rw [degE_cons]
      rfl
    rw [h1, hk]
    by_cases e2 : x = q
    · have hxP : x ∉ P := e2 ▸ hq
      rw [if_neg hxP] at ih
      rw [if_pos (List.mem_append_right _ (List.mem_singleton.mpr e2)), decide_eq_true e2]
      have : b2 true = 1 := rfl
      omega
    · have e3 : x ∈ P ++ [q] ↔ x ∈ P := by simp [e2]
      rw [decide_eq_false e2]
      have : b2 false = 0 := rfl
      by_cases e4 : x ∈ P
      · rw [if_pos e4] at ih
        rw [if_pos (e3.mpr e4)]
        omega
      · rw [if_neg e4] at ih
        rw [if_neg fun z => e4 (e3.mp z)]
        omega
/-- a lot whose places are met twice or not at all -/
def Twos (n : Nat) (ts : List Tie) (lot : List Nat) : Prop := ∀ p, p < n → degE ts lot p = 0 ∨ degE ts lot p = 2
/-- all hangs on the tie k0 -/
def Touch (ts : List Tie) (A : List Nat) (k : Nat) : Prop := ∃ p j, j ∈ A ∧ atE ts p j = true ∧ atE ts p k = true
def Piece (ts : List Tie) (lot : List Nat) (k0 : Nat) : Prop := ∀ A : List Nat, k0 ∈ A → (∀ k ∈ lot, Touch ts A k → k ∈ A) → ∀ k ∈ lot, k ∈ A
theorem sway_conn {ts : List Tie} {a q : Nat} {w P : List Nat} (h : SWay ts a w q P) {lot A : List Nat} (hA : ∀ k ∈ lot, Touch ts A k → k ∈ A) (ha : ∃ j ∈ A, atE ts a j = true) :
    (∀ k ∈ w, k ∈ lot) → (∀ k ∈ w, k ∈ A) ∧ ∃ j ∈ A, atE ts q j = true := by
  induction h with
  | nil => exact fun _ => ⟨by simp, ha⟩
  | @snoc w p k q t P h0 ht e hq ih =>
    intro hl
    obtain ⟨h1, j, hj, hj2⟩ := ih fun x hx => hl x (List.mem_append_left _ hx)
    have hp : atE ts p k = true := (atE_iff ht).mpr (by rcases e with e | e; exact .inl e.1; exact .inr e.1)
    have hq2 : atE ts q k = true := (atE_iff ht).mpr (by rcases e with e | e; exact .inr e.2; exact .inl e.2)
    have hk : k ∈ A := hA k (hl k (List.mem_append_right _ (List.mem_singleton.mpr rfl))) ⟨p, j, hj, hj2, hp⟩
    refine ⟨fun x hx => ?_, k, hk, hq2⟩
    rcases List.mem_append.mp hx with z | z
    · exact h1 x z
    · rw [List.mem_singleton.mp z]
      exact hk
/-- a round: not empty, each place twice or not at all, all in one piece -/
structure Rnd (n : Nat) (ts : List Tie) (lot : List Nat) : Prop where
  ne : lot ≠ []
  tw : Twos n ts lot
  cn : ∀ k0 ∈ lot.head?, Piece ts lot k0
theorem Rnd.even {n : Nat} {ts : List Tie} {lot : List Nat} (h : Rnd n ts lot) : EvenE n ts lot := fun p hp => by
  rcases h.tw p hp with e | e <;> rw [e]
theorem twos_perm {n : Nat} {ts : List Tie} {l m : List Nat} (h : l.Perm m) (t : Twos n ts l) : Twos n ts m := fun p hp => by
  rw [← degE_perm h]
  exact t p hp
theorem conn_perm {ts : List Tie} {l m : List Nat} {k0 : Nat} (h : l.Perm m) (t : Piece ts l k0) : Piece ts m k0 := fun A h0 hA k hk =>
  t A h0 (fun j hj => hA j (h.mem_iff.mp hj)) k (h.mem_iff.mpr hk)
section
variable {n : Nat} {ts : List Tie}
/-- a tie and a way behind it -/
theorem cyc_twos (hends : ∀ t ∈ ts, t.1 < t.2 ∧ t.2 < n) {k0 : Nat} {t : Tie} {w P : List Nat} (ht : ts[k0]? = some t) (h : SWay ts t.1 w t.2 P) (x : Nat) : degE ts (k0 :: w) x = if x ∈ P then 2 else 0 := by
  have hm := hends t (List.mem_of_getElem? ht)
  rw [← sway_deg hends h x, degE_cons]
  unfold atE
  rw [ht]
  dsimp only
  by_cases e1 : x = t.1
  · rw [decide_eq_true e1, decide_eq_false (show ¬ x = t.2 by omega), decide_eq_true (show t.1 = x ∨ t.2 = x by omega)]
    show 1 + _ = _ + 1 + 0
    omega
  · by_cases e2 : x = t.2
    · rw [decide_eq_false e1, decide_eq_true e2, decide_eq_true (show t.1 = x ∨ t.2 = x by omega)]
      show 1 + _ = _ + 0 + 1
      omega
    · rw [decide_eq_false e1, decide_eq_false e2, decide_eq_false (show ¬ (t.1 = x ∨ t.2 = x) by omega)]
      show 0 + _ = _ + 0 + 0
      omega
theorem cyc_conn {k0 : Nat} {t : Tie} {w P : List Nat} (ht : ts[k0]? = some t) (h : SWay ts t.1 w t.2 P) : Piece ts (k0 :: w) k0 := fun A h0 hA k hk => by
  rcases List.mem_cons.mp hk with e | e
  · rw [e]
    exact h0
  · exact (sway_conn h hA ⟨k0, h0, (atE_iff ht).mpr (.inl rfl)⟩ fun x hx => List.mem_cons_of_mem _ hx).1 k e
/-- an even part of a round is nothing or all -/
theorem rd_least (hends : ∀ t ∈ ts, t.1 < t.2 ∧ t.2 < n) {lot : List Nat} (hl : ∀ k ∈ lot, k < ts.length) (h : Rnd n ts lot) {f : Nat → Bool} (he : EvenE n ts (lot.filter f)) : (∀ k ∈ lot, f k = true) ∨ ∀ k ∈ lot, f k = false := by
  have hplace : ∀ {p k : Nat}, k ∈ lot → atE ts p k = true → p < n := fun {p k} hk ha => by
    have ht := List.getElem?_eq_getElem (hl k hk)
    have hm := hends _ (List.mem_of_getElem? ht)
    rcases (atE_iff ht).mp ha with e | e <;> omega
  obtain ⟨k0, hk0⟩ : ∃ k0, lot.head? = some k0 := by
    cases e : lot with
    | nil => exact absurd e h.ne
    | cons a r => exact ⟨a, rfl⟩
  have hk0m : k0 ∈ lot := List.mem_of_mem_head? hk0
  -- the ties at a place of the part are the part's
  have hin : ∀ {p k j : Nat}, j ∈ lot → f j = true → atE ts p j = true → k ∈ lot → atE ts p k = true → f k = true := fun {p k j} hj hfj hpj hk hpk => by
    have hp := hplace hk hpk
    have h1 : 1 ≤ degE ts (lot.filter f) p := deg_pos (List.mem_filter.mpr ⟨hj, hfj⟩) hpj
    have h2 := he p hp
    have h3 := degE_filter_le ts f lot p
    refine deg_same (l := lot) ?_ hk hpk
    rcases h.tw p hp with e | e <;> omega
  cases e0 : f k0 with
  | true =>
    refine .inl fun k hk => ?_
    have := h.cn k0 hk0 (lot.filter f) (List.mem_filter.mpr ⟨hk0m, e0⟩) (fun k hk ⟨p, j, hj, hpj, hpk⟩ => ?_) k hk
    · exact (List.mem_filter.mp this).2
    · obtain ⟨a, b⟩ := List.mem_filter.mp hj
      exact List.mem_filter.mpr ⟨hk, hin a b hpj hk hpk⟩
  | false =>
    refine .inr fun k hk => ?_
    have := h.cn k0 hk0 (lot.filter fun k => !f k) (List.mem_filter.mpr ⟨hk0m, by rw [e0]; rfl⟩) (fun k hk ⟨p, j, hj, hpj, hpk⟩ => ?_) k hk
    · simpa using (List.mem_filter.mp this).2
    · obtain ⟨a, b⟩ := List.mem_filter.mp hj
      refine List.mem_filter.mpr ⟨hk, ?_⟩
      cases e : f k with
      | false => rfl
      | true =>
        have := hin hk e hpk a hpj
        rw [this] at b
        cases b
end
/-! ### the first round of an even lot -/
def wayB (ts : List Tie) (n : Nat) (k0 : Nat) (rest : List Nat) : List Nat := match ts[k0]? with
  | some t => wayAt (bfs ts rest n t.1) t.2
  | none => []
def frL (ts : List Tie) (n : Nat) : List Nat → List Nat
  | [] => []
  | k0 :: rest => (List.range ts.length).filter fun k => decide (k = k0) || decide (k ∈ wayB ts n k0 rest)
section
variable {n : Nat} {ts : List Tie}
theorem way_there (hends : ∀ t ∈ ts, t.1 < t.2 ∧ t.2 < n) {k0 : Nat} {rest : List Nat} {t : Tie} (ht : ts[k0]? = some t) (hr : ∀ k ∈ rest, k < ts.length) (he : EvenE n ts (k0 :: rest)) : t.2 ∈ keysF (bfs ts rest n t.1) := by
  have hm := hends t (List.mem_of_getElem? ht)
  obtain ⟨b1, b2⟩ := bfs_inv hends hr (show t.1 < n by omega)
  refine Classical.byContradiction fun hno => ?_
  have hl : ∀ k ∈ k0 :: rest, k < ts.length := fun k hk => by
    rcases List.mem_cons.mp hk with e | e
    · rw [e]
      exact (List.getElem?_eq_some_iff.mp ht).1
    · exact hr k e
  have hc := even_cross hends hl he (keysF (bfs ts rest n t.1))
  rw [crossN_cons] at hc
  have e1 : crossK ts (keysF (bfs ts rest n t.1)) k0 = true := by
    unfold crossK crosses
    rw [ht]
    dsimp only
    rw [decide_eq_true b1.st, decide_eq_false hno]
    rfl
  have e2 : crossN ts (keysF (bfs ts rest n t.1)) rest = 0 := by
    unfold crossN
    rw [List.length_eq_zero_iff, List.filter_eq_nil_iff]
    intro k hk hx
    have hk2 := List.getElem?_eq_getElem (hr k hk)
    unfold crossK crosses at hx
    rw [hk2] at hx
    dsimp only at hx
    have h1 : (ts[k]'(hr k hk)).1 ∈ keysF (bfs ts rest n t.1) → (ts[k]'(hr k hk)).2 ∈ keysF (bfs ts rest n t.1) := fun z => (b2 _ z k hk _ hk2).1 rfl
    have h2 : (ts[k]'(hr k hk)).2 ∈ keysF (bfs ts rest n t.1) → (ts[k]'(hr k hk)).1 ∈ keysF (bfs ts rest n t.1) := fun z => (b2 _ z k hk _ hk2).2 rfl
    have e3 : decide ((ts[k]'(hr k hk)).1 ∈ keysF (bfs ts rest n t.1)) = decide ((ts[k]'(hr k hk)).2 ∈ keysF (bfs ts rest n t.1)) := decide_eq_decide.mpr ⟨h1, h2⟩
    rw [e3, decide_eq_true rfl] at hx
    cases hx
  rw [e1, e2] at hc
  exact absurd hc (by decide)
/-- a tie of an even lot and the way behind it are a round -/
theorem way_is (hends : ∀ t ∈ ts, t.1 < t.2 ∧ t.2 < n) {k0 : Nat} {rest : List Nat} {t : Tie} (ht : ts[k0]? = some t) (hr : ∀ k ∈ rest, k < ts.length) (h : t.2 ∈ keysF (bfs ts rest n t.1)) :
    (∃ P, SWay ts t.1 (wayB ts n k0 rest) t.2 P) ∧ ∀ k ∈ wayB ts n k0 rest, k ∈ rest := by
  have hm := hends t (List.mem_of_getElem? ht)
  obtain ⟨b1, b2⟩ := bfs_inv hends hr (show t.1 < n by omega)
  have e : wayB ts n k0 rest = wayAt (bfs ts rest n t.1) t.2 := by
    unfold wayB
    rw [ht]
  obtain ⟨P, h1, h2, h3⟩ := b1.ways _ (wayAt_mem h)
  rw [e]
  exact ⟨⟨P, h1⟩, h3⟩
theorem fr_perm {k0 : Nat} {w rest : List Nat} (hk : k0 < ts.length) (hr : ∀ k ∈ w, k < ts.length) (hn : (k0 :: w).Nodup) : ((List.range ts.length).filter fun k => decide (k = k0) || decide (k ∈ w)).Perm (k0 :: w) := by
  refine (List.perm_ext_iff_of_nodup (List.nodup_range.filter _) hn).mpr fun k => ?_
  rw [List.mem_filter, List.mem_range, Bool.or_eq_true, decide_eq_true_eq, decide_eq_true_eq, List.mem_cons]
  constructor
  · exact fun z => z.2
  · intro z
    refine ⟨?_, z⟩
    rcases z with z | z
    · rw [z]
      exact hk
    · exact hr k z
/-- what the first round is -/
theorem fr_is (hends : ∀ t ∈ ts, t.1 < t.2 ∧ t.2 < n) {k0 : Nat} {rest : List Nat} (hl : LotA ts.length (k0 :: rest)) {t : Tie} (ht : ts[k0]? = some t) (h : t.2 ∈ keysF (bfs ts rest n t.1)) :
    Rnd n ts (frL ts n (k0 :: rest)) ∧ (∀ k ∈ frL ts n (k0 :: rest), k ∈ k0 :: rest) ∧ (frL ts n (k0 :: rest)).head? = some k0 ∧ LotA ts.length (frL ts n (k0 :: rest)) ∧ (frL ts n (k0 :: rest)).Perm (k0 :: wayB ts n k0 rest) := by
  have hr : ∀ k ∈ rest, k < ts.length := fun k hk => hl.2 k (List.mem_cons_of_mem _ hk)
  obtain ⟨⟨P, hP⟩, hw⟩ := way_is hends ht hr h
  have hk0 : k0 < ts.length := hl.2 k0 (List.mem_cons_self ..)
  have hlt : ∀ k ∈ rest, k0 < k := (List.pairwise_cons.mp hl.1).1
  have hnd : (k0 :: wayB ts n k0 rest).Nodup := List.nodup_cons.mpr ⟨fun z => by have := hlt k0 (hw k0 z); omega, hP.wnd⟩
  have hp := fr_perm (ts := ts) (rest := rest) hk0 (fun k hk => hr k (hw k hk)) hnd
  have hA : LotA ts.length (frL ts n (k0 :: rest)) := ⟨List.pairwise_lt_range.filter _, fun k hk => List.mem_range.mp (List.mem_filter.mp hk).1⟩
  have hmem : ∀ k, k ∈ frL ts n (k0 :: rest) ↔ k ∈ k0 :: wayB ts n k0 rest := fun k => hp.mem_iff
  have hhead : (frL ts n (k0 :: rest)).head? = some k0 := by
    cases e : frL ts n (k0 :: rest) with
    | nil =>
      have := (hmem k0).mpr (List.mem_cons_self ..)
      rw [e] at this
      cases this
    | cons a r =>
      have h1 : a ∈ k0 :: wayB ts n k0 rest := (hmem a).mp (by rw [e]; exact List.mem_cons_self ..)
      rcases List.mem_cons.mp h1 with z | z
      · rw [z]
        rfl
      · have h2 := hlt a (hw a z)
        have h3 : k0 ∈ a :: r := by rw [← e]; exact (hmem k0).mpr (List.mem_cons_self ..)
        have h4 := hA.1
        rw [e] at h4
        rcases List.mem_cons.mp h3 with q | q
        · omega
        · have := (List.pairwise_cons.mp h4).1 k0 q
          omega
  refine ⟨⟨fun e => ?_, twos_perm hp.symm fun p _ => ?_, fun k hk => ?_⟩, fun k hk => ?_, hhead, hA, hp⟩
  · have := (hmem k0).mpr (List.mem_cons_self ..)
    rw [e] at this
    cases this
  · rw [cyc_twos hends ht hP p]
    split
    · exact .inr rfl
    · exact .inl rfl
  · rw [hhead] at hk
    cases hk
    exact conn_perm hp.symm (cyc_conn ht hP)
  · rcases List.mem_cons.mp ((hmem k).mp hk) with z | z
    · rw [z]
      exact List.mem_cons_self ..
    · exact List.mem_cons_of_mem _ (hw k z)
/-- a lot is a round just if it is even and its first round is all of it -/
theorem rd_iff (hends : ∀ t ∈ ts, t.1 < t.2 ∧ t.2 < n) {lot : List Nat} (hl : LotA ts.length lot) (hne : lot ≠ []) (he : EvenE n ts lot) : frL ts n lot = lot ↔ Rnd n ts lot := by
  cases lot with
  | nil => exact absurd rfl hne
  | cons k0 rest =>
    have hk0 : k0 < ts.length := hl.2 k0 (List.mem_cons_self ..)
    have ht : ts[k0]? = some ts[k0] := List.getElem?_eq_getElem hk0
    have hr : ∀ k ∈ rest, k < ts.length := fun k hk => hl.2 k (List.mem_cons_of_mem _ hk)
    obtain ⟨h1, h2, h3, h4, _⟩ := fr_is hends hl ht (way_there hends ht hr he)
    constructor
    · intro e
      rw [← e]
      exact h1
    · intro hR
      have hsub : (frL ts n (k0 :: rest)).Perm ((k0 :: rest).filter fun k => decide (k ∈ frL ts n (k0 :: rest))) := (List.perm_ext_iff_of_nodup h4.nd (hl.nd.filter _)).mpr fun k => by
        rw [List.mem_filter, decide_eq_true_eq]
        exact ⟨fun z => ⟨h2 k z, z⟩, fun z => z.2⟩
      have he2 : EvenE n ts ((k0 :: rest).filter fun k => decide (k ∈ frL ts n (k0 :: rest))) := fun p hp => by
        rw [← degE_perm hsub]
        exact h1.even p hp
      have hk : k0 ∈ frL ts n (k0 :: rest) := List.mem_of_mem_head? h3
      rcases rd_least hends (fun k hk => hl.2 k hk) hR he2 with z | z
      · refine lot_ext h4 hl fun k _ => ⟨h2 k, fun q => of_decide_eq_true (z k q)⟩
      · have := z k0 (List.mem_cons_self ..)
        rw [decide_eq_true hk] at this
        cases this
/-- a lot that is even and has no even part is a round -/
theorem least_rd (hends : ∀ t ∈ ts, t.1 < t.2 ∧ t.2 < n) {lot : List Nat} (hl : LotA ts.length lot) (hne : lot ≠ []) (he : EvenE n ts lot) :
    (∀ f : Nat → Bool, EvenE n ts (lot.filter f) → (∀ k ∈ lot, f k = true) ∨ ∀ k ∈ lot, f k = false) ↔ Rnd n ts lot := by
  refine ⟨fun h => (rd_iff hends hl hne he).mp ?_, fun h f hf => rd_least hends hl.2 h hf⟩
  cases lot with
  | nil => exact absurd rfl hne
  | cons k0 rest =>
    have hk0 : k0 < ts.length := hl.2 k0 (List.mem_cons_self ..)
    have ht : ts[k0]? = some ts[k0] := List.getElem?_eq_getElem hk0
    have hr : ∀ k ∈ rest, k < ts.length := fun k hk => hl.2 k (List.mem_cons_of_mem _ hk)
    obtain ⟨h1, h2, h3, h4, _⟩ := fr_is hends hl ht (way_there hends ht hr he)
    have hsub : (frL ts n (k0 :: rest)).Perm ((k0 :: rest).filter fun k => decide (k ∈ frL ts n (k0 :: rest))) := (List.perm_ext_iff_of_nodup h4.nd (hl.nd.filter _)).mpr fun k => by
      rw [List.mem_filter, decide_eq_true_eq]
      exact ⟨fun z => ⟨h2 k z, z⟩, fun z => z.2⟩
    have he2 : EvenE n ts ((k0 :: rest).filter fun k => decide (k ∈ frL ts n (k0 :: rest))) := fun p hp => by
      rw [← degE_perm hsub]
      exact h1.even p hp
    have hk : k0 ∈ frL ts n (k0 :: rest) := List.mem_of_mem_head? h3
    rcases h _ he2 with z | z
    · exact lot_ext h4 hl fun k _ => ⟨h2 k, fun q => of_decide_eq_true (z k q)⟩
    · have := z k0 (List.mem_cons_self ..)
      rw [decide_eq_true hk] at this
      cases this
end
end BV

namespace BV
open PySem L2
/-! ### an even lot told as rounds -/
def partsGo (ts : List Tie) (n : Nat) : Nat → List Nat → List (List Nat)
  | 0, _ => []
  | _ + 1, [] => []
  | m + 1, k0 :: rest => frL ts n (k0 :: rest) :: partsGo ts n m ((k0 :: rest).filter fun k => !decide (k ∈ frL ts n (k0 :: rest)))
theorem parts_nil (ts : List Tie) (n m : Nat) : partsGo ts n m [] = [] := by cases m <;> rfl
section
variable {n : Nat} {ts : List Tie}
theorem left_step (hends : ∀ t ∈ ts, t.1 < t.2 ∧ t.2 < n) {k0 : Nat} {rest : List Nat} (hl : LotA ts.length (k0 :: rest)) (he : EvenE n ts (k0 :: rest)) :
    Rnd n ts (frL ts n (k0 :: rest)) ∧ LotA ts.length (frL ts n (k0 :: rest)) ∧ (∀ k ∈ frL ts n (k0 :: rest), k ∈ k0 :: rest) ∧ k0 ∈ frL ts n (k0 :: rest) ∧
    LotA ts.length ((k0 :: rest).filter fun k => !decide (k ∈ frL ts n (k0 :: rest))) ∧ EvenE n ts ((k0 :: rest).filter fun k => !decide (k ∈ frL ts n (k0 :: rest))) ∧
    ((k0 :: rest).filter fun k => !decide (k ∈ frL ts n (k0 :: rest))).length ≤ rest.length ∧ (frL ts n (k0 :: rest) ++ (k0 :: rest).filter fun k => !decide (k ∈ frL ts n (k0 :: rest))).Perm (k0 :: rest) := by
  have hk0 : k0 < ts.length := hl.2 k0 (List.mem_cons_self ..)
  have ht := List.getElem?_eq_getElem hk0
  have hr : ∀ k ∈ rest, k < ts.length := fun k hk => hl.2 k (List.mem_cons_of_mem _ hk)
  obtain ⟨h1, h2, h3, h4, _⟩ := fr_is hends hl ht (way_there hends ht hr he)
  have hk : k0 ∈ frL ts n (k0 :: rest) := List.mem_of_mem_head? h3
  have hsub : (frL ts n (k0 :: rest)).Perm ((k0 :: rest).filter fun k => decide (k ∈ frL ts n (k0 :: rest))) := (List.perm_ext_iff_of_nodup h4.nd (hl.nd.filter _)).mpr fun k => by
    rw [List.mem_filter, decide_eq_true_eq]
    exact ⟨fun z => ⟨h2 k z, z⟩, fun z => z.2⟩
  have hA : LotA ts.length ((k0 :: rest).filter fun k => !decide (k ∈ frL ts n (k0 :: rest))) := ⟨hl.1.filter _, fun k hk => hl.2 k (List.mem_filter.mp hk).1⟩
  have hp : (frL ts n (k0 :: rest) ++ (k0 :: rest).filter fun k => !decide (k ∈ frL ts n (k0 :: rest))).Perm (k0 :: rest) := by
    refine (List.perm_ext_iff_of_nodup ?_ hl.nd).mpr fun k => ?_
    · rw [List.nodup_append]
      refine ⟨h4.nd, hA.nd, fun x hx y hy e => ?_⟩
      have := (List.mem_filter.mp hy).2
      rw [← e, decide_eq_true hx] at this
      cases this
    · rw [List.mem_append, List.mem_filter]
      constructor
      · rintro (z | z)
        · exact h2 k z
        · exact z.1
      · intro z
        by_cases e : k ∈ frL ts n (k0 :: rest)
        · exact .inl e
        · exact .inr ⟨z, by rw [decide_eq_false e]; rfl⟩
  refine ⟨h1, h4, h2, hk, hA, fun p hp2 => ?_, ?_, hp⟩
  · have e1 := degE_perm hp (ts := ts) p
    rw [degE_app] at e1
    have e2 := h1.even p hp2
    have e3 := he p hp2
    omega
  · have e1 := hp.length_eq
    rw [List.length_append, List.length_cons] at e1
    have := List.length_pos_of_mem hk
    omega
theorem parts_spec (hends : ∀ t ∈ ts, t.1 < t.2 ∧ t.2 < n) : ∀ (m : Nat) (left : List Nat), LotA ts.length left → EvenE n ts left → left.length ≤ m →
    (∀ r ∈ partsGo ts n m left, Rnd n ts r ∧ LotA ts.length r ∧ ∀ k ∈ r, k ∈ left) ∧ (partsGo ts n m left).flatten.Perm left
  | m, [], hl, he, hm => by
    rw [parts_nil]
    exact ⟨by simp, by simp⟩
  | 0, k0 :: rest, hl, he, hm => by simp at hm
  | m + 1, k0 :: rest, hl, he, hm => by
    obtain ⟨a1, a2, a3, a4, a5, a6, a7, a8⟩ := left_step hends hl he
    obtain ⟨b1, b2⟩ := parts_spec hends m _ a5 a6 (by rw [List.length_cons] at hm; omega)
    refine ⟨fun r hr => ?_, ?_⟩
    · rcases List.mem_cons.mp hr with e | e
      · rw [e]
        exact ⟨a1, a2, a3⟩
      · obtain ⟨c1, c2, c3⟩ := b1 r e
        exact ⟨c1, c2, fun k hk => (List.mem_filter.mp (c3 k hk)).1⟩
    · show (frL ts n (k0 :: rest) ++ (partsGo ts n m _).flatten).Perm _
      exact (List.Perm.append_left _ b2).trans a8
end
open Classical in
noncomputable def isRB (n : Nat) (ts : List Tie) (lot : List Nat) : Bool := decide (Rnd n ts lot)
open Classical in
theorem isRB_iff {n : Nat} {ts : List Tie} {lot : List Nat} : isRB n ts lot = true ↔ Rnd n ts lot := by
  unfold isRB
  exact decide_eq_true_iff
end BV

namespace BV
open PySem L2
/-! ### what kind of data: integers within bounds, rows, lots, standings, deeds -/
def intIn : PyData → Int → Int → Bool
  | .int i, lo, hi => decide (lo ≤ i ∧ i ≤ hi)
  | _, _, _ => false
def isRow : PyData → Int → Bool
  | .tuple ds, m => decide ((ds.length : Int) = m)
  | _, _ => false
def isStr : PyData → Bool
  | .str _ => true
  | _ => false
theorem kit_str (d : PyData) : kitB (tyN d) "str" = some (isStr d) := by
  cases d <;> simp only [tyN, isStr] <;> decide +kernel
theorem int_of {d : PyData} {lo hi : Int} (h : intIn d lo hi = true) : ∃ i, d = .int i := by
  cases d with
  | int i => exact ⟨i, rfl⟩
  | _ => cases h
theorem str_of {d : PyData} (h : isStr d = true) : ∃ x, d = .str x := by
  cases d with
  | str x => exact ⟨x, rfl⟩
  | _ => cases h
theorem tup_of {d : PyData} (h : isTup d = true) : ∃ ds, d = .tuple ds := by
  cases d with
  | tuple ds => exact ⟨ds, rfl⟩
  | _ => cases h
theorem row_of' {d : PyData} {m : Int} (h : isRow d m = true) : ∃ ds, d = .tuple ds ∧ (ds.length : Int) = m := by
  cases d with
  | tuple ds => exact ⟨ds, rfl, of_decide_eq_true h⟩
  | _ => cases h
theorem three_of {ds : List PyData} (h : ds.length = 3) : ∃ a b c, ds = [a, b, c] := by
  match ds, h with
  | [a, b, c], _ => exact ⟨a, b, c, rfl⟩
/-- the first that is none -/
def badP (p : PyData → Bool) : List PyData → Nat → Option Nat
  | [], _ => none
  | d :: ds, k => if p d = true then badP p ds (k + 1) else some k
theorem badP_none {p : PyData → Bool} : ∀ {ds : List PyData} {k : Nat}, (∀ d ∈ ds, p d = true) → badP p ds k = none
  | [], k, _ => rfl
  | d :: ds, k, h => by
    unfold badP
    rw [if_pos (h d (List.mem_cons_self ..)), badP_none fun e he => h e (List.mem_cons_of_mem _ he)]
theorem badP_app {p : PyData → Bool} : ∀ (ds es : List PyData) (k : Nat), (∀ d ∈ ds, p d = true) → badP p (ds ++ es) k = badP p es (k + ds.length)
  | [], es, k, _ => rfl
  | d :: ds, es, k, h => by
    show (if p d = true then badP p (ds ++ es) (k + 1) else some k) = _
    rw [if_pos (h d (List.mem_cons_self ..)), badP_app ds es (k + 1) fun e he => h e (List.mem_cons_of_mem _ he), List.length_cons]
    congr 1
    omega
theorem split_at {ds : List PyData} {i : Nat} {d : PyData} (hd : ds[i]? = some d) : ds = ds.take i ++ d :: ds.drop (i + 1) ∧ i < ds.length := by
  have hi : i < ds.length := (List.getElem?_eq_some_iff.mp hd).1
  have h1 : ds[i] = d := Option.some.inj ((List.getElem?_eq_getElem hi).symm.trans hd)
  refine ⟨?_, hi⟩
  rw [← h1, List.getElem_cons_drop, List.take_append_drop]
theorem badP_first {p : PyData → Bool} {ds : List PyData} {i : Nat} {d : PyData} (h : ∀ j e, j < i → ds[j]? = some e → p e = true) (hd : ds[i]? = some d) (hb : p d = false) : badP p ds 0 = some i := by
  obtain ⟨e, hi⟩ := split_at hd
  rw [e, badP_app _ _ _ fun x hx => ?_]
  · unfold badP
    rw [if_neg (by rw [hb]; decide), List.length_take]
    congr 1
    omega
  · obtain ⟨j, hj⟩ := List.getElem?_of_mem hx
    have hjl := (List.getElem?_eq_some_iff.mp hj).1
    rw [List.length_take] at hjl
    rw [List.getElem?_take_of_lt (by omega)] at hj
    exact h j x (by omega) hj
def numOk (d : PyData) : Bool := intIn d (-(10 ^ 12)) (10 ^ 12)
/-- what is wrong with a thing as a standing on m ties -/
def stE (m : Nat) : PyData → PyData
  | .tuple ds => if ds.length = m then (match badP numOk ds 0 with
      | some k => .tuple [.str "item", .int (k : Nat)]
      | none => .none) else .str "form"
  | _ => .str "form"
theorem stE_row {m : Nat} {d : PyData} (h : isRow d (m : Int) = false) : stE m d = .str "form" := by
  cases d with
  | tuple ds =>
    have h1 : ¬ ((ds.length : Int) = (m : Int)) := of_decide_eq_false h
    unfold stE
    dsimp only
    rw [if_neg (by omega)]
  | _ => rfl
theorem stE_item {ds : List PyData} {k : Nat} (h : badP numOk ds 0 = some k) : stE ds.length (.tuple ds) = .tuple [.str "item", .int (k : Nat)] := by
  unfold stE
  dsimp only
  rw [if_pos rfl, h]
theorem stE_none {ds : List PyData} (h : badP numOk ds 0 = none) : stE ds.length (.tuple ds) = .none := by
  unfold stE
  dsimp only
  rw [if_pos rfl, h]
/-- a row of integers from l on, ascending, below m -/
def lotGo (m : Nat) : List PyData → Int → Bool
  | [], _ => true
  | d :: ds, l => intIn d l (m - 1) && (match d with
    | .int z => lotGo m ds (z + 1)
    | _ => false)
def isLotD (m : Nat) : PyData → Bool
  | .tuple ds => lotGo m ds 0
  | _ => false
def natsOf (ds : List PyData) : List Nat := ds.map fun
  | .int z => z.toNat
  | _ => 0
def lotOf : PyData → List Nat
  | .tuple ds => natsOf ds
  | _ => []
theorem natsOf_nats (ks : List Nat) : natsOf (ks.map fun (k : Nat) => PyData.int k) = ks := by
  unfold natsOf
  rw [List.map_map]
  refine (List.map_congr_left fun k _ => ?_).trans (List.map_id ks)
  show ((k : Int)).toNat = k
  omega
theorem lotOf_lotD (ks : List Nat) : lotOf (lotD ks) = ks := natsOf_nats ks
theorem lotGo_lot {m : Nat} : ∀ {ds : List PyData} {l : Int}, 0 ≤ l → lotGo m ds l = true → ∃ ks : List Nat, ds = ks.map (fun (k : Nat) => PyData.int k) ∧ ks.Pairwise (· < ·) ∧ ∀ k ∈ ks, l ≤ (k : Int) ∧ k < m
  | [], l, _, _ => ⟨[], rfl, .nil, by simp⟩
  | d :: ds, l, hl, h => by
    unfold lotGo at h
    rw [Bool.and_eq_true] at h
    obtain ⟨h1, h2⟩ := h
    obtain ⟨z, rfl⟩ := int_of h1
    have h3 : l ≤ z ∧ z ≤ m - 1 := of_decide_eq_true h1
    obtain ⟨ks, rfl, hk1, hk2⟩ := lotGo_lot (l := z + 1) (by omega) h2
    refine ⟨z.toNat :: ks, ?_, List.pairwise_cons.mpr ⟨fun k hk => by have := hk2 k hk; omega, hk1⟩, fun k hk => ?_⟩
    · rw [List.map_cons, Int.toNat_of_nonneg (by omega)]
    · rcases List.mem_cons.mp hk with e | e
      · rw [e]
        omega
      · have := hk2 k e
        omega
theorem isLot_lot {m : Nat} {d : PyData} (h : isLotD m d = true) : d = lotD (lotOf d) ∧ LotA m (lotOf d) := by
  cases d with
  | tuple ds =>
    obtain ⟨ks, rfl, h1, h2⟩ := lotGo_lot (Int.le_refl 0) h
    have e : lotOf (.tuple (ks.map fun (k : Nat) => PyData.int k)) = ks := natsOf_nats ks
    rw [e]
    exact ⟨rfl, h1, fun k hk => (h2 k hk).2⟩
  | _ => cases h
theorem lot_lotGo {m : Nat} : ∀ {ks : List Nat} {l : Int}, ks.Pairwise (· < ·) → (∀ k ∈ ks, l ≤ (k : Int) ∧ k < m) → lotGo m (ks.map fun (k : Nat) => PyData.int k) l = true
  | [], _, _, _ => rfl
  | k :: ks, l, h1, h2 => by
    have h3 := h2 k (List.mem_cons_self ..)
    obtain ⟨h4, h5⟩ := List.pairwise_cons.mp h1
    show (intIn (.int (k : Nat)) l (m - 1) && lotGo m (ks.map fun (k : Nat) => PyData.int k) ((k : Int) + 1)) = true
    rw [Bool.and_eq_true]
    exact ⟨decide_eq_true ⟨h3.1, by omega⟩, lot_lotGo h5 fun x hx => by have := h4 x hx; have := h2 x (List.mem_cons_of_mem _ hx); omega⟩
theorem lot_isLot {m : Nat} {ks : List Nat} (h : LotA m ks) : isLotD m (lotD ks) = true := lot_lotGo h.1 fun k hk => ⟨Int.natCast_nonneg k, h.2 k hk⟩
theorem lotGo_app {m : Nat} : ∀ {ds : List PyData} {l : Int} {i : Nat} {l' : Int}, lotGo m ds l = lotGo m (ds.drop i) l' → ∀ {d : PyData}, ds[i]? = some d → lotGo m ds l = (intIn d l' (m - 1) && (match d with
    | .int z => lotGo m (ds.drop (i + 1)) (z + 1)
    | _ => false)) := fun {ds l i l'} h {d} hd => by
  rw [h]
  have e : ds.drop i = d :: ds.drop (i + 1) := by
    obtain ⟨hi, h1⟩ := List.getElem?_eq_some_iff.mp hd
    rw [← h1]
    exact List.drop_eq_getElem_cons hi
  rw [e]
  rfl
def isZ : PyData → Bool
  | .int z => decide (z = 0)
  | _ => false
def timesE (d : PyData) : PyData := if (intIn d (-(10 ^ 30)) (10 ^ 30) && !isZ d) = true then .none else .str "times"
/-- what is wrong with a thing as a deed -/
noncomputable def deedE (n : Nat) (ts : List Tie) : PyData → PyData
  | .tuple [.str w, t, k] =>
    if w = Str.ofString "star" then (if intIn t 0 (n - 1) = true then timesE k else .str "place")
    else if w = Str.ofString "round" then (if (isLotD ts.length t && isRB n ts (lotOf t)) = true then timesE k else .str "round")
    else .str "form"
  | _ => .str "form"
theorem deedE_row {n : Nat} {ts : List Tie} {d : PyData} (h : isRow d 3 = false) : deedE n ts d = .str "form" := by
  unfold deedE
  split
  · simp [isRow] at h
  · rfl
theorem deedE_word {n : Nat} {ts : List Tie} {w t k : PyData} (h : isStr w = false) : deedE n ts (.tuple [w, t, k]) = .str "form" := by
  cases w with
  | str x => cases h
  | _ => rfl
theorem deedE_star {n : Nat} {ts : List Tie} {t k : PyData} : deedE n ts (.tuple [.str "star", t, k]) = if intIn t 0 (n - 1) = true then timesE k else .str "place" := by
  unfold deedE
  dsimp only
  rw [if_pos rfl]
theorem deedE_round {n : Nat} {ts : List Tie} {t k : PyData} : deedE n ts (.tuple [.str "round", t, k]) = if (isLotD ts.length t && isRB n ts (lotOf t)) = true then timesE k else .str "round" := by
  unfold deedE
  dsimp only
  rw [if_neg (by decide), if_pos rfl]
theorem deedE_other {n : Nat} {ts : List Tie} {w : Str} {t k : PyData} (h1 : w ≠ Str.ofString "star") (h2 : w ≠ Str.ofString "round") : deedE n ts (.tuple [.str w, t, k]) = .str "form" := by
  unfold deedE
  dsimp only
  rw [if_neg h1, if_neg h2]
theorem eqv_str {d : PyData} {s : String} : PyData.eqv d (.str s) = (match d with
    | .str w => decide (w = Str.ofString s)
    | _ => false) := by
  cases d with
  | str w =>
    simp only [PyData.eqv]
    rw [Bool.eq_iff_iff]
    simp
  | _ => simp [PyData.eqv]
theorem sz_stE (m : Nat) (d : PyData) (h : m < 1000) : Sz (stE m d) 20 5 := by
  unfold stE
  split
  · rename_i ds
    split
    · rename_i hl
      split
      · rename_i k hk
        have hk2 : k < 100000 := by
          have : ∀ (ds : List PyData) (j k : Nat), badP numOk ds j = some k → k < j + ds.length := by
            intro ds
            induction ds with
            | nil => intro j k h; cases h
            | cons e es ih =>
              intro j k h
              unfold badP at h
              rw [List.length_cons]
              split at h
              · have := ih _ _ h
                omega
              · cases h
                omega
          have := this ds 0 k hk
          omega
        exact (sz_tup (sza_cons (c1 := 1) (c2 := 1) (k := 2) sz_str (sza_cons (c1 := 1) (c2 := 0) (sz_nat hk2) sza_nil))).mono (by decide) (by decide)
      · exact sz_non
    · exact sz_str
  · exact sz_str
theorem sz_deedE (n : Nat) (ts : List Tie) (d : PyData) : Sz (deedE n ts d) 20 5 := by
  have ht : ∀ k, Sz (timesE k) 20 5 := fun k => by
    unfold timesE
    split
    · exact sz_non
    · exact sz_str
  unfold deedE
  split
  · split
    · split
      · exact ht _
      · exact sz_str
    · split
      · split
        · exact ht _
        · exact sz_str
      · exact sz_str
  · exact sz_str
theorem still_stE (m : Nat) (d : PyData) : still (stE m d) = true := by
  unfold stE
  split
  · split
    · split <;> simp [still, stillAll]
    · simp [still]
  · simp [still]
theorem still_deedE (n : Nat) (ts : List Tie) (d : PyData) : still (deedE n ts d) = true := by
  have ht : ∀ k, still (timesE k) = true := fun k => by
    unfold timesE
    split <;> simp [still]
  unfold deedE
  split
  · split
    · split
      · exact ht _
      · simp [still]
    · split
      · split
        · exact ht _
        · simp [still]
      · simp [still]
  · simp [still]
end BV

namespace BV
open PySem L2 RZ
/-- [1 for .. if p], walked to the place i -/
def OnesP (p : Nat → Bool) (i : Nat) (acc : List V) : Prop := ∃ m : Nat, acc = (List.replicate m (1 : Int)).map V.int ∧ m ≤ i ∧ (m = 0 ↔ ∀ j, j < i → p j = false)
theorem OnesP.zero {p : Nat → Bool} : OnesP p 0 [] := ⟨0, rfl, Nat.le_refl _, by simp⟩
theorem OnesP.len {p : Nat → Bool} {i : Nat} {acc : List V} (h : OnesP p i acc) : acc.length ≤ i := by
  obtain ⟨m, rfl, h1, _⟩ := h
  rw [List.length_map, List.length_replicate]
  exact h1
theorem OnesP.yes {p : Nat → Bool} {i : Nat} {acc : List V} (h : OnesP p i acc) (hp : p i = true) : OnesP p (i + 1) (acc ++ [.int 1]) := by
  obtain ⟨m, rfl, h1, _⟩ := h
  refine ⟨m + 1, ?_, by omega, ?_⟩
  · rw [List.replicate_succ', List.map_append]
    rfl
  · constructor
    · intro e
      omega
    · intro e
      rw [e i (by omega)] at hp
      cases hp
theorem OnesP.no {p : Nat → Bool} {i : Nat} {acc : List V} (h : OnesP p i acc) (hp : p i = false) : OnesP p (i + 1) acc := by
  obtain ⟨m, rfl, h1, h2⟩ := h
  refine ⟨m, rfl, by omega, ?_⟩
  rw [h2]
  constructor
  · intro e j hj
    by_cases q : j = i
    · rw [q]
      exact hp
    · exact e j (by omega)
  · intro e j hj
    exact e j (by omega)
/-- the list as data, and whether it is empty -/
theorem OnesP.data {K : PySem.W.Frag} {H : Hp} {p : Nat → Bool} {i : Nat} {acc : List V} {a : Addr} (h : OnesP p i acc) (ha : H a = some (.lst acc)) :
    ∃ d : PyData, Dp K H (.ref a) d ∧ SeqAt.shaped d = true ∧ (PyData.eqv d (.list []) = true ↔ ∀ j, j < i → p j = false) := by
  obtain ⟨m, rfl, h1, h2⟩ := h
  refine ⟨_, .lst (SqL.of ha) (dpAll_ints _), shaped_intsL _, ?_⟩
  rw [ones_eqv, decide_eq_true_eq]
  exact h2
theorem walk_zipS {K : PySem.W.Frag} {a b : Addr} {xs ys : List V} (hl : ys.length ≤ xs.length) :
    Walk (ItzT K a b) ys.length (fun H => SqT K H a xs ∧ SqT K H b ys) (YPair (fun i => xs[i]?) (fun i => ys[i]?)) := by
  refine ⟨fun i H hi q => ?_, fun H q => ⟨xs, ys, q.1, q.2, .inr (Nat.le_refl _)⟩, fun i H v H' _ q y => ?_⟩
  · have h2 : i < xs.length := by omega
    exact ⟨xs, ys, xs[i], ys[i], q.1, q.2, by simp [h2], by simp [hi]⟩
  · obtain ⟨T, x, z, h1, h2, h3, h4, h5⟩ := y
    exact ⟨T, x, z, h1, h2, h3, h4 xs q.1, h5 ys q.2⟩
theorem lotGo_adj {m : Nat} : ∀ (zs : List Int) (l : Int), lotGo m (zs.map PyData.int) l = true ↔ (∀ z ∈ zs, z < m) ∧ (∀ a, zs[0]? = some a → l ≤ a) ∧ ∀ (j : Nat) (a b : Int), zs[j]? = some a → zs[j + 1]? = some b → a < b
  | [], l => by simp [lotGo]
  | z :: zs, l => by
    have ih := lotGo_adj (m := m) zs (z + 1)
    have e : lotGo m ((z :: zs).map PyData.int) l = (decide (l ≤ z ∧ z ≤ m - 1) && lotGo m (zs.map PyData.int) (z + 1)) := rfl
    rw [e, Bool.and_eq_true, decide_eq_true_eq, ih]
    constructor
    · rintro ⟨⟨h1, h2⟩, h3, h4, h5⟩
      refine ⟨fun x hx => ?_, fun a ha => ?_, fun j a b ha hb => ?_⟩
      · rcases List.mem_cons.mp hx with q | q
        · rw [q]
          omega
        · exact h3 x q
      · have : z = a := by simpa using ha
        omega
      · cases j with
        | zero =>
          have : z = a := by simpa using ha
          have := h4 b (by simpa using hb)
          omega
        | succ j => exact h5 j a b (by simpa using ha) (by simpa using hb)
    · rintro ⟨h1, h2, h3⟩
      have hz := h1 z (List.mem_cons_self ..)
      refine ⟨⟨h2 z rfl, by omega⟩, fun x hx => h1 x (List.mem_cons_of_mem _ hx), fun a ha => ?_, fun j a b ha hb => h3 (j + 1) a b (by simpa using ha) (by simpa using hb)⟩
      have := h3 0 z a rfl (by simpa using ha)
      omega
theorem ints_of : ∀ {ds : List PyData} {lo hi : Int}, (∀ (j : Nat) (d : PyData), ds[j]? = some d → intIn d lo hi = true) → ∃ zs : List Int, ds = zs.map PyData.int ∧ ∀ z ∈ zs, lo ≤ z ∧ z ≤ hi
  | [], _, _, _ => ⟨[], rfl, by simp⟩
  | d :: ds, lo, hi, h => by
    obtain ⟨zs, rfl, hz⟩ := ints_of (ds := ds) (lo := lo) (hi := hi) fun j e he => h (j + 1) e (by simpa using he)
    have h0 := h 0 d rfl
    obtain ⟨z, rfl⟩ := int_of h0
    refine ⟨z :: zs, rfl, fun x hx => ?_⟩
    rcases List.mem_cons.mp hx with e | e
    · rw [e]
      exact of_decide_eq_true h0
    · exact hz x e
theorem dx_ints {K : PySem.W.Frag} {H : Hp} {N : Addr → Prop} : ∀ {zs : List Int} {xs : List V}, DxAll K H N xs (zs.map PyData.int) → xs = zs.map V.int
  | [], _, h => by
    cases h
    rfl
  | z :: zs, _, h => by
    cases h with
    | cons h1 h2 =>
      cases h1
      rw [List.map_cons, dx_ints h2]
theorem dx_three {K : PySem.W.Frag} {H : Hp} {N : Addr → Prop} {xs : List V} {a b c : PyData} (h : DxAll K H N xs [a, b, c]) : ∃ x y z, xs = [x, y, z] ∧ Dx K H N x a ∧ Dx K H N y b ∧ Dx K H N z c := by
  cases h with
  | cons h1 h2 =>
    cases h2 with
    | cons h3 h4 =>
      cases h4 with
      | cons h5 h6 =>
        cases h6
        exact ⟨_, _, _, rfl, h1, h3, h5⟩
theorem lot_ints_iff {m : Nat} {zs : List Int} : isLotD m (.tuple (zs.map PyData.int)) = true ↔ (∀ z ∈ zs, 0 ≤ z ∧ z < m) ∧ ∀ (j : Nat) (a b : Int), zs[j]? = some a → zs[j + 1]? = some b → a < b := by
  constructor
  · intro h
    obtain ⟨h1, _, h3⟩ := (lotGo_adj zs 0).mp h
    obtain ⟨ks, hk, _, _⟩ := lotGo_lot (Int.le_refl 0) h
    refine ⟨fun z hz => ⟨?_, h1 z hz⟩, h3⟩
    have : PyData.int z ∈ zs.map PyData.int := List.mem_map_of_mem hz
    rw [hk] at this
    obtain ⟨k, _, e⟩ := List.mem_map.mp this
    have := PyData.int.inj e
    omega
  · rintro ⟨h1, h2⟩
    exact (lotGo_adj zs 0).mpr ⟨fun z hz => (h1 z hz).2, fun a ha => (h1 a (List.mem_of_getElem? ha)).1, h2⟩
end BV

/-! sorted(t), t a tuple of whole numbers -/
namespace PyProof.Rows
open PySem
section
variable {prog : Program} {w : World} {A : Around} {E : Value → Shared → Prop} {s : Shared}
theorem collect_tupleB {l : Addr} {vs : List Value} {Q : List Value → Shared → Prop} (hl : s.heap.IsTuple l vs.toArray)
    (h : Q vs { s with heap := (s.heap.push (seqObj "list" #[] 0)).update s.heap.objs.size (Obj.mapSeq (· ++ vs.toArray)) }) (hsz : vs.length ≤ sizeLine) :
    wpAny (model prog w) A (collect (.ref l)) Q E s := by
  obtain ⟨o, ho, hc, n, hd⟩ := id hl
  unfold collect
  refine wpAny_bind (wpAny_runValue (codeAny_builtin entry_proto_collect' ?_))
  show wpAny _ _ (do again (.builtin "list.__iadd__" ⟨[← newList [], .ref l], []⟩)) _ _ s
  refine wpAny_bind (wpAny_newList (wpAny_pure ⟨Code.quiet_builtin _ (by decide +kernel), codeAny_builtin entry_list_iadd' ?_⟩))
  show wpAny _ _ (Builtin.List.listExtendWith (.ref s.heap.objs.size) (.ref l) (.ref s.heap.objs.size)) _ _ { s with heap := s.heap.push (seqObj "list" #[] 0) }
  unfold Builtin.List.listExtendWith
  have ho' : (s.heap.push (seqObj "list" #[] 0)).get? l = some o := Heap.get?_push_of_some _ ho
  refine wpAny_bind (wpAny_typeOf (T := "tuple") ⟨o, ho', hc⟩ ?_)
  have ht : (Value.type "tuple" == Value.type "tuple") = true := by rfl
  rw [if_pos (by rw [ht]; simp)]
  refine wpAny_bind (listItems_at ho' hd ?_)
  refine wpAny_bind (listItems_at (xs := #[]) (n := 0) (Heap.get?_push_size _ rfl) rfl ?_)
  rw [if_neg (by simp)]
  refine wpAny_bind (listUpdate_at (xs := #[]) (n := 0) (Heap.get?_push_size _ rfl) rfl ?_ (Nat.zero_le _) (by show (#[] ++ vs.toArray).size ≤ sizeLine + 1; simp only [Array.size_append, List.size_toArray, List.length_nil]; omega))
  refine wpAny_pure ?_
  show wpAny (model prog w) A (do
      let o ← load s.heap.objs.size
      match o.data with
      | .seq xs _ => pure xs.toList
      | _ => unsupported "internal:collect") Q E { s with heap := (s.heap.push (seqObj "list" #[] 0)).update s.heap.objs.size (Obj.mapSeq (· ++ vs.toArray)) }
  refine wpAny_bind (wpAny_load (get?_update_seq (Heap.get?_push_size _ rfl) _) ?_)
  show wpAny _ _ (pure ((#[] : Array Value) ++ vs.toArray).toList) Q E _
  rw [show ((#[] : Array Value) ++ vs.toArray).toList = vs by simp]
  exact wpAny_pure h
theorem sorted_tupB {l : Addr} {vs : List Value} {ns : List Int} {Q : Value → Shared → Prop} (hl : s.heap.IsTuple l vs.toArray) (hI : IntsAre vs ns) (h64 : vs.length < 64)
    (h : ∀ (out : Array Value) (ns' : List Int), IntsAre out.toList ns' → ns'.Perm ns → ns'.Pairwise (· ≤ ·) → Q (.ref (s.heap.objs.size + 1)) { s with heap := sortedAll s.heap vs out }) :
    wpAny (model prog w) A (call (.builtin "sorted") [.ref l]) Q E s := by
  refine Calls.call_function_entry kind_sorted plain_sorted entry_sorted (args_sorted1 _) ?_
  unfold Builtin.«sorted»
  refine wpAny_bind (m := checkCount "sorted" 1 1 _) (wpAny_pure ?_)
  refine wpAny_bind (collect_tupleB hl ?_ (by rw [sizeLine_eq]; omega))
  refine wpAny_bind (wpAny_newList ?_)
  have hsz : ((s.heap.push (seqObj "list" #[] 0)).update s.heap.objs.size (Obj.mapSeq (· ++ vs.toArray))).objs.size = s.heap.objs.size + 1 := by
    rw [Heap.size_update, size_push']
  have hoL : (((s.heap.push (seqObj "list" #[] 0)).update s.heap.objs.size (Obj.mapSeq (· ++ vs.toArray))).push (seqObj "list" vs.toArray 0)).get? (s.heap.objs.size + 1) = some (seqObj "list" vs.toArray 0) := by
    rw [← hsz]; exact Heap.get?_push_size _ rfl
  show wpAny _ _ _ _ _ { s with heap := ((s.heap.push (seqObj "list" #[] 0)).update s.heap.objs.size (Obj.mapSeq (· ++ vs.toArray))).push (seqObj "list" vs.toArray 0) }
  rw [hsz]
  refine wpAny_bind (wpAny_holding (wpAny_call_entry slot_list_sort ⟨_, hoL, rfl⟩ entry_list_sort (list_sort_tree hoL hI h64 fun out ns' a1 a2 a3 => ⟨_, rfl, ?_⟩) (args_list_sort _)))
  exact wpAny_pure ⟨_, rfl, h out ns' a1 a2 a3⟩
end
end PyProof.Rows
namespace BV
open PySem L2
def rSortT (K : PySem.W.Frag) : List V → Hp → VK → Prop := fun vs H Q => ∃ (a : Addr) (ns : List Int), vs = [V.ref a] ∧ SqT K H a (ns.map V.int) ∧ ns.length < 64 ∧
  ∀ (ns' : List Int) (p : Addr), ns'.Perm ns → ns'.Pairwise (· ≤ ·) → H p = none → Q (.ref p) (upd H p (.lst (ns'.map V.int)))
theorem cr_sortTup {X : Cx} (K : PySem.W.Frag) (h : X.K = K := by rfl) : CallR X (.builtin "sorted") (rSortT K) := by
  subst h
  intro pins s σ H vs us Q I r h
  obtain ⟨a, ns, rfl, hs, h64, q⟩ := h
  obtain ⟨its, rv, hl, _⟩ := I.tuple hs
  rw [Vals.ref1 r]
  have hi := rv.ints
  refine PyProof.Rows.sorted_tupB hl hi (by rw [hi.length]; exact h64) fun out ns' h1 h2 h3 => ?_
  obtain ⟨ep, he'⟩ := PyProof.Rows.sortedAll_at s.heap its out
  have hlen : (ns'.map V.int).length ≤ sizeLine := by rw [List.length_map, h2.length_eq]; exact small64 h64
  exact ⟨.ref _, upd H (s.heap.objs.size + 1) (.lst (ns'.map V.int)), I.laid (t' := s.toks) (fun _ _ => PyProof.Rows.sortedAll_old) (Nat.le_succ _) ⟨hlen, out.toList, ep, vals_of_ints h1, he'⟩, rfl, q ns' _ h2 h3 (I.hok.fresh (Nat.le_succ _))⟩
end BV

namespace BV
open PySem PyProof.Rows L2
open AutoSeq1 (wpAny_loadPart')
theorem ints_get {items : Array Value} {ns : List Int} (hi : IntsAre items.toList ns) : items.size = ns.length ∧ ∀ (i : Nat) (v : Value), items[i]? = some v → ∃ k t, ns[i]? = some k ∧ v = .int k t := by
  obtain ⟨xs, e⟩ := hi.allInts.items
  have e' : items = intItems xs := by simpa using e
  have hn : numsOf (intItems xs).toList = ns := by
    have := hi.numsOf
    rw [e'] at this
    exact this
  rw [nums_intItems] at hn
  subst e'
  refine ⟨by rw [← hn]; simp [intItems], fun i v hv => ?_⟩
  obtain ⟨t, rfl⟩ := intItems_at hv
  refine ⟨_, t, ?_, rfl⟩
  have hi2 : i < xs.size := by
    obtain ⟨h, _⟩ := Array.getElem?_eq_some_iff.mp hv
    simpa [intItems] using h
  rw [← hn, List.getElem?_map]
  unfold numAt
  rw [Array.getElem?_eq_getElem hi2]
  simp [hi2]
theorem sub_setset : isSubtype (.type "set") (.type "set") = pure true := by first | rfl | decide +kernel
theorem meets_setNew (prog : Program) (w : World) (x : Value) : MeetsIn prog w (Builtin.«set.__new__» ⟨[.type "set", x], []⟩)
    (fun _ R s => R (.ok (.ret (.ref s.heap.objs.size))) { s with heap := s.heap.push { cls := .type "set", data := .set #[] 0 (SetTable.fresh 0 0 !w.params.followText "set-order") } }) := by
  refine .of_wp fun A R s h => ?_
  have hsub := sub_setset
  wp_walk using wpAny_askSetting
  exact ⟨_, rfl, h⟩
theorem init_set {prog : Program} {w : World} {A : Around} {s : Shared} {S l : Addr} {items : Array Value} {led : Bool} (ns : List Int) {R : Fin → Shared → Prop} {E : Value → Shared → Prop}
    (hA : A.handled = none) (hl : s.heap.IsList l items) (hi : IntsAre items.toList ns) (hn : ns.length + 1 < scanBound) (hS : SetR w s.heap S (fun _ => false) 0)
    (h1 : s.heap.get? S = some { cls := .type "set", data := .set #[] 0 (SetTable.fresh 0 0 led) })
    (k : ∀ (s' : Shared) (c : Nat), Moved [S, s.heap.objs.size] (fun a b => b = a) { s with heap := s.heap.push { cls := .type "list_iterator", data := .fields #[.ref l, .int 0 0] } } s' → c ≤ ns.length →
      SetR w s'.heap S (fun j => decide (j ∈ ns)) c → R (.done (.ret .none)) s') :
    wpAny (model prog w) A (Builtin.«set.__init__» ⟨[.ref S, .ref l], []⟩) R E s := by
  obtain ⟨⟨c2, dct2, dt2, sl2⟩, hl1, hl2, n2, hl3⟩ := id hl
  obtain rfl : c2 = .type "list" := hl2
  obtain rfl : dt2 = .seq items n2 := hl3
  obtain ⟨hp, g, d, tk, os⟩ := s
  have hf : (SetTable.fresh 0 0 led).fill = 0 := by rfl
  have h8 : (SetTable.fresh 0 0 led).fits (#[] : Array (Int × Value)).size = true := by cases led <;> decide +kernel
  have hs1 : isSubtype (.type "list") (.type "set") = pure false := by first | rfl | decide +kernel
  have hs2 : isSubtype (.type "list") (.type "frozenset") = pure false := by first | rfl | decide +kernel
  wp_walk using wpAny_setState_of h1 rfl h8, wpAny_loadPart' h1, wpAny_loadPart' hl1, wpAny_pyIter_list hl
  try dsimp only
  wp_walk using wpAny_loadPart' hl1, wpAny_pyIter_list hl, wpAny_runValue
  try dsimp only
  wp_walk using wpAny_loadPart' hl1, wpAny_pyIter_list hl, wpAny_runValue
  obtain ⟨hsz, hget⟩ := ints_get hi
  have hlt : l < hp.objs.size := Heap.lt_size hl1
  have hSt : S < hp.objs.size := Heap.lt_size h1
  have hne : S ≠ l := by
    rintro rfl
    have e := congrArg (Option.map Obj.cls) (h1.symm.trans hl1)
    have e2 : Value.type "set" = Value.type "list" := Option.some.inj e
    exact absurd (Value.type.inj e2) (by decide)
  refine set_update_ints ((Walks.list (A := A.in1) hA hp.objs.size l (Nat.ne_of_lt hlt) items).toS) S ?_ ns hsz hn hget items.size 0 _ (by omega) (Nat.zero_le _) ⟨?_, ?_⟩ ⟨0, Nat.le_refl _, ?_⟩ (fun s' c mv hc hR => ?_)
  · simp only [List.mem_cons, List.not_mem_nil, or_false, not_or]
    exact ⟨Nat.ne_of_lt hSt, hne⟩
  · exact ⟨_, Heap.get?_push_size _ rfl, rfl, rfl⟩
  · exact hl.push _
  · refine (hS.at fun o ho => Heap.get?_push_of_some _ ho).congr fun k => ?_
    simp
  · dsimp only
    wp_walk
    exact k s' c mv (by omega) hR
end BV

namespace BV
open PySem PyProof.Rows L2
section
variable {prog : Program} {w : World} {A : Around} {E : Value → Shared → Prop} {s : Shared}
theorem set_of_list {l : Addr} {items : Array Value} (ns : List Int) {Q : Value → Shared → Prop} (hA : A.handled = none) (hl : s.heap.IsList l items) (hi : IntsAre items.toList ns) (hn : ns.length + 1 < scanBound)
    (k : ∀ (h2 : Heap) (tk c : Nat), SetR w h2 s.heap.objs.size (fun j => decide (j ∈ ns)) c → (∀ b o, s.heap.get? b = some o → h2.get? b = some o) → Q (.ref s.heap.objs.size) { s with heap := h2, toks := tk }) :
    wpAny (model prog w) A (call (.type "set") [.ref l]) Q E s := by
  have m1 := F.called_set.made
  have m2 := F.called_set.sub
  have m3 := F.called_set.notType
  have m4 := F.called_set.canCreate
  have m5 := F.typeCall_set_1 (.ref l)
  have ⟨c0, tl, m6⟩ := F.called_set.mro
  refine wpAny_call (codeAny_of_tree (show wpAny _ _ (callAny (.type "set") _) _ _ _ from ?_))
  refine wpAny_pure (And.intro (Code.quiet_builtin _ (by decide +kernel)) (codeAny_builtin F.entry_type_call ?_))
  rw [Around.under_plain (weight_type_call_type "set" [Value.ref l] []) rfl]
  repeat (any_goals (first | assumption | wp_step))
  -- the new table
  let s1 : Shared := { s with heap := s.heap.push { cls := .type "set", dict := none, data := .set #[] 0 (.fresh 0 0 (!w.params.followText "set-order")) } }
  refine codeAny_mono (L2.code_set_led1 (.ref l) (E := E) (Q₁ := fun x t => x = .ref s.heap.objs.size ∧ t = s1) (And.intro rfl rfl)) fun r t hr => ?_
  match r, hr with
  | .error _, hr => exact hr
  | .ok .next, hr => exact hr.elim
  | .ok .brk, hr => exact hr.elim
  | .ok .cont, hr => exact hr.elim
  | .ok (.ret x), hr =>
    obtain ⟨rfl, rfl⟩ := hr
    have g1 : s1.heap.get? s.heap.objs.size = some { cls := .type "set", dict := none, data := .set #[] 0 (.fresh 0 0 (!w.params.followText "set-order")) } := Heap.get?_push_size _ rfl
    have ty : s1.TypeIs (.ref s.heap.objs.size) "set" := ⟨_, g1, rfl⟩
    have i1 := F.called_set.init.lookup
    have i2 := F.called_set.init.bind (Value.ref s.heap.objs.size)
    repeat (any_goals (first | assumption | wp_step))
    -- what is put in
    refine codeAny_mono (codeAny_call_builtin (R := wants (fun r t => r = .none ∧ ∃ h2 tk c, t = { s with heap := h2, toks := tk } ∧ SetR w h2 s.heap.objs.size (fun j => decide (j ∈ ns)) c ∧
      (∀ b o, s.heap.get? b = some o → h2.get? b = some o)) E) F.called_set.init.plain F.entry_set_init (check_set_init_1 ty ?_)) fun r2 t2 hr2 => ?_
    · refine init_set ns (by simp [hA]) (hl.push _) hi hn ((setR_new_at (ns := ([] : List Int)) g1).congr fun j => by simp) g1 fun t3 c mv hc hS => ?_
      obtain ⟨h3, g3, d3, tk3, os3⟩ := t3
      have e1 : g3 = s.gens := mv.gens
      have e2 : d3 = s.drawn := mv.drawn
      have e3 : os3 = s.os := mv.os
      subst e1 e2 e3
      refine ⟨rfl, h3, tk3, c, rfl, hS, fun b o hb => ?_⟩
      have lt : b < s.heap.objs.size := Heap.lt_size hb
      refine mv.heap b o (fun hm => ?_) (Heap.get?_push_of_some _ (Heap.get?_push_of_some _ hb))
      have z : s1.heap.objs.size = s.heap.objs.size + 1 := Heap.size_push ..
      simp only [List.mem_cons, List.not_mem_nil, or_false] at hm
      rcases hm with q | q
      · exact absurd q (Nat.ne_of_lt lt)
      · exact absurd (q.trans z) (Nat.ne_of_lt (Nat.lt_succ_of_lt lt))
    · match r2, hr2 with
      | .error _, hr2 => exact hr2
      | .ok .next, hr2 => exact hr2.elim
      | .ok .brk, hr2 => exact hr2.elim
      | .ok .cont, hr2 => exact hr2.elim
      | .ok (.ret y), hr2 =>
        obtain ⟨rfl, h2, tk, c, rfl, hS, hk⟩ := hr2
        repeat (any_goals (first | assumption | wp_step))
        exact k _ _ _ hS hk
end
theorem nodup_small : ∀ (L : Nat) (l : List Nat), l.Nodup → (∀ x ∈ l, x < L) → l.length ≤ L
  | 0, l, _, h => by
    cases l with
    | nil => exact Nat.le_refl _
    | cons a r => exact absurd (h a (List.mem_cons_self ..)) (Nat.not_lt_zero _)
  | L + 1, l, hn, h => by
    have h1 := nodup_small L (l.erase L) (hn.erase L) (fun x hx => by
      have h2 := h x (List.mem_of_mem_erase hx)
      have h3 : x ≠ L := fun e => by
        subst e
        exact (List.Nodup.not_mem_erase hn) hx
      omega)
    by_cases e : L ∈ l
    · rw [List.length_erase_of_mem e] at h1
      omega
    · rw [List.erase_of_not_mem e] at h1
      omega
/-- set(l) of whole numbers from 0 to 59 -/
theorem setR_few {w : World} {h : Heap} {a : Addr} {S : Int → Bool} {n : Nat} (R : SetR w h a S n) (hS : ∀ j, S j = true → 0 ≤ j ∧ j < 60) : n < 64 := by
  obtain ⟨o, es, ep, t, ho, hex, hdt, g, nd, hm, hb, hf, hn, hr, hl⟩ := R
  have hk : ∀ x ∈ es.toList.map keyOf, 0 ≤ x ∧ x < 60 := fun x hx => hS x ((hm x).mpr hx)
  have nd2 : ((es.toList.map keyOf).map Int.toNat).Nodup := List.pairwise_map.mpr (nd.imp_of_mem fun {x y} hx hy z e => z (by have a := hk x hx; have b := hk y hy; omega))
  have lt := nodup_small 60 _ nd2 fun x hx => by
    obtain ⟨y, hy, rfl⟩ := List.mem_map.mp hx
    have := hk y hy
    omega
  rw [List.length_map, List.length_map, Array.length_toList] at lt
  omega
def rSetL (w : World) (K : PySem.W.Frag) : List V → Hp → VK → Prop := fun xs H Q => ∃ (l : Addr) (ns : List Int), xs = [V.ref l] ∧ SqL K H l (ns.map V.int) ∧ ns.length ≤ 3000 ∧ (∀ j ∈ ns, 0 ≤ j ∧ j < 60) ∧
  ∀ p n, H p = none → n < 64 → Q (.ref p) (upd H p (SetO w p (fun j => decide (j ∈ ns)) n))
theorem sortedSetK {X : Cx} (w : World) (hc : X.calm = true) (hw : X.w = w := by rfl) : CallR X (.builtin "sorted") (rSortedSet w) := by
  subst hw
  exact cr_sortedSet hc
theorem setLK {X : Cx} (K : PySem.W.Frag) (w : World) (hc : X.calm = true) (h : X.K = K := by rfl) (hw : X.w = w := by rfl) : CallR X (.type "set") (rSetL w K) := by
  subst h hw
  intro pins s σ H xs us Q I r h
  obtain ⟨l, ns, rfl, hl, hn, hj, q⟩ := h
  rw [Vals.ref1 r]
  obtain ⟨its, rv, pl, hz⟩ := I.list hl
  refine set_of_list ns (I.ok.hd hc) pl.isList (by simpa using ints_of_vals rv) (by unfold scanBound; omega) fun h2 tk c hS hk => ?_
  have hf : H s.heap.objs.size = none := I.hok.fresh (Nat.le_refl _)
  exact ⟨.ref _, upd H s.heap.objs.size (SetO X.w s.heap.objs.size (fun j => decide (j ∈ ns)) c), I.turnedNew (t' := tk) (ch := []) (fun b o _ e => hk b o e) (fun _ z => nomatch z) (Nat.le_refl _) (setO_new hS), rfl,
    q _ _ hf (setR_few hS fun j z => hj j (by simpa using z))⟩
end BV

namespace BV
open PySem L2 RZ
def top (i : Nat) : Stmt := PySem.Challenge.pw_botheven_k19_whole_great_webs_of_thick_p.main.body.getD i (.Pass ⟨0, 0, 0, 0⟩)
theorem flat_ints : ∀ ms : List Int, (ms.map V.int).all flatV = true
  | [] => rfl
  | m :: ms => by
    rw [List.map_cons, List.all_cons, flat_ints ms]
    rfl
theorem flat_nats (ms : List Nat) : (ms.map fun (k : Nat) => V.int k).all flatV = true := by
  have e3 : (ms.map fun (k : Nat) => V.int k) = (ms.map fun (k : Nat) => (k : Int)).map V.int := by rw [List.map_map]; rfl
  rw [e3]
  exact flat_ints _
theorem inv_nats (k : Nat) : ∀ ks : List Nat, inV (.int (k : Int)) (ks.map fun (k : Nat) => V.int k) = decide (k ∈ ks)
  | [] => by simp [inV]
  | x :: ks => by
    have ih := inv_nats k ks
    have e : (((x : Nat) : Int) == (k : Int)) = decide (k = x) := by
      by_cases h : k = x
      · subst h
        simp
      · rw [decide_eq_false h]
        exact beq_eq_false_iff_ne.mpr fun z => h (by omega)
    show ((((x : Nat) : Int) == (k : Int)) || inV (.int (k : Int)) (ks.map fun (k : Nat) => V.int k)) = _
    rw [e, ih, ← Bool.decide_or]
    congr 1
    simp
theorem lot_dp {K : PySem.W.Frag} {H : Hp} {a : Addr} {ks : List Nat} (h : SqT K H a (ks.map fun (k : Nat) => V.int k)) : Dp K H (.ref a) (lotD ks) := by
  refine .tup h ?_
  have e2 : (ks.map fun (k : Nat) => PyData.int k) = (ks.map fun (k : Nat) => (k : Int)).map PyData.int := by rw [List.map_map]; rfl
  have e3 : (ks.map fun (k : Nat) => V.int k) = (ks.map fun (k : Nat) => (k : Int)).map V.int := by rw [List.map_map]; rfl
  rw [e2, e3]
  exact dpAll_ints _
def natsV (ks : List Nat) : List V := ks.map fun (k : Nat) => V.int k
theorem dp_lotN {K : PySem.W.Frag} {H : Hp} {v : V} {ks : List Nat} (h : Dp K H v (lotD ks)) : ∃ a, v = .ref a ∧ SqT K H a (natsV ks) := dp_lotI h
def muW (n : Nat) (d q : Addr) (H : Hp) : Nat := (match H d with | some (.dK kvs) => 2 * (n - kvs.length) | _ => 0) + (match H q with | some (.lst xs) => xs.length | _ => 0)
theorem muW_at {n : Nat} {d q : Addr} {H : Hp} {kvs : List (Key × V)} {xs : List V} (h1 : H d = some (.dK kvs)) (h2 : H q = some (.lst xs)) : muW n d q H = 2 * (n - kvs.length) + xs.length := by
  unfold muW
  rw [h1, h2]
theorem kv_len {kvs : List (Key × V)} {fnd : List Nat} (h : kvs.map (·.1) = fnd.map (fun (p : Nat) => (Sum.inl (p : Int) : Key))) : kvs.length = fnd.length := by
  have := congrArg List.length h
  rwa [List.length_map, List.length_map] at this
theorem val_none {kvs : List (Key × V)} {fnd : List Nat} {p : Nat} (h : kvs.map (·.1) = fnd.map (fun (p : Nat) => (Sum.inl (p : Int) : Key))) : (valV kvs (Sum.inl (p : Int))).isSome = decide (p ∈ fnd) := by
  rw [← valV_any, Bool.eq_iff_iff, decide_eq_true_eq, List.any_eq_true]
  constructor
  · rintro ⟨kv, hm, he⟩
    have hm2 : kv.1 ∈ kvs.map (·.1) := List.mem_map.mpr ⟨kv, hm, rfl⟩
    rw [h] at hm2
    obtain ⟨x, hx, e⟩ := List.mem_map.mp hm2
    have e2 := of_decide_eq_true he
    rw [← e] at e2
    have : x = p := by
      have := Sum.inl.inj e2
      omega
    exact this ▸ hx
  · intro hp
    have hm2 : (Sum.inl (p : Int) : Key) ∈ kvs.map (·.1) := by
      rw [h]
      exact List.mem_map.mpr ⟨p, hp, rfl⟩
    obtain ⟨kv, hm, e⟩ := List.mem_map.mp hm2
    exact ⟨kv, hm, decide_eq_true e⟩
theorem kf_upd {H : Hp} {l : Addr} {o x : HO} (h : H l = some o) (ho : (∀ xs, o ≠ .tup xs) ∧ ∀ od u, o ≠ .frz od u) : KF H (upd H l x) := fun z o2 hz q => by
  have nz : z ≠ l := by
    rintro rfl
    rw [h] at hz
    cases hz
    obtain ⟨xs, e | ⟨od, e⟩⟩ := q
    · exact ho.1 _ e
    · exact ho.2 _ _ e
  rw [upd_ne nz]
  exact hz
theorem eqv_lots (ks ms : List Nat) : PyData.eqv (lotD ks) (lotD ms) = decide (ks = ms) := by
  have e : ∀ l : List Nat, (l.map fun (k : Nat) => PyData.int k) = (l.map fun (k : Nat) => (k : Int)).map PyData.int := fun l => by rw [List.map_map]; rfl
  unfold lotD
  rw [e, e, PyData.eqv, PySem.W.ked_eqvAll]
  refine decide_eq_decide.mpr ⟨fun h => ?_, fun h => by rw [h]⟩
  have := congrArg (List.map Int.toNat) h
  rw [List.map_map, List.map_map] at this
  have e2 : ∀ l : List Nat, l.map (Int.toNat ∘ fun (k : Nat) => (k : Int)) = l := fun l => (List.map_congr_left fun x _ => (by show ((x : Int)).toNat = x; omega)).trans (List.map_id l)
  rwa [e2, e2] at this
theorem shaped_lotN (ks : List Nat) : SeqAt.shaped (lotD ks) = true := by
  have h := shaped_intsL (ks.map fun (k : Nat) => (k : Int))
  rw [List.map_map] at h
  exact h
theorem natsV_len (ks : List Nat) : (natsV ks).length = ks.length := by
  unfold natsV
  rw [List.length_map]
theorem natsV_ints (ks : List Nat) : natsV ks = (ks.map fun (k : Nat) => (k : Int)).map V.int := by
  unfold natsV
  rw [List.map_map]
  rfl
theorem natsV_snoc (ks : List Nat) (k : Nat) : natsV ks ++ [V.int k] = natsV (ks ++ [k]) := by
  unfold natsV
  rw [List.map_append]
  rfl
theorem lotA_len {L : Nat} {ks : List Nat} (h : LotA L ks) : ks.length ≤ L := nodup_small L _ h.nd h.2
theorem nats_erase : ∀ (l : List Nat) (j : Nat), (natsV l).eraseIdx j = natsV (l.eraseIdx j)
  | [], j => by cases j <;> rfl
  | a :: r, 0 => rfl
  | a :: r, j + 1 => by
    show V.int a :: (natsV r).eraseIdx j = V.int a :: natsV (r.eraseIdx j)
    rw [nats_erase r j]
theorem lotA_up {L : Nat} {ks : List Nat} (h : LotA L ks) : LotA (L + 1) ks := ⟨h.1, fun k hk => Nat.lt_succ_of_lt (h.2 k hk)⟩
theorem lotA_snoc {L : Nat} {ks : List Nat} (h : LotA L ks) : LotA (L + 1) (ks ++ [L]) := by
  refine ⟨List.pairwise_append.mpr ⟨h.1, List.pairwise_singleton _ _, fun a ha b hb => ?_⟩, fun k hk => ?_⟩
  · rw [List.mem_singleton.mp hb]
    exact h.2 a ha
  · rcases List.mem_append.mp hk with z | z
    · exact Nat.lt_succ_of_lt (h.2 k z)
    · rw [List.mem_singleton.mp z]
      exact Nat.lt_succ_self L
theorem same_old {H H' : Hp} {l : Addr} {o : HO} (h : H l = none) (s : Same H H') : Same H (upd H' l o) := fun a x e => by
  rw [upd_ne (ne_of_none e h)]
  exact s _ _ e
end BV

namespace BV
open PySem L2 RZ
abbrev sCup : Stmt := top 32
abbrev nCup : List Str := ["_law_script", "_law_cells", "_law_stirred", "_law_cell"]
abbrev pCup : List Str := ["_law_script"]
theorem scCup : FnScope nCup pCup (defScope sCup) := ⟨rfl, rfl, rfl, by decide +kernel, rfl, by decide +kernel, by decide +kernel⟩
abbrev sDraw : Stmt := top 33
abbrev nDraw : List Str := ["_law_cup_here", "_law_many", "_law_found", "_law_cell"]
abbrev pDraw : List Str := ["_law_cup_here", "_law_many"]
theorem scDraw : FnScope nDraw pDraw (defScope sDraw) := ⟨rfl, rfl, rfl, by decide +kernel, rfl, by decide +kernel, by decide +kernel⟩
abbrev sPick : Stmt := top 34
abbrev nPick : List Str := ["_law_cup_here", "_law_items"]
abbrev pPick : List Str := ["_law_cup_here", "_law_items"]
theorem scPick : FnScope nPick pPick (defScope sPick) := ⟨rfl, rfl, rfl, by decide +kernel, rfl, by decide +kernel, by decide +kernel⟩
local macro_rules | `(tactic| walk_at "rd") => `(tactic| (repeat (first | refine ⟨_, rfl, ?_⟩ | refine ⟨_, _, rfl, rfl, ?_⟩ | refine Or.inl ⟨_, rfl, ?_⟩ | refine Or.inr ⟨_, rfl, ?_⟩ | refine ⟨_, _, rfl, ?_⟩)))
section
variable {P : Program} {w : World} {K : PySem.W.Frag} {mg : Str → Option Value} {base : Heap}
theorem ok_cup {f : Addr} {fd : FuncData} (D : Df K mg "_law_cup" sCup pCup f fd) (T : Bl mg) : FnOk P w K mg base CX0 1 f fd pCup (spCup K) := by
  refine D.fn.ok scCup (fun vs H Q E h => ?_) (fun cdv A outer s H vs Q E hr h => ?_)
  · obtain ⟨a, ns, rfl, _⟩ := h
    rfl
  · obtain ⟨a, ns, rfl, hS, hlen, k⟩ := h
    have hu := hu_of hr
    have nd := scCup.nd
    refine ⟨_, (pss_cons (ps_par (i := 1) (j := 2) (by rfl) nd rfl rfl (by decide) rfl rfl (pa_cons (pe_lc (own := [("_law_cell", 3)]) (g := (gName 3)) (tt := tYes) rfl nd (piL K (pe_slice (slL K) (pv 0) po_none (po_some pe_int))) (blkOk_by (own := [("_law_cell", 3)]) (N := nCup) (sc := defScope sCup) (by decide +kernel)) (fun _ _ _ _ _ => (pg_name (i := 3) nd rfl (by first | exact Or.inl rfl | exact Or.inr rfl))) (fun _ _ _ _ _ => pts_nil) (fun _ _ _ _ _ => (pe_op op_add (pe_op op_mul pe_int (pe_callB call_abs (by rfl) T.abs (by decide +kernel) (pa_cons (pv 3) pa_nil))) (pe_callTy call_int1 (by rfl) T.int (by decide +kernel) (pa_cons (pe_cmpR op_lt (pv 3) pe_int (nomark _)) pa_nil))))) (pa_cons (pe_op op_add pe_int (pe_callB (lenK K) (by rfl) T.len PySem.boot_len (pa_cons (pv 0) pa_nil))) pa_nil)) (by rfl))
      (pss_cons (ps_for PassesOwn.never rfl (piL K (pv 1)) (pg_name (i := 3) nd rfl (by first | exact Or.inl rfl | exact Or.inr rfl)) (pss_one (ps_set (i := 2) nd rfl (by first | exact Or.inl rfl | exact Or.inr rfl) (pe_op op_mod (pe_callTy call_int1 (by rfl) T.int (by decide +kernel) (pa_cons (pe_op op_add (pe_op op_mul (pv 2) pe_int) (pv 3)) pa_nil)) pe_int))))
      (pss_one (ps_ret (pe_lst (pa_cons (pe_lc (own := [("_law_cell", 3)]) (g := (gName 3)) rfl nd (piL K (pv 1)) (blkOk_by (own := [("_law_cell", 3)]) (N := nCup) (sc := defScope sCup) (by decide +kernel)) (fun _ _ _ _ _ => (pg_name (i := 3) nd rfl (by first | exact Or.inl rfl | exact Or.inr rfl))) (fun _ _ _ _ _ => (pts_one (pt_cmpR op_ge (pv 3) (pe_op op_pow pe_int pe_int) (nomark _)))) (fun _ _ _ _ _ => (pv 3))) (pa_cons (pv 2) (pa_cons pe_int pa_nil)))))))), ?_⟩
    refine ⟨_, rfl, 63, rfl, a, _, rfl, hS, fun p hp => ?_⟩
    refine ⟨p, rfl, ⟨_, SqL.of upd_same⟩, fun D hD => ?_⟩
    have s1 : Same H (upd H p (.lst (cutV (ns.map V.int) none (some 63)))) := same_new hp
    refine lc_run (walk_list (xs := cutV (ns.map V.int) none (some 63))) hD (fun i acc _ => acc.length = i ∧ ∃ ms : List Int, acc = ms.map V.int) ?_ ?_ ?_ ?_
    · exact fun H' s => SqL.of (s _ _ upd_same)
    · exact ⟨rfl, [], rfl⟩
    · rintro i x acc H2 H' hi ha e s ⟨hl, ms, rfl⟩ ⟨rfl, hx⟩
      obtain ⟨z, rfl⟩ : ∃ z : Int, x = .int z := by
        have h1 : x ∈ cutV (ns.map V.int) none (some 63) := List.mem_of_getElem? hx
        have h2 : x ∈ ns.map V.int := List.mem_of_mem_drop (List.mem_of_mem_take h1)
        obtain ⟨z, _, e⟩ := List.mem_map.mp h2
        exact ⟨z, e.symm⟩
      refine ⟨rfl, yes_go ?_⟩
      walk_at "rd"
      refine ⟨.inl ⟨by decide, by decide⟩, ?_⟩
      walk_at "rd"
      have hms : ms.length = i := by rw [← hl, List.length_map]
      have hb : cutV (ns.map V.int) none (some 63) = ns.map V.int := by
        rw [show cutV (ns.map V.int) none (some 63) = ((ns.map V.int).drop 0).take (min 63 (ns.map V.int).length - 0) from rfl, List.drop_zero, List.take_of_length_le]
        rw [List.length_map]
        omega
      have hi2 : i < 63 := by
        rw [hb, List.length_map] at hi
        omega
      refine lc_add ha e (Same.refl _) (by rw [hl]; omega) ⟨by rw [List.length_append, hl]; rfl, ms ++ [_], by rw [List.map_append]; rfl⟩
    · rintro acc H2 hD2 s2 ⟨hl, ms, rfl⟩
      have hS2 : SqL K H2 a (ns.map V.int) := Same.seq (Same.trans s1 s2) hS
      have hml : ms.length ≤ 63 := by
        have h0 := cutV_length (ns.map V.int) none (some 63)
        rw [List.length_map] at h0 hl
        omega
      walk_at "rd"
      refine ⟨_, _, rfl, .inl hS2, ?_⟩
      walk_at "rd"
      refine ⟨⟨_, SqL.of hD2⟩, for_it (walk_list (xs := ms.map V.int)) (fun i σ H' => ∃ (st : Int) (v : Option V),
        σ = [some (.ref a), some (.ref D), some (.int st), v] ∧ H' = H2 ∧ 0 ≤ st ∧ st < 2 ^ 33) ?_ ?_ ?_ ?_⟩
      · refine ⟨61001 + ((ns.map V.int).length : Int), none, rfl, rfl, by omega, ?_⟩
        rw [List.length_map]
        omega
      · rintro i σ H' _ ⟨st, v, rfl, rfl, _⟩
        exact SqL.of hD2
      · rintro i x σ H' H'' hi ⟨st, v, rfl, rfl, h0, h1⟩ ⟨rfl, hx⟩
        obtain ⟨z, hz, rfl⟩ := ints_at hx
        walk_at "rd"
        refine ⟨.inl ⟨by omega, by omega⟩, ?_⟩
        walk_at "rd"
        refine ⟨by show (0 : Int) < 4294967291; decide, ?_⟩
        refine ⟨_, some _, rfl, rfl, Int.emod_nonneg _ (by decide), Int.lt_of_lt_of_le (Int.emod_lt_of_pos _ (by decide)) (by decide)⟩
      · rintro σ H' ⟨st, v, rfl, rfl, h0, h1⟩
        refine ⟨_, rfl, D, rfl, ⟨_, SqL.of hD2⟩, fun g hg => ?_⟩
        refine lc_run (walk_list (xs := ms.map V.int)) hg (fun i acc _ => acc.length ≤ i ∧ ∃ ms : List Int, acc = ms.map V.int) ?_ ?_ ?_ ?_
        · exact fun H3 s => SqL.of (s _ _ hD2)
        · exact ⟨Nat.le_refl _, [], rfl⟩
        · rintro i x acc H3 H4 hi ha e s3 ⟨hl, ms2, rfl⟩ ⟨rfl, hx⟩
          obtain ⟨z, hz, rfl⟩ := ints_at hx
          rw [List.length_map] at hi
          refine ⟨rfl, ?_⟩
          walk_at "rd"
          refine ⟨⟨by decide, by decide, by decide⟩, ?_⟩
          walk_at "rd"
          refine ite2 (fun _ => ?_) (fun _ => ?_)
          · walk_at "rd"
            refine lc_add ha e (Same.refl _) (by omega) ⟨?_, ms2 ++ [z], by rw [List.map_append]; rfl⟩
            rw [List.length_append]
            exact Nat.succ_le_succ hl
          · exact lc_skip ha e (Same.refl _) ⟨Nat.le_succ_of_le hl, ms2, rfl⟩
        · rintro acc H3 hg3 s3 ⟨hl, ms2, rfl⟩
          rw [List.length_map, List.length_map] at hl
          have s5 : Same H H3 := (s1.trans s2).trans s3
          refine ⟨_, rfl, by show 3 ≤ sizeLine; decide, fun b hb => ?_⟩
          have sb := same_new (o := .lst [.ref g, .int st, .int 0]) hb
          exact k b g _ (Same.free s5 hb) (Same.free (s1.trans s2) hg) (s5.trans sb) ⟨⟨st, 0, upd_same⟩, ms2, sb _ _ hg3, by omega⟩
theorem ok_draw {f : Addr} {fd : FuncData} (D : Df K mg "_law_draw" sDraw pDraw f fd) (T : Bl mg) : FnOk P w K mg base CX0 1 f fd pDraw spDrawC := by
  refine D.fn.ok scDraw (fun vs H Q E h => ?_) (fun cdv A outer s H vs Q E hr h => ?_)
  · obtain ⟨b, g, m, rfl, _⟩ := h
    rfl
  · obtain ⟨b, g, m, rfl, hm0, hm1, hB, k⟩ := h
    have nd := scDraw.nd
    have hbg := hB.ne
    obtain ⟨⟨st, c, hb⟩, ns, hg, hns⟩ := hB
    refine ⟨_, (pss_cons (ps_if (pt_cmpR (opNeD K hr.units) (pe_ix (ixL K) (pv 0) pe_int (fun _ _ => rfl)) (pe_lst pa_nil) (nomark _)) (pss_cons (ps_set (i := 3) nd rfl (by first | exact Or.inl rfl | exact Or.inr rfl) (pe_ix (ixL K) (pe_ix (ixL K) (pv 0) pe_int (fun _ _ => rfl)) pe_int (fun _ _ => rfl)))
      (pss_cons (ps_asg (pe_op op_fdivW (pv 3) (pv 1)) (pg_sub (pe_ix (ixL K) (pv 0) pe_int (fun _ _ => rfl)) pe_int set_list))
      (pss_cons (ps_if (pt_cmpR op_lt (pv 3) (pv 1) (nomark _)) (pss_one (ps_expr (pe_bm PySem.F.plainAttrs_list PySem.F.slot_list_pop PySem.F.type_list_pop mt_popAt (pe_ix (ixL K) (pv 0) pe_int (fun _ _ => rfl)) (pa_cons pe_int pa_nil)))) pss_nil)
      (pss_one (ps_ret (pe_op op_mod (pe_callTy call_int1 (by rfl) T.int (by decide +kernel) (pa_cons (pv 3) pa_nil)) (pv 1))))))) pss_nil)
      (pss_cons (ps_asg (pe_op op_add (pe_ix (ixL K) (pv 0) pe_int (fun _ _ => rfl)) pe_int) (pg_sub (pv 0) pe_int set_list))
      (pss_cons (ps_set (i := 2) nd rfl (by first | exact Or.inl rfl | exact Or.inr rfl) (pe_op op_mod (pe_callTy call_int1 (by rfl) T.int (by decide +kernel) (pa_cons (pe_op op_add (pe_ix (ixL K) (pv 0) pe_int (fun _ _ => rfl)) (pe_op op_mul pe_int (pe_ix (ixL K) (pv 0) pe_int (fun _ _ => rfl)))) pa_nil)) pe_int))
      (pss_cons (ps_set (i := 2) nd rfl (by first | exact Or.inl rfl | exact Or.inr rfl) (pe_op op_mod (pe_callTy call_int1 (by rfl) T.int (by decide +kernel) (pa_cons (pe_op op_add (pe_op op_add (pe_op op_mul (pv 2) (pv 2)) (pe_op op_mul pe_int (pe_ix (ixL K) (pv 0) pe_int (fun _ _ => rfl)))) pe_int) pa_nil)) pe_int))
      (pss_cons (ps_set (i := 2) nd rfl (by first | exact Or.inl rfl | exact Or.inr rfl) (pe_op op_mod (pe_callTy call_int1 (by rfl) T.int (by decide +kernel) (pa_cons (pe_op op_add (pe_op op_mul (pv 2) (pv 2)) (pe_ix (ixL K) (pv 0) pe_int (fun _ _ => rfl))) pa_nil)) pe_int))
      (pss_one (ps_ret (pe_op op_mod (pe_callTy call_int1 (by rfl) T.int (by decide +kernel) (pa_cons (pe_op op_fdivW (pv 2) pe_int) pa_nil)) (pv 1))))))))), ?_⟩
    refine tSeq_go ?_
    refine ⟨_, rfl, b, _, _, _, rfl, rfl, SqL.of hb, atI_nat (j := 0) rfl, Nat.zero_le _, fun p hp => ?_⟩
    have s1 : Same H (upd H p (.lst [])) := same_new hp
    have hb1 := s1 _ _ hb
    have hg1 := s1 _ _ hg
    have nbp : b ≠ p := ne_of_none hb hp
    have ngp : g ≠ p := ne_of_none hg hp
    refine ⟨.list (ns.map .int), .list [], .lst (SqL.of hg1) (dpAll_ints ns), .lst (SqL.of upd_same) .nil, shaped_intsL ns, shaped_intsL [], _, rfl, ?_⟩
    have kk : Kp b g H (upd H p (.lst [])) := Kp.same s1
    generalize upd H p (.lst []) = H1 at *
    cases ns with
    | nil =>
      refine ite2 (fun z => absurd z (by decide)) (fun _ => ?_)
      dsimp only [tNext]
      refine tSeq_go ?_
      refine ⟨_, rfl, b, _, _, _, rfl, rfl, SqL.of hb1, atI_nat (j := 2) rfl, _, _, rfl, rfl, _, rfl, b, _, _, 2, rfl, rfl, hb1, ix_nat (j := 2) (by show 2 < 3; decide), ?_⟩
      have hb2 : upd H1 b (.lst ([V.ref g, .int st, .int c].set 2 (.int (c + 1)))) b = some (.lst [V.ref g, .int st, .int (c + 1)]) := upd_same
      have hg2 : upd H1 b (.lst ([V.ref g, .int st, .int c].set 2 (.int (c + 1)))) g = some (.lst []) := by
        rw [upd_ne hbg.symm]
        exact hg1
      have k2 : Kp b g H (upd H1 b (.lst ([V.ref g, .int st, .int c].set 2 (.int (c + 1))))) := Kp.trans kk Kp.setb
      generalize upd H1 b (.lst ([V.ref g, .int st, .int c].set 2 (.int (c + 1)))) = H2 at *
      have gs : ∀ x : Int, 0 ≤ x % 4294967291 ∧ x % 4294967291 < 4294967291 := fun x => ⟨Int.emod_nonneg _ (by decide), Int.emod_lt_of_pos _ (by decide)⟩
      have gt : ∀ x : Int, 0 ≤ x % 4294967279 ∧ x % 4294967279 < 4294967279 := fun x => ⟨Int.emod_nonneg _ (by decide), Int.emod_lt_of_pos _ (by decide)⟩
      refine tSeq_go ?_
      refine ⟨_, rfl, b, _, _, _, rfl, rfl, SqL.of hb2, atI_nat (j := 1) rfl, ?_⟩
      refine ⟨_, rfl, b, _, _, _, rfl, rfl, SqL.of hb2, atI_nat (j := 2) rfl, ?_⟩
      refine ⟨_, _, rfl, rfl, .inl ⟨by decide, by decide⟩, ?_⟩
      walk_at "rd"
      refine ⟨by show (0 : Int) < 4294967291; decide, ?_⟩
      have g1 := gs (st + 2654435761 * (c + 1))
      dsimp only [gName]
      generalize (st + 2654435761 * (c + 1)) % 4294967291 = x1 at g1
      refine at_st [some (.ref b), some (.int m), some (.int x1), none] rfl ?_
      refine tSeq_go ?_
      refine ⟨_, rfl, _, rfl, _, _, rfl, rfl, .inl ⟨by omega, by omega⟩, ?_⟩
      refine ⟨_, rfl, b, _, _, _, rfl, rfl, SqL.of hb2, atI_nat (j := 2) rfl, _, _, rfl, rfl, .inl ⟨by decide, by decide⟩, ?_⟩
      walk_at "rd"
      refine ⟨by show (0 : Int) < 4294967279; decide, ?_⟩
      have g2 := gt (x1 * x1 + 40503 * (c + 1) + 13)
      dsimp only [gName]
      generalize (x1 * x1 + 40503 * (c + 1) + 13) % 4294967279 = x2 at g2
      refine at_st [some (.ref b), some (.int m), some (.int x2), none] rfl ?_
      refine tSeq_go ?_
      refine ⟨_, rfl, _, rfl, _, _, rfl, rfl, .inl ⟨by omega, by omega⟩, ?_⟩
      refine ⟨_, rfl, b, _, _, _, rfl, rfl, SqL.of hb2, atI_nat (j := 1) rfl, ?_⟩
      walk_at "rd"
      refine ⟨by show (0 : Int) < 4294967231; decide, ?_⟩
      dsimp only [gName]
      refine at_st [some (.ref b), some (.int m), some (.int ((x2 * x2 + st) % 4294967231)), none] rfl ?_
      walk_at "rd"
      refine ⟨⟨by decide, by decide⟩, ?_⟩
      walk_at "rd"
      refine ⟨hm0, ?_⟩
      exact k _ _ (Int.emod_nonneg _ (by omega)) (Int.emod_lt_of_pos _ hm0) k2 ⟨⟨st, c + 1, hb2⟩, [], hg2, by decide⟩
    | cons z rest =>
      refine ite2 (fun _ => ?_) (fun q => absurd (by rfl) q)
      refine tSeq_go ?_
      refine ⟨_, rfl, b, _, _, _, rfl, rfl, SqL.of hb1, atI_nat (j := 0) rfl, g, _, _, _, rfl, rfl, SqL.of hg1, atI_nat (j := 0) rfl, ?_⟩
      dsimp only [gName]
      refine at_st [some (.ref b), some (.int m), none, some (.int z)] rfl ?_
      refine tSeq_go ?_
      refine ⟨_, rfl, _, rfl, _, _, rfl, rfl, ⟨hm0, ?_⟩, ?_⟩
      · have h30 : m.natAbs < 2 ^ 30 := by omega
        exact Nat.lt_of_lt_of_le (PySem.Flt.log2_lt_of (by decide) h30) (by decide)
      refine ⟨_, rfl, b, _, _, _, rfl, rfl, SqL.of hb1, atI_nat (j := 0) rfl, g, _, _, 0, rfl, rfl, hg1, ix_nat (j := 0) (Nat.zero_lt_succ _), ?_⟩
      have hg2 : upd H1 g (.lst (((z :: rest).map V.int).set 0 (.int (z / m)))) g = some (.lst (((z / m) :: rest).map V.int)) := upd_same
      have hb2 : upd H1 g (.lst (((z :: rest).map V.int).set 0 (.int (z / m)))) b = some (.lst [V.ref g, .int st, .int c]) := by
        rw [upd_ne hbg]
        exact hb1
      have k2 : Kp b g H (upd H1 g (.lst (((z :: rest).map V.int).set 0 (.int (z / m))))) := Kp.trans kk Kp.setg
      generalize upd H1 g (.lst (((z :: rest).map V.int).set 0 (.int (z / m)))) = H2 at *
      dsimp only
      refine tSeq_go ?_
      refine tIfS_by (fun σ' H' => σ' = [some (.ref b), some (.int m), none, some (.int z)] ∧ Kp b g H H' ∧ Cup H' b g) ?_ (fun cont => ?_)
      · rintro σ' H' ⟨rfl, k3, B3⟩
        refine ⟨_, rfl, ?_⟩
        walk_at "rd"
        refine ⟨hm0, ?_⟩
        exact k _ _ (Int.emod_nonneg _ (by omega)) (Int.emod_lt_of_pos _ hm0) k3 B3
      · refine ⟨_, rfl, _, rfl, _, _, rfl, rfl, _, rfl, ite2 (fun hh => ?_) (fun hh => ?_)⟩
        · refine ⟨_, rfl, b, _, _, _, rfl, rfl, SqL.of hb2, atI_nat (j := 0) rfl, ?_⟩
          refine ⟨.inl ⟨rfl, _, SqL.of hg2⟩, g, _, 0, 0, .int (z / m), rfl, rfl, hg2, by decide, by decide, by simp [seqIndex?], rfl, ?_⟩
          refine cont _ _ ⟨rfl, Kp.trans k2 Kp.setg, ⟨st, c, ?_⟩, rest, upd_same, Nat.le_of_succ_le hns⟩
          rw [upd_ne hbg]
          exact hb2
        · exact cont _ _ ⟨rfl, k2, ⟨st, c, hb2⟩, _, hg2, hns⟩
theorem ok_pick {f f1 : Addr} {fd fd1 : FuncData} (D : Df K mg "_law_pick" sPick pPick f fd) (T : Bl mg) (D_draw : Df K mg "_law_draw" sDraw pDraw f1 fd1) : FnOk P w K mg base CX0 2 f fd pPick (spPickC K) := by
  have G_draw : FnOk P w K mg base CX0 1 f1 fd1 pDraw spDrawC := ok_draw D_draw T
  refine D.fn.ok scPick (fun vs H Q E h => ?_) (fun cdv A outer s H vs Q E hr h => ?_)
  · obtain ⟨b, g, l, xs, rfl, _⟩ := h
    rfl
  · obtain ⟨b, g, l, xs, rfl, hl, n1, n2, hl0, hl1, hB, k⟩ := h
    have nd := scPick.nd
    have hr_draw : Room 1 _ := hr
    refine ⟨_, (pss_one (ps_ret (pe_ix (ixL K) (pv 1) (pe_call G_draw hr_draw (by rfl) D_draw.ad D_draw.fn.kp D_draw.bd .nil pass0 (pa_cons (pv 0) (pa_cons (pe_callB (lenK K) (by rfl) T.len PySem.boot_len (pa_cons (pv 1) pa_nil)) pa_nil))) (fun _ _ => rfl)))), ?_⟩
    refine ⟨_, rfl, _, rfl, _, rfl, l, xs, rfl, .inl hl, b, g, _, rfl, by omega, by omega, hB, fun r H1 r0 r1 kp1 B1 => ?_⟩
    obtain ⟨j, rfl⟩ : ∃ j : Nat, r = (j : Int) := ⟨r.toNat, by omega⟩
    have hj := List.getElem?_eq_getElem (l := xs) (i := j) (by omega)
    refine ⟨l, _, _, _, rfl, rfl, kp1.seq n1 n2 hl, atI_nat hj, ?_⟩
    exact k j _ _ hj kp1 B1
end
end BV

namespace BV
open PySem L2
/-! ### a search told step by step: what it finds is one thing alone -/
def turnS (ts : List Tie) (al : Nat → Int → Bool) (p k : Nat) (s : SL × List Nat) : SL × List Nat := match ts[k]? with
  | some t => if (p = t.1 ∨ p = t.2) ∧ al k (sgn t p) = true ∧ farT t p ∉ keysS s.1 then (s.1 ++ [(farT t p, some (k, p))], s.2 ++ [farT t p]) else s
  | none => s
def turnsS (ts : List Tie) (al : Nat → Int → Bool) (p : Nat) : Nat → SL × List Nat → SL × List Nat
  | 0, s => s
  | m + 1, s => turnS ts al p m (turnsS ts al p m s)
inductive RunS (ts : List Tie) (al : Nat → Int → Bool) : SL → List Nat → SL → Prop
  | done (F : SL) : RunS ts al F [] F
  | step {F E : SL} {p : Nat} {rest : List Nat} : RunS ts al (turnsS ts al p ts.length (F, rest)).1 (turnsS ts al p ts.length (F, rest)).2 E → RunS ts al F (p :: rest) E
theorem RunS.uniq {ts : List Tie} {al : Nat → Int → Bool} {F E E' : SL} {que : List Nat} (h : RunS ts al F que E) (h' : RunS ts al F que E') : E = E' := by
  induction h with
  | done F =>
    cases h'
    rfl
  | step h ih =>
    cases h' with
    | step h' => exact ih h'
/-- the way back from a place -/
inductive BackS (F : SL) : Nat → List (Nat × Nat) → Prop
  | nil {i g : Nat} : F[i]? = some (g, none) → BackS F g []
  | cons {i g k q : Nat} {st : List (Nat × Nat)} : F[i]? = some (g, some (k, q)) → BackS F q st → BackS F g (st ++ [(k, q)])
theorem BackS.uniq {F : SL} (hn : (keysS F).Nodup) {g : Nat} {st st' : List (Nat × Nat)} (h : BackS F g st) (h' : BackS F g st') : st = st' := by
  induction h generalizing st' with
  | nil h1 =>
    cases h' with
    | nil => rfl
    | cons h2 _ =>
      have := key_uniq hn h1 h2
      subst this
      rw [h1] at h2
      cases h2
  | cons h1 h2 ih =>
    cases h' with
    | nil h3 =>
      have := key_uniq hn h1 h3
      subst this
      rw [h1] at h3
      cases h3
    | cons h3 h4 =>
      have := key_uniq hn h1 h3
      subst this
      rw [h1] at h3
      cases h3
      rw [ih h4]
end BV

namespace BV
open PySem L2
/-! the truth of any value, the written part named -/
def tTruK (K : PySem.W.Frag) (ta : TE) : TT := fun σ H Q => ta σ H fun x H' => ∃ k, TruV K x H' k ∧ Q k H'
theorem ptK {X : Cx} (K : PySem.W.Frag) {a : Expr} {ta : TE} (ha : PE X a ta) (he : ∀ whole, isTrue a X.env whole = (do let v ← whole; standAt a.pos; holding [v] (truthy v)) := by intro _; rfl) (h : X.K = K := by rfl) :
    PT X a (tTruK K ta) := by
  subst h
  exact pt_truth ha he
end BV
namespace BV
open PySem L2
theorem sumLK {X : Cx} (K : PySem.W.Frag) (hc : X.calm = true := by rfl) (h : X.K = K := by rfl) : CallR X (.builtin "sum") (rSum K) := by
  subst h
  exact cr_sum hc
end BV

namespace BV
open PySem L2 RZ
abbrev sFar : Stmt := top 6
abbrev nFar : List Str := ["web", "tie", "place", "one", "other"]
abbrev pFar : List Str := ["web", "tie", "place"]
theorem scFar : FnScope nFar pFar (defScope sFar) := ⟨rfl, rfl, rfl, by decide +kernel, rfl, by decide +kernel, by decide +kernel⟩
abbrev sSign : Stmt := top 15
abbrev nSign : List Str := ["web", "tie", "place"]
abbrev pSign : List Str := ["web", "tie", "place"]
theorem scSign : FnScope nSign pSign (defScope sSign) := ⟨rfl, rfl, rfl, by decide +kernel, rfl, by decide +kernel, by decide +kernel⟩
abbrev sStepsf : Stmt := top 16
abbrev nStepsf : List Str := ["web", "start", "allowed", "found", "queue", "place", "tie", "ends", "goal"]
abbrev pStepsf : List Str := ["web", "start", "allowed"]
theorem scStepsf : FnScope nStepsf pStepsf (defScope sStepsf) := ⟨rfl, rfl, rfl, by decide +kernel, rfl, by decide +kernel, by decide +kernel⟩
def spFar (K : PySem.W.Frag) : Sp := fun vs H Q _ => ∃ (v : V) (n : Nat) (ts : List Tie) (k p : Nat) (t : Tie), vs = [v, .int k, .int p] ∧ Dp K H v (webD n ts) ∧ ts[k]? = some t ∧ Q (.int (farT t p : Nat)) H
def spSign (K : PySem.W.Frag) : Sp := fun vs H Q _ => ∃ (v : V) (n : Nat) (ts : List Tie) (k p : Nat) (t : Tie), vs = [v, .int k, .int p] ∧ Dp K H v (webD n ts) ∧ ts[k]? = some t ∧ Q (.int (sgn t p)) H
def StepV (K : PySem.W.Frag) (H : Hp) : Option (Nat × Nat) → V → Prop
  | none, v => v = .non
  | some (k, q), v => ∃ a, v = .ref a ∧ SqT K H a [.int (k : Nat), .int (q : Nat)]
theorem StepV.kf {K : PySem.W.Frag} {H H' : Hp} {o : Option (Nat × Nat)} {v : V} (h : StepV K H o v) (s : KF H H') : StepV K H' o v := by
  cases o with
  | none => exact h
  | some kq =>
    obtain ⟨k, q⟩ := kq
    obtain ⟨a, e, h⟩ := h
    exact ⟨a, e, sqT_kf s h⟩
def FoundS (K : PySem.W.Frag) (H : Hp) (d : Addr) (F : SL) : Prop := ∃ kvs : List (Key × V), H d = some (.dK kvs) ∧ kvs.map (·.1) = (keysS F).map (fun (p : Nat) => (Sum.inl (p : Int) : Key)) ∧
  ∀ x ∈ F, ∃ v, valV kvs (Sum.inl (x.1 : Int)) = some v ∧ StepV K H x.2 v
theorem FoundS.kf {K : PySem.W.Frag} {H H' : Hp} {d : Addr} {F : SL} (h : FoundS K H d F) (s : KF H H') (hd : H' d = H d) : FoundS K H' d F := by
  obtain ⟨kvs, h1, h2, h3⟩ := h
  exact ⟨kvs, by rw [hd, h1], h2, fun p hp => by
    obtain ⟨a, e1, e2⟩ := h3 p hp
    exact ⟨a, e1, e2.kf s⟩⟩
theorem FoundS.same {K : PySem.W.Frag} {H H' : Hp} {d : Addr} {F : SL} (h : FoundS K H d F) (s : Same H H') : FoundS K H' d F := by
  have ⟨kvs, h1, _⟩ := h
  exact h.kf (KF.of_same s) (by rw [s _ _ h1, h1])
/-- which signs are let for each tie -/
def AlOk (K : PySem.W.Frag) (H : Hp) (v : V) (L : Nat) (al : Nat → Int → Bool) : Prop := ∃ (a : Addr) (xs : List V), v = .ref a ∧ SqL K H a xs ∧ xs.length = L ∧
  ∀ (k : Nat) (x : V), xs[k]? = some x → ∃ (b : Addr) (ss : List Int), x = .ref b ∧ (SqL K H b (ss.map V.int) ∨ SqT K H b (ss.map V.int)) ∧ ∀ s : Int, decide (s ∈ ss) = al k s
theorem AlOk.same {K : PySem.W.Frag} {H H' : Hp} {v : V} {L : Nat} {al : Nat → Int → Bool} (h : AlOk K H v L al) (s : Same H H') : AlOk K H' v L al := by
  obtain ⟨a, xs, e, h1, h2, h3⟩ := h
  exact ⟨a, xs, e, sqL_same s h1, h2, fun k x hx => by
    obtain ⟨b, ss, e1, e2, e3⟩ := h3 k x hx
    exact ⟨b, ss, e1, e2.elim (fun z => .inl (sqL_same s z)) (fun z => .inr (sqT_same s z)), e3⟩⟩
theorem inv_ints (z : Int) : ∀ zs : List Int, inV (.int z) (zs.map V.int) = decide (z ∈ zs)
  | [] => by simp [inV]
  | x :: zs => by
    have ih := inv_ints z zs
    have e : ((x == z) : Bool) = decide (z = x) := by
      by_cases h : z = x
      · subst h
        simp
      · rw [decide_eq_false h]
        exact beq_eq_false_iff_ne.mpr fun q => h q.symm
    show ((x == z) || inV (.int z) (zs.map V.int)) = _
    rw [e, ih, ← Bool.decide_or]
    congr 1
    simp
def spStepsf (K : PySem.W.Frag) : Sp := fun vs H Q _ => ∃ (v alv : V) (n : Nat) (ts : List Tie) (start : Nat) (al : Nat → Int → Bool), vs = [v, .int start, alv] ∧ Dp K H v (webD n ts) ∧ AlOk K H alv ts.length al ∧
  (∀ t ∈ ts, t.1 < t.2 ∧ t.2 < n) ∧ start < n ∧ n ≤ 1000 ∧ ts.length ≤ 3000 ∧
  ∀ (d : Addr) (F : SL) H', H d = none → Same H H' → FoundS K H' d F → SrOk ts n start al F → (∀ p ∈ keysS F, ShutS ts al F p ts.length) → RunS ts al [(start, none)] [start] F → Q (.ref d) H'
/-- the search, between two places that are taken out -/
structure Sst (K : PySem.W.Frag) (ts : List Tie) (n start : Nat) (al : Nat → Int → Bool) (H : Hp) (d q : Addr) (F : SL) (que : List Nat) : Prop where
  fd : FoundS K H d F
  qu : H q = some (.lst (natsV que))
  sr : SrOk ts n start al F
  qs : ∀ p ∈ que, p ∈ keysS F
  ql : que.length ≤ F.length
  sh : ∀ p ∈ keysS F, p ∉ que → ShutS ts al F p ts.length
theorem ShutS.mono {ts : List Tie} {al : Nat → Int → Bool} {F G : SL} {p m : Nat} (h : ShutS ts al F p m) (hs : ∀ x ∈ keysS F, x ∈ keysS G) : ShutS ts al G p m := fun k t a b c d => hs _ (h k t a b c d)
theorem SrOk.len {ts : List Tie} {n start : Nat} {al : Nat → Int → Bool} {F : SL} (h : SrOk ts n start al F) : F.length ≤ n := by
  have := nodup_small n (keysS F) h.nd h.lt
  unfold keysS at this
  rwa [List.length_map] at this
theorem far_lt {n : Nat} {ts : List Tie} (hends : ∀ t ∈ ts, t.1 < t.2 ∧ t.2 < n) {k : Nat} {t : Tie} (h : ts[k]? = some t) (p : Nat) : farT t p < n := by
  have := hends t (List.mem_of_getElem? h)
  unfold farT
  split <;> omega
section
variable {P : Program} {w : World} {K : PySem.W.Frag} {mg : Str → Option Value} {base : Heap}
theorem ok_far {f : Addr} {fd : FuncData} (D : Df K mg "far_end" sFar pFar f fd) (T : Bl mg) : FnOk P w K mg base CX0 1 f fd pFar (spFar K) := by
  refine D.fn.ok scFar (fun vs H Q E h => ?_) (fun cdv A outer s H vs Q E hr h => ?_)
  · obtain ⟨v, n, ts, kk, p, t, rfl, _⟩ := h
    rfl
  · obtain ⟨v, n, ts, kk, p, t, rfl, hw, ht, k⟩ := h
    have nd := scFar.nd
    obtain ⟨a, c, ys, rfl, ha, hc, hys⟩ := dp_web hw
    obtain ⟨y, hy, hyd⟩ := dpAll_at hys (show (ts.map tieD)[kk]? = some (tieD t) by rw [List.getElem?_map, ht]; rfl)
    obtain ⟨az, rfl, haz⟩ := dp_tie hyd
    refine ⟨_, (pss_cons (ps_asg (pe_ix (ixT K) (pe_ix (ixT K) (pv 0) pe_int (fun _ _ => rfl)) (pv 1) (fun _ _ => rfl)) (pgT K rfl (pgs_cons (pg_name (i := 3) nd rfl (by first | exact Or.inl rfl | exact Or.inr rfl)) (pgs_cons (pg_name (i := 4) nd rfl (by first | exact Or.inl rfl | exact Or.inr rfl)) pgs_nil))))
      (pss_one (ps_ret (pe_ifExp (pt_cmpR op_eq (pv 2) (pv 3) (nomark _)) (pv 4) (pv 3))))), ?_⟩
    refine ⟨_, rfl, a, _, _, _, rfl, rfl, ha, atI_nat (j := 1) rfl, _, rfl, c, _, _, _, rfl, rfl, hc, atI_nat hy, az, _, rfl, haz, rfl, _, _, rfl, _, _, rfl, rfl, ?_⟩
    refine ⟨_, rfl, _, rfl, rfl, _, rfl, ?_⟩
    unfold farT at k
    refine ite2 (fun hh => ?_) (fun hh => ?_)
    · have e : p = t.1 := by
        have := V.int.inj (of_decide_eq_true hh)
        omega
      rw [if_pos e] at k
      exact ⟨_, rfl, k⟩
    · have e : ¬ p = t.1 := fun z => hh (by rw [z]; exact decide_eq_true rfl)
      rw [if_neg e] at k
      exact ⟨_, rfl, k⟩
theorem ok_sign {f : Addr} {fd : FuncData} (D : Df K mg "_sign" sSign pSign f fd) (T : Bl mg) : FnOk P w K mg base CX0 1 f fd pSign (spSign K) := by
  refine D.fn.ok scSign (fun vs H Q E h => ?_) (fun cdv A outer s H vs Q E hr h => ?_)
  · obtain ⟨v, n, ts, kk, p, t, rfl, _⟩ := h
    rfl
  · obtain ⟨v, n, ts, kk, p, t, rfl, hw, ht, k⟩ := h
    have nd := scSign.nd
    obtain ⟨a, c, ys, rfl, ha, hc, hys⟩ := dp_web hw
    obtain ⟨y, hy, hyd⟩ := dpAll_at hys (show (ts.map tieD)[kk]? = some (tieD t) by rw [List.getElem?_map, ht]; rfl)
    obtain ⟨az, rfl, haz⟩ := dp_tie hyd
    refine ⟨_, (pss_one (ps_ret (pe_ifExp (pt_cmpR op_eq (pe_ix (ixT K) (pe_ix (ixT K) (pe_ix (ixT K) (pv 0) pe_int (fun _ _ => rfl)) (pv 1) (fun _ _ => rfl)) pe_int (fun _ _ => rfl)) (pv 2) (nomark _)) pe_int (pe_un un_neg pe_int)))), ?_⟩
    refine ⟨_, rfl, a, _, _, _, rfl, rfl, ha, atI_nat (j := 1) rfl, _, rfl, c, _, _, _, rfl, rfl, hc, atI_nat hy, az, _, _, _, rfl, rfl, haz, atI_nat (j := 0) rfl, _, rfl, rfl, _, rfl, ?_⟩
    unfold sgn at k
    refine ite2 (fun hh => ?_) (fun hh => ?_)
    · have e : t.1 = p := by
        have := V.int.inj (of_decide_eq_true hh)
        omega
      rw [if_pos e] at k
      exact k
    · have e : ¬ t.1 = p := fun z => hh (by rw [z]; exact decide_eq_true rfl)
      rw [if_neg e] at k
      exact ⟨1, rfl, k⟩
theorem ok_stepsf {f f1 f2 : Addr} {fd fd1 fd2 : FuncData} (D : Df K mg "_steps_from" sStepsf pStepsf f fd) (T : Bl mg) (D_far : Df K mg "far_end" sFar pFar f1 fd1) (D_sign : Df K mg "_sign" sSign pSign f2 fd2) : FnOk P w K mg base CX0 2 f fd pStepsf (spStepsf K) := by
  have G_far : FnOk P w K mg base CX0 1 f1 fd1 pFar (spFar K) := ok_far D_far T
  have G_sign : FnOk P w K mg base CX0 1 f2 fd2 pSign (spSign K) := ok_sign D_sign T
  refine D.fn.ok scStepsf (fun vs H Q E h => ?_) (fun cdv A outer s H vs Q E hr h => ?_)
  · obtain ⟨v, alv, n, ts, start, al, rfl, _⟩ := h
    rfl
  · obtain ⟨v, alv, n, ts, start, al, rfl, hw, hal, hends, hst, hn, hel, k⟩ := h
    have hr_far : Room 1 _ := hr
    have hr_sign : Room 1 _ := hr
    have hu := hu_of hr
    have nd := scStepsf.nd
    obtain ⟨a, c, ys, rfl, ha, hc, hys⟩ := dp_web hw
    have hyl : ys.length = ts.length := by rw [dpAll_len hys, List.length_map]
    refine ⟨_, (pss_cons (ps_set (i := 3) nd rfl (by first | exact Or.inl rfl | exact Or.inr rfl) (pe_disp (pps_cons (pv 1) pe_non pps_nil) (by rfl) (by rfl) (fun z => by cases z) (by decide)))
      (pss_cons (ps_set (i := 4) nd rfl (by first | exact Or.inl rfl | exact Or.inr rfl) (pe_lst (pa_cons (pv 1) pa_nil)))
      (pss_cons (ps_while PassesOwn.never (pt_truth (pv 4) (by intro _; rfl)) (pss_cons (ps_set (i := 5) nd rfl (by first | exact Or.inl rfl | exact Or.inr rfl) (pe_bm PySem.F.plainAttrs_list PySem.F.slot_list_pop PySem.F.type_list_pop mt_popAt (pv 4) (pa_cons pe_int pa_nil)))
      (pss_one (ps_for PassesOwn.never rfl (enumT K (by rfl) T.enumerate (pa_cons (pe_ix (ixT K) (pv 0) pe_int (fun _ _ => rfl)) pa_nil)) (pgT K rfl (pgs_cons (pg_name (i := 6) nd rfl (by first | exact Or.inl rfl | exact Or.inr rfl)) (pgs_cons (pg_name (i := 7) nd rfl (by first | exact Or.inl rfl | exact Or.inr rfl)) pgs_nil))) (pss_one (ps_if (PW.pt (pw_and (pt_cmpR (opIn K) (pv 5) (pv 7) rfl) (pw_and1 (pt_cmpR (opIn K) (pe_call G_sign hr_sign (by rfl) D_sign.ad D_sign.fn.kp D_sign.bd .nil pass0 (pa_cons (pv 0) (pa_cons (pv 6) (pa_cons (pv 5) pa_nil)))) (pe_ix (ixL K) (pv 2) (pv 6) (fun _ _ => rfl)) rfl)))) (pss_cons (ps_set (i := 8) nd rfl (by first | exact Or.inl rfl | exact Or.inr rfl) (pe_call G_far hr_far (by rfl) D_far.ad D_far.fn.kp D_far.bd .nil pass0 (pa_cons (pv 0) (pa_cons (pv 6) (pa_cons (pv 5) pa_nil)))))
      (pss_one (ps_if (pt_cmp (pc_dnotin hu (pv 8) (pv 3))) (pss_cons (ps_dput hu (pv 3) (pv 8) (pe_tup (pa_cons (pv 6) (pa_cons (pv 5) pa_nil))) rfl)
      (pss_one (ps_expr (pe_bm PySem.F.plainAttrs_list PySem.F.slot_list_append PySem.F.type_list_append mt_append (pv 4) (pa_cons (pv 8) pa_nil))))) pss_nil))) pss_nil))))))
      (pss_one (ps_ret (pv 3)))))), ?_⟩
    refine tSeq_go ?_
    refine fun d hd => ?_
    have s1 := same_new (o := .dK []) hd
    refine ⟨_, rfl, upd_same, [(Sum.inl (start : Int), .non)], rfl, (by show 1 ≤ 15; decide), ?_⟩
    dsimp only [gName]
    refine at_st [some (.ref a), some (.int start), some alv, some (.ref d), none, none, none, none, none] rfl ?_
    refine tSeq_go ?_
    refine ⟨_, rfl, by show 1 ≤ sizeLine; decide, fun q hq => ?_⟩
    have h3d : (upd (upd H d (.dK [])) d (.dK (mergeK [] [((Sum.inl (start : Int) : Key), V.non)]))) d = some (.dK [((Sum.inl (start : Int) : Key), V.non)]) := upd_same
    have h3s : Same H (upd (upd H d (.dK [])) d (.dK (mergeK [] [((Sum.inl (start : Int) : Key), V.non)]))) := same_old hd s1
    generalize (upd (upd H d (.dK [])) d (.dK (mergeK [] [((Sum.inl (start : Int) : Key), V.non)]))) = H3 at *
    have s3 := same_new (o := .lst [.int start]) hq
    have s4 := h3s.trans s3
    have dq : d ≠ q := by
      rintro rfl
      rw [h3d] at hq
      cases hq
    have b4 : Sst K ts n start al (upd H3 q (.lst [.int start])) d q [(start, none)] [start] := by
      refine ⟨⟨_, s3 _ _ h3d, rfl, fun p hp => ?_⟩, upd_same, sr_start hst, fun p hp => by simpa [keysS] using hp, Nat.le_refl _, fun p hp hn => ?_⟩
      · obtain rfl := List.mem_singleton.mp hp
        exact ⟨.non, by simp [valV], rfl⟩
      · have : p = start := by simpa [keysS] using hp
        exact absurd (by rw [this]; simp) hn
    have qn : H q = none := Same.free h3s hq
    clear hq s3 h3d h3s s1
    generalize upd H3 q (.lst [.int start]) = H4 at b4 s4
    dsimp only [gName]
    refine at_st [some (.ref a), some (.int start), some alv, some (.ref d), some (.ref q), none, none, none, none] rfl ?_
    refine tSeq_go ?_
    refine while_by (fun σ H' => ∃ (v5 v6 v7 v8 : Option V) (F : SL) (que : List Nat), σ = [some (.ref a), some (.int start), some alv, some (.ref d), some (.ref q), v5, v6, v7, v8] ∧ Same H H' ∧
      Sst K ts n start al H' d q F que ∧ ∀ E, RunS ts al F que E → RunS ts al [(start, none)] [start] E) (fun _ H' => muW n d q H') ?_ ?_ ?_
    · exact ⟨none, none, none, none, _, [start], rfl, s4, b4, fun E h => h⟩
    · rintro σ H5 ⟨v5, v6, v7, v8, F, que, rfl, s5, b5, run5⟩
      refine ⟨_, rfl, !(natsV que).isEmpty, .inl ⟨_, SqL.of b5.qu, rfl⟩, ?_⟩
      cases que with
      | nil =>
        refine iteF ?_
        exact ⟨_, rfl, k d F H5 hd s5 b5.fd b5.sr (fun p hp => b5.sh p hp (by simp)) (run5 _ (.done _))⟩
      | cons p rest =>
        refine iteT ?_
        refine tSeq_go ?_
        have hp5 : p ∈ keysS F := b5.qs p (List.mem_cons_self ..)
        refine ⟨_, rfl, .inl ⟨rfl, _, SqL.of b5.qu⟩, q, _, 0, 0, .int p, rfl, rfl, b5.qu, by decide, by decide, by simp [seqIndex?, natsV], rfl, ?_⟩
        have e5 : (natsV (p :: rest)).eraseIdx 0 = natsV rest := rfl
        rw [e5]
        have fd6 : FoundS K (upd H5 q (.lst (natsV rest))) d F := b5.fd.kf (kf_upd b5.qu ⟨(fun _ e => nomatch e), (fun _ _ e => nomatch e)⟩) (upd_ne dq)
        have qu6 : (upd H5 q (.lst (natsV rest))) q = some (.lst (natsV rest)) := upd_same
        have ql6 : rest.length ≤ F.length := Nat.le_of_succ_le b5.ql
        have s6 : Same H (upd H5 q (.lst (natsV rest))) := same_old qn s5
        have sr6 := b5.sr
        have qs6 : ∀ x ∈ rest, x ∈ keysS F := fun x hx => b5.qs x (List.mem_cons_of_mem _ hx)
        have sh6 : ∀ x ∈ keysS F, x ∉ rest → x ≠ p → ShutS ts al F x ts.length := fun x hx h1 h2 => b5.sh x hx fun z => (List.mem_cons.mp z).elim h2 h1
        have m6 : muW n d q (upd H5 q (.lst (natsV rest))) + 1 = muW n d q H5 := by
          obtain ⟨kvs, h1, h2, _⟩ := b5.fd
          rw [muW_at (d := d) (q := q) (by rw [upd_ne dq]; exact h1) upd_same, muW_at h1 b5.qu]
          simp [natsV]
          omega
        clear e5 b5
        generalize upd H5 q (.lst (natsV rest)) = H6 at *
        dsimp only [gName]
        refine at_st [some (.ref a), some (.int start), some alv, some (.ref d), some (.ref q), some (.int p), v6, v7, v8] rfl ?_
        refine ⟨_, rfl, a, _, _, _, rfl, rfl, sqT_same s6 ha, atI_nat (j := 1) rfl, c, ys, rfl, sqT_same s6 hc, for_it (walk_enumT (xs := ys)) (fun i σ H' => ∃ (v6 v7 v8 : Option V) (G : SL) (que : List Nat), σ = [some (.ref a), some (.int start), some alv, some (.ref d), some (.ref q), some (.int p), v6, v7, v8] ∧
          Same H H' ∧ FoundS K H' d G ∧ H' q = some (.lst (natsV que)) ∧ SrOk ts n start al G ∧ p ∈ keysS G ∧ (∀ x ∈ que, x ∈ keysS G) ∧ que.length ≤ G.length ∧
          (∀ x ∈ keysS G, x ∉ que → x ≠ p → ShutS ts al G x ts.length) ∧ ShutS ts al G p i ∧ muW n d q H' + 1 ≤ muW n d q H5 ∧ (G, que) = turnsS ts al p i (F, rest)) ?_ ?_ ?_ ?_⟩
        · exact ⟨v6, v7, v8, F, rest, rfl, s6, fd6, qu6, sr6, hp5, qs6, ql6, sh6, fun k t hk => absurd hk (Nat.not_lt_zero _), by omega, rfl⟩
        · rintro i σ H' _ ⟨v6, v7, v8, G, que, rfl, sH, _⟩
          exact sqT_same sH hc
        · rintro i x σ H7 H'' hi ⟨v6, v7, v8, G, que, rfl, s7, b7, q7, sr7, p7, qs7, l7, sh7, sp7, m7, t7⟩ ⟨qt, y, z, rfl, hqt, rfl, hy, hz⟩
          have hy' : some (V.int i) = some y := hy
          cases hy'
          have hz' : ys[i]? = some z := hz
          obtain ⟨dd, hdd, hzd⟩ := dpAll_get hys hz'
          obtain ⟨t, ht, rfl⟩ := get_map hdd
          obtain ⟨az, rfl, haz⟩ := dp_tie hzd
          have sqt := same_new (o := .tup [.int i, .ref az]) hqt
          have s8 := s7.trans sqt
          have b8 := b7.same sqt
          have q8 := sqt _ _ q7
          have m8 : muW n d q (upd H7 qt (.tup [.int i, .ref az])) = muW n d q H7 := by
            obtain ⟨kvs, h1, _⟩ := b7
            rw [muW_at (sqt _ _ h1) q8, muW_at h1 q7]
          rw [← m8] at m7
          have aT : (upd H7 qt (.tup [.int i, .ref az])) qt = some (.tup [.int i, .ref az]) := upd_same
          clear m8 sqt b7 q7 s7
          generalize upd H7 qt (.tup [.int i, .ref az]) = H8 at *
          have hil : i < ts.length := (List.getElem?_eq_some_iff.mp ht).1
          have key : inV (V.int (p : Int)) [V.int t.1, V.int t.2] = decide (p ∈ [t.1, t.2]) := inv_nats p [t.1, t.2]
          refine ⟨qt, _, rfl, SqT.of aT, rfl, _, _, rfl, _, _, rfl, rfl, ?_⟩
          have nogo : ¬ ((p = t.1 ∨ p = t.2) ∧ al i (sgn t p) = true) → ShutS ts al G p (i + 1) := fun hn k t' hk ht' hp' ha' => by
            by_cases e : k = i
            · subst e
              rw [ht] at ht'
              obtain rfl := Option.some.inj ht'
              exact absurd ⟨hp', ha'⟩ hn
            · exact sp7 k t' (by omega) ht' hp' ha'
          have stay : ¬ ((p = t.1 ∨ p = t.2) ∧ al i (sgn t p) = true ∧ farT t p ∉ keysS G) → (G, que) = turnsS ts al p (i + 1) (F, rest) := fun hn => by
            show _ = turnS ts al p i (turnsS ts al p i (F, rest))
            rw [← t7]
            unfold turnS
            rw [ht]
            dsimp only
            rw [if_neg hn]
          refine ⟨_, rfl, _, rfl, az, _, rfl, .inr (sqT_same s8 haz), rfl, rfl, _, rfl, ?_⟩
          refine ite2 (fun hh => ?_) (fun hh => ?_)
          rotate_left
          · have hno : ¬ (p = t.1 ∨ p = t.2) := fun e => hh (by
              show inV (V.int (p : Int)) [V.int t.1, V.int t.2] = true
              rw [key]
              exact decide_eq_true (by simpa using e))
            exact ⟨_, _, _, G, que, rfl, s8, b8, q8, sr7, p7, qs7, l7, sh7, nogo fun e => hno e.1, m7, stay fun e => hno e.1⟩
          have hin : p = t.1 ∨ p = t.2 := by
            have hh : inV (V.int (p : Int)) [V.int t.1, V.int t.2] = true := hh
            rw [key] at hh
            simpa using of_decide_eq_true hh
          obtain ⟨al0, axs, e0, hx1, hx2, hx3⟩ := hal
          subst e0
          have hai := List.getElem?_eq_getElem (l := axs) (i := i) (by omega)
          obtain ⟨ab, ss, e1, hs1, hs2⟩ := hx3 i _ hai
          rw [e1] at hai
          refine ⟨_, rfl, _, rfl, _, rfl, .ref a, n, ts, i, p, t, rfl, dp_same s8 _ hw, ht, ?_⟩
          refine ⟨_, rfl, _, rfl, al0, _, _, _, rfl, rfl, sqL_same s8 hx1, atI_nat hai, ab, _, rfl, hs1.elim (fun z => .inl (sqL_same s8 z)) (fun z => .inr (sqT_same s8 z)), rfl, flat_ints ss, _, rfl, ?_⟩
          rw [show (if false = true then !inV (V.int (sgn t p)) (ss.map V.int) else inV (V.int (sgn t p)) (ss.map V.int)) = al i (sgn t p) by rw [← hs2, ← inv_ints]; rfl]
          refine ite2 (fun hh2 => ?_) (fun hh2 => ?_)
          rotate_left
          · exact ⟨_, _, _, G, que, rfl, s8, b8, q8, sr7, p7, qs7, l7, sh7, nogo fun e => hh2 e.2, m7, stay fun e => hh2 e.2.1⟩
          refine tSeq_go ?_
          refine ⟨_, rfl, _, rfl, _, rfl, .ref a, n, ts, i, p, t, rfl, dp_same s8 _ hw, ht, ?_⟩
          dsimp only [gName]
          refine at_st [some (.ref a), some (.int start), some (.ref al0), some (.ref d), some (.ref q), some (.int p), some (.int i), some (.ref az), some (.int (farT t p : Nat))] rfl ?_
          obtain ⟨kvs, h1, h2, h3⟩ := b8
          have hlen0 : kvs.length = G.length := by
            have := kv_len h2
            unfold keysS at this
            rwa [List.length_map] at this
          have hGn := sr7.len
          refine ⟨_, rfl, _, rfl, d, _, rfl, DGet.k (k := Sum.inl ((farT t p : Nat) : Int)) h1, _, rfl, ?_⟩
          rw [val_none h2]
          refine ite2 (fun hh3 => ?_) (fun hh3 => ?_)
          rotate_left
          · have hyf : farT t p ∈ keysS G := by simpa using hh3
            refine ⟨_, _, _, G, que, rfl, s8, ⟨kvs, h1, h2, h3⟩, q8, sr7, p7, qs7, l7, sh7, fun k t' hk ht' hp' ha' => ?_, m7, stay fun e => e.2.2 hyf⟩
            by_cases e : k = i
            · subst e
              rw [ht] at ht'
              obtain rfl := Option.some.inj ht'
              exact hyf
            · exact sp7 k t' (by omega) ht' hp' ha'
          have hnf : farT t p ∉ keysS G := by simpa using hh3
          have srN := sr_snoc sr7 ht hin hh2 p7 hnf (far_lt hends ht p)
          have hN := srN.len
          rw [List.length_append, List.length_singleton] at hN
          have hvn : valV kvs (Sum.inl ((farT t p : Nat) : Int)) = none := by
            have := val_none (p := farT t p) h2
            rw [decide_eq_false hnf] at this
            cases e : valV kvs (Sum.inl ((farT t p : Nat) : Int)) with
            | none => rfl
            | some x => rw [e] at this; cases this
          refine tSeq_go ?_
          refine ⟨_, rfl, _, rfl, by show 2 ≤ sizeLine; decide, fun cw hcw => ?_⟩
          have u12 := same_new (o := .tup [.int i, .int p]) hcw
          have ecw : (upd H8 cw (.tup [.int i, .int p])) cw = some (.tup [.int i, .int p]) := upd_same
          have h18 := u12 _ _ h1
          have h48 := u12 _ _ q8
          generalize upd H8 cw (.tup [.int i, .int p]) = H9 at *
          refine ⟨_, rfl, _, rfl, d, _, rfl, DPut.k (k := Sum.inl ((farT t p : Nat) : Int)) h18 (Nat.lt_of_lt_of_le (show kvs.length < 100000 by omega) (by decide)), ?_⟩
          have kd : KF H9 (upd H9 d (.dK (putK kvs (Sum.inl ((farT t p : Nat) : Int)) (.ref cw)))) := kf_upd h18 ⟨(fun _ e => nomatch e), (fun _ _ e => nomatch e)⟩
          have hq9 : (upd H9 d (.dK (putK kvs (Sum.inl ((farT t p : Nat) : Int)) (.ref cw)))) q = some (.lst (natsV que)) := by
            rw [upd_ne dq.symm]
            exact h48
          refine ⟨_, rfl, .inl ⟨rfl, _, SqL.of hq9⟩, _, rfl, q, _, _, rfl, rfl, hq9, ?_, ?_⟩
          · rw [natsV_len]
            exact Nat.lt_of_lt_of_le (show que.length < 100000 by omega) (by decide)
          have kq : KF (upd H9 d (.dK (putK kvs (Sum.inl ((farT t p : Nat) : Int)) (.ref cw)))) (upd (upd H9 d (.dK (putK kvs (Sum.inl ((farT t p : Nat) : Int)) (.ref cw)))) q (.lst (natsV que ++ [.int (farT t p : Nat)]))) := kf_upd hq9 ⟨(fun _ e => nomatch e), (fun _ _ e => nomatch e)⟩
          have hd10 : (upd (upd H9 d (.dK (putK kvs (Sum.inl ((farT t p : Nat) : Int)) (.ref cw)))) q (.lst (natsV que ++ [.int (farT t p : Nat)]))) d = some (.dK (kvs ++ [(Sum.inl ((farT t p : Nat) : Int), .ref cw)])) := by
            rw [upd_ne dq, upd_same, putK_new _ hvn]
          have hq10 : (upd (upd H9 d (.dK (putK kvs (Sum.inl ((farT t p : Nat) : Int)) (.ref cw)))) q (.lst (natsV que ++ [.int (farT t p : Nat)]))) q = some (.lst (natsV (que ++ [farT t p]))) := by
            rw [upd_same, natsV_snoc]
          have sub : ∀ x ∈ keysS G, x ∈ keysS (G ++ [(farT t p, some (i, p))]) := fun x hx => by
            rw [keysS_snoc]
            exact List.mem_append_left _ hx
          have last : farT t p ∈ keysS (G ++ [(farT t p, some (i, p))]) := by
            rw [keysS_snoc]
            exact List.mem_append_right _ (List.mem_singleton.mpr rfl)
          refine ⟨_, _, _, G ++ [(farT t p, some (i, p))], que ++ [farT t p], rfl, same_old qn (same_old hd (s8.trans u12)), ⟨_, hd10, ?_, fun x hx => ?_⟩, hq10, srN, sub _ p7, fun x hx => ?_, ?_, fun x hx hnq hnp => ?_, fun k t' hk ht' hp' ha' => ?_, ?_, ?_⟩
          · rw [keysS_snoc, List.map_append, List.map_append, h2]
            rfl
          · have vput : ∀ y : Nat, valV (kvs ++ [(Sum.inl ((farT t p : Nat) : Int), V.ref cw)]) (Sum.inl (y : Int)) = if y = farT t p then some (.ref cw) else valV kvs (Sum.inl (y : Int)) := fun y => by
              rw [← putK_new _ hvn, valV_put]
              by_cases e : y = farT t p
              · rw [if_pos e, if_pos (by rw [e])]
              · rw [if_neg e, if_neg (fun z => e (by have := Sum.inl.inj z; omega))]
            rcases List.mem_append.mp hx with z | z
            · obtain ⟨ax, f1, f2⟩ := h3 x z
              refine ⟨ax, ?_, ((f2.kf (KF.of_same u12)).kf kd).kf kq⟩
              rw [vput, if_neg (fun e : x.1 = farT t p => hnf (e ▸ List.mem_map_of_mem z)), f1]
            · obtain rfl := List.mem_singleton.mp z
              exact ⟨.ref cw, by rw [vput, if_pos rfl], cw, rfl, sqT_kf kq (sqT_kf kd (SqT.of ecw))⟩
          · rcases List.mem_append.mp hx with z | z
            · exact sub x (qs7 x z)
            · rw [List.mem_singleton.mp z]
              exact last
          · rw [List.length_append, List.length_append]
            exact Nat.add_le_add_right l7 _
          · rw [keysS_snoc] at hx
            rcases List.mem_append.mp hx with z | z
            · exact (sh7 x z (fun e => hnq (List.mem_append_left _ e)) hnp).mono sub
            · rw [List.mem_singleton.mp z] at hnq
              exact absurd (List.mem_append_right _ (List.mem_singleton.mpr rfl)) hnq
          · by_cases e : k = i
            · subst e
              rw [ht] at ht'
              obtain rfl := Option.some.inj ht'
              exact last
            · exact sub _ (sp7 k t' (by omega) ht' hp' ha')
          · rw [muW_at h1 q8] at m7
            rw [muW_at hd10 hq10]
            rw [natsV_len] at m7 ⊢
            rw [List.length_append, List.length_append, List.length_singleton, List.length_singleton]
            omega
          · show _ = turnS ts al p i (turnsS ts al p i (F, rest))
            rw [← t7]
            unfold turnS
            rw [ht]
            dsimp only
            rw [if_pos ⟨hin, hh2, hnf⟩]
        · rintro σ H7 ⟨v6, v7, v8, G, que, rfl, s7, b7, q7, sr7, p7, qs7, l7, sh7, sp7, m7, t7⟩
          rw [hyl] at sp7 t7
          refine ⟨⟨_, _, _, _, G, que, rfl, s7, ⟨b7, q7, sr7, qs7, l7, fun x hx hnq => ?_⟩, fun E hE => run5 E (.step (by rw [← t7]; exact hE))⟩, by omega⟩
          by_cases e : x = p
          · rw [e]
            exact sp7
          · exact sh7 x hx hnq e
    · rintro σ H' Q1 Q2 hQ ⟨v, e, kb, tv, q1⟩
      exact ⟨v, e, kb, tv, hQ _ _ q1⟩
end
end BV

namespace BV
open PySem L2 RZ
abbrev sBack : Stmt := top 17
abbrev nBack : List Str := ["found", "goal", "steps", "tie", "place"]
abbrev pBack : List Str := ["found", "goal"]
theorem scBack : FnScope nBack pBack (defScope sBack) := ⟨rfl, rfl, rfl, by decide +kernel, rfl, by decide +kernel, by decide +kernel⟩
abbrev sOpen : Stmt := top 18
abbrev nOpen : List Str := ["web", "flow", "start", "item", "sign"]
abbrev pOpen : List Str := ["web", "flow", "start"]
theorem scOpen : FnScope nOpen pOpen (defScope sOpen) := ⟨rfl, rfl, rfl, by decide +kernel, rfl, by decide +kernel, by decide +kernel⟩
def spCutof (K : PySem.W.Frag) : Sp := fun vs H Q _ => ∃ (v pv : V) (n : Nat) (ts : List Tie) (ps : List Nat), vs = [v, pv] ∧ Dp K H v (webD n ts) ∧ Dp K H pv (lotD ps) ∧ ts.length ≤ 3000 ∧
  ∀ (u : V) H', Same H H' → Dp K H' u (lotD (cutL ts ps)) → Q u H'
theorem sort_keys {kl : List Nat} (h3 : kl.Nodup) {ys : List Int} (hperm : ys.Perm (kl.map fun (k : Nat) => (k : Int))) (hsort : ys.Pairwise (· ≤ ·)) :
    ∃ ns : List Nat, ys.map V.int = ns.map (fun (k : Nat) => V.int (k : Int)) ∧ ns.Pairwise (· < ·) ∧ (∀ j, j ∈ ns ↔ j ∈ kl) ∧ ns.length = kl.length := by
  obtain ⟨ns, rfl⟩ : ∃ ns : List Nat, ys = ns.map fun (k : Nat) => (k : Int) := ⟨ys.map Int.toNat, by
    rw [List.map_map]
    refine (List.map_id ys).symm.trans (List.map_congr_left fun y hy => ?_)
    obtain ⟨j, _, rfl⟩ := List.mem_map.mp (hperm.mem_iff.mp hy)
    show ((j : Int)) = (((j : Int)).toNat : Int)
    omega⟩
  have hnp : ns.Perm kl := by
    have h := hperm.map Int.toNat
    rw [List.map_map, List.map_map] at h
    have e : ∀ l : List Nat, l.map (Int.toNat ∘ fun (k : Nat) => (k : Int)) = l := fun l => by
      refine (List.map_congr_left fun x _ => ?_).trans (List.map_id l)
      show ((x : Int)).toNat = x
      omega
    rw [e, e] at h
    exact h
  have hnn : ns.Nodup := hnp.nodup_iff.mpr h3
  have hlt : ns.Pairwise (· < ·) := by
    have h6 : ns.Pairwise (· ≤ ·) := (List.pairwise_map.mp hsort).imp fun {x y} z => by omega
    refine (h6.and hnn).imp fun {x y} z => ?_
    obtain ⟨z1, z2⟩ := z
    omega
  exact ⟨ns, by rw [List.map_map]; rfl, hlt, fun j => hnp.mem_iff, hnp.length_eq⟩
def muL (m : Nat) (l : Addr) (H : Hp) : Nat := match H l with
  | some (.lst xs) => m - xs.length
  | _ => 0
theorem muL_at {m : Nat} {l : Addr} {H : Hp} {xs : List V} (h : H l = some (.lst xs)) : muL m l H = m - xs.length := by
  unfold muL
  rw [h]
theorem revLK {X : Cx} (K : PySem.W.Frag) {e : Expr} {te : TE} {k : Nat} {p1 p2 p3 pos : Pos} (he : PE X e te) (h : X.K = K := by rfl) :
    PE X (.Subscript e (.Slice none none (some (.UnaryOp .USub (.Constant (.int 1) k p1) p2)) p3) pos) (tRevL K te) := by
  subst h
  exact pe_revL he
def stepD (s : Nat × Nat) : PyData := .tuple [.int (s.1 : Nat), .int (s.2 : Nat)]
theorem still_steps : ∀ st : List (Nat × Nat), stillAll (st.map stepD) = true
  | [] => by simp [stillAll]
  | s :: st => by simp [stillAll, stepD, still, still_steps st]
theorem dp_step {K : PySem.W.Frag} {H : Hp} {v : V} {s : Nat × Nat} (h : Dp K H v (stepD s)) : ∃ a, v = .ref a ∧ SqT K H a [.int (s.1 : Nat), .int (s.2 : Nat)] := dp_tie (t := s) h
/-- along each tie only against what it bears -/
def alF (fs : List Int) (k : Nat) (s : Int) : Bool := decide ((s = 1 ∨ s = -1) ∧ fs.getD k 0 ≠ s)
def spBack (K : PySem.W.Frag) : Sp := fun vs H Q _ => ∃ (d : Addr) (F : SL) (goal n start : Nat) (ts : List Tie) (al : Nat → Int → Bool), vs = [.ref d, .int goal] ∧ FoundS K H d F ∧ SrOk ts n start al F ∧ goal ∈ keysS F ∧ n ≤ 1000 ∧
  ∀ (l : Addr) (xs : List V) (st : List (Nat × Nat)) H', Same H H' → H l = none → H' l = some (.lst xs) → DpAll K H' xs (st.map stepD) → Chain ts start st goal → (st.map (·.1)).Nodup → (∀ s ∈ st, s.1 < ts.length ∧ al s.1 (sgn (tieAt ts s.1) s.2) = true) → BackS F goal st → (∃ is, StepsAt F is st) → Q (.ref l) H'
def spOpen (K : PySem.W.Frag) : Sp := fun vs H Q _ => ∃ (v : V) (l : Addr) (n : Nat) (ts : List Tie) (fs : List Int) (start : Nat), vs = [v, .ref l, .int start] ∧ Dp K H v (webD n ts) ∧ H l = some (.lst (fs.map V.int)) ∧ fs.length = ts.length ∧
  (∀ t ∈ ts, t.1 < t.2 ∧ t.2 < n) ∧ start < n ∧ n ≤ 1000 ∧ ts.length ≤ 3000 ∧
  ∀ (d : Addr) (F : SL) H', H d = none → Same H H' → FoundS K H' d F → SrOk ts n start (alF fs) F → (∀ p ∈ keysS F, ShutS ts (alF fs) F p ts.length) → RunS ts (alF fs) [(start, none)] [start] F → Q (.ref d) H'
section
variable {P : Program} {w : World} {K : PySem.W.Frag} {mg : Str → Option Value} {base : Heap}
theorem ok_back {f : Addr} {fd : FuncData} (D : Df K mg "_way_back" sBack pBack f fd) (T : Bl mg) : FnOk P w K mg base CX0 1 f fd pBack (spBack K) := by
  refine D.fn.ok scBack (fun vs H Q E h => ?_) (fun cdv A outer s H vs Q E hr h => ?_)
  · obtain ⟨d, F, goal, n, start, ts, al, rfl, _⟩ := h
    rfl
  · obtain ⟨d, F, goal, n, start, ts, al, rfl, hF, hsr, hg, hn, k⟩ := h
    have hu := hu_of hr
    have nd := scBack.nd
    refine ⟨_, (pss_cons (ps_set (i := 2) nd rfl (by first | exact Or.inl rfl | exact Or.inr rfl) (pe_lst pa_nil))
      (pss_cons (ps_while PassesOwn.never (pt_cmpR op_notN (pe_dget hu (pv 0) (pv 1) (fun _ _ => rfl)) pe_non (nomark _)) (pss_cons (ps_asg (pe_dget hu (pv 0) (pv 1) (fun _ _ => rfl)) (pgT K rfl (pgs_cons (pg_name (i := 3) nd rfl (by first | exact Or.inl rfl | exact Or.inr rfl)) (pgs_cons (pg_name (i := 4) nd rfl (by first | exact Or.inl rfl | exact Or.inr rfl)) pgs_nil))))
      (pss_cons (ps_expr (pe_bm PySem.F.plainAttrs_list PySem.F.slot_list_append PySem.F.type_list_append mt_append (pv 2) (pa_cons (pe_tup (pa_cons (pv 3) (pa_cons (pv 4) pa_nil))) pa_nil)))
      (pss_one (ps_set (i := 1) nd rfl (by first | exact Or.inl rfl | exact Or.inr rfl) (pv 4))))))
      (pss_one (ps_ret (revLK K (pv 2)))))), ?_⟩
    refine tSeq_go ?_
    refine ⟨Nat.zero_le _, fun l hl => ?_⟩
    have s1 := same_new (o := .lst []) hl
    have hL : (upd H l (.lst [])) l = some (.lst []) := upd_same
    obtain ⟨x0, hx0, hxe⟩ := List.mem_map.mp hg
    obtain ⟨i0, hi0⟩ := List.getElem?_of_mem hx0
    have hFl := hsr.len
    dsimp only [gName]
    generalize upd H l (.lst []) = H1 at *
    refine at_st [some (.ref d), some (.int goal), some (.ref l), none, none] rfl ?_
    refine tSeq_go ?_
    refine while_by (fun σ H' => ∃ (v3 v4 : Option V) (g i : Nat) (o : Option (Nat × Nat)) (xs : List V) (acc : List (Nat × Nat)) (is : List Nat), σ = [some (.ref d), some (.int g), some (.ref l), v3, v4] ∧ Same H H' ∧
      H' l = some (.lst xs) ∧ DpAll K H' xs (acc.map stepD) ∧ F[i]? = some (g, o) ∧ Chain ts g acc.reverse goal ∧ StepsAt F is acc.reverse ∧ (∀ j ∈ is, i < j) ∧ (∀ s ∈ acc, s.1 < ts.length ∧ al s.1 (sgn (tieAt ts s.1) s.2) = true) ∧ ∀ st, BackS F g st → BackS F goal (st ++ acc.reverse)) (fun _ H' => muL (n + 1) l H') ?_ ?_ ?_
    · refine ⟨none, none, goal, i0, x0.2, [], [], [], rfl, s1, hL, .nil, by rw [hi0, ← hxe], .nil _, ⟨.nil, rfl, fun m i s h => by simp at h⟩, by simp, by simp, fun st h => by simpa using h⟩
    · rintro σ H2 ⟨v3, v4, g, i, o, xs, acc, is, rfl, s2, hL2, hds, hFi, hch, hst, hlow, hal, hbk⟩
      have hF2 := hF.same s2
      obtain ⟨kvs, h1, h2, h3⟩ := hF2
      obtain ⟨v, hv, hsv⟩ := h3 _ (List.mem_of_getElem? hFi)
      dsimp only at hv hsv
      refine ⟨_, rfl, _, rfl, d, _, rfl, by rw [← hv]; exact DGet.k (k := Sum.inl (g : Int)) h1, ?_⟩
      refine ⟨rfl, _, rfl, ?_⟩
      cases o with
      | none =>
        have hsv : v = .non := hsv
        subst hsv
        refine iteF ?_
        have hi := hsr.no i g hFi
        subst hi
        have e := hsr.st.symm.trans hFi
        have eg : start = g := by
          have := Option.some.inj e
          exact (Prod.mk.inj this).1
        subst eg
        refine ⟨_, rfl, l, _, rfl, SqL.of hL2, fun q hq => ?_⟩
        have sq := same_new (o := .lst xs.reverse) hq
        refine k q xs.reverse acc.reverse _ (s2.trans sq) (Same.free s2 hq) upd_same ?_ hch (steps_nodup hsr hst) (fun s hs => hal s (List.mem_reverse.mp hs)) (hbk [] (.nil hFi)) ⟨is, hst⟩
        rw [List.map_reverse]
        exact dpAll_rev (dpAll_same sq _ hds)
      | some kq =>
        obtain ⟨kk, q⟩ := kq
        obtain ⟨az, rfl, haz⟩ := hsv
        refine iteT ?_
        obtain ⟨t, ht, hq, hgt, halk, j, o2, hj, hFj⟩ := hsr.pr i g kk q hFi
        have hsize : acc.length + 1 ≤ n := by
          have hla : LotA F.length (i :: is) := ⟨List.pairwise_cons.mpr ⟨hlow, hst.1⟩, fun x hx => by
            rcases List.mem_cons.mp hx with e | e
            · rw [e]
              exact (List.getElem?_eq_some_iff.mp hFi).1
            · obtain ⟨m, hm⟩ := List.getElem?_of_mem e
              have hml := (List.getElem?_eq_some_iff.mp hm).1
              have hml2 : m < acc.reverse.length := by rw [← hst.2.1]; exact hml
              obtain ⟨p, hp⟩ := hst.2.2 m x _ hm (List.getElem?_eq_getElem hml2)
              exact (List.getElem?_eq_some_iff.mp hp).1⟩
          have := lotA_len hla
          have e := hst.2.1
          rw [List.length_reverse] at e
          rw [List.length_cons] at this
          omega
        have hxl : xs.length = acc.length := by rw [dpAll_len hds, List.length_map]
        refine tSeq_go ?_
        refine ⟨_, rfl, _, rfl, d, _, rfl, by rw [← hv]; exact DGet.k (k := Sum.inl (g : Int)) h1, az, _, rfl, haz, rfl, _, _, rfl, _, _, rfl, rfl, ?_⟩
        refine at_st [some (.ref d), some (.int g), some (.ref l), some (.int kk), some (.int q)] rfl ?_
        dsimp only
        refine tSeq_go ?_
        refine ⟨_, rfl, .inl ⟨rfl, _, SqL.of hL2⟩, _, rfl, _, rfl, by show 2 ≤ sizeLine; decide, fun pt hpt => ?_⟩
        have st2 := same_new (o := .tup [.int kk, .int q]) hpt
        have ept : (upd H2 pt (.tup [.int kk, .int q])) pt = some (.tup [.int kk, .int q]) := upd_same
        have hL3 := st2 _ _ hL2
        have hds3 := dpAll_same st2 _ hds
        have s3 := s2.trans st2
        generalize upd H2 pt (.tup [.int kk, .int q]) = H3 at *
        refine ⟨l, _, _, rfl, rfl, hL3, Nat.lt_of_lt_of_le (show xs.length < 100000 by omega) (by decide), ?_⟩
        have kf : KF H3 (upd H3 l (.lst (xs ++ [.ref pt]))) := kf_upd hL3 ⟨(fun _ e => nomatch e), (fun _ _ e => nomatch e)⟩
        refine ⟨_, rfl, ?_⟩
        have erev : (acc ++ [(kk, q)]).reverse = (kk, q) :: acc.reverse := by rw [List.reverse_append]; rfl
        refine ⟨⟨_, _, q, j, o2, xs ++ [.ref pt], acc ++ [(kk, q)], i :: is, rfl, same_old hl s3, upd_same, ?_, hFj, ?_, ?_, ?_, ?_, ?_⟩, ?_⟩
        · rw [List.map_append]
          exact dpAll_app (dpAll_kf kf _ (still_steps acc) hds3) (.cons (dp_kf kf _ (by simp [stepD, still, stillAll]) (.tup (SqT.of ept) (.cons (.int _) (.cons (.int _) .nil)))) .nil)
        · rw [erev]
          exact .cons ht hq (by rw [← hgt]; exact hch)
        · rw [erev]
          refine ⟨List.pairwise_cons.mpr ⟨hlow, hst.1⟩, by rw [List.length_cons, List.length_cons, hst.2.1], fun m i2 s hm hs => ?_⟩
          cases m with
          | zero =>
            have e1 : i = i2 := by simpa using hm
            have e2 : (kk, q) = s := by simpa using hs
            subst e1
            subst e2
            exact ⟨g, hFi⟩
          | succ m => exact hst.2.2 m i2 s (by simpa using hm) (by simpa using hs)
        · intro x hx
          rcases List.mem_cons.mp hx with e | e
          · rw [e]
            exact hj
          · have := hlow x e
            omega
        · intro s hs
          rcases List.mem_append.mp hs with e | e
          · exact hal s e
          · rw [List.mem_singleton.mp e]
            dsimp only
            rw [tieAt_of ht]
            exact ⟨(List.getElem?_eq_some_iff.mp ht).1, halk⟩
        · intro st hb
          rw [erev]
          have := hbk _ (.cons hFi hb)
          rwa [List.append_assoc] at this
        · rw [muL_at hL2, muL_at (m := n + 1) (l := l) (xs := xs ++ [V.ref pt]) (upd_same (H := H3) (a := l) (o := .lst (xs ++ [V.ref pt]))), List.length_append, List.length_singleton]
          omega
    · rintro σ H' Q1 Q2 hQ ⟨v, e, kb, e2, a, x, e3, hd, e4, c, e5, q1⟩
      exact ⟨v, e, kb, e2, a, x, e3, hd, e4, c, e5, hQ _ _ q1⟩
theorem ok_open {f f1 f2 f3 : Addr} {fd fd1 fd2 fd3 : FuncData} (D : Df K mg "_open_steps" sOpen pOpen f fd) (T : Bl mg) (D_far : Df K mg "far_end" sFar pFar f1 fd1) (D_sign : Df K mg "_sign" sSign pSign f2 fd2) (D_stepsf : Df K mg "_steps_from" sStepsf pStepsf f3 fd3) : FnOk P w K mg base CX0 3 f fd pOpen (spOpen K) := by
  have G_stepsf : FnOk P w K mg base CX0 2 f3 fd3 pStepsf (spStepsf K) := ok_stepsf D_stepsf T D_far D_sign
  refine D.fn.ok scOpen (fun vs H Q E h => ?_) (fun cdv A outer s H vs Q E hr h => ?_)
  · obtain ⟨v, l, n, ts, fs, start, rfl, _⟩ := h
    rfl
  · obtain ⟨v, l, n, ts, fs, start, rfl, hw, hL, hfl, hends, hst, hn, hel, k⟩ := h
    have nd := scOpen.nd
    have hr_stepsf : Room 2 _ := hr
    refine ⟨_, (pss_one (ps_ret (pe_call G_stepsf hr_stepsf (by rfl) D_stepsf.ad D_stepsf.fn.kp D_stepsf.bd .nil pass0 (pa_cons (pv 0) (pa_cons (pv 2) (pa_cons (pe_lc (own := [("item", 3)]) (g := (gName 3)) (tt := tYes) rfl nd (piL K (pv 1)) (blkOk_by (own := [("item", 3)]) (N := nOpen) (sc := defScope sOpen) (by decide +kernel)) (fun _ _ _ _ _ => (pg_name (i := 3) nd rfl (by first | exact Or.inl rfl | exact Or.inr rfl))) (fun _ _ _ _ _ => pts_nil) (fun _ _ _ _ _ => (pe_lc (own := [("sign", 4)]) (g := (gName 4)) rfl nd (piT K (pe_tup (pa_cons pe_int (pa_cons (pe_un un_neg pe_int) pa_nil)))) (blkOk_by (own := [("sign", 4)]) (N := nOpen) (by first | rfl | decide +kernel)) (fun _ _ _ _ _ => (pg_name (i := 4) nd rfl (by first | exact Or.inl rfl | exact Or.inr rfl))) (fun _ _ _ _ _ => (pts_one (pt_cmpR op_ne (pv 4) (pv 3) (nomark _)))) (fun _ _ _ _ _ => (pv 4))))) pa_nil)))))), ?_⟩
    refine ⟨_, rfl, _, rfl, _, rfl, l, rfl, ⟨_, SqL.of hL⟩, fun E1 hE1 => ?_⟩
    refine lc_run (walk_list (xs := fs.map V.int)) hE1 (fun i acc Hx => acc.length = i ∧ ∀ (k : Nat) (x : V), acc[k]? = some x → ∃ (b : Addr) (ss : List Int), x = V.ref b ∧ Hx b = some (.lst (ss.map V.int)) ∧ ∀ s : Int, decide (s ∈ ss) = alF fs k s) ?_ ?_ ?_ ?_
    · exact fun H' s => SqL.of (s _ _ hL)
    · exact ⟨rfl, by simp⟩
    · rintro i x acc H2 H' hi hacc e s ⟨hl, hall⟩ ⟨rfl, hx⟩
      obtain ⟨f, hf, rfl⟩ := ints_at hx
      rw [List.length_map] at hi
      have hfd : fs.getD i 0 = f := by rw [List.getD_eq_getElem?_getD, hf]; rfl
      refine ⟨rfl, yes_go ?_⟩
      refine ⟨1, rfl, by show 2 ≤ sizeLine; decide, fun p hp => ?_⟩
      have sp := same_new (o := .tup [.int 1, .int (-1)]) hp
      refine ⟨p, rfl, ⟨_, SqT.of upd_same⟩, fun E2 hE2 => ?_⟩
      have ept : (upd H' p (.tup [.int 1, .int (-1)])) p = some (.tup [.int 1, .int (-1)]) := upd_same
      generalize upd H' p (.tup [.int 1, .int (-1)]) = H3 at *
      have n21 : E2 ≠ E1 := fun q => by
        rw [q, sp _ _ hacc] at hE2
        cases hE2
      refine lc_run (walk_tup (xs := [.int 1, .int (-1)])) hE2 (fun j acc2 _ => ∃ ss : List Int, acc2 = ss.map V.int ∧ ss.length ≤ j ∧ ∀ s : Int, s ∈ ss ↔ (s ∈ ([1, -1] : List Int).take j ∧ f ≠ s)) ?_ ?_ ?_ ?_
      · exact fun H' s => SqT.of (s _ _ ept)
      · exact ⟨[], rfl, Nat.le_refl _, by simp⟩
      · rintro j x2 acc2 H4 H4' hj hacc2 e2 s2 ⟨ss, rfl, hsl, hss⟩ ⟨rfl, hx2⟩
        have hj2 : j < 2 := hj
        obtain ⟨z, hz, rfl⟩ : ∃ z : Int, ([1, -1] : List Int)[j]? = some z ∧ x2 = .int z := by
          match j, hj2, hx2 with
          | 0, _, h => exact ⟨1, rfl, (Option.some.inj h).symm⟩
          | 1, _, h => exact ⟨-1, rfl, (Option.some.inj h).symm⟩
        have htk : ([1, -1] : List Int).take (j + 1) = ([1, -1] : List Int).take j ++ [z] := by rw [List.take_add_one, hz]; rfl
        refine ⟨rfl, _, rfl, _, rfl, rfl, _, rfl, ite2 (fun hh => ?_) (fun hh => ?_)⟩
        · have hne : z ≠ f := fun q => by rw [q] at hh; simp at hh
          refine ⟨_, rfl, lc_add hacc2 e2 (Same.refl _) (by rw [List.length_map]; omega) ⟨ss ++ [z], by rw [List.map_append]; rfl, by rw [List.length_append]; exact Nat.succ_le_succ hsl, fun s => ?_⟩⟩
          rw [htk, List.mem_append, List.mem_append, hss s, List.mem_singleton]
          constructor
          · rintro (⟨a, b⟩ | rfl)
            · exact ⟨.inl a, b⟩
            · exact ⟨.inr rfl, hne.symm⟩
          · rintro ⟨a | a, b⟩
            · exact .inl ⟨a, b⟩
            · exact .inr a
        · have hne : z = f := Classical.byContradiction fun q => hh (by simp [q])
          refine lc_skip hacc2 e2 (Same.refl _) ⟨ss, rfl, by omega, fun s => ?_⟩
          rw [htk, hss s, List.mem_append, List.mem_singleton]
          constructor
          · rintro ⟨a, b⟩
            exact ⟨.inl a, b⟩
          · rintro ⟨a | a, b⟩
            · exact ⟨a, b⟩
            · exact absurd (by rw [a, hne]) b
      · rintro acc2 H4 h4 s4 ⟨ss, rfl, hsl, hss⟩
        have s24 := sp.trans s4
        refine lc_add hacc e s24 (by omega) ⟨by rw [List.length_append, hl]; rfl, fun k x hxk => ?_⟩
        by_cases hk : k < acc.length
        · rw [List.getElem?_append_left hk] at hxk
          obtain ⟨b, ss', e1, e3, e4⟩ := hall k x hxk
          exact ⟨b, ss', e1, era_same s24 _ _ e3, e4⟩
        · rw [List.getElem?_append_right (by omega)] at hxk
          have hk0 : k - acc.length = 0 := by
            by_cases q : k - acc.length = 0
            · exact q
            · rw [List.getElem?_eq_none (by simp; omega)] at hxk
              cases hxk
          rw [hk0] at hxk
          have hki : k = i := by omega
          subst hki
          refine ⟨E2, ss, (Option.some.inj hxk).symm, by rw [era_ne n21]; exact h4, fun s => ?_⟩
          unfold alF
          rw [hfd]
          refine decide_eq_decide.mpr ?_
          rw [hss s]
          have : ([1, -1] : List Int).take [V.int 1, V.int (-1)].length = [1, -1] := rfl
          rw [this]
          simp
    · rintro acc H2 h1 s2 ⟨hl, hall⟩
      rw [List.length_map] at hl
      refine ⟨v, .ref E1, n, ts, start, alF fs, rfl, dp_same s2 _ hw, ⟨E1, acc, rfl, SqL.of h1, by omega, fun k x hx => ?_⟩, hends, hst, hn, hel, fun d F H' hd s3 hF hsr hsh hrun => ?_⟩
      · obtain ⟨b, ss, e1, e2, e3⟩ := hall k x hx
        exact ⟨b, ss, e1, .inl (SqL.of (era_back _ _ e2)), e3⟩
      · exact k d F H' (Same.free s2 hd) (s2.trans s3) hF hsr hsh hrun
end
end BV

namespace BV
open PySem L2 RZ
abbrev sFlow : Stmt := top 19
abbrev nFlow : List Str := ["web", "one", "other", "flow", "many", "found", "tie", "place"]
abbrev pFlow : List Str := ["web", "one", "other"]
theorem scFlow : FnScope nFlow pFlow (defScope sFlow) := ⟨rfl, rfl, rfl, by decide +kernel, rfl, by decide +kernel, by decide +kernel⟩
def crK (ps : List Nat) : Option Tie → Bool
  | some t => crosses ps t
  | none => false
theorem cutL_crK (ts : List Tie) (ps : List Nat) : cutL ts ps = (List.range ts.length).filter fun k => crK ps ts[k]? := by
  unfold cutL
  refine List.filter_congr fun k _ => ?_
  cases ts[k]? <;> rfl
theorem cutL_len (ps : List Nat) : ∀ ts : List Tie, (cutL ts ps).length = cutN (fun p => decide (p ∈ ps)) ts
  | [] => rfl
  | t :: ts => by
    have ih := cutL_len ps ts
    rw [cutL_crK] at ih ⊢
    rw [List.length_cons, List.range_succ_eq_map, List.filter_cons, List.filter_map]
    have e : ((fun k => crK ps (t :: ts)[k]?) ∘ Nat.succ) = fun k => crK ps ts[k]? := by
      funext k
      show crK ps (t :: ts)[k + 1]? = _
      rw [List.getElem?_cons_succ]
    rw [e]
    have hz : crK ps (t :: ts)[0]? = crosses ps t := rfl
    rw [hz]
    simp only [cutN]
    unfold crosses
    by_cases h : decide (t.1 ∈ ps) = decide (t.2 ∈ ps)
    · rw [decide_eq_true h, if_pos h]
      show (List.map Nat.succ _).length = _
      rw [List.length_map, ih, Nat.zero_add]
    · rw [decide_eq_false h, if_neg h]
      show (0 :: List.map Nat.succ _).length = _
      rw [List.length_cons, List.length_map, ih, Nat.add_comm]
/-- what stands when the flow is found -/
structure FlowOk (ts : List Tie) (n one other : Nat) (fs : List Int) (m : Nat) : Prop where
  fl : fs.length = ts.length
  sm : Small fs
  su : ∀ S : Nat → Bool, S one = true → S other = false → cutSum S ts fs = m
/-- the flow told step by step -/
inductive FlowR (ts : List Tie) (one other : Nat) : List Int → Nat → List Int → Nat → Prop
  | stop {fs : List Int} {m : Nat} {F : SL} : RunS ts (alF fs) [(one, none)] [one] F → ¬ (m < 3 ∧ other ∈ keysS F) → FlowR ts one other fs m fs m
  | step {fs fs' : List Int} {m m' : Nat} {F : SL} {st : List (Nat × Nat)} : RunS ts (alF fs) [(one, none)] [one] F → m < 3 → other ∈ keysS F → (keysS F).Nodup → BackS F other st → FlowR ts one other (goAll ts fs st) (m + 1) fs' m' → FlowR ts one other fs m fs' m'
theorem FlowR.uniq {ts : List Tie} {one other : Nat} {fs fs1 fs2 : List Int} {m m1 m2 : Nat} (h : FlowR ts one other fs m fs1 m1) (h' : FlowR ts one other fs m fs2 m2) : fs1 = fs2 ∧ m1 = m2 := by
  induction h with
  | stop h1 h2 =>
    cases h' with
    | stop => exact ⟨rfl, rfl⟩
    | step g1 g2 g3 g4 g5 g6 =>
      rw [h1.uniq g1] at h2
      exact absurd ⟨g2, g3⟩ h2
  | step h1 h2 h3 h4 h5 h6 ih =>
    cases h' with
    | stop g1 g2 =>
      rw [h1.uniq g1] at h3
      exact absurd ⟨h2, h3⟩ g2
    | step g1 g2 g3 g4 g5 g6 =>
      obtain rfl := h1.uniq g1
      obtain rfl := h5.uniq h4 g5
      exact ih g6
def spFlow (K : PySem.W.Frag) : Sp := fun vs H Q _ => ∃ (v : V) (n : Nat) (ts : List Tie) (one other : Nat), vs = [v, .int one, .int other] ∧ Dp K H v (webD n ts) ∧ (∀ t ∈ ts, t.1 < t.2 ∧ t.2 < n) ∧ one < n ∧ other < n ∧ one ≠ other ∧ n ≤ 60 ∧ ts.length ≤ 3000 ∧
  ∀ (p fl : Addr) (rv : V) (fs : List Int) (m : Nat) (R : List Nat) H', Same H H' → SqT K H' p [.ref fl, .int m, rv] → H' fl = some (.lst (fs.map V.int)) → H fl = none → Dp K H' rv (lotD R) → FlowOk ts n one other fs m → m ≤ 3 → R.Pairwise (· < ·) → one ∈ R → (m < 3 → other ∉ R) →
    (∀ x ∈ R, x < n) → (∀ x ∈ R, ∀ k t, ts[k]? = some t → (x = t.1 ∨ x = t.2) → alF fs k (sgn t x) = true → farT t x ∈ R) →
    (∀ S : Nat → Bool, S one = true → S other = false → cutN S ts ≤ m → ∀ x ∈ R, S x = true) → FlowR ts one other (List.replicate ts.length 0) 0 fs m → Q (.ref p) H'
theorem cutSum_tight (S : Nat → Bool) : ∀ (ts : List Tie) (fs : List Int), fs.length = ts.length → Small fs → (cutN S ts : Int) ≤ cutSum S ts fs →
    ∀ (k : Nat) (t : Tie) (f : Int), ts[k]? = some t → fs[k]? = some f → (S t.1 = true → S t.2 = false → f = 1) ∧ (S t.2 = true → S t.1 = false → f = -1)
  | [], fs, _, _, _, k, t, f, h, _ => by simp at h
  | t0 :: ts, [], hl, _, _, k, t, f, _, h => by simp at h
  | t0 :: ts, f0 :: fs, hl, hs, hle, k, t, f, h1, h2 => by
    have hl' : fs.length = ts.length := by simpa using hl
    have hs' : Small fs := fun x hx => hs x (List.mem_cons_of_mem _ hx)
    have h0 := cutSum_le S ts fs hl' hs'
    have hf := hs f0 (List.mem_cons_self ..)
    simp only [cutSum, cutN] at hle
    cases k with
    | zero =>
      simp only [List.getElem?_cons_zero, Option.some.injEq] at h1 h2
      subst h1
      subst h2
      constructor
      · intro a b
        rw [a, b] at hle
        simp [bz] at hle
        omega
      · intro a b
        rw [a, b] at hle
        simp [bz] at hle
        omega
    | succ k =>
      simp only [List.getElem?_cons_succ] at h1 h2
      refine cutSum_tight S ts fs hl' hs' ?_ k t f h1 h2
      cases e1 : S t0.1 <;> cases e2 : S t0.2 <;> simp [bz, e1, e2] at hle <;> omega
theorem sr_in {ts : List Tie} {n start : Nat} {al : Nat → Int → Bool} {F : SL} {S : Nat → Bool} (h : SrOk ts n start al F) (h0 : S start = true)
    (hst : ∀ k t q, ts[k]? = some t → (q = t.1 ∨ q = t.2) → al k (sgn t q) = true → S q = true → S (farT t q) = true) : ∀ (i p : Nat) (o : Option (Nat × Nat)), F[i]? = some (p, o) → S p = true := by
  intro i
  induction i using Nat.strongRecOn with
  | _ i ih =>
    intro p o hi
    cases o with
    | none =>
      obtain rfl := h.no i p hi
      rw [h.st] at hi
      cases hi
      exact h0
    | some kq =>
      obtain ⟨k, q⟩ := kq
      obtain ⟨t, a1, a2, a3, a4, j, o, hj, ho⟩ := h.pr i p k q hi
      rw [a3]
      exact hst k t q a1 a2 a4 (ih j hj q o ho)
/-- a flow that is full over a cut -/
theorem flow_cut {ts : List Tie} {n one other : Nat} {fs : List Int} {m : Nat} (h : FlowOk ts n one other fs m) (hends : ∀ t ∈ ts, t.1 < t.2 ∧ t.2 < n) {R : List Nat} (h1 : one ∈ R) (h2 : other ∉ R)
    (hcl : ∀ x ∈ R, ∀ k t, ts[k]? = some t → (x = t.1 ∨ x = t.2) → alF fs k (sgn t x) = true → farT t x ∈ R) : (cutL ts R).length = m := by
  have hs := h.su (fun p => decide (p ∈ R)) (decide_eq_true h1) (decide_eq_false h2)
  have hf := cutSum_full (fun p => decide (p ∈ R)) ts fs h.fl fun k t f ht hf => by
    have hn := hends t (List.mem_of_getElem? ht)
    have hfd : fs.getD k 0 = f := by rw [List.getD_eq_getElem?_getD, hf]; rfl
    refine ⟨fun a b => ?_, fun a b => ?_⟩
    · have a := of_decide_eq_true a
      have b := of_decide_eq_false b
      refine Classical.byContradiction fun hne => b ?_
      have := hcl t.1 a k t ht (.inl rfl) (decide_eq_true (by rw [show sgn t t.1 = 1 from if_pos rfl, hfd]; exact ⟨.inl rfl, hne⟩))
      rwa [show farT t t.1 = t.2 from if_pos rfl] at this
    · have a := of_decide_eq_true a
      have b := of_decide_eq_false b
      refine Classical.byContradiction fun hne => b ?_
      have := hcl t.2 a k t ht (.inr rfl) (decide_eq_true (by rw [show sgn t t.2 = -1 from if_neg (by omega), hfd]; exact ⟨.inr rfl, hne⟩))
      rwa [far_snd] at this
  rw [cutL_len]
  omega
theorem flow_least {ts : List Tie} {n one other : Nat} {fs : List Int} {m : Nat} (h : FlowOk ts n one other fs m) {S : Nat → Bool} (h1 : S one = true) (h2 : S other = false) : m ≤ cutN S ts := by
  have hs := h.su S h1 h2
  have hf := cutSum_le S ts fs h.fl h.sm
  omega
theorem flow_core {ts : List Tie} {n one other : Nat} {fs : List Int} {m : Nat} (h : FlowOk ts n one other fs m) (hends : ∀ t ∈ ts, t.1 < t.2 ∧ t.2 < n) {F : SL} (hsr : SrOk ts n one (alF fs) F) {S : Nat → Bool} (h1 : S one = true) (h2 : S other = false) (hle : cutN S ts ≤ m) :
    ∀ x ∈ keysS F, S x = true := by
  intro x hx
  obtain ⟨y, hy, rfl⟩ := List.mem_map.mp hx
  obtain ⟨i, hi⟩ := List.getElem?_of_mem hy
  have ht := cutSum_tight S ts fs h.fl h.sm (by rw [h.su S h1 h2]; omega)
  refine sr_in hsr h1 (fun k t q hk hq ha hSq => ?_) i y.1 y.2 hi
  have hkl := (List.getElem?_eq_some_iff.mp hk).1
  have hf : fs[k]? = some (fs.getD k 0) := by
    rw [List.getD_eq_getElem?_getD, List.getElem?_eq_getElem (show k < fs.length by have := h.fl; omega)]
    rfl
  obtain ⟨a, b⟩ := ht k t _ hk hf
  have ha := of_decide_eq_true ha
  have hn := hends t (List.mem_of_getElem? hk)
  rcases hq with rfl | rfl
  · rw [show farT t t.1 = t.2 from if_pos rfl]
    cases e : S t.2 with
    | true => rfl
    | false => exact absurd (a hSq e) (by rw [← show sgn t t.1 = 1 from if_pos rfl]; exact ha.2)
  · rw [far_snd]
    cases e : S t.1 with
    | true => rfl
    | false => exact absurd (b hSq e) (by rw [← show sgn t t.2 = -1 from if_neg (by omega)]; exact ha.2)
theorem flow_zero {ts : List Tie} {n one other : Nat} : FlowOk ts n one other (List.replicate ts.length 0) 0 :=
  ⟨List.length_replicate, fun f hf => .inr (.inl (List.eq_of_mem_replicate hf)), fun S _ _ => cutSum_zero S ts _⟩
theorem flow_more {ts : List Tie} {n one other : Nat} {fs : List Int} {m : Nat} (h : FlowOk ts n one other fs m) (hends : ∀ t ∈ ts, t.1 < t.2 ∧ t.2 < n) {st : List (Nat × Nat)} (hc : Chain ts one st other) (hn : (st.map (·.1)).Nodup) (ha : ∀ s ∈ st, s.1 < ts.length ∧ alF fs s.1 (sgn (tieAt ts s.1) s.2) = true) :
    FlowOk ts n one other (goAll ts fs st) (m + 1) := by
  refine ⟨by rw [goAll_len]; exact h.fl, goAll_small st fs h.sm hn fun s hs => ?_, fun S h1 h2 => ?_⟩
  · obtain ⟨a, b⟩ := ha s hs
    have b := of_decide_eq_true b
    exact ⟨by rw [h.fl]; exact a, b.2⟩
  · rw [goAll_sum (fun t ht => by have := hends t ht; omega) hc fs h.fl, h.su S h1 h2, h1, h2]
    simp [bz]
def mu3 (σ : L2.St) : Nat := match σ[4]? with
  | some (some (V.int z)) => (3 - z).toNat
  | _ => 0
theorem cnd_by {t : TT} {σ : L2.St} {H : Hp} {A B : Hp → Prop} (R : Bool → Hp → Prop) (h1 : ∀ H', R true H' → A H') (h2 : ∀ H', R false H' → B H')
    (h : (∀ b H', R b H' → if b = true then A H' else B H') → t σ H fun b H' => if b = true then A H' else B H') : t σ H fun b H' => if b = true then A H' else B H' :=
  h fun b H' r => by
    cases b with
    | true => exact iteT (h1 H' r)
    | false => exact iteF (h2 H' r)
section
variable {P : Program} {w : World} {K : PySem.W.Frag} {mg : Str → Option Value} {base : Heap}
theorem ok_flow {f f1 f2 f3 f4 f5 : Addr} {fd fd1 fd2 fd3 fd4 fd5 : FuncData} {tE : Tok} (D : Df K mg "_flow_between" sFlow pFlow f fd) (T : Bl mg) (hsorted : mg "sorted" = none) (hE3 : mg "_ENOUGH" = some (.int 3 tE)) (D_far : Df K mg "far_end" sFar pFar f1 fd1) (D_sign : Df K mg "_sign" sSign pSign f2 fd2)
    (D_stepsf : Df K mg "_steps_from" sStepsf pStepsf f3 fd3) (D_back : Df K mg "_way_back" sBack pBack f4 fd4) (D_open : Df K mg "_open_steps" sOpen pOpen f5 fd5) : FnOk P w K mg base CX0 4 f fd pFlow (spFlow K) := by
  have G_sign : FnOk P w K mg base CX0 1 f2 fd2 pSign (spSign K) := ok_sign D_sign T
  have G_back : FnOk P w K mg base CX0 1 f4 fd4 pBack (spBack K) := ok_back D_back T
  have G_open : FnOk P w K mg base CX0 3 f5 fd5 pOpen (spOpen K) := ok_open D_open T D_far D_sign D_stepsf
  refine D.fn.ok scFlow (fun vs H Q E h => ?_) (fun cdv A outer s H vs Q E hr h => ?_)
  · obtain ⟨v, n, ts, one, other, rfl, _⟩ := h
    rfl
  · obtain ⟨v, n, ts, one, other, rfl, hw, hends, h1n, h2n, hne, hn, hel, k⟩ := h
    have hu := hu_of hr
    have nd := scFlow.nd
    have hr_sign : Room 1 _ := hr.mono (by decide)
    have hr_back : Room 1 _ := hr.mono (by decide)
    have hr_open : Room 3 _ := hr
    obtain ⟨a, c, ys, rfl, ha, hc, hys⟩ := dp_web hw
    have hyl : ys.length = ts.length := by rw [dpAll_len hys, List.length_map]
    refine ⟨_, (pss_cons (ps_set (i := 3) nd rfl (by first | exact Or.inl rfl | exact Or.inr rfl) (pe_op op_rep (pe_lst (pa_cons pe_int pa_nil)) (pe_callB (lenK K) (by rfl) T.len PySem.boot_len (pa_cons (pe_ix (ixT K) (pv 0) pe_int (fun _ _ => rfl)) pa_nil))))
      (pss_cons (ps_set (i := 4) nd rfl (by first | exact Or.inl rfl | exact Or.inr rfl) pe_int)
      (pss_cons (ps_set (i := 5) nd rfl (by first | exact Or.inl rfl | exact Or.inr rfl) (pe_call G_open hr_open (by rfl) D_open.ad D_open.fn.kp D_open.bd .nil pass0 (pa_cons (pv 0) (pa_cons (pv 3) (pa_cons (pv 1) pa_nil)))))
      (pss_cons (ps_while PassesOwn.never (PW.pt (pw_and (pt_cmpR op_lt (pv 4) (pe_glob (by rfl) hE3 (show RelV (.int 3) (.int 3 _) from ⟨_, rfl⟩)) (nomark _)) (pw_and1 (pt_cmp (pc_din hu (pv 2) (pv 5)))))) (pss_cons (ps_for PassesOwn.never rfl (piL K (pe_call G_back hr_back (by rfl) D_back.ad D_back.fn.kp D_back.bd .nil pass0 (pa_cons (pv 5) (pa_cons (pv 2) pa_nil)))) (pgT K rfl (pgs_cons (pg_name (i := 6) nd rfl (by first | exact Or.inl rfl | exact Or.inr rfl)) (pgs_cons (pg_name (i := 7) nd rfl (by first | exact Or.inl rfl | exact Or.inr rfl)) pgs_nil))) (pss_one (ps_augS (pv 3) (pv 6) (getL K) (pe_call G_sign hr_sign (by rfl) D_sign.ad D_sign.fn.kp D_sign.bd .nil pass0 (pa_cons (pv 0) (pa_cons (pv 6) (pa_cons (pv 7) pa_nil)))) ip_add set_list)))
      (pss_cons (ps_aug (i := 4) nd rfl (by first | exact Or.inl rfl | exact Or.inr rfl) pe_int ip_add)
      (pss_one (ps_set (i := 5) nd rfl (by first | exact Or.inl rfl | exact Or.inr rfl) (pe_call G_open hr_open (by rfl) D_open.ad D_open.fn.kp D_open.bd .nil pass0 (pa_cons (pv 0) (pa_cons (pv 3) (pa_cons (pv 1) pa_nil)))))))))
      (pss_one (ps_ret (pe_tup (pa_cons (pv 3) (pa_cons (pv 4) (pa_cons (pe_callTy (tupleK K) (by rfl) T.tuple (by decide +kernel) (pa_cons (pe_callB (call_sortedDI (by rfl)) (by rfl) hsorted (by decide +kernel) (pa_cons (pv 5) pa_nil)) pa_nil)) pa_nil)))))))))), ?_⟩
    refine tSeq_go ?_
    refine ⟨by show 1 ≤ sizeLine; decide, fun l0 hl0 => ?_⟩
    have s0 := same_new (o := .lst [.int 0]) hl0
    refine ⟨_, rfl, a, _, _, _, rfl, rfl, sqT_same s0 ha, atI_nat (j := 1) rfl, c, ys, rfl, .inr (sqT_same s0 hc), l0, _, _, rfl, rfl, upd_same, by omega, by omega, by simp only [List.length_cons, List.length_nil]; exact Nat.le_trans (show (0 + 1) * ((ys.length : Nat) : Int).toNat ≤ 100000 by omega) (by decide), fun fl hfl => ?_⟩
    have s1 := s0.trans (same_new (o := .lst (List.replicate ((ys.length : Nat) : Int).toNat [V.int 0]).flatten) hfl)
    have e0 : (List.replicate ((ys.length : Nat) : Int).toNat [V.int 0]).flatten = (List.replicate ts.length (0 : Int)).map V.int := by
      rw [show ((ys.length : Nat) : Int).toNat = ts.length by omega, List.flatten_replicate_singleton, List.map_replicate]
    rw [e0] at s1 ⊢
    have hF1 : (upd (upd H l0 (.lst [.int 0])) fl (.lst ((List.replicate ts.length (0 : Int)).map V.int))) fl = some (.lst ((List.replicate ts.length (0 : Int)).map V.int)) := upd_same
    have hfl0 : H fl = none := Same.free s0 hfl
    dsimp only [gName]
    generalize upd (upd H l0 (.lst [.int 0])) fl (.lst ((List.replicate ts.length (0 : Int)).map V.int)) = H1 at *
    refine at_st [some (.ref a), some (.int one), some (.int other), some (.ref fl), none, none, none, none] rfl ?_
    refine tSeq_go ?_
    dsimp only [tAsg, tC, gName]
    refine tSeq_go ?_
    refine ⟨_, rfl, _, rfl, _, rfl, .ref a, fl, n, ts, _, one, rfl, dp_same s1 _ hw, hF1, List.length_replicate, hends, h1n, by omega, hel, fun d F H2 hd s2 hFd hsr hsh hrun => ?_⟩
    refine at_st [some (.ref a), some (.int one), some (.int other), some (.ref fl), some (.int 0), some (.ref d), none, none] rfl ?_
    dsimp only
    refine tSeq_go ?_
    refine while_by (fun σ H' => ∃ (v6 v7 : Option V) (d : Addr) (F : SL) (fs : List Int) (m : Nat), σ = [some (.ref a), some (.int one), some (.int other), some (.ref fl), some (.int m), some (.ref d), v6, v7] ∧ Same H H' ∧
      H' fl = some (.lst (fs.map V.int)) ∧ FlowOk ts n one other fs m ∧ m ≤ 3 ∧ FoundS K H' d F ∧ SrOk ts n one (alF fs) F ∧ (∀ p ∈ keysS F, ShutS ts (alF fs) F p ts.length) ∧ RunS ts (alF fs) [(one, none)] [one] F ∧ ∀ fs' m', FlowR ts one other fs m fs' m' → FlowR ts one other (List.replicate ts.length 0) 0 fs' m') (fun σ _ => mu3 σ) ?_ ?_ ?_
    · exact ⟨none, none, d, F, _, 0, rfl, s1.trans s2, s2 _ _ hF1, flow_zero, by decide, hFd, hsr, hsh, hrun, fun fs' m' h => h⟩
    · clear hrun hsh hsr hFd s2 hd hF1 s1 s0
      clear F d H2
      rintro σ H2 ⟨v6, v7, d, F, fs, m, rfl, s2, hF2, hok, hm, hFd, hsr, hsh, hrun, hfl2⟩
      have hkey : one ∈ keysS F := List.mem_map_of_mem (List.mem_of_getElem? hsr.st)
      refine cnd_by (fun b H' => H' = H2 ∧ (b = true → m < 3 ∧ other ∈ keysS F) ∧ (b = false → m < 3 → other ∉ keysS F)) ?_ ?_ (fun cont => ?_)
      rotate_left
      rotate_left
      · obtain ⟨kvs, h1, h2, h3⟩ := hFd
        refine ⟨_, rfl, _, _, rfl, rfl, _, rfl, ite2 (fun hh => ?_) (fun hh => ?_)⟩
        · have hh := of_decide_eq_true hh
          refine ⟨_, rfl, _, rfl, d, _, rfl, DGet.k (k := Sum.inl (other : Int)) h1, _, rfl, ?_⟩
          rw [val_none h2]
          exact cont _ _ ⟨rfl, fun e => ⟨by omega, of_decide_eq_true e⟩, fun e _ => of_decide_eq_false e⟩
        · exact cont _ _ ⟨rfl, (fun e => nomatch e), fun _ hm3 => absurd (decide_eq_true (by omega)) hh⟩
      · rintro H' ⟨rfl, hb, _⟩
        obtain ⟨hm3, hin⟩ := hb rfl
        refine tSeq_go ?_
        refine ⟨_, rfl, _, rfl, d, F, other, n, one, ts, alF fs, rfl, hFd, hsr, hin, by omega, fun l xs st H3 s3 hl0 hl hds hch hnd hal hbk _ => ?_⟩
        have lf : l ≠ fl := fun e => by
          rw [e, hF2] at hl0
          cases hl0
        have hF3 := s3 _ _ hF2
        have hxl : xs.length = st.length := by rw [dpAll_len hds, List.length_map]
        have sH3 := s2.trans s3
        have kff : ∀ {H'}, Kp fl fl H3 H' → KF H3 H' := fun kq a o e q => by
          have ne : a ≠ fl := by
            rintro rfl
            rw [hF3] at e
            cases e
            obtain ⟨_, e | ⟨_, e⟩⟩ := q <;> cases e
          exact kq a o e ne ne
        have sm : ∀ {H'}, Kp fl fl H3 H' → Same H H' := fun kq a o e => by
          have ne : a ≠ fl := by
            rintro rfl
            rw [hfl0] at e
            cases e
          exact kq a o (sH3 a o e) ne ne
        refine ⟨l, rfl, ⟨_, SqL.of hl⟩, for_it (walk_list (xs := xs)) (fun i σ H' => ∃ (v6 v7 : Option V), σ = [some (.ref a), some (.int one), some (.int other), some (.ref fl), some (.int m), some (.ref d), v6, v7] ∧
          Kp fl fl H3 H' ∧ H' fl = some (.lst ((goAll ts fs (st.take i)).map V.int))) ?_ ?_ ?_ ?_⟩
        · exact ⟨v6, v7, rfl, Kp.refl _, hF3⟩
        · rintro i σ H' _ ⟨v6, v7, rfl, kp, _⟩
          exact SqL.of (kp _ _ hl lf lf)
        · rintro i x σ H4 H' hi ⟨v6, v7, rfl, kp, hfi⟩ ⟨rfl, hx⟩
          obtain ⟨dd, hdd, hxd⟩ := dpAll_get hds hx
          obtain ⟨s0, hs0, rfl⟩ := get_map hdd
          have stl : still (stepD s0) = true := by simp [stepD, still, stillAll]
          obtain ⟨az, rfl, haz⟩ := dp_step (dp_kf (kff kp) _ stl hxd)
          obtain ⟨hs1, hs2⟩ := hal s0 (List.mem_of_getElem? hs0)
          have ht := List.getElem?_eq_getElem hs1
          generalize ts[s0.1] = t at ht
          have hgl : (goAll ts fs (st.take i)).length = ts.length := by rw [goAll_len, hok.fl]
          have hgi : ((goAll ts fs (st.take i)).map V.int)[s0.1]? = some (.int ((goAll ts fs (st.take i)).getD s0.1 0)) := by
            rw [List.getElem?_map, List.getD_eq_getElem?_getD, List.getElem?_eq_getElem (show s0.1 < (goAll ts fs (st.take i)).length by omega)]
            rfl
          refine ⟨az, _, rfl, haz, rfl, _, _, rfl, _, _, rfl, rfl, ?_⟩
          refine ⟨_, rfl, _, rfl, fl, _, s0.1, _, rfl, rfl, SqL.of hfi, hgi, ?_⟩
          refine ⟨_, rfl, _, rfl, _, rfl, .ref a, n, ts, s0.1, s0.2, t, rfl, dp_same (sm kp) _ hw, ht, ?_⟩
          refine ⟨_, _, rfl, rfl, fl, _, (s0.1 : Int), s0.1, rfl, rfl, hfi, ix_nat (by rw [List.length_map]; omega), ?_⟩
          refine ⟨_, _, rfl, kp.trans Kp.setb, ?_⟩
          rw [upd_same]
          have htk : st.take (i + 1) = st.take i ++ [s0] := by rw [List.take_add_one, hs0]; rfl
          rw [htk]
          unfold goAll
          rw [List.foldl_append]
          show _ = some (HO.lst ((goStep ts (goAll ts fs (st.take i)) s0).map V.int))
          unfold goStep
          rw [tieAt_of ht, List.map_set]
          rfl
        · rintro σ H4 ⟨v6, v7, rfl, kp, hf4⟩
          rw [hxl, List.take_of_length_le (Nat.le_refl _)] at hf4
          have hok' := flow_more hok hends hch hnd hal
          refine tSeq_go ?_
          refine ⟨_, rfl, _, _, rfl, rfl, ?_⟩
          refine at_st [some (.ref a), some (.int one), some (.int other), some (.ref fl), some (.int ((m : Int) + 1)), some (.ref d), v6, v7] rfl ?_
          refine ⟨_, rfl, _, rfl, _, rfl, .ref a, fl, n, ts, _, one, rfl, dp_same (sm kp) _ hw, hf4, hok'.fl, hends, h1n, by omega, hel, fun d' F' H5 hd' s5 hFd' hsr' hsh' hrun' => ?_⟩
          refine ⟨⟨v6, v7, d', F', _, m + 1, rfl, (sm kp).trans s5, s5 _ _ hf4, hok', by omega, hFd', hsr', hsh', hrun', fun fs' m' h => hfl2 fs' m' (.step hrun hm3 hin hsr.nd hbk h)⟩, ?_⟩
          show (3 - ((m : Int) + 1)).toNat < (3 - (m : Int)).toNat
          omega
      · rintro H' ⟨rfl, _, hb⟩
        have hno := hb rfl
        obtain ⟨kvs, h1, h2, h3⟩ := hFd
        have hlen : F.length ≤ n := hsr.len
        have hkl : (keysS F).length = F.length := by unfold keysS; rw [List.length_map]
        refine ⟨_, rfl, _, rfl, _, rfl, d, kvs, (keysS F).map fun (k : Nat) => (k : Int), rfl, .inl h1, by rw [h2, List.map_map]; rfl, by rw [List.length_map]; omega, fun zs q hperm hsort hq => ?_⟩
        obtain ⟨R, e1, e2, e3, e4⟩ := sort_keys hsr.nd hperm hsort
        have sq := same_new (o := .lst (zs.map V.int)) hq
        refine ⟨q, _, rfl, .inl ⟨SqL.of upd_same, fun u hu => ?_⟩⟩
        have su := same_new (o := .tup (zs.map V.int)) hu
        have eR : (upd (upd H' q (.lst (zs.map V.int))) u (.tup (zs.map V.int))) u = some (.tup (natsV R)) := by rw [upd_same, e1]; rfl
        refine ⟨by show 3 ≤ sizeLine; decide, fun p hp => ?_⟩
        have sp := same_new (o := .tup [.ref fl, .int m, .ref u]) hp
        refine k p fl (.ref u) fs m R _ (((s2.trans sq).trans su).trans sp) (SqT.of upd_same) (sp _ _ (su _ _ (sq _ _ hF2))) hfl0 (lot_dp (SqT.of (sp _ _ eR))) hok hm e2 ((e3 _).mpr hkey) (fun h3 z => hno h3 ((e3 _).mp z)) (fun x hx => hsr.lt x ((e3 x).mp hx)) (fun x hx k t ht hxt ha => ?_) (fun S hS1 hS2 hle x hx => ?_) (hfl2 _ _ (.stop hrun fun e => hno e.1 e.2))
        · exact (e3 _).mpr (hsh x ((e3 x).mp hx) k t ((List.getElem?_eq_some_iff.mp ht).1) ht hxt ha)
        · exact flow_core hok hends hsr hS1 hS2 hle x ((e3 x).mp hx)
    · intro σ H Q Q' hQ h
      obtain ⟨v, e, i, j, e1, e2, c, e3, hc⟩ := h
      refine ⟨v, e, i, j, e1, e2, c, e3, ?_⟩
      cases c with
      | false => exact hQ _ _ hc
      | true =>
        obtain ⟨x, ex, y, ey, aa, w, e4, hd, c2, e5, q⟩ := hc
        exact ⟨x, ex, y, ey, aa, w, e4, hd, c2, e5, hQ _ _ q⟩
end
structure NarIs (ts : List Tie) (n one other : Nat) (R : List Nat) : Prop where
  asc : R.Pairwise (· < ·)
  m1 : one ∈ R
  m2 : other ∉ R
  lt : ∀ x ∈ R, x < n
  few : (cutL ts R).length < 3
  least : ∀ S : Nat → Bool, S one = true → S other = false → (cutL ts R).length ≤ cutN S ts
  core : ∀ S : Nat → Bool, S one = true → S other = false → cutN S ts ≤ (cutL ts R).length → ∀ x ∈ R, S x = true
theorem nar_uniq {ts : List Tie} {n one other : Nat} {R R' : List Nat} (h : NarIs ts n one other R) (h' : NarIs ts n one other R') : R = R' := by
  have a := h.least (fun p => decide (p ∈ R')) (decide_eq_true h'.m1) (decide_eq_false h'.m2)
  have b := h'.least (fun p => decide (p ∈ R)) (decide_eq_true h.m1) (decide_eq_false h.m2)
  rw [← cutL_len] at a b
  refine asc_ext h.asc h'.asc fun x => ⟨fun hx => ?_, fun hx => ?_⟩
  · exact of_decide_eq_true (h.core (fun p => decide (p ∈ R')) (decide_eq_true h'.m1) (decide_eq_false h'.m2) (by rw [← cutL_len]; omega) x hx)
  · exact of_decide_eq_true (h'.core (fun p => decide (p ∈ R)) (decide_eq_true h.m1) (decide_eq_false h.m2) (by rw [← cutL_len]; omega) x hx)
structure ThinIs (ts : List Tie) (n p : Nat) (R : List Nat) : Prop where
  na : NarIs ts n 0 p R
  p1 : 1 ≤ p
  p2 : p < n
  fst : ∀ (q : Nat) (S : Nat → Bool), 1 ≤ q → q < p → S 0 = true → S q = false → 3 ≤ cutN S ts
theorem thin_uniq {ts : List Tie} {n p p' : Nat} {R R' : List Nat} (h : ThinIs ts n p R) (h' : ThinIs ts n p' R') : R = R' := by
  have e : p = p' := by
    rcases Nat.lt_trichotomy p p' with z | z | z
    · have a := h'.fst p (fun p => decide (p ∈ R)) h.p1 z (decide_eq_true h.na.m1) (decide_eq_false h.na.m2)
      have b := h.na.few
      rw [← cutL_len] at a
      omega
    · exact z
    · have a := h.fst p' (fun p => decide (p ∈ R')) h'.p1 z (decide_eq_true h'.na.m1) (decide_eq_false h'.na.m2)
      have b := h'.na.few
      rw [← cutL_len] at a
      omega
  subst e
  exact nar_uniq h.na h'.na
section
variable {P : Program} {w : World} {K : PySem.W.Frag} {mg : Str → Option Value} {base : Heap}
end
end BV

namespace BV
open PySem L2 RZ
abbrev sNamed : Stmt := top 35
abbrev nNamed : List Str := ["_law_cup_here", "_law_many", "_law_pairs", "_law_left", "_law_names", "_law_rest", "_law_found", "_law_turn", "_law_one", "_law_other"]
abbrev pNamed : List Str := ["_law_cup_here", "_law_many", "_law_pairs"]
theorem scNamed : FnScope nNamed pNamed (defScope sNamed) := ⟨rfl, rfl, rfl, by decide +kernel, rfl, by decide +kernel, by decide +kernel⟩
/-! ### joined: no empty cut -/
def WOkP (n : Nat) (ps : List (Nat × Nat)) : Prop := ∀ p ∈ ps, p.1 < n ∧ p.2 < n ∧ p.1 ≠ p.2
def Joi (n : Nat) (ps : List (Nat × Nat)) : Prop := ∀ S : Nat → Bool, (∃ a, a < n ∧ S a = true) → (∃ b, b < n ∧ S b = false) → ∃ p ∈ ps, S p.1 ≠ S p.2
theorem joi_one : Joi 1 [] := fun S ⟨a, ha, ea⟩ ⟨b, hb, eb⟩ => by
  obtain rfl : a = 0 := by omega
  obtain rfl : b = 0 := by omega
  rw [ea] at eb
  cases eb
theorem joi_mono {n : Nat} {ps qs : List (Nat × Nat)} (h : Joi n ps) (hs : ∀ p ∈ ps, p ∈ qs) : Joi n qs := fun S a b => by
  obtain ⟨p, hp, e⟩ := h S a b
  exact ⟨p, hs p hp, e⟩
/-- a place more, tied to one that was there -/
theorem joi_hang {n q : Nat} {ps : List (Nat × Nat)} (h : Joi n ps) (hq : q < n) : Joi (n + 1) (ps ++ [(q, n)]) := fun S ⟨a, ha, ea⟩ ⟨b, hb, eb⟩ => by
  by_cases e : S q = S n
  · by_cases hT : ∃ a, a < n ∧ S a = true
    · by_cases hF : ∃ b, b < n ∧ S b = false
      · obtain ⟨p, hp, z⟩ := h S hT hF
        exact ⟨p, List.mem_append_left _ hp, z⟩
      · have hb2 : b = n := Classical.byContradiction fun z => hF ⟨b, by omega, eb⟩
        subst hb2
        exact absurd ⟨q, hq, e.trans eb⟩ hF
    · have ha2 : a = n := Classical.byContradiction fun z => hT ⟨a, by omega, ea⟩
      subst ha2
      exact absurd ⟨q, hq, e.trans ea⟩ hT
  · exact ⟨(q, n), List.mem_append_right _ (List.mem_singleton.mpr rfl), e⟩
/-- a place put on a tie -/
theorem joi_put {n : Nat} {ps qs : List (Nat × Nat)} {t : Nat × Nat} (h : Joi n ps) (ht : t.1 < n) (ht2 : t.2 < n) (hs : ∀ p ∈ ps, p = t ∨ p ∈ qs) : Joi (n + 1) (qs ++ [(t.1, n), (t.2, n)]) := fun S ⟨a, ha, ea⟩ ⟨b, hb, eb⟩ => by
  by_cases e : S t.1 = S n
  · by_cases e2 : S t.2 = S n
    · have hh : Joi n (qs ++ [t]) := joi_mono h fun p hp => by
        rcases hs p hp with z | z
        · exact List.mem_append_right _ (List.mem_singleton.mpr z)
        · exact List.mem_append_left _ z
      obtain ⟨p, hp, z⟩ := joi_hang hh ht S ⟨a, ha, ea⟩ ⟨b, hb, eb⟩
      rcases List.mem_append.mp hp with hp | hp
      · rcases List.mem_append.mp hp with hp | hp
        · exact ⟨p, List.mem_append_left _ hp, z⟩
        · obtain rfl := List.mem_singleton.mp hp
          exact absurd (e.trans e2.symm) z
      · obtain rfl := List.mem_singleton.mp hp
        exact absurd e z
    · exact ⟨(t.2, n), by simp, e2⟩
  · exact ⟨(t.1, n), by simp, e⟩
theorem erase_move {α : Type} {l m : List α} {j : Nat} {z : α} (h : l[j]? = some z) : (l.eraseIdx j ++ (m ++ [z])).Perm (l ++ m) := by
  refine List.Perm.trans ?_ ((erase_perm h).append_right m)
  rw [← List.append_assoc]
  exact List.perm_append_comm
def reName (names : List Nat) (p : Nat × Nat) : Tie := (min (names.getD p.1 0) (names.getD p.2 0), max (names.getD p.1 0) (names.getD p.2 0))
theorem reName_ok {n : Nat} {names : List Nat} (hp : names.Perm (List.range n)) {p : Nat × Nat} (h : p.1 < n ∧ p.2 < n ∧ p.1 ≠ p.2) : (reName names p).1 < (reName names p).2 ∧ (reName names p).2 < n := by
  obtain ⟨h1, h2, h3⟩ := h
  have hl : names.length = n := by rw [hp.length_eq, List.length_range]
  have hnn : names.Nodup := hp.nodup_iff.mpr List.nodup_range
  have g : ∀ i, i < n → names[i]? = some (names.getD i 0) ∧ names.getD i 0 < n := fun i hi => by
    have e : names[i]? = some (names.getD i 0) := by
      rw [List.getD_eq_getElem?_getD, List.getElem?_eq_getElem (by omega)]
      rfl
    exact ⟨e, List.mem_range.mp (hp.mem_iff.mp (List.mem_of_getElem? e))⟩
  obtain ⟨a1, a2⟩ := g p.1 h1
  obtain ⟨b1, b2⟩ := g p.2 h2
  have ne : names.getD p.1 0 ≠ names.getD p.2 0 := fun e => h3 ((List.getElem?_inj (by omega) hnn).mp (a1.trans (by rw [e, b1])))
  unfold reName
  dsimp only
  omega
theorem joi_named {n : Nat} {ps qs : List (Nat × Nat)} {names : List Nat} (h : Joi n ps) (hps : WOkP n ps) (hp : names.Perm (List.range n)) (hq : qs.Perm ps) : Joi n (qs.map (reName names)) := fun S ⟨a, ha, ea⟩ ⟨b, hb, eb⟩ => by
  have hl : names.length = n := by rw [hp.length_eq, List.length_range]
  have sj : ∀ x, x < n → ∃ i, i < n ∧ names.getD i 0 = x := fun x hx => by
    obtain ⟨i, hi⟩ := List.getElem?_of_mem (hp.mem_iff.mpr (List.mem_range.mpr hx))
    have := (List.getElem?_eq_some_iff.mp hi).1
    exact ⟨i, by omega, by rw [List.getD_eq_getElem?_getD, hi]; rfl⟩
  obtain ⟨i, hi, ei⟩ := sj a ha
  obtain ⟨j, hj, ej⟩ := sj b hb
  obtain ⟨p, hp, z⟩ := h (fun x => S (names.getD x 0)) ⟨i, hi, by rw [ei]; exact ea⟩ ⟨j, hj, by rw [ej]; exact eb⟩
  refine ⟨_, List.mem_map_of_mem (hq.mem_iff.mpr hp), ?_⟩
  unfold reName
  dsimp only
  rcases Nat.le_total (names.getD p.1 0) (names.getD p.2 0) with c | c
  · rw [Nat.min_eq_left c, Nat.max_eq_right c]
    exact z
  · rw [Nat.min_eq_right c, Nat.max_eq_left c]
    exact fun e => z e.symm
def spNamed (K : PySem.W.Frag) : Sp := fun vs H Q _ => ∃ (b g pl : Addr) (n : Nat) (xs : List V) (ps : List (Nat × Nat)), vs = [.ref b, .int n, .ref pl] ∧ H pl = some (.lst xs) ∧ pl ≠ b ∧ pl ≠ g ∧ DpAll K H xs (ps.map stepD) ∧
  1 ≤ n ∧ n ≤ 60 ∧ ps.length ≤ 300 ∧ WOkP n ps ∧ Cup H b g ∧
  ∀ (p a nl : Addr) (ts : List Tie) (names : List Nat) (qs : List (Nat × Nat)) H', Kp b g H H' → Cup H' b g → SqT K H' p [.ref a, .ref nl] → H' nl = some (.lst (natsV names)) → Dp K H' (.ref a) (webD n ts) → names.Perm (List.range n) → qs.Perm ps → ts = qs.map (reName names) → Q (.ref p) H'
section
variable {P : Program} {w : World} {K : PySem.W.Frag} {mg : Str → Option Value} {base : Heap}
theorem ok_named {f f1 : Addr} {fd fd1 : FuncData} (D : Df K mg "_law_named" sNamed pNamed f fd) (T : Bl mg) (hlist : mg "list" = none) (D_draw : Df K mg "_law_draw" sDraw pDraw f1 fd1) : FnOk P w K mg base CX0 2 f fd pNamed (spNamed K) := by
  have G_draw : FnOk P w K mg base CX0 1 f1 fd1 pDraw spDrawC := ok_draw D_draw T
  refine D.fn.ok scNamed (fun vs H Q E h => ?_) (fun cdv A outer s H vs Q E hr h => ?_)
  · obtain ⟨b, g, pl, n, xs, ps, rfl, _⟩ := h
    rfl
  · obtain ⟨b, g, pl, n, xs, ps, rfl, hpl, npb, npg, hxs, hn1, hn, hpn, hok, hB, k⟩ := h
    have nd := scNamed.nd
    have hr_draw : Room 1 _ := hr
    have hxl : xs.length = ps.length := by rw [dpAll_len hxs, List.length_map]
    refine ⟨_, (pss_cons (ps_asg (pe_tup (pa_cons (pe_listRg rfl (by rfl) hlist (prg_1 (by rfl) T.range (pv 1))) (pa_cons (pe_lst pa_nil) (pa_cons (pe_callTy call_list_of (by rfl) hlist (by decide +kernel) (pa_cons (pv 2) pa_nil)) (pa_cons (pe_lst pa_nil) pa_nil))))) (pgT K rfl (pgs_cons (pg_name (i := 3) nd rfl (by first | exact Or.inl rfl | exact Or.inr rfl)) (pgs_cons (pg_name (i := 4) nd rfl (by first | exact Or.inl rfl | exact Or.inr rfl)) (pgs_cons (pg_name (i := 5) nd rfl (by first | exact Or.inl rfl | exact Or.inr rfl)) (pgs_cons (pg_name (i := 6) nd rfl (by first | exact Or.inl rfl | exact Or.inr rfl)) pgs_nil))))))
      (pss_cons (ps_for PassesOwn.never rfl (pi_range1 rfl T.range (pa_cons (pv 1) pa_nil)) (pg_name (i := 7) nd rfl (by first | exact Or.inl rfl | exact Or.inr rfl)) (pss_one (ps_expr (pe_bm PySem.F.plainAttrs_list PySem.F.slot_list_append PySem.F.type_list_append mt_append (pv 4) (pa_cons (pe_bm PySem.F.plainAttrs_list PySem.F.slot_list_pop PySem.F.type_list_pop mt_popAt (pv 3) (pa_cons (pe_call G_draw hr_draw (by rfl) D_draw.ad D_draw.fn.kp D_draw.bd .nil pass0 (pa_cons (pv 0) (pa_cons (pe_callB (lenK K) (by rfl) T.len PySem.boot_len (pa_cons (pv 3) pa_nil)) pa_nil))) pa_nil)) pa_nil)))))
      (pss_cons (ps_for PassesOwn.never rfl (pi_range1 rfl T.range (pa_cons (pe_callB (lenK K) (by rfl) T.len PySem.boot_len (pa_cons (pv 2) pa_nil)) pa_nil)) (pg_name (i := 7) nd rfl (by first | exact Or.inl rfl | exact Or.inr rfl)) (pss_cons (ps_asg (pe_bm PySem.F.plainAttrs_list PySem.F.slot_list_pop PySem.F.type_list_pop mt_popAt (pv 5) (pa_cons (pe_call G_draw hr_draw (by rfl) D_draw.ad D_draw.fn.kp D_draw.bd .nil pass0 (pa_cons (pv 0) (pa_cons (pe_callB (lenK K) (by rfl) T.len PySem.boot_len (pa_cons (pv 5) pa_nil)) pa_nil))) pa_nil)) (pgT K rfl (pgs_cons (pg_name (i := 8) nd rfl (by first | exact Or.inl rfl | exact Or.inr rfl)) (pgs_cons (pg_name (i := 9) nd rfl (by first | exact Or.inl rfl | exact Or.inr rfl)) pgs_nil))))
      (pss_one (ps_expr (pe_bm PySem.F.plainAttrs_list PySem.F.slot_list_append PySem.F.type_list_append mt_append (pv 6) (pa_cons (pe_tup (pa_cons (pe_callB (call_min2 rfl) (by rfl) T.min (by decide +kernel) (pa_cons (pe_ix (ixL K) (pv 4) (pv 8) (fun _ _ => rfl)) (pa_cons (pe_ix (ixL K) (pv 4) (pv 9) (fun _ _ => rfl)) pa_nil))) (pa_cons (pe_callB (call_max2 rfl) (by rfl) T.max (by decide +kernel) (pa_cons (pe_ix (ixL K) (pv 4) (pv 8) (fun _ _ => rfl)) (pa_cons (pe_ix (ixL K) (pv 4) (pv 9) (fun _ _ => rfl)) pa_nil))) pa_nil))) pa_nil))))))
      (pss_one (ps_ret (pe_tup (pa_cons (pe_tup (pa_cons (pv 1) (pa_cons (pe_callTy (tupleK K) (by rfl) T.tuple (by decide +kernel) (pa_cons (pv 6) pa_nil)) pa_nil))) (pa_cons (pv 4) pa_nil)))))))), ?_⟩
    refine tSeq_go ?_
    have O : OwC b g H H [] := OwC.zero hB
    refine ⟨_, rfl, _, rfl, .of_le (by omega) (by omega) (by omega) (by omega), fun lf hlf => ?_⟩
    have O := O.new (xs := rgV 0 (n : Int)) hlf
    generalize upd H lf (.lst (rgV 0 (n : Int))) = H1 at *
    refine ⟨Nat.zero_le _, fun nl hnl => ?_⟩
    have O := O.new (xs := []) hnl
    generalize upd H1 nl (.lst []) = H2 at *
    refine ⟨_, rfl, pl, xs, rfl, .inl (SqL.of (O.kp _ _ hpl npb npg)), fun rs hrs => ?_⟩
    have O := O.new (xs := xs) hrs
    generalize upd H2 rs (.lst xs) = H3 at *
    refine ⟨Nat.zero_le _, fun fl hfl => ?_⟩
    have O := O.new (xs := []) hfl
    generalize upd H3 fl (.lst []) = H4 at *
    refine ⟨by show 4 ≤ sizeLine; decide, fun tp htp => ?_⟩
    have s5 := same_new (o := .tup [.ref lf, .ref nl, .ref rs, .ref fl]) htp
    have O := O.same s5
    have ht5 : SqT K (upd H4 tp (.tup [.ref lf, .ref nl, .ref rs, .ref fl])) tp [.ref lf, .ref nl, .ref rs, .ref fl] := SqT.of upd_same
    generalize upd H4 tp (.tup [.ref lf, .ref nl, .ref rs, .ref fl]) = H5 at *
    refine ⟨tp, _, rfl, ht5, rfl, _, _, rfl, _, _, rfl, _, _, rfl, _, _, rfl, rfl, ?_⟩
    refine at_st [some (.ref b), some (.int (n : Nat)), some (.ref pl), some (.ref lf), some (.ref nl), some (.ref rs), some (.ref fl), none, none, none] rfl ?_
    have ergv : rgV 0 (n : Int) = natsV (List.range n) := by
      unfold rgV natsV
      rw [show ((n : Int) - 0).toNat = n by omega]
      exact List.map_congr_left fun i _ => by rw [Int.zero_add]
    rw [ergv] at O
    clear ergv
    have O5 : OwC b g H H5 [(fl, []), (rs, xs), (nl, natsV []), (lf, natsV (List.range n))] := O
    clear O
    clear hfl hrs hnl hlf s5 htp ht5
    dsimp only
    refine tSeq_go ?_
    refine ⟨_, rfl, _, rfl, by omega, by omega, ?_⟩
    refine for_range (lo := 0) (n := (n : Int).toNat) (fun i σ Hc => ∃ (v7 : Option V) (left names : List Nat), σ = [some (.ref b), some (.int (n : Nat)), some (.ref pl), some (.ref lf), some (.ref nl), some (.ref rs), some (.ref fl), v7, none, none] ∧
      OwC b g H Hc [(fl, []), (rs, xs), (nl, natsV names), (lf, natsV left)] ∧ (left ++ names).Perm (List.range n) ∧ names.length = i) ?_ ?_ ?_
    · exact ⟨none, List.range n, [], rfl, O5, by rw [List.append_nil], rfl⟩
    · clear O5
      rintro i σ Hc hi ⟨v7, left, names, rfl, O, hp, hnm⟩
      have hpl := hp.length_eq
      rw [List.length_append, List.length_range] at hpl
      have hlf := O.at0 3 rfl
      have hnl := O.at0 2 rfl
      refine ⟨_, rfl, .inl ⟨rfl, _, SqL.of hnl⟩, ?_⟩
      refine ⟨_, rfl, .inl ⟨rfl, _, SqL.of hlf⟩, ?_⟩
      refine ⟨_, rfl, _, rfl, lf, _, rfl, .inl (SqL.of hlf), b, g, ((natsV left).length : Int), rfl, by rw [natsV_len]; omega, by rw [natsV_len]; omega, O.bx, fun r He r0 r1 kpe hBe => ?_⟩
      obtain ⟨j, rfl⟩ : ∃ j : Nat, r = (j : Int) := ⟨r.toNat, by omega⟩
      have hj : j < left.length := by rw [natsV_len] at r1; omega
      have O := O.draw kpe hBe
      have hjx : left[j]? = some left[j] := List.getElem?_eq_getElem hj
      generalize left[j] = z at hjx
      have hjv : (natsV left)[j]? = some (.int (z : Nat)) := by
        unfold natsV
        rw [List.getElem?_map, hjx]
        rfl
      refine ⟨lf, _, _, j, _, rfl, rfl, O.at0 3 rfl, by omega, by omega, seq_nat (by rw [natsV_len]; exact hj), hjv, ?_⟩
      have eer : (natsV left).eraseIdx j = natsV (left.eraseIdx j) := nats_erase left j
      rw [eer]
      have O : OwC b g H _ [(fl, []), (rs, xs), (nl, natsV names), (lf, natsV (left.eraseIdx j))] := O.put 3 rfl
      refine ⟨nl, _, _, rfl, rfl, O.at0 2 rfl, by rw [natsV_len]; exact Nat.lt_of_lt_of_le (show names.length < 1000 by omega) (by decide), ?_⟩
      rw [natsV_snoc]
      have O : OwC b g H _ [(fl, []), (rs, xs), (nl, natsV (names ++ [z])), (lf, natsV (left.eraseIdx j))] := O.put 2 rfl
      refine ⟨_, left.eraseIdx j, names ++ [z], rfl, O, (erase_move hjx).trans hp, by rw [List.length_append, List.length_singleton, hnm]⟩
    rintro σ H6 ⟨v7, left, names, rfl, O6, hp, hnm⟩
    have hnm : names.length = n := by omega
    have hleft : left = [] := by
      have := hp.length_eq
      rw [List.length_append, List.length_range] at this
      exact List.eq_nil_of_length_eq_zero (by omega)
    subst hleft
    have hp : names.Perm (List.range n) := hp
    have hnlt : ∀ x ∈ names, x < n := fun x hx => List.mem_range.mp (hp.mem_iff.mp hx)
    have O6 : OwC b g H H6 [(fl, []), (rs, xs), (nl, natsV names)] := O6.sub (by simp)
    clear O5
    have nameAt : ∀ i, i < n → (natsV names)[i]? = some (.int ((names.getD i 0 : Nat))) := fun i hi => by
      have h1 : names[i]? = some names[i] := List.getElem?_eq_getElem (by omega)
      unfold natsV
      rw [List.getElem?_map, List.getD_eq_getElem?_getD, h1]
      rfl
    have hx6 : DpAll K H6 xs (ps.map stepD) := dpAll_kf (KF.of_kpC O6.kp hB) _ (still_steps ps) hxs
    have hpl6 := O6.kp _ _ hpl npb npg
    dsimp only
    refine tSeq_go ?_
    refine ⟨_, rfl, pl, xs, rfl, .inl (SqL.of hpl6), _, rfl, by omega, by omega, ?_⟩
    refine for_range (lo := 0) (n := (xs.length : Int).toNat) (fun i σ Hc => ∃ (v7 v8 v9 : Option V) (rest fv : List V) (rem took : List (Nat × Nat)), σ = [some (.ref b), some (.int (n : Nat)), some (.ref pl), some (.ref lf), some (.ref nl), some (.ref rs), some (.ref fl), v7, v8, v9] ∧
      OwC b g H Hc [(fl, fv), (rs, rest), (nl, natsV names)] ∧ DpAll K Hc rest (rem.map stepD) ∧ DpAll K Hc fv ((took.map (reName names)).map tieD) ∧ (rem ++ took).Perm ps ∧ took.length = i) ?_ ?_ ?_
    · exact ⟨v7, none, none, xs, [], ps, [], rfl, O6, hx6, .nil, by rw [List.append_nil], rfl⟩
    · clear O6 hx6 hpl6
      rintro i σ Hc hi ⟨v7, v8, v9, rest, fv, rem, took, rfl, O, hr1, hf1, hpp, hlen⟩
      have hpl := hpp.length_eq
      rw [List.length_append] at hpl
      have hrl : rest.length = rem.length := by rw [dpAll_len hr1, List.length_map]
      have hfl2 : fv.length = took.length := by rw [dpAll_len hf1, List.length_map, List.length_map]
      show tSeq _ _ _ _ _
      refine tSeq_go ?_
      refine ⟨_, rfl, .inl ⟨rfl, _, SqL.of (O.at0 1 rfl)⟩, ?_⟩
      refine ⟨_, rfl, _, rfl, rs, _, rfl, .inl (SqL.of (O.at0 1 rfl)), b, g, (rest.length : Int), rfl, by omega, by omega, O.bx, fun r He r0 r1 kpe hBe => ?_⟩
      obtain ⟨j, rfl⟩ : ∃ j : Nat, r = (j : Int) := ⟨r.toNat, by omega⟩
      have hj : j < rem.length := by omega
      have hr1 := dpAll_kf (KF.of_kpC kpe O.bx) _ (still_steps rem) hr1
      have hf1 := dpAll_kf (KF.of_kpC kpe O.bx) _ (still_ties _) hf1
      have O := O.draw kpe hBe
      have hjx : rem[j]? = some rem[j] := List.getElem?_eq_getElem hj
      generalize rem[j] = z at hjx
      have hvj : rest[j]? = some rest[j] := List.getElem?_eq_getElem (by omega)
      generalize rest[j] = v at hvj
      obtain ⟨d, hd, hvd⟩ := dpAll_get hr1 hvj
      obtain ⟨z', hz', rfl⟩ := get_map hd
      rw [hjx] at hz'
      cases hz'
      obtain ⟨pa, rfl, hpa⟩ := dp_step hvd
      have hzok := hok z (hpp.mem_iff.mp (List.mem_append_left _ (List.mem_of_getElem? hjx)))
      refine ⟨rs, _, _, j, _, rfl, rfl, O.at0 1 rfl, by omega, by omega, seq_nat (by omega), hvj, ?_⟩
      have hr2 := dpAll_erase j hr1
      have kf2 : KF He (upd He rs (.lst (rest.eraseIdx j))) := KF.of_upd (O.at0 1 rfl)
      have hr2 := dpAll_kf kf2 _ (by rw [map_erase]; exact still_steps _) hr2
      have hf2 := dpAll_kf kf2 _ (still_ties _) hf1
      have hpa2 := sqT_kf kf2 hpa
      rw [map_erase] at hr2
      have O : OwC b g H _ [(fl, fv), (rs, rest.eraseIdx j), (nl, natsV names)] := O.put 1 rfl
      generalize upd He rs (.lst (rest.eraseIdx j)) = Hf at *
      refine ⟨pa, _, rfl, hpa2, rfl, _, _, rfl, _, _, rfl, rfl, ?_⟩
      dsimp only
      refine at_st [some (.ref b), some (.int (n : Nat)), some (.ref pl), some (.ref lf), some (.ref nl), some (.ref rs), some (.ref fl), some (.int (0 + (i : Int))), some (.int (z.1 : Nat)), some (.int (z.2 : Nat))] rfl ?_
      have hnl := SqL.of (K := K) (O.at0 2 rfl)
      refine ⟨_, rfl, .inl ⟨rfl, _, SqL.of (O.at0 0 rfl)⟩, ?_⟩
      refine ⟨_, rfl, _, rfl, nl, _, _, _, rfl, rfl, hnl, atI_nat (nameAt z.1 hzok.1), _, rfl, _, rfl, nl, _, _, _, rfl, rfl, hnl, atI_nat (nameAt z.2 hzok.2.1), _, _, rfl, ?_⟩
      refine ⟨_, rfl, _, rfl, nl, _, _, _, rfl, rfl, hnl, atI_nat (nameAt z.1 hzok.1), _, rfl, _, rfl, nl, _, _, _, rfl, rfl, hnl, atI_nat (nameAt z.2 hzok.2.1), _, _, rfl, by show 2 ≤ sizeLine; decide, fun p hpn => ?_⟩
      have e1 : (if ((names.getD z.2 0 : Nat) : Int) < ((names.getD z.1 0 : Nat) : Int) then ((names.getD z.2 0 : Nat) : Int) else ((names.getD z.1 0 : Nat) : Int)) = (((reName names z).1 : Nat) : Int) := by
        show _ = ((min (names.getD z.1 0) (names.getD z.2 0) : Nat) : Int)
        split <;> omega
      have e2 : (if ((names.getD z.2 0 : Nat) : Int) > ((names.getD z.1 0 : Nat) : Int) then ((names.getD z.2 0 : Nat) : Int) else ((names.getD z.1 0 : Nat) : Int)) = (((reName names z).2 : Nat) : Int) := by
        show _ = ((max (names.getD z.1 0) (names.getD z.2 0) : Nat) : Int)
        split <;> omega
      rw [e1, e2] at *
      have sp := same_new (o := .tup [.int ((reName names z).1 : Nat), .int ((reName names z).2 : Nat)]) hpn
      have hP : (upd Hf p (.tup [.int ((reName names z).1 : Nat), .int ((reName names z).2 : Nat)])) p = some (.tup [.int ((reName names z).1 : Nat), .int ((reName names z).2 : Nat)]) := upd_same
      have O := O.same sp
      generalize upd Hf p (.tup [.int ((reName names z).1 : Nat), .int ((reName names z).2 : Nat)]) = Hg at *
      refine ⟨fl, _, _, rfl, rfl, O.at0 0 rfl, Nat.lt_of_lt_of_le (show fv.length < 1000 by omega) (by decide), ?_⟩
      have kf3 : KF Hg (upd Hg fl (.lst (fv ++ [.ref p]))) := KF.of_upd (ys := fv ++ [.ref p]) (O.at0 0 rfl)
      have O : OwC b g H _ [(fl, fv ++ [.ref p]), (rs, rest.eraseIdx j), (nl, natsV names)] := O.put 0 rfl
      have kf := (KF.of_same sp).trans kf3
      refine ⟨_, _, _, rest.eraseIdx j, fv ++ [.ref p], rem.eraseIdx j, took ++ [z], rfl, O, dpAll_kf kf _ (still_steps _) hr2, ?_, (erase_move hjx).trans hpp, by rw [List.length_append, List.length_singleton, hlen]⟩
      rw [List.map_append, List.map_append]
      exact dpAll_app (dpAll_kf kf _ (still_ties _) hf2) (.cons (dp_kf kf3 _ (by simp [tieD, still, stillAll]) (.tup (SqT.of hP) (.cons (.int _) (.cons (.int _) .nil)))) .nil)
    rintro σ H7 ⟨v7, v8, v9, rest, fv, rem, took, rfl, O7, hr7, hf7, hpp, hlen⟩
    have hrem : rem = [] := by
      have := hpp.length_eq
      rw [List.length_append] at this
      exact List.eq_nil_of_length_eq_zero (by omega)
    subst hrem
    have hpp : took.Perm ps := hpp
    refine ⟨_, rfl, _, rfl, fl, _, rfl, .inl ⟨SqL.of (O7.at0 0 rfl), fun u hu => ?_⟩⟩
    have su := same_new (o := .tup fv) hu
    have hU : (upd H7 u (.tup fv)) u = some (.tup fv) := upd_same
    have O8 := O7.same su
    have hf8 := dpAll_kf (KF.of_same su) _ (still_ties _) hf7
    generalize upd H7 u (.tup fv) = H8 at *
    refine ⟨by show 2 ≤ sizeLine; decide, fun a ha => ?_⟩
    have sa := same_new (o := .tup [.int (n : Nat), .ref u]) ha
    have hA : (upd H8 a (.tup [.int (n : Nat), .ref u])) a = some (.tup [.int (n : Nat), .ref u]) := upd_same
    have O9 := O8.same sa
    have hf9 := dpAll_kf (KF.of_same sa) _ (still_ties _) hf8
    have hU9 := sa _ _ hU
    generalize upd H8 a (.tup [.int (n : Nat), .ref u]) = H9 at *
    refine ⟨_, rfl, by show 2 ≤ sizeLine; decide, fun p hp2 => ?_⟩
    have sp := same_new (o := .tup [.ref a, .ref nl]) hp2
    have O10 := O9.same sp
    refine k p a nl _ names took _ O10.kp O10.bx (SqT.of upd_same) (O10.at0 2 rfl) ?_ hp hpp rfl
    refine .tup (SqT.of (sp _ _ hA)) (.cons (.int _) (.cons (.tup (SqT.of (sp _ _ hU9)) (dpAll_kf (KF.of_same sp) _ (still_ties _) hf9)) .nil))
end
end BV

namespace BV
open PySem L2 RZ
theorem joi_app {n : Nat} {ps : List (Nat × Nat)} (h : Joi n ps) (qs : List (Nat × Nat)) : Joi n (ps ++ qs) := joi_mono h fun _ hp => List.mem_append_left _ hp
theorem wok_app {n : Nat} {ps qs : List (Nat × Nat)} (h : WOkP n ps) (h2 : WOkP n qs) : WOkP n (ps ++ qs) := fun p hp => (List.mem_append.mp hp).elim (h p) (h2 p)
theorem wok_one {n a b : Nat} (h1 : a < n) (h2 : b < n) (h3 : a ≠ b) : WOkP n [(a, b)] := fun p hp => by
  rw [List.mem_singleton.mp hp]
  exact ⟨h1, h2, h3⟩
theorem wok_up {n : Nat} {ps : List (Nat × Nat)} (h : WOkP n ps) : WOkP (n + 1) ps := fun p hp => by
  obtain ⟨a, b, c⟩ := h p hp
  exact ⟨by omega, by omega, c⟩
theorem dp_stepI {K : PySem.W.Frag} {H : Hp} {p : Addr} {a b : Nat} (h : H p = some (.tup [.int (a : Nat), .int (b : Nat)])) : Dp K H (.ref p) (stepD (a, b)) := .tup (SqT.of h) (.cons (.int _) (.cons (.int _) .nil))
theorem still_step (s : Nat × Nat) : still (stepD s) = true := by simp [stepD, still, stillAll]
theorem turn_ne {a d n : Nat} (ha : a < n) (hd : d + 1 < n) : (a + 1 + d) % n < n ∧ (a + 1 + d) % n ≠ a := by
  refine ⟨Nat.mod_lt _ (by omega), fun e => ?_⟩
  rcases Nat.lt_or_ge (a + 1 + d) n with z | z
  · rw [Nat.mod_eq_of_lt z] at e
    omega
  · rw [Nat.mod_eq_sub_mod z, Nat.mod_eq_of_lt (by omega)] at e
    omega
section
variable {P : Program} {w : World} {K : PySem.W.Frag} {mg : Str → Option Value} {base : Heap}
end
end BV

namespace BV
open PySem L2
/-! ### data in a list of data -/
def rInD (K : PySem.W.Frag) (neg : Bool) : R2 := fun x y H Q => ∃ d ds, Dp K H x d ∧ Dp K H y (.list ds) ∧ SeqAt.shaped d = true ∧ SeqAt.shaped (.list ds) = true ∧
  Q (.bl (if neg then !(ds.any fun y => PyData.eqv y d) else ds.any fun y => PyData.eqv y d)) H
theorem shaped_items {ds : List PyData} (h : SeqAt.shaped (.list ds) = true) : PyData.canLayAll0 ds = true ∧ PyData.depthAll ds ≤ 63 := by
  have h1 := SeqAt.canLay_of_shaped h
  have h2 := SeqAt.depth_of_shaped h
  simp only [PyData.depth] at h2
  exact ⟨by simpa [PyData.canLay0] using h1, by omega⟩
section
variable {X : Cx} (K : PySem.W.Frag)
theorem opInD (hu : X.A.units + 64 < cLine) (h : X.K = K := by rfl) : OpR X (compareOp .In) (rInD K false) := by
  subst h
  intro pins s σ H x y v u Q I rx ry h
  obtain ⟨d, ds, hd, he, sd, se, q⟩ := h
  obtain ⟨as, r1⟩ := Dp.reads I d x v hd rx
  obtain ⟨bs, r2⟩ := Dp.reads I (.list ds) y u he ry
  obtain ⟨hc, hdp⟩ := shaped_items se
  exact SeqAt.in_list_reads r2 r1 hc (SeqAt.canLay_of_shaped sd) (by have := Nat.min_le_left (PyData.depthAll ds) d.depth; omega) ⟨.bl _, H, I, rfl, q⟩
theorem opNotInD (hu : X.A.units + 64 < cLine) (h : X.K = K := by rfl) : OpR X (compareOp .NotIn) (rInD K true) := by
  subst h
  intro pins s σ H x y v u Q I rx ry h
  obtain ⟨d, ds, hd, he, sd, se, q⟩ := h
  obtain ⟨as, r1⟩ := Dp.reads I d x v hd rx
  obtain ⟨bs, r2⟩ := Dp.reads I (.list ds) y u he ry
  obtain ⟨hc, hdp⟩ := shaped_items se
  exact SeqAt.notIn_list_reads r2 r1 hc (SeqAt.canLay_of_shaped sd) (by have := Nat.min_le_left (PyData.depthAll ds) d.depth; omega) ⟨.bl _, H, I, rfl, q⟩
end
end BV

namespace BV
open PySem PyProof.Rows L2
/-- set of a tuple of whole numbers from 0 to 59 -/
def rSetT (w : World) (K : PySem.W.Frag) : List V → Hp → VK → Prop := fun xs H Q => ∃ (l : Addr) (ns : List Int), xs = [V.ref l] ∧ SqT K H l (ns.map V.int) ∧ ns.length ≤ 3000 ∧ (∀ j ∈ ns, 0 ≤ j ∧ j < 60) ∧
  ∀ p n, H p = none → n < 64 → Q (.ref p) (upd H p (SetO w p (fun j => decide (j ∈ ns)) n))
theorem setTK {X : Cx} (K : PySem.W.Frag) (w : World) (hc : X.calm = true) (h : X.K = K := by rfl) (hw : X.w = w := by rfl) : CallR X (.type "set") (rSetT w K) := by
  subst h hw
  intro pins s σ H xs us Q I r h
  obtain ⟨l, ns, rfl, hl, hn, hj, q⟩ := h
  rw [Vals.ref1 r]
  obtain ⟨its, rv, pl, hz⟩ := I.tuple hl
  refine call_set_tupI ns (I.ok.hd hc) pl (by simpa using ints_of_vals rv) (by unfold scanBound; omega) fun h2 tk c hS _ hk => ?_
  have hf : H s.heap.objs.size = none := I.hok.fresh (Nat.le_refl _)
  exact ⟨.ref _, upd H s.heap.objs.size (SetO X.w s.heap.objs.size (fun j => decide (j ∈ ns)) c), I.turnedNew (t' := tk) (ch := []) (fun b o _ e => hk b o e) (fun _ z => nomatch z) (Nat.le_refl _) (setO_new hS), rfl,
    q _ _ hf (setR_few hS fun j z => hj j (by simpa using z))⟩
theorem opCatA {X : Cx} (K : PySem.W.Frag) (h : X.K = K := by rfl) : OpR X (binaryOp .Add) (rCatA K) := by
  subst h
  exact op_catA
end BV

namespace BV
open PySem L2 RZ
def sidesL : Nat → List (List Nat)
  | 0 => [[]]
  | k + 1 => sidesL k ++ (sidesL k).map (· ++ [k + 1])
theorem sidesL_len : ∀ k, (sidesL k).length = 2 ^ k
  | 0 => rfl
  | k + 1 => by
    show (sidesL k ++ (sidesL k).map (· ++ [k + 1])).length = _
    rw [List.length_append, List.length_map, sidesL_len k, Nat.pow_succ]
    omega
theorem sidesL_lt : ∀ k, ∀ s ∈ sidesL k, (∀ x ∈ s, 1 ≤ x ∧ x ≤ k) ∧ s.length ≤ k
  | 0, s, h => by
    rw [List.mem_singleton.mp h]
    simp
  | k + 1, s, h => by
    rcases List.mem_append.mp h with h | h
    · obtain ⟨a, b⟩ := sidesL_lt k s h
      exact ⟨fun x hx => by have := a x hx; omega, by omega⟩
    · obtain ⟨t, ht, rfl⟩ := List.mem_map.mp h
      obtain ⟨a, b⟩ := sidesL_lt k t ht
      refine ⟨fun x hx => ?_, by rw [List.length_append, List.length_singleton]; omega⟩
      rcases List.mem_append.mp hx with z | z
      · have := a x z
        omega
      · rw [List.mem_singleton.mp z]
        omega
theorem sidesL_all (S : Nat → Bool) : ∀ k, ∃ s ∈ sidesL k, ∀ x, 1 ≤ x → x ≤ k → (x ∈ s ↔ S x = true)
  | 0 => ⟨[], List.mem_singleton.mpr rfl, fun x a b => by omega⟩
  | k + 1 => by
    obtain ⟨s, hs, h⟩ := sidesL_all S k
    cases e : S (k + 1) with
    | false =>
      refine ⟨s, List.mem_append_left _ hs, fun x a b => ?_⟩
      by_cases z : x = k + 1
      · subst z
        refine ⟨fun q => ?_, fun q => by rw [e] at q; cases q⟩
        have := (sidesL_lt k s hs).1 _ q
        omega
      · exact h x a (by omega)
    | true =>
      refine ⟨s ++ [k + 1], List.mem_append_right _ (List.mem_map.mpr ⟨s, hs, rfl⟩), fun x a b => ?_⟩
      rw [List.mem_append, List.mem_singleton]
      by_cases z : x = k + 1
      · subst z
        simp [e]
      · rw [h x a (by omega)]
        simp [z]
theorem still_lots : ∀ ls : List (List Nat), stillAll (ls.map lotD) = true
  | [] => by simp [stillAll]
  | l :: ls => by
    show (still (lotD l) && stillAll (ls.map lotD)) = true
    rw [still_lots ls, still_lot, Bool.and_self]
section
variable {P : Program} {w : World} {K : PySem.W.Frag} {mg : Str → Option Value} {base : Heap}
end
end BV

namespace BV
open PySem L2 RZ
abbrev sTpairs : Stmt := top 36
abbrev nTpairs : List Str := ["_law_cup_here", "_law_most", "_law_room", "_law_many", "_law_pairs", "_law_turn", "_law_way", "_law_ends", "_law_one", "_law_side", "_law_end"]
abbrev pTpairs : List Str := ["_law_cup_here", "_law_most", "_law_room"]
theorem scTpairs : FnScope nTpairs pTpairs (defScope sTpairs) := ⟨rfl, rfl, rfl, by decide +kernel, rfl, by decide +kernel, by decide +kernel⟩
theorem OwC.add {b g : Addr} {H0 H H' : Hp} {as : List (Addr × List V)} {E : Addr} {xs : List V} (O : OwC b g H0 H as) (hE : H E = none) (k : Kp b g H H') (B : Cup H' b g) (h : H' E = some (.lst xs)) : OwC b g H0 H' ((E, xs) :: as) := by
  obtain ⟨nb, ng⟩ := cup_ne O.bx hE
  have O2 := O.draw k B
  refine ⟨O2.kp, B, fun p hp => ?_, fun p hp => ?_, fun p hp => ?_, ?_⟩
  · rcases List.mem_cons.mp hp with e | e
    · rw [e]
      exact h
    · exact O2.hold p e
  · rcases List.mem_cons.mp hp with e | e
    · rw [e]
      exact kp_oldC O.kp hE nb ng
    · exact O.fr p e
  · rcases List.mem_cons.mp hp with e | e
    · rw [e]
      exact ⟨nb, ng⟩
    · exact O.ne p e
  · refine List.nodup_cons.mpr ⟨fun z => ?_, O.nd⟩
    obtain ⟨p, hp, e⟩ := List.mem_map.mp z
    have := O.hold p hp
    rw [e, hE] at this
    cases this
theorem mem_erase {α : Type} [DecidableEq α] {l : List α} {j : Nat} {z : α} (h : l[j]? = some z) : ∀ p ∈ l, p = z ∨ p ∈ l.eraseIdx j := fun p hp => by
  have := (erase_perm h).mem_iff.mpr hp
  rcases List.mem_cons.mp this with e | e
  · exact .inl e
  · exact .inr e
theorem lay_steps : ∀ ps : List (Nat × Nat), PyData.canLayAll0 (ps.map stepD) = true ∧ PyData.depthAll (ps.map stepD) ≤ 1
  | [] => by simp [PyData.canLayAll0, PyData.depthAll]
  | t :: ts => by
    obtain ⟨a, b⟩ := lay_steps ts
    have e : (stepD t).depth = 1 := by simp [stepD, PyData.depth, PyData.depthAll]
    have e2 : (stepD t).canLay0 = true := by simp [stepD, PyData.canLay0, PyData.canLayAll0]
    refine ⟨by simp [PyData.canLayAll0, a, e2], ?_⟩
    simp only [List.map_cons, PyData.depthAll, e]
    omega
theorem shaped_stepsL (ps : List (Nat × Nat)) : SeqAt.shaped (.list (ps.map stepD)) = true := by
  obtain ⟨a, b⟩ := lay_steps ps
  have h3 : PyData.depthAll (ps.map stepD) + 1 ≤ 64 := by omega
  simp only [SeqAt.shaped, PyData.canLay0, PyData.depth, a, Bool.true_and]
  exact decide_eq_true h3
/-- each cut has three ties or more -/
def T3 (n : Nat) (ps : List (Nat × Nat)) : Prop := ∀ S : Nat → Bool, (∃ a, a < n ∧ S a = true) → (∃ b, b < n ∧ S b = false) → 3 ≤ cutN S ps
theorem cutN_appP (S : Nat → Bool) : ∀ ts us : List (Nat × Nat), cutN S (ts ++ us) = cutN S ts + cutN S us
  | [], us => by simp [cutN]
  | t :: ts, us => by
    show (if S t.1 = S t.2 then 0 else 1) + cutN S (ts ++ us) = (if S t.1 = S t.2 then 0 else 1) + cutN S ts + cutN S us
    rw [cutN_appP S ts us]
    omega
theorem t3_one : T3 1 [] := fun S ⟨a, ha, ea⟩ ⟨b, hb, eb⟩ => by
  obtain rfl : a = 0 := by omega
  obtain rfl : b = 0 := by omega
  rw [ea] at eb
  cases eb
theorem t3_app {n : Nat} {ps : List (Nat × Nat)} (h : T3 n ps) (qs : List (Nat × Nat)) : T3 n (ps ++ qs) := fun S a b => by
  have := h S a b
  rw [cutN_appP]
  omega
theorem cutN_erase (S : Nat → Bool) : ∀ {ps : List (Nat × Nat)} {j : Nat} {z : Nat × Nat}, ps[j]? = some z → cutN S ps = cutN S (ps.eraseIdx j) + (if S z.1 = S z.2 then 0 else 1)
  | [], _, _, h => by simp at h
  | p :: ps, 0, z, h => by
    simp at h
    subst h
    show (if S p.1 = S p.2 then 0 else 1) + cutN S ps = cutN S ps + _
    omega
  | p :: ps, j + 1, z, h => by
    have := cutN_erase S (ps := ps) (j := j) (z := z) (by simpa using h)
    show (if S p.1 = S p.2 then 0 else 1) + cutN S ps = (if S p.1 = S p.2 then 0 else 1) + cutN S (ps.eraseIdx j) + _
    omega
/-- a side that is not the same at all old places is one of the old web -/
theorem side_cases {n : Nat} {S : Nat → Bool} (h1 : ∃ a, a < n + 1 ∧ S a = true) (h2 : ∃ b, b < n + 1 ∧ S b = false) : ((∃ a, a < n ∧ S a = true) ∧ ∃ b, b < n ∧ S b = false) ∨ ∀ x, x < n → S x ≠ S n := by
  by_cases hT : ∃ a, a < n ∧ S a = true
  · by_cases hF : ∃ b, b < n ∧ S b = false
    · exact .inl ⟨hT, hF⟩
    · refine .inr fun x hx e => ?_
      have hxt : S x = true := by
        cases z : S x with
        | true => rfl
        | false => exact absurd ⟨x, hx, z⟩ hF
      obtain ⟨b, hb, eb⟩ := h2
      have : b = n := Classical.byContradiction fun z => hF ⟨b, by omega, eb⟩
      subst this
      rw [hxt, eb] at e
      cases e
  · refine .inr fun x hx e => ?_
    have hxf : S x = false := by
      cases z : S x with
      | false => rfl
      | true => exact absurd ⟨x, hx, z⟩ hT
    obtain ⟨a, ha, ea⟩ := h1
    have : a = n := Classical.byContradiction fun z => hT ⟨a, by omega, ea⟩
    subst this
    rw [hxf, ea] at e
    cases e
theorem t3_ends {n : Nat} {ps : List (Nat × Nat)} {es : List Nat} (h : T3 n ps) (hl : es.length = 3) (he : ∀ e ∈ es, e < n) : T3 (n + 1) (ps ++ es.map fun e => (e, n)) := fun S a b => by
  match es, hl with
  | [x, y, z], _ =>
    rw [cutN_appP]
    rcases side_cases a b with ⟨h1, h2⟩ | hd
    · have := h S h1 h2
      omega
    · have e1 := hd x (he x (by simp))
      have e2 := hd y (he y (by simp))
      have e3 := hd z (he z (by simp))
      simp only [List.map_cons, List.map_nil, cutN]
      rw [if_neg e1, if_neg e2, if_neg e3]
      omega
theorem t3_put {n : Nat} {ps : List (Nat × Nat)} {j c : Nat} {t : Nat × Nat} (h : T3 n ps) (hj : ps[j]? = some t) (h1 : t.1 < n) (h2 : t.2 < n) (h3 : c < n) : T3 (n + 1) ((ps.eraseIdx j ++ [(t.1, n), (t.2, n)]) ++ [(c, n)]) := fun S a b => by
  rw [cutN_appP, cutN_appP]
  simp only [cutN]
  rcases side_cases a b with ⟨g1, g2⟩ | hd
  · have := h S g1 g2
    rw [cutN_erase S hj] at this
    have key : (if S t.1 = S t.2 then 0 else 1) ≤ (if S t.1 = S n then 0 else 1) + (if S t.2 = S n then 0 else 1) := by
      cases S t.1 <;> cases S t.2 <;> cases S n <;> decide
    omega
  · rw [if_neg (hd _ h1), if_neg (hd _ h2), if_neg (hd _ h3)]
    omega
theorem t3_joi {n : Nat} {ps : List (Nat × Nat)} (h : T3 n ps) : Joi n ps := fun S a b => by
  have := h S a b
  refine Classical.byContradiction fun hno => ?_
  have hz : ∀ l : List (Nat × Nat), (∀ p ∈ l, S p.1 = S p.2) → cutN S l = 0 := by
    intro l
    induction l with
    | nil => exact fun _ => rfl
    | cons p l ih =>
      intro hl
      simp only [cutN]
      rw [if_pos (hl p (List.mem_cons_self ..)), ih fun q hq => hl q (List.mem_cons_of_mem _ hq)]
  rw [hz ps fun p hp => Classical.byContradiction fun e => hno ⟨p, hp, e⟩] at this
  omega
def spTpairs (K : PySem.W.Frag) : Sp := fun vs H Q _ => ∃ (b g : Addr) (most room : Nat), vs = [.ref b, .int most, .int room] ∧ 1 ≤ most ∧ most ≤ 50 ∧ room ≤ 300 ∧ Cup H b g ∧
  ∀ (p l : Addr) (n : Nat) (xs : List V) (ps : List (Nat × Nat)) H', Kp b g H H' → Cup H' b g → SqT K H' p [.int n, .ref l] → H' l = some (.lst xs) → l ≠ b → l ≠ g → H l = none → DpAll K H' xs (ps.map stepD) →
    1 ≤ n → n ≤ most → ps.length ≤ room → WOkP n ps → T3 n ps → Q (.ref p) H'
section
variable {P : Program} {w : World} {K : PySem.W.Frag} {mg : Str → Option Value} {base : Heap}
theorem ok_tpairs {f f1 : Addr} {fd fd1 : FuncData} (D : Df K mg "_law_thick_pairs" sTpairs pTpairs f fd) (T : Bl mg) (hlist : mg "list" = none) (D_draw : Df K mg "_law_draw" sDraw pDraw f1 fd1) : FnOk P w K mg base CX0 2 f fd pTpairs (spTpairs K) := by
  have G_draw : FnOk P w K mg base CX0 1 f1 fd1 pDraw spDrawC := ok_draw D_draw T
  refine D.fn.ok scTpairs (fun vs H Q E h => ?_) (fun cdv A outer s H vs Q E hr h => ?_)
  · obtain ⟨b, g, most, room, rfl, _⟩ := h
    rfl
  · obtain ⟨b, g, most, room, rfl, hm1, hm2, hr3, hB, k⟩ := h
    have nd := scTpairs.nd
    have hr_draw : Room 1 _ := hr
    refine ⟨_, (pss_cons (ps_asg (pe_tup (pa_cons pe_int (pa_cons (pe_lst pa_nil) pa_nil))) (pgT K rfl (pgs_cons (pg_name (i := 3) nd rfl (by first | exact Or.inl rfl | exact Or.inr rfl)) (pgs_cons (pg_name (i := 4) nd rfl (by first | exact Or.inl rfl | exact Or.inr rfl)) pgs_nil))))
      (pss_cons (ps_for PassesOwn.never rfl (pi_range1 rfl T.range (pa_cons (pe_call G_draw hr_draw (by rfl) D_draw.ad D_draw.fn.kp D_draw.bd .nil pass0 (pa_cons (pv 0) (pa_cons (pe_op op_mul pe_int (pv 1)) pa_nil))) pa_nil)) (pg_name (i := 5) nd rfl (by first | exact Or.inl rfl | exact Or.inr rfl)) (pss_cons (ps_set (i := 6) nd rfl (by first | exact Or.inl rfl | exact Or.inr rfl) (pe_call G_draw hr_draw (by rfl) D_draw.ad D_draw.fn.kp D_draw.bd .nil pass0 (pa_cons (pv 0) (pa_cons pe_int pa_nil))))
      (pss_one (ps_if (PW.pt (pw_and (pt_cmpR op_lt (pv 3) (pv 1) (nomark _)) (pw_and (pt_cmpR op_le (pe_op op_add (pe_callB (lenK K) (by rfl) T.len PySem.boot_len (pa_cons (pv 4) pa_nil)) pe_int) (pv 2) (nomark _)) (pw_and1 (PW.pt (pw_or (pt_cmpR op_gt (pv 6) pe_int (nomark _)) (pw_or1 (pt_cmpR op_eq (pv 3) pe_int (nomark _))))))))) (pss_cons (ps_setLc (i := 7) (own := [("_law_side", 9)]) (g := (gName 9)) (tt := tYes) rfl nd rfl rfl (sw_true rfl rfl rfl (by decide +kernel)) (pi_range1 rfl T.range (pa_cons pe_int pa_nil)) (blkOk_by (own := [("_law_side", 9)]) (N := nTpairs) (sc := defScope sTpairs) (by decide +kernel)) (fun _ _ _ _ _ => (pg_name (i := 9) nd rfl (by first | exact Or.inl rfl | exact Or.inr rfl))) (fun _ _ _ _ _ => pts_nil) (fun _ _ _ _ _ => (pe_call G_draw hr_draw (by rfl) D_draw.ad D_draw.fn.kp D_draw.bd .nil pass0 (pa_cons (pv 0) (pa_cons (pv 3) pa_nil)))))
      (pss_cons (ps_if (PW.pt (pw_and (pt_cmpR op_eq (pv 6) pe_int (nomark _)) (pw_and1 (pt_cmpR (opNeD K hr.units) (pv 4) (pe_lst pa_nil) (nomark _))))) (pss_one (ps_set (i := 7) nd rfl (by first | exact Or.inl rfl | exact Or.inr rfl) (pe_op op_cat (pe_callTy call_list_of (by rfl) hlist (by decide +kernel) (pa_cons (pe_bm PySem.F.plainAttrs_list PySem.F.slot_list_pop PySem.F.type_list_pop mt_popAt (pv 4) (pa_cons (pe_call G_draw hr_draw (by rfl) D_draw.ad D_draw.fn.kp D_draw.bd .nil pass0 (pa_cons (pv 0) (pa_cons (pe_callB (lenK K) (by rfl) T.len PySem.boot_len (pa_cons (pv 4) pa_nil)) pa_nil))) pa_nil)) pa_nil)) (pe_slice (slL K) (pv 7) po_none (po_some pe_int))))) pss_nil)
      (pss_cons (ps_set (i := 4) nd rfl (by first | exact Or.inl rfl | exact Or.inr rfl) (pe_op op_cat (pv 4) (pe_lc (own := [("_law_end", 10)]) (g := (gName 10)) (tt := tYes) rfl nd (piL K (pv 7)) (blkOk_by (own := [("_law_end", 10)]) (N := nTpairs) (sc := defScope sTpairs) (by decide +kernel)) (fun _ _ _ _ _ => (pg_name (i := 10) nd rfl (by first | exact Or.inl rfl | exact Or.inr rfl))) (fun _ _ _ _ _ => pts_nil) (fun _ _ _ _ _ => (pe_tup (pa_cons (pv 10) (pa_cons (pv 3) pa_nil)))))))
      (pss_one (ps_set (i := 3) nd rfl (by first | exact Or.inl rfl | exact Or.inr rfl) (pe_op op_add (pv 3) pe_int)))))) (pss_one (ps_if (PW.pt (pw_and (pt_cmpR op_gt (pv 3) pe_int (nomark _)) (pw_and1 (pt_cmpR op_lt (pe_callB (lenK K) (by rfl) T.len PySem.boot_len (pa_cons (pv 4) pa_nil)) (pv 2) (nomark _))))) (pss_cons (ps_set (i := 8) nd rfl (by first | exact Or.inl rfl | exact Or.inr rfl) (pe_call G_draw hr_draw (by rfl) D_draw.ad D_draw.fn.kp D_draw.bd .nil pass0 (pa_cons (pv 0) (pa_cons (pv 3) pa_nil))))
      (pss_one (ps_expr (pe_bm PySem.F.plainAttrs_list PySem.F.slot_list_append PySem.F.type_list_append mt_append (pv 4) (pa_cons (pe_tup (pa_cons (pv 8) (pa_cons (pe_op op_mod (pe_callTy call_int1 (by rfl) T.int (by decide +kernel) (pa_cons (pe_op op_add (pe_op op_add (pv 8) pe_int) (pe_call G_draw hr_draw (by rfl) D_draw.ad D_draw.fn.kp D_draw.bd .nil pass0 (pa_cons (pv 0) (pa_cons (pe_op op_sub (pv 3) pe_int) pa_nil)))) pa_nil)) (pv 3)) pa_nil))) pa_nil))))) pss_nil))))))
      (pss_one (ps_ret (pe_tup (pa_cons (pv 3) (pa_cons (pv 4) pa_nil))))))), ?_⟩
    have O : OwC b g H H [] := OwC.zero hB
    refine tSeq_go ?_
    refine ⟨Nat.zero_le _, fun l0 hl0 => ?_⟩
    have O := O.new (xs := []) hl0
    generalize upd H l0 (.lst []) = H1 at *
    refine ⟨by show 2 ≤ sizeLine; decide, fun tp htp => ?_⟩
    have O := O.same (same_new (o := .tup [.int 1, .ref l0]) htp)
    refine ⟨tp, _, rfl, SqT.of upd_same, rfl, _, _, rfl, _, _, rfl, rfl, ?_⟩
    refine at_st [some (.ref b), some (.int most), some (.int room), some (.int 1), some (.ref l0), none, none, none, none, none, none] rfl ?_
    dsimp only
    refine tSeq_go ?_
    refine ⟨_, rfl, _, rfl, _, _, rfl, rfl, .inl ⟨by omega, by omega⟩, b, g, 2 * (most : Int), rfl, by omega, by omega, O.bx, fun r H2 r0 r1 kp2 B2 => ?_⟩
    have O := O.draw kp2 B2
    refine ⟨_, rfl, by omega, by omega, ?_⟩
    refine for_range (lo := 0) (n := r.toNat) (fun i σ Hc => ∃ (v5 v6 v7 v8 v9 v10 : Option V) (n : Nat) (l : Addr) (xs : List V) (ps : List (Nat × Nat)), σ = [some (.ref b), some (.int most), some (.int room), some (.int n), some (.ref l), v5, v6, v7, v8, v9, v10] ∧
      OwC b g H Hc [(l, xs)] ∧ DpAll K Hc xs (ps.map stepD) ∧ 1 ≤ n ∧ n ≤ most ∧ ps.length ≤ room ∧ WOkP n ps ∧ T3 n ps) ?_ ?_ ?_
    · exact ⟨none, none, none, none, none, none, 1, l0, [], [], rfl, O, .nil, by omega, hm1, Nat.zero_le _, (fun p hp => nomatch hp), t3_one⟩
    · clear O
      rintro i σ H3 hi ⟨v5, v6, v7, v8, v9, v10, n, l, xs, ps, rfl, O, hxs, hn1, hnm, hpr, hw, hj⟩
      have hxl : xs.length = ps.length := by rw [dpAll_len hxs, List.length_map]
      show tSeq _ _ _ _ _
      refine tSeq_go ?_
      refine ⟨_, rfl, b, g, 4, rfl, by decide, by decide, O.bx, fun r4 H4 r40 r41 kp4 B4 => ?_⟩
      have hxs := dpAll_kf (KF.of_kpC kp4 O.bx) _ (still_steps ps) hxs
      have O := O.draw kp4 B4
      dsimp only [gName]
      refine at_st [some (.ref b), some (.int most), some (.int room), some (.int n), some (.ref l), some (.int (0 + (i : Int))), some (.int r4), v7, v8, v9, v10] rfl ?_
      refine tIfS_t (fun c H' => H' = H4 ∧ (c = true → n < most ∧ ps.length + 3 ≤ room)) ?_ ?_ (fun cont => ?_)
      rotate_left
      rotate_left
      · refine ⟨_, rfl, _, rfl, _, _, rfl, rfl, _, rfl, ite2 (fun h1 => ?_) (fun h1 => cont _ _ ⟨rfl, fun e => nomatch e⟩)⟩
        have h1 : (n : Int) < most := of_decide_eq_true h1
        refine ⟨_, rfl, l, xs, rfl, .inl (SqL.of (O.at0 0 rfl)), _, _, rfl, rfl, _, rfl, _, _, rfl, rfl, _, rfl, ite2 (fun h2 => ?_) (fun h2 => cont _ _ ⟨rfl, fun e => nomatch e⟩)⟩
        have h2 : (xs.length : Int) + 3 ≤ room := of_decide_eq_true h2
        refine ⟨_, rfl, _, _, rfl, rfl, _, rfl, ite2 (fun h3 => ?_) (fun h3 => ?_)⟩
        · exact cont _ _ ⟨rfl, fun _ => ⟨by omega, by omega⟩⟩
        · refine ⟨_, rfl, rfl, _, rfl, ?_⟩
          exact cont _ _ ⟨rfl, fun _ => ⟨by omega, by omega⟩⟩
      · rintro H' ⟨rfl, hc⟩
        obtain ⟨hnn, hpl⟩ := hc rfl
        refine tSeq_go ?_
        refine tAsg_by (fun u H' => ∃ (el : Addr) (es : List Nat), u = .ref el ∧ OwC b g H H' [(el, natsV es), (l, xs)] ∧ DpAll K H' xs (ps.map stepD) ∧ es.length = 3 ∧ ∀ e ∈ es, e < n) ?_ (fun cont => ?_)
        rotate_left
        · refine ⟨3, rfl, by decide, by decide, fun E1 hE1 => ?_⟩
          refine lc_runC (walk_range (lo := 0) (n := (3 : Int).toNat)) hE1 O.bx (fun i acc _ => ∃ es : List Nat, acc = natsV es ∧ es.length = i ∧ ∀ e ∈ es, e < n) ?_ ?_ ?_ ?_
          · exact fun H' _ _ => trivial
          · exact ⟨[], rfl, rfl, by simp⟩
          · rintro i2 x acc H5 H' nb ng hi2 hacc e kp5 B5 ⟨es, rfl, h1, h2⟩ ⟨rfl, rfl⟩
            refine ⟨rfl, yes_go ?_⟩
            refine ⟨_, rfl, _, rfl, b, g, (n : Int), rfl, by omega, by omega, B5, fun r6 H6 r60 r61 kp6 B6 => ?_⟩
            obtain ⟨q, rfl⟩ : ∃ j : Nat, r6 = (j : Int) := ⟨r6.toNat, by omega⟩
            have hi3 : i2 < 3 := hi2
            refine lc_addC nb ng hacc e kp6 B6 (by rw [natsV_len]; omega) ⟨es ++ [q], natsV_snoc _ _, by rw [List.length_append, h1]; rfl, fun e he => ?_⟩
            rcases List.mem_append.mp he with z | z
            · exact h2 e z
            · rw [List.mem_singleton.mp z]
              omega
          · rintro acc H5 h1 kp5 B5 ⟨es, rfl, h2, h3⟩
            exact cont _ _ ⟨E1, es, rfl, OwC.add O hE1 kp5 B5 h1, dpAll_kf (KF.of_kpC kp5 O.bx) _ (still_steps ps) hxs, h2, h3⟩
        rintro _ H5 ⟨el, es, rfl, O, hxs, hel, hes⟩
        dsimp only [gName]
        refine at_st [some (.ref b), some (.int most), some (.int room), some (.int n), some (.ref l), some (.int (0 + (i : Int))), some (.int r4), some (.ref el), v8, v9, v10] rfl ?_
        refine tSeq_go ?_
        refine tIfS_by (fun σ' H' => ∃ (el : Addr) (es : List Nat) (xs : List V) (ps' : List (Nat × Nat)), σ' = [some (.ref b), some (.int most), some (.int room), some (.int n), some (.ref l), some (.int (0 + (i : Int))), some (.int r4), some (.ref el), v8, v9, v10] ∧
          OwC b g H H' [(el, natsV es), (l, xs)] ∧ DpAll K H' xs (ps'.map stepD) ∧ es.length = 3 ∧ (∀ e ∈ es, e < n) ∧ ps'.length ≤ ps.length ∧ WOkP n ps' ∧ T3 (n + 1) (ps' ++ es.map fun e => (e, n))) ?_ (fun cont => ?_)
        rotate_left
        · refine tIfS_t (fun c H' => (c = true → 0 < ps.length) ∧ OwC b g H H' [(el, natsV es), (l, xs)] ∧ DpAll K H' xs (ps.map stepD)) ?_ ?_ (fun both => ?_)
          rotate_left
          · rintro H' ⟨_, O, hxs⟩
            exact cont _ _ ⟨el, es, xs, ps, rfl, O, hxs, hel, hes, Nat.le_refl _, hw, t3_ends hj hel hes⟩
          · refine ⟨_, rfl, rfl, _, rfl, ite2 (fun h1 => ?_) (fun h1 => both _ _ ⟨(fun e => nomatch e), O, hxs⟩)⟩
            refine ⟨_, rfl, Nat.zero_le _, fun q hq => ?_⟩
            have sq := same_new (o := .lst []) hq
            have O := O.same sq
            have hxs := dpAll_kf (KF.of_same sq) _ (still_steps ps) hxs
            refine ⟨.list (ps.map stepD), .list [], .lst (SqL.of (O.at0 1 rfl)) hxs, .lst (SqL.of upd_same) .nil, shaped_stepsL ps, shaped_intsL [], _, rfl, ?_⟩
            refine both _ _ ⟨fun e => ?_, O, hxs⟩
            cases ps with
            | nil => simp [PyData.eqv, PyData.eqvAll] at e
            | cons p ps => exact Nat.succ_pos _
          · rintro H' ⟨hc, O, hxs⟩
            have hc := hc rfl
            refine ⟨_, rfl, .inl ⟨rfl, _, SqL.of (O.at0 1 rfl)⟩, ?_⟩
            refine ⟨_, rfl, _, rfl, l, _, rfl, .inl (SqL.of (O.at0 1 rfl)), b, g, (xs.length : Int), rfl, by omega, by omega, O.bx, fun r He r0 r1 kpe hBe => ?_⟩
            obtain ⟨j, rfl⟩ : ∃ j : Nat, r = (j : Int) := ⟨r.toNat, by omega⟩
            have hjl : j < ps.length := by omega
            have hxs := dpAll_kf (KF.of_kpC kpe O.bx) _ (still_steps ps) hxs
            have O := O.draw kpe hBe
            have hjx : ps[j]? = some ps[j] := List.getElem?_eq_getElem hjl
            generalize ps[j] = z at hjx
            have hvj : xs[j]? = some xs[j] := List.getElem?_eq_getElem (by omega)
            generalize xs[j] = v at hvj
            obtain ⟨d, hd, hvd⟩ := dpAll_get hxs hvj
            obtain ⟨z', hz', rfl⟩ := get_map hd
            rw [hjx] at hz'
            cases hz'
            obtain ⟨pa, rfl, hpa⟩ := dp_step hvd
            have hzok := hw z (List.mem_of_getElem? hjx)
            refine ⟨l, _, _, j, _, rfl, rfl, O.at0 1 rfl, by omega, by omega, seq_nat (by omega), hvj, ?_⟩
            have kf2 : KF He (upd He l (.lst (xs.eraseIdx j))) := KF.of_upd (O.at0 1 rfl)
            have hr2 := dpAll_kf kf2 _ (by rw [map_erase]; exact still_steps _) (dpAll_erase j hxs)
            have hpa2 := sqT_kf kf2 hpa
            rw [map_erase] at hr2
            have O : OwC b g H _ [(el, natsV es), (l, xs.eraseIdx j)] := O.put 1 rfl
            generalize upd He l (.lst (xs.eraseIdx j)) = Hf at *
            refine ⟨pa, _, rfl, .inr hpa2, fun e2 he2 => ?_⟩
            have s2 := same_new (o := .lst [V.int (z.1 : Nat), V.int (z.2 : Nat)]) he2
            have hE2 : (upd Hf e2 (.lst [V.int (z.1 : Nat), V.int (z.2 : Nat)])) e2 = some (.lst [V.int (z.1 : Nat), V.int (z.2 : Nat)]) := upd_same
            have O := O.same s2
            have hr2 := dpAll_kf (KF.of_same s2) _ (still_steps _) hr2
            generalize upd Hf e2 (.lst [V.int (z.1 : Nat), V.int (z.2 : Nat)]) = Hg at *
            match es, hel, hes with
            | [ea, eb, ec], _, hes =>
              refine ⟨_, rfl, _, rfl, el, _, rfl, SqL.of (O.at0 0 rfl), fun q0 hq0 => ?_⟩
              have s3 := same_new (o := .lst [V.int (ea : Nat)]) hq0
              have hQ0 : (upd Hg q0 (.lst [V.int (ea : Nat)])) q0 = some (.lst [V.int (ea : Nat)]) := upd_same
              have O := O.same s3
              have hr2 := dpAll_kf (KF.of_same s3) _ (still_steps _) hr2
              have hE3 := s3 _ _ hE2
              refine ⟨e2, q0, _, _, rfl, rfl, hE3, hQ0, by show 3 ≤ sizeLine; decide, fun p hp => ?_⟩
              have s4 := same_new (o := .lst [V.int (z.1 : Nat), V.int (z.2 : Nat), V.int (ea : Nat)]) hp
              have hr2 := dpAll_kf (KF.of_same s4) _ (still_steps _) hr2
              have O2 : OwC b g H _ ((p, [V.int (z.1 : Nat), V.int (z.2 : Nat), V.int (ea : Nat)]) :: _) := O.new hp
              have O2 : OwC b g H _ [(p, natsV [z.1, z.2, ea]), (l, xs.eraseIdx j)] := O2.sub (List.Sublist.cons₂ _ (List.Sublist.cons _ (List.Sublist.refl _)))
              refine cont _ _ ⟨p, [z.1, z.2, ea], _, ps.eraseIdx j, rfl, O2, hr2, rfl, ?_, by rw [List.length_eraseIdx]; split <;> omega, fun q hq => hw q (List.mem_of_mem_eraseIdx hq), ?_⟩
              · intro e he
                simp only [List.mem_cons, List.not_mem_nil, or_false] at he
                rcases he with rfl | rfl | rfl
                · exact hzok.1
                · exact hzok.2.1
                · exact hes e (by simp)
              · have h1 := t3_put hj hjx hzok.1 hzok.2.1 (hes ea (by simp))
                rw [List.append_assoc] at h1
                exact h1
        · rintro σ' H6 ⟨el, es, xs, ps', rfl, O, hxs, hel, hes, hpl', hw', hj'⟩
          have hxl' : xs.length = ps'.length := by rw [dpAll_len hxs, List.length_map]
          refine tSeq_go ?_
          refine ⟨_, rfl, _, rfl, el, rfl, ⟨_, SqL.of (O.at0 0 rfl)⟩, fun E1 hE1 => ?_⟩
          refine lc_run (walk_list (xs := natsV es)) hE1 (fun j acc Hq => DpAll K Hq acc (((es.take j).map fun e => (e, n)).map stepD) ∧ acc.length = j) ?_ ?_ ?_ ?_
          · exact fun H' s => SqL.of (s _ _ (O.at0 0 rfl))
          · exact ⟨by rw [List.take_zero]; exact .nil, rfl⟩
          · rintro j x acc H7 H' hjj hacc e s ⟨hd, hlen⟩ ⟨rfl, hx⟩
            obtain ⟨ee, hee, rfl⟩ := get_map (f := fun (k : Nat) => V.int k) hx
            refine ⟨rfl, yes_go ?_⟩
            refine ⟨_, rfl, _, rfl, by show 2 ≤ sizeLine; decide, fun p hp => ?_⟩
            have sp := same_new (o := .tup [.int (ee : Nat), .int (n : Nat)]) hp
            have pne : p ≠ E1 := fun z => by rw [z, hacc] at hp; cases hp
            have hj3 : j < 3 := by rw [natsV_len, hel] at hjj; exact hjj
            refine lc_add hacc e sp (by omega) ⟨?_, by rw [List.length_append, hlen]; rfl⟩
            rw [show es.take (j + 1) = es.take j ++ [ee] by rw [List.take_add_one, hee]; rfl, List.map_append, List.map_append]
            exact dpAll_app (dpAll_same (era_same sp) _ hd) (.cons (dp_stepI (by rw [era_ne pne]; exact upd_same)) .nil)
          · rintro acc H7 h1 s7 ⟨hd, hlen⟩
            have hd := dpAll_same era_back _ hd
            rw [natsV_len, List.take_length] at hd
            rw [natsV_len, hel] at hlen
            have O := O.same s7
            refine ⟨l, E1, xs, acc, rfl, rfl, O.at0 1 rfl, h1, Nat.le_trans (show xs.length + acc.length ≤ 100000 by omega) (by decide), fun p hp => ?_⟩
            have sp := same_new (o := .lst (xs ++ acc)) hp
            have O2 : OwC b g H _ ((p, xs ++ acc) :: _) := O.new hp
            have O2 : OwC b g H _ [(p, xs ++ acc)] := O2.sub (List.Sublist.cons₂ _ (List.nil_sublist _))
            dsimp only [gName]
            refine at_st [some (.ref b), some (.int most), some (.int room), some (.int n), some (.ref p), some (.int (0 + (i : Int))), some (.int r4), some (.ref el), v8, v9, v10] rfl ?_
            refine ⟨_, rfl, _, _, rfl, rfl, ?_⟩
            refine ⟨_, _, _, _, _, _, n + 1, p, xs ++ acc, ps' ++ es.map fun e => (e, n), rfl, O2, ?_, by omega, by omega, by rw [List.length_append, List.length_map]; omega, ?_, hj'⟩
            · rw [List.map_append]
              exact dpAll_app (dpAll_same (s7.trans sp) _ hxs) (dpAll_same sp _ hd)
            · refine wok_app (wok_up hw') fun q hq => ?_
              obtain ⟨e, he, rfl⟩ := List.mem_map.mp hq
              have := hes e he
              exact ⟨by show e < n + 1; omega, by show n < n + 1; omega, by show e ≠ n; omega⟩
      · rintro H' ⟨rfl, _⟩
        refine tIfS_t (fun c H2 => H2 = H' ∧ (c = true → 1 < n ∧ ps.length < room)) ?_ ?_ (fun cont => ?_)
        rotate_left
        · rintro H2 ⟨rfl, _⟩
          exact ⟨_, _, _, _, _, _, n, l, xs, ps, rfl, O, hxs, hn1, hnm, hpr, hw, hj⟩
        · refine ⟨_, rfl, _, _, rfl, rfl, _, rfl, ite2 (fun h1 => ?_) (fun h1 => cont _ _ ⟨rfl, fun e => nomatch e⟩)⟩
          have h1 : 1 < (n : Int) := of_decide_eq_true h1
          refine ⟨_, rfl, l, xs, rfl, .inl (SqL.of (O.at0 0 rfl)), _, rfl, _, _, rfl, rfl, _, rfl, ?_⟩
          exact cont _ _ ⟨rfl, fun e => ⟨by omega, by have := of_decide_eq_true e; omega⟩⟩
        · rintro H2 ⟨rfl, hc⟩
          obtain ⟨hn2, hpl⟩ := hc rfl
          refine tSeq_go ?_
          refine ⟨_, rfl, _, rfl, b, g, (n : Int), rfl, by omega, by omega, O.bx, fun r H5 q0 q1 kp5 B5 => ?_⟩
          obtain ⟨one, rfl⟩ : ∃ j : Nat, r = (j : Int) := ⟨r.toNat, by omega⟩
          have hxs := dpAll_kf (KF.of_kpC kp5 O.bx) _ (still_steps ps) hxs
          have O := O.draw kp5 B5
          dsimp only [gName]
          refine at_st [some (.ref b), some (.int most), some (.int room), some (.int n), some (.ref l), some (.int (0 + (i : Int))), some (.int r4), v7, some (.int (one : Nat)), v9, v10] rfl ?_
          refine ⟨_, rfl, .inl ⟨rfl, _, SqL.of (O.at0 0 rfl)⟩, ?_⟩
          refine ⟨_, rfl, _, rfl, _, _, rfl, rfl, _, rfl, _, rfl, _, _, rfl, rfl, b, g, (n : Int) - 1, rfl, by omega, by omega, O.bx, fun r H6 t0 t1 kp6 B6 => ?_⟩
          obtain ⟨d, rfl⟩ : ∃ j : Nat, r = (j : Int) := ⟨r.toNat, by omega⟩
          have hxs := dpAll_kf (KF.of_kpC kp6 O.bx) _ (still_steps ps) hxs
          have O := O.draw kp6 B6
          refine ⟨_, _, rfl, rfl, .inl ⟨_, rfl, _, rfl, _, _, rfl, rfl, (by omega), by show 2 ≤ sizeLine; decide, fun p hp => ?_⟩⟩
          have hone : one < n := by omega
          have hto := turn_ne (a := one) (d := d) (n := n) hone (by omega)
          have eo : ((one : Int) + 1 + (d : Int)) % (n : Int) = (((one + 1 + d) % n : Nat) : Int) := by rw [Int.natCast_emod]; rfl
          dsimp only
          rw [eo] at *
          generalize (one + 1 + d) % n = oth at *
          have sp := same_new (o := .tup [.int (one : Nat), .int (oth : Nat)]) hp
          have hP : (upd H6 p (.tup [.int (one : Nat), .int (oth : Nat)])) p = some (.tup [.int (one : Nat), .int (oth : Nat)]) := upd_same
          have hxs := dpAll_kf (KF.of_same sp) _ (still_steps ps) hxs
          have O := O.same sp
          generalize upd H6 p (.tup [.int (one : Nat), .int (oth : Nat)]) = H7 at *
          have hxl : xs.length = ps.length := by rw [dpAll_len hxs, List.length_map]
          refine ⟨l, xs, _, rfl, rfl, O.at0 0 rfl, Nat.lt_of_lt_of_le (show xs.length < 1000 by omega) (by decide), ?_⟩
          have kf := KF.of_upd (ys := xs ++ [.ref p]) (O.at0 0 rfl)
          have O2 : OwC b g H _ [(l, xs ++ [.ref p])] := O.put 0 rfl
          refine ⟨_, _, _, _, _, _, n, l, xs ++ [.ref p], ps ++ [(one, oth)], rfl, O2, ?_, hn1, hnm, by rw [List.length_append, List.length_singleton]; omega, wok_app hw (wok_one hone hto.1 fun e => hto.2 e.symm), t3_app hj _⟩
          rw [List.map_append]
          exact dpAll_app (dpAll_kf kf _ (still_steps ps) hxs) (.cons (dp_kf kf _ (still_step _) (dp_stepI hP)) .nil)
    · rintro σ H3 ⟨v5, v6, v7, v8, v9, v10, n, l, xs, ps, rfl, O, hxs, hn1, hnm, hpr, hw, hj⟩
      have lb := O.ne (l, xs) (List.mem_singleton.mpr rfl)
      refine ⟨_, rfl, _, rfl, by show 2 ≤ sizeLine; decide, fun p hp => ?_⟩
      have sp := same_new (o := .tup [.int n, .ref l]) hp
      have O2 := O.same sp
      exact k p l n xs ps _ O2.kp O2.bx (SqT.of upd_same) (O2.at0 0 rfl) lb.1 lb.2 (O.fr (l, xs) (List.mem_singleton.mpr rfl)) (dpAll_kf (KF.of_same sp) _ (still_steps ps) hxs) hn1 hnm hpr hw hj
end
end BV

namespace BV
open PySem L2 RZ
abbrev sCutof : Stmt := top 10
abbrev nCutof : List Str := ["web", "places", "tie", "one", "other"]
abbrev pCutof : List Str := ["web", "places"]
theorem scCutof : FnScope nCutof pCutof (defScope sCutof) := ⟨rfl, rfl, rfl, by decide +kernel, rfl, by decide +kernel, by decide +kernel⟩
abbrev sNarrow : Stmt := top 21
abbrev nNarrow : List Str := ["web", "one", "other", "_", "many", "reached"]
abbrev pNarrow : List Str := ["web", "one", "other"]
theorem scNarrow : FnScope nNarrow pNarrow (defScope sNarrow) := ⟨rfl, rfl, rfl, by decide +kernel, rfl, by decide +kernel, by decide +kernel⟩
abbrev sThin : Stmt := top 29
abbrev nThin : List Str := ["web", "place", "lot"]
abbrev pThin : List Str := ["web"]
theorem scThin : FnScope nThin pThin (defScope sThin) := ⟨rfl, rfl, rfl, by decide +kernel, rfl, by decide +kernel, by decide +kernel⟩
def spNarrow (K : PySem.W.Frag) : Sp := fun vs H Q _ => ∃ (v : V) (n : Nat) (ts : List Tie) (one other : Nat), vs = [v, .int one, .int other] ∧ Dp K H v (webD n ts) ∧ (∀ t ∈ ts, t.1 < t.2 ∧ t.2 < n) ∧ one < n ∧ other < n ∧ one ≠ other ∧ n ≤ 60 ∧ ts.length ≤ 3000 ∧
  ((∀ S : Nat → Bool, S one = true → S other = false → 3 ≤ cutN S ts) → ∀ H', Same H H' → Q .non H') ∧
  (∀ (u : V) (R : List Nat) H', Same H H' → Dp K H' u (lotD (cutL ts R)) → NarIs ts n one other R → Q u H')
def spThin (K : PySem.W.Frag) : Sp := fun vs H Q _ => ∃ (v : V) (n : Nat) (ts : List Tie), vs = [v] ∧ Dp K H v (webD n ts) ∧ (∀ t ∈ ts, t.1 < t.2 ∧ t.2 < n) ∧ 1 ≤ n ∧ n ≤ 60 ∧ ts.length ≤ 3000 ∧
  ((∀ (p : Nat) (S : Nat → Bool), 1 ≤ p → p < n → S 0 = true → S p = false → 3 ≤ cutN S ts) → ∀ H', Same H H' → Q .non H') ∧
  (∀ (u : V) (R : List Nat) (p : Nat) H', Same H H' → Dp K H' u (lotD (cutL ts R)) → ThinIs ts n p R → Q u H')
section
variable {P : Program} {w : World} {K : PySem.W.Frag} {mg : Str → Option Value} {base : Heap}
theorem ok_cutof {f : Addr} {fd : FuncData} (D : Df K mg "cut_of" sCutof pCutof f fd) (T : Bl mg) : FnOk P w K mg base CX0 1 f fd pCutof (spCutof K) := by
  refine D.fn.ok scCutof (fun vs H Q E h => ?_) (fun cdv A outer s H vs Q E hr h => ?_)
  · obtain ⟨v, pv, n, ts, ps, rfl, _⟩ := h
    rfl
  · obtain ⟨v, pv, n, ts, ps, rfl, hw, hp, hl, k⟩ := h
    have nd := scCutof.nd
    obtain ⟨a, c, ys, rfl, ha, hc, hys⟩ := dp_web hw
    have hyl : ys.length = ts.length := by rw [dpAll_len hys, List.length_map]
    obtain ⟨ap, rfl, hap⟩ := dp_lotI hp
    refine ⟨_, (pss_one (ps_ret (pe_callTy (tupleK K) (by rfl) T.tuple (by decide +kernel) (pa_cons (pe_lc (own := [("tie", 2), ("one", 3), ("other", 4)]) (g := (gTup K 2 (gCons (gName 2) (gCons (gTup K 2 (gCons (gName 3) (gCons (gName 4) gNil))) gNil)))) rfl nd (enumT K (by rfl) T.enumerate (pa_cons (pe_ix (ixT K) (pv 0) pe_int (fun _ _ => rfl)) pa_nil)) (blkOk_by (own := [("tie", 2), ("one", 3), ("other", 4)]) (N := nCutof) (sc := defScope sCutof) (by decide +kernel)) (fun _ _ _ _ _ => (pgT K rfl (pgs_cons (pg_name (i := 2) nd rfl (by first | exact Or.inl rfl | exact Or.inr rfl)) (pgs_cons (pgT K rfl (pgs_cons (pg_name (i := 3) nd rfl (by first | exact Or.inl rfl | exact Or.inr rfl)) (pgs_cons (pg_name (i := 4) nd rfl (by first | exact Or.inl rfl | exact Or.inr rfl)) pgs_nil))) pgs_nil)))) (fun _ _ _ _ _ => (pts_one (pt_cmpR op_ne (pe_cmpR (opIn K) (pv 3) (pv 1) rfl) (pe_cmpR (opIn K) (pv 4) (pv 1) rfl) (nomark _)))) (fun _ _ _ _ _ => (pv 2))) pa_nil)))), ?_⟩
    refine ⟨_, rfl, a, _, _, _, rfl, rfl, ha, atI_nat (j := 1) rfl, c, ys, rfl, hc, fun E1 hE1 => ?_⟩
    refine lc_run (walk_enumT (xs := ys)) hE1 (fun i acc _ => acc = ((List.range i).filter fun k => match ts[k]? with | some t => crosses ps t | none => false).map fun (k : Nat) => V.int k) ?_ ?_ ?_ ?_
    · exact fun H' s => sqT_same s hc
    · rfl
    · rintro i x acc H2 H' hi hacc e s r ⟨q, y, z, rfl, hq, rfl, hy, hz⟩
      have hit : i < ts.length := by omega
      have ht : ts[i]? = some ts[i] := by simp [hit]
      have hy' : some (V.int i) = some y := hy
      cases hy'
      have hz' : ys[i]? = some z := hz
      obtain ⟨dd, hdd, hzd⟩ := dpAll_get hys hz'
      rw [List.getElem?_map, ht] at hdd
      cases hdd
      obtain ⟨az, rfl, haz⟩ := dp_tie hzd
      have sq := same_new (o := .tup [.int i, .ref az]) hq
      refine ⟨q, _, rfl, SqT.of upd_same, rfl, _, _, rfl, _, _, rfl, az, _, rfl, sqT_same (s.trans sq) haz, rfl, _, _, rfl, _, _, rfl, rfl, rfl, rfl, ?_⟩
      refine ⟨_, rfl, _, rfl, ap, _, rfl, .inr (sqT_same (s.trans sq) hap), rfl, flat_nats ps, ?_⟩
      refine ⟨_, rfl, _, rfl, ap, _, rfl, .inr (sqT_same (s.trans sq) hap), rfl, flat_nats ps, rfl, _, rfl, ?_⟩
      have r' : acc = ((List.range i).filter fun k => match ts[k]? with | some t => crosses ps t | none => false).map fun (k : Nat) => V.int k := r
      have hal : acc.length ≤ i := by
        rw [r', List.length_map]
        exact Nat.le_trans (List.length_filter_le _ _) (by rw [List.length_range]; exact Nat.le_refl _)
      have hc2 : (match ts[i]? with | some t => crosses ps t | none => false) = crosses ps ts[i] := by rw [ht]
      have key : (!decide (V.bl (inV (V.int ((ts[i]).1 : Int)) (ps.map fun (k : Nat) => V.int k)) = V.bl (inV (V.int ((ts[i]).2 : Int)) (ps.map fun (k : Nat) => V.int k)))) = crosses ps ts[i] := by
        rw [inv_nats, inv_nats]
        unfold crosses
        congr 1
        exact decide_eq_decide.mpr ⟨fun z => V.bl.inj z, fun z => by rw [z]⟩
      refine ite2 (fun hh => ?_) (fun hh => ?_)
      · refine ⟨_, rfl, ?_⟩
        refine lc_add hacc e sq (by omega) ?_
        rw [range_filter_succ, if_pos (by rw [hc2, ← key]; exact hh), List.map_append, r']
        rfl
      · refine lc_skip hacc e sq ?_
        rw [range_filter_succ, if_neg (by rw [hc2, ← key]; exact hh), List.append_nil]
        exact r'
    · rintro acc H2 h1 s2 r
      have r' : acc = ((List.range ys.length).filter fun k => match ts[k]? with | some t => crosses ps t | none => false).map fun (k : Nat) => V.int k := r
      rw [hyl] at r'
      refine ⟨E1, _, rfl, .inl ⟨SqL.of h1, fun u hu => ?_⟩⟩
      refine k _ _ (s2.trans (same_new hu)) (lot_dp (SqT.of ?_))
      rw [upd_same, r']
      rfl

theorem ok_narrow {f f1 f2 f3 f4 f5 f6 f7 : Addr} {fd fd1 fd2 fd3 fd4 fd5 fd6 fd7 : FuncData} {tE : Tok} (D : Df K mg "narrow_cut" sNarrow pNarrow f fd) (T : Bl mg) (hsorted : mg "sorted" = none) (hE3 : mg "_ENOUGH" = some (.int 3 tE)) (D_far : Df K mg "far_end" sFar pFar f1 fd1) (D_sign : Df K mg "_sign" sSign pSign f2 fd2)
    (D_stepsf : Df K mg "_steps_from" sStepsf pStepsf f3 fd3) (D_back : Df K mg "_way_back" sBack pBack f4 fd4) (D_open : Df K mg "_open_steps" sOpen pOpen f5 fd5) (D_flow : Df K mg "_flow_between" sFlow pFlow f6 fd6) (D_cutof : Df K mg "cut_of" sCutof pCutof f7 fd7) : FnOk P w K mg base CX0 5 f fd pNarrow (spNarrow K) := by
  have G_flow : FnOk P w K mg base CX0 4 f6 fd6 pFlow (spFlow K) := ok_flow D_flow T hsorted hE3 D_far D_sign D_stepsf D_back D_open
  have G_cutof : FnOk P w K mg base CX0 1 f7 fd7 pCutof (spCutof K) := ok_cutof D_cutof T
  refine D.fn.ok scNarrow (fun vs H Q E h => ?_) (fun cdv A outer s H vs Q E hr h => ?_)
  · obtain ⟨v, n, ts, one, other, rfl, _⟩ := h
    rfl
  · obtain ⟨v, n, ts, one, other, rfl, hw, hends, h1n, h2n, hne, hn, hel, k1, k2⟩ := h
    have nd := scNarrow.nd
    have hr_flow : Room 4 _ := hr
    have hr_cutof : Room 1 _ := hr.mono (by decide)
    refine ⟨_, (pss_cons (ps_asg (pe_call G_flow hr_flow (by rfl) D_flow.ad D_flow.fn.kp D_flow.bd .nil pass0 (pa_cons (pv 0) (pa_cons (pv 1) (pa_cons (pv 2) pa_nil)))) (pgT K rfl (pgs_cons (pg_name (i := 3) nd rfl (by first | exact Or.inl rfl | exact Or.inr rfl)) (pgs_cons (pg_name (i := 4) nd rfl (by first | exact Or.inl rfl | exact Or.inr rfl)) (pgs_cons (pg_name (i := 5) nd rfl (by first | exact Or.inl rfl | exact Or.inr rfl)) pgs_nil)))))
      (pss_one (ps_ret (pe_ifExp (pt_cmpR op_lt (pv 4) (pe_glob (by rfl) hE3 (show RelV (.int 3) (.int 3 _) from ⟨_, rfl⟩)) (nomark _)) (pe_call G_cutof hr_cutof (by rfl) D_cutof.ad D_cutof.fn.kp D_cutof.bd .nil pass0 (pa_cons (pv 0) (pa_cons (pv 5) pa_nil))) pe_non)))), ?_⟩
    refine tSeq_go ?_
    refine ⟨_, rfl, _, rfl, _, rfl, v, n, ts, one, other, rfl, hw, hends, h1n, h2n, hne, hn, hel, fun p fl rv fs m R H1 s1 hp hfl _ hrv hok hm hR h1R h2R hRn hcl hcore _ => ?_⟩
    refine ⟨p, _, rfl, hp, rfl, _, _, rfl, _, _, rfl, _, _, rfl, rfl, ?_⟩
    refine ⟨_, rfl, _, _, rfl, rfl, _, rfl, ite2 (fun hh => ?_) (fun hh => ?_)⟩
    · have hh : (m : Int) < 3 := of_decide_eq_true hh
      have h2R := h2R (by omega)
      have hlen := flow_cut hok hends h1R h2R hcl
      refine ⟨_, rfl, _, rfl, v, rv, n, ts, R, rfl, dp_same s1 _ hw, hrv, hel, fun u H2 s2 hu => ?_⟩
      exact k2 u R H2 (s1.trans s2) hu ⟨hR, h1R, h2R, hRn, by omega, fun S a b => by rw [hlen]; exact flow_least hok a b, fun S a b c => hcore S a b (by omega)⟩
    · have hh : ¬ (m : Int) < 3 := fun e => hh (decide_eq_true e)
      exact k1 (fun S a b => by have := flow_least hok a b; omega) H1 s1
theorem ok_thin {f f1 f2 f3 f4 f5 f6 f7 f8 : Addr} {fd fd1 fd2 fd3 fd4 fd5 fd6 fd7 fd8 : FuncData} {tE : Tok} (D : Df K mg "thin_cut" sThin pThin f fd) (T : Bl mg) (hsorted : mg "sorted" = none) (hE3 : mg "_ENOUGH" = some (.int 3 tE)) (D_far : Df K mg "far_end" sFar pFar f1 fd1) (D_sign : Df K mg "_sign" sSign pSign f2 fd2)
    (D_stepsf : Df K mg "_steps_from" sStepsf pStepsf f3 fd3) (D_back : Df K mg "_way_back" sBack pBack f4 fd4) (D_open : Df K mg "_open_steps" sOpen pOpen f5 fd5) (D_flow : Df K mg "_flow_between" sFlow pFlow f6 fd6) (D_cutof : Df K mg "cut_of" sCutof pCutof f7 fd7) (D_narrow : Df K mg "narrow_cut" sNarrow pNarrow f8 fd8) : FnOk P w K mg base CX0 6 f fd pThin (spThin K) := by
  have G_narrow : FnOk P w K mg base CX0 5 f8 fd8 pNarrow (spNarrow K) := ok_narrow D_narrow T hsorted hE3 D_far D_sign D_stepsf D_back D_open D_flow D_cutof
  refine D.fn.ok scThin (fun vs H Q E h => ?_) (fun cdv A outer s H vs Q E hr h => ?_)
  · obtain ⟨v, n, ts, rfl, _⟩ := h
    rfl
  · obtain ⟨v, n, ts, rfl, hw, hends, hn1, hn, hel, k1, k2⟩ := h
    have nd := scThin.nd
    have hr_narrow : Room 5 _ := hr
    obtain ⟨a, c, ys, rfl, ha, hc, hys⟩ := dp_web hw
    refine ⟨_, (pss_cons (ps_for PassesOwn.never rfl (pi_range2 rfl T.range (pa_cons pe_int (pa_cons (pe_ix (ixT K) (pv 0) pe_int (fun _ _ => rfl)) pa_nil))) (pg_name (i := 1) nd rfl (by first | exact Or.inl rfl | exact Or.inr rfl)) (pss_cons (ps_set (i := 2) nd rfl (by first | exact Or.inl rfl | exact Or.inr rfl) (pe_call G_narrow hr_narrow (by rfl) D_narrow.ad D_narrow.fn.kp D_narrow.bd .nil pass0 (pa_cons (pv 0) (pa_cons pe_int (pa_cons (pv 1) pa_nil)))))
      (pss_one (ps_if (pt_cmpR op_notN (pv 2) pe_non (nomark _)) (pss_one (ps_ret (pv 2))) pss_nil))))
      (pss_one (ps_ret pe_non))), ?_⟩
    refine tSeq_go ?_
    refine ⟨_, rfl, a, _, _, _, rfl, rfl, ha, atI_nat (j := 0) rfl, 1, (n : Int), rfl, ⟨by omega, by omega, by omega, by omega⟩, ?_⟩
    refine for_range (lo := 1) (n := ((n : Int) - 1).toNat) (fun i σ H' => ∃ (v1 v2 : Option V), σ = [some (.ref a), v1, v2] ∧ Same H H' ∧ ∀ (p : Nat) (S : Nat → Bool), 1 ≤ p → p < 1 + i → S 0 = true → S p = false → 3 ≤ cutN S ts) ?_ ?_ ?_
    · exact ⟨none, none, rfl, Same.refl _, fun p S a b => by omega⟩
    · rintro i σ H1 hi ⟨v1, v2, rfl, s1, hall⟩
      show tSeq _ _ _ _ _
      refine tSeq_go ?_
      have e1 : ((1 : Int) + (i : Int)) = ((1 + i : Nat) : Int) := by omega
      rw [e1]
      refine ⟨_, rfl, _, rfl, .ref a, n, ts, 0, 1 + i, rfl, dp_same s1 _ hw, hends, by omega, by omega, by omega, hn, hel, fun h3 H2 s2 => ?_, fun u R H2 s2 hu hna => ?_⟩
      · dsimp only [gName]
        refine ⟨_, rfl, rfl, _, rfl, iteF ?_⟩
        refine ⟨_, _, rfl, s1.trans s2, fun p S a b c d => ?_⟩
        by_cases e : p = 1 + i
        · subst e
          exact h3 S c d
        · exact hall p S a (by omega) c d
      · obtain ⟨au, rfl, hau⟩ := dp_lotN hu
        dsimp only [gName]
        refine ⟨_, rfl, rfl, _, rfl, iteT ?_⟩
        exact ⟨_, rfl, k2 (.ref au) R (1 + i) H2 (s1.trans s2) (lot_dp hau) ⟨hna, by omega, by omega, hall⟩⟩
    · rintro σ H1 ⟨v1, v2, rfl, s1, hall⟩
      exact k1 (fun p S a b c d => hall p S a (by omega) c d) H1 s1
end
end BV

namespace BV
open PySem L2 RZ
/-- along each tie only as the flow goes -/
def alE (fs : List Int) (k : Nat) (s : Int) : Bool := decide (s = fs.getD k 0)
theorem cutSum_shut (S : Nat → Bool) : ∀ (ts : List Tie) (fs : List Int), fs.length = ts.length →
    (∀ (k : Nat) (t : Tie) (f : Int), ts[k]? = some t → fs[k]? = some f → (S t.1 = true → S t.2 = false → f ≤ 0) ∧ (S t.2 = true → S t.1 = false → 0 ≤ f)) → cutSum S ts fs ≤ 0
  | [], [], _, _ => by simp [cutSum]
  | t :: ts, f :: fs, hl, hs => by
    have ih := cutSum_shut S ts fs (by simpa using hl) fun k t f h1 h2 => hs (k + 1) t f (by simpa using h1) (by simpa using h2)
    obtain ⟨a, b⟩ := hs 0 t f rfl rfl
    simp only [cutSum]
    cases h1 : S t.1 <;> cases h2 : S t.2
    · simp [bz]; omega
    · have := b h2 h1
      simp [bz]; omega
    · have := a h1 h2
      simp [bz]; omega
    · simp [bz]; omega
  | [], _ :: _, hl, _ => by simp at hl
  | _ :: _, [], hl, _ => by simp at hl
/-- the search along a flow finds the other place -/
theorem finds_other {ts : List Tie} {n one other : Nat} {fs : List Int} {r : Nat} {F : SL} (h : FlowOk ts n one other fs (r + 1)) (hends : ∀ t ∈ ts, t.1 < t.2 ∧ t.2 < n) (hsr : SrOk ts n one (alE fs) F) (hsh : ∀ p ∈ keysS F, ShutS ts (alE fs) F p ts.length) : other ∈ keysS F := by
  refine Classical.byContradiction fun hno => ?_
  have hone : one ∈ keysS F := List.mem_map_of_mem (List.mem_of_getElem? hsr.st)
  have hs := h.su (fun p => decide (p ∈ keysS F)) (decide_eq_true hone) (decide_eq_false hno)
  have hle := cutSum_shut (fun p => decide (p ∈ keysS F)) ts fs h.fl fun k t f hk hf => by
    have hn := hends t (List.mem_of_getElem? hk)
    have hfd : fs.getD k 0 = f := by rw [List.getD_eq_getElem?_getD, hf]; rfl
    have hsm := h.sm f (List.mem_of_getElem? hf)
    have hkl := (List.getElem?_eq_some_iff.mp hk).1
    refine ⟨fun a b => ?_, fun a b => ?_⟩
    · have a := of_decide_eq_true a
      have b := of_decide_eq_false b
      have : f ≠ 1 := fun e => b (by
        have := hsh t.1 a k t hkl hk (.inl rfl) (decide_eq_true (by rw [show sgn t t.1 = 1 from if_pos rfl, hfd, e]))
        rwa [show farT t t.1 = t.2 from if_pos rfl] at this)
      omega
    · have a := of_decide_eq_true a
      have b := of_decide_eq_false b
      have : f ≠ -1 := fun e => b (by
        have := hsh t.2 a k t hkl hk (.inr rfl) (decide_eq_true (by rw [show sgn t t.2 = -1 from if_neg (by omega), hfd, e]))
        rwa [far_snd] at this)
      omega
  omega
def zeroAll (fs : List Int) (st : List (Nat × Nat)) : List Int := st.foldl (fun fs s => fs.set s.1 0) fs
theorem zero_len : ∀ (st : List (Nat × Nat)) (fs : List Int), (zeroAll fs st).length = fs.length
  | [], _ => rfl
  | s :: st, fs => by
    show (zeroAll (fs.set s.1 0) st).length = _
    rw [zero_len st, List.length_set]
theorem zero_small : ∀ (st : List (Nat × Nat)) (fs : List Int), Small fs → Small (zeroAll fs st)
  | [], _, h => h
  | s :: st, fs, h => zero_small st _ fun f hf => by
    rcases List.mem_or_eq_of_mem_set hf with q | q
    · exact h f q
    · exact .inr (.inl q)
theorem zero_keep : ∀ (st : List (Nat × Nat)) (fs : List Int) (k : Nat), fs.getD k 0 = 0 → (zeroAll fs st).getD k 0 = 0
  | [], _, _, h => h
  | s :: st, fs, k, h => zero_keep st _ k (by
    rw [List.getD_eq_getElem?_getD] at h ⊢
    by_cases e : s.1 = k
    · subst e
      by_cases l : s.1 < fs.length
      · rw [List.getElem?_set_self l]
        rfl
      · rw [List.getElem?_eq_none (by rw [List.length_set]; omega)]
        rfl
    · rw [List.getElem?_set_ne e]
      exact h)
theorem zero_made : ∀ (st : List (Nat × Nat)) (fs : List Int) (k : Nat), k ∈ st.map (·.1) → (zeroAll fs st).getD k 0 = 0
  | s :: st, fs, k, h => by
    rcases List.mem_cons.mp (show k ∈ s.1 :: st.map (·.1) from h) with e | e
    · refine zero_keep st _ k ?_
      rw [e, List.getD_eq_getElem?_getD]
      by_cases l : s.1 < fs.length
      · rw [List.getElem?_set_self l]
        rfl
      · rw [List.getElem?_eq_none (by rw [List.length_set]; omega)]
        rfl
    · exact zero_made st _ k e
theorem zero_sum {S : Nat → Bool} {ts : List Tie} {a g : Nat} {st : List (Nat × Nat)} (hne : ∀ t ∈ ts, t.1 ≠ t.2) (h : Chain ts a st g) : ∀ fs : List Int, fs.length = ts.length → (st.map (·.1)).Nodup → (∀ s ∈ st, fs.getD s.1 0 = sgn (tieAt ts s.1) s.2) →
    cutSum S ts (zeroAll fs st) = cutSum S ts fs - bz (S a) + bz (S g) := by
  induction h with
  | nil a =>
    intro fs _ _ _
    show cutSum S ts fs = _
    omega
  | @cons a k g t rest ht ha h ih =>
    intro fs hl hnd hal
    have hk := (List.getElem?_eq_some_iff.mp ht).1
    have hf : fs[k]? = some (fs.getD k 0) := by
      rw [List.getD_eq_getElem?_getD, List.getElem?_eq_getElem (show k < fs.length by omega)]
      rfl
    obtain ⟨hn1, hn2⟩ := List.nodup_cons.mp (show (k :: rest.map (·.1)).Nodup from hnd)
    have e0 : fs.getD k 0 = sgn t a := by
      have := hal (k, a) (List.mem_cons_self ..)
      rwa [tieAt_of ht] at this
    show cutSum S ts (zeroAll (fs.set k 0) rest) = _
    rw [ih _ (by rw [List.length_set]; exact hl) hn2 fun s hs => by
      have ne : k ≠ s.1 := fun e => hn1 (by rw [e]; exact List.mem_map_of_mem hs)
      rw [List.getD_eq_getElem?_getD, List.getElem?_set_ne ne, ← List.getD_eq_getElem?_getD]
      exact hal s (List.mem_cons_of_mem _ hs)]
    have e1 : fs.set k 0 = fs.set k (fs.getD k 0 + -(sgn t a)) := by
      rw [e0]
      congr 1
      omega
    rw [e1, cutSum_set S ts fs k t _ _ ht hf]
    have hn := hne t (List.mem_of_getElem? ht)
    rcases ha with rfl | rfl
    · rw [show sgn t t.1 = 1 from if_pos rfl, show farT t t.1 = t.2 from if_pos rfl]
      omega
    · rw [show sgn t t.2 = -1 from if_neg hn, show farT t t.2 = t.1 from if_neg hn.symm]
      omega
theorem flow_less {ts : List Tie} {n one other : Nat} {fs : List Int} {r : Nat} {st : List (Nat × Nat)} (h : FlowOk ts n one other fs (r + 1)) (hends : ∀ t ∈ ts, t.1 < t.2 ∧ t.2 < n) (hc : Chain ts one st other) (hn : (st.map (·.1)).Nodup) (ha : ∀ s ∈ st, s.1 < ts.length ∧ alE fs s.1 (sgn (tieAt ts s.1) s.2) = true) :
    FlowOk ts n one other (zeroAll fs st) r := by
  refine ⟨by rw [zero_len]; exact h.fl, zero_small st fs h.sm, fun S h1 h2 => ?_⟩
  rw [zero_sum (fun t ht => by have := hends t ht; omega) hc fs h.fl hn fun s hs => (of_decide_eq_true (ha s hs).2).symm, h.su S h1 h2, h1, h2]
  simp [bz]
/-- going along ties, no place met twice -/
def WalkOk (ts : List Tie) : Nat → List Nat → List Nat → Nat → Prop
  | here, _, [], goal => here = goal
  | here, met, k :: lot, goal => ∃ t, ts[k]? = some t ∧ (here = t.1 ∨ here = t.2) ∧ farT t here ∉ met ∧ WalkOk ts (farT t here) (met ++ [farT t here]) lot goal
theorem walk_ok {ts : List Tie} {n start : Nat} {al : Nat → Int → Bool} {F : SL} (hsr : SrOk ts n start al F) {a g : Nat} {st : List (Nat × Nat)} (h : Chain ts a st g) : ∀ (is met : List Nat), StepsAt F is st →
    (∀ x ∈ met, ∃ (j : Nat) (o : Option (Nat × Nat)), F[j]? = some (x, o) ∧ ∀ i ∈ is, j < i) → WalkOk ts a met (st.map (·.1)) g := by
  induction h with
  | nil a =>
    intro is met _ _
    exact rfl
  | @cons a k g t rest ht ha h ih =>
    intro is met ⟨h1, h2, h3⟩ hmet
    cases is with
    | nil => cases h2
    | cons i is =>
      obtain ⟨p, hp⟩ := h3 0 i (k, a) rfl rfl
      obtain ⟨t', ht', _, hpf, _⟩ := hsr.pr i p k a hp
      rw [ht] at ht'
      obtain rfl := Option.some.inj ht'
      obtain ⟨hlow, h1'⟩ := List.pairwise_cons.mp h1
      refine ⟨t, ht, ha, fun hm => ?_, ih is (met ++ [farT t a]) ⟨h1', by simpa using h2, fun m i2 s a b => h3 (m + 1) i2 s (by simpa using a) (by simpa using b)⟩ fun x hx => ?_⟩
      · obtain ⟨j, o, hj, hjl⟩ := hmet _ hm
        rw [← hpf] at hj
        have := key_uniq hsr.nd hj hp
        have := hjl i (List.mem_cons_self ..)
        omega
      · rcases List.mem_append.mp hx with z | z
        · obtain ⟨j, o, hj, hjl⟩ := hmet x z
          exact ⟨j, o, hj, fun i2 hi2 => hjl i2 (List.mem_cons_of_mem _ hi2)⟩
        · rw [List.mem_singleton.mp z, ← hpf]
          exact ⟨i, _, hp, hlow⟩
inductive WaysR (ts : List Tie) (one other : Nat) : Nat → List Int → List (List Nat) → Prop
  | nil (fs : List Int) : WaysR ts one other 0 fs []
  | cons {fs : List Int} {j : Nat} {F : SL} {st : List (Nat × Nat)} {ws : List (List Nat)} : RunS ts (alE fs) [(one, none)] [one] F → (keysS F).Nodup → BackS F other st → WaysR ts one other j (zeroAll fs st) ws → WaysR ts one other (j + 1) fs (st.map (·.1) :: ws)
theorem WaysR.uniq {ts : List Tie} {one other j : Nat} {fs : List Int} {ws ws' : List (List Nat)} (h : WaysR ts one other j fs ws) (h' : WaysR ts one other j fs ws') : ws = ws' := by
  induction h generalizing ws' with
  | nil =>
    cases h'
    rfl
  | cons h1 h2 h3 h4 ih =>
    cases h' with
    | cons g1 g2 g3 g4 =>
      obtain rfl := h1.uniq g1
      obtain rfl := h3.uniq h2 g3
      rw [ih g4]
structure WaysIs (ts : List Tie) (n one other m : Nat) (ws : List (List Nat)) : Prop where
  len : ws.length = m
  walk : ∀ w ∈ ws, WalkOk ts one [one] w other ∧ ∀ k ∈ w, k < ts.length
  nd : ws.flatten.Nodup
  m3 : m ≤ 3
  least : ∀ S : Nat → Bool, S one = true → S other = false → m ≤ cutN S ts
  tight : m < 3 → ∃ R : List Nat, one ∈ R ∧ other ∉ R ∧ (cutL ts R).length = m
  det : ∃ fs, FlowR ts one other (List.replicate ts.length 0) 0 fs m ∧ WaysR ts one other m fs ws
theorem ways_uniq {ts : List Tie} {n one other m m' : Nat} {ws ws' : List (List Nat)} (h : WaysIs ts n one other m ws) (h' : WaysIs ts n one other m' ws') : m = m' ∧ ws = ws' := by
  obtain ⟨fs, a, b⟩ := h.det
  obtain ⟨fs', a', b'⟩ := h'.det
  obtain ⟨rfl, rfl⟩ := a.uniq a'
  exact ⟨rfl, b.uniq b'⟩
def spWays (K : PySem.W.Frag) : Sp := fun vs H Q _ => ∃ (v : V) (n : Nat) (ts : List Tie) (one other : Nat), vs = [v, .int one, .int other] ∧ Dp K H v (webD n ts) ∧ (∀ t ∈ ts, t.1 < t.2 ∧ t.2 < n) ∧ one < n ∧ other < n ∧ one ≠ other ∧ n ≤ 60 ∧ ts.length ≤ 3000 ∧
  ∀ (u : V) (m : Nat) (ws : List (List Nat)) H', Same H H' → Dp K H' u (.tuple (ws.map lotD)) → WaysIs ts n one other m ws → Q u H'
end BV

namespace BV
open PySem L2 RZ
abbrev sWays : Stmt := top 20
abbrev nWays : List Str := ["web", "one", "other", "flow", "many", "_", "found", "steps", "tie", "place", "item"]
abbrev pWays : List Str := ["web", "one", "other"]
theorem scWays : FnScope nWays pWays (defScope sWays) := ⟨rfl, rfl, rfl, by decide +kernel, rfl, by decide +kernel, by decide +kernel⟩
section
variable {P : Program} {w : World} {K : PySem.W.Frag} {mg : Str → Option Value} {base : Heap}
theorem ok_ways {f f1 f2 f3 f4 f5 f6 : Addr} {fd fd1 fd2 fd3 fd4 fd5 fd6 : FuncData} {tE : Tok} (D : Df K mg "ways" sWays pWays f fd) (T : Bl mg) (hsorted : mg "sorted" = none) (hE3 : mg "_ENOUGH" = some (.int 3 tE)) (D_far : Df K mg "far_end" sFar pFar f1 fd1) (D_sign : Df K mg "_sign" sSign pSign f2 fd2)
    (D_stepsf : Df K mg "_steps_from" sStepsf pStepsf f3 fd3) (D_back : Df K mg "_way_back" sBack pBack f4 fd4) (D_open : Df K mg "_open_steps" sOpen pOpen f5 fd5) (D_flow : Df K mg "_flow_between" sFlow pFlow f6 fd6) : FnOk P w K mg base CX0 5 f fd pWays (spWays K) := by
  have G_flow : FnOk P w K mg base CX0 4 f6 fd6 pFlow (spFlow K) := ok_flow D_flow T hsorted hE3 D_far D_sign D_stepsf D_back D_open
  have G_stepsf : FnOk P w K mg base CX0 2 f3 fd3 pStepsf (spStepsf K) := ok_stepsf D_stepsf T D_far D_sign
  have G_back : FnOk P w K mg base CX0 1 f4 fd4 pBack (spBack K) := ok_back D_back T
  refine D.fn.ok scWays (fun vs H Q E h => ?_) (fun cdv A outer s H vs Q E hr h => ?_)
  · obtain ⟨v, n, ts, one, other, rfl, _⟩ := h
    rfl
  · obtain ⟨v, n, ts, one, other, rfl, hw, hends, h1n, h2n, hne, hn, hel, k⟩ := h
    have nd := scWays.nd
    have hr_flow : Room 4 _ := hr
    have hr_stepsf : Room 2 _ := hr.mono (by decide)
    have hr_back : Room 1 _ := hr.mono (by decide)
    refine ⟨_, (pss_cons (ps_asg (pe_call G_flow hr_flow (by rfl) D_flow.ad D_flow.fn.kp D_flow.bd .nil pass0 (pa_cons (pv 0) (pa_cons (pv 1) (pa_cons (pv 2) pa_nil)))) (pgT K rfl (pgs_cons (pg_name (i := 3) nd rfl (by first | exact Or.inl rfl | exact Or.inr rfl)) (pgs_cons (pg_name (i := 4) nd rfl (by first | exact Or.inl rfl | exact Or.inr rfl)) (pgs_cons (pg_name (i := 5) nd rfl (by first | exact Or.inl rfl | exact Or.inr rfl)) pgs_nil)))))
      (pss_cons (ps_set (i := 6) nd rfl (by first | exact Or.inl rfl | exact Or.inr rfl) (pe_lst pa_nil))
      (pss_cons (ps_for PassesOwn.never rfl (pi_range1 rfl T.range (pa_cons (pv 4) pa_nil)) (pg_name (i := 5) nd rfl (by first | exact Or.inl rfl | exact Or.inr rfl)) (pss_cons (ps_set (i := 7) nd rfl (by first | exact Or.inl rfl | exact Or.inr rfl) (pe_call G_back hr_back (by rfl) D_back.ad D_back.fn.kp D_back.bd .nil pass0 (pa_cons (pe_call G_stepsf hr_stepsf (by rfl) D_stepsf.ad D_stepsf.fn.kp D_stepsf.bd .nil pass0 (pa_cons (pv 0) (pa_cons (pv 1) (pa_cons (pe_lc (own := [("item", 10)]) (g := (gName 10)) (tt := tYes) rfl nd (piL K (pv 3)) (blkOk_by (own := [("item", 10)]) (N := nWays) (sc := defScope sWays) (by decide +kernel)) (fun _ _ _ _ _ => (pg_name (i := 10) nd rfl (by first | exact Or.inl rfl | exact Or.inr rfl))) (fun _ _ _ _ _ => pts_nil) (fun _ _ _ _ _ => (pe_tup (pa_cons (pv 10) pa_nil)))) pa_nil)))) (pa_cons (pv 2) pa_nil))))
      (pss_cons (ps_expr (pe_bm PySem.F.plainAttrs_list PySem.F.slot_list_append PySem.F.type_list_append mt_append (pv 6) (pa_cons (pe_callTy (tupleK K) (by rfl) T.tuple (by decide +kernel) (pa_cons (pe_lc (own := [("tie", 8), ("place", 9)]) (g := (gTup K 2 (gCons (gName 8) (gCons (gName 9) gNil)))) (tt := tYes) rfl nd (piL K (pv 7)) (blkOk_by (own := [("tie", 8), ("place", 9)]) (N := nWays) (sc := defScope sWays) (by decide +kernel)) (fun _ _ _ _ _ => (pgT K rfl (pgs_cons (pg_name (i := 8) nd rfl (by first | exact Or.inl rfl | exact Or.inr rfl)) (pgs_cons (pg_name (i := 9) nd rfl (by first | exact Or.inl rfl | exact Or.inr rfl)) pgs_nil)))) (fun _ _ _ _ _ => pts_nil) (fun _ _ _ _ _ => (pv 8))) pa_nil)) pa_nil)))
      (pss_one (ps_for PassesOwn.never rfl (piL K (pv 7)) (pgT K rfl (pgs_cons (pg_name (i := 8) nd rfl (by first | exact Or.inl rfl | exact Or.inr rfl)) (pgs_cons (pg_name (i := 9) nd rfl (by first | exact Or.inl rfl | exact Or.inr rfl)) pgs_nil))) (pss_one (ps_asg pe_int (pg_sub (pv 3) (pv 8) set_list))))))))
      (pss_one (ps_ret (pe_callTy (tupleK K) (by rfl) T.tuple (by decide +kernel) (pa_cons (pv 6) pa_nil))))))), ?_⟩
    refine tSeq_go ?_
    refine ⟨_, rfl, _, rfl, _, rfl, v, n, ts, one, other, rfl, hw, hends, h1n, h2n, hne, hn, hel, fun p fl rv fs0 m R H1 s1 hp hfl hfl0 hrv hok0 hm3 hR h1R h2R hRn hcl hcore hdet => ?_⟩
    refine ⟨p, _, rfl, hp, rfl, _, _, rfl, _, _, rfl, _, _, rfl, rfl, ?_⟩
    refine at_st [some v, some (.int one), some (.int other), some (.ref fl), some (.int m), some rv, none, none, none, none, none] rfl ?_
    dsimp only
    refine tSeq_go ?_
    refine ⟨Nat.zero_le _, fun wl hwl => ?_⟩
    have hwl0 : H wl = none := Same.free s1 hwl
    have s2 := s1.trans (same_new (o := .lst []) hwl)
    have hW2 : (upd H1 wl (.lst [])) wl = some (.lst []) := upd_same
    have hF2 : (upd H1 wl (.lst [])) fl = some (.lst (fs0.map V.int)) := same_new hwl _ _ hfl
    have nfw : fl ≠ wl := fun e => by
      rw [e, hwl] at hfl
      cases hfl
    generalize upd H1 wl (.lst []) = H2 at *
    dsimp only [gName]
    refine at_st [some v, some (.int one), some (.int other), some (.ref fl), some (.int m), some rv, some (.ref wl), none, none, none, none] rfl ?_
    refine tSeq_go ?_
    refine ⟨_, rfl, _, rfl, by omega, by omega, ?_⟩
    refine for_range (lo := 0) (n := (m : Int).toNat) (fun i σ Hc => ∃ (v5 v7 v8 v9 : Option V) (fs : List Int) (r : Nat) (wv : List V) (ws : List (List Nat)), σ = [some v, some (.int one), some (.int other), some (.ref fl), some (.int m), v5, some (.ref wl), v7, v8, v9, none] ∧
      Same H Hc ∧ Hc fl = some (.lst (fs.map V.int)) ∧ Hc wl = some (.lst wv) ∧ DpAll K Hc wv (ws.map lotD) ∧ ws.length = i ∧ r + i = m ∧ FlowOk ts n one other fs r ∧ (∀ w ∈ ws, WalkOk ts one [one] w other ∧ ∀ k ∈ w, k < ts.length) ∧
      ws.flatten.Nodup ∧ (∀ k ∈ ws.flatten, fs.getD k 0 = 0) ∧ ∀ rest, WaysR ts one other r fs rest → WaysR ts one other m fs0 (ws ++ rest)) ?_ ?_ ?_
    · exact ⟨_, _, _, _, fs0, m, [], [], rfl, s2, hF2, hW2, .nil, rfl, rfl, hok0, by simp, by simp, by simp, fun rest h => h⟩
    · rintro i σ H3 hi ⟨v5, v7, v8, v9, fs, r, wv, ws, rfl, s3, hF3, hW3, hws, hwl2, hri, hok, hwalk, hnd, hzero, hwr⟩
      have hwvl : wv.length = ws.length := by rw [dpAll_len hws, List.length_map]
      obtain ⟨r, rfl⟩ : ∃ r', r = r' + 1 := ⟨r - 1, by omega⟩
      show tSeq _ _ _ _ _
      refine tSeq_go ?_
      refine ⟨_, rfl, _, rfl, _, rfl, fl, rfl, ⟨_, SqL.of hF3⟩, fun E1 hE1 => ?_⟩
      refine lc_run (walk_list (xs := fs.map V.int)) hE1 (fun i acc Hx => acc.length = i ∧ ∀ (k : Nat) (x : V), acc[k]? = some x → ∃ (b : Addr) (f : Int), x = V.ref b ∧ SqT K Hx b [.int f] ∧ fs[k]? = some f) ?_ ?_ ?_ ?_
      · exact fun H' s => SqL.of (s _ _ hF3)
      · exact ⟨rfl, by simp⟩
      · rintro j x acc H4 H' hj hacc e s ⟨hl, hall⟩ ⟨rfl, hx⟩
        obtain ⟨ff, hff, rfl⟩ := ints_at hx
        rw [List.length_map] at hj
        have hfsl := hok.fl
        refine ⟨rfl, yes_go ?_⟩
        refine ⟨_, rfl, by show 1 ≤ sizeLine; decide, fun q hq => ?_⟩
        have sq := same_new (o := .tup [.int ff]) hq
        have qne : q ≠ E1 := fun z => by rw [z, hacc] at hq; cases hq
        refine lc_add hacc e sq (by omega) ⟨by rw [List.length_append, hl]; rfl, fun k2 x2 hx2 => ?_⟩
        by_cases hk : k2 < acc.length
        · rw [List.getElem?_append_left hk] at hx2
          obtain ⟨b, f2, e1, e2, e3⟩ := hall k2 x2 hx2
          exact ⟨b, f2, e1, sqT_same (era_same sq) e2, e3⟩
        · rw [List.getElem?_append_right (by omega)] at hx2
          have hk0 : k2 - acc.length = 0 := by
            by_cases z : k2 - acc.length = 0
            · exact z
            · rw [List.getElem?_eq_none (by simp; omega)] at hx2
              cases hx2
          rw [hk0] at hx2
          have hkj : k2 = j := by omega
          subst hkj
          exact ⟨q, ff, (Option.some.inj hx2).symm, SqT.of (by rw [era_ne qne]; exact upd_same), hff⟩
      rintro acc H4 hacc s4 ⟨hal1, hal2⟩
      rw [List.length_map] at hal1
      have hfsl := hok.fl
      have s04 := s3.trans s4
      refine ⟨v, .ref E1, n, ts, one, alE fs, rfl, dp_same s04 _ hw, ⟨E1, acc, rfl, SqL.of hacc, by omega, fun k2 x2 hx2 => ?_⟩, hends, h1n, by omega, hel, fun d F H5 hd s5 hFd hsr hsh hrun => ?_⟩
      · obtain ⟨b, ff, e1, e2, e3⟩ := hal2 k2 x2 hx2
        refine ⟨b, [ff], e1, .inr (sqT_same era_back e2), fun s => ?_⟩
        unfold alE
        rw [List.getD_eq_getElem?_getD, e3]
        refine decide_eq_decide.mpr ?_
        simp
      have hin := finds_other hok hends hsr hsh
      refine ⟨_, rfl, d, F, other, n, one, ts, alE fs, rfl, hFd, hsr, hin, by omega, fun l xs st H6 s6 hl0 hl hds hch hndt hal hbk hst => ?_⟩
      obtain ⟨is, hst⟩ := hst
      have s46 := (s4.trans s5).trans s6
      have s06 := s3.trans s46
      have hF6 := s46 _ _ hF3
      have hW6 := s46 _ _ hW3
      have hws6 := dpAll_same s46 _ hws
      have hxl : xs.length = st.length := by rw [dpAll_len hds, List.length_map]
      have hstl : st.length ≤ ts.length := by
        have := nodup_small ts.length _ hndt fun x hx => by
          obtain ⟨s, hs, rfl⟩ := List.mem_map.mp hx
          exact (hal s hs).1
        rwa [List.length_map] at this
      have lw : l ≠ wl := fun e => by
        rw [e, (s4.trans s5) _ _ hW3] at hl0
        cases hl0
      have lfl : l ≠ fl := fun e => by
        rw [e, (s4.trans s5) _ _ hF3] at hl0
        cases hl0
      clear hFd hws hW3 hF3 hacc hal2
      dsimp only [gName]
      refine at_st [some v, some (.int one), some (.int other), some (.ref fl), some (.int m), some (.int (0 + (i : Int))), some (.ref wl), some (.ref l), v8, v9, none] rfl ?_
      refine tSeq_go ?_
      refine ⟨_, rfl, .inl ⟨rfl, _, SqL.of hW6⟩, _, rfl, l, rfl, ⟨_, SqL.of hl⟩, fun E2 hE2 => ?_⟩
      refine lc_run (walk_list (xs := xs)) hE2 (fun j acc _ => acc = natsV ((st.take j).map (·.1))) ?_ ?_ ?_ ?_
      · exact fun H' s => SqL.of (s _ _ hl)
      · rfl
      · rintro j x acc H7 H' hj hacc e s ha ⟨rfl, hx⟩
        obtain ⟨dd, hdd, hxd⟩ := dpAll_get hds hx
        obtain ⟨s0, hs0, rfl⟩ := get_map hdd
        obtain ⟨az, rfl, haz⟩ := dp_step hxd
        refine ⟨az, _, rfl, sqT_same s haz, rfl, _, _, rfl, _, _, rfl, rfl, rfl, yes_go ?_⟩
        refine ⟨_, rfl, ?_⟩
        have hacl : acc.length ≤ 3000 := by
          rw [show acc = _ from ha, natsV_len, List.length_map, List.length_take]
          omega
        refine lc_add hacc e (Same.refl _) (by omega) ?_
        show _ = _
        rw [show st.take (j + 1) = st.take j ++ [s0] by rw [List.take_add_one, hs0]; rfl, List.map_append, show acc = _ from ha]
        exact natsV_snoc _ _
      rintro acc H7 hacc7 s7 ha
      have ha : acc = natsV (st.map (·.1)) := by
        rw [show acc = _ from ha, hxl, List.take_length]
      subst ha
      refine ⟨E2, _, rfl, .inl ⟨SqL.of hacc7, fun u hu => ?_⟩⟩
      have su := same_new (o := .tup (natsV (st.map (·.1)))) hu
      have hU : (upd H7 u (.tup (natsV (st.map (·.1))))) u = some (.tup (natsV (st.map (·.1)))) := upd_same
      have s78 := s7.trans su
      have hW8 := s78 _ _ hW6
      have hF8 := s78 _ _ hF6
      have hl8 := s78 _ _ hl
      have hws8 := dpAll_same s78 _ hws6
      have hds8 := dpAll_same s78 _ hds
      have s08 := s06.trans s78
      generalize upd H7 u (.tup (natsV (st.map (·.1)))) = H8 at *
      refine ⟨wl, _, _, rfl, rfl, hW8, Nat.lt_of_lt_of_le (show wv.length < 1000 by omega) (by decide), ?_⟩
      have kf := KF.of_upd (ys := wv ++ [.ref u]) hW8
      have hU9 : (upd H8 wl (.lst (wv ++ [.ref u]))) u = some (.tup (natsV (st.map (·.1)))) := by
        rw [upd_ne fun e => by rw [e, hW8] at hU; cases hU]
        exact hU
      have hF9 : (upd H8 wl (.lst (wv ++ [.ref u]))) fl = some (.lst (fs.map V.int)) := by
        rw [upd_ne nfw]
        exact hF8
      have hl9 : (upd H8 wl (.lst (wv ++ [.ref u]))) l = some (.lst xs) := by
        rw [upd_ne lw]
        exact hl8
      have hws9 : DpAll K (upd H8 wl (.lst (wv ++ [.ref u]))) (wv ++ [.ref u]) ((ws ++ [st.map (·.1)]).map lotD) := by
        rw [List.map_append]
        exact dpAll_app (dpAll_kf kf _ (still_lots ws) hws8) (.cons (lot_dp (SqT.of hU9)) .nil)
      have hds9 := dpAll_kf kf _ (still_steps st) hds8
      have s09 : Same H (upd H8 wl (.lst (wv ++ [.ref u]))) := same_old hwl0 s08
      have hW9 : (upd H8 wl (.lst (wv ++ [.ref u]))) wl = some (.lst (wv ++ [.ref u])) := upd_same
      clear hW8 hF8 hl8 hws8 hds8 hU s08 kf
      generalize upd H8 wl (.lst (wv ++ [.ref u])) = H9 at *
      refine ⟨_, rfl, l, rfl, ⟨_, SqL.of hl9⟩, for_it (walk_list (xs := xs)) (fun j σ H' => ∃ (v8 v9 : Option V), σ = [some v, some (.int one), some (.int other), some (.ref fl), some (.int m), some (.int (0 + (i : Int))), some (.ref wl), some (.ref l), v8, v9, none] ∧
        Kp fl fl H9 H' ∧ H' fl = some (.lst ((zeroAll fs (st.take j)).map V.int))) ?_ ?_ ?_ ?_⟩
      · exact ⟨v8, v9, rfl, Kp.refl _, hF9⟩
      · rintro j σ H' _ ⟨v8, v9, rfl, kp, _⟩
        exact SqL.of (kp _ _ hl9 lfl lfl)
      · rintro j x σ H10 H' hj ⟨v8, v9, rfl, kp, hfj⟩ ⟨rfl, hx⟩
        obtain ⟨dd, hdd, hxd⟩ := dpAll_get hds9 hx
        obtain ⟨s0, hs0, rfl⟩ := get_map hdd
        have kff : KF H9 H' := fun a o e q => by
          have ne : a ≠ fl := by
            rintro rfl
            rw [hF9] at e
            cases e
            obtain ⟨_, e | ⟨_, e⟩⟩ := q <;> cases e
          exact kp a o e ne ne
        obtain ⟨az, rfl, haz⟩ := dp_step (dp_kf kff _ (still_step s0) hxd)
        obtain ⟨hs1, _⟩ := hal s0 (List.mem_of_getElem? hs0)
        have hgl : (zeroAll fs (st.take j)).length = ts.length := by rw [zero_len, hok.fl]
        refine ⟨az, _, rfl, haz, rfl, _, _, rfl, _, _, rfl, rfl, ?_⟩
        refine ⟨_, rfl, _, rfl, fl, _, (s0.1 : Int), s0.1, rfl, rfl, hfj, ix_nat (by rw [List.length_map, hgl]; exact hs1), ?_⟩
        refine ⟨_, _, rfl, kp.trans Kp.setb, ?_⟩
        rw [upd_same, show st.take (j + 1) = st.take j ++ [s0] by rw [List.take_add_one, hs0]; rfl]
        unfold zeroAll
        rw [List.foldl_append, List.foldl_cons, List.foldl_nil, List.map_set]
      · rintro σ H10 ⟨v8, v9, rfl, kp, hf10⟩
        rw [hxl, List.take_of_length_le (Nat.le_refl _)] at hf10
        have sm : Same H H10 := fun a o e => by
          have ne : a ≠ fl := by
            rintro rfl
            rw [hfl0] at e
            cases e
          exact kp a o (s09 a o e) ne ne
        have kff : KF H9 H10 := fun a o e q => by
          have ne : a ≠ fl := by
            rintro rfl
            rw [hF9] at e
            cases e
            obtain ⟨_, e | ⟨_, e⟩⟩ := q <;> cases e
          exact kp a o e ne ne
        have hok' := flow_less hok hends hch hndt hal
        refine ⟨_, _, _, _, zeroAll fs st, r, wv ++ [.ref u], ws ++ [st.map (·.1)], rfl, sm, hf10, kp _ _ hW9 (fun e => nfw e.symm) (fun e => nfw e.symm), dpAll_kf kff _ (still_lots _) hws9, by rw [List.length_append, hwl2]; rfl, by omega, hok', ?_, ?_, ?_, ?_⟩
        · intro w hw2
          rcases List.mem_append.mp hw2 with z | z
          · exact hwalk w z
          · rw [List.mem_singleton.mp z]
            refine ⟨walk_ok hsr hch is [one] hst fun x hx => ?_, fun k2 hk2 => ?_⟩
            · rw [List.mem_singleton.mp hx]
              refine ⟨0, none, hsr.st, fun i2 hi2 => ?_⟩
              obtain ⟨m2, hm2⟩ := List.getElem?_of_mem hi2
              have hml := (List.getElem?_eq_some_iff.mp hm2).1
              obtain ⟨p2, hp2⟩ := hst.2.2 m2 i2 _ hm2 (List.getElem?_eq_getElem (by rw [← hst.2.1]; exact hml))
              rcases Nat.eq_zero_or_pos i2 with e | e
              · subst e
                rw [hsr.st] at hp2
                cases hp2
              · exact e
            · obtain ⟨s2, hs2, rfl⟩ := List.mem_map.mp hk2
              exact (hal s2 hs2).1
        · rw [List.flatten_append, List.nodup_append]
          refine ⟨hnd, by simpa using hndt, fun a ha b hb e => ?_⟩
          subst e
          have h0 := hzero a ha
          obtain ⟨s2, hs2, rfl⟩ := List.mem_map.mp (show a ∈ st.map (·.1) by simpa using hb)
          have := of_decide_eq_true (hal s2 hs2).2
          rw [h0] at this
          unfold sgn at this
          split at this <;> omega
        · intro k2 hk2
          rw [List.flatten_append] at hk2
          rcases List.mem_append.mp hk2 with z | z
          · exact zero_keep st fs k2 (hzero k2 z)
          · exact zero_made st fs k2 (by simpa using z)
        · intro rest hrest
          have := hwr _ (.cons hrun hsr.nd hbk hrest)
          rwa [List.append_assoc]
    · rintro σ H3 ⟨v5, v7, v8, v9, fs, r, wv, ws, rfl, s3, hF3, hW3, hws, hwl2, hri, hok, hwalk, hnd, hzero, hwr⟩
      have hr0 : r = 0 := by omega
      subst hr0
      refine ⟨_, rfl, wl, _, rfl, .inl ⟨SqL.of hW3, fun u hu => ?_⟩⟩
      have su := same_new (o := .tup wv) hu
      refine k _ m ws _ (s3.trans su) (.tup (SqT.of upd_same) (dpAll_same su _ hws)) ⟨by omega, hwalk, hnd, hm3, fun S a b => flow_least hok0 a b, fun hlt => ⟨R, h1R, h2R hlt, flow_cut hok0 hends h1R (h2R hlt) hcl⟩, fs0, hdet, ?_⟩
      have := hwr [] (.nil fs)
      rwa [List.append_nil] at this
end
end BV

namespace BV
open PySem L2 RZ
def WebC (n : Nat) (ts : List Tie) : Prop := (∀ t ∈ ts, t.1 < t.2 ∧ t.2 < n) ∧ n ≤ 12 ∧ ts.length ≤ 50
/-! ### how many ties part two places -/
def IsFew (ts : List Tie) (one other d : Nat) : Prop := d ≤ 3 ∧ (∀ S : Nat → Bool, S one = true → S other = false → d ≤ cutN S ts) ∧ (d < 3 → ∃ S : Nat → Bool, S one = true ∧ S other = false ∧ cutN S ts = d)
theorem few_uniq {ts : List Tie} {one other d d' : Nat} (h : IsFew ts one other d) (h' : IsFew ts one other d') : d = d' := by
  obtain ⟨a, b, c⟩ := h
  obtain ⟨a', b', c'⟩ := h'
  have h1 : d ≤ d' := by
    by_cases e : d' < 3
    · obtain ⟨S, x, y, z⟩ := c' e
      have := b S x y
      omega
    · omega
  have h2 : d' ≤ d := by
    by_cases e : d < 3
    · obtain ⟨S, x, y, z⟩ := c e
      have := b' S x y
      omega
    · omega
  omega
theorem ways_few {ts : List Tie} {n one other m : Nat} {ws : List (List Nat)} (h : WaysIs ts n one other m ws) : IsFew ts one other m :=
  ⟨h.m3, h.least, fun e => by
    obtain ⟨R, a, b, c⟩ := h.tight e
    exact ⟨fun x => decide (x ∈ R), decide_eq_true a, decide_eq_false b, by rw [← cutL_len]; exact c⟩⟩
theorem cutN_neg (S : Nat → Bool) : ∀ ts : List Tie, cutN (fun p => !S p) ts = cutN S ts
  | [] => rfl
  | t :: ts => by
    simp only [cutN, cutN_neg S ts]
    have h : ((!S t.1) = !S t.2) ↔ (S t.1 = S t.2) := by cases S t.1 <;> cases S t.2 <;> decide
    by_cases z : S t.1 = S t.2
    · rw [if_pos z, if_pos (h.mpr z)]
    · rw [if_neg z, if_neg fun q => z (h.mp q)]
theorem few_back {ts : List Tie} {one other d : Nat} (h : IsFew ts one other d) : IsFew ts other one d := by
  obtain ⟨a, b, c⟩ := h
  refine ⟨a, fun S x y => ?_, fun e => ?_⟩
  · rw [← cutN_neg S]
    exact b (fun p => !S p) (by show (!S one) = true; rw [y]; rfl) (by show (!S other) = false; rw [x]; rfl)
  · obtain ⟨S, x, y, z⟩ := c e
    exact ⟨fun p => !S p, by show (!S other) = true; rw [y]; rfl, by show (!S one) = false; rw [x]; rfl, by rw [cutN_neg]; exact z⟩
theorem cutN_app (S : Nat → Bool) : ∀ ts us : List Tie, cutN S (ts ++ us) = cutN S ts + cutN S us
  | [], us => by simp [cutN]
  | t :: ts, us => by
    show (if S t.1 = S t.2 then 0 else 1) + cutN S (ts ++ us) = (if S t.1 = S t.2 then 0 else 1) + cutN S ts + cutN S us
    rw [cutN_app S ts us]
    omega
theorem cutN_one (S : Nat → Bool) (t : Tie) : cutN S [t] ≤ 1 := by
  show (if S t.1 = S t.2 then 0 else 1) + 0 ≤ 1
  split <;> omega
theorem few_wide {ts : List Tie} {t : Tie} {one other d d' : Nat} (h : IsFew ts one other d) (h' : IsFew (ts ++ [t]) one other d') : d' = d ∨ d' = min 3 (d + 1) := by
  obtain ⟨a, b, c⟩ := h
  obtain ⟨a', b', c'⟩ := h'
  have h1 : d ≤ d' := by
    by_cases e : d' < 3
    · obtain ⟨S, x, y, z⟩ := c' e
      have := b S x y
      rw [cutN_app] at z
      omega
    · omega
  have h2 : d' ≤ d + 1 := by
    by_cases e : d < 3
    · obtain ⟨S, x, y, z⟩ := c e
      have h3 := b' S x y
      rw [cutN_app] at h3
      have := cutN_one S t
      omega
    · omega
  omega
theorem few_less {ts us : List Tie} {t : Tie} {one other d d' : Nat} (h : IsFew (ts ++ t :: us) one other d) (h' : IsFew (ts ++ us) one other d') (hp : 1 ≤ d') : d' = d ∨ d' = max 1 (d - 1) := by
  obtain ⟨a, b, c⟩ := h
  obtain ⟨a', b', c'⟩ := h'
  have ec : ∀ S : Nat → Bool, cutN S (ts ++ us) ≤ cutN S (ts ++ t :: us) ∧ cutN S (ts ++ t :: us) ≤ cutN S (ts ++ us) + 1 := fun S => by
    have h1 := cutN_one S t
    have e : ts ++ t :: us = ts ++ ([t] ++ us) := rfl
    rw [e, cutN_app, cutN_app, cutN_app]
    omega
  have h1 : d' ≤ d := by
    by_cases e : d < 3
    · obtain ⟨S, x, y, z⟩ := c e
      have h3 := b' S x y
      have := ec S
      omega
    · omega
  have h2 : d ≤ d' + 1 := by
    by_cases e : d' < 3
    · obtain ⟨S, x, y, z⟩ := c' e
      have h3 := b S x y
      have := ec S
      omega
    · omega
  omega
/-! ### places named anew -/
theorem cutN_perm (S : Nat → Bool) {ts us : List Tie} (h : ts.Perm us) : cutN S ts = cutN S us := by
  induction h with
  | nil => rfl
  | cons x _ ih => simp only [cutN, ih]
  | swap x y l =>
    simp only [cutN]
    omega
  | trans _ _ a b => exact a.trans b
theorem cutN_name (S : Nat → Bool) (names : List Nat) : ∀ qs : List (Nat × Nat), cutN S (qs.map (reName names)) = cutN (fun x => S (names.getD x 0)) qs
  | [] => rfl
  | q :: qs => by
    show (if S (reName names q).1 = S (reName names q).2 then 0 else 1) + cutN S (qs.map (reName names)) = (if S (names.getD q.1 0) = S (names.getD q.2 0) then 0 else 1) + cutN (fun x => S (names.getD x 0)) qs
    rw [cutN_name S names qs]
    congr 1
    unfold reName
    dsimp only
    rcases Nat.le_total (names.getD q.1 0) (names.getD q.2 0) with c | c
    · rw [Nat.min_eq_left c, Nat.max_eq_right c]
    · rw [Nat.min_eq_right c, Nat.max_eq_left c]
      by_cases z : S (names.getD q.2 0) = S (names.getD q.1 0)
      · rw [if_pos z, if_pos z.symm]
      · rw [if_neg z, if_neg fun e => z e.symm]
theorem name_at {n : Nat} {names : List Nat} (hp : names.Perm (List.range n)) {i : Nat} (hi : i < n) : names[i]? = some (names.getD i 0) ∧ names.getD i 0 < n ∧ names.idxOf (names.getD i 0) = i := by
  have hl : names.length = n := by rw [hp.length_eq, List.length_range]
  have e : names[i]? = some (names.getD i 0) := by
    rw [List.getD_eq_getElem?_getD, List.getElem?_eq_getElem (by omega)]
    rfl
  have hm := List.mem_of_getElem? e
  refine ⟨e, List.mem_range.mp (hp.mem_iff.mp hm), ?_⟩
  have hnn : names.Nodup := hp.nodup_iff.mpr List.nodup_range
  have h1 := List.idxOf_lt_length_iff.mpr hm
  have h2 : names[names.idxOf (names.getD i 0)]? = some (names.getD i 0) := by
    rw [List.getElem?_eq_getElem h1, List.getElem_idxOf h1]
  exact (List.getElem?_inj h1 hnn).mp (h2.trans e.symm)
theorem few_named {n : Nat} {ts : List Tie} {qs : List (Nat × Nat)} {names : List Nat} {one other d : Nat} (hends : ∀ t ∈ ts, t.1 < t.2 ∧ t.2 < n) (hp : names.Perm (List.range n)) (hq : qs.Perm ts) (h1 : one < n) (h2 : other < n)
    (h : IsFew ts one other d) : IsFew (qs.map (reName names)) (names.getD one 0) (names.getD other 0) d := by
  obtain ⟨a, b, c⟩ := h
  refine ⟨a, fun S x y => ?_, fun e => ?_⟩
  · rw [cutN_name, cutN_perm _ hq]
    exact b (fun z => S (names.getD z 0)) x y
  · obtain ⟨S, x, y, z⟩ := c e
    refine ⟨fun w => S (names.idxOf w), by show S (names.idxOf (names.getD one 0)) = true; rw [(name_at hp h1).2.2]; exact x, by show S (names.idxOf (names.getD other 0)) = false; rw [(name_at hp h2).2.2]; exact y, ?_⟩
    rw [cutN_name, cutN_perm _ hq, ← z]
    have cong : ∀ us : List Tie, (∀ t ∈ us, t.1 < t.2 ∧ t.2 < n) → cutN (fun w => S (names.idxOf (names.getD w 0))) us = cutN S us := by
      intro us
      induction us with
      | nil => exact fun _ => rfl
      | cons t us ih =>
        intro hu
        have ht := hu t (List.mem_cons_self ..)
        simp only [cutN, ih fun u hu2 => hu u (List.mem_cons_of_mem _ hu2), (name_at hp (show t.1 < n by omega)).2.2, (name_at hp (show t.2 < n by omega)).2.2]
    exact cong ts hends
/-! ### ways the other way about -/
inductive PathW (ts : List Tie) : Nat → List Nat → Nat → List Nat → Prop
  | nil (a : Nat) : PathW ts a [] a [a]
  | cons {a k g : Nat} {t : Tie} {w P : List Nat} : ts[k]? = some t → (a = t.1 ∨ a = t.2) → PathW ts (farT t a) w g P → PathW ts a (k :: w) g (a :: P)
theorem PathW.snoc {ts : List Tie} {a b k : Nat} {t : Tie} {w P : List Nat} (h : PathW ts a w b P) (ht : ts[k]? = some t) (hb : b = t.1 ∨ b = t.2) : PathW ts a (w ++ [k]) (farT t b) (P ++ [farT t b]) := by
  induction h with
  | nil a => exact .cons ht hb (.nil _)
  | cons h1 h2 _ ih => exact .cons h1 h2 (ih hb)
theorem far_far {t : Tie} {a : Nat} (h : a = t.1 ∨ a = t.2) (hn : t.1 ≠ t.2) : farT t (farT t a) = a ∧ (farT t a = t.1 ∨ farT t a = t.2) := by
  rcases h with rfl | rfl
  · rw [show farT t t.1 = t.2 from if_pos rfl, far_snd]
    exact ⟨rfl, .inr rfl⟩
  · rw [far_snd, show farT t t.1 = t.2 from if_pos rfl]
    exact ⟨rfl, .inl rfl⟩
theorem PathW.rev {ts : List Tie} (hne : ∀ t ∈ ts, t.1 ≠ t.2) {a g : Nat} {w P : List Nat} (h : PathW ts a w g P) : PathW ts g w.reverse a P.reverse := by
  induction h with
  | nil a => exact .nil a
  | @cons a k g t w P h1 h2 _ ih =>
    obtain ⟨e1, e2⟩ := far_far h2 (hne t (List.mem_of_getElem? h1))
    have := ih.snoc h1 e2
    rw [e1] at this
    rw [List.reverse_cons, List.reverse_cons]
    exact this
theorem path_of {ts : List Tie} : ∀ (w : List Nat) (a g : Nat) (met : List Nat), WalkOk ts a met w g → ∃ P, PathW ts a w g (a :: P) ∧ P.Nodup ∧ ∀ x ∈ P, x ∉ met
  | [], a, g, met, h => by
    obtain rfl : a = g := h
    exact ⟨[], .nil _, .nil, by simp⟩
  | k :: w, a, g, met, h => by
    obtain ⟨t, ht, hend, hn, hw⟩ := h
    obtain ⟨P, hP, hnd, hd⟩ := path_of w _ _ _ hw
    refine ⟨farT t a :: P, .cons ht hend hP, List.nodup_cons.mpr ⟨fun z => hd _ z (by simp), hnd⟩, fun x hx => ?_⟩
    rcases List.mem_cons.mp hx with e | e
    · rw [e]
      exact hn
    · exact fun z => hd x e (List.mem_append_left _ z)
theorem of_path {ts : List Tie} : ∀ (w : List Nat) (a g : Nat) (met P : List Nat), PathW ts a w g (a :: P) → P.Nodup → (∀ x ∈ P, x ∉ met) → WalkOk ts a met w g
  | [], a, g, met, P, h, _, _ => by
    cases h
    exact rfl
  | k :: w, a, g, met, P, h, hnd, hd => by
    cases h with
    | cons ht hend h2 =>
      rename_i t
      cases w with
      | nil =>
        cases h2
        exact ⟨t, ht, hend, hd _ (by simp), rfl⟩
      | cons k2 w =>
        cases h2 with
        | cons ht2 hend2 h3 =>
          obtain ⟨hn1, hn2⟩ := List.nodup_cons.mp hnd
          refine ⟨t, ht, hend, hd _ (List.mem_cons_self ..), of_path (k2 :: w) _ g _ _ (.cons ht2 hend2 h3) hn2 fun x hx => ?_⟩
          intro z
          rcases List.mem_append.mp z with z | z
          · exact hd x (List.mem_cons_of_mem _ hx) z
          · rw [List.mem_singleton.mp z] at hx
            exact hn1 hx
theorem path_head {ts : List Tie} {a g : Nat} {w P : List Nat} (h : PathW ts a w g P) : ∃ P', P = a :: P' := by
  cases h with
  | nil => exact ⟨[], rfl⟩
  | cons => exact ⟨_, rfl⟩
theorem walk_rev {ts : List Tie} (hne : ∀ t ∈ ts, t.1 ≠ t.2) {a g : Nat} {w : List Nat} (h : WalkOk ts a [a] w g) : WalkOk ts g [g] w.reverse a := by
  obtain ⟨P, hP, hnd, hd⟩ := path_of w a g [a] h
  have hr := hP.rev hne
  have hnd2 : (a :: P).Nodup := List.nodup_cons.mpr ⟨fun z => hd a z (by simp), hnd⟩
  have hnr : ((a :: P).reverse).Nodup := (List.reverse_perm _).nodup_iff.mpr hnd2
  generalize (a :: P).reverse = R at hr hnr
  obtain ⟨R', rfl⟩ := path_head hr
  obtain ⟨n1, n2⟩ := List.nodup_cons.mp hnr
  exact of_path _ _ _ _ R' hr n2 fun x hx z => by
    rw [List.mem_singleton.mp z] at hx
    exact n1 hx
/-- ways without common ties -/
structure AreW (ts : List Tie) (one other m : Nat) (ws : List (List Nat)) : Prop where
  len : ws.length = m
  walk : ∀ w ∈ ws, WalkOk ts one [one] w other ∧ ∀ k ∈ w, k < ts.length
  nd : ws.flatten.Nodup
  m3 : m ≤ 3
theorem WaysIs.are {ts : List Tie} {n one other m : Nat} {ws : List (List Nat)} (h : WaysIs ts n one other m ws) : AreW ts one other m ws := ⟨h.len, h.walk, h.nd, h.m3⟩
theorem flat_rev : ∀ ws : List (List Nat), ((ws.map List.reverse).flatten).Perm ws.flatten
  | [] => .nil
  | w :: ws => by
    show (w.reverse ++ (ws.map List.reverse).flatten).Perm (w ++ ws.flatten)
    exact (List.reverse_perm w).append (flat_rev ws)
theorem AreW.rev {ts : List Tie} (hne : ∀ t ∈ ts, t.1 ≠ t.2) {one other m : Nat} {ws : List (List Nat)} (h : AreW ts one other m ws) : AreW ts other one m (ws.map List.reverse) := by
  refine ⟨by rw [List.length_map]; exact h.len, fun w hw => ?_, (flat_rev ws).nodup_iff.mpr h.nd, h.m3⟩
  obtain ⟨v, hv, rfl⟩ := List.mem_map.mp hw
  obtain ⟨a, b⟩ := h.walk v hv
  exact ⟨walk_rev hne a, fun k hk => b k (List.mem_reverse.mp hk)⟩
def spIsway (K : PySem.W.Frag) : Sp := fun vs H Q _ => ∃ (v u : V) (n : Nat) (ts : List Tie) (one other : Nat) (lot : List Nat), vs = [v, .int one, .int other, u] ∧ Dp K H v (webD n ts) ∧ Dp K H u (lotD lot) ∧ ts.length ≤ 50 ∧ lot.length ≤ 1000 ∧ one ≠ other ∧ WalkOk ts one [one] lot other ∧ (∀ k ∈ lot, k < ts.length) ∧
  ∀ H', Same H H' → Q (.bl true) H'
def spAreways (K : PySem.W.Frag) : Sp := fun vs H Q _ => ∃ (v u : V) (n : Nat) (ts : List Tie) (one other m : Nat) (ws : List (List Nat)), vs = [v, .int one, .int other, u, .int m] ∧ Dp K H v (webD n ts) ∧ Dp K H u (.tuple (ws.map lotD)) ∧ ts.length ≤ 50 ∧ one ≠ other ∧ AreW ts one other m ws ∧
  ∀ H', Same H H' → Q (.bl true) H'
end BV

namespace BV
open PySem L2
abbrev sWfrom : Stmt := top 7
abbrev nWfrom : List Str := ["web", "ties", "start", "found", "queue", "place", "tie", "goal"]
abbrev pWfrom : List Str := ["web", "ties", "start"]
theorem scWfrom : FnScope nWfrom pWfrom (defScope sWfrom) := ⟨rfl, rfl, rfl, by decide +kernel, rfl, by decide +kernel, by decide +kernel⟩
/-- what is found: the places, each with its way -/
def FoundF (K : PySem.W.Frag) (H : Hp) (d : Addr) (F : FL) : Prop := ∃ kvs : List (Key × V), H d = some (.dK kvs) ∧ kvs.map (·.1) = (keysF F).map (fun (p : Nat) => (Sum.inl (p : Int) : Key)) ∧
  ∀ x ∈ F, ∃ (a : Addr), valV kvs (Sum.inl (x.1 : Int)) = some (.ref a) ∧ SqT K H a (natsV x.2)
def spWfrom (K : PySem.W.Frag) : Sp := fun vs H Q _ => ∃ (v ev : V) (n : Nat) (ts : List Tie) (es : List Nat) (start : Nat), vs = [v, ev, .int start] ∧ Dp K H v (webD n ts) ∧ Dp K H ev (lotD es) ∧
  (∀ t ∈ ts, t.1 < t.2 ∧ t.2 < n) ∧ (∀ k ∈ es, k < ts.length) ∧ start < n ∧ n ≤ 1000 ∧ es.length ≤ 3000 ∧
  ∀ (d : Addr) H', H d = none → Same H H' → FoundF K H' d (bfs ts es n start) → Q (.ref d) H'
section
variable {P : Program} {w : World} {K : PySem.W.Frag} {mg : Str → Option Value} {base : Heap}
/-- the state of the search -/
structure Bfs (K : PySem.W.Frag) (ts : List Tie) (es : List Nat) (n start : Nat) (H : Hp) (d q : Addr) (F : FL) (que : List Nat) : Prop where
  fd : FoundF K H d F
  qu : H q = some (.lst (natsV que))
  bi : BI ts es n start F que
  ql : que.length ≤ F.length
  go : ∃ m, que.length + (n - F.length) ≤ m ∧ bfsGo ts es m F que = bfs ts es n start
theorem FoundF.kf {K : PySem.W.Frag} {H H' : Hp} {d : Addr} {F : FL} (h : FoundF K H d F) (s : KF H H') (hd : H' d = H d) : FoundF K H' d F := by
  obtain ⟨kvs, h1, h2, h3⟩ := h
  exact ⟨kvs, by rw [hd, h1], h2, fun p hp => by
    obtain ⟨a, e1, e2⟩ := h3 p hp
    exact ⟨a, e1, sqT_kf s e2⟩⟩
theorem FoundF.same {K : PySem.W.Frag} {H H' : Hp} {d : Addr} {F : FL} (h : FoundF K H d F) (s : Same H H') : FoundF K H' d F := by
  have ⟨kvs, h1, _⟩ := h
  exact h.kf (fun a o e _ => s a o e) (by rw [s _ _ h1, h1])
theorem ok_wfrom {f f1 : Addr} {fd fd1 : FuncData} (D : Df K mg "ways_from" sWfrom pWfrom f fd) (T : Bl mg) (D_far : Df K mg "far_end" sFar pFar f1 fd1) : FnOk P w K mg base CX0 2 f fd pWfrom (spWfrom K) := by
  have G_far : FnOk P w K mg base CX0 1 f1 fd1 pFar (spFar K) := ok_far D_far T
  refine D.fn.ok scWfrom (fun vs H Q E h => ?_) (fun cdv A outer s H vs Q E hr h => ?_)
  · obtain ⟨v, ev, n, ts, es, start, rfl, _⟩ := h
    rfl
  · obtain ⟨v, ev, n, ts, es, start, rfl, hw, he, hends, hes, hst, hn, hel, k⟩ := h
    have hr_far : Room 1 _ := hr
    have hu := hu_of hr
    have nd := scWfrom.nd
    obtain ⟨a, c, ys, rfl, ha, hc, hys⟩ := dp_web hw
    have hyl : ys.length = ts.length := by rw [dpAll_len hys, List.length_map]
    obtain ⟨ae, rfl, hae⟩ := dp_lotN he
    refine ⟨_, (pss_cons (ps_set (i := 3) nd rfl (by first | exact Or.inl rfl | exact Or.inr rfl) (pe_disp (pps_cons (pv 2) (pe_tup pa_nil) pps_nil) (by rfl) (by rfl) (fun z => by cases z) (by decide)))
      (pss_cons (ps_set (i := 4) nd rfl (by first | exact Or.inl rfl | exact Or.inr rfl) (pe_lst (pa_cons (pv 2) pa_nil)))
      (pss_cons (ps_while PassesOwn.never (pt_truth (pv 4) (by intro _; rfl)) (pss_cons (ps_set (i := 5) nd rfl (by first | exact Or.inl rfl | exact Or.inr rfl) (pe_bm PySem.F.plainAttrs_list PySem.F.slot_list_pop PySem.F.type_list_pop mt_popAt (pv 4) (pa_cons pe_int pa_nil)))
      (pss_one (ps_for PassesOwn.never rfl (piT K (pv 1)) (pg_name (i := 6) nd rfl (by first | exact Or.inl rfl | exact Or.inr rfl)) (pss_cons (ps_if (pt_cmpR (opNotIn K) (pv 5) (pe_ix (ixT K) (pe_ix (ixT K) (pv 0) pe_int (fun _ _ => rfl)) (pv 6) (fun _ _ => rfl)) rfl) (pss_one ps_continue) pss_nil)
      (pss_cons (ps_set (i := 7) nd rfl (by first | exact Or.inl rfl | exact Or.inr rfl) (pe_call G_far hr_far (by rfl) D_far.ad D_far.fn.kp D_far.bd .nil pass0 (pa_cons (pv 0) (pa_cons (pv 6) (pa_cons (pv 5) pa_nil)))))
      (pss_one (ps_if (pt_cmp (pc_dnotin hu (pv 7) (pv 3))) (pss_cons (ps_dput hu (pv 3) (pv 7) (pe_op (catA K) (pe_dget hu (pv 3) (pv 5) (fun _ _ => rfl)) (pe_tup (pa_cons (pv 6) pa_nil))) rfl)
      (pss_one (ps_expr (pe_bm PySem.F.plainAttrs_list PySem.F.slot_list_append PySem.F.type_list_append mt_append (pv 4) (pa_cons (pv 7) pa_nil))))) pss_nil))))))))
      (pss_one (ps_ret (pv 3)))))), ?_⟩
    refine fun d hd => ?_
    have s1 := same_new (o := .dK []) hd
    refine ⟨_, rfl, Nat.zero_le _, fun t0 ht0 => ?_⟩
    have s2 := same_new (o := .tup []) ht0
    have hd2 := s2 _ _ (upd_same (H := H) (a := d) (o := .dK []))
    have nd0 : d ≠ t0 := by
      rintro rfl
      rw [upd_same] at ht0
      cases ht0
    refine ⟨hd2, [(Sum.inl (start : Int), .ref t0)], rfl, (by show 1 ≤ 15; decide), ?_⟩
    dsimp only [gName]
    refine at_st [some (.ref a), some (.ref ae), some (.int start), some (.ref d), none, none, none, none] rfl ?_
    refine tSeq_go ?_
    refine ⟨_, rfl, by show 1 ≤ sizeLine; decide, fun q hq => ?_⟩
    have h3d : (upd (upd (upd H d (.dK [])) t0 (.tup [])) d (.dK (mergeK [] [((Sum.inl (start : Int) : Key), V.ref t0)]))) d = some (.dK [((Sum.inl (start : Int) : Key), V.ref t0)]) := upd_same
    have h3t : (upd (upd (upd H d (.dK [])) t0 (.tup [])) d (.dK (mergeK [] [((Sum.inl (start : Int) : Key), V.ref t0)]))) t0 = some (.tup []) := by
      rw [upd_ne nd0.symm]
      exact upd_same
    have h3s : Same H (upd (upd (upd H d (.dK [])) t0 (.tup [])) d (.dK (mergeK [] [((Sum.inl (start : Int) : Key), V.ref t0)]))) := same_old hd (s1.trans s2)
    generalize (upd (upd (upd H d (.dK [])) t0 (.tup [])) d (.dK (mergeK [] [((Sum.inl (start : Int) : Key), V.ref t0)]))) = H3 at *
    have s3 := same_new (o := .lst [.int start]) hq
    have s4 := h3s.trans s3
    have dq : d ≠ q := by
      rintro rfl
      rw [h3d] at hq
      cases hq
    have b4 : Bfs K ts es n start (upd H3 q (.lst [.int start])) d q [(start, [])] [start] := by
      refine ⟨⟨_, s3 _ _ h3d, rfl, fun p hp => ?_⟩, upd_same, start_inv hst, Nat.le_refl _, n + 1, by show 1 + (n - 1) ≤ n + 1; omega, rfl⟩
      obtain rfl := List.mem_singleton.mp hp
      refine ⟨t0, ?_, SqT.of (s3 _ _ h3t)⟩
      simp [valV]
    have qn : H q = none := Same.free h3s hq
    clear hq s3 h3d h3t h3s s1 s2 hd2 ht0 nd0
    generalize upd H3 q (.lst [.int start]) = H4 at b4 s4
    dsimp only [gName]
    refine at_st [some (.ref a), some (.ref ae), some (.int start), some (.ref d), some (.ref q), none, none, none] rfl ?_
    refine tSeq_go ?_
    refine while_by (fun σ H' => ∃ (v5 v6 v7 : Option V) (F : FL) (que : List Nat), σ = [some (.ref a), some (.ref ae), some (.int start), some (.ref d), some (.ref q), v5, v6, v7] ∧ Same H H' ∧
      Bfs K ts es n start H' d q F que) (fun _ H' => muW n d q H') ?_ ?_ ?_
    · exact ⟨none, none, none, _, [start], rfl, s4, b4⟩
    · rintro σ H5 ⟨v5, v6, v7, F, que, rfl, s5, b5⟩
      refine ⟨_, rfl, !(natsV que).isEmpty, .inl ⟨_, SqL.of b5.qu, rfl⟩, ?_⟩
      cases que with
      | nil =>
        refine iteF ?_
        obtain ⟨m, _, hm⟩ := b5.go
        rw [go_nil] at hm
        exact ⟨_, rfl, k d H5 hd s5 (hm ▸ b5.fd)⟩
      | cons p rest =>
        refine iteT ?_
        refine tSeq_go ?_
        have hp5 : p ∈ keysF F := b5.bi.qs p (List.mem_cons_self ..)
        refine ⟨_, rfl, .inl ⟨rfl, _, SqL.of b5.qu⟩, q, _, 0, 0, .int p, rfl, rfl, b5.qu, by decide, by decide, by simp [seqIndex?, natsV], rfl, ?_⟩
        have e5 : (natsV (p :: rest)).eraseIdx 0 = natsV rest := rfl
        rw [e5]
        have bi6 : BI ts es n start F rest := ⟨b5.bi.nd, b5.bi.lt, b5.bi.st, b5.bi.ways, fun x hx => b5.bi.qs x (List.mem_cons_of_mem _ hx)⟩
        have fd6 : FoundF K (upd H5 q (.lst (natsV rest))) d F := b5.fd.kf (kf_upd b5.qu ⟨(fun _ e => nomatch e), (fun _ _ e => nomatch e)⟩) (upd_ne dq)
        have qu6 : (upd H5 q (.lst (natsV rest))) q = some (.lst (natsV rest)) := upd_same
        have ql6 : rest.length ≤ F.length := Nat.le_of_succ_le b5.ql
        have s6 : Same H (upd H5 q (.lst (natsV rest))) := same_old qn s5
        have m6 : muW n d q (upd H5 q (.lst (natsV rest))) + 1 = muW n d q H5 := by
          obtain ⟨kvs, h1, h2, _⟩ := b5.fd
          rw [muW_at (d := d) (q := q) (by rw [upd_ne dq]; exact h1) upd_same, muW_at h1 b5.qu]
          simp [natsV]
          omega
        have hgo : ∃ m, (es.foldl (stepK ts p) (F, rest)).2.length + (n - (es.foldl (stepK ts p) (F, rest)).1.length) ≤ m ∧ bfsGo ts es m (es.foldl (stepK ts p) (F, rest)).1 (es.foldl (stepK ts p) (F, rest)).2 = bfs ts es n start := by
          obtain ⟨m, h1, h2⟩ := b5.go
          rw [List.length_cons] at h1
          have hsc := (scan_inv hends es F rest bi6 hp5 fun x hx => ⟨hx, hes x hx⟩).2.2.2.2.2
          cases m with
          | zero => omega
          | succ m => exact ⟨m, by omega, h2⟩
        clear e5 b5
        generalize upd H5 q (.lst (natsV rest)) = H6 at *
        dsimp only [gName]
        refine at_st [some (.ref a), some (.ref ae), some (.int start), some (.ref d), some (.ref q), some (.int p), v6, v7] rfl ?_
        refine ⟨_, rfl, ae, rfl, ⟨_, sqT_same s6 hae⟩, for_it (walk_tup (xs := natsV es)) (fun i σ H' => ∃ (v6 v7 : Option V), σ = [some (.ref a), some (.ref ae), some (.int start), some (.ref d), some (.ref q), some (.int p), v6, v7] ∧
          Same H H' ∧ FoundF K H' d ((es.take i).foldl (stepK ts p) (F, rest)).1 ∧ H' q = some (.lst (natsV ((es.take i).foldl (stepK ts p) (F, rest)).2)) ∧
          ((es.take i).foldl (stepK ts p) (F, rest)).2.length ≤ ((es.take i).foldl (stepK ts p) (F, rest)).1.length ∧ muW n d q H' + 1 ≤ muW n d q H5) ?_ ?_ ?_ ?_⟩
        · exact ⟨v6, v7, rfl, s6, fd6, qu6, ql6, by omega⟩
        · rintro i σ H' _ ⟨v6, v7, rfl, sH, _⟩
          exact sqT_same sH hae
        · rintro i x σ H7 H'' hi ⟨v6, v7, rfl, s7, b7, q7, l7, m7⟩ ⟨rfl, hx⟩
          obtain ⟨kk, hkk, rfl⟩ := get_map hx
          have hke := List.mem_of_getElem? hkk
          have hkl : kk < ts.length := hes kk hke
          have ht : ts[kk]? = some ts[kk] := List.getElem?_eq_getElem hkl
          generalize ts[kk] = t at ht
          have hmt := List.mem_of_getElem? ht
          obtain ⟨bi7, sub7, _⟩ := scan_inv hends (es.take i) F rest bi6 hp5 fun x hx => ⟨List.mem_of_mem_take hx, hes x (List.mem_of_mem_take hx)⟩
          have p7 := sub7 p hp5
          have hstep : (es.take (i + 1)).foldl (stepK ts p) (F, rest) = stepK ts p ((es.take i).foldl (stepK ts p) (F, rest)) kk := by
            rw [List.take_add_one, hkk, List.foldl_append]
            rfl
          rw [hstep]
          generalize (es.take i).foldl (stepK ts p) (F, rest) = S at *
          obtain ⟨F2, que2⟩ := S
          dsimp only at b7 q7 l7 bi7 p7 ⊢
          obtain ⟨y, hy, hyd⟩ := dpAll_at hys (show (ts.map tieD)[kk]? = some (tieD t) by rw [List.getElem?_map, ht]; rfl)
          obtain ⟨az, rfl, haz⟩ := dp_tie (dp_same s7 _ hyd)
          have key : inV (V.int (p : Int)) [V.int t.1, V.int t.2] = decide (p ∈ [t.1, t.2]) := inv_nats p [t.1, t.2]
          show tSeq _ _ _ _ _
          refine tSeq_go ?_
          have ha7 := sqT_same s7 ha
          have hc7 := sqT_same s7 hc
          refine ⟨_, rfl, _, rfl, a, _, _, _, rfl, rfl, ha7, atI_nat (j := 1) rfl, _, rfl, c, _, _, _, rfl, rfl, hc7, atI_nat hy, az, _, rfl, .inr haz, rfl, rfl, _, rfl, ?_⟩
          refine ite2 (fun hh => ?_) (fun hh => ?_)
          · -- not at this end
            rw [key] at hh
            have hno : p ∉ [t.1, t.2] := by simpa using hh
            simp only [List.mem_cons, List.not_mem_nil, or_false, not_or] at hno
            have e : stepK ts p (F2, que2) kk = (F2, que2) := by
              unfold stepK
              rw [ht]
              dsimp only
              rw [if_neg fun z => z.elim hno.1 hno.2]
            rw [e]
            exact ⟨_, v7, rfl, s7, b7, q7, l7, m7⟩
          rw [key] at hh
          have hin : p = t.1 ∨ p = t.2 := by
            have : p ∈ [t.1, t.2] := Classical.byContradiction fun hn => hh (by rw [decide_eq_false hn]; rfl)
            simpa using this
          dsimp only [tNext]
          refine tSeq_go ?_
          refine ⟨_, rfl, _, rfl, _, rfl, .ref a, n, ts, kk, p, t, rfl, dp_same s7 _ hw, ht, ?_⟩
          dsimp only [gName]
          have efe : farT t p = farE t p := rfl
          rw [efe]
          refine at_st [some (.ref a), some (.ref ae), some (.int start), some (.ref d), some (.ref q), some (.int p), some (.int kk), some (.int (farE t p : Nat))] rfl ?_
          obtain ⟨kvs, h1, h2, h3⟩ := b7
          have hlen0 : kvs.length = F2.length := by
            have := kv_len h2
            unfold keysF at this
            rwa [List.length_map] at this
          have hF2n := bi7.len
          refine ⟨_, rfl, _, rfl, d, _, rfl, DGet.k (k := Sum.inl ((farE t p : Nat) : Int)) h1, _, rfl, ?_⟩
          rw [val_none h2]
          refine ite2 (fun hh2 => ?_) (fun hh2 => ?_)
          · have hnf : farE t p ∉ keysF F2 := by simpa using hh2
            have e : stepK ts p (F2, que2) kk = (F2 ++ [(farE t p, wayAt F2 p ++ [kk])], que2 ++ [farE t p]) := by
              unfold stepK
              rw [ht]
              dsimp only
              rw [if_pos hin, if_neg hnf]
            rw [e]
            have biN := (step_inv hends bi7 p7 hke ht).1
            rw [e] at biN
            have hN := biN.len
            rw [List.length_append, List.length_singleton] at hN
            have hvn : valV kvs (Sum.inl ((farE t p : Nat) : Int)) = none := by
              have := val_none (p := farE t p) h2
              rw [decide_eq_false hnf] at this
              cases e : valV kvs (Sum.inl ((farE t p : Nat) : Int)) with
              | none => rfl
              | some x => rw [e] at this; cases this
            obtain ⟨aw, e1, e2⟩ := h3 _ (wayAt_mem p7)
            obtain ⟨P0, hP1, hP2, _⟩ := bi7.ways _ (wayAt_mem p7)
            have hwl : (wayAt F2 p).length ≤ n := by
              have h8 := hP1.nd
              have h9 := nodup_sub (keysF F2) P0 h8.1 hP2
              unfold keysF at h9
              rw [List.length_map] at h9
              have h82 : (wayAt F2 p).length + 1 = P0.length := h8.2
              omega
            refine tSeq_go ?_
            refine ⟨_, rfl, _, rfl, d, _, rfl, by rw [← e1]; exact DGet.k (k := Sum.inl (p : Int)) h1, ?_⟩
            refine ⟨_, rfl, by show 1 ≤ sizeLine; decide, fun t1 ht1 => ?_⟩
            have u1 := same_new (o := .tup [.int kk]) ht1
            refine catA_by rfl rfl (sqT_same u1 e2) (SqT.of upd_same) (by unfold natsV; rw [List.length_map]; show _ + 1 ≤ 100000; dsimp only; omega) fun cw H8 u2 hcw => ?_
            have u12 := u1.trans u2
            have h18 := u12 _ _ h1
            have h48 := u12 _ _ q7
            refine ⟨_, rfl, _, rfl, d, _, rfl, DPut.k (k := Sum.inl ((farE t p : Nat) : Int)) h18 (Nat.lt_of_lt_of_le (show kvs.length < 100000 by omega) (by decide)), ?_⟩
            have kd : KF H8 (upd H8 d (.dK (putK kvs (Sum.inl ((farE t p : Nat) : Int)) (.ref cw)))) := kf_upd h18 ⟨(fun _ e => nomatch e), (fun _ _ e => nomatch e)⟩
            have hq9 : (upd H8 d (.dK (putK kvs (Sum.inl ((farE t p : Nat) : Int)) (.ref cw)))) q = some (.lst (natsV que2)) := by
              rw [upd_ne dq.symm]
              exact h48
            refine ⟨_, rfl, .inl ⟨rfl, _, SqL.of hq9⟩, _, rfl, q, _, _, rfl, rfl, hq9, ?_, ?_⟩
            · unfold natsV
              rw [List.length_map]
              exact Nat.lt_of_lt_of_le (show que2.length < 100000 by omega) (by decide)
            have kq : KF (upd H8 d (.dK (putK kvs (Sum.inl ((farE t p : Nat) : Int)) (.ref cw)))) (upd (upd H8 d (.dK (putK kvs (Sum.inl ((farE t p : Nat) : Int)) (.ref cw)))) q (.lst (natsV que2 ++ [.int (farE t p : Nat)]))) := kf_upd hq9 ⟨(fun _ e => nomatch e), (fun _ _ e => nomatch e)⟩
            have hd10 : (upd (upd H8 d (.dK (putK kvs (Sum.inl ((farE t p : Nat) : Int)) (.ref cw)))) q (.lst (natsV que2 ++ [.int (farE t p : Nat)]))) d = some (.dK (kvs ++ [(Sum.inl ((farE t p : Nat) : Int), .ref cw)])) := by
              rw [upd_ne dq, upd_same, putK_new _ hvn]
            have hq10 : (upd (upd H8 d (.dK (putK kvs (Sum.inl ((farE t p : Nat) : Int)) (.ref cw)))) q (.lst (natsV que2 ++ [.int (farE t p : Nat)]))) q = some (.lst (natsV (que2 ++ [farE t p]))) := by
              rw [upd_same]
              unfold natsV
              rw [List.map_append]
              rfl
            refine ⟨some (.int kk), some (.int (farE t p : Nat)), rfl, same_old qn (same_old hd (s7.trans u12)), ⟨_, hd10, ?_, fun x hx => ?_⟩, hq10, ?_, ?_⟩
            · rw [keys_app, List.map_append, List.map_append, h2]
              rfl
            · have vput : ∀ y : Nat, valV (kvs ++ [(Sum.inl ((farE t p : Nat) : Int), V.ref cw)]) (Sum.inl (y : Int)) = if y = farE t p then some (.ref cw) else valV kvs (Sum.inl (y : Int)) := fun y => by
                rw [← putK_new _ hvn, valV_put]
                by_cases e : y = farE t p
                · rw [if_pos e, if_pos (by rw [e])]
                · rw [if_neg e, if_neg (fun z => e (by have := Sum.inl.inj z; omega))]
              rcases List.mem_append.mp hx with z | z
              · obtain ⟨ax, f1, f2⟩ := h3 x z
                refine ⟨ax, ?_, sqT_kf kq (sqT_kf kd (sqT_same u12 f2))⟩
                rw [vput, if_neg (fun e : x.1 = farE t p => hnf (e ▸ List.mem_map_of_mem z)), f1]
              · obtain rfl := List.mem_singleton.mp z
                refine ⟨cw, ?_, sqT_kf kq (sqT_kf kd ?_)⟩
                · rw [vput, if_pos rfl]
                · have : natsV (wayAt F2 p ++ [kk]) = natsV (wayAt F2 p) ++ [.int kk] := by unfold natsV; rw [List.map_append]; rfl
                  dsimp only
                  rw [this]
                  exact hcw
            · dsimp only
              rw [List.length_append, List.length_append]
              exact Nat.add_le_add_right l7 _
            · rw [muW_at h1 q7] at m7
              rw [muW_at hd10 hq10]
              unfold natsV at m7 ⊢
              rw [List.length_map] at m7 ⊢
              rw [List.length_append, List.length_append, List.length_singleton, List.length_singleton]
              omega
          · have hyf : farE t p ∈ keysF F2 := by simpa using hh2
            have e : stepK ts p (F2, que2) kk = (F2, que2) := by
              unfold stepK
              rw [ht]
              dsimp only
              rw [if_pos hin, if_pos hyf]
            rw [e]
            exact ⟨some (.int kk), some (.int (farE t p : Nat)), rfl, s7, ⟨kvs, h1, h2, h3⟩, q7, l7, m7⟩
        · rintro σ H7 ⟨v6, v7, rfl, s7, b7, q7, l7, m7⟩
          have el : es.take (natsV es).length = es := by
            unfold natsV
            rw [List.length_map]
            exact List.take_of_length_le (Nat.le_refl _)
          rw [el] at b7 q7 l7
          exact ⟨⟨_, _, _, _, _, rfl, s7, b7, q7, (scan_inv hends es F rest bi6 hp5 fun x hx => ⟨hx, hes x hx⟩).1, l7, hgo⟩, by omega⟩
    · rintro σ H' Q1 Q2 hQ ⟨v, e, kb, tv, q1⟩
      exact ⟨v, e, kb, tv, hQ _ _ q1⟩

end
end BV

namespace BV
open PySem PySem.Spec PyProof.Rows L2
/-! ### an own error without arguments: raised, caught, looked at -/
section
variable {X : Cx} {C : Addr} {mr : List Value} {B n1 n2 : String}
theorem pmk_bare {x : Str} {p pos : Pos} (F : ExcBaseFacts B n1 n2 mr) (hq : PySem.W.excIn X.K C mr n1 = true) (hm : X.mg x = some (.ref C)) (hk : PySem.W.keepIn X.K (.ref C) = true) (hr : Raises X (.ref C)) (hg : Gl X x)
    (hdb : (x == ("__debug__" : Str)) = false := by decide) : PMk X (.Call (.Name x p) [] [] pos) (fun _ H Q => Q (.ref C) none H) := by
  intro pins ⟨hp, gn, dr, tk, os⟩ σ H Q J q0
  refine wpAny_Call_Name_kw (ld_glob J hg hm (PySem.W.callWith_K0 J.kIn hk ?_) hdb)
  have ⟨c1, c2, c3, c4, c5, c6, c7, c8, c9, d1, d2, d3, d4, d5, d6, d7, e1, e2, e3, e4, e5⟩ := exc_obj J.kIn hq
  exact wpAny_call_exc_subT F e5 e2 e3 e4 (fun _ _ made => mk_of J made hr q0 (J.hok.gone made.new)) (Nat.zero_le _)
end
/-- what is known of the class Unfit, under BothError -/
structure ErrU (K : PySem.W.Frag) (mg : Str → Option Value) (U B : Addr) : Prop where
  gU : mg "Unfit" = some (.ref U)
  gB : mg "BothError" = some (.ref B)
  gv : mg "ValueError" = none
  xU : PySem.W.excIn K U [.type "ValueError", .type "Exception", .type "BaseException", .type "object"] "ValueError.__new__" = true
  kU : PySem.W.keepIn K (.ref U) = true
  bU : PySem.W.subIn K (.ref U) (.type "BaseException") = some true
  tU : PySem.W.typeIn K (.ref U) = some (.type "type")
  te : PySem.W.exmOne K (.ref U) (.ref U) = some true
  ex : ExcC K U
  iv : PySem.W.kitOne K (.ref U) (.type "ValueError") = some true
  ib : PySem.W.kitOne K (.ref U) (.ref B) = some true
theorem ErrU.raises {X : Cx} {U B : Addr} (T : ErrU X.K X.mg U B) : Raises X (.ref U) := raises_own T.bU T.tU
theorem ps_unfit {X : Cx} {U B : Addr} {W : WX} {p pos pos2 : Pos} (hc : X.calm = true) (T : ErrU X.K X.mg U B) (tk : Takes X W) (hg : Gl X "Unfit" := by rfl) :
    PS X (.Raise (some (.Call (.Name "Unfit" p) [] [] pos)) none pos2) (fun _ σ H => W (.ref U) none σ H) :=
  ps_raise hc tk (pmk_bare PySem.F.excBase_ValueError T.xU T.gU T.kU T.raises hg)
/-- isinstance(e, c), e the error that the suite holds -/
def rIsX (K : PySem.W.Frag) (a : Addr) (cls : Value) (d : Option Addr) : List V → Hp → VK → Prop := fun xs H Q => ∃ U, ExcC K U ∧ cls = .ref U ∧ d = none ∧ rIsE K U a xs H Q
theorem isX {X : Cx} {a : Addr} {oe : Obj} {cls : Value} {d : Option Addr} {pn : List (Addr × Obj)} (hz : Zc cls d oe) (hf : ∃ vs, oe.data = .fields vs) : CallR (X.suite a ((a, oe) :: pn)) (.builtin "isinstance") (rIsX X.K a cls d) := by
  intro pins s σ H xs us Q J r h
  obtain ⟨U, hC, e1, e2, h⟩ := h
  subst e1 e2
  exact call_isE hC hz hf pins s σ H xs us Q J r h
section
variable {X : Cx} {CX : CXT} {k n : Nat} {f : Addr} {fd : FuncData} {ps ks : List Str} {sp : Sp} {dvs : List V} {ds : List Value}
  {E : L2.St → XK} {x : Str} {p pos : Pos} {tk : TA} {kws : List Keyword} {g : List Value → List Value → List Value} {gV : List V → List V → List V}
def tCallKS (m : Nat) (sp : Sp) (gV : List V → List V → List V) (E : L2.St → XK) (tk : TA) : TE := fun σ H Q => tk σ H fun zs H2 => zs.length = m ∧ sp (gV [] zs) H2 Q (E σ)
/-- f(k = v, ..), where what f raises is wished for at the slots -/
theorem pe_callKS (F : FnOk X.prog X.w X.K X.mg X.base CX k f fd ps sp) (hr : Room k X.A) (hg : Gl X x) (hm : X.mg x = some (.ref f)) (hk : PySem.W.keepIn X.K (.ref f) = true)
    (hb : KBn X.K fd ps 0 ks g gV) (hx : ∀ σ, PassesAt CX X σ (E σ)) (hkw : PK X kws tk)
    (hall : (backToKw pos (keywordEach kws X.env)).all (·.1.isSome) = true := by rfl) (hks : (backToKw pos (keywordEach kws X.env)).filterMap (·.1) = ks := by rfl)
    (hdb : (x == ("__debug__" : Str)) = false := by decide)
    (hpl : ((backTo pos (starEach [] X.env)).any (·.1) || (backToKw pos (keywordEach kws X.env)).any (·.1.isNone)) = false := by rfl) :
    PE X (.Call (.Name x p) [] kws pos) (tCallKS ks.length sp gV E tk) := by
  constructor
  intro pins s σ H Q J h
  refine wpAny_Call_Name_kw (ld_glob J hg hm ?_ hdb)
  refine PySem.W.callWith_KW0 (h₀ := X.base) J.ok.mod.kin hk hall (thn (hkw.run pos pins s σ H _ J h) fun ws s2 hh => ?_) hpl
  obtain ⟨zs, H2, J2, rz, l2, q2⟩ := hh
  refine ⟨J2.kIn, ?_⟩
  rw [hks]
  refine wpAny_call (codeAny_mono (F.run X.A X.stack s2 H2 ⟨[], ks.zip ws⟩ _ _ Q (E σ) hr J2.env0 (hb.to s2 [] ws J2.kIn rfl (by rw [← rz.length]; exact l2)) (hb.rel .nil rz) q2) fun r s' hq => ?_)
  cases r with
  | error e => exact hx σ pins H2 s2 e s' J2 hq
  | ok fl =>
    cases fl with
    | ret u => exact J2.after hq
    | next => exact hq.elim
    | brk => exact hq.elim
    | cont => exact hq.elim
end
end BV

namespace BV
open PySem L2
abbrev sOdd : Stmt := top 11
abbrev nOdd : List Str := ["web", "lot", "odd", "tie", "place"]
abbrev pOdd : List Str := ["web", "lot"]
theorem scOdd : FnScope nOdd pOdd (defScope sOdd) := ⟨rfl, rfl, rfl, by decide +kernel, rfl, by decide +kernel, by decide +kernel⟩
abbrev sEven : Stmt := top 12
abbrev nEven : List Str := ["web", "lot"]
abbrev pEven : List Str := ["web", "lot"]
theorem scEven : FnScope nEven pEven (defScope sEven) := ⟨rfl, rfl, rfl, by decide +kernel, rfl, by decide +kernel, by decide +kernel⟩
def atEnd (ts : List Tie) (p k : Nat) : Bool := match ts[k]? with
  | some t => decide (t.1 = p) || decide (t.2 = p)
  | none => false
def deg (ts : List Tie) (lot : List Nat) (p : Nat) : Nat := (lot.filter (atEnd ts p)).length
theorem deg_snoc {ts : List Tie} (l : List Nat) {k p : Nat} {t : Tie} (ht : ts[k]? = some t) : deg ts (l ++ [k]) p = deg ts l p + if t.1 = p ∨ t.2 = p then 1 else 0 := by
  unfold deg
  rw [List.filter_append, List.length_append]
  congr 1
  have e : atEnd ts p k = (decide (t.1 = p) || decide (t.2 = p)) := by
    unfold atEnd
    rw [ht]
  rw [List.filter_cons, e]
  by_cases h : t.1 = p ∨ t.2 = p
  · rw [if_pos h, if_pos (by rw [← Bool.decide_or]; exact decide_eq_true h)]
    rfl
  · rw [if_neg h, if_neg (by rw [← Bool.decide_or, decide_eq_false h]; decide)]
    rfl
def oddPl (n : Nat) (ts : List Tie) (lot : List Nat) : List Nat := (List.range n).filter fun p => decide (deg ts lot p % 2 = 1)
def evenB (n : Nat) (ts : List Tie) (lot : List Nat) : Bool := decide (oddPl n ts lot = [])
theorem rng_get {α : Type} (n : Nat) (g : Nat → α) {i : Nat} (h : i < n) : ((List.range n).map g)[i]? = some (g i) := by
  rw [List.getElem?_map, List.getElem?_range h]
  rfl
theorem rng_set {α : Type} (n : Nat) (g : Nat → α) (i : Nat) (y : α) : ((List.range n).map g).set i y = (List.range n).map fun p => if p = i then y else g p := by
  refine List.ext_getElem? fun j => ?_
  by_cases hj : j < n
  · rw [rng_get n _ hj]
    by_cases e : i = j
    · subst e
      rw [List.getElem?_set_self (by rw [List.length_map, List.length_range]; exact hj), if_pos rfl]
    · rw [List.getElem?_set_ne e, rng_get n g hj, if_neg (fun z => e z.symm)]
  · rw [List.getElem?_eq_none (by rw [List.length_set, List.length_map, List.length_range]; omega), List.getElem?_eq_none (by rw [List.length_map, List.length_range]; omega)]
def boolsV (n : Nat) (f : Nat → Bool) : List V := (List.range n).map fun p => V.bl (f p)
theorem bools_congr {n : Nat} {f g : Nat → Bool} (h : ∀ p, p < n → f p = g p) : boolsV n f = boolsV n g := List.map_congr_left fun p hp => by rw [h p (List.mem_range.mp hp)]
def spOdd (K : PySem.W.Frag) : Sp := fun vs H Q _ => ∃ (v u : V) (n : Nat) (ts : List Tie) (lot : List Nat), vs = [v, u] ∧ Dp K H v (webD n ts) ∧ Dp K H u (lotD lot) ∧ (∀ t ∈ ts, t.1 < t.2 ∧ t.2 < n) ∧ (∀ k ∈ lot, k < ts.length) ∧ n ≤ 1000 ∧
  ∀ (z : V) H', Same H H' → Dp K H' z (lotD (oddPl n ts lot)) → Q z H'
def spEven (K : PySem.W.Frag) : Sp := fun vs H Q _ => ∃ (v u : V) (n : Nat) (ts : List Tie) (lot : List Nat), vs = [v, u] ∧ Dp K H v (webD n ts) ∧ Dp K H u (lotD lot) ∧ (∀ t ∈ ts, t.1 < t.2 ∧ t.2 < n) ∧ (∀ k ∈ lot, k < ts.length) ∧ n ≤ 1000 ∧
  ∀ H', Same H H' → Q (.bl (evenB n ts lot)) H'
theorem even_iff {n : Nat} {ts : List Tie} {lot : List Nat} : evenB n ts lot = true ↔ ∀ p, p < n → ¬ deg ts lot p % 2 = 1 := by
  unfold evenB oddPl
  rw [decide_eq_true_eq, List.filter_eq_nil_iff]
  constructor
  · intro h p hp e
    exact h p (List.mem_range.mpr hp) (decide_eq_true e)
  · intro h p hp e
    exact h p (List.mem_range.mp hp) (of_decide_eq_true e)
theorem sorted_nats {ys : List Int} {l : List Nat} (hperm : ys.Perm (l.map fun (k : Nat) => (k : Int))) (hsort : ys.Pairwise (· ≤ ·)) (hn : l.Nodup) : ∃ ns : List Nat, ys = ns.map (fun (k : Nat) => (k : Int)) ∧ ns.Perm l ∧ ns.Pairwise (· < ·) := by
  obtain ⟨ns, rfl⟩ : ∃ ns : List Nat, ys = ns.map fun (k : Nat) => (k : Int) := ⟨ys.map Int.toNat, by
    rw [List.map_map]
    refine (List.map_id ys).symm.trans (List.map_congr_left fun y hy => ?_)
    obtain ⟨j, _, rfl⟩ := List.mem_map.mp (hperm.mem_iff.mp hy)
    show ((j : Int)) = (((j : Int)).toNat : Int)
    omega⟩
  have hnp : ns.Perm l := by
    have h := hperm.map Int.toNat
    rw [List.map_map, List.map_map] at h
    have e : ∀ l : List Nat, l.map (Int.toNat ∘ fun (k : Nat) => (k : Int)) = l := fun l => by
      refine (List.map_congr_left fun x _ => ?_).trans (List.map_id l)
      show ((x : Int)).toNat = x
      omega
    rw [e, e] at h
    exact h
  refine ⟨ns, rfl, hnp, ?_⟩
  have h6 : ns.Pairwise (· ≤ ·) := (List.pairwise_map.mp hsort).imp fun {x y} z => by omega
  refine (h6.and (hnp.nodup_iff.mpr hn)).imp fun {x y} z => ?_
  obtain ⟨z1, z2⟩ := z
  omega
theorem still_lotsL : ∀ ls : List (List Nat), stillAll (ls.map lotD) = true
  | [] => rfl
  | l :: ls => by
    have h := still_lotsL ls
    simp only [List.map_cons, stillAll, still_lot, h, Bool.and_self]
theorem deg_eq (ts : List Tie) (lot : List Nat) (p : Nat) : deg ts lot p = degE ts lot p := by
  unfold deg degE
  congr 1
  refine List.filter_congr fun k _ => ?_
  unfold atEnd atE
  cases ts[k]? with
  | none => rfl
  | some t => exact (Bool.decide_or _ _).symm
theorem evenB_iff {n : Nat} {ts : List Tie} {lot : List Nat} : evenB n ts lot = true ↔ EvenE n ts lot := by
  rw [even_iff]
  unfold EvenE
  constructor
  · intro h p hp
    have := h p hp
    rw [deg_eq] at this
    omega
  · intro h p hp
    have := h p hp
    rw [deg_eq]
    omega
abbrev sFround : Stmt := top 24
abbrev nFround : List Str := ["web", "lot", "one", "other", "way"]
abbrev pFround : List Str := ["web", "lot"]
theorem scFround : FnScope nFround pFround (defScope sFround) := ⟨rfl, rfl, rfl, by decide +kernel, rfl, by decide +kernel, by decide +kernel⟩
abbrev sParted : Stmt := top 25
abbrev nParted : List Str := ["web", "lot", "found", "left", "part", "tie"]
abbrev pParted : List Str := ["web", "lot"]
theorem scParted : FnScope nParted pParted (defScope sParted) := ⟨rfl, rfl, rfl, by decide +kernel, rfl, by decide +kernel, by decide +kernel⟩
section
variable {P : Program} {w : World} {K : PySem.W.Frag} {mg : Str → Option Value} {base : Heap}
theorem ok_odd {f : Addr} {fd : FuncData} (D : Df K mg "odd_places" sOdd pOdd f fd) (T : Bl mg) : FnOk P w K mg base CX0 1 f fd pOdd (spOdd K) := by
  refine D.fn.ok scOdd (fun vs H Q E h => ?_) (fun cdv A outer s H vs Q E hr h => ?_)
  · obtain ⟨v, u, n, ts, lot, rfl, _⟩ := h
    rfl
  · obtain ⟨v, u, n, ts, lot, rfl, hw, hu, hends, hlot, hn, k⟩ := h
    have nd := scOdd.nd
    obtain ⟨a, c, ys, rfl, ha, hc, hys⟩ := dp_web hw
    obtain ⟨al, rfl, hal⟩ := dp_lotN hu
    refine ⟨_, (pss_cons (ps_set (i := 2) nd rfl (by first | exact Or.inl rfl | exact Or.inr rfl) (pe_op op_rep (pe_lst (pa_cons pe_bl pa_nil)) (pe_ix (ixT K) (pv 0) pe_int (fun _ _ => rfl))))
      (pss_cons (ps_for PassesOwn.never rfl (piT K (pv 1)) (pg_name (i := 3) nd rfl (by first | exact Or.inl rfl | exact Or.inr rfl)) (pss_one (ps_for PassesOwn.never rfl (piT K (pe_ix (ixT K) (pe_ix (ixT K) (pv 0) pe_int (fun _ _ => rfl)) (pv 3) (fun _ _ => rfl))) (pg_name (i := 4) nd rfl (by first | exact Or.inl rfl | exact Or.inr rfl)) (pss_one (ps_asg (pe_not (pe_ix (ixL K) (pv 2) (pv 4) (fun _ _ => rfl))) (pg_sub (pv 2) (pv 4) set_list))))))
      (pss_one (ps_ret (pe_callTy (tupleK K) (by rfl) T.tuple (by decide +kernel) (pa_cons (pe_lc (own := [("place", 4)]) (g := (gName 4)) rfl nd (pi_range1 rfl T.range (pa_cons (pe_ix (ixT K) (pv 0) pe_int (fun _ _ => rfl)) pa_nil)) (blkOk_by (own := [("place", 4)]) (N := nOdd) (sc := defScope sOdd) (by decide +kernel)) (fun _ _ _ _ _ => (pg_name (i := 4) nd rfl (by first | exact Or.inl rfl | exact Or.inr rfl))) (fun _ _ _ _ _ => (pts_one (pt_val (pe_ix (ixL K) (pv 2) (pv 4) (fun _ _ => rfl))))) (fun _ _ _ _ _ => (pv 4))) pa_nil)))))), ?_⟩
    refine ⟨by decide, fun p0 hp0 => ?_⟩
    have s0 : Same H (upd H p0 (.lst [.bl false])) := same_new hp0
    refine ⟨_, rfl, a, _, _, _, rfl, rfl, sqT_same s0 ha, atI_nat (j := 0) rfl, ?_⟩
    refine ⟨p0, _, [.bl false], rfl, rfl, upd_same, by omega, by omega, ?_, fun m0 hm0 => ?_⟩
    · exact Nat.le_trans (show 1 * (n : Int).toNat ≤ 1000 by omega) (by decide)
    have s1 : Same (upd H p0 (.lst [.bl false])) (upd (upd H p0 (.lst [.bl false])) m0 (.lst (List.replicate (n : Int).toNat [V.bl false]).flatten)) := same_new hm0
    have hHm : H m0 = none := Same.free s0 hm0
    dsimp only [gName]
    refine at_st [some (.ref a), some (.ref al), some (.ref m0), none, none] rfl ?_
    refine tSeq_go ?_
    refine ⟨_, rfl, al, rfl, ⟨_, sqT_same (s0.trans s1) hal⟩, for_it (walk_tup (xs := natsV lot)) (fun j σ H' => ∃ (v3 v4 : Option V),
        σ = [some (.ref a), some (.ref al), some (.ref m0), v3, v4] ∧ Same H H' ∧ H' m0 = some (.lst (boolsV n fun p => decide (deg ts (lot.take j) p % 2 = 1)))) ?_ ?_ ?_ ?_⟩
    · refine ⟨none, none, rfl, s0.trans s1, ?_⟩
      rw [upd_same, reps, Int.toNat_natCast]
      rfl
    · rintro j σ H' _ ⟨v3, v4, rfl, h1, _⟩
      exact sqT_same h1 hal
    · rintro j x σ H' H'' hj ⟨v3, v4, rfl, h1, h3⟩ ⟨rfl, hx⟩
      obtain ⟨kk, hkk, rfl⟩ := get_map hx
      have hkm : kk < ts.length := hlot kk (List.mem_of_getElem? hkk)
      have ht : ts[kk]? = some ts[kk] := List.getElem?_eq_getElem hkm
      have hte := hends ts[kk] (List.getElem_mem hkm)
      obtain ⟨y, hy, hyd⟩ := dpAll_at hys (show (ts.map tieD)[kk]? = some (tieD ts[kk]) by rw [List.getElem?_map, ht]; rfl)
      obtain ⟨ay, rfl, hay⟩ := dp_tie hyd
      have htk : lot.take (j + 1) = lot.take j ++ [kk] := by
        rw [List.take_add_one, hkk]
        rfl
      refine ⟨_, rfl, a, _, _, _, rfl, rfl, sqT_same h1 ha, atI_nat (j := 1) rfl, ?_⟩
      refine ⟨_, rfl, c, _, _, _, rfl, rfl, sqT_same h1 hc, atI_nat hy, ?_⟩
      generalize ts[kk] = t at *
      refine ⟨ay, rfl, ⟨_, sqT_same h1 hay⟩, for_it (walk_tup (xs := [V.int t.1, V.int t.2])) (fun i σ H' => ∃ (v4 : Option V),
        σ = [some (.ref a), some (.ref al), some (.ref m0), some (.int kk), v4] ∧ Same H H' ∧ H' m0 = some (.lst (boolsV n fun p => Bool.xor (decide (deg ts (lot.take j) p % 2 = 1)) ((decide (1 ≤ i) && decide (t.1 = p)) || (decide (2 ≤ i) && decide (t.2 = p)))))) ?_ ?_ ?_ ?_⟩
      · refine ⟨v4, rfl, h1, ?_⟩
        rw [h3]
        congr 2
        exact bools_congr fun p _ => by simp
      · rintro i σ H' _ ⟨v4, rfl, h1, _⟩
        exact sqT_same h1 hay
      · rintro i x σ H2 H3 hi ⟨v4, rfl, h1, h3⟩ ⟨rfl, hx⟩
        obtain ⟨e, he, hen, hst⟩ : ∃ e : Nat, x = .int (e : Int) ∧ e < n ∧ ∀ p : Nat, (if p = e then !(Bool.xor (decide (deg ts (lot.take j) e % 2 = 1)) ((decide (1 ≤ i) && decide (t.1 = e)) || (decide (2 ≤ i) && decide (t.2 = e)))) else Bool.xor (decide (deg ts (lot.take j) p % 2 = 1)) ((decide (1 ≤ i) && decide (t.1 = p)) || (decide (2 ≤ i) && decide (t.2 = p)))) =
            Bool.xor (decide (deg ts (lot.take j) p % 2 = 1)) ((decide (1 ≤ i + 1) && decide (t.1 = p)) || (decide (2 ≤ i + 1) && decide (t.2 = p))) := by
          have hi2 : i < 2 := hi
          match i, hi2, hx with
          | 0, _, hx =>
            refine ⟨t.1, (Option.some.inj hx).symm, by omega, fun p => ?_⟩
            by_cases hp : p = t.1
            · subst hp
              simp
            · have : ¬ t.1 = p := fun z => hp z.symm
              simp [hp, this]
          | 1, _, hx =>
            refine ⟨t.2, (Option.some.inj hx).symm, by omega, fun p => ?_⟩
            by_cases hp : p = t.2
            · subst hp
              have : ¬ t.1 = t.2 := by omega
              simp [this]
            · have : ¬ t.2 = p := fun z => hp z.symm
              simp [hp, this]
        subst he
        refine ⟨_, rfl, _, rfl, m0, _, (e : Int), _, rfl, rfl, SqL.of h3, atI_nat (rng_get n _ hen), _, rfl, ?_⟩
        refine ⟨_, rfl, _, rfl, m0, _, (e : Int), e, rfl, rfl, h3, ix_nat (by unfold boolsV; rw [List.length_map, List.length_range]; exact hen), ?_⟩
        refine ⟨_, rfl, same_old hHm h1, ?_⟩
        rw [upd_same]
        unfold boolsV
        rw [rng_set]
        congr 2
        refine List.map_congr_left fun p _ => ?_
        dsimp only
        rw [← hst p]
        split <;> rfl
      · rintro σ H2 ⟨v4, rfl, h1, h3⟩
        refine ⟨_, _, rfl, h1, ?_⟩
        rw [h3]
        congr 2
        refine bools_congr fun p _ => ?_
        rw [htk, deg_snoc _ ht]
        by_cases hp : t.1 = p ∨ t.2 = p
        · rw [if_pos hp]
          have : ((decide (1 ≤ [V.int (t.1 : Int), V.int (t.2 : Int)].length) && decide (t.1 = p)) || (decide (2 ≤ [V.int (t.1 : Int), V.int (t.2 : Int)].length) && decide (t.2 = p))) = true := by
            rcases hp with e | e <;> simp [e]
          rw [this, Bool.xor_true, Bool.eq_iff_iff]
          simp only [Bool.not_eq_true', decide_eq_false_iff_not, decide_eq_true_eq]
          omega
        · rw [if_neg hp]
          have h4 : ¬ t.1 = p := fun z => hp (.inl z)
          have h5 : ¬ t.2 = p := fun z => hp (.inr z)
          simp [h4, h5]
    · rintro σ H2 ⟨v3, v4, rfl, h1, h3⟩
      unfold natsV at h3
      rw [List.length_map, List.take_of_length_le (Nat.le_refl _)] at h3
      refine ⟨_, rfl, a, _, _, _, rfl, rfl, sqT_same h1 ha, atI_nat (j := 0) rfl, _, rfl, by omega, by omega, fun E1 hE1 => ?_⟩
      refine lc_run (walk_range (lo := 0) (n := (n : Int).toNat)) hE1 (fun i acc _ => acc = natsV ((List.range i).filter fun p => decide (deg ts lot p % 2 = 1))) ?_ ?_ ?_ ?_
      · exact fun _ _ => trivial
      · rfl
      · rintro i x acc H4 H' hi hacc e s r ⟨rfl, rfl⟩
        dsimp only
        rw [Int.zero_add]
        have hin : i < n := by omega
        have r' : acc = natsV ((List.range i).filter fun p => decide (deg ts lot p % 2 = 1)) := r
        have hal : acc.length ≤ i := by
          rw [r']
          unfold natsV
          rw [List.length_map]
          exact Nat.le_trans (List.length_filter_le _ _) (by rw [List.length_range]; exact Nat.le_refl _)
        refine ⟨rfl, _, rfl, _, rfl, m0, _, (i : Int), _, rfl, rfl, SqL.of (s _ _ h3), atI_nat (rng_get n _ hin), _, rfl, ?_⟩
        refine ite2 (fun hh => ?_) (fun hh => ?_)
        · refine ⟨_, rfl, ?_⟩
          refine lc_add hacc e (Same.refl _) (by omega) ?_
          show _ = _
          rw [range_filter_succ, if_pos hh, r']
          unfold natsV
          rw [List.map_append]
          rfl
        · refine lc_skip hacc e (Same.refl _) ?_
          show _ = _
          rw [range_filter_succ, if_neg hh, List.append_nil]
          exact r'
      · rintro acc H4 h4 s2 r
        have r' : acc = natsV ((List.range (n : Int).toNat).filter fun p => decide (deg ts lot p % 2 = 1)) := r
        rw [Int.toNat_natCast] at r'
        refine ⟨E1, _, rfl, .inl ⟨SqL.of h4, fun u hu => ?_⟩⟩
        refine k _ _ (h1.trans (s2.trans (same_new hu))) (lot_dp (SqT.of ?_))
        rw [upd_same, r']
        rfl
theorem ok_even {f f1 : Addr} {fd fd1 : FuncData} (D : Df K mg "is_even" sEven pEven f fd) (T : Bl mg) (D_odd : Df K mg "odd_places" sOdd pOdd f1 fd1) : FnOk P w K mg base CX0 2 f fd pEven (spEven K) := by
  have G_odd : FnOk P w K mg base CX0 1 f1 fd1 pOdd (spOdd K) := ok_odd D_odd T
  refine D.fn.ok scEven (fun vs H Q E h => ?_) (fun cdv A outer s H vs Q E hr h => ?_)
  · obtain ⟨v, u, n, ts, lot, rfl, _⟩ := h
    rfl
  · obtain ⟨v, u, n, ts, lot, rfl, hw, hu, hends, hlot, hn, k⟩ := h
    have hr_odd : Room 1 _ := hr
    have nd := scEven.nd
    refine ⟨_, (pss_one (ps_ret (pe_cmpR (opEqD K hr.units) (pe_call G_odd hr_odd (by rfl) D_odd.ad D_odd.fn.kp D_odd.bd .nil pass0 (pa_cons (pv 0) (pa_cons (pv 1) pa_nil))) (pe_tup pa_nil) (nomark _)))), ?_⟩
    refine ⟨_, rfl, _, rfl, v, u, n, ts, lot, rfl, hw, hu, hends, hlot, hn, fun z H1 s1 hz => ?_⟩
    refine ⟨Nat.zero_le _, fun q hq => ?_⟩
    have s2 := same_new (o := .tup []) hq
    refine ⟨lotD (oddPl n ts lot), lotD [], dp_same s2 _ hz, lot_dp (ks := []) (SqT.of upd_same), shaped_lotN _, shaped_lotN [], ?_⟩
    rw [eqv_lots]
    exact k _ (s1.trans s2)
end
theorem asc_perm {l m : List Nat} (hl : l.Pairwise (· < ·)) (hm : m.Pairwise (· < ·)) (h : l.Perm m) : l = m := asc_uniq hl hm fun k => h.mem_iff
def spFround (K : PySem.W.Frag) : Sp := fun vs H Q _ => ∃ (v lv : V) (n : Nat) (ts : List Tie) (k0 : Nat) (rest : List Nat), vs = [v, lv] ∧ Dp K H v (webD n ts) ∧ Dp K H lv (lotD (k0 :: rest)) ∧ (∀ t ∈ ts, t.1 < t.2 ∧ t.2 < n) ∧ n ≤ 1000 ∧ ts.length ≤ 60 ∧
  LotA ts.length (k0 :: rest) ∧ EvenE n ts (k0 :: rest) ∧ ∀ (u : V) H', Same H H' → Dp K H' u (lotD (frL ts n (k0 :: rest))) → Q u H'
def spParted (K : PySem.W.Frag) (U : Addr) : Sp := fun vs H Q E => ∃ (v lv : V) (n : Nat) (ts : List Tie) (lot : List Nat), vs = [v, lv] ∧ Dp K H v (webD n ts) ∧ Dp K H lv (lotD lot) ∧ (∀ t ∈ ts, t.1 < t.2 ∧ t.2 < n) ∧ n ≤ 1000 ∧ ts.length ≤ 60 ∧ LotA ts.length lot ∧
  (evenB n ts lot = false → ∀ H', Same H H' → E (.ref U) none H') ∧ (evenB n ts lot = true → ∀ (u : V) H', Same H H' → Dp K H' u (.tuple ((partsGo ts n lot.length lot).map lotD)) → Q u H')
section
variable {P : Program} {w : World} {K : PySem.W.Frag} {mg : Str → Option Value} {base : Heap}
theorem ok_fround {f f3 f4 : Addr} {fd fd3 fd4 : FuncData} (D : Df K mg "_first_round" sFround pFround f fd) (T : Bl mg) (hsorted : mg "sorted" = none) (D_far : Df K mg "far_end" sFar pFar f3 fd3) (D_wfrom : Df K mg "ways_from" sWfrom pWfrom f4 fd4) : FnOk P w K mg base CX0 3 f fd pFround (spFround K) := by
  have G_wfrom : FnOk P w K mg base CX0 2 f4 fd4 pWfrom (spWfrom K) := ok_wfrom D_wfrom T D_far
  refine D.fn.ok scFround (fun vs H Q E h => ?_) (fun cdv A outer s H vs Q E hr h => ?_)
  · obtain ⟨v, lv, n, ts, k0, rest, rfl, _⟩ := h
    rfl
  · obtain ⟨v, lv, n, ts, k0, rest, rfl, hw, hlv, hends, hn, hl, hRA, hev, k⟩ := h
    have hr_wfrom : Room 2 _ := hr
    have hu := hu_of hr
    have nd := scFround.nd
    obtain ⟨a, c, ys, rfl, ha, hc, hys⟩ := dp_web hw
    obtain ⟨al, rfl, hal⟩ := dp_lotN hlv
    have hk0 := hRA.2 k0 (List.mem_cons_self ..)
    have hrest : ∀ x ∈ rest, x < ts.length := fun x hx => hRA.2 x (List.mem_cons_of_mem _ hx)
    have hasc := List.pairwise_cons.mp hRA.1
    have hnd0 := List.nodup_cons.mp hRA.nd
    have ht := List.getElem?_eq_getElem hk0
    generalize ts[k0] = t at ht
    have hte := hends t (List.mem_of_getElem? ht)
    have h1n : t.1 < n := by omega
    have hthere := way_there hends ht hrest hev
    obtain ⟨_, _, _, frA, frP⟩ := fr_is hends hRA ht hthere
    obtain ⟨⟨P0, hP0⟩, hwin⟩ := way_is hends ht hrest hthere
    have ewB : wayB ts n k0 rest = wayAt (bfs ts rest n t.1) t.2 := by
      unfold wayB
      rw [ht]
    rw [ewB] at frP hP0 hwin
    obtain ⟨y, hy, hyd⟩ := dpAll_at hys (show (ts.map tieD)[k0]? = some (tieD t) by rw [List.getElem?_map, ht]; rfl)
    obtain ⟨az, rfl, haz⟩ := dp_tie hyd
    have hrl : rest.length ≤ 60 := Nat.le_trans (nodup_small ts.length rest hnd0.2 hrest) hl
    refine ⟨_, (pss_cons (ps_asg (pe_ix (ixT K) (pe_ix (ixT K) (pv 0) pe_int (fun _ _ => rfl)) (pe_ix (ixT K) (pv 1) pe_int (fun _ _ => rfl)) (fun _ _ => rfl)) (pgT K rfl (pgs_cons (pg_name (i := 2) nd rfl (by first | exact Or.inl rfl | exact Or.inr rfl)) (pgs_cons (pg_name (i := 3) nd rfl (by first | exact Or.inl rfl | exact Or.inr rfl)) pgs_nil))))
      (pss_cons (ps_set (i := 4) nd rfl (by first | exact Or.inl rfl | exact Or.inr rfl) (pe_dget hu (pe_call G_wfrom hr_wfrom (by rfl) D_wfrom.ad D_wfrom.fn.kp D_wfrom.bd .nil pass0 (pa_cons (pv 0) (pa_cons (pe_slice (slTA K) (pv 1) (po_some pe_int) po_none) (pa_cons (pv 2) pa_nil)))) (pv 3) (fun _ _ => rfl)))
      (pss_one (ps_ret (pe_callTy (tupleK K) (by rfl) T.tuple (by decide +kernel) (pa_cons (pe_callB (cr_sortTup K) (by rfl) hsorted (by decide +kernel) (pa_cons (pe_op (catA K) (pe_tup (pa_cons (pe_ix (ixT K) (pv 1) pe_int (fun _ _ => rfl)) pa_nil)) (pv 4)) pa_nil)) pa_nil)))))), ?_⟩
    refine tSeq_go ?_
    refine ⟨_, rfl, a, _, _, _, rfl, rfl, ha, atI_nat (j := 1) rfl, _, rfl, al, _, _, _, rfl, rfl, hal, atI_nat (j := 0) rfl, c, _, _, _, rfl, rfl, hc, atI_nat hy, az, _, rfl, haz, rfl, _, _, rfl, _, _, rfl, rfl, ?_⟩
    dsimp only [gName]
    refine at_st [some (.ref a), some (.ref al), some (.int (t.1 : Nat)), some (.int (t.2 : Nat)), none] rfl ?_
    refine tSeq_go ?_
    refine ⟨_, rfl, _, rfl, 1, rfl, ?_⟩
    dsimp only [tNoPart]
    refine slA_by rfl hal fun c1 H1 s1 hc1 => ?_
    have ecut : cutV (natsV (k0 :: rest)) (some 1) none = natsV rest := cut_lo (natsV (k0 :: rest)) 1
    rw [ecut] at hc1
    refine ⟨_, rfl, .ref a, .ref c1, n, ts, rest, t.1, rfl, dp_same s1 _ hw, lot_dp hc1, hends, hrest, h1n, by omega, by omega, fun d H5 hd5 s5 hF => ?_⟩
    have s15 := s1.trans s5
    obtain ⟨kvs, f1, f2, f3⟩ := hF
    obtain ⟨aw, g1, g2⟩ := f3 _ (wayAt_mem hthere)
    dsimp only at g1 g2
    generalize hw0 : wayAt (bfs ts rest n t.1) t.2 = w0 at *
    refine ⟨_, rfl, d, _, rfl, by rw [← g1]; exact DGet.k (k := Sum.inl ((t.2 : Nat) : Int)) f1, ?_⟩
    dsimp only [gName]
    refine at_st [some (.ref a), some (.ref al), some (.int (t.1 : Nat)), some (.int (t.2 : Nat)), some (.ref aw)] rfl ?_
    have hwl : w0.length ≤ 60 := Nat.le_trans (nodup_small ts.length w0 hP0.wnd fun x hx => hrest x (hwin x hx)) hl
    refine ⟨_, rfl, al, _, _, _, rfl, rfl, sqT_same s15 hal, atI_nat (j := 0) rfl, by show 1 ≤ sizeLine; decide, fun q2 hq2 => ⟨_, rfl, ?_⟩⟩
    have t1 := same_new (o := .tup [.int (k0 : Nat)]) hq2
    refine catA_by rfl rfl (SqT.of upd_same) (sqT_same t1 g2) (by rw [natsV_len]; show 1 + _ ≤ 100000; omega) fun cw H8 t2 hcw => ?_
    have ecw : [V.int (k0 : Nat)] ++ natsV w0 = ((k0 :: w0).map fun (k : Nat) => (k : Int)).map V.int := by
      rw [natsV_ints]
      rfl
    rw [ecw] at hcw
    refine ⟨cw, _, rfl, hcw, by rw [List.length_map, List.length_cons]; omega, fun zs p3 hperm hsort hp3 => ?_⟩
    have hnd : (k0 :: w0).Nodup := List.nodup_cons.mpr ⟨fun z => hnd0.1 (hwin k0 z), hP0.wnd⟩
    obtain ⟨ns, rfl, hnp, hasc2⟩ := sorted_nats hperm hsort hnd
    have t3 := same_new (o := .lst ((ns.map fun (k : Nat) => (k : Int)).map V.int)) hp3
    have hns : ns = frL ts n (k0 :: rest) := asc_perm hasc2 frA.1 (hnp.trans frP.symm)
    refine ⟨p3, _, rfl, .inl ⟨SqL.of upd_same, fun u hu2 => ?_⟩⟩
    have t4 := same_new (o := .tup ((ns.map fun (k : Nat) => (k : Int)).map V.int)) hu2
    refine k _ _ (s15.trans (t1.trans (t2.trans (t3.trans t4)))) ?_
    rw [← hns, ← natsV_ints]
    exact lot_dp (SqT.of upd_same)
theorem ok_parted {f f1 f2 f3 f4 f5 U B : Addr} {fd fd1 fd2 fd3 fd4 fd5 : FuncData} (D : Df K mg "parted_even" sParted pParted f fd) (T : Bl mg) (hsorted : mg "sorted" = none) (EU : ErrU K mg U B) (D_odd : Df K mg "odd_places" sOdd pOdd f1 fd1) (D_even : Df K mg "is_even" sEven pEven f2 fd2)
    (D_far : Df K mg "far_end" sFar pFar f3 fd3) (D_wfrom : Df K mg "ways_from" sWfrom pWfrom f4 fd4) (D_fround : Df K mg "_first_round" sFround pFround f5 fd5) : FnOk P w K mg base (L2.CX P w) 4 f fd pParted (spParted K U) := by
  have G_even : FnOk P w K mg base CX0 2 f2 fd2 pEven (spEven K) := ok_even D_even T D_odd
  have G_fround : FnOk P w K mg base CX0 3 f5 fd5 pFround (spFround K) := ok_fround D_fround T hsorted D_far D_wfrom
  refine D.fn.okX scParted (fun vs H Q E h => ?_) (fun cdv A outer s H vs Q E hr h => ?_)
  · obtain ⟨v, lv, n, ts, r, rfl, _⟩ := h
    rfl
  · obtain ⟨v, lv, n, ts, lot, rfl, hw, hlv, hends, hn, hl, hR, kx, k⟩ := h
    have hr_fround : Room 3 _ := hr
    have hr_even : Room 2 _ := hr.mono (by decide)
    have nd := scParted.nd
    refine ⟨_, (pss_cons (ps_if (pt_not (pt_val (pe_call G_even hr_even (by rfl) D_even.ad D_even.fn.kp D_even.bd .nil pass0 (pa_cons (pv 0) (pa_cons (pv 1) pa_nil))))) (pss_one (ps_unfit rfl EU (takes_of rfl rfl rfl rfl))) pss_nil)
      (pss_cons (ps_set (i := 2) nd rfl (by first | exact Or.inl rfl | exact Or.inr rfl) (pe_lst pa_nil))
      (pss_cons (ps_set (i := 3) nd rfl (by first | exact Or.inl rfl | exact Or.inr rfl) (pv 1))
      (pss_cons (ps_while (passes_of rfl) (pt_truth (pv 3) (by intro _; rfl)) (pss_cons (ps_set (i := 4) nd rfl (by first | exact Or.inl rfl | exact Or.inr rfl) (pe_call G_fround hr_fround (by rfl) D_fround.ad D_fround.fn.kp D_fround.bd .nil pass0 (pa_cons (pv 0) (pa_cons (pv 3) pa_nil))))
      (pss_cons (ps_expr (pe_bm PySem.F.plainAttrs_list PySem.F.slot_list_append PySem.F.type_list_append mt_append (pv 2) (pa_cons (pv 4) pa_nil)))
      (pss_one (ps_set (i := 3) nd rfl (by first | exact Or.inl rfl | exact Or.inr rfl) (pe_callTy (tupleK K) (by rfl) T.tuple (by decide +kernel) (pa_cons (pe_lc (own := [("tie", 5)]) (g := (gName 5)) rfl nd (piT K (pv 3)) (blkOk_by (own := [("tie", 5)]) (N := nParted) (sc := defScope sParted) (by decide +kernel)) (fun _ _ _ _ _ => (pg_name (i := 5) nd rfl (by first | exact Or.inl rfl | exact Or.inr rfl))) (fun _ _ _ _ _ => (pts_one (pt_cmpR (opNotIn K) (pv 5) (pv 4) rfl))) (fun _ _ _ _ _ => (pv 5))) pa_nil)))))))
      (pss_one (ps_ret (pe_callTy (tupleK K) (by rfl) T.tuple (by decide +kernel) (pa_cons (pv 2) pa_nil)))))))), ?_⟩
    refine tSeq_go ?_
    refine ⟨_, rfl, _, rfl, v, lv, n, ts, lot, rfl, hw, hlv, hends, hR.2, hn, fun H1 s1 => ⟨_, rfl, ?_⟩⟩
    refine ite2 (fun he => ?_) (fun he => ?_)
    · exact kx (by simpa using he) _ s1
    have he : evenB n ts lot = true := by simpa using he
    have k := k he
    have hev := evenB_iff.mp he
    clear kx he
    dsimp only [tNext]
    refine tSeq_go ?_
    refine ⟨Nat.zero_le _, fun l hl0 => ?_⟩
    have s2 := same_new (o := .lst []) hl0
    have hln := Same.free s1 hl0
    dsimp only [gName]
    refine at_st [some v, some lv, some (.ref l), none, none, none] rfl ?_
    refine tSeq_go ?_
    refine ⟨_, rfl, ?_⟩
    dsimp only [gName]
    refine at_st [some v, some lv, some (.ref l), some lv, none, none] rfl ?_
    refine tSeq_go ?_
    have s02 := s1.trans s2
    refine while_by (fun σ H' => ∃ (v4 : Option V) (lu : V) (xs : List V) (done : List (List Nat)) (left : List Nat) (m : Nat), σ = [some v, some lv, some (.ref l), some lu, v4, none] ∧ Same H H' ∧ Dp K H' lu (lotD left) ∧ H' l = some (.lst xs) ∧
      DpAll K H' xs (done.map lotD) ∧ done ++ partsGo ts n m left = partsGo ts n lot.length lot ∧ LotA ts.length left ∧ EvenE n ts left ∧ left.length ≤ m ∧ done.length + left.length ≤ lot.length) (fun _ H' => muL lot.length l H') ?_ ?_ ?_
    · exact ⟨none, lv, [], [], lot, lot.length, rfl, s02, dp_same s02 _ hlv, upd_same, .nil, rfl, hR, hev, Nat.le_refl _, by rw [List.length_nil]; omega⟩
    · clear s02 s2 s1 hl0 hlv hev
      rintro σ H2 ⟨v4, lu, xs, done, left, m, rfl, s2, hlu, hL, hLd, hgo, hA, hE, hm, hlen⟩
      obtain ⟨al, rfl, hal⟩ := dp_lotN hlu
      have hxl : xs.length = done.length := by rw [dpAll_len hLd, List.length_map]
      have hLT := lotA_len hR
      refine ⟨_, rfl, !(natsV left).isEmpty, .inr (.inl ⟨_, hal, rfl⟩), ?_⟩
      cases left with
      | nil =>
        refine iteF ?_
        rw [parts_nil, List.append_nil] at hgo
        refine ⟨_, rfl, l, xs, rfl, .inl ⟨SqL.of hL, fun q hq => ?_⟩⟩
        have sq := same_new (o := .tup xs) hq
        exact k _ _ (s2.trans sq) (by rw [← hgo]; exact .tup (SqT.of upd_same) (dpAll_same sq _ hLd))
      | cons k0 rest =>
        refine iteT ?_
        refine tSeq_go ?_
        rw [List.length_cons] at hm hlen
        refine ⟨_, rfl, _, rfl, v, .ref al, n, ts, k0, rest, rfl, dp_same s2 _ hw, hlu, hends, hn, hl, hA, hE, fun u H3 s3 hu3 => ?_⟩
        dsimp only [gName]
        refine at_st [some v, some lv, some (.ref l), some (.ref al), some u, none] rfl ?_
        refine tSeq_go ?_
        have hL3 := s3 _ _ hL
        refine ⟨_, rfl, .inl ⟨rfl, _, SqL.of hL3⟩, _, rfl, l, xs, u, rfl, rfl, hL3, Nat.lt_of_lt_of_le (show xs.length < 1000 by omega) (by decide), ?_⟩
        have kf := KF.of_upd (ys := xs ++ [u]) hL3
        have s4 : Same H (upd H3 l (.lst (xs ++ [u]))) := same_old hln (s2.trans s3)
        have hL4 : (upd H3 l (.lst (xs ++ [u]))) l = some (.lst (xs ++ [u])) := upd_same
        have hLd4 := dpAll_kf kf _ (still_lotsL done) (dpAll_same s3 _ hLd)
        have hu4 := dp_kf kf _ (still_lot _) hu3
        have hal4 := sqT_kf kf (sqT_same s3 hal)
        generalize upd H3 l (.lst (xs ++ [u])) = H4 at *
        clear kf hu3 hL3 s3 hal hLd hlu s2
        obtain ⟨a1, a2, a3, a4, a5, a6, a7, a8⟩ := left_step hends hA hE
        cases m with
        | zero => omega
        | succ m =>
        have hgo2 : done ++ frL ts n (k0 :: rest) :: partsGo ts n m ((k0 :: rest).filter fun k => !decide (k ∈ frL ts n (k0 :: rest))) = partsGo ts n lot.length lot := hgo
        generalize hfr : frL ts n (k0 :: rest) = fr at *
        obtain ⟨au, rfl, hau⟩ := dp_lotN hu4
        refine ⟨_, rfl, al, rfl, ⟨_, hal4⟩, fun E1 hE1 => ?_⟩
        refine lc_run (walk_tup (xs := natsV (k0 :: rest))) hE1 (fun i acc _ => acc = natsV (((k0 :: rest).take i).filter fun k => !decide (k ∈ fr))) ?_ ?_ ?_ ?_
        · exact fun H' s => sqT_same s hal4
        · rfl
        · rintro i x acc H5 H' hi hacc e s r ⟨rfl, hx⟩
          obtain ⟨z, hz, rfl⟩ := get_map hx
          have htk : (k0 :: rest).take (i + 1) = (k0 :: rest).take i ++ [z] := by
            rw [List.take_add_one, hz]
            rfl
          have r' : acc = natsV (((k0 :: rest).take i).filter fun k => !decide (k ∈ fr)) := r
          have hal2 : acc.length ≤ 1000 := by
            rw [r', natsV_len]
            refine Nat.le_trans (List.length_filter_le _ _) ?_
            rw [List.length_take, List.length_cons]
            omega
          refine ⟨rfl, _, rfl, _, rfl, au, _, rfl, .inr (sqT_same s hau), rfl, flat_nats fr, _, rfl, ?_⟩
          have key : (!inV (V.int (z : Int)) (natsV fr)) = !decide (z ∈ fr) := by
            have : inV (V.int (z : Int)) (natsV fr) = decide (z ∈ fr) := inv_nats _ _
            rw [this]
          refine ite2 (fun hh => ?_) (fun hh => ?_)
          · refine ⟨_, rfl, ?_⟩
            refine lc_add hacc e (Same.refl _) (by omega) ?_
            show _ = _
            rw [htk, List.filter_append, List.filter_cons, if_pos (by rw [← key]; exact hh), r']
            unfold natsV
            rw [List.map_append]
            rfl
          · refine lc_skip hacc e (Same.refl _) ?_
            show _ = _
            rw [htk, List.filter_append, List.filter_cons, if_neg (by rw [← key]; exact hh), r']
            simp
        · rintro acc H5 h1 s5 r
          have r' : acc = natsV (((k0 :: rest).take (natsV (k0 :: rest)).length).filter fun k => !decide (k ∈ fr)) := r
          rw [natsV_len, List.take_of_length_le (Nat.le_refl _)] at r'
          refine ⟨E1, acc, rfl, .inl ⟨SqL.of h1, fun q hq => ?_⟩⟩
          have sq := same_new (o := .tup acc) hq
          have s56 := s5.trans sq
          refine ⟨⟨_, _, xs ++ [.ref au], done ++ [fr], (k0 :: rest).filter fun k => !decide (k ∈ fr), m, rfl, s4.trans s56, lot_dp (SqT.of ?_), s56 _ _ hL4, ?_, ?_, a5, a6, by omega, ?_⟩, ?_⟩
          · rw [upd_same, r']
            rfl
          · rw [List.map_append]
            exact dpAll_app (dpAll_same s56 _ hLd4) (.cons (dp_same s56 _ hu4) .nil)
          · rw [List.append_assoc]
            exact hgo2
          · rw [List.length_append, List.length_singleton]
            omega
          · rw [muL_at (s56 _ _ hL4), List.length_append, List.length_singleton]
            have : muL lot.length l H2 = lot.length - xs.length := muL_at ‹H2 l = some (.lst xs)›
            omega
    · rintro σ H' Q1 Q2 hQ ⟨v, e, kb, tv, q1⟩
      exact ⟨v, e, kb, tv, hQ _ _ q1⟩
end
end BV

namespace BV
open PySem L2
abbrev sSum : Stmt := top 9
abbrev nSum : List Str := ["lots", "odd", "lot", "tie"]
abbrev pSum : List Str := ["lots"]
theorem scSum : FnScope nSum pSum (defScope sSum) := ⟨rfl, rfl, rfl, by decide +kernel, rfl, by decide +kernel, by decide +kernel⟩
theorem nodup_bound : ∀ (L : Nat) (l : List Nat), l.Nodup → (∀ x ∈ l, x < L) → l.length ≤ L
  | 0, l, _, h => by
    cases l with
    | nil => exact Nat.le_refl _
    | cons a r => exact absurd (h a (List.mem_cons_self ..)) (Nat.not_lt_zero _)
  | L + 1, l, hn, h => by
    have h1 := nodup_bound L (l.erase L) (hn.erase L) (fun x hx => by
      have h2 := h x (List.mem_of_mem_erase hx)
      have h3 : x ≠ L := fun e => by
        subst e
        exact (List.Nodup.not_mem_erase hn) hx
      omega)
    by_cases e : L ∈ l
    · rw [List.length_erase_of_mem e] at h1
      omega
    · rw [List.erase_of_not_mem e] at h1
      omega
/-- the odd ones: a dict of the ties met so far -/
def OddS (H : Hp) (d : Addr) (pr : List Nat) : Prop := ∃ (kvs : List (Key × V)) (kl : List Nat), H d = some (.dK kvs) ∧ kvs.map (·.1) = kl.map (fun (k : Nat) => (Sum.inl (k : Int) : Key)) ∧ kl.Nodup ∧
  (∀ j, j ∈ kl ↔ j ∈ pr) ∧ ∀ j : Nat, valV kvs (Sum.inl (j : Int)) = if j ∈ pr then some (.bl (decide (pr.count j % 2 = 1))) else none
theorem OddS.put {H : Hp} {d : Addr} {pr : List Nat} {kvs : List (Key × V)} {kl : List Nat} (t : Nat) (h2 : kvs.map (·.1) = kl.map (fun (k : Nat) => (Sum.inl (k : Int) : Key))) (h3 : kl.Nodup)
    (h4 : ∀ j, j ∈ kl ↔ j ∈ pr) (h5 : ∀ j : Nat, valV kvs (Sum.inl (j : Int)) = if j ∈ pr then some (.bl (decide (pr.count j % 2 = 1))) else none) :
    OddS (upd H d (.dK (putK kvs (Sum.inl (t : Int)) (.bl (!decide (pr.count t % 2 = 1)))))) d (pr ++ [t]) := by
  have hcnt : ∀ j, (pr ++ [t]).count j = pr.count j + if j = t then 1 else 0 := fun j => by
    rw [List.count_append, List.count_singleton]
    by_cases e : j = t
    · subst e
      simp
    · have : ¬ t = j := fun z => e z.symm
      simp [e, this]
  have hval : ∀ j : Nat, valV (putK kvs (Sum.inl (t : Int)) (.bl (!decide (pr.count t % 2 = 1)))) (Sum.inl (j : Int)) = if j ∈ pr ++ [t] then some (.bl (decide ((pr ++ [t]).count j % 2 = 1))) else none := fun j => by
    rw [valV_put, hcnt]
    by_cases e : j = t
    · subst e
      rw [if_pos rfl, if_pos (by simp), if_pos rfl]
      congr 2
      rw [Bool.eq_iff_iff]
      simp only [Bool.not_eq_true', decide_eq_false_iff_not, decide_eq_true_eq]
      omega
    · rw [if_neg (fun z => e (by have := Sum.inl.inj z; omega)), if_neg e, Nat.add_zero, h5]
      have : (j ∈ pr ++ [t]) = (j ∈ pr) := by
        apply propext
        simp [e]
      simp only [this]
  by_cases e : t ∈ pr
  · have hany : (kvs.any fun kv => decide (kv.fst = (Sum.inl (t : Int) : Key))) = true := by
      rw [valV_any, h5, if_pos e]
      rfl
    refine ⟨_, kl, upd_same, ?_, h3, fun j => ?_, hval⟩
    · unfold putK
      rw [if_pos hany, List.map_map, ← h2]
      refine List.map_congr_left fun kv _ => ?_
      show (if kv.fst = Sum.inl (t : Int) then (kv.fst, _) else kv).1 = kv.1
      split <;> rfl
    · rw [h4]
      constructor
      · intro z
        exact List.mem_append_left _ z
      · intro z
        rcases List.mem_append.mp z with z | z
        · exact z
        · rw [List.mem_singleton.mp z]
          exact e
  · refine ⟨_, kl ++ [t], upd_same, ?_, ?_, fun j => ?_, hval⟩
    · rw [putK_new _ (by rw [h5, if_neg e]), List.map_append, List.map_append, h2]
      rfl
    · rw [List.nodup_append]
      refine ⟨h3, List.nodup_cons.mpr ⟨by simp, .nil⟩, fun x hx y hy => ?_⟩
      rw [List.mem_singleton.mp hy]
      exact fun z => e ((h4 t).mp (z ▸ hx))
    · rw [List.mem_append, List.mem_append, h4]
def spSum (K : PySem.W.Frag) : Sp := fun vs H Q _ => ∃ (v : V) (ls : List (List Nat)) (L : Nat), vs = [v] ∧ Dp K H v (.tuple (ls.map lotD)) ∧ (∀ l ∈ ls, ∀ k ∈ l, k < L) ∧ L ≤ 60 ∧ ls.length ≤ 100 ∧
  ∀ (u : V) (ks : List Nat) H', Same H H' → Dp K H' u (lotD ks) → ks.Pairwise (· < ·) → (∀ k, k ∈ ks ↔ ls.flatten.count k % 2 = 1) → Q u H'
section
variable {P : Program} {w : World} {K : PySem.W.Frag} {mg : Str → Option Value} {base : Heap}
theorem ok_sum {f : Addr} {fd : FuncData} (D : Df K mg "sum_of" sSum ["lots"] f fd) (T : Bl mg) (hsorted : mg "sorted" = none) : FnOk P w K mg base CX0 1 f fd ["lots"] (spSum K) := by
  refine D.fn.ok scSum (fun vs H Q E h => ?_) (fun cdv A outer s H vs Q E hr h => ?_)
  · obtain ⟨v, ls, L, rfl, _⟩ := h
    rfl
  · obtain ⟨v, ls, L, rfl, hv, hls, hL, hll, k⟩ := h
    have hu := hu_of hr
    have nd := scSum.nd
    obtain ⟨al, xs, rfl, hal, hxs⟩ := dp_tup hv
    have hxl : xs.length = ls.length := by rw [dpAll_len hxs, List.length_map]
    refine ⟨_, (pss_cons (ps_set (i := 1) nd rfl (by first | exact Or.inl rfl | exact Or.inr rfl) pe_dnewK)
      (pss_cons (ps_for PassesOwn.never rfl (piT K (pv 0)) (pg_name (i := 2) nd rfl (by first | exact Or.inl rfl | exact Or.inr rfl)) (pss_one (ps_for PassesOwn.never rfl (piT K (pv 2)) (pg_name (i := 3) nd rfl (by first | exact Or.inl rfl | exact Or.inr rfl)) (pss_one (ps_dput hu (pv 1) (pv 3) (pe_not (pe_dget2 hu (pv 1) (pv 3) pe_bl ⟨rfl, rfl, rfl, rfl⟩)) rfl)))))
      (pss_one (ps_ret (pe_callTy (tupleK K) (by rfl) T.tuple (by decide +kernel) (pa_cons (pe_lc (own := [("tie", 3)]) (g := (gName 3)) rfl nd (piL K (pe_callB (call_sortedDI rfl) (by rfl) hsorted (by decide +kernel) (pa_cons (pv 1) pa_nil))) (blkOk_by (own := [("tie", 3)]) (N := nSum) (sc := defScope sSum) (by decide +kernel)) (fun _ _ _ _ _ => (pg_name (i := 3) nd rfl (by first | exact Or.inl rfl | exact Or.inr rfl))) (fun _ _ _ _ _ => (pts_one (pt_val (pe_dget hu (pv 1) (pv 3) (fun _ _ => rfl))))) (fun _ _ _ _ _ => (pv 3))) pa_nil)))))), ?_⟩
    refine fun d hd => ?_
    have s0 := same_new (o := .dK []) hd
    refine ⟨_, rfl, al, rfl, ⟨_, sqT_same s0 hal⟩, for_it (walk_tup (xs := xs)) (fun i σ H' => ∃ v2 v3 : Option V, σ = [some (.ref al), some (.ref d), v2, v3] ∧ Same H H' ∧ OddS H' d (ls.take i).flatten) ?_ ?_ ?_ ?_⟩
    · exact ⟨none, none, rfl, s0, [], [], upd_same, rfl, .nil, by simp, fun j => by simp [valV_nil]⟩
    · rintro i σ H' _ ⟨v2, v3, rfl, sH, _⟩
      exact sqT_same sH hal
    · rintro i x σ H1 H'' hi ⟨v2, v3, rfl, sH, hO⟩ ⟨rfl, hx⟩
      obtain ⟨dd, hdd, hdp⟩ := dpAll_get hxs hx
      obtain ⟨l, hl, rfl⟩ := get_map hdd
      obtain ⟨ax, rfl, hax⟩ := dp_lotI (dp_same sH _ hdp)
      have htk : (ls.take (i + 1)).flatten = (ls.take i).flatten ++ l := by
        rw [List.take_add_one, hl, List.flatten_append]
        simp
      refine ⟨_, rfl, ax, rfl, ⟨_, hax⟩, for_it (walk_tup (xs := l.map fun (k : Nat) => V.int k)) (fun j σ H' => ∃ v3 : Option V, σ = [some (.ref al), some (.ref d), some (.ref ax), v3] ∧ Same H H' ∧
        SqT K H' ax (l.map fun (k : Nat) => V.int k) ∧ OddS H' d ((ls.take i).flatten ++ l.take j)) ?_ ?_ ?_ ?_⟩
      · exact ⟨v3, rfl, sH, hax, by rw [List.take_zero, List.append_nil]; exact hO⟩
      · rintro j σ H' _ ⟨v3, rfl, _, h2, _⟩
        exact h2
      · rintro j x σ H' H3 hj ⟨v3, rfl, sH', hax', kvs, kl, h1, h2, h3, h4, h5⟩ ⟨rfl, hx2⟩
        obtain ⟨tt, htt, rfl⟩ := get_map hx2
        have htk2 : l.take (j + 1) = l.take j ++ [tt] := by
          rw [List.take_add_one, htt]
          rfl
        have hget : (valV kvs (Sum.inl (tt : Int) : Key)).getD (.bl false) = .bl (decide (((ls.take i).flatten ++ l.take j).count tt % 2 = 1)) := by
          rw [h5]
          by_cases e : tt ∈ (ls.take i).flatten ++ l.take j
          · rw [if_pos e]
            rfl
          · rw [if_neg e, List.count_eq_zero_of_not_mem e]
            rfl
        refine ⟨_, rfl, d, rfl, .inl ⟨kvs, .inl h1⟩, _, rfl, _, DGet.k (k := Sum.inl (tt : Int)) h1, ?_⟩
        rw [hget]
        have hkl : kvs.length = kl.length := by
          have := congrArg List.length h2
          simpa using this
        have hb : kl.length ≤ L := nodup_bound L kl h3 fun y hy => by
          have hm := (h4 y).mp hy
          rcases List.mem_append.mp hm with z | z
          · obtain ⟨l2, hl2, hy2⟩ := List.mem_flatten.mp z
            exact hls l2 (List.mem_of_mem_take hl2) y hy2
          · exact hls l (List.mem_of_getElem? hl) y (List.mem_of_mem_take z)
        refine ⟨_, rfl, _, rfl, _, rfl, d, _, rfl, DPut.k (k := Sum.inl (tt : Int)) h1 (Nat.lt_of_lt_of_le (show kvs.length < 100000 by omega) (by decide)), ?_⟩
        refine ⟨_, rfl, same_old hd sH', ?_, ?_⟩
        · refine sqT_kf (fun z o hz q => ?_) hax'
          have nz : z ≠ d := by
            rintro rfl
            rw [h1] at hz
            obtain ⟨_, rfl | ⟨_, rfl⟩⟩ := q <;> cases hz
          rw [upd_ne nz]
          exact hz
        · rw [htk2, ← List.append_assoc]
          exact OddS.put tt h2 h3 h4 h5
      · rintro σ H3 ⟨v3, rfl, sH', _, hO'⟩
        rw [List.length_map, List.take_of_length_le (Nat.le_refl _), ← htk] at hO'
        exact ⟨_, _, rfl, sH', hO'⟩
    · rintro σ H1 ⟨v2, v3, rfl, sH, hO⟩
      rw [hxl, List.take_of_length_le (Nat.le_refl _)] at hO
      obtain ⟨kvs, kl, h1, h2, h3, h4, h5⟩ := hO
      have hb : kl.length ≤ L := nodup_bound L kl h3 fun y hy => by
        obtain ⟨l2, hl2, hy2⟩ := List.mem_flatten.mp ((h4 y).mp hy)
        exact hls l2 hl2 y hy2
      refine ⟨_, rfl, d, kvs, kl.map fun (k : Nat) => (k : Int), rfl, .inl h1, by rw [h2, List.map_map]; rfl, by rw [List.length_map]; omega, fun ys p hperm hsort hp => ?_⟩
      have sp := same_new (o := .lst (ys.map V.int)) hp
      obtain ⟨ns, rfl⟩ : ∃ ns : List Nat, ys = ns.map fun (k : Nat) => (k : Int) := ⟨ys.map Int.toNat, by
        rw [List.map_map]
        refine (List.map_id ys).symm.trans (List.map_congr_left fun y hy => ?_)
        obtain ⟨j, _, rfl⟩ := List.mem_map.mp (hperm.mem_iff.mp hy)
        show ((j : Int)) = (((j : Int)).toNat : Int)
        omega⟩
      have hnp : ns.Perm kl := by
        have h := hperm.map Int.toNat
        rw [List.map_map, List.map_map] at h
        have e : ∀ l : List Nat, l.map (Int.toNat ∘ fun (k : Nat) => (k : Int)) = l := fun l => by
          refine (List.map_congr_left fun x _ => ?_).trans (List.map_id l)
          show ((x : Int)).toNat = x
          omega
        rw [e, e] at h
        exact h
      have hnn : ns.Nodup := hnp.nodup_iff.mpr h3
      have hlt : ns.Pairwise (· < ·) := by
        have h6 : ns.Pairwise (· ≤ ·) := (List.pairwise_map.mp hsort).imp fun {x y} z => by omega
        refine (h6.and hnn).imp fun {x y} z => ?_
        obtain ⟨z1, z2⟩ := z
        omega
      have hmem : ∀ j, j ∈ ns → j ∈ ls.flatten := fun j hj => (h4 j).mp (hnp.mem_iff.mp hj)
      have hdp := sp _ _ h1
      refine ⟨p, rfl, ⟨_, SqL.of upd_same⟩, fun E1 hE1 => ?_⟩
      refine lc_run (walk_list (xs := (ns.map fun (k : Nat) => (k : Int)).map V.int)) hE1 (fun i acc _ => acc = ((ns.take i).filter fun j => decide (ls.flatten.count j % 2 = 1)).map fun (k : Nat) => V.int k) ?_ ?_ ?_ ?_
      · exact fun H' s => SqL.of (s _ _ upd_same)
      · rfl
      · rintro i x acc H2 H' hi hacc e s r ⟨rfl, hx⟩
        obtain ⟨z, hz, rfl⟩ := get_map hx
        obtain ⟨m, hm, rfl⟩ := get_map hz
        have hmp := hmem m (List.mem_of_getElem? hm)
        have hget : DGet H' d (.int (m : Int)) (some (.bl (decide (ls.flatten.count m % 2 = 1)))) := by
          have h6 := DGet.k (k := Sum.inl (m : Int)) (s _ _ hdp)
          rw [h5, if_pos hmp] at h6
          exact h6
        have htk : ns.take (i + 1) = ns.take i ++ [m] := by
          rw [List.take_add_one, hm]
          rfl
        have r' : acc = ((ns.take i).filter fun j => decide (ls.flatten.count j % 2 = 1)).map fun (k : Nat) => V.int k := r
        have hnl : ns.length ≤ 60 := by rw [hnp.length_eq]; omega
        have hal : acc.length ≤ 60 := by
          rw [r', List.length_map]
          exact Nat.le_trans (List.length_filter_le _ _) (by rw [List.length_take]; omega)
        refine ⟨rfl, ?_⟩
        refine ⟨_, rfl, _, rfl, d, _, rfl, hget, _, rfl, ?_⟩
        refine ite2 (fun hh => ?_) (fun hh => ?_)
        · refine ⟨_, rfl, ?_⟩
          refine lc_add hacc e (Same.refl _) (by omega) ?_
          rw [htk, List.filter_append, List.filter_cons_of_pos (p := fun (j : Nat) => decide (ls.flatten.count j % 2 = 1)) hh, List.filter_nil, List.map_append, r']
          rfl
        · refine lc_skip hacc e (Same.refl _) ?_
          rw [htk, List.filter_append, List.filter_cons_of_neg (p := fun (j : Nat) => decide (ls.flatten.count j % 2 = 1)) hh, List.filter_nil, List.append_nil]
          exact r'
      · rintro acc H2 g1 s2 r
        have r' : acc = ((ns.take ((ns.map fun (k : Nat) => (k : Int)).map V.int).length).filter fun j => decide (ls.flatten.count j % 2 = 1)).map fun (k : Nat) => V.int k := r
        rw [List.length_map, List.length_map, List.take_of_length_le (Nat.le_refl _)] at r'
        refine ⟨E1, _, rfl, .inl ⟨SqL.of g1, fun u hu2 => ?_⟩⟩
        refine k _ (ns.filter fun j => decide (ls.flatten.count j % 2 = 1)) _ (sH.trans (sp.trans (s2.trans (same_new hu2)))) (lot_dp (SqT.of ?_)) (hlt.filter _) (fun j => ?_)
        · rw [upd_same, r']
        · rw [List.mem_filter, decide_eq_true_eq]
          constructor
          · exact fun z => z.2
          · intro z
            refine ⟨hnp.mem_iff.mpr ((h4 j).mpr ?_), z⟩
            refine List.count_pos_iff.mp ?_
            omega
end
end BV

namespace BV
open PySem L2
abbrev sAll : Stmt := top 5
abbrev nAll : List Str := ["web"]
abbrev pAll : List Str := ["web"]
theorem scAll : FnScope nAll pAll (defScope sAll) := ⟨rfl, rfl, rfl, by decide +kernel, rfl, by decide +kernel, by decide +kernel⟩
abbrev sCut : Stmt := top 10
abbrev nCut : List Str := ["web", "places", "tie", "one", "other"]
abbrev pCut : List Str := ["web", "places"]
theorem scCut : FnScope nCut pCut (defScope sCut) := ⟨rfl, rfl, rfl, by decide +kernel, rfl, by decide +kernel, by decide +kernel⟩

def spAll (K : PySem.W.Frag) : Sp := fun vs H Q _ => ∃ (v : V) (n : Nat) (ts : List Tie), vs = [v] ∧ Dp K H v (webD n ts) ∧ ts.length ≤ 3000 ∧ ∀ (u : V) H', Same H H' → Dp K H' u (lotD (List.range ts.length)) → Q u H'
section
variable {P : Program} {w : World} {K : PySem.W.Frag} {mg : Str → Option Value} {base : Heap}
theorem ok_all {f : Addr} {fd : FuncData} (D : Df K mg "all_ties" sAll pAll f fd) (T : Bl mg) : FnOk P w K mg base CX0 1 f fd pAll (spAll K) := by
  refine D.fn.ok scAll (fun vs H Q E h => ?_) (fun cdv A outer s H vs Q E hr h => ?_)
  · obtain ⟨v, n, ts, rfl, _⟩ := h
    rfl
  · obtain ⟨v, n, ts, rfl, hw, hl, k⟩ := h
    have nd := scAll.nd
    obtain ⟨a, c, ys, rfl, ha, hc, hys⟩ := dp_web hw
    have hyl : ys.length = ts.length := by rw [dpAll_len hys, List.length_map]
    refine ⟨_, (pss_one (ps_ret (pe_tupRg rfl (by rfl) T.tuple (prg_1 (by rfl) T.range (pe_callB (lenK K) (by rfl) T.len PySem.boot_len (pa_cons (pe_ix (ixT K) (pv 0) pe_int (fun _ _ => rfl)) pa_nil)))))), ?_⟩
    refine ⟨_, rfl, a, _, _, _, rfl, rfl, ha, atI_nat (j := 1) rfl, c, ys, rfl, .inr hc, _, rfl, .of_le (by omega) (by omega) (by omega) (by omega), fun q hq => ?_⟩
    refine k _ _ (same_new hq) (lot_dp (SqT.of ?_))
    rw [upd_same]
    unfold rgV
    rw [hyl, show ((ts.length : Int) - 0).toNat = ts.length by omega]
    congr 2
    exact List.map_congr_left fun i _ => by rw [Int.zero_add]
end
end BV

namespace BV
open PySem L2 RZ
/-! ### ways as rounds with a tie -/
theorem sway_app {ts : List Tie} {a : Nat} : ∀ (w2 : List Nat) (p g : Nat) (P2 w P : List Nat), SWay ts a w p P → PathW ts p w2 g (p :: P2) → (P ++ P2).Nodup → SWay ts a (w ++ w2) g (P ++ P2)
  | [], p, g, P2, w, P, hs, h, _ => by
    cases h
    rw [List.append_nil, List.append_nil]
    exact hs
  | k :: w2, p, g, P2, w, P, hs, h, hn => by
    cases h with
    | cons ht hend h2 =>
      rename_i t
      obtain ⟨P', e⟩ := path_head h2
      subst e
      have hq : farT t p ∉ P := fun z => by
        rw [List.nodup_append] at hn
        exact hn.2.2 _ z _ (List.mem_cons_self ..) rfl
      have st : t.1 = p ∧ t.2 = farT t p ∨ t.2 = p ∧ t.1 = farT t p := by
        unfold farT
        by_cases c : p = t.1
        · rw [if_pos c]
          exact .inl ⟨c.symm, rfl⟩
        · rw [if_neg c]
          rcases hend with e | e
          · exact absurd e c
          · exact .inr ⟨e.symm, rfl⟩
      have := sway_app w2 (farT t p) g P' (w ++ [k]) (P ++ [farT t p]) (.snoc hs ht st hq) h2 (by rw [List.append_assoc]; exact hn)
      rw [List.append_assoc, List.append_assoc] at this
      exact this
theorem sway_walk {ts : List Tie} {a g : Nat} {w : List Nat} (h : WalkOk ts a [a] w g) : ∃ P, SWay ts a w g P := by
  obtain ⟨P, hP, hnd, hd⟩ := path_of w a g [a] h
  exact ⟨_, sway_app w a g P [] [a] .nil hP (List.nodup_cons.mpr ⟨fun z => hd a z (List.mem_singleton.mpr rfl), hnd⟩)⟩
theorem piece_any {ts : List Tie} {lot : List Nat} {k0 h : Nat} (hp : Piece ts lot k0) (h0 : k0 ∈ lot) (hh : h ∈ lot) : Piece ts lot h := fun A hA hcl => by
  have hk : k0 ∈ A := Classical.byContradiction fun hno => by
    have := hp (lot.filter fun k => !decide (k ∈ A)) (List.mem_filter.mpr ⟨h0, by rw [decide_eq_false hno]; rfl⟩) (fun k hk ⟨p, j, hj, hpj, hpk⟩ => by
      obtain ⟨j1, j2⟩ := List.mem_filter.mp hj
      refine List.mem_filter.mpr ⟨hk, ?_⟩
      by_cases c : k ∈ A
      · have := hcl j j1 ⟨p, k, c, hpk, hpj⟩
        rw [decide_eq_true this] at j2
        cases j2
      · rw [decide_eq_false c]
        rfl) h hh
    have := (List.mem_filter.mp this).2
    rw [decide_eq_true hA] at this
    cases this
  exact hp A hk hcl
/-- a lot by a test of its ties -/
def ascL (L : Nat) (f : Nat → Bool) : List Nat := (List.range L).filter f
theorem ascL_lot (L : Nat) (f : Nat → Bool) : LotA L (ascL L f) := ⟨List.pairwise_lt_range.filter _, fun k hk => List.mem_range.mp (List.mem_filter.mp hk).1⟩
theorem mem_ascL {L k : Nat} {f : Nat → Bool} : k ∈ ascL L f ↔ k < L ∧ f k = true := by
  unfold ascL
  rw [List.mem_filter, List.mem_range]
theorem ascL_eq {L : Nat} {f : Nat → Bool} {ks : List Nat} (h : ks.Pairwise (· < ·)) (hm : ∀ k, k ∈ ks ↔ k < L ∧ f k = true) : ks = ascL L f := asc_uniq h (ascL_lot L f).1 fun k => by rw [hm, mem_ascL]
theorem ring_of {n : Nat} {ts : List Tie} (hends : ∀ t ∈ ts, t.1 < t.2 ∧ t.2 < n) {k0 : Nat} {t : Tie} (ht : ts[k0]? = some t) {w : List Nat} (h : WalkOk ts t.1 [t.1] w t.2) (hk : k0 ∉ w) (hw : ∀ k ∈ w, k < ts.length) :
    Rnd n ts (ascL ts.length fun k => decide (k = k0) || decide (k ∈ w)) := by
  obtain ⟨P, hP⟩ := sway_walk h
  have hk0 := (List.getElem?_eq_some_iff.mp ht).1
  have hp : (ascL ts.length fun k => decide (k = k0) || decide (k ∈ w)).Perm (k0 :: w) := fr_perm (rest := []) hk0 hw (List.nodup_cons.mpr ⟨hk, hP.wnd⟩)
  refine ⟨fun e => ?_, twos_perm hp.symm fun p _ => ?_, fun h0 hh0 => ?_⟩
  · rw [e] at hp
    have := hp.length_eq
    simp at this
  · rw [cyc_twos hends ht hP]
    split
    · exact .inr rfl
    · exact .inl rfl
  · have hm := List.mem_of_mem_head? hh0
    exact piece_any (conn_perm hp.symm (cyc_conn ht hP)) (hp.mem_iff.mpr (List.mem_cons_self ..)) hm
/-! ### a tie doubled -/
/-- the ways without the tie itself, as lots -/
def aside (L k0 : Nat) (ws : List (List Nat)) : List (List Nat) := (ws.filter fun w => !decide (k0 ∈ w)).map fun w => ascL L fun k => decide (k ∈ w)
def twoL (ts : List Tie) (n k0 : Nat) (f0 f1 : List Nat) : List (List Nat × Int) :=
  [(ascL ts.length fun k => decide (k = k0) || decide (k ∈ f0), 1), (ascL ts.length fun k => decide (k = k0) || decide (k ∈ f1), 1)] ++
    (partsGo ts n (ascL ts.length fun k => decide (k ∈ f0) || decide (k ∈ f1)).length (ascL ts.length fun k => decide (k ∈ f0) || decide (k ∈ f1))).map fun r => (r, (-1 : Int))
structure TwiIs (ts : List Tie) (n k0 : Nat) (t : Tie) (ds : List (List Nat × Int)) : Prop where
  ex : ∃ (ws : List (List Nat)) (f0 f1 : List Nat) (fs : List (List Nat)), WaysIs ts n t.1 t.2 3 ws ∧ aside ts.length k0 ws = f0 :: f1 :: fs ∧ ds = twoL ts n k0 f0 f1
theorem twi_uniq {ts : List Tie} {n k0 : Nat} {t : Tie} {ds ds' : List (List Nat × Int)} (h : TwiIs ts n k0 t ds) (h' : TwiIs ts n k0 t ds') : ds = ds' := by
  obtain ⟨ws, f0, f1, fs, a, b, rfl⟩ := h.ex
  obtain ⟨ws', f0', f1', fs', a', b', rfl⟩ := h'.ex
  obtain ⟨_, rfl⟩ := ways_uniq a a'
  rw [b] at b'
  cases b'
  rfl
/-- two ways without common ties, both without the tie -/
structure TwoW (ts : List Tie) (k0 : Nat) (t : Tie) (w0 w1 : List Nat) : Prop where
  a0 : WalkOk ts t.1 [t.1] w0 t.2
  a1 : WalkOk ts t.1 [t.1] w1 t.2
  l0 : ∀ k ∈ w0, k < ts.length
  l1 : ∀ k ∈ w1, k < ts.length
  n0 : k0 ∉ w0
  n1 : k0 ∉ w1
  dj : ∀ k ∈ w0, k ∉ w1
theorem aside_two {ts : List Tie} {n k0 : Nat} {t : Tie} {ws : List (List Nat)} (h : WaysIs ts n t.1 t.2 3 ws) : ∃ (w0 w1 : List Nat) (fs : List (List Nat)), TwoW ts k0 t w0 w1 ∧
    aside ts.length k0 ws = (ascL ts.length fun k => decide (k ∈ w0)) :: (ascL ts.length fun k => decide (k ∈ w1)) :: fs := by
  obtain ⟨x, y, z, rfl⟩ : ∃ x y z, ws = [x, y, z] := by
    have := h.len
    match ws, this with
    | [x, y, z], _ => exact ⟨x, y, z, rfl⟩
  have hn := h.nd
  have hx := h.walk x (by simp)
  have hy := h.walk y (by simp)
  have hz := h.walk z (by simp)
  simp only [List.flatten_cons, List.flatten_nil, List.append_nil] at hn
  rw [List.nodup_append] at hn
  obtain ⟨nx, nyz, dx⟩ := hn
  rw [List.nodup_append] at nyz
  obtain ⟨ny, nz, dyz⟩ := nyz
  have dxy : ∀ k ∈ x, k ∉ y := fun k h1 h2 => dx k h1 k (List.mem_append_left _ h2) rfl
  have dxz : ∀ k ∈ x, k ∉ z := fun k h1 h2 => dx k h1 k (List.mem_append_right _ h2) rfl
  have dy : ∀ k ∈ y, k ∉ z := fun k h1 h2 => dyz k h1 k h2 rfl
  unfold aside
  by_cases cx : k0 ∈ x
  · have cy := dxy _ cx
    have cz := dxz _ cx
    exact ⟨y, z, [], ⟨hy.1, hz.1, hy.2, hz.2, cy, cz, dy⟩, by simp [cx, cy, cz]⟩
  · by_cases cy : k0 ∈ y
    · have cz := dy _ cy
      exact ⟨x, z, [], ⟨hx.1, hz.1, hx.2, hz.2, cx, cz, dxz⟩, by simp [cx, cy, cz]⟩
    · refine ⟨x, y, ((if k0 ∈ z then [] else [z]).map fun w => ascL ts.length fun k => decide (k ∈ w)), ⟨hx.1, hy.1, hx.2, hy.2, cx, cy, dxy⟩, ?_⟩
      by_cases cz : k0 ∈ z
      · simp [cx, cy, cz]
      · simp [cx, cy, cz]
theorem walk_perm {ts : List Tie} {a g : Nat} {w : List Nat} (h : WalkOk ts a [a] w g) (hl : ∀ k ∈ w, k < ts.length) : (ascL ts.length fun k => decide (k ∈ w)).Perm w := by
  obtain ⟨P, hP⟩ := sway_walk h
  refine (List.perm_ext_iff_of_nodup (ascL_lot _ _).nd hP.wnd).mpr fun k => ?_
  rw [mem_ascL, decide_eq_true_eq]
  exact ⟨fun z => z.2, fun z => ⟨hl k z, z⟩⟩
/-- both ways together are an even lot -/
theorem two_even {n : Nat} {ts : List Tie} (hends : ∀ t ∈ ts, t.1 < t.2 ∧ t.2 < n) {k0 : Nat} {t : Tie} (ht : ts[k0]? = some t) {w0 w1 : List Nat} (h : TwoW ts k0 t w0 w1) :
    EvenE n ts (ascL ts.length fun k => decide (k ∈ ascL ts.length fun k => decide (k ∈ w0)) || decide (k ∈ ascL ts.length fun k => decide (k ∈ w1))) := by
  obtain ⟨P0, h0⟩ := sway_walk h.a0
  obtain ⟨P1, h1⟩ := sway_walk h.a1
  have hp : (ascL ts.length fun k => decide (k ∈ ascL ts.length fun k => decide (k ∈ w0)) || decide (k ∈ ascL ts.length fun k => decide (k ∈ w1))).Perm (w0 ++ w1) := by
    refine (List.perm_ext_iff_of_nodup (ascL_lot _ _).nd ?_).mpr fun k => ?_
    · rw [List.nodup_append]
      exact ⟨h0.wnd, h1.wnd, fun x hx y hy e => h.dj x hx (e ▸ hy)⟩
    · rw [mem_ascL, Bool.or_eq_true, decide_eq_true_eq, decide_eq_true_eq, mem_ascL, mem_ascL, decide_eq_true_eq, decide_eq_true_eq, List.mem_append]
      constructor
      · rintro ⟨_, ⟨_, z⟩ | ⟨_, z⟩⟩
        · exact .inl z
        · exact .inr z
      · rintro (z | z)
        · exact ⟨h.l0 k z, .inl ⟨h.l0 k z, z⟩⟩
        · exact ⟨h.l1 k z, .inr ⟨h.l1 k z, z⟩⟩
  intro p hp2
  have e0 := cyc_twos hends ht h0 p
  have e1 := cyc_twos hends ht h1 p
  rw [degE_cons] at e0 e1
  rw [degE_perm hp, degE_app]
  split at e0 <;> split at e1 <;> omega
end BV

namespace BV
open PySem PySem.Spec PyProof.Rows L2
/-! ### own errors that keep what they were made with -/
/-- BothError.__init__(self, ..), the class's own being ValueError's -/
theorem pe_binit {X : Cx} {B : Addr} {mc : Value} {e : Expr} {es : List Expr} {ta : TA} {p1 p2 pos : Pos} {pl : Sem Bool} (hg : Gl X "BothError") (hm : X.mg "BothError" = some (.ref B)) (r : ClX.CRead X.K B mc)
    (vB : PySem.W.findCls X.K (.ref B) mc "__init__" = some (.val (.builtin "ValueError.__init__"))) (ha : PA X (e :: es) ta)
    (hc : eval (.Call (.Attribute (.Name "BothError" p1) "__init__" p2) (e :: es) [] pos) X.env = (do
      let ov ← eval (.Name "BothError" p1) X.env
      standAt p2.atName
      let (f, first) ← holding [ov] (getMethod ov "__init__" pl)
      callWith pos f first (backTo pos (starEach (e :: es) X.env)) (backToKw pos (keywordEach [] X.env))) := by rfl)
    (he : starEach (e :: es) X.env = (false, eval e X.env) :: starEach es X.env := by rfl) (hpl : (backTo pos (starEach es X.env)).any (·.1) = false := by rfl) :
    PE X (.Call (.Attribute (.Name "BothError" p1) "__init__" p2) (e :: es) [] pos) (tVeI X.K ta) := by
  refine ⟨fun pins s σ H Q I h => ?_⟩
  refine PySem.W.methodCall_KW (ld_glob I hg hm ?_ (by decide)) hc
  refine PySem.W.method_cls I.kIn r.ga (PySem.W.cls_value I.kIn r.rd vB (by decide +kernel) ?_)
  show wpAny _ _ (callWith pos (Value.builtin "ValueError.__init__") [] (backTo pos (starEach (e :: es) X.env)) []) _ _ _
  refine PyProof.Rows.callWith_method1 (thn (ha.run pos pins _ σ H _ (I.tok _) h) fun us s1 ⟨vs, H1, I1, r1, a, C, ws, ev, hl, T, ea, q⟩ => ?_) he hpl
  subst ev
  cases r1 with
  | @cons _ u0 _ ur ra rw' =>
    obtain rfl : u0 = Value.ref a := ra
    have hlen : ur.length ≤ sizeLine := by
      rw [← Paired.length rw', sizeLine_eq]
      omega
    exact oinit_ok T I1 ea hlen fun s' J => ⟨.non, H1, J, rfl, q⟩
/-- what is known of a class C under BothError, at B, with a field f and its own __init__ -/
structure ErrF (K : PySem.W.Frag) (mg : Str → Option Value) (x f : Str) (C fI B : Addr) : Prop where
  gC : mg x = some (.ref C)
  gB : mg "BothError" = some (.ref B)
  T : OexC K C
  iC : PySem.W.findIn K (.ref C) "__init__" = some (some (.ref fI))
  tI : PySem.W.typeIn K (.ref fI) = some (.type "function")
  nf : PySem.W.findIn K (.ref C) f = some none
  te : PySem.W.exmOne K (.ref C) (.ref C) = some true
  xf : XfC K C
  cl : ∃ mc, ClX.CRead K B mc ∧ PySem.W.findCls K (.ref B) mc "__init__" = some (.val (.builtin "ValueError.__init__"))
  ec : ExcC K C
  ib : PySem.W.kitOne K (.ref C) (.ref B) = some true
/-- an own __init__ that keeps what it is given under one name -/
def spErrI (K : PySem.W.Frag) (f : Str) : Sp := fun vs H Q _ => ∃ (a C : Addr) (y : V), vs = [.ref a, y] ∧ OexC K C ∧ PySem.W.findIn K (.ref C) f = some none ∧ H a = some (exo a C none) ∧
  ∀ dx, H dx = none → dx ≠ a → Q .non (upd (upd H dx (exd dx [(f, y)])) a (exo a C (some dx)))
theorem errI_go {K : PySem.W.Frag} {C a : Addr} {f : Str} {y : V} {H1 : Hp} {Q : XK} {E : XK} (T : OexC K C) (nf : PySem.W.findIn K (.ref C) f = some none) (ha : H1 a = none)
    (k : ∀ (d : Addr) (H2 : Hp), H1 d = none → Same H1 H2 → H2 d = some (.xd [(f, y)]) → Q (.ref C) (some d) H2) :
    spErrI K f [.ref a, y] (upd H1 a (exo a C none)) (fun v H2 => v = .non ∧ ∃ (d : Addr) (fs : List (Str × V)), H2 a = some (exo a C (some d)) ∧ H2 d = some (exd d fs) ∧ H1 d = none ∧ Q (.ref C) (some d) (upd (del H2 a) d (.xd fs))) E := by
  refine ⟨a, C, y, rfl, T, nf, upd_same, fun dx hdx ne => ?_⟩
  rw [upd_ne ne] at hdx
  refine ⟨rfl, dx, [(f, y)], upd_same, by rw [upd_ne ne, upd_same], hdx, k dx _ hdx (fun b o hb => ?_) upd_same⟩
  have n1 : b ≠ dx := fun e => by rw [e, hdx] at hb; cases hb
  have n2 : b ≠ a := fun e => by rw [e, ha] at hb; cases hb
  rw [upd_ne n1, del_ne n2, upd_ne n2, upd_ne n1, upd_ne n2]
  exact hb
/-- raise C(e) -/
theorem ps_errf {X : Cx} {C fI B : Addr} {x f : Str} {fdI : FuncData} {ps : List Str} {k : Nat} {e : Expr} {ta : TA} {W : WX} {p pos pos2 : Pos} (hc : X.calm = true) (EF : ErrF X.K X.mg x f C fI B)
    (F1 : FnOk X.prog X.w X.K X.mg X.base CX0 k fI fdI ps (spErrI X.K f)) (hr : Room (k + 1) X.A) (hb : Binds X.K fdI ps []) (tk : Takes X W) (ha : PA X [e] ta) (hg : Gl X x := by rfl)
    (hdb : (x == ("__debug__" : Str)) = false := by decide) (he : starEach [e] X.env = (false, eval e X.env) :: starEach [] X.env := by rfl) :
    PS X (.Raise (some (.Call (.Name x p) [e] [] pos)) none pos2) (fun _ σ H => tMkO C (spErrI X.K f) [] ta σ H fun cls d H' => W cls d σ H') :=
  ps_raise hc tk (pmk_oex EF.T EF.iC EF.tI F1 hr hb .nil pass0 hg EF.gC ha hdb he (by rfl))
/-- isinstance(e, c), e the error that the suite holds, with a dict -/
def rIsF (K : PySem.W.Frag) (a : Addr) (cls : Value) (d : Option Addr) : List V → Hp → VK → Prop := fun xs H Q => ∃ (C dd : Addr) (fs : List (Str × V)), ExcC K C ∧ cls = .ref C ∧ d = some dd ∧ H dd = some (.xd fs) ∧ rIsE K C a xs H Q
theorem isF {X : Cx} {a : Addr} {oe : Obj} {cls : Value} {d : Option Addr} {pn : List (Addr × Obj)} (hz : Zc cls d oe) (hf : ∃ vs, oe.data = .fields vs) : CallR (X.suite a ((a, oe) :: pn)) (.builtin "isinstance") (rIsF X.K a cls d) := by
  intro pins s σ H xs us Q I r h
  obtain ⟨C, dd, fs, hC, e1, e2, hdd, c, cv, b, rfl, hcv, e, q⟩ := h
  subst e1 e2
  cases r with
  | cons rx rr =>
    cases rr with
    | cons rt rr =>
      cases rr
      cases rx
      have ec := hcv _ rt
      subst ec
      obtain ⟨hget, _⟩ := I.pin (a, oe) (List.mem_append.mpr (.inl List.mem_cons_self))
      obtain ⟨vs, hv⟩ := hf
      have hx : ObjOk X.prog X.w H s.heap dd (.xd fs) := I.hok dd _ hdd
      obtain ⟨mA, hns, _⟩ := hx
      obtain ⟨od, ho, _⟩ := lookIn_ns hns
      have J : PySem.W.InstAt s.heap a oe C (some od) := ⟨hget, hz.1, by unfold PySem.W.notCls; rw [hv] <;> rfl, by rw [hz.2]; exact ho⟩
      obtain ⟨cdD, hcD, _⟩ := PySem.W.any_some hC.hd
      exact PySem.W.kia_one (PySem.W.kitx_exc (by rw [hcD]; rfl) hC.hg hC.hk hC.hs hC.ha hC.hn hC.ht hC.hm) I.kIn J e (fun z => nomatch z) fun tk => ⟨.bl b, H, I.kept (t' := tk) fun _ _ z => z, rfl, q⟩
end BV

namespace BV
open PySem PySem.Spec PyProof.Rows L2
/-- sorted(list), the written part named -/
theorem cr_sortedK {X : Cx} (K : PySem.W.Frag) (h : X.K = K := by rfl) : CallR X (.builtin "sorted") (rSorted K) := by
  subst h
  exact cr_sorted
/-- a if c else b, where its truth is asked -/
def tIfT (t ta tb : TT) : TT := fun σ H Q => t σ H fun c H1 => if c = true then ta σ H1 Q else tb σ H1 Q
theorem pt_ifExp {X : Cx} {c a b : Expr} {pos : Pos} {tA ta tb : TT} (hc : PT X c tA) (ha : PT X a ta) (hb : PT X b tb) : PT X (.IfExp c a b pos) (tIfT tA ta tb) := by
  refine ⟨fun pins s σ H Q I h => ?_⟩
  refine isTrue_IfExp (thn (hc.run pins s σ H _ I h) fun d s1 ⟨H1, I1, q1⟩ => ?_)
  cases d with
  | true => exact ha.run pins s1 σ H1 Q I1 q1
  | false => exact hb.run pins s1 σ H1 Q I1 q1
end BV

namespace BV
open PySem L2 RZ
abbrev sDoubled : Stmt := top 27
abbrev nDoubled : List Str := ["web", "lot", "first", "others", "wide", "names", "one", "other", "found", "deeds", "way", "part", "tie"]
abbrev pDoubled : List Str := ["web", "lot"]
theorem scDoubled : FnScope nDoubled pDoubled (defScope sDoubled) := ⟨rfl, rfl, rfl, by decide +kernel, rfl, by decide +kernel, by decide +kernel⟩
def clsBody : Stmt → List Stmt
  | .ClassDef (body := b) .. => b
  | _ => []
abbrev sThinI : Stmt := (clsBody (top 3)).getD 0 (.Pass ⟨0, 0, 0, 0⟩)
theorem scThinI : FnScope ["self", "lot"] ["self", "lot"] (defScope sThinI) := ⟨rfl, rfl, rfl, by decide +kernel, rfl, by decide +kernel, by decide +kernel⟩
def deedD (d : List Nat × Int) : PyData := .tuple [.str "round", lotD d.1, .int d.2]
def spDoubled (K : PySem.W.Frag) : Sp := fun vs H Q _ => ∃ (v lv : V) (n : Nat) (ts : List Tie) (k0 : Nat) (t : Tie), vs = [v, lv] ∧ Dp K H v (webD n ts) ∧ Dp K H lv (lotD [k0]) ∧ (∀ t ∈ ts, t.1 < t.2 ∧ t.2 < n) ∧ ts[k0]? = some t ∧ n ≤ 60 ∧ ts.length ≤ 50 ∧
  (∀ S : Nat → Bool, S t.1 = true → S t.2 = false → 3 ≤ cutN S ts) ∧ ∀ (u : V) (ds : List (List Nat × Int)) H', Same H H' → Dp K H' u (.tuple (ds.map deedD)) → TwiIs ts n k0 t ds → Q u H'
theorem still_deedsR : ∀ ds : List (List Nat × Int), stillAll (ds.map deedD) = true
  | [] => rfl
  | d :: ds => by
    have h := still_deedsR ds
    have h2 := still_lot d.1
    simp only [List.map_cons, stillAll, deedD, still, Bool.and_true, Bool.true_and, Bool.and_eq_true]
    exact ⟨h2, h⟩
theorem kf_era {H : Hp} {D : Addr} {acc : List V} (h : H D = some (.lst acc)) : KF H (era H D) := fun z o hz qq => by
  have nz : z ≠ D := by
    rintro rfl
    rw [h] at hz
    cases hz
    obtain ⟨_, e | ⟨_, e⟩⟩ := qq <;> cases e
  rw [era_ne nz]
  exact hz
section
variable {P : Program} {w : World} {K : PySem.W.Frag} {mg : Str → Option Value} {base : Heap}
theorem ok_thinI {f C fI B : Addr} {fd : FuncData} (F : Fun K "__init__" "Thin.__init__" sThinI f fd) (EF : ErrF K mg "Thin" "lot" C fI B) : FnOk P w K mg base CX0 1 f fd ["self", "lot"] (spErrI K "lot") := by
  obtain ⟨mc, hr0, hv⟩ := EF.cl
  refine F.ok scThinI (fun vs H Q E h => ?_) (fun cdv A outer s H vs Q E hr h => ?_)
  · obtain ⟨a, C, y, rfl, _⟩ := h
    rfl
  · obtain ⟨a, C, y, rfl, hT, hnf, ha, k⟩ := h
    have nd := scThinI.nd
    refine ⟨_, pss_cons (ps_expr (pe_binit (by rfl) EF.gB hr0 hv (pa_cons (pv 0) (pa_cons pe_str pa_nil)))) (pss_one (ps_ost (pv 0) (pv 1))), ?_⟩
    refine tSeq_go ?_
    refine ⟨_, rfl, a, C, _, rfl, by simp, hT, ha, ?_⟩
    refine ⟨_, rfl, _, rfl, a, C, rfl, hT, hnf, .inl ⟨ha, fun dx hdx ne => ?_⟩⟩
    exact k dx hdx ne
theorem ok_doubled {f f1 f2 f3 f4 f5 f6 f7 f8 f9 g1 g2 g3 g4 g5 U B : Addr} {fd fd1 fd2 fd3 fd4 fd5 fd6 fd7 fd8 fd9 gd1 gd2 gd3 gd4 gd5 : FuncData} {tE : Tok} (D : Df K mg "doubled" sDoubled pDoubled f fd) (T : Bl mg) (hsorted : mg "sorted" = none) (hE3 : mg "_ENOUGH" = some (.int 3 tE)) (EU : ErrU K mg U B)
    (D_far : Df K mg "far_end" sFar pFar f1 fd1) (D_sign : Df K mg "_sign" sSign pSign f2 fd2) (D_stepsf : Df K mg "_steps_from" sStepsf pStepsf f3 fd3) (D_back : Df K mg "_way_back" sBack pBack f4 fd4) (D_open : Df K mg "_open_steps" sOpen pOpen f5 fd5) (D_flow : Df K mg "_flow_between" sFlow pFlow f6 fd6)
    (D_ways : Df K mg "ways" sWays pWays f7 fd7) (D_all : Df K mg "all_ties" sAll pAll f8 fd8) (D_sum : Df K mg "sum_of" sSum pSum f9 fd9) (D_odd : Df K mg "odd_places" sOdd pOdd g1 gd1) (D_even : Df K mg "is_even" sEven pEven g2 gd2) (D_wfrom : Df K mg "ways_from" sWfrom pWfrom g3 gd3)
    (D_fround : Df K mg "_first_round" sFround pFround g4 gd4) (D_parted_x : Df K mg "parted_even" sParted pParted g5 gd5) : FnOk P w K mg base (L2.CX P w) 6 f fd pDoubled (spDoubled K) := by
  have G_ways : FnOk P w K mg base CX0 5 f7 fd7 pWays (spWays K) := ok_ways D_ways T hsorted hE3 D_far D_sign D_stepsf D_back D_open D_flow
  have G_all : FnOk P w K mg base CX0 1 f8 fd8 pAll (spAll K) := ok_all D_all T
  have G_sum : FnOk P w K mg base CX0 1 f9 fd9 pSum (spSum K) := ok_sum D_sum T hsorted
  have G_parted_x : FnOk P w K mg base (L2.CX P w) 4 g5 gd5 pParted (spParted K U) := ok_parted D_parted_x T hsorted EU D_odd D_even D_far D_wfrom D_fround
  refine D.fn.okX scDoubled (fun vs H Q E h => ?_) (fun cdv A outer s H vs Q E hr h => ?_)
  · obtain ⟨v, lv, n, ts, k0, t, rfl, _⟩ := h
    rfl
  · obtain ⟨v, lv, n, ts, k0, t, rfl, hw, hlv, hends, ht, hn, hel, h3, k⟩ := h
    have nd := scDoubled.nd
    have hr_ways : Room 5 _ := hr
    have hr_all : Room 1 _ := hr.mono (by decide)
    have hr_sum : Room 1 _ := hr.mono (by decide)
    have hr_parted_x : Room 4 _ := hr.mono (by decide)
    have hte := hends t (List.mem_of_getElem? ht)
    have hk0 := (List.getElem?_eq_some_iff.mp ht).1
    obtain ⟨p, c, ys, rfl, hp, hc, hys⟩ := dp_web hw
    have hyl : ys.length = ts.length := by rw [dpAll_len hys, List.length_map]
    obtain ⟨al, rfl, hal⟩ := dp_lotN hlv
    refine ⟨_, (pss_cons (ps_asg (pe_tup (pa_cons (pe_ix (ixT K) (pv 1) pe_int (fun _ _ => rfl)) (pa_cons (pe_slice (slTA K) (pv 1) (po_some pe_int) po_none) pa_nil))) (pgT K rfl (pgs_cons (pg_name (i := 2) nd rfl (by first | exact Or.inl rfl | exact Or.inr rfl)) (pgs_cons (pg_name (i := 3) nd rfl (by first | exact Or.inl rfl | exact Or.inr rfl)) pgs_nil))))
      (pss_cons (ps_set (i := 4) nd rfl (by first | exact Or.inl rfl | exact Or.inr rfl) (pe_tup (pa_cons (pe_ix (ixT K) (pv 0) pe_int (fun _ _ => rfl)) (pa_cons (pe_op (opCatA K) (pe_ix (ixT K) (pv 0) pe_int (fun _ _ => rfl)) (pe_callTy (tupleK K) (by rfl) T.tuple (by decide +kernel) (pa_cons (pe_lc (own := [("tie", 12)]) (g := (gName 12)) (tt := tYes) rfl nd (piT K (pv 3)) (blkOk_by (own := [("tie", 12)]) (N := nDoubled) (sc := defScope sDoubled) (by decide +kernel)) (fun _ _ _ _ _ => (pg_name (i := 12) nd rfl (by first | exact Or.inl rfl | exact Or.inr rfl))) (fun _ _ _ _ _ => pts_nil) (fun _ _ _ _ _ => (pe_ix (ixT K) (pe_ix (ixT K) (pv 0) pe_int (fun _ _ => rfl)) (pv 12) (fun _ _ => rfl)))) pa_nil))) pa_nil))))
      (pss_cons (ps_set (i := 5) nd rfl (by first | exact Or.inl rfl | exact Or.inr rfl) (pe_op (opCatA K) (pe_call G_all hr_all (by rfl) D_all.ad D_all.fn.kp D_all.bd .nil pass0 (pa_cons (pv 0) pa_nil)) (pv 3)))
      (pss_cons (ps_asg (pe_ix (ixT K) (pe_ix (ixT K) (pv 0) pe_int (fun _ _ => rfl)) (pv 2) (fun _ _ => rfl)) (pgT K rfl (pgs_cons (pg_name (i := 6) nd rfl (by first | exact Or.inl rfl | exact Or.inr rfl)) (pgs_cons (pg_name (i := 7) nd rfl (by first | exact Or.inl rfl | exact Or.inr rfl)) pgs_nil))))
      (pss_cons (ps_setLc (i := 8) (own := [("way", 10)]) (g := (gName 10)) rfl nd rfl rfl (sw_true rfl rfl rfl (by decide +kernel)) (piT K (pe_call G_ways hr_ways (by rfl) D_ways.ad D_ways.fn.kp D_ways.bd .nil pass0 (pa_cons (pv 4) (pa_cons (pv 6) (pa_cons (pv 7) pa_nil))))) (blkOk_by (own := [("way", 10)]) (N := nDoubled) (sc := defScope sDoubled) (by decide +kernel)) (fun _ _ _ _ _ => (pg_name (i := 10) nd rfl (by first | exact Or.inl rfl | exact Or.inr rfl))) (fun _ _ _ _ _ => (pts_one (pt_cmpR (opNotIn K) (pv 2) (pv 10) rfl))) (fun _ _ _ _ _ => (pe_callTy (tupleK K) (by rfl) T.tuple (by decide +kernel) (pa_cons (pe_callB (cr_sortedK K) (by rfl) hsorted (by decide +kernel) (pa_cons (pe_lc (own := [("tie", 12)]) (g := (gName 12)) (tt := tYes) rfl nd (piT K (pv 10)) (blkOk_by (own := [("tie", 12)]) (N := nDoubled) (by first | rfl | decide +kernel)) (fun _ _ _ _ _ => (pg_name (i := 12) nd rfl (by first | exact Or.inl rfl | exact Or.inr rfl))) (fun _ _ _ _ _ => pts_nil) (fun _ _ _ _ _ => (pe_ix (ixT K) (pv 5) (pv 12) (fun _ _ => rfl)))) pa_nil)) pa_nil))))
      (pss_cons (ps_setLc (i := 9) (own := [("way", 10)]) (g := (gName 10)) (tt := tYes) rfl nd rfl rfl (sw_true rfl rfl rfl (by decide +kernel)) (piL K (pe_slice (slL K) (pv 8) po_none (po_some pe_int))) (blkOk_by (own := [("way", 10)]) (N := nDoubled) (sc := defScope sDoubled) (by decide +kernel)) (fun _ _ _ _ _ => (pg_name (i := 10) nd rfl (by first | exact Or.inl rfl | exact Or.inr rfl))) (fun _ _ _ _ _ => pts_nil) (fun _ _ _ _ _ => (pe_tup (pa_cons pe_str (pa_cons (pe_call G_sum hr_sum (by rfl) D_sum.ad D_sum.fn.kp D_sum.bd .nil pass0 (pa_cons (pe_tup (pa_cons (pe_tup (pa_cons (pv 2) pa_nil)) (pa_cons (pv 10) pa_nil))) pa_nil)) (pa_cons pe_int pa_nil))))))
      (pss_cons (ps_expr (pe_bm PySem.F.plainAttrs_list PySem.F.slot_list_extend PySem.F.type_list_extend mt_extend (pv 9) (pa_cons (pe_lc (own := [("part", 11)]) (g := (gName 11)) (tt := tYes) rfl nd (piT K (pe_call G_parted_x hr_parted_x (by rfl) D_parted_x.ad D_parted_x.fn.kp D_parted_x.bd .nil passL (pa_cons (pv 0) (pa_cons (pe_call G_sum hr_sum (by rfl) D_sum.ad D_sum.fn.kp D_sum.bd .nil pass0 (pa_cons (pe_tup (pa_cons (pe_ix (ixL K) (pv 8) pe_int (fun _ _ => rfl)) (pa_cons (pe_ix (ixL K) (pv 8) pe_int (fun _ _ => rfl)) pa_nil))) pa_nil)) pa_nil)))) (blkOk_by (own := [("part", 11)]) (N := nDoubled) (sc := defScope sDoubled) (by decide +kernel)) (fun _ _ _ _ _ => (pg_name (i := 11) nd rfl (by first | exact Or.inl rfl | exact Or.inr rfl))) (fun _ _ _ _ _ => pts_nil) (fun _ _ _ _ _ => (pe_tup (pa_cons pe_str (pa_cons (pv 11) (pa_cons (pe_un un_neg pe_int) pa_nil)))))) pa_nil)))
      (pss_one (ps_ret (pe_callTy (tupleK K) (by rfl) T.tuple (by decide +kernel) (pa_cons (pv 9) pa_nil))))))))))), ?_⟩
    refine tSeq_go ?_
    refine ⟨_, rfl, al, _, _, _, rfl, rfl, hal, atI_nat (j := 0) rfl, _, rfl, 1, rfl, ?_⟩
    dsimp only [tNoPart]
    refine slA_by rfl hal fun c1 H1 s1 hc1 => ?_
    have ecut : cutV (natsV [k0]) (some 1) none = natsV [] := cut_lo (natsV [k0]) 1
    rw [ecut] at hc1
    refine ⟨by show 2 ≤ sizeLine; decide, fun q hq => ?_⟩
    have s2 := s1.trans (same_new (o := .tup [.int k0, .ref c1]) hq)
    have hc2 := sqT_same (same_new (o := .tup [.int k0, .ref c1]) hq) hc1
    refine ⟨q, _, rfl, SqT.of upd_same, rfl, _, _, rfl, _, _, rfl, rfl, ?_⟩
    generalize upd H1 q (.tup [.int k0, .ref c1]) = H2 at *
    refine at_st [some (.ref p), some (.ref al), some (.int k0), some (.ref c1), none, none, none, none, none, none, none, none, none] rfl ?_
    refine tSeq_go ?_
    have hp2 := sqT_same s2 hp
    have hcc2 := sqT_same s2 hc
    refine ⟨_, rfl, p, _, _, _, rfl, rfl, hp2, atI_nat (j := 0) rfl, _, rfl, p, _, _, _, rfl, rfl, hp2, atI_nat (j := 1) rfl, _, rfl, c1, rfl, ⟨_, hc2⟩, fun E1 hE1 => ?_⟩
    refine lc_run (walk_tup (xs := natsV [])) hE1 (fun j acc _ => acc = []) ?_ ?_ ?_ ?_
    · exact fun H' s => sqT_same s hc2
    · rfl
    · rintro j x acc H3 H' hj hacc e s ha ⟨rfl, hx⟩
      cases hx
    rintro acc H3 hacc s3 ha
    have ha : acc = [] := ha
    subst ha
    refine ⟨E1, _, rfl, .inl ⟨SqL.of hacc, fun u hu => ?_⟩⟩
    have su := same_new (o := .tup []) hu
    have s24 := s2.trans (s3.trans su)
    refine catA_by rfl rfl (sqT_same s24 hc) (SqT.of upd_same) (by rw [hyl]; show ts.length + 0 ≤ 100000; omega) fun c2 H5 s5 hc5 => ?_
    rw [List.append_nil] at hc5
    refine ⟨by show 2 ≤ sizeLine; decide, fun wd hwd => ?_⟩
    have sw := same_new (o := .tup [.int n, .ref c2]) hwd
    have s06 := (s24.trans s5).trans sw
    have hWd : Dp K (upd H5 wd (.tup [.int n, .ref c2])) (.ref wd) (webD n ts) := .tup (SqT.of upd_same) (.cons (.int _) (.cons (.tup (sqT_same sw hc5) (dpAll_same s06 _ hys)) .nil))
    have hc16 := sqT_same (((s3.trans su).trans s5).trans sw) hc2
    generalize upd H5 wd (.tup [.int n, .ref c2]) = H6 at *
    clear hc5 hc2 hcc2 hp2
    dsimp only [gName]
    refine at_st [some (.ref p), some (.ref al), some (.int k0), some (.ref c1), some (.ref wd), none, none, none, none, none, none, none, none] rfl ?_
    refine tSeq_go ?_
    have hw6 := dp_same s06 _ hw
    refine ⟨_, rfl, .ref p, n, ts, rfl, hw6, by omega, fun un H7 s7 hun => ?_⟩
    obtain ⟨an0, rfl, han0⟩ := dp_lotN hun
    refine ⟨_, rfl, ?_⟩
    refine catA_by rfl rfl han0 (sqT_same s7 hc16) (by rw [natsV_len, List.length_range]; show ts.length + 0 ≤ 100000; omega) fun an H8 s8 han => ?_
    have han : SqT K H8 an (natsV (List.range ts.length)) := by
      rw [show natsV [] = [] from rfl, List.append_nil] at han
      exact han
    have s08 := s06.trans (s7.trans s8)
    have hWd8 := dp_same (s7.trans s8) _ hWd
    dsimp only [gName]
    refine at_st [some (.ref p), some (.ref al), some (.int k0), some (.ref c1), some (.ref wd), some (.ref an), none, none, none, none, none, none, none] rfl ?_
    refine tSeq_go ?_
    obtain ⟨y0, hy0, hyd0⟩ := dpAll_at hys (show (ts.map tieD)[k0]? = some (tieD t) by rw [List.getElem?_map, ht]; rfl)
    obtain ⟨az, rfl, haz⟩ := dp_tie hyd0
    refine ⟨_, rfl, p, _, _, _, rfl, rfl, sqT_same s08 hp, atI_nat (j := 1) rfl, _, rfl, c, _, _, _, rfl, rfl, sqT_same s08 hc, atI_nat hy0, az, _, rfl, sqT_same s08 haz, rfl, _, _, rfl, _, _, rfl, rfl, ?_⟩
    refine at_st [some (.ref p), some (.ref al), some (.int k0), some (.ref c1), some (.ref wd), some (.ref an), some (.int (t.1 : Nat)), some (.int (t.2 : Nat)), none, none, none, none, none] rfl ?_
    refine tSeq_go ?_
    refine ⟨_, rfl, _, rfl, _, rfl, .ref wd, n, ts, t.1, t.2, rfl, hWd8, hends, by omega, by omega, by omega, by omega, by omega, fun uw mm ws H9 s9 huw hW => ?_⟩
    obtain rfl : mm = 3 := by
      have := hW.m3
      by_cases e : mm < 3
      · obtain ⟨R, r1, r2, r3⟩ := hW.tight e
        have := h3 (fun x => decide (x ∈ R)) (decide_eq_true r1) (decide_eq_false r2)
        rw [← cutL_len] at this
        omega
      · omega
    obtain ⟨aw, wsv, rfl, haw, hwsv⟩ := dp_tup huw
    have hwsl : wsv.length = ws.length := by rw [dpAll_len hwsv, List.length_map]
    refine ⟨aw, rfl, ⟨_, haw⟩, fun E2 hE2 => ?_⟩
    have han9 := sqT_same s9 han
    refine lc_run (walk_tup (xs := wsv)) hE2 (fun j acc Hx => DpAll K Hx acc ((aside ts.length k0 (ws.take j)).map lotD)) ?_ ?_ ?_ ?_
    · exact fun H' s => sqT_same s haw
    · exact .nil
    · rintro j x acc H10 H' hj hacc e s ha ⟨rfl, hx⟩
      obtain ⟨dd, hdd, hxd⟩ := dpAll_get hwsv hx
      obtain ⟨w, hwj, rfl⟩ := get_map hdd
      obtain ⟨ax, rfl, hax⟩ := dp_lotN (dp_same s _ hxd)
      have ha : DpAll K (era _ E2) acc ((aside ts.length k0 (ws.take j)).map lotD) := ha
      have hwm := hW.walk w (List.mem_of_getElem? hwj)
      obtain ⟨P0, hP0⟩ := sway_walk hwm.1
      have hwl : w.length ≤ 50 := Nat.le_trans (nodup_small ts.length w hP0.wnd hwm.2) hel
      have htk : ws.take (j + 1) = ws.take j ++ [w] := by
        rw [List.take_add_one, hwj]
        rfl
      have hal3 : acc.length ≤ 3 := by
        rw [dpAll_len ha, List.length_map]
        unfold aside
        rw [List.length_map]
        refine Nat.le_trans (List.length_filter_le _ _) ?_
        rw [List.length_take, hW.len]
        omega
      refine ⟨rfl, _, rfl, _, rfl, ax, _, rfl, .inr hax, rfl, flat_nats w, _, rfl, ?_⟩
      have key : (!inV (V.int (k0 : Int)) (natsV w)) = !decide (k0 ∈ w) := by
        have : inV (V.int (k0 : Int)) (natsV w) = decide (k0 ∈ w) := inv_nats _ _
        rw [this]
      refine ite2 (fun hh => ?_) (fun hh => ?_)
      · have hnk : k0 ∉ w := fun z => by
          have hh : (!inV (V.int (k0 : Int)) (natsV w)) = true := hh
          rw [key, decide_eq_true z] at hh
          cases hh
        refine ⟨_, rfl, ax, rfl, ⟨_, hax⟩, fun E3 hE3 => ?_⟩
        have han10 := sqT_same s han9
        refine lc_run (walk_tup (xs := natsV w)) hE3 (fun i acc2 _ => acc2 = natsV (w.take i)) ?_ ?_ ?_ ?_
        · exact fun H' s => sqT_same s hax
        · rfl
        · rintro i x2 acc2 H11 H11' hi hacc2 e2 s2' ha2 ⟨rfl, hx2⟩
          obtain ⟨z, hz, rfl⟩ := get_map (f := fun (k : Nat) => V.int k) hx2
          have hzl := hwm.2 z (List.mem_of_getElem? hz)
          have ha2 : acc2 = natsV (w.take i) := ha2
          refine ⟨rfl, yes_go ?_⟩
          refine ⟨_, rfl, _, rfl, an, _, _, _, rfl, rfl, sqT_same s2' han10, atI_nat (j := z) (show (natsV (List.range ts.length))[z]? = some (.int (z : Nat)) by unfold natsV; rw [List.getElem?_map, List.getElem?_range hzl]; rfl), ?_⟩
          refine lc_add hacc2 e2 (Same.refl _) (by rw [ha2, natsV_len, List.length_take]; omega) ?_
          show _ = _
          rw [List.take_add_one, hz, ha2]
          exact natsV_snoc _ _
        · rintro acc2 H11 hacc2 s11 ha2
          have ha2 : acc2 = natsV w := by
            rw [show acc2 = _ from ha2, natsV_len, List.take_length]
          subst ha2
          refine ⟨E3, w.map fun (k : Nat) => (k : Int), rfl, SqL.of (by rw [← natsV_ints]; exact hacc2), by rw [List.length_map]; omega, fun zs p3 hperm hsort hp3 => ?_⟩
          obtain ⟨ns, rfl, hnp, hasc⟩ := sorted_nats hperm hsort hP0.wnd
          have s12 := same_new (o := .lst ((ns.map fun (k : Nat) => (k : Int)).map V.int)) hp3
          refine ⟨p3, _, rfl, .inl ⟨SqL.of upd_same, fun u2 hu2 => ?_⟩⟩
          have s13 := same_new (o := .tup ((ns.map fun (k : Nat) => (k : Int)).map V.int)) hu2
          have hns : ns = ascL ts.length fun k => decide (k ∈ w) := ascL_eq hasc fun k => by
            rw [hnp.mem_iff, decide_eq_true_eq]
            exact ⟨fun z => ⟨hwm.2 k z, z⟩, fun z => z.2⟩
          have st := (s11.trans s12).trans s13
          have une : u2 ≠ E2 := fun z => by
            rw [z, (s11.trans s12) _ _ hacc] at hu2
            cases hu2
          refine lc_add hacc e st (by omega) ?_
          show DpAll K _ _ ((aside ts.length k0 (ws.take (j + 1))).map lotD)
          have ea : aside ts.length k0 (ws.take (j + 1)) = aside ts.length k0 (ws.take j) ++ [ascL ts.length fun k => decide (k ∈ w)] := by
            unfold aside
            rw [htk, List.filter_append, List.map_append]
            simp [hnk]
          rw [ea, List.map_append]
          refine dpAll_app (dpAll_same (era_same st) _ ha) (.cons (lot_dp (SqT.of ?_)) .nil)
          rw [era_ne une, upd_same, ← hns, ← natsV_ints]
          rfl
      · have hk : k0 ∈ w := Classical.byContradiction fun z => hh (by
          show (!inV (V.int (k0 : Int)) (natsV w)) = true
          rw [key, decide_eq_false z]
          rfl)
        refine lc_skip hacc e (Same.refl _) ?_
        show DpAll K _ _ ((aside ts.length k0 (ws.take (j + 1))).map lotD)
        have ea : aside ts.length k0 (ws.take (j + 1)) = aside ts.length k0 (ws.take j) := by
          unfold aside
          rw [htk, List.filter_append]
          simp [hk]
        rw [ea]
        exact ha
    rintro fv H10 hfv s10 hfd
    have hfd : DpAll K H10 fv ((aside ts.length k0 ws).map lotD) := by
      have := dpAll_same era_back _ hfd
      rwa [hwsl, List.take_length] at this
    obtain ⟨w0, w1, fs, hT, hfs⟩ := aside_two (k0 := k0) hW
    rw [hfs] at hfd
    dsimp only [gName]
    refine at_st [some (.ref p), some (.ref al), some (.int k0), some (.ref c1), some (.ref wd), some (.ref an), some (.int (t.1 : Nat)), some (.int (t.2 : Nat)), some (.ref E2), none, none, none, none] rfl ?_
    refine tSeq_go ?_
    obtain ⟨x0, fvr, rfl, hf0, hfr⟩ : ∃ a b, fv = a :: b ∧ Dp K H10 a (lotD (ascL ts.length fun k => decide (k ∈ w0))) ∧ DpAll K H10 b (((ascL ts.length fun k => decide (k ∈ w1)) :: fs).map lotD) := by
      cases hfd with
      | cons a b => exact ⟨_, _, rfl, a, b⟩
    obtain ⟨x1, fvs, rfl, hf1, hfr⟩ : ∃ a b, fvr = a :: b ∧ Dp K H10 a (lotD (ascL ts.length fun k => decide (k ∈ w1))) ∧ DpAll K H10 b (fs.map lotD) := by
      cases hfr with
      | cons a b => exact ⟨_, _, rfl, a, b⟩
    have hev := two_even hends ht hT
    have hn0 : k0 ∉ ascL ts.length fun k => decide (k ∈ w0) := fun z => hT.n0 (by simpa using (mem_ascL.mp z).2)
    have hn1 : k0 ∉ ascL ts.length fun k => decide (k ∈ w1) := fun z => hT.n1 (by simpa using (mem_ascL.mp z).2)
    have hA0 := ascL_lot ts.length fun k => decide (k ∈ w0)
    have hA1 := ascL_lot ts.length fun k => decide (k ∈ w1)
    have hdj : ∀ k, k ∈ ascL ts.length (fun k => decide (k ∈ w0)) → k ∉ ascL ts.length (fun k => decide (k ∈ w1)) := fun k a b => hT.dj k (by simpa using (mem_ascL.mp a).2) (by simpa using (mem_ascL.mp b).2)
    have hdone : ∀ ds, ds = twoL ts n k0 (ascL ts.length fun k => decide (k ∈ w0)) (ascL ts.length fun k => decide (k ∈ w1)) → TwiIs ts n k0 t ds := fun ds e => ⟨ws, _, _, fs, hW, hfs, e⟩
    generalize ascL ts.length (fun k => decide (k ∈ w0)) = f0 at *
    generalize ascL ts.length (fun k => decide (k ∈ w1)) = f1 at *
    clear hfd hfs hT hwsv huw haw hW
    have hl0 := lotA_len hA0
    have hl1 := lotA_len hA1
    refine ⟨_, rfl, 2, rfl, E2, _, rfl, SqL.of hfv, fun q2 hq2 => ?_⟩
    have eq2 : cutV (x0 :: x1 :: fvs) none (some 2) = [x0, x1] := cut_hi (x0 :: x1 :: fvs) 2
    rw [eq2]
    have s11 := same_new (o := .lst [x0, x1]) hq2
    have hQ2 : (upd H10 q2 (.lst [x0, x1])) q2 = some (.lst [x0, x1]) := upd_same
    have hf01 : DpAll K (upd H10 q2 (.lst [x0, x1])) [x0, x1] ([f0, f1].map lotD) := .cons (dp_same s11 _ hf0) (.cons (dp_same s11 _ hf1) .nil)
    have hfv11 := s11 _ _ hfv
    generalize upd H10 q2 (.lst [x0, x1]) = H11 at *
    refine ⟨q2, rfl, ⟨_, SqL.of hQ2⟩, fun E3 hE3 => ?_⟩
    refine lc_run (walk_list (xs := [x0, x1])) hE3 (fun j acc Hx => DpAll K Hx acc ((([f0, f1].map fun f => (ascL ts.length fun k => decide (k = k0) || decide (k ∈ f), (1 : Int))).take j).map deedD)) ?_ ?_ ?_ ?_
    · exact fun H' s => SqL.of (s _ _ hQ2)
    · exact .nil
    · rintro j x acc H12 H' hj hacc e s ha ⟨rfl, hx⟩
      obtain ⟨dd, hdd, hxd⟩ := dpAll_get hf01 hx
      obtain ⟨f, hfj, rfl⟩ := get_map hdd
      have ha : DpAll K (era _ E3) acc ((([f0, f1].map fun f => (ascL ts.length fun k => decide (k = k0) || decide (k ∈ f), (1 : Int))).take j).map deedD) := ha
      have hal3 : acc.length ≤ 2 := by
        rw [dpAll_len ha, List.length_map, List.length_take]
        simp
        omega
      have hfA : LotA ts.length f ∧ k0 ∉ f := by
        have := List.mem_of_getElem? hfj
        simp only [List.mem_cons, List.not_mem_nil, or_false] at this
        rcases this with rfl | rfl
        · exact ⟨hA0, hn0⟩
        · exact ⟨hA1, hn1⟩
      refine ⟨rfl, yes_go ?_⟩
      refine ⟨_, rfl, by show 1 ≤ sizeLine; decide, fun q3 hq3 => ⟨_, rfl, by show 2 ≤ sizeLine; decide, fun q4 hq4 => ?_⟩⟩
      have t1 := same_new (o := .tup [.int k0]) hq3
      have t2 := same_new (o := .tup [.ref q3, x]) hq4
      refine ⟨.ref q4, [[k0], f], ts.length, rfl, .tup (SqT.of upd_same) (.cons (lot_dp (SqT.of (t2 _ _ upd_same))) (.cons (dp_same ((s.trans t1).trans t2) _ hxd) .nil)), fun l hl k hk => ?_, by omega, by simp, fun u ks H13 s13 hu hasc hks => ?_⟩
      · simp only [List.mem_cons, List.not_mem_nil, or_false] at hl
        rcases hl with rfl | rfl
        · rw [List.mem_singleton.mp hk]
          exact hk0
        · exact hfA.1.2 k hk
      have hkk : ks = ascL ts.length fun k => decide (k = k0) || decide (k ∈ f) := ascL_eq hasc fun k => by
        rw [hks]
        have ec : ([[k0], f].flatten).count k = (if k = k0 then 1 else 0) + f.count k := by
          show ([k0] ++ (f ++ [])).count k = _
          rw [List.append_nil, List.count_append, List.count_singleton]
          by_cases z : k = k0
          · subst z
            simp
          · have : ¬ k0 = k := fun y => z y.symm
            simp [z, this]
        rw [ec]
        have hfc := hfA.1.nd
        by_cases z : k = k0
        · subst z
          rw [List.count_eq_zero_of_not_mem hfA.2]
          simp [hk0]
        · by_cases y : k ∈ f
          · rw [hfc.count, if_pos y]
            simp [z, y, hfA.1.2 k y]
          · rw [List.count_eq_zero_of_not_mem y]
            simp [z, y]
      subst hkk
      refine ⟨by show 3 ≤ sizeLine; decide, fun q5 hq5 => ?_⟩
      have t5 := same_new (o := .tup [.str "round", u, .int 1]) hq5
      have st := ((t1.trans t2).trans s13).trans t5
      have une : q5 ≠ E3 := fun z => by
        rw [z, ((t1.trans t2).trans s13) _ _ hacc] at hq5
        cases hq5
      refine lc_add hacc e st (by omega) ?_
      show DpAll K _ _ _
      rw [List.take_add_one, List.map_append, List.getElem?_map, hfj]
      refine dpAll_app (dpAll_same (era_same st) _ ha) (.cons (.tup (SqT.of (by rw [era_ne une]; exact upd_same)) ?_) .nil)
      exact .cons (.str _) (.cons (dp_kf (kf_era (st _ _ hacc)) _ (still_lot _) (dp_same t5 _ hu)) (.cons (.int _) .nil))
    rintro dv H12 hdv s12 hdd
    have hdd : DpAll K H12 dv (([f0, f1].map fun f => (ascL ts.length fun k => decide (k = k0) || decide (k ∈ f), (1 : Int))).map deedD) := by
      have := dpAll_same era_back _ hdd
      rwa [List.take_of_length_le (by simp)] at this
    have hdl : dv.length = 2 := by
      rw [dpAll_len hdd]
      rfl
    dsimp only [gName]
    refine at_st [some (.ref p), some (.ref al), some (.int k0), some (.ref c1), some (.ref wd), some (.ref an), some (.int (t.1 : Nat)), some (.int (t.2 : Nat)), some (.ref E2), some (.ref E3), none, none, none] rfl ?_
    refine tSeq_go ?_
    have s0_12 := (((s08.trans s9).trans s10).trans s11).trans s12
    have hfv12 := s12 _ _ hfv11
    refine ⟨_, rfl, .inl ⟨rfl, _, SqL.of hdv⟩, _, rfl, _, rfl, E2, _, _, _, rfl, rfl, SqL.of hfv12, atI_nat (j := 0) rfl, _, rfl, E2, _, _, _, rfl, rfl, SqL.of hfv12, atI_nat (j := 1) rfl, by show 2 ≤ sizeLine; decide, fun q6 hq6 => ?_⟩
    have t6 := same_new (o := .tup [x0, x1]) hq6
    have s01012 := (s11.trans s12).trans t6
    refine ⟨.ref q6, [f0, f1], ts.length, rfl, .tup (SqT.of upd_same) (.cons (dp_same s01012 _ hf0) (.cons (dp_same s01012 _ hf1) .nil)), fun l hl k hk => ?_, by omega, by simp, fun u ks H13 s13 hu hasc hks => ?_⟩
    · simp only [List.mem_cons, List.not_mem_nil, or_false] at hl
      rcases hl with rfl | rfl
      · exact hA0.2 k hk
      · exact hA1.2 k hk
    have hkk : ks = ascL ts.length fun k => decide (k ∈ f0) || decide (k ∈ f1) := ascL_eq hasc fun k => by
      rw [hks]
      have ec : ([f0, f1].flatten).count k = f0.count k + f1.count k := by
        show (f0 ++ (f1 ++ [])).count k = _
        rw [List.append_nil, List.count_append]
      rw [ec]
      by_cases z : k ∈ f0
      · rw [hA0.nd.count, if_pos z, List.count_eq_zero_of_not_mem (hdj k z)]
        simp [z, hA0.2 k z]
      · rw [List.count_eq_zero_of_not_mem z]
        by_cases y : k ∈ f1
        · rw [hA1.nd.count, if_pos y]
          simp [y, hA1.2 k y]
        · rw [List.count_eq_zero_of_not_mem y]
          simp [z, y]
    subst hkk
    have t613 := t6.trans s13
    refine ⟨.ref p, u, n, ts, _, rfl, dp_same (s0_12.trans t613) _ hw, hu, hends, by omega, by omega, ascL_lot _ _, fun he => ?_, fun _ up H14 s14 hup => ?_⟩
    · rw [evenB_iff.mpr hev] at he
      cases he
    obtain ⟨pu, pv, rfl, hpu, hpv⟩ := dp_tup hup
    obtain ⟨hpar, hpp⟩ := parts_spec hends _ _ (ascL_lot ts.length fun k => decide (k ∈ f0) || decide (k ∈ f1)) hev (Nat.le_refl _)
    have hdone := hdone _ rfl
    unfold twoL at hdone
    generalize hps : partsGo ts n (ascL ts.length fun k => decide (k ∈ f0) || decide (k ∈ f1)).length (ascL ts.length fun k => decide (k ∈ f0) || decide (k ∈ f1)) = ps at *
    have hpvl : pv.length = ps.length := by rw [dpAll_len hpv, List.length_map]
    have hpl : ps.length ≤ ts.length := by
      have h1 : ps.flatten.length ≤ ts.length := by
        rw [hpp.length_eq]
        exact lotA_len (ascL_lot _ _)
      refine Nat.le_trans ?_ h1
      have : ∀ l : List (List Nat), (∀ r ∈ l, r ≠ []) → l.length ≤ l.flatten.length := by
        intro l
        induction l with
        | nil => exact fun _ => Nat.le_refl _
        | cons r l ih =>
          intro hr
          have := ih fun x hx => hr x (List.mem_cons_of_mem _ hx)
          have h2 := List.length_pos_iff.mpr (hr r (List.mem_cons_self ..))
          rw [List.flatten_cons, List.length_append, List.length_cons]
          omega
      exact this ps fun r hr => (hpar r hr).1.ne
    refine ⟨pu, rfl, ⟨_, hpu⟩, fun E4 hE4 => ?_⟩
    refine lc_run (walk_tup (xs := pv)) hE4 (fun j acc Hx => DpAll K Hx acc (((ps.map fun r => (r, (-1 : Int))).take j).map deedD)) ?_ ?_ ?_ ?_
    · exact fun H' s => sqT_same s hpu
    · exact .nil
    · rintro j x acc H15 H' hj hacc e s ha ⟨rfl, hx⟩
      obtain ⟨dd, hdd2, hxd⟩ := dpAll_get hpv hx
      obtain ⟨r, hrj, rfl⟩ := get_map hdd2
      have ha : DpAll K (era _ E4) acc (((ps.map fun r => (r, (-1 : Int))).take j).map deedD) := ha
      have hal3 : acc.length ≤ 50 := by
        rw [dpAll_len ha, List.length_map, List.length_take, List.length_map]
        omega
      refine ⟨rfl, yes_go ?_⟩
      refine ⟨_, rfl, 1, rfl, by show 3 ≤ sizeLine; decide, fun q5 hq5 => ?_⟩
      have t5 := same_new (o := .tup [.str "round", x, .int (-1)]) hq5
      have une : q5 ≠ E4 := fun z => by
        rw [z, hacc] at hq5
        cases hq5
      refine lc_add hacc e t5 (by omega) ?_
      show DpAll K _ _ _
      rw [List.take_add_one, List.map_append, List.getElem?_map, hrj]
      refine dpAll_app (dpAll_same (era_same t5) _ ha) (.cons (.tup (SqT.of (by rw [era_ne une]; exact upd_same)) ?_) .nil)
      exact .cons (.str _) (.cons (dp_kf (kf_era (t5 _ _ hacc)) _ (still_lot _) (dp_same (s.trans t5) _ hxd)) (.cons (.int _) .nil))
    rintro ev H15 hev15 s15 hed
    have hed : DpAll K H15 ev ((ps.map fun r => (r, (-1 : Int))).map deedD) := by
      have := dpAll_same era_back _ hed
      rwa [hpvl, List.take_of_length_le (by simp)] at this
    have hel15 : ev.length = ps.length := by rw [dpAll_len hed, List.length_map, List.length_map]
    have st15 := (t613.trans s14).trans s15
    have hdv15 := st15 _ _ hdv
    refine ⟨E3, E4, dv, ev, rfl, rfl, hdv15, hev15, Nat.le_trans (show dv.length + ev.length ≤ 1000 by omega) (by decide), ?_⟩
    have hE3n : H E3 = none := Same.free (((s08.trans s9).trans s10).trans s11) hE3
    have kf := KF.of_upd (ys := dv ++ ev) hdv15
    have hds : DpAll K (upd H15 E3 (.lst (dv ++ ev))) (dv ++ ev) ((([f0, f1].map fun f => (ascL ts.length fun k => decide (k = k0) || decide (k ∈ f), (1 : Int))) ++ ps.map fun r => (r, (-1 : Int))).map deedD) := by
      refine dpAll_kf kf _ (still_deedsR _) ?_
      rw [List.map_append]
      exact dpAll_app (dpAll_same st15 _ hdd) hed
    have hdv16 : (upd H15 E3 (.lst (dv ++ ev))) E3 = some (.lst (dv ++ ev)) := upd_same
    have s16 : Same H (upd H15 E3 (.lst (dv ++ ev))) := same_old hE3n (s0_12.trans st15)
    generalize upd H15 E3 (.lst (dv ++ ev)) = H16 at *
    refine ⟨_, rfl, E3, _, rfl, .inl ⟨SqL.of hdv16, fun u9 hu9 => ?_⟩⟩
    have t9 := same_new (o := .tup (dv ++ ev)) hu9
    exact k _ _ _ (s16.trans t9) (.tup (SqT.of upd_same) (dpAll_same t9 _ hds)) hdone
end
end BV

namespace BV
open PySem L2 RZ
abbrev sFewest : Stmt := top 22
abbrev nFewest : List Str := ["web", "one", "other", "lot"]
abbrev pFewest : List Str := ["web", "one", "other"]
theorem scFewest : FnScope nFewest pFewest (defScope sFewest) := ⟨rfl, rfl, rfl, by decide +kernel, rfl, by decide +kernel, by decide +kernel⟩
abbrev sTwice : Stmt := top 30
abbrev nTwice : List Str := ["web", "tie", "one", "other", "lot"]
abbrev pTwice : List Str := ["web", "tie"]
theorem scTwice : FnScope nTwice pTwice (defScope sTwice) := ⟨rfl, rfl, rfl, by decide +kernel, rfl, by decide +kernel, by decide +kernel⟩
def spFewest (K : PySem.W.Frag) (U : Addr) : Sp := fun vs H Q E => ∃ (v : V) (n : Nat) (ts : List Tie) (one other : Nat), vs = [v, .int one, .int other] ∧ Dp K H v (webD n ts) ∧ WebC n ts ∧ one < n ∧ other < n ∧ one ≠ other ∧
  ((∀ S : Nat → Bool, S one = true → S other = false → 3 ≤ cutN S ts) → ∀ H', Same H H' → E (.ref U) none H') ∧ (∀ (u : V) (R : List Nat) H', Same H H' → Dp K H' u (lotD (cutL ts R)) → NarIs ts n one other R → Q u H')
def spTwice (K : PySem.W.Frag) (C : Addr) : Sp := fun vs H Q E => ∃ (v : V) (n : Nat) (ts : List Tie) (k0 : Nat) (t : Tie), vs = [v, .int k0] ∧ Dp K H v (webD n ts) ∧ (∀ t ∈ ts, t.1 < t.2 ∧ t.2 < n) ∧ ts[k0]? = some t ∧ n ≤ 60 ∧ ts.length ≤ 50 ∧
  (∀ (R : List Nat) (d : Addr) (y : V) H', Same H H' → NarIs ts n t.1 t.2 R → H' d = some (.xd [("lot", y)]) → Dp K H' y (lotD (cutL ts R)) → E (.ref C) (some d) H') ∧
  ((∀ S : Nat → Bool, S t.1 = true → S t.2 = false → 3 ≤ cutN S ts) → ∀ (u : V) (ds : List (List Nat × Int)) H', Same H H' → Dp K H' u (.tuple (ds.map deedD)) → TwiIs ts n k0 t ds → Q u H')
theorem few_nar {ts : List Tie} {n one other : Nat} {R : List Nat} (h : NarIs ts n one other R) : ∃ d, d < 3 ∧ IsFew ts one other d := by
  have hf := h.few
  exact ⟨cutN (fun x => decide (x ∈ R)) ts, by rw [← cutL_len]; exact hf, by rw [← cutL_len]; omega, fun S a b => by rw [← cutL_len]; exact h.least S a b, fun _ => ⟨_, decide_eq_true h.m1, decide_eq_false h.m2, rfl⟩⟩
theorem few_three {ts : List Tie} {one other : Nat} (h : ∀ S : Nat → Bool, S one = true → S other = false → 3 ≤ cutN S ts) : IsFew ts one other 3 := ⟨Nat.le_refl _, h, fun e => absurd e (by omega)⟩
section
variable {P : Program} {w : World} {K : PySem.W.Frag} {mg : Str → Option Value} {base : Heap}
theorem ok_fewest {f f1 f2 f3 f4 f5 f6 f7 f8 U B : Addr} {fd fd1 fd2 fd3 fd4 fd5 fd6 fd7 fd8 : FuncData} {tE : Tok} (D : Df K mg "fewest_cut" sFewest pFewest f fd) (T : Bl mg) (EU : ErrU K mg U B) (hsorted : mg "sorted" = none) (hE3 : mg "_ENOUGH" = some (.int 3 tE)) (D_far : Df K mg "far_end" sFar pFar f1 fd1) (D_sign : Df K mg "_sign" sSign pSign f2 fd2)
    (D_stepsf : Df K mg "_steps_from" sStepsf pStepsf f3 fd3) (D_back : Df K mg "_way_back" sBack pBack f4 fd4) (D_open : Df K mg "_open_steps" sOpen pOpen f5 fd5) (D_flow : Df K mg "_flow_between" sFlow pFlow f6 fd6) (D_cutof : Df K mg "cut_of" sCutof pCutof f7 fd7) (D_narrow : Df K mg "narrow_cut" sNarrow pNarrow f8 fd8) :
    FnOk P w K mg base (L2.CX P w) 6 f fd pFewest (spFewest K U) := by
  have G_narrow : FnOk P w K mg base CX0 5 f8 fd8 pNarrow (spNarrow K) := ok_narrow D_narrow T hsorted hE3 D_far D_sign D_stepsf D_back D_open D_flow D_cutof
  refine D.fn.okX scFewest (fun vs H Q E h => ?_) (fun cdv A outer s H vs Q E hr h => ?_)
  · obtain ⟨v, n, ts, one, other, rfl, _⟩ := h
    rfl
  · obtain ⟨v, n, ts, one, other, rfl, hw, ⟨he, hn, hl⟩, h1, h2, hne, kx, k⟩ := h
    have hr_narrow : Room 5 _ := hr
    have nd := scFewest.nd
    refine ⟨_, (pss_cons (ps_set (i := 3) nd rfl (by first | exact Or.inl rfl | exact Or.inr rfl) (pe_call G_narrow hr_narrow (by rfl) D_narrow.ad D_narrow.fn.kp D_narrow.bd .nil pass0 (pa_cons (pv 0) (pa_cons (pv 1) (pa_cons (pv 2) pa_nil)))))
      (pss_cons (ps_if (pt_cmpR op_isN (pv 3) pe_non (nomark _)) (pss_one (ps_unfit rfl EU (takes_of rfl rfl rfl rfl))) pss_nil)
      (pss_one (ps_ret (pv 3))))), ?_⟩
    refine tSeq_go ?_
    refine ⟨_, rfl, _, rfl, _, rfl, v, n, ts, one, other, rfl, hw, he, h1, h2, hne, by omega, by omega, fun h3 H1 s1 => ?_, fun u R H1 s1 hu hN => ?_⟩
    · dsimp only [gName]
      refine ⟨_, rfl, rfl, _, rfl, iteT ?_⟩
      exact kx h3 H1 s1
    · obtain ⟨au, rfl, hau⟩ := dp_lotN hu
      dsimp only [gName]
      refine ⟨_, rfl, rfl, _, rfl, iteF ?_⟩
      exact ⟨_, rfl, k (.ref au) R H1 s1 (lot_dp hau) hN⟩
theorem ok_twice {f f1 f2 f3 f4 f5 f6 f7 f8 f9 g1 g2 g3 g4 g5 g6 g7 g8 U B C fI : Addr} {fd fd1 fd2 fd3 fd4 fd5 fd6 fd7 fd8 fd9 gd1 gd2 gd3 gd4 gd5 gd6 gd7 gd8 fdI : FuncData} {tE : Tok} (D : Df K mg "twice" sTwice pTwice f fd) (T : Bl mg) (hsorted : mg "sorted" = none) (hE3 : mg "_ENOUGH" = some (.int 3 tE)) (EU : ErrU K mg U B) (EF_Thin : ErrF K mg "Thin" "lot" C fI B)
    (D_far : Df K mg "far_end" sFar pFar f1 fd1) (D_sign : Df K mg "_sign" sSign pSign f2 fd2)
    (D_stepsf : Df K mg "_steps_from" sStepsf pStepsf f3 fd3) (D_back : Df K mg "_way_back" sBack pBack f4 fd4) (D_open : Df K mg "_open_steps" sOpen pOpen f5 fd5) (D_flow : Df K mg "_flow_between" sFlow pFlow f6 fd6) (D_cutof : Df K mg "cut_of" sCutof pCutof f7 fd7) (D_narrow : Df K mg "narrow_cut" sNarrow pNarrow f8 fd8)
    (D_ways : Df K mg "ways" sWays pWays f9 fd9) (D_all : Df K mg "all_ties" sAll pAll g1 gd1) (D_sum : Df K mg "sum_of" sSum pSum g2 gd2) (D_odd : Df K mg "odd_places" sOdd pOdd g3 gd3) (D_even : Df K mg "is_even" sEven pEven g4 gd4) (D_wfrom : Df K mg "ways_from" sWfrom pWfrom g5 gd5)
    (D_fround : Df K mg "_first_round" sFround pFround g6 gd6) (D_parted_x : Df K mg "parted_even" sParted pParted g7 gd7) (D_doubled_x : Df K mg "doubled" sDoubled pDoubled g8 gd8) (F_I : Fun K "__init__" "Thin.__init__" sThinI fI fdI) (bI_Thin : Binds K fdI ["self", "lot"] []) : FnOk P w K mg base (L2.CX P w) 7 f fd pTwice (spTwice K C) := by
  have G_narrow : FnOk P w K mg base CX0 5 f8 fd8 pNarrow (spNarrow K) := ok_narrow D_narrow T hsorted hE3 D_far D_sign D_stepsf D_back D_open D_flow D_cutof
  have G_doubled_x : FnOk P w K mg base (L2.CX P w) 6 g8 gd8 pDoubled (spDoubled K) := ok_doubled D_doubled_x T hsorted hE3 EU D_far D_sign D_stepsf D_back D_open D_flow D_ways D_all D_sum D_odd D_even D_wfrom D_fround D_parted_x
  have GI_Thin : FnOk P w K mg base CX0 1 fI fdI ["self", "lot"] (spErrI K "lot") := ok_thinI F_I EF_Thin
  refine D.fn.okX scTwice (fun vs H Q E h => ?_) (fun cdv A outer s H vs Q E hr h => ?_)
  · obtain ⟨v, n, ts, k0, t, rfl, _⟩ := h
    rfl
  · obtain ⟨v, n, ts, k0, t, rfl, hw, hends, ht, hn, hel, kx, k⟩ := h
    have nd := scTwice.nd
    have hr_narrow : Room 5 _ := hr.mono (by decide)
    have hr_doubled_x : Room 6 _ := hr
    have hrI_Thin : Room 2 _ := hr.mono (by decide)
    have hte := hends t (List.mem_of_getElem? ht)
    have hk0 := (List.getElem?_eq_some_iff.mp ht).1
    obtain ⟨p, c, ys, rfl, hp, hc, hys⟩ := dp_web hw
    obtain ⟨y0, hy0, hyd0⟩ := dpAll_at hys (show (ts.map tieD)[k0]? = some (tieD t) by rw [List.getElem?_map, ht]; rfl)
    obtain ⟨az, rfl, haz⟩ := dp_tie hyd0
    refine ⟨_, (pss_cons (ps_asg (pe_ix (ixT K) (pe_ix (ixT K) (pv 0) pe_int (fun _ _ => rfl)) (pv 1) (fun _ _ => rfl)) (pgT K rfl (pgs_cons (pg_name (i := 2) nd rfl (by first | exact Or.inl rfl | exact Or.inr rfl)) (pgs_cons (pg_name (i := 3) nd rfl (by first | exact Or.inl rfl | exact Or.inr rfl)) pgs_nil))))
      (pss_cons (ps_set (i := 4) nd rfl (by first | exact Or.inl rfl | exact Or.inr rfl) (pe_call G_narrow hr_narrow (by rfl) D_narrow.ad D_narrow.fn.kp D_narrow.bd .nil pass0 (pa_cons (pv 0) (pa_cons (pv 2) (pa_cons (pv 3) pa_nil)))))
      (pss_cons (ps_if (pt_cmpR op_notN (pv 4) pe_non (nomark _)) (pss_one (ps_errf rfl EF_Thin GI_Thin hrI_Thin bI_Thin (takes_of rfl rfl rfl rfl) (pa_cons (pv 4) pa_nil))) pss_nil)
      (pss_one (ps_ret (pe_call G_doubled_x hr_doubled_x (by rfl) D_doubled_x.ad D_doubled_x.fn.kp D_doubled_x.bd .nil passL (pa_cons (pv 0) (pa_cons (pe_tup (pa_cons (pv 1) pa_nil)) pa_nil)))))))), ?_⟩
    refine tSeq_go ?_
    refine ⟨_, rfl, p, _, _, _, rfl, rfl, hp, atI_nat (j := 1) rfl, _, rfl, c, _, _, _, rfl, rfl, hc, atI_nat hy0, az, _, rfl, haz, rfl, _, _, rfl, _, _, rfl, rfl, ?_⟩
    refine at_st [some (.ref p), some (.int k0), some (.int (t.1 : Nat)), some (.int (t.2 : Nat)), none] rfl ?_
    refine tSeq_go ?_
    refine ⟨_, rfl, _, rfl, _, rfl, .ref p, n, ts, t.1, t.2, rfl, hw, hends, by omega, by omega, by omega, hn, by omega, fun h3 H1 s1 => ?_, fun u R H1 s1 hu hN => ?_⟩
    · dsimp only [gName]
      refine at_st [some (.ref p), some (.int k0), some (.int (t.1 : Nat)), some (.int (t.2 : Nat)), some .non] rfl ?_
      refine tSeq_go ?_
      refine ⟨_, rfl, rfl, _, rfl, iteF ?_⟩
      dsimp only [tNext]
      refine ⟨_, rfl, _, rfl, by show 1 ≤ sizeLine; decide, fun q hq => ?_⟩
      have sq := same_new (o := .tup [.int k0]) hq
      exact ⟨.ref p, .ref q, n, ts, k0, t, rfl, dp_same (s1.trans sq) _ hw, lot_dp (SqT.of upd_same), hends, ht, hn, hel, h3, fun u ds H2 s2 hu hT => k h3 u ds H2 ((s1.trans sq).trans s2) hu hT⟩
    · obtain ⟨au, rfl, hau⟩ := dp_lotN hu
      dsimp only [gName]
      refine at_st [some (.ref p), some (.int k0), some (.int (t.1 : Nat)), some (.int (t.2 : Nat)), some (.ref au)] rfl ?_
      refine tSeq_go ?_
      refine ⟨_, rfl, rfl, _, rfl, iteT ?_⟩
      refine ⟨_, rfl, by simp, fun a ha => errI_go EF_Thin.T EF_Thin.nf ha fun d H2 hd s2 hx => ?_⟩
      exact kx R d _ H2 (s1.trans s2) hN hx (dp_same s2 _ (lot_dp hau))
end
end BV

namespace BV
open PySem L2 RZ
abbrev sIslot : Stmt := top 37
abbrev nIslot : List Str := ["_law_web", "_law_lot", "_law_k"]
abbrev pIslot : List Str := ["_law_web", "_law_lot"]
theorem scIslot : FnScope nIslot pIslot (defScope sIslot) := ⟨rfl, rfl, rfl, by decide +kernel, rfl, by decide +kernel, by decide +kernel⟩
abbrev sCol : Stmt := top 38
abbrev nCol : List Str := ["_law_web", "_law_lot", "_law_sides", "_law_turn", "_law_wrong", "_law_k", "_law_one", "_law_other", "_law_step"]
abbrev pCol : List Str := ["_law_web", "_law_lot"]
theorem scCol : FnScope nCol pCol (defScope sCol) := ⟨rfl, rfl, rfl, by decide +kernel, rfl, by decide +kernel, by decide +kernel⟩
def spIslot (K : PySem.W.Frag) : Sp := fun vs H Q _ => ∃ (v t : V) (n : Nat) (ts : List Tie) (ks : List Nat), vs = [v, t] ∧ Dp K H v (webD n ts) ∧ Dp K H t (lotD ks) ∧ ts.length ≤ 60 ∧ LotA ts.length ks ∧ ∀ H', Same H H' → Q (.bl true) H'
/-- the side of a place -/
def sdR (R : List Nat) (p : Nat) : Nat := if decide (p ∈ R) = decide (0 ∈ R) then 0 else 1
theorem sd_step {R : List Nat} {a b : Nat} : (sdR R a + (if decide (a ∈ R) = decide (b ∈ R) then 0 else 1)) % 2 = sdR R b := by
  unfold sdR
  cases decide (a ∈ R) <;> cases decide (b ∈ R) <;> cases decide (0 ∈ R) <;> rfl
theorem sd_ne {R : List Nat} {a b : Nat} : sdR R a = sdR R b ↔ decide (a ∈ R) = decide (b ∈ R) := by
  unfold sdR
  cases decide (a ∈ R) <;> cases decide (b ∈ R) <;> cases decide (0 ∈ R) <;> decide
/-- the colours found so far -/
def ColS (R : List Nat) (H : Hp) (d : Addr) (fnd : List Nat) : Prop := ∃ kvs : List (Key × V), H d = some (.dK kvs) ∧ kvs.map (·.1) = fnd.map (fun (p : Nat) => (Sum.inl (p : Int) : Key)) ∧ ∀ p ∈ fnd, valV kvs (Sum.inl (p : Int)) = some (.int (sdR R p))
theorem ColS.put {R : List Nat} {H : Hp} {d : Addr} {fnd : List Nat} {kvs : List (Key × V)} {q : Nat} (h2 : kvs.map (·.1) = fnd.map (fun (p : Nat) => (Sum.inl (p : Int) : Key))) (h3 : ∀ p ∈ fnd, valV kvs (Sum.inl (p : Int)) = some (.int (sdR R p))) (hq : q ∉ fnd) :
    ColS R (upd H d (.dK (putK kvs (Sum.inl (q : Int)) (.int (sdR R q))))) d (fnd ++ [q]) := by
  have hn : valV kvs (Sum.inl (q : Int)) = none := by
    have := val_none (p := q) h2
    rw [decide_eq_false hq] at this
    cases e : valV kvs (Sum.inl (q : Int)) with
    | none => rfl
    | some v => rw [e] at this; cases this
  refine ⟨_, upd_same, ?_, fun p hp => ?_⟩
  · rw [putK_new _ hn, List.map_append, List.map_append, h2]
    rfl
  · rw [valV_put]
    by_cases e : p = q
    · subst e
      rw [if_pos rfl]
    · rw [if_neg fun z => e (by have := Sum.inl.inj z; omega)]
      rcases List.mem_append.mp hp with z | z
      · exact h3 p z
      · exact absurd (List.mem_singleton.mp z) e
def spCol (K : PySem.W.Frag) : Sp := fun vs H Q _ => ∃ (v u : V) (n : Nat) (ts : List Tie) (R : List Nat), vs = [v, u] ∧ Dp K H v (webD n ts) ∧ Dp K H u (lotD (cutL ts R)) ∧ (∀ t ∈ ts, t.1 < t.2 ∧ t.2 < n) ∧ Joi n ts ∧ 1 ≤ n ∧ n ≤ 60 ∧ ts.length ≤ 100 ∧
  ∀ (d : Addr) (kvs : List (Key × V)) H', Same H H' → H' d = some (.dK kvs) → (∀ p, p < n → valV kvs (Sum.inl (p : Int)) = some (.int (sdR R p))) → Q (.ref d) H'
/-- places found, so far nothing new -/
theorem col_grows {n : Nat} {ts : List Tie} (hj : Joi n ts) {fnd : List Nat} (h0 : 0 ∈ fnd) (hn : 1 ≤ n) (hlt : fnd.length < n) (hs : ∀ t ∈ ts, (t.1 ∈ fnd ↔ t.2 ∈ fnd)) : False := by
  have hex : ∃ b, b < n ∧ b ∉ fnd := Classical.byContradiction fun hno => by
    have hall : ∀ x ∈ List.range n, x ∈ fnd := fun x hx => Classical.byContradiction fun z => hno ⟨x, List.mem_range.mp hx, z⟩
    have := nodup_sub fnd (List.range n) List.nodup_range hall
    rw [List.length_range] at this
    omega
  obtain ⟨b, hb, hbn⟩ := hex
  obtain ⟨t, ht, hne⟩ := hj (fun x => decide (x ∈ fnd)) ⟨0, by omega, decide_eq_true h0⟩ ⟨b, hb, decide_eq_false hbn⟩
  exact hne (decide_eq_decide.mpr (hs t ht))
theorem cut_at {ts : List Tie} {R : List Nat} {j : Nat} {t : Tie} (ht : ts[j]? = some t) : decide (j ∈ cutL ts R) = !decide (decide (t.1 ∈ R) = decide (t.2 ∈ R)) := by
  have e : (j ∈ cutL ts R) ↔ crosses R t = true := by
    rw [mem_cutL]
    exact ⟨fun ⟨t', h, hc⟩ => by rw [ht] at h; cases h; exact hc, fun h => ⟨t, ht, h⟩⟩
  have : decide (j ∈ cutL ts R) = crosses R t := by rw [Bool.eq_iff_iff, decide_eq_true_iff, e]
  rw [this]
  rfl
theorem bne_same {a b : Bool} (h : a = b) : V.bl (!decide (V.bl a = V.bl b)) = V.bl false := by
  subst h
  simp
section
variable {P : Program} {w : World} {K : PySem.W.Frag} {mg : Str → Option Value} {base : Heap}
theorem ok_islot {f : Addr} {fd : FuncData} (D : Df K mg "_law_is_lot" sIslot pIslot f fd) (T : Bl mg) (hisinstance : mg "isinstance" = none) (hbool : mg "bool" = none) (hsorted : mg "sorted" = none) (hset : mg "set" = none) (hlist : mg "list" = none) : FnOk P w K mg base CX0 1 f fd pIslot (spIslot K) := by
  refine D.fn.ok scIslot (fun vs H Q E h => ?_) (fun cdv A outer s H vs Q E hr h => ?_)
  · obtain ⟨v, t, n, ts, ks, rfl, _⟩ := h
    rfl
  · obtain ⟨v, t, n, ts, ks, rfl, hw, ht, hl, hks, k⟩ := h
    have nd := scIslot.nd
    have hu := hu_of hr
    obtain ⟨a, c, ys, rfl, ha, hc, hys⟩ := dp_web hw
    have hyl : ys.length = ts.length := by rw [dpAll_len hys, List.length_map]
    obtain ⟨at0, rfl, hat⟩ := dp_lotN ht
    have hkl := lotA_len hks
    refine ⟨_, (pss_cons (ps_if (pt_not (pt_val (pe_callB (isiD K) (by rfl) hisinstance (by decide +kernel) (pa_cons (pv 1) (pa_cons (pe_bltn (v := .ty "tuple") (by rfl) T.tuple (by decide +kernel) rfl) pa_nil))))) (pss_one (ps_ret pe_bl)) pss_nil)
      (pss_cons (ps_if (pt_cmpR (opNeD K hr.units) (pe_lc (own := [("_law_k", 2)]) (g := (gName 2)) rfl nd (piT K (pv 1)) (blkOk_by (own := [("_law_k", 2)]) (N := nIslot) (sc := defScope sIslot) (by decide +kernel)) (fun _ _ _ _ _ => (pg_name (i := 2) nd rfl (by first | exact Or.inl rfl | exact Or.inr rfl))) (fun _ _ _ _ _ => (pts_one (PW.pt (pw_or (pt_not (pt_val (pe_callB (isiD K) (by rfl) hisinstance (by decide +kernel) (pa_cons (pv 2) (pa_cons (pe_bltn (v := .ty "int") (by rfl) T.int (by decide +kernel) rfl) pa_nil))))) (pw_or (pt_val (pe_callB (isiD K) (by rfl) hisinstance (by decide +kernel) (pa_cons (pv 2) (pa_cons (pe_bltn (v := .ty "bool") (by rfl) hbool (by decide +kernel) rfl) pa_nil)))) (pw_or1 (pt_not (pt_chain op_le op_lt pe_int (pv 2) (pe_callB (lenK K) (by rfl) T.len PySem.boot_len (pa_cons (pe_ix (ixT K) (pv 0) pe_int (fun _ _ => rfl)) pa_nil)))))))))) (fun _ _ _ _ _ => pe_int)) (pe_lst pa_nil) (nomark _)) (pss_one (ps_ret pe_bl)) pss_nil)
      (pss_one (ps_ret (pe_cmpR (opEqD K hr.units) (pe_callB (sortedSetK w rfl) (by rfl) hsorted (by decide +kernel) (pa_cons (pe_callTy (setTK K w rfl) (by rfl) hset (by decide +kernel) (pa_cons (pv 1) pa_nil)) pa_nil)) (pe_callTy (listK K) (by rfl) hlist (by decide +kernel) (pa_cons (pv 1) pa_nil)) (nomark _)))))), ?_⟩
    refine tSeq_go ?_
    refine ⟨_, rfl, .ref at0, lotD ks, "tuple", true, rfl, .inl ht, rfl, _, rfl, iteF ?_⟩
    dsimp only [tNext]
    refine tSeq_go ?_
    refine ⟨_, rfl, at0, rfl, ⟨_, hat⟩, fun E1 hE1 => ?_⟩
    refine lc_run (walk_tup (xs := natsV ks)) hE1 (fun j acc _ => acc = []) ?_ ?_ ?_ ?_
    · exact fun H' s => sqT_same s hat
    · rfl
    · rintro j x acc H3 H' hj hacc e s rfl ⟨rfl, hx⟩
      obtain ⟨kk, hkk, rfl⟩ := get_map (f := fun (k : Nat) => V.int k) hx
      have hkm := hks.2 kk (List.mem_of_getElem? hkk)
      refine ⟨rfl, ?_⟩
      refine ⟨_, rfl, .int kk, .int (kk : Int), "int", true, rfl, .inl (.int _), rfl, _, rfl, iteF ?_⟩
      refine ⟨_, rfl, .int kk, .int (kk : Int), "bool", false, rfl, .inl (.int _), rfl, _, rfl, iteF ?_⟩
      refine ⟨_, rfl, _, _, rfl, rfl, true, congrArg V.bl (decide_eq_true (by omega)), iteT ?_⟩
      refine ⟨_, rfl, a, _, _, _, rfl, rfl, sqT_same s ha, atI_nat (j := 1) rfl, c, ys, rfl, .inr (sqT_same s hc), _, _, rfl, rfl, true, congrArg V.bl (decide_eq_true (by rw [hyl]; omega)), iteF ?_⟩
      exact lc_skip hacc e (Same.refl _) rfl
    · rintro acc H2 h1 s2 rfl
      refine ⟨Nat.zero_le _, fun p hp => ?_⟩
      have sp : Same H2 (upd H2 p (.lst [])) := same_new hp
      refine ⟨.list [], .list [], .lst (SqL.of (sp _ _ h1)) .nil, .lst (SqL.of upd_same) .nil, shaped_intsL [], shaped_intsL [], _, rfl, iteF ?_⟩
      have s3 := s2.trans sp
      generalize upd H2 p (.lst []) = H3 at *
      dsimp only [tNext]
      refine ⟨_, rfl, at0, ks.map fun (k : Nat) => (k : Int), rfl, sqT_same s3 (by rw [← natsV_ints]; exact hat), by rw [List.length_map]; omega, fun j hj => ?_, fun q m hq hm => ?_⟩
      · obtain ⟨x, hx, rfl⟩ := List.mem_map.mp hj
        have := hks.2 x hx
        omega
      have sq := same_new (o := SetO w q (fun j => decide (j ∈ ks.map fun (k : Nat) => (k : Int))) m) hq
      refine ⟨q, _, m, rfl, upd_same, hm, fun ns p2 hns hmem hlen hp2 => ?_⟩
      have sp2 := same_new (o := .lst (ns.map V.int)) hp2
      have ens : ns = ks.map fun (k : Nat) => (k : Int) := by
        have n1 : ns.Nodup := hns.imp fun h => by omega
        have p2 : (ks.map fun (k : Nat) => (k : Int)).Pairwise (· < ·) := List.pairwise_map.mpr (hks.1.imp fun h => by omega)
        have n2 : (ks.map fun (k : Nat) => (k : Int)).Nodup := p2.imp fun h => by omega
        exact ((List.perm_ext_iff_of_nodup n1 n2).mpr fun x => by rw [hmem x]; exact decide_eq_true_iff).eq_of_pairwise (le := fun a b => a < b) (fun a b _ _ h1 h2 => by omega) hns p2
      subst ens
      have s4 := (s3.trans sq).trans sp2
      refine ⟨_, rfl, at0, natsV ks, rfl, .inr (sqT_same s4 hat), fun l2 hl2 => ?_⟩
      have sl := same_new (o := .lst (natsV ks)) hl2
      refine ⟨.list ((ks.map fun (k : Nat) => (k : Int)).map PyData.int), .list ((ks.map fun (k : Nat) => (k : Int)).map PyData.int), .lst (SqL.of (sl _ _ upd_same)) (dpAll_ints _), .lst (SqL.of (by rw [upd_same, natsV_ints])) (dpAll_ints _), shaped_intsL _, shaped_intsL _, ?_⟩
      have ee : PyData.eqv (.list ((ks.map fun (k : Nat) => (k : Int)).map PyData.int)) (.list ((ks.map fun (k : Nat) => (k : Int)).map PyData.int)) = true := by
        rw [PyData.eqv, PySem.W.ked_eqvAll]
        exact decide_eq_true rfl
      rw [ee]
      exact k _ (s4.trans sl)
theorem ok_col {f : Addr} {fd : FuncData} (D : Df K mg "_law_colours" sCol pCol f fd) (T : Bl mg) : FnOk P w K mg base CX0 1 f fd pCol (spCol K) := by
  refine D.fn.ok scCol (fun vs H Q E h => ?_) (fun cdv A outer s H vs Q E hr h => ?_)
  · obtain ⟨v, u, n, ts, R, rfl, _⟩ := h
    rfl
  · obtain ⟨v, u, n, ts, R, rfl, hw, hu0, hends, hj, hn1, hn, hel, k⟩ := h
    have nd := scCol.nd
    have hu := hu_of hr
    obtain ⟨p, c, ys, rfl, hp, hc, hys⟩ := dp_web hw
    have hyl : ys.length = ts.length := by rw [dpAll_len hys, List.length_map]
    obtain ⟨al, rfl, hal⟩ := dp_lotN hu0
    refine ⟨_, (pss_cons (ps_set (i := 2) nd rfl (by first | exact Or.inl rfl | exact Or.inr rfl) (pe_disp (pps_cons pe_int pe_int pps_nil) (by rfl) (by rfl) (fun z => by cases z) (by decide)))
      (pss_cons (ps_for PassesOwn.never rfl (pi_range1 rfl T.range (pa_cons (pe_ix (ixT K) (pv 0) pe_int (fun _ _ => rfl)) pa_nil)) (pg_name (i := 3) nd rfl (by first | exact Or.inl rfl | exact Or.inr rfl)) (pss_cons (ps_for PassesOwn.never rfl (enumT K (by rfl) T.enumerate (pa_cons (pe_ix (ixT K) (pv 0) pe_int (fun _ _ => rfl)) pa_nil)) (pgT K rfl (pgs_cons (pg_name (i := 5) nd rfl (by first | exact Or.inl rfl | exact Or.inr rfl)) (pgs_cons (pgT K rfl (pgs_cons (pg_name (i := 6) nd rfl (by first | exact Or.inl rfl | exact Or.inr rfl)) (pgs_cons (pg_name (i := 7) nd rfl (by first | exact Or.inl rfl | exact Or.inr rfl)) pgs_nil))) pgs_nil))) (pss_cons (ps_set (i := 8) nd rfl (by first | exact Or.inl rfl | exact Or.inr rfl) (pe_callTy call_int1 (by rfl) T.int (by decide +kernel) (pa_cons (pe_cmpR (opIn K) (pv 5) (pv 1) rfl) pa_nil)))
      (pss_one (ps_if (PW.pt (pw_and (pt_cmp (pc_din hu (pv 6) (pv 2))) (pw_and1 (pt_cmp (pc_dnotin hu (pv 7) (pv 2)))))) (pss_one (ps_dput hu (pv 2) (pv 7) (pe_op op_mod (pe_callTy call_int1 (by rfl) T.int (by decide +kernel) (pa_cons (pe_op op_add (pe_dget hu (pv 2) (pv 6) (fun _ _ => rfl)) (pv 8)) pa_nil)) pe_int) rfl)) (pss_one (ps_if (PW.pt (pw_and (pt_cmp (pc_din hu (pv 7) (pv 2))) (pw_and1 (pt_cmp (pc_dnotin hu (pv 6) (pv 2)))))) (pss_one (ps_dput hu (pv 2) (pv 6) (pe_op op_mod (pe_callTy call_int1 (by rfl) T.int (by decide +kernel) (pa_cons (pe_op op_add (pe_dget hu (pv 2) (pv 7) (fun _ _ => rfl)) (pv 8)) pa_nil)) pe_int) rfl)) pss_nil))))))
      (pss_one (ps_if (pt_cmpR op_eq (pe_callB call_lenD (by rfl) T.len PySem.boot_len (pa_cons (pv 2) pa_nil)) (pe_ix (ixT K) (pv 0) pe_int (fun _ _ => rfl)) (nomark _)) (pss_one ps_break) pss_nil))))
      (pss_cons (ps_setLc (i := 4) (own := [("_law_k", 5), ("_law_one", 6), ("_law_other", 7)]) (g := (gTup K 2 (gCons (gName 5) (gCons (gTup K 2 (gCons (gName 6) (gCons (gName 7) gNil))) gNil)))) rfl nd rfl rfl (sw_true rfl rfl rfl (by decide +kernel)) (enumT K (by rfl) T.enumerate (pa_cons (pe_ix (ixT K) (pv 0) pe_int (fun _ _ => rfl)) pa_nil)) (blkOk_by (own := [("_law_k", 5), ("_law_one", 6), ("_law_other", 7)]) (N := nCol) (sc := defScope sCol) (by decide +kernel)) (fun _ _ _ _ _ => (pgT K rfl (pgs_cons (pg_name (i := 5) nd rfl (by first | exact Or.inl rfl | exact Or.inr rfl)) (pgs_cons (pgT K rfl (pgs_cons (pg_name (i := 6) nd rfl (by first | exact Or.inl rfl | exact Or.inr rfl)) (pgs_cons (pg_name (i := 7) nd rfl (by first | exact Or.inl rfl | exact Or.inr rfl)) pgs_nil))) pgs_nil)))) (fun _ _ _ _ _ => (pts_one (pt_cmpR op_ne (pe_cmpR op_ne (pe_dget hu (pv 2) (pv 6) (fun _ _ => rfl)) (pe_dget hu (pv 2) (pv 7) (fun _ _ => rfl)) (nomark _)) (pe_cmpR (opIn K) (pv 5) (pv 1) rfl) (nomark _)))) (fun _ _ _ _ _ => (pv 5)))
      (pss_one (ps_ret (pe_ifExp (pt_cmpR (opEqD K hr.units) (pv 4) (pe_lst pa_nil) (nomark _)) (pv 2) pe_non)))))), ?_⟩
    refine tSeq_go ?_
    refine fun d hd => ?_
    refine ⟨upd_same, [(Sum.inl (0 : Int), .int 0)], rfl, (by show 1 ≤ 15; decide), ?_⟩
    have hcol0 : ColS R (upd (upd H d (.dK [])) d (.dK (mergeK [] [((Sum.inl (0 : Int) : Key), V.int 0)]))) d [0] := ⟨[((Sum.inl (0 : Int) : Key), V.int 0)], upd_same, rfl, fun p hp => by
      rw [List.mem_singleton.mp hp]
      unfold sdR
      rw [if_pos rfl]
      rfl⟩
    have s1 : Same H (upd (upd H d (.dK [])) d (.dK (mergeK [] [((Sum.inl (0 : Int) : Key), V.int 0)]))) := same_old hd (same_new hd)
    generalize (upd (upd H d (.dK [])) d (.dK (mergeK [] [((Sum.inl (0 : Int) : Key), V.int 0)]))) = H1 at *
    dsimp only [gName]
    refine at_st [some (.ref p), some (.ref al), some (.ref d), none, none, none, none, none, none] rfl ?_
    refine tSeq_go ?_
    have klen : ∀ {kvs : List (Key × V)} {fnd : List Nat}, kvs.map (·.1) = fnd.map (fun (p : Nat) => (Sum.inl (p : Int) : Key)) → kvs.length = fnd.length := fun h => by
      have := congrArg List.length h
      simpa using this
    have rest : ∀ {fnd : List Nat} {kvs : List (Key × V)}, (∀ p ∈ fnd, valV kvs (Sum.inl (p : Int)) = some (.int (sdR R p))) → fnd.Nodup → (∀ x ∈ fnd, x < n) → fnd.length = n →
        ∀ p, p < n → valV kvs (Sum.inl (p : Int)) = some (.int (sdR R p)) := fun {fnd kvs} h3 hnd hlt hl p hp => by
      refine h3 p ?_
      refine Classical.byContradiction fun hno => ?_
      have := nodup_small n (p :: fnd) (List.nodup_cons.mpr ⟨hno, hnd⟩) fun x hx => by
        rcases List.mem_cons.mp hx with e | e
        · rw [e]
          exact hp
        · exact hlt x e
      rw [List.length_cons] at this
      omega
    refine ⟨_, rfl, p, _, _, _, rfl, rfl, sqT_same s1 hp, atI_nat (j := 0) rfl, (n : Int), rfl, by omega, by omega, ?_⟩
    refine for_range (lo := 0) (n := ((n : Nat) : Int).toNat) (fun i σ H' => ∃ (v3 v5 v6 v7 v8 : Option V) (fnd : List Nat), σ = [some (.ref p), some (.ref al), some (.ref d), v3, none, v5, v6, v7, v8] ∧ Same H H' ∧ ColS R H' d fnd ∧ fnd.Nodup ∧ 0 ∈ fnd ∧ (∀ x ∈ fnd, x < n) ∧ 1 + i ≤ fnd.length) ?_ ?_ ?_
    · exact ⟨none, none, none, none, none, [0], rfl, s1, hcol0, by simp, by simp, fun x hx => by rw [List.mem_singleton.mp hx]; omega, Nat.le_refl _⟩
    · rintro i σ H7 hi ⟨v3, v5, v6, v7, v8, fnd, rfl, s7, hc7, hnd, h0, hlt, hgr⟩
      have hfl := nodup_small n fnd hnd hlt
      show tSeq _ _ _ _ _
      refine tSeq_go ?_
      refine ⟨_, rfl, p, _, _, _, rfl, rfl, sqT_same s7 hp, atI_nat (j := 1) rfl, c, ys, rfl, sqT_same s7 hc, for_it (walk_enumT (xs := ys)) (fun j σ H' => ∃ (v5 v6 v7 v8 : Option V) (f2 : List Nat), σ = [some (.ref p), some (.ref al), some (.ref d), some (.int (0 + (i : Int))), none, v5, v6, v7, v8] ∧ Same H H' ∧ ColS R H' d f2 ∧
        f2.Nodup ∧ 0 ∈ f2 ∧ (∀ x ∈ f2, x < n) ∧ fnd.length ≤ f2.length ∧ (f2.length = fnd.length → f2 = fnd ∧ ∀ t ∈ ts.take j, (t.1 ∈ fnd ↔ t.2 ∈ fnd))) ?_ ?_ ?_ ?_⟩
      · exact ⟨v5, v6, v7, v8, fnd, rfl, s7, hc7, hnd, h0, hlt, Nat.le_refl _, fun _ => ⟨rfl, fun t ht => by simp at ht⟩⟩
      · rintro j σ H' _ ⟨v5, v6, v7, v8, f2, rfl, sH, _⟩
        exact sqT_same sH hc
      · rintro j x σ H8 H'' hjj ⟨v5, v6, v7, v8, f2, rfl, s8, hc8, hnd2, h02, hlt2, hgr2, hsh⟩ ⟨qt, y, z, rfl, hqt, rfl, hy, hz⟩
        have hy' : some (V.int j) = some y := hy
        cases hy'
        have hz' : ys[j]? = some z := hz
        obtain ⟨dd, hdd, hzd⟩ := dpAll_get hys hz'
        obtain ⟨t, ht, rfl⟩ := get_map hdd
        obtain ⟨az, rfl, haz⟩ := dp_tie hzd
        have sqt := same_new (o := .tup [.int j, .ref az]) hqt
        have s9 := s8.trans sqt
        have aT : (upd H8 qt (.tup [.int j, .ref az])) qt = some (.tup [.int j, .ref az]) := upd_same
        obtain ⟨kvs, h1, h2, h3⟩ := hc8
        have h1 := sqt _ _ h1
        generalize upd H8 qt (.tup [.int j, .ref az]) = H9 at *
        have hte := hends t (List.mem_of_getElem? ht)
        have hjl : j < ts.length := (List.getElem?_eq_some_iff.mp ht).1
        refine ⟨qt, _, rfl, SqT.of aT, rfl, _, _, rfl, _, _, rfl, az, _, rfl, sqT_same s9 haz, rfl, _, _, rfl, _, _, rfl, rfl, rfl, ?_⟩
        refine at_st [some (.ref p), some (.ref al), some (.ref d), some (.int (0 + (i : Int))), none, some (.int j), some (.int (t.1 : Nat)), some (.int (t.2 : Nat)), v8] rfl ?_
        have hcr : decide (j ∈ cutL ts R) = !decide (decide (t.1 ∈ R) = decide (t.2 ∈ R)) := cut_at ht
        have hst : ∀ {H' : Hp}, (if inV (V.int (j : Int)) (natsV (cutL ts R)) = true then (1 : Int) else 0) = ((if decide (t.1 ∈ R) = decide (t.2 ∈ R) then 0 else 1 : Nat) : Int) := fun {_} => by
          have key : inV (V.int (j : Int)) (natsV (cutL ts R)) = decide (j ∈ cutL ts R) := inv_nats j _
          rw [key, hcr]
          cases decide (t.1 ∈ R) <;> cases decide (t.2 ∈ R) <;> rfl
        have htk : ts.take (j + 1) = ts.take j ++ [t] := by
          rw [List.take_add_one, ht]
          rfl
        have hkl := klen h2
        have hf2 := nodup_small n f2 hnd2 hlt2
        have val2 : ∀ q : Nat, q ∉ f2 → valV kvs (Sum.inl (q : Int)) = none := fun q hq => by
          have := val_none (p := q) h2
          rw [decide_eq_false hq] at this
          cases e : valV kvs (Sum.inl (q : Int)) with
          | none => rfl
          | some x => rw [e] at this; cases this
        have stay : (t.1 ∈ f2 ↔ t.2 ∈ f2) → ∃ (v5 v6 v7 v8 : Option V) (f2' : List Nat), [some (V.ref p), some (V.ref al), some (V.ref d), some (V.int (0 + (i : Int))), none, some (V.int (j : Int)), some (V.int (t.1 : Nat)), some (V.int (t.2 : Nat)), some (V.int (if inV (V.int (j : Int)) (natsV (cutL ts R)) = true then (1 : Int) else 0))] = [some (V.ref p), some (V.ref al), some (V.ref d), some (V.int (0 + (i : Int))), none, v5, v6, v7, v8] ∧ Same H H9 ∧ ColS R H9 d f2' ∧
            f2'.Nodup ∧ 0 ∈ f2' ∧ (∀ x ∈ f2', x < n) ∧ fnd.length ≤ f2'.length ∧ (f2'.length = fnd.length → f2' = fnd ∧ ∀ t ∈ ts.take (j + 1), (t.1 ∈ fnd ↔ t.2 ∈ fnd)) := fun hq => by
          refine ⟨_, _, _, _, f2, rfl, s9, ⟨kvs, h1, h2, h3⟩, hnd2, h02, hlt2, hgr2, fun e => ?_⟩
          obtain ⟨e1, e2⟩ := hsh e
          refine ⟨e1, fun t' ht' => ?_⟩
          rw [htk] at ht'
          rcases List.mem_append.mp ht' with z | z
          · exact e2 t' z
          · rw [List.mem_singleton.mp z, ← e1]
            exact hq
        have grow : ∀ q : Nat, q ∉ f2 → q < n → ∃ (v5 v6 v7 v8 : Option V) (f2' : List Nat), [some (V.ref p), some (V.ref al), some (V.ref d), some (V.int (0 + (i : Int))), none, some (V.int (j : Int)), some (V.int (t.1 : Nat)), some (V.int (t.2 : Nat)), some (V.int (if inV (V.int (j : Int)) (natsV (cutL ts R)) = true then (1 : Int) else 0))] = [some (V.ref p), some (V.ref al), some (V.ref d), some (V.int (0 + (i : Int))), none, v5, v6, v7, v8] ∧ Same H (upd H9 d (.dK (putK kvs (Sum.inl (q : Int)) (.int (sdR R q))))) ∧ ColS R (upd H9 d (.dK (putK kvs (Sum.inl (q : Int)) (.int (sdR R q))))) d f2' ∧
            f2'.Nodup ∧ 0 ∈ f2' ∧ (∀ x ∈ f2', x < n) ∧ fnd.length ≤ f2'.length ∧ (f2'.length = fnd.length → f2' = fnd ∧ ∀ t ∈ ts.take (j + 1), (t.1 ∈ fnd ↔ t.2 ∈ fnd)) := fun q hq hqn => by
          refine ⟨_, _, _, _, f2 ++ [q], rfl, same_old hd s9, ColS.put h2 h3 hq, ?_, List.mem_append_left _ h02, fun x hx => ?_, ?_, fun e => ?_⟩
          · rw [List.nodup_append]
            refine ⟨hnd2, by simp, fun x hx y hy => ?_⟩
            rw [List.mem_singleton.mp hy]
            exact fun z => hq (z ▸ hx)
          · rcases List.mem_append.mp hx with z | z
            · exact hlt2 x z
            · rw [List.mem_singleton.mp z]
              exact hqn
          · rw [List.length_append]
            omega
          · rw [List.length_append, List.length_singleton] at e
            omega
        refine tSeq_go ?_
        refine ⟨_, rfl, _, rfl, al, _, rfl, .inr (sqT_same s9 hal), rfl, flat_nats _, .inr ⟨_, rfl, ?_⟩⟩
        dsimp only [gName]
        refine at_st [some (.ref p), some (.ref al), some (.ref d), some (.int (0 + (i : Int))), none, some (.int j), some (.int (t.1 : Nat)), some (.int (t.2 : Nat)), some (.int (if inV (V.int (j : Int)) (natsV (cutL ts R)) = true then (1 : Int) else 0))] rfl ?_
        have put : ∀ {a b : Nat}, (a = t.1 ∧ b = t.2 ∨ a = t.2 ∧ b = t.1) → (((sdR R a : Nat) : Int) + (if inV (V.int (j : Int)) (natsV (cutL ts R)) = true then (1 : Int) else 0)) % 2 = ((sdR R b : Nat) : Int) := fun {a b} h => by
          rw [hst (H' := H), ← sd_step (R := R) (a := a) (b := b)]
          rcases h with ⟨rfl, rfl⟩ | ⟨rfl, rfl⟩
          · omega
          · have : (if decide (t.1 ∈ R) = decide (t.2 ∈ R) then (0 : Nat) else 1) = (if decide (t.2 ∈ R) = decide (t.1 ∈ R) then (0 : Nat) else 1) := by
              cases decide (t.1 ∈ R) <;> cases decide (t.2 ∈ R) <;> rfl
            rw [this]
            omega
        have hsz : kvs.length < 100000 := by omega
        refine ⟨_, rfl, _, rfl, d, _, rfl, DGet.k (k := Sum.inl ((t.1 : Nat) : Int)) h1, _, rfl, ?_⟩
        rw [val_none h2]
        refine ite2 (fun ha => ?_) (fun ha => ?_)
        · have ha : t.1 ∈ f2 := by simpa using ha
          refine ⟨_, rfl, _, rfl, d, _, rfl, DGet.k (k := Sum.inl ((t.2 : Nat) : Int)) h1, _, rfl, ?_⟩
          rw [val_none h2]
          refine ite2 (fun hb => ?_) (fun hb => ?_)
          · have hb : t.2 ∉ f2 := by simpa using hb
            refine ⟨_, rfl, _, rfl, d, .int (sdR R t.1), rfl, (h3 t.1 ha) ▸ DGet.k (k := Sum.inl ((t.1 : Nat) : Int)) h1, ?_⟩
            refine ⟨_, rfl, _, _, rfl, rfl, .inl ⟨_, rfl, ?_⟩⟩
            refine ⟨_, _, rfl, rfl, (by decide : (0:Int) < 2), ?_⟩
            dsimp only
            rw [put (.inl ⟨rfl, rfl⟩)]
            exact ⟨_, rfl, _, rfl, d, _, rfl, DPut.k (k := Sum.inl ((t.2 : Nat) : Int)) h1 (Nat.lt_of_lt_of_le hsz (by decide)), grow t.2 hb hte.2⟩
          · have hb : t.2 ∈ f2 := by simpa using hb
            refine ⟨_, rfl, _, rfl, d, _, rfl, DGet.k (k := Sum.inl ((t.2 : Nat) : Int)) h1, _, rfl, ?_⟩
            rw [val_none h2, decide_eq_true hb]
            refine iteT ?_
            refine ⟨_, rfl, _, rfl, d, _, rfl, DGet.k (k := Sum.inl ((t.1 : Nat) : Int)) h1, _, rfl, ?_⟩
            rw [val_none h2, decide_eq_true ha]
            exact iteF (stay ⟨fun _ => hb, fun _ => ha⟩)
        · have ha : t.1 ∉ f2 := by simpa using ha
          refine ⟨_, rfl, _, rfl, d, _, rfl, DGet.k (k := Sum.inl ((t.2 : Nat) : Int)) h1, _, rfl, ?_⟩
          rw [val_none h2]
          refine ite2 (fun hb => ?_) (fun hb => ?_)
          · have hb : t.2 ∈ f2 := by simpa using hb
            refine ⟨_, rfl, _, rfl, d, _, rfl, DGet.k (k := Sum.inl ((t.1 : Nat) : Int)) h1, _, rfl, ?_⟩
            rw [val_none h2, decide_eq_false ha]
            refine iteT ?_
            refine ⟨_, rfl, _, rfl, d, .int (sdR R t.2), rfl, (h3 t.2 hb) ▸ DGet.k (k := Sum.inl ((t.2 : Nat) : Int)) h1, ?_⟩
            refine ⟨_, rfl, _, _, rfl, rfl, .inl ⟨_, rfl, ?_⟩⟩
            refine ⟨_, _, rfl, rfl, (by decide : (0:Int) < 2), ?_⟩
            dsimp only
            rw [put (.inr ⟨rfl, rfl⟩)]
            exact ⟨_, rfl, _, rfl, d, _, rfl, DPut.k (k := Sum.inl ((t.1 : Nat) : Int)) h1 (Nat.lt_of_lt_of_le hsz (by decide)), grow t.1 ha (by omega)⟩
          · have hb : t.2 ∉ f2 := by simpa using hb
            exact stay ⟨fun z => absurd z ha, fun z => absurd z hb⟩
      · rintro σ H8 ⟨v5, v6, v7, v8, f2, rfl, s8, hc8, hnd2, h02, hlt2, hgr2, hsh⟩
        rw [hyl, List.take_length] at hsh
        have hf2 := nodup_small n f2 hnd2 hlt2
        dsimp only
        obtain ⟨kvs, h1, h2, h3⟩ := hc8
        have hkl := klen h2
        refine ⟨_, rfl, d, kvs, rfl, h1, _, rfl, p, _, _, _, rfl, rfl, sqT_same s8 hp, atI_nat (j := 0) rfl, rfl, _, rfl, ?_⟩
        refine ite2 (fun hh => ?_) (fun hh => ?_)
        · have hh : f2.length = n := by
            have := V.int.inj (of_decide_eq_true hh)
            omega
          have hval := rest h3 hnd2 hlt2 hh
          unfold tBreak
          dsimp only
          refine tSeq_go ?_
          refine ⟨_, rfl, p, _, _, _, rfl, rfl, sqT_same s8 hp, atI_nat (j := 1) rfl, c, ys, rfl, sqT_same s8 hc, fun E1 hE1 => ?_⟩
          refine lc_run (walk_enumT (xs := ys)) hE1 (fun j acc _ => acc = []) ?_ ?_ ?_ ?_
          · exact fun H' s => sqT_same (s8.trans s) hc
          · rfl
          · rintro j x acc H9 H'' hjj hacc e s9 ha ⟨qt, y, z, rfl, hqt, rfl, hy, hz⟩
            have hy' : some (V.int j) = some y := hy
            cases hy'
            have hz' : ys[j]? = some z := hz
            obtain ⟨dd, hdd, hzd⟩ := dpAll_get hys hz'
            obtain ⟨t, ht, rfl⟩ := get_map hdd
            obtain ⟨az, rfl, haz⟩ := dp_tie hzd
            have sqt := same_new (o := .tup [.int j, .ref az]) hqt
            have aT : (upd H9 qt (.tup [.int j, .ref az])) qt = some (.tup [.int j, .ref az]) := upd_same
            obtain h1 := (s9.trans sqt) _ _ h1
            have s10 := (s8.trans s9).trans sqt
            generalize upd H9 qt (.tup [.int j, .ref az]) = H10 at *
            have hte := hends t (List.mem_of_getElem? ht)
            refine ⟨qt, _, rfl, SqT.of aT, rfl, _, _, rfl, _, _, rfl, az, _, rfl, sqT_same s10 haz, rfl, _, _, rfl, _, _, rfl, rfl, rfl, rfl, ?_⟩
            have v1 := hval t.1 (by omega)
            have v2 := hval t.2 hte.2
            refine ⟨_, rfl, _, rfl, d, .int (sdR R t.1), rfl, v1 ▸ DGet.k (k := Sum.inl ((t.1 : Nat) : Int)) h1, _, rfl, _, rfl, d, .int (sdR R t.2), rfl, v2 ▸ DGet.k (k := Sum.inl ((t.2 : Nat) : Int)) h1, ?_⟩
            have hcr : decide (j ∈ cutL ts R) = !decide (decide (t.1 ∈ R) = decide (t.2 ∈ R)) := cut_at ht
            have key : inV (V.int (j : Int)) (natsV (cutL ts R)) = decide (j ∈ cutL ts R) := inv_nats j _
            refine ⟨rfl, _, rfl, _, rfl, al, _, rfl, .inr (sqT_same s10 hal), rfl, flat_nats _, rfl, false, bne_same ?_, iteF ?_⟩
            · rw [key, hcr]
              refine congrArg not (decide_eq_decide.mpr ?_)
              rw [← sd_ne]
              exact ⟨fun z => by have := V.int.inj z; omega, fun z => by rw [z]⟩
            · exact lc_skip hacc e sqt ha
          · rintro acc H4 hacc s4 ha
            have ha : acc = [] := ha
            subst ha
            dsimp only [gName]
            refine at_st [some (.ref p), some (.ref al), some (.ref d), some (.int (0 + (i : Int))), some (.ref E1), v5, v6, v7, v8] rfl ?_
            refine ⟨_, rfl, Nat.zero_le _, fun q hq => ?_⟩
            have sq := same_new (o := .lst []) hq
            refine ⟨.list [], .list [], .lst (SqL.of (sq _ _ hacc)) .nil, .lst (SqL.of upd_same) .nil, shaped_intsL [], shaped_intsL [], true, by rfl, iteT ?_⟩
            have s5 := s4.trans sq
            exact ⟨_, rfl, k d kvs _ (s8.trans s5) (s5 _ _ h1) hval⟩
        · have hh : f2.length ≠ n := fun z => hh (decide_eq_true (by rw [hkl, z]))
          refine ⟨_, _, _, _, _, f2, rfl, s8, ⟨kvs, h1, h2, h3⟩, hnd2, h02, hlt2, ?_⟩
          have : f2.length ≠ fnd.length := fun e => by
            obtain ⟨rfl, hs⟩ := hsh e
            exact col_grows hj h0 hn1 (by omega) hs
          omega
    · rintro σ H7 ⟨v3, v5, v6, v7, v8, fnd, rfl, s7, hc7, hnd, h0, hlt, hgr⟩
      have := nodup_small n fnd hnd hlt
      rw [Int.toNat_natCast] at hgr
      omega
end
end BV

namespace BV
open PySem L2
/-! ### a lot taken in from its first tie on, turn by turn -/
def touchK (ts : List Tie) (met : List Nat) (k : Nat) : Bool := match ts[k]? with
  | some t => decide (t.1 ∈ met) || decide (t.2 ∈ met)
  | none => false
def endsK (ts : List Tie) (k : Nat) : List Nat := match ts[k]? with
  | some t => [t.1, t.2]
  | none => []
def furthK (ts : List Tie) (s : List Nat × List Nat) : List Nat := s.2.filter (touchK ts s.1)
def absT (ts : List Tie) (s : List Nat × List Nat) : List Nat × List Nat := (s.1 ++ (furthK ts s).flatMap (endsK ts), s.2.filter fun k => !decide (k ∈ furthK ts s))
def absN (ts : List Tie) (s : List Nat × List Nat) : Nat → List Nat × List Nat
  | 0 => s
  | i + 1 => absT ts (absN ts s i)
theorem mem_endsK {ts : List Tie} {k p : Nat} : p ∈ endsK ts k ↔ atE ts p k = true := by
  unfold endsK atE
  cases ts[k]? with
  | none => simp
  | some t =>
    dsimp only
    rw [decide_eq_true_eq, List.mem_cons, List.mem_singleton]
    exact ⟨fun z => z.elim (fun z => .inl z.symm) fun z => .inr z.symm, fun z => z.elim (fun z => .inl z.symm) fun z => .inr z.symm⟩
theorem touch_iff {ts : List Tie} {met : List Nat} {k : Nat} : touchK ts met k = true ↔ ∃ p ∈ met, atE ts p k = true := by
  unfold touchK
  cases h : ts[k]? with
  | none =>
    constructor
    · intro z
      cases z
    · rintro ⟨p, _, z⟩
      unfold atE at z
      rw [h] at z
      cases z
  | some t =>
    dsimp only
    rw [Bool.or_eq_true, decide_eq_true_eq, decide_eq_true_eq]
    constructor
    · rintro (z | z)
      · exact ⟨_, z, (atE_iff h).mpr (.inl rfl)⟩
      · exact ⟨_, z, (atE_iff h).mpr (.inr rfl)⟩
    · rintro ⟨p, hp, z⟩
      rcases (atE_iff h).mp z with e | e
      · exact .inl (e ▸ hp)
      · exact .inr (e ▸ hp)
structure AbI (ts : List Tie) (lot : List Nat) (k0 : Nat) (s : List Nat × List Nat) (A : List Nat) : Prop where
  hd : k0 ∈ A
  all : ∀ k ∈ lot, k ∈ A ∨ k ∈ s.2
  rest : ∀ k ∈ s.2, k ∈ lot ∧ k ∉ A
  met : ∀ p, p ∈ s.1 ↔ ∃ j ∈ A, atE ts p j = true
  low : ∀ B : List Nat, k0 ∈ B → (∀ k ∈ lot, Touch ts B k → k ∈ B) → ∀ k ∈ A, k ∈ B
theorem abI_step {ts : List Tie} {lot : List Nat} {k0 : Nat} {s : List Nat × List Nat} {A : List Nat} (h : AbI ts lot k0 s A) : AbI ts lot k0 (absT ts s) (A ++ furthK ts s) := by
  have hf : ∀ k, k ∈ furthK ts s ↔ k ∈ s.2 ∧ touchK ts s.1 k = true := fun k => List.mem_filter
  refine ⟨List.mem_append_left _ h.hd, fun k hk => ?_, fun k hk => ?_, fun p => ?_, fun B h0 hB k hk => ?_⟩
  · rcases h.all k hk with z | z
    · exact .inl (List.mem_append_left _ z)
    · by_cases e : k ∈ furthK ts s
      · exact .inl (List.mem_append_right _ e)
      · exact .inr (List.mem_filter.mpr ⟨z, by rw [decide_eq_false e]; rfl⟩)
  · obtain ⟨a, b⟩ := List.mem_filter.mp hk
    have hn : k ∉ furthK ts s := by simpa using b
    exact ⟨(h.rest k a).1, fun z => (List.mem_append.mp z).elim (h.rest k a).2 hn⟩
  · show p ∈ s.1 ++ _ ↔ _
    rw [List.mem_append, List.mem_flatMap]
    constructor
    · rintro (z | ⟨j, hj, z⟩)
      · obtain ⟨j, hj, e⟩ := (h.met p).mp z
        exact ⟨j, List.mem_append_left _ hj, e⟩
      · exact ⟨j, List.mem_append_right _ hj, mem_endsK.mp z⟩
    · rintro ⟨j, hj, e⟩
      rcases List.mem_append.mp hj with z | z
      · exact .inl ((h.met p).mpr ⟨j, z, e⟩)
      · exact .inr ⟨j, z, mem_endsK.mpr e⟩
  · rcases List.mem_append.mp hk with z | z
    · exact h.low B h0 hB k z
    · obtain ⟨a, b⟩ := (hf k).mp z
      obtain ⟨p, hp, e⟩ := touch_iff.mp b
      obtain ⟨j, hj, e2⟩ := (h.met p).mp hp
      exact hB k (h.rest k a).1 ⟨p, j, h.low B h0 hB j hj, e2, e⟩
theorem abI_all {ts : List Tie} {lot : List Nat} {k0 : Nat} {s : List Nat × List Nat} {A : List Nat} (h : AbI ts lot k0 s A) : ∀ i, ∃ A', AbI ts lot k0 (absN ts s i) A'
  | 0 => ⟨A, h⟩
  | i + 1 => by
    obtain ⟨A', h'⟩ := abI_all h i
    exact ⟨_, abI_step h'⟩
theorem abs_still {ts : List Tie} {s : List Nat × List Nat} (h : furthK ts s = []) : absT ts s = s := by
  unfold absT
  rw [h]
  obtain ⟨a, b⟩ := s
  dsimp only
  rw [List.flatMap_nil, List.append_nil]
  congr 1
  exact List.filter_eq_self.mpr fun k _ => by simp
theorem abs_shrinks (ts : List Tie) (s : List Nat × List Nat) : ∀ i, (absN ts s i).2.length + i ≤ s.2.length ∨ furthK ts (absN ts s i) = []
  | 0 => .inl (Nat.le_refl _)
  | i + 1 => by
    by_cases e : furthK ts (absN ts s i) = []
    · refine .inr ?_
      show furthK ts (absT ts (absN ts s i)) = []
      rw [abs_still e]
      exact e
    · rcases abs_shrinks ts s i with h | h
      · refine .inl ?_
        obtain ⟨k, hk⟩ := List.exists_mem_of_ne_nil _ e
        have hk2 : k ∈ (absN ts s i).2 := (List.mem_filter.mp hk).1
        have h2 : (absT ts (absN ts s i)).2.length < (absN ts s i).2.length := by
          show ((absN ts s i).2.filter _).length < _
          refine List.length_filter_lt_length_iff_exists.mpr ⟨k, hk2, ?_⟩
          rw [decide_eq_true hk]
          decide
        show (absT ts (absN ts s i)).2.length + (i + 1) ≤ _
        omega
      · exact absurd h e
theorem abs_piece {ts : List Tie} {k0 : Nat} {rest : List Nat} (hn : (k0 :: rest).Nodup) : (absN ts (endsK ts k0, rest) (k0 :: rest).length).2 = [] ↔ Piece ts (k0 :: rest) k0 := by
  have h0 : AbI ts (k0 :: rest) k0 (endsK ts k0, rest) [k0] := by
    refine ⟨List.mem_cons_self .., fun k hk => ?_, fun k hk => ⟨List.mem_cons_of_mem _ hk, fun z => ?_⟩, fun p => ?_, fun B hb _ k hk => ?_⟩
    · rcases List.mem_cons.mp hk with e | e
      · exact .inl (List.mem_singleton.mpr e)
      · exact .inr e
    · rw [List.mem_singleton.mp z] at hk
      exact (List.nodup_cons.mp hn).1 hk
    · rw [show p ∈ (endsK ts k0, rest).1 ↔ p ∈ endsK ts k0 from Iff.rfl, mem_endsK]
      exact ⟨fun z => ⟨k0, List.mem_singleton.mpr rfl, z⟩, fun ⟨j, hj, e⟩ => by rwa [List.mem_singleton.mp hj] at e⟩
    · rw [List.mem_singleton.mp hk]
      exact hb
  obtain ⟨A, hA⟩ := abI_all h0 (k0 :: rest).length
  constructor
  · intro e B hb hB k hk
    rcases hA.all k hk with z | z
    · exact hA.low B hb hB k z
    · rw [e] at z
      cases z
  · intro hp
    have hst : furthK ts (absN ts (endsK ts k0, rest) (k0 :: rest).length) = [] := by
      rcases abs_shrinks ts (endsK ts k0, rest) (k0 :: rest).length with z | z
      · rw [List.length_cons] at z
        have : (endsK ts k0, rest).2.length = rest.length := rfl
        omega
      · exact z
    have hall := hp A hA.hd fun k hk ⟨p, j, hj, e1, e2⟩ => by
      rcases hA.all k hk with z | z
      · exact z
      · exfalso
        have : k ∈ furthK ts (absN ts (endsK ts k0, rest) (k0 :: rest).length) := List.mem_filter.mpr ⟨z, touch_iff.mpr ⟨p, (hA.met p).mpr ⟨j, hj, e1⟩, e2⟩⟩
        rw [hst] at this
        cases this
    cases e : (absN ts (endsK ts k0, rest) (k0 :: rest).length).2 with
    | nil => rfl
    | cons k r =>
      have hk : k ∈ (absN ts (endsK ts k0, rest) (k0 :: rest).length).2 := by rw [e]; exact List.mem_cons_self ..
      have := hA.rest k hk
      exact absurd (hall k this.1) this.2
end BV

namespace BV
open PySem L2
/-! ### the places of a lot, one behind another -/
def flatE (ts : List Tie) (lot : List Nat) : List Nat := lot.flatMap (endsK ts)
theorem flatE_app (ts : List Tie) (l m : List Nat) : flatE ts (l ++ m) = flatE ts l ++ flatE ts m := by
  unfold flatE
  rw [List.flatMap_append]
theorem flatE_one {ts : List Tie} {k : Nat} {t : Tie} (ht : ts[k]? = some t) : flatE ts [k] = [t.1, t.2] := by
  unfold flatE endsK
  simp [ht]
theorem count_flat {n : Nat} {ts : List Tie} (hends : ∀ t ∈ ts, t.1 < t.2 ∧ t.2 < n) (p : Nat) : ∀ lot : List Nat, (∀ k ∈ lot, k < ts.length) → (flatE ts lot).count p = degE ts lot p
  | [], _ => rfl
  | k :: lot, h => by
    have hk := h k (List.mem_cons_self ..)
    have ht := List.getElem?_eq_getElem hk
    have ih := count_flat hends p lot fun x hx => h x (List.mem_cons_of_mem _ hx)
    have hm := hends _ (List.mem_of_getElem? ht)
    generalize ts[k] = t at *
    rw [show k :: lot = [k] ++ lot from rfl, flatE_app, flatE_one ht, List.count_append, ih]
    rw [show [k] ++ lot = k :: lot from rfl, degE_cons]
    congr 1
    unfold atE
    rw [ht]
    simp only [List.count_cons, List.count_nil]
    by_cases e1 : t.1 = p
    · have e2 : ¬ t.2 = p := by omega
      simp [e1, e2, b2]
    · by_cases e2 : t.2 = p
      · simp [e1, e2, b2]
      · simp [e1, e2, b2]
theorem flat_len2 {ts : List Tie} : ∀ lot : List Nat, (∀ k ∈ lot, k < ts.length) → (flatE ts lot).length = 2 * lot.length
  | [], _ => rfl
  | k :: lot, h => by
    have ht := List.getElem?_eq_getElem (h k (List.mem_cons_self ..))
    have ih := flat_len2 lot fun x hx => h x (List.mem_cons_of_mem _ hx)
    rw [show k :: lot = [k] ++ lot from rfl, flatE_app, flatE_one ht, List.length_append, ih, List.length_append]
    simp
    omega
theorem two_len : ∀ (kl f : List Nat), kl.Nodup → (∀ j ∈ f, j ∈ kl) → (∀ j ∈ kl, f.count j = 2) → f.length = 2 * kl.length
  | [], f, _, h, _ => by
    cases f with
    | nil => rfl
    | cons a f => exact absurd (h a (List.mem_cons_self ..)) (by simp)
  | x :: kl, f, hn, h, hc => by
    obtain ⟨n1, n2⟩ := List.nodup_cons.mp hn
    have ih := two_len kl (f.filter fun y => !decide (y = x)) n2 (fun j hj => by
      obtain ⟨a, b⟩ := List.mem_filter.mp hj
      rcases List.mem_cons.mp (h j a) with e | e
      · rw [e] at b
        simp at b
      · exact e) (fun j hj => by
      have hne : j ≠ x := fun e => n1 (e ▸ hj)
      have := hc j (List.mem_cons_of_mem _ hj)
      rw [List.count_filter (by simp [hne])]
      exact this)
    have hx := hc x (List.mem_cons_self ..)
    have hs : ∀ l : List Nat, l.length = l.count x + (l.filter fun y => !decide (y = x)).length := by
      intro l
      induction l with
      | nil => rfl
      | cons a l ih =>
        by_cases e : a = x
        · subst e
          simp [List.count_cons, ih]
          omega
        · simp [List.count_cons, e, ih]
          omega
    rw [hs f, hx, ih, List.length_cons]
    omega
theorem mem_flat {ts : List Tie} {lot : List Nat} {p : Nat} : p ∈ flatE ts lot ↔ ∃ k ∈ lot, atE ts p k = true := by
  unfold flatE
  rw [List.mem_flatMap]
  exact ⟨fun ⟨k, a, b⟩ => ⟨k, a, mem_endsK.mp b⟩, fun ⟨k, a, b⟩ => ⟨k, a, mem_endsK.mpr b⟩⟩
/-- both ends of each tie, or none -/
def Shut2 (ts : List Tie) (lot re : List Nat) : Prop := ∀ k ∈ lot, ∀ t, ts[k]? = some t → (t.1 ∈ re ↔ t.2 ∈ re)
theorem shut_all {n : Nat} {ts : List Tie} {k0 : Nat} {rest re : List Nat} {t0 : Tie} (h : Rnd n ts (k0 :: rest)) (hl : ∀ k ∈ k0 :: rest, k < ts.length) (ht0 : ts[k0]? = some t0) (h0 : t0.1 ∈ re) (hs : Shut2 ts (k0 :: rest) re) :
    ∀ p ∈ flatE ts (k0 :: rest), p ∈ re := by
  have both : ∀ k ∈ k0 :: rest, ∀ p q, atE ts p k = true → p ∈ re → atE ts q k = true → q ∈ re := fun k hk p q hp hpr hq => by
    have ht := List.getElem?_eq_getElem (hl k hk)
    have hs := hs k hk _ ht
    rcases (atE_iff ht).mp hp with e1 | e1 <;> rcases (atE_iff ht).mp hq with e2 | e2
    · rw [← e2, e1]; exact hpr
    · rw [← e2]; exact hs.mp (by rw [e1]; exact hpr)
    · rw [← e2]; exact hs.mpr (by rw [e1]; exact hpr)
    · rw [← e2, e1]; exact hpr
  have hin : ∀ k ∈ k0 :: rest, ∀ p, atE ts p k = true → p ∈ re := by
    have := h.cn k0 rfl ((k0 :: rest).filter fun k => decide (∀ p ∈ endsK ts k, p ∈ re)) (List.mem_filter.mpr ⟨List.mem_cons_self .., decide_eq_true fun p hp => both k0 (List.mem_cons_self ..) t0.1 p ((atE_iff ht0).mpr (.inl rfl)) h0 (mem_endsK.mp hp)⟩)
      fun k hk ⟨p, j, hj, hpj, hpk⟩ => by
        obtain ⟨j1, j2⟩ := List.mem_filter.mp hj
        have hpr := of_decide_eq_true j2 p (mem_endsK.mpr hpj)
        exact List.mem_filter.mpr ⟨hk, decide_eq_true fun q hq => both k hk p q hpk hpr (mem_endsK.mp hq)⟩
    intro k hk p hp
    exact of_decide_eq_true (List.mem_filter.mp (this k hk)).2 p (mem_endsK.mpr hp)
  intro p hp
  obtain ⟨k, hk, hpk⟩ := mem_flat.mp hp
  exact hin k hk p hpk
/-- as many places as ties -/
theorem ring_len {n : Nat} {ts : List Tie} (hends : ∀ t ∈ ts, t.1 < t.2 ∧ t.2 < n) {lot kl : List Nat} (h : Rnd n ts lot) (hl : ∀ k ∈ lot, k < ts.length) (hn : kl.Nodup) (hk : ∀ j, j ∈ kl ↔ j ∈ flatE ts lot) : kl.length = lot.length ∧ ∀ j ∈ kl, (flatE ts lot).count j = 2 := by
  have hc : ∀ j ∈ kl, (flatE ts lot).count j = 2 := fun j hj => by
    have hm := (hk j).mp hj
    have hpos := List.count_pos_iff.mpr hm
    rw [count_flat hends j lot hl] at hpos ⊢
    obtain ⟨k, hk2, ha⟩ := mem_flat.mp hm
    have ht := List.getElem?_eq_getElem (hl k hk2)
    have hm2 := hends _ (List.mem_of_getElem? ht)
    have hjn : j < n := by rcases (atE_iff ht).mp ha with e | e <;> omega
    rcases h.tw j hjn with e | e
    · omega
    · exact e
  have := two_len kl (flatE ts lot) hn (fun j hj => (hk j).mpr hj) hc
  rw [flat_len2 lot hl] at this
  exact ⟨by omega, hc⟩
end BV

namespace BV
open PySem L2 RZ
abbrev sIsr : Stmt := top 41
abbrev nIsr : List Str := ["_law_web", "_law_lot", "_law_counts", "_law_k", "_law_reached", "_law_turn", "_law_place", "_law_many", "_law_one", "_law_other"]
abbrev pIsr : List Str := ["_law_web", "_law_lot"]
theorem scIsr : FnScope nIsr pIsr (defScope sIsr) := ⟨rfl, rfl, rfl, by decide +kernel, rfl, by decide +kernel, by decide +kernel⟩
def spIsr (K : PySem.W.Frag) : Sp := fun vs H Q _ => ∃ (v u : V) (n : Nat) (ts : List Tie) (r : List Nat), vs = [v, u] ∧ Dp K H v (webD n ts) ∧ Dp K H u (lotD r) ∧ (∀ t ∈ ts, t.1 < t.2 ∧ t.2 < n) ∧ n ≤ 60 ∧ ts.length ≤ 50 ∧ LotA ts.length r ∧ Rnd n ts r ∧
  ∀ H', Same H H' → Q (.bl true) H'
/-- how often each place was met -/
def CntS (H : Hp) (d : Addr) (pr : List Nat) : Prop := ∃ (kvs : List (Key × V)) (kl : List Nat), H d = some (.dK kvs) ∧ kvs.map (·.1) = kl.map (fun (k : Nat) => (Sum.inl (k : Int) : Key)) ∧ kl.Nodup ∧
  (∀ j, j ∈ kl ↔ j ∈ pr) ∧ ∀ j : Nat, valV kvs (Sum.inl (j : Int)) = if j ∈ pr then some (.int (pr.count j)) else none
theorem CntS.put {H : Hp} {d : Addr} {pr : List Nat} {kvs : List (Key × V)} {kl : List Nat} (t : Nat) (h2 : kvs.map (·.1) = kl.map (fun (k : Nat) => (Sum.inl (k : Int) : Key))) (h3 : kl.Nodup)
    (h4 : ∀ j, j ∈ kl ↔ j ∈ pr) (h5 : ∀ j : Nat, valV kvs (Sum.inl (j : Int)) = if j ∈ pr then some (.int (pr.count j)) else none) :
    CntS (upd H d (.dK (putK kvs (Sum.inl (t : Int)) (.int ((pr.count t : Nat) + 1))))) d (pr ++ [t]) := by
  have hcnt : ∀ j, (pr ++ [t]).count j = pr.count j + if j = t then 1 else 0 := fun j => by
    rw [List.count_append, List.count_singleton]
    by_cases e : j = t
    · subst e
      simp
    · have : ¬ t = j := fun z => e z.symm
      simp [e, this]
  have hval : ∀ j : Nat, valV (putK kvs (Sum.inl (t : Int)) (.int ((pr.count t : Nat) + 1))) (Sum.inl (j : Int)) = if j ∈ pr ++ [t] then some (.int ((pr ++ [t]).count j)) else none := fun j => by
    rw [valV_put, hcnt]
    by_cases e : j = t
    · subst e
      rw [if_pos rfl, if_pos (by simp), if_pos rfl]
      rfl
    · have e1 : ¬ (Sum.inl (j : Int) : Key) = Sum.inl (t : Int) := fun z => e (by have := Sum.inl.inj z; omega)
      have e2 : (j ∈ pr ++ [t]) ↔ j ∈ pr := by simp [e]
      rw [if_neg e1, h5]
      by_cases z : j ∈ pr
      · rw [if_pos z, if_pos (e2.mpr z), if_neg e]
        rfl
      · rw [if_neg z, if_neg fun y => z (e2.mp y)]
  by_cases e : t ∈ pr
  · refine ⟨_, kl, upd_same, ?_, h3, fun j => ?_, hval⟩
    · have hany : (kvs.any fun kv => decide (kv.fst = (Sum.inl (t : Int) : Key))) = true := by
        rw [valV_any, h5, if_pos e]
        rfl
      unfold putK
      rw [if_pos hany, List.map_map, ← h2]
      refine List.map_congr_left fun kv _ => ?_
      show (if kv.fst = Sum.inl (t : Int) then (kv.fst, _) else kv).1 = kv.1
      split <;> rfl
    · rw [h4, List.mem_append, List.mem_singleton]
      exact ⟨.inl, fun z => z.elim id fun y => by rw [y]; exact e⟩
  · refine ⟨_, kl ++ [t], upd_same, ?_, ?_, fun j => ?_, hval⟩
    · rw [putK_new _ (by rw [h5, if_neg e]), List.map_append, List.map_append, h2]
      rfl
    · rw [List.nodup_append]
      refine ⟨h3, List.nodup_cons.mpr ⟨by simp, .nil⟩, fun x hx y hy => ?_⟩
      rw [List.mem_singleton.mp hy]
      exact fun z => e ((h4 t).mp (z ▸ hx))
    · rw [List.mem_append, List.mem_append, h4]
section
variable {P : Program} {w : World} {K : PySem.W.Frag} {mg : Str → Option Value} {base : Heap}
theorem ok_isr {f f1 : Addr} {fd fd1 : FuncData} (D : Df K mg "_law_is_round" sIsr pIsr f fd) (T : Bl mg) (hisinstance : mg "isinstance" = none) (hbool : mg "bool" = none) (hsorted : mg "sorted" = none) (hset : mg "set" = none) (hlist : mg "list" = none) (D_islot : Df K mg "_law_is_lot" sIslot pIslot f1 fd1) : FnOk P w K mg base CX0 2 f fd pIsr (spIsr K) := by
  have G_islot : FnOk P w K mg base CX0 1 f1 fd1 pIslot (spIslot K) := ok_islot D_islot T hisinstance hbool hsorted hset hlist
  refine D.fn.ok scIsr (fun vs H Q E h => ?_) (fun cdv A outer s H vs Q E hr h => ?_)
  · obtain ⟨v, u, n, ts, r, rfl, _⟩ := h
    rfl
  · obtain ⟨v, u, n, ts, r, rfl, hw, hu0, hends, hn, hel, hA, hR, k⟩ := h
    have nd := scIsr.nd
    have hu := hu_of hr
    have hr_islot : Room 1 _ := hr
    obtain ⟨p, c, ys, rfl, hp, hc, hys⟩ := dp_web hw
    have hyl : ys.length = ts.length := by rw [dpAll_len hys, List.length_map]
    obtain ⟨al, rfl, hal⟩ := dp_lotN hu0
    have hrl := lotA_len hA
    obtain ⟨k0, rest, rfl⟩ : ∃ k0 rest, r = k0 :: rest := by
      cases r with
      | nil => exact absurd rfl hR.ne
      | cons a b => exact ⟨a, b, rfl⟩
    have tieOf : ∀ {k : Nat}, k < ts.length → ∃ (t : Tie) (az : Addr), ts[k]? = some t ∧ ys[k]? = some (.ref az) ∧ SqT K H az [.int t.1, .int t.2] := fun {k} hk => by
      have ht := List.getElem?_eq_getElem hk
      obtain ⟨y, hy, hyd⟩ := dpAll_at hys (show (ts.map tieD)[k]? = some (tieD ts[k]) by rw [List.getElem?_map, ht]; rfl)
      obtain ⟨az, rfl, haz⟩ := dp_tie hyd
      exact ⟨_, az, ht, hy, haz⟩
    refine ⟨_, (pss_cons (ps_if (PW.pt (pw_or (pt_not (pt_val (pe_call G_islot hr_islot (by rfl) D_islot.ad D_islot.fn.kp D_islot.bd .nil pass0 (pa_cons (pv 0) (pa_cons (pv 1) pa_nil))))) (pw_or1 (pt_cmpR (opEqD K hr.units) (pv 1) (pe_tup pa_nil) (nomark _))))) (pss_one (ps_ret pe_bl)) pss_nil)
      (pss_cons (ps_set (i := 2) nd rfl (by first | exact Or.inl rfl | exact Or.inr rfl) pe_dnewK)
      (pss_cons (ps_for PassesOwn.never rfl (piT K (pv 1)) (pg_name (i := 3) nd rfl (by first | exact Or.inl rfl | exact Or.inr rfl)) (pss_one (ps_for PassesOwn.never rfl (piT K (pe_ix (ixT K) (pe_ix (ixT K) (pv 0) pe_int (fun _ _ => rfl)) (pv 3) (fun _ _ => rfl))) (pg_name (i := 6) nd rfl (by first | exact Or.inl rfl | exact Or.inr rfl)) (pss_one (ps_dput hu (pv 2) (pv 6) (pe_op op_add (pe_dget2 hu (pv 2) (pv 6) pe_int ⟨rfl, rfl, rfl, rfl⟩) pe_int) rfl)))))
      (pss_cons (ps_if (pt_cmpR (opNeD K hr.units) (pe_lock (pe_lc (own := [("_law_place", 6)]) (g := (gName 6)) rfl nd (pi_keys (pv 2)) (blkOk_by (own := [("_law_place", 6)]) (N := nIsr) (sc := defScope sIsr) (by decide +kernel)) (fun _ _ _ _ _ => (pg_name (i := 6) nd rfl (by first | exact Or.inl rfl | exact Or.inr rfl))) (fun _ _ _ _ _ => (pts_one (pt_cmpR op_ne (pe_dget hu (pv 2) (pv 6) (fun _ _ => rfl)) pe_int (nomark _)))) (fun _ _ _ _ _ => pe_int))) (pe_lst pa_nil) (nomark _)) (pss_one (ps_ret pe_bl)) pss_nil)
      (pss_cons (ps_set (i := 4) nd rfl (by first | exact Or.inl rfl | exact Or.inr rfl) (pe_lst (pa_cons (pe_ix (ixT K) (pe_ix (ixT K) (pe_ix (ixT K) (pv 0) pe_int (fun _ _ => rfl)) (pe_ix (ixT K) (pv 1) pe_int (fun _ _ => rfl)) (fun _ _ => rfl)) pe_int (fun _ _ => rfl)) pa_nil)))
      (pss_cons (ps_for PassesOwn.never rfl (pi_range1 rfl T.range (pa_cons (pe_callB (lenK K) (by rfl) T.len PySem.boot_len (pa_cons (pv 1) pa_nil)) pa_nil)) (pg_name (i := 5) nd rfl (by first | exact Or.inl rfl | exact Or.inr rfl)) (pss_cons (ps_set (i := 7) nd rfl (by first | exact Or.inl rfl | exact Or.inr rfl) (pe_callB (lenK K) (by rfl) T.len PySem.boot_len (pa_cons (pv 4) pa_nil)))
      (pss_cons (ps_for PassesOwn.never rfl (piT K (pv 1)) (pg_name (i := 3) nd rfl (by first | exact Or.inl rfl | exact Or.inr rfl)) (pss_cons (ps_asg (pe_ix (ixT K) (pe_ix (ixT K) (pv 0) pe_int (fun _ _ => rfl)) (pv 3) (fun _ _ => rfl)) (pgT K rfl (pgs_cons (pg_name (i := 8) nd rfl (by first | exact Or.inl rfl | exact Or.inr rfl)) (pgs_cons (pg_name (i := 9) nd rfl (by first | exact Or.inl rfl | exact Or.inr rfl)) pgs_nil))))
      (pss_one (ps_if (pt_cmpR op_ne (pe_cmpR (opIn K) (pv 8) (pv 4) rfl) (pe_cmpR (opIn K) (pv 9) (pv 4) rfl) (nomark _)) (pss_one (ps_expr (pe_bm PySem.F.plainAttrs_list PySem.F.slot_list_append PySem.F.type_list_append mt_append (pv 4) (pa_cons (pe_ifExp (pt_cmpR (opIn K) (pv 8) (pv 4) rfl) (pv 9) (pv 8)) pa_nil)))) pss_nil))))
      (pss_one (ps_if (pt_cmpR op_eq (pe_callB (lenK K) (by rfl) T.len PySem.boot_len (pa_cons (pv 4) pa_nil)) (pv 7) (nomark _)) (pss_one ps_break) pss_nil)))))
      (pss_one (ps_ret (pe_cmpR op_eq (pe_callB (lenK K) (by rfl) T.len PySem.boot_len (pa_cons (pv 4) pa_nil)) (pe_callB call_lenD (by rfl) T.len PySem.boot_len (pa_cons (pv 2) pa_nil)) (nomark _)))))))))), ?_⟩
    refine tSeq_go ?_
    refine tIfS_t (fun c H' => c = false ∧ Same H H') ?_ ?_ (fun cont => ?_)
    · rintro H' ⟨z, _⟩
      cases z
    rotate_left
    · refine ⟨_, rfl, _, rfl, .ref p, .ref al, n, ts, _, rfl, hw, hu0, by omega, hA, fun H1 s1 => ?_⟩
      refine ⟨_, rfl, iteF ?_⟩
      refine ⟨_, rfl, Nat.zero_le _, fun q hq => ?_⟩
      have sq := same_new (o := .tup []) hq
      refine ⟨lotD (k0 :: rest), lotD [], dp_same (s1.trans sq) _ hu0, lot_dp (SqT.of upd_same), shaped_lotN _, shaped_lotN _, false, ?_, ?_⟩
      · rw [eqv_lots]
        exact congrArg V.bl (decide_eq_false (by simp))
      · exact cont _ _ ⟨rfl, s1.trans sq⟩
    rintro H1 ⟨_, s1⟩
    dsimp only [tNext]
    refine tSeq_go ?_
    refine fun d hd => ?_
    have hdn := Same.free s1 hd
    have s2 := s1.trans (same_new (o := .dK []) hd)
    have hD0 : CntS (upd H1 d (.dK [])) d [] := ⟨[], [], upd_same, rfl, .nil, by simp, fun j => by simp [valV_nil]⟩
    generalize upd H1 d (.dK []) = H2 at *
    dsimp only [gName]
    refine at_st [some (.ref p), some (.ref al), some (.ref d), none, none, none, none, none, none, none] rfl ?_
    refine tSeq_go ?_
    refine ⟨_, rfl, al, rfl, ⟨_, sqT_same s2 hal⟩, for_it (walk_tup (xs := natsV (k0 :: rest))) (fun i σ H' => ∃ v3 v6 : Option V, σ = [some (.ref p), some (.ref al), some (.ref d), v3, none, none, v6, none, none, none] ∧ Same H H' ∧ CntS H' d (flatE ts ((k0 :: rest).take i))) ?_ ?_ ?_ ?_⟩
    · exact ⟨none, none, rfl, s2, hD0⟩
    · rintro i σ H' _ ⟨v3, v6, rfl, sH, _⟩
      exact sqT_same sH hal
    · rintro i x σ H3 H'' hi ⟨v3, v6, rfl, sH, hO⟩ ⟨rfl, hx⟩
      obtain ⟨kk, hkk, rfl⟩ := get_map (f := fun (k : Nat) => V.int k) hx
      have hkl := hA.2 kk (List.mem_of_getElem? hkk)
      obtain ⟨t, az, ht, hy, haz⟩ := tieOf hkl
      have htk : flatE ts ((k0 :: rest).take (i + 1)) = flatE ts ((k0 :: rest).take i) ++ [t.1, t.2] := by
        rw [List.take_add_one, hkk, flatE_app]
        show _ ++ flatE ts [kk] = _
        rw [flatE_one ht]
      have hfl : (flatE ts ((k0 :: rest).take i)).length ≤ 100 := by
        rw [flat_len2 _ fun x hx => hA.2 x (List.mem_of_mem_take hx), List.length_take]
        omega
      dsimp only [gName]
      refine at_st [some (.ref p), some (.ref al), some (.ref d), some (.int kk), none, none, v6, none, none, none] rfl ?_
      refine ⟨_, rfl, p, _, _, _, rfl, rfl, sqT_same sH hp, atI_nat (j := 1) rfl, _, rfl, c, _, _, _, rfl, rfl, sqT_same sH hc, atI_nat hy, az, rfl, ⟨_, sqT_same sH haz⟩,
        for_it (walk_tup (xs := [.int t.1, .int t.2])) (fun j σ H' => ∃ v6 : Option V, σ = [some (.ref p), some (.ref al), some (.ref d), some (.int kk), none, none, v6, none, none, none] ∧ Same H H' ∧ CntS H' d (flatE ts ((k0 :: rest).take i) ++ [t.1, t.2].take j)) ?_ ?_ ?_ ?_⟩
      · exact ⟨v6, rfl, sH, by rw [List.take_zero, List.append_nil]; exact hO⟩
      · rintro j σ H' _ ⟨v6, rfl, sH', _⟩
        exact sqT_same sH' haz
      · rintro j x σ H4 H5 hj ⟨v6, rfl, sH', kvs, kl, h1, h2, h3, h4, h5⟩ ⟨rfl, hx2⟩
        have hj2 : j < 2 := hj
        obtain ⟨z, hz, rfl⟩ : ∃ z : Nat, [t.1, t.2][j]? = some z ∧ x = .int z := by
          match j, hj2, hx2 with
          | 0, _, h => exact ⟨t.1, rfl, (Option.some.inj h).symm⟩
          | 1, _, h => exact ⟨t.2, rfl, (Option.some.inj h).symm⟩
        have htk2 : [t.1, t.2].take (j + 1) = [t.1, t.2].take j ++ [z] := by rw [List.take_add_one, hz]; rfl
        generalize hpr : flatE ts ((k0 :: rest).take i) ++ [t.1, t.2].take j = pr at *
        have hprl : pr.length ≤ 102 := by
          rw [← hpr, List.length_append, List.length_take]
          show _ + min j 2 ≤ 102
          omega
        have hget : (valV kvs (Sum.inl (z : Int) : Key)).getD (.int 0) = .int ((pr.count z : Nat) : Int) := by
          rw [h5]
          by_cases e : z ∈ pr
          · rw [if_pos e]
            rfl
          · rw [if_neg e, List.count_eq_zero_of_not_mem e]
            rfl
        have hkl2 : kvs.length = kl.length := by
          have := congrArg List.length h2
          simpa using this
        have hb : kl.length ≤ pr.length := nodup_sub pr kl h3 fun y hy => (h4 y).mp hy
        refine ⟨_, rfl, d, rfl, .inl ⟨kvs, .inl h1⟩, _, rfl, _, DGet.k (k := Sum.inl (z : Int)) h1, ?_⟩
        rw [hget]
        refine ⟨_, _, rfl, rfl, _, rfl, _, rfl, d, _, rfl, DPut.k (k := Sum.inl (z : Int)) h1 (Nat.lt_of_lt_of_le (show kvs.length < 100000 by omega) (by decide)), ?_⟩
        refine ⟨_, rfl, same_old hdn sH', ?_⟩
        rw [htk2, ← List.append_assoc, hpr]
        exact CntS.put z h2 h3 h4 h5
      · rintro σ H4 ⟨v6, rfl, sH', hO'⟩
        exact ⟨_, _, rfl, sH', by rw [htk]; exact hO'⟩
    rintro σ H3 ⟨v3, v6, rfl, s3, hO⟩
    rw [natsV_len, List.take_of_length_le (Nat.le_refl _)] at hO
    obtain ⟨kvs, kl, h1, h2, h3, h4, h5⟩ := hO
    obtain ⟨hkl, htwo⟩ := ring_len hends hR hA.2 h3 h4
    dsimp only
    refine tSeq_go ?_
    have hdd : ∀ {H' : Hp} {o : HO}, Same (upd H3 d o) H' → Same H (upd H' d (.dK kvs)) := fun {H' o} s a x e => by
      have ne : a ≠ d := fun z => by rw [z, hdn] at e; cases e
      rw [upd_ne ne]
      refine s a x ?_
      rw [upd_ne ne]
      exact s3 a x e
    refine tIfS_t (fun c H' => c = false ∧ Same H H' ∧ H' d = some (.dK kvs)) ?_ ?_ (fun cont => ?_)
    · rintro H' ⟨z, _⟩
      cases z
    rotate_left
    · refine ⟨d, _, h1, trivial, fun od => ?_⟩
      have hF : (upd H3 d (.frz od (.dK kvs))) d = some (.frz od (.dK kvs)) := upd_same
      refine ⟨_, rfl, d, od, rfl, .inl ⟨kvs, hF, fun E1 hE1 => ?_⟩⟩
      refine lc_run (walk_keys (d := d) (o := od) (kvs := kvs)) hE1 (fun i acc _ => acc = []) ?_ ?_ ?_ ?_
      · exact fun H' s => s _ _ hF
      · rfl
      · rintro i x acc H4 H' hi hacc e s ha ⟨rfl, kx, vx, hkv, rfl⟩
        have hkm : kx ∈ kvs.map (·.1) := List.mem_map.mpr ⟨_, List.mem_of_getElem? hkv, rfl⟩
        rw [h2] at hkm
        obtain ⟨z, hz, rfl⟩ := List.mem_map.mp hkm
        refine ⟨rfl, _, rfl, _, rfl, d, .int 2, rfl, .inl ⟨kvs, Sum.inl (z : Int), .inr ⟨od, s _ _ hF⟩, rfl, ?_⟩, ?_⟩
        · rw [h5, if_pos ((h4 z).mp hz), htwo z hz]
          rfl
        · refine ⟨rfl, false, by simp, iteF ?_⟩
          exact lc_skip hacc e (Same.refl _) ha
      · rintro acc H4 hacc s4 ha
        have ha : acc = [] := ha
        subst ha
        refine ⟨s4 _ _ hF, ?_⟩
        have s5 := hdd s4
        have ned : E1 ≠ d := fun z => by rw [z, hF] at hE1; cases hE1
        have hacc5 : (upd H4 d (.dK kvs)) E1 = some (.lst []) := by rw [upd_ne ned]; exact hacc
        have hD5 : (upd H4 d (.dK kvs)) d = some (.dK kvs) := upd_same
        generalize upd H4 d (.dK kvs) = H5 at *
        refine ⟨Nat.zero_le _, fun q hq => ?_⟩
        have sq := same_new (o := .lst []) hq
        refine ⟨.list [], .list [], .lst (SqL.of (sq _ _ hacc5)) .nil, .lst (SqL.of upd_same) .nil, shaped_intsL [], shaped_intsL [], false, by rfl, cont _ _ ⟨rfl, s5.trans sq, sq _ _ hD5⟩⟩
    rintro H5 ⟨_, s5, hD5⟩
    dsimp only [tNext]
    clear hdd h1 h5
    refine tSeq_go ?_
    obtain ⟨t0, az0, ht0, hy0, haz0⟩ := tieOf (hA.2 k0 (List.mem_cons_self ..))
    have hflL : (flatE ts (k0 :: rest)).length ≤ 100 := by
      rw [flat_len2 _ hA.2]
      omega
    have hklR : ∀ {re : List Nat}, re.Nodup → (∀ x ∈ re, x ∈ flatE ts (k0 :: rest)) → re.length ≤ kl.length := fun {re} a b => nodup_sub kl re a fun x hx => (h4 x).mpr (b x hx)
    refine ⟨_, rfl, p, _, _, _, rfl, rfl, sqT_same s5 hp, atI_nat (j := 1) rfl, _, rfl, al, _, _, _, rfl, rfl, sqT_same s5 hal, atI_nat (j := 0) rfl, c, _, _, _, rfl, rfl, sqT_same s5 hc, atI_nat hy0, az0, _, _, _, rfl, rfl, sqT_same s5 haz0, atI_nat (j := 0) rfl, by show 1 ≤ sizeLine; decide, fun re hre => ?_⟩
    have hren := Same.free s5 hre
    have s6 := s5.trans (same_new (o := .lst [.int t0.1]) hre)
    have hR6 : (upd H5 re (.lst [.int t0.1])) re = some (.lst (natsV [t0.1])) := upd_same
    have hD6 : (upd H5 re (.lst [.int t0.1])) d = some (.dK kvs) := same_new hre _ _ hD5
    have ned : d ≠ re := fun z => by rw [← z, hD5] at hre; cases hre
    generalize upd H5 re (.lst [.int t0.1]) = H6 at *
    dsimp only [gName]
    refine at_st [some (.ref p), some (.ref al), some (.ref d), v3, some (.ref re), none, v6, none, none, none] rfl ?_
    refine tSeq_go ?_
    have last : ∀ {m : Nat} {H' : Hp}, m = kl.length → Same H H' → Q (.bl (decide (V.int (m : Int) = V.int ((kvs.length : Nat) : Int)))) H' := fun {m H'} e s => by
      have e2 : kvs.length = kl.length := by
        have := congrArg List.length h2
        simpa using this
      rw [e, e2, decide_eq_true rfl]
      exact k _ s
    have ht0m : t0.1 ∈ flatE ts (k0 :: rest) := mem_flat.mpr ⟨k0, List.mem_cons_self .., (atE_iff ht0).mpr (.inl rfl)⟩
    refine ⟨_, rfl, al, _, rfl, .inr (sqT_same s6 hal), _, rfl, by rw [natsV_len]; omega, by rw [natsV_len]; omega, ?_⟩
    refine for_range (lo := 0) (n := ((natsV (k0 :: rest)).length : Int).toNat) (fun i σ H' => ∃ (v3 v5 v7 v8 v9 : Option V) (rl : List Nat), σ = [some (.ref p), some (.ref al), some (.ref d), v3, some (.ref re), v5, v6, v7, v8, v9] ∧ Same H H' ∧ H' d = some (.dK kvs) ∧ H' re = some (.lst (natsV rl)) ∧
      rl.Nodup ∧ t0.1 ∈ rl ∧ (∀ x ∈ rl, x ∈ flatE ts (k0 :: rest)) ∧ 1 + i ≤ rl.length) ?_ ?_ ?_
    · exact ⟨v3, none, none, none, none, [t0.1], rfl, s6, hD6, hR6, by simp, by simp, fun x hx => by rw [List.mem_singleton.mp hx]; exact ht0m, Nat.le_refl _⟩
    · rintro i σ H7 hi ⟨v3, v5, v7, v8, v9, rl, rfl, s7, hD7, hR7, hnd, h0, hsub, hgr⟩
      have hrl7 := hklR hnd hsub
      show tSeq _ _ _ _ _
      refine tSeq_go ?_
      refine ⟨_, rfl, re, _, rfl, .inl (SqL.of hR7), ?_⟩
      rw [natsV_len]
      dsimp only [gName]
      refine at_st [some (.ref p), some (.ref al), some (.ref d), v3, some (.ref re), some (.int (0 + (i : Int))), v6, some (.int rl.length), v8, v9] rfl ?_
      refine tSeq_go ?_
      refine ⟨_, rfl, al, rfl, ⟨_, sqT_same s7 hal⟩, for_it (walk_tup (xs := natsV (k0 :: rest))) (fun j σ H' => ∃ (v3 v8 v9 : Option V) (r2 : List Nat), σ = [some (.ref p), some (.ref al), some (.ref d), v3, some (.ref re), some (.int (0 + (i : Int))), v6, some (.int rl.length), v8, v9] ∧ Same H H' ∧ H' d = some (.dK kvs) ∧ H' re = some (.lst (natsV r2)) ∧
        r2.Nodup ∧ t0.1 ∈ r2 ∧ (∀ x ∈ r2, x ∈ flatE ts (k0 :: rest)) ∧ rl.length ≤ r2.length ∧ (r2.length = rl.length → r2 = rl ∧ Shut2 ts ((k0 :: rest).take j) rl)) ?_ ?_ ?_ ?_⟩
      · exact ⟨v3, v8, v9, rl, rfl, s7, hD7, hR7, hnd, h0, hsub, Nat.le_refl _, fun _ => ⟨rfl, fun k hk => by simp at hk⟩⟩
      · rintro j σ H' _ ⟨v3, v8, v9, r2, rfl, sH, _⟩
        exact sqT_same sH hal
      · rintro j x σ H8 H'' hj ⟨v3, v8, v9, r2, rfl, s8, hD8, hR8, hnd2, h02, hsub2, hgr2, hsh⟩ ⟨rfl, hx⟩
        obtain ⟨kk, hkk, rfl⟩ := get_map (f := fun (k : Nat) => V.int k) hx
        have hkm := List.mem_of_getElem? hkk
        have hkl3 := hA.2 kk hkm
        obtain ⟨t, az, ht, hy, haz⟩ := tieOf hkl3
        have hr2l := hklR hnd2 hsub2
        dsimp only [gName]
        refine at_st [some (.ref p), some (.ref al), some (.ref d), some (.int kk), some (.ref re), some (.int (0 + (i : Int))), v6, some (.int rl.length), v8, v9] rfl ?_
        refine tSeq_go ?_
        refine ⟨_, rfl, p, _, _, _, rfl, rfl, sqT_same s8 hp, atI_nat (j := 1) rfl, _, rfl, c, _, _, _, rfl, rfl, sqT_same s8 hc, atI_nat hy, az, _, rfl, sqT_same s8 haz, rfl, _, _, rfl, _, _, rfl, rfl, ?_⟩
        refine at_st [some (.ref p), some (.ref al), some (.ref d), some (.int kk), some (.ref re), some (.int (0 + (i : Int))), v6, some (.int rl.length), some (.int (t.1 : Nat)), some (.int (t.2 : Nat))] rfl ?_
        have key : ∀ y : Nat, inV (V.int (y : Int)) ((r2 : List Nat).map fun (k : Nat) => V.int k) = decide (y ∈ r2) := fun y => inv_nats y r2
        have htk : (k0 :: rest).take (j + 1) = (k0 :: rest).take j ++ [kk] := by
          rw [List.take_add_one, hkk]
          rfl
        have h1f : t.1 ∈ flatE ts (k0 :: rest) := mem_flat.mpr ⟨kk, hkm, (atE_iff ht).mpr (.inl rfl)⟩
        have h2f : t.2 ∈ flatE ts (k0 :: rest) := mem_flat.mpr ⟨kk, hkm, (atE_iff ht).mpr (.inr rfl)⟩
        refine ⟨_, rfl, _, rfl, re, _, rfl, .inl (SqL.of hR8), rfl, flat_nats r2, _, rfl, _, rfl, re, _, rfl, .inl (SqL.of hR8), rfl, flat_nats r2, rfl, _, rfl, ?_⟩
        refine ite2 (fun hh => ?_) (fun hh => ?_)
        · have hh : ¬ (decide (t.1 ∈ r2) = decide (t.2 ∈ r2)) := fun e => by
            have hh2 : (!decide (V.bl (inV (V.int (t.1 : Int)) (r2.map fun (k : Nat) => V.int k)) = V.bl (inV (V.int (t.2 : Int)) (r2.map fun (k : Nat) => V.int k)))) = true := hh
            rw [key, key, e, decide_eq_true rfl] at hh2
            cases hh2
          have grow : ∀ z : Nat, z ∈ flatE ts (k0 :: rest) → z ∉ r2 → ∃ (v3 v8 v9 : Option V) (r3 : List Nat), [some (V.ref p), some (.ref al), some (.ref d), some (.int kk), some (.ref re), some (.int (0 + (i : Int))), v6, some (.int rl.length), some (.int (t.1 : Nat)), some (.int (t.2 : Nat))] = [some (.ref p), some (.ref al), some (.ref d), v3, some (.ref re), some (.int (0 + (i : Int))), v6, some (.int rl.length), v8, v9] ∧ Same H (upd H'' re (.lst (natsV r2 ++ [.int z]))) ∧ (upd H'' re (.lst (natsV r2 ++ [.int z]))) d = some (.dK kvs) ∧ (upd H'' re (.lst (natsV r2 ++ [.int z]))) re = some (.lst (natsV r3)) ∧
              r3.Nodup ∧ t0.1 ∈ r3 ∧ (∀ x ∈ r3, x ∈ flatE ts (k0 :: rest)) ∧ rl.length ≤ r3.length ∧ (r3.length = rl.length → r3 = rl ∧ Shut2 ts ((k0 :: rest).take (j + 1)) rl) := fun z hz hnz =>
            ⟨_, _, _, r2 ++ [z], rfl, same_old hren s8, by rw [upd_ne ned]; exact hD8, by rw [upd_same, natsV_snoc], List.nodup_append.mpr ⟨hnd2, by simp, fun a ha b hb e => hnz (by rw [List.mem_singleton.mp hb] at e; rw [e] at ha; exact ha)⟩, List.mem_append_left _ h02, fun x hx => (List.mem_append.mp hx).elim (hsub2 x) fun y => by rw [List.mem_singleton.mp y]; exact hz,
              by rw [List.length_append]; omega, fun e => by rw [List.length_append, List.length_singleton] at e; omega⟩
          refine ⟨_, rfl, .inl ⟨rfl, _, SqL.of hR8⟩, ?_⟩
          refine ⟨_, rfl, _, rfl, re, _, rfl, .inl (SqL.of hR8), rfl, flat_nats r2, _, rfl, ?_⟩
          refine ite2 (fun h1 => ?_) (fun h1 => ?_)
          · have h1 : t.1 ∈ r2 := by
              have h1 : inV (V.int (t.1 : Int)) (r2.map fun (k : Nat) => V.int k) = true := h1
              rw [key] at h1
              exact of_decide_eq_true h1
            have h2 : t.2 ∉ r2 := fun z => hh (by rw [decide_eq_true h1, decide_eq_true z])
            refine ⟨_, rfl, re, _, _, rfl, rfl, hR8, Nat.lt_of_lt_of_le (show (natsV r2).length < 100000 by rw [natsV_len]; omega) (by decide), ?_⟩
            exact grow t.2 h2f h2
          · have h1 : t.1 ∉ r2 := fun z => h1 (by
              show inV (V.int (t.1 : Int)) (r2.map fun (k : Nat) => V.int k) = true
              rw [key]
              exact decide_eq_true z)
            refine ⟨_, rfl, re, _, _, rfl, rfl, hR8, Nat.lt_of_lt_of_le (show (natsV r2).length < 100000 by rw [natsV_len]; omega) (by decide), ?_⟩
            exact grow t.1 h1f h1
        · have hh : decide (t.1 ∈ r2) = decide (t.2 ∈ r2) := Classical.byContradiction fun z => hh (by
            show (!decide (V.bl (inV (V.int (t.1 : Int)) (r2.map fun (k : Nat) => V.int k)) = V.bl (inV (V.int (t.2 : Int)) (r2.map fun (k : Nat) => V.int k)))) = true
            rw [key, key, decide_eq_false fun y => z (V.bl.inj y)]
            rfl)
          refine ⟨_, _, _, r2, rfl, s8, hD8, hR8, hnd2, h02, hsub2, hgr2, fun e => ?_⟩
          obtain ⟨e1, e2⟩ := hsh e
          refine ⟨e1, fun k2 hk2 t2 ht2 => ?_⟩
          rw [htk] at hk2
          rcases List.mem_append.mp hk2 with z | z
          · exact e2 k2 z t2 ht2
          · rw [List.mem_singleton.mp z, ht] at ht2
            cases ht2
            rw [← e1]
            exact decide_eq_decide.mp hh
      · rintro σ H8 ⟨v3, v8, v9, r2, rfl, s8, hD8, hR8, hnd2, h02, hsub2, hgr2, hsh⟩
        rw [natsV_len, List.take_of_length_le (Nat.le_refl _)] at hsh
        dsimp only
        refine ⟨_, rfl, re, _, rfl, .inl (SqL.of hR8), _, rfl, rfl, _, rfl, ?_⟩
        rw [natsV_len]
        refine ite2 (fun hh => ?_) (fun hh => ?_)
        · have hh : r2.length = rl.length := by
            have := V.int.inj (of_decide_eq_true hh)
            omega
          obtain ⟨rfl, hs⟩ := hsh hh
          have hall := shut_all hR hA.2 ht0 h02 hs
          have hle := nodup_sub r2 kl h3 fun x hx => hall x ((h4 x).mp hx)
          have := hklR hnd2 hsub2
          refine ⟨_, rfl, re, _, rfl, .inl (SqL.of hR8), _, rfl, d, kvs, rfl, hD8, rfl, ?_⟩
          rw [natsV_len]
          exact last (by omega) s8
        · have hh : r2.length ≠ rl.length := fun z => hh (decide_eq_true (by rw [z]))
          exact ⟨_, _, _, _, _, r2, rfl, s8, hD8, hR8, hnd2, h02, hsub2, by omega⟩
    · rintro σ H7 ⟨v3, v5, v7, v8, v9, rl, rfl, s7, hD7, hR7, hnd, h0, hsub, hgr⟩
      have := hklR hnd hsub
      rw [natsV_len] at hgr
      omega
end
end BV

namespace BV
open PySem L2 RZ
abbrev sIsway : Stmt := top 39
abbrev nIsway : List Str := ["_law_web", "_law_one", "_law_other", "_law_way", "_law_here", "_law_met", "_law_k"]
abbrev pIsway : List Str := ["_law_web", "_law_one", "_law_other", "_law_way"]
theorem scIsway : FnScope nIsway pIsway (defScope sIsway) := ⟨rfl, rfl, rfl, by decide +kernel, rfl, by decide +kernel, by decide +kernel⟩
abbrev sAreways : Stmt := top 40
abbrev nAreways : List Str := ["_law_web", "_law_one", "_law_other", "_law_told", "_law_due", "_law_every", "_law_way"]
abbrev pAreways : List Str := ["_law_web", "_law_one", "_law_other", "_law_told", "_law_due"]
theorem scAreways : FnScope nAreways pAreways (defScope sAreways) := ⟨rfl, rfl, rfl, by decide +kernel, rfl, by decide +kernel, by decide +kernel⟩
section
variable {P : Program} {w : World} {K : PySem.W.Frag} {mg : Str → Option Value} {base : Heap}
theorem ok_isway {f : Addr} {fd : FuncData} (D : Df K mg "_law_is_way" sIsway pIsway f fd) (T : Bl mg) (hisinstance : mg "isinstance" = none) (hbool : mg "bool" = none) : FnOk P w K mg base CX0 1 f fd pIsway (spIsway K) := by
  refine D.fn.ok scIsway (fun vs H Q E h => ?_) (fun cdv A outer s H vs Q E hr h => ?_)
  · obtain ⟨v, u, n, ts, one, other, lot, rfl, _⟩ := h
    rfl
  · obtain ⟨v, u, n, ts, one, other, lot, rfl, hw, hu, hl, hll, hne, hwk, hlt, k⟩ := h
    have nd := scIsway.nd
    obtain ⟨p, c, ys, rfl, hp, hc, hys⟩ := dp_web hw
    have hyl : ys.length = ts.length := by rw [dpAll_len hys, List.length_map]
    obtain ⟨au, rfl, hau⟩ := dp_lotN hu
    have hlot : lot ≠ [] := fun e => by
      subst e
      exact hne hwk
    refine ⟨_, (pss_cons (ps_if (PW.pt (pw_or (pt_not (pt_val (pe_callB (isiD K) (by rfl) hisinstance (by decide +kernel) (pa_cons (pv 3) (pa_cons (pe_bltn (v := .ty "tuple") (by rfl) T.tuple (by decide +kernel) rfl) pa_nil))))) (pw_or1 (pt_cmpR (opEqD K hr.units) (pv 3) (pe_tup pa_nil) (nomark _))))) (pss_one (ps_ret pe_bl)) pss_nil)
      (pss_cons (ps_par (i := 4) (j := 5) (by rfl) nd rfl rfl (by decide) rfl rfl (pa_cons (pv 1) (pa_cons (pe_lst (pa_cons (pv 1) pa_nil)) pa_nil)) (by rfl))
      (pss_cons (ps_for PassesOwn.never rfl (piT K (pv 3)) (pg_name (i := 6) nd rfl (by first | exact Or.inl rfl | exact Or.inr rfl)) (pss_cons (ps_if (PW.pt (pw_or (pt_not (pt_val (pe_callB (isiD K) (by rfl) hisinstance (by decide +kernel) (pa_cons (pv 6) (pa_cons (pe_bltn (v := .ty "int") (by rfl) T.int (by decide +kernel) rfl) pa_nil))))) (pw_or (pt_val (pe_callB (isiD K) (by rfl) hisinstance (by decide +kernel) (pa_cons (pv 6) (pa_cons (pe_bltn (v := .ty "bool") (by rfl) hbool (by decide +kernel) rfl) pa_nil)))) (pw_or (pt_not (pt_chain op_le op_lt pe_int (pv 6) (pe_callB (lenK K) (by rfl) T.len PySem.boot_len (pa_cons (pe_ix (ixT K) (pv 0) pe_int (fun _ _ => rfl)) pa_nil)))) (pw_or1 (pt_cmpR (opNotIn K) (pv 4) (pe_ix (ixT K) (pe_ix (ixT K) (pv 0) pe_int (fun _ _ => rfl)) (pv 6) (fun _ _ => rfl)) rfl)))))) (pss_one (ps_ret pe_bl)) pss_nil)
      (pss_cons (ps_set (i := 4) nd rfl (by first | exact Or.inl rfl | exact Or.inr rfl) (pe_op op_sub (pe_callB (sumTK K) (by rfl) T.sum (by decide +kernel) (pa_cons (pe_ix (ixT K) (pe_ix (ixT K) (pv 0) pe_int (fun _ _ => rfl)) (pv 6) (fun _ _ => rfl)) pa_nil)) (pv 4)))
      (pss_cons (ps_if (pt_cmpR (opIn K) (pv 4) (pv 5) rfl) (pss_one (ps_ret pe_bl)) pss_nil)
      (pss_one (ps_expr (pe_bm PySem.F.plainAttrs_list PySem.F.slot_list_append PySem.F.type_list_append mt_append (pv 5) (pa_cons (pv 4) pa_nil))))))))
      (pss_one (ps_ret (pe_cmpR op_eq (pv 4) (pv 2) (nomark _))))))), ?_⟩
    refine tSeq_go ?_
    refine tIfS_t (fun c H' => c = false ∧ Same H H') ?_ ?_ (fun cont => ?_)
    · rintro H' ⟨z, _⟩
      cases z
    rotate_left
    · refine ⟨_, rfl, .ref au, lotD lot, "tuple", true, rfl, .inl hu, rfl, _, rfl, ?_⟩
      refine ⟨_, rfl, Nat.zero_le _, fun q hq => ?_⟩
      have sq := same_new (o := .tup []) hq
      refine ⟨lotD lot, .tuple [], dp_same sq _ hu, .tup (SqT.of upd_same) .nil, shaped_lotN _, by decide +kernel, false, ?_, ?_⟩
      · cases lot with
        | nil => exact absurd rfl hlot
        | cons a b => rfl
      · exact cont _ _ ⟨rfl, sq⟩
    · rintro H1 ⟨_, s1⟩
      dsimp only [tNext]
      refine tSeq_go ?_
      refine ⟨_, rfl, _, rfl, by show 1 ≤ sizeLine; decide, fun ml hml => ⟨_, _, rfl, ?_⟩⟩
      have hml0 : H ml = none := Same.free s1 hml
      have s2 := s1.trans (same_new (o := .lst [.int (one : Nat)]) hml)
      have hM : (upd H1 ml (.lst [.int (one : Nat)])) ml = some (.lst (natsV [one])) := upd_same
      generalize upd H1 ml (.lst [.int (one : Nat)]) = H2 at *
      refine at_st [some (.ref p), some (.int one), some (.int other), some (.ref au), some (.int one), some (.ref ml), none] rfl ?_
      refine tSeq_go ?_
      refine ⟨_, rfl, au, rfl, ⟨_, sqT_same s2 hau⟩, for_it (walk_tup (xs := natsV lot)) (fun i σ Hc => ∃ (v6 : Option V) (here : Nat) (met : List Nat), σ = [some (.ref p), some (.int one), some (.int other), some (.ref au), some (.int here), some (.ref ml), v6] ∧
        Same H Hc ∧ Hc ml = some (.lst (natsV met)) ∧ met.length = i + 1 ∧ WalkOk ts here met (lot.drop i) other) ?_ ?_ ?_ ?_⟩
      · exact ⟨none, one, [one], rfl, s2, hM, rfl, hwk⟩
      · rintro i σ Hc _ ⟨v6, here, met, rfl, sc, _⟩
        exact sqT_same sc hau
      · rintro i x σ H3 H' hi ⟨v6, here, met, rfl, sc, hm, hmet, hwi⟩ ⟨rfl, hx⟩
        obtain ⟨kk, hkk, rfl⟩ := get_map (f := fun (k : Nat) => V.int k) hx
        rw [natsV_len] at hi
        have hd : lot.drop i = kk :: lot.drop (i + 1) := by
          rw [List.drop_eq_getElem_cons hi]
          congr 1
          rw [List.getElem?_eq_getElem hi] at hkk
          exact Option.some.inj hkk
        rw [hd] at hwi
        obtain ⟨t, ht, hend, hnm, hnext⟩ := hwi
        have hkt := (List.getElem?_eq_some_iff.mp ht).1
        obtain ⟨y, hy, hyd⟩ := dpAll_at (dpAll_same sc _ hys) (show (ts.map tieD)[kk]? = some (tieD t) by rw [List.getElem?_map, ht]; rfl)
        obtain ⟨az, rfl, haz⟩ := dp_tie hyd
        have hp3 := sqT_same sc hp
        have hc3 := sqT_same sc hc
        dsimp only [gName]
        refine at_st [some (.ref p), some (.int one), some (.int other), some (.ref au), some (.int here), some (.ref ml), some (.int kk)] rfl ?_
        refine tSeq_go ?_
        refine tIfS_t (fun c H4 => c = false ∧ H4 = H') ?_ ?_ (fun cont => ?_)
        · rintro H4 ⟨z, _⟩
          cases z
        rotate_left
        · refine ⟨_, rfl, .int kk, .int (kk : Int), "int", true, rfl, .inl (.int _), rfl, _, rfl, ?_⟩
          refine ⟨_, rfl, .int kk, .int (kk : Int), "bool", false, rfl, .inl (.int _), rfl, _, rfl, iteF ?_⟩
          refine ⟨_, rfl, _, _, rfl, rfl, true, congrArg V.bl (decide_eq_true (by omega)), iteT ?_⟩
          refine ⟨_, rfl, p, _, _, _, rfl, rfl, hp3, atI_nat (j := 1) rfl, c, ys, rfl, .inr hc3, _, _, rfl, rfl, true, congrArg V.bl (decide_eq_true (by rw [hyl]; omega)), iteF ?_⟩
          refine ⟨_, rfl, _, rfl, p, _, _, _, rfl, rfl, hp3, atI_nat (j := 1) rfl, _, rfl, c, _, _, _, rfl, rfl, hc3, atI_nat hy, az, _, rfl, .inr haz, rfl, rfl, false, ?_, ?_⟩
          · have key : inV (V.int (here : Int)) [V.int t.1, V.int t.2] = decide (here ∈ [t.1, t.2]) := inv_nats here [t.1, t.2]
            show V.bl (!inV (V.int (here : Int)) [V.int t.1, V.int t.2]) = _
            rw [key, decide_eq_true (by simpa using hend)]
            rfl
          · exact cont _ _ ⟨rfl, rfl⟩
        · rintro _ ⟨_, rfl⟩
          dsimp only [tNext]
          refine tSeq_go ?_
          refine ⟨_, rfl, p, _, _, _, rfl, rfl, hp3, atI_nat (j := 1) rfl, _, rfl, c, _, _, _, rfl, rfl, hc3, atI_nat hy, az, [(t.1 : Int), (t.2 : Int)], rfl, haz, _, rfl, _, _, rfl, rfl, ?_⟩
          have es : [(t.1 : Int), (t.2 : Int)].sum - (here : Int) = ((farT t here : Nat) : Int) := by
            simp only [List.sum_cons, List.sum_nil]
            unfold farT
            split <;> omega
          dsimp only [gName]
          rw [es]
          refine at_st [some (.ref p), some (.int one), some (.int other), some (.ref au), some (.int (farT t here : Nat)), some (.ref ml), some (.int kk)] rfl ?_
          refine tSeq_go ?_
          refine ⟨_, rfl, _, rfl, ml, _, rfl, .inl (SqL.of hm), rfl, flat_nats met, false, ?_, iteF ?_⟩
          · show V.bl (inV (V.int ((farT t here : Nat) : Int)) (met.map fun (k : Nat) => V.int k)) = _
            rw [inv_nats, decide_eq_false hnm]
          dsimp only [tNext]
          refine ⟨_, rfl, .inl ⟨rfl, _, SqL.of hm⟩, _, rfl, ml, _, _, rfl, rfl, hm, Nat.lt_of_lt_of_le (show (natsV met).length < 100000 by rw [natsV_len]; omega) (by decide), ?_⟩
          exact ⟨_, farT t here, met ++ [farT t here], rfl, same_old hml0 sc, by rw [upd_same, natsV_snoc], by rw [List.length_append, hmet]; rfl, hnext⟩
      · rintro σ H3 ⟨v6, here, met, rfl, sc, hm, hmet, hwi⟩
        rw [natsV_len, List.drop_length] at hwi
        have hwi : here = other := hwi
        subst hwi
        refine ⟨_, rfl, _, rfl, rfl, ?_⟩
        rw [decide_eq_true rfl]
        exact k _ sc
theorem ok_areways {f f1 : Addr} {fd fd1 : FuncData} (D : Df K mg "_law_are_ways" sAreways pAreways f fd) (T : Bl mg) (hisinstance : mg "isinstance" = none) (hbool : mg "bool" = none) (hset : mg "set" = none) (hlist : mg "list" = none) (D_isway : Df K mg "_law_is_way" sIsway pIsway f1 fd1) : FnOk P w K mg base CX0 2 f fd pAreways (spAreways K) := by
  have G_isway : FnOk P w K mg base CX0 1 f1 fd1 pIsway (spIsway K) := ok_isway D_isway T hisinstance hbool
  refine D.fn.ok scAreways (fun vs H Q E h => ?_) (fun cdv A outer s H vs Q E hr h => ?_)
  · obtain ⟨v, u, n, ts, one, other, m, ws, rfl, _⟩ := h
    rfl
  · obtain ⟨v, u, n, ts, one, other, m, ws, rfl, hw, hu, hl, hne, hW, k⟩ := h
    have nd := scAreways.nd
    have hr_isway : Room 1 _ := hr
    obtain ⟨au, xs, rfl, hau, hxs⟩ := dp_tup hu
    have hxl : xs.length = m := by rw [dpAll_len hxs, List.length_map, hW.len]
    have hm3 := hW.m3
    have hwl : ∀ w ∈ ws, w.length ≤ 50 := fun w hw2 => by
      have n1 : w.Nodup := hW.nd.sublist (List.sublist_flatten_of_mem hw2)
      have := nodup_small ts.length w n1 (hW.walk w hw2).2
      omega
    refine ⟨_, (pss_cons (ps_if (PW.pt (pw_or (pt_not (pt_val (pe_callB (isiD K) (by rfl) hisinstance (by decide +kernel) (pa_cons (pv 3) (pa_cons (pe_bltn (v := .ty "tuple") (by rfl) T.tuple (by decide +kernel) rfl) pa_nil))))) (pw_or1 (pt_cmpR op_ne (pe_callB (lenK K) (by rfl) T.len PySem.boot_len (pa_cons (pv 3) pa_nil)) (pv 4) (nomark _))))) (pss_one (ps_ret pe_bl)) pss_nil)
      (pss_cons (ps_if (pt_cmpR (opNeD K hr.units) (pe_lc (own := [("_law_way", 6)]) (g := (gName 6)) rfl nd (piT K (pv 3)) (blkOk_by (own := [("_law_way", 6)]) (N := nAreways) (sc := defScope sAreways) (by decide +kernel)) (fun _ _ _ _ _ => (pg_name (i := 6) nd rfl (by first | exact Or.inl rfl | exact Or.inr rfl))) (fun _ _ _ _ _ => (pts_one (pt_not (pt_val (pe_call G_isway hr_isway (by rfl) D_isway.ad D_isway.fn.kp D_isway.bd .nil pass0 (pa_cons (pv 0) (pa_cons (pv 1) (pa_cons (pv 2) (pa_cons (pv 6) pa_nil))))))))) (fun _ _ _ _ _ => pe_int)) (pe_lst pa_nil) (nomark _)) (pss_one (ps_ret pe_bl)) pss_nil)
      (pss_cons (ps_set (i := 5) nd rfl (by first | exact Or.inl rfl | exact Or.inr rfl) (pe_lst pa_nil))
      (pss_cons (ps_for PassesOwn.never rfl (piT K (pv 3)) (pg_name (i := 6) nd rfl (by first | exact Or.inl rfl | exact Or.inr rfl)) (pss_one (ps_set (i := 5) nd rfl (by first | exact Or.inl rfl | exact Or.inr rfl) (pe_op op_cat (pv 5) (pe_callTy call_list_of (by rfl) hlist (by decide +kernel) (pa_cons (pv 6) pa_nil))))))
      (pss_one (ps_ret (pe_cmpR op_eq (pe_lenSetI (by rfl) T.len (by rfl) hset (pv 5) rfl) (pe_callB (lenK K) (by rfl) T.len PySem.boot_len (pa_cons (pv 5) pa_nil)) (nomark _)))))))), ?_⟩
    refine tSeq_go ?_
    refine tIfS_t (fun c H' => c = false ∧ H' = H) ?_ ?_ (fun cont => ?_)
    · rintro H' ⟨z, _⟩
      cases z
    rotate_left
    · refine ⟨_, rfl, .ref au, _, "tuple", true, rfl, .inl hu, rfl, _, rfl, ?_⟩
      refine ⟨_, rfl, au, xs, rfl, .inr hau, _, rfl, rfl, false, ?_, ?_⟩
      · rw [hxl]
        simp
      · exact cont _ _ ⟨rfl, rfl⟩
    · rintro H0 ⟨_, e0⟩
      rw [e0]
      clear e0 H0
      dsimp only [tNext]
      refine tSeq_go ?_
      refine ⟨_, rfl, au, rfl, ⟨_, hau⟩, fun E1 hE1 => ?_⟩
      refine lc_run (walk_tup (xs := xs)) hE1 (fun j acc _ => acc = []) ?_ ?_ ?_ ?_
      · exact fun H' s => sqT_same s hau
      · rfl
      · rintro j x acc H3 H' hj hacc e s rfl ⟨rfl, hx⟩
        obtain ⟨dd, hdd, hxd⟩ := dpAll_get hxs hx
        obtain ⟨wj, hwj, rfl⟩ := get_map hdd
        have hmw := List.mem_of_getElem? hwj
        refine ⟨rfl, ?_⟩
        refine ⟨_, rfl, _, rfl, _, rfl, _, rfl, v, x, n, ts, one, other, wj, rfl, dp_same s _ hw, dp_same s _ hxd, hl, by have := hwl wj hmw; omega, hne, (hW.walk wj hmw).1, (hW.walk wj hmw).2, fun H5 s5 => ?_⟩
        refine ⟨_, rfl, iteF ?_⟩
        exact lc_skip hacc e s5 rfl
      · rintro acc H2 h1 s2 rfl
        refine ⟨Nat.zero_le _, fun q hq => ?_⟩
        have sp : Same H2 (upd H2 q (.lst [])) := same_new hq
        refine ⟨.list [], .list [], .lst (SqL.of (sp _ _ h1)) .nil, .lst (SqL.of upd_same) .nil, shaped_intsL [], shaped_intsL [], _, rfl, iteF ?_⟩
        have s3 := s2.trans sp
        generalize upd H2 q (.lst []) = H3 at *
        dsimp only [tNext]
        refine tSeq_go ?_
        refine ⟨Nat.zero_le _, fun l hl0 => ?_⟩
        have s4 := s3.trans (same_new (o := .lst []) hl0)
        have hL : (upd H3 l (.lst [])) l = some (.lst (natsV [])) := upd_same
        generalize upd H3 l (.lst []) = H4 at *
        dsimp only [gName]
        refine at_st [some v, some (.int one), some (.int other), some (.ref au), some (.int m), some (.ref l), none] rfl ?_
        refine tSeq_go ?_
        refine ⟨_, rfl, au, rfl, ⟨_, sqT_same s4 hau⟩, for_it (walk_tup (xs := xs)) (fun i σ Hc => ∃ (v6 : Option V) (l : Addr), σ = [some v, some (.int one), some (.int other), some (.ref au), some (.int m), some (.ref l), v6] ∧
          Same H Hc ∧ Hc l = some (.lst (natsV (ws.take i).flatten))) ?_ ?_ ?_ ?_⟩
        · exact ⟨none, l, rfl, s4, hL⟩
        · rintro i σ Hc _ ⟨v6, l, rfl, sc, _⟩
          exact sqT_same sc hau
        · rintro i x σ H5 H' hi ⟨v6, l, rfl, sc, hl5⟩ ⟨rfl, hx⟩
          obtain ⟨dd, hdd, hxd⟩ := dpAll_get hxs hx
          obtain ⟨wj, hwj, rfl⟩ := get_map hdd
          obtain ⟨aw, rfl, haw⟩ := dp_lotN hxd
          dsimp only [gName]
          refine at_st [some v, some (.int one), some (.int other), some (.ref au), some (.int m), some (.ref l), some (.ref aw)] rfl ?_
          refine ⟨_, rfl, _, rfl, aw, _, rfl, .inr (sqT_same sc haw), fun l2 hl2 => ?_⟩
          have s6 := same_new (o := .lst (natsV wj)) hl2
          have hfl : ((ws.take i).flatten).length ≤ 200 := by
            have h1 : (ws.take (i + 1)).flatten.length ≤ ts.length := by
              refine nodup_small ts.length _ ?_ fun k2 hk2 => ?_
              · refine hW.nd.sublist ?_
                have e := List.take_append_drop (i + 1) ws
                have e2 : ws.flatten = (ws.take (i + 1)).flatten ++ (ws.drop (i + 1)).flatten := by rw [← List.flatten_append, e]
                rw [e2]
                exact List.sublist_append_left _ _
              · obtain ⟨w2, hw2, hk3⟩ := List.mem_flatten.mp hk2
                exact (hW.walk w2 (List.mem_of_mem_take hw2)).2 k2 hk3
            rw [List.take_add_one, hwj, List.flatten_append, List.length_append] at h1
            omega
          have hwj50 := hwl wj (List.mem_of_getElem? hwj)
          refine ⟨l, l2, _, _, rfl, rfl, s6 _ _ hl5, upd_same, Nat.le_trans (show (natsV (ws.take i).flatten).length + (natsV wj).length ≤ 1000 by rw [natsV_len, natsV_len]; omega) (by decide), fun q2 hq2 => ?_⟩
          have s7 := same_new (o := .lst (natsV (ws.take i).flatten ++ natsV wj)) hq2
          refine ⟨_, q2, rfl, (sc.trans s6).trans s7, ?_⟩
          rw [upd_same, List.take_add_one, hwj, List.flatten_append]
          show some (HO.lst (natsV (ws.take i).flatten ++ natsV wj)) = some (HO.lst (natsV ((ws.take i).flatten ++ [wj].flatten)))
          unfold natsV
          rw [List.map_append]
          simp
        · rintro σ H5 ⟨v6, l, rfl, sc, hl5⟩
          rw [hxl, ← hW.len, List.take_length] at hl5
          have hfl : ws.flatten.length ≤ ts.length := nodup_small ts.length _ hW.nd fun k2 hk2 => by
            obtain ⟨w2, hw2, hk3⟩ := List.mem_flatten.mp hk2
            exact (hW.walk w2 hw2).2 k2 hk3
          have nd2 : (ws.flatten.map fun (k : Nat) => (k : Int)).Nodup := by
            rw [List.nodup_iff_pairwise_ne, List.pairwise_map]
            exact (List.nodup_iff_pairwise_ne.mp hW.nd).imp fun h e => h (by omega)
          refine ⟨_, rfl, l, ws.flatten.map fun (k : Nat) => (k : Int), rfl, SqL.of (by rw [← natsV_ints]; exact hl5), nd2, by rw [List.length_map]; omega, _, rfl, l, _, rfl, .inl (SqL.of hl5), rfl, ?_⟩
          rw [List.length_map, natsV_len, decide_eq_true rfl]
          exact k _ sc
end
end BV

namespace BV
open PySem L2 RZ
abbrev sIsdeed : Stmt := top 42
abbrev nIsdeed : List Str := ["_law_web", "_law_deed", "_law_is_place"]
abbrev pIsdeed : List Str := ["_law_web", "_law_deed"]
theorem scIsdeed : FnScope nIsdeed pIsdeed (defScope sIsdeed) := ⟨rfl, rfl, rfl, by decide +kernel, rfl, by decide +kernel, by decide +kernel⟩
abbrev sBehind : Stmt := top 43
abbrev nBehind : List Str := ["_law_web", "_law_standing", "_law_deeds", "_law_is_above", "_law_found", "_law_deed", "_law_word", "_law_what", "_law_times", "_law_k"]
abbrev pBehind : List Str := ["_law_web", "_law_standing", "_law_deeds", "_law_is_above"]
theorem scBehind : FnScope nBehind pBehind (defScope sBehind) := ⟨rfl, rfl, rfl, by decide +kernel, rfl, by decide +kernel, by decide +kernel⟩
/-- the numbers behind a deed of a round -/
def addD (ns : List Int) (d : List Nat × Int) : List Int := ns.mapIdx fun k z => if k ∈ d.1 then z + d.2 else z
structure DeedOk (n : Nat) (ts : List Tie) (d : List Nat × Int) : Prop where
  rd : Rnd n ts d.1
  lot : LotA ts.length d.1
  ne : d.2 ≠ 0
  le : -(10 ^ 30) ≤ d.2 ∧ d.2 ≤ 10 ^ 30
def spIsdeed (K : PySem.W.Frag) : Sp := fun vs H Q _ => ∃ (v u : V) (n : Nat) (ts : List Tie) (d : List Nat × Int), vs = [v, u] ∧ Dp K H v (webD n ts) ∧ Dp K H u (deedD d) ∧ (∀ t ∈ ts, t.1 < t.2 ∧ t.2 < n) ∧ n ≤ 60 ∧ ts.length ≤ 50 ∧ DeedOk n ts d ∧
  ∀ H', Same H H' → Q (.bl true) H'
def spBehind (K : PySem.W.Frag) : Sp := fun vs H Q _ => ∃ (v su du : V) (n : Nat) (ts : List Tie) (ns : List Int) (ds : List (List Nat × Int)), vs = [v, su, du, .bl false] ∧ Dp K H v (webD n ts) ∧ Dp K H su (.tuple (ns.map .int)) ∧ Dp K H du (.tuple (ds.map deedD)) ∧
  (∀ t ∈ ts, t.1 < t.2 ∧ t.2 < n) ∧ n ≤ 60 ∧ ts.length ≤ 50 ∧ ns.length ≤ 1000 ∧ ds.length ≤ 1000 ∧ (∀ d ∈ ds, DeedOk n ts d) ∧ ∀ (u : V) H', Same H H' → Dp K H' u (.tuple ((ds.foldl addD ns).map .int)) → Q u H'
theorem dp_deedR {K : PySem.W.Frag} {H : Hp} {v : V} {d : List Nat × Int} (h : Dp K H v (deedD d)) : ∃ (a b : Addr), v = .ref a ∧ SqT K H a [.str "round", .ref b, .int d.2] ∧ SqT K H b (natsV d.1) ∧ Dp K H (.ref b) (lotD d.1) := by
  obtain ⟨a, xs, rfl, ha, hx⟩ := dp_tup h
  cases hx with
  | cons h1 hx => cases hx with
    | cons h2 hx => cases hx with
      | cons h3 hx =>
        cases hx
        cases h1
        cases h3
        obtain ⟨b, rfl, hb⟩ := dp_lotN h2
        exact ⟨a, b, rfl, ha, hb, h2⟩
/-- the first j numbers behind a deed -/
def addTo (j : Nat) (ns : List Int) (d : List Nat × Int) : List Int := ns.mapIdx fun k z => if k < j ∧ k ∈ d.1 then z + d.2 else z
theorem addTo_zero (ns : List Int) (d : List Nat × Int) : addTo 0 ns d = ns := by
  unfold addTo
  apply List.ext_getElem?
  intro i
  rw [List.getElem?_mapIdx]
  simp
theorem addTo_all (ns : List Int) (d : List Nat × Int) : addTo ns.length ns d = addD ns d := by
  unfold addTo addD
  apply List.ext_getElem?
  intro i
  rw [List.getElem?_mapIdx, List.getElem?_mapIdx]
  cases e : ns[i]? with
  | none => rfl
  | some z =>
    have := (List.getElem?_eq_some_iff.mp e).1
    simp [this]
theorem addTo_len (j : Nat) (ns : List Int) (d : List Nat × Int) : (addTo j ns d).length = ns.length := by
  unfold addTo
  rw [List.length_mapIdx]
theorem addTo_at {j : Nat} {ns : List Int} {d : List Nat × Int} {z : Int} (h : ns[j]? = some z) : (addTo j ns d)[j]? = some z := by
  unfold addTo
  rw [List.getElem?_mapIdx, h]
  simp
theorem addTo_in {j : Nat} {ns : List Int} {d : List Nat × Int} {z : Int} (h : ns[j]? = some z) (hj : j ∈ d.1) : addTo (j + 1) ns d = (addTo j ns d).set j (z + d.2) := by
  have hl := (List.getElem?_eq_some_iff.mp h).1
  apply List.ext_getElem?
  intro i
  by_cases e : j = i
  · subst e
    rw [List.getElem?_set_self (by rw [addTo_len]; exact hl)]
    unfold addTo
    rw [List.getElem?_mapIdx, h]
    simp [hj]
  · rw [List.getElem?_set_ne e]
    unfold addTo
    rw [List.getElem?_mapIdx, List.getElem?_mapIdx]
    have : (i < j + 1) ↔ i < j := by omega
    simp only [this]
theorem addTo_out {j : Nat} {ns : List Int} {d : List Nat × Int} (hj : j ∉ d.1) : addTo (j + 1) ns d = addTo j ns d := by
  apply List.ext_getElem?
  intro i
  unfold addTo
  rw [List.getElem?_mapIdx, List.getElem?_mapIdx]
  by_cases e : i = j
  · subst e
    simp [hj]
  · have : (i < j + 1) ↔ i < j := by omega
    simp only [this]
theorem addD_len (ns : List Int) (d : List Nat × Int) : (addD ns d).length = ns.length := by
  unfold addD
  rw [List.length_mapIdx]
theorem foldD_len : ∀ (ds : List (List Nat × Int)) (ns : List Int), (ds.foldl addD ns).length = ns.length
  | [], _ => rfl
  | d :: ds, ns => by rw [List.foldl_cons, foldD_len ds, addD_len]
section
variable {P : Program} {w : World} {K : PySem.W.Frag} {mg : Str → Option Value} {base : Heap}
theorem ok_isdeed {f f1 f2 : Addr} {fd fd1 fd2 : FuncData} (D : Df K mg "_law_is_deed" sIsdeed pIsdeed f fd) (T : Bl mg) (hisinstance : mg "isinstance" = none) (hbool : mg "bool" = none) (hsorted : mg "sorted" = none) (hset : mg "set" = none) (hlist : mg "list" = none) (D_islot : Df K mg "_law_is_lot" sIslot pIslot f1 fd1)
    (D_isr : Df K mg "_law_is_round" sIsr pIsr f2 fd2) : FnOk P w K mg base CX0 3 f fd pIsdeed (spIsdeed K) := by
  have G_isr : FnOk P w K mg base CX0 2 f2 fd2 pIsr (spIsr K) := ok_isr D_isr T hisinstance hbool hsorted hset hlist D_islot
  refine D.fn.ok scIsdeed (fun vs H Q E h => ?_) (fun cdv A outer s H vs Q E hr h => ?_)
  · obtain ⟨v, u, n, ts, d, rfl, _⟩ := h
    rfl
  · obtain ⟨v, u, n, ts, d, rfl, hw, hu0, hends, hn, hel, hok, k⟩ := h
    have nd := scIsdeed.nd
    have hr_isr : Room 2 _ := hr
    obtain ⟨ad, al, rfl, had, hal, hl⟩ := dp_deedR hu0
    refine ⟨_, (pss_cons (ps_if (PW.pt (pw_or (pt_not (pt_val (pe_callB (isiD K) (by rfl) hisinstance (by decide +kernel) (pa_cons (pv 1) (pa_cons (pe_bltn (v := .ty "tuple") (by rfl) T.tuple (by decide +kernel) rfl) pa_nil))))) (pw_or (pt_cmpR op_ne (pe_callB (lenK K) (by rfl) T.len PySem.boot_len (pa_cons (pv 1) pa_nil)) pe_int (nomark _)) (pw_or (pt_not (pt_val (pe_callB (isiD K) (by rfl) hisinstance (by decide +kernel) (pa_cons (pe_ix (ixT K) (pv 1) pe_int (fun _ _ => rfl)) (pa_cons (pe_bltn (v := .ty "int") (by rfl) T.int (by decide +kernel) rfl) pa_nil))))) (pw_or1 (pt_val (pe_callB (isiD K) (by rfl) hisinstance (by decide +kernel) (pa_cons (pe_ix (ixT K) (pv 1) pe_int (fun _ _ => rfl)) (pa_cons (pe_bltn (v := .ty "bool") (by rfl) hbool (by decide +kernel) rfl) pa_nil))))))))) (pss_one (ps_ret pe_bl)) pss_nil)
      (pss_cons (ps_if (PW.pt (pw_or (pt_cmpR op_eq (pe_ix (ixT K) (pv 1) pe_int (fun _ _ => rfl)) pe_int (nomark _)) (pw_or1 (pt_cmpR op_gt (pe_callB call_abs (by rfl) T.abs (by decide +kernel) (pa_cons (pe_ix (ixT K) (pv 1) pe_int (fun _ _ => rfl)) pa_nil)) (pe_op op_pow pe_int pe_int) (nomark _))))) (pss_one (ps_ret pe_bl)) pss_nil)
      (pss_cons (ps_if (pt_cmpR op_eq (pe_ix (ixT K) (pv 1) pe_int (fun _ _ => rfl)) pe_str (nomark _)) (pss_one (ps_ret (pe_call G_isr hr_isr (by rfl) D_isr.ad D_isr.fn.kp D_isr.bd .nil pass0 (pa_cons (pv 0) (pa_cons (pe_ix (ixT K) (pv 1) pe_int (fun _ _ => rfl)) pa_nil))))) pss_nil)
      (pss_cons (ps_set (i := 2) nd rfl (by first | exact Or.inl rfl | exact Or.inr rfl) (pe_and (pe_callB (isiD K) (by rfl) hisinstance (by decide +kernel) (pa_cons (pe_ix (ixT K) (pv 1) pe_int (fun _ _ => rfl)) (pa_cons (pe_bltn (v := .ty "int") (by rfl) T.int (by decide +kernel) rfl) pa_nil))) (pe_and (pe_not (pe_callB (isiD K) (by rfl) hisinstance (by decide +kernel) (pa_cons (pe_ix (ixT K) (pv 1) pe_int (fun _ _ => rfl)) (pa_cons (pe_bltn (v := .ty "bool") (by rfl) hbool (by decide +kernel) rfl) pa_nil)))) (pe_one (pe_chain op_le op_lt pe_int (pe_ix (ixT K) (pv 1) pe_int (fun _ _ => rfl)) (pe_ix (ixT K) (pv 0) pe_int (fun _ _ => rfl)))))))
      (pss_one (ps_ret (pe_and (pe_cmpR op_eq (pe_ix (ixT K) (pv 1) pe_int (fun _ _ => rfl)) pe_str (nomark _)) (pe_one (pv 2))))))))), ?_⟩
    refine tSeq_go ?_
    refine tIfS_t (fun c H' => c = false ∧ H' = H) ?_ ?_ (fun cont => ?_)
    · rintro H' ⟨z, _⟩
      cases z
    rotate_left
    · refine ⟨_, rfl, .ref ad, deedD d, "tuple", true, rfl, .inl hu0, rfl, _, rfl, ?_⟩
      refine ⟨_, rfl, ad, _, rfl, .inr had, rfl, false, by simp, ?_⟩
      refine iteF ?_
      refine ⟨_, rfl, ad, _, _, _, rfl, rfl, had, atI_nat (j := 2) rfl, .int d.2, .int d.2, "int", true, rfl, .inl (.int _), rfl, _, rfl, ?_⟩
      refine ⟨_, rfl, ad, _, _, _, rfl, rfl, had, atI_nat (j := 2) rfl, .int d.2, .int d.2, "bool", false, rfl, .inl (.int _), rfl, _, rfl, cont _ _ ⟨rfl, rfl⟩⟩
    rintro H0 ⟨_, e0⟩
    rw [e0]
    clear e0 H0
    dsimp only [tNext]
    refine tSeq_go ?_
    refine tIfS_t (fun c H' => c = false ∧ H' = H) ?_ ?_ (fun cont => ?_)
    · rintro H' ⟨z, _⟩
      cases z
    rotate_left
    · refine ⟨_, rfl, ad, _, _, _, rfl, rfl, had, atI_nat (j := 2) rfl, rfl, false, congrArg V.bl (decide_eq_false fun z => hok.ne (V.int.inj z)), iteF ?_⟩
      refine ⟨_, rfl, ad, _, _, _, rfl, rfl, had, atI_nat (j := 2) rfl, _, rfl, 10, 30, rfl, rfl, ⟨by decide, by decide, by decide⟩, _, _, rfl, rfl, false, congrArg V.bl (decide_eq_false ?_), cont _ _ ⟨rfl, rfl⟩⟩
      have h1 := hok.le
      show ¬ (if d.2 < 0 then -d.2 else d.2) > (10 : Int) ^ 30
      split <;> omega
    rintro H0 ⟨_, e0⟩
    rw [e0]
    clear e0 H0
    dsimp only [tNext]
    refine tSeq_go ?_
    refine ⟨_, rfl, ad, [.str "round", .ref al, .int d.2], _, .str "round", rfl, rfl, had, atI_nat (j := 0) rfl, rfl, true, congrArg V.bl (decide_eq_true rfl), iteT ?_⟩
    exact ⟨_, rfl, _, rfl, ad, _, _, _, rfl, rfl, had, atI_nat (j := 1) rfl, v, .ref al, n, ts, d.1, rfl, hw, hl, hends, hn, hel, hok.lot, hok.rd, k⟩
theorem ok_behind {f f1 f2 f3 : Addr} {fd fd1 fd2 fd3 : FuncData} (D : Df K mg "_law_behind" sBehind pBehind f fd) (T : Bl mg) (hisinstance : mg "isinstance" = none) (hbool : mg "bool" = none) (hsorted : mg "sorted" = none) (hset : mg "set" = none) (hlist : mg "list" = none) (D_islot : Df K mg "_law_is_lot" sIslot pIslot f1 fd1)
    (D_isr : Df K mg "_law_is_round" sIsr pIsr f2 fd2) (D_isdeed : Df K mg "_law_is_deed" sIsdeed pIsdeed f3 fd3) : FnOk P w K mg base CX0 4 f fd pBehind (spBehind K) := by
  have G_isdeed : FnOk P w K mg base CX0 3 f3 fd3 pIsdeed (spIsdeed K) := ok_isdeed D_isdeed T hisinstance hbool hsorted hset hlist D_islot D_isr
  refine D.fn.ok scBehind (fun vs H Q E h => ?_) (fun cdv A outer s H vs Q E hr h => ?_)
  · obtain ⟨v, su, du, n, ts, ns, ds, rfl, _⟩ := h
    rfl
  · obtain ⟨v, su, du, n, ts, ns, ds, rfl, hw, hsu, hdu, hends, hn, hel, hns, hdl, hok, k⟩ := h
    have nd := scBehind.nd
    have hr_isdeed : Room 3 _ := hr
    obtain ⟨as, sv, rfl, has, hsv⟩ := dp_tup hsu
    obtain ⟨ad, dv, rfl, had, hdv⟩ := dp_tup hdu
    have hsve : sv = ns.map V.int := dpAll_ints' hsv
    subst hsve
    have hdvl : dv.length = ds.length := by rw [dpAll_len hdv, List.length_map]
    refine ⟨_, (pss_cons (ps_if (PW.pt (pw_or (pt_not (pt_val (pe_callB (isiD K) (by rfl) hisinstance (by decide +kernel) (pa_cons (pv 2) (pa_cons (pe_bltn (v := .ty "tuple") (by rfl) T.tuple (by decide +kernel) rfl) pa_nil))))) (pw_or1 (PW.pt (pw_and (pt_val (pv 3)) (pw_and1 (pt_cmpR op_lt (pe_callB (minTK K) (by rfl) T.min (by decide +kernel) (pa_cons (pe_op (opCatA K) (pv 1) (pe_tup (pa_cons pe_int pa_nil))) pa_nil)) pe_int (nomark _)))))))) (pss_one (ps_ret pe_non)) pss_nil)
      (pss_cons (ps_set (i := 4) nd rfl (by first | exact Or.inl rfl | exact Or.inr rfl) (pe_callTy (listK K) (by rfl) hlist (by decide +kernel) (pa_cons (pv 1) pa_nil)))
      (pss_cons (ps_for PassesOwn.never rfl (piT K (pv 2)) (pg_name (i := 5) nd rfl (by first | exact Or.inl rfl | exact Or.inr rfl)) (pss_cons (ps_if (pt_not (pt_val (pe_call G_isdeed hr_isdeed (by rfl) D_isdeed.ad D_isdeed.fn.kp D_isdeed.bd .nil pass0 (pa_cons (pv 0) (pa_cons (pv 5) pa_nil))))) (pss_one (ps_ret pe_non)) pss_nil)
      (pss_cons (ps_asg (pv 5) (pgT K rfl (pgs_cons (pg_name (i := 6) nd rfl (by first | exact Or.inl rfl | exact Or.inr rfl)) (pgs_cons (pg_name (i := 7) nd rfl (by first | exact Or.inl rfl | exact Or.inr rfl)) (pgs_cons (pg_name (i := 8) nd rfl (by first | exact Or.inl rfl | exact Or.inr rfl)) pgs_nil)))))
      (pss_cons (ps_for PassesOwn.never rfl (pi_range1 rfl T.range (pa_cons (pe_callB (lenK K) (by rfl) T.len PySem.boot_len (pa_cons (pv 4) pa_nil)) pa_nil)) (pg_name (i := 9) nd rfl (by first | exact Or.inl rfl | exact Or.inr rfl)) (pss_one (ps_if (pt_ifExp (pt_cmpR op_eq (pv 6) pe_str (nomark _)) (pt_cmpR (opIn K) (pv 9) (pv 7) rfl) (pt_cmpR (opIn K) (pv 7) (pe_ix (ixT K) (pe_ix (ixT K) (pv 0) pe_int (fun _ _ => rfl)) (pv 9) (fun _ _ => rfl)) rfl)) (pss_one (ps_asg (pe_op op_add (pe_ix (ixL K) (pv 4) (pv 9) (fun _ _ => rfl)) (pv 8)) (pg_sub (pv 4) (pv 9) set_list))) pss_nil)))
      (pss_one (ps_if (PW.pt (pw_and (pt_val (pv 3)) (pw_and1 (pt_cmpR op_lt (pe_callB (minLK K) (by rfl) T.min (by decide +kernel) (pa_cons (pe_op op_cat (pv 4) (pe_lst (pa_cons pe_int pa_nil))) pa_nil)) pe_int (nomark _))))) (pss_one (ps_ret pe_non)) pss_nil))))))
      (pss_one (ps_ret (pe_callTy (tupleK K) (by rfl) T.tuple (by decide +kernel) (pa_cons (pv 4) pa_nil))))))), ?_⟩
    refine tSeq_go ?_
    refine tIfS_t (fun c H' => c = false ∧ H' = H) ?_ ?_ (fun cont => ?_)
    · rintro H' ⟨z, _⟩
      cases z
    rotate_left
    · refine ⟨_, rfl, .ref ad, _, "tuple", true, rfl, .inl hdu, rfl, _, rfl, iteF ?_⟩
      exact ⟨_, rfl, false, rfl, iteF (cont _ _ ⟨rfl, rfl⟩)⟩
    rintro H0 ⟨_, e0⟩
    rw [e0]
    clear e0 H0
    dsimp only [tNext]
    refine tSeq_go ?_
    refine ⟨_, rfl, as, _, rfl, .inr has, fun l hl => ?_⟩
    have s1 := same_new (o := .lst (ns.map V.int)) hl
    have hL : (upd H l (.lst (ns.map V.int))) l = some (.lst (ns.map V.int)) := upd_same
    generalize upd H l (.lst (ns.map V.int)) = H1 at *
    dsimp only [gName]
    refine at_st [some v, some (.ref as), some (.ref ad), some (.bl false), some (.ref l), none, none, none, none, none] rfl ?_
    refine tSeq_go ?_
    refine ⟨_, rfl, ad, rfl, ⟨_, sqT_same s1 had⟩, for_it (walk_tup (xs := dv)) (fun i σ H' => ∃ v5 v6 v7 v8 v9 : Option V, σ = [some v, some (.ref as), some (.ref ad), some (.bl false), some (.ref l), v5, v6, v7, v8, v9] ∧ Same H H' ∧ H' l = some (.lst (((ds.take i).foldl addD ns).map V.int))) ?_ ?_ ?_ ?_⟩
    · exact ⟨none, none, none, none, none, rfl, s1, hL⟩
    · rintro i σ H' _ ⟨v5, v6, v7, v8, v9, rfl, sH, _⟩
      exact sqT_same sH had
    · rintro i x σ H2 H'' hi ⟨v5, v6, v7, v8, v9, rfl, s2, hL2⟩ ⟨rfl, hx⟩
      obtain ⟨dd, hdd, hxd⟩ := dpAll_get hdv hx
      obtain ⟨d, hdi, rfl⟩ := get_map hdd
      obtain ⟨ax, al, rfl, hax, hal, hll⟩ := dp_deedR hxd
      have hfl : ((ds.take i).foldl addD ns).length = ns.length := foldD_len _ _
      have htk : (ds.take (i + 1)).foldl addD ns = addD ((ds.take i).foldl addD ns) d := by
        rw [List.take_add_one, hdi, List.foldl_append]
        rfl
      rw [htk]
      generalize (ds.take i).foldl addD ns = ms at *
      dsimp only [gName]
      refine at_st [some v, some (.ref as), some (.ref ad), some (.bl false), some (.ref l), some (.ref ax), v6, v7, v8, v9] rfl ?_
      refine tSeq_go ?_
      refine ⟨_, rfl, _, rfl, v, .ref ax, n, ts, d, rfl, dp_same s2 _ hw, dp_same s2 _ hxd, hends, hn, hel, hok d (List.mem_of_getElem? hdi), fun H3 s3 => ?_⟩
      refine ⟨_, rfl, iteF ?_⟩
      dsimp only [tNext]
      have s23 := s2.trans s3
      have hL3 := s3 _ _ hL2
      refine tSeq_go ?_
      refine ⟨_, rfl, ax, _, rfl, sqT_same s23 hax, rfl, _, _, rfl, _, _, rfl, _, _, rfl, rfl, ?_⟩
      refine at_st [some v, some (.ref as), some (.ref ad), some (.bl false), some (.ref l), some (.ref ax), some (.str "round"), some (.ref al), some (.int d.2), v9] rfl ?_
      dsimp only
      refine tSeq_go ?_
      refine ⟨_, rfl, l, _, rfl, .inl (SqL.of hL3), _, rfl, by rw [List.length_map]; omega, by rw [List.length_map]; omega, ?_⟩
      have hln : H l = none := hl
      refine for_range (lo := 0) (n := ((ms.map V.int).length : Int).toNat) (fun j σ H' => ∃ v9 : Option V, σ = [some v, some (.ref as), some (.ref ad), some (.bl false), some (.ref l), some (.ref ax), some (.str "round"), some (.ref al), some (.int d.2), v9] ∧ Same H H' ∧ H' l = some (.lst ((addTo j ms d).map V.int))) ?_ ?_ ?_
      · exact ⟨v9, rfl, s23, by rw [addTo_zero]; exact hL3⟩
      · rintro j σ H4 hj ⟨v9, rfl, s4, hL4⟩
        rw [Int.toNat_natCast, List.length_map] at hj
        have hji : (0 : Int) + (j : Int) = (j : Int) := by omega
        rw [hji]
        have key : inV (V.int (j : Int)) (natsV d.1) = decide (j ∈ d.1) := inv_nats j d.1
        have hms : ms[j]? = some ms[j] := by simp [hj]
        have hto : (addTo j ms d)[j]? = some ms[j] := addTo_at hms
        refine ⟨_, rfl, rfl, true, congrArg V.bl (decide_eq_true rfl), iteT ?_⟩
        refine ⟨_, rfl, _, rfl, al, _, rfl, .inr (sqT_same s4 hal), rfl, flat_nats d.1, _, rfl, ?_⟩
        refine ite2 (fun hh => ?_) (fun hh => ?_)
        · have hh : j ∈ d.1 := by
            have hh : inV (V.int (j : Int)) (natsV d.1) = true := hh
            rw [key] at hh
            exact of_decide_eq_true hh
          refine ⟨_, rfl, _, rfl, l, _, _, _, rfl, rfl, SqL.of hL4, atI_nat (j := j) (show ((addTo j ms d).map V.int)[j]? = some (.int ms[j]) by rw [List.getElem?_map, hto]; rfl), _, rfl, _, _, rfl, rfl, ?_⟩
          refine ⟨_, rfl, _, rfl, l, _, (j : Int), j, rfl, rfl, hL4, ix_nat (by rw [List.length_map, addTo_len]; exact hj), ?_⟩
          refine ⟨_, rfl, same_old hln s4, ?_⟩
          rw [upd_same, addTo_in hms hh, List.map_set]
        · have hh : j ∉ d.1 := fun z => hh (by
            show inV (V.int (j : Int)) (natsV d.1) = true
            rw [key]
            exact decide_eq_true z)
          exact ⟨_, rfl, s4, by rw [addTo_out hh]; exact hL4⟩
      · rintro σ H4 ⟨v9, rfl, s4, hL4⟩
        rw [Int.toNat_natCast, List.length_map, addTo_all] at hL4
        dsimp only
        refine ⟨_, rfl, false, rfl, iteF ?_⟩
        exact ⟨_, _, _, _, _, rfl, s4, hL4⟩
    · rintro σ H2 ⟨v5, v6, v7, v8, v9, rfl, s2, hL2⟩
      rw [hdvl, List.take_length] at hL2
      refine ⟨_, rfl, l, _, rfl, .inl ⟨SqL.of hL2, fun u hu => ?_⟩⟩
      refine k _ _ (s2.trans (same_new hu)) (.tup (SqT.of upd_same) (dpAll_ints _))
end
end BV

namespace BV
open PySem L2 RZ
/-! ### rows of thick parts -/
/-- ties of the joints where a side changes -/
def jcut (T : Nat → Bool) : Nat → List Nat → Nat
  | _, [] => 0
  | i, j :: J => (if T i = T (i + 1) then 0 else j) + jcut T (i + 1) J
theorem jcut_app (T : Nat → Bool) : ∀ (J : List Nat) (i j : Nat), jcut T i (J ++ [j]) = jcut T i J + if T (i + J.length) = T (i + J.length + 1) then 0 else j
  | [], i, j => by simp [jcut]
  | x :: J, i, j => by
    have := jcut_app T J (i + 1) j
    simp only [List.cons_append, jcut, this, List.length_cons]
    rw [show i + 1 + J.length = i + (J.length + 1) by omega]
    omega
theorem jcut_ge (T : Nat → Bool) : ∀ (J : List Nat) (i k j : Nat), J[k]? = some j → T (i + k) ≠ T (i + k + 1) → j ≤ jcut T i J
  | [], _, _, _, h, _ => by simp at h
  | x :: J, i, 0, j, h, hn => by
    simp at h
    subst h
    simp only [jcut]
    rw [if_neg (show ¬ T i = T (i + 1) from hn)]
    omega
  | x :: J, i, k + 1, j, h, hn => by
    have := jcut_ge T J (i + 1) k j (by simpa using h) (by rw [show i + 1 + k = i + (k + 1) by omega]; exact hn)
    simp only [jcut]
    omega
theorem jcut_over (r : Nat) : ∀ (J : List Nat) (i : Nat), r < i → jcut (fun x => decide (x ≤ r)) i J = 0
  | [], _, _ => rfl
  | j :: J, i, h => by
    simp only [jcut]
    rw [jcut_over r J (i + 1) (by omega), if_pos (by rw [decide_eq_false (show ¬ i ≤ r by omega), decide_eq_false (show ¬ i + 1 ≤ r by omega)])]
theorem jcut_step (r : Nat) : ∀ (J : List Nat) (i k j : Nat), J[k]? = some j → r = i + k → jcut (fun x => decide (x ≤ r)) i J = j
  | [], _, _, _, h, _ => by simp at h
  | x :: J, i, 0, j, h, hr => by
    simp at h
    subst h
    simp only [jcut]
    rw [jcut_over _ J (i + 1) (by omega), if_neg (by rw [decide_eq_true (show i ≤ r by omega), decide_eq_false (show ¬ i + 1 ≤ r by omega)]; decide)]
    rfl
  | x :: J, i, k + 1, j, h, hr => by
    simp only [jcut]
    rw [jcut_step r J (i + 1) k j (by simpa using h) (by omega), if_pos (by rw [decide_eq_true (show i ≤ r by omega), decide_eq_true (show i + 1 ≤ r by omega)])]
    omega
theorem switch (T : Nat → Bool) : ∀ (m lo : Nat), T lo ≠ T (lo + m) → ∃ r, lo ≤ r ∧ r < lo + m ∧ T r ≠ T (r + 1)
  | 0, lo, h => absurd rfl h
  | m + 1, lo, h => by
    by_cases e : T lo = T (lo + 1)
    · obtain ⟨r, a, b, c⟩ := switch T m (lo + 1) (by rw [show lo + 1 + m = lo + (m + 1) by omega, ← e]; exact h)
      exact ⟨r, by omega, by omega, c⟩
    · exact ⟨lo, Nat.le_refl _, by omega, e⟩
structure RowIs (n : Nat) (ps : List (Nat × Nat)) (hs J : List Nat) : Prop where
  len : hs.length = n
  le : ∀ x ∈ hs, x ≤ J.length
  ne : ∀ p, p ≤ J.length → p ∈ hs
  thick : ∀ (S : Nat → Bool) (a b p : Nat), hs[a]? = some p → hs[b]? = some p → S a ≠ S b → 3 ≤ cutN S ps
  cut : ∀ T : Nat → Bool, cutN (fun x => T (hs.getD x 0)) ps = jcut T 0 J
  jn : ∀ j ∈ J, 1 ≤ j ∧ j ≤ 4
  ok : ∀ p ∈ ps, p.1 < n ∧ p.2 < n ∧ p.1 ≠ p.2
  nb : ∀ p ∈ ps, hs.getD p.1 0 ≤ hs.getD p.2 0 + 1 ∧ hs.getD p.2 0 ≤ hs.getD p.1 0 + 1
theorem cutN_cong {S S' : Nat → Bool} : ∀ {ps : List (Nat × Nat)}, (∀ p ∈ ps, S p.1 = S' p.1 ∧ S p.2 = S' p.2) → cutN S ps = cutN S' ps
  | [], _ => rfl
  | p :: ps, h => by
    have h1 := h p (List.mem_cons_self ..)
    simp only [cutN]
    rw [cutN_cong fun q hq => h q (List.mem_cons_of_mem _ hq), h1.1, h1.2]
theorem cutN_zero {S : Nat → Bool} : ∀ {ps : List (Nat × Nat)}, (∀ p ∈ ps, S p.1 = S p.2) → cutN S ps = 0
  | [], _ => rfl
  | p :: ps, h => by
    simp only [cutN]
    rw [cutN_zero fun q hq => h q (List.mem_cons_of_mem _ hq), if_pos (h p (List.mem_cons_self ..))]
theorem cutN_allD {S : Nat → Bool} {x y : Bool} : ∀ {ps : List (Nat × Nat)}, (∀ p ∈ ps, S p.1 = x ∧ S p.2 = y) → cutN S ps = if x = y then 0 else ps.length
  | [], _ => by split <;> rfl
  | p :: ps, h => by
    have h1 := h p (List.mem_cons_self ..)
    simp only [cutN]
    rw [cutN_allD fun q hq => h q (List.mem_cons_of_mem _ hq), h1.1, h1.2]
    split
    · rfl
    · rw [List.length_cons]
      omega
def shiftP (m : Nat) (p : Nat × Nat) : Nat × Nat := (m + p.1, m + p.2)
theorem cutN_shift (S : Nat → Bool) (m : Nat) : ∀ ps : List (Nat × Nat), cutN S (ps.map (shiftP m)) = cutN (fun x => S (m + x)) ps
  | [] => rfl
  | p :: ps => by
    show (if S (m + p.1) = S (m + p.2) then 0 else 1) + cutN S (ps.map (shiftP m)) = (if S (m + p.1) = S (m + p.2) then 0 else 1) + cutN (fun x => S (m + x)) ps
    rw [cutN_shift S m ps]
theorem getD_lt {hs : List Nat} {a p : Nat} (h : hs[a]? = some p) : hs.getD a 0 = p := by
  rw [List.getD_eq_getElem?_getD, h]
  rfl
theorem rep_at {n a x p : Nat} (h : (List.replicate n x)[a]? = some p) : a < n ∧ p = x := by
  rw [List.getElem?_replicate] at h
  split at h
  · exact ⟨by assumption, (Option.some.inj h).symm⟩
  · cases h
theorem row_first {n : Nat} {own : List (Nat × Nat)} (hn : 1 ≤ n) (h3 : T3 n own) (hw : WOkP n own) : RowIs n (own.map (shiftP 0)) (List.replicate n 0) [] where
  len := List.length_replicate
  le := fun x hx => by rw [(List.mem_replicate.mp hx).2]; exact Nat.zero_le _
  ne := fun p hp => List.mem_replicate.mpr ⟨by omega, by simpa using hp⟩
  thick := fun S a b p ha hb hn => by
    have h1 := (rep_at ha).1
    have h2 := (rep_at hb).1
    rw [cutN_shift]
    cases e : S a with
    | true => exact h3 _ ⟨a, h1, by simpa using e⟩ ⟨b, h2, by cases z : S b with | true => exact absurd (e.trans z.symm) hn | false => simpa using z⟩
    | false => exact h3 _ ⟨b, h2, by cases z : S b with | false => exact absurd (e.trans z.symm) hn | true => simpa using z⟩ ⟨a, h1, by simpa using e⟩
  cut := fun T => by
    refine cutN_zero fun p hp => ?_
    obtain ⟨q, hq, rfl⟩ := List.mem_map.mp hp
    have := hw q hq
    have e : ∀ x, x < n → (List.replicate n 0).getD x 0 = 0 := fun x hx => by
      rw [List.getD_eq_getElem?_getD, List.getElem?_replicate, if_pos hx]
      rfl
    rw [e _ (show (shiftP 0 q).1 < n by show 0 + q.1 < n; omega), e _ (show (shiftP 0 q).2 < n by show 0 + q.2 < n; omega)]
  jn := fun j hj => nomatch hj
  ok := fun p hp => by
    obtain ⟨q, hq, rfl⟩ := List.mem_map.mp hp
    have := hw q hq
    exact ⟨by show 0 + q.1 < n; omega, by show 0 + q.2 < n; omega, by show 0 + q.1 ≠ 0 + q.2; omega⟩
  nb := fun p hp => by
    obtain ⟨q, hq, rfl⟩ := List.mem_map.mp hp
    have := hw q hq
    have e : ∀ x, x < n → (List.replicate n 0).getD x 0 = 0 := fun x hx => by
      rw [List.getD_eq_getElem?_getD, List.getElem?_replicate, if_pos hx]
      rfl
    rw [e _ (show (shiftP 0 q).1 < n by show 0 + q.1 < n; omega), e _ (show (shiftP 0 q).2 < n by show 0 + q.2 < n; omega)]
    exact ⟨by decide, by decide⟩
theorem row_add {m n : Nat} {ps js own : List (Nat × Nat)} {hs J : List Nat} (h : RowIs m ps hs J) (hn : 1 ≤ n) (h3 : T3 n own) (hw : WOkP n own) (hj : ∀ q ∈ js, hs[q.1]? = some J.length ∧ m ≤ q.2 ∧ q.2 < m + n) (hl : 1 ≤ js.length ∧ js.length ≤ 4) :
    RowIs (m + n) (ps ++ js ++ own.map (shiftP m)) (hs ++ List.replicate n (J.length + 1)) (J ++ [js.length]) := by
  have old : ∀ a, a < m → (hs ++ List.replicate n (J.length + 1))[a]? = hs[a]? := fun a ha => List.getElem?_append_left (by rw [h.len]; exact ha)
  have new : ∀ a, a < n → (hs ++ List.replicate n (J.length + 1))[m + a]? = some (J.length + 1) := fun a ha => by
    rw [List.getElem?_append_right (by rw [h.len]; omega), h.len, List.getElem?_replicate, if_pos (by omega)]
  have oldD : ∀ a, a < m → (hs ++ List.replicate n (J.length + 1)).getD a 0 = hs.getD a 0 := fun a ha => by
    rw [List.getD_eq_getElem?_getD, List.getD_eq_getElem?_getD, old a ha]
  have newD : ∀ a, a < n → (hs ++ List.replicate n (J.length + 1)).getD (m + a) 0 = J.length + 1 := fun a ha => getD_lt (new a ha)
  have jlt : ∀ q ∈ js, q.1 < m := fun q hq => by
    have := (List.getElem?_eq_some_iff.mp (hj q hq).1).1
    rw [h.len] at this
    exact this
  refine ⟨by rw [List.length_append, h.len, List.length_replicate], fun x hx => ?_, fun p hp => ?_, fun S a b p ha hb hS => ?_, fun T => ?_, fun j hj2 => ?_, fun p hp => ?_, fun p hp => ?_⟩
  · rw [List.length_append, List.length_singleton]
    rcases List.mem_append.mp hx with z | z
    · have := h.le x z
      omega
    · rw [(List.mem_replicate.mp z).2]
      exact Nat.le_refl _
  · rw [List.length_append, List.length_singleton] at hp
    by_cases e : p ≤ J.length
    · exact List.mem_append_left _ (h.ne p e)
    · exact List.mem_append_right _ (List.mem_replicate.mpr ⟨by omega, by omega⟩)
  · have hlt : ∀ {a p : Nat}, (hs ++ List.replicate n (J.length + 1))[a]? = some p → (a < m ∧ hs[a]? = some p ∧ p ≤ J.length) ∨ (∃ x, x < n ∧ a = m + x ∧ p = J.length + 1) := fun {a p} ha => by
      by_cases e : a < m
      · rw [old a e] at ha
        exact .inl ⟨e, ha, h.le p (List.mem_of_getElem? ha)⟩
      · rw [List.getElem?_append_right (by rw [h.len]; omega), h.len] at ha
        have := rep_at ha
        exact .inr ⟨a - m, this.1, by omega, this.2⟩
    rw [cutN_appP, cutN_appP]
    rcases hlt ha with ⟨_, a2, a3⟩ | ⟨x, hx, rfl, rfl⟩
    · rcases hlt hb with ⟨_, b2, b3⟩ | ⟨y, hy, rfl, e⟩
      · have := h.thick S a b p a2 b2 hS
        omega
      · omega
    · rcases hlt hb with ⟨_, b2, b3⟩ | ⟨y, hy, rfl, _⟩
      · omega
      · have key : 3 ≤ cutN S (own.map (shiftP m)) := by
          rw [cutN_shift]
          cases e : S (m + x) with
          | true => exact h3 _ ⟨x, hx, e⟩ ⟨y, hy, by cases z : S (m + y) with | true => exact absurd (e.trans z.symm) hS | false => rfl⟩
          | false => exact h3 _ ⟨y, hy, by cases z : S (m + y) with | false => exact absurd (e.trans z.symm) hS | true => rfl⟩ ⟨x, hx, e⟩
        omega
  · rw [cutN_appP, cutN_appP, jcut_app, ← h.cut T]
    have e1 : cutN (fun x => T ((hs ++ List.replicate n (J.length + 1)).getD x 0)) ps = cutN (fun x => T (hs.getD x 0)) ps := cutN_cong fun p hp => by
      have := h.ok p hp
      rw [oldD _ this.1, oldD _ this.2.1]
      exact ⟨rfl, rfl⟩
    have e2 : cutN (fun x => T ((hs ++ List.replicate n (J.length + 1)).getD x 0)) js = if T J.length = T (J.length + 1) then 0 else js.length := cutN_allD fun q hq => by
      have hq2 := hj q hq
      rw [oldD _ (jlt q hq), getD_lt hq2.1, show q.2 = m + (q.2 - m) by omega, newD _ (by omega)]
      exact ⟨rfl, rfl⟩
    have e3 : cutN (fun x => T ((hs ++ List.replicate n (J.length + 1)).getD x 0)) (own.map (shiftP m)) = 0 := cutN_zero fun p hp => by
      obtain ⟨q, hq, rfl⟩ := List.mem_map.mp hp
      have := hw q hq
      show T (_) = T (_)
      rw [show (shiftP m q).1 = m + q.1 from rfl, show (shiftP m q).2 = m + q.2 from rfl, newD _ this.1, newD _ this.2.1]
    rw [e1, e2, e3, Nat.zero_add]
    omega
  · rcases List.mem_append.mp hj2 with z | z
    · exact h.jn j z
    · rw [List.mem_singleton.mp z]
      exact hl
  · rcases List.mem_append.mp hp with z | z
    · rcases List.mem_append.mp z with z | z
      · have := h.ok p z
        exact ⟨by omega, by omega, this.2.2⟩
      · have h1 := jlt p z
        have h2 := hj p z
        exact ⟨by omega, by omega, by omega⟩
    · obtain ⟨q, hq, rfl⟩ := List.mem_map.mp z
      have := hw q hq
      exact ⟨by show m + q.1 < m + n; omega, by show m + q.2 < m + n; omega, by show m + q.1 ≠ m + q.2; omega⟩
  · rcases List.mem_append.mp hp with z | z
    · rcases List.mem_append.mp z with z | z
      · have := h.ok p z
        rw [oldD _ this.1, oldD _ this.2.1]
        exact h.nb p z
      · have h1 := jlt p z
        have h2 := hj p z
        rw [oldD _ h1, getD_lt h2.1, show p.2 = m + (p.2 - m) by omega, newD _ (by omega)]
        exact ⟨by omega, by omega⟩
    · obtain ⟨q, hq, rfl⟩ := List.mem_map.mp z
      have := hw q hq
      rw [show (shiftP m q).1 = m + q.1 from rfl, show (shiftP m q).2 = m + q.2 from rfl, newD _ this.1, newD _ this.2.1]
      exact ⟨by omega, by omega⟩
theorem row_named {n : Nat} {ps qs : List (Nat × Nat)} {hs J names led : List Nat} (h : RowIs n ps hs J) (hp : names.Perm (List.range n)) (hq : qs.Perm ps) (hl : led.length = n) (hled : ∀ x, x < n → led[names.getD x 0]? = hs[x]?) :
    RowIs n (qs.map (reName names)) led J := by
  have back : ∀ a, a < n → ∃ x, x < n ∧ names.getD x 0 = a := fun a ha => by
    have hm : a ∈ names := hp.mem_iff.mpr (List.mem_range.mpr ha)
    obtain ⟨x, hx⟩ := List.getElem?_of_mem hm
    have hl2 : names.length = n := by rw [hp.length_eq, List.length_range]
    exact ⟨x, by rw [← hl2]; exact (List.getElem?_eq_some_iff.mp hx).1, getD_lt hx⟩
  refine ⟨hl, fun x hx => ?_, fun p hp2 => ?_, fun S a b p ha hb hS => ?_, fun T => ?_, h.jn, fun p hp2 => ?_, fun p hp2 => ?_⟩
  · obtain ⟨a, ha⟩ := List.getElem?_of_mem hx
    have hal := (List.getElem?_eq_some_iff.mp ha).1
    obtain ⟨y, hy, rfl⟩ := back a (by omega)
    rw [hled y hy] at ha
    exact h.le x (List.mem_of_getElem? ha)
  · obtain ⟨x, hx⟩ := List.getElem?_of_mem (h.ne p hp2)
    have hxl := (List.getElem?_eq_some_iff.mp hx).1
    rw [h.len] at hxl
    rw [← hled x hxl] at hx
    exact List.mem_of_getElem? hx
  · have hal := (List.getElem?_eq_some_iff.mp ha).1
    have hbl := (List.getElem?_eq_some_iff.mp hb).1
    obtain ⟨x, hx, rfl⟩ := back a (by omega)
    obtain ⟨y, hy, rfl⟩ := back b (by omega)
    rw [hled x hx] at ha
    rw [hled y hy] at hb
    rw [cutN_name, cutN_perm _ hq]
    exact h.thick _ x y p ha hb hS
  · rw [cutN_name, cutN_perm _ hq, ← h.cut T]
    refine cutN_cong fun p hp2 => ?_
    have := h.ok p hp2
    have e : ∀ x, x < n → led.getD (names.getD x 0) 0 = hs.getD x 0 := fun x hx => by
      have := hled x hx
      generalize names.getD x 0 = y at this
      rw [List.getD_eq_getElem?_getD, List.getD_eq_getElem?_getD, this]
    rw [e _ this.1, e _ this.2.1]
    exact ⟨rfl, rfl⟩
  · obtain ⟨q, hq2, rfl⟩ := List.mem_map.mp hp2
    have := h.ok q (hq.mem_iff.mp hq2)
    have a1 := name_at hp this.1
    have a2 := name_at hp this.2.1
    have hne : names.getD q.1 0 ≠ names.getD q.2 0 := fun e => by
      have := a1.2.2
      rw [e, a2.2.2] at this
      omega
    unfold reName
    dsimp only
    refine ⟨by have := a1.2.1; have := a2.2.1; omega, by have := a1.2.1; have := a2.2.1; omega, by omega⟩
  · obtain ⟨q, hq2, rfl⟩ := List.mem_map.mp hp2
    have h1 := h.ok q (hq.mem_iff.mp hq2)
    have h2 := h.nb q (hq.mem_iff.mp hq2)
    have e : ∀ x, x < n → led.getD (names.getD x 0) 0 = hs.getD x 0 := fun x hx => by
      have := hled x hx
      generalize names.getD x 0 = y at this
      rw [List.getD_eq_getElem?_getD, List.getD_eq_getElem?_getD, this]
    rw [← e _ h1.1, ← e _ h1.2.1] at h2
    unfold reName
    dsimp only
    rcases Nat.le_total (names.getD q.1 0) (names.getD q.2 0) with z | z
    · rw [Nat.min_eq_left z, Nat.max_eq_right z]
      exact h2
    · rw [Nat.min_eq_right z, Nat.max_eq_left z]
      exact ⟨h2.2, h2.1⟩
/-! ### what rows ask -/
theorem row_ge {n : Nat} {ts : List Tie} {hs J : List Nat} (h : RowIs n ts hs J) {S : Nat → Bool} {a b p q : Nat} (ha : hs[a]? = some p) (hb : hs[b]? = some q) (hS : S a ≠ S b) : 3 ≤ cutN S ts ∨ ∃ r j, min p q ≤ r ∧ r < max p q ∧ J[r]? = some j ∧ j ≤ cutN S ts := by
  by_cases hc : ∀ x y r, hs[x]? = some r → hs[y]? = some r → S x = S y
  · refine .inr ?_
    have idx : ∀ {x r : Nat}, hs[x]? = some r → S x = S (hs.idxOf r) := fun {x r} hx => by
      refine hc x _ r hx ?_
      have hm := List.mem_of_getElem? hx
      have h1 := List.idxOf_lt_length_iff.mpr hm
      rw [List.getElem?_eq_getElem h1, List.getElem_idxOf h1]
    have e : cutN S ts = jcut (fun r => S (hs.idxOf r)) 0 J := by
      rw [← h.cut]
      refine cutN_cong fun t ht => ?_
      have := h.ok t ht
      have g : ∀ x, x < n → hs[x]? = some (hs.getD x 0) := fun x hx => by
        rw [List.getD_eq_getElem?_getD, List.getElem?_eq_getElem (by rw [h.len]; exact hx)]
        rfl
      exact ⟨idx (g _ this.1), idx (g _ this.2.1)⟩
    have hT : S (hs.idxOf p) ≠ S (hs.idxOf q) := by
      rw [← idx ha, ← idx hb]
      exact hS
    have hpq : p ≠ q := fun z => hT (by rw [z])
    have hT2 : (fun r => S (hs.idxOf r)) (min p q) ≠ (fun r => S (hs.idxOf r)) (min p q + (max p q - min p q)) := by
      rw [show min p q + (max p q - min p q) = max p q by omega]
      rcases Nat.le_total p q with z | z
      · rw [Nat.min_eq_left z, Nat.max_eq_right z]
        exact hT
      · rw [Nat.min_eq_right z, Nat.max_eq_left z]
        exact fun y => hT y.symm
    obtain ⟨r, r1, r2, r3⟩ := switch (fun r => S (hs.idxOf r)) _ _ hT2
    have hpl := h.le p (List.mem_of_getElem? ha)
    have hql := h.le q (List.mem_of_getElem? hb)
    have hr : r < J.length := by omega
    refine ⟨r, J[r], r1, by omega, List.getElem?_eq_getElem hr, ?_⟩
    rw [e]
    exact jcut_ge _ J 0 r _ (List.getElem?_eq_getElem hr) (by simpa using r3)
  · refine .inl ?_
    have : ∃ x y r, hs[x]? = some r ∧ hs[y]? = some r ∧ S x ≠ S y := Classical.byContradiction fun z => hc fun x y r h1 h2 => Classical.byContradiction fun w => z ⟨x, y, r, h1, h2, w⟩
    obtain ⟨x, y, r, h1, h2, h3⟩ := this
    exact h.thick S x y r h1 h2 h3
theorem row_step {n : Nat} {ts : List Tie} {hs J : List Nat} (h : RowIs n ts hs J) {r j : Nat} (hj : J[r]? = some j) : cutN (fun x => decide (hs.getD x 0 ≤ r)) ts = j := by
  rw [h.cut fun x => decide (x ≤ r)]
  exact jcut_step r J 0 r j hj (by omega)
theorem mem_slice {J : List Nat} {lo hi x : Nat} : x ∈ (J.drop lo).take (hi - lo) ↔ ∃ r, lo ≤ r ∧ r < hi ∧ J[r]? = some x := by
  constructor
  · intro h
    obtain ⟨k, hk⟩ := List.getElem?_of_mem h
    rw [List.getElem?_take] at hk
    split at hk
    · rw [List.getElem?_drop] at hk
      exact ⟨lo + k, by omega, by omega, hk⟩
    · cases hk
  · rintro ⟨r, h1, h2, h3⟩
    refine List.mem_of_getElem? (i := r - lo) ?_
    rw [List.getElem?_take, if_pos (by omega), List.getElem?_drop, show lo + (r - lo) = r by omega]
    exact h3
theorem row_due {n : Nat} {ts : List Tie} {hs J : List Nat} (h : RowIs n ts hs J) {a b p q d : Nat} (ha : hs[a]? = some p) (hb : hs[b]? = some q) (hab : a ≠ b)
    (hd : d ∈ 3 :: (J.drop (min p q)).take (max p q - min p q)) (hle : ∀ y ∈ 3 :: (J.drop (min p q)).take (max p q - min p q), d ≤ y) : IsFew ts a b d := by
  have h3 : d ≤ 3 := hle 3 (List.mem_cons_self ..)
  refine ⟨h3, fun S x y => ?_, fun e => ?_⟩
  · rcases row_ge h ha hb (S := S) (by rw [x, y]; decide) with z | ⟨r, j, r1, r2, r3, r4⟩
    · omega
    · have := hle j (List.mem_cons_of_mem _ (mem_slice.mpr ⟨r, r1, r2, r3⟩))
      omega
  · rcases List.mem_cons.mp hd with z | z
    · omega
    · obtain ⟨r, r1, r2, r3⟩ := mem_slice.mp z
      have hc := row_step h r3
      rcases Nat.le_total p q with z | z
      · refine ⟨_, ?_, ?_, hc⟩
        · show decide (hs.getD a 0 ≤ r) = true
          rw [getD_lt ha]
          exact decide_eq_true (by omega)
        · show decide (hs.getD b 0 ≤ r) = false
          rw [getD_lt hb]
          exact decide_eq_false (by omega)
      · refine ⟨fun x => !decide (hs.getD x 0 ≤ r), ?_, ?_, by rw [cutN_neg]; exact hc⟩
        · show (!decide (hs.getD a 0 ≤ r)) = true
          rw [getD_lt ha, decide_eq_false (by omega)]
          rfl
        · show (!decide (hs.getD b 0 ≤ r)) = false
          rw [getD_lt hb, decide_eq_true (by omega)]
          rfl
theorem row_joi {n : Nat} {ts : List Tie} {hs J : List Nat} (h : RowIs n ts hs J) : Joi n ts := fun S ⟨a, ha, ea⟩ ⟨b, hb, eb⟩ => by
  have g : ∀ x, x < n → hs[x]? = some (hs.getD x 0) := fun x hx => by
    rw [List.getD_eq_getElem?_getD, List.getElem?_eq_getElem (by rw [h.len]; exact hx)]
    rfl
  have hp : 0 < cutN S ts := by
    rcases row_ge h (g a ha) (g b hb) (S := S) (by rw [ea, eb]; decide) with z | ⟨r, j, _, _, r3, r4⟩
    · omega
    · have := (h.jn j (List.mem_of_getElem? r3)).1
      omega
  refine Classical.byContradiction fun hno => ?_
  rw [cutN_zero fun p hp => Classical.byContradiction fun e => hno ⟨p, hp, e⟩] at hp
  omega
theorem row_thin {n : Nat} {ts : List Tie} {hs J : List Nat} (h : RowIs n ts hs J) (hn : 1 ≤ n) (h3 : ∀ (p : Nat) (S : Nat → Bool), 1 ≤ p → p < n → S 0 = true → S p = false → 3 ≤ cutN S ts) : J.filter (fun j => decide (j < 3)) = [] := by
  refine List.filter_eq_nil_iff.mpr fun j hj hlt => ?_
  have hlt := of_decide_eq_true hlt
  obtain ⟨r, hr⟩ := List.getElem?_of_mem hj
  have hrl := (List.getElem?_eq_some_iff.mp hr).1
  have hc := row_step h hr
  obtain ⟨a, ha⟩ := List.getElem?_of_mem (h.ne r (by omega))
  obtain ⟨b, hb⟩ := List.getElem?_of_mem (h.ne (r + 1) (by omega))
  have hal := (List.getElem?_eq_some_iff.mp ha).1
  have hbl := (List.getElem?_eq_some_iff.mp hb).1
  rw [h.len] at hal hbl
  have ea : decide (hs.getD a 0 ≤ r) = true := by rw [getD_lt ha]; exact decide_eq_true (by omega)
  have eb : decide (hs.getD b 0 ≤ r) = false := by rw [getD_lt hb]; exact decide_eq_false (by omega)
  cases e0 : decide (hs.getD 0 0 ≤ r) with
  | true =>
    have hb0 : b ≠ 0 := fun z => by rw [z, e0] at eb; cases eb
    have := h3 b (fun x => decide (hs.getD x 0 ≤ r)) (by omega) hbl e0 eb
    omega
  | false =>
    have ha0 : a ≠ 0 := fun z => by rw [z, e0] at ea; cases ea
    have := h3 a (fun x => !decide (hs.getD x 0 ≤ r)) (by omega) hal (by show (!decide (hs.getD 0 0 ≤ r)) = true; rw [e0]; rfl) (by show (!decide (hs.getD a 0 ≤ r)) = false; rw [ea]; rfl)
    rw [cutN_neg] at this
    omega
theorem row_thick {n : Nat} {ts : List Tie} {hs J : List Nat} (h : RowIs n ts hs J) {S : Nat → Bool} {a b : Nat} (ha : a < n) (hb : b < n) (hS : S a ≠ S b) (hf : cutN S ts < 3) : J.filter (fun j => decide (j < 3)) ≠ [] := fun z => by
  have g : ∀ x, x < n → hs[x]? = some (hs.getD x 0) := fun x hx => by
    rw [List.getD_eq_getElem?_getD, List.getElem?_eq_getElem (by rw [h.len]; exact hx)]
    rfl
  rcases row_ge h (g a ha) (g b hb) hS with y | ⟨r, j, _, _, r3, r4⟩
  · omega
  · exact List.filter_eq_nil_iff.mp z j (List.mem_of_getElem? r3) (decide_eq_true (by omega))
end BV

namespace BV
open PySem L2 RZ
abbrev sRow : Stmt := top 44
abbrev nRow : List Str := ["_law_cup_here", "_law_many", "_law_pairs", "_law_homes", "_law_joints", "_law_part", "_law_web", "_law_names", "_law_led", "_law_place", "_law_home", "_law_size", "_law_own", "_law_turn", "_law_one", "_law_other"]
abbrev pRow : List Str := ["_law_cup_here"]
theorem scRow : FnScope nRow pRow (defScope sRow) := ⟨rfl, rfl, rfl, by decide +kernel, rfl, by decide +kernel, by decide +kernel⟩
theorem OwC.prm {b g : Addr} {H0 H : Hp} {as bs : List (Addr × List V)} (O : OwC b g H0 H as) (h : bs.Perm as) : OwC b g H0 H bs :=
  ⟨O.kp, O.bx, fun p hp => O.hold p (h.mem_iff.mp hp), fun p hp => O.fr p (h.mem_iff.mp hp), fun p hp => O.ne p (h.mem_iff.mp hp), (h.map _).nodup_iff.mpr O.nd⟩
def RowS (i m : Nat) (ps : List (Nat × Nat)) (hs js : List Nat) : Prop := (i = 0 ∧ m = 0 ∧ ps = [] ∧ hs = [] ∧ js = []) ∨ ∃ (J pre : List Nat) (sz : Nat), i = J.length + 1 ∧ js = 0 :: J ∧ hs = pre ++ List.replicate sz J.length ∧ J.length ∉ pre ∧ 1 ≤ sz ∧ RowIs m ps hs J
theorem rowS_ok {i m : Nat} {ps : List (Nat × Nat)} {hs js : List Nat} (h : RowS i m ps hs js) : (∀ p ∈ ps, p.1 < m ∧ p.2 < m ∧ p.1 ≠ p.2) ∧ hs.length = m ∧ js.length = i := by
  rcases h with ⟨rfl, rfl, rfl, rfl, rfl⟩ | ⟨J, pre, sz, rfl, rfl, rfl, _, _, h⟩
  · exact ⟨fun p hp => (by cases hp), rfl, rfl⟩
  · exact ⟨h.ok, h.len, rfl⟩
/-- what a turn adds -/
def JoinOk (i m n : Nat) (hs : List Nat) (q : Nat × Nat) : Prop := i ≠ 0 ∧ hs[q.1]? = some (i - 1) ∧ m ≤ q.2 ∧ q.2 < m + n
theorem rowS_add {i m n : Nat} {ps js own : List (Nat × Nat)} {hs jn : List Nat} (h : RowS i m ps hs jn) (hn : 1 ≤ n) (h3 : T3 n own) (hw : WOkP n own) (hj : ∀ q ∈ js, JoinOk i m n hs q) (hl : i ≠ 0 → 1 ≤ js.length) (hl4 : js.length ≤ 4) :
    RowS (i + 1) (m + n) (ps ++ js ++ own.map (shiftP m)) (hs ++ List.replicate n i) (jn ++ [js.length]) := by
  rcases h with ⟨rfl, rfl, rfl, rfl, rfl⟩ | ⟨J, pre, sz, rfl, rfl, hhs, hpre, hsz, h⟩
  · have : js = [] := by
      cases js with
      | nil => rfl
      | cons q js => exact absurd rfl (hj q (List.mem_cons_self ..)).1
    subst this
    refine .inr ⟨[], [], n, rfl, rfl, rfl, by simp, hn, ?_⟩
    rw [Nat.zero_add]
    exact row_first hn h3 hw
  · refine .inr ⟨J ++ [js.length], hs, n, by rw [List.length_append]; rfl, rfl, by rw [List.length_append]; rfl, fun z => ?_, hn, ?_⟩
    · have := h.le _ z
      rw [List.length_append, List.length_singleton] at this
      omega
    · exact row_add h hn h3 hw (fun q hq => ⟨(hj q hq).2.1, (hj q hq).2.2⟩) ⟨hl (by omega), hl4⟩
theorem count_cast (k : Nat) : ∀ hs : List Nat, (hs.map fun (x : Nat) => (x : Int)).count (k : Int) = hs.count k
  | [] => rfl
  | x :: hs => by
    rw [List.map_cons, List.count_cons, List.count_cons, count_cast k hs]
    congr 1
    have e : (((x : Nat) : Int) == (k : Int)) = (x == k) := by
      rw [Bool.eq_iff_iff, beq_iff_eq, beq_iff_eq]
      omega
    rw [e]
theorem cut_nats {l : List Nat} {lo hi : Nat} (h : hi ≤ l.length) (h2 : lo ≤ hi) : cutV (natsV l) (some (lo : Int)) (some (hi : Int)) = natsV ((l.drop lo).take (hi - lo)) := by
  unfold cutV
  rw [HT.sIx_nat, HT.sIx_nat, natsV_len, Nat.min_eq_left h, Nat.min_eq_left (by omega)]
  unfold natsV
  rw [List.map_take, List.map_drop]
theorem cut_tail (x : Nat) (l : List Nat) : cutV (natsV (x :: l)) (some 1) none = natsV l := by
  unfold cutV
  have e : HT.sIx (natsV (x :: l)).length 0 (some 1) = 1 := by
    have := HT.sIx_nat (natsV (x :: l)).length 0 1
    rw [natsV_len, List.length_cons] at this ⊢
    exact this.trans (by omega)
  rw [e, HT.sIx_none]
  show (natsV l).take _ = _
  rw [List.take_of_length_le]
  rw [natsV_len, natsV_len, List.length_cons]
  omega
theorem rep_flat (n i : Nat) : (List.replicate n [V.int (0 + (i : Int))]).flatten = natsV (List.replicate n i) := by
  induction n with
  | zero => rfl
  | succ n ih =>
    rw [List.replicate_succ, List.replicate_succ, List.flatten_cons, ih, Int.zero_add]
    rfl
theorem count_out {k : Nat} {l : List Nat} (h : k ∉ l) : l.count k = 0 := List.count_eq_zero_of_not_mem h
def spRow (K : PySem.W.Frag) : Sp := fun vs H Q _ => ∃ (b g : Addr), vs = [.ref b] ∧ Cup H b g ∧
  ∀ (p a hl jl : Addr) (n : Nat) (ts : List Tie) (led J : List Nat) H', OwC b g H H' [(hl, natsV led), (jl, natsV J)] → SqT K H' p [.ref a, .ref hl, .ref jl] → Dp K H' (.ref a) (webD n ts) →
    1 ≤ n → n ≤ 12 → ts.length ≤ 44 → (∀ t ∈ ts, t.1 < t.2 ∧ t.2 < n) → J.length ≤ 3 → RowIs n ts led J → Q (.ref p) H'
theorem tRng_by {ta : TA} {g : TG} {tb : TS} {D : Ends} {σ : St} {H : Hp} (N : Int → Hp → Prop) (hN : ∀ j H', N j H' → -(2 ^ 62) ≤ j ∧ j < 2 ^ 62) (h : ∀ R : List V → Hp → Prop, (∀ j H', N j H' → R [.int j] H') → ta σ H R)
    (cont : ∀ j H', N j H' → ∃ W : Nat → Nat → St → Hp → Prop, (∃ m, W 0 m σ H') ∧ ∀ i m σ H, W i m σ H →
      ((Itr 0 j.toNat).stop i H ∧ D.nx σ H) ∨ ((Itr 0 j.toNat).go i H ∧ ∃ N : St → Hp → Prop, (∀ σ' H', N σ' H' → ∃ m', m' < m ∧ W (i + 1) m' σ' H') ∧ ∀ x H', (Itr 0 j.toNat).yld i H x H' → g x σ H' fun σ2 H2 => tb { D with nx := N, ct := N, bk := D.nx } σ2 H2)) : tFor (iRng1 ta) g tb D σ H :=
  h _ fun j H' n => ⟨j, rfl, (hN j H' n).1, (hN j H' n).2, cont j H' n⟩
section
variable {P : Program} {w : World} {K : PySem.W.Frag} {mg : Str → Option Value} {base : Heap}
theorem ok_row {f f1 f2 f3 : Addr} {fd fd1 fd2 fd3 : FuncData} (D : Df K mg "_law_row" sRow pRow f fd) (T : Bl mg) (hlist : mg "list" = none) (D_draw : Df K mg "_law_draw" sDraw pDraw f1 fd1) (D_tpairs : Df K mg "_law_thick_pairs" sTpairs pTpairs f2 fd2) (D_named : Df K mg "_law_named" sNamed pNamed f3 fd3) : FnOk P w K mg base CX0 3 f fd pRow (spRow K) := by
  have G_draw : FnOk P w K mg base CX0 1 f1 fd1 pDraw spDrawC := ok_draw D_draw T
  have G_tpairs : FnOk P w K mg base CX0 2 f2 fd2 pTpairs (spTpairs K) := ok_tpairs D_tpairs T hlist D_draw
  have G_named : FnOk P w K mg base CX0 2 f3 fd3 pNamed (spNamed K) := ok_named D_named T hlist D_draw
  refine D.fn.ok scRow (fun vs H Q E h => ?_) (fun cdv A outer s H vs Q E hr h => ?_)
  · obtain ⟨b, g, rfl, _⟩ := h
    rfl
  · obtain ⟨b, g, rfl, hB, k⟩ := h
    have nd := scRow.nd
    have hr_draw : Room 1 _ := hr.mono (by decide)
    have hr_tpairs : Room 2 _ := hr
    have hr_named : Room 2 _ := hr
    refine ⟨_, (pss_cons (ps_asg (pe_tup (pa_cons pe_int (pa_cons (pe_lst pa_nil) (pa_cons (pe_lst pa_nil) (pa_cons (pe_lst pa_nil) pa_nil))))) (pgT K rfl (pgs_cons (pg_name (i := 1) nd rfl (by first | exact Or.inl rfl | exact Or.inr rfl)) (pgs_cons (pg_name (i := 2) nd rfl (by first | exact Or.inl rfl | exact Or.inr rfl)) (pgs_cons (pg_name (i := 3) nd rfl (by first | exact Or.inl rfl | exact Or.inr rfl)) (pgs_cons (pg_name (i := 4) nd rfl (by first | exact Or.inl rfl | exact Or.inr rfl)) pgs_nil))))))
      (pss_cons (ps_for PassesOwn.never rfl (pi_range1 rfl T.range (pa_cons (pe_op op_add pe_int (pe_call G_draw hr_draw (by rfl) D_draw.ad D_draw.fn.kp D_draw.bd .nil pass0 (pa_cons (pv 0) (pa_cons pe_int pa_nil)))) pa_nil)) (pg_name (i := 5) nd rfl (by first | exact Or.inl rfl | exact Or.inr rfl)) (pss_cons (ps_asg (pe_call G_tpairs hr_tpairs (by rfl) D_tpairs.ad D_tpairs.fn.kp D_tpairs.bd .nil pass0 (pa_cons (pv 0) (pa_cons (pe_ifExp (pt_cmpR op_lt (pv 5) pe_int (nomark _)) pe_int (pe_op op_sub pe_int (pv 1))) (pa_cons pe_int pa_nil)))) (pgT K rfl (pgs_cons (pg_name (i := 11) nd rfl (by first | exact Or.inl rfl | exact Or.inr rfl)) (pgs_cons (pg_name (i := 12) nd rfl (by first | exact Or.inl rfl | exact Or.inr rfl)) pgs_nil))))
      (pss_cons (ps_for PassesOwn.never rfl (pi_range1 rfl T.range (pa_cons (pe_ifExp (pt_cmpR op_gt (pv 5) pe_int (nomark _)) (pe_op op_add pe_int (pe_call G_draw hr_draw (by rfl) D_draw.ad D_draw.fn.kp D_draw.bd .nil pass0 (pa_cons (pv 0) (pa_cons pe_int pa_nil)))) pe_int) pa_nil)) (pg_name (i := 13) nd rfl (by first | exact Or.inl rfl | exact Or.inr rfl)) (pss_one (ps_expr (pe_bm PySem.F.plainAttrs_list PySem.F.slot_list_append PySem.F.type_list_append mt_append (pv 2) (pa_cons (pe_tup (pa_cons (pe_op op_add (pe_bm PySem.F.plainAttrs_list PySem.F.slot_list_index PySem.F.type_list_index mt_index (pv 3) (pa_cons (pe_op op_sub (pv 5) pe_int) pa_nil)) (pe_call G_draw hr_draw (by rfl) D_draw.ad D_draw.fn.kp D_draw.bd .nil pass0 (pa_cons (pv 0) (pa_cons (pe_bm PySem.F.plainAttrs_list PySem.F.slot_list_count PySem.F.type_list_count mt_lcount (pv 3) (pa_cons (pe_op op_sub (pv 5) pe_int) pa_nil)) pa_nil)))) (pa_cons (pe_op op_add (pv 1) (pe_call G_draw hr_draw (by rfl) D_draw.ad D_draw.fn.kp D_draw.bd .nil pass0 (pa_cons (pv 0) (pa_cons (pv 11) pa_nil)))) pa_nil))) pa_nil)))))
      (pss_cons (ps_expr (pe_bm PySem.F.plainAttrs_list PySem.F.slot_list_append PySem.F.type_list_append mt_append (pv 4) (pa_cons (pe_callB (lenK K) (by rfl) T.len PySem.boot_len (pa_cons (pe_lc (own := [("_law_one", 14), ("_law_other", 15)]) (g := (gTup K 2 (gCons (gName 14) (gCons (gName 15) gNil)))) rfl nd (piL K (pv 2)) (blkOk_by (own := [("_law_one", 14), ("_law_other", 15)]) (N := nRow) (sc := defScope sRow) (by decide +kernel)) (fun _ _ _ _ _ => (pgT K rfl (pgs_cons (pg_name (i := 14) nd rfl (by first | exact Or.inl rfl | exact Or.inr rfl)) (pgs_cons (pg_name (i := 15) nd rfl (by first | exact Or.inl rfl | exact Or.inr rfl)) pgs_nil)))) (fun _ _ _ _ _ => (pts_one (pt_cmpR op_ge (pv 15) (pv 1) (nomark _)))) (fun _ _ _ _ _ => pe_int)) pa_nil)) pa_nil)))
      (pss_cons (ps_par (i := 2) (j := 3) (by rfl) nd rfl rfl (by decide) rfl rfl (pa_cons (pe_op op_cat (pv 2) (pe_lc (own := [("_law_one", 14), ("_law_other", 15)]) (g := (gTup K 2 (gCons (gName 14) (gCons (gName 15) gNil)))) (tt := tYes) rfl nd (piL K (pv 12)) (blkOk_by (own := [("_law_one", 14), ("_law_other", 15)]) (N := nRow) (sc := defScope sRow) (by decide +kernel)) (fun _ _ _ _ _ => (pgT K rfl (pgs_cons (pg_name (i := 14) nd rfl (by first | exact Or.inl rfl | exact Or.inr rfl)) (pgs_cons (pg_name (i := 15) nd rfl (by first | exact Or.inl rfl | exact Or.inr rfl)) pgs_nil)))) (fun _ _ _ _ _ => pts_nil) (fun _ _ _ _ _ => (pe_tup (pa_cons (pe_op op_add (pv 1) (pv 14)) (pa_cons (pe_op op_add (pv 1) (pv 15)) pa_nil)))))) (pa_cons (pe_op op_cat (pv 3) (pe_op op_rep (pe_lst (pa_cons (pv 5) pa_nil)) (pv 11))) pa_nil)) (by rfl))
      (pss_one (ps_set (i := 1) nd rfl (by first | exact Or.inl rfl | exact Or.inr rfl) (pe_op op_add (pv 1) (pv 11)))))))))
      (pss_cons (ps_asg (pe_call G_named hr_named (by rfl) D_named.ad D_named.fn.kp D_named.bd .nil pass0 (pa_cons (pv 0) (pa_cons (pv 1) (pa_cons (pv 2) pa_nil)))) (pgT K rfl (pgs_cons (pg_name (i := 6) nd rfl (by first | exact Or.inl rfl | exact Or.inr rfl)) (pgs_cons (pg_name (i := 7) nd rfl (by first | exact Or.inl rfl | exact Or.inr rfl)) pgs_nil))))
      (pss_cons (ps_set (i := 8) nd rfl (by first | exact Or.inl rfl | exact Or.inr rfl) (pe_op op_rep (pe_lst (pa_cons pe_int pa_nil)) (pv 1)))
      (pss_cons (ps_for PassesOwn.never rfl (pi_enum (by rfl) T.enumerate (pa_cons (pv 3) pa_nil)) (pgT K rfl (pgs_cons (pg_name (i := 9) nd rfl (by first | exact Or.inl rfl | exact Or.inr rfl)) (pgs_cons (pg_name (i := 10) nd rfl (by first | exact Or.inl rfl | exact Or.inr rfl)) pgs_nil))) (pss_one (ps_asg (pv 10) (pg_sub (pv 8) (pe_ix (ixL K) (pv 7) (pv 9) (fun _ _ => rfl)) set_list))))
      (pss_one (ps_ret (pe_tup (pa_cons (pv 6) (pa_cons (pv 8) (pa_cons (pe_slice (slL K) (pv 4) (po_some pe_int) po_none) pa_nil))))))))))), ?_⟩
    have O : OwC b g H H [] := OwC.zero hB
    refine tSeq_go ?_
    refine ⟨Nat.zero_le _, fun pl hpl => ?_⟩
    have O := O.new (xs := []) hpl
    generalize upd H pl (.lst []) = H1 at *
    refine ⟨Nat.zero_le _, fun hl hhl => ?_⟩
    have O := O.new (xs := []) hhl
    generalize upd H1 hl (.lst []) = H2 at *
    refine ⟨Nat.zero_le _, fun jl hjl => ?_⟩
    have O := O.new (xs := []) hjl
    generalize upd H2 jl (.lst []) = H3 at *
    refine ⟨by show 4 ≤ sizeLine; decide, fun tp htp => ?_⟩
    have O := O.same (same_new (o := .tup [.int 0, .ref pl, .ref hl, .ref jl]) htp)
    refine ⟨tp, _, rfl, SqT.of upd_same, rfl, _, _, rfl, _, _, rfl, _, _, rfl, _, _, rfl, rfl, ?_⟩
    generalize upd H3 tp (.tup [.int 0, .ref pl, .ref hl, .ref jl]) = H4 at *
    refine at_st [some (.ref b), some (.int 0), some (.ref pl), some (.ref hl), some (.ref jl), none, none, none, none, none, none, none, none, none, none, none] rfl ?_
    dsimp only
    refine tSeq_go ?_
    refine ⟨_, rfl, b, g, 4, rfl, by decide, by decide, O.bx, fun r H5 r0 r1 kp5 B5 => ?_⟩
    have O := O.draw kp5 B5
    refine ⟨_, _, rfl, rfl, _, rfl, by omega, by omega, ?_⟩
    refine for_range (lo := 0) (n := (1 + r).toNat) (fun i σ Hc => ∃ (v5 v11 v12 v13 v14 v15 : Option V) (m : Nat) (pl hl jl : Addr) (xs : List V) (ps : List (Nat × Nat)) (hs js : List Nat), σ = [some (.ref b), some (.int m), some (.ref pl), some (.ref hl), some (.ref jl), v5, none, none, none, none, none, v11, v12, v13, v14, v15] ∧
      OwC b g H Hc [(jl, natsV js), (hl, natsV hs), (pl, xs)] ∧ DpAll K Hc xs (ps.map stepD) ∧ RowS i m ps hs js ∧ m ≤ 12 ∧ (i ≤ 3 → m ≤ 3 * i) ∧ ps.length ≤ 11 * i) ?_ ?_ ?_
    · exact ⟨none, none, none, none, none, none, 0, pl, hl, jl, [], [], [], [], rfl, O, .nil, .inl ⟨rfl, rfl, rfl, rfl, rfl⟩, by decide, fun _ => Nat.le_refl _, Nat.le_refl _⟩
    · clear O
      rintro i σ H6 hi ⟨v5, v11, v12, v13, v14, v15, m, pl, hl, jl, xs, ps, hs, js, rfl, O, hxs, hRS, hm12, hm3, hpl⟩
      have hxl : xs.length = ps.length := by rw [dpAll_len hxs, List.length_map]
      have hi4 : i < 4 := by omega
      show tSeq _ _ _ _ _
      dsimp only [gName]
      refine at_st [some (.ref b), some (.int m), some (.ref pl), some (.ref hl), some (.ref jl), some (.int (0 + (i : Int))), none, none, none, none, none, v11, v12, v13, v14, v15] rfl ?_
      refine tSeq_go ?_
      refine tAsg_by (fun u H' => ∃ (tp ol : Addr) (n : Nat) (os : List V) (own : List (Nat × Nat)), u = .ref tp ∧ SqT K H' tp [.int n, .ref ol] ∧ OwC b g H H' [(ol, os), (jl, natsV js), (hl, natsV hs), (pl, xs)] ∧ DpAll K H' xs (ps.map stepD) ∧ DpAll K H' os (own.map stepD) ∧ 1 ≤ n ∧ m + n ≤ 12 ∧ (i < 3 → n ≤ 3) ∧ own.length ≤ 7 ∧ WOkP n own ∧ T3 n own) ?_ (fun cont => ?_)
      rotate_left
      · refine ⟨_, rfl, _, rfl, _, _, rfl, rfl, _, rfl, ite2 (fun h1 => ?_) (fun h1 => ?_)⟩
        · have h1 : (0 : Int) + (i : Int) < 3 := of_decide_eq_true h1
          have := hm3 (by omega)
          exact ⟨b, g, 3, 7, rfl, by decide, by decide, by decide, O.bx, fun tp ol n os own H7 kp7 B7 hsq hol nb ng hno hos h1n h2n h3n h4n h5n => cont _ _ ⟨tp, ol, n, os, own, rfl, hsq, OwC.add O hno kp7 B7 hol, dpAll_kf (KF.of_kpC kp7 O.bx) _ (still_steps ps) hxs, hos, h1n, by omega, fun _ => h2n, h3n, h4n, h5n⟩⟩
        · have h1 : ¬ (0 : Int) + (i : Int) < 3 := fun z => h1 (decide_eq_true z)
          have := hm3 (by omega)
          refine ⟨_, rfl, _, _, rfl, rfl, b, g, 12 - m, 7, ?_, by omega, by omega, by decide, O.bx, fun tp ol n os own H7 kp7 B7 hsq hol nb ng hno hos h1n h2n h3n h4n h5n => cont _ _ ⟨tp, ol, n, os, own, rfl, hsq, OwC.add O hno kp7 B7 hol, dpAll_kf (KF.of_kpC kp7 O.bx) _ (still_steps ps) hxs, hos, h1n, by omega, fun z => absurd z (by omega), h3n, h4n, h5n⟩⟩
          show [V.ref b, V.int ((12 : Int) - (m : Int)), V.int 7] = _
          rw [show (12 : Int) - (m : Int) = ((12 - m : Nat) : Int) by omega]
          rfl
      clear O hxs
      rintro _ H7 ⟨tp, ol, n, os, own, rfl, htp, O, hxs, hos, hn1, hn12, hn3, hol7, hwo, ht3⟩
      refine ⟨tp, _, rfl, htp, rfl, _, _, rfl, _, _, rfl, rfl, ?_⟩
      dsimp only
      refine at_st [some (.ref b), some (.int m), some (.ref pl), some (.ref hl), some (.ref jl), some (.int (0 + (i : Int))), none, none, none, none, none, some (.int n), some (.ref ol), v13, v14, v15] rfl ?_
      refine tSeq_go ?_
      refine tRng_by (fun j H' => OwC b g H H' [(ol, os), (jl, natsV js), (hl, natsV hs), (pl, xs)] ∧ DpAll K H' xs (ps.map stepD) ∧ DpAll K H' os (own.map stepD) ∧ 0 ≤ j ∧ j ≤ 4 ∧ (i ≠ 0 → 1 ≤ j) ∧ (i = 0 → j = 0)) (fun j H' h => ⟨by omega, by omega⟩) (fun R cont => ?_) ?_
      · refine ⟨_, rfl, _, _, rfl, rfl, _, rfl, ite2 (fun h1 => ?_) (fun h1 => ?_)⟩
        · have h1 : (0 : Int) + (i : Int) > 0 := of_decide_eq_true h1
          refine ⟨_, rfl, b, g, 4, rfl, by decide, by decide, O.bx, fun r H8 r0 r1 kp8 B8 => ?_⟩
          refine ⟨_, _, rfl, rfl, cont _ _ ⟨O.draw kp8 B8, dpAll_kf (KF.of_kpC kp8 O.bx) _ (still_steps ps) hxs, dpAll_kf (KF.of_kpC kp8 O.bx) _ (still_steps own) hos, by omega, by omega, fun _ => by omega, fun z => absurd z (by omega)⟩⟩
        · have h1 : ¬ (0 : Int) + (i : Int) > 0 := fun z => h1 (decide_eq_true z)
          exact cont _ _ ⟨O, hxs, hos, by decide, by decide, fun z => absurd z (by omega), fun _ => rfl⟩
      clear O hxs hos
      rintro tn H8 ⟨O, hxs, hos, tn0, tn4, tn1, tnz⟩
      obtain ⟨ho1, ho2, ho3⟩ := rowS_ok hRS
      refine for_range (lo := 0) (n := tn.toNat) (fun j σ H' => ∃ (v13 : Option V) (ys : List V) (add : List (Nat × Nat)), σ = [some (.ref b), some (.int m), some (.ref pl), some (.ref hl), some (.ref jl), some (.int (0 + (i : Int))), none, none, none, none, none, some (.int n), some (.ref ol), v13, v14, v15] ∧
        OwC b g H H' [(ol, os), (jl, natsV js), (hl, natsV hs), (pl, ys)] ∧ DpAll K H' ys ((ps ++ add).map stepD) ∧ DpAll K H' os (own.map stepD) ∧ add.length = j ∧ ∀ q ∈ add, JoinOk i m n hs q) ?_ ?_ ?_
      · exact ⟨v13, xs, [], rfl, O, by rw [List.append_nil]; exact hxs, hos, rfl, fun q hq => nomatch hq⟩
      · clear O hxs hos
        rintro j σ H9 hjj ⟨v13, ys, add, rfl, O, hys, hos, hadd, haok⟩
        have hi0 : i ≠ 0 := fun z => by
          have := tnz z
          omega
        obtain ⟨J, pre, sz, hiJ, hjs, hhs, hpre, hsz, hR⟩ : ∃ (J pre : List Nat) (sz : Nat), i = J.length + 1 ∧ js = 0 :: J ∧ hs = pre ++ List.replicate sz J.length ∧ J.length ∉ pre ∧ 1 ≤ sz ∧ RowIs m ps hs J := by
          rcases hRS with ⟨z, _⟩ | z
          · exact absurd z hi0
          · exact z
        have hyl : ys.length = ps.length + add.length := by rw [dpAll_len hys, List.length_map, List.length_append]
        have hm1 : (0 : Int) + (i : Int) - 1 = (J.length : Int) := by omega
        have hnn : natsV hs = (hs.map fun (x : Nat) => (x : Int)).map V.int := by
          rw [List.map_map]
          rfl
        have hlen := hR.len
        have hszm : pre.length + sz = m := by
          rw [← hlen, hhs, List.length_append, List.length_replicate]
        dsimp only [gName]
        refine at_st [some (.ref b), some (.int m), some (.ref pl), some (.ref hl), some (.ref jl), some (.int (0 + (i : Int))), none, none, none, none, none, some (.int n), some (.ref ol), some (.int (0 + (j : Int))), v14, v15] rfl ?_
        refine ⟨_, rfl, .inl ⟨rfl, _, SqL.of (O.at0 3 rfl)⟩, ?_⟩
        have hO2 := SqL.of (K := K) (O.at0 2 rfl)
        have at1 : (natsV hs)[pre.length]? = some (.int (J.length : Int)) := by
          unfold natsV
          rw [List.getElem?_map, hhs, List.getElem?_append_right (Nat.le_refl _), Nat.sub_self, List.getElem?_replicate, if_pos (by omega)]
          rfl
        refine ⟨_, rfl, .inl ⟨rfl, _, hO2⟩, _, rfl, _, _, rfl, rfl, ?_⟩
        dsimp only
        rw [hm1]
        refine ⟨hl, natsV hs, _, pre.length, _, rfl, rfl, hO2, rfl, flat_nats hs, at1, by simp [eqV], fun q z hq hz => ?_, ?_⟩
        · obtain ⟨x, hx, rfl⟩ := get_map (f := fun (k : Nat) => V.int k) hz
          rw [hhs, List.getElem?_append_left hq] at hx
          have hne : x ≠ J.length := fun e => hpre (e ▸ List.mem_of_getElem? hx)
          have : ((x : Nat) : Int) ≠ (J.length : Int) := by omega
          simpa [eqV] using this
        refine ⟨_, rfl, _, rfl, .inl ⟨rfl, _, hO2⟩, _, rfl, _, _, rfl, rfl, ?_⟩
        dsimp only
        rw [hm1]
        refine ⟨hl, hs.map fun (x : Nat) => (x : Int), _, rfl, rfl, by rw [← hnn]; exact hO2, ?_⟩
        have hcnt : hs.count J.length = sz := by
          rw [hhs, List.count_append, count_out hpre, List.count_replicate_self, Nat.zero_add]
        rw [count_cast, hcnt]
        refine ⟨b, g, (sz : Int), rfl, by omega, by omega, O.bx, fun r Ha r0 r1 kpa Ba => ?_⟩
        obtain ⟨x, rfl⟩ : ∃ x : Nat, r = (x : Int) := ⟨r.toNat, by omega⟩
        have hys := dpAll_kf (KF.of_kpC kpa O.bx) _ (still_steps _) hys
        have hos := dpAll_kf (KF.of_kpC kpa O.bx) _ (still_steps _) hos
        have O := O.draw kpa Ba
        refine ⟨_, _, rfl, rfl, ?_⟩
        refine ⟨_, rfl, _, rfl, _, rfl, b, g, (n : Int), rfl, by omega, by omega, O.bx, fun r Hb r0 r1 kpb Bb => ?_⟩
        obtain ⟨y, rfl⟩ : ∃ y : Nat, r = (y : Int) := ⟨r.toNat, by omega⟩
        have hys := dpAll_kf (KF.of_kpC kpb O.bx) _ (still_steps _) hys
        have hos := dpAll_kf (KF.of_kpC kpb O.bx) _ (still_steps _) hos
        have O := O.draw kpb Bb
        refine ⟨_, _, rfl, rfl, by show 2 ≤ sizeLine; decide, fun q hq => ?_⟩
        dsimp only
        rw [show ((pre.length : Nat) : Int) + (x : Int) = ((pre.length + x : Nat) : Int) by omega, show ((m : Nat) : Int) + (y : Int) = ((m + y : Nat) : Int) by omega]
        have sq := same_new (o := .tup [.int ((pre.length + x : Nat) : Int), .int ((m + y : Nat) : Int)]) hq
        have hQ : (upd Hb q (.tup [.int ((pre.length + x : Nat) : Int), .int ((m + y : Nat) : Int)])) q = some (.tup [.int ((pre.length + x : Nat) : Int), .int ((m + y : Nat) : Int)]) := upd_same
        have O := O.same sq
        have hys := dpAll_same sq _ hys
        have hos := dpAll_same sq _ hos
        generalize upd Hb q (.tup [.int ((pre.length + x : Nat) : Int), .int ((m + y : Nat) : Int)]) = Hc at *
        refine ⟨pl, _, _, rfl, rfl, O.at0 3 rfl, Nat.lt_of_lt_of_le (show ys.length < 100000 by omega) (by decide), ?_⟩
        have hys := dpAll_kf (KF.of_upd (ys := ys ++ [.ref q]) (O.at0 3 rfl)) _ (still_steps _) hys
        have hos := dpAll_kf (KF.of_upd (ys := ys ++ [.ref q]) (O.at0 3 rfl)) _ (still_steps _) hos
        have qne : q ≠ pl := fun z => by
          have := O.at0 3 rfl
          rw [← z, hQ] at this
          cases this
        refine ⟨_, ys ++ [.ref q], add ++ [(pre.length + x, m + y)], rfl, O.put 3 rfl, ?_, hos, by rw [List.length_append, hadd]; rfl, fun q2 hq2 => ?_⟩
        · rw [← List.append_assoc, List.map_append]
          exact dpAll_app hys (.cons (dp_stepI (by rw [upd_ne qne]; exact hQ)) .nil)
        · rcases List.mem_append.mp hq2 with z | z
          · exact haok q2 z
          · rw [List.mem_singleton.mp z]
            refine ⟨hi0, ?_, by show m ≤ m + y; omega, by show m + y < m + n; omega⟩
            rw [hhs, List.getElem?_append_right (by show pre.length ≤ pre.length + x; omega), List.getElem?_replicate, if_pos (by show pre.length + x - pre.length < sz; omega)]
            exact congrArg some (by omega)
      · clear O hxs hos
        rintro σ H9 ⟨v13, ys, add, rfl, O, hys, hos, hadd, haok⟩
        dsimp only
        refine tSeq_go ?_
        have hyl : ys.length = (ps ++ add).length := by rw [dpAll_len hys, List.length_map]
        have hal4 : add.length ≤ 4 := by omega
        have hpa15 : (ps ++ add).length ≤ 100 := by
          rw [List.length_append]
          omega
        have hcnt : ((ps ++ add).filter fun q => decide (m ≤ q.2)) = add := by
          rw [List.filter_append, List.filter_eq_nil_iff.mpr, List.filter_eq_self.mpr, List.nil_append]
          · exact fun q hq => decide_eq_true (haok q hq).2.2.1
          · exact fun q hq e => by
              have := of_decide_eq_true e
              have := (ho1 q hq).2.1
              omega
        refine ⟨_, rfl, .inl ⟨rfl, _, SqL.of (O.at0 1 rfl)⟩, ?_⟩
        refine ⟨_, rfl, pl, rfl, ⟨_, SqL.of (O.at0 3 rfl)⟩, fun E1 hE1 => ?_⟩
        refine lc_run (walk_list (xs := ys)) hE1 (fun j acc _ => acc = List.replicate (((ps ++ add).take j).filter fun q => decide (m ≤ q.2)).length (V.int 1)) ?_ ?_ ?_ ?_
        · exact fun H' s => SqL.of (s _ _ (O.at0 3 rfl))
        · rfl
        · rintro j2 x acc Ha H' hj2 hacc e s ha ⟨rfl, hx⟩
          have ha : acc = List.replicate (((ps ++ add).take j2).filter fun q => decide (m ≤ q.2)).length (V.int 1) := ha
          obtain ⟨dd, hdd, hxd⟩ := dpAll_get hys hx
          obtain ⟨q, hq, rfl⟩ := get_map hdd
          obtain ⟨pa, rfl, hpa⟩ := dp_step hxd
          have htk : (ps ++ add).take (j2 + 1) = (ps ++ add).take j2 ++ [q] := by rw [List.take_add_one, hq]; rfl
          have hal2 : acc.length ≤ 100 := by
            rw [ha, List.length_replicate]
            refine Nat.le_trans (List.length_filter_le _ _) ?_
            rw [List.length_take]
            omega
          refine ⟨pa, _, rfl, sqT_same s hpa, rfl, _, _, rfl, _, _, rfl, rfl, rfl, ?_⟩
          refine ⟨_, rfl, _, rfl, _, _, rfl, rfl, _, rfl, ite2 (fun h1 => ?_) (fun h1 => ?_)⟩
          · have h1 : ((m : Nat) : Int) ≤ ((q.2 : Nat) : Int) := of_decide_eq_true h1
            refine lc_add hacc e (Same.refl _) (by omega) ?_
            show _ = _
            rw [htk, List.filter_append, List.filter_cons, if_pos (decide_eq_true (by omega)), List.filter_nil, List.length_append, List.length_singleton, List.replicate_succ', ha]
          · have h1 : ¬ ((m : Nat) : Int) ≤ ((q.2 : Nat) : Int) := fun z => h1 (decide_eq_true z)
            refine lc_skip hacc e (Same.refl _) ?_
            show _ = _
            rw [htk, List.filter_append, List.filter_cons, if_neg (by rw [decide_eq_false (show ¬ m ≤ q.2 by omega)]; exact Bool.false_ne_true), List.filter_nil, List.append_nil]
            exact ha
        rintro cv Ha hcv sa hcd
        have hcl : cv.length = add.length := by
          have hcd : cv = List.replicate (((ps ++ add).take ys.length).filter fun q => decide (m ≤ q.2)).length (V.int 1) := hcd
          rw [hyl, List.take_length, hcnt] at hcd
          rw [hcd, List.length_replicate]
        have O := O.same sa
        have hys := dpAll_same sa _ hys
        have hos := dpAll_same sa _ hos
        refine ⟨E1, cv, rfl, .inl (SqL.of hcv), jl, _, _, rfl, rfl, O.at0 1 rfl, Nat.lt_of_lt_of_le (show (natsV js).length < 100000 by rw [natsV_len]; omega) (by decide), ?_⟩
        rw [hcl, natsV_snoc]
        have hys := dpAll_kf (KF.of_upd (ys := natsV (js ++ [add.length])) (O.at0 1 rfl)) _ (still_steps _) hys
        have hos := dpAll_kf (KF.of_upd (ys := natsV (js ++ [add.length])) (O.at0 1 rfl)) _ (still_steps _) hos
        have O : OwC b g H _ [(ol, os), (jl, natsV (js ++ [add.length])), (hl, natsV hs), (pl, ys)] := O.put 1 rfl
        generalize upd Ha jl (.lst (natsV (js ++ [add.length]))) = Hb at *
        refine tSeq_go ?_
        refine ⟨_, rfl, _, rfl, ol, rfl, ⟨_, SqL.of (O.at0 0 rfl)⟩, fun E2 hE2 => ?_⟩
        have hosl : os.length = own.length := by rw [dpAll_len hos, List.length_map]
        refine lc_run (walk_list (xs := os)) hE2 (fun j acc Hq => DpAll K Hq acc (((own.take j).map (shiftP m)).map stepD) ∧ acc.length = j) ?_ ?_ ?_ ?_
        · exact fun H' s => SqL.of (s _ _ (O.at0 0 rfl))
        · exact ⟨by rw [List.take_zero]; exact .nil, rfl⟩
        · rintro j2 x acc Hc H' hj2 hacc e s ⟨hd, hlen⟩ ⟨rfl, hx⟩
          obtain ⟨dd, hdd, hxd⟩ := dpAll_get hos hx
          obtain ⟨q, hq, rfl⟩ := get_map hdd
          obtain ⟨pa, rfl, hpa⟩ := dp_step hxd
          refine ⟨pa, _, rfl, sqT_same s hpa, rfl, _, _, rfl, _, _, rfl, rfl, rfl, yes_go ?_⟩
          refine ⟨_, rfl, _, rfl, _, _, rfl, rfl, _, rfl, _, rfl, _, _, rfl, rfl, by show 2 ≤ sizeLine; decide, fun p hp => ?_⟩
          dsimp only
          rw [show ((m : Nat) : Int) + ((q.1 : Nat) : Int) = ((m + q.1 : Nat) : Int) by omega, show ((m : Nat) : Int) + ((q.2 : Nat) : Int) = ((m + q.2 : Nat) : Int) by omega]
          have sp := same_new (o := .tup [.int ((m + q.1 : Nat) : Int), .int ((m + q.2 : Nat) : Int)]) hp
          have pne : p ≠ E2 := fun z => by rw [z, hacc] at hp; cases hp
          refine lc_add hacc e sp (by omega) ⟨?_, by rw [List.length_append, hlen]; rfl⟩
          rw [show own.take (j2 + 1) = own.take j2 ++ [q] by rw [List.take_add_one, hq]; rfl, List.map_append, List.map_append]
          exact dpAll_app (dpAll_same (era_same sp) _ hd) (.cons (dp_stepI (by rw [era_ne pne]; exact upd_same)) .nil)
        rintro acc Hc h1 sc ⟨hd, hlen⟩
        have hd := dpAll_same era_back _ hd
        rw [hosl, List.take_length] at hd
        have O := O.same sc
        have hys := dpAll_same sc _ hys
        refine ⟨pl, E2, ys, acc, rfl, rfl, O.at0 3 rfl, h1, Nat.le_trans (show ys.length + acc.length ≤ 100000 by omega) (by decide), fun p1 hp1 => ?_⟩
        have sp1 := same_new (o := .lst (ys ++ acc)) hp1
        have hnew := dpAll_app (dpAll_same sp1 _ hys) (dpAll_same sp1 _ hd)
        rw [← List.map_append] at hnew
        have O : OwC b g H _ [(p1, ys ++ acc), (ol, os), (jl, natsV (js ++ [add.length])), (hl, natsV hs), (pl, ys)] := O.new hp1
        generalize upd Hc p1 (.lst (ys ++ acc)) = Hd at *
        refine ⟨_, rfl, _, rfl, by show 1 ≤ sizeLine; decide, fun q hq => ?_⟩
        have sq := same_new (o := .lst [.int (0 + (i : Int))]) hq
        have hQ : (upd Hd q (.lst [.int (0 + (i : Int))])) q = some (.lst [.int (0 + (i : Int))]) := upd_same
        have O := O.same sq
        have hnew := dpAll_same sq _ hnew
        generalize upd Hd q (.lst [.int (0 + (i : Int))]) = He at *
        refine ⟨_, rfl, q, (n : Int), _, rfl, rfl, hQ, by omega, by omega, Nat.le_trans (show ([V.int (0 + (i : Int))] : List V).length * ((n : Nat) : Int).toNat ≤ 100000 by rw [Int.toNat_natCast]; show 1 * n ≤ _; omega) (by decide), fun z hz => ?_⟩
        have erep : (List.replicate ((n : Nat) : Int).toNat [V.int (0 + (i : Int))]).flatten = natsV (List.replicate n i) := by
          rw [Int.toNat_natCast]
          exact rep_flat n i
        rw [erep]
        have sz := same_new (o := .lst (natsV (List.replicate n i))) hz
        have hZ : (upd He z (.lst (natsV (List.replicate n i)))) z = some (.lst (natsV (List.replicate n i))) := upd_same
        have O := O.same sz
        have hnew := dpAll_same sz _ hnew
        generalize upd He z (.lst (natsV (List.replicate n i))) = Hf at *
        refine ⟨hl, z, natsV hs, _, rfl, rfl, O.at0 3 rfl, hZ, Nat.le_trans (show (natsV hs).length + (natsV (List.replicate n i)).length ≤ 100000 by rw [natsV_len, natsV_len, List.length_replicate]; omega) (by decide), fun w2 hw2 => ?_⟩
        have sw := same_new (o := .lst (natsV hs ++ natsV (List.replicate n i))) hw2
        have hnew := dpAll_same sw _ hnew
        have O : OwC b g H _ [(w2, natsV hs ++ natsV (List.replicate n i)), (p1, ys ++ acc), (ol, os), (jl, natsV (js ++ [add.length])), (hl, natsV hs), (pl, ys)] := O.new hw2
        generalize upd Hf w2 (.lst (natsV hs ++ natsV (List.replicate n i))) = Hg at *
        have eh : natsV hs ++ natsV (List.replicate n i) = natsV (hs ++ List.replicate n i) := by
          unfold natsV
          rw [List.map_append]
        rw [eh] at O
        refine ⟨_, _, rfl, ?_⟩
        dsimp only
        refine at_st [some (.ref b), some (.int m), some (.ref p1), some (.ref w2), some (.ref jl), some (.int (0 + (i : Int))), none, none, none, none, none, some (.int n), some (.ref ol), v13, v14, v15] rfl ?_
        refine ⟨_, rfl, _, rfl, _, _, rfl, rfl, ?_⟩
        have O : OwC b g H Hg [(jl, natsV (js ++ [add.length])), (w2, natsV (hs ++ List.replicate n i)), (p1, ys ++ acc)] := by
          have O3 := O.sub (bs := [(w2, natsV (hs ++ List.replicate n i)), (p1, ys ++ acc), (jl, natsV (js ++ [add.length]))]) (by
            refine List.Sublist.cons₂ _ (List.Sublist.cons₂ _ (List.Sublist.cons _ (List.Sublist.cons₂ _ (List.nil_sublist _)))))
          exact O3.prm (List.perm_append_comm (l₁ := [(jl, natsV (js ++ [add.length]))]) (l₂ := [(w2, natsV (hs ++ List.replicate n i)), (p1, ys ++ acc)]))
        refine ⟨_, _, _, _, _, _, m + n, p1, w2, jl, ys ++ acc, (ps ++ add) ++ own.map (shiftP m), hs ++ List.replicate n i, js ++ [add.length], rfl, O, hnew, rowS_add hRS hn1 ht3 hwo haok (fun z => by have := tn1 z; omega) hal4, hn12, fun z => by have := hm3 (by omega); have := hn3 (by omega); omega, ?_⟩
        rw [List.length_append, List.length_append, List.length_map]
        omega
    · rintro σ H6 ⟨v5, v11, v12, v13, v14, v15, m, pl, hl, jl, xs, ps, hs, js, rfl, O, hxs, hRS, hm12, hm3, hpl⟩
      have hxl : xs.length = ps.length := by rw [dpAll_len hxs, List.length_map]
      obtain ⟨J, pre, sz, hiJ, rfl, hhs, hpre, hsz, hR⟩ : ∃ (J pre : List Nat) (sz : Nat), (1 + r).toNat = J.length + 1 ∧ js = 0 :: J ∧ hs = pre ++ List.replicate sz J.length ∧ J.length ∉ pre ∧ 1 ≤ sz ∧ RowIs m ps hs J := by
        rcases hRS with ⟨z, _⟩ | z
        · omega
        · exact z
      have hlen := hR.len
      have hm1 : 1 ≤ m := by
        rw [← hlen, hhs, List.length_append, List.length_replicate]
        omega
      dsimp only
      refine tSeq_go ?_
      refine ⟨_, rfl, _, rfl, _, rfl, b, g, pl, m, xs, ps, rfl, O.at0 2 rfl, ?_, ?_, hxs, hm1, by omega, by omega, hR.ok, O.bx, fun p a nl ts names qs H7 kp7 B7 hp hnl hw hnames hqs hts => ?_⟩
      · exact (O.ne _ (List.mem_cons_of_mem _ (List.mem_cons_of_mem _ (List.mem_cons_self ..)))).1
      · exact (O.ne _ (List.mem_cons_of_mem _ (List.mem_cons_of_mem _ (List.mem_cons_self ..)))).2
      have O := O.draw kp7 B7
      refine ⟨p, _, rfl, hp, rfl, _, _, rfl, _, _, rfl, rfl, ?_⟩
      dsimp only
      refine at_st [some (.ref b), some (.int m), some (.ref pl), some (.ref hl), some (.ref jl), v5, some (.ref a), some (.ref nl), none, none, none, v11, v12, v13, v14, v15] rfl ?_
      refine tSeq_go ?_
      refine ⟨by show 1 ≤ sizeLine; decide, fun q hq => ?_⟩
      have sq := same_new (o := .lst [.int 0]) hq
      have hQ : (upd H7 q (.lst [.int 0])) q = some (.lst [.int 0]) := upd_same
      have O := O.same sq
      have hw := dp_same sq _ hw
      have hnl := sq _ _ hnl
      generalize upd H7 q (.lst [.int 0]) = H8 at *
      refine ⟨_, rfl, q, (m : Int), _, rfl, rfl, hQ, by omega, by omega, Nat.le_trans (show ([V.int 0] : List V).length * ((m : Nat) : Int).toNat ≤ 100000 by rw [Int.toNat_natCast]; show 1 * m ≤ _; omega) (by decide), fun ld hld => ?_⟩
      have erep : (List.replicate ((m : Nat) : Int).toNat [V.int 0]).flatten = natsV (List.replicate m 0) := by
        rw [Int.toNat_natCast]
        exact rep_flat m 0
      rw [erep]
      have O : OwC b g H _ [(ld, natsV (List.replicate m 0)), (jl, natsV (0 :: J)), (hl, natsV hs), (pl, xs)] := O.new hld
      have sl := same_new (o := .lst (natsV (List.replicate m 0))) hld
      have hw := dp_same sl _ hw
      have hnld : nl ≠ ld := fun z => by rw [z, hld] at hnl; cases hnl
      have hnl := sl _ _ hnl
      generalize upd H8 ld (.lst (natsV (List.replicate m 0))) = H9 at *
      dsimp only [gName]
      refine at_st [some (.ref b), some (.int m), some (.ref pl), some (.ref hl), some (.ref jl), v5, some (.ref a), some (.ref nl), some (.ref ld), none, none, v11, v12, v13, v14, v15] rfl ?_
      refine tSeq_go ?_
      have hnmt : ∀ x, x < m → (natsV names)[x]? = some (.int ((names.getD x 0 : Nat) : Int)) := fun x hx => by
        unfold natsV
        rw [List.getElem?_map, (name_at hnames hx).1]
        rfl
      refine ⟨_, rfl, hl, _, rfl, SqL.of (O.at0 2 rfl), for_it (walk_enum (xs := natsV hs)) (fun j σ H' => ∃ (v9 v10 : Option V) (lv : List Nat), σ = [some (.ref b), some (.int m), some (.ref pl), some (.ref hl), some (.ref jl), v5, some (.ref a), some (.ref nl), some (.ref ld), v9, v10, v11, v12, v13, v14, v15] ∧
        OwC b g H H' [(ld, natsV lv), (jl, natsV (0 :: J)), (hl, natsV hs), (pl, xs)] ∧ H' nl = some (.lst (natsV names)) ∧ Dp K H' (.ref a) (webD m ts) ∧ lv.length = m ∧ ∀ x, x < j → lv[names.getD x 0]? = hs[x]?) ?_ ?_ ?_ ?_⟩
      · exact ⟨none, none, List.replicate m 0, rfl, O, hnl, hw, List.length_replicate, fun x hx => absurd hx (Nat.not_lt_zero _)⟩
      · rintro j σ H' _ ⟨v9, v10, lv, rfl, O, _⟩
        exact SqL.of (O.at0 2 rfl)
      · clear O hnl hw
        rintro j x σ Ha H'' hjj ⟨v9, v10, lv, rfl, O, hnl, hw, hlv, hset⟩ ⟨qt, y, z, rfl, hqt, rfl, hy, hz⟩
        have hy' : some (V.int j) = some y := hy
        cases hy'
        have hz' : (natsV hs)[j]? = some z := hz
        obtain ⟨hh, hhj, rfl⟩ := get_map (f := fun (k : Nat) => V.int k) hz'
        have hjm : j < m := by
          rw [natsV_len, hlen] at hjj
          exact hjj
        have sqt := same_new (o := .tup [.int j, .int hh]) hqt
        have aT : (upd Ha qt (.tup [.int j, .int hh])) qt = some (.tup [.int j, .int hh]) := upd_same
        have O := O.same sqt
        have hnl := sqt _ _ hnl
        have hw := dp_same sqt _ hw
        generalize upd Ha qt (.tup [.int j, .int hh]) = Hb at *
        refine ⟨qt, _, rfl, SqT.of aT, rfl, _, _, rfl, _, _, rfl, rfl, ?_⟩
        dsimp only
        refine at_st [some (.ref b), some (.int m), some (.ref pl), some (.ref hl), some (.ref jl), v5, some (.ref a), some (.ref nl), some (.ref ld), some (.int j), some (.int hh), v11, v12, v13, v14, v15] rfl ?_
        have hna := name_at hnames hjm
        refine ⟨_, rfl, _, rfl, _, rfl, _, rfl, nl, natsV names, (j : Int), _, rfl, rfl, SqL.of hnl, atI_nat (hnmt j hjm), ?_⟩
        refine ⟨ld, _, _, names.getD j 0, rfl, rfl, O.at0 0 rfl, ix_nat (by rw [natsV_len, hlv]; exact hna.2.1), ?_⟩
        have kf : KF Hb (upd Hb ld (.lst ((natsV lv).set (names.getD j 0) (.int hh)))) := KF.of_upd (O.at0 0 rfl)
        have hw := dp_kf kf _ (still_web m ts) hw
        have hnl := (upd_ne (o := .lst ((natsV lv).set (names.getD j 0) (.int hh))) hnld).trans hnl
        have O := O.put (ys := (natsV lv).set (names.getD j 0) (.int hh)) 0 rfl
        have es : (natsV lv).set (names.getD j 0) (.int hh) = natsV (lv.set (names.getD j 0) hh) := by
          unfold natsV
          rw [List.map_set]
        rw [es] at O hw hnl ⊢
        refine ⟨_, _, lv.set (names.getD j 0) hh, rfl, O, hnl, hw, by rw [List.length_set, hlv], fun x hx => ?_⟩
        by_cases e : x = j
        · subst e
          rw [List.getElem?_set_self (by rw [hlv]; exact hna.2.1), hhj]
        · have hx : x < j := by omega
          have hxa := name_at hnames (show x < m by omega)
          have hne : names.getD j 0 ≠ names.getD x 0 := fun z => by
            have h1 := hna.2.2
            have h2 := hxa.2.2
            rw [z] at h1
            omega
          rw [List.getElem?_set_ne hne]
          exact hset x hx
      · clear O hnl hw
        rintro σ Ha ⟨v9, v10, lv, rfl, O, hnl, hw, hlv, hset⟩
        rw [natsV_len, hlen] at hset
        dsimp only
        refine ⟨_, rfl, _, rfl, _, rfl, ?_⟩
        refine ⟨1, rfl, jl, _, rfl, SqL.of (O.at0 1 rfl), fun q hq => ?_⟩
        rw [cut_tail]
        have O : OwC b g H _ [(q, natsV J), (ld, natsV lv), (jl, natsV (0 :: J)), (hl, natsV hs), (pl, xs)] := O.new hq
        have sq := same_new (o := .lst (natsV J)) hq
        have hw := dp_same sq _ hw
        generalize upd Ha q (.lst (natsV J)) = Hb at *
        refine ⟨by show 3 ≤ sizeLine; decide, fun p2 hp2 => ?_⟩
        have sp := same_new (o := .tup [.ref a, .ref ld, .ref q]) hp2
        have O2 := O.sub (bs := [(q, natsV J), (ld, natsV lv)]) (List.Sublist.cons₂ _ (List.Sublist.cons₂ _ (List.nil_sublist _)))
        have O2 := (O2.prm (List.Perm.swap _ _ _)).same sp
        have hr := row_named hR hnames hqs hlv hset
        refine k p2 a ld q m ts lv J _ O2 (SqT.of upd_same) (dp_same sp _ hw) hm1 hm12 ?_ ?_ (by omega) (by rw [hts]; exact hr)
        · rw [hts, List.length_map, hqs.length_eq]
          omega
        · intro t ht
          rw [hts] at ht
          have h1 := hr.ok t ht
          obtain ⟨q, _, rfl⟩ := List.mem_map.mp ht
          refine ⟨?_, h1.2.1⟩
          have h2 := h1.2.2
          unfold reName at h2 ⊢
          dsimp only at h2 ⊢
          omega
end
end BV

namespace BV
open PySem L2 RZ
abbrev sCuttold : Stmt := top 45
abbrev nCuttold : List Str := ["_law_web", "_law_one", "_law_other"]
abbrev pCuttold : List Str := ["_law_web", "_law_one", "_law_other"]
theorem scCuttold : FnScope nCuttold pCuttold (defScope sCuttold) := ⟨rfl, rfl, rfl, by decide +kernel, rfl, by decide +kernel, by decide +kernel⟩
abbrev sTwtold : Stmt := top 46
abbrev nTwtold : List Str := ["_law_web", "_law_tie", "refused"]
abbrev pTwtold : List Str := ["_law_web", "_law_tie"]
theorem scTwtold : FnScope nTwtold pTwtold (defScope sTwtold) := ⟨rfl, rfl, rfl, by decide +kernel, rfl, by decide +kernel, by decide +kernel⟩
abbrev sIscut : Stmt := top 47
abbrev nIscut : List Str := ["_law_web", "_law_lot", "_law_one", "_law_other", "_law_many", "_law_sides"]
abbrev pIscut : List Str := ["_law_web", "_law_lot", "_law_one", "_law_other", "_law_many"]
theorem scIscut : FnScope nIscut pIscut (defScope sIscut) := ⟨rfl, rfl, rfl, by decide +kernel, rfl, by decide +kernel, by decide +kernel⟩
/-! ### what a doubled tie's deeds do -/
def sumK (ds : List (List Nat × Int)) (k : Nat) : Int := (ds.map fun d => if k ∈ d.1 then d.2 else 0).sum
theorem foldD_at : ∀ (ds : List (List Nat × Int)) (ns : List Int) (k : Nat), (ds.foldl addD ns)[k]? = ns[k]?.map fun z => z + sumK ds k
  | [], ns, k => by
    show ns[k]? = _
    cases ns[k]? <;> simp [sumK]
  | d :: ds, ns, k => by
    rw [List.foldl_cons, foldD_at ds]
    unfold addD
    rw [List.getElem?_mapIdx]
    cases e : ns[k]? with
    | none => rfl
    | some z =>
      show some _ = some _
      congr 1
      unfold sumK
      rw [List.map_cons, List.sum_cons]
      by_cases h : k ∈ d.1
      · simp only [h, if_true]
        omega
      · simp only [h, if_false]
        omega
theorem sumK_app (a b : List (List Nat × Int)) (k : Nat) : sumK (a ++ b) k = sumK a k + sumK b k := by
  unfold sumK
  rw [List.map_append, List.sum_append]
theorem sumK_parts (k : Nat) : ∀ ps : List (List Nat), (∀ r ∈ ps, r.Nodup) → sumK (ps.map fun r => (r, (-1 : Int))) k = -((ps.flatten.count k : Nat) : Int)
  | [], _ => rfl
  | r :: ps, h => by
    have ih := sumK_parts k ps fun x hx => h x (List.mem_cons_of_mem _ hx)
    have hr := h r (List.mem_cons_self ..)
    unfold sumK at ih ⊢
    rw [List.map_cons, List.map_cons, List.sum_cons, ih, List.flatten_cons, List.count_append, hr.count]
    by_cases z : k ∈ r
    · simp only [z, if_true]
      omega
    · simp only [z, if_false]
      omega
theorem twi_facts {n : Nat} {ts : List Tie} (hends : ∀ t ∈ ts, t.1 < t.2 ∧ t.2 < n) {k0 : Nat} {t : Tie} (ht : ts[k0]? = some t) {ds : List (List Nat × Int)} (h : TwiIs ts n k0 t ds) :
    (∀ d ∈ ds, DeedOk n ts d) ∧ ds.length ≤ ts.length + 2 ∧ ∀ k, k < ts.length → sumK ds k = if k = k0 then 2 else 0 := by
  obtain ⟨ws, f0, f1, fs, hW, ha, rfl⟩ := h.ex
  obtain ⟨w0, w1, fs', hT, ha'⟩ := aside_two (k0 := k0) hW
  rw [ha] at ha'
  have e0 := (List.cons.inj ha').1
  have e1 := (List.cons.inj (List.cons.inj ha').2).1
  subst e0 e1
  have hk0 := (List.getElem?_eq_some_iff.mp ht).1
  have hev := two_even hends ht hT
  have hA := ascL_lot ts.length fun k => decide (k ∈ ascL ts.length fun k => decide (k ∈ w0)) || decide (k ∈ ascL ts.length fun k => decide (k ∈ w1))
  obtain ⟨hpar, hpp⟩ := parts_spec hends _ _ hA hev (Nat.le_refl _)
  have m0 : ∀ k, k ∈ ascL ts.length (fun k => decide (k ∈ w0)) ↔ k ∈ w0 := fun k => by
    rw [mem_ascL, decide_eq_true_eq]
    exact ⟨fun z => z.2, fun z => ⟨hT.l0 k z, z⟩⟩
  have m1 : ∀ k, k ∈ ascL ts.length (fun k => decide (k ∈ w1)) ↔ k ∈ w1 := fun k => by
    rw [mem_ascL, decide_eq_true_eq]
    exact ⟨fun z => z.2, fun z => ⟨hT.l1 k z, z⟩⟩
  have cong : ∀ {w : List Nat}, (∀ k, k ∈ ascL ts.length (fun k => decide (k ∈ w)) ↔ k ∈ w) → (ascL ts.length fun k => decide (k = k0) || decide (k ∈ ascL ts.length fun k => decide (k ∈ w))) = ascL ts.length fun k => decide (k = k0) || decide (k ∈ w) := fun {w} hm => by
    unfold ascL at hm ⊢
    refine List.filter_congr fun k _ => ?_
    congr 1
    exact decide_eq_decide.mpr (hm k)
  have r0 := ring_of hends ht hT.a0 hT.n0 hT.l0
  have r1 := ring_of hends ht hT.a1 hT.n1 hT.l1
  unfold twoL
  rw [cong m0, cong m1]
  generalize hps : partsGo ts n _ _ = ps at *
  have hnd : ∀ r ∈ ps, r.Nodup := fun r hr => (hpar r hr).2.1.nd
  refine ⟨fun d hd => ?_, ?_, fun k hk => ?_⟩
  · rcases List.mem_append.mp hd with z | z
    · simp only [List.mem_cons, List.not_mem_nil, or_false] at z
      rcases z with rfl | rfl
      · exact ⟨r0, ascL_lot _ _, by show (1 : Int) ≠ 0; decide, by show -(10 ^ 30) ≤ (1 : Int) ∧ (1 : Int) ≤ 10 ^ 30; decide⟩
      · exact ⟨r1, ascL_lot _ _, by show (1 : Int) ≠ 0; decide, by show -(10 ^ 30) ≤ (1 : Int) ∧ (1 : Int) ≤ 10 ^ 30; decide⟩
    · obtain ⟨r, hr, rfl⟩ := List.mem_map.mp z
      obtain ⟨a, b, _⟩ := hpar r hr
      exact ⟨a, b, by show (-1 : Int) ≠ 0; decide, by show -(10 ^ 30) ≤ (-1 : Int) ∧ (-1 : Int) ≤ 10 ^ 30; decide⟩
  · have h1 : ps.flatten.length ≤ ts.length := by
      rw [hpp.length_eq]
      exact lotA_len hA
    have : ∀ l : List (List Nat), (∀ r ∈ l, r ≠ []) → l.length ≤ l.flatten.length := by
      intro l
      induction l with
      | nil => exact fun _ => Nat.le_refl _
      | cons r l ih =>
        intro hr
        have := ih fun x hx => hr x (List.mem_cons_of_mem _ hx)
        have h2 := List.length_pos_iff.mpr (hr r (List.mem_cons_self ..))
        rw [List.flatten_cons, List.length_append, List.length_cons]
        omega
    have := this ps fun r hr => (hpar r hr).1.ne
    rw [List.length_append, List.length_map]
    show 2 + ps.length ≤ _
    omega
  · rw [sumK_app, sumK_parts k ps hnd, hpp.count_eq, hA.nd.count]
    unfold sumK
    simp only [List.map_cons, List.map_nil, List.sum_cons, List.sum_nil, mem_ascL, Bool.or_eq_true, decide_eq_true_eq, hk, true_and]
    by_cases z : k = k0
    · subst z
      simp [hT.n0, hT.n1]
    · by_cases y0 : k ∈ w0
      · have y1 := hT.dj k y0
        simp [z, y0, y1]
      · by_cases y1 : k ∈ w1
        · simp [z, y0, y1]
        · simp [z, y0, y1]
/-! ### how many deeds there are -/
theorem walk_short {n : Nat} {ts : List Tie} (hends : ∀ t ∈ ts, t.1 < t.2 ∧ t.2 < n) {a g : Nat} {w : List Nat} (ha : a < n) (h : WalkOk ts a [a] w g) : w.length + 1 ≤ n := by
  obtain ⟨P, hP, hnd, hd⟩ := path_of w a g [a] h
  have len : ∀ {w : List Nat} {a g : Nat} {P : List Nat}, PathW ts a w g P → P.length = w.length + 1 := fun h => by
    induction h with
    | nil => rfl
    | cons _ _ _ ih => rw [List.length_cons, List.length_cons, ih]
  have lt : ∀ {w : List Nat} {a g : Nat} {P : List Nat}, PathW ts a w g P → a < n → ∀ x ∈ P, x < n := fun h => by
    induction h with
    | nil a =>
      intro ha x hx
      rw [List.mem_singleton.mp hx]
      exact ha
    | cons h1 h2 _ ih =>
      intro ha x hx
      rcases List.mem_cons.mp hx with e | e
      · rw [e]
        exact ha
      · exact ih (far_lt hends h1 _) x e
  have h1 := len hP
  have h2 := nodup_small n (a :: P) (List.nodup_cons.mpr ⟨fun z => hd a z (List.mem_singleton.mpr rfl), hnd⟩) (lt hP ha)
  omega
theorem rnd_two {n : Nat} {ts : List Tie} (hends : ∀ t ∈ ts, t.1 < t.2 ∧ t.2 < n) {r : List Nat} (h : Rnd n ts r) (hl : ∀ k ∈ r, k < ts.length) : 2 ≤ r.length := by
  match r, h, hl with
  | [], h, _ => exact absurd rfl h.ne
  | [k], h, hl =>
    have ht := List.getElem?_eq_getElem (hl k (by simp))
    have hte := hends _ (List.mem_of_getElem? ht)
    have e : degE ts [k] (ts[k]'(hl k (by simp))).1 = 1 := by
      unfold degE
      rw [List.filter_cons, if_pos ((atE_iff ht).mpr (.inl rfl))]
      rfl
    rcases h.tw _ (show (ts[k]'(hl k (by simp))).1 < n by omega) with z | z <;> rw [e] at z <;> cases z
  | a :: b :: r, _, _ => exact Nat.le_add_left 2 _
theorem twi_len {n : Nat} {ts : List Tie} (hends : ∀ t ∈ ts, t.1 < t.2 ∧ t.2 < n) {k0 : Nat} {t : Tie} (ht : ts[k0]? = some t) {ds : List (List Nat × Int)} (h : TwiIs ts n k0 t ds) : ds.length ≤ n + 2 := by
  obtain ⟨ws, f0, f1, fs, hW, ha, rfl⟩ := h.ex
  obtain ⟨w0, w1, fs', hT, ha'⟩ := aside_two (k0 := k0) hW
  rw [ha] at ha'
  have e0 := (List.cons.inj ha').1
  have e1 := (List.cons.inj (List.cons.inj ha').2).1
  subst e0 e1
  have hte := hends t (List.mem_of_getElem? ht)
  have hev := two_even hends ht hT
  have hA := ascL_lot ts.length fun k => decide (k ∈ ascL ts.length fun k => decide (k ∈ w0)) || decide (k ∈ ascL ts.length fun k => decide (k ∈ w1))
  obtain ⟨hpar, hpp⟩ := parts_spec hends _ _ hA hev (Nat.le_refl _)
  have l0 := walk_short hends (by omega) hT.a0
  have l1 := walk_short hends (by omega) hT.a1
  unfold twoL
  have hlen : (ascL ts.length fun k => decide (k ∈ ascL ts.length fun k => decide (k ∈ w0)) || decide (k ∈ ascL ts.length fun k => decide (k ∈ w1))).length ≤ w0.length + w1.length := by
    rw [← List.length_append]
    refine nodup_sub _ _ hA.nd fun k hk => ?_
    rw [mem_ascL, Bool.or_eq_true, decide_eq_true_eq, decide_eq_true_eq, mem_ascL, mem_ascL, decide_eq_true_eq, decide_eq_true_eq] at hk
    rcases hk.2 with z | z
    · exact List.mem_append_left _ z.2
    · exact List.mem_append_right _ z.2
  generalize hps : partsGo ts n _ _ = ps at *
  have : ∀ l : List (List Nat), (∀ r ∈ l, 2 ≤ r.length) → 2 * l.length ≤ l.flatten.length := by
    intro l
    induction l with
    | nil => exact fun _ => Nat.le_refl _
    | cons r l ih =>
      intro hr
      have := ih fun x hx => hr x (List.mem_cons_of_mem _ hx)
      have h2 := hr r (List.mem_cons_self ..)
      rw [List.flatten_cons, List.length_append, List.length_cons]
      omega
  have h1 := this ps fun r hr => rnd_two hends (hpar r hr).1 (hpar r hr).2.1.2
  rw [hpp.length_eq] at h1
  rw [List.length_append, List.length_map]
  show 2 + ps.length ≤ _
  omega
/-! ### what is told -/
def ToldC (ts : List Tie) (n one other : Nat) (d : PyData) : Prop := (d = .tuple [.str "refused"] ∧ ∀ S : Nat → Bool, S one = true → S other = false → 3 ≤ cutN S ts) ∨ ∃ R, d = lotD (cutL ts R) ∧ NarIs ts n one other R
def ToldT (ts : List Tie) (n k0 : Nat) (t : Tie) (d : PyData) : Prop :=
  (∃ ds, d = .list [.str "deeds", .tuple (ds.map deedD)] ∧ TwiIs ts n k0 t ds) ∨ ∃ R, d = .list [.str "thin", lotD (cutL ts R)] ∧ NarIs ts n t.1 t.2 R
def spCuttold (K : PySem.W.Frag) : Sp := fun vs H Q _ => ∃ (v : V) (n : Nat) (ts : List Tie) (one other : Nat), vs = [v, .int one, .int other] ∧ Dp K H v (webD n ts) ∧ WebC n ts ∧ one < n ∧ other < n ∧ one ≠ other ∧
  ∀ (u : V) (d : PyData) H', Same H H' → Dp K H' u d → ToldC ts n one other d → Q u H'
def spTwtold (K : PySem.W.Frag) : Sp := fun vs H Q _ => ∃ (v : V) (n : Nat) (ts : List Tie) (k0 : Nat) (t : Tie), vs = [v, .int k0] ∧ Dp K H v (webD n ts) ∧ (∀ t ∈ ts, t.1 < t.2 ∧ t.2 < n) ∧ ts[k0]? = some t ∧ n ≤ 60 ∧ ts.length ≤ 50 ∧
  ∀ (u : V) (d : PyData) H', Same H H' → Dp K H' u d → ToldT ts n k0 t d → Q u H'
def spIscut (K : PySem.W.Frag) : Sp := fun vs H Q _ => ∃ (v u : V) (n : Nat) (ts : List Tie) (R : List Nat) (one other m : Nat), vs = [v, u, .int one, .int other, .int m] ∧ Dp K H v (webD n ts) ∧ Dp K H u (lotD (cutL ts R)) ∧ (cutL ts R).length = m ∧ one ∈ R ∧ other ∉ R ∧ one < n ∧ other < n ∧
  (∀ t ∈ ts, t.1 < t.2 ∧ t.2 < n) ∧ Joi n ts ∧ n ≤ 60 ∧ ts.length ≤ 50 ∧ ∀ H', Same H H' → Q (.bl true) H'
section
variable {P : Program} {w : World} {K : PySem.W.Frag} {mg : Str → Option Value} {base : Heap}
theorem ok_cuttold {f f1 f2 f3 f4 f5 f6 f7 f8 f9 U B : Addr} {fd fd1 fd2 fd3 fd4 fd5 fd6 fd7 fd8 fd9 : FuncData} {tE : Tok} (D : Df K mg "_law_cut_told" sCuttold pCuttold f fd) (T : Bl mg) (EU : ErrU K mg U B) (hsorted : mg "sorted" = none) (hE3 : mg "_ENOUGH" = some (.int 3 tE))
    (D_far : Df K mg "far_end" sFar pFar f1 fd1) (D_sign : Df K mg "_sign" sSign pSign f2 fd2)
    (D_stepsf : Df K mg "_steps_from" sStepsf pStepsf f3 fd3) (D_back : Df K mg "_way_back" sBack pBack f4 fd4) (D_open : Df K mg "_open_steps" sOpen pOpen f5 fd5) (D_flow : Df K mg "_flow_between" sFlow pFlow f6 fd6) (D_cutof : Df K mg "cut_of" sCutof pCutof f7 fd7) (D_narrow : Df K mg "narrow_cut" sNarrow pNarrow f8 fd8) (D_fewest_x : Df K mg "fewest_cut" sFewest pFewest f9 fd9) : FnOk P w K mg base CX0 7 f fd pCuttold (spCuttold K) := by
  have G_fewest_x : FnOk P w K mg base (L2.CX P w) 6 f9 fd9 pFewest (spFewest K U) := ok_fewest D_fewest_x T EU hsorted hE3 D_far D_sign D_stepsf D_back D_open D_flow D_cutof D_narrow
  refine D.fn.ok scCuttold (fun vs H Q E h => ?_) (fun cdv A outer s H vs Q E hr h => ?_)
  · obtain ⟨v, n, ts, one, other, rfl, _⟩ := h
    rfl
  · obtain ⟨v, n, ts, one, other, rfl, hw, hok, h1, h2, hne, k⟩ := h
    have nd := scCuttold.nd
    have hr_fewest_x : Room 6 _ := hr
    refine ⟨_, (pss_one (ps_try_only rfl rfl ⟨rfl, by decide, .inl EU.gU⟩ takes0 (fun W pn xe tk _ => (pss_one (ps_ret (pe_callS G_fewest_x hr_fewest_x (by rfl) D_fewest_x.ad D_fewest_x.fn.kp D_fewest_x.bd (fun σ => passAt tk σ) (pa_cons (pv 0) (pa_cons (pv 1) (pa_cons (pv 2) pa_nil))))))) (fun a oe cls d pn hz hf => (pss_one (ps_ret (pe_tup (pa_cons pe_str pa_nil))))))), ?_⟩
    refine ⟨_, rfl, _, rfl, _, rfl, v, n, ts, one, other, rfl, hw, hok, h1, h2, hne, fun h3 H1 s1 => ⟨true, EU.te, fun _ a ha => ?_, fun z => nomatch z⟩, fun u R H1 s1 hu hN => k u _ H1 s1 hu (.inr ⟨R, rfl, hN⟩)⟩
    refine ⟨by show 1 ≤ sizeLine; decide, fun q hq => ?_⟩
    exact k _ _ _ (s1.trans (same_new hq)) (.tup (SqT.of upd_same) (.cons (.str _) .nil)) (.inl ⟨rfl, h3⟩)
theorem ok_twtold {f f1 f2 f3 f4 f5 f6 f7 f8 f9 g1 g2 g3 g4 g5 g6 g7 g8 g9 U B C fI : Addr} {fd fd1 fd2 fd3 fd4 fd5 fd6 fd7 fd8 fd9 gd1 gd2 gd3 gd4 gd5 gd6 gd7 gd8 gd9 fdI : FuncData} {tE : Tok} (D : Df K mg "_law_twice_told" sTwtold pTwtold f fd) (T : Bl mg) (hisinstance : mg "isinstance" = none) (hsorted : mg "sorted" = none) (hE3 : mg "_ENOUGH" = some (.int 3 tE)) (EU : ErrU K mg U B) (EF_Thin : ErrF K mg "Thin" "lot" C fI B)
    (D_far : Df K mg "far_end" sFar pFar f1 fd1) (D_sign : Df K mg "_sign" sSign pSign f2 fd2)
    (D_stepsf : Df K mg "_steps_from" sStepsf pStepsf f3 fd3) (D_back : Df K mg "_way_back" sBack pBack f4 fd4) (D_open : Df K mg "_open_steps" sOpen pOpen f5 fd5) (D_flow : Df K mg "_flow_between" sFlow pFlow f6 fd6) (D_cutof : Df K mg "cut_of" sCutof pCutof f7 fd7) (D_narrow : Df K mg "narrow_cut" sNarrow pNarrow f8 fd8)
    (D_ways : Df K mg "ways" sWays pWays f9 fd9) (D_all : Df K mg "all_ties" sAll pAll g1 gd1) (D_sum : Df K mg "sum_of" sSum pSum g2 gd2) (D_odd : Df K mg "odd_places" sOdd pOdd g3 gd3) (D_even : Df K mg "is_even" sEven pEven g4 gd4) (D_wfrom : Df K mg "ways_from" sWfrom pWfrom g5 gd5)
    (D_fround : Df K mg "_first_round" sFround pFround g6 gd6) (D_parted_x : Df K mg "parted_even" sParted pParted g7 gd7) (D_doubled_x : Df K mg "doubled" sDoubled pDoubled g8 gd8) (F_I : Fun K "__init__" "Thin.__init__" sThinI fI fdI) (bI_Thin : Binds K fdI ["self", "lot"] [])
    (D_twice_x : Df K mg "twice" sTwice pTwice g9 gd9) : FnOk P w K mg base CX0 8 f fd pTwtold (spTwtold K) := by
  have G_twice_x : FnOk P w K mg base (L2.CX P w) 7 g9 gd9 pTwice (spTwice K C) := ok_twice D_twice_x T hsorted hE3 EU EF_Thin D_far D_sign D_stepsf D_back D_open D_flow D_cutof D_narrow D_ways D_all D_sum D_odd D_even D_wfrom D_fround D_parted_x D_doubled_x F_I bI_Thin
  refine D.fn.ok scTwtold (fun vs H Q E h => ?_) (fun cdv A outer s H vs Q E hr h => ?_)
  · obtain ⟨v, n, ts, k0, t, rfl, _⟩ := h
    rfl
  · obtain ⟨v, n, ts, k0, t, rfl, hw, hends, ht, hn, hel, k⟩ := h
    have nd := scTwtold.nd
    have hr_twice_x : Room 7 _ := hr
    refine ⟨_, (pss_one (ps_try_as (i := 2) rfl rfl nd rfl rfl ⟨rfl, by decide, .inl EF_Thin.gC⟩ takes0 (fun W pn xe tk _ => (pss_one (ps_ret (pe_lst (pa_cons pe_str (pa_cons (pe_callS G_twice_x hr_twice_x (by rfl) D_twice_x.ad D_twice_x.fn.kp D_twice_x.bd (fun σ => passAt tk σ) (pa_cons (pv 0) (pa_cons (pv 1) pa_nil))) pa_nil)))))) (fun a oe cls d pn hz hf => (pss_one (ps_ret (pe_lst (pa_cons pe_str (pa_cons (pe_xf EF_Thin.xf EF_Thin.nf hz hf (pv 2)) pa_nil)))))))), ?_⟩
    have fine : ∀ (u : V) (ds : List (List Nat × Int)) (H1 : Hp), Same H H1 → Dp K H1 u (.tuple (ds.map deedD)) → TwiIs ts n k0 t ds → ∀ (q : Addr), H1 q = none → Q (.ref q) (upd H1 q (.lst [.str "deeds", u])) := fun u ds H1 s1 hu hT q hq =>
      k _ _ _ (s1.trans (same_new hq)) (.lst (SqL.of upd_same) (.cons (.str _) (.cons (dp_same (same_new hq) _ hu) .nil))) (.inl ⟨ds, rfl, hT⟩)
    have exc : ∀ (y : V) (R : List Nat) (H1 : Hp), Same H H1 → NarIs ts n t.1 t.2 R → Dp K H1 y (lotD (cutL ts R)) → ∀ (q : Addr), H1 q = none → Q (.ref q) (upd H1 q (.lst [.str "thin", y])) := fun y R H1 s1 hN hy q hq =>
      k _ _ _ (s1.trans (same_new hq)) (.lst (SqL.of upd_same) (.cons (.str _) (.cons (dp_same (same_new hq) _ hy) .nil))) (.inr ⟨R, rfl, hN⟩)
    refine ⟨_, rfl, _, rfl, v, n, ts, k0, t, rfl, hw, hends, ht, hn, hel, fun R d y H1 s1 hN hd hy => ⟨true, EF_Thin.te, fun _ a ha => ?_, fun z => nomatch z⟩, fun h3 u ds H1 s1 hu hT => ⟨by show 2 ≤ sizeLine; decide, fun q hq => fine u ds H1 s1 hu hT q hq⟩⟩
    refine ⟨_, rfl, rfl, rfl, d, _, y, rfl, hd, rfl, by show 2 ≤ sizeLine; decide, fun q hq => exc y R H1 s1 hN hy q hq⟩
theorem ok_iscut {f f1 f2 : Addr} {fd fd1 fd2 : FuncData} (D : Df K mg "_law_is_cut" sIscut pIscut f fd) (T : Bl mg) (hisinstance : mg "isinstance" = none) (hbool : mg "bool" = none) (hsorted : mg "sorted" = none) (hset : mg "set" = none) (hlist : mg "list" = none) (D_islot : Df K mg "_law_is_lot" sIslot pIslot f1 fd1) (D_col : Df K mg "_law_colours" sCol pCol f2 fd2) : FnOk P w K mg base CX0 2 f fd pIscut (spIscut K) := by
  have G_islot : FnOk P w K mg base CX0 1 f1 fd1 pIslot (spIslot K) := ok_islot D_islot T hisinstance hbool hsorted hset hlist
  have G_col : FnOk P w K mg base CX0 1 f2 fd2 pCol (spCol K) := ok_col D_col T
  refine D.fn.ok scIscut (fun vs H Q E h => ?_) (fun cdv A outer s H vs Q E hr h => ?_)
  · obtain ⟨v, u, n, ts, R, one, other, m, rfl, _⟩ := h
    rfl
  · obtain ⟨v, u, n, ts, R, one, other, m, rfl, hw, hu0, hm, m1, m2, h1, h2, hends, hj, hn, hel, k⟩ := h
    have nd := scIscut.nd
    have hu := hu_of hr
    have hr_islot : Room 1 _ := hr
    have hr_col : Room 1 _ := hr
    obtain ⟨al, rfl, hal⟩ := dp_lotN hu0
    refine ⟨_, (pss_cons (ps_if (PW.pt (pw_or (pt_not (pt_val (pe_call G_islot hr_islot (by rfl) D_islot.ad D_islot.fn.kp D_islot.bd .nil pass0 (pa_cons (pv 0) (pa_cons (pv 1) pa_nil))))) (pw_or1 (pt_cmpR op_ne (pe_callB (lenK K) (by rfl) T.len PySem.boot_len (pa_cons (pv 1) pa_nil)) (pv 4) (nomark _))))) (pss_one (ps_ret pe_bl)) pss_nil)
      (pss_cons (ps_set (i := 5) nd rfl (by first | exact Or.inl rfl | exact Or.inr rfl) (pe_call G_col hr_col (by rfl) D_col.ad D_col.fn.kp D_col.bd .nil pass0 (pa_cons (pv 0) (pa_cons (pv 1) pa_nil))))
      (pss_one (ps_ret (pe_and (pe_cmpR op_notN (pv 5) pe_non (nomark _)) (pe_one (pe_cmpR op_ne (pe_dget hu (pv 5) (pv 2) (fun _ _ => rfl)) (pe_dget hu (pv 5) (pv 3) (fun _ _ => rfl)) (nomark _)))))))), ?_⟩
    refine tSeq_go ?_
    refine tIfS_t (fun c H' => c = false ∧ Same H H') ?_ ?_ (fun cont => ?_)
    · rintro H' ⟨z, _⟩
      cases z
    rotate_left
    · refine ⟨_, rfl, _, rfl, v, .ref al, n, ts, _, rfl, hw, hu0, by omega, cutL_lot ts R, fun H1 s1 => ?_⟩
      refine ⟨_, rfl, iteF ?_⟩
      refine ⟨_, rfl, al, _, rfl, .inr (sqT_same s1 hal), _, rfl, rfl, false, ?_, cont _ _ ⟨rfl, s1⟩⟩
      rw [natsV_len, hm]
      simp
    rintro H1 ⟨_, s1⟩
    dsimp only [tNext]
    refine tSeq_go ?_
    refine ⟨_, rfl, _, rfl, v, .ref al, n, ts, R, rfl, dp_same s1 _ hw, dp_same s1 _ hu0, hends, hj, by omega, hn, by omega, fun d kvs H2 s2 hd hval => ?_⟩
    dsimp only [gName]
    refine at_st [some v, some (.ref al), some (.int one), some (.int other), some (.int m), some (.ref d)] rfl ?_
    have v1 := hval one h1
    have v2 := hval other h2
    refine ⟨_, rfl, rfl, true, by simp, iteT ?_⟩
    refine ⟨_, rfl, _, rfl, d, .int (sdR R one), rfl, v1 ▸ DGet.k (k := Sum.inl ((one : Nat) : Int)) hd, _, rfl, _, rfl, d, .int (sdR R other), rfl, v2 ▸ DGet.k (k := Sum.inl ((other : Nat) : Int)) hd, rfl, ?_⟩
    have e : V.bl (!decide (V.int ((sdR R one : Nat) : Int) = V.int ((sdR R other : Nat) : Int))) = .bl true := by
      rw [decide_eq_false fun z => ?_]
      · rfl
      · have z : sdR R one = sdR R other := by
          have := V.int.inj z
          omega
        rw [sd_ne, decide_eq_true m1, decide_eq_false m2] at z
        cases z
    rw [e]
    exact k _ (s1.trans s2)
end
end BV

namespace BV
open PySem L2 RZ
abbrev sIstw : Stmt := top 48
abbrev nIstw : List Str := ["_law_web", "_law_homes", "_law_joints", "_law_tie", "_law_one", "_law_other", "_law_low", "_law_told", "_law_due", "_law_deed", "_law_k"]
abbrev pIstw : List Str := ["_law_web", "_law_homes", "_law_joints", "_law_tie"]
theorem scIstw : FnScope nIstw pIstw (defScope sIstw) := ⟨rfl, rfl, rfl, by decide +kernel, rfl, by decide +kernel, by decide +kernel⟩
/-! ### ties of a row -/
theorem row_at {n : Nat} {ps : List (Nat × Nat)} {hs J : List Nat} (h : RowIs n ps hs J) {x : Nat} (hx : x < n) : hs[x]? = some (hs.getD x 0) := by
  rw [List.getD_eq_getElem?_getD, List.getElem?_eq_getElem (by rw [h.len]; exact hx)]
  rfl
theorem row_far {n : Nat} {ts : List Tie} {hs J : List Nat} (h : RowIs n ts hs J) {t : Tie} (ht : t ∈ ts) (hJ : hs.getD t.1 0 = hs.getD t.2 0 ∨ ∀ j, J[min (hs.getD t.1 0) (hs.getD t.2 0)]? = some j → 3 ≤ j) : ∀ S : Nat → Bool, S t.1 = true → S t.2 = false → 3 ≤ cutN S ts := fun S a b => by
  have hk := h.ok t ht
  have hn := h.nb t ht
  rcases row_ge h (row_at h hk.1) (row_at h hk.2.1) (S := S) (by rw [a, b]; decide) with z | ⟨r, j, r1, r2, r3, r4⟩
  · exact z
  · rcases hJ with e | e
    · omega
    · have : r = min (hs.getD t.1 0) (hs.getD t.2 0) := by omega
      rw [this] at r3
      have := e j r3
      omega
theorem row_near {n : Nat} {ts : List Tie} {hs J : List Nat} (h : RowIs n ts hs J) {t : Tie} (hne : hs.getD t.1 0 ≠ hs.getD t.2 0) {j : Nat} (hj : J[min (hs.getD t.1 0) (hs.getD t.2 0)]? = some j) (hj3 : j < 3) : ∃ S : Nat → Bool, S t.1 = true ∧ S t.2 = false ∧ cutN S ts < 3 := by
  have hc := row_step h hj
  rcases Nat.lt_or_ge (hs.getD t.1 0) (hs.getD t.2 0) with z | z
  · rw [Nat.min_eq_left (by omega)] at hc
    exact ⟨fun x => decide (hs.getD x 0 ≤ hs.getD t.1 0), decide_eq_true (Nat.le_refl _), decide_eq_false (by omega), by omega⟩
  · rw [Nat.min_eq_right z] at hc
    refine ⟨fun x => !decide (hs.getD x 0 ≤ hs.getD t.2 0), ?_, ?_, by rw [cutN_neg]; omega⟩
    · show (!decide (hs.getD t.1 0 ≤ hs.getD t.2 0)) = true
      rw [decide_eq_false (by omega)]
      rfl
    · show (!decide (hs.getD t.2 0 ≤ hs.getD t.2 0)) = false
      rw [decide_eq_true (Nat.le_refl _)]
      rfl
theorem mem_cutT {ts : List Tie} {R : List Nat} {k0 : Nat} {t : Tie} (ht : ts[k0]? = some t) : k0 ∈ cutL ts R ↔ decide (t.1 ∈ R) ≠ decide (t.2 ∈ R) := by
  rw [← decide_eq_true_iff (p := k0 ∈ cutL ts R), cut_at ht]
  cases decide (t.1 ∈ R) <;> cases decide (t.2 ∈ R) <;> decide
theorem twi_due {n : Nat} {ts : List Tie} (hends : ∀ t ∈ ts, t.1 < t.2 ∧ t.2 < n) {k0 : Nat} {t : Tie} (ht : ts[k0]? = some t) {ds : List (List Nat × Int)} (h : TwiIs ts n k0 t ds) :
    ds.foldl addD (List.replicate ts.length 0) = (List.range ts.length).map fun k => 2 * (if k = k0 then (1 : Int) else 0) := by
  obtain ⟨_, _, hs⟩ := twi_facts hends ht h
  apply List.ext_getElem?
  intro k
  rw [foldD_at, List.getElem?_map]
  by_cases hk : k < ts.length
  · rw [List.getElem?_replicate, if_pos hk, List.getElem?_range hk]
    show some (0 + sumK ds k) = some (2 * (if k = k0 then (1 : Int) else 0))
    rw [hs k hk]
    by_cases e : k = k0
    · rw [if_pos e, if_pos e]
      rfl
    · rw [if_neg e, if_neg e]
      rfl
  · rw [List.getElem?_replicate, if_neg hk, List.getElem?_eq_none (by rw [List.length_range]; omega)]
    rfl
theorem eqv_tints (ns ms : List Int) : PyData.eqv (.tuple (ns.map .int)) (.tuple (ms.map .int)) = decide (ns = ms) := by
  rw [PyData.eqv, PySem.W.ked_eqvAll]
theorem shaped_tints (ns : List Int) : SeqAt.shaped (.tuple (ns.map .int)) = true := shaped_intsL ns
def spIstw (K : PySem.W.Frag) : Sp := fun vs H Q _ => ∃ (v : V) (hl jl : Addr) (n : Nat) (ts : List Tie) (led J : List Nat) (k0 : Nat) (t : Tie), vs = [v, .ref hl, .ref jl, .int k0] ∧ Dp K H v (webD n ts) ∧ H hl = some (.lst (natsV led)) ∧ H jl = some (.lst (natsV J)) ∧ RowIs n ts led J ∧
  (∀ t ∈ ts, t.1 < t.2 ∧ t.2 < n) ∧ ts[k0]? = some t ∧ n ≤ 12 ∧ ts.length ≤ 44 ∧ ∀ H', Same H H' → Q (.bl true) H'
theorem nats_at {l : List Nat} {i x : Nat} (h : l[i]? = some x) : (natsV l)[i]? = some (.int (x : Int)) := by
  unfold natsV
  rw [List.getElem?_map, h]
  rfl
section
variable {P : Program} {w : World} {K : PySem.W.Frag} {mg : Str → Option Value} {base : Heap}
theorem ok_istw {f f1 f2 f3 f4 f5 f6 f7 f8 f9 g1 g2 g3 g4 g5 g6 g7 g8 g9 U B C fI e1 e2 e3 e4 e5 e6 e7 : Addr} {fd fd1 fd2 fd3 fd4 fd5 fd6 fd7 fd8 fd9 gd1 gd2 gd3 gd4 gd5 gd6 gd7 gd8 gd9 fdI ed1 ed2 ed3 ed4 ed5 ed6 ed7 : FuncData} {tE : Tok} (D : Df K mg "_law_is_twice" sIstw pIstw f fd) (T : Bl mg) (hisinstance : mg "isinstance" = none) (hbool : mg "bool" = none) (hsorted : mg "sorted" = none) (hset : mg "set" = none) (hlist : mg "list" = none) (hE3 : mg "_ENOUGH" = some (.int 3 tE)) (EU : ErrU K mg U B) (EF_Thin : ErrF K mg "Thin" "lot" C fI B)
    (D_far : Df K mg "far_end" sFar pFar f1 fd1) (D_sign : Df K mg "_sign" sSign pSign f2 fd2)
    (D_stepsf : Df K mg "_steps_from" sStepsf pStepsf f3 fd3) (D_back : Df K mg "_way_back" sBack pBack f4 fd4) (D_open : Df K mg "_open_steps" sOpen pOpen f5 fd5) (D_flow : Df K mg "_flow_between" sFlow pFlow f6 fd6) (D_cutof : Df K mg "cut_of" sCutof pCutof f7 fd7) (D_narrow : Df K mg "narrow_cut" sNarrow pNarrow f8 fd8)
    (D_ways : Df K mg "ways" sWays pWays f9 fd9) (D_all : Df K mg "all_ties" sAll pAll g1 gd1) (D_sum : Df K mg "sum_of" sSum pSum g2 gd2) (D_odd : Df K mg "odd_places" sOdd pOdd g3 gd3) (D_even : Df K mg "is_even" sEven pEven g4 gd4) (D_wfrom : Df K mg "ways_from" sWfrom pWfrom g5 gd5)
    (D_fround : Df K mg "_first_round" sFround pFround g6 gd6) (D_parted_x : Df K mg "parted_even" sParted pParted g7 gd7) (D_doubled_x : Df K mg "doubled" sDoubled pDoubled g8 gd8) (F_I : Fun K "__init__" "Thin.__init__" sThinI fI fdI) (bI_Thin : Binds K fdI ["self", "lot"] [])
    (D_twice_x : Df K mg "twice" sTwice pTwice g9 gd9) (D_twtold : Df K mg "_law_twice_told" sTwtold pTwtold e1 ed1) (D_islot : Df K mg "_law_is_lot" sIslot pIslot e2 ed2) (D_col : Df K mg "_law_colours" sCol pCol e3 ed3) (D_iscut : Df K mg "_law_is_cut" sIscut pIscut e4 ed4)
    (D_isr : Df K mg "_law_is_round" sIsr pIsr e5 ed5) (D_isdeed : Df K mg "_law_is_deed" sIsdeed pIsdeed e6 ed6) (D_behind : Df K mg "_law_behind" sBehind pBehind e7 ed7) : FnOk P w K mg base CX0 9 f fd pIstw (spIstw K) := by
  have G_twtold : FnOk P w K mg base CX0 8 e1 ed1 pTwtold (spTwtold K) := ok_twtold D_twtold T hisinstance hsorted hE3 EU EF_Thin D_far D_sign D_stepsf D_back D_open D_flow D_cutof D_narrow D_ways D_all D_sum D_odd D_even D_wfrom D_fround D_parted_x D_doubled_x F_I bI_Thin D_twice_x
  have G_islot : FnOk P w K mg base CX0 1 e2 ed2 pIslot (spIslot K) := ok_islot D_islot T hisinstance hbool hsorted hset hlist
  have G_iscut : FnOk P w K mg base CX0 2 e4 ed4 pIscut (spIscut K) := ok_iscut D_iscut T hisinstance hbool hsorted hset hlist D_islot D_col
  have G_isdeed : FnOk P w K mg base CX0 3 e6 ed6 pIsdeed (spIsdeed K) := ok_isdeed D_isdeed T hisinstance hbool hsorted hset hlist D_islot D_isr
  have G_behind : FnOk P w K mg base CX0 4 e7 ed7 pBehind (spBehind K) := ok_behind D_behind T hisinstance hbool hsorted hset hlist D_islot D_isr D_isdeed
  refine D.fn.ok scIstw (fun vs H Q E h => ?_) (fun cdv A outer s H vs Q E hr h => ?_)
  · obtain ⟨v, hl, jl, n, ts, led, J, k0, t, rfl, _⟩ := h
    rfl
  · obtain ⟨v, hl, jl, n, ts, led, J, k0, t, rfl, hw, hhl, hjl, hR, hends, ht, hn, hel, k⟩ := h
    have nd := scIstw.nd
    have hr_twtold : Room 8 _ := hr
    have hr_islot : Room 1 _ := hr.mono (by decide)
    have hr_iscut : Room 2 _ := hr.mono (by decide)
    have hr_isdeed : Room 3 _ := hr.mono (by decide)
    have hr_behind : Room 4 _ := hr.mono (by decide)
    obtain ⟨p, c, ys, rfl, hp, hc, hys⟩ := dp_web hw
    have hyl : ys.length = ts.length := by rw [dpAll_len hys, List.length_map]
    obtain ⟨y0, hy0, hyd0⟩ := dpAll_at hys (show (ts.map tieD)[k0]? = some (tieD t) by rw [List.getElem?_map, ht]; rfl)
    obtain ⟨az, rfl, haz⟩ := dp_tie hyd0
    have hj := row_joi hR
    have htm := List.mem_of_getElem? ht
    have hte := hends t htm
    have a1 := row_at hR (show t.1 < n by omega)
    have a2 := row_at hR hte.2
    have hpL := hR.le _ (List.mem_of_getElem? a1)
    have hqL := hR.le _ (List.mem_of_getElem? a2)
    have hfar := row_far hR htm
    have hnear := fun (h1 : led.getD t.1 0 ≠ led.getD t.2 0) (j : Nat) (h2 : J[min (led.getD t.1 0) (led.getD t.2 0)]? = some j) (h3 : j < 3) => row_near hR h1 h2 h3
    generalize led.getD t.1 0 = h1 at *
    generalize led.getD t.2 0 = h2 at *
    refine ⟨_, (pss_cons (ps_asg (pe_ix (ixT K) (pe_ix (ixT K) (pv 0) pe_int (fun _ _ => rfl)) (pv 3) (fun _ _ => rfl)) (pgT K rfl (pgs_cons (pg_name (i := 4) nd rfl (by first | exact Or.inl rfl | exact Or.inr rfl)) (pgs_cons (pg_name (i := 5) nd rfl (by first | exact Or.inl rfl | exact Or.inr rfl)) pgs_nil))))
      (pss_cons (ps_par (i := 6) (j := 7) (by rfl) nd rfl rfl (by decide) rfl rfl (pa_cons (pe_callB (call_min2 rfl) (by rfl) T.min (by decide +kernel) (pa_cons (pe_ix (ixL K) (pv 1) (pv 4) (fun _ _ => rfl)) (pa_cons (pe_ix (ixL K) (pv 1) (pv 5) (fun _ _ => rfl)) pa_nil))) (pa_cons (pe_call G_twtold hr_twtold (by rfl) D_twtold.ad D_twtold.fn.kp D_twtold.bd .nil pass0 (pa_cons (pv 0) (pa_cons (pv 3) pa_nil))) pa_nil)) (by rfl))
      (pss_cons (ps_if (PW.pt (pw_and (pt_cmpR op_ne (pe_ix (ixL K) (pv 1) (pv 4) (fun _ _ => rfl)) (pe_ix (ixL K) (pv 1) (pv 5) (fun _ _ => rfl)) (nomark _)) (pw_and1 (pt_cmpR op_lt (pe_ix (ixL K) (pv 2) (pv 6) (fun _ _ => rfl)) pe_int (nomark _))))) (pss_cons (ps_if (PW.pt (pw_or (pt_cmpR op_ne (pe_ix (ixL K) (pv 7) pe_int (fun _ _ => rfl)) pe_str (nomark _)) (pw_or (pt_not (pt_val (pe_call G_islot hr_islot (by rfl) D_islot.ad D_islot.fn.kp D_islot.bd .nil pass0 (pa_cons (pv 0) (pa_cons (pe_ix (ixL K) (pv 7) pe_int (fun _ _ => rfl)) pa_nil))))) (pw_or (pt_cmpR op_gt (pe_callB (lenK K) (by rfl) T.len PySem.boot_len (pa_cons (pe_ix (ixL K) (pv 7) pe_int (fun _ _ => rfl)) pa_nil)) pe_int (nomark _)) (pw_or1 (pt_cmpR (opNotIn K) (pv 3) (pe_ix (ixL K) (pv 7) pe_int (fun _ _ => rfl)) rfl)))))) (pss_one (ps_ret pe_bl)) pss_nil)
      (pss_one (ps_ret (pe_call G_iscut hr_iscut (by rfl) D_iscut.ad D_iscut.fn.kp D_iscut.bd .nil pass0 (pa_cons (pv 0) (pa_cons (pe_ix (ixL K) (pv 7) pe_int (fun _ _ => rfl)) (pa_cons (pv 4) (pa_cons (pv 5) (pa_cons (pe_callB (lenK K) (by rfl) T.len PySem.boot_len (pa_cons (pe_ix (ixL K) (pv 7) pe_int (fun _ _ => rfl)) pa_nil)) pa_nil))))))))) pss_nil)
      (pss_cons (ps_if (PW.pt (pw_or (pt_cmpR op_ne (pe_ix (ixL K) (pv 7) pe_int (fun _ _ => rfl)) pe_str (nomark _)) (pw_or (pt_not (pt_val (pe_callB (isiD K) (by rfl) hisinstance (by decide +kernel) (pa_cons (pe_ix (ixL K) (pv 7) pe_int (fun _ _ => rfl)) (pa_cons (pe_bltn (v := .ty "tuple") (by rfl) T.tuple (by decide +kernel) rfl) pa_nil))))) (pw_or1 (pt_cmpR op_gt (pe_callB (lenK K) (by rfl) T.len PySem.boot_len (pa_cons (pe_ix (ixL K) (pv 7) pe_int (fun _ _ => rfl)) pa_nil)) pe_int (nomark _)))))) (pss_one (ps_ret pe_bl)) pss_nil)
      (pss_cons (ps_if (pt_cmpR (opNeD K hr.units) (pe_lc (own := [("_law_deed", 9)]) (g := (gName 9)) rfl nd (piT K (pe_ix (ixL K) (pv 7) pe_int (fun _ _ => rfl))) (blkOk_by (own := [("_law_deed", 9)]) (N := nIstw) (sc := defScope sIstw) (by decide +kernel)) (fun _ _ _ _ _ => (pg_name (i := 9) nd rfl (by first | exact Or.inl rfl | exact Or.inr rfl))) (fun _ _ _ _ _ => (pts_one (PW.pt (pw_or (pt_not (pt_val (pe_call G_isdeed hr_isdeed (by rfl) D_isdeed.ad D_isdeed.fn.kp D_isdeed.bd .nil pass0 (pa_cons (pv 0) (pa_cons (pv 9) pa_nil))))) (pw_or1 (pt_cmpR op_ne (pe_ix (ixT K) (pv 9) pe_int (fun _ _ => rfl)) pe_str (nomark _))))))) (fun _ _ _ _ _ => pe_int)) (pe_lst pa_nil) (nomark _)) (pss_one (ps_ret pe_bl)) pss_nil)
      (pss_cons (ps_set (i := 8) nd rfl (by first | exact Or.inl rfl | exact Or.inr rfl) (pe_callTy (tupleK K) (by rfl) T.tuple (by decide +kernel) (pa_cons (pe_lc (own := [("_law_k", 10)]) (g := (gName 10)) (tt := tYes) rfl nd (pi_range1 rfl T.range (pa_cons (pe_callB (lenK K) (by rfl) T.len PySem.boot_len (pa_cons (pe_ix (ixT K) (pv 0) pe_int (fun _ _ => rfl)) pa_nil)) pa_nil)) (blkOk_by (own := [("_law_k", 10)]) (N := nIstw) (sc := defScope sIstw) (by decide +kernel)) (fun _ _ _ _ _ => (pg_name (i := 10) nd rfl (by first | exact Or.inl rfl | exact Or.inr rfl))) (fun _ _ _ _ _ => pts_nil) (fun _ _ _ _ _ => (pe_op op_mul pe_int (pe_callTy call_int1 (by rfl) T.int (by decide +kernel) (pa_cons (pe_cmpR op_eq (pv 10) (pv 3) (nomark _)) pa_nil))))) pa_nil)))
      (pss_one (ps_ret (pe_cmpR (opEqD K hr.units) (pe_call G_behind hr_behind (by rfl) D_behind.ad D_behind.fn.kp D_behind.bd .nil pass0 (pa_cons (pv 0) (pa_cons (pe_op (op_repN K) (pe_tup (pa_cons pe_int pa_nil)) (pe_callB (lenK K) (by rfl) T.len PySem.boot_len (pa_cons (pe_ix (ixT K) (pv 0) pe_int (fun _ _ => rfl)) pa_nil))) (pa_cons (pe_ix (ixL K) (pv 7) pe_int (fun _ _ => rfl)) (pa_cons pe_bl pa_nil))))) (pv 8) (nomark _)))))))))), ?_⟩
    refine tSeq_go ?_
    refine ⟨_, rfl, p, _, _, _, rfl, rfl, hp, atI_nat (j := 1) rfl, _, rfl, c, _, _, _, rfl, rfl, hc, atI_nat hy0, az, _, rfl, haz, rfl, _, _, rfl, _, _, rfl, rfl, ?_⟩
    refine at_st [some (.ref p), some (.ref hl), some (.ref jl), some (.int k0), some (.int (t.1 : Nat)), some (.int (t.2 : Nat)), none, none, none, none, none] rfl ?_
    refine tSeq_go ?_
    refine ⟨_, rfl, _, rfl, hl, _, _, _, rfl, rfl, SqL.of hhl, atI_nat (nats_at a1), _, rfl, _, rfl, hl, _, _, _, rfl, rfl, SqL.of hhl, atI_nat (nats_at a2), _, _, rfl, ?_⟩
    have elow : (if ((h2 : Nat) : Int) < ((h1 : Nat) : Int) then ((h2 : Nat) : Int) else ((h1 : Nat) : Int)) = ((min h1 h2 : Nat) : Int) := by
      split <;> omega
    rw [elow]
    refine ⟨_, rfl, _, rfl, .ref p, n, ts, k0, t, rfl, hw, hends, ht, by omega, by omega, fun u d H1 s1 hu hT => ?_⟩
    refine ⟨_, _, rfl, ?_⟩
    dsimp only
    refine at_st [some (.ref p), some (.ref hl), some (.ref jl), some (.int k0), some (.int (t.1 : Nat)), some (.int (t.2 : Nat)), some (.int ((min h1 h2 : Nat) : Int)), some u, none, none, none] rfl ?_
    refine tSeq_go ?_
    have hhl1 := s1 _ _ hhl
    have hjl1 := s1 _ _ hjl
    have hw1 := dp_same s1 _ hw
    refine tIfS_t (fun c H' => H' = H1 ∧ (c = true → h1 ≠ h2 ∧ ∃ j, J[min h1 h2]? = some j ∧ j < 3) ∧ (c = false → h1 = h2 ∨ ∀ j, J[min h1 h2]? = some j → 3 ≤ j)) ?_ ?_ (fun cont => ?_)
    rotate_left
    rotate_left
    · refine ⟨_, rfl, _, rfl, hl, _, _, _, rfl, rfl, SqL.of hhl1, atI_nat (nats_at a1), _, rfl, _, rfl, hl, _, _, _, rfl, rfl, SqL.of hhl1, atI_nat (nats_at a2), rfl, _, rfl, ite2 (fun hh => ?_) (fun hh => ?_)⟩
      · have hh : h1 ≠ h2 := fun z => by
          rw [z] at hh
          simp at hh
        have hJ : J[min h1 h2]? = some (J[min h1 h2]'(by omega)) := List.getElem?_eq_getElem _
        generalize J[min h1 h2]'(by omega) = j at hJ
        refine ⟨_, rfl, _, rfl, jl, _, _, _, rfl, rfl, SqL.of hjl1, atI_nat (nats_at hJ), _, _, rfl, rfl, decide ((j : Int) < 3), rfl, cont _ _ ⟨rfl, fun e => ⟨hh, j, hJ, ?_⟩, fun e => .inr fun j' hj' => ?_⟩⟩
        · have := of_decide_eq_true e
          omega
        · rw [hJ] at hj'
          cases hj'
          have := of_decide_eq_false e
          omega
      · have hh : h1 = h2 := Classical.byContradiction fun z => hh (by
          rw [decide_eq_false fun y => z (by have := V.int.inj y; omega)]
          rfl)
        exact cont _ _ ⟨rfl, fun e => (by cases e), fun _ => .inl hh⟩
    · rintro H0 ⟨e0, hyes, _⟩
      rw [e0]
      clear e0 H0
      obtain ⟨hne, j, hJ, hj3⟩ := hyes rfl
      obtain ⟨S, e1, e2, e3⟩ := hnear hne j hJ hj3
      rcases hT with ⟨ds, rfl, hTw⟩ | ⟨R, rfl, hN⟩
      · obtain ⟨ws, f0, f1, fs, hW, _⟩ := hTw.ex
        have := hW.least S e1 e2
        omega
      obtain ⟨al, v2, rfl, hal, hv2⟩ : ∃ (al : Addr) (v2 : V), u = .ref al ∧ SqL K H1 al [.str (Str.ofString "thin"), v2] ∧ Dp K H1 v2 (lotD (cutL ts R)) := by
        cases hu with
        | lst hs hzs =>
          cases hzs with
          | cons q1 q2 =>
            cases q1
            cases q2 with
            | cons q3 q4 =>
              cases q4
              exact ⟨_, _, rfl, hs, q3⟩
      obtain ⟨ac, rfl, hac⟩ := dp_lotN hv2
      have hf := hN.few
      refine tSeq_go ?_
      refine tIfS_t (fun c H' => c = false ∧ Same H1 H') ?_ ?_ (fun cont => ?_)
      · rintro H' ⟨z, _⟩
        cases z
      rotate_left
      · refine ⟨_, rfl, al, [.str (Str.ofString "thin"), .ref ac], _, .str "thin", rfl, rfl, hal, atI_nat (j := 0) rfl, rfl, false, by simp, iteF ?_⟩
        refine ⟨_, rfl, _, rfl, al, [.str (Str.ofString "thin"), .ref ac], _, .ref ac, rfl, rfl, hal, atI_nat (j := 1) rfl, .ref p, .ref ac, n, ts, cutL ts R, rfl, hw1, hv2, by omega, cutL_lot ts R, fun H2 s2 => ?_⟩
        refine ⟨_, rfl, iteF ?_⟩
        refine ⟨_, rfl, al, [.str (Str.ofString "thin"), .ref ac], _, .ref ac, rfl, rfl, Same.seq s2 hal, atI_nat (j := 1) rfl, ac, _, rfl, .inr (sqT_same s2 hac), _, _, rfl, rfl, false, congrArg V.bl (decide_eq_false (by rw [natsV_len]; omega)), iteF ?_⟩
        refine ⟨_, rfl, _, rfl, al, [.str (Str.ofString "thin"), .ref ac], _, .ref ac, rfl, rfl, Same.seq s2 hal, atI_nat (j := 1) rfl, ac, _, rfl, .inr (sqT_same s2 hac), rfl, flat_nats _, false, ?_, cont _ _ ⟨rfl, s2⟩⟩
        have key : inV (V.int (k0 : Int)) (natsV (cutL ts R)) = decide (k0 ∈ cutL ts R) := inv_nats k0 _
        show V.bl (!inV (V.int (k0 : Int)) (natsV (cutL ts R))) = _
        rw [key, decide_eq_true ((mem_cutT ht).mpr (by rw [decide_eq_true hN.m1, decide_eq_false hN.m2]; decide))]
        rfl
      rintro H2 ⟨_, s2⟩
      dsimp only [tNext]
      refine ⟨_, rfl, _, rfl, al, [.str (Str.ofString "thin"), .ref ac], _, .ref ac, rfl, rfl, Same.seq s2 hal, atI_nat (j := 1) rfl, _, rfl, _, rfl, _, rfl, al, [.str (Str.ofString "thin"), .ref ac], _, .ref ac, rfl, rfl, Same.seq s2 hal, atI_nat (j := 1) rfl, ac, _, rfl, .inr (sqT_same s2 hac), ?_⟩
      refine ⟨.ref p, .ref ac, n, ts, R, t.1, t.2, (cutL ts R).length, by rw [natsV_len]; rfl, dp_same s2 _ hw1, dp_same s2 _ hv2, rfl, hN.m1, hN.m2, by omega, hte.2, hends, hj, by omega, by omega, fun H3 s3 => k _ ((s1.trans s2).trans s3)⟩
    · rintro H0 ⟨e0, _, hno⟩
      rw [e0]
      clear e0 H0
      dsimp only [tNext]
      refine tSeq_go ?_
      have h3 := hfar (hno rfl)
      rcases hT with ⟨ds, rfl, hTw⟩ | ⟨R, rfl, hN⟩
      rotate_left
      · have := h3 (fun x => decide (x ∈ R)) (decide_eq_true hN.m1) (decide_eq_false hN.m2)
        have hf := hN.few
        rw [cutL_len] at hf
        omega
      obtain ⟨al, v2, rfl, hal, hv2⟩ : ∃ (al : Addr) (v2 : V), u = .ref al ∧ SqL K H1 al [.str (Str.ofString "deeds"), v2] ∧ Dp K H1 v2 (.tuple (ds.map deedD)) := by
        cases hu with
        | lst hs hzs =>
          cases hzs with
          | cons q1 q2 =>
            cases q1
            cases q2 with
            | cons q3 q4 =>
              cases q4
              exact ⟨_, _, rfl, hs, q3⟩
      obtain ⟨ad, dv, rfl, had, hdv⟩ := dp_tup hv2
      obtain ⟨hok, _, _⟩ := twi_facts hends ht hTw
      have hdl := twi_len hends ht hTw
      have hdvl : dv.length = ds.length := by rw [dpAll_len hdv, List.length_map]
      refine tIfS_t (fun c H' => c = false ∧ H' = H1) ?_ ?_ (fun cont => ?_)
      · rintro H' ⟨z, _⟩
        cases z
      rotate_left
      · refine ⟨_, rfl, al, [.str (Str.ofString "deeds"), .ref ad], _, .str "deeds", rfl, rfl, hal, atI_nat (j := 0) rfl, rfl, false, by simp, iteF ?_⟩
        refine ⟨_, rfl, al, [.str (Str.ofString "deeds"), .ref ad], _, .ref ad, rfl, rfl, hal, atI_nat (j := 1) rfl, .ref ad, _, "tuple", true, rfl, .inl hv2, rfl, _, rfl, ?_⟩
        refine ⟨_, rfl, al, [.str (Str.ofString "deeds"), .ref ad], _, .ref ad, rfl, rfl, hal, atI_nat (j := 1) rfl, ad, dv, rfl, .inr had, _, _, rfl, rfl, false, congrArg V.bl (decide_eq_false (by omega)), cont _ _ ⟨rfl, rfl⟩⟩
      rintro H0 ⟨_, e0⟩
      rw [e0]
      clear e0 H0
      dsimp only [tNext]
      refine tSeq_go ?_
      refine tIfS_t (fun c H' => c = false ∧ Same H1 H') ?_ ?_ (fun cont => ?_)
      · rintro H' ⟨z, _⟩
        cases z
      rotate_left
      · refine ⟨_, rfl, al, [.str (Str.ofString "deeds"), .ref ad], _, .ref ad, rfl, rfl, hal, atI_nat (j := 1) rfl, ad, rfl, ⟨_, had⟩, fun E3 hE3 => ?_⟩
        refine lc_run (walk_tup (xs := dv)) hE3 (fun j acc _ => acc = []) ?_ ?_ ?_ ?_
        · exact fun H' s => sqT_same s had
        · rfl
        · rintro j x acc H8 H' hj hacc e s ha ⟨rfl, hx⟩
          obtain ⟨dd, hdd, hxd⟩ := dpAll_get hdv hx
          obtain ⟨d, hdj, rfl⟩ := get_map hdd
          obtain ⟨ax, al2, rfl, hax, hal2, hll⟩ := dp_deedR hxd
          refine ⟨rfl, ?_⟩
          refine ⟨_, rfl, _, rfl, .ref p, .ref ax, n, ts, d, rfl, dp_same s _ hw1, dp_same s _ hxd, hends, by omega, by omega, hok d (List.mem_of_getElem? hdj), fun H9 s9 => ?_⟩
          refine ⟨_, rfl, iteF ?_⟩
          refine ⟨_, rfl, ax, [.str "round", .ref al2, .int d.2], _, .str "round", rfl, rfl, sqT_same (s.trans s9) hax, atI_nat (j := 0) rfl, rfl, false, by simp, iteF ?_⟩
          exact lc_skip hacc e s9 ha
        · rintro acc H8 hacc s8 ha
          have ha : acc = [] := ha
          subst ha
          refine ⟨Nat.zero_le _, fun q2 hq2 => ?_⟩
          have sq2 := same_new (o := .lst []) hq2
          exact ⟨.list [], .list [], .lst (SqL.of (sq2 _ _ hacc)) .nil, .lst (SqL.of upd_same) .nil, shaped_intsL [], shaped_intsL [], false, by rfl, cont _ _ ⟨rfl, s8.trans sq2⟩⟩
      rintro H8 ⟨_, s8⟩
      dsimp only [tNext]
      refine tSeq_go ?_
      have hw8 := dp_same s8 _ hw1
      have s08 := s1.trans s8
      refine ⟨_, rfl, p, _, _, _, rfl, rfl, sqT_same s08 hp, atI_nat (j := 1) rfl, c, ys, rfl, .inr (sqT_same s08 hc), _, rfl, by omega, by omega, fun E4 hE4 => ?_⟩
      rw [hyl]
      refine lc_run (walk_range (lo := 0) (n := ((ts.length : Nat) : Int).toNat)) hE4 (fun j acc _ => acc = ((List.range j).map fun k => 2 * (if k = k0 then (1 : Int) else 0)).map V.int) ?_ ?_ ?_ ?_
      · exact fun _ _ => trivial
      · rfl
      · rintro j x acc H9 H' hj hacc e s ha ⟨rfl, rfl⟩
        have ha : acc = ((List.range j).map fun k => 2 * (if k = k0 then (1 : Int) else 0)).map V.int := ha
        have hjl : j < ts.length := by omega
        refine ⟨rfl, yes_go ?_⟩
        refine ⟨_, rfl, _, rfl, rfl, .inr ⟨decide (j = k0), congrArg (fun b => [V.bl b]) (decide_eq_decide.mpr ⟨fun z => by have := V.int.inj z; omega, fun z => by subst z; exact congrArg V.int (Int.zero_add _)⟩), 2, _, rfl, rfl, .inl ⟨by decide, by decide⟩, ?_⟩⟩
        refine lc_add hacc e (Same.refl _) (by rw [ha, List.length_map, List.length_map, List.length_range]; omega) ?_
        show _ = _
        rw [List.range_succ, List.map_append, List.map_append, ha]
        simp only [decide_eq_true_eq]
        rfl
      rintro acc H9 hacc s9 ha
      have ha : acc = ((List.range ts.length).map fun k => 2 * (if k = k0 then (1 : Int) else 0)).map V.int := ha
      refine ⟨E4, _, rfl, .inl ⟨SqL.of hacc, fun u5 hu5 => ?_⟩⟩
      have s10 := same_new (o := .tup acc) hu5
      have hU : Dp K (upd H9 u5 (.tup acc)) (.ref u5) (.tuple (((List.range ts.length).map fun k => 2 * (if k = k0 then (1 : Int) else 0)).map .int)) := .tup (SqT.of upd_same) (by rw [ha]; exact dpAll_ints _)
      have s810 := s9.trans s10
      generalize upd H9 u5 (.tup acc) = H10 at *
      have s710 := s8.trans s810
      have s010 := s1.trans s710
      dsimp only [gName]
      refine at_st [some (.ref p), some (.ref hl), some (.ref jl), some (.int k0), some (.int (t.1 : Nat)), some (.int (t.2 : Nat)), some (.int ((min h1 h2 : Nat) : Int)), some (.ref al), some (.ref u5), none, none] rfl ?_
      refine ⟨_, rfl, by show 1 ≤ sizeLine; decide, fun q6 hq6 => ?_⟩
      have t6 := same_new (o := .tup [.int 0]) hq6
      refine ⟨_, rfl, p, _, _, _, rfl, rfl, sqT_same (s010.trans t6) hp, atI_nat (j := 1) rfl, c, ys, rfl, .inr (sqT_same (s010.trans t6) hc), ?_⟩
      refine ⟨q6, ts.length, .int 0, rfl, by rw [hyl], SqT.of upd_same, by omega, fun pz Hz sz hz => ?_⟩
      have t7 := t6.trans sz
      refine ⟨_, rfl, al, [.str (Str.ofString "deeds"), .ref ad], _, .ref ad, rfl, rfl, Same.seq (s710.trans t7) hal, atI_nat (j := 1) rfl, ?_⟩
      refine ⟨.ref p, .ref pz, .ref ad, n, ts, List.replicate ts.length 0, ds, rfl, dp_same (s010.trans t7) _ hw, .tup hz ?_, dp_same (s710.trans t7) _ hv2, hends, by omega, by omega, by rw [List.length_replicate]; omega, by omega, hok, fun u8 H12 s12 hu8 => ?_⟩
      · have := dpAll_ints (K := K) (H := Hz) (List.replicate ts.length 0)
        rw [List.map_replicate] at this
        exact this
      refine ⟨_, rfl, _, _, hu8, dp_same (t7.trans s12) _ hU, shaped_tints _, shaped_tints _, ?_⟩
      rw [twi_due hends ht hTw, eqv_tints, decide_eq_true rfl]
      exact k _ ((s010.trans t7).trans s12)
end
end BV

namespace BV
open PySem L2 RZ
abbrev sLaw : Stmt := top 49
abbrev nLaw : List Str := ["_law_script", "_law_cup_here", "_law_web", "_law_homes", "_law_joints", "_law_known", "_law_thin", "_law_turn", "_law_one", "_law_other", "_law_low", "_law_high", "_law_due", "_law_cut", "_law_many"]
abbrev pLaw : List Str := ["_law_script"]
theorem scLaw : FnScope nLaw pLaw (defScope sLaw) := ⟨rfl, rfl, rfl, by decide +kernel, rfl, by decide +kernel, by decide +kernel⟩
def spLaw (K : PySem.W.Frag) : Sp := fun vs H Q _ => ∃ (a : Addr) (ns : List Int), vs = [.ref a] ∧ SqL K H a (ns.map V.int) ∧ ns.length ≤ 63 ∧ ∀ H', Q (.bl true) H'
theorem webAt {K : PySem.W.Frag} {H : Hp} {p : Addr} {n : Nat} {ts : List Tie} (h : Dp K H (.ref p) (webD n ts)) : ∃ (c : Addr) (ys : List V), SqT K H p [.int n, .ref c] ∧ SqT K H c ys ∧ DpAll K H ys (ts.map tieD) ∧ ys.length = ts.length := by
  obtain ⟨p', c, ys, e, hp, hc, hys⟩ := dp_web h
  cases e
  exact ⟨c, ys, hp, hc, hys, by rw [dpAll_len hys, List.length_map]⟩
theorem tPar_by {i j : Nat} {ta : TA} {D : Ends} {σ : St} {H : Hp} (N : V → V → Hp → Prop) (h : ∀ R : List V → Hp → Prop, (∀ v w H', N v w H' → R [v, w] H') → ta σ H R)
    (cont : ∀ v w H', N v w H' → D.nx ((σ.set i (some v)).set j (some w)) H') : tPar i j ta D σ H :=
  h _ fun v w H' n => ⟨v, w, rfl, cont v w H' n⟩
theorem dec_nat3 (d : Nat) : decide (V.int (d : Int) = V.int 3) = decide (d = 3) := decide_eq_decide.mpr ⟨fun z => by have := V.int.inj z; omega, fun z => by rw [z]; rfl⟩
theorem eqv_natsNil (l : List Nat) : PyData.eqv (.list ((l.map fun (k : Nat) => (k : Int)).map PyData.int)) (.list []) = decide (l = []) := by
  cases l with
  | nil => rfl
  | cons x l => rfl
theorem nar_few {n : Nat} {ts : List Tie} {one other d : Nat} {R : List Nat} (h : NarIs ts n one other R) (hF : IsFew ts one other d) : (cutL ts R).length = d ∧ d < 3 := by
  have h2 := hF.2.1 (fun x => decide (x ∈ R)) (decide_eq_true h.m1) (decide_eq_false h.m2)
  rw [← cutL_len] at h2
  have hf := h.few
  obtain ⟨S, a, b, c⟩ := hF.2.2 (by omega)
  have := h.least S a b
  exact ⟨by omega, by omega⟩
section
variable {P : Program} {w : World} {K : PySem.W.Frag} {mg : Str → Option Value} {base : Heap}
theorem ok_law {f f1 f2 f3 f4 f5 f6 f7 f8 f9 g1 g2 g3 g4 g5 g6 g7 g8 g9 U B C fI e1 e2 e3 e4 e5 e6 e7 e8 e9 d1 d2 d3 d4 d5 d6 d7 d8 d9 : Addr} {fd fd1 fd2 fd3 fd4 fd5 fd6 fd7 fd8 fd9 gd1 gd2 gd3 gd4 gd5 gd6 gd7 gd8 gd9 fdI ed1 ed2 ed3 ed4 ed5 ed6 ed7 ed8 ed9 dd1 dd2 dd3 dd4 dd5 dd6 dd7 dd8 dd9 : FuncData} {tE : Tok} (D : Df K mg "law" sLaw pLaw f fd) (T : Bl mg)
    (hisinstance : mg "isinstance" = none) (hbool : mg "bool" = none) (hsorted : mg "sorted" = none) (hset : mg "set" = none) (hlist : mg "list" = none) (hE3 : mg "_ENOUGH" = some (.int 3 tE)) (EU : ErrU K mg U B) (EF_Thin : ErrF K mg "Thin" "lot" C fI B)
    (D_far : Df K mg "far_end" sFar pFar f1 fd1) (D_sign : Df K mg "_sign" sSign pSign f2 fd2)
    (D_stepsf : Df K mg "_steps_from" sStepsf pStepsf f3 fd3) (D_back : Df K mg "_way_back" sBack pBack f4 fd4) (D_open : Df K mg "_open_steps" sOpen pOpen f5 fd5) (D_flow : Df K mg "_flow_between" sFlow pFlow f6 fd6) (D_cutof : Df K mg "cut_of" sCutof pCutof f7 fd7) (D_narrow : Df K mg "narrow_cut" sNarrow pNarrow f8 fd8)
    (D_ways : Df K mg "ways" sWays pWays f9 fd9) (D_all : Df K mg "all_ties" sAll pAll g1 gd1) (D_sum : Df K mg "sum_of" sSum pSum g2 gd2) (D_odd : Df K mg "odd_places" sOdd pOdd g3 gd3) (D_even : Df K mg "is_even" sEven pEven g4 gd4) (D_wfrom : Df K mg "ways_from" sWfrom pWfrom g5 gd5)
    (D_fround : Df K mg "_first_round" sFround pFround g6 gd6) (D_parted_x : Df K mg "parted_even" sParted pParted g7 gd7) (D_doubled_x : Df K mg "doubled" sDoubled pDoubled g8 gd8) (F_I : Fun K "__init__" "Thin.__init__" sThinI fI fdI) (bI_Thin : Binds K fdI ["self", "lot"] [])
    (D_twice_x : Df K mg "twice" sTwice pTwice g9 gd9) (D_thin : Df K mg "thin_cut" sThin pThin e1 ed1) (D_fewest_x : Df K mg "fewest_cut" sFewest pFewest e2 ed2)
    (D_cup : Df K mg "_law_cup" sCup pCup e3 ed3) (D_draw : Df K mg "_law_draw" sDraw pDraw e4 ed4) (D_named : Df K mg "_law_named" sNamed pNamed e5 ed5)
    (D_tpairs : Df K mg "_law_thick_pairs" sTpairs pTpairs e6 ed6) (D_islot : Df K mg "_law_is_lot" sIslot pIslot e7 ed7) (D_col : Df K mg "_law_colours" sCol pCol e8 ed8) (D_isway : Df K mg "_law_is_way" sIsway pIsway e9 ed9) (D_areways : Df K mg "_law_are_ways" sAreways pAreways d1 dd1)
    (D_isr : Df K mg "_law_is_round" sIsr pIsr d2 dd2) (D_isdeed : Df K mg "_law_is_deed" sIsdeed pIsdeed d3 dd3) (D_behind : Df K mg "_law_behind" sBehind pBehind d4 dd4) (D_row : Df K mg "_law_row" sRow pRow d5 dd5)
    (D_cuttold : Df K mg "_law_cut_told" sCuttold pCuttold d6 dd6) (D_twtold : Df K mg "_law_twice_told" sTwtold pTwtold d7 dd7) (D_iscut : Df K mg "_law_is_cut" sIscut pIscut d8 dd8) (D_istw : Df K mg "_law_is_twice" sIstw pIstw d9 dd9) : FnG P w K mg base CX0 10 f fd pLaw (spLaw K) := by
  have G_istw : FnOk P w K mg base CX0 9 d9 dd9 pIstw (spIstw K) := ok_istw D_istw T hisinstance hbool hsorted hset hlist hE3 EU EF_Thin D_far D_sign D_stepsf D_back D_open D_flow D_cutof D_narrow D_ways D_all D_sum D_odd D_even D_wfrom D_fround D_parted_x D_doubled_x F_I bI_Thin D_twice_x D_twtold D_islot D_col D_iscut D_isr D_isdeed D_behind
  have G_cuttold : FnOk P w K mg base CX0 7 d6 dd6 pCuttold (spCuttold K) := ok_cuttold D_cuttold T EU hsorted hE3 D_far D_sign D_stepsf D_back D_open D_flow D_cutof D_narrow D_fewest_x
  have G_iscut : FnOk P w K mg base CX0 2 d8 dd8 pIscut (spIscut K) := ok_iscut D_iscut T hisinstance hbool hsorted hset hlist D_islot D_col
  have G_islot : FnOk P w K mg base CX0 1 e7 ed7 pIslot (spIslot K) := ok_islot D_islot T hisinstance hbool hsorted hset hlist
  have G_col : FnOk P w K mg base CX0 1 e8 ed8 pCol (spCol K) := ok_col D_col T
  have G_areways : FnOk P w K mg base CX0 2 d1 dd1 pAreways (spAreways K) := ok_areways D_areways T hisinstance hbool hset hlist D_isway
  have G_row : FnOk P w K mg base CX0 3 d5 dd5 pRow (spRow K) := ok_row D_row T hlist D_draw D_tpairs D_named
  have G_ways : FnOk P w K mg base CX0 5 f9 fd9 pWays (spWays K) := ok_ways D_ways T hsorted hE3 D_far D_sign D_stepsf D_back D_open D_flow
  have G_thin : FnOk P w K mg base CX0 6 e1 ed1 pThin (spThin K) := ok_thin D_thin T hsorted hE3 D_far D_sign D_stepsf D_back D_open D_flow D_cutof D_narrow
  have G_cup : FnOk P w K mg base CX0 1 e3 ed3 pCup (spCup K) := ok_cup D_cup T
  have G_draw : FnOk P w K mg base CX0 1 e4 ed4 pDraw spDrawC := ok_draw D_draw T
  refine okG D.fn scLaw (fun vs H Q E h => ?_) (fun cdv A outer s H vs Q E hgd hr h => ?_)
  · obtain ⟨a, ns, rfl, _⟩ := h
    rfl
  · obtain ⟨a, ns, rfl, hS, hlen, k⟩ := h
    have hr_istw : Room 9 _ := hr
    have hr_cuttold : Room 7 _ := hr.mono (by decide)
    have hr_iscut : Room 2 _ := hr.mono (by decide)
    have hr_islot : Room 1 _ := hr.mono (by decide)
    have hr_col : Room 1 _ := hr.mono (by decide)
    have hr_areways : Room 2 _ := hr.mono (by decide)
    have hr_row : Room 3 _ := hr.mono (by decide)
    have hr_ways : Room 5 _ := hr.mono (by decide)
    have hr_thin : Room 6 _ := hr.mono (by decide)
    have hr_cup : Room 1 _ := hr.mono (by decide)
    have hr_draw : Room 1 _ := hr.mono (by decide)
    have hu64 := hr.units
    have nd := scLaw.nd
    refine ⟨_, (pss_cons (ps_set (i := 1) nd rfl (by first | exact Or.inl rfl | exact Or.inr rfl) (pe_call G_cup hr_cup (by rfl) D_cup.ad D_cup.fn.kp D_cup.bd .nil pass0 (pa_cons (pv 0) pa_nil)))
      (pss_cons (ps_asg (pe_call G_row hr_row (by rfl) D_row.ad D_row.fn.kp D_row.bd .nil pass0 (pa_cons (pv 1) pa_nil)) (pgT K rfl (pgs_cons (pg_name (i := 2) nd rfl (by first | exact Or.inl rfl | exact Or.inr rfl)) (pgs_cons (pg_name (i := 3) nd rfl (by first | exact Or.inl rfl | exact Or.inr rfl)) (pgs_cons (pg_name (i := 4) nd rfl (by first | exact Or.inl rfl | exact Or.inr rfl)) pgs_nil)))))
      (pss_cons (ps_par (i := 5) (j := 6) (by rfl) nd rfl rfl (by decide) rfl rfl (pa_cons (pe_callB (reprK K hgd hu64) (by rfl) T.repr (by decide +kernel) (pa_cons (pv 2) pa_nil)) (pa_cons (pe_call G_thin hr_thin (by rfl) D_thin.ad D_thin.fn.kp D_thin.bd .nil pass0 (pa_cons (pv 2) pa_nil)) pa_nil)) (by rfl))
      (pss_cons (ps_if (pt_cmpR op_ne (pe_cmpR op_isN (pv 6) pe_non (nomark _)) (pe_cmpR (opEqD K hr.units) (pe_lc (own := [("_law_many", 14)]) (g := (gName 14)) rfl nd (piL K (pv 4)) (blkOk_by (own := [("_law_many", 14)]) (N := nLaw) (sc := defScope sLaw) (by decide +kernel)) (fun _ _ _ _ _ => (pg_name (i := 14) nd rfl (by first | exact Or.inl rfl | exact Or.inr rfl))) (fun _ _ _ _ _ => (pts_one (pt_cmpR op_lt (pv 14) pe_int (nomark _)))) (fun _ _ _ _ _ => (pv 14))) (pe_lst pa_nil) (nomark _)) (nomark _)) (pss_one (ps_ret pe_bl)) pss_nil)
      (pss_cons (ps_if (pt_cmpR op_notN (pv 6) pe_non (nomark _)) (pss_one (ps_if (PW.pt (pw_or (pt_not (pt_val (pe_call G_islot hr_islot (by rfl) D_islot.ad D_islot.fn.kp D_islot.bd .nil pass0 (pa_cons (pv 2) (pa_cons (pv 6) pa_nil))))) (pw_or (pt_not (pt_chain op_lt op_lt pe_int (pe_callB (lenK K) (by rfl) T.len PySem.boot_len (pa_cons (pv 6) pa_nil)) pe_int)) (pw_or1 (pt_cmpR op_isN (pe_call G_col hr_col (by rfl) D_col.ad D_col.fn.kp D_col.bd .nil pass0 (pa_cons (pv 2) (pa_cons (pv 6) pa_nil))) pe_non (nomark _)))))) (pss_one (ps_ret pe_bl)) pss_nil)) pss_nil)
      (pss_cons (ps_for PassesOwn.never rfl (pi_range1 rfl T.range (pa_cons (pe_ifExp (pt_cmpR op_gt (pe_ix (ixT K) (pv 2) pe_int (fun _ _ => rfl)) pe_int (nomark _)) pe_int pe_int) pa_nil)) (pg_name (i := 7) nd rfl (by first | exact Or.inl rfl | exact Or.inr rfl)) (pss_cons (ps_set (i := 8) nd rfl (by first | exact Or.inl rfl | exact Or.inr rfl) (pe_call G_draw hr_draw (by rfl) D_draw.ad D_draw.fn.kp D_draw.bd .nil pass0 (pa_cons (pv 1) (pa_cons (pe_ix (ixT K) (pv 2) pe_int (fun _ _ => rfl)) pa_nil))))
      (pss_cons (ps_set (i := 9) nd rfl (by first | exact Or.inl rfl | exact Or.inr rfl) (pe_op op_mod (pe_callTy call_int1 (by rfl) T.int (by decide +kernel) (pa_cons (pe_op op_add (pe_op op_add (pv 8) pe_int) (pe_call G_draw hr_draw (by rfl) D_draw.ad D_draw.fn.kp D_draw.bd .nil pass0 (pa_cons (pv 1) (pa_cons (pe_op op_sub (pe_ix (ixT K) (pv 2) pe_int (fun _ _ => rfl)) pe_int) pa_nil)))) pa_nil)) (pe_ix (ixT K) (pv 2) pe_int (fun _ _ => rfl))))
      (pss_cons (ps_par (i := 10) (j := 11) (by rfl) nd rfl rfl (by decide) rfl rfl (pa_cons (pe_callB (call_min2 rfl) (by rfl) T.min (by decide +kernel) (pa_cons (pe_ix (ixL K) (pv 3) (pv 8) (fun _ _ => rfl)) (pa_cons (pe_ix (ixL K) (pv 3) (pv 9) (fun _ _ => rfl)) pa_nil))) (pa_cons (pe_callB (call_max2 rfl) (by rfl) T.max (by decide +kernel) (pa_cons (pe_ix (ixL K) (pv 3) (pv 8) (fun _ _ => rfl)) (pa_cons (pe_ix (ixL K) (pv 3) (pv 9) (fun _ _ => rfl)) pa_nil))) pa_nil)) (by rfl))
      (pss_cons (ps_par (i := 12) (j := 13) (by rfl) nd rfl rfl (by decide) rfl rfl (pa_cons (pe_callB (minLK K) (by rfl) T.min (by decide +kernel) (pa_cons (pe_op op_cat (pe_lst (pa_cons pe_int pa_nil)) (pe_slice (slL K) (pv 4) (po_some (pv 10)) (po_some (pv 11)))) pa_nil)) (pa_cons (pe_call G_cuttold hr_cuttold (by rfl) D_cuttold.ad D_cuttold.fn.kp D_cuttold.bd .nil pass0 (pa_cons (pv 2) (pa_cons (pv 8) (pa_cons (pv 9) pa_nil)))) pa_nil)) (by rfl))
      (pss_cons (ps_if (pt_not (pt_val (pe_call G_areways hr_areways (by rfl) D_areways.ad D_areways.fn.kp D_areways.bd .nil pass0 (pa_cons (pv 2) (pa_cons (pv 8) (pa_cons (pv 9) (pa_cons (pe_call G_ways hr_ways (by rfl) D_ways.ad D_ways.fn.kp D_ways.bd .nil pass0 (pa_cons (pv 2) (pa_cons (pv 8) (pa_cons (pv 9) pa_nil)))) (pa_cons (pv 12) pa_nil)))))))) (pss_one (ps_ret pe_bl)) pss_nil)
      (pss_cons (ps_if (pt_ifExp (pt_cmpR op_eq (pv 12) pe_int (nomark _)) (pt_cmpR (opNeD K hr.units) (pv 13) (pe_tup (pa_cons pe_str pa_nil)) (nomark _)) (pt_not (pt_val (pe_call G_iscut hr_iscut (by rfl) D_iscut.ad D_iscut.fn.kp D_iscut.bd .nil pass0 (pa_cons (pv 2) (pa_cons (pv 13) (pa_cons (pv 8) (pa_cons (pv 9) (pa_cons (pv 12) pa_nil))))))))) (pss_one (ps_ret pe_bl)) pss_nil)
      (pss_one (ps_if (pt_not (pt_val (pe_call G_istw hr_istw (by rfl) D_istw.ad D_istw.fn.kp D_istw.bd .nil pass0 (pa_cons (pv 2) (pa_cons (pv 3) (pa_cons (pv 4) (pa_cons (pe_call G_draw hr_draw (by rfl) D_draw.ad D_draw.fn.kp D_draw.bd .nil pass0 (pa_cons (pv 1) (pa_cons (pe_callB (lenK K) (by rfl) T.len PySem.boot_len (pa_cons (pe_ix (ixT K) (pv 2) pe_int (fun _ _ => rfl)) pa_nil)) pa_nil))) pa_nil))))))) (pss_one (ps_ret pe_bl)) pss_nil)))))))))
      (pss_one (ps_ret (pe_cmpR op_eq (pe_callB (reprK K hgd hu64) (by rfl) T.repr (by decide +kernel) (pa_cons (pv 2) pa_nil)) (pv 5) (nomark _)))))))))), ?_⟩
    refine tSeq_go ?_
    refine ⟨_, rfl, a, ns, rfl, hS, hlen, fun b g H1 _ _ _ hB => ?_⟩
    dsimp only [gName]
    refine at_st [some (.ref a), some (.ref b), none, none, none, none, none, none, none, none, none, none, none, none, none] rfl ?_
    refine tSeq_go ?_
    refine ⟨_, rfl, b, g, rfl, hB, fun p pw hl jl n ts led J H2 O hp hw hn1 hn12 hel hends hJ3 hR => ?_⟩
    refine ⟨p, _, rfl, hp, rfl, _, _, rfl, _, _, rfl, _, _, rfl, rfl, ?_⟩
    dsimp only
    refine at_st [some (.ref a), some (.ref b), some (.ref pw), some (.ref hl), some (.ref jl), none, none, none, none, none, none, none, none, none, none] rfl ?_
    refine tSeq_go ?_
    have showW : Show (webD n ts) := show_web n ts (fun t ht => by have := hends t ht; omega) (by omega) (by omega)
    have hj := row_joi hR
    refine tPar_by (fun v th H' => v = .str (webD n ts).shown ∧ Same H2 H' ∧ ((th = .non ∧ J.filter (fun j => decide (j < 3)) = []) ∨ ∃ R pp, Dp K H' th (lotD (cutL ts R)) ∧ ThinIs ts n pp R)) (fun R' cont => ?_) ?_
    · exact ⟨_, rfl, .ref pw, webD n ts, rfl, hw, showW, _, rfl, .ref pw, n, ts, rfl, hw, hends, hn1, by omega, by omega, fun h3 H3 s3 => cont _ _ _ ⟨rfl, s3, .inl ⟨rfl, row_thin hR hn1 h3⟩⟩, fun u R pp H3 s3 hu hT => cont _ _ _ ⟨rfl, s3, .inr ⟨R, pp, hu, hT⟩⟩⟩
    rintro _ th H3 ⟨rfl, s3, hth⟩
    have O := O.same s3
    have hw := dp_same s3 _ hw
    clear hp s3
    dsimp only
    refine at_st [some (.ref a), some (.ref b), some (.ref pw), some (.ref hl), some (.ref jl), some (.str (webD n ts).shown), some th, none, none, none, none, none, none, none, none] rfl ?_
    refine tSeq_go ?_
    have hjl := O.at0 1 rfl
    refine tIfS_t (fun c H' => c = false ∧ Same H3 H') ?_ ?_ (fun cont => ?_)
    · rintro H' ⟨z, _⟩
      cases z
    rotate_left
    · refine ⟨_, rfl, rfl, _, rfl, jl, rfl, ⟨_, SqL.of hjl⟩, fun E1 hE1 => ?_⟩
      refine lc_run (walk_list (xs := natsV J)) hE1 (fun j acc _ => acc = natsV ((J.take j).filter fun j => decide (j < 3))) ?_ ?_ ?_ ?_
      · exact fun H' s => SqL.of (s _ _ hjl)
      · rfl
      · rintro j x acc H4 H' hjj hacc e s ha ⟨rfl, hx⟩
        obtain ⟨m, hm, rfl⟩ := get_map (f := fun (k : Nat) => V.int k) hx
        have htk : J.take (j + 1) = J.take j ++ [m] := by rw [List.take_add_one, hm]; rfl
        have ha : acc = natsV ((J.take j).filter fun j => decide (j < 3)) := ha
        have hal : acc.length ≤ 3 := by
          rw [ha, natsV_len]
          refine Nat.le_trans (List.length_filter_le _ _) ?_
          rw [List.length_take]
          omega
        refine ⟨rfl, ?_⟩
        refine ⟨_, rfl, _, _, rfl, rfl, _, rfl, ite2 (fun h1 => ?_) (fun h1 => ?_)⟩
        · have h1 : ((m : Nat) : Int) < 3 := of_decide_eq_true h1
          refine ⟨_, rfl, lc_add hacc e (Same.refl _) (by omega) ?_⟩
          show _ = _
          rw [htk, List.filter_append, List.filter_cons, if_pos (decide_eq_true (by omega)), List.filter_nil, ← natsV_snoc, ha]
        · have h1 : ¬ ((m : Nat) : Int) < 3 := fun z => h1 (decide_eq_true z)
          refine lc_skip hacc e (Same.refl _) ?_
          show _ = _
          rw [htk, List.filter_append, List.filter_cons, if_neg (by rw [decide_eq_false (show ¬ m < 3 by omega)]; exact Bool.false_ne_true), List.filter_nil, List.append_nil]
          exact ha
      rintro cv H4 hcv s4 hcd
      have hcd : cv = natsV (J.filter fun j => decide (j < 3)) := by
        have h0 : cv = natsV ((J.take (natsV J).length).filter fun j => decide (j < 3)) := hcd
        rw [natsV_len, List.take_length] at h0
        exact h0
      subst hcd
      refine ⟨Nat.zero_le _, fun q hq => ?_⟩
      have sq := same_new (o := .lst []) hq
      refine ⟨.list (((J.filter fun j => decide (j < 3)).map fun (k : Nat) => (k : Int)).map PyData.int), .list [], .lst (SqL.of (by rw [← natsV_ints]; exact sq _ _ hcv)) (dpAll_ints _), .lst (SqL.of upd_same) .nil, shaped_intsL _, shaped_intsL [], rfl, false, bne_same ?_, cont _ _ ⟨rfl, s4.trans sq⟩⟩
      rw [eqv_natsNil]
      rcases hth with ⟨rfl, hJ⟩ | ⟨R, pp, hu, hT⟩
      · rw [decide_eq_true hJ]
        rfl
      · obtain ⟨au, rfl, _⟩ := dp_lotN hu
        rw [decide_eq_false (row_thick hR (by have := hT.p1; have := hT.p2; omega : 0 < n) hT.p2 (S := fun x => decide (x ∈ R)) (by rw [decide_eq_true hT.na.m1, decide_eq_false hT.na.m2]; decide) (by rw [← cutL_len]; exact hT.na.few))]
        exact decide_eq_false fun z => nomatch z
    rintro H4 ⟨_, s4⟩
    have O := O.same s4
    have hw := dp_same s4 _ hw
    have hth : (th = .non ∧ J.filter (fun j => decide (j < 3)) = []) ∨ ∃ R pp, Dp K H4 th (lotD (cutL ts R)) ∧ ThinIs ts n pp R := by
      rcases hth with h | ⟨R, pp, hu, hT⟩
      · exact .inl h
      · exact .inr ⟨R, pp, dp_same s4 _ hu, hT⟩
    clear hjl s4
    dsimp only [tNext]
    refine tSeq_go ?_
    refine tIfS_by (fun σ' H' => σ' = [some (.ref a), some (.ref b), some (.ref pw), some (.ref hl), some (.ref jl), some (.str (webD n ts).shown), some th, none, none, none, none, none, none, none, none] ∧ Same H4 H') ?_ (fun cont => ?_)
    rotate_left
    · rcases hth with ⟨rfl, hJ⟩ | ⟨R, pp, hu, hT⟩
      · exact ⟨_, rfl, rfl, _, rfl, iteF (cont _ _ ⟨rfl, Same.refl _⟩)⟩
      · obtain ⟨au, rfl, hau⟩ := dp_lotN hu
        refine ⟨_, rfl, rfl, true, by simp, iteT ?_⟩
        refine tIfS_t (fun c H' => c = false ∧ Same H4 H') ?_ ?_ (fun cont2 => ?_)
        · rintro H' ⟨z, _⟩
          cases z
        rotate_left
        · refine ⟨_, rfl, _, rfl, .ref pw, .ref au, n, ts, _, rfl, hw, hu, by omega, cutL_lot ts R, fun H5 s5 => ?_⟩
          refine ⟨_, rfl, iteF ?_⟩
          have hpos : 0 < (cutL ts R).length := by
            obtain ⟨t0, ht0, hne⟩ := hj (fun x => decide (x ∈ R)) ⟨0, by omega, decide_eq_true hT.na.m1⟩ ⟨pp, hT.p2, decide_eq_false hT.na.m2⟩
            obtain ⟨k0, hk0⟩ := List.getElem?_of_mem ht0
            exact List.length_pos_of_mem ((mem_cutT hk0).mpr hne)
          have hfew := hT.na.few
          refine ⟨_, rfl, au, _, rfl, .inr (sqT_same s5 hau), _, _, rfl, rfl, _, congrArg V.bl (decide_eq_true (by rw [natsV_len]; omega)), iteT ?_⟩
          refine ⟨_, _, rfl, rfl, true, congrArg V.bl (decide_eq_true (by rw [natsV_len]; omega)), iteF ?_⟩
          refine ⟨_, rfl, _, rfl, .ref pw, .ref au, n, ts, R, rfl, dp_same s5 _ hw, dp_same s5 _ hu, hends, hj, hn1, by omega, by omega, fun d kvs H6 s6 _ _ => ?_⟩
          exact ⟨rfl, false, by simp, cont2 _ _ ⟨rfl, s5.trans s6⟩⟩
        · rintro H5 ⟨_, s5⟩
          exact cont _ _ ⟨rfl, s5⟩
    rintro _ H5 ⟨rfl, s5⟩
    have O := O.same s5
    have hw := dp_same s5 _ hw
    clear hth s5
    dsimp only
    refine tSeq_go ?_
    refine tRng_by (fun j H' => H' = H5 ∧ 0 ≤ j ∧ j ≤ 3 ∧ (0 < j → 1 < n)) (fun j H' h => ⟨by omega, by omega⟩) (fun R' cont => ?_) ?_
    · obtain ⟨c, ys, hpw, hc, hys, hyl⟩ := webAt hw
      refine ⟨_, rfl, pw, _, _, _, rfl, rfl, hpw, atI_nat (j := 0) rfl, _, _, rfl, rfl, _, rfl, ite2 (fun hh => ?_) (fun hh => ?_)⟩
      · have hh : (n : Int) > 1 := of_decide_eq_true hh
        exact cont _ _ ⟨rfl, by decide, by decide, fun _ => by omega⟩
      · exact cont _ _ ⟨rfl, by decide, by decide, fun z => absurd z (by decide)⟩
    rintro N _ ⟨rfl, N0, N3, hN⟩
    refine for_range (lo := 0) (n := N.toNat) (fun i σ Hc => ∃ v7 v8 v9 v10 v11 v12 v13 : Option V, σ = [some (.ref a), some (.ref b), some (.ref pw), some (.ref hl), some (.ref jl), some (.str (webD n ts).shown), some th, v7, v8, v9, v10, v11, v12, v13, none] ∧ OwC b g H1 Hc [(hl, natsV led), (jl, natsV J)] ∧ Dp K Hc (.ref pw) (webD n ts)) ?_ ?_ ?_
    · exact ⟨none, none, none, none, none, none, none, rfl, O, hw⟩
    · clear O hw
      rintro i σ H6 hi ⟨v7, v8, v9, v10, v11, v12, v13, rfl, O, hw⟩
      have hn2 : 1 < n := hN (by omega)
      obtain ⟨c, ys, hpw, hc, hys, hyl⟩ := webAt hw
      show tSeq _ _ _ _ _
      refine tSeq_go ?_
      refine ⟨_, rfl, _, rfl, pw, _, _, _, rfl, rfl, hpw, atI_nat (j := 0) rfl, b, g, (n : Int), rfl, by omega, by omega, O.bx, fun r H7 r0 r1 kp7 B7 => ?_⟩
      obtain ⟨one, rfl⟩ : ∃ j : Nat, r = (j : Int) := ⟨r.toNat, by omega⟩
      have hone : one < n := by omega
      have hw := dp_kf (KF.of_kpC kp7 O.bx) _ (still_web n ts) hw
      have O := O.draw kp7 B7
      clear hpw hc hys hyl
      obtain ⟨c, ys, hpw, hc, hys, hyl⟩ := webAt hw
      dsimp only [gName]
      refine at_st [some (.ref a), some (.ref b), some (.ref pw), some (.ref hl), some (.ref jl), some (.str (webD n ts).shown), some th, some (.int (0 + (i : Int))), some (.int (one : Nat)), v9, v10, v11, v12, v13, none] rfl ?_
      refine tSeq_go ?_
      refine ⟨_, rfl, _, _, rfl, rfl, _, rfl, _, rfl, pw, _, _, _, rfl, rfl, hpw, atI_nat (j := 0) rfl, _, _, rfl, rfl, b, g, (n : Int) - 1, rfl, by omega, by omega, O.bx, fun r H8 t0 t1 kp8 B8 => ?_⟩
      obtain ⟨d, rfl⟩ : ∃ j : Nat, r = (j : Int) := ⟨r.toNat, by omega⟩
      have hw := dp_kf (KF.of_kpC kp8 O.bx) _ (still_web n ts) hw
      have O := O.draw kp8 B8
      clear hpw hc hys hyl
      obtain ⟨c, ys, hpw, hc, hys, hyl⟩ := webAt hw
      have hto := turn_ne (a := one) (d := d) (n := n) hone (by omega)
      have eo : ((one : Int) + 1 + (d : Int)) % (n : Int) = (((one + 1 + d) % n : Nat) : Int) := by rw [Int.natCast_emod]; rfl
      refine ⟨_, _, rfl, rfl, .inl ⟨_, rfl, _, rfl, pw, _, _, _, rfl, rfl, hpw, atI_nat (j := 0) rfl, _, _, rfl, rfl, (by omega), ?_⟩⟩
      dsimp only [gName]
      refine at_st [some (.ref a), some (.ref b), some (.ref pw), some (.ref hl), some (.ref jl), some (.str (webD n ts).shown), some th, some (.int (0 + (i : Int))), some (.int (one : Nat)), some (.int (((one + 1 + d) % n : Nat) : Int)), v10, v11, v12, v13, none] (by rw [← eo]; rfl) ?_
      generalize (one + 1 + d) % n = oth at *
      have hoth := hto.1
      have hno : one ≠ oth := fun e => hto.2 e.symm
      have a1 := row_at hR hone
      have a2 := row_at hR hoth
      have hpL := hR.le _ (List.mem_of_getElem? a1)
      have hqL := hR.le _ (List.mem_of_getElem? a2)
      have hdue := fun (d : Nat) => row_due hR (d := d) a1 a2 hno
      generalize led.getD one 0 = h1 at *
      generalize led.getD oth 0 = h2 at *
      have hhl := SqL.of (K := K) (O.at0 0 rfl)
      have hjl := SqL.of (K := K) (O.at0 1 rfl)
      refine tSeq_go ?_
      refine ⟨_, rfl, _, rfl, hl, _, _, _, rfl, rfl, hhl, atI_nat (nats_at a1), _, rfl, _, rfl, hl, _, _, _, rfl, rfl, hhl, atI_nat (nats_at a2), _, _, rfl, ?_⟩
      refine ⟨_, rfl, _, rfl, hl, _, _, _, rfl, rfl, hhl, atI_nat (nats_at a1), _, rfl, _, rfl, hl, _, _, _, rfl, rfl, hhl, atI_nat (nats_at a2), _, _, rfl, ?_⟩
      have elow : (if ((h2 : Nat) : Int) < ((h1 : Nat) : Int) then ((h2 : Nat) : Int) else ((h1 : Nat) : Int)) = ((min h1 h2 : Nat) : Int) := by
        split <;> omega
      have ehigh : (if ((h2 : Nat) : Int) > ((h1 : Nat) : Int) then ((h2 : Nat) : Int) else ((h1 : Nat) : Int)) = ((max h1 h2 : Nat) : Int) := by
        split <;> omega
      rw [elow, ehigh]
      refine ⟨_, _, rfl, ?_⟩
      dsimp only
      refine at_st [some (.ref a), some (.ref b), some (.ref pw), some (.ref hl), some (.ref jl), some (.str (webD n ts).shown), some th, some (.int (0 + (i : Int))), some (.int (one : Nat)), some (.int (oth : Nat)), some (.int ((min h1 h2 : Nat) : Int)), some (.int ((max h1 h2 : Nat) : Int)), v12, v13, none] rfl ?_
      refine tSeq_go ?_
      refine ⟨by show 1 ≤ sizeLine; decide, fun q hq => ?_⟩
      have sq := same_new (o := .lst [.int 3]) hq
      have hQ : (upd H8 q (.lst [.int 3])) q = some (.lst [.int 3]) := upd_same
      have O := O.same sq
      have hw := dp_same sq _ hw
      generalize upd H8 q (.lst [.int 3]) = H9 at *
      refine ⟨_, rfl, _, rfl, _, rfl, _, rfl, _, rfl, jl, _, rfl, SqL.of (O.at0 1 rfl), fun q2 hq2 => ?_⟩
      rw [cut_nats (by omega) (by omega)]
      have s2 := same_new (o := .lst (natsV ((J.drop (min h1 h2)).take (max h1 h2 - min h1 h2)))) hq2
      have hQ := s2 _ _ hQ
      have hQ2 : (upd H9 q2 (.lst (natsV ((J.drop (min h1 h2)).take (max h1 h2 - min h1 h2))))) q2 = some (.lst (natsV ((J.drop (min h1 h2)).take (max h1 h2 - min h1 h2)))) := upd_same
      have O := O.same s2
      have hw := dp_same s2 _ hw
      generalize upd H9 q2 (.lst (natsV ((J.drop (min h1 h2)).take (max h1 h2 - min h1 h2)))) = H10 at *
      have hsl : ((J.drop (min h1 h2)).take (max h1 h2 - min h1 h2)).length ≤ 3 := by
        rw [List.length_take, List.length_drop]
        omega
      generalize (J.drop (min h1 h2)).take (max h1 h2 - min h1 h2) = sl at *
      refine ⟨q, q2, _, _, rfl, rfl, hQ, hQ2, Nat.le_trans (show ([V.int 3] : List V).length + (natsV sl).length ≤ 100000 by rw [natsV_len]; show 1 + _ ≤ _; omega) (by decide), fun q3 hq3 => ?_⟩
      have s3 := same_new (o := .lst ([V.int 3] ++ natsV sl)) hq3
      have hQ3 : (upd H10 q3 (.lst ([V.int 3] ++ natsV sl))) q3 = some (.lst (((3 :: sl).map fun (k : Nat) => (k : Int)).map V.int)) := by
        rw [upd_same, ← natsV_ints]
        rfl
      have O := O.same s3
      have hw := dp_same s3 _ hw
      generalize upd H10 q3 (.lst ([V.int 3] ++ natsV sl)) = H11 at *
      refine ⟨q3, _, rfl, SqL.of hQ3, by rw [List.length_map]; exact Nat.succ_pos _, fun dd hd hle => ?_⟩
      obtain ⟨d, hdm, rfl⟩ := List.mem_map.mp hd
      have hF : IsFew ts one oth d := hdue d hdm fun y hy => by
        have := hle (y : Int) (List.mem_map.mpr ⟨y, hy, rfl⟩)
        omega
      clear hle hd hdm hdue hQ3 hQ2 hQ
      refine ⟨_, rfl, _, rfl, _, rfl, .ref pw, n, ts, one, oth, rfl, hw, ⟨hends, hn12, by omega⟩, hone, hoth, hno, fun u cd H12 s12 hu hC => ?_⟩
      have O := O.same s12
      have hw := dp_same s12 _ hw
      refine ⟨_, _, rfl, ?_⟩
      dsimp only
      refine at_st [some (.ref a), some (.ref b), some (.ref pw), some (.ref hl), some (.ref jl), some (.str (webD n ts).shown), some th, some (.int (0 + (i : Int))), some (.int (one : Nat)), some (.int (oth : Nat)), some (.int ((min h1 h2 : Nat) : Int)), some (.int ((max h1 h2 : Nat) : Int)), some (.int (d : Nat)), some u, none] rfl ?_
      refine tSeq_go ?_
      refine tIfS_t (fun c H' => c = false ∧ Same H12 H') ?_ ?_ (fun cont => ?_)
      · rintro H' ⟨z, _⟩
        cases z
      rotate_left
      · refine ⟨_, rfl, _, rfl, _, rfl, _, rfl, _, rfl, _, rfl, .ref pw, n, ts, one, oth, rfl, hw, hends, by omega, by omega, by omega, by omega, by omega, fun u2 m ws H13 s13 hu2 hW => ?_⟩
        obtain rfl := few_uniq hF (ways_few hW)
        exact ⟨_, rfl, .ref pw, u2, n, ts, one, oth, d, ws, rfl, dp_same s13 _ hw, hu2, by omega, hno, hW.are, fun H14 s14 => ⟨_, rfl, cont _ _ ⟨rfl, s13.trans s14⟩⟩⟩
      rintro H13 ⟨_, s13⟩
      have O := O.same s13
      have hw := dp_same s13 _ hw
      have hu := dp_same s13 _ hu
      dsimp only [tNext]
      refine tSeq_go ?_
      refine tIfS_t (fun c H' => c = false ∧ Same H13 H') ?_ ?_ (fun cont => ?_)
      · rintro H' ⟨z, _⟩
        cases z
      rotate_left
      · refine ⟨_, rfl, rfl, decide (d = 3), congrArg V.bl (dec_nat3 d), ite2 (fun hd => ?_) (fun hd => ?_)⟩
        · have hd : d = 3 := of_decide_eq_true hd
          subst hd
          rcases hC with ⟨rfl, _⟩ | ⟨R, rfl, hN⟩
          · refine ⟨_, rfl, by show 1 ≤ sizeLine; decide, fun q5 hq5 => ?_⟩
            have s5 := same_new (o := .tup [.str "refused"]) hq5
            refine ⟨.tuple [.str "refused"], .tuple [.str "refused"], dp_same s5 _ hu, .tup (SqT.of upd_same) (.cons (.str _) .nil), by decide +kernel, by decide +kernel, false, ?_, cont _ _ ⟨rfl, s5⟩⟩
            simp [PyData.eqv, PyData.eqvAll]
          · have := (nar_few hN hF).2
            omega
        · have hd : d ≠ 3 := fun z => hd (decide_eq_true z)
          rcases hC with ⟨rfl, h3⟩ | ⟨R, rfl, hN⟩
          · exact absurd (few_uniq hF (few_three h3)) hd
          · refine ⟨_, rfl, _, rfl, _, rfl, _, rfl, _, rfl, .ref pw, u, n, ts, R, one, oth, d, rfl, hw, hu, (nar_few hN hF).1, hN.m1, hN.m2, hone, hoth, hends, hj, by omega, by omega, fun H14 s14 => ⟨_, rfl, cont _ _ ⟨rfl, s14⟩⟩⟩
      rintro H14 ⟨_, s14⟩
      have O := O.same s14
      have hw := dp_same s14 _ hw
      dsimp only [tNext]
      refine tIfS_t (fun c H' => c = false ∧ OwC b g H1 H' [(hl, natsV led), (jl, natsV J)] ∧ Dp K H' (.ref pw) (webD n ts)) ?_ ?_ (fun cont => ?_)
      · rintro H' ⟨z, _⟩
        cases z
      · rintro H15 ⟨_, O, hw⟩
        exact ⟨_, _, _, _, _, _, _, rfl, O, hw⟩
      · clear hpw hc hys hyl
        obtain ⟨c, ys, hpw, hc, hys, hyl⟩ := webAt hw
        have htpos : 0 < ts.length := by
          obtain ⟨t0, ht0, _⟩ := hj (fun x => decide (x = 0)) ⟨0, by omega, decide_eq_true rfl⟩ ⟨1, by omega, decide_eq_false (by decide)⟩
          exact List.length_pos_of_mem ht0
        refine ⟨_, rfl, _, rfl, _, rfl, _, rfl, _, rfl, pw, _, _, _, rfl, rfl, hpw, atI_nat (j := 1) rfl, c, ys, rfl, .inr hc, b, g, (ys.length : Int), rfl, by omega, by omega, O.bx, fun r H15 r0 r1 kp15 B15 => ?_⟩
        obtain ⟨k0, rfl⟩ : ∃ j : Nat, r = (j : Int) := ⟨r.toNat, by omega⟩
        have ht : ts[k0]? = some (ts[k0]'(by omega)) := List.getElem?_eq_getElem _
        have hw := dp_kf (KF.of_kpC kp15 O.bx) _ (still_web n ts) hw
        have O := O.draw kp15 B15
        exact ⟨.ref pw, hl, jl, n, ts, led, J, k0, _, rfl, hw, O.at0 0 rfl, O.at0 1 rfl, hR, hends, ht, hn12, hel, fun H16 s16 => ⟨_, rfl, cont _ _ ⟨rfl, O.same s16, dp_same s16 _ hw⟩⟩⟩
    · rintro σ H6 ⟨v7, v8, v9, v10, v11, v12, v13, rfl, O, hw⟩
      dsimp only
      refine ⟨_, rfl, .ref pw, webD n ts, rfl, hw, showW, _, rfl, rfl, ?_⟩
      rw [decide_eq_true rfl]
      exact k _
end
end BV

namespace BV
open PySem L2
theorem kit_ve {K : PySem.W.Frag} {S : Addr} (h : PySem.W.subIn K (.ref S) (.type "ValueError") = some true) : PySem.W.kitOne K (.ref S) (.type "ValueError") = some true := by
  have m : PySem.W.kitMeta "ValueError" = true := by decide +kernel
  have e : PySem.W.kitCls K (.ref S) (.type "ValueError") = (if PySem.W.kitMeta "ValueError" = true then PySem.W.subIn K (.ref S) (.type "ValueError") else none) := rfl
  unfold PySem.W.kitOne
  rw [e, m, if_pos rfl, h]
  split <;> rfl
theorem kit_own {K : PySem.W.Frag} {S B : Addr} (h2 : PySem.W.isClsIn K B = true) (h3 : PySem.W.typeIn K (.ref B) = some (.type "type")) (h : PySem.W.subIn K (.ref S) (.ref B) = some true) : PySem.W.kitOne K (.ref S) (.ref B) = some true := by
  have q : (PySem.W.clsIn K B).isSome = true := h2
  have e : PySem.W.kitCls K (.ref S) (.ref B) = (if ((PySem.W.clsIn K B).isSome && PySem.W.typeIn K (.ref B) == some (.type "type")) = true then PySem.W.subIn K (.ref S) (.ref B) else none) := rfl
  have z : ((PySem.W.clsIn K B).isSome && PySem.W.typeIn K (.ref B) == some (.type "type")) = true := by rw [q, h3]; rfl
  unfold PySem.W.kitOne
  rw [e, if_pos z, h]
  split <;> rfl
theorem exm_self {K : PySem.W.Frag} {S : Addr} (h1 : PySem.W.subIn K (.ref S) (.type "BaseException") = some true) (h2 : PySem.W.isClsIn K S = true) (h3 : PySem.W.typeIn K (.ref S) = some (.type "type")) (h4 : PySem.W.subIn K (.ref S) (.ref S) = some true) :
    PySem.W.exmOne K (.ref S) (.ref S) = some true := by
  have q : (PySem.W.clsIn K S).isSome = true := h2
  have e : PySem.W.exmOne K (.ref S) (.ref S) = (if (PySem.W.subIn K (.ref S) (.type "BaseException") == some true) = true then (if ((PySem.W.clsIn K S).isSome && PySem.W.typeIn K (.ref S) == some (.type "type")) = true then PySem.W.subIn K (.ref S) (.ref S) else none) else none) := rfl
  rw [e, h1, h3, q, h4]
  rfl
section
variable {K : PySem.W.Frag} {mg : Str → Option Value}
theorem df_mk {x : String} {st : Stmt} {ps : List Str} {f : Addr} {oc : Value} {od an : Option Addr} {osl : Array (Option Value)} {kV doc pm cdv ct : Value} {h : Heap}
    (X : K.In h) (G : h.Ns mainGlobals mg)
    (a : PySem.W.nsIn K mainGlobals (Str.ofString x) = some (some (.ref f)))
    (l : K.lookup f = some ⟨oc, od, .func (PySem.W.fnOf (Str.ofString x) (Str.ofString x) (defArgs st) (defBody st) (defScope st) .none kV doc pm an cdv ct), osl⟩)
    (c : PySem.W.codeIn K cdv (Str.ofString x) = true) (k : PySem.W.keepIn K (.ref f) = true)
    (hb : ∀ (kV doc pm : Value) (an : Option Addr) (cdv ct : Value) (us : List Value), us.length = ps.length →
      bindArgs (PySem.W.fnOf (Str.ofString x) (Str.ofString x) (defArgs st) (defBody st) (defScope st) .none kV doc pm an cdv ct) ⟨us, []⟩ = pure (ps.zip us)) :
    Df K mg x st ps f (PySem.W.fnOf (Str.ofString x) (Str.ofString x) (defArgs st) (defBody st) (defScope st) .none kV doc pm an cdv ct) :=
  ⟨fun_mk (st := st) l c k, PySem.W.mg_of X G a, (fun_mk (st := st) l c k).binds hb⟩
theorem kbn_mk {x : Str} {params : Arguments} {body : List Stmt} {scope : Scope} {f : Addr} {ps ks : List Str} {g : List Value → List Value → List Value} {gV : List V → List V → List V}
    {oc : Value} {od an : Option Addr} {osl : Array (Option Value)} {kV doc pm cdv ct : Value}
    (_l : K.lookup f = some ⟨oc, od, .func (PySem.W.fnOf x x params body scope .none kV doc pm an cdv ct), osl⟩)
    (hb : ∀ us ws : List Value, us.length = 0 → ws.length = ks.length →
      bindArgs (PySem.W.fnOf x x params body scope .none kV doc pm an cdv ct) ⟨us, ks.zip ws⟩ = pure (ps.zip (g us ws)))
    (hr : ∀ {vs : List V} {us : List Value} {zs : List V} {ws : List Value}, Vals vs us → Vals zs ws → Vals (gV vs zs) (g us ws)) :
    KBn K (PySem.W.fnOf x x params body scope .none kV doc pm an cdv ct) ps 0 ks g gV :=
  ⟨fun _ us ws _ h1 h2 => .of_eq (hb us ws h1 h2), hr⟩
end
theorem all_mk {l : PySem.W.OpenLaw} {w : World} {K : PySem.W.Frag} {h : Heap} {mg : Str → Option Value} {fa : Addr} (X : K.In h) (G : h.Ns mainGlobals mg) (hfa : mg "law" = some (.ref fa))
    {f0 f1 f2 f3 f4 f5 f6 f7 f8 f9 f10 f11 f12 f13 f14 f15 f16 f17 f18 f19 f20 f21 f22 f23 f24 f25 f26 f27 f28 f29 f30 f31 f32 f33 f34 f35 f36 : Addr} {od0 an0 od1 an1 od2 an2 od3 an3 od4 an4 od5 an5 od6 an6 od7 an7 od8 an8 od9 an9 od10 an10 od11 an11 od12 an12 od13 an13 od14 an14 od15 an15 od16 an16 od17 an17 od18 an18 od19 an19 od20 an20 od21 an21 od22 an22 od23 an23 od24 an24 od25 an25 od26 an26 od27 an27 od28 an28 od29 an29 od30 an30 od31 an31 od32 an32 od33 an33 od34 an34 od35 an35 od36 an36 : Option Addr} {sl0 sl1 sl2 sl3 sl4 sl5 sl6 sl7 sl8 sl9 sl10 sl11 sl12 sl13 sl14 sl15 sl16 sl17 sl18 sl19 sl20 sl21 sl22 sl23 sl24 sl25 sl26 sl27 sl28 sl29 sl30 sl31 sl32 sl33 sl34 sl35 sl36 : Array (Option Value)}
    {oc0 kV0 dc0 pm0 cd0 ct0 oc1 kV1 dc1 pm1 cd1 ct1 oc2 kV2 dc2 pm2 cd2 ct2 oc3 kV3 dc3 pm3 cd3 ct3 oc4 kV4 dc4 pm4 cd4 ct4 oc5 kV5 dc5 pm5 cd5 ct5 oc6 kV6 dc6 pm6 cd6 ct6 oc7 kV7 dc7 pm7 cd7 ct7 oc8 kV8 dc8 pm8 cd8 ct8 oc9 kV9 dc9 pm9 cd9 ct9 oc10 kV10 dc10 pm10 cd10 ct10 oc11 kV11 dc11 pm11 cd11 ct11 oc12 kV12 dc12 pm12 cd12 ct12 oc13 kV13 dc13 pm13 cd13 ct13 oc14 kV14 dc14 pm14 cd14 ct14 oc15 kV15 dc15 pm15 cd15 ct15 oc16 kV16 dc16 pm16 cd16 ct16 oc17 kV17 dc17 pm17 cd17 ct17 oc18 kV18 dc18 pm18 cd18 ct18 oc19 kV19 dc19 pm19 cd19 ct19 oc20 kV20 dc20 pm20 cd20 ct20 oc21 kV21 dc21 pm21 cd21 ct21 oc22 kV22 dc22 pm22 cd22 ct22 oc23 kV23 dc23 pm23 cd23 ct23 oc24 kV24 dc24 pm24 cd24 ct24 oc25 kV25 dc25 pm25 cd25 ct25 oc26 kV26 dc26 pm26 cd26 ct26 oc27 kV27 dc27 pm27 cd27 ct27 oc28 kV28 dc28 pm28 cd28 ct28 oc29 kV29 dc29 pm29 cd29 ct29 oc30 kV30 dc30 pm30 cd30 ct30 oc31 kV31 dc31 pm31 cd31 ct31 oc32 kV32 dc32 pm32 cd32 ct32 oc33 kV33 dc33 pm33 cd33 ct33 oc34 kV34 dc34 pm34 cd34 ct34 oc35 kV35 dc35 pm35 cd35 ct35 oc36 kV36 dc36 pm36 cd36 ct36 : Value}
    (a0 : PySem.W.nsIn K mainGlobals "far_end" = some (some (.ref f0)))
    (l0 : K.lookup f0 = some ⟨oc0, od0, .func (PySem.W.fnOf "far_end" "far_end" (defArgs sFar) (defBody sFar) (defScope sFar) .none kV0 dc0 pm0 an0 cd0 ct0), sl0⟩)
    (c0 : PySem.W.codeIn K cd0 "far_end" = true) (k0 : PySem.W.keepIn K (.ref f0) = true)
    (a1 : PySem.W.nsIn K mainGlobals "_sign" = some (some (.ref f1)))
    (l1 : K.lookup f1 = some ⟨oc1, od1, .func (PySem.W.fnOf "_sign" "_sign" (defArgs sSign) (defBody sSign) (defScope sSign) .none kV1 dc1 pm1 an1 cd1 ct1), sl1⟩)
    (c1 : PySem.W.codeIn K cd1 "_sign" = true) (k1 : PySem.W.keepIn K (.ref f1) = true)
    (a2 : PySem.W.nsIn K mainGlobals "_steps_from" = some (some (.ref f2)))
    (l2 : K.lookup f2 = some ⟨oc2, od2, .func (PySem.W.fnOf "_steps_from" "_steps_from" (defArgs sStepsf) (defBody sStepsf) (defScope sStepsf) .none kV2 dc2 pm2 an2 cd2 ct2), sl2⟩)
    (c2 : PySem.W.codeIn K cd2 "_steps_from" = true) (k2 : PySem.W.keepIn K (.ref f2) = true)
    (a3 : PySem.W.nsIn K mainGlobals "_way_back" = some (some (.ref f3)))
    (l3 : K.lookup f3 = some ⟨oc3, od3, .func (PySem.W.fnOf "_way_back" "_way_back" (defArgs sBack) (defBody sBack) (defScope sBack) .none kV3 dc3 pm3 an3 cd3 ct3), sl3⟩)
    (c3 : PySem.W.codeIn K cd3 "_way_back" = true) (k3 : PySem.W.keepIn K (.ref f3) = true)
    (a4 : PySem.W.nsIn K mainGlobals "_open_steps" = some (some (.ref f4)))
    (l4 : K.lookup f4 = some ⟨oc4, od4, .func (PySem.W.fnOf "_open_steps" "_open_steps" (defArgs sOpen) (defBody sOpen) (defScope sOpen) .none kV4 dc4 pm4 an4 cd4 ct4), sl4⟩)
    (c4 : PySem.W.codeIn K cd4 "_open_steps" = true) (k4 : PySem.W.keepIn K (.ref f4) = true)
    (a5 : PySem.W.nsIn K mainGlobals "_flow_between" = some (some (.ref f5)))
    (l5 : K.lookup f5 = some ⟨oc5, od5, .func (PySem.W.fnOf "_flow_between" "_flow_between" (defArgs sFlow) (defBody sFlow) (defScope sFlow) .none kV5 dc5 pm5 an5 cd5 ct5), sl5⟩)
    (c5 : PySem.W.codeIn K cd5 "_flow_between" = true) (k5 : PySem.W.keepIn K (.ref f5) = true)
    (a6 : PySem.W.nsIn K mainGlobals "cut_of" = some (some (.ref f6)))
    (l6 : K.lookup f6 = some ⟨oc6, od6, .func (PySem.W.fnOf "cut_of" "cut_of" (defArgs sCutof) (defBody sCutof) (defScope sCutof) .none kV6 dc6 pm6 an6 cd6 ct6), sl6⟩)
    (c6 : PySem.W.codeIn K cd6 "cut_of" = true) (k6 : PySem.W.keepIn K (.ref f6) = true)
    (a7 : PySem.W.nsIn K mainGlobals "narrow_cut" = some (some (.ref f7)))
    (l7 : K.lookup f7 = some ⟨oc7, od7, .func (PySem.W.fnOf "narrow_cut" "narrow_cut" (defArgs sNarrow) (defBody sNarrow) (defScope sNarrow) .none kV7 dc7 pm7 an7 cd7 ct7), sl7⟩)
    (c7 : PySem.W.codeIn K cd7 "narrow_cut" = true) (k7 : PySem.W.keepIn K (.ref f7) = true)
    (a8 : PySem.W.nsIn K mainGlobals "ways" = some (some (.ref f8)))
    (l8 : K.lookup f8 = some ⟨oc8, od8, .func (PySem.W.fnOf "ways" "ways" (defArgs sWays) (defBody sWays) (defScope sWays) .none kV8 dc8 pm8 an8 cd8 ct8), sl8⟩)
    (c8 : PySem.W.codeIn K cd8 "ways" = true) (k8 : PySem.W.keepIn K (.ref f8) = true)
    (a9 : PySem.W.nsIn K mainGlobals "all_ties" = some (some (.ref f9)))
    (l9 : K.lookup f9 = some ⟨oc9, od9, .func (PySem.W.fnOf "all_ties" "all_ties" (defArgs sAll) (defBody sAll) (defScope sAll) .none kV9 dc9 pm9 an9 cd9 ct9), sl9⟩)
    (c9 : PySem.W.codeIn K cd9 "all_ties" = true) (k9 : PySem.W.keepIn K (.ref f9) = true)
    (a10 : PySem.W.nsIn K mainGlobals "sum_of" = some (some (.ref f10)))
    (l10 : K.lookup f10 = some ⟨oc10, od10, .func (PySem.W.fnOf "sum_of" "sum_of" (defArgs sSum) (defBody sSum) (defScope sSum) .none kV10 dc10 pm10 an10 cd10 ct10), sl10⟩)
    (c10 : PySem.W.codeIn K cd10 "sum_of" = true) (k10 : PySem.W.keepIn K (.ref f10) = true)
    (a11 : PySem.W.nsIn K mainGlobals "odd_places" = some (some (.ref f11)))
    (l11 : K.lookup f11 = some ⟨oc11, od11, .func (PySem.W.fnOf "odd_places" "odd_places" (defArgs sOdd) (defBody sOdd) (defScope sOdd) .none kV11 dc11 pm11 an11 cd11 ct11), sl11⟩)
    (c11 : PySem.W.codeIn K cd11 "odd_places" = true) (k11 : PySem.W.keepIn K (.ref f11) = true)
    (a12 : PySem.W.nsIn K mainGlobals "is_even" = some (some (.ref f12)))
    (l12 : K.lookup f12 = some ⟨oc12, od12, .func (PySem.W.fnOf "is_even" "is_even" (defArgs sEven) (defBody sEven) (defScope sEven) .none kV12 dc12 pm12 an12 cd12 ct12), sl12⟩)
    (c12 : PySem.W.codeIn K cd12 "is_even" = true) (k12 : PySem.W.keepIn K (.ref f12) = true)
    (a13 : PySem.W.nsIn K mainGlobals "ways_from" = some (some (.ref f13)))
    (l13 : K.lookup f13 = some ⟨oc13, od13, .func (PySem.W.fnOf "ways_from" "ways_from" (defArgs sWfrom) (defBody sWfrom) (defScope sWfrom) .none kV13 dc13 pm13 an13 cd13 ct13), sl13⟩)
    (c13 : PySem.W.codeIn K cd13 "ways_from" = true) (k13 : PySem.W.keepIn K (.ref f13) = true)
    (a14 : PySem.W.nsIn K mainGlobals "_first_round" = some (some (.ref f14)))
    (l14 : K.lookup f14 = some ⟨oc14, od14, .func (PySem.W.fnOf "_first_round" "_first_round" (defArgs sFround) (defBody sFround) (defScope sFround) .none kV14 dc14 pm14 an14 cd14 ct14), sl14⟩)
    (c14 : PySem.W.codeIn K cd14 "_first_round" = true) (k14 : PySem.W.keepIn K (.ref f14) = true)
    (a15 : PySem.W.nsIn K mainGlobals "parted_even" = some (some (.ref f15)))
    (l15 : K.lookup f15 = some ⟨oc15, od15, .func (PySem.W.fnOf "parted_even" "parted_even" (defArgs sParted) (defBody sParted) (defScope sParted) .none kV15 dc15 pm15 an15 cd15 ct15), sl15⟩)
    (c15 : PySem.W.codeIn K cd15 "parted_even" = true) (k15 : PySem.W.keepIn K (.ref f15) = true)
    (a16 : PySem.W.nsIn K mainGlobals "doubled" = some (some (.ref f16)))
    (l16 : K.lookup f16 = some ⟨oc16, od16, .func (PySem.W.fnOf "doubled" "doubled" (defArgs sDoubled) (defBody sDoubled) (defScope sDoubled) .none kV16 dc16 pm16 an16 cd16 ct16), sl16⟩)
    (c16 : PySem.W.codeIn K cd16 "doubled" = true) (k16 : PySem.W.keepIn K (.ref f16) = true)
    (a17 : PySem.W.nsIn K mainGlobals "twice" = some (some (.ref f17)))
    (l17 : K.lookup f17 = some ⟨oc17, od17, .func (PySem.W.fnOf "twice" "twice" (defArgs sTwice) (defBody sTwice) (defScope sTwice) .none kV17 dc17 pm17 an17 cd17 ct17), sl17⟩)
    (c17 : PySem.W.codeIn K cd17 "twice" = true) (k17 : PySem.W.keepIn K (.ref f17) = true)
    (a18 : PySem.W.nsIn K mainGlobals "thin_cut" = some (some (.ref f18)))
    (l18 : K.lookup f18 = some ⟨oc18, od18, .func (PySem.W.fnOf "thin_cut" "thin_cut" (defArgs sThin) (defBody sThin) (defScope sThin) .none kV18 dc18 pm18 an18 cd18 ct18), sl18⟩)
    (c18 : PySem.W.codeIn K cd18 "thin_cut" = true) (k18 : PySem.W.keepIn K (.ref f18) = true)
    (a19 : PySem.W.nsIn K mainGlobals "fewest_cut" = some (some (.ref f19)))
    (l19 : K.lookup f19 = some ⟨oc19, od19, .func (PySem.W.fnOf "fewest_cut" "fewest_cut" (defArgs sFewest) (defBody sFewest) (defScope sFewest) .none kV19 dc19 pm19 an19 cd19 ct19), sl19⟩)
    (c19 : PySem.W.codeIn K cd19 "fewest_cut" = true) (k19 : PySem.W.keepIn K (.ref f19) = true)
    (a20 : PySem.W.nsIn K mainGlobals "_law_cup" = some (some (.ref f20)))
    (l20 : K.lookup f20 = some ⟨oc20, od20, .func (PySem.W.fnOf "_law_cup" "_law_cup" (defArgs sCup) (defBody sCup) (defScope sCup) .none kV20 dc20 pm20 an20 cd20 ct20), sl20⟩)
    (c20 : PySem.W.codeIn K cd20 "_law_cup" = true) (k20 : PySem.W.keepIn K (.ref f20) = true)
    (a21 : PySem.W.nsIn K mainGlobals "_law_draw" = some (some (.ref f21)))
    (l21 : K.lookup f21 = some ⟨oc21, od21, .func (PySem.W.fnOf "_law_draw" "_law_draw" (defArgs sDraw) (defBody sDraw) (defScope sDraw) .none kV21 dc21 pm21 an21 cd21 ct21), sl21⟩)
    (c21 : PySem.W.codeIn K cd21 "_law_draw" = true) (k21 : PySem.W.keepIn K (.ref f21) = true)
    (a22 : PySem.W.nsIn K mainGlobals "_law_named" = some (some (.ref f22)))
    (l22 : K.lookup f22 = some ⟨oc22, od22, .func (PySem.W.fnOf "_law_named" "_law_named" (defArgs sNamed) (defBody sNamed) (defScope sNamed) .none kV22 dc22 pm22 an22 cd22 ct22), sl22⟩)
    (c22 : PySem.W.codeIn K cd22 "_law_named" = true) (k22 : PySem.W.keepIn K (.ref f22) = true)
    (a23 : PySem.W.nsIn K mainGlobals "_law_thick_pairs" = some (some (.ref f23)))
    (l23 : K.lookup f23 = some ⟨oc23, od23, .func (PySem.W.fnOf "_law_thick_pairs" "_law_thick_pairs" (defArgs sTpairs) (defBody sTpairs) (defScope sTpairs) .none kV23 dc23 pm23 an23 cd23 ct23), sl23⟩)
    (c23 : PySem.W.codeIn K cd23 "_law_thick_pairs" = true) (k23 : PySem.W.keepIn K (.ref f23) = true)
    (a24 : PySem.W.nsIn K mainGlobals "_law_is_lot" = some (some (.ref f24)))
    (l24 : K.lookup f24 = some ⟨oc24, od24, .func (PySem.W.fnOf "_law_is_lot" "_law_is_lot" (defArgs sIslot) (defBody sIslot) (defScope sIslot) .none kV24 dc24 pm24 an24 cd24 ct24), sl24⟩)
    (c24 : PySem.W.codeIn K cd24 "_law_is_lot" = true) (k24 : PySem.W.keepIn K (.ref f24) = true)
    (a25 : PySem.W.nsIn K mainGlobals "_law_colours" = some (some (.ref f25)))
    (l25 : K.lookup f25 = some ⟨oc25, od25, .func (PySem.W.fnOf "_law_colours" "_law_colours" (defArgs sCol) (defBody sCol) (defScope sCol) .none kV25 dc25 pm25 an25 cd25 ct25), sl25⟩)
    (c25 : PySem.W.codeIn K cd25 "_law_colours" = true) (k25 : PySem.W.keepIn K (.ref f25) = true)
    (a26 : PySem.W.nsIn K mainGlobals "_law_is_way" = some (some (.ref f26)))
    (l26 : K.lookup f26 = some ⟨oc26, od26, .func (PySem.W.fnOf "_law_is_way" "_law_is_way" (defArgs sIsway) (defBody sIsway) (defScope sIsway) .none kV26 dc26 pm26 an26 cd26 ct26), sl26⟩)
    (c26 : PySem.W.codeIn K cd26 "_law_is_way" = true) (k26 : PySem.W.keepIn K (.ref f26) = true)
    (a27 : PySem.W.nsIn K mainGlobals "_law_are_ways" = some (some (.ref f27)))
    (l27 : K.lookup f27 = some ⟨oc27, od27, .func (PySem.W.fnOf "_law_are_ways" "_law_are_ways" (defArgs sAreways) (defBody sAreways) (defScope sAreways) .none kV27 dc27 pm27 an27 cd27 ct27), sl27⟩)
    (c27 : PySem.W.codeIn K cd27 "_law_are_ways" = true) (k27 : PySem.W.keepIn K (.ref f27) = true)
    (a28 : PySem.W.nsIn K mainGlobals "_law_is_round" = some (some (.ref f28)))
    (l28 : K.lookup f28 = some ⟨oc28, od28, .func (PySem.W.fnOf "_law_is_round" "_law_is_round" (defArgs sIsr) (defBody sIsr) (defScope sIsr) .none kV28 dc28 pm28 an28 cd28 ct28), sl28⟩)
    (c28 : PySem.W.codeIn K cd28 "_law_is_round" = true) (k28 : PySem.W.keepIn K (.ref f28) = true)
    (a29 : PySem.W.nsIn K mainGlobals "_law_is_deed" = some (some (.ref f29)))
    (l29 : K.lookup f29 = some ⟨oc29, od29, .func (PySem.W.fnOf "_law_is_deed" "_law_is_deed" (defArgs sIsdeed) (defBody sIsdeed) (defScope sIsdeed) .none kV29 dc29 pm29 an29 cd29 ct29), sl29⟩)
    (c29 : PySem.W.codeIn K cd29 "_law_is_deed" = true) (k29 : PySem.W.keepIn K (.ref f29) = true)
    (a30 : PySem.W.nsIn K mainGlobals "_law_behind" = some (some (.ref f30)))
    (l30 : K.lookup f30 = some ⟨oc30, od30, .func (PySem.W.fnOf "_law_behind" "_law_behind" (defArgs sBehind) (defBody sBehind) (defScope sBehind) .none kV30 dc30 pm30 an30 cd30 ct30), sl30⟩)
    (c30 : PySem.W.codeIn K cd30 "_law_behind" = true) (k30 : PySem.W.keepIn K (.ref f30) = true)
    (a31 : PySem.W.nsIn K mainGlobals "_law_row" = some (some (.ref f31)))
    (l31 : K.lookup f31 = some ⟨oc31, od31, .func (PySem.W.fnOf "_law_row" "_law_row" (defArgs sRow) (defBody sRow) (defScope sRow) .none kV31 dc31 pm31 an31 cd31 ct31), sl31⟩)
    (c31 : PySem.W.codeIn K cd31 "_law_row" = true) (k31 : PySem.W.keepIn K (.ref f31) = true)
    (a32 : PySem.W.nsIn K mainGlobals "_law_cut_told" = some (some (.ref f32)))
    (l32 : K.lookup f32 = some ⟨oc32, od32, .func (PySem.W.fnOf "_law_cut_told" "_law_cut_told" (defArgs sCuttold) (defBody sCuttold) (defScope sCuttold) .none kV32 dc32 pm32 an32 cd32 ct32), sl32⟩)
    (c32 : PySem.W.codeIn K cd32 "_law_cut_told" = true) (k32 : PySem.W.keepIn K (.ref f32) = true)
    (a33 : PySem.W.nsIn K mainGlobals "_law_twice_told" = some (some (.ref f33)))
    (l33 : K.lookup f33 = some ⟨oc33, od33, .func (PySem.W.fnOf "_law_twice_told" "_law_twice_told" (defArgs sTwtold) (defBody sTwtold) (defScope sTwtold) .none kV33 dc33 pm33 an33 cd33 ct33), sl33⟩)
    (c33 : PySem.W.codeIn K cd33 "_law_twice_told" = true) (k33 : PySem.W.keepIn K (.ref f33) = true)
    (a34 : PySem.W.nsIn K mainGlobals "_law_is_cut" = some (some (.ref f34)))
    (l34 : K.lookup f34 = some ⟨oc34, od34, .func (PySem.W.fnOf "_law_is_cut" "_law_is_cut" (defArgs sIscut) (defBody sIscut) (defScope sIscut) .none kV34 dc34 pm34 an34 cd34 ct34), sl34⟩)
    (c34 : PySem.W.codeIn K cd34 "_law_is_cut" = true) (k34 : PySem.W.keepIn K (.ref f34) = true)
    (a35 : PySem.W.nsIn K mainGlobals "_law_is_twice" = some (some (.ref f35)))
    (l35 : K.lookup f35 = some ⟨oc35, od35, .func (PySem.W.fnOf "_law_is_twice" "_law_is_twice" (defArgs sIstw) (defBody sIstw) (defScope sIstw) .none kV35 dc35 pm35 an35 cd35 ct35), sl35⟩)
    (c35 : PySem.W.codeIn K cd35 "_law_is_twice" = true) (k35 : PySem.W.keepIn K (.ref f35) = true)
    (a36 : PySem.W.nsIn K mainGlobals "law" = some (some (.ref f36)))
    (l36 : K.lookup f36 = some ⟨oc36, od36, .func (PySem.W.fnOf "law" "law" (defArgs sLaw) (defBody sLaw) (defScope sLaw) .none kV36 dc36 pm36 an36 cd36 ct36), sl36⟩)
    (c36 : PySem.W.codeIn K cd36 "law" = true) (k36 : PySem.W.keepIn K (.ref f36) = true)
    (z_int : PySem.W.nsIn K mainGlobals "int" = some none)
    (z_abs : PySem.W.nsIn K mainGlobals "abs" = some none)
    (z_len : PySem.W.nsIn K mainGlobals "len" = some none)
    (z_range : PySem.W.nsIn K mainGlobals "range" = some none)
    (z_enumerate : PySem.W.nsIn K mainGlobals "enumerate" = some none)
    (z_tuple : PySem.W.nsIn K mainGlobals "tuple" = some none)
    (z_min : PySem.W.nsIn K mainGlobals "min" = some none)
    (z_max : PySem.W.nsIn K mainGlobals "max" = some none)
    (z_sum : PySem.W.nsIn K mainGlobals "sum" = some none)
    (z_repr : PySem.W.nsIn K mainGlobals "repr" = some none)
    (z_list : PySem.W.nsIn K mainGlobals "list" = some none)
    (z_isinstance : PySem.W.nsIn K mainGlobals "isinstance" = some none)
    (z_bool : PySem.W.nsIn K mainGlobals "bool" = some none)
    (z_sorted : PySem.W.nsIn K mainGlobals "sorted" = some none)
    (z_set : PySem.W.nsIn K mainGlobals "set" = some none)
    (z_ValueError : PySem.W.nsIn K mainGlobals "ValueError" = some none)
    {tE : Tok} (me : PySem.W.nsIn K mainGlobals "_ENOUGH" = some (some (.int 3 tE)))
    {B0 : Addr} {Unfit0 Thin0 : Addr}
    (gB : PySem.W.nsIn K mainGlobals "BothError" = some (some (.ref B0)))
    (iB : PySem.W.isClsIn K B0 = true)
    (tB : PySem.W.typeIn K (.ref B0) = some (.type "type"))
    (hnU : PySem.W.specialIn K (.builtin "object.__class__") "__get__" = some (some (.builtin "getset_descriptor.__get__")))
    (htU : PySem.W.takesIn K (.builtin "object.__class__") = some true)
    (rB : PySem.W.readsIn K B0 (.type "type") = true)
    (aB : PySem.W.specialIn K (.ref B0) "__getattribute__" = some (some (.builtin "type.__getattribute__")))
    (vB : PySem.W.findCls K (.ref B0) (.type "type") "__init__" = some (.val (.builtin "ValueError.__init__")))
    (g_Unfit : PySem.W.nsIn K mainGlobals "Unfit" = some (some (.ref Unfit0)))
    (k_Unfit : PySem.W.keepIn K (.ref Unfit0) = true)
    (b_Unfit : PySem.W.subIn K (.ref Unfit0) (.type "BaseException") = some true)
    (t_Unfit : PySem.W.typeIn K (.ref Unfit0) = some (.type "type"))
    (i_Unfit : PySem.W.isClsIn K Unfit0 = true)
    (s_Unfit : PySem.W.subIn K (.ref Unfit0) (.ref Unfit0) = some true)
    (hg_Unfit : PySem.W.findIn K (.ref Unfit0) "__getattribute__" = some (some (.builtin "BaseException.__getattribute__")))
    (hk_Unfit : PySem.W.findIn K (.ref Unfit0) "__getattr__" = some none)
    (hd_Unfit : PySem.W.hasDictIn K Unfit0 = true)
    (ha_Unfit : PySem.W.findIn K (.ref Unfit0) "__class__" = some (some (.builtin "object.__class__")))
    (hm_Unfit : PySem.W.mroIn K Unfit0 (.type "object") = some true)
    (iv_Unfit : PySem.W.subIn K (.ref Unfit0) (.type "ValueError") = some true)
    (ib_Unfit : PySem.W.subIn K (.ref Unfit0) (.ref B0) = some true)
    (g_Thin : PySem.W.nsIn K mainGlobals "Thin" = some (some (.ref Thin0)))
    (k_Thin : PySem.W.keepIn K (.ref Thin0) = true)
    (b_Thin : PySem.W.subIn K (.ref Thin0) (.type "BaseException") = some true)
    (t_Thin : PySem.W.typeIn K (.ref Thin0) = some (.type "type"))
    (i_Thin : PySem.W.isClsIn K Thin0 = true)
    (s_Thin : PySem.W.subIn K (.ref Thin0) (.ref Thin0) = some true)
    (hg_Thin : PySem.W.findIn K (.ref Thin0) "__getattribute__" = some (some (.builtin "BaseException.__getattribute__")))
    (hk_Thin : PySem.W.findIn K (.ref Thin0) "__getattr__" = some none)
    (hd_Thin : PySem.W.hasDictIn K Thin0 = true)
    (ha_Thin : PySem.W.findIn K (.ref Thin0) "__class__" = some (some (.builtin "object.__class__")))
    (hm_Thin : PySem.W.mroIn K Thin0 (.type "object") = some true)
    (iv_Thin : PySem.W.subIn K (.ref Thin0) (.type "ValueError") = some true)
    (ib_Thin : PySem.W.subIn K (.ref Thin0) (.ref B0) = some true)
    (x_Unfit : PySem.W.excIn K Unfit0 [.type "ValueError", .type "Exception", .type "BaseException", .type "object"] "ValueError.__new__" = true)
    {nmThin qThin : Str} {NThin : Addr} {bsThin : List Value} {snThin : List Str} {subThin : List Value} {abThin : Bool} {colThin : Option Bool} {ddThin : Option Addr} {m0Thin m1Thin m2Thin m3Thin m5Thin : Option Value}
    (xL_Thin : K.lookup Thin0 = some (excClassObj nmThin qThin Thin0 NThin bsThin [.ref B0, .type "ValueError", .type "Exception", .type "BaseException", .type "object"] true snThin subThin abThin colThin ddThin m0Thin m1Thin m2Thin m3Thin m5Thin "ValueError.__new__"))
    (sa_Thin : PySem.W.findIn K (.ref Thin0) "__setattr__" = some (some (.builtin "object.__setattr__"))) (nf_Thin : PySem.W.findIn K (.ref Thin0) "lot" = some none)
    {fIThin : Addr} {odIThin anIThin : Option Addr} {slIThin : Array (Option Value)} {ocIThin kVIThin dcIThin pmIThin cdIThin ctIThin : Value} (in_Thin : PySem.W.findIn K (.ref Thin0) "__init__" = some (some (.ref fIThin))) (ti_Thin : PySem.W.typeIn K (.ref fIThin) = some (.type "function"))
    (lI_Thin : K.lookup fIThin = some ⟨ocIThin, odIThin, .func (PySem.W.fnOf "__init__" "Thin.__init__" (defArgs sThinI) (defBody sThinI) (defScope sThinI) .none kVIThin dcIThin pmIThin anIThin cdIThin ctIThin), slIThin⟩) (cI_Thin : PySem.W.codeIn K cdIThin "Thin.__init__" = true) (kI_Thin : PySem.W.keepIn K (.ref fIThin) = true) :
    ∃ fd : FuncData, (∀ (s : Shared) (v : Value), BindsTo s fd ⟨[v], []⟩ [("_law_script", v)]) ∧
      ∀ base : Heap, K.In base → base.Ns mainGlobals mg → FnG l.prog w K mg base CX0 10 fa fd ["_law_script"] (spLaw K) := by
  have e := hfa.symm.trans (PySem.W.mg_of X G a36)
  cases e
  have T : Bl mg := ⟨PySem.W.mg_none_of X G z_int, PySem.W.mg_none_of X G z_abs, PySem.W.mg_none_of X G z_len, PySem.W.mg_none_of X G z_range, PySem.W.mg_none_of X G z_enumerate, PySem.W.mg_none_of X G z_tuple, PySem.W.mg_none_of X G z_min, PySem.W.mg_none_of X G z_max, PySem.W.mg_none_of X G z_sum, PySem.W.mg_none_of X G z_repr⟩
  have Zlist : mg "list" = none := PySem.W.mg_none_of X G z_list
  have Zisinstance : mg "isinstance" = none := PySem.W.mg_none_of X G z_isinstance
  have Zbool : mg "bool" = none := PySem.W.mg_none_of X G z_bool
  have Zsorted : mg "sorted" = none := PySem.W.mg_none_of X G z_sorted
  have Zset : mg "set" = none := PySem.W.mg_none_of X G z_set
  have ZValueError : mg "ValueError" = none := PySem.W.mg_none_of X G z_ValueError
  have ME : mg "_ENOUGH" = some (.int 3 tE) := PySem.W.mg_of X G me
  have D0 : Df K mg "far_end" sFar ["web", "tie", "place"] f0 _ := df_mk X G a0 l0 c0 k0 fun _ _ _ _ _ _ us hl => match us, hl with | [_, _, _], _ => rfl
  have D1 : Df K mg "_sign" sSign ["web", "tie", "place"] f1 _ := df_mk X G a1 l1 c1 k1 fun _ _ _ _ _ _ us hl => match us, hl with | [_, _, _], _ => rfl
  have D2 : Df K mg "_steps_from" sStepsf ["web", "start", "allowed"] f2 _ := df_mk X G a2 l2 c2 k2 fun _ _ _ _ _ _ us hl => match us, hl with | [_, _, _], _ => rfl
  have D3 : Df K mg "_way_back" sBack ["found", "goal"] f3 _ := df_mk X G a3 l3 c3 k3 fun _ _ _ _ _ _ us hl => match us, hl with | [_, _], _ => rfl
  have D4 : Df K mg "_open_steps" sOpen ["web", "flow", "start"] f4 _ := df_mk X G a4 l4 c4 k4 fun _ _ _ _ _ _ us hl => match us, hl with | [_, _, _], _ => rfl
  have D5 : Df K mg "_flow_between" sFlow ["web", "one", "other"] f5 _ := df_mk X G a5 l5 c5 k5 fun _ _ _ _ _ _ us hl => match us, hl with | [_, _, _], _ => rfl
  have D6 : Df K mg "cut_of" sCutof ["web", "places"] f6 _ := df_mk X G a6 l6 c6 k6 fun _ _ _ _ _ _ us hl => match us, hl with | [_, _], _ => rfl
  have D7 : Df K mg "narrow_cut" sNarrow ["web", "one", "other"] f7 _ := df_mk X G a7 l7 c7 k7 fun _ _ _ _ _ _ us hl => match us, hl with | [_, _, _], _ => rfl
  have D8 : Df K mg "ways" sWays ["web", "one", "other"] f8 _ := df_mk X G a8 l8 c8 k8 fun _ _ _ _ _ _ us hl => match us, hl with | [_, _, _], _ => rfl
  have D9 : Df K mg "all_ties" sAll ["web"] f9 _ := df_mk X G a9 l9 c9 k9 fun _ _ _ _ _ _ us hl => match us, hl with | [_], _ => rfl
  have D10 : Df K mg "sum_of" sSum ["lots"] f10 _ := df_mk X G a10 l10 c10 k10 fun _ _ _ _ _ _ us hl => match us, hl with | [_], _ => rfl
  have D11 : Df K mg "odd_places" sOdd ["web", "lot"] f11 _ := df_mk X G a11 l11 c11 k11 fun _ _ _ _ _ _ us hl => match us, hl with | [_, _], _ => rfl
  have D12 : Df K mg "is_even" sEven ["web", "lot"] f12 _ := df_mk X G a12 l12 c12 k12 fun _ _ _ _ _ _ us hl => match us, hl with | [_, _], _ => rfl
  have D13 : Df K mg "ways_from" sWfrom ["web", "ties", "start"] f13 _ := df_mk X G a13 l13 c13 k13 fun _ _ _ _ _ _ us hl => match us, hl with | [_, _, _], _ => rfl
  have D14 : Df K mg "_first_round" sFround ["web", "lot"] f14 _ := df_mk X G a14 l14 c14 k14 fun _ _ _ _ _ _ us hl => match us, hl with | [_, _], _ => rfl
  have D15 : Df K mg "parted_even" sParted ["web", "lot"] f15 _ := df_mk X G a15 l15 c15 k15 fun _ _ _ _ _ _ us hl => match us, hl with | [_, _], _ => rfl
  have D16 : Df K mg "doubled" sDoubled ["web", "lot"] f16 _ := df_mk X G a16 l16 c16 k16 fun _ _ _ _ _ _ us hl => match us, hl with | [_, _], _ => rfl
  have D17 : Df K mg "twice" sTwice ["web", "tie"] f17 _ := df_mk X G a17 l17 c17 k17 fun _ _ _ _ _ _ us hl => match us, hl with | [_, _], _ => rfl
  have D18 : Df K mg "thin_cut" sThin ["web"] f18 _ := df_mk X G a18 l18 c18 k18 fun _ _ _ _ _ _ us hl => match us, hl with | [_], _ => rfl
  have D19 : Df K mg "fewest_cut" sFewest ["web", "one", "other"] f19 _ := df_mk X G a19 l19 c19 k19 fun _ _ _ _ _ _ us hl => match us, hl with | [_, _, _], _ => rfl
  have D20 : Df K mg "_law_cup" sCup ["_law_script"] f20 _ := df_mk X G a20 l20 c20 k20 fun _ _ _ _ _ _ us hl => match us, hl with | [_], _ => rfl
  have D21 : Df K mg "_law_draw" sDraw ["_law_cup_here", "_law_many"] f21 _ := df_mk X G a21 l21 c21 k21 fun _ _ _ _ _ _ us hl => match us, hl with | [_, _], _ => rfl
  have D22 : Df K mg "_law_named" sNamed ["_law_cup_here", "_law_many", "_law_pairs"] f22 _ := df_mk X G a22 l22 c22 k22 fun _ _ _ _ _ _ us hl => match us, hl with | [_, _, _], _ => rfl
  have D23 : Df K mg "_law_thick_pairs" sTpairs ["_law_cup_here", "_law_most", "_law_room"] f23 _ := df_mk X G a23 l23 c23 k23 fun _ _ _ _ _ _ us hl => match us, hl with | [_, _, _], _ => rfl
  have D24 : Df K mg "_law_is_lot" sIslot ["_law_web", "_law_lot"] f24 _ := df_mk X G a24 l24 c24 k24 fun _ _ _ _ _ _ us hl => match us, hl with | [_, _], _ => rfl
  have D25 : Df K mg "_law_colours" sCol ["_law_web", "_law_lot"] f25 _ := df_mk X G a25 l25 c25 k25 fun _ _ _ _ _ _ us hl => match us, hl with | [_, _], _ => rfl
  have D26 : Df K mg "_law_is_way" sIsway ["_law_web", "_law_one", "_law_other", "_law_way"] f26 _ := df_mk X G a26 l26 c26 k26 fun _ _ _ _ _ _ us hl => match us, hl with | [_, _, _, _], _ => rfl
  have D27 : Df K mg "_law_are_ways" sAreways ["_law_web", "_law_one", "_law_other", "_law_told", "_law_due"] f27 _ := df_mk X G a27 l27 c27 k27 fun _ _ _ _ _ _ us hl => match us, hl with | [_, _, _, _, _], _ => rfl
  have D28 : Df K mg "_law_is_round" sIsr ["_law_web", "_law_lot"] f28 _ := df_mk X G a28 l28 c28 k28 fun _ _ _ _ _ _ us hl => match us, hl with | [_, _], _ => rfl
  have D29 : Df K mg "_law_is_deed" sIsdeed ["_law_web", "_law_deed"] f29 _ := df_mk X G a29 l29 c29 k29 fun _ _ _ _ _ _ us hl => match us, hl with | [_, _], _ => rfl
  have D30 : Df K mg "_law_behind" sBehind ["_law_web", "_law_standing", "_law_deeds", "_law_is_above"] f30 _ := df_mk X G a30 l30 c30 k30 fun _ _ _ _ _ _ us hl => match us, hl with | [_, _, _, _], _ => rfl
  have D31 : Df K mg "_law_row" sRow ["_law_cup_here"] f31 _ := df_mk X G a31 l31 c31 k31 fun _ _ _ _ _ _ us hl => match us, hl with | [_], _ => rfl
  have D32 : Df K mg "_law_cut_told" sCuttold ["_law_web", "_law_one", "_law_other"] f32 _ := df_mk X G a32 l32 c32 k32 fun _ _ _ _ _ _ us hl => match us, hl with | [_, _, _], _ => rfl
  have D33 : Df K mg "_law_twice_told" sTwtold ["_law_web", "_law_tie"] f33 _ := df_mk X G a33 l33 c33 k33 fun _ _ _ _ _ _ us hl => match us, hl with | [_, _], _ => rfl
  have D34 : Df K mg "_law_is_cut" sIscut ["_law_web", "_law_lot", "_law_one", "_law_other", "_law_many"] f34 _ := df_mk X G a34 l34 c34 k34 fun _ _ _ _ _ _ us hl => match us, hl with | [_, _, _, _, _], _ => rfl
  have D35 : Df K mg "_law_is_twice" sIstw ["_law_web", "_law_homes", "_law_joints", "_law_tie"] f35 _ := df_mk X G a35 l35 c35 k35 fun _ _ _ _ _ _ us hl => match us, hl with | [_, _, _, _], _ => rfl
  have D36 : Df K mg "law" sLaw ["_law_script"] fa _ := df_mk X G a36 l36 c36 k36 fun _ _ _ _ _ _ us hl => match us, hl with | [_], _ => rfl
  have EU : ErrU K mg Unfit0 B0 := { gU := PySem.W.mg_of X G g_Unfit, gB := PySem.W.mg_of X G gB, gv := ZValueError, xU := x_Unfit, kU := k_Unfit, bU := b_Unfit, tU := t_Unfit, te := exm_self b_Unfit i_Unfit t_Unfit s_Unfit, ex := ⟨hg_Unfit, hk_Unfit, b_Unfit, hd_Unfit, ha_Unfit, hnU, htU, hm_Unfit⟩, iv := kit_ve iv_Unfit, ib := kit_own iB tB ib_Unfit }
  have EF_Thin : ErrF K mg "Thin" "lot" Thin0 fIThin B0 := { gC := PySem.W.mg_of X G g_Thin, gB := PySem.W.mg_of X G gB, T := ⟨⟨nmThin, qThin, NThin, bsThin, _, snThin, subThin, abThin, colThin, ddThin, m0Thin, m1Thin, m2Thin, m3Thin, m5Thin, xL_Thin, rfl⟩, sa_Thin, b_Thin, t_Thin, k_Thin⟩, iC := in_Thin, tI := ti_Thin, nf := nf_Thin, te := exm_self b_Thin i_Thin t_Thin s_Thin, xf := ⟨hg_Thin, hk_Thin, b_Thin, hd_Thin⟩, cl := ⟨.type "type", ⟨rB, aB⟩, vB⟩, ec := ⟨hg_Thin, hk_Thin, b_Thin, hd_Thin, ha_Thin, hnU, htU, hm_Thin⟩, ib := kit_own iB tB ib_Thin }
  have F_IThin : Fun K "__init__" "Thin.__init__" sThinI fIThin _ := fun_mk (st := sThinI) lI_Thin cI_Thin kI_Thin
  have bI_Thin : Binds K _ ["self", "lot"] [] := F_IThin.binds fun _ _ _ _ _ _ us hl => match us, hl with | [_, _], _ => rfl
  exact ⟨_, fun s v => .of_eq rfl, fun base _ _ => ok_law D36 T Zisinstance Zbool Zsorted Zset Zlist ME EU EF_Thin D0 D1 D2 D3 D4 D5 D6 D7 D8 D9 D10 D11 D12 D13 D14 D15 D16 F_IThin bI_Thin D17 D18 D19 D20 D21 D22 D23 D24 D25 D26 D27 D28 D29 D30 D31 D32 D33 D34 D35⟩
end BV

open PySem PySem.W PyProof.Rows in
set_option maxRecDepth 100000 in
set_option maxHeartbeats 0 in
theorem PySem.Challenge.cw_botheven_k19_whole_great_webs_of_thick_p_holds : PySem.Challenge.rw_botheven_k19_whole_great_webs_of_thick_p.Holds := by
  w_on; o_law; k_head; (case hw => w_witness2)
  k_fill
  refine BV.walk_ofG (n := 63) (k := 10) (x := "_law_script") (CX := L2.CX0) (sp := BV.spLaw) (l := PySem.Challenge.rw_botheven_k19_whole_great_webs_of_thick_p) rfl (by decide) rfl ⟨rfl, by decide, by decide⟩ (fun w h Y => PySem.W.kIn_of Y) ?F (fun _ _ a ns hl _ _ hS => ⟨a, ns, rfl, hS, hl, fun _ => rfl⟩) fun _ _ _ _ z => z
  case F =>
    intro w mg fa h KX G hmg
    refine' BV.all_mk KX G hmg ?a0 ?l0 ?c0 ?k0 ?a1 ?l1 ?c1 ?k1 ?a2 ?l2 ?c2 ?k2 ?a3 ?l3 ?c3 ?k3 ?a4 ?l4 ?c4 ?k4 ?a5 ?l5 ?c5 ?k5 ?a6 ?l6 ?c6 ?k6 ?a7 ?l7 ?c7 ?k7 ?a8 ?l8 ?c8 ?k8 ?a9 ?l9 ?c9 ?k9 ?a10 ?l10 ?c10 ?k10 ?a11 ?l11 ?c11 ?k11 ?a12 ?l12 ?c12 ?k12 ?a13 ?l13 ?c13 ?k13 ?a14 ?l14 ?c14 ?k14 ?a15 ?l15 ?c15 ?k15 ?a16 ?l16 ?c16 ?k16 ?a17 ?l17 ?c17 ?k17 ?a18 ?l18 ?c18 ?k18 ?a19 ?l19 ?c19 ?k19 ?a20 ?l20 ?c20 ?k20 ?a21 ?l21 ?c21 ?k21 ?a22 ?l22 ?c22 ?k22 ?a23 ?l23 ?c23 ?k23 ?a24 ?l24 ?c24 ?k24 ?a25 ?l25 ?c25 ?k25 ?a26 ?l26 ?c26 ?k26 ?a27 ?l27 ?c27 ?k27 ?a28 ?l28 ?c28 ?k28 ?a29 ?l29 ?c29 ?k29 ?a30 ?l30 ?c30 ?k30 ?a31 ?l31 ?c31 ?k31 ?a32 ?l32 ?c32 ?k32 ?a33 ?l33 ?c33 ?k33 ?a34 ?l34 ?c34 ?k34 ?a35 ?l35 ?c35 ?k35 ?a36 ?l36 ?c36 ?k36 ?z_int ?z_abs ?z_len ?z_range ?z_enumerate ?z_tuple ?z_min ?z_max ?z_sum ?z_repr ?z_list ?z_isinstance ?z_bool ?z_sorted ?z_set ?z_ValueError ?me ?gB ?iB ?tB ?hnU ?htU ?rB ?aB ?vB ?g_Unfit ?k_Unfit ?b_Unfit ?t_Unfit ?i_Unfit ?s_Unfit ?hg_Unfit ?hk_Unfit ?hd_Unfit ?ha_Unfit ?hm_Unfit ?iv_Unfit ?ib_Unfit ?g_Thin ?k_Thin ?b_Thin ?t_Thin ?i_Thin ?s_Thin ?hg_Thin ?hk_Thin ?hd_Thin ?ha_Thin ?hm_Thin ?iv_Thin ?ib_Thin ?x_Unfit ?xL_Thin ?sa_Thin ?nf_Thin ?in_Thin ?ti_Thin ?lI_Thin ?cI_Thin ?kI_Thin
    (case a0 => k_is)
    (case l0 => k_is)
    (case c0 => k_is)
    (case k0 => k_is)
    (case a1 => k_is)
    (case l1 => k_is)
    (case c1 => k_is)
    (case k1 => k_is)
    (case a2 => k_is)
    (case l2 => k_is)
    (case c2 => k_is)
    (case k2 => k_is)
    (case a3 => k_is)
    (case l3 => k_is)
    (case c3 => k_is)
    (case k3 => k_is)
    (case a4 => k_is)
    (case l4 => k_is)
    (case c4 => k_is)
    (case k4 => k_is)
    (case a5 => k_is)
    (case l5 => k_is)
    (case c5 => k_is)
    (case k5 => k_is)
    (case a6 => k_is)
    (case l6 => k_is)
    (case c6 => k_is)
    (case k6 => k_is)
    (case a7 => k_is)
    (case l7 => k_is)
    (case c7 => k_is)
    (case k7 => k_is)
    (case a8 => k_is)
    (case l8 => k_is)
    (case c8 => k_is)
    (case k8 => k_is)
    (case a9 => k_is)
    (case l9 => k_is)
    (case c9 => k_is)
    (case k9 => k_is)
    (case a10 => k_is)
    (case l10 => k_is)
    (case c10 => k_is)
    (case k10 => k_is)
    (case a11 => k_is)
    (case l11 => k_is)
    (case c11 => k_is)
    (case k11 => k_is)
    (case a12 => k_is)
    (case l12 => k_is)
    (case c12 => k_is)
    (case k12 => k_is)
    (case a13 => k_is)
    (case l13 => k_is)
    (case c13 => k_is)
    (case k13 => k_is)
    (case a14 => k_is)
    (case l14 => k_is)
    (case c14 => k_is)
    (case k14 => k_is)
    (case a15 => k_is)
    (case l15 => k_is)
    (case c15 => k_is)
    (case k15 => k_is)
    (case a16 => k_is)
    (case l16 => k_is)
    (case c16 => k_is)
    (case k16 => k_is)
    (case a17 => k_is)
    (case l17 => k_is)
    (case c17 => k_is)
    (case k17 => k_is)
    (case a18 => k_is)
    (case l18 => k_is)
    (case c18 => k_is)
    (case k18 => k_is)
    (case a19 => k_is)
    (case l19 => k_is)
    (case c19 => k_is)
    (case k19 => k_is)
    (case a20 => k_is)
    (case l20 => k_is)
    (case c20 => k_is)
    (case k20 => k_is)
    (case a21 => k_is)
    (case l21 => k_is)
    (case c21 => k_is)
    (case k21 => k_is)
    (case a22 => k_is)
    (case l22 => k_is)
    (case c22 => k_is)
    (case k22 => k_is)
    (case a23 => k_is)
    (case l23 => k_is)
    (case c23 => k_is)
    (case k23 => k_is)
    (case a24 => k_is)
    (case l24 => k_is)
    (case c24 => k_is)
    (case k24 => k_is)
    (case a25 => k_is)
    (case l25 => k_is)
    (case c25 => k_is)
    (case k25 => k_is)
    (case a26 => k_is)
    (case l26 => k_is)
    (case c26 => k_is)
    (case k26 => k_is)
    (case a27 => k_is)
    (case l27 => k_is)
    (case c27 => k_is)
    (case k27 => k_is)
    (case a28 => k_is)
    (case l28 => k_is)
    (case c28 => k_is)
    (case k28 => k_is)
    (case a29 => k_is)
    (case l29 => k_is)
    (case c29 => k_is)
    (case k29 => k_is)
    (case a30 => k_is)
    (case l30 => k_is)
    (case c30 => k_is)
    (case k30 => k_is)
    (case a31 => k_is)
    (case l31 => k_is)
    (case c31 => k_is)
    (case k31 => k_is)
    (case a32 => k_is)
    (case l32 => k_is)
    (case c32 => k_is)
    (case k32 => k_is)
    (case a33 => k_is)
    (case l33 => k_is)
    (case c33 => k_is)
    (case k33 => k_is)
    (case a34 => k_is)
    (case l34 => k_is)
    (case c34 => k_is)
    (case k34 => k_is)
    (case a35 => k_is)
    (case l35 => k_is)
    (case c35 => k_is)
    (case k35 => k_is)
    (case a36 => k_is)
    (case l36 => k_is)
    (case c36 => k_is)
    (case k36 => k_is)
    (case z_int => k_is)
    (case z_abs => k_is)
    (case z_len => k_is)
    (case z_range => k_is)
    (case z_enumerate => k_is)
    (case z_tuple => k_is)
    (case z_min => k_is)
    (case z_max => k_is)
    (case z_sum => k_is)
    (case z_repr => k_is)
    (case z_list => k_is)
    (case z_isinstance => k_is)
    (case z_bool => k_is)
    (case z_sorted => k_is)
    (case z_set => k_is)
    (case z_ValueError => k_is)
    (case me => k_is)
    (case gB => k_is)
    (case iB => k_is)
    (case tB => k_is)
    (case hnU => k_is)
    (case htU => k_is)
    (case rB => k_is)
    (case aB => k_is)
    (case vB => k_is)
    (case g_Unfit => k_is)
    (case k_Unfit => k_is)
    (case b_Unfit => k_is)
    (case t_Unfit => k_is)
    (case i_Unfit => k_is)
    (case s_Unfit => first | rfl | k_is)
    (case hg_Unfit => k_is)
    (case hk_Unfit => k_is)
    (case hd_Unfit => k_is)
    (case ha_Unfit => k_is)
    (case hm_Unfit => k_is)
    (case iv_Unfit => k_is)
    (case ib_Unfit => k_is)
    (case g_Thin => k_is)
    (case k_Thin => k_is)
    (case b_Thin => k_is)
    (case t_Thin => k_is)
    (case i_Thin => k_is)
    (case s_Thin => first | rfl | k_is)
    (case hg_Thin => k_is)
    (case hk_Thin => k_is)
    (case hd_Thin => k_is)
    (case ha_Thin => k_is)
    (case hm_Thin => k_is)
    (case iv_Thin => k_is)
    (case ib_Thin => k_is)
    (case x_Unfit => k_exc)
    (case xL_Thin => k_is)
    (case sa_Thin => k_is)
    (case nf_Thin => k_is)
    (case in_Thin => k_is)
    (case ti_Thin => k_is)
    (case lI_Thin => k_is)
    (case cI_Thin => k_is)
    (case kI_Thin => k_is)

